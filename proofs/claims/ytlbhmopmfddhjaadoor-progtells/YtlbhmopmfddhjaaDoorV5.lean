/-
  What holds of the memory while law ProgSwap runs.
-/
import Derived.Test.YtlbhmopmfddhjaaDoorZ7
import Derived.Test.YtlbhmopmfddhjaaDoorL0
namespace Go.Proofs.YtlbhmopmfddhjaaDoor
open Go.RowKit

def St2 (w W : World) (a : Option Addr) (len cap : Nat) (g : Int) (b : Option Addr) (l cc : Nat) : Prop :=
  Below w.heap.size w W ∧ RowsIn w ∧ Box W w.heap.size 24 #[.slice a len cap] ∧ Box W (w.heap.size + 1) 28 #[.int .i64 g, .slice b l cc]
section
variable {w W W' : World} {a b : Option Addr} {len cap l cc : Nat} {g : Int}
theorem St2.start (hR : RowsIn w) : St2 w ((w.alloc (.cells #[.slice a len cap] 24)).alloc (.cells #[.int .i64 g, .slice b l cc] 28)) a len cap g b l cc := by
  have h1 := Box.new (w.alloc (.cells #[.slice a len cap] 24)) 28 #[.int .i64 g, .slice b l cc]
  rw [show (w.alloc (.cells #[.slice a len cap] 24)).heap.size = w.heap.size + 1 by simp] at h1
  exact ⟨((Below.refl _ _).alloc (Nat.le_refl _) _).alloc (by simp) _, hR, (Box.new w 24 _).alloc _, h1⟩
theorem St2.later (h : St2 w W a len cap g b l cc) (hb : Below W.heap.size W W') : St2 w W' a len cap g b l cc :=
  ⟨h.1.trans (hb.mono h.1.size), h.2.1, h.2.2.1.below hb h.2.2.1.lt, h.2.2.2.below hb h.2.2.2.lt⟩
theorem St2.rows (h : St2 w W a len cap g b l cc) : RowsIn W := h.2.1.later h.1
theorem St2.c0 (h : St2 w W a len cap g b l cc) : W.cell? ⟨w.heap.size, 0, none⟩ = some (.slice a len cap) := h.2.2.1.cell rfl
theorem St2.c1 (h : St2 w W a len cap g b l cc) : W.cell? ⟨w.heap.size + 1, 0, none⟩ = some (.int .i64 g) := h.2.2.2.cell rfl
theorem St2.c2 (h : St2 w W a len cap g b l cc) : W.cell? ⟨w.heap.size + 1, 1, none⟩ = some (.slice b l cc) := h.2.2.2.cell rfl
end
theorem swap_no (a : Option Addr) (len cap : Nat) (fs : List Fun) (i g : Int) (b : Option Addr) (l cc : Nat) (c : List I) (w : World) (hR : RowsIn w) (h : FnsAt w a len cap fs) (hC : CodeAt w b l cc c) (E : Int) (hE : swapE fs i g c = E) (h0 : E ≠ 0) :
    Calls Tryd.prog 18 #[.agg #[.slice a len cap], .int .i64 i, .agg #[.int .i64 g, .slice b l cc]] w fun e w' => e = .returned (.tuple #[.agg #[.slice none 0 0], .int .i64 E]) ∧ Below w.heap.size w w' :=
  (prSwap_any a len cap fs i g b l cc c w hR h hC).mono fun e w' hP => by
    subst hE
    rcases hP with ⟨hb, ⟨_, he⟩ | ⟨h1, _⟩⟩
    · exact ⟨he, hb⟩
    · exact absurd h1 h0
theorem swap_yes (a : Option Addr) (len cap : Nat) (fs : List Fun) (k : Nat) (g : Int) (b : Option Addr) (l cc : Nat) (c d : List I) (w : World) (hR : RowsIn w) (h : FnsAt w a len cap fs) (hC : CodeAt w b l cc c) (hM : mayP fs = true) (hB : codeB c = true) (hk : k < len) (hg : fs.getD k zeroF = (g, d)) :
    Calls Tryd.prog 18 #[.agg #[.slice a len cap], .int .i64 k, .agg #[.int .i64 g, .slice b l cc]] w fun e w' => ∃ b' cp, e = .returned (.tuple #[.agg #[.slice b' len cp], .int .i64 0]) ∧ Below w.heap.size w w' ∧ FnsAt w' b' len cp (fs.set k (g, c)) :=
  (prSwap_any a len cap fs k g b l cc c w hR h hC).mono fun e w' hP => by
    have hk' : k < fs.length := by rw [h.1]; exact hk
    rcases hP with ⟨hb, ⟨h1, _⟩ | ⟨_, b', cp, he, hF⟩⟩
    · exact absurd (swapE_ok hM hB hk' hg) h1
    · rw [h.1] at he hF
      rw [Int.toNat_natCast] at hF
      exact ⟨b', cp, he, hb, hF⟩
/- what holds in the statement that swaps back -/
def S10 (Wq W : World) (qb : Nat) (bq : Option Addr) (len cq P : Nat) (y : Addr) (cap k : Nat) (args : Int) (bk : Option Addr) (lk ck : Nat) : Prop :=
  W.cell? ⟨qb, 0, none⟩ = some (.slice bq len cq) ∧ W.cell? ⟨P, 0, none⟩ = some (.slice (some y) len cap) ∧ W.cell? (y.add (k * 2)) = some (.int .i64 args) ∧ W.cell? ⟨(y.add (k * 2)).block, (y.add (k * 2)).off + 1, none⟩ = some (.slice bk lk ck) ∧ Below Wq.heap.size Wq W
section
variable {Wq W W' : World} {qb : Nat} {bq : Option Addr} {len cq P : Nat} {y : Addr} {cap k : Nat} {args : Int} {bk : Option Addr} {lk ck : Nat}
theorem S10.later (h : S10 Wq W qb bq len cq P y cap k args bk lk ck) (hb : Below W.heap.size W W') : S10 Wq W' qb bq len cq P y cap k args bk lk ck := by
  obtain ⟨h1, h2, h3, h4, h5⟩ := h
  exact ⟨(hb.cell (lt_of_cell h1)).trans h1, (hb.cell (lt_of_cell h2)).trans h2, (hb.cell (lt_of_cell h3)).trans h3, (hb.cell (lt_of_cell h4)).trans h4, h5.trans (hb.mono h5.size)⟩
theorem S10.alloc (h : S10 Wq W qb bq len cq P y cap k args bk lk ck) (o : Obj) : S10 Wq (W.alloc o) qb bq len cq P y cap k args bk lk ck := h.later ((Below.refl _ _).alloc (Nat.le_refl _) o)
theorem S10.set (h : S10 Wq W qb bq len cq P y cap k args bk lk ck) {N : Nat} (u : Value) (hq : qb < N) (hP : P < N) (hy : (y.add (k * 2)).block < N) (hN : Wq.heap.size ≤ N) : S10 Wq (W.setCell ⟨N, 0, none⟩ u) qb bq len cq P y cap k args bk lk ck := by
  obtain ⟨h1, h2, h3, h4, h5⟩ := h
  refine ⟨(World.cell?_setCell_other _ _ _ _ (fun e => ?_)).trans h1, (World.cell?_setCell_other _ _ _ _ (fun e => ?_)).trans h2, (World.cell?_setCell_other _ _ _ _ (fun e => ?_)).trans h3, (World.cell?_setCell_other _ _ _ _ (fun e => ?_)).trans h4, h5.setCell hN _⟩
  · have := congrArg Addr.block e
    simp at this
    omega
  · have := congrArg Addr.block e
    simp at this
    omega
  · have := congrArg Addr.block e
    simp at this
    omega
  · have := congrArg Addr.block e
    simp at this
    omega
end
/- three cells of which a statement reads, two cells -/
def S3 (Wq W : World) (A B C : Addr) (u v x : Value) : Prop := W.cell? A = some u ∧ W.cell? B = some v ∧ W.cell? C = some x ∧ Below Wq.heap.size Wq W
def S2 (Wq W : World) (A B : Addr) (u v : Value) : Prop := W.cell? A = some u ∧ W.cell? B = some v ∧ Below Wq.heap.size Wq W
theorem S3.later {Wq W W' : World} {A B C : Addr} {u v x : Value} (h : S3 Wq W A B C u v x) (hb : Below W.heap.size W W') : S3 Wq W' A B C u v x :=
  ⟨(hb.cell (lt_of_cell h.1)).trans h.1, (hb.cell (lt_of_cell h.2.1)).trans h.2.1, (hb.cell (lt_of_cell h.2.2.1)).trans h.2.2.1, h.2.2.2.trans (hb.mono h.2.2.2.size)⟩
theorem S2.later {Wq W W' : World} {A B : Addr} {u v : Value} (h : S2 Wq W A B u v) (hb : Below W.heap.size W W') : S2 Wq W' A B u v :=
  ⟨(hb.cell (lt_of_cell h.1)).trans h.1, (hb.cell (lt_of_cell h.2.1)).trans h.2.1, h.2.2.trans (hb.mono h.2.2.size)⟩
/- one function in a slice of its own -/
theorem one_at {W : World} {g : Int} {b : Option Addr} {l cc : Nat} {c : List I} (h : CodeAt W b l cc c) : FnsAt (W.alloc (.cells #[.int .i64 g, .slice b l cc] 28)) (some ⟨W.heap.size, 0, none⟩) 1 1 [(g, c)] := by
  refine ⟨rfl, Nat.le_refl _, by decide, .inr ⟨_, rfl, fun k hk => ?_⟩⟩
  obtain rfl : k = 0 := by omega
  rw [Nat.zero_mul, Addr.add_zero']
  have hB := Box.new W 28 #[.int .i64 g, .slice b l cc]
  exact ⟨hB.cell rfl, b, l, cc, hB.cell rfl, h.below ((Below.refl _ _).alloc (Nat.le_refl _) _)⟩
theorem take_one {fs : List Fun} {k : Nat} {f : Fun} (hk : k < fs.length) (h : fs.getD k zeroF = f) : (fs.drop k).take 1 = [f] := by
  have h1 : fs[k] = f := by
    rw [← h, List.getD_eq_getElem?_getD, List.getElem?_eq_getElem hk]
    rfl
  rw [List.drop_eq_getElem_cons hk, h1]
  rfl
theorem take_set (fs : List Fun) (k : Nat) (f : Fun) : (fs.set k f).take k = fs.take k := by
  rw [List.take_set_of_le (Nat.le_refl k)]
theorem drop_set (fs : List Fun) (k : Nat) (f : Fun) : (fs.set k f).drop (k + 1) = fs.drop (k + 1) := by
  rw [List.drop_set_of_lt (Nat.lt_succ_self k)]

/- a variable that holds a slice is no part of a program in memory -/
theorem int_ne_box {W : World} {N : Nat} {t : TypeId} {x : Option Addr} {m n : Nat} {a : Addr} {k : IntKind} {z : Int} (hB : Box W N t #[.slice x m n]) (h : W.cell? a = some (.int k z)) : a.block ≠ N := by
  intro e
  have hB' : W.heap[a.block]? = some (.cells #[.slice x m n] t (0, 0)) := by rw [e]; exact hB
  obtain ⟨b, off, spot⟩ := a
  simp only at hB'
  cases spot with
  | some s => simp [World.cell?, hB'] at h
  | none =>
    simp only [World.cell?, hB'] at h
    match off, h with
    | 0, h => simp at h
    | off + 1, h => simp at h
theorem CodeAt.set_box {W : World} {N : Nat} {t : TypeId} {x : Option Addr} {m n : Nat} {u : Value} {b : Option Addr} {l cap : Nat} {c : List I} (h : CodeAt W b l cap c) (hB : Box W N t #[.slice x m n]) : CodeAt (W.setCell ⟨N, 0, none⟩ u) b l cap c := by
  obtain ⟨h1, h2, h3, h4, h5⟩ := h
  refine ⟨h1, h2, h3, h4, ?_⟩
  rcases h5 with h5 | ⟨y, rfl, h6⟩
  · exact .inl h5
  · exact .inr ⟨y, rfl, fun k hk => (h6 k hk).grown (grownBy_setCell W ⟨N, 0, none⟩ u) (fun e => int_ne_box hB (h6 k hk).1 (Option.some.inj e))⟩
theorem FnsAt.set_box {W : World} {N : Nat} {t : TypeId} {x : Option Addr} {m n : Nat} {u : Value} {b : Option Addr} {l cap : Nat} {fs : List Fun} (h : FnsAt W b l cap fs) (hB : Box W N t #[.slice x m n]) : FnsAt (W.setCell ⟨N, 0, none⟩ u) b l cap fs := by
  obtain ⟨h1, h2, h3, h5⟩ := h
  refine ⟨h1, h2, h3, ?_⟩
  rcases h5 with h5 | ⟨y, rfl, h6⟩
  · exact .inl h5
  · refine .inr ⟨y, rfl, fun k hk => ?_⟩
    obtain ⟨c0, b', l', c', c1, hC⟩ := h6 k hk
    have hne := int_ne_box hB c0
    have hg := grownBy_setCell W ⟨N, 0, none⟩ u
    exact ⟨(hg.cell_far _ (lt_of_cell c0) (fun e => hne (Option.some.inj e))).trans c0, b', l', c', (hg.cell_far _ (lt_of_cell c1) (fun e => hne (Option.some.inj e))).trans c1, hC.set_box hB⟩
theorem box_after {W w6 : World} {v : Value} {t : TypeId} (h : Below (W.alloc (.cells #[v] t)).drew.heap.size (W.alloc (.cells #[v] t)).drew w6) : Box w6 W.heap.size t #[v] :=
  Box.below (w := (W.alloc (.cells #[v] t)).drew) (Box.new W t #[v]) h (Box.new W t #[v]).lt
theorem swap_back {w5 : World} {qb : Nat} {bq : Option Addr} {len cq P : Nat} {y : Addr} {cap k : Nat} {g : Int} {bk : Option Addr} {lk ck : Nat} {fs : List Fun} {c d : List I} (hR : RowsIn w5) (hF : FnsAt w5 bq len cq fs) (hC : CodeAt w5 bk lk ck d) (hM : mayP fs = true) (hB : codeB d = true) (hk : k < len) (hg : fs.getD k zeroF = (g, c))
    (W : World) (h : S10 w5 W qb bq len cq P y cap k g bk lk ck) :
    Calls Tryd.prog 18 #[.agg #[.slice bq len cq], .int .i64 k, .agg #[.int .i64 g, .slice bk lk ck]] W fun e w' => ∃ b' cp, e = .returned (.tuple #[.agg #[.slice b' len cp], .int .i64 0]) ∧ Below W.heap.size W w' ∧ FnsAt w' b' len cp (fs.set k (g, d)) ∧ S10 w5 w' qb bq len cq P y cap k g bk lk ck :=
  (swap_yes bq len cq fs k g bk lk ck d c W (hR.later h.2.2.2.2) (hF.below h.2.2.2.2) (hC.below h.2.2.2.2) hM hB hk hg).mono fun _ _ ⟨b', cp, he, hb, hF'⟩ => ⟨b', cp, he, hb, hF', h.later hb⟩
end Go.Proofs.YtlbhmopmfddhjaaDoor
