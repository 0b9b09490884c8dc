/-
  What package course's successors, Next and instCost return, as contracts over the translated program.
-/
import Derived.Test.YtdgfklmbglfbfaaDoorCP
import Derived.Test.YtdgfklmbglfbfaaDoorC2
namespace Go.Proofs.YtdgfklmbglfbfaaDoor
open Go Go.RowKit
set_option linter.unusedVariables false
theorem grownBy_setCell (w : World) (a : Addr) (u : Value) : w.grownBy (w.setCell a u) (some a.block) := ⟨rfl, rfl, rfl, by simp [World.setCell], fun k _ hk => Below.heap_setCell w a u k (fun e => hk (by rw [e]))⟩
/- a slice of ints -/
def IntsAt (W : World) (a : Option Addr) (len cap : Nat) (zs : List Int) : Prop :=
  zs.length = len ∧ len ≤ cap ∧ cap ≤ maxLen ∧ (len = 0 ∨ ∃ y, a = some y ∧ ∀ j, j < len → W.cell? (y.add j) = some (.int .i64 (zs.getD j 0)))
theorem IntsAt.below {W W' : World} {a : Option Addr} {len cap : Nat} {zs : List Int} (h : IntsAt W a len cap zs) (hb : Below W.heap.size W W') : IntsAt W' a len cap zs := by
  obtain ⟨h1, h2, h3, h4⟩ := h
  exact ⟨h1, h2, h3, h4.imp id (fun ⟨y, e, h⟩ => ⟨y, e, fun j hj => (hb.cell (lt_of_cell (h j hj))).trans (h j hj)⟩)⟩
theorem IntsAt.max {W : World} {a : Option Addr} {len cap : Nat} {zs : List Int} (h : IntsAt W a len cap zs) : len ≤ 9223372036854775807 := by
  have h1 := h.2.1
  have h2 := h.2.2.1
  unfold maxLen at h2
  omega
theorem ints_nil (w : World) : IntsAt w none 0 0 [] := ⟨rfl, Nat.le_refl _, Nat.zero_le _, .inl rfl⟩
theorem ints_box {W : World} {A : Nat} {t : TypeId} (zs : List Int) (hl : zs.length ≤ 1000) (hB : Box W A t (zs.map (fun z => Value.int .i64 z)).toArray) : IntsAt W (some ⟨A, 0, none⟩) zs.length zs.length zs := by
  refine ⟨rfl, Nat.le_refl _, by unfold maxLen; omega, .inr ⟨_, rfl, fun i hi => ?_⟩⟩
  rw [addr_add]
  refine hB.cell ?_
  simp [List.getD_eq_getElem?_getD, hi]
theorem box_two (w : World) (o : Obj) (t : TypeId) (cs : Array Value) : Box ((w.alloc o).alloc (.cells cs t)) (w.heap.size + 1) t cs := by
  have h := Box.new (w.alloc o) t cs
  rwa [show (w.alloc o).heap.size = w.heap.size + 1 by simp] at h
theorem IntsAt.set {W : World} {b : Option Addr} {l cp g : Nat} {zs : List Int} (h : IntsAt W b l cp zs) (hne : ∀ y, b = some y → y.block ≠ g) (i : Nat) (v : Value) : IntsAt (W.setCell ⟨g, i, none⟩ v) b l cp zs := by
  obtain ⟨h1, h2, h3, h4⟩ := h
  refine ⟨h1, h2, h3, h4.imp id (fun ⟨y, e, h⟩ => ⟨y, e, fun j hj => ?_⟩)⟩
  exact ((grownBy_setCell W ⟨g, i, none⟩ v).cell_far _ (lt_of_cell (h j hj)) (by rw [add_block]; exact fun e' => hne y e (Option.some.inj e'))).trans (h j hj)
def castL (ts : List Nat) : List Int := ts.map (fun (t : Nat) => (t : Int))
theorem castL_len (ts : List Nat) : (castL ts).length = ts.length := by simp [castL]
theorem castL_getD (ts : List Nat) (j : Nat) : (castL ts).getD j 0 = ((ts.getD j 0 : Nat) : Int) := by
  simp only [castL, List.getD_eq_getElem?_getD, List.getElem?_map]
  cases ts[j]? <;> rfl
def SucPost (ts : List Int) (w : World) (e : Ending) (w' : World) : Prop :=
  ∃ b l cp, e = .returned (.slice b l cp) ∧ Below w.heap.size w w' ∧ IntsAt w' b l cp ts ∧ ∀ y, b = some y → w.heap.size ≤ y.block
set_option maxRecDepth 100000 in
set_option maxHeartbeats 4000000 in
theorem suc_any (o f d s : Int) (r : Bool) (q : Nat) (m : Int) (k : Nat) (w : World) (hk : k ≤ 64) (hq : q ≤ 65535) :
    Calls Tryd.prog 26 #[instV o f d s r (q : Int) m, .int .i64 k] w (SucPost (castL (sucP (o, f, d, s, r, (q : Int), m) k)) w) := by
  have hg : Below w.heap.size w (w.alloc (.cells #[.int .i64 o, .int .i64 f, .int .i64 d, .int .i64 s, .bool r, .int .i64 (q : Int), .int .u32 m] 53)) := (Below.refl _ _).alloc (Nat.le_refl _) _
  have HG := Lib.hid hg
  have hk0 : (0 : Int) ≤ (k : Int) := Int.natCast_nonneg _
  have hk9 : (k : Int) ≤ 64 := by omega
  have hq0 : (0 : Int) ≤ (q : Int) := Int.natCast_nonneg _
  have hq9 : (q : Int) ≤ 65535 := by omega
  obtain ⟨TS, hTS⟩ : ∃ TS, castL (sucP (o, f, d, s, r, (q : Int), m) k) = TS := ⟨_, rfl⟩
  rw [hTS]
  have HT := Lib.hid hTS
  clear hTS hg hk hq
  by_cases h7 : o = 7
  · have hT : Hid (TS = []) := Lib.hid (by rw [← HT.out, sucP, if_pos h7]; rfl)
    have h7b : (o == 7) = true := by simpa using h7
    clear h7
    go_enter Tryd.func26, Tryd.ntmps26
    go_wp2
    go_ret
    exact ⟨none, 0, 0, rfl, HG.out, by rw [hT.out]; exact ints_nil _, fun y hy => by cases hy⟩
  have h7b : (o == 7) = false := by simpa using h7
  by_cases h1 : o = 1 ∧ f = 0
  · obtain ⟨ho, hf⟩ := h1
    have hT : Hid (TS = [(k : Int) + 1 + (q : Int)]) := Lib.hid (by
      rw [← HT.out, sucP, if_neg h7, if_pos ⟨ho, hf⟩]
      simp [castL])
    have hob : (o == 1) = true := by simpa using ho
    have hfb : (f == 0) = true := by simpa using hf
    clear h7 ho hf
    go_enter Tryd.func26, Tryd.ntmps26
    go_wp2
    go_ret
    exact ⟨_, _, _, rfl, HG.out.alloc HG.out.size _, by rw [hT.out]; exact ints_box [_] (by simp) (box_two _ _ _ _), fun y hy => by cases hy; simp⟩
  have hob : (o == 1) = false ∨ ((o == 1) = true ∧ (f == 0) = false) := by
    by_cases ho : o = 1
    · exact .inr ⟨by simpa using ho, by simpa using fun hf => h1 ⟨ho, hf⟩⟩
    · exact .inl (by simpa using ho)
  by_cases hp : 0 < q
  · have hT : Hid (TS = [(k : Int) + 1, (k : Int) + 1 + (q : Int)]) := Lib.hid (by
      rw [← HT.out, sucP, if_neg h7, if_neg h1, if_pos (by show (0 : Int) < (q : Int); omega)]
      simp [castL])
    have hpI : (k : Int) + 1 < (k : Int) + 1 + (q : Int) := by omega
    clear h7 h1
    rcases hob with hob | ⟨hob, hfb⟩
    · go_enter Tryd.func26, Tryd.ntmps26
      go_wp2
      go_ret
      exact ⟨_, _, _, rfl, HG.out.alloc HG.out.size _, by rw [hT.out]; exact ints_box [_, _] (by simp) (box_two _ _ _ _), fun y hy => by cases hy; simp⟩
    · go_enter Tryd.func26, Tryd.ntmps26
      go_wp2
      go_ret
      exact ⟨_, _, _, rfl, HG.out.alloc HG.out.size _, by rw [hT.out]; exact ints_box [_, _] (by simp) (box_two _ _ _ _), fun y hy => by cases hy; simp⟩
  · have hT : Hid (TS = [(k : Int) + 1]) := Lib.hid (by
      rw [← HT.out, sucP, if_neg h7, if_neg h1, if_neg (by show ¬ (0 : Int) < (q : Int); omega)]
      simp [castL])
    have hpI : ¬ (k : Int) + 1 < (k : Int) + 1 + (q : Int) := by omega
    clear h7 h1
    rcases hob with hob | ⟨hob, hfb⟩
    · go_enter Tryd.func26, Tryd.ntmps26
      go_wp2
      go_ret
      exact ⟨_, _, _, rfl, HG.out.alloc HG.out.size _, by rw [hT.out]; exact ints_box [_] (by simp) (box_two _ _ _ _), fun y hy => by cases hy; simp⟩
    · go_enter Tryd.func26, Tryd.ntmps26
      go_wp2
      go_ret
      exact ⟨_, _, _, rfl, HG.out.alloc HG.out.size _, by rw [hT.out]; exact ints_box [_] (by simp) (box_two _ _ _ _), fun y hy => by cases hy; simp⟩
end Go.Proofs.YtdgfklmbglfbfaaDoor
