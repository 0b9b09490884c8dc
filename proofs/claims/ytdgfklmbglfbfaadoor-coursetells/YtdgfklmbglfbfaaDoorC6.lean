/-
  Rows and arrays of plain values; the functions that package course hands to walk, and what Reach and Fine return, as contracts over the translated program.
-/
import Derived.Test.YtdgfklmbglfbfaaDoorC5
import Derived.Shelf.Abstract
namespace Go.Proofs.YtdgfklmbglfbfaaDoor
open Go Go.RowKit
set_option linter.unusedVariables false
/- block g holds N values -/
def Vals (W : World) (g : Nat) (ty : TypeId) (N : Nat) (m : Nat → Value) : Prop := ∃ cs : Array Value, Box W g ty cs ∧ cs.size = N ∧ ∀ p, p < N → cs[p]? = some (m p)
section
variable {W W' : World} {g N : Nat} {ty : TypeId} {m m' : Nat → Value}
theorem Vals.later (h : Vals W g ty N m) (hb : Below W.heap.size W W') : Vals W' g ty N m := by
  obtain ⟨cs, h1, h2, h3⟩ := h
  exact ⟨cs, h1.later hb, h2, h3⟩
theorem Vals.kept (h : Vals W g ty N m) (hb : W'.heap[g]? = W.heap[g]?) : Vals W' g ty N m := by
  obtain ⟨cs, h1, h2, h3⟩ := h
  exact ⟨cs, hb.trans h1, h2, h3⟩
theorem Vals.cell (h : Vals W g ty N m) {p : Nat} (hp : p < N) : W.cell? ⟨g, p, none⟩ = some (m p) := by
  obtain ⟨cs, h1, h2, h3⟩ := h
  exact h1.cell (h3 p hp)
theorem Vals.free (h : Vals W g ty N m) (p : Nat) : W.frozen? ⟨g, p, none⟩ = false := by
  obtain ⟨cs, h1, _⟩ := h
  exact h1.free p
theorem Vals.lt (h : Vals W g ty N m) : g < W.heap.size := by
  obtain ⟨cs, h1, _⟩ := h
  exact h1.lt
theorem Vals.same (h : Vals W g ty N m) (he : ∀ p, p < N → m p = m' p) : Vals W g ty N m' := by
  obtain ⟨cs, h1, h2, h3⟩ := h
  exact ⟨cs, h1, h2, fun p hp => by rw [← he p hp]; exact h3 p hp⟩
theorem Vals.other (h : Vals W g ty N m) {p : Addr} (hp : g ≠ p.block) (u : Value) : Vals (W.setCell p u) g ty N m := h.kept (Below.heap_setCell W p u g hp)
theorem Vals.put (h : Vals W g ty N m) {t : Nat} (ht : t < N) (v : Value) : Vals (W.setCell ⟨g, t, none⟩ v) g ty N (fun p => if p = t then v else m p) := by
  obtain ⟨cs, h1, h2, h3⟩ := h
  refine ⟨_, h1.set t v, by simp [h2], fun p hp => ?_⟩
  show (cs.setIfInBounds t v)[p]? = some (if p = t then v else m p)
  by_cases hpt : p = t
  · subst hpt
    simp [h2, hp]
  · rw [if_neg hpt, Array.getElem?_setIfInBounds_ne (Ne.symm hpt)]
    exact h3 p hp
end
theorem Box.kept {W W' : World} {g : Nat} {t : TypeId} {cs : Array Value} (h : Box W g t cs) (hb : W'.heap[g]? = W.heap[g]?) : Box W' g t cs := hb.trans h
/- a slice of bools -/
def BoolsAt (W : World) (a : Option Addr) (len cap : Nat) (zs : List Bool) : Prop :=
  zs.length = len ∧ len ≤ cap ∧ cap ≤ maxLen ∧ (len = 0 ∨ ∃ y, a = some y ∧ ∀ j, j < len → W.cell? (y.add j) = some (.bool (zs.getD j false)))
theorem BoolsAt.below {W W' : World} {a : Option Addr} {len cap : Nat} {zs : List Bool} (h : BoolsAt W a len cap zs) (hb : Below W.heap.size W W') : BoolsAt W' a len cap zs := by
  obtain ⟨h1, h2, h3, h4⟩ := h
  exact ⟨h1, h2, h3, h4.imp id (fun ⟨y, e, h⟩ => ⟨y, e, fun j hj => (hb.cell (lt_of_cell (h j hj))).trans (h j hj)⟩)⟩
theorem BoolsAt.max {W : World} {a : Option Addr} {len cap : Nat} {zs : List Bool} (h : BoolsAt W a len cap zs) : len ≤ 9223372036854775807 := by
  have h1 := h.2.1
  have h2 := h.2.2.1
  unfold maxLen at h2
  omega
theorem bools_nil (w : World) : BoolsAt w none 0 0 [] := ⟨rfl, Nat.le_refl _, Nat.zero_le _, .inl rfl⟩
theorem Vals.bools {W : World} {g N : Nat} {ty : TypeId} {f : Nat → Bool} (h : Vals W g ty N (fun p => .bool (f p))) (hN : N ≤ 1000) : BoolsAt W (some ⟨g, 0, none⟩) N N ((List.range N).map f) := by
  refine ⟨by simp, Nat.le_refl _, by unfold maxLen; omega, .inr ⟨_, rfl, fun j hj => ?_⟩⟩
  rw [addr_add, h.cell hj]
  simp [List.getD_eq_getElem?_getD, hj]
theorem Vals.ints {W : World} {g N : Nat} {ty : TypeId} {zs : List Int} (h : Vals W g ty N (fun p => .int .i64 (zs.getD p 0))) (hl : zs.length = N) (hN : N ≤ 1000) : IntsAt W (some ⟨g, 0, none⟩) N N zs := by
  refine ⟨hl, Nat.le_refl _, by unfold maxLen; omega, .inr ⟨_, rfl, fun j hj => ?_⟩⟩
  rw [addr_add, h.cell hj]
/- 'make([]T, n)', elements of one cell -/
theorem wpList_makeV {ops : Array Oper} {rest : List Oper} {o : Oper} {a : Act} {Q : Exit → Act → World → Prop} (st et : TypeId) (hst : Tryd.prog.underlying st = some (.slice et)) (z : Value) (bytes : Nat) (hby : bytes ≤ 8)
    (hinfo : (Tryd.prog.info? et).map (fun i => (i.zero, i.size, i.bytes)) = some (some z, 1, bytes)) (hzc : z.cells = #[z]) (w : World) (hgd : o.guard = none) (l c : Operand) (ho : o.op = .makeSlice st l c)
    (n : Nat) (L : Int) (hl : a.eval l = .int .i64 L) (hc : a.eval c = .int .i64 L) (hL : L = (n : Int)) (hn : n ≤ 1000) (H : Nat) (hH : w.heap.size = H)
    (h : ∀ w', Vals w' H et n (fun _ => z) → w.grownBy w' none → H < w'.heap.size → wpList Tryd.prog ops Q rest (a.put o.dst (.slice (some ⟨H, 0, none⟩) n n)) w') : wpList Tryd.prog ops Q (o :: rest) a w := by
  obtain ⟨jT, hiT, hy0, hy1, hy2⟩ := info_parts hinfo
  subst hH
  refine wpList_make_full w hgd l c st ho w.heap.size et jT _ 1 hst hiT hy0 hy1 .i64 .i64 L L n hl hc hL hL (by rw [hy2]; exact Nat.le_trans (Nat.mul_le_mul hby hn) (by decide)) (by unfold maxLen; omega) (Nat.le_refl _) ?_
  intro w' r1 r2
  have hlt := (r1.lt w.heap.size rfl).2
  refine h w' ?_ r2 hlt
  obtain ⟨hl1, ⟨e, _⟩ | ⟨g', cap', cur, e, hbg, hh, hc', hm, hcs, ht⟩⟩ := r1
  · cases e
  simp only [Value.slice.injEq, Option.some.injEq, Addr.mk.injEq, and_true, true_and] at e
  obtain ⟨rfl, rfl⟩ := e
  have hcur : cur.toList = (madeCells z.cells (n * 1)).toList := by
    rw [← ht, List.take_of_length_le (by simp [hcs])]
  have hcur2 : cur = madeCells z.cells (n * 1) := Array.toList_inj.1 hcur
  subst hcur2
  refine ⟨_, hh, by simpa using hcs, fun p hp => ?_⟩
  rw [hzc]
  simp [madeCells, hp, Nat.mod_one]
theorem infoB : (Tryd.prog.info? 4).map (fun i => (i.zero, i.size, i.bytes)) = some (some (.bool false), 1, 1) := by kernel_rfl
theorem infoI : (Tryd.prog.info? 3).map (fun i => (i.zero, i.size, i.bytes)) = some (some (.int .i64 0), 1, 8) := by kernel_rfl
set_option maxRecDepth 100000 in
set_option maxHeartbeats 2000000 in
theorem reach1_any (k n G V : Nat) (b : Option Addr) (l cp : Nat) (m : Nat → Value) (W : World) (hk : k < n) (hn : n ≤ 64) (hV : Box W V 32 #[.slice (some ⟨G, 0, none⟩) n n]) (hG : Vals W G 4 n m) :
    Calls Tryd.prog 29 #[.int .i64 (k : Int), .slice b l cp, .pointer (some ⟨V, 0, none⟩)] W fun e W' => e = .returned (.tuple #[]) ∧ W' = W.setCell ⟨G, k, none⟩ (.bool true) := by
  have c0 : W.cell? ⟨V, 0, none⟩ = some (.slice (some ⟨G, 0, none⟩) n n) := hV.cell rfl
  have c1 := hG.cell hk
  have hfz := hG.free k
  have ea : (⟨G, 0, none⟩ : Addr).add k = ⟨G, k, none⟩ := addr_add G k
  have hkI : (k : Int) < (n : Int) := by omega
  have hk0 : (0 : Int) ≤ (k : Int) := Int.natCast_nonneg _
  have hnI : (n : Int) ≤ 64 := by omega
  clear hV hG
  go_enter Tryd.func29, Tryd.ntmps29
  go_wp2
  refine bodyPost_end (results_none rfl _ _ _) rfl ?_
  exact ⟨rfl, rfl⟩
end Go.Proofs.YtdgfklmbglfbfaaDoor
