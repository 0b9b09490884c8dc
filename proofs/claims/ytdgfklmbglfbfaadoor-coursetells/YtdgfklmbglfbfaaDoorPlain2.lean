/-
  Package inst in plain numbers, continued: the table of rows allows just what the chapter's definition allows.
-/
import Derived.Test.YtdgfklmbglfbfaaDoorPlain
namespace Go.Proofs.YtdgfklmbglfbfaaDoor

def refP (o f d s : Int) (r : Bool) (x m : Int) : Prop :=
  0 ≤ o ∧ o ≤ 7 ∧ 0 ≤ d ∧ d ≤ 7 ∧ 0 ≤ s ∧ s ≤ 7 ∧ 0 ≤ f ∧ 0 ≤ x ∧ x ≤ 65535 ∧
  (o = 0 → f ≤ 10) ∧ (o = 1 → f ≤ 4) ∧ (1 < o → f ≤ 0) ∧ (r = true → m = 0) ∧ (r = false → s = 0) ∧ (o ≠ 1 → x = 0) ∧
  (o = 1 → f = 0 → d = 0 ∧ s = 0 ∧ r = false ∧ m = 0) ∧ (o = 7 → m = 0) ∧ (5 ≤ o → d = 0 ∧ s = 0 ∧ r = false)

theorem alwK_ref {k : Nat} {o f d s : Int} {r : Bool} {x m : Int} (hk : k < 9) (hm : 0 ≤ m) (h : alwK k o f d s r x m = true) : refP o f d s r x m := by
  unfold refP
  cases r <;>
  (match k, hk with
  | 0, _ | 1, _ | 2, _ | 3, _ | 4, _ | 5, _ | 6, _ | 7, _ | 8, _ =>
    simp [alwK, alw, opnd, wthn, rOp, rLo, rHi, rRg, rMr, rOf, rIm] at h
    try simp
    try omega)
theorem ref_alwK {o f d s : Int} {r : Bool} {x m : Int} (h0 : 0 ≤ m) (hm : m ≤ 4294967295) (h : refP o f d s r x m) : ∃ k, k < 9 ∧ alwK k o f d s r x m = true := by
  unfold refP at h
  have key : ∀ k, k < 9 → alwK k o f d s r x m = true → ∃ k, k < 9 ∧ alwK k o f d s r x m = true := fun k a b => ⟨k, a, b⟩
  have ho : o = 0 ∨ o = 1 ∨ o = 2 ∨ o = 3 ∨ o = 4 ∨ o = 5 ∨ o = 6 ∨ o = 7 := by omega
  rcases ho with rfl | rfl | rfl | rfl | rfl | rfl | rfl | rfl
  · apply key 0 (by omega)
    cases r <;> simp [alwK, alw, opnd, wthn, rOp, rLo, rHi, rRg, rMr, rOf, rIm] at h ⊢ <;> omega
  · by_cases hf : f = 0
    · apply key 1 (by omega)
      cases r <;> simp [alwK, alw, opnd, wthn, rOp, rLo, rHi, rRg, rMr, rOf, rIm] at h ⊢ <;> omega
    · apply key 2 (by omega)
      cases r <;> simp [alwK, alw, opnd, wthn, rOp, rLo, rHi, rRg, rMr, rOf, rIm] at h ⊢ <;> omega
  · apply key 3 (by omega)
    cases r <;> simp [alwK, alw, opnd, wthn, rOp, rLo, rHi, rRg, rMr, rOf, rIm] at h ⊢ <;> omega
  · apply key 4 (by omega)
    cases r <;> simp [alwK, alw, opnd, wthn, rOp, rLo, rHi, rRg, rMr, rOf, rIm] at h ⊢ <;> omega
  · apply key 5 (by omega)
    cases r <;> simp [alwK, alw, opnd, wthn, rOp, rLo, rHi, rRg, rMr, rOf, rIm] at h ⊢ <;> omega
  · apply key 6 (by omega)
    cases r <;> simp [alwK, alw, opnd, wthn, rOp, rLo, rHi, rRg, rOf, rIm] at h ⊢ <;> omega
  · apply key 7 (by omega)
    cases r <;> simp [alwK, alw, opnd, wthn, rOp, rLo, rHi, rRg, rOf, rIm] at h ⊢ <;> omega
  · apply key 8 (by omega)
    cases r <;> simp [alwK, alw, opnd, wthn, rOp, rLo, rHi, rRg, rOf, rIm] at h ⊢ <;> omega

theorem mayB_iff {o f d s : Int} {r : Bool} {x m : Int} (h0 : 0 ≤ m) (hm : m ≤ 4294967295) : mayB o f d s r x m = true ↔ refP o f d s r x m := by
  constructor
  · intro h
    simp only [mayB, List.any_eq_true, List.mem_range] at h
    obtain ⟨k, hk, h⟩ := h
    exact alwK_ref hk h0 h
  · intro h
    obtain ⟨k, hk, h⟩ := ref_alwK h0 hm h
    exact mayB_true hk h
end Go.Proofs.YtdgfklmbglfbfaaDoor
