/-
  Texts that the laws of this layer stand on, one behind the other.
-/
/-
  Package inst in plain numbers: which instructions the table of rows allows, which the chapter's definition allows, and that these are the same.
-/
namespace Go.Proofs.YtilddlgcfbefiaaDoor
set_option linter.unusedSimpArgs false
set_option linter.unusedVariables false

def pwthn (n lo hi : Int) : Bool := decide (lo ≤ n) && decide (n ≤ hi)
def opnd (rR : Int) (rm : Bool) (rM s : Int) (r : Bool) (m : Int) : Bool :=
  if r then rm && (pwthn s 0 rR && (m == 0)) else (s == 0) && decide (m ≤ rM)
def alw (ro rl rh rR : Int) (rm : Bool) (rO rM o f d s : Int) (r : Bool) (x m : Int) : Bool :=
  (o == ro) && (pwthn f rl rh && (pwthn d 0 rR && (pwthn x 0 rO && opnd rR rm rM s r m)))

/- the nine rows: Op, least Fn, greatest Fn, greatest register, whether Reg may be, greatest Off, greatest Imm -/
def rOp : Nat → Int | 0 => 0 | 1 => 1 | 2 => 1 | 3 => 2 | 4 => 3 | 5 => 4 | 6 => 5 | 7 => 6 | _ => 7
def rLo : Nat → Int | 2 => 1 | _ => 0
def rHi : Nat → Int | 0 => 10 | 2 => 4 | _ => 0
def rRg : Nat → Int | 0 => 7 | 2 => 7 | 3 => 7 | 4 => 7 | 5 => 7 | _ => 0
def rMr : Nat → Bool | 0 => true | 2 => true | 3 => true | 4 => true | 5 => true | _ => false
def rOf : Nat → Int | 1 => 65535 | 2 => 65535 | _ => 0
def rIm : Nat → Int | 1 => 0 | 8 => 0 | _ => 4294967295

def alwK (k : Nat) (o f d s : Int) (r : Bool) (x m : Int) : Bool := alw (rOp k) (rLo k) (rHi k) (rRg k) (rMr k) (rOf k) (rIm k) o f d s r x m
def pmayB (o f d s : Int) (r : Bool) (x m : Int) : Bool := (List.range 9).any fun k => alwK k o f d s r x m

theorem mayB_true {k : Nat} {o f d s : Int} {r : Bool} {x m : Int} (hk : k < 9) (h : alwK k o f d s r x m = true) : pmayB o f d s r x m = true := by
  simp only [pmayB, List.any_eq_true]
  exact ⟨k, by simp [hk], h⟩
theorem mayB_false {o f d s : Int} {r : Bool} {x m : Int} (h : ∀ k, k < 9 → alwK k o f d s r x m = false) : pmayB o f d s r x m = false := by
  simp only [pmayB, List.any_eq_false]
  intro k hk
  simp [h k (by simpa using hk)]

end Go.Proofs.YtilddlgcfbefiaaDoor

/-
  Package inst in plain numbers, continued: the table of rows allows just what the chapter's definition allows.
-/
namespace Go.Proofs.YtilddlgcfbefiaaDoor
set_option linter.unusedSimpArgs false
set_option linter.unusedVariables false

def refP (o f d s : Int) (r : Bool) (x m : Int) : Prop :=
  0 ≤ o ∧ o ≤ 7 ∧ 0 ≤ d ∧ d ≤ 7 ∧ 0 ≤ s ∧ s ≤ 7 ∧ 0 ≤ f ∧ 0 ≤ x ∧ x ≤ 65535 ∧
  (o = 0 → f ≤ 10) ∧ (o = 1 → f ≤ 4) ∧ (1 < o → f ≤ 0) ∧ (r = true → m = 0) ∧ (r = false → s = 0) ∧ (o ≠ 1 → x = 0) ∧
  (o = 1 → f = 0 → d = 0 ∧ s = 0 ∧ r = false ∧ m = 0) ∧ (o = 7 → m = 0) ∧ (5 ≤ o → d = 0 ∧ s = 0 ∧ r = false)

theorem alwK_ref {k : Nat} {o f d s : Int} {r : Bool} {x m : Int} (hk : k < 9) (hm : 0 ≤ m) (h : alwK k o f d s r x m = true) : refP o f d s r x m := by
  unfold refP
  cases r <;>
  (match k, hk with
  | 0, _ | 1, _ | 2, _ | 3, _ | 4, _ | 5, _ | 6, _ | 7, _ | 8, _ =>
    simp [alwK, alw, opnd, pwthn, rOp, rLo, rHi, rRg, rMr, rOf, rIm] at h
    try simp
    try omega)
theorem ref_alwK {o f d s : Int} {r : Bool} {x m : Int} (h0 : 0 ≤ m) (hm : m ≤ 4294967295) (h : refP o f d s r x m) : ∃ k, k < 9 ∧ alwK k o f d s r x m = true := by
  unfold refP at h
  have key : ∀ k, k < 9 → alwK k o f d s r x m = true → ∃ k, k < 9 ∧ alwK k o f d s r x m = true := fun k a b => ⟨k, a, b⟩
  have ho : o = 0 ∨ o = 1 ∨ o = 2 ∨ o = 3 ∨ o = 4 ∨ o = 5 ∨ o = 6 ∨ o = 7 := by omega
  rcases ho with rfl | rfl | rfl | rfl | rfl | rfl | rfl | rfl
  · apply key 0 (by omega)
    cases r <;> simp [alwK, alw, opnd, pwthn, rOp, rLo, rHi, rRg, rMr, rOf, rIm] at h ⊢ <;> omega
  · by_cases hf : f = 0
    · apply key 1 (by omega)
      cases r <;> simp [alwK, alw, opnd, pwthn, rOp, rLo, rHi, rRg, rMr, rOf, rIm] at h ⊢ <;> omega
    · apply key 2 (by omega)
      cases r <;> simp [alwK, alw, opnd, pwthn, rOp, rLo, rHi, rRg, rMr, rOf, rIm] at h ⊢ <;> omega
  · apply key 3 (by omega)
    cases r <;> simp [alwK, alw, opnd, pwthn, rOp, rLo, rHi, rRg, rMr, rOf, rIm] at h ⊢ <;> omega
  · apply key 4 (by omega)
    cases r <;> simp [alwK, alw, opnd, pwthn, rOp, rLo, rHi, rRg, rMr, rOf, rIm] at h ⊢ <;> omega
  · apply key 5 (by omega)
    cases r <;> simp [alwK, alw, opnd, pwthn, rOp, rLo, rHi, rRg, rMr, rOf, rIm] at h ⊢ <;> omega
  · apply key 6 (by omega)
    cases r <;> simp [alwK, alw, opnd, pwthn, rOp, rLo, rHi, rRg, rOf, rIm] at h ⊢ <;> omega
  · apply key 7 (by omega)
    cases r <;> simp [alwK, alw, opnd, pwthn, rOp, rLo, rHi, rRg, rOf, rIm] at h ⊢ <;> omega
  · apply key 8 (by omega)
    cases r <;> simp [alwK, alw, opnd, pwthn, rOp, rLo, rHi, rRg, rOf, rIm] at h ⊢ <;> omega

theorem mayB_iff {o f d s : Int} {r : Bool} {x m : Int} (h0 : 0 ≤ m) (hm : m ≤ 4294967295) : pmayB o f d s r x m = true ↔ refP o f d s r x m := by
  constructor
  · intro h
    simp only [pmayB, List.any_eq_true, List.mem_range] at h
    obtain ⟨k, hk, h⟩ := h
    exact alwK_ref hk h0 h
  · intro h
    obtain ⟨k, hk, h⟩ := ref_alwK h0 hm h
    exact mayB_true hk h
end Go.Proofs.YtilddlgcfbefiaaDoor

