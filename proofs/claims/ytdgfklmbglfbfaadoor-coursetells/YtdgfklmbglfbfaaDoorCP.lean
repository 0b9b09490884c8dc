/-
  Package course in plain numbers: what follows a position, which positions are reached, and what the most expensive path costs.
-/
import Derived.Test.YtdgfklmbglfbfaaDoorPlain4
namespace Go.Proofs.YtdgfklmbglfbfaaDoor
set_option linter.unusedVariables false
/- what follows position k, where instruction i stands -/
def sucP (i : I) (k : Nat) : List Nat :=
  if i.1 = 7 then [] else if i.1 = 1 ∧ i.2.1 = 0 then [k + 1 + i.2.2.2.2.2.1.toNat] else if 0 < i.2.2.2.2.2.1 then [k + 1, k + 1 + i.2.2.2.2.2.1.toNat] else [k + 1]
def sucC (c : List I) (k : Nat) : List Nat := sucP (c.getD k zeroI) k
theorem sucP_lt {i : I} {k t : Nat} (h : t ∈ sucP i k) : k < t := by
  unfold sucP at h
  repeat' split at h
  all_goals simp at h
  all_goals omega
theorem sucP_len (i : I) (k : Nat) : (sucP i k).length ≤ 2 := by
  unfold sucP
  repeat' split
  all_goals simp
theorem sucP_inc {i : I} {k : Nat} (h : (sucP i k).length = 2) : (sucP i k).getD 0 0 < (sucP i k).getD 1 0 := by
  unfold sucP at h ⊢
  repeat' split at h
  all_goals simp at h
  rename_i h1 h2 h3
  rw [if_neg h1, if_neg h2, if_pos h3]
  show k + 1 < k + 1 + _
  omega
theorem sucP_nil {i : I} {k : Nat} : sucP i k = [] ↔ i.1 = 7 := by
  unfold sucP
  repeat' split
  all_goals simp_all
/- which positions are reached -/
def rchL (c : List I) : Nat → List Bool
  | 0 => []
  | k + 1 => rchL c k ++ [decide (k = 0) || (List.range k).any (fun j => (rchL c k).getD j false && decide (k ∈ sucC c j))]
def rch (c : List I) (k : Nat) : Bool := (rchL c (k + 1)).getD k false
theorem rchL_len (c : List I) : ∀ k, (rchL c k).length = k
  | 0 => rfl
  | k + 1 => by rw [rchL, List.length_append, rchL_len c k]; rfl
theorem rchL_getD (c : List I) {j : Nat} : ∀ {k : Nat}, j < k → (rchL c k).getD j false = rch c j
  | k + 1, h => by
    by_cases hj : j = k
    · rw [hj]; rfl
    · rw [rchL, List.getD_eq_getElem?_getD, List.getElem?_append_left (by rw [rchL_len]; omega), ← List.getD_eq_getElem?_getD]
      exact rchL_getD c (by omega)
theorem rch_eq (c : List I) (k : Nat) : rch c k = (decide (k = 0) || (List.range k).any (fun j => rch c j && decide (k ∈ sucC c j))) := by
  rw [rch, rchL, List.getD_eq_getElem?_getD, List.getElem?_append_right (by rw [rchL_len]; omega), rchL_len]
  simp only [Nat.sub_self, List.getElem?_cons_zero, Option.getD_some]
  congr 1
  rw [Bool.eq_iff_iff]
  simp only [List.any_eq_true, List.mem_range]
  constructor
  · rintro ⟨j, hj, h⟩
    rw [rchL_getD c hj] at h
    exact ⟨j, hj, h⟩
  · rintro ⟨j, hj, h⟩
    exact ⟨j, hj, by rw [rchL_getD c hj]; exact h⟩
theorem rch_iff {c : List I} {k : Nat} : rch c k = true ↔ k = 0 ∨ ∃ j, j < k ∧ rch c j = true ∧ k ∈ sucC c j := by
  rw [rch_eq]
  simp only [Bool.or_eq_true, decide_eq_true_iff, List.any_eq_true, List.mem_range, Bool.and_eq_true]
theorem rch_zero (c : List I) : rch c 0 = true := rch_iff.2 (.inl rfl)
theorem rch_next {c : List I} {j k : Nat} (h : rch c j = true) (hk : k ∈ sucC c j) : rch c k = true := rch_iff.2 (.inr ⟨j, sucP_lt hk, h, hk⟩)
/- the positions that are known to be reached, once those below k have been gone through -/
def mkd (c : List I) (n k p : Nat) : Bool := decide (p = 0) || (List.range k).any (fun j => rch c j && (decide (p ∈ sucC c j) && decide (p < n)))
theorem mkd_zero (c : List I) (n p : Nat) : mkd c n 0 p = decide (p = 0) := by simp [mkd]
theorem mkd_at {c : List I} {n k : Nat} (h : k < n) : mkd c n k k = rch c k := by
  rw [mkd, rch_eq]
  simp [h]
theorem mkd_succ (c : List I) (n k p : Nat) : mkd c n (k + 1) p = (mkd c n k p || (rch c k && (decide (p ∈ sucC c k) && decide (p < n)))) := by
  rw [mkd, mkd, List.range_succ, List.any_append]
  simp [Bool.or_assoc]
/- what a call costs, and an instruction -/
def calledP (calls : List Int) (m : Int) : Int := if 0 ≤ calls.getD m.toNat 0 ∧ calls.getD m.toNat 0 ≤ 1000000 then calls.getD m.toNat 0 else 0
def costP (calls : List Int) (i : I) : Int := if i.1 = 6 then 1 + calledP calls i.2.2.2.2.2.2 else 1
theorem calledP_le (calls : List Int) (m : Int) : 0 ≤ calledP calls m ∧ calledP calls m ≤ 1000000 := by
  unfold calledP
  split <;> omega
theorem costP_le (calls : List Int) (i : I) : 1 ≤ costP calls i ∧ costP calls i ≤ 1000001 := by
  have := calledP_le calls i.2.2.2.2.2.2
  unfold costP
  split <;> omega
theorem costP_ext {calls calls' : List Int} (h : ∀ k, calls.getD k 0 = calls'.getD k 0) (i : I) : costP calls i = costP calls' i := by
  simp only [costP, calledP, h]
/- what the most expensive path up to each position costs, without it, and the most expensive one of all -/
def bst (calls : List Int) (c : List I) (n : Nat) : Nat → (Nat → Int) × Int
  | 0 => (fun _ => 0, 0)
  | k + 1 => if rch c k = true then (fun p => if p ∈ sucC c k ∧ p < n then max ((bst calls c n k).1 p) ((bst calls c n k).1 k + costP calls (c.getD k zeroI)) else (bst calls c n k).1 p, max (bst calls c n k).2 ((bst calls c n k).1 k + costP calls (c.getD k zeroI))) else bst calls c n k
theorem bst_yes {calls : List Int} {c : List I} {n k : Nat} (h : rch c k = true) : bst calls c n (k + 1) = (fun p => if p ∈ sucC c k ∧ p < n then max ((bst calls c n k).1 p) ((bst calls c n k).1 k + costP calls (c.getD k zeroI)) else (bst calls c n k).1 p, max (bst calls c n k).2 ((bst calls c n k).1 k + costP calls (c.getD k zeroI))) := by rw [bst, if_pos h]
theorem bst_no {calls : List Int} {c : List I} {n k : Nat} (h : rch c k = false) : bst calls c n (k + 1) = bst calls c n k := by rw [bst, if_neg (by rw [h]; simp)]
theorem bst_le (calls : List Int) (c : List I) (n : Nat) : ∀ k, (∀ p, 0 ≤ (bst calls c n k).1 p ∧ (bst calls c n k).1 p ≤ (k : Int) * 1000001) ∧ 0 ≤ (bst calls c n k).2 ∧ (bst calls c n k).2 ≤ (k : Int) * 1000001
  | 0 => ⟨fun p => ⟨by simp [bst], by simp [bst]⟩, by simp [bst], by simp [bst]⟩
  | k + 1 => by
    obtain ⟨h1, h2, h3⟩ := bst_le calls c n k
    have hc := costP_le calls (c.getD k zeroI)
    have hk := h1 k
    rcases h : rch c k with _ | _
    · rw [bst_no h]
      refine ⟨fun p => ⟨(h1 p).1, ?_⟩, h2, ?_⟩
      · have := (h1 p).2
        push_cast
        omega
      · push_cast
        omega
    · rw [bst_yes h]
      push_cast
      refine ⟨fun p => ?_, by omega, by omega⟩
      have := h1 p
      split <;> omega
def longP (calls : List Int) (c : List I) : Int := if codeB c = true then min (bst calls c c.length c.length).2 1000000 else 0
def reachP (c : List I) : List Bool := if codeB c = true then (List.range c.length).map (rch c) else []
def fineP (c : List I) : Bool := codeB c && (List.range c.length).all (fun k => !rch c k || (sucC c k).all (fun t => decide (t < c.length)))
def nextP (c : List I) (at' : Int) : List Int := if codeB c = true ∧ 0 ≤ at' ∧ at' < (c.length : Int) then (sucC c at'.toNat).map (fun (t : Nat) => (t : Int)) else []
theorem bst_ext {calls calls' : List Int} (h : ∀ k, calls.getD k 0 = calls'.getD k 0) (c : List I) (n : Nat) : ∀ k, bst calls c n k = bst calls' c n k
  | 0 => rfl
  | k + 1 => by rw [bst, bst, bst_ext h c n k, costP_ext h]
theorem longP_ext {calls calls' : List Int} (h : ∀ k, calls.getD k 0 = calls'.getD k 0) (c : List I) : longP calls c = longP calls' c := by rw [longP, longP, bst_ext h]
theorem longP_le (calls : List Int) (c : List I) : 0 ≤ longP calls c ∧ longP calls c ≤ 1000000 := by
  have := bst_le calls c c.length c.length
  unfold longP
  split <;> omega
/- costs of functions, from the last one back -/
def cstJ (fs : List Fun) : Nat → List Int
  | 0 => List.replicate 8 0
  | j + 1 => (cstJ fs j).set (fs.length - 1 - j) (longP (cstJ fs j) (fs.getD (fs.length - 1 - j) zeroF).2)
theorem cstJ_len (fs : List Fun) : ∀ j, (cstJ fs j).length = 8
  | 0 => rfl
  | j + 1 => by rw [cstJ, List.length_set, cstJ_len fs j]
def budP (fs : List Fun) : Int := if mayP fs = true then (cstJ fs fs.length).getD 0 0 else 0
end Go.Proofs.YtdgfklmbglfbfaaDoor
