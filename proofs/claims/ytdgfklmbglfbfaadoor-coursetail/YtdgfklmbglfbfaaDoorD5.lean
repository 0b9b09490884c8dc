/-
  What costs more calls make of the most expensive path, in plain numbers.
-/
import Derived.Test.YtdgfklmbglfbfaaDoorD4
namespace Go.Proofs.YtdgfklmbglfbfaaDoor
set_option linter.unusedVariables false
/- all instructions, with all their calls -/
def allP (calls : List Int) (c : List I) : Nat → Int
  | 0 => 0
  | k + 1 => allP calls c k + costP calls (c.getD k zeroI)
theorem bst_all (calls : List Int) (c : List I) (n : Nat) : ∀ k, (∀ p, (bst calls c n k).1 p ≤ allP calls c k) ∧ (bst calls c n k).2 ≤ allP calls c k
  | 0 => ⟨fun p => by simp [bst, allP], by simp [bst, allP]⟩
  | k + 1 => by
    obtain ⟨h1, h2⟩ := bst_all calls c n k
    have hc := costP_le calls (c.getD k zeroI)
    have hk := h1 k
    rcases h : rch c k with _ | _
    · rw [bst_no h, allP]
      exact ⟨fun p => by have := h1 p; omega, by omega⟩
    · rw [bst_yes h, allP]
      refine ⟨fun p => ?_, by simp only; omega⟩
      have := h1 p
      simp only
      split <;> omega
/- costs that are m greater each -/
def More (calls dear : List Int) (m : Int) : Prop := ∀ i : I, costP calls i ≤ costP dear i ∧ costP dear i ≤ costP calls i + m
theorem bst_more {calls dear : List Int} {m : Int} (hm : 0 ≤ m) (h : More calls dear m) (c : List I) (n : Nat) : ∀ k, (∀ p, (bst calls c n k).1 p ≤ (bst dear c n k).1 p ∧ (bst dear c n k).1 p ≤ (bst calls c n k).1 p + k * m) ∧ (bst calls c n k).2 ≤ (bst dear c n k).2 ∧ (bst dear c n k).2 ≤ (bst calls c n k).2 + k * m
  | 0 => ⟨fun p => by simp [bst], by simp [bst]⟩
  | k + 1 => by
    obtain ⟨h1, h2, h3⟩ := bst_more hm h c n k
    have hc := h (c.getD k zeroI)
    have hk := h1 k
    have e : ((k + 1 : Nat) : Int) * m = (k : Int) * m + m := by push_cast; rw [Int.add_mul, Int.one_mul]
    have hkm : 0 ≤ (k : Int) * m := Int.mul_nonneg (Int.natCast_nonneg k) hm
    generalize (k : Int) * m = km at *
    rw [e]
    rcases hr : rch c k with _ | _
    · rw [bst_no hr, bst_no hr]
      exact ⟨fun p => by have := h1 p; omega, by omega, by omega⟩
    · rw [bst_yes hr, bst_yes hr]
      refine ⟨fun p => ?_, by simp only; omega, by simp only; omega⟩
      have := h1 p
      simp only
      split <;> omega
theorem bst_pos (calls : List Int) (c : List I) (n : Nat) : ∀ k, 1 ≤ k → 1 ≤ (bst calls c n k).2
  | 0, h => by omega
  | 1, _ => by
    rw [bst_yes (rch_zero c)]
    have := costP_le calls (c.getD 0 zeroI)
    simp only [bst]
    omega
  | k + 2, _ => by
    have := bst_pos calls c n (k + 1) (by omega)
    rcases hr : rch c (k + 1) with _ | _
    · rw [bst_no hr]
      exact this
    · rw [bst_yes hr]
      simp only
      omega
theorem allP_nil (c : List I) : ∀ k, allP [] c k = k
  | 0 => rfl
  | k + 1 => by
    rw [allP, allP_nil c k, costP, calledP]
    simp
theorem more_map {calls : List Int} {m : Int} (hc : ∀ z ∈ calls, 0 ≤ z ∧ z ≤ 1000) (hm : 0 ≤ m ∧ m ≤ 1000) : More calls (calls.map (fun z => z + m)) m := by
  intro i
  unfold costP calledP
  split
  · by_cases hk : i.2.2.2.2.2.2.toNat < calls.length
    · have e1 : (calls.map (fun z => z + m)).getD i.2.2.2.2.2.2.toNat 0 = calls.getD i.2.2.2.2.2.2.toNat 0 + m := by
        simp [List.getD_eq_getElem?_getD, hk]
      have h1 := hc _ (getD_mem calls i.2.2.2.2.2.2.toNat 0 hk)
      rw [e1, if_pos (by omega), if_pos (by omega)]
      omega
    · have e1 : (calls.map (fun z => z + m)).getD i.2.2.2.2.2.2.toNat 0 = 0 := by
        rw [List.getD_eq_getElem?_getD, List.getElem?_eq_none (by simp; omega)]
        rfl
      have e2 : calls.getD i.2.2.2.2.2.2.toNat 0 = 0 := by
        rw [List.getD_eq_getElem?_getD, List.getElem?_eq_none (by omega)]
        rfl
      rw [e1, e2]
      simp
      omega
  · omega
theorem costs_law {calls : List Int} {m : Int} {c : List I} (hcode : codeB c = true) (hc : ∀ z ∈ calls, 0 ≤ z ∧ z ≤ 1000) (hm : 0 ≤ m ∧ m ≤ 1000) :
    1 ≤ longP calls c ∧ longP calls c ≤ allP calls c c.length ∧ longP calls c ≤ longP (calls.map (fun z => z + m)) c ∧ longP (calls.map (fun z => z + m)) c ≤ longP calls c + (c.length : Int) * m ∧ longP [] c ≤ (c.length : Int) := by
  have hl := codeB_len hcode
  have h1 := bst_pos calls c c.length c.length hl.1
  have h2 := (bst_all calls c c.length c.length).2
  have h3 := (bst_more hm.1 (more_map hc hm) c c.length c.length).2
  have h4 := (bst_all [] c c.length c.length).2
  rw [allP_nil] at h4
  have hlm : 0 ≤ (c.length : Int) * m := Int.mul_nonneg (Int.natCast_nonneg _) hm.1
  simp only [longP, hcode, if_true]
  generalize (c.length : Int) * m = lm at *
  exact ⟨by omega, by omega, by omega, by omega, by omega⟩
theorem costs_no {calls : List Int} {c : List I} (h : codeB c = false) : longP calls c = 0 := by simp [longP, h]
end Go.Proofs.YtdgfklmbglfbfaaDoor
