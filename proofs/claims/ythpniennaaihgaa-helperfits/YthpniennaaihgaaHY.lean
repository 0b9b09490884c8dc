/-
  A helper fits just what it can be called with, in plain numbers; an array of words that came in, opened.
-/
import Derived.Test.YthpniennaaihgaaHX
import Derived.Test.YthpniennaaihgaaGh
namespace Go.Proofs.Ythpniennaaihgaa
open Go.ChangeShapes Go.WideShapes Go.ChangeAt Go.RowKit Go.Deep
set_option linter.unusedVariables false
theorem open_cx {H : Type} {enc : TypeId × Value → H} {w : World} {base : Nat} {spare : Nat → Bool} {held : Bool} {r0 : Reach} {b0 : Nat} {v : Value} {dd : DataW H} {p : List MemPlace} (hv : Value.okWide Try.prog w r0 b0 23 v) (h : DataW.Trod enc Try.prog w base spare held 23 v dd p) :
    ∃ c : Cx, v = .agg #[.int .u32 c.1, .int .u32 c.2.1, .int .u32 c.2.2.1, .int .u32 c.2.2.2] ∧ isW c.1 ∧ isW c.2.1 ∧ isW c.2.2.1 ∧ isW c.2.2.2 := by
  simp only [Value.okWide, Try.underlying23] at hv
  obtain ⟨cs, rfl, _⟩ := hv
  obtain ⟨l⟩ := cs
  obtain ⟨fuel, hf⟩ := h
  obtain ⟨c, hc, hw⟩ := ctx_cells hf
  simp only [Value.cells] at hc
  subst hc
  exact ⟨c, rfl, hw⟩
theorem new_mayTb {s : Sc} (h : mayT s = true) : mayTb (newT s) = true := by
  by_cases h3 : s.1 = 3
  · rw [newT, if_pos h, if_neg (by omega)]
    refine mayTb_mk ?_ (fun i hi => by simp at hi)
    have hs := h
    rcases s with ⟨s0, s1, s2, s3⟩
    simp only [mayT, mayS_iff] at hs
    simp only at h3
    simp only [headB, h, Bool.and_eq_true, Bool.or_eq_true, decide_eq_true_iff, List.length_nil, true_and]
    omega
  · exact (new_vk h h3).may
/- what fits of the field that is asked for -/
def fieldP (n : Int) (s : Sc) (a2 : Int) : Bool := decide (¬ (n = 0 ∨ n = 1)) || decide (a2 < s.2.2.1)
theorem fits_law {n : Int} {s : Sc} {a1 a2 a3 : Int} (hs : mayT s = true) (h1 : 1 ≤ argsP n) (h4 : argsP n ≤ 4) :
    (callP n ((0, 0, 0, 0), [newT s], 0) ([0, a1, a2, a3].take (argsP n).toNat)).2.2 = if (fitsP n s && fieldP n s a2) = true then 0 else 10 := by
  have hlen : (([0, a1, a2, a3].take (argsP n).toNat).length : Int) = argsP n := by
    rw [List.length_take]
    simp
    omega
  have hn4 : n ≠ 4 := by
    intro h
    subst h
    simp [argsP] at h1
  have hg : ([0, a1, a2, a3].take (argsP n).toNat).getD 0 0 = ((0 : Nat) : Int) := by
    rw [List.getD_eq_getElem?_getD, List.getElem?_take, if_pos (by omega)]
    rfl
  have hsc : (newT s).1 = s := new_sc hs
  have hmo : mayOp n [newT s] ([0, a1, a2, a3].take (argsP n).toNat) = (fitsP n s && fieldP n s a2) := by
    rw [mayOp_in hg (by simp) rfl]
    show (fitsP n (newT s).1 && (mayTb (newT s) && (decide (¬ (n = 0 ∨ n = 1)) || decide (([0, a1, a2, a3].take (argsP n).toNat).getD 2 0 < (newT s).1.2.2.1)))) = _
    rw [hsc, new_mayTb hs, Bool.true_and]
    congr 1
    unfold fieldP
    by_cases hn : n = 0 ∨ n = 1
    · have h3 : 3 ≤ argsP n := (argsP_n hn4 (by omega)).2 hn
      have : ([0, a1, a2, a3].take (argsP n).toNat).getD 2 0 = a2 := by
        rw [List.getD_eq_getElem?_getD, List.getElem?_take, if_pos (by omega)]
        rfl
      rw [this]
    · simp [hn]
  rcases hm : (fitsP n s && fieldP n s a2) with _ | _
  · rw [callP_fault hlen hn4 (by rw [← hm]; exact hmo)]
    rfl
  · rw [callP_do hlen hn4 hg (by rw [← hm]; exact hmo)]
    rfl
theorem fits_args {n : Int} {s : Sc} (h : argsP n < 1) : fitsP n s = false := by
  unfold argsP at h
  unfold fitsP
  repeat' split at h
  all_goals first | omega | (simp_all; omega) | simp_all
theorem args_le (n : Int) : argsP n ≤ 4 := by
  unfold argsP
  repeat' split
  all_goals omega
end Go.Proofs.Ythpniennaaihgaa
