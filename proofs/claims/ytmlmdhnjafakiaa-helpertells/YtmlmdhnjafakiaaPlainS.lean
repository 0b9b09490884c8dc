/-
  Schemas in plain numbers: which are valid, their room, how one follows another.
-/
import Derived.Test.YtmlmdhnjafakiaaKitG
namespace Go.Proofs.Ytmlmdhnjafakiaa

/- a schema: Kind, Cap, Words, Ver -/
abbrev Sc : Type := Int × Int × Int × Int
def zeroS : Sc := (0, 0, 0, 0)
def wthn (n lo hi : Int) : Bool := decide (lo ≤ n) && decide (n ≤ hi)
def maxW (k : Int) : Int := if k = 3 then 1 else 4
def mayS (k c n v : Int) : Bool := wthn k 0 3 && (wthn c 1 16 && (wthn n 1 (maxW k) && wthn v 0 1000))
theorem mayS_iff {k c n v : Int} : mayS k c n v = true ↔ 0 ≤ k ∧ k ≤ 3 ∧ 1 ≤ c ∧ c ≤ 16 ∧ 1 ≤ n ∧ n ≤ 4 ∧ (k = 3 → n = 1) ∧ 0 ≤ v ∧ v ≤ 1000 := by
  by_cases h : k = 3
  · simp only [mayS, wthn, maxW, if_pos h, Bool.and_eq_true, decide_eq_true_iff]
    omega
  · simp only [mayS, wthn, maxW, if_neg h, Bool.and_eq_true, decide_eq_true_iff]
    omega
def mayT (s : Sc) : Bool := mayS s.1 s.2.1 s.2.2.1 s.2.2.2
def mayL (ss : List Sc) : Bool := decide (ss.length ≤ 4) && ss.all mayT
theorem mayL_len {ss : List Sc} (h : mayL ss = true) : ss.length ≤ 4 := by
  simp only [mayL, Bool.and_eq_true, decide_eq_true_iff] at h
  exact h.1
theorem mayL_mem {ss : List Sc} (h : mayL ss = true) : ∀ s ∈ ss, mayT s = true := by
  simp only [mayL, Bool.and_eq_true, List.all_eq_true] at h
  exact h.2
theorem mayL_at {ss : List Sc} (h : mayL ss = true) (k : Nat) (hk : k < ss.length) : mayT (ss.getD k zeroS) = true := mayL_mem h _ (getD_mem ss k zeroS hk)
theorem mayL_end {ss : List Sc} (hl : ss.length ≤ 4) (h : ∀ j, j < ss.length → mayT (ss.getD j zeroS) = true) : mayL ss = true := by
  simp only [mayL, Bool.and_eq_true, decide_eq_true_iff, List.all_eq_true]
  refine ⟨hl, fun s hs => ?_⟩
  obtain ⟨j, hj, rfl⟩ := List.getElem_of_mem hs
  have := h j hj
  rwa [List.getD_eq_getElem?_getD, List.getElem?_eq_getElem hj] at this
theorem mayL_false {ss : List Sc} {k : Nat} (hk : k < ss.length) (h : mayT (ss.getD k zeroS) = false) : mayL ss = false := by
  rcases hM : mayL ss with _ | _
  · rfl
  · rw [mayL_at hM k hk] at h
    cases h
theorem mayL_long {ss : List Sc} (h : 4 < ss.length) : mayL ss = false := by
  simp only [mayL, Bool.and_eq_false_iff, decide_eq_false_iff_not]
  left
  omega
theorem mayL_append {a b : List Sc} (hl : (a ++ b).length ≤ 4) : mayL (a ++ b) = (mayL a && mayL b) := by
  have ha : a.length ≤ 4 := by rw [List.length_append] at hl; omega
  have hb : b.length ≤ 4 := by rw [List.length_append] at hl; omega
  simp [mayL, ha, hb, -List.length_append, hl]

/- room -/
def roomS (k c n v : Int) : Int := if mayS k c n v = true then c * (n + 1) else 0
/- how one follows another -/
def scEq (k c n v k' c' n' v' : Int) : Bool := (k == k') && ((c == c') && ((n == n') && (v == v')))
theorem scEq_self (k c n v : Int) : scEq k c n v k c n v = true := by simp [scEq]
theorem scEq_iff {k c n v k' c' n' v' : Int} : scEq k c n v k' c' n' v' = true ↔ k = k' ∧ c = c' ∧ n = n' ∧ v = v' := by simp [scEq]
def stepS (k c n v k' c' n' v' : Int) : Int :=
  if mayS k c n v = true ∧ mayS k' c' n' v' = true then (if scEq k c n v k' c' n' v' = true then 0 else if k = k' ∧ v' = v + 1 then 1 else 2) else 2

end Go.Proofs.Ytmlmdhnjafakiaa
