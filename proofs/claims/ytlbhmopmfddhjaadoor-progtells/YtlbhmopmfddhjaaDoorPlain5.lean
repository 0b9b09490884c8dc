/-
  A program's bytes, as plain lists, and how many they are.
-/
import Derived.Test.YtlbhmopmfddhjaaDoorPlain4
import Derived.Test.YtlbhmopmfddhjaaDoorP
namespace Go.Proofs.YtlbhmopmfddhjaaDoor

def encI (i : I) : List Int := encL i.1 i.2.1 i.2.2.1 i.2.2.2.1 i.2.2.2.2.1 i.2.2.2.2.2.1 i.2.2.2.2.2.2
def encC (c : List I) : List Int := c.flatMap encI
def encF (f : Fun) : List Int := f.1 :: (f.2.length : Int) :: encC f.2
def encFs (fs : List Fun) : List Int := fs.flatMap encF
def encP (fs : List Fun) : List Int := 88 :: 86 :: (fs.length : Int) :: encFs fs
theorem encI_len (i : I) : (encI i).length = 8 := rfl
theorem encC_len : ∀ (c : List I), (encC c).length = 8 * c.length
  | [] => rfl
  | i :: c => by
    have h := encC_len c
    simp only [encC, List.flatMap_cons, List.length_append, List.length_cons, encI_len] at h ⊢
    omega
theorem encF_len (f : Fun) : (encF f).length = 2 + 8 * f.2.length := by
  simp only [encF, List.length_cons, encC_len]
  omega
theorem take_getD {α : Type} (l : List α) (k : Nat) (z : α) (h : k < l.length) : l.take (k + 1) = l.take k ++ [l.getD k z] := by
  rw [List.take_succ_eq_append_getElem h, List.getD_eq_getElem?_getD, List.getElem?_eq_getElem h]
  rfl
theorem encC_take (c : List I) (k : Nat) (h : k < c.length) : encC (c.take (k + 1)) = encC (c.take k) ++ encI (c.getD k zeroI) := by
  rw [take_getD c k zeroI h]
  simp [encC]
theorem encFs_take (fs : List Fun) (k : Nat) (h : k < fs.length) : encFs (fs.take (k + 1)) = encFs (fs.take k) ++ encF (fs.getD k zeroF) := by
  rw [take_getD fs k zeroF h]
  simp [encFs]
theorem encFs_le : ∀ (fs : List Fun), (∀ f ∈ fs, f.2.length ≤ 64) → (encFs fs).length ≤ 514 * fs.length
  | [], _ => by simp [encFs]
  | f :: fs, h => by
    have h1 := encFs_le fs (fun g hg => h g (by simp [hg]))
    have h2 := h f (by simp)
    have h3 := encF_len f
    simp only [encFs, List.flatMap_cons, List.length_append, List.length_cons] at h1 ⊢
    omega
theorem mayP_len {fs : List Fun} (h : mayP fs = true) : 1 ≤ fs.length ∧ fs.length ≤ 8 := by
  simp only [mayP, Bool.and_eq_true, decide_eq_true_eq] at h
  exact h.2
theorem mayP_fn {fs : List Fun} (h : mayP fs = true) (k : Nat) (hk : k < fs.length) : fnB k (fs.getD k zeroF) = true := by
  simp only [mayP, Bool.and_eq_true] at h
  have := fnsB_at fs 0 k hk h.1
  rwa [Nat.zero_add] at this
theorem fnB_facts {k : Nat} {f : Fun} (h : fnB k f = true) : codeB f.2 = true ∧ 0 ≤ f.1 ∧ f.1 ≤ 4 ∧ (k = 0 → f.1 = 0) := by
  simp only [fnB, Bool.and_eq_true, decide_eq_true_eq, Bool.or_eq_true, beq_iff_eq] at h
  exact ⟨h.1, h.2.1, h.2.2.1, fun hk => (h.2.2.2.resolve_left (fun hn => hn hk))⟩
theorem codeB_len {c : List I} (h : codeB c = true) : 1 ≤ c.length ∧ c.length ≤ 64 := by
  simp only [codeB, Bool.and_eq_true, decide_eq_true_eq] at h
  exact h.2
theorem codeB_may {c : List I} (h : codeB c = true) (k : Nat) (hk : k < c.length) : mayI (c.getD k zeroI) = true := by
  simp only [codeB, Bool.and_eq_true] at h
  exact List.all_eq_true.1 h.1 _ (getD_mem c k zeroI hk)
theorem encFs_take_le {fs : List Fun} (h : mayP fs = true) (k : Nat) (hk : k ≤ fs.length) : (encFs (fs.take k)).length ≤ 514 * k := by
  have h1 := encFs_le (fs.take k) (fun f hf => by
    obtain ⟨j, hj, rfl⟩ := List.getElem_of_mem (List.mem_of_mem_take hf)
    have h2 := codeB_len (fnB_facts (mayP_fn h j hj)).1
    rw [List.getD_eq_getElem?_getD, List.getElem?_eq_getElem hj] at h2
    exact h2.2)
  rw [List.length_take] at h1
  omega
end Go.Proofs.YtlbhmopmfddhjaaDoor
