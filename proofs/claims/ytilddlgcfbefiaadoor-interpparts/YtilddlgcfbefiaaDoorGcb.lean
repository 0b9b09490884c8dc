/-
  Texts that the laws of this layer stand on, one behind the other.
-/
import Derived.Test.YtilddlgcfbefiaaDoorGca
import Derived.Test.YtilddlgcfbefiaaDoorKitG
/-
  Programs as plain lists: instructions, functions, what is valid.
-/
namespace Go.Proofs.YtilddlgcfbefiaaDoor
set_option linter.unusedSimpArgs false
set_option linter.unusedVariables false

/- an instruction: Op, Fn, Dst, Src, Reg, Off, Imm -/
abbrev I : Type := Int × Int × Int × Int × Bool × Int × Int
/- a function: its Args, its code -/
abbrev Fun : Type := Int × List I
instance instDecI : DecidableEq I := fun a b => (inferInstance : Decidable (a = b))
instance instDecLI : DecidableEq (List I) := fun a b => @instDecidableEqList I instDecI a b
instance instDecFun : DecidableEq Fun := fun a b => @instDecidableEqProd Int (List I) inferInstance instDecLI a b
instance instDecLF : DecidableEq (List Fun) := fun a b => @instDecidableEqList Fun instDecFun a b
def mayI (i : I) : Bool := pmayB i.1 i.2.1 i.2.2.1 i.2.2.2.1 i.2.2.2.2.1 i.2.2.2.2.2.1 i.2.2.2.2.2.2
def okI (i : I) : Prop := 0 ≤ i.2.2.2.2.2.2 ∧ i.2.2.2.2.2.2 ≤ 4294967295
def zeroI : I := (0, 0, 0, 0, false, 0, 0)
/- has a function a code that may be -/
def codeB (c : List I) : Bool := c.all mayI && (decide (1 ≤ c.length) && decide (c.length ≤ 64))
theorem codeB_false {c : List I} {k : Nat} (hk : k < c.length) (h : mayI (c.getD k zeroI) = false) : codeB c = false := by
  have : c.all mayI = false := by
    rw [List.all_eq_false]
    exact ⟨_, getD_mem c k zeroI hk, by rw [h]; simp⟩
  simp [codeB, this]
theorem codeB_end {c : List I} (h : ∀ j, j < c.length → mayI (c.getD j zeroI) = true) : codeB c = (decide (1 ≤ c.length) && decide (c.length ≤ 64)) := by
  have : c.all mayI = true := by
    rw [List.all_eq_true]
    intro x hx
    obtain ⟨j, hj, rfl⟩ := List.getElem_of_mem hx
    have := h j hj
    rwa [List.getD_eq_getElem?_getD, List.getElem?_eq_getElem hj] at this
  simp [codeB, this]
end Go.Proofs.YtilddlgcfbefiaaDoor

/-
  Programs as plain lists, continued: valid programs, their bytes, the program that bytes are.
-/
namespace Go.Proofs.YtilddlgcfbefiaaDoor
set_option linter.unusedSimpArgs false
set_option linter.unusedVariables false

def zeroF : Fun := (0, [])
/- may function number k be -/
def fnB (k : Nat) (f : Fun) : Bool := codeB f.2 && (decide (0 ≤ f.1) && (decide (f.1 ≤ 4) && (decide (k ≠ 0) || (f.1 == 0))))
def fnsB : Nat → List Fun → Bool
  | _, [] => true
  | k, f :: fs => fnB k f && fnsB (k + 1) fs
def mayP (fs : List Fun) : Bool := fnsB 0 fs && (decide (1 ≤ fs.length) && decide (fs.length ≤ 8))
theorem fnsB_at : ∀ (fs : List Fun) (b k : Nat), k < fs.length → fnsB b fs = true → fnB (b + k) (fs.getD k zeroF) = true
  | [], _, _, h, _ => by simp at h
  | f :: fs, b, 0, _, h => by
    simp only [fnsB, Bool.and_eq_true] at h
    simpa using h.1
  | f :: fs, b, k + 1, hk, h => by
    simp only [fnsB, Bool.and_eq_true] at h
    have := fnsB_at fs (b + 1) k (by simpa using hk) h.2
    rw [show b + (k + 1) = b + 1 + k by omega]
    simpa using this
theorem fnsB_of : ∀ (fs : List Fun) (b : Nat), (∀ k, k < fs.length → fnB (b + k) (fs.getD k zeroF) = true) → fnsB b fs = true
  | [], _, _ => rfl
  | f :: fs, b, h => by
    simp only [fnsB, Bool.and_eq_true]
    refine ⟨by simpa using h 0 (by simp), fnsB_of fs (b + 1) fun k hk => ?_⟩
    have := h (k + 1) (by simpa using hk)
    rw [show b + (k + 1) = b + 1 + k by omega] at this
    simpa using this
theorem mayP_false {fs : List Fun} {k : Nat} (hk : k < fs.length) (h : fnB k (fs.getD k zeroF) = false) : mayP fs = false := by
  rcases hb : fnsB 0 fs with _ | _
  · simp [mayP, hb]
  · have := fnsB_at fs 0 k hk hb
    rw [Nat.zero_add, h] at this
    cases this
theorem mayP_end {fs : List Fun} (h : ∀ k, k < fs.length → fnB k (fs.getD k zeroF) = true) : mayP fs = (decide (1 ≤ fs.length) && decide (fs.length ≤ 8)) := by
  have : fnsB 0 fs = true := fnsB_of fs 0 (fun k hk => by rw [Nat.zero_add]; exact h k hk)
  simp [mayP, this]

/- not too great -/
def fewP (fs : List Fun) : Bool := decide (fs.length ≤ 12) && fs.all fun f => decide (f.2.length ≤ 80)
theorem fewP_false {fs : List Fun} {k : Nat} (hk : k < fs.length) (h : ¬ (fs.getD k zeroF).2.length ≤ 80) : fewP fs = false := by
  have : (fs.all fun f => decide (f.2.length ≤ 80)) = false := by
    rw [List.all_eq_false]
    exact ⟨_, getD_mem fs k zeroF hk, by simpa using h⟩
  simp [fewP, this]
theorem fewP_end {fs : List Fun} (h0 : fs.length ≤ 12) (h : ∀ k, k < fs.length → (fs.getD k zeroF).2.length ≤ 80) : fewP fs = true := by
  simp only [fewP, Bool.and_eq_true, decide_eq_true_eq, List.all_eq_true]
  refine ⟨h0, fun x hx => ?_⟩
  obtain ⟨j, hj, rfl⟩ := List.getElem_of_mem hx
  have := h j hj
  rwa [List.getD_eq_getElem?_getD, List.getElem?_eq_getElem hj] at this
end Go.Proofs.YtilddlgcfbefiaaDoor

