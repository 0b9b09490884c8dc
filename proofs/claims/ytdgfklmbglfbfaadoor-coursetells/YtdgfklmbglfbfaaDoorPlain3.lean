/-
  Programs as plain lists: instructions, functions, what is valid.
-/
import Derived.Test.YtdgfklmbglfbfaaDoorPlain2
import Derived.Test.YtdgfklmbglfbfaaDoorKitG
namespace Go.Proofs.YtdgfklmbglfbfaaDoor

/- an instruction: Op, Fn, Dst, Src, Reg, Off, Imm -/
abbrev I : Type := Int × Int × Int × Int × Bool × Int × Int
/- a function: its Args, its code -/
abbrev Fun : Type := Int × List I
instance instDecI : DecidableEq I := fun a b => (inferInstance : Decidable (a = b))
instance instDecLI : DecidableEq (List I) := fun a b => @instDecidableEqList I instDecI a b
instance instDecFun : DecidableEq Fun := fun a b => @instDecidableEqProd Int (List I) inferInstance instDecLI a b
instance instDecLF : DecidableEq (List Fun) := fun a b => @instDecidableEqList Fun instDecFun a b
def mayI (i : I) : Bool := mayB i.1 i.2.1 i.2.2.1 i.2.2.2.1 i.2.2.2.2.1 i.2.2.2.2.2.1 i.2.2.2.2.2.2
def okI (i : I) : Prop := 0 ≤ i.2.2.2.2.2.2 ∧ i.2.2.2.2.2.2 ≤ 4294967295
def zeroI : I := (0, 0, 0, 0, false, 0, 0)
/- has a function a code that may be -/
def codeB (c : List I) : Bool := c.all mayI && (decide (1 ≤ c.length) && decide (c.length ≤ 64))
theorem codeB_false {c : List I} {k : Nat} (hk : k < c.length) (h : mayI (c.getD k zeroI) = false) : codeB c = false := by
  have : c.all mayI = false := by
    rw [List.all_eq_false]
    exact ⟨_, getD_mem c k zeroI hk, by rw [h]; simp⟩
  simp [codeB, this]
theorem codeB_end {c : List I} (h : ∀ j, j < c.length → mayI (c.getD j zeroI) = true) : codeB c = (decide (1 ≤ c.length) && decide (c.length ≤ 64)) := by
  have : c.all mayI = true := by
    rw [List.all_eq_true]
    intro x hx
    obtain ⟨j, hj, rfl⟩ := List.getElem_of_mem hx
    have := h j hj
    rwa [List.getD_eq_getElem?_getD, List.getElem?_eq_getElem hj] at this
  simp [codeB, this]
end Go.Proofs.YtdgfklmbglfbfaaDoor
