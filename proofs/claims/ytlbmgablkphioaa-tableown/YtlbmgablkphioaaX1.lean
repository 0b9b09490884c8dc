/-
  Variables that hold tables, as the laws read them.
-/
import Derived.Test.YtlbmgablkphioaaW4
import Derived.Test.YtlbmgablkphioaaW2
import Derived.Test.YtlbmgablkphioaaOT
import Derived.Test.YtlbmgablkphioaaTZ
import Derived.Test.YtlbmgablkphioaaTP
import Derived.Test.YtlbmgablkphioaaTQ
import Derived.Test.YtlbmgablkphioaaTD
namespace Go.Proofs.Ytlbmgablkphioaa
open Go Go.RowKit
set_option linter.unusedVariables false

def Vt (W : World) (T : Nat) (t : Tb) (b : Option Addr) (n c : Nat) : Prop := Box W T 27 (tbA t.1 (.slice b n c) t.2.2) ∧ EntsAt W b n c t.2.1
section
variable {W W' : World} {T n c : Nat} {t : Tb} {b : Option Addr}
theorem Vt.later (h : Vt W T t b n c) (hb : Below W.heap.size W W') : Vt W' T t b n c := ⟨h.1.later hb, h.2.below hb⟩
theorem Vt.new {es : List Ent} {s : Sc} {x : Int} (h : EntsAt W b n c es) : Vt (W.alloc (.cells (tbA s (.slice b n c) x) 27)) W.heap.size (s, es, x) b n c := ⟨Box.new _ _ _, h.below ((Below.refl _ _).alloc (Nat.le_refl _) _)⟩
theorem Vt.tb (h : Vt W T t b n c) : TbAt W T t.1 (.slice b n c) t.2.2 := Box.tb h.1
end
theorem fewE_of {t : Tb} (h : fewT t = true) : fewE t.2.1 := by
  simp only [fewT, Bool.and_eq_true, decide_eq_true_iff, List.all_eq_true] at h
  exact ⟨by omega, fun e he => by have := h.2 e he; omega⟩
end Go.Proofs.Ytlbmgablkphioaa
