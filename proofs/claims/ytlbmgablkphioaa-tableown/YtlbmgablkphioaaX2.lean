/-
  A variable that holds a table beside another one.
-/
import Derived.Test.YtlbmgablkphioaaX1
import Derived.Test.YtlbmgablkphioaaPL3
namespace Go.Proofs.Ytlbmgablkphioaa
open Go Go.RowKit
set_option linter.unusedVariables false

section
variable {w W W' : World} {T T' : Nat} {t t' : Tb} {V u : Value} {cs cs' : Array Value}
theorem Vr.ents {b : Option Addr} {n p : Nat} (h : Vr w W T t (.slice b n p)) : EntsAt W b n p t.2.1 := by
  obtain ⟨b', p', hq, hE⟩ := h.at
  simp only [Value.slice.injEq] at hq
  obtain ⟨rfl, rfl, rfl⟩ := hq
  exact hE
theorem Vr.put (h : Vr w W T t V) (hr : Row W w.heap.size u t'.2.1) : Vr w (W.setRow T (tbA t'.1 u t'.2.2)) T t' u :=
  ⟨below_setRow h.1 h.2.2.2 _, setRow_heap _ _ _ _ _ _ h.2.1, hr.apart h.2.1 (grownBy_setRow _ _ _), h.2.2.2⟩
theorem Vr.beside (h : Vr w W T t V) (hB : Box W T' 27 cs) (hT' : w.heap.size ≤ T') (hne : T ≠ T') : Vr w (W.setRow T' cs') T t V :=
  ⟨below_setRow h.1 hT' _, (setRow_other W T' T _ hne).trans h.2.1, h.2.2.1.apart hB (grownBy_setRow _ _ _), h.2.2.2⟩
theorem Vr.fresh (h : Below w.heap.size w W) (hB : Box W T 27 zeroTA) (hT : w.heap.size ≤ T) : Vr w W T (zeroS, [], 0) (.slice none 0 0) := ⟨h, hB, Row.nil _ _, hT⟩
end
theorem belowA (W : World) (o : Obj) : Below W.heap.size W (W.alloc o) := (Below.refl _ _).alloc (Nat.le_refl _) _
end Go.Proofs.Ytlbmgablkphioaa
