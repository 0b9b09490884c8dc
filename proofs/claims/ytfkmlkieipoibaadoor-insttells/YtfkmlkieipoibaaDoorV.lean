/-
  May and the reference's May called where three instructions lie in memory: these lie there still.
-/
import Derived.Test.YtfkmlkieipoibaaDoorR
import Derived.Test.YtfkmlkieipoibaaDoorC
namespace Go.Proofs.YtfkmlkieipoibaaDoor
open Go.RowKit

def SS (w W : World) (bi bx yb : Nat) (o f d s : Int) (r : Bool) (x m o' f' d' s' : Int) (r' : Bool) (x' m' : Int) : Prop :=
  InstAt W bi o f d s r x m ∧ InstAt W bx o' f' d' s' r' x' m' ∧ InstAt W yb o' f' d' s' r' x' m' ∧ RowsIn W ∧ Below w.heap.size w W
theorem SS.later {w W W' : World} {bi bx yb : Nat} {o f d s : Int} {r : Bool} {x m o' f' d' s' : Int} {r' : Bool} {x' m' : Int} (h : SS w W bi bx yb o f d s r x m o' f' d' s' r' x' m') (hg : Below W.heap.size W W') :
    SS w W' bi bx yb o f d s r x m o' f' d' s' r' x' m' :=
  ⟨h.1.below hg (lt_of_cell h.1.1), h.2.1.below hg (lt_of_cell h.2.1.1), h.2.2.1.below hg (lt_of_cell h.2.2.1.1), h.2.2.2.1.later hg, h.2.2.2.2.trans (hg.mono h.2.2.2.2.size)⟩
theorem may15 {w : World} {bi bx yb : Nat} {o f d s : Int} {r : Bool} {x m o' f' d' s' : Int} {r' : Bool} {x' m' : Int} (W : World) (h : SS w W bi bx yb o f d s r x m o' f' d' s' r' x' m') :
    Calls Tryd.prog 15 #[instV o f d s r x m] W fun e w' => e = .returned (.bool (mayB o f d s r x m)) ∧ SS w w' bi bx yb o f d s r x m o' f' d' s' r' x' m' :=
  (may_any o f d s r x m W h.2.2.2.1).mono fun _ _ hh => ⟨hh.1, h.later hh.2⟩
theorem may16 {w : World} {bi bx yb : Nat} {o f d s : Int} {r : Bool} {x m o' f' d' s' : Int} {r' : Bool} {x' m' : Int} (W : World) (h0 : 0 ≤ m) (hm : m ≤ 4294967295) (h : SS w W bi bx yb o f d s r x m o' f' d' s' r' x' m') :
    Calls Tryd.prog 16 #[instV o f d s r x m] W fun e w' => e = .returned (.bool (mayB o f d s r x m)) ∧ SS w w' bi bx yb o f d s r x m o' f' d' s' r' x' m' :=
  (ref_may o f d s r x m W h0 hm).mono fun _ _ hh => ⟨hh.1, h.later hh.2⟩
end Go.Proofs.YtfkmlkieipoibaaDoor
