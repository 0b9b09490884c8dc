/-
  What the reference's May returns, as a contract over the translated program: the chapter's definition.
-/
import Derived.Test.YtdgfklmbglfbfaaDoorB
import Derived.Test.YtdgfklmbglfbfaaDoorPlain2
namespace Go.Proofs.YtdgfklmbglfbfaaDoor
open Go.RowKit
def RefPost (o f d s : Int) (r : Bool) (x m : Int) (w : World) (e : Ending) (w' : World) : Prop := ∃ b, e = .returned (.bool b) ∧ (b = true ↔ refP o f d s r x m) ∧ Below w.heap.size w w'
theorem refPost_mk {o f d s : Int} {r : Bool} {x m : Int} {w : World} {b : Bool} {w' : World} (h : b = true ↔ refP o f d s r x m) (hb : Below w.heap.size w w') : RefPost o f d s r x m w (.returned (.bool b)) w' := ⟨b, rfl, h, hb⟩
set_option maxHeartbeats 4000000 in
theorem ref_may_f (o f d s x m : Int) (w : World) :
    Calls Tryd.prog 43 #[instV o f d s false x m] w (RefPost o f d s false x m w) := by
  go_enter Tryd.func43, Tryd.ntmps43
  go_wp2
  all_goals go_ret
  all_goals refine refPost_mk ?_ ((Below.refl _ _).alloc (Nat.le_refl _) _)
  all_goals (try simp only [bne_iff_ne, bne_eq_false_iff_eq, ne_eq] at *)
  all_goals (simp [refP]; try omega)
set_option maxHeartbeats 4000000 in
theorem ref_may_t (o f d s x m : Int) (w : World) :
    Calls Tryd.prog 43 #[instV o f d s true x m] w (RefPost o f d s true x m w) := by
  go_enter Tryd.func43, Tryd.ntmps43
  go_wp2
  all_goals go_ret
  all_goals refine refPost_mk ?_ ((Below.refl _ _).alloc (Nat.le_refl _) _)
  all_goals (try simp only [bne_iff_ne, bne_eq_false_iff_eq, ne_eq] at *)
  all_goals (simp [refP]; try omega)
theorem ref_may (o f d s : Int) (r : Bool) (x m : Int) (w : World) (h0 : 0 ≤ m) (hm : m ≤ 4294967295) :
    Calls Tryd.prog 43 #[instV o f d s r x m] w fun e w' => e = .returned (.bool (mayB o f d s r x m)) ∧ Below w.heap.size w w' := by
  have key : ∀ b : Bool, (b = true ↔ refP o f d s r x m) → b = mayB o f d s r x m := fun b h => by
    rw [Bool.eq_iff_iff, h, mayB_iff h0 hm]
  cases r
  · refine (ref_may_f o f d s x m w).mono ?_
    rintro e w' ⟨b, rfl, h, hb⟩
    exact ⟨by rw [key b h], hb⟩
  · refine (ref_may_t o f d s x m w).mono ?_
    rintro e w' ⟨b, rfl, h, hb⟩
    exact ⟨by rw [key b h], hb⟩
end Go.Proofs.YtdgfklmbglfbfaaDoor
