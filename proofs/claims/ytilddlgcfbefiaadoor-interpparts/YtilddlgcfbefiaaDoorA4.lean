/-
  What the reference's May of schemas returns, as contracts over the translated program.
-/
import Derived.Test.YtilddlgcfbefiaaDoorGpt
namespace Go.Proofs.YtilddlgcfbefiaaDoor
set_option linter.unusedSimpArgs false
set_option linter.unusedVariables false
open Go.RowKit

abbrev scV (k c n v : Int) : Value := .agg #[.int .i64 k, .int .i64 c, .int .i64 n, .int .i64 v]
abbrev scO (k c n v : Int) : Obj := .cells #[.int .i64 k, .int .i64 c, .int .i64 n, .int .i64 v] 39
abbrev scA (k c n v : Int) : Array Value := #[.int .i64 k, .int .i64 c, .int .i64 n, .int .i64 v]

def MayPost (k c n v : Int) (w : World) (e : Ending) (w' : World) : Prop := ∃ b, e = .returned (.bool b) ∧ (b = true ↔ mayS k c n v = true) ∧ Below w.heap.size w w'
theorem mayPost_mk {k c n v : Int} {w : World} {b : Bool} {w' : World} (h : b = true ↔ 0 ≤ k ∧ k ≤ 3 ∧ 1 ≤ c ∧ c ≤ 16 ∧ 1 ≤ n ∧ n ≤ 4 ∧ (k = 3 → n = 1) ∧ 0 ≤ v ∧ v ≤ 1000) (hb : Below w.heap.size w w') : MayPost k c n v w (.returned (.bool b)) w' := ⟨b, rfl, h.trans mayS_iff.symm, hb⟩
set_option maxHeartbeats 4000000 in
theorem rmay_post (k c n v : Int) (w : World) : Calls Tryd.prog 99 #[scV k c n v] w (MayPost k c n v w) := by
  go_enter Tryd.func99, Tryd.ntmps99
  go_wp2
  all_goals go_ret
  all_goals refine mayPost_mk ?_ ((Below.refl _ _).alloc (Nat.le_refl _) _)
  all_goals (simp; try omega)
theorem rmay_any (k c n v : Int) (w : World) :
    Calls Tryd.prog 99 #[scV k c n v] w fun e w' => e = .returned (.bool (mayS k c n v)) ∧ Below w.heap.size w w' := by
  refine (rmay_post k c n v w).mono ?_
  rintro e w' ⟨b, rfl, h, hb⟩
  exact ⟨by rw [show b = mayS k c n v from Bool.eq_iff_iff.2 h], hb⟩
end Go.Proofs.YtilddlgcfbefiaaDoor
