/-
  What package schema's within, maxWords, May, Room and Step, and the reference's May, Room and Step return, as contracts over the translated program.
-/
import Derived.Test.YtbihfaplhjbfeaaPlain
namespace Go.Proofs.Ytbihfaplhjbfeaa
open Go.RowKit

abbrev scV (k c n v : Int) : Value := .agg #[.int .i64 k, .int .i64 c, .int .i64 n, .int .i64 v]
abbrev scO (k c n v : Int) : Obj := .cells #[.int .i64 k, .int .i64 c, .int .i64 n, .int .i64 v] 25
abbrev scA (k c n v : Int) : Array Value := #[.int .i64 k, .int .i64 c, .int .i64 n, .int .i64 v]

theorem within_any (n lo hi : Int) (w : World) : Calls Try.prog 24 #[.int .i64 n, .int .i64 lo, .int .i64 hi] w fun e w' => e = .returned (.bool (wthn n lo hi)) ∧ w' = w := by
  by_cases h : lo ≤ n
  · go_enter Try.func24, Try.ntmps24
    go_wp2
    go_ret
    exact ⟨by simp [wthn, h], rfl⟩
  · go_enter Try.func24, Try.ntmps24
    go_wp2
    go_ret
    exact ⟨by simp [wthn]; omega, rfl⟩
theorem maxW_any (k : Int) (w : World) : Calls Try.prog 25 #[.int .i64 k] w fun e w' => e = .returned (.int .i64 (maxW k)) ∧ w' = w := by
  by_cases h : k = 3
  · have HM : Hid (maxW k = 1) := Lib.hid (by simp [maxW, h])
    have h1 : (k == 3) = true := by simpa using h
    go_enter Try.func25, Try.ntmps25
    go_wp2
    go_ret
    exact ⟨by rw [HM.out]; rfl, rfl⟩
  · have HM : Hid (maxW k = 4) := Lib.hid (by simp [maxW, h])
    have h1 : (k == 3) = false := by simpa using h
    go_enter Try.func25, Try.ntmps25
    go_wp2
    go_ret
    exact ⟨by rw [HM.out]; rfl, rfl⟩

theorem within_is (n lo hi : Int) (w : World) (b : Bool) (h : wthn n lo hi = b) : Calls Try.prog 24 #[.int .i64 n, .int .i64 lo, .int .i64 hi] w fun e w' => e = .returned (.bool b) ∧ w' = w := by
  subst h
  exact within_any n lo hi w
set_option maxHeartbeats 1000000 in
theorem may_any (k c n v : Int) (w : World) :
    Calls Try.prog 16 #[scV k c n v] w fun e w' => e = .returned (.bool (mayS k c n v)) ∧ Below w.heap.size w w' := by
  have hg : Below w.heap.size w (w.alloc (scO k c n v)) := (Below.refl _ _).alloc (Nat.le_refl _) _
  rcases h1 : wthn k 0 3 with _ | _
  · go_enter Try.func16, Try.ntmps16
    go_wp2
    go_quiet (first | (go_at_call 24; exact Calls.quiet_of_same (within_is _ _ _ _ _ h1)) | (go_at_call 25; exact Calls.quiet_of_same (maxW_any _ _)))
    go_wp2
    go_ret
    exact ⟨by simp [mayS, h1], belowDrewN hg _⟩
  rcases h2 : wthn c 1 16 with _ | _
  · go_enter Try.func16, Try.ntmps16
    go_wp2
    go_quiet (first | (go_at_call 24; exact Calls.quiet_of_same (within_is _ _ _ _ _ h1)) | (go_at_call 24; exact Calls.quiet_of_same (within_is _ _ _ _ _ h2)) | (go_at_call 25; exact Calls.quiet_of_same (maxW_any _ _)))
    go_wp2
    go_ret
    exact ⟨by simp [mayS, h2], belowDrewN hg _⟩
  rcases h3 : wthn n 1 (maxW k) with _ | _
  · go_enter Try.func16, Try.ntmps16
    go_wp2
    go_quiet (first | (go_at_call 24; exact Calls.quiet_of_same (within_is _ _ _ _ _ h1)) | (go_at_call 24; exact Calls.quiet_of_same (within_is _ _ _ _ _ h2)) | (go_at_call 24; exact Calls.quiet_of_same (within_is _ _ _ _ _ h3)) | (go_at_call 25; exact Calls.quiet_of_same (maxW_any _ _)))
    go_wp2
    go_ret
    exact ⟨by simp [mayS, h3], belowDrewN hg _⟩
  rcases h4 : wthn v 0 1000 with _ | _
  · go_enter Try.func16, Try.ntmps16
    go_wp2
    go_quiet (first | (go_at_call 24; exact Calls.quiet_of_same (within_is _ _ _ _ _ h1)) | (go_at_call 24; exact Calls.quiet_of_same (within_is _ _ _ _ _ h2)) | (go_at_call 24; exact Calls.quiet_of_same (within_is _ _ _ _ _ h3)) | (go_at_call 24; exact Calls.quiet_of_same (within_is _ _ _ _ _ h4)) | (go_at_call 25; exact Calls.quiet_of_same (maxW_any _ _)))
    go_wp2
    go_ret
    exact ⟨by simp [mayS, h4], belowDrewN hg _⟩
  · go_enter Try.func16, Try.ntmps16
    go_wp2
    go_quiet (first | (go_at_call 24; exact Calls.quiet_of_same (within_is _ _ _ _ _ h1)) | (go_at_call 24; exact Calls.quiet_of_same (within_is _ _ _ _ _ h2)) | (go_at_call 24; exact Calls.quiet_of_same (within_is _ _ _ _ _ h3)) | (go_at_call 24; exact Calls.quiet_of_same (within_is _ _ _ _ _ h4)) | (go_at_call 25; exact Calls.quiet_of_same (maxW_any _ _)))
    go_wp2
    go_ret
    exact ⟨by simp [mayS, h1, h2, h3, h4], belowDrewN hg _⟩

def MayPost (k c n v : Int) (w : World) (e : Ending) (w' : World) : Prop := ∃ b, e = .returned (.bool b) ∧ (b = true ↔ mayS k c n v = true) ∧ Below w.heap.size w w'
theorem mayPost_mk {k c n v : Int} {w : World} {b : Bool} {w' : World} (h : b = true ↔ 0 ≤ k ∧ k ≤ 3 ∧ 1 ≤ c ∧ c ≤ 16 ∧ 1 ≤ n ∧ n ≤ 4 ∧ (k = 3 → n = 1) ∧ 0 ≤ v ∧ v ≤ 1000) (hb : Below w.heap.size w w') : MayPost k c n v w (.returned (.bool b)) w' := ⟨b, rfl, h.trans mayS_iff.symm, hb⟩
set_option maxHeartbeats 4000000 in
theorem rmay_post (k c n v : Int) (w : World) : Calls Try.prog 17 #[scV k c n v] w (MayPost k c n v w) := by
  go_enter Try.func17, Try.ntmps17
  go_wp2
  all_goals go_ret
  all_goals refine mayPost_mk ?_ ((Below.refl _ _).alloc (Nat.le_refl _) _)
  all_goals (simp; try omega)
theorem rmay_any (k c n v : Int) (w : World) :
    Calls Try.prog 17 #[scV k c n v] w fun e w' => e = .returned (.bool (mayS k c n v)) ∧ Below w.heap.size w w' := by
  refine (rmay_post k c n v w).mono ?_
  rintro e w' ⟨b, rfl, h, hb⟩
  exact ⟨by rw [show b = mayS k c n v from Bool.eq_iff_iff.2 h], hb⟩
end Go.Proofs.Ytbihfaplhjbfeaa
