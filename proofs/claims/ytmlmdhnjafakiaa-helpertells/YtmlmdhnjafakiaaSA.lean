/-
  What package schema's within, maxWords and May return, as contracts over the translated program.
-/
import Derived.Test.YtmlmdhnjafakiaaA4
namespace Go.Proofs.Ytmlmdhnjafakiaa
open Go.RowKit

theorem within_any (n lo hi : Int) (w : World) : Calls Try.prog 46 #[.int .i64 n, .int .i64 lo, .int .i64 hi] w fun e w' => e = .returned (.bool (wthn n lo hi)) ∧ w' = w := by
  by_cases h : lo ≤ n
  · go_enter Try.func46, Try.ntmps46
    go_wp2
    go_ret
    exact ⟨by simp [wthn, h], rfl⟩
  · go_enter Try.func46, Try.ntmps46
    go_wp2
    go_ret
    exact ⟨by simp [wthn]; omega, rfl⟩
theorem maxW_any (k : Int) (w : World) : Calls Try.prog 47 #[.int .i64 k] w fun e w' => e = .returned (.int .i64 (maxW k)) ∧ w' = w := by
  by_cases h : k = 3
  · have HM : Hid (maxW k = 1) := Lib.hid (by simp [maxW, h])
    have h1 : (k == 3) = true := by simpa using h
    go_enter Try.func47, Try.ntmps47
    go_wp2
    go_ret
    exact ⟨by rw [HM.out]; rfl, rfl⟩
  · have HM : Hid (maxW k = 4) := Lib.hid (by simp [maxW, h])
    have h1 : (k == 3) = false := by simpa using h
    go_enter Try.func47, Try.ntmps47
    go_wp2
    go_ret
    exact ⟨by rw [HM.out]; rfl, rfl⟩

theorem within_is (n lo hi : Int) (w : World) (b : Bool) (h : wthn n lo hi = b) : Calls Try.prog 46 #[.int .i64 n, .int .i64 lo, .int .i64 hi] w fun e w' => e = .returned (.bool b) ∧ w' = w := by
  subst h
  exact within_any n lo hi w
set_option maxHeartbeats 1000000 in
theorem may_any (k c n v : Int) (w : World) :
    Calls Try.prog 28 #[scV k c n v] w fun e w' => e = .returned (.bool (mayS k c n v)) ∧ Below w.heap.size w w' := by
  have hg : Below w.heap.size w (w.alloc (scO k c n v)) := (Below.refl _ _).alloc (Nat.le_refl _) _
  rcases h1 : wthn k 0 3 with _ | _
  · go_enter Try.func28, Try.ntmps28
    go_wp2
    go_quiet (first | (go_at_call 46; exact Calls.quiet_of_same (within_is _ _ _ _ _ h1)) | (go_at_call 47; exact Calls.quiet_of_same (maxW_any _ _)))
    go_wp2
    go_ret
    exact ⟨by simp [mayS, h1], belowDrewN hg _⟩
  rcases h2 : wthn c 1 16 with _ | _
  · go_enter Try.func28, Try.ntmps28
    go_wp2
    go_quiet (first | (go_at_call 46; exact Calls.quiet_of_same (within_is _ _ _ _ _ h1)) | (go_at_call 46; exact Calls.quiet_of_same (within_is _ _ _ _ _ h2)) | (go_at_call 47; exact Calls.quiet_of_same (maxW_any _ _)))
    go_wp2
    go_ret
    exact ⟨by simp [mayS, h2], belowDrewN hg _⟩
  rcases h3 : wthn n 1 (maxW k) with _ | _
  · go_enter Try.func28, Try.ntmps28
    go_wp2
    go_quiet (first | (go_at_call 46; exact Calls.quiet_of_same (within_is _ _ _ _ _ h1)) | (go_at_call 46; exact Calls.quiet_of_same (within_is _ _ _ _ _ h2)) | (go_at_call 46; exact Calls.quiet_of_same (within_is _ _ _ _ _ h3)) | (go_at_call 47; exact Calls.quiet_of_same (maxW_any _ _)))
    go_wp2
    go_ret
    exact ⟨by simp [mayS, h3], belowDrewN hg _⟩
  rcases h4 : wthn v 0 1000 with _ | _
  · go_enter Try.func28, Try.ntmps28
    go_wp2
    go_quiet (first | (go_at_call 46; exact Calls.quiet_of_same (within_is _ _ _ _ _ h1)) | (go_at_call 46; exact Calls.quiet_of_same (within_is _ _ _ _ _ h2)) | (go_at_call 46; exact Calls.quiet_of_same (within_is _ _ _ _ _ h3)) | (go_at_call 46; exact Calls.quiet_of_same (within_is _ _ _ _ _ h4)) | (go_at_call 47; exact Calls.quiet_of_same (maxW_any _ _)))
    go_wp2
    go_ret
    exact ⟨by simp [mayS, h4], belowDrewN hg _⟩
  · go_enter Try.func28, Try.ntmps28
    go_wp2
    go_quiet (first | (go_at_call 46; exact Calls.quiet_of_same (within_is _ _ _ _ _ h1)) | (go_at_call 46; exact Calls.quiet_of_same (within_is _ _ _ _ _ h2)) | (go_at_call 46; exact Calls.quiet_of_same (within_is _ _ _ _ _ h3)) | (go_at_call 46; exact Calls.quiet_of_same (within_is _ _ _ _ _ h4)) | (go_at_call 47; exact Calls.quiet_of_same (maxW_any _ _)))
    go_wp2
    go_ret
    exact ⟨by simp [mayS, h1, h2, h3, h4], belowDrewN hg _⟩
end Go.Proofs.Ytmlmdhnjafakiaa
