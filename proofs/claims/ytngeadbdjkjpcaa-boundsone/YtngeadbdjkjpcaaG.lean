/-
  What package bounds' Cut returns, as contracts over the translated program.
-/
import Derived.Test.YtngeadbdjkjpcaaF
namespace Go.Proofs.Ytngeadbdjkjpcaa
open Go.RowKit

theorem cut0 (a b c d : Int) (h : W a b) (h' : W c d) (w : World) : Calls Try.prog 14 #[.int .i64 0, .complex .f64 (fl a) (fl b), .complex .f64 (fl c) (fl d)] w fun e w' => CutPost 0 a b c d w e w' := by
  have hi : ∀ w, (Instr.index 52 cutsV (.int .i64 0)).run Try.prog w = .ok (.func (.func 46) #[] #[]) w := fun _ => by kernel_rfl
  have hr : ∀ w, Calls Try.prog 46 #[.complex .f64 (fl a) (fl b), .complex .f64 (fl c) (fl d)] w fun e w' => Cx (cutX 0 a b c d) (cutY 0 a b c d) w e w' := fun w => k_keep a b c d h h' w
  unfold CutPost
  generalize cutX 0 a b c d = x at *
  generalize cutY 0 a b c d = y at *
  go_enter Try.func14, Try.ntmps14
  go_wp2_with fail
  go_region_held3 (fun w' => Grown w w') (first | exact Grown.refl _ | assumption | exact Grown.drew (by assumption) | exact grown_trans (by assumption) (by assumption))
    (first
      | (go_at_call 22; refine (cuts_any _).mono ?_; rintro e w1 ⟨rfl, hg1⟩)
      | (go_at_call 20; refine (orAll_ok _ _ (by assumption) _).mono ?_; rintro e w2 ⟨rfl, rfl⟩)
      | (go_at_call 46; refine (hr _).mono ?_; rintro e w3 ⟨r, i, rfl, f1, f2, hg3⟩))
  all_goals
    go_wp2_with fail
    refine (orAll_any _ _ _ _ f1 f2 _).mono ?_
    rintro e w4 ⟨rfl, rfl⟩
    go_wp2_with fail
    refine (may_any _ _ _ _ f1 f2 _).mono ?_
    rintro e w4 ⟨rfl, rfl⟩
    go_wp2_with fail
    go_ret2
    exact ⟨rfl, by assumption⟩
theorem cut1 (a b c d : Int) (h : W a b) (h' : W c d) (w : World) : Calls Try.prog 14 #[.int .i64 1, .complex .f64 (fl a) (fl b), .complex .f64 (fl c) (fl d)] w fun e w' => CutPost 1 a b c d w e w' := by
  have hi : ∀ w, (Instr.index 52 cutsV (.int .i64 1)).run Try.prog w = .ok (.func (.func 47) #[] #[]) w := fun _ => by kernel_rfl
  have hr : ∀ w, Calls Try.prog 47 #[.complex .f64 (fl a) (fl b), .complex .f64 (fl c) (fl d)] w fun e w' => Cx (cutX 1 a b c d) (cutY 1 a b c d) w e w' := fun w => k_eq a b c d h h' w
  unfold CutPost
  generalize cutX 1 a b c d = x at *
  generalize cutY 1 a b c d = y at *
  go_enter Try.func14, Try.ntmps14
  go_wp2_with fail
  go_region_held3 (fun w' => Grown w w') (first | exact Grown.refl _ | assumption | exact Grown.drew (by assumption) | exact grown_trans (by assumption) (by assumption))
    (first
      | (go_at_call 22; refine (cuts_any _).mono ?_; rintro e w1 ⟨rfl, hg1⟩)
      | (go_at_call 20; refine (orAll_ok _ _ (by assumption) _).mono ?_; rintro e w2 ⟨rfl, rfl⟩)
      | (go_at_call 47; refine (hr _).mono ?_; rintro e w3 ⟨r, i, rfl, f1, f2, hg3⟩))
  all_goals
    go_wp2_with fail
    refine (orAll_any _ _ _ _ f1 f2 _).mono ?_
    rintro e w4 ⟨rfl, rfl⟩
    go_wp2_with fail
    refine (may_any _ _ _ _ f1 f2 _).mono ?_
    rintro e w4 ⟨rfl, rfl⟩
    go_wp2_with fail
    go_ret2
    exact ⟨rfl, by assumption⟩
theorem cut2 (a b c d : Int) (h : W a b) (h' : W c d) (w : World) : Calls Try.prog 14 #[.int .i64 2, .complex .f64 (fl a) (fl b), .complex .f64 (fl c) (fl d)] w fun e w' => CutPost 2 a b c d w e w' := by
  have hi : ∀ w, (Instr.index 52 cutsV (.int .i64 2)).run Try.prog w = .ok (.func (.func 48) #[] #[]) w := fun _ => by kernel_rfl
  have hr : ∀ w, Calls Try.prog 48 #[.complex .f64 (fl a) (fl b), .complex .f64 (fl c) (fl d)] w fun e w' => Cx (cutX 2 a b c d) (cutY 2 a b c d) w e w' := fun w => k_ne a b c d h h' w
  unfold CutPost
  generalize cutX 2 a b c d = x at *
  generalize cutY 2 a b c d = y at *
  go_enter Try.func14, Try.ntmps14
  go_wp2_with fail
  go_region_held3 (fun w' => Grown w w') (first | exact Grown.refl _ | assumption | exact Grown.drew (by assumption) | exact grown_trans (by assumption) (by assumption))
    (first
      | (go_at_call 22; refine (cuts_any _).mono ?_; rintro e w1 ⟨rfl, hg1⟩)
      | (go_at_call 20; refine (orAll_ok _ _ (by assumption) _).mono ?_; rintro e w2 ⟨rfl, rfl⟩)
      | (go_at_call 48; refine (hr _).mono ?_; rintro e w3 ⟨r, i, rfl, f1, f2, hg3⟩))
  all_goals
    go_wp2_with fail
    refine (orAll_any _ _ _ _ f1 f2 _).mono ?_
    rintro e w4 ⟨rfl, rfl⟩
    go_wp2_with fail
    refine (may_any _ _ _ _ f1 f2 _).mono ?_
    rintro e w4 ⟨rfl, rfl⟩
    go_wp2_with fail
    go_ret2
    exact ⟨rfl, by assumption⟩
theorem cut3 (a b c d : Int) (h : W a b) (h' : W c d) (w : World) : Calls Try.prog 14 #[.int .i64 3, .complex .f64 (fl a) (fl b), .complex .f64 (fl c) (fl d)] w fun e w' => CutPost 3 a b c d w e w' := by
  have hi : ∀ w, (Instr.index 52 cutsV (.int .i64 3)).run Try.prog w = .ok (.func (.func 49) #[] #[]) w := fun _ => by kernel_rfl
  have hr : ∀ w, Calls Try.prog 49 #[.complex .f64 (fl a) (fl b), .complex .f64 (fl c) (fl d)] w fun e w' => Cx (cutX 3 a b c d) (cutY 3 a b c d) w e w' := fun w => k_lt a b c d h h' w
  unfold CutPost
  generalize cutX 3 a b c d = x at *
  generalize cutY 3 a b c d = y at *
  go_enter Try.func14, Try.ntmps14
  go_wp2_with fail
  go_region_held3 (fun w' => Grown w w') (first | exact Grown.refl _ | assumption | exact Grown.drew (by assumption) | exact grown_trans (by assumption) (by assumption))
    (first
      | (go_at_call 22; refine (cuts_any _).mono ?_; rintro e w1 ⟨rfl, hg1⟩)
      | (go_at_call 20; refine (orAll_ok _ _ (by assumption) _).mono ?_; rintro e w2 ⟨rfl, rfl⟩)
      | (go_at_call 49; refine (hr _).mono ?_; rintro e w3 ⟨r, i, rfl, f1, f2, hg3⟩))
  all_goals
    go_wp2_with fail
    refine (orAll_any _ _ _ _ f1 f2 _).mono ?_
    rintro e w4 ⟨rfl, rfl⟩
    go_wp2_with fail
    refine (may_any _ _ _ _ f1 f2 _).mono ?_
    rintro e w4 ⟨rfl, rfl⟩
    go_wp2_with fail
    go_ret2
    exact ⟨rfl, by assumption⟩
theorem cut4 (a b c d : Int) (h : W a b) (h' : W c d) (w : World) : Calls Try.prog 14 #[.int .i64 4, .complex .f64 (fl a) (fl b), .complex .f64 (fl c) (fl d)] w fun e w' => CutPost 4 a b c d w e w' := by
  have hi : ∀ w, (Instr.index 52 cutsV (.int .i64 4)).run Try.prog w = .ok (.func (.func 50) #[] #[]) w := fun _ => by kernel_rfl
  have hr : ∀ w, Calls Try.prog 50 #[.complex .f64 (fl a) (fl b), .complex .f64 (fl c) (fl d)] w fun e w' => Cx (cutX 4 a b c d) (cutY 4 a b c d) w e w' := fun w => k_ge a b c d h h' w
  unfold CutPost
  generalize cutX 4 a b c d = x at *
  generalize cutY 4 a b c d = y at *
  go_enter Try.func14, Try.ntmps14
  go_wp2_with fail
  go_region_held3 (fun w' => Grown w w') (first | exact Grown.refl _ | assumption | exact Grown.drew (by assumption) | exact grown_trans (by assumption) (by assumption))
    (first
      | (go_at_call 22; refine (cuts_any _).mono ?_; rintro e w1 ⟨rfl, hg1⟩)
      | (go_at_call 20; refine (orAll_ok _ _ (by assumption) _).mono ?_; rintro e w2 ⟨rfl, rfl⟩)
      | (go_at_call 50; refine (hr _).mono ?_; rintro e w3 ⟨r, i, rfl, f1, f2, hg3⟩))
  all_goals
    go_wp2_with fail
    refine (orAll_any _ _ _ _ f1 f2 _).mono ?_
    rintro e w4 ⟨rfl, rfl⟩
    go_wp2_with fail
    refine (may_any _ _ _ _ f1 f2 _).mono ?_
    rintro e w4 ⟨rfl, rfl⟩
    go_wp2_with fail
    go_ret2
    exact ⟨rfl, by assumption⟩
end Go.Proofs.Ytngeadbdjkjpcaa
