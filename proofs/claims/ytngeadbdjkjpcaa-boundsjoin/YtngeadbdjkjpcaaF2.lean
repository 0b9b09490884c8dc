/-
  What package bounds' Alu returns, of the operations from 6 on.
-/
import Derived.Test.YtngeadbdjkjpcaaF
namespace Go.Proofs.Ytngeadbdjkjpcaa
open Go.RowKit

theorem alu6 (a b c d : Int) (h : W a b) (h' : W c d) (w : World) : Calls Try.prog 12 #[.int .i64 6, .complex .f64 (fl a) (fl b), .complex .f64 (fl c) (fl d)] w fun e w' => AluPost 6 a b c d w e w' := by
  have hi : ∀ w, (Instr.index 50 rulesV (.int .i64 6)).run Try.prog w = .ok (.func (.func 41) #[] #[]) w := fun _ => by kernel_rfl
  have hr : ∀ w, Calls Try.prog 41 #[.complex .f64 (fl a) (fl b), .complex .f64 (fl c) (fl d)] w fun e w' => Cx (aluX 6 a b c d) (aluY 6 a b c d) w e w' := fun w => r_and a b c d h h' w
  unfold AluPost
  generalize aluX 6 a b c d = x at *
  generalize aluY 6 a b c d = y at *
  go_enter Try.func12, Try.ntmps12
  go_wp2_with fail
  go_region_held3 (fun w' => Grown w w') (first | exact Grown.refl _ | assumption | exact Grown.drew (by assumption) | exact grown_trans (by assumption) (by assumption))
    (first
      | (go_at_call 21; refine (rules_any _).mono ?_; rintro e w1 ⟨rfl, hg1⟩)
      | (go_at_call 20; have hq := f1; refine (orAll_any _ _ _ _ f1 f2 _).mono ?_; rintro e w4 ⟨rfl, rfl⟩)
      | (go_at_call 20; refine (orAll_ok _ _ (by assumption) _).mono ?_; rintro e w2 ⟨rfl, rfl⟩)
      | (go_at_call 41; refine (hr _).mono ?_; rintro e w3 ⟨r, i, rfl, f1, f2, hg3⟩))
  all_goals (go_wp2_with fail; go_ret; exact ⟨rfl, by assumption⟩)
theorem alu7 (a b c d : Int) (h : W a b) (h' : W c d) (w : World) : Calls Try.prog 12 #[.int .i64 7, .complex .f64 (fl a) (fl b), .complex .f64 (fl c) (fl d)] w fun e w' => AluPost 7 a b c d w e w' := by
  have hi : ∀ w, (Instr.index 50 rulesV (.int .i64 7)).run Try.prog w = .ok (.func (.func 42) #[] #[]) w := fun _ => by kernel_rfl
  have hr : ∀ w, Calls Try.prog 42 #[.complex .f64 (fl a) (fl b), .complex .f64 (fl c) (fl d)] w fun e w' => Cx (aluX 7 a b c d) (aluY 7 a b c d) w e w' := fun w => r_or a b c d h h' w
  unfold AluPost
  generalize aluX 7 a b c d = x at *
  generalize aluY 7 a b c d = y at *
  go_enter Try.func12, Try.ntmps12
  go_wp2_with fail
  go_region_held3 (fun w' => Grown w w') (first | exact Grown.refl _ | assumption | exact Grown.drew (by assumption) | exact grown_trans (by assumption) (by assumption))
    (first
      | (go_at_call 21; refine (rules_any _).mono ?_; rintro e w1 ⟨rfl, hg1⟩)
      | (go_at_call 20; have hq := f1; refine (orAll_any _ _ _ _ f1 f2 _).mono ?_; rintro e w4 ⟨rfl, rfl⟩)
      | (go_at_call 20; refine (orAll_ok _ _ (by assumption) _).mono ?_; rintro e w2 ⟨rfl, rfl⟩)
      | (go_at_call 42; refine (hr _).mono ?_; rintro e w3 ⟨r, i, rfl, f1, f2, hg3⟩))
  all_goals (go_wp2_with fail; go_ret; exact ⟨rfl, by assumption⟩)
theorem alu8 (a b c d : Int) (h : W a b) (h' : W c d) (w : World) : Calls Try.prog 12 #[.int .i64 8, .complex .f64 (fl a) (fl b), .complex .f64 (fl c) (fl d)] w fun e w' => AluPost 8 a b c d w e w' := by
  have hi : ∀ w, (Instr.index 50 rulesV (.int .i64 8)).run Try.prog w = .ok (.func (.func 43) #[] #[]) w := fun _ => by kernel_rfl
  have hr : ∀ w, Calls Try.prog 43 #[.complex .f64 (fl a) (fl b), .complex .f64 (fl c) (fl d)] w fun e w' => Cx (aluX 8 a b c d) (aluY 8 a b c d) w e w' := fun w => r_xor a b c d h h' w
  unfold AluPost
  generalize aluX 8 a b c d = x at *
  generalize aluY 8 a b c d = y at *
  go_enter Try.func12, Try.ntmps12
  go_wp2_with fail
  go_region_held3 (fun w' => Grown w w') (first | exact Grown.refl _ | assumption | exact Grown.drew (by assumption) | exact grown_trans (by assumption) (by assumption))
    (first
      | (go_at_call 21; refine (rules_any _).mono ?_; rintro e w1 ⟨rfl, hg1⟩)
      | (go_at_call 20; have hq := f1; refine (orAll_any _ _ _ _ f1 f2 _).mono ?_; rintro e w4 ⟨rfl, rfl⟩)
      | (go_at_call 20; refine (orAll_ok _ _ (by assumption) _).mono ?_; rintro e w2 ⟨rfl, rfl⟩)
      | (go_at_call 43; refine (hr _).mono ?_; rintro e w3 ⟨r, i, rfl, f1, f2, hg3⟩))
  all_goals (go_wp2_with fail; go_ret; exact ⟨rfl, by assumption⟩)
theorem alu9 (a b c d : Int) (h : W a b) (h' : W c d) (w : World) : Calls Try.prog 12 #[.int .i64 9, .complex .f64 (fl a) (fl b), .complex .f64 (fl c) (fl d)] w fun e w' => AluPost 9 a b c d w e w' := by
  have hi : ∀ w, (Instr.index 50 rulesV (.int .i64 9)).run Try.prog w = .ok (.func (.func 44) #[] #[]) w := fun _ => by kernel_rfl
  have hr : ∀ w, Calls Try.prog 44 #[.complex .f64 (fl a) (fl b), .complex .f64 (fl c) (fl d)] w fun e w' => Cx (aluX 9 a b c d) (aluY 9 a b c d) w e w' := fun w => r_shl a b c d h h' w
  unfold AluPost
  generalize aluX 9 a b c d = x at *
  generalize aluY 9 a b c d = y at *
  go_enter Try.func12, Try.ntmps12
  go_wp2_with fail
  go_region_held3 (fun w' => Grown w w') (first | exact Grown.refl _ | assumption | exact Grown.drew (by assumption) | exact grown_trans (by assumption) (by assumption))
    (first
      | (go_at_call 21; refine (rules_any _).mono ?_; rintro e w1 ⟨rfl, hg1⟩)
      | (go_at_call 20; have hq := f1; refine (orAll_any _ _ _ _ f1 f2 _).mono ?_; rintro e w4 ⟨rfl, rfl⟩)
      | (go_at_call 20; refine (orAll_ok _ _ (by assumption) _).mono ?_; rintro e w2 ⟨rfl, rfl⟩)
      | (go_at_call 44; refine (hr _).mono ?_; rintro e w3 ⟨r, i, rfl, f1, f2, hg3⟩))
  all_goals (go_wp2_with fail; go_ret; exact ⟨rfl, by assumption⟩)
theorem alu10 (a b c d : Int) (h : W a b) (h' : W c d) (w : World) : Calls Try.prog 12 #[.int .i64 10, .complex .f64 (fl a) (fl b), .complex .f64 (fl c) (fl d)] w fun e w' => AluPost 10 a b c d w e w' := by
  have hi : ∀ w, (Instr.index 50 rulesV (.int .i64 10)).run Try.prog w = .ok (.func (.func 45) #[] #[]) w := fun _ => by kernel_rfl
  have hr : ∀ w, Calls Try.prog 45 #[.complex .f64 (fl a) (fl b), .complex .f64 (fl c) (fl d)] w fun e w' => Cx (aluX 10 a b c d) (aluY 10 a b c d) w e w' := fun w => r_shr a b c d h h' w
  unfold AluPost
  generalize aluX 10 a b c d = x at *
  generalize aluY 10 a b c d = y at *
  go_enter Try.func12, Try.ntmps12
  go_wp2_with fail
  go_region_held3 (fun w' => Grown w w') (first | exact Grown.refl _ | assumption | exact Grown.drew (by assumption) | exact grown_trans (by assumption) (by assumption))
    (first
      | (go_at_call 21; refine (rules_any _).mono ?_; rintro e w1 ⟨rfl, hg1⟩)
      | (go_at_call 20; have hq := f1; refine (orAll_any _ _ _ _ f1 f2 _).mono ?_; rintro e w4 ⟨rfl, rfl⟩)
      | (go_at_call 20; refine (orAll_ok _ _ (by assumption) _).mono ?_; rintro e w2 ⟨rfl, rfl⟩)
      | (go_at_call 45; refine (hr _).mono ?_; rintro e w3 ⟨r, i, rfl, f1, f2, hg3⟩))
  all_goals (go_wp2_with fail; go_ret; exact ⟨rfl, by assumption⟩)
end Go.Proofs.Ytngeadbdjkjpcaa
