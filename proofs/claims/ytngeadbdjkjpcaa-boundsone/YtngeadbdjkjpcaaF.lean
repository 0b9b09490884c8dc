/-
  What package bounds' Alu and Cut return, as contracts over the translated program.
-/
import Derived.Test.YtngeadbdjkjpcaaE
import Derived.Deep.RegionHeld3
namespace Go.Proofs.Ytngeadbdjkjpcaa
open Go.RowKit

def rulesV : Value := .agg #[.func (.func 35) #[] #[], .func (.func 36) #[] #[], .func (.func 37) #[] #[], .func (.func 38) #[] #[], .func (.func 39) #[] #[], .func (.func 40) #[] #[], .func (.func 41) #[] #[], .func (.func 42) #[] #[], .func (.func 43) #[] #[], .func (.func 44) #[] #[], .func (.func 45) #[] #[]]
def cutsV : Value := .agg #[.func (.func 46) #[] #[], .func (.func 47) #[] #[], .func (.func 48) #[] #[], .func (.func 49) #[] #[], .func (.func 50) #[] #[]]
theorem rules_any (w : World) : Calls Try.prog 21 #[] w fun e w' => e = .returned rulesV ∧ Grown w w' := by
  go_enter Try.func21, Try.ntmps21
  go_wp2
  refine bodyPost_ret (v := rulesV) (by simp [results, Try.results21, go_sem, rulesV]) rfl ⟨rfl, ?_⟩
  exact (Grown.refl _).alloc _ _
theorem cuts_any (w : World) : Calls Try.prog 22 #[] w fun e w' => e = .returned cutsV ∧ Grown w w' := by
  go_enter Try.func22, Try.ntmps22
  go_wp2
  refine bodyPost_ret (v := cutsV) (by simp [results, Try.results22, go_sem, cutsV]) rfl ⟨rfl, ?_⟩
  exact (Grown.refl _).alloc _ _
def aluX : Nat → Int → Int → Int → Int → Int
  | 0, _, _, c, _ => c
  | 1, a, _, c, _ => a + c
  | 2, a, _, _, d => a - d
  | 3, a, _, c, _ => a * c
  | 4, a, _, c, d => divX a c d
  | 5, a, b, c, _ => modX a b c
  | 6, _, _, _, _ => 0
  | 7, a, _, c, _ => max a c
  | 8, _, _, _, _ => 0
  | 9, a, _, c, d => shlX a c d
  | 10, a, _, c, d => shrX a c d
  | _, _, _, _, _ => 0
def aluY : Nat → Int → Int → Int → Int → Int
  | 0, _, _, _, d => d
  | 1, _, b, _, d => b + d
  | 2, _, b, c, _ => b - c
  | 3, _, b, _, d => b * d
  | 4, _, b, c, _ => divY b c
  | 5, _, b, c, d => modY b c d
  | 6, _, b, _, d => min b d
  | 7, _, b, _, d => bitsZ (max b d)
  | 8, _, b, _, d => bitsZ (max b d)
  | 9, _, b, c, d => shlY b c d
  | 10, _, b, c, d => shrY b c d
  | _, _, _, _, _ => 4294967295
def cutX : Nat → Int → Int → Int → Int → Int
  | 1, a, _, c, _ => max a c
  | 2, a, _, c, d => neX a c d
  | 4, a, _, c, _ => max a c
  | _, a, _, _, _ => a
def cutY : Nat → Int → Int → Int → Int → Int
  | 1, _, b, _, d => min b d
  | 2, a, b, c, d => neY a b c d
  | 3, _, b, _, d => min b (d - 1)
  | _, _, b, _, _ => b
/-- What comes back behind 'orAll': valid bounds. -/
def AluPost (k : Nat) (a b c d : Int) (w : World) (e : Ending) (w' : World) : Prop :=
  e = .returned (.complex .f64 (fl (orX (aluX k a b c d) (aluY k a b c d))) (fl (orY (aluX k a b c d) (aluY k a b c d)))) ∧ Grown w w'
def CutPost (k : Nat) (a b c d : Int) (w : World) (e : Ending) (w' : World) : Prop :=
  e = .returned (.tuple #[.complex .f64 (fl (orX (cutX k a b c d) (cutY k a b c d))) (fl (orY (cutX k a b c d) (cutY k a b c d))), .bool (okB (cutX k a b c d) (cutY k a b c d))]) ∧ Grown w w'
theorem alu0 (a b c d : Int) (h : W a b) (h' : W c d) (w : World) : Calls Try.prog 12 #[.int .i64 0, .complex .f64 (fl a) (fl b), .complex .f64 (fl c) (fl d)] w fun e w' => AluPost 0 a b c d w e w' := by
  have hi : ∀ w, (Instr.index 50 rulesV (.int .i64 0)).run Try.prog w = .ok (.func (.func 35) #[] #[]) w := fun _ => by kernel_rfl
  have hr : ∀ w, Calls Try.prog 35 #[.complex .f64 (fl a) (fl b), .complex .f64 (fl c) (fl d)] w fun e w' => Cx (aluX 0 a b c d) (aluY 0 a b c d) w e w' := fun w => r_move a b c d h h' w
  unfold AluPost
  generalize aluX 0 a b c d = x at *
  generalize aluY 0 a b c d = y at *
  go_enter Try.func12, Try.ntmps12
  go_wp2_with fail
  go_region_held3 (fun w' => Grown w w') (first | exact Grown.refl _ | assumption | exact Grown.drew (by assumption) | exact grown_trans (by assumption) (by assumption))
    (first
      | (go_at_call 21; refine (rules_any _).mono ?_; rintro e w1 ⟨rfl, hg1⟩)
      | (go_at_call 20; have hq := f1; refine (orAll_any _ _ _ _ f1 f2 _).mono ?_; rintro e w4 ⟨rfl, rfl⟩)
      | (go_at_call 20; refine (orAll_ok _ _ (by assumption) _).mono ?_; rintro e w2 ⟨rfl, rfl⟩)
      | (go_at_call 35; refine (hr _).mono ?_; rintro e w3 ⟨r, i, rfl, f1, f2, hg3⟩))
  all_goals (go_wp2_with fail; go_ret; exact ⟨rfl, by assumption⟩)
theorem alu1 (a b c d : Int) (h : W a b) (h' : W c d) (w : World) : Calls Try.prog 12 #[.int .i64 1, .complex .f64 (fl a) (fl b), .complex .f64 (fl c) (fl d)] w fun e w' => AluPost 1 a b c d w e w' := by
  have hi : ∀ w, (Instr.index 50 rulesV (.int .i64 1)).run Try.prog w = .ok (.func (.func 36) #[] #[]) w := fun _ => by kernel_rfl
  have hr : ∀ w, Calls Try.prog 36 #[.complex .f64 (fl a) (fl b), .complex .f64 (fl c) (fl d)] w fun e w' => Cx (aluX 1 a b c d) (aluY 1 a b c d) w e w' := fun w => r_add a b c d h h' w
  unfold AluPost
  generalize aluX 1 a b c d = x at *
  generalize aluY 1 a b c d = y at *
  go_enter Try.func12, Try.ntmps12
  go_wp2_with fail
  go_region_held3 (fun w' => Grown w w') (first | exact Grown.refl _ | assumption | exact Grown.drew (by assumption) | exact grown_trans (by assumption) (by assumption))
    (first
      | (go_at_call 21; refine (rules_any _).mono ?_; rintro e w1 ⟨rfl, hg1⟩)
      | (go_at_call 20; have hq := f1; refine (orAll_any _ _ _ _ f1 f2 _).mono ?_; rintro e w4 ⟨rfl, rfl⟩)
      | (go_at_call 20; refine (orAll_ok _ _ (by assumption) _).mono ?_; rintro e w2 ⟨rfl, rfl⟩)
      | (go_at_call 36; refine (hr _).mono ?_; rintro e w3 ⟨r, i, rfl, f1, f2, hg3⟩))
  all_goals (go_wp2_with fail; go_ret; exact ⟨rfl, by assumption⟩)
theorem alu2 (a b c d : Int) (h : W a b) (h' : W c d) (w : World) : Calls Try.prog 12 #[.int .i64 2, .complex .f64 (fl a) (fl b), .complex .f64 (fl c) (fl d)] w fun e w' => AluPost 2 a b c d w e w' := by
  have hi : ∀ w, (Instr.index 50 rulesV (.int .i64 2)).run Try.prog w = .ok (.func (.func 37) #[] #[]) w := fun _ => by kernel_rfl
  have hr : ∀ w, Calls Try.prog 37 #[.complex .f64 (fl a) (fl b), .complex .f64 (fl c) (fl d)] w fun e w' => Cx (aluX 2 a b c d) (aluY 2 a b c d) w e w' := fun w => r_sub a b c d h h' w
  unfold AluPost
  generalize aluX 2 a b c d = x at *
  generalize aluY 2 a b c d = y at *
  go_enter Try.func12, Try.ntmps12
  go_wp2_with fail
  go_region_held3 (fun w' => Grown w w') (first | exact Grown.refl _ | assumption | exact Grown.drew (by assumption) | exact grown_trans (by assumption) (by assumption))
    (first
      | (go_at_call 21; refine (rules_any _).mono ?_; rintro e w1 ⟨rfl, hg1⟩)
      | (go_at_call 20; have hq := f1; refine (orAll_any _ _ _ _ f1 f2 _).mono ?_; rintro e w4 ⟨rfl, rfl⟩)
      | (go_at_call 20; refine (orAll_ok _ _ (by assumption) _).mono ?_; rintro e w2 ⟨rfl, rfl⟩)
      | (go_at_call 37; refine (hr _).mono ?_; rintro e w3 ⟨r, i, rfl, f1, f2, hg3⟩))
  all_goals (go_wp2_with fail; go_ret; exact ⟨rfl, by assumption⟩)
theorem alu3 (a b c d : Int) (h : W a b) (h' : W c d) (w : World) : Calls Try.prog 12 #[.int .i64 3, .complex .f64 (fl a) (fl b), .complex .f64 (fl c) (fl d)] w fun e w' => AluPost 3 a b c d w e w' := by
  have hi : ∀ w, (Instr.index 50 rulesV (.int .i64 3)).run Try.prog w = .ok (.func (.func 38) #[] #[]) w := fun _ => by kernel_rfl
  have hr : ∀ w, Calls Try.prog 38 #[.complex .f64 (fl a) (fl b), .complex .f64 (fl c) (fl d)] w fun e w' => Cx (aluX 3 a b c d) (aluY 3 a b c d) w e w' := fun w => r_mul a b c d h h' w
  unfold AluPost
  generalize aluX 3 a b c d = x at *
  generalize aluY 3 a b c d = y at *
  go_enter Try.func12, Try.ntmps12
  go_wp2_with fail
  go_region_held3 (fun w' => Grown w w') (first | exact Grown.refl _ | assumption | exact Grown.drew (by assumption) | exact grown_trans (by assumption) (by assumption))
    (first
      | (go_at_call 21; refine (rules_any _).mono ?_; rintro e w1 ⟨rfl, hg1⟩)
      | (go_at_call 20; have hq := f1; refine (orAll_any _ _ _ _ f1 f2 _).mono ?_; rintro e w4 ⟨rfl, rfl⟩)
      | (go_at_call 20; refine (orAll_ok _ _ (by assumption) _).mono ?_; rintro e w2 ⟨rfl, rfl⟩)
      | (go_at_call 38; refine (hr _).mono ?_; rintro e w3 ⟨r, i, rfl, f1, f2, hg3⟩))
  all_goals (go_wp2_with fail; go_ret; exact ⟨rfl, by assumption⟩)
theorem alu4 (a b c d : Int) (h : W a b) (h' : W c d) (w : World) : Calls Try.prog 12 #[.int .i64 4, .complex .f64 (fl a) (fl b), .complex .f64 (fl c) (fl d)] w fun e w' => AluPost 4 a b c d w e w' := by
  have hi : ∀ w, (Instr.index 50 rulesV (.int .i64 4)).run Try.prog w = .ok (.func (.func 39) #[] #[]) w := fun _ => by kernel_rfl
  have hr : ∀ w, Calls Try.prog 39 #[.complex .f64 (fl a) (fl b), .complex .f64 (fl c) (fl d)] w fun e w' => Cx (aluX 4 a b c d) (aluY 4 a b c d) w e w' := fun w => r_div a b c d h h' w
  unfold AluPost
  generalize aluX 4 a b c d = x at *
  generalize aluY 4 a b c d = y at *
  go_enter Try.func12, Try.ntmps12
  go_wp2_with fail
  go_region_held3 (fun w' => Grown w w') (first | exact Grown.refl _ | assumption | exact Grown.drew (by assumption) | exact grown_trans (by assumption) (by assumption))
    (first
      | (go_at_call 21; refine (rules_any _).mono ?_; rintro e w1 ⟨rfl, hg1⟩)
      | (go_at_call 20; have hq := f1; refine (orAll_any _ _ _ _ f1 f2 _).mono ?_; rintro e w4 ⟨rfl, rfl⟩)
      | (go_at_call 20; refine (orAll_ok _ _ (by assumption) _).mono ?_; rintro e w2 ⟨rfl, rfl⟩)
      | (go_at_call 39; refine (hr _).mono ?_; rintro e w3 ⟨r, i, rfl, f1, f2, hg3⟩))
  all_goals (go_wp2_with fail; go_ret; exact ⟨rfl, by assumption⟩)
theorem alu5 (a b c d : Int) (h : W a b) (h' : W c d) (w : World) : Calls Try.prog 12 #[.int .i64 5, .complex .f64 (fl a) (fl b), .complex .f64 (fl c) (fl d)] w fun e w' => AluPost 5 a b c d w e w' := by
  have hi : ∀ w, (Instr.index 50 rulesV (.int .i64 5)).run Try.prog w = .ok (.func (.func 40) #[] #[]) w := fun _ => by kernel_rfl
  have hr : ∀ w, Calls Try.prog 40 #[.complex .f64 (fl a) (fl b), .complex .f64 (fl c) (fl d)] w fun e w' => Cx (aluX 5 a b c d) (aluY 5 a b c d) w e w' := fun w => r_mod a b c d h h' w
  unfold AluPost
  generalize aluX 5 a b c d = x at *
  generalize aluY 5 a b c d = y at *
  go_enter Try.func12, Try.ntmps12
  go_wp2_with fail
  go_region_held3 (fun w' => Grown w w') (first | exact Grown.refl _ | assumption | exact Grown.drew (by assumption) | exact grown_trans (by assumption) (by assumption))
    (first
      | (go_at_call 21; refine (rules_any _).mono ?_; rintro e w1 ⟨rfl, hg1⟩)
      | (go_at_call 20; have hq := f1; refine (orAll_any _ _ _ _ f1 f2 _).mono ?_; rintro e w4 ⟨rfl, rfl⟩)
      | (go_at_call 20; refine (orAll_ok _ _ (by assumption) _).mono ?_; rintro e w2 ⟨rfl, rfl⟩)
      | (go_at_call 40; refine (hr _).mono ?_; rintro e w3 ⟨r, i, rfl, f1, f2, hg3⟩))
  all_goals (go_wp2_with fail; go_ret; exact ⟨rfl, by assumption⟩)
end Go.Proofs.Ytngeadbdjkjpcaa
