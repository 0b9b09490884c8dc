/-
  What package bounds' Alu and Cut return of any number, and what the law file's within and awake return, as contracts over the translated program.
-/
import Derived.Test.YtngeadbdjkjpcaaF2
import Derived.Test.YtngeadbdjkjpcaaG
import Derived.Test.YtngeadbdjkjpcaaPl
namespace Go.Proofs.Ytngeadbdjkjpcaa
open Go.RowKit

def aluK (op : Int) : Nat := if 0 ≤ op ∧ op ≤ 10 then op.toNat else 11
def cutK (op : Int) : Nat := if 0 ≤ op ∧ op ≤ 4 then op.toNat else 0
theorem of_le (l h : Int) (w : World) (hl : l ≤ h) : Calls Try.prog 16 #[.int .u32 l, .int .u32 h] w fun e w' => e = .returned (.complex .f64 (fl l) (fl h)) ∧ w = w' := by
  have := of_any l h w
  rw [show min l h = l by omega, show max l h = h by omega] at this
  exact this
theorem aluL11 (a b c d : Int) : aluL 11 a b c d = 0 ∧ aluH 11 a b c d = 4294967295 := by
  refine ⟨?_, ?_⟩
  · show orX 0 4294967295 = 0
    decide
  · show orY 0 4294967295 = 4294967295
    decide
/-- 'Alu' of any number. -/
theorem alu_any (op a b c d : Int) (h : W a b) (h' : W c d) (w : World) : Calls Try.prog 12 #[.int .i64 op, .complex .f64 (fl a) (fl b), .complex .f64 (fl c) (fl d)] w fun e w' =>
    e = .returned (.complex .f64 (fl (aluL (aluK op) a b c d)) (fl (aluH (aluK op) a b c d))) ∧ Grown w w' := by
  by_cases hop : 0 ≤ op ∧ op ≤ 10
  · have e : aluK op = op.toNat := if_pos hop
    rw [e]
    obtain ⟨n, rfl⟩ := nat_of hop.1
    have hn : n ≤ 10 := by omega
    rw [show ((n : Int)).toNat = n from rfl]
    match n, hn with
    | 0, _ => exact alu0 a b c d h h' w
    | 1, _ => exact alu1 a b c d h h' w
    | 2, _ => exact alu2 a b c d h h' w
    | 3, _ => exact alu3 a b c d h h' w
    | 4, _ => exact alu4 a b c d h h' w
    | 5, _ => exact alu5 a b c d h h' w
    | 6, _ => exact alu6 a b c d h h' w
    | 7, _ => exact alu7 a b c d h h' w
    | 8, _ => exact alu8 a b c d h h' w
    | 9, _ => exact alu9 a b c d h h' w
    | 10, _ => exact alu10 a b c d h h' w
  · have e : aluK op = 11 := if_neg hop
    rw [e, (aluL11 a b c d).1, (aluL11 a b c d).2]
    by_cases h0 : op < 0
    · have d0 : decide (op < 0) = true := decide_eq_true h0
      clear hop h0
      go_enter Try.func12, Try.ntmps12
      go_wp2_with fail
      refine (all_any _).mono ?_
      rintro e w' ⟨rfl, rfl⟩
      go_wp2_with fail
      go_ret
      exact ⟨rfl, Grown.refl _⟩
    · have d0 : decide (op < 0) = false := decide_eq_false h0
      have d1 : decide (11 ≤ op) = true := decide_eq_true (by omega)
      clear hop h0
      go_enter Try.func12, Try.ntmps12
      go_wp2_with fail
      refine (all_any _).mono ?_
      rintro e w' ⟨rfl, rfl⟩
      go_wp2_with fail
      go_ret
      exact ⟨rfl, Grown.refl _⟩
/-- 'Cut' of any number that is a comparison. -/
theorem cut_ok (op a b c d : Int) (h0 : 0 ≤ op) (h1 : op ≤ 4) (h : W a b) (h' : W c d) (w : World) : Calls Try.prog 14 #[.int .i64 op, .complex .f64 (fl a) (fl b), .complex .f64 (fl c) (fl d)] w fun e w' => CutPost op.toNat a b c d w e w' := by
  obtain ⟨n, rfl⟩ := nat_of h0
  have hn : n ≤ 4 := by omega
  rw [show ((n : Int)).toNat = n from rfl]
  match n, hn with
  | 0, _ => exact cut0 a b c d h h' w
  | 1, _ => exact cut1 a b c d h h' w
  | 2, _ => exact cut2 a b c d h h' w
  | 3, _ => exact cut3 a b c d h h' w
  | 4, _ => exact cut4 a b c d h h' w
set_option maxHeartbeats 800000 in
theorem cut_not (op a b c d : Int) (hop : ¬ (0 ≤ op ∧ op ≤ 4)) (h : W a b) (h' : W c d) (w : World) : Calls Try.prog 14 #[.int .i64 op, .complex .f64 (fl a) (fl b), .complex .f64 (fl c) (fl d)] w fun e w' => CutPost 0 a b c d w e w' := by
  have hi : ∀ w, (Instr.index 52 cutsV (.int .i64 0)).run Try.prog w = .ok (.func (.func 46) #[] #[]) w := fun _ => by kernel_rfl
  have hr : ∀ w, Calls Try.prog 46 #[.complex .f64 (fl a) (fl b), .complex .f64 (fl c) (fl d)] w fun e w' => Cx (cutX 0 a b c d) (cutY 0 a b c d) w e w' := fun w => k_keep a b c d h h' w
  unfold CutPost
  generalize cutX 0 a b c d = x at *
  generalize cutY 0 a b c d = y at *
  by_cases h0 : op < 0
  · have d0 : decide (op < 0) = true := decide_eq_true h0
    clear hop h0
    go_enter Try.func14, Try.ntmps14
    go_wp2_with fail
    go_region_held3 (fun w' => Grown w w') (first | exact Grown.refl _ | assumption | exact Grown.drew (by assumption) | exact grown_trans (by assumption) (by assumption))
      (first
        | (go_at_call 22; refine (cuts_any _).mono ?_; rintro e w1 ⟨rfl, hg1⟩)
        | (go_at_call 20; refine (orAll_ok _ _ (by assumption) _).mono ?_; rintro e w2 ⟨rfl, rfl⟩)
        | (go_at_call 46; refine (hr _).mono ?_; rintro e w3 ⟨r, i, rfl, f1, f2, hg3⟩))
    all_goals
      go_wp2_with fail
      refine (orAll_any _ _ _ _ f1 f2 _).mono ?_
      rintro e w4 ⟨rfl, rfl⟩
      go_wp2_with fail
      refine (may_any _ _ _ _ f1 f2 _).mono ?_
      rintro e w4 ⟨rfl, rfl⟩
      go_wp2_with fail
      go_ret2
      exact ⟨rfl, by assumption⟩
  · have d0 : decide (op < 0) = false := decide_eq_false h0
    have d1 : decide (5 ≤ op) = true := decide_eq_true (by omega)
    clear hop h0
    go_enter Try.func14, Try.ntmps14
    go_wp2_with fail
    go_region_held3 (fun w' => Grown w w') (first | exact Grown.refl _ | assumption | exact Grown.drew (by assumption) | exact grown_trans (by assumption) (by assumption))
      (first
        | (go_at_call 22; refine (cuts_any _).mono ?_; rintro e w1 ⟨rfl, hg1⟩)
        | (go_at_call 20; refine (orAll_ok _ _ (by assumption) _).mono ?_; rintro e w2 ⟨rfl, rfl⟩)
        | (go_at_call 46; refine (hr _).mono ?_; rintro e w3 ⟨r, i, rfl, f1, f2, hg3⟩))
    all_goals
      go_wp2_with fail
      refine (orAll_any _ _ _ _ f1 f2 _).mono ?_
      rintro e w4 ⟨rfl, rfl⟩
      go_wp2_with fail
      refine (may_any _ _ _ _ f1 f2 _).mono ?_
      rintro e w4 ⟨rfl, rfl⟩
      go_wp2_with fail
      go_ret2
      exact ⟨rfl, by assumption⟩
/-- 'Cut' of any number. -/
theorem cut_any (op a b c d : Int) (h : W a b) (h' : W c d) (w : World) : Calls Try.prog 14 #[.int .i64 op, .complex .f64 (fl a) (fl b), .complex .f64 (fl c) (fl d)] w fun e w' =>
    e = .returned (.tuple #[.complex .f64 (fl (cutL (cutK op) a b c d)) (fl (cutH (cutK op) a b c d)), .bool (cutB (cutK op) a b c d)]) ∧ Grown w w' := by
  by_cases hop : 0 ≤ op ∧ op ≤ 4
  · rw [show cutK op = op.toNat from if_pos hop]
    exact cut_ok op a b c d hop.1 hop.2 h h' w
  · rw [show cutK op = 0 from if_neg hop]
    exact cut_not op a b c d hop h h' w
theorem W_minmax (l h : Int) (l0 : 0 ≤ l) (l1 : l ≤ 4294967295) (h0 : 0 ≤ h) (h1 : h ≤ 4294967295) : W (min l h) (max l h) := ⟨by omega, by omega, by omega⟩
/-- The word that the law file's 'within' tells. -/
def wIn (l h f : Int) : Int := min l h + f % (max l h - min l h + 1)
theorem wIn_in (l h f : Int) (_hf : 0 ≤ f) : In (min l h) (max l h) (wIn l h f) := by
  unfold In wIn
  have h0 : 0 < max l h - min l h + 1 := by omega
  have h1 := Int.emod_nonneg f (show max l h - min l h + 1 ≠ 0 by omega)
  have h2 := Int.emod_lt_of_pos f h0
  omega
theorem wrap_in (lo f n : Int) (l0 : 0 ≤ lo) (f0 : 0 ≤ f) (f1 : f ≤ 4294967295) (n0 : 0 < n) (hn : lo + n ≤ 4294967296) :
    IntKind.u32.wrap (IntKind.i64.wrap (IntKind.i64.wrap lo + (IntKind.i64.wrap f).tmod n)) = lo + f % n := by
  have e1 : IntKind.i64.wrap lo = lo := by rw [IntKind.wrap_i64]; omega
  have e2 : IntKind.i64.wrap f = f := by rw [IntKind.wrap_i64]; omega
  have h1 := Int.emod_nonneg f (show n ≠ 0 by omega)
  have h2 := Int.emod_lt_of_pos f n0
  rw [e1, e2, Int.tmod_eq_emod_of_nonneg f0, IntKind.wrap_i64, IntKind.wrap_u32]
  generalize f % n = q at *
  omega
theorem within_any (l h f : Int) (w : World) (l0 : 0 ≤ l) (l1 : l ≤ 4294967295) (h0 : 0 ≤ h) (h1 : h ≤ 4294967295) (f0 : 0 ≤ f) (f1 : f ≤ 4294967295) :
    Calls Try.prog 9 #[.int .u32 l, .int .u32 h, .int .u32 f] w fun e w' => e = .returned (.tuple #[.complex .f64 (fl (min l h)) (fl (max l h)), .int .u32 (wIn l h f)]) ∧ Grown w w' := by
  have hin := wIn_in l h f f0
  unfold In wIn at hin
  unfold wIn
  by_cases hs : h < l
  · rw [show min l h = h by omega, show max l h = l by omega] at *
    have ho := fun w => of_le h l w (by omega)
    have d0 : decide (h < l) = true := decide_eq_true hs
    have hz : (l - h + 1 == 0) = false := by simp; omega
    have hz2 : ¬ (l - h + 1 = 0) := by omega
    have hw := Lib.hid (wrap_in h f (l - h + 1) (by omega) f0 f1 (by omega) (by omega))
    clear hs hin
    go_enter Try.func9, Try.ntmps9
    go_wp2_with fail
    go_region_held3 (fun w' => Grown w w') (first | exact Grown.refl _ | assumption | exact Grown.drew (by assumption) | exact grown_trans (by assumption) (by assumption))
      (first
        | (go_at_call 16; refine (ho _).mono ?_; rintro e w2 ⟨rfl, rfl⟩))
    all_goals
      go_wp2_with fail
      refine bodyPost_ret (v := .tuple #[.complex .f64 (fl h) (fl l), .int .u32 (h + f % (l - h + 1))]) (by simp [results, Try.results9, go_sem, hw.out]) rfl ⟨rfl, by assumption⟩
  · rw [show min l h = l by omega, show max l h = h by omega] at *
    have ho := fun w => of_le l h w (by omega)
    have d0 : decide (h < l) = false := decide_eq_false hs
    have hz : (h - l + 1 == 0) = false := by simp; omega
    have hz2 : ¬ (h - l + 1 = 0) := by omega
    have hw := Lib.hid (wrap_in l f (h - l + 1) (by omega) f0 f1 (by omega) (by omega))
    clear hs hin
    go_enter Try.func9, Try.ntmps9
    go_wp2_with fail
    go_region_held3 (fun w' => Grown w w') (first | exact Grown.refl _ | assumption | exact Grown.drew (by assumption) | exact grown_trans (by assumption) (by assumption))
      (first
        | (go_at_call 16; refine (ho _).mono ?_; rintro e w2 ⟨rfl, rfl⟩))
    all_goals
      go_wp2_with fail
      refine bodyPost_ret (v := .tuple #[.complex .f64 (fl l) (fl h), .int .u32 (l + f % (h - l + 1))]) (by simp [results, Try.results9, go_sem, hw.out]) rfl ⟨rfl, by assumption⟩
end Go.Proofs.Ytngeadbdjkjpcaa
