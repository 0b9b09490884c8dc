/-
  What package bounds' May, all, orAll, Ends, Has and Join return, as contracts over the translated program.
-/
import Derived.Test.YtngeadbdjkjpcaaB
namespace Go.Proofs.Ytngeadbdjkjpcaa
open Go.RowKit

/-- Valid bounds. -/
def W (x y : Int) : Prop := 0 ≤ x ∧ x ≤ y ∧ y ≤ 4294967295
def okB (x y : Int) : Bool := wordB x && wordB y && decide (x ≤ y)
theorem okB_of {x y : Int} (h : W x y) : okB x y = true := by
  obtain ⟨h1, h2, h3⟩ := h
  simp [okB, wordB]; omega
theorem W_of {x y : Int} (h : okB x y = true) : W x y := by
  simp [okB, wordB] at h
  exact ⟨by omega, by omega, by omega⟩
theorem W.fv {x y : Int} (h : W x y) : Fv (fl x) x ∧ Fv (fl y) y := by
  obtain ⟨h1, h2, h3⟩ := h
  exact ⟨Fv.of x (by omega), Fv.of y (by omega)⟩
theorem may_any (r i : Nat) (x y : Int) (hx : Fv r x) (hy : Fv i y) (w : World) : Calls Try.prog 23 #[.complex .f64 r i] w fun e w' => e = .returned (.bool (okB x y)) ∧ w = w' := by
  cases h0 : wordB x with
  | false =>
    have e : okB x y = false := by simp [okB, h0]
    rw [e]
    go_enter Try.func23, Try.ntmps23
    go_wp2_with fail
    refine (isWord_any r x hx _).mono ?_
    rintro e w' ⟨rfl, rfl⟩
    rw [h0]
    go_wp2_with fail
    go_ret
    exact ⟨rfl, rfl⟩
  | true =>
    cases h1 : wordB y with
    | false =>
      have e : okB x y = false := by simp [okB, h1]
      rw [e]
      go_enter Try.func23, Try.ntmps23
      go_wp2_with fail
      refine (isWord_any r x hx _).mono ?_
      rintro e w' ⟨rfl, rfl⟩
      rw [h0]
      go_wp2_with fail
      refine (isWord_any i y hy _).mono ?_
      rintro e w' ⟨rfl, rfl⟩
      rw [h1]
      go_wp2_with fail
      go_ret
      exact ⟨rfl, rfl⟩
    | true =>
      have e : okB x y = decide (x ≤ y) := by simp [okB, h0, h1]
      have g0 := of_decide_eq_true h0
      have g1 := of_decide_eq_true h1
      have ex := hx.get (by omega)
      have ey := hy.get (by omega)
      subst ex ey
      have o2 := leq_of (ord_fl x y (by omega) (by omega))
      rw [e]
      clear e g0 g1
      generalize decide (x ≤ y) = b at *
      go_enter Try.func23, Try.ntmps23
      go_wp2_with fail
      refine (isWord_any _ x hx _).mono ?_
      rintro e w' ⟨rfl, rfl⟩
      rw [h0]
      go_wp2_with fail
      refine (isWord_any _ y hy _).mono ?_
      rintro e w' ⟨rfl, rfl⟩
      rw [h1]
      go_wp2_with fail
      go_ret
      exact ⟨rfl, rfl⟩
theorem all_any (w : World) : Calls Try.prog 19 #[] w fun e w' => e = .returned (.complex .f64 (fl 0) (fl 4294967295)) ∧ w = w' := by
  go_enter Try.func19, Try.ntmps19
  go_wp2_with fail
  refine (of_any _ _ _).mono ?_
  rintro e w' ⟨rfl, rfl⟩
  go_wp2_with fail
  go_ret
  exact ⟨rfl, rfl⟩
def orX (x y : Int) : Int := if okB x y then x else 0
def orY (x y : Int) : Int := if okB x y then y else 4294967295
theorem W_or (x y : Int) : W (orX x y) (orY x y) := by
  unfold orX orY
  cases h : okB x y with
  | true => exact W_of h
  | false => exact ⟨by simp, by simp, by simp⟩
theorem or_valid {x y : Int} (h : W x y) : orX x y = x ∧ orY x y = y := by
  unfold orX orY; rw [okB_of h]; exact ⟨rfl, rfl⟩
theorem orAll_any (r i : Nat) (x y : Int) (hx : Fv r x) (hy : Fv i y) (w : World) : Calls Try.prog 20 #[.complex .f64 r i] w fun e w' => e = .returned (.complex .f64 (fl (orX x y)) (fl (orY x y))) ∧ w = w' := by
  unfold orX orY
  cases h0 : okB x y with
  | false =>
    go_enter Try.func20, Try.ntmps20
    go_wp2_with fail
    refine (may_any r i x y hx hy _).mono ?_
    rintro e w' ⟨rfl, rfl⟩
    rw [h0]
    go_wp2_with fail
    refine (all_any _).mono ?_
    rintro e w' ⟨rfl, rfl⟩
    go_wp2_with fail
    go_ret
    exact ⟨rfl, rfl⟩
  | true =>
    obtain ⟨g1, g2, g3⟩ := W_of h0
    have ex := hx.get (by omega)
    have ey := hy.get (by omega)
    subst ex ey
    clear g1 g2 g3
    go_enter Try.func20, Try.ntmps20
    go_wp2_with fail
    refine (may_any _ _ x y hx hy _).mono ?_
    rintro e w' ⟨rfl, rfl⟩
    rw [h0]
    go_wp2_with fail
    go_ret
    exact ⟨rfl, rfl⟩
theorem orAll_ok (x y : Int) (h : W x y) (w : World) : Calls Try.prog 20 #[.complex .f64 (fl x) (fl y)] w fun e w' => e = .returned (.complex .f64 (fl x) (fl y)) ∧ w = w' := by
  have := orAll_any (fl x) (fl y) x y h.fv.1 h.fv.2 w
  rw [(or_valid h).1, (or_valid h).2] at this
  exact this
theorem conv_fl (x : Int) (h0 : 0 ≤ x) (h1 : x ≤ 4294967295) (w : World) : (convert 55 22 (.float .f64 (fl x))).run Try.prog w = .ok (.int .u32 x) w :=
  run_convert_float_int w 55 22 .f64 .u32 (fl x) x (by kernel_rfl) (by kernel_rfl) (toInt_fl x h0 h1)
theorem ends_any (x y : Int) (h : W x y) (w : World) : Calls Try.prog 15 #[.complex .f64 (fl x) (fl y)] w fun e w' => e = .returned (.tuple #[.int .u32 x, .int .u32 y, .bool true]) ∧ w = w' := by
  have hm := fun w => may_any (fl x) (fl y) x y h.fv.1 h.fv.2 w
  rw [okB_of h] at hm
  obtain ⟨h1, h2, h3⟩ := h
  have c1 := fun w => conv_fl x h1 (by omega) w
  have c2 := fun w => conv_fl y (by omega) h3 w
  clear h1 h2 h3
  go_enter Try.func15, Try.ntmps15
  go_wp2_with fail
  refine (hm _).mono ?_
  rintro e w' ⟨rfl, rfl⟩
  go_wp2_with fail
  refine bodyPost_ret (v := .tuple #[.int .u32 x, .int .u32 y, .bool true]) (by simp [results, Try.results15, go_sem]) rfl ⟨rfl, ?_⟩
  rfl
def inB (x y v : Int) : Bool := decide (x ≤ v) && decide (v ≤ y)
theorem has_any (x y v : Int) (h : W x y) (w : World) : Calls Try.prog 11 #[.complex .f64 (fl x) (fl y), .int .u32 v] w fun e w' => e = .returned (.bool (inB x y v)) ∧ w = w' := by
  have hm := fun w => ends_any x y h w
  clear h
  unfold inB
  cases h1 : decide (x ≤ v) with
  | false =>
    go_enter Try.func11, Try.ntmps11
    go_wp2_with fail
    refine (hm _).mono ?_
    rintro e w' ⟨rfl, rfl⟩
    go_wp2_with fail
    go_ret
    exact ⟨rfl, rfl⟩
  | true =>
    generalize hb : decide (v ≤ y) = b at *
    go_enter Try.func11, Try.ntmps11
    go_wp2_with fail
    refine (hm _).mono ?_
    rintro e w' ⟨rfl, rfl⟩
    go_wp2_with fail
    go_ret
    exact ⟨by simp, rfl⟩
theorem join_any (a b c d : Int) (h : W a b) (h' : W c d) (w : World) : Calls Try.prog 17 #[.complex .f64 (fl a) (fl b), .complex .f64 (fl c) (fl d)] w fun e w' => e = .returned (.complex .f64 (fl (min a c)) (fl (max b d))) ∧ w = w' := by
  have o1 := fun w => orAll_ok a b h w
  have o2 := fun w => orAll_ok c d h' w
  obtain ⟨h1, h2, h3⟩ := h
  obtain ⟨h4, h5, h6⟩ := h'
  have m1 := fun ts t w => run_min_fl (P := Try.prog) a c (by omega) (by omega) ts t w
  have m2 := fun ts t w => run_max_fl (P := Try.prog) b d (by omega) (by omega) ts t w
  clear h1 h2 h3 h4 h5 h6
  go_enter Try.func17, Try.ntmps17
  go_wp2_with fail
  refine (o1 _).mono ?_
  rintro e w' ⟨rfl, rfl⟩
  go_wp2_with fail
  refine (o2 _).mono ?_
  rintro e w' ⟨rfl, rfl⟩
  go_wp2_with fail
  go_ret
  exact ⟨rfl, rfl⟩
end Go.Proofs.Ytngeadbdjkjpcaa
