/-
  What package bounds' other rules of operations, and its rules of comparisons, return, as contracts over the translated program.
-/
import Derived.Test.YtngeadbdjkjpcaaD
namespace Go.Proofs.Ytngeadbdjkjpcaa
open Go.RowKit

theorem neq_of {r s : Nat} {x y : Int} (h : FloatKind.f64.format.order r s = some (compare x y)) : (FloatKind.f64.format.order r s != some .eq) = decide (x ≠ y) := by
  have e := eql_of h
  simp only [bne, e, decide_not]
def modX (a b c : Int) : Int := if b < c then a else 0
def modY (b c d : Int) : Int := if b < c then b else if c = 0 then b else min b (d - 1)
theorem r_mod (a b c d : Int) (h : W a b) (h' : W c d) (w : World) : Calls Try.prog 40 #[.complex .f64 (fl a) (fl b), .complex .f64 (fl c) (fl d)] w fun e w' => Cx (modX a b c) (modY b c d) w e w' := by
  have hf := h.fv
  have hf' := h'.fv
  have f0 := Fv.of 0 (by decide)
  obtain ⟨h1, h2, h3⟩ := h
  obtain ⟨h4, h5, h6⟩ := h'
  have o1 := lss_of (ord_fl b c (by omega) (by omega))
  have o2 := neq_of (ord0 (Fv.of c (by omega)))
  unfold modX modY
  by_cases hc : b < c
  · rw [if_pos hc, if_pos hc]
    rw [decide_eq_true hc] at o1
    clear h1 h2 h3 h4 h5 h6 hc
    go_enter Try.func40, Try.ntmps40
    go_wp2
    go_ret
    exact Cx.of hf.1 hf.2 (Grown.refl _) rfl
  · rw [if_neg hc, if_neg hc]
    rw [decide_eq_false hc] at o1
    by_cases h0 : c = 0
    · rw [if_pos h0]
      rw [decide_eq_false (by simp [h0])] at o2
      clear h1 h2 h3 h4 h5 h6 hc h0
      go_enter Try.func40, Try.ntmps40
      go_wp2_with fail
      refine (upTo_any _ _).mono ?_
      rintro e w' ⟨rfl, rfl⟩
      go_wp2_with fail
      go_ret
      exact Cx.of f0 hf.2 (Grown.refl _) rfl
    · rw [if_neg h0]
      rw [decide_eq_true h0] at o2
      have s := fun t w => fsub d 1 (by omega) (by omega) (by omega) (by omega) t w
      rw [fl1] at s
      have m := fun ts t w => run_min_fl (P := Try.prog) b (d - 1) (by omega) (by omega) ts t w
      have f2 := Fv.of (min b (d - 1)) (by omega)
      clear h1 h2 h3 h4 h5 h6 hc h0
      go_enter Try.func40, Try.ntmps40
      go_wp2_with fail
      refine (upTo_any _ _).mono ?_
      rintro e w' ⟨rfl, rfl⟩
      go_wp2_with fail
      go_ret
      exact Cx.of f0 f2 (Grown.refl _) rfl
theorem r_and (a b c d : Int) (h : W a b) (h' : W c d) (w : World) : Calls Try.prog 41 #[.complex .f64 (fl a) (fl b), .complex .f64 (fl c) (fl d)] w fun e w' => Cx (0) (min b d) w e w' := by
  have hf := h.fv
  have hf' := h'.fv
  have f0 := Fv.of 0 (by decide)
  obtain ⟨h1, h2, h3⟩ := h
  obtain ⟨h4, h5, h6⟩ := h'
  have m := fun ts t w => run_min_fl (P := Try.prog) b d (by omega) (by omega) ts t w
  have f2 := Fv.of (min b d) (by omega)
  clear h1 h2 h3 h4 h5 h6
  go_enter Try.func41, Try.ntmps41
  go_wp2_with fail
  refine (upTo_any _ _).mono ?_
  rintro e w' ⟨rfl, rfl⟩
  go_wp2_with fail
  go_ret
  exact Cx.of f0 f2 (Grown.refl _) rfl
theorem r_or (a b c d : Int) (h : W a b) (h' : W c d) (w : World) : Calls Try.prog 42 #[.complex .f64 (fl a) (fl b), .complex .f64 (fl c) (fl d)] w fun e w' => Cx (max a c) (bitsZ (max b d)) w e w' := by
  have hb := fun w => bitsOf_any a b c d h h' w
  have hf := h.fv
  have hf' := h'.fv
  have f0 := Fv.of 0 (by decide)
  obtain ⟨h1, h2, h3⟩ := h
  obtain ⟨h4, h5, h6⟩ := h'
  have m := fun ts t w => run_max_fl (P := Try.prog) a c (by omega) (by omega) ts t w
  have f1 := Fv.of (max a c) (by omega)
  have z := bitsZ_word (max b d) (by omega) (by omega)
  have f2 := Fv.of (bitsZ (max b d)) (by omega)
  clear h1 h2 h3 h4 h5 h6 z
  go_enter Try.func42, Try.ntmps42
  go_wp2_with fail
  refine (hb _).mono ?_
  rintro e w' ⟨rfl, rfl⟩
  go_wp2_with fail
  go_ret
  exact Cx.of f1 f2 (Grown.refl _) rfl
theorem r_xor (a b c d : Int) (h : W a b) (h' : W c d) (w : World) : Calls Try.prog 43 #[.complex .f64 (fl a) (fl b), .complex .f64 (fl c) (fl d)] w fun e w' => Cx (0) (bitsZ (max b d)) w e w' := by
  have hb := fun w => bitsOf_any a b c d h h' w
  have hf := h.fv
  have hf' := h'.fv
  have f0 := Fv.of 0 (by decide)
  obtain ⟨h1, h2, h3⟩ := h
  obtain ⟨h4, h5, h6⟩ := h'
  have z := bitsZ_word (max b d) (by omega) (by omega)
  have f2 := Fv.of (bitsZ (max b d)) (by omega)
  clear h1 h2 h3 h4 h5 h6 z
  go_enter Try.func43, Try.ntmps43
  go_wp2_with fail
  refine (hb _).mono ?_
  rintro e w' ⟨rfl, rfl⟩
  go_wp2_with fail
  refine (upTo_any _ _).mono ?_
  rintro e w' ⟨rfl, rfl⟩
  go_wp2_with fail
  go_ret
  exact Cx.of f0 f2 (Grown.refl _) rfl
def shlX (a c d : Int) : Int := if c = d then a * pwZ c else 0
def shlY (b c d : Int) : Int := if c = d then b * pwZ c else 4294967295
def shrX (a c d : Int) : Int := if c = d then doI 4 a (pwZ c) else 0
def shrY (b c d : Int) : Int := if c = d then doI 4 b (pwZ c) else b
theorem W_pw (c : Int) : W (pwZ c) (pwZ c) := by
  have := pwZ_word c
  exact ⟨by omega, by omega, by omega⟩
theorem r_shl (a b c d : Int) (h : W a b) (h' : W c d) (w : World) : Calls Try.prog 44 #[.complex .f64 (fl a) (fl b), .complex .f64 (fl c) (fl d)] w fun e w' => Cx (shlX a c d) (shlY b c d) w e w' := by
  have hs := fun w => single_any c d h' w
  have hr := fun w => r_mul a b (pwZ c) (pwZ c) h (W_pw c) w
  have hf := h.fv
  have hf' := h'.fv
  have f0 := Fv.of 0 (by decide)
  obtain ⟨h1, h2, h3⟩ := h
  obtain ⟨h4, h5, h6⟩ := h'
  have hp := fun w => power_any c d (by omega) (by omega) w
  clear h1 h2 h3 h4 h5 h6
  unfold shlX shlY
  by_cases hc : c = d
  · rw [if_pos hc, if_pos hc]
    rw [decide_eq_true hc] at hs
    clear hc
    generalize pwZ c = p at *
    go_enter Try.func44, Try.ntmps44
    go_wp2_with fail
    refine (hs _).mono ?_
    rintro e w' ⟨rfl, rfl⟩
    go_wp2_with fail
    refine (hp _).mono ?_
    rintro e w1 ⟨rfl, hg1⟩
    go_wp2_with fail
    refine (hr _).mono ?_
    rintro e w2 ⟨r, i, rfl, f1, f2, hg2⟩
    go_wp2_with fail
    go_ret
    exact Cx.of f1 f2 (grown_trans hg1 hg2) rfl
  · rw [if_neg hc, if_neg hc]
    rw [decide_eq_false hc] at hs
    clear hc hp hr
    go_enter Try.func44, Try.ntmps44
    go_wp2_with fail
    refine (hs _).mono ?_
    rintro e w' ⟨rfl, rfl⟩
    go_wp2_with fail
    refine (all_any _).mono ?_
    rintro e w' ⟨rfl, rfl⟩
    go_wp2_with fail
    go_ret
    exact Cx.of f0 (Fv.of 4294967295 (by decide)) (Grown.refl _) rfl
theorem r_shr (a b c d : Int) (h : W a b) (h' : W c d) (w : World) : Calls Try.prog 45 #[.complex .f64 (fl a) (fl b), .complex .f64 (fl c) (fl d)] w fun e w' => Cx (shrX a c d) (shrY b c d) w e w' := by
  have hs := fun w => single_any c d h' w
  have hr := fun w => r_div a b (pwZ c) (pwZ c) h (W_pw c) w
  have hp0 : ¬ pwZ c = 0 := by have := pwZ_word c; omega
  simp only [divX, divY, if_neg hp0] at hr
  clear hp0
  have hf := h.fv
  have hf' := h'.fv
  have f0 := Fv.of 0 (by decide)
  obtain ⟨h1, h2, h3⟩ := h
  obtain ⟨h4, h5, h6⟩ := h'
  have hp := fun w => power_any c d (by omega) (by omega) w
  clear h1 h2 h3 h4 h5 h6
  unfold shrX shrY
  by_cases hc : c = d
  · rw [if_pos hc, if_pos hc]
    rw [decide_eq_true hc] at hs
    clear hc
    generalize pwZ c = p at *
    go_enter Try.func45, Try.ntmps45
    go_wp2_with fail
    refine (hs _).mono ?_
    rintro e w' ⟨rfl, rfl⟩
    go_wp2_with fail
    refine (hp _).mono ?_
    rintro e w1 ⟨rfl, hg1⟩
    go_wp2_with fail
    refine (hr _).mono ?_
    rintro e w2 ⟨r, i, rfl, f1, f2, hg2⟩
    go_wp2_with fail
    go_ret
    exact Cx.of f1 f2 (grown_trans hg1 hg2) rfl
  · rw [if_neg hc, if_neg hc]
    rw [decide_eq_false hc] at hs
    clear hc hp hr
    go_enter Try.func45, Try.ntmps45
    go_wp2_with fail
    refine (hs _).mono ?_
    rintro e w' ⟨rfl, rfl⟩
    go_wp2_with fail
    refine (upTo_any _ _).mono ?_
    rintro e w' ⟨rfl, rfl⟩
    go_wp2_with fail
    go_ret
    exact Cx.of f0 hf.2 (Grown.refl _) rfl
theorem k_keep (a b c d : Int) (h : W a b) (h' : W c d) (w : World) : Calls Try.prog 46 #[.complex .f64 (fl a) (fl b), .complex .f64 (fl c) (fl d)] w fun e w' => Cx (a) (b) w e w' := by
  have hf := h.fv
  have hf' := h'.fv
  have f0 := Fv.of 0 (by decide)
  obtain ⟨h1, h2, h3⟩ := h
  obtain ⟨h4, h5, h6⟩ := h'
  clear h1 h2 h3 h4 h5 h6
  go_enter Try.func46, Try.ntmps46
  go_wp2
  go_ret
  exact Cx.of hf.1 hf.2 (Grown.refl _) rfl
theorem k_eq (a b c d : Int) (h : W a b) (h' : W c d) (w : World) : Calls Try.prog 47 #[.complex .f64 (fl a) (fl b), .complex .f64 (fl c) (fl d)] w fun e w' => Cx (max a c) (min b d) w e w' := by
  have hf := h.fv
  have hf' := h'.fv
  have f0 := Fv.of 0 (by decide)
  obtain ⟨h1, h2, h3⟩ := h
  obtain ⟨h4, h5, h6⟩ := h'
  have m := fun ts t w => run_max_fl (P := Try.prog) a c (by omega) (by omega) ts t w
  have m2 := fun ts t w => run_min_fl (P := Try.prog) b d (by omega) (by omega) ts t w
  have f1 := Fv.of (max a c) (by omega)
  have f2 := Fv.of (min b d) (by omega)
  clear h1 h2 h3 h4 h5 h6
  go_enter Try.func47, Try.ntmps47
  go_wp2
  go_ret
  exact Cx.of f1 f2 (Grown.refl _) rfl
def neX (a c d : Int) : Int := if c = d ∧ c = a then a + 1 else a
def neY (a b c d : Int) : Int := if c = d ∧ ¬ c = a ∧ c = b then b - 1 else b
theorem k_ne (a b c d : Int) (h : W a b) (h' : W c d) (w : World) : Calls Try.prog 48 #[.complex .f64 (fl a) (fl b), .complex .f64 (fl c) (fl d)] w fun e w' => Cx (neX a c d) (neY a b c d) w e w' := by
  have hs := fun w => single_any c d h' w
  have hf := h.fv
  have hf' := h'.fv
  have f0 := Fv.of 0 (by decide)
  obtain ⟨h1, h2, h3⟩ := h
  obtain ⟨h4, h5, h6⟩ := h'
  have o1 := eql_of (ord_fl c a (by omega) (by omega))
  have o2 := eql_of (ord_fl c b (by omega) (by omega))
  have s1 := fun t w => cadd a b 1 0 (by omega) (by omega) (by omega) (by omega) t w
  have s2 := fun t w => csub a b 0 1 (by omega) (by omega) (by omega) (by omega) (by omega) (by omega) (by omega) (by omega) t w
  rw [fl0, fl1, Int.add_zero] at s1
  rw [fl0, fl1, Int.sub_zero] at s2
  have f1 := Fv.of (a + 1) (by omega)
  have f2 := Fv.of (b - 1) (by omega)
  clear h1 h2 h3 h4 h5 h6
  unfold neX neY
  by_cases hc : c = d
  · rw [decide_eq_true hc] at hs
    by_cases ha : c = a
    · rw [if_pos ⟨hc, ha⟩, if_neg (fun h => h.2.1 ha)]
      rw [decide_eq_true ha] at o1
      clear hc ha
      go_enter Try.func48, Try.ntmps48
      go_wp2_with fail
      refine (hs _).mono ?_
      rintro e w' ⟨rfl, rfl⟩
      go_wp2_with fail
      go_ret
      exact Cx.of f1 hf.2 (Grown.refl _) rfl
    · rw [if_neg (fun h => ha h.2)]
      rw [decide_eq_false ha] at o1
      by_cases hb : c = b
      · rw [if_pos ⟨hc, ha, hb⟩]
        rw [decide_eq_true hb] at o2
        clear hc ha hb
        go_enter Try.func48, Try.ntmps48
        go_wp2_with fail
        refine (hs _).mono ?_
        rintro e w' ⟨rfl, rfl⟩
        go_wp2_with fail
        go_ret
        exact Cx.of hf.1 f2 (Grown.refl _) rfl
      · rw [if_neg (fun h => hb h.2.2)]
        rw [decide_eq_false hb] at o2
        clear hc ha hb
        go_enter Try.func48, Try.ntmps48
        go_wp2_with fail
        refine (hs _).mono ?_
        rintro e w' ⟨rfl, rfl⟩
        go_wp2_with fail
        go_ret
        exact Cx.of hf.1 hf.2 (Grown.refl _) rfl
  · rw [if_neg (fun h => hc h.1), if_neg (fun h => hc h.1)]
    rw [decide_eq_false hc] at hs
    clear hc
    go_enter Try.func48, Try.ntmps48
    go_wp2_with fail
    refine (hs _).mono ?_
    rintro e w' ⟨rfl, rfl⟩
    go_wp2_with fail
    go_ret
    exact Cx.of hf.1 hf.2 (Grown.refl _) rfl
theorem k_lt (a b c d : Int) (h : W a b) (h' : W c d) (w : World) : Calls Try.prog 49 #[.complex .f64 (fl a) (fl b), .complex .f64 (fl c) (fl d)] w fun e w' => Cx (a) (min b (d - 1)) w e w' := by
  have hf := h.fv
  have hf' := h'.fv
  have f0 := Fv.of 0 (by decide)
  obtain ⟨h1, h2, h3⟩ := h
  obtain ⟨h4, h5, h6⟩ := h'
  have s := fun t w => fsub d 1 (by omega) (by omega) (by omega) (by omega) t w
  rw [fl1] at s
  have m := fun ts t w => run_min_fl (P := Try.prog) b (d - 1) (by omega) (by omega) ts t w
  have f2 := Fv.of (min b (d - 1)) (by omega)
  clear h1 h2 h3 h4 h5 h6
  go_enter Try.func49, Try.ntmps49
  go_wp2
  go_ret
  exact Cx.of hf.1 f2 (Grown.refl _) rfl
theorem k_ge (a b c d : Int) (h : W a b) (h' : W c d) (w : World) : Calls Try.prog 50 #[.complex .f64 (fl a) (fl b), .complex .f64 (fl c) (fl d)] w fun e w' => Cx (max a c) (b) w e w' := by
  have hf := h.fv
  have hf' := h'.fv
  have f0 := Fv.of 0 (by decide)
  obtain ⟨h1, h2, h3⟩ := h
  obtain ⟨h4, h5, h6⟩ := h'
  have m := fun ts t w => run_max_fl (P := Try.prog) a c (by omega) (by omega) ts t w
  have f1 := Fv.of (max a c) (by omega)
  clear h1 h2 h3 h4 h5 h6
  go_enter Try.func50, Try.ntmps50
  go_wp2
  go_ret
  exact Cx.of f1 hf.2 (Grown.refl _) rfl
end Go.Proofs.Ytngeadbdjkjpcaa
