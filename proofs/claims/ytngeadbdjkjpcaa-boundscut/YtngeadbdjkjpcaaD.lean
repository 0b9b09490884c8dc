/-
  What package bounds' rules of operations return, as contracts over the translated program.
-/
import Derived.Test.YtngeadbdjkjpcaaC
import Derived.Test.YtngeadbdjkjpcaaLn
import Derived.Test.YtngeadbdjkjpcaaPlain2
namespace Go.Proofs.Ytngeadbdjkjpcaa
open Go.RowKit

def bitsZ (m : Int) : Int := ((2 ^ Lib.bitLen m.toNat - 1 : Nat) : Int)
def pwZ (c : Int) : Int := ((2 ^ (c.toNat % 32) : Nat) : Int)
theorem bitsZ_word (m : Int) (h0 : 0 ≤ m) (h1 : m ≤ 4294967295) : 0 ≤ bitsZ m ∧ m ≤ bitsZ m ∧ bitsZ m ≤ 4294967295 := by
  obtain ⟨b1, b2⟩ := bitLen_eq m.toNat (by omega)
  have b3 := b2 32 (by omega)
  have b4 : 2 ^ Lib.bitLen m.toNat ≤ 2 ^ 32 := Nat.pow_le_pow_right (by omega) b3
  unfold bitsZ
  omega
theorem pwZ_word (c : Int) : 1 ≤ pwZ c ∧ pwZ c ≤ 4294967295 := by
  have h1 := pow_lt c.toNat
  have h2 : 0 < 2 ^ (c.toNat % 32) := Nat.two_pow_pos _
  unfold pwZ
  omega
theorem single_any (c d : Int) (h : W c d) (w : World) : Calls Try.prog 55 #[.complex .f64 (fl c) (fl d)] w fun e w' => e = .returned (.bool (decide (c = d))) ∧ w = w' := by
  obtain ⟨h1, h2, h3⟩ := h
  have o := eql_of (ord_fl c d (by omega) (by omega))
  rw [← o]
  clear o h1 h2 h3
  go_enter Try.func55, Try.ntmps55
  go_wp2
  go_ret
  exact ⟨rfl, rfl⟩
theorem upTo_any (r : Nat) (w : World) : Calls Try.prog 52 #[.float .f64 r] w fun e w' => e = .returned (.complex .f64 (fl 0) r) ∧ w = w' := by
  rw [fl0]
  go_enter Try.func52, Try.ntmps52
  go_wp2
  go_ret
  exact ⟨rfl, rfl⟩
/-- 'word' of an operation. -/
theorem word_any (op x y : Int) (w : World) (h0 : 0 ≤ op) (h1 : op ≤ 10) (hx0 : 0 ≤ x) (hx : x ≤ 4294967295) (hy0 : 0 ≤ y) (hy : y ≤ 4294967295) :
    Calls Try.prog 53 #[.int .i64 op, .float .f64 (fl x), .float .f64 (fl y)] w fun e w' => e = .returned (.float .f64 (fl (doI op x y))) ∧ Grown w w' := by
  have c1 := fun w => conv_fl x hx0 hx w
  have c2 := fun w => conv_fl y hy0 hy w
  have hd := fun w => do_any op x y w h0 h1 hx0 hx hy0 hy
  clear h0 h1 hx0 hx hy0 hy
  go_enter Try.func53, Try.ntmps53
  go_wp2_with fail
  refine (hd _).mono ?_
  rintro e w' ⟨rfl, hg⟩
  go_wp2_with fail
  go_ret
  exact ⟨rfl, hg⟩
theorem power_any (c d : Int) (h0 : 0 ≤ c) (h1 : c ≤ 4294967295) (w : World) : Calls Try.prog 56 #[.complex .f64 (fl c) (fl d)] w fun e w' => e = .returned (.complex .f64 (fl (pwZ c)) (fl (pwZ c))) ∧ Grown w w' := by
  have hw := fun w => word_any 9 1 c w (by omega) (by omega) (by omega) (by omega) h0 h1
  have e : doI 9 1 c = pwZ c := by
    obtain ⟨n, rfl⟩ := Int.eq_ofNat_of_zero_le h0
    rw [shift0]; simp [pwZ]
  rw [e, fl1] at hw
  clear e
  go_enter Try.func56, Try.ntmps56
  go_wp2_with fail
  refine (hw _).mono ?_
  rintro e w' ⟨rfl, hg⟩
  go_wp2_with fail
  go_ret
  exact ⟨rfl, hg⟩
theorem wrap_bits (n : Nat) (h : n ≤ 32) : IntKind.u64.wrap (IntKind.u64.wrap (2 ^ n) - 1) = ((2 ^ n - 1 : Nat) : Int) := by
  have h1 : 2 ^ n ≤ 2 ^ 32 := Nat.pow_le_pow_right (by omega) h
  have h2 : 0 < 2 ^ n := Nat.two_pow_pos n
  have e : (2 : Int) ^ n = ((2 ^ n : Nat) : Int) := by simp [Int.natCast_pow]
  rw [e]
  generalize 2 ^ n = p at *
  rw [IntKind.wrap_u64, IntKind.wrap_u64]
  omega
theorem bitsOf_any (a b c d : Int) (h : W a b) (h' : W c d) (w : World) : Calls Try.prog 54 #[.complex .f64 (fl a) (fl b), .complex .f64 (fl c) (fl d)] w fun e w' => e = .returned (.float .f64 (fl (bitsZ (max b d)))) ∧ w = w' := by
  obtain ⟨h1, h2, h3⟩ := h
  obtain ⟨h4, h5, h6⟩ := h'
  have m2 := fun ts t w => run_max_fl (P := Try.prog) b d (by omega) (by omega) ts t w
  have hm0 : 0 ≤ max b d := by omega
  have hm1 : max b d ≤ 4294967295 := by omega
  have c1 := fun w => conv_fl (max b d) hm0 hm1 w
  have hl := fun w => len_any (max b d) w hm0 hm1
  have hb := (bitLen_eq (max b d).toNat (by omega)).2 32 (by omega)
  have e : bitsZ (max b d) = ((2 ^ Lib.bitLen (max b d).toNat - 1 : Nat) : Int) := rfl
  rw [e]
  clear h1 h2 h3 h4 h5 h6 hm0 hm1 e
  generalize max b d = m at *
  generalize Lib.bitLen m.toNat = n at *
  go_enter Try.func54, Try.ntmps54
  go_wp2_with fail
  refine (hl _).mono ?_
  rintro e w' ⟨rfl, rfl⟩
  go_wp2_with fail
  go_ret
  exact ⟨congrArg (fun q => Ending.returned (.float .f64 (fl q))) (wrap_bits n hb), rfl⟩
/-- What a rule returns: a complex number whose parts stand for x and y. -/
def Cx (x y : Int) (w : World) (e : Ending) (w' : World) : Prop := ∃ r i, e = .returned (.complex .f64 r i) ∧ Fv r x ∧ Fv i y ∧ Grown w w'
theorem Cx.mk {x y : Int} {w w' : World} (hx : x.natAbs < 2 ^ 53) (hy : y.natAbs < 2 ^ 53) (h : Grown w w') : Cx x y w (.returned (.complex .f64 (fl x) (fl y))) w' :=
  ⟨_, _, rfl, Fv.of x hx, Fv.of y hy, h⟩
theorem Cx.of {x y : Int} {w w' : World} {e : Ending} {r i : Nat} (hx : Fv r x) (hy : Fv i y) (h : Grown w w') (he : e = .returned (.complex .f64 r i)) : Cx x y w e w' :=
  ⟨r, i, he, hx, hy, h⟩
theorem r_move (a b c d : Int) (_h : W a b) (h' : W c d) (w : World) : Calls Try.prog 35 #[.complex .f64 (fl a) (fl b), .complex .f64 (fl c) (fl d)] w fun e w' => Cx c d w e w' := by
  have hf := h'.fv
  go_enter Try.func35, Try.ntmps35
  go_wp2
  go_ret
  exact Cx.of hf.1 hf.2 (Grown.refl _) rfl
theorem cadd (a b c d : Int) (ha : a.natAbs < 2 ^ 52) (hb : b.natAbs < 2 ^ 52) (hc : c.natAbs < 2 ^ 52) (hd : d.natAbs < 2 ^ 52) (t : TypeId) (w : World) :
    (binOp .add t (.complex .f64 (fl a) (fl b)) (.complex .f64 (fl c) (fl d))).run Try.prog w = .ok (.complex .f64 (fl (a + c)) (fl (b + d))) w := by
  refine run_complex_sum w .add (Or.inl rfl) t .f64 _ _ _ _ _ _ ?_
  have e1 : floatBits .add .f64 (fl a) (fl c) = some (fl (a + c)) := add_fl a c ha hc
  have e2 : floatBits .add .f64 (fl b) (fl d) = some (fl (b + d)) := add_fl b d hb hd
  simp only [cSumBits, e1, e2, Option.bind_some]
theorem csub (a b c d : Int) (ha0 : 0 ≤ a) (hb0 : 0 ≤ b) (hc0 : 0 ≤ c) (hd0 : 0 ≤ d) (ha : a.natAbs < 2 ^ 52) (hb : b.natAbs < 2 ^ 52) (hc : c.natAbs < 2 ^ 52) (hd : d.natAbs < 2 ^ 52) (t : TypeId) (w : World) :
    (binOp .sub t (.complex .f64 (fl a) (fl b)) (.complex .f64 (fl c) (fl d))).run Try.prog w = .ok (.complex .f64 (fl (a - c)) (fl (b - d))) w := by
  refine run_complex_sum w .sub (Or.inr rfl) t .f64 _ _ _ _ _ _ ?_
  have e1 : floatBits .sub .f64 (fl a) (fl c) = some (fl (a - c)) := sub_fl a c ha hc ha0 hc0
  have e2 : floatBits .sub .f64 (fl b) (fl d) = some (fl (b - d)) := sub_fl b d hb hd hb0 hd0
  simp only [cSumBits, e1, e2, Option.bind_some]
theorem fsub (a c : Int) (ha0 : 0 ≤ a) (hc0 : 0 ≤ c) (ha : a.natAbs < 2 ^ 52) (hc : c.natAbs < 2 ^ 52) (t : TypeId) (w : World) :
    (binOp .sub t (.float .f64 (fl a)) (.float .f64 (fl c))).run Try.prog w = .ok (.float .f64 (fl (a - c))) w :=
  run_float_arith w .sub t .f64 _ _ _ (sub_fl a c ha hc ha0 hc0)
theorem fmul (a c : Int) (ha0 : 0 ≤ a) (ha : a ≤ 4294967295) (hc0 : 0 ≤ c) (hc : c ≤ 4294967295) : ∃ r, Fv r (a * c) ∧ ∀ (t : TypeId) (w : World),
    (binOp .mul t (.float .f64 (fl a)) (.float .f64 (fl c))).run Try.prog w = .ok (.float .f64 r) w := by
  obtain ⟨r, h1, h2⟩ := mul_fl a c ha0 (by omega) hc0 (by omega)
  exact ⟨r, h2, fun t w => run_float_arith w .mul t .f64 _ _ _ h1⟩
theorem r_add (a b c d : Int) (h : W a b) (h' : W c d) (w : World) : Calls Try.prog 36 #[.complex .f64 (fl a) (fl b), .complex .f64 (fl c) (fl d)] w fun e w' => Cx (a + c) (b + d) w e w' := by
  obtain ⟨h1, h2, h3⟩ := h
  obtain ⟨h4, h5, h6⟩ := h'
  have hs := fun t w => cadd a b c d (by omega) (by omega) (by omega) (by omega) t w
  have f1 := Fv.of (a + c) (by omega)
  have f2 := Fv.of (b + d) (by omega)
  clear h1 h2 h3 h4 h5 h6
  go_enter Try.func36, Try.ntmps36
  go_wp2
  go_ret
  exact Cx.of f1 f2 (Grown.refl _) rfl
theorem r_sub (a b c d : Int) (h : W a b) (h' : W c d) (w : World) : Calls Try.prog 37 #[.complex .f64 (fl a) (fl b), .complex .f64 (fl c) (fl d)] w fun e w' => Cx (a - d) (b - c) w e w' := by
  obtain ⟨h1, h2, h3⟩ := h
  obtain ⟨h4, h5, h6⟩ := h'
  have hs := fun t w => csub a b d c (by omega) (by omega) (by omega) (by omega) (by omega) (by omega) (by omega) (by omega) t w
  have f1 := Fv.of (a - d) (by omega)
  have f2 := Fv.of (b - c) (by omega)
  clear h1 h2 h3 h4 h5 h6
  go_enter Try.func37, Try.ntmps37
  go_wp2
  go_ret
  exact Cx.of f1 f2 (Grown.refl _) rfl
theorem r_mul (a b c d : Int) (h : W a b) (h' : W c d) (w : World) : Calls Try.prog 38 #[.complex .f64 (fl a) (fl b), .complex .f64 (fl c) (fl d)] w fun e w' => Cx (a * c) (b * d) w e w' := by
  obtain ⟨h1, h2, h3⟩ := h
  obtain ⟨h4, h5, h6⟩ := h'
  obtain ⟨r, f1, hs1⟩ := fmul a c (by omega) (by omega) (by omega) (by omega)
  obtain ⟨i, f2, hs2⟩ := fmul b d (by omega) (by omega) (by omega) (by omega)
  clear h1 h2 h3 h4 h5 h6
  go_enter Try.func38, Try.ntmps38
  go_wp2
  go_ret
  exact Cx.of f1 f2 (Grown.refl _) rfl
def divX (a c d : Int) : Int := if c = 0 then 0 else doI 4 a d
def divY (b c : Int) : Int := if c = 0 then b else doI 4 b c
theorem r_div (a b c d : Int) (h : W a b) (h' : W c d) (w : World) : Calls Try.prog 39 #[.complex .f64 (fl a) (fl b), .complex .f64 (fl c) (fl d)] w fun e w' => Cx (divX a c d) (divY b c) w e w' := by
  have hf := h.fv
  obtain ⟨h1, h2, h3⟩ := h
  obtain ⟨h4, h5, h6⟩ := h'
  have o := eql_of (ord0 (Fv.of c (by omega)))
  unfold divX divY
  by_cases hc : c = 0
  · rw [if_pos hc, if_pos hc]
    rw [decide_eq_true hc] at o
    have f0 := Fv.of 0 (by decide)
    clear h1 h2 h3 h4 h5 h6 hc
    go_enter Try.func39, Try.ntmps39
    go_wp2_with fail
    refine (upTo_any _ _).mono ?_
    rintro e w' ⟨rfl, rfl⟩
    go_wp2_with fail
    go_ret
    exact Cx.of f0 hf.2 (Grown.refl _) rfl
  · rw [if_neg hc, if_neg hc]
    rw [decide_eq_false hc] at o
    have w1 := fun w => word_any 4 a d w (by omega) (by omega) (by omega) (by omega) (by omega) (by omega)
    have w2 := fun w => word_any 4 b c w (by omega) (by omega) (by omega) (by omega) (by omega) (by omega)
    have g1 := doI_ge 4 a d
    have g2 := doI_le 4 a d (by omega) (by omega)
    have g3 := doI_ge 4 b c
    have g4 := doI_le 4 b c (by omega) (by omega)
    have f1 := Fv.of (doI 4 a d) (by omega)
    have f2 := Fv.of (doI 4 b c) (by omega)
    clear h1 h2 h3 h4 h5 h6 hc g1 g2 g3 g4
    go_enter Try.func39, Try.ntmps39
    go_wp2_with fail
    refine (w1 _).mono ?_
    rintro e w1 ⟨rfl, hg1⟩
    go_wp2_with fail
    refine (w2 _).mono ?_
    rintro e w2 ⟨rfl, hg2⟩
    go_wp2_with fail
    go_ret
    exact Cx.of f1 f2 (grown_trans hg1 hg2) rfl
end Go.Proofs.Ytngeadbdjkjpcaa
