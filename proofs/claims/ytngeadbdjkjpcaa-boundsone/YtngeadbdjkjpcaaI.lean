/-
  The law file's awake returns true; and what '==' says of two bounds.
-/
import Derived.Test.YtngeadbdjkjpcaaH
namespace Go.Proofs.Ytngeadbdjkjpcaa
open Go.RowKit

theorem eq_fl (a b : Int) (ha : a.natAbs < 2 ^ 53) (hb : b.natAbs < 2 ^ 53) : (FloatKind.f64.format.order (fl a) (fl b) == some .eq) = decide (a = b) := eql_of (ord_fl a b ha hb)
theorem run_eq_c (a b c d : Int) (ha : a.natAbs < 2 ^ 53) (hb : b.natAbs < 2 ^ 53) (hc : c.natAbs < 2 ^ 53) (hd : d.natAbs < 2 ^ 53) (v : Bool) (hv : decide (a = c ∧ b = d) = v) (t : TypeId) (w : World) :
    (binOp .eql t (.complex .f64 (fl a) (fl b)) (.complex .f64 (fl c) (fl d))).run Try.prog w = .ok (.bool v) w := by
  rw [run_eql_complex, eq_fl a c ha hc, eq_fl b d hb hd, ← hv, Bool.decide_and]
theorem run_ne_c (a b c d : Int) (ha : a.natAbs < 2 ^ 53) (hb : b.natAbs < 2 ^ 53) (hc : c.natAbs < 2 ^ 53) (hd : d.natAbs < 2 ^ 53) (v : Bool) (hv : decide (a = c ∧ b = d) = !v) (t : TypeId) (w : World) :
    (binOp .neq t (.complex .f64 (fl a) (fl b)) (.complex .f64 (fl c) (fl d))).run Try.prog w = .ok (.bool v) w := by
  rw [run_neq_complex, eq_fl a c ha hc, eq_fl b d hb hd, ← Bool.decide_and, hv, Bool.not_not]
theorem awake_any (w : World) : Calls Try.prog 8 #[] w fun e w' => e = .returned (.bool true) ∧ Grown w w' := by
  have W09 : W 0 9 := by unfold W; omega
  have W46 : W 4 6 := by unfold W; omega
  have W13 : W 1 3 := by unfold W; omega
  have W1020 : W 10 20 := by unfold W; omega
  have W05 : W 0 5 := by unfold W; omega
  have hc := fun w => cut_ok 3 0 9 4 6 (by omega) (by omega) W09 W46 w
  have hx : orX (cutX (3 : Int).toNat 0 9 4 6) (cutY (3 : Int).toNat 0 9 4 6) = 0 := by decide
  have hy : orY (cutX (3 : Int).toNat 0 9 4 6) (cutY (3 : Int).toNat 0 9 4 6) = 5 := by decide
  have hb : okB (cutX (3 : Int).toNat 0 9 4 6) (cutY (3 : Int).toNat 0 9 4 6) = true := by decide
  simp only [CutPost, hx, hy, hb] at hc
  have ha := fun w => alu_any 1 1 3 10 20 W13 W1020 w
  have gx : aluL (aluK 1) 1 3 10 20 = 11 := by decide
  have gy : aluH (aluK 1) 1 3 10 20 = 23 := by decide
  simp only [gx, gy] at ha
  have o1 := fun w => of_le 0 9 w (by omega)
  have o2 := fun w => of_le 4 6 w (by omega)
  have o3 := fun w => of_le 1 3 w (by omega)
  have o4 := fun w => of_le 10 20 w (by omega)
  have o5 := fun w => of_le 11 23 w (by omega)
  have o6 := fun w => of_le 0 5 w (by omega)
  have h5 := fun w => has_any 0 5 5 W05 w
  have h6 := fun w => has_any 0 5 6 W05 w
  have i5 : inB 0 5 5 = true := by decide
  have i6 : inB 0 5 6 = false := by decide
  rw [i5] at h5
  rw [i6] at h6
  have q1 := fun t w => run_eq_c 11 23 11 23 (by decide) (by decide) (by decide) (by decide) true (by decide) t w
  have q2 := fun t w => run_eq_c 0 5 0 5 (by decide) (by decide) (by decide) (by decide) true (by decide) t w
  clear hx hy hb gx gy i5 i6 W09 W46 W13 W1020 W05
  go_enter Try.func8, Try.ntmps8
  go_wp2_with fail
  refine (o1 _).mono ?_
  rintro e w' ⟨rfl, rfl⟩
  go_wp2_with fail
  refine (o2 _).mono ?_
  rintro e w' ⟨rfl, rfl⟩
  go_wp2_with fail
  refine (hc _).mono ?_
  rintro e w1 ⟨rfl, hg1⟩
  go_wp2_with fail
  refine (o3 _).mono ?_
  rintro e w' ⟨rfl, rfl⟩
  go_wp2_with fail
  refine (o4 _).mono ?_
  rintro e w' ⟨rfl, rfl⟩
  go_wp2_with fail
  refine (ha _).mono ?_
  rintro e w2 ⟨rfl, hg2⟩
  go_wp2_with fail
  refine (o5 _).mono ?_
  rintro e w' ⟨rfl, rfl⟩
  go_wp2_with fail
  refine (o6 _).mono ?_
  rintro e w' ⟨rfl, rfl⟩
  go_wp2_with fail
  refine (h5 _).mono ?_
  rintro e w' ⟨rfl, rfl⟩
  go_wp2_with fail
  refine (h6 _).mono ?_
  rintro e w' ⟨rfl, rfl⟩
  go_wp2_with fail
  go_ret
  exact ⟨rfl, grown_trans hg1 hg2⟩
end Go.Proofs.Ytngeadbdjkjpcaa
