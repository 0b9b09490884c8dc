/-
  Bounds of one word alone, moved, shifted lower, or divided, come to just what these words do; cut, one of Eq and Ne is left: law BoundsOne returns true for every number and every two words.
  Conditions: none.
-/
import Derived.Test.YtngeadbdjkjpcaaRows
import Derived.Test.YtngeadbdjkjpcaaI
import Derived.Test.YtngeadbdjkjpcaaPm
import Derived.WalkKit
import Derived.ProofKit
import Derived.OpenShut
namespace Go.Proofs.Ytngeadbdjkjpcaa.boundsOne
open Go.ChangeShapes Go.WideShapes Go.ChangeAt Go.RowKit
set_option linter.unusedVariables false      -- a walk need not use every 'w<i>' (that an integer argument fits its kind)

theorem own : ownKnob Try.prog.godebug = none := by kernel_rfl

set_option maxHeartbeats 8000000 in
theorem walk (a0 : Int) (a1 : Int) (a2 : Int) (w0 : (Lit.int .i64 a0).wf = true) (w1 : (Lit.int .u32 a1).wf = true) (w2 : (Lit.int .u32 a2).wf = true) (w : World) :
    Calls Try.prog 6 #[.int .i64 a0, .int .u32 a1, .int .u32 a2] w fun e w' => e = .returned (.bool true) ∧ Grown w w' := by
  obtain ⟨b1, c1⟩ := bounds_u32 w1
  obtain ⟨b2, c2⟩ := bounds_u32 w2
  have o1 := fun w => of_le a1 a1 w (Int.le_refl _)
  have o2 := fun w => of_le a2 a2 w (Int.le_refl _)
  have hW1 : W a1 a1 := ⟨b1, Int.le_refl _, c1⟩
  have hW2 : W a2 a2 := ⟨b2, Int.le_refl _, c2⟩
  have ha := fun w => alu_any a0 a1 a1 a2 a2 hW1 hW2 w
  have hn := fun w => cut_any 2 a1 a1 a2 a2 hW1 hW2 w
  have hq := fun w => cut_any 1 a1 a1 a2 a2 hW1 hW2 w
  have k2 : cutK 2 = 2 := by decide
  have k1 : cutK 1 = 1 := by decide
  rw [k2, one_ne a1 a2 b1 c1] at hn
  rw [k1, one_eq a1 a2 b1 c1] at hq
  have hWa := W_alu (aluK a0) a1 a1 a2 a2
  have he := fun w => ends_any _ _ hWa w
  have hs := fun w => has_any _ _ (doI a0 a1 a2) hWa w
  have hin : 0 ≤ a0 ∧ a0 ≤ 10 → inB (aluL (aluK a0) a1 a1 a2 a2) (aluH (aluK a0) a1 a1 a2 a2) (doI a0 a1 a2) = true := fun hop => by
    have e1 : aluK a0 = a0.toNat := if_pos hop
    have e2 : ((a0.toNat : Nat) : Int) = a0 := by omega
    have q := alu_holds a0.toNat (by omega) a1 a1 a2 a2 a1 a2 hW1 hW2 ⟨Int.le_refl _, Int.le_refl _⟩ ⟨Int.le_refl _, Int.le_refl _⟩
    rw [e2] at q
    rw [e1]; exact inB_of q
  have hex : (a0 = 0 ∨ a0 = 10 ∨ (a0 = 4 ∧ 0 < a2)) → aluL (aluK a0) a1 a1 a2 a2 = doI a0 a1 a2 ∧ aluH (aluK a0) a1 a1 a2 a2 = doI a0 a1 a2 := fun hk => by
    have hop : 0 ≤ a0 ∧ a0 ≤ 10 := by omega
    have e1 : aluK a0 = a0.toNat := if_pos hop
    have e2 : ((a0.toNat : Nat) : Int) = a0 := by omega
    have q := one_exact a0.toNat a1 a2 b1 c1 b2 c2 (by omega)
    rw [e2] at q
    rw [e1]; exact q
  have hd := fun (h : 0 ≤ a0 ∧ a0 ≤ 10) w => do_any a0 a1 a2 w h.1 h.2 b1 c1 b2 c2
  have hd0 := fun (h : ¬ (0 ≤ a0 ∧ a0 ≤ 10)) w => do_none a0 a1 a2 w (by omega)
  have hl : a1 = a2 → cutL 1 a1 a1 a2 a2 = a1 ∧ cutH 1 a1 a1 a2 a2 = a1 := fun e => by subst e; exact one_eqL a1 b1 c1
  have hqq := fun t w => run_ne_c a1 a1 a1 a1 (by omega) (by omega) (by omega) (by omega) false (by simp) t w
  clear k1 k2 hWa hW1 hW2
  generalize aluL (aluK a0) a1 a1 a2 a2 = L at *
  generalize aluH (aluK a0) a1 a1 a2 a2 = H at *
  generalize doI a0 a1 a2 = V at *
  generalize cutL 2 a1 a1 a2 a2 = L2 at *
  generalize cutH 2 a1 a1 a2 a2 = H2 at *
  generalize cutL 1 a1 a1 a2 a2 = L1 at *
  generalize cutH 1 a1 a1 a2 a2 = H1 at *
  clear b1 c1 c2
  by_cases k0 : a0 = 0
  · have hd' := hd (by omega)
    have hi := hin (by omega)
    obtain ⟨e1, e2⟩ := hex (by omega)
    subst e1 e2
    rw [hi] at hs
    have t1 : (a0 == 0) = true := by simp; omega
    have v1 : (H == H) = true := by simp
    clear hd hd0 hex hin hi b2 k0
    by_cases hxy : a1 = a2
    · obtain ⟨e1, e2⟩ := hl hxy
      subst L1
      subst H1
      rw [decide_eq_true hxy] at hq
      rw [decide_eq_false (show ¬ a1 ≠ a2 from fun q => q hxy)] at hn
      have u1 : (a1 != a2) = false := by simp [hxy]
      have u2 : (a1 == a2) = true := by simp [hxy]
      clear hxy hl
      go_enter Try.func6, Try.ntmps6
      go_wp2_with fail
      refine (awake_any _).mono ?_
      rintro e w1 ⟨rfl, g1⟩
      go_wp2_with fail
      refine (o1 _).mono ?_
      rintro e w' ⟨rfl, rfl⟩
      go_wp2_with fail
      refine (o2 _).mono ?_
      rintro e w' ⟨rfl, rfl⟩
      go_wp2_with fail
      refine (hd' _).mono ?_
      rintro e w2 ⟨rfl, g2⟩
      go_wp2_with fail
      refine (ha _).mono ?_
      rintro e w3 ⟨rfl, g3⟩
      go_wp2_with fail
      refine (hn _).mono ?_
      rintro e w4 ⟨rfl, g4⟩
      go_wp2_with fail
      refine (hq _).mono ?_
      rintro e w5 ⟨rfl, g5⟩
      go_wp2_with fail
      refine (he _).mono ?_
      rintro e w' ⟨rfl, rfl⟩
      go_wp2_with fail
      refine (hs _).mono ?_
      rintro e w' ⟨rfl, rfl⟩
      go_wp2_with fail
      go_ret
      exact ⟨rfl, grown_trans g1 (grown_trans g2 (grown_trans g3 (grown_trans g4 g5)))⟩
    · rw [decide_eq_false hxy] at hq
      rw [decide_eq_true hxy] at hn
      have u1 : (a1 != a2) = true := by simp [hxy]
      have u2 : (a1 == a2) = false := by simp [hxy]
      clear hxy hl
      go_enter Try.func6, Try.ntmps6
      go_wp2_with fail
      refine (awake_any _).mono ?_
      rintro e w1 ⟨rfl, g1⟩
      go_wp2_with fail
      refine (o1 _).mono ?_
      rintro e w' ⟨rfl, rfl⟩
      go_wp2_with fail
      refine (o2 _).mono ?_
      rintro e w' ⟨rfl, rfl⟩
      go_wp2_with fail
      refine (hd' _).mono ?_
      rintro e w2 ⟨rfl, g2⟩
      go_wp2_with fail
      refine (ha _).mono ?_
      rintro e w3 ⟨rfl, g3⟩
      go_wp2_with fail
      refine (hn _).mono ?_
      rintro e w4 ⟨rfl, g4⟩
      go_wp2_with fail
      refine (hq _).mono ?_
      rintro e w5 ⟨rfl, g5⟩
      go_wp2_with fail
      refine (he _).mono ?_
      rintro e w' ⟨rfl, rfl⟩
      go_wp2_with fail
      refine (hs _).mono ?_
      rintro e w' ⟨rfl, rfl⟩
      go_wp2_with fail
      go_ret
      exact ⟨rfl, grown_trans g1 (grown_trans g2 (grown_trans g3 (grown_trans g4 g5)))⟩
  by_cases k10 : a0 = 10
  · have hd' := hd (by omega)
    have hi := hin (by omega)
    obtain ⟨e1, e2⟩ := hex (by omega)
    subst e1 e2
    rw [hi] at hs
    have t1 : (a0 == 0) = false := by simp; omega
    have t2 : (a0 == 10) = true := by simp; omega
    have v1 : (H == H) = true := by simp
    clear hd hd0 hex hin hi b2 k0 k10
    by_cases hxy : a1 = a2
    · obtain ⟨e1, e2⟩ := hl hxy
      subst L1
      subst H1
      rw [decide_eq_true hxy] at hq
      rw [decide_eq_false (show ¬ a1 ≠ a2 from fun q => q hxy)] at hn
      have u1 : (a1 != a2) = false := by simp [hxy]
      have u2 : (a1 == a2) = true := by simp [hxy]
      clear hxy hl
      go_enter Try.func6, Try.ntmps6
      go_wp2_with fail
      refine (awake_any _).mono ?_
      rintro e w1 ⟨rfl, g1⟩
      go_wp2_with fail
      refine (o1 _).mono ?_
      rintro e w' ⟨rfl, rfl⟩
      go_wp2_with fail
      refine (o2 _).mono ?_
      rintro e w' ⟨rfl, rfl⟩
      go_wp2_with fail
      refine (hd' _).mono ?_
      rintro e w2 ⟨rfl, g2⟩
      go_wp2_with fail
      refine (ha _).mono ?_
      rintro e w3 ⟨rfl, g3⟩
      go_wp2_with fail
      refine (hn _).mono ?_
      rintro e w4 ⟨rfl, g4⟩
      go_wp2_with fail
      refine (hq _).mono ?_
      rintro e w5 ⟨rfl, g5⟩
      go_wp2_with fail
      refine (he _).mono ?_
      rintro e w' ⟨rfl, rfl⟩
      go_wp2_with fail
      refine (hs _).mono ?_
      rintro e w' ⟨rfl, rfl⟩
      go_wp2_with fail
      go_ret
      exact ⟨rfl, grown_trans g1 (grown_trans g2 (grown_trans g3 (grown_trans g4 g5)))⟩
    · rw [decide_eq_false hxy] at hq
      rw [decide_eq_true hxy] at hn
      have u1 : (a1 != a2) = true := by simp [hxy]
      have u2 : (a1 == a2) = false := by simp [hxy]
      clear hxy hl
      go_enter Try.func6, Try.ntmps6
      go_wp2_with fail
      refine (awake_any _).mono ?_
      rintro e w1 ⟨rfl, g1⟩
      go_wp2_with fail
      refine (o1 _).mono ?_
      rintro e w' ⟨rfl, rfl⟩
      go_wp2_with fail
      refine (o2 _).mono ?_
      rintro e w' ⟨rfl, rfl⟩
      go_wp2_with fail
      refine (hd' _).mono ?_
      rintro e w2 ⟨rfl, g2⟩
      go_wp2_with fail
      refine (ha _).mono ?_
      rintro e w3 ⟨rfl, g3⟩
      go_wp2_with fail
      refine (hn _).mono ?_
      rintro e w4 ⟨rfl, g4⟩
      go_wp2_with fail
      refine (hq _).mono ?_
      rintro e w5 ⟨rfl, g5⟩
      go_wp2_with fail
      refine (he _).mono ?_
      rintro e w' ⟨rfl, rfl⟩
      go_wp2_with fail
      refine (hs _).mono ?_
      rintro e w' ⟨rfl, rfl⟩
      go_wp2_with fail
      go_ret
      exact ⟨rfl, grown_trans g1 (grown_trans g2 (grown_trans g3 (grown_trans g4 g5)))⟩
  by_cases k4 : a0 = 4 ∧ 0 < a2
  · have hd' := hd (by omega)
    have hi := hin (by omega)
    obtain ⟨e1, e2⟩ := hex (by omega)
    subst e1 e2
    rw [hi] at hs
    have t1 : (a0 == 0) = false := by simp; omega
    have t2 : (a0 == 10) = false := by simp; omega
    have t3 : (a0 == 4) = true := by simp; omega
    have t4 : decide (0 < a2) = true := by simp; omega
    have v1 : (H == H) = true := by simp
    clear hd hd0 hex hin hi b2 k0 k10 k4
    by_cases hxy : a1 = a2
    · obtain ⟨e1, e2⟩ := hl hxy
      subst L1
      subst H1
      rw [decide_eq_true hxy] at hq
      rw [decide_eq_false (show ¬ a1 ≠ a2 from fun q => q hxy)] at hn
      have u1 : (a1 != a2) = false := by simp [hxy]
      have u2 : (a1 == a2) = true := by simp [hxy]
      clear hxy hl
      go_enter Try.func6, Try.ntmps6
      go_wp2_with fail
      refine (awake_any _).mono ?_
      rintro e w1 ⟨rfl, g1⟩
      go_wp2_with fail
      refine (o1 _).mono ?_
      rintro e w' ⟨rfl, rfl⟩
      go_wp2_with fail
      refine (o2 _).mono ?_
      rintro e w' ⟨rfl, rfl⟩
      go_wp2_with fail
      refine (hd' _).mono ?_
      rintro e w2 ⟨rfl, g2⟩
      go_wp2_with fail
      refine (ha _).mono ?_
      rintro e w3 ⟨rfl, g3⟩
      go_wp2_with fail
      refine (hn _).mono ?_
      rintro e w4 ⟨rfl, g4⟩
      go_wp2_with fail
      refine (hq _).mono ?_
      rintro e w5 ⟨rfl, g5⟩
      go_wp2_with fail
      refine (he _).mono ?_
      rintro e w' ⟨rfl, rfl⟩
      go_wp2_with fail
      refine (hs _).mono ?_
      rintro e w' ⟨rfl, rfl⟩
      go_wp2_with fail
      go_ret
      exact ⟨rfl, grown_trans g1 (grown_trans g2 (grown_trans g3 (grown_trans g4 g5)))⟩
    · rw [decide_eq_false hxy] at hq
      rw [decide_eq_true hxy] at hn
      have u1 : (a1 != a2) = true := by simp [hxy]
      have u2 : (a1 == a2) = false := by simp [hxy]
      clear hxy hl
      go_enter Try.func6, Try.ntmps6
      go_wp2_with fail
      refine (awake_any _).mono ?_
      rintro e w1 ⟨rfl, g1⟩
      go_wp2_with fail
      refine (o1 _).mono ?_
      rintro e w' ⟨rfl, rfl⟩
      go_wp2_with fail
      refine (o2 _).mono ?_
      rintro e w' ⟨rfl, rfl⟩
      go_wp2_with fail
      refine (hd' _).mono ?_
      rintro e w2 ⟨rfl, g2⟩
      go_wp2_with fail
      refine (ha _).mono ?_
      rintro e w3 ⟨rfl, g3⟩
      go_wp2_with fail
      refine (hn _).mono ?_
      rintro e w4 ⟨rfl, g4⟩
      go_wp2_with fail
      refine (hq _).mono ?_
      rintro e w5 ⟨rfl, g5⟩
      go_wp2_with fail
      refine (he _).mono ?_
      rintro e w' ⟨rfl, rfl⟩
      go_wp2_with fail
      refine (hs _).mono ?_
      rintro e w' ⟨rfl, rfl⟩
      go_wp2_with fail
      go_ret
      exact ⟨rfl, grown_trans g1 (grown_trans g2 (grown_trans g3 (grown_trans g4 g5)))⟩
  by_cases k44 : a0 = 4
  · have hd' := hd (by omega)
    have hi := hin (by omega)
    rw [hi] at hs
    have t1 : (a0 == 0) = false := by simp; omega
    have t2 : (a0 == 10) = false := by simp; omega
    have t3 : (a0 == 4) = true := by simp; omega
    have t4 : decide (0 < a2) = false := by simp; omega
    clear hd hd0 hex hin hi b2 k0 k10 k4 k44
    by_cases hxy : a1 = a2
    · obtain ⟨e1, e2⟩ := hl hxy
      subst L1
      subst H1
      rw [decide_eq_true hxy] at hq
      rw [decide_eq_false (show ¬ a1 ≠ a2 from fun q => q hxy)] at hn
      have u1 : (a1 != a2) = false := by simp [hxy]
      have u2 : (a1 == a2) = true := by simp [hxy]
      clear hxy hl
      go_enter Try.func6, Try.ntmps6
      go_wp2_with fail
      refine (awake_any _).mono ?_
      rintro e w1 ⟨rfl, g1⟩
      go_wp2_with fail
      refine (o1 _).mono ?_
      rintro e w' ⟨rfl, rfl⟩
      go_wp2_with fail
      refine (o2 _).mono ?_
      rintro e w' ⟨rfl, rfl⟩
      go_wp2_with fail
      refine (hd' _).mono ?_
      rintro e w2 ⟨rfl, g2⟩
      go_wp2_with fail
      refine (ha _).mono ?_
      rintro e w3 ⟨rfl, g3⟩
      go_wp2_with fail
      refine (hn _).mono ?_
      rintro e w4 ⟨rfl, g4⟩
      go_wp2_with fail
      refine (hq _).mono ?_
      rintro e w5 ⟨rfl, g5⟩
      go_wp2_with fail
      refine (he _).mono ?_
      rintro e w' ⟨rfl, rfl⟩
      go_wp2_with fail
      refine (hs _).mono ?_
      rintro e w' ⟨rfl, rfl⟩
      go_wp2_with fail
      go_ret
      exact ⟨rfl, grown_trans g1 (grown_trans g2 (grown_trans g3 (grown_trans g4 g5)))⟩
    · rw [decide_eq_false hxy] at hq
      rw [decide_eq_true hxy] at hn
      have u1 : (a1 != a2) = true := by simp [hxy]
      have u2 : (a1 == a2) = false := by simp [hxy]
      clear hxy hl
      go_enter Try.func6, Try.ntmps6
      go_wp2_with fail
      refine (awake_any _).mono ?_
      rintro e w1 ⟨rfl, g1⟩
      go_wp2_with fail
      refine (o1 _).mono ?_
      rintro e w' ⟨rfl, rfl⟩
      go_wp2_with fail
      refine (o2 _).mono ?_
      rintro e w' ⟨rfl, rfl⟩
      go_wp2_with fail
      refine (hd' _).mono ?_
      rintro e w2 ⟨rfl, g2⟩
      go_wp2_with fail
      refine (ha _).mono ?_
      rintro e w3 ⟨rfl, g3⟩
      go_wp2_with fail
      refine (hn _).mono ?_
      rintro e w4 ⟨rfl, g4⟩
      go_wp2_with fail
      refine (hq _).mono ?_
      rintro e w5 ⟨rfl, g5⟩
      go_wp2_with fail
      refine (he _).mono ?_
      rintro e w' ⟨rfl, rfl⟩
      go_wp2_with fail
      refine (hs _).mono ?_
      rintro e w' ⟨rfl, rfl⟩
      go_wp2_with fail
      go_ret
      exact ⟨rfl, grown_trans g1 (grown_trans g2 (grown_trans g3 (grown_trans g4 g5)))⟩
  have t1 : (a0 == 0) = false := by simp; omega
  have t2 : (a0 == 10) = false := by simp; omega
  have t3 : (a0 == 4) = false := by simp; omega
  clear hex b2
  by_cases hop : 0 ≤ a0 ∧ a0 ≤ 10
  · have hd' := hd hop
    have hi := hin hop
    rw [hi] at hs
    clear hd hd0 hin hi k0 k10 k4 k44 hop
    by_cases hxy : a1 = a2
    · obtain ⟨e1, e2⟩ := hl hxy
      subst L1
      subst H1
      rw [decide_eq_true hxy] at hq
      rw [decide_eq_false (show ¬ a1 ≠ a2 from fun q => q hxy)] at hn
      have u1 : (a1 != a2) = false := by simp [hxy]
      have u2 : (a1 == a2) = true := by simp [hxy]
      clear hxy hl
      go_enter Try.func6, Try.ntmps6
      go_wp2_with fail
      refine (awake_any _).mono ?_
      rintro e w1 ⟨rfl, g1⟩
      go_wp2_with fail
      refine (o1 _).mono ?_
      rintro e w' ⟨rfl, rfl⟩
      go_wp2_with fail
      refine (o2 _).mono ?_
      rintro e w' ⟨rfl, rfl⟩
      go_wp2_with fail
      refine (hd' _).mono ?_
      rintro e w2 ⟨rfl, g2⟩
      go_wp2_with fail
      refine (ha _).mono ?_
      rintro e w3 ⟨rfl, g3⟩
      go_wp2_with fail
      refine (hn _).mono ?_
      rintro e w4 ⟨rfl, g4⟩
      go_wp2_with fail
      refine (hq _).mono ?_
      rintro e w5 ⟨rfl, g5⟩
      go_wp2_with fail
      refine (he _).mono ?_
      rintro e w' ⟨rfl, rfl⟩
      go_wp2_with fail
      refine (hs _).mono ?_
      rintro e w' ⟨rfl, rfl⟩
      go_wp2_with fail
      go_ret
      exact ⟨rfl, grown_trans g1 (grown_trans g2 (grown_trans g3 (grown_trans g4 g5)))⟩
    · rw [decide_eq_false hxy] at hq
      rw [decide_eq_true hxy] at hn
      have u1 : (a1 != a2) = true := by simp [hxy]
      have u2 : (a1 == a2) = false := by simp [hxy]
      clear hxy hl
      go_enter Try.func6, Try.ntmps6
      go_wp2_with fail
      refine (awake_any _).mono ?_
      rintro e w1 ⟨rfl, g1⟩
      go_wp2_with fail
      refine (o1 _).mono ?_
      rintro e w' ⟨rfl, rfl⟩
      go_wp2_with fail
      refine (o2 _).mono ?_
      rintro e w' ⟨rfl, rfl⟩
      go_wp2_with fail
      refine (hd' _).mono ?_
      rintro e w2 ⟨rfl, g2⟩
      go_wp2_with fail
      refine (ha _).mono ?_
      rintro e w3 ⟨rfl, g3⟩
      go_wp2_with fail
      refine (hn _).mono ?_
      rintro e w4 ⟨rfl, g4⟩
      go_wp2_with fail
      refine (hq _).mono ?_
      rintro e w5 ⟨rfl, g5⟩
      go_wp2_with fail
      refine (he _).mono ?_
      rintro e w' ⟨rfl, rfl⟩
      go_wp2_with fail
      refine (hs _).mono ?_
      rintro e w' ⟨rfl, rfl⟩
      go_wp2_with fail
      go_ret
      exact ⟨rfl, grown_trans g1 (grown_trans g2 (grown_trans g3 (grown_trans g4 g5)))⟩
  · have hd' := hd0 hop
    clear hd hd0 hin k0 k10 k4 k44 hop
    by_cases hxy : a1 = a2
    · obtain ⟨e1, e2⟩ := hl hxy
      subst L1
      subst H1
      rw [decide_eq_true hxy] at hq
      rw [decide_eq_false (show ¬ a1 ≠ a2 from fun q => q hxy)] at hn
      have u1 : (a1 != a2) = false := by simp [hxy]
      have u2 : (a1 == a2) = true := by simp [hxy]
      clear hxy hl
      go_enter Try.func6, Try.ntmps6
      go_wp2_with fail
      refine (awake_any _).mono ?_
      rintro e w1 ⟨rfl, g1⟩
      go_wp2_with fail
      refine (o1 _).mono ?_
      rintro e w' ⟨rfl, rfl⟩
      go_wp2_with fail
      refine (o2 _).mono ?_
      rintro e w' ⟨rfl, rfl⟩
      go_wp2_with fail
      refine (hd' _).mono ?_
      rintro e w2 ⟨rfl, g2⟩
      go_wp2_with fail
      refine (ha _).mono ?_
      rintro e w3 ⟨rfl, g3⟩
      go_wp2_with fail
      refine (hn _).mono ?_
      rintro e w4 ⟨rfl, g4⟩
      go_wp2_with fail
      refine (hq _).mono ?_
      rintro e w5 ⟨rfl, g5⟩
      go_wp2_with fail
      refine (he _).mono ?_
      rintro e w' ⟨rfl, rfl⟩
      go_wp2_with fail
      go_ret
      exact ⟨rfl, grown_trans g1 (grown_trans g2 (grown_trans g3 (grown_trans g4 g5)))⟩
    · rw [decide_eq_false hxy] at hq
      rw [decide_eq_true hxy] at hn
      have u1 : (a1 != a2) = true := by simp [hxy]
      have u2 : (a1 == a2) = false := by simp [hxy]
      clear hxy hl
      go_enter Try.func6, Try.ntmps6
      go_wp2_with fail
      refine (awake_any _).mono ?_
      rintro e w1 ⟨rfl, g1⟩
      go_wp2_with fail
      refine (o1 _).mono ?_
      rintro e w' ⟨rfl, rfl⟩
      go_wp2_with fail
      refine (o2 _).mono ?_
      rintro e w' ⟨rfl, rfl⟩
      go_wp2_with fail
      refine (hd' _).mono ?_
      rintro e w2 ⟨rfl, g2⟩
      go_wp2_with fail
      refine (ha _).mono ?_
      rintro e w3 ⟨rfl, g3⟩
      go_wp2_with fail
      refine (hn _).mono ?_
      rintro e w4 ⟨rfl, g4⟩
      go_wp2_with fail
      refine (hq _).mono ?_
      rintro e w5 ⟨rfl, g5⟩
      go_wp2_with fail
      refine (he _).mono ?_
      rintro e w' ⟨rfl, rfl⟩
      go_wp2_with fail
      go_ret
      exact ⟨rfl, grown_trans g1 (grown_trans g2 (grown_trans g3 (grown_trans g4 g5)))⟩

/-! ### THE ROW's STEP: WRITTEN OUT: LEAVE IT -/
set_option maxRecDepth 100000 in
theorem lifted (os : Os) (started : os.Started) (H : Type) (enc : TypeId × Value → H) :
    ReturnsInHanded {} Try.checked os 6 .any (Rows.boundsOneSpec.pre6 enc Try.prog Try.f6 Rows.boundsOneRow.domain false) (Rows.boundsOneSpec.post enc Try.prog Try.f6 false true false false) := by
  refine returnsInHanded_of_change (C := Try.checked) own started (by kernel_rfl) Try.func6
    (ChangeSpec.witness6 (enc := enc) (C := Try.checked) false ⟨#[], #[.int .i64 0, .int .u32 0, .int .u32 0], []⟩ 8 (by kernel_rfl) (by kernel_rfl) (by kernel_rfl) (by kernel_rfl)) ?_
  intro W base args ds gs before hval0 hW hcnd _
  have hval : ∀ (j : Nat) t v, Try.f6.params[j]? = some t → args[j]? = some v → Value.okWide Try.prog W .any base t v := hval0
  have hW' := hW
  obtain ⟨p, q, hA0, hV, rfl, hfz, hnd⟩ := hW
  have hA : DataW.TrodAll enc Try.prog W 0 (fun _ => true) true Try.f6.params.toList args.toList ds p := hA0
  rw [Try.params6] at hA hval
  obtain ⟨v0, vs0, d0, ds0, p0, q0, hargs, rfl, rfl, h0, r0⟩ := trodAll_cons hA
  obtain ⟨v1, vs1, d1, ds1, p1, q1, rfl, rfl, rfl, h1, r1⟩ := trodAll_cons r0
  obtain ⟨v2, vs2, d2, ds2, p2, q2, rfl, rfl, rfl, h2, r2⟩ := trodAll_cons r1
  obtain ⟨rfl, rfl, rfl⟩ := trodAll_nil r2
  obtain rfl : args = #[v0, v1, v2] := by cases args; simp_all
  obtain ⟨rfl, rfl⟩ := trodVars_none hV
  obtain ⟨a0, rfl, rfl, rfl, w0⟩ := open_int Try.underlying3 (hval 0 3 v0 rfl rfl) h0
  obtain ⟨a1, rfl, rfl, rfl, w1⟩ := open_int Try.underlying22 (hval 1 22 v1 rfl rfl) h1
  obtain ⟨a2, rfl, rfl, rfl, w2⟩ := open_int Try.underlying22 (hval 2 22 v2 rfl rfl) h2
  clear hA0 hval0
  simp only [List.append_nil] at hW'
  refine (walk a0 a1 a2 w0 w1 w2 W).mono fun e W' ⟨he, hg⟩ => ?_
  subst he
  exact ⟨_, rfl, post_of_same (pa := []) (pv := []) hW' (fun _ _ _ => (trodAll_cons_mk (shut_bool Try.underlying4 _) trodAll_mk0)) (fun sp _ => (trodAll_cons_mk (shut_int Try.underlying3 w0) (trodAll_cons_mk (shut_int Try.underlying22 w1) (trodAll_cons_mk (shut_int Try.underlying22 w2) trodAll_mk0)))) (fun _ _ => rfl) rfl
    (hg.frame _) hg.2.1 (ok_one (by kernel_rfl) rfl (okWide_bool_mk Try.underlying4 _))⟩

theorem over : Rows.boundsOneRow.holds Try.pinned (OpenSpec.ofChange Rows.boundsOneSpec) :=
  OpenClaim.holds_of_wide 6 Try.f6 rfl rfl rfl rfl rfl rfl rfl ⟨rfl, rfl, rfl, rfl, rfl⟩ rfl rfl rfl rfl rfl (by kernel_rfl) Try.func6 (by kernel_rfl)
    (of_decide_eq_true (by kernel_rfl)) (by unfold Func.isWrapper; first | (rw [if_pos (by decide +kernel)]; kernel_rfl) | (rw [if_neg (by decide +kernel)]; exact ⟨rfl, rfl⟩))
    (fun os started H enc _ => lifted os started H enc)

/-- ████ THE STATEMENT ████ -/
theorem proved : Rows.BoundsOneSaid :=
  over
#print axioms proved
end Go.Proofs.Ytngeadbdjkjpcaa.boundsOne
