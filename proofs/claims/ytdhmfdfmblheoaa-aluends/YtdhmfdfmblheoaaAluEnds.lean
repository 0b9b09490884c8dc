/-
  By 0 nothing is divided and all is left, by itself one; no shift, and nothing put to it, leave a word as it is: law AluEnds returns true for every word.
  Conditions: none.
-/
import Derived.Test.YtdhmfdfmblheoaaRows
import Derived.Test.YtdhmfdfmblheoaaA
import Derived.WalkKit
import Derived.ProofKit
import Derived.OpenShut
namespace Go.Proofs.Ytdhmfdfmblheoaa.aluEnds
open Go.ChangeShapes Go.WideShapes Go.ChangeAt Go.RowKit
set_option linter.unusedVariables false      -- a walk need not use every 'w<i>' (that an integer argument fits its kind)

theorem own : ownKnob Try.prog.godebug = none := by kernel_rfl

theorem f1 (a : Nat) : (doI 4 a 0 == 0) = true := by simp [doI, doN]
theorem f2 (a : Nat) : (doI 5 a 0 == a) = true := by simp [doI, doN]
theorem f3 (a : Nat) (h : a < 4294967296) : (doI 9 a 0 == a) = true := by simp [doI, doN]; omega
theorem f4 (a : Nat) : (doI 10 a 32 == a) = true := by simp [doI, doN]
theorem f5 (a : Nat) (h : a < 4294967296) : (doI 1 a 0 == a) = true := by simp [doI, doN]; omega
theorem f6 (a : Nat) (h : a < 4294967296) : (doI 3 a 1 == a) = true := by simp [doI, doN]; omega
theorem f7 (a : Nat) : (doI 3 a 0 == 0) = true := by simp [doI, doN]
theorem f8 (a : Nat) : (doI 8 a a == 0) = true := by simp [doI, doN]
theorem f9 (a : Nat) : (doI 6 a a == a) = true := by simp [doI, doN]
theorem f10 (a : Nat) : (doI 7 a 0 == a) = true := by simp [doI, doN]
theorem f11 (a : Nat) (h : 0 < a) : (doI 4 a a == 1) = true := by simp [doI, doN]; exact_mod_cast Nat.div_self h
theorem f12 (a : Nat) : (doI 5 a a == 0) = true := by simp [doI, doN]
theorem f13 (a : Nat) (h : a < 4294967296) : (doI 2 0 a == doI 1 (doI 8 a 4294967295) 1) = true := by
  have e := xor_ones a h
  simp only [doI, doN, beq_iff_eq]
  have t1 : (0 : Int).toNat = 0 := rfl
  have t2 : (4294967295 : Int).toNat = 4294967295 := rfl
  have t3 : (2 : Int).toNat = 2 := rfl
  have t4 : (8 : Int).toNat = 8 := rfl
  have t5 : (1 : Int).toNat = 1 := rfl
  simp only [t1, t2, t3, t4, t5, Int.toNat_natCast]
  rw [e]
  omega
set_option maxHeartbeats 400000 in
theorem walk (a0 : Int) (w0 : (Lit.int .u32 a0).wf = true) (w : World) :
    Calls Try.prog 8 #[.int .u32 a0] w fun e w' => e = .returned (.bool true) ∧ Grown w w' := by
  obtain ⟨b0, b1⟩ := bounds_u32 w0
  obtain ⟨a, rfl⟩ := Int.eq_ofNat_of_zero_le b0
  have e1 := f1 a
  have e2 := f2 a
  have e3 := f3 a (by omega)
  have e4 := f4 a
  have e5 := f5 a (by omega)
  have e6 := f6 a (by omega)
  have e7 := f7 a
  have e8 := f8 a
  have e9 := f9 a
  have e10 := f10 a
  have e13 := f13 a (by omega)
  have g0 := doI_ge 8 a 4294967295
  have g1 := doI_le 8 a 4294967295 (by omega) (by omega)
  have hg := Grown.refl w
  by_cases hz : a = 0
  · subst hz
    have hz1 : (((0 : Nat) : Int) == 0) = true := by simp
    go_enter Try.func8, Try.ntmps8
    go_wp2_with (first | (go_at_call 11; refine (awake_any _).mono ?_; rintro e w' ⟨rfl, hg2⟩; replace hg := grown_trans hg hg2; clear hg2) | (go_at_call 16; refine (done_any _ _ _ _ (by omega) (by omega) (by omega) (by omega) (by omega) (by omega)).mono ?_; rintro e w' ⟨rfl, hg2⟩; replace hg := grown_trans hg hg2; clear hg2))
    go_ret
    exact ⟨rfl, hg⟩
  · have hz1 : ((a : Int) == 0) = false := by simp; omega
    have e11 := f11 a (by omega)
    have e12 := f12 a
    clear hz
    go_enter Try.func8, Try.ntmps8
    go_wp2_with (first | (go_at_call 11; refine (awake_any _).mono ?_; rintro e w' ⟨rfl, hg2⟩; replace hg := grown_trans hg hg2; clear hg2) | (go_at_call 16; refine (done_any _ _ _ _ (by omega) (by omega) (by omega) (by omega) (by omega) (by omega)).mono ?_; rintro e w' ⟨rfl, hg2⟩; replace hg := grown_trans hg hg2; clear hg2))
    go_ret
    exact ⟨rfl, hg⟩

/-! ### THE ROW's STEP: WRITTEN OUT: LEAVE IT -/
set_option maxRecDepth 100000 in
theorem lifted (os : Os) (started : os.Started) (H : Type) (enc : TypeId × Value → H) :
    ReturnsInHanded {} Try.checked os 8 .any (Rows.aluEndsSpec.pre6 enc Try.prog Try.f8 Rows.aluEndsRow.domain false) (Rows.aluEndsSpec.post enc Try.prog Try.f8 false true false false) := by
  refine returnsInHanded_of_change (C := Try.checked) own started (by kernel_rfl) Try.func8
    (ChangeSpec.witness6 (enc := enc) (C := Try.checked) false ⟨#[], #[.int .u32 0], []⟩ 8 (by kernel_rfl) (by kernel_rfl) (by kernel_rfl) (by kernel_rfl)) ?_
  intro W base args ds gs before hval0 hW hcnd _
  have hval : ∀ (j : Nat) t v, Try.f8.params[j]? = some t → args[j]? = some v → Value.okWide Try.prog W .any base t v := hval0
  have hW' := hW
  obtain ⟨p, q, hA0, hV, rfl, hfz, hnd⟩ := hW
  have hA : DataW.TrodAll enc Try.prog W 0 (fun _ => true) true Try.f8.params.toList args.toList ds p := hA0
  rw [Try.params8] at hA hval
  obtain ⟨v0, vs0, d0, ds0, p0, q0, hargs, rfl, rfl, h0, r0⟩ := trodAll_cons hA
  obtain ⟨rfl, rfl, rfl⟩ := trodAll_nil r0
  obtain rfl : args = #[v0] := by cases args; simp_all
  obtain ⟨rfl, rfl⟩ := trodVars_none hV
  obtain ⟨a0, rfl, rfl, rfl, w0⟩ := open_int Try.underlying22 (hval 0 22 v0 rfl rfl) h0
  clear hA0 hval0
  simp only [List.append_nil] at hW'
  refine (walk a0 w0 W).mono fun e W' ⟨he, hg⟩ => ?_
  subst he
  exact ⟨_, rfl, post_of_same (pa := []) (pv := []) hW' (fun _ _ _ => (trodAll_cons_mk (shut_bool Try.underlying4 _) trodAll_mk0)) (fun sp _ => (trodAll_cons_mk (shut_int Try.underlying22 w0) trodAll_mk0)) (fun _ _ => rfl) rfl
    (hg.frame _) hg.2.1 (ok_one (by kernel_rfl) rfl (okWide_bool_mk Try.underlying4 _))⟩

theorem over : Rows.aluEndsRow.holds Try.pinned (OpenSpec.ofChange Rows.aluEndsSpec) :=
  OpenClaim.holds_of_wide 8 Try.f8 rfl rfl rfl rfl rfl rfl rfl ⟨rfl, rfl, rfl, rfl, rfl⟩ rfl rfl rfl rfl rfl (by kernel_rfl) Try.func8 (by kernel_rfl)
    (of_decide_eq_true (by kernel_rfl)) (by unfold Func.isWrapper; first | (rw [if_pos (by decide +kernel)]; kernel_rfl) | (rw [if_neg (by decide +kernel)]; exact ⟨rfl, rfl⟩))
    (fun os started H enc _ => lifted os started H enc)

/-- ████ THE STATEMENT ████ -/
theorem proved : Rows.AluEndsSaid :=
  over
#print axioms proved
end Go.Proofs.Ytdhmfdfmblheoaa.aluEnds
