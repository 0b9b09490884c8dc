/-
  Of two words' sum, product and bits the order does not matter: law AluOrder returns true for every three words.
  Conditions: none.
-/
import Derived.Test.YtdhmfdfmblheoaaRows
import Derived.Test.YtdhmfdfmblheoaaPlain2
import Derived.Test.YtdhmfdfmblheoaaA
import Derived.WalkKit
import Derived.ProofKit
import Derived.OpenShut
namespace Go.Proofs.Ytdhmfdfmblheoaa.aluOrder
open Go.ChangeShapes Go.WideShapes Go.ChangeAt Go.RowKit
set_option linter.unusedVariables false      -- a walk need not use every 'w<i>' (that an integer argument fits its kind)

theorem own : ownKnob Try.prog.godebug = none := by kernel_rfl

set_option maxHeartbeats 400000 in
theorem walk (a0 : Int) (a1 : Int) (a2 : Int) (w0 : (Lit.int .u32 a0).wf = true) (w1 : (Lit.int .u32 a1).wf = true) (w2 : (Lit.int .u32 a2).wf = true) (w : World) :
    Calls Try.prog 5 #[.int .u32 a0, .int .u32 a1, .int .u32 a2] w fun e w' => e = .returned (.bool true) ∧ Grown w w' := by
  obtain ⟨b0, c0⟩ := bounds_u32 w0
  obtain ⟨a, rfl⟩ := Int.eq_ofNat_of_zero_le b0
  obtain ⟨b1, c1⟩ := bounds_u32 w1
  obtain ⟨b, rfl⟩ := Int.eq_ofNat_of_zero_le b1
  obtain ⟨b2, c2⟩ := bounds_u32 w2
  obtain ⟨c, rfl⟩ := Int.eq_ofNat_of_zero_le b2
  have hg := Grown.refl w
  go_enter Try.func5, Try.ntmps5
  go_wp2_with (first | (go_at_call 11; refine (awake_any _).mono ?_; rintro e w' ⟨rfl, hg2⟩; replace hg := grown_trans hg hg2; clear hg2))
  go_loopw [8] (fun i w' => ∃ k : Nat, 1 ≤ k ∧ k ≤ 11 ∧ i = .int .i64 k ∧ Grown w w') (fun i _ => 11 - (intOf i).toNat)
  case atStart => exact ⟨1, by omega, by omega, rfl, hg⟩
  case round =>
    obtain ⟨k, hk1, hk2, rfl, hg⟩ := hrel
    by_cases hlt : k < 11
    · by_cases hc : comm k
      · have e1 := order1 k hc a b
        have e2 := order2 k hc a b c
        have l1 := doI_ge k a b
        have u1 := doI_le k a b (by omega) (by omega)
        have l2 := doI_ge k b c
        have u2 := doI_le k b c (by omega) (by omega)
        rcases hc with hv | hv | hv | hv | hv
        · have n1 : ((k : Int) != 1) = false := by simp [hv]
          clear hv
          go_wp2_with (first | (go_at_call 16; refine (done_any _ _ _ _ (by omega) (by omega) (by omega) (by omega) (by omega) (by omega)).mono ?_; rintro e w' ⟨rfl, hg2⟩; replace hg := grown_trans hg hg2; clear hg2))
          go_roundw
          case rel => exact ⟨k + 1, by omega, by omega, by go_num, hg⟩
          case measure => simp [intOf]; omega
        · have n1 : ((k : Int) != 1) = true := by rw [bne_iff_ne]; omega
          have n3 : ((k : Int) != 3) = false := by simp [hv]
          clear hv
          go_wp2_with (first | (go_at_call 16; refine (done_any _ _ _ _ (by omega) (by omega) (by omega) (by omega) (by omega) (by omega)).mono ?_; rintro e w' ⟨rfl, hg2⟩; replace hg := grown_trans hg hg2; clear hg2))
          go_roundw
          case rel => exact ⟨k + 1, by omega, by omega, by go_num, hg⟩
          case measure => simp [intOf]; omega
        · have n1 : ((k : Int) != 1) = true := by rw [bne_iff_ne]; omega
          have n3 : ((k : Int) != 3) = true := by rw [bne_iff_ne]; omega
          have n6 : ((k : Int) != 6) = false := by simp [hv]
          clear hv
          go_wp2_with (first | (go_at_call 16; refine (done_any _ _ _ _ (by omega) (by omega) (by omega) (by omega) (by omega) (by omega)).mono ?_; rintro e w' ⟨rfl, hg2⟩; replace hg := grown_trans hg hg2; clear hg2))
          go_roundw
          case rel => exact ⟨k + 1, by omega, by omega, by go_num, hg⟩
          case measure => simp [intOf]; omega
        · have n1 : ((k : Int) != 1) = true := by rw [bne_iff_ne]; omega
          have n3 : ((k : Int) != 3) = true := by rw [bne_iff_ne]; omega
          have n6 : ((k : Int) != 6) = true := by rw [bne_iff_ne]; omega
          have n7 : ((k : Int) != 7) = false := by simp [hv]
          clear hv
          go_wp2_with (first | (go_at_call 16; refine (done_any _ _ _ _ (by omega) (by omega) (by omega) (by omega) (by omega) (by omega)).mono ?_; rintro e w' ⟨rfl, hg2⟩; replace hg := grown_trans hg hg2; clear hg2))
          go_roundw
          case rel => exact ⟨k + 1, by omega, by omega, by go_num, hg⟩
          case measure => simp [intOf]; omega
        · have n1 : ((k : Int) != 1) = true := by rw [bne_iff_ne]; omega
          have n3 : ((k : Int) != 3) = true := by rw [bne_iff_ne]; omega
          have n6 : ((k : Int) != 6) = true := by rw [bne_iff_ne]; omega
          have n7 : ((k : Int) != 7) = true := by rw [bne_iff_ne]; omega
          have n8 : ((k : Int) != 8) = false := by simp [hv]
          clear hv
          go_wp2_with (first | (go_at_call 16; refine (done_any _ _ _ _ (by omega) (by omega) (by omega) (by omega) (by omega) (by omega)).mono ?_; rintro e w' ⟨rfl, hg2⟩; replace hg := grown_trans hg hg2; clear hg2))
          go_roundw
          case rel => exact ⟨k + 1, by omega, by omega, by go_num, hg⟩
          case measure => simp [intOf]; omega
      · have n1 : ((k : Int) != 1) = true := by rw [bne_iff_ne]; intro h; exact hc (by simp [comm, h])
        have n3 : ((k : Int) != 3) = true := by rw [bne_iff_ne]; intro h; exact hc (by simp [comm, h])
        have n6 : ((k : Int) != 6) = true := by rw [bne_iff_ne]; intro h; exact hc (by simp [comm, h])
        have n7 : ((k : Int) != 7) = true := by rw [bne_iff_ne]; intro h; exact hc (by simp [comm, h])
        have n8 : ((k : Int) != 8) = true := by rw [bne_iff_ne]; intro h; exact hc (by simp [comm, h])
        clear hc
        go_wp2_with (first | (go_at_call 16; refine (done_any _ _ _ _ (by omega) (by omega) (by omega) (by omega) (by omega) (by omega)).mono ?_; rintro e w' ⟨rfl, hg2⟩; replace hg := grown_trans hg hg2; clear hg2))
        go_roundw
        case rel => exact ⟨k + 1, by omega, by omega, by go_num, hg⟩
        case measure => simp [intOf]; omega
    · have e3 := order3 a b c
      have l0 := doI_ge 1 b c
      have u0 := doI_le 1 b c (by omega) (by omega)
      have l1 := doI_ge 3 a b
      have u1 := doI_le 3 a b (by omega) (by omega)
      have l2 := doI_ge 3 a c
      have u2 := doI_le 3 a c (by omega) (by omega)
      go_wp2_with (first | (go_at_call 16; refine (done_any _ _ _ _ (by omega) (by omega) (by omega) (by omega) (by omega) (by omega)).mono ?_; rintro e w' ⟨rfl, hg2⟩; replace hg := grown_trans hg hg2; clear hg2))
      go_ret
      exact ⟨rfl, hg⟩

/-! ### THE ROW's STEP: WRITTEN OUT: LEAVE IT -/
set_option maxRecDepth 100000 in
theorem lifted (os : Os) (started : os.Started) (H : Type) (enc : TypeId × Value → H) :
    ReturnsInHanded {} Try.checked os 5 .any (Rows.aluOrderSpec.pre6 enc Try.prog Try.f5 Rows.aluOrderRow.domain false) (Rows.aluOrderSpec.post enc Try.prog Try.f5 false true false false) := by
  refine returnsInHanded_of_change (C := Try.checked) own started (by kernel_rfl) Try.func5
    (ChangeSpec.witness6 (enc := enc) (C := Try.checked) false ⟨#[], #[.int .u32 0, .int .u32 0, .int .u32 0], []⟩ 8 (by kernel_rfl) (by kernel_rfl) (by kernel_rfl) (by kernel_rfl)) ?_
  intro W base args ds gs before hval0 hW hcnd _
  have hval : ∀ (j : Nat) t v, Try.f5.params[j]? = some t → args[j]? = some v → Value.okWide Try.prog W .any base t v := hval0
  have hW' := hW
  obtain ⟨p, q, hA0, hV, rfl, hfz, hnd⟩ := hW
  have hA : DataW.TrodAll enc Try.prog W 0 (fun _ => true) true Try.f5.params.toList args.toList ds p := hA0
  rw [Try.params5] at hA hval
  obtain ⟨v0, vs0, d0, ds0, p0, q0, hargs, rfl, rfl, h0, r0⟩ := trodAll_cons hA
  obtain ⟨v1, vs1, d1, ds1, p1, q1, rfl, rfl, rfl, h1, r1⟩ := trodAll_cons r0
  obtain ⟨v2, vs2, d2, ds2, p2, q2, rfl, rfl, rfl, h2, r2⟩ := trodAll_cons r1
  obtain ⟨rfl, rfl, rfl⟩ := trodAll_nil r2
  obtain rfl : args = #[v0, v1, v2] := by cases args; simp_all
  obtain ⟨rfl, rfl⟩ := trodVars_none hV
  obtain ⟨a0, rfl, rfl, rfl, w0⟩ := open_int Try.underlying22 (hval 0 22 v0 rfl rfl) h0
  obtain ⟨a1, rfl, rfl, rfl, w1⟩ := open_int Try.underlying22 (hval 1 22 v1 rfl rfl) h1
  obtain ⟨a2, rfl, rfl, rfl, w2⟩ := open_int Try.underlying22 (hval 2 22 v2 rfl rfl) h2
  clear hA0 hval0
  simp only [List.append_nil] at hW'
  refine (walk a0 a1 a2 w0 w1 w2 W).mono fun e W' ⟨he, hg⟩ => ?_
  subst he
  exact ⟨_, rfl, post_of_same (pa := []) (pv := []) hW' (fun _ _ _ => (trodAll_cons_mk (shut_bool Try.underlying4 _) trodAll_mk0)) (fun sp _ => (trodAll_cons_mk (shut_int Try.underlying22 w0) (trodAll_cons_mk (shut_int Try.underlying22 w1) (trodAll_cons_mk (shut_int Try.underlying22 w2) trodAll_mk0)))) (fun _ _ => rfl) rfl
    (hg.frame _) hg.2.1 (ok_one (by kernel_rfl) rfl (okWide_bool_mk Try.underlying4 _))⟩

theorem over : Rows.aluOrderRow.holds Try.pinned (OpenSpec.ofChange Rows.aluOrderSpec) :=
  OpenClaim.holds_of_wide 5 Try.f5 rfl rfl rfl rfl rfl rfl rfl ⟨rfl, rfl, rfl, rfl, rfl⟩ rfl rfl rfl rfl rfl (by kernel_rfl) Try.func5 (by kernel_rfl)
    (of_decide_eq_true (by kernel_rfl)) (by unfold Func.isWrapper; first | (rw [if_pos (by decide +kernel)]; kernel_rfl) | (rw [if_neg (by decide +kernel)]; exact ⟨rfl, rfl⟩))
    (fun os started H enc _ => lifted os started H enc)

/-- ████ THE STATEMENT ████ -/
theorem proved : Rows.AluOrderSaid :=
  over
#print axioms proved
end Go.Proofs.Ytdhmfdfmblheoaa.aluOrder
