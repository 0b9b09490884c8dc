/-
  What is joined has all words of both, in whichever order, and its ends are ends of theirs; joined with itself it is the same: law BoundsJoin returns true for every five words.
  Conditions: none.
-/
import Derived.Test.YtngeadbdjkjpcaaRows
import Derived.Test.YtngeadbdjkjpcaaI
import Derived.Test.YtngeadbdjkjpcaaPm
import Derived.WalkKit
import Derived.ProofKit
import Derived.OpenShut
namespace Go.Proofs.Ytngeadbdjkjpcaa.boundsJoin
open Go.ChangeShapes Go.WideShapes Go.ChangeAt Go.RowKit
set_option linter.unusedVariables false      -- a walk need not use every 'w<i>' (that an integer argument fits its kind)

theorem own : ownKnob Try.prog.godebug = none := by kernel_rfl

set_option maxHeartbeats 8000000 in
theorem walk (a0 : Int) (a1 : Int) (a2 : Int) (a3 : Int) (a4 : Int) (w0 : (Lit.int .u32 a0).wf = true) (w1 : (Lit.int .u32 a1).wf = true) (w2 : (Lit.int .u32 a2).wf = true) (w3 : (Lit.int .u32 a3).wf = true) (w4 : (Lit.int .u32 a4).wf = true) (w : World) :
    Calls Try.prog 5 #[.int .u32 a0, .int .u32 a1, .int .u32 a2, .int .u32 a3, .int .u32 a4] w fun e w' => e = .returned (.bool true) ∧ Grown w w' := by
  obtain ⟨b0, c0⟩ := bounds_u32 w0
  obtain ⟨b1, c1⟩ := bounds_u32 w1
  obtain ⟨b2, c2⟩ := bounds_u32 w2
  obtain ⟨b3, c3⟩ := bounds_u32 w3
  have o1 := fun w => of_any a0 a1 w
  have o2 := fun w => of_any a2 a3 w
  have hW1 := W_minmax a0 a1 b0 c0 b1 c1
  have hW2 := W_minmax a2 a3 b2 c2 b3 c3
  have hlo : min (min a0 a1) (min a2 a3) = a0 ∨ min (min a0 a1) (min a2 a3) = a1 ∨ min (min a0 a1) (min a2 a3) = a2 ∨ min (min a0 a1) (min a2 a3) = a3 := by omega
  have hhi : max (max a0 a1) (max a2 a3) = a0 ∨ max (max a0 a1) (max a2 a3) = a1 ∨ max (max a0 a1) (max a2 a3) = a2 ∨ max (max a0 a1) (max a2 a3) = a3 := by omega
  have i1 : In (min (min a0 a1) (min a2 a3)) (max (max a0 a1) (max a2 a3)) a0 := by unfold In; omega
  have i2 : In (min (min a0 a1) (min a2 a3)) (max (max a0 a1) (max a2 a3)) a3 := by unfold In; omega
  clear w0 w1 w2 w3 b0 c0 b1 c1 b2 c2 b3 c3
  generalize min a0 a1 = A at *
  generalize max a0 a1 = B at *
  generalize min a2 a3 = C at *
  generalize max a2 a3 = D at *
  have j1 := fun w => join_any A B C D hW1 hW2 w
  have j2 := fun w => join_any C D A B hW2 hW1 w
  have j3 := fun w => join_any A B A B hW1 hW1 w
  rw [show min C A = min A C by omega, show max D B = max B D by omega] at j2
  rw [show min A A = A by omega, show max B B = B by omega] at j3
  have hW3 : W (min A C) (max B D) := by unfold W at *; omega
  have hp := fun w => has_any A B a4 hW1 w
  have hq := fun w => has_any C D a4 hW2 w
  have hr := fun w => has_any (min A C) (max B D) a4 hW3 w
  have he := fun w => ends_any (min A C) (max B D) hW3 w
  have h1 := fun w => has_any (min A C) (max B D) a0 hW3 w
  have h2 := fun w => has_any (min A C) (max B D) a3 hW3 w
  rw [inB_of i1] at h1
  rw [inB_of i2] at h2
  have hpr : inB A B a4 = true → inB (min A C) (max B D) a4 = true := fun h => by
    simp [inB] at h ⊢; omega
  have hqr : inB C D a4 = true → inB (min A C) (max B D) a4 = true := fun h => by
    simp [inB] at h ⊢; omega
  have n1 := fun t w => run_ne_c (min A C) (max B D) (min A C) (max B D) (by unfold W at hW3; omega) (by unfold W at hW3; omega) (by unfold W at hW3; omega) (by unfold W at hW3; omega) false (by simp) t w
  have n2 := fun t w => run_ne_c A B A B (by unfold W at hW1; omega) (by unfold W at hW1; omega) (by unfold W at hW1; omega) (by unfold W at hW1; omega) false (by simp) t w
  have l1 : (min A C == a0) = true ∨ ((min A C == a0) = false ∧ (min A C == a1) = true) ∨ ((min A C == a0) = false ∧ (min A C == a1) = false ∧ (min A C == a2) = true) ∨ ((min A C == a0) = false ∧ (min A C == a1) = false ∧ (min A C == a2) = false ∧ (min A C == a3) = true) := by
    simp only [beq_iff_eq, beq_eq_false_iff_ne, ne_eq]; omega
  have l2 : (max B D == a0) = true ∨ ((max B D == a0) = false ∧ (max B D == a1) = true) ∨ ((max B D == a0) = false ∧ (max B D == a1) = false ∧ (max B D == a2) = true) ∨ ((max B D == a0) = false ∧ (max B D == a1) = false ∧ (max B D == a2) = false ∧ (max B D == a3) = true) := by
    simp only [beq_iff_eq, beq_eq_false_iff_ne, ne_eq]; omega
  clear hlo hhi i1 i2 hW1 hW2 hW3
  generalize inB A B a4 = p at *
  generalize inB C D a4 = q at *
  generalize inB (min A C) (max B D) a4 = r at *
  generalize min A C = P at *
  generalize max B D = Q at *
  cases p with
  | true =>
    obtain rfl := hpr rfl
    clear hqr hpr
    go_enter Try.func5, Try.ntmps5
    go_wp2_with fail
    refine (awake_any _).mono ?_
    rintro e w1 ⟨rfl, g1⟩
    go_wp2_with fail
    refine (o1 _).mono ?_
    rintro e w' ⟨rfl, rfl⟩
    go_wp2_with fail
    refine (o2 _).mono ?_
    rintro e w' ⟨rfl, rfl⟩
    go_wp2_with fail
    refine (j1 _).mono ?_
    rintro e w' ⟨rfl, rfl⟩
    go_wp2_with fail
    refine (he _).mono ?_
    rintro e w' ⟨rfl, rfl⟩
    go_wp2_with fail
    refine (j2 _).mono ?_
    rintro e w' ⟨rfl, rfl⟩
    go_wp2_with fail
    refine (j3 _).mono ?_
    rintro e w' ⟨rfl, rfl⟩
    go_wp2_with fail
    refine (hp _).mono ?_
    rintro e w' ⟨rfl, rfl⟩
    go_wp2_with fail
    refine (hr _).mono ?_
    rintro e w' ⟨rfl, rfl⟩
    rcases l1 with l1 | ⟨l1, m1⟩ | ⟨l1, m1, k1⟩ | ⟨l1, m1, k1, t1⟩
    all_goals
      rcases l2 with l2 | ⟨l2, m2⟩ | ⟨l2, m2, k2⟩ | ⟨l2, m2, k2, t2⟩
      all_goals
        go_wp2_with fail
        refine (h1 _).mono ?_
        rintro e w' ⟨rfl, rfl⟩
        go_wp2_with fail
        refine (h2 _).mono ?_
        rintro e w' ⟨rfl, rfl⟩
        go_wp2_with fail
        go_ret
        exact ⟨rfl, g1⟩
  | false =>
    clear hpr
    cases q with
    | true =>
      obtain rfl := hqr rfl
      clear hqr
      go_enter Try.func5, Try.ntmps5
      go_wp2_with fail
      refine (awake_any _).mono ?_
      rintro e w1 ⟨rfl, g1⟩
      go_wp2_with fail
      refine (o1 _).mono ?_
      rintro e w' ⟨rfl, rfl⟩
      go_wp2_with fail
      refine (o2 _).mono ?_
      rintro e w' ⟨rfl, rfl⟩
      go_wp2_with fail
      refine (j1 _).mono ?_
      rintro e w' ⟨rfl, rfl⟩
      go_wp2_with fail
      refine (he _).mono ?_
      rintro e w' ⟨rfl, rfl⟩
      go_wp2_with fail
      refine (j2 _).mono ?_
      rintro e w' ⟨rfl, rfl⟩
      go_wp2_with fail
      refine (j3 _).mono ?_
      rintro e w' ⟨rfl, rfl⟩
      go_wp2_with fail
      refine (hp _).mono ?_
      rintro e w' ⟨rfl, rfl⟩
      go_wp2_with fail
      refine (hq _).mono ?_
      rintro e w' ⟨rfl, rfl⟩
      go_wp2_with fail
      refine (hr _).mono ?_
      rintro e w' ⟨rfl, rfl⟩
      rcases l1 with l1 | ⟨l1, m1⟩ | ⟨l1, m1, k1⟩ | ⟨l1, m1, k1, t1⟩
      all_goals
        rcases l2 with l2 | ⟨l2, m2⟩ | ⟨l2, m2, k2⟩ | ⟨l2, m2, k2, t2⟩
        all_goals
          go_wp2_with fail
          refine (h1 _).mono ?_
          rintro e w' ⟨rfl, rfl⟩
          go_wp2_with fail
          refine (h2 _).mono ?_
          rintro e w' ⟨rfl, rfl⟩
          go_wp2_with fail
          go_ret
          exact ⟨rfl, g1⟩
    | false =>
      clear hqr hr
      go_enter Try.func5, Try.ntmps5
      go_wp2_with fail
      refine (awake_any _).mono ?_
      rintro e w1 ⟨rfl, g1⟩
      go_wp2_with fail
      refine (o1 _).mono ?_
      rintro e w' ⟨rfl, rfl⟩
      go_wp2_with fail
      refine (o2 _).mono ?_
      rintro e w' ⟨rfl, rfl⟩
      go_wp2_with fail
      refine (j1 _).mono ?_
      rintro e w' ⟨rfl, rfl⟩
      go_wp2_with fail
      refine (he _).mono ?_
      rintro e w' ⟨rfl, rfl⟩
      go_wp2_with fail
      refine (j2 _).mono ?_
      rintro e w' ⟨rfl, rfl⟩
      go_wp2_with fail
      refine (j3 _).mono ?_
      rintro e w' ⟨rfl, rfl⟩
      go_wp2_with fail
      refine (hp _).mono ?_
      rintro e w' ⟨rfl, rfl⟩
      go_wp2_with fail
      refine (hq _).mono ?_
      rintro e w' ⟨rfl, rfl⟩
      rcases l1 with l1 | ⟨l1, m1⟩ | ⟨l1, m1, k1⟩ | ⟨l1, m1, k1, t1⟩
      all_goals
        rcases l2 with l2 | ⟨l2, m2⟩ | ⟨l2, m2, k2⟩ | ⟨l2, m2, k2, t2⟩
        all_goals
          go_wp2_with fail
          refine (h1 _).mono ?_
          rintro e w' ⟨rfl, rfl⟩
          go_wp2_with fail
          refine (h2 _).mono ?_
          rintro e w' ⟨rfl, rfl⟩
          go_wp2_with fail
          go_ret
          exact ⟨rfl, g1⟩

/-! ### THE ROW's STEP: WRITTEN OUT: LEAVE IT -/
set_option maxRecDepth 100000 in
theorem lifted (os : Os) (started : os.Started) (H : Type) (enc : TypeId × Value → H) :
    ReturnsInHanded {} Try.checked os 5 .any (Rows.boundsJoinSpec.pre6 enc Try.prog Try.f5 Rows.boundsJoinRow.domain false) (Rows.boundsJoinSpec.post enc Try.prog Try.f5 false true false false) := by
  refine returnsInHanded_of_change (C := Try.checked) own started (by kernel_rfl) Try.func5
    (ChangeSpec.witness6 (enc := enc) (C := Try.checked) false ⟨#[], #[.int .u32 0, .int .u32 0, .int .u32 0, .int .u32 0, .int .u32 0], []⟩ 8 (by kernel_rfl) (by kernel_rfl) (by kernel_rfl) (by kernel_rfl)) ?_
  intro W base args ds gs before hval0 hW hcnd _
  have hval : ∀ (j : Nat) t v, Try.f5.params[j]? = some t → args[j]? = some v → Value.okWide Try.prog W .any base t v := hval0
  have hW' := hW
  obtain ⟨p, q, hA0, hV, rfl, hfz, hnd⟩ := hW
  have hA : DataW.TrodAll enc Try.prog W 0 (fun _ => true) true Try.f5.params.toList args.toList ds p := hA0
  rw [Try.params5] at hA hval
  obtain ⟨v0, vs0, d0, ds0, p0, q0, hargs, rfl, rfl, h0, r0⟩ := trodAll_cons hA
  obtain ⟨v1, vs1, d1, ds1, p1, q1, rfl, rfl, rfl, h1, r1⟩ := trodAll_cons r0
  obtain ⟨v2, vs2, d2, ds2, p2, q2, rfl, rfl, rfl, h2, r2⟩ := trodAll_cons r1
  obtain ⟨v3, vs3, d3, ds3, p3, q3, rfl, rfl, rfl, h3, r3⟩ := trodAll_cons r2
  obtain ⟨v4, vs4, d4, ds4, p4, q4, rfl, rfl, rfl, h4, r4⟩ := trodAll_cons r3
  obtain ⟨rfl, rfl, rfl⟩ := trodAll_nil r4
  obtain rfl : args = #[v0, v1, v2, v3, v4] := by cases args; simp_all
  obtain ⟨rfl, rfl⟩ := trodVars_none hV
  obtain ⟨a0, rfl, rfl, rfl, w0⟩ := open_int Try.underlying22 (hval 0 22 v0 rfl rfl) h0
  obtain ⟨a1, rfl, rfl, rfl, w1⟩ := open_int Try.underlying22 (hval 1 22 v1 rfl rfl) h1
  obtain ⟨a2, rfl, rfl, rfl, w2⟩ := open_int Try.underlying22 (hval 2 22 v2 rfl rfl) h2
  obtain ⟨a3, rfl, rfl, rfl, w3⟩ := open_int Try.underlying22 (hval 3 22 v3 rfl rfl) h3
  obtain ⟨a4, rfl, rfl, rfl, w4⟩ := open_int Try.underlying22 (hval 4 22 v4 rfl rfl) h4
  clear hA0 hval0
  simp only [List.append_nil] at hW'
  refine (walk a0 a1 a2 a3 a4 w0 w1 w2 w3 w4 W).mono fun e W' ⟨he, hg⟩ => ?_
  subst he
  exact ⟨_, rfl, post_of_same (pa := []) (pv := []) hW' (fun _ _ _ => (trodAll_cons_mk (shut_bool Try.underlying4 _) trodAll_mk0)) (fun sp _ => (trodAll_cons_mk (shut_int Try.underlying22 w0) (trodAll_cons_mk (shut_int Try.underlying22 w1) (trodAll_cons_mk (shut_int Try.underlying22 w2) (trodAll_cons_mk (shut_int Try.underlying22 w3) (trodAll_cons_mk (shut_int Try.underlying22 w4) trodAll_mk0)))))) (fun _ _ => rfl) rfl
    (hg.frame _) hg.2.1 (ok_one (by kernel_rfl) rfl (okWide_bool_mk Try.underlying4 _))⟩

theorem over : Rows.boundsJoinRow.holds Try.pinned (OpenSpec.ofChange Rows.boundsJoinSpec) :=
  OpenClaim.holds_of_wide 5 Try.f5 rfl rfl rfl rfl rfl rfl rfl ⟨rfl, rfl, rfl, rfl, rfl⟩ rfl rfl rfl rfl rfl (by kernel_rfl) Try.func5 (by kernel_rfl)
    (of_decide_eq_true (by kernel_rfl)) (by unfold Func.isWrapper; first | (rw [if_pos (by decide +kernel)]; kernel_rfl) | (rw [if_neg (by decide +kernel)]; exact ⟨rfl, rfl⟩))
    (fun os started H enc _ => lifted os started H enc)

/-- ████ THE STATEMENT ████ -/
theorem proved : Rows.BoundsJoinSaid :=
  over
#print axioms proved
end Go.Proofs.Ytngeadbdjkjpcaa.boundsJoin
