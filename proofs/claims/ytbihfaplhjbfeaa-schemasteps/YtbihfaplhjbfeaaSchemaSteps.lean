/-
  SchemaSteps: for every two schemas the law returns true: one follows itself as the same; what grows is not the same and does not follow back; what may not be follows nothing.
  Conditions: none.
-/
import Derived.Test.YtbihfaplhjbfeaaRows
import Derived.Test.YtbihfaplhjbfeaaO
import Derived.Test.YtbihfaplhjbfeaaH
import Derived.WalkKit
import Derived.ProofKit
import Derived.OpenShut
import Derived.ChangeOld
import Derived.Below
namespace Go.Proofs.Ytbihfaplhjbfeaa.schemaSteps
open Go.ChangeShapes Go.WideShapes Go.ChangeAt Go.RowKit
set_option linter.unusedVariables false

theorem step_zero {k c n v k' c' n' v' : Int} (h : stepS k c n v k' c' n' v' = 0) : mayS k c n v = true ∧ mayS k' c' n' v' = true ∧ scEq k c n v k' c' n' v' = true := by
  unfold stepS at h
  split at h
  · rename_i hm
    split at h
    · rename_i he
      exact ⟨hm.1, hm.2, he⟩
    · split at h <;> cases h
  · cases h
theorem step_one {k c n v k' c' n' v' : Int} (h : stepS k c n v k' c' n' v' = 1) : mayS k c n v = true ∧ mayS k' c' n' v' = true ∧ scEq k c n v k' c' n' v' = false ∧ k = k' ∧ v' = v + 1 := by
  unfold stepS at h
  split at h
  · rename_i hm
    split at h
    · cases h
    · rename_i he
      split at h
      · rename_i hk
        exact ⟨hm.1, hm.2, by simpa using he, hk⟩
      · cases h
  · cases h
theorem step_two {k c n v k' c' n' v' : Int} (h : stepS k c n v k' c' n' v' = 2) (h1 : mayS k c n v = true) (h2 : mayS k' c' n' v' = true) : scEq k c n v k' c' n' v' = false := by
  rcases he : scEq k c n v k' c' n' v' with _ | _
  · rfl
  · rw [step_same h1 h2 he] at h
    cases h
theorem step_ways (k c n v k' c' n' v' : Int) : stepS k c n v k' c' n' v' = 0 ∨ stepS k c n v k' c' n' v' = 1 ∨ stepS k c n v k' c' n' v' = 2 := by
  unfold stepS
  split
  · split
    · exact .inl rfl
    · split
      · exact .inr (.inl rfl)
      · exact .inr (.inr rfl)
  · exact .inr (.inr rfl)
theorem step_far {k c n v k' c' n' v' : Int} (hv : v ≠ v') (h1 : v' ≠ v + 1) : stepS k c n v k' c' n' v' = 2 := by
  refine step_kind ?_ (fun h => h1 h.2)
  simp [scEq, hv]
set_option maxRecDepth 100000 in
set_option maxHeartbeats 4000000 in
theorem walk (k0 c0 n0 v0 : Int) (k1 c1 n1 v1 : Int) (w : World) :
    Calls Try.prog 5 #[scV k0 c0 n0 v0, scV k1 c1 n1 v1] w fun e w' => e = .returned (.bool true) ∧ Below w.heap.size w w' := by
  have hW : Below w.heap.size w ((w.alloc (scO k0 c0 n0 v0)).alloc (scO k1 c1 n1 v1)) := box2 (Below.refl _ _) (Nat.le_refl _) _ _
  have HK : Hid (∀ w', Below ((w.alloc (scO k0 c0 n0 v0)).alloc (scO k1 c1 n1 v1)).heap.size ((w.alloc (scO k0 c0 n0 v0)).alloc (scO k1 c1 n1 v1)) w' → w'.cell? ⟨w.heap.size, 0, none⟩ = some (.int .i64 k0) ∧ w'.cell? ⟨w.heap.size, 1, none⟩ = some (.int .i64 c0) ∧ w'.cell? ⟨w.heap.size, 2, none⟩ = some (.int .i64 n0) ∧ w'.cell? ⟨w.heap.size, 3, none⟩ = some (.int .i64 v0) ∧ w'.cell? ⟨w.heap.size + 1, 0, none⟩ = some (.int .i64 k1) ∧ w'.cell? ⟨w.heap.size + 1, 1, none⟩ = some (.int .i64 c1) ∧ w'.cell? ⟨w.heap.size + 1, 2, none⟩ = some (.int .i64 n1) ∧ w'.cell? ⟨w.heap.size + 1, 3, none⟩ = some (.int .i64 v1)) := Lib.hid (fun w' hb => by
    obtain ⟨a0, a1, a2, a3⟩ := (scAt_old (scAt_new w k0 c0 n0 v0) (scO k1 c1 n1 v1)).later hb
    obtain ⟨b0, b1, b2, b3⟩ := (scAt_two w k1 c1 n1 v1 (scO k0 c0 n0 v0)).later hb
    exact ⟨a0, a1, a2, a3, b0, b1, b2, b3⟩)
  have hend : ∀ w', Below ((w.alloc (scO k0 c0 n0 v0)).alloc (scO k1 c1 n1 v1)).heap.size ((w.alloc (scO k0 c0 n0 v0)).alloc (scO k1 c1 n1 v1)) w' → Below w.heap.size w w' := fun w' h => hW.trans (h.mono hW.size)
  have HEnd := Lib.hid hend
  clear hW hend
  go_enter Try.func5, Try.ntmps5
  go_wp2_with fail
  refine (awake_any _).mono ?_
  rintro e w1 ⟨rfl, hb⟩
  obtain ⟨d0, d1, d2, d3, d4, d5, d6, d7⟩ := HK.out _ hb
  go_wp2_with fail
  refine (step_any k0 c0 n0 v0 k1 c1 n1 v1 _).mono ?_
  rintro e w2 ⟨rfl, hg⟩
  replace hb := hb.trans (hg.mono hb.size)
  clear hg
  clear d0 d1 d2 d3 d4 d5 d6 d7
  obtain ⟨d0, d1, d2, d3, d4, d5, d6, d7⟩ := HK.out _ hb
  go_wp2_with fail
  refine (step_any k1 c1 n1 v1 k0 c0 n0 v0 _).mono ?_
  rintro e w3 ⟨rfl, hg⟩
  replace hb := hb.trans (hg.mono hb.size)
  clear hg
  clear d0 d1 d2 d3 d4 d5 d6 d7
  obtain ⟨d0, d1, d2, d3, d4, d5, d6, d7⟩ := HK.out _ hb
  have hne := neq_sc k0 c0 n0 v0 k1 c1 n1 v1
  have heq := eql_sc k0 c0 n0 v0 k1 c1 n1 v1
  have hgd := guardS
  rcases step_ways k0 c0 n0 v0 k1 c1 n1 v1 with h | h | h
  · have hz := step_zero h
    obtain ⟨rfl, rfl, rfl, rfl⟩ := scEq_iff.1 hz.2.2
    rw [h]
    have HM0 := Lib.hid hz.1
    have HM1 := Lib.hid hz.1
    have HSelf := Lib.hid h
    rw [hz.2.2] at hne heq
    clear h hz
    go_wp2_with fail
    refine (may_any k0 c0 n0 v0 _).mono ?_
    rintro e w4 ⟨rfl, hg⟩
    replace hb := hb.trans (hg.mono hb.size)
    clear hg
    clear d0 d1 d2 d3 d4 d5 d6 d7
    obtain ⟨d0, d1, d2, d3, d4, d5, d6, d7⟩ := HK.out _ hb
    rw [HM0.out]
    go_wp2_with fail
    refine (may_any k0 c0 n0 v0 _).mono ?_
    rintro e w5 ⟨rfl, hg⟩
    replace hb := hb.trans (hg.mono hb.size)
    clear hg
    clear d0 d1 d2 d3 d4 d5 d6 d7
    obtain ⟨d0, d1, d2, d3, d4, d5, d6, d7⟩ := HK.out _ hb
    rw [HM1.out]
    go_wp2_with fail
    refine (step_any k0 c0 n0 v0 k0 c0 n0 v0 _).mono ?_
    rintro e w6 ⟨rfl, hg⟩
    replace hb := hb.trans (hg.mono hb.size)
    clear hg
    clear d0 d1 d2 d3 d4 d5 d6 d7
    obtain ⟨d0, d1, d2, d3, d4, d5, d6, d7⟩ := HK.out _ hb
    rw [HSelf.out]
    go_wp2
    go_ret
    exact ⟨rfl, HEnd.out _ hb⟩
  · have hz := step_one h
    rw [h]
    have HM0 := Lib.hid hz.1
    have HM1 := Lib.hid hz.2.1
    have HSelf := Lib.hid (step_same hz.1 hz.1 (scEq_self k0 c0 n0 v0))
    rw [hz.2.2.1] at hne heq
    have hk := hz.2.2.2.1
    have hv := hz.2.2.2.2
    have hP := mayS_iff.1 hz.1
    have hw := wI (v0 + 1) (by omega) (by omega)
    have HF := step_far (k := k1) (c := c1) (n := n1) (v := v1) (k' := k0) (c' := c0) (n' := n0) (v' := v0) (by omega) (by omega)
    rw [HF]
    have hkI : (k0 != k1) = false := by simpa using hk
    have hvI : (v1 != v0 + 1) = false := by simpa using hv
    clear h hz hk hv hP HF
    go_wp2_with fail
    refine (may_any k0 c0 n0 v0 _).mono ?_
    rintro e w4 ⟨rfl, hg⟩
    replace hb := hb.trans (hg.mono hb.size)
    clear hg
    clear d0 d1 d2 d3 d4 d5 d6 d7
    obtain ⟨d0, d1, d2, d3, d4, d5, d6, d7⟩ := HK.out _ hb
    rw [HM0.out]
    go_wp2_with fail
    refine (may_any k1 c1 n1 v1 _).mono ?_
    rintro e w5 ⟨rfl, hg⟩
    replace hb := hb.trans (hg.mono hb.size)
    clear hg
    clear d0 d1 d2 d3 d4 d5 d6 d7
    obtain ⟨d0, d1, d2, d3, d4, d5, d6, d7⟩ := HK.out _ hb
    rw [HM1.out]
    go_wp2_with fail
    refine (step_any k0 c0 n0 v0 k0 c0 n0 v0 _).mono ?_
    rintro e w6 ⟨rfl, hg⟩
    replace hb := hb.trans (hg.mono hb.size)
    clear hg
    clear d0 d1 d2 d3 d4 d5 d6 d7
    obtain ⟨d0, d1, d2, d3, d4, d5, d6, d7⟩ := HK.out _ hb
    rw [HSelf.out]
    go_wp2
    go_ret
    exact ⟨rfl, HEnd.out _ hb⟩
  · rw [h]
    have H2 := Lib.hid h
    clear h
    rcases hm0 : mayS k0 c0 n0 v0 with _ | _
    · go_wp2_with fail
      refine (may_any k0 c0 n0 v0 _).mono ?_
      rintro e w4 ⟨rfl, hg⟩
      replace hb := hb.trans (hg.mono hb.size)
      clear hg
      rw [hm0]
      go_wp2
      go_ret
      exact ⟨rfl, HEnd.out _ hb⟩
    rcases hm1 : mayS k1 c1 n1 v1 with _ | _
    · go_wp2_with fail
      refine (may_any k0 c0 n0 v0 _).mono ?_
      rintro e w4 ⟨rfl, hg⟩
      replace hb := hb.trans (hg.mono hb.size)
      clear hg
      clear d0 d1 d2 d3 d4 d5 d6 d7
      obtain ⟨d0, d1, d2, d3, d4, d5, d6, d7⟩ := HK.out _ hb
      rw [hm0]
      go_wp2_with fail
      refine (may_any k1 c1 n1 v1 _).mono ?_
      rintro e w5 ⟨rfl, hg⟩
      replace hb := hb.trans (hg.mono hb.size)
      clear hg
      rw [hm1]
      go_wp2
      go_ret
      exact ⟨rfl, HEnd.out _ hb⟩
    have HM0 := Lib.hid hm0
    have HM1 := Lib.hid hm1
    have HSelf := Lib.hid (step_same hm0 hm0 (scEq_self k0 c0 n0 v0))
    rw [step_two H2.out hm0 hm1] at hne heq
    clear hm0 hm1
    go_wp2_with fail
    refine (may_any k0 c0 n0 v0 _).mono ?_
    rintro e w4 ⟨rfl, hg⟩
    replace hb := hb.trans (hg.mono hb.size)
    clear hg
    clear d0 d1 d2 d3 d4 d5 d6 d7
    obtain ⟨d0, d1, d2, d3, d4, d5, d6, d7⟩ := HK.out _ hb
    rw [HM0.out]
    go_wp2_with fail
    refine (may_any k1 c1 n1 v1 _).mono ?_
    rintro e w5 ⟨rfl, hg⟩
    replace hb := hb.trans (hg.mono hb.size)
    clear hg
    clear d0 d1 d2 d3 d4 d5 d6 d7
    obtain ⟨d0, d1, d2, d3, d4, d5, d6, d7⟩ := HK.out _ hb
    rw [HM1.out]
    go_wp2_with fail
    refine (step_any k0 c0 n0 v0 k0 c0 n0 v0 _).mono ?_
    rintro e w6 ⟨rfl, hg⟩
    replace hb := hb.trans (hg.mono hb.size)
    clear hg
    clear d0 d1 d2 d3 d4 d5 d6 d7
    obtain ⟨d0, d1, d2, d3, d4, d5, d6, d7⟩ := HK.out _ hb
    rw [HSelf.out]
    go_wp2
    go_ret
    exact ⟨rfl, HEnd.out _ hb⟩


theorem own : ownKnob Try.prog.godebug = none := by kernel_rfl
theorem laidOut : laidOutB Try.prog = true := by kernel_rfl
set_option maxRecDepth 100000 in
theorem lifted (os : Os) (started : os.Started) (H : Type) (enc : TypeId × Value → H) :
    ReturnsInHanded {} Try.checked os 5 .any (Rows.schemaStepsSpec.pre6 enc Try.prog Try.f5 Rows.schemaStepsRow.domain false) (Rows.schemaStepsSpec.post enc Try.prog Try.f5 false true false false) := by
  refine returnsInHanded_of_change (C := Try.checked) own started (by kernel_rfl) Try.func5
    (ChangeSpec.witness6 (enc := enc) (C := Try.checked) false ⟨#[], #[.agg #[.int .i64 0, .int .i64 0, .int .i64 0, .int .i64 0], .agg #[.int .i64 0, .int .i64 0, .int .i64 0, .int .i64 0]], []⟩ 8 (by kernel_rfl) (by kernel_rfl) (by kernel_rfl) (by kernel_rfl)) ?_
  intro W base args ds gs before hval0 hW hcnd _
  have hval : ∀ (j : Nat) t v, Try.f5.params[j]? = some t → args[j]? = some v → Value.okWide Try.prog W .any base t v := hval0
  have hW' := hW
  obtain ⟨p, q, hA0, hV, rfl, hfz, hnd⟩ := hW
  have hA : DataW.TrodAll enc Try.prog W 0 (fun _ => true) true Try.f5.params.toList args.toList ds p := hA0
  rw [Try.params5] at hA hval
  obtain ⟨u0, vs0, e0, ds0, p0, q0, hargs, rfl, rfl, h0, t0⟩ := trodAll_cons hA
  obtain ⟨u1, vs1, e1, ds1, p1, q1, rfl, rfl, rfl, h1, t1⟩ := trodAll_cons t0
  obtain ⟨rfl, rfl, rfl⟩ := trodAll_nil t1
  obtain rfl : args = #[u0, u1] := by cases args; simp_all
  obtain ⟨rfl, rfl⟩ := trodVars_none hV
  have y0 := h0
  have lt0 : ∀ x ∈ p0, x.block < W.heap.size := by obtain ⟨m, hm⟩ := y0; exact DataW.trod_lt m _ _ _ hm
  have y1 := h1
  have lt1 : ∀ x ∈ p1, x.block < W.heap.size := by obtain ⟨m, hm⟩ := y1; exact DataW.trod_lt m _ _ _ hm
  obtain ⟨k0, c0, n0, v0, rfl⟩ := open_sc (hval 0 25 u0 rfl rfl) h0
  obtain ⟨k1, c1, n1, v1, rfl⟩ := open_sc (hval 1 25 u1 rfl rfl) h1
  clear hA0 hval0
  refine (walk k0 c0 n0 v0 k1 c1 n1 v1 W).mono fun e W' ⟨he, bel⟩ => ?_
  subst he
  exact ⟨_, rfl, _, _, _, [], _, [], hW', trodAll_mk1 (shut_bool Try.underlying4 _), (trodAll_cons_mk (Below.trod laidOut (by kernel_rfl) (of_decide_eq_true (by kernel_rfl)) y0 bel lt0) (trodAll_cons_mk (Below.trod laidOut (by kernel_rfl) (of_decide_eq_true (by kernel_rfl)) y1 bel lt1) trodAll_mk0)), rfl, bel.frame _, fun h => by cases h⟩

theorem over : Rows.schemaStepsRow.holds Try.pinned (OpenSpec.ofChange Rows.schemaStepsSpec) :=
  OpenClaim.holds_of_wide 5 Try.f5 rfl rfl rfl rfl rfl rfl rfl ⟨rfl, rfl, rfl, rfl, rfl⟩ rfl rfl rfl rfl rfl (by kernel_rfl) Try.func5 (by kernel_rfl)
    (of_decide_eq_true (by kernel_rfl)) (by unfold Func.isWrapper; first | (rw [if_pos (by decide +kernel)]; kernel_rfl) | (rw [if_neg (by decide +kernel)]; exact ⟨rfl, rfl⟩))
    (fun os started H enc _ => lifted os started H enc)

theorem proved : Rows.SchemaStepsSaid := over
#print axioms proved
end Go.Proofs.Ytbihfaplhjbfeaa.schemaSteps
