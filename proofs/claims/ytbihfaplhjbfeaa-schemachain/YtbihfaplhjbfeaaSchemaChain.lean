/-
  SchemaChain: for every three schemas the law returns true: what grows twice has a version two greater, and follows the first one neither as the same nor as grown.
  Conditions: none.
-/
import Derived.Test.YtbihfaplhjbfeaaRows
import Derived.Test.YtbihfaplhjbfeaaO
import Derived.Test.YtbihfaplhjbfeaaH
import Derived.WalkKit
import Derived.ProofKit
import Derived.OpenShut
import Derived.ChangeOld
import Derived.Below
namespace Go.Proofs.Ytbihfaplhjbfeaa.schemaChain
open Go.ChangeShapes Go.WideShapes Go.ChangeAt Go.RowKit
set_option linter.unusedVariables false

theorem step_one {k c n v k' c' n' v' : Int} (h : stepS k c n v k' c' n' v' = 1) : mayS k c n v = true ∧ mayS k' c' n' v' = true ∧ k = k' ∧ v' = v + 1 := by
  unfold stepS at h
  split at h
  · rename_i hm
    split at h
    · cases h
    · split at h
      · rename_i hk
        exact ⟨hm.1, hm.2, hk⟩
      · cases h
  · cases h
theorem step_far {k c n v k' c' n' v' : Int} (hv : v ≠ v') (h1 : v' ≠ v + 1) : stepS k c n v k' c' n' v' = 2 := by
  refine step_kind ?_ (fun h => h1 h.2)
  simp [scEq, hv]
set_option maxRecDepth 100000 in
set_option maxHeartbeats 4000000 in
theorem walk (k0 c0 n0 v0 : Int) (k1 c1 n1 v1 : Int) (k2 c2 n2 v2 : Int) (w : World) :
    Calls Try.prog 8 #[scV k0 c0 n0 v0, scV k1 c1 n1 v1, scV k2 c2 n2 v2] w fun e w' => e = .returned (.bool true) ∧ Below w.heap.size w w' := by
  have hW : Below w.heap.size w (((w.alloc (scO k0 c0 n0 v0)).alloc (scO k1 c1 n1 v1)).alloc (scO k2 c2 n2 v2)) := ((((Below.refl _ _).alloc (Nat.le_refl _) _).alloc (by simp) _).alloc (by simp; omega) _)
  have HK : Hid (∀ w', Below (((w.alloc (scO k0 c0 n0 v0)).alloc (scO k1 c1 n1 v1)).alloc (scO k2 c2 n2 v2)).heap.size (((w.alloc (scO k0 c0 n0 v0)).alloc (scO k1 c1 n1 v1)).alloc (scO k2 c2 n2 v2)) w' → w'.cell? ⟨w.heap.size, 0, none⟩ = some (.int .i64 k0) ∧ w'.cell? ⟨w.heap.size, 1, none⟩ = some (.int .i64 c0) ∧ w'.cell? ⟨w.heap.size, 2, none⟩ = some (.int .i64 n0) ∧ w'.cell? ⟨w.heap.size, 3, none⟩ = some (.int .i64 v0) ∧ w'.cell? ⟨w.heap.size + 1, 0, none⟩ = some (.int .i64 k1) ∧ w'.cell? ⟨w.heap.size + 1, 1, none⟩ = some (.int .i64 c1) ∧ w'.cell? ⟨w.heap.size + 1, 2, none⟩ = some (.int .i64 n1) ∧ w'.cell? ⟨w.heap.size + 1, 3, none⟩ = some (.int .i64 v1) ∧ w'.cell? ⟨w.heap.size + 1 + 1, 0, none⟩ = some (.int .i64 k2) ∧ w'.cell? ⟨w.heap.size + 1 + 1, 1, none⟩ = some (.int .i64 c2) ∧ w'.cell? ⟨w.heap.size + 1 + 1, 2, none⟩ = some (.int .i64 n2) ∧ w'.cell? ⟨w.heap.size + 1 + 1, 3, none⟩ = some (.int .i64 v2)) := Lib.hid (fun w' hb => by
    obtain ⟨a0, a1, a2, a3⟩ := (scAt_old (scAt_old (scAt_new w k0 c0 n0 v0) (scO k1 c1 n1 v1)) (scO k2 c2 n2 v2)).later hb
    obtain ⟨b0, b1, b2, b3⟩ := (scAt_old (scAt_two w k1 c1 n1 v1 (scO k0 c0 n0 v0)) (scO k2 c2 n2 v2)).later hb
    have h3 := scAt_two (w.alloc (scO k0 c0 n0 v0)) k2 c2 n2 v2 (scO k1 c1 n1 v1)
    rw [show (w.alloc (scO k0 c0 n0 v0)).heap.size + 1 = w.heap.size + 1 + 1 by simp] at h3
    obtain ⟨x0, x1, x2, x3⟩ := h3.later hb
    exact ⟨a0, a1, a2, a3, b0, b1, b2, b3, x0, x1, x2, x3⟩)
  have hend : ∀ w', Below (((w.alloc (scO k0 c0 n0 v0)).alloc (scO k1 c1 n1 v1)).alloc (scO k2 c2 n2 v2)).heap.size (((w.alloc (scO k0 c0 n0 v0)).alloc (scO k1 c1 n1 v1)).alloc (scO k2 c2 n2 v2)) w' → Below w.heap.size w w' := fun w' h => hW.trans (h.mono hW.size)
  have HEnd := Lib.hid hend
  clear hW hend
  go_enter Try.func8, Try.ntmps8
  go_wp2_with fail
  refine (awake_any _).mono ?_
  rintro e w1 ⟨rfl, hb⟩
  obtain ⟨d0, d1, d2, d3, d4, d5, d6, d7, d8, d9, d10, d11⟩ := HK.out _ hb
  go_wp2_with fail
  refine (step_any k0 c0 n0 v0 k1 c1 n1 v1 _).mono ?_
  rintro e w2 ⟨rfl, hg⟩
  replace hb := hb.trans (hg.mono hb.size)
  clear hg
  clear d0 d1 d2 d3 d4 d5 d6 d7 d8 d9 d10 d11
  obtain ⟨d0, d1, d2, d3, d4, d5, d6, d7, d8, d9, d10, d11⟩ := HK.out _ hb
  by_cases h1 : ¬ stepS k0 c0 n0 v0 k1 c1 n1 v1 = 1
  · have q1 : (stepS k0 c0 n0 v0 k1 c1 n1 v1 != 1) = true := by simpa using h1
    clear h1
    go_wp2
    go_ret
    exact ⟨rfl, HEnd.out _ hb⟩
  replace h1 := Decidable.not_not.1 h1
  rw [h1]
  have H1 := Lib.hid (step_one h1)
  clear h1
  go_wp2_with fail
  refine (step_any k1 c1 n1 v1 k2 c2 n2 v2 _).mono ?_
  rintro e w3 ⟨rfl, hg⟩
  replace hb := hb.trans (hg.mono hb.size)
  clear hg
  clear d0 d1 d2 d3 d4 d5 d6 d7 d8 d9 d10 d11
  obtain ⟨d0, d1, d2, d3, d4, d5, d6, d7, d8, d9, d10, d11⟩ := HK.out _ hb
  by_cases h2 : ¬ stepS k1 c1 n1 v1 k2 c2 n2 v2 = 1
  · have q1 : (stepS k1 c1 n1 v1 k2 c2 n2 v2 != 1) = true := by simpa using h2
    clear h2
    go_wp2
    go_ret
    exact ⟨rfl, HEnd.out _ hb⟩
  replace h2 := Decidable.not_not.1 h2
  rw [h2]
  have H2 := Lib.hid (step_one h2)
  clear h2
  obtain ⟨m0, m1, hk1, hv1⟩ := H1.out
  obtain ⟨_, m2, hk2, hv2⟩ := H2.out
  have hP := mayS_iff.1 m0
  have hw := wI (v0 + 2) (by omega) (by omega)
  have hvI : (v2 == v0 + 2) = true := by simp; omega
  have hkI : (k0 == k2) = true := by simp; omega
  have HF := Lib.hid (step_far (k := k0) (c := c0) (n := n0) (v := v0) (k' := k2) (c' := c2) (n' := n2) (v' := v2) (by omega) (by omega))
  have HG := Lib.hid (step_far (k := k2) (c := c2) (n := n2) (v := v2) (k' := k0) (c' := c0) (n' := n0) (v' := v0) (by omega) (by omega))
  have HM0 := Lib.hid m0
  have HM2 := Lib.hid m2
  clear m0 m1 m2 hk1 hv1 hk2 hv2 hP
  go_wp2_with fail
  refine (step_any k0 c0 n0 v0 k2 c2 n2 v2 _).mono ?_
  rintro e w4 ⟨rfl, hg⟩
  replace hb := hb.trans (hg.mono hb.size)
  clear hg
  clear d0 d1 d2 d3 d4 d5 d6 d7 d8 d9 d10 d11
  obtain ⟨d0, d1, d2, d3, d4, d5, d6, d7, d8, d9, d10, d11⟩ := HK.out _ hb
  rw [HF.out]
  go_wp2_with fail
  refine (step_any k2 c2 n2 v2 k0 c0 n0 v0 _).mono ?_
  rintro e w5 ⟨rfl, hg⟩
  replace hb := hb.trans (hg.mono hb.size)
  clear hg
  clear d0 d1 d2 d3 d4 d5 d6 d7 d8 d9 d10 d11
  obtain ⟨d0, d1, d2, d3, d4, d5, d6, d7, d8, d9, d10, d11⟩ := HK.out _ hb
  rw [HG.out]
  go_wp2_with fail
  refine (may_any k0 c0 n0 v0 _).mono ?_
  rintro e w6 ⟨rfl, hg⟩
  replace hb := hb.trans (hg.mono hb.size)
  clear hg
  clear d0 d1 d2 d3 d4 d5 d6 d7 d8 d9 d10 d11
  obtain ⟨d0, d1, d2, d3, d4, d5, d6, d7, d8, d9, d10, d11⟩ := HK.out _ hb
  rw [HM0.out]
  go_wp2_with fail
  refine (may_any k2 c2 n2 v2 _).mono ?_
  rintro e w7 ⟨rfl, hg⟩
  replace hb := hb.trans (hg.mono hb.size)
  clear hg
  rw [HM2.out]
  go_wp2
  go_ret
  exact ⟨rfl, HEnd.out _ hb⟩


theorem own : ownKnob Try.prog.godebug = none := by kernel_rfl
theorem laidOut : laidOutB Try.prog = true := by kernel_rfl
set_option maxRecDepth 100000 in
theorem lifted (os : Os) (started : os.Started) (H : Type) (enc : TypeId × Value → H) :
    ReturnsInHanded {} Try.checked os 8 .any (Rows.schemaChainSpec.pre6 enc Try.prog Try.f8 Rows.schemaChainRow.domain false) (Rows.schemaChainSpec.post enc Try.prog Try.f8 false true false false) := by
  refine returnsInHanded_of_change (C := Try.checked) own started (by kernel_rfl) Try.func8
    (ChangeSpec.witness6 (enc := enc) (C := Try.checked) false ⟨#[], #[.agg #[.int .i64 0, .int .i64 0, .int .i64 0, .int .i64 0], .agg #[.int .i64 0, .int .i64 0, .int .i64 0, .int .i64 0], .agg #[.int .i64 0, .int .i64 0, .int .i64 0, .int .i64 0]], []⟩ 8 (by kernel_rfl) (by kernel_rfl) (by kernel_rfl) (by kernel_rfl)) ?_
  intro W base args ds gs before hval0 hW hcnd _
  have hval : ∀ (j : Nat) t v, Try.f8.params[j]? = some t → args[j]? = some v → Value.okWide Try.prog W .any base t v := hval0
  have hW' := hW
  obtain ⟨p, q, hA0, hV, rfl, hfz, hnd⟩ := hW
  have hA : DataW.TrodAll enc Try.prog W 0 (fun _ => true) true Try.f8.params.toList args.toList ds p := hA0
  rw [Try.params8] at hA hval
  obtain ⟨u0, vs0, e0, ds0, p0, q0, hargs, rfl, rfl, h0, t0⟩ := trodAll_cons hA
  obtain ⟨u1, vs1, e1, ds1, p1, q1, rfl, rfl, rfl, h1, t1⟩ := trodAll_cons t0
  obtain ⟨u2, vs2, e2, ds2, p2, q2, rfl, rfl, rfl, h2, t2⟩ := trodAll_cons t1
  obtain ⟨rfl, rfl, rfl⟩ := trodAll_nil t2
  obtain rfl : args = #[u0, u1, u2] := by cases args; simp_all
  obtain ⟨rfl, rfl⟩ := trodVars_none hV
  have y0 := h0
  have lt0 : ∀ x ∈ p0, x.block < W.heap.size := by obtain ⟨m, hm⟩ := y0; exact DataW.trod_lt m _ _ _ hm
  have y1 := h1
  have lt1 : ∀ x ∈ p1, x.block < W.heap.size := by obtain ⟨m, hm⟩ := y1; exact DataW.trod_lt m _ _ _ hm
  have y2 := h2
  have lt2 : ∀ x ∈ p2, x.block < W.heap.size := by obtain ⟨m, hm⟩ := y2; exact DataW.trod_lt m _ _ _ hm
  obtain ⟨k0, c0, n0, v0, rfl⟩ := open_sc (hval 0 25 u0 rfl rfl) h0
  obtain ⟨k1, c1, n1, v1, rfl⟩ := open_sc (hval 1 25 u1 rfl rfl) h1
  obtain ⟨k2, c2, n2, v2, rfl⟩ := open_sc (hval 2 25 u2 rfl rfl) h2
  clear hA0 hval0
  refine (walk k0 c0 n0 v0 k1 c1 n1 v1 k2 c2 n2 v2 W).mono fun e W' ⟨he, bel⟩ => ?_
  subst he
  exact ⟨_, rfl, _, _, _, [], _, [], hW', trodAll_mk1 (shut_bool Try.underlying4 _), (trodAll_cons_mk (Below.trod laidOut (by kernel_rfl) (of_decide_eq_true (by kernel_rfl)) y0 bel lt0) (trodAll_cons_mk (Below.trod laidOut (by kernel_rfl) (of_decide_eq_true (by kernel_rfl)) y1 bel lt1) (trodAll_cons_mk (Below.trod laidOut (by kernel_rfl) (of_decide_eq_true (by kernel_rfl)) y2 bel lt2) trodAll_mk0))), rfl, bel.frame _, fun h => by cases h⟩

theorem over : Rows.schemaChainRow.holds Try.pinned (OpenSpec.ofChange Rows.schemaChainSpec) :=
  OpenClaim.holds_of_wide 8 Try.f8 rfl rfl rfl rfl rfl rfl rfl ⟨rfl, rfl, rfl, rfl, rfl⟩ rfl rfl rfl rfl rfl (by kernel_rfl) Try.func8 (by kernel_rfl)
    (of_decide_eq_true (by kernel_rfl)) (by unfold Func.isWrapper; first | (rw [if_pos (by decide +kernel)]; kernel_rfl) | (rw [if_neg (by decide +kernel)]; exact ⟨rfl, rfl⟩))
    (fun os started H enc _ => lifted os started H enc)

theorem proved : Rows.SchemaChainSaid := over
#print axioms proved
end Go.Proofs.Ytbihfaplhjbfeaa.schemaChain
