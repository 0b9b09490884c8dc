/-
  SchemaTells: for every list of schemas, row of bytes and two schemas the law returns true: what may be, the room, the step, the bytes and what bytes are read as are what the reference says.
  Conditions: none.
-/
import Derived.Test.YtbihfaplhjbfeaaRows
import Derived.Test.YtbihfaplhjbfeaaO
import Derived.Test.YtbihfaplhjbfeaaH
import Derived.Test.YtbihfaplhjbfeaaS
import Derived.WalkKit
import Derived.ProofKit
import Derived.OpenShut
import Derived.ChangeOld
import Derived.Below
namespace Go.Proofs.Ytbihfaplhjbfeaa.schemaTells
open Go.ChangeShapes Go.WideShapes Go.ChangeAt Go.RowKit
set_option linter.unusedVariables false

set_option maxRecDepth 100000 in
set_option maxHeartbeats 4000000 in
theorem walk (a0 : Option Addr) (len0 cap0 : Nat) (s0 : List Sc) (a1 : Option Addr) (len1 cap1 : Nat) (z1 : List Int) (k2 c2 n2 v2 : Int) (k3 c3 n3 v3 : Int) (w : World) (w0 : ScsAt w a0 len0 cap0 s0) (w1 : SliceB w a1 len1 cap1 z1) :
    Calls Try.prog 3 #[.slice a0 len0 cap0, .slice a1 len1 cap1, scV k2 c2 n2 v2, scV k3 c3 n3 v3] w fun e w' => e = .returned (.bool true) ∧ Below w.heap.size w w' := by
  have hm0 := w0.max
  have hm1 := w1.max
  have hb : Below w.heap.size w ((w.alloc (scO k2 c2 n2 v2)).alloc (scO k3 c3 n3 v3)) := box2 (Below.refl _ _) (Nat.le_refl _) _ _
  have HA := Lib.hid (scAt_old (scAt_new w k2 c2 n2 v2) (scO k3 c3 n3 v3))
  have HB := Lib.hid (scAt_two w k3 c3 n3 v3 (scO k2 c2 n2 v2))
  have HS := Lib.hid (w0.below hb)
  have HZ := Lib.hid (w1.below hb)
  clear w0 w1
  go_enter Try.func3, Try.ntmps3
  go_wp2_with fail
  refine (awake_any _).mono ?_
  rintro e w1 ⟨rfl, hg⟩
  replace HS := Lib.hid (HS.out.below hg)
  replace HZ := Lib.hid (HZ.out.below hg)
  replace HA := Lib.hid (HA.out.later hg)
  replace HB := Lib.hid (HB.out.later hg)
  replace hb := hb.trans (hg.mono hb.size)
  clear hg
  by_cases h20 : 20 < len0
  · have h20I : (20 : Int) < (len0 : Int) := by omega
    go_wp2
    go_ret
    exact ⟨rfl, hb⟩
  have h20I : ¬ (20 : Int) < (len0 : Int) := by omega
  by_cases h100 : 100 < len1
  · have h100I : (100 : Int) < (len1 : Int) := by omega
    go_wp2
    go_ret
    exact ⟨rfl, hb⟩
  have h100I : ¬ (100 : Int) < (len1 : Int) := by omega
  go_wp2_with fail
  refine (put_any a0 len0 cap0 s0 _ HS.out).mono ?_
  rintro e w2 ⟨p, cp, rfl, hg, hP⟩
  replace HS := Lib.hid (HS.out.below hg)
  replace HZ := Lib.hid (HZ.out.below hg)
  replace HA := Lib.hid (HA.out.later hg)
  replace HB := Lib.hid (HB.out.later hg)
  replace hb := hb.trans (hg.mono hb.size)
  have HP := Lib.hid hP
  clear hg hP
  go_wp2_with fail
  refine (rput_any a0 len0 cap0 s0 _ HS.out).mono ?_
  rintro e w3 ⟨q, cq, rfl, hg, hQ⟩
  replace HZ := Lib.hid (HZ.out.below hg)
  replace HP := Lib.hid (HP.out.below hg)
  replace HA := Lib.hid (HA.out.later hg)
  replace HB := Lib.hid (HB.out.later hg)
  replace hb := hb.trans (hg.mono hb.size)
  have HQ := Lib.hid hQ
  clear hg hQ HS
  generalize putE s0 = pE at *
  generalize putZ s0 = pZ at *
  go_wp2_with fail
  refine (bytesB_any p q pZ.length cp pZ.length cq pZ pZ _ HP.out HQ.out).mono ?_
  rintro e w4 ⟨rfl, hg⟩
  replace HZ := Lib.hid (HZ.out.below hg)
  replace HA := Lib.hid (HA.out.later hg)
  replace HB := Lib.hid (HB.out.later hg)
  replace hb := hb.trans (hg.mono hb.size)
  clear hg HP HQ
  rw [show decide (pZ = pZ) = true from decide_eq_true rfl]
  have hee : (pE == pE) = true := by simp
  go_wp2_with fail
  refine (get_any a1 len1 cap1 z1 _ HZ.out).mono ?_
  rintro e w5 ⟨x, cx, rfl, hg, hX⟩
  replace HZ := Lib.hid (HZ.out.below hg)
  replace HA := Lib.hid (HA.out.later hg)
  replace HB := Lib.hid (HB.out.later hg)
  replace hb := hb.trans (hg.mono hb.size)
  have HX := Lib.hid hX
  clear hg hX
  go_wp2_with fail
  refine (rget_any a1 len1 cap1 z1 _ HZ.out).mono ?_
  rintro e w6 ⟨y, cy, rfl, hg, hY⟩
  replace HX := Lib.hid (HX.out.below hg)
  replace HA := Lib.hid (HA.out.later hg)
  replace HB := Lib.hid (HB.out.later hg)
  replace hb := hb.trans (hg.mono hb.size)
  have HY := Lib.hid hY
  clear hg hY HZ
  generalize getE z1 = gE at *
  generalize getL z1 = gL at *
  go_wp2_with fail
  refine (same_any x y gL.length cx gL.length cy gL gL _ HX.out HY.out).mono ?_
  rintro e w9 ⟨rfl, hg⟩
  replace HA := Lib.hid (HA.out.later hg)
  replace HB := Lib.hid (HB.out.later hg)
  replace hb := hb.trans (hg.mono hb.size)
  clear hg HX HY
  rw [show decide (gL = gL) = true from decide_eq_true rfl]
  have hff : (gE == gE) = true := by simp
  have HK : Hid (∀ w', Below w9.heap.size w9 w' → w'.cell? ⟨w.heap.size, 0, none⟩ = some (.int .i64 k2) ∧ w'.cell? ⟨w.heap.size, 1, none⟩ = some (.int .i64 c2) ∧ w'.cell? ⟨w.heap.size, 2, none⟩ = some (.int .i64 n2) ∧ w'.cell? ⟨w.heap.size, 3, none⟩ = some (.int .i64 v2) ∧ w'.cell? ⟨w.heap.size + 1, 0, none⟩ = some (.int .i64 k3) ∧ w'.cell? ⟨w.heap.size + 1, 1, none⟩ = some (.int .i64 c3) ∧ w'.cell? ⟨w.heap.size + 1, 2, none⟩ = some (.int .i64 n3) ∧ w'.cell? ⟨w.heap.size + 1, 3, none⟩ = some (.int .i64 v3) ∧ Below w9.heap.size w9 w') := Lib.hid (fun w' h => by
    obtain ⟨a0, a1, a2, a3⟩ := HA.out.later h
    obtain ⟨b0, b1, b2, b3⟩ := HB.out.later h
    exact ⟨a0, a1, a2, a3, b0, b1, b2, b3, h⟩)
  have hq0 : Below w9.heap.size w9 w9.drew := (Below.refl _ _).drew
  have r1 : (mayS k2 c2 n2 v2 == mayS k2 c2 n2 v2) = true := by simp
  have r2 : (roomS k2 c2 n2 v2 == roomS k2 c2 n2 v2) = true := by simp
  have r3 : (stepS k2 c2 n2 v2 k3 c3 n3 v3 == stepS k2 c2 n2 v2 k3 c3 n3 v3) = true := by simp
  obtain ⟨d0, d1, d2, d3, d4, d5, d6, d7, _⟩ := HK.out _ (Below.refl _ _)
  go_wp2_with fail
  go_region_held3 (fun w' => w'.cell? ⟨w.heap.size, 0, none⟩ = some (.int .i64 k2) ∧ w'.cell? ⟨w.heap.size, 1, none⟩ = some (.int .i64 c2) ∧ w'.cell? ⟨w.heap.size, 2, none⟩ = some (.int .i64 n2) ∧ w'.cell? ⟨w.heap.size, 3, none⟩ = some (.int .i64 v2) ∧ w'.cell? ⟨w.heap.size + 1, 0, none⟩ = some (.int .i64 k3) ∧ w'.cell? ⟨w.heap.size + 1, 1, none⟩ = some (.int .i64 c3) ∧ w'.cell? ⟨w.heap.size + 1, 2, none⟩ = some (.int .i64 n3) ∧ w'.cell? ⟨w.heap.size + 1, 3, none⟩ = some (.int .i64 v3) ∧ Below w9.heap.size w9 w')
      (first
        | exact HK.out _ hq0
        | exact hS1
        | exact hS2
        | exact hS3
        | exact hS4
        | exact hS5
        | exact hS6)
      (first
        | (go_at_call 16; refine (may_any k2 c2 n2 v2 _).mono ?_; rintro e x1 ⟨rfl, hg1⟩; have hq1 := hq0.trans (hg1.mono hq0.size); have hS1 := HK.out _ hq1)
        | (go_at_call 17; refine (rmay_any k2 c2 n2 v2 _).mono ?_; rintro e x2 ⟨rfl, hg2⟩; have hq2 := hq1.trans (hg2.mono hq1.size); have hS2 := HK.out _ hq2)
        | (go_at_call 18; refine (room_any k2 c2 n2 v2 _).mono ?_; rintro e x3 ⟨rfl, hg3⟩; have hq3 := hq2.trans (hg3.mono hq2.size); have hS3 := HK.out _ hq3)
        | (go_at_call 19; refine (rroom_any k2 c2 n2 v2 _).mono ?_; rintro e x4 ⟨rfl, hg4⟩; have hq4 := hq3.trans (hg4.mono hq3.size); have hS4 := HK.out _ hq4)
        | (go_at_call 20; refine (step_any k2 c2 n2 v2 k3 c3 n3 v3 _).mono ?_; rintro e x5 ⟨rfl, hg5⟩; have hq5 := hq4.trans (hg5.mono hq4.size); have hS5 := HK.out _ hq5)
        | (go_at_call 21; refine (rstep_any k2 c2 n2 v2 k3 c3 n3 v3 _).mono ?_; rintro e x6 ⟨rfl, hg6⟩; have hq6 := hq5.trans (hg6.mono hq5.size); have hS6 := HK.out _ hq6))
  replace hb := hb.trans (hq6.mono hb.size)
  clear hS1 hS2 hS3 hS4 hS5 hS6 hg1 hg2 hg3 hg4 hg5 hg6 hq1 hq2 hq3 hq4 hq5 hq6
  go_wp2
  go_ret
  exact ⟨rfl, hb⟩


theorem own : ownKnob Try.prog.godebug = none := by kernel_rfl
theorem laidOut : laidOutB Try.prog = true := by kernel_rfl
set_option maxRecDepth 100000 in
theorem lifted (os : Os) (started : os.Started) (H : Type) (enc : TypeId × Value → H) :
    ReturnsInHanded {} Try.checked os 3 .any (Rows.schemaTellsSpec.pre6 enc Try.prog Try.f3 Rows.schemaTellsRow.domain false) (Rows.schemaTellsSpec.post enc Try.prog Try.f3 false true false false) := by
  refine returnsInHanded_of_change (C := Try.checked) own started (by kernel_rfl) Try.func3
    (ChangeSpec.witness6 (enc := enc) (C := Try.checked) false ⟨#[], #[.slice none 0 0, .slice none 0 0, .agg #[.int .i64 0, .int .i64 0, .int .i64 0, .int .i64 0], .agg #[.int .i64 0, .int .i64 0, .int .i64 0, .int .i64 0]], []⟩ 8 (by kernel_rfl) (by kernel_rfl) (by kernel_rfl) (by kernel_rfl)) ?_
  intro W base args ds gs before hval0 hW hcnd _
  have hval : ∀ (j : Nat) t v, Try.f3.params[j]? = some t → args[j]? = some v → Value.okWide Try.prog W .any base t v := hval0
  have hW' := hW
  obtain ⟨p, q, hA0, hV, rfl, hfz, hnd⟩ := hW
  have hA : DataW.TrodAll enc Try.prog W 0 (fun _ => true) true Try.f3.params.toList args.toList ds p := hA0
  rw [Try.params3] at hA hval
  obtain ⟨u0, vs0, e0, ds0, p0, q0, hargs, rfl, rfl, h0, t0⟩ := trodAll_cons hA
  obtain ⟨u1, vs1, e1, ds1, p1, q1, rfl, rfl, rfl, h1, t1⟩ := trodAll_cons t0
  obtain ⟨u2, vs2, e2, ds2, p2, q2, rfl, rfl, rfl, h2, t2⟩ := trodAll_cons t1
  obtain ⟨u3, vs3, e3, ds3, p3, q3, rfl, rfl, rfl, h3, t3⟩ := trodAll_cons t2
  obtain ⟨rfl, rfl, rfl⟩ := trodAll_nil t3
  obtain rfl : args = #[u0, u1, u2, u3] := by cases args; simp_all
  obtain ⟨rfl, rfl⟩ := trodVars_none hV
  have y0 := h0
  have lt0 : ∀ x ∈ p0, x.block < W.heap.size := by obtain ⟨m, hm⟩ := y0; exact DataW.trod_lt m _ _ _ hm
  have y1 := h1
  have lt1 : ∀ x ∈ p1, x.block < W.heap.size := by obtain ⟨m, hm⟩ := y1; exact DataW.trod_lt m _ _ _ hm
  have y2 := h2
  have lt2 : ∀ x ∈ p2, x.block < W.heap.size := by obtain ⟨m, hm⟩ := y2; exact DataW.trod_lt m _ _ _ hm
  have y3 := h3
  have lt3 : ∀ x ∈ p3, x.block < W.heap.size := by obtain ⟨m, hm⟩ := y3; exact DataW.trod_lt m _ _ _ hm
  obtain ⟨a0, len0, cap0, s0, rfl, w0⟩ := open_scs (hval 0 22 u0 rfl rfl) h0
  obtain ⟨a1, len1, cap1, z1, rfl, w1⟩ := open_bytes (hval 1 23 u1 rfl rfl) h1
  obtain ⟨k2, c2, n2, v2, rfl⟩ := open_sc (hval 2 25 u2 rfl rfl) h2
  obtain ⟨k3, c3, n3, v3, rfl⟩ := open_sc (hval 3 25 u3 rfl rfl) h3
  clear hA0 hval0
  refine (walk a0 len0 cap0 s0 a1 len1 cap1 z1 k2 c2 n2 v2 k3 c3 n3 v3 W w0 w1).mono fun e W' ⟨he, bel⟩ => ?_
  subst he
  exact ⟨_, rfl, _, _, _, [], _, [], hW', trodAll_mk1 (shut_bool Try.underlying4 _), (trodAll_cons_mk (Below.trod laidOut (by kernel_rfl) (of_decide_eq_true (by kernel_rfl)) y0 bel lt0) (trodAll_cons_mk (Below.trod laidOut (by kernel_rfl) (of_decide_eq_true (by kernel_rfl)) y1 bel lt1) (trodAll_cons_mk (Below.trod laidOut (by kernel_rfl) (of_decide_eq_true (by kernel_rfl)) y2 bel lt2) (trodAll_cons_mk (Below.trod laidOut (by kernel_rfl) (of_decide_eq_true (by kernel_rfl)) y3 bel lt3) trodAll_mk0)))), rfl, bel.frame _, fun h => by cases h⟩

theorem over : Rows.schemaTellsRow.holds Try.pinned (OpenSpec.ofChange Rows.schemaTellsSpec) :=
  OpenClaim.holds_of_wide 3 Try.f3 rfl rfl rfl rfl rfl rfl rfl ⟨rfl, rfl, rfl, rfl, rfl⟩ rfl rfl rfl rfl rfl (by kernel_rfl) Try.func3 (by kernel_rfl)
    (of_decide_eq_true (by kernel_rfl)) (by unfold Func.isWrapper; first | (rw [if_pos (by decide +kernel)]; kernel_rfl) | (rw [if_neg (by decide +kernel)]; exact ⟨rfl, rfl⟩))
    (fun os started H enc _ => lifted os started H enc)

theorem proved : Rows.SchemaTellsSaid := over
#print axioms proved
end Go.Proofs.Ytbihfaplhjbfeaa.schemaTells
