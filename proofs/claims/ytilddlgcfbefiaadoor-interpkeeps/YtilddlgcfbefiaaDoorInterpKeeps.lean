/-
  Whatever a program does, there are as many tables, of the same schemas, and those that may be stay so; the context is as it was.
  Conditions: none; the package variable that the law reads starts as its initialiser lays it (the card ties it).
-/
import Derived.Test.YtilddlgcfbefiaaDoorRows
import Derived.Test.YtilddlgcfbefiaaDoorCards
import Derived.Test.YtilddlgcfbefiaaDoorTie
import Derived.Test.YtilddlgcfbefiaaDoorGik
import Derived.Test.YtilddlgcfbefiaaDoorGio
import Derived.Test.YtilddlgcfbefiaaDoorGcd
import Derived.Test.YtilddlgcfbefiaaDoorIN
import Derived.WalkKit
import Derived.ProofKit
import Derived.OpenShut
import Derived.ChangeOld
import Derived.Below
import Derived.SevenTiedAt
namespace Go.Proofs.YtilddlgcfbefiaaDoor.interpKeeps
set_option linter.unusedSimpArgs false
set_option linter.unusedVariables false
open Go.ChangeShapes Go.WideShapes Go.ChangeAt Go.RowKit

set_option maxRecDepth 100000 in
set_option maxHeartbeats 40000000 in
theorem walk (a0 : Option Addr) (len0 cap0 : Nat) (fs0 : List Fun) (c1 : Cx) (a1 : Option Addr) (len1 cap1 : Nat) (x1 : Int) (ts1 : List Tb) (a2 : Int) (w2 : (Lit.int .i64 a2).wf = true) (w : World) (hR : RowsIn w) (w0 : FnsAt w a0 len0 cap0 fs0) (w1 : TabsAt w a1 len1 cap1 ts1) (y1 : isW x1) (z1 : isW c1.1 ∧ isW c1.2.1 ∧ isW c1.2.2.1 ∧ isW c1.2.2.2) :
    Calls Tryd.prog 4 #[.agg #[.slice a0 len0 cap0], envV c1 (.slice a1 len1 cap1) x1, .int .i64 a2] w fun e w' => e = .returned (.bool true) ∧ Below w.heap.size w w' := by
  rcases c1 with ⟨e0, e1, e2, e3⟩
  simp only at z1
  obtain ⟨W0, hW0, hA0⟩ := Ar.begin (e0, e1, e2, e3) x1 hR w0 w1
  simp only at hW0
  have HA := Lib.hid hA0
  have HP0 := Lib.hid w0
  have HX := Lib.hid y1
  have HZ := Lib.hid z1
  have HLm := Lib.hid w0.2.1
  clear hA0 hR w0 w1 y1 z1
  obtain ⟨p0, q0, q1, q2, q3, q4, q5⟩ := HA.out.cells
  simp only at p0 q0 q1 q2 q3 q4 q5
  go_enter Tryd.func4, Tryd.ntmps4
  go_wp2_with fail
  refine (iawake_any W0 HA.out.rows).mono ?_
  rintro en1 m1 ⟨rfl, hb1⟩
  replace HA := Lib.hid (HA.out.later hb1)
  clear hb1 hW0 p0 q0 q1 q2 q3 q4 q5
  obtain ⟨p0, q0, q1, q2, q3, q4, q5⟩ := HA.out.cells
  simp only at p0 q0 q1 q2 q3 q4 q5
  go_wp2_with fail
  refine (ifew_any fs0 a0 len0 cap0 (e0, e1, e2, e3) a1 len1 cap1 x1 ts1 m1 HA.out.fns HA.out.tabs).mono ?_
  rintro en2 m2 ⟨rfl, hb2⟩
  replace HA := Lib.hid (HA.out.later hb2)
  clear hb2 p0 q0 q1 q2 q3 q4 q5
  obtain ⟨p0, q0, q1, q2, q3, q4, q5⟩ := HA.out.cells
  simp only at p0 q0 q1 q2 q3 q4 q5
  obtain ⟨fb, hfb⟩ : ∃ fb, (fewP fs0 && fewTs ts1) = fb := ⟨_, rfl⟩
  rw [hfb]
  have HFb := Lib.hid hfb
  clear hfb
  cases fb with
  | false =>
    go_wp2
    go_ret
    exact ⟨rfl, HA.out.below⟩
  | true =>
    have HT : Hid (fewTs ts1 = true) := Lib.hid (by have h := HFb.out; simp only [Bool.and_eq_true] at h; exact h.2)
    have HFp : Hid (fewP fs0 = true) := Lib.hid (by have h := HFb.out; simp only [Bool.and_eq_true] at h; exact h.1)
    have HT1 := Lib.hid HA.out.tabs
    have HOk : Hid (okEv ((e0, e1, e2, e3), ts1, x1)) := Lib.hid (ok_ofI HT.out HX.out HZ.out)
    by_cases h0 : 3000 < a2
    · go_wp2
      go_ret
      exact ⟨rfl, HA.out.below⟩
    have HKp := Lib.hid (callI_keeps HA.out.fns HT1.out (e := ((e0, e1, e2, e3), ts1, x1)) HZ.out a2 0 (zs := []) wordL_nil)
    have crR := irun_any fs0 a0 len0 cap0 ((e0, e1, e2, e3), ts1, x1) a1 len1 cap1 a2 m2 HA.out.rows HA.out.fns HA.out.tabs HOk.out
    obtain ⟨r, hrq⟩ : ∃ r, callI fs0 0 ((e0, e1, e2, e3), ts1, x1) a2 [] = r := ⟨_, rfl⟩
    rw [hrq] at crR
    have HrQ := Lib.hid hrq
    clear hrq
    go_wp2_with fail
    refine crR.mono ?_
    intro enr m3 hr3
    obtain ⟨r0, ⟨⟨r1, r2, r3, r4⟩, rt, rs⟩, ru, re⟩ := r
    obtain ⟨rb, rc, her, hbr, hTr, hor, _⟩ := hr3.form
    simp only [ranA] at her hTr
    subst her
    obtain ⟨W4, hW4, hbr4, hVr, _⟩ := new_ran m3 #[.int .u32 r0, .int .u32 r1, .int .u32 r2, .int .u32 r3, .int .u32 r4, .slice rb rt.length rc, .int .u32 rs, .int .i64 ru, .int .i64 re]
    have HVr : Hid (Vn w W4 m3.heap.size (r0, ((r1, r2, r3, r4), rt, rs), ru, re) (.slice rb rt.length rc)) := Lib.hid (Vn.new HA.out.below hbr hTr hor hbr4 hVr)
    replace HA := Lib.hid ((HA.out.later hbr).later hbr4)
    clear hr3 hbr hTr hor hbr4 hVr crR p0 q0 q1 q2 q3 q4 q5
    obtain ⟨p0, q0, q1, q2, q3, q4, q5⟩ := HA.out.cells
    simp only at p0 q0 q1 q2 q3 q4 q5
    rw [HrQ.out] at HKp
    obtain ⟨k1, k2, k3⟩ := HKp.out
    simp only at k1 k2 k3
    simp only [Prod.mk.injEq] at k1
    obtain ⟨rfl, rfl, rfl, rfl⟩ := k1
    rw [k2] at HVr hW4
    have HTr : Hid (∃ V, Vn w W4 m3.heap.size (r0, ((r1, r2, r3, r4), rt, rs), ru, re) V) := Lib.hid ⟨_, HVr.out⟩
    have HLr := Lib.hid k2
    have HLt : Hid (ts1.length = len1) := Lib.hid HT1.out.1
    have HAll := Lib.hid k3
    obtain ⟨v0, v1, v2, v3, v4, v5, v6, v7, v8⟩ := HVr.out.cells
    simp only at v0 v1 v2 v3 v4 v5 v6 v7 v8
    have hne := neq_cx r1 r2 r3 r4 r1 r2 r3 r4
    have hgd := guardC
    have hsc := scEq_self r1 r2 r3 r4
    obtain rfl := HLt.out
    have hll : ((ts1.length : Int) != (ts1.length : Int)) = false := by simp
    have hlm := HT1.out.max
    have hll2 : ((rt.length : Int) != (ts1.length : Int)) = false := by rw [k2]; simp
    clear k3
    go_wp2_with (refine wpList_store_row rfl 34 _ _ rfl m3.heap.size _ rfl rfl 34 _ (Box.new m3 34 _) (by kernel_rfl) rfl (by simp [Value.oneCell']) ?_)
    clear hW4
    clear p0 q0 q1 q2 q3 q4 q5 v0 v1 v2 v3 v4 v5 v6 v7 v8 hne hgd hsc hll hll2
    have hne := neq_sc
    have hgd := guardS
    go_loopw [10] (fun i wr => ∃ k : Nat, k ≤ ts1.length ∧ i = .int .i64 k ∧ Hid (Below W4.heap.size W4 wr)) (fun i _ => ts1.length - (intOf i).toNat)
    case atStart => exact ⟨0, by omega, rfl, Lib.hid (Below.refl _ _)⟩
    case round =>
      obtain ⟨k, hk, rfl, HB⟩ := hrel
      have hk0 : (0 : Int) ≤ (k : Int) := Int.natCast_nonneg _
      have g1 : wr.cell? ⟨w.heap.size + 1, 4, none⟩ = some (.slice a1 ts1.length cap1) := (HA.out.env.later HB.out).cell rfl
      by_cases hkl : k < ts1.length
      · have hkI : (k : Int) < (ts1.length : Int) := by omega
        have g0 : wr.cell? ⟨m3.heap.size, 5, none⟩ = some (.slice rb ts1.length rc) := (HVr.out.2.1.later HB.out).cell rfl
        obtain ⟨bq, ccq, hqq, hTu⟩ := HVr.out.2.2.2.1.at
        simp only [HLr.out, Value.slice.injEq] at hqq hTu
        obtain ⟨rfl, _, rfl⟩ := hqq
        have hTt := HA.out.tabs.below HB.out
        replace hTu := hTu.below HB.out
        obtain ⟨yu, rfl, hyu⟩ := hTu.2.2.2.resolve_left (by omega)
        obtain ⟨yt, rfl, hyt⟩ := hTt.2.2.2.resolve_left (by omega)
        have hu1 := hyu k hkl
        have ht1 := hyt k hkl
        obtain ⟨hsc, hmy⟩ := HAll.out k hkl
        rcases hgt : ts1.getD k zeroT with ⟨⟨t0, t1, t2, t3⟩, est, xt⟩
        rcases hgu : rt.getD k zeroT with ⟨⟨s0, s1, s2, s3⟩, esu, xu⟩
        rw [hgt] at ht1 hmy hsc
        rw [hgu] at hu1 hmy hsc
        simp only [Prod.mk.injEq] at hsc
        obtain ⟨rfl, rfl, rfl, rfl⟩ := hsc
        obtain ⟨g2, g3, g4, g5, ⟨bu, lu, ccu, g6, hEu⟩, g7, hxu⟩ := hu1
        obtain ⟨g8, g9, g10, g11, ⟨bt, lt, cct, g12, hEt⟩, g13, hxt⟩ := ht1
        simp only at g2 g3 g4 g5 g6 g7 g8 g9 g10 g11 g12 g13 hEu hEt hxu hxt
        have HEu := Lib.hid hEu
        have HEt := Lib.hid hEt
        have HXu := Lib.hid hxu
        have HXt := Lib.hid hxt
        have HKc : Hid (∀ w', Below wr.heap.size wr w' → w'.cell? ⟨m3.heap.size, 5, none⟩ = some (.slice (some yu) ts1.length rc) ∧ w'.cell? ⟨w.heap.size + 1, 4, none⟩ = some (.slice (some yt) ts1.length cap1) ∧ w'.cell? (yu.add (k * 6)) = some (.int .i64 s0) ∧ w'.cell? ⟨(yu.add (k * 6)).block, (yu.add (k * 6)).off + 1, none⟩ = some (.int .i64 s1) ∧ w'.cell? ⟨(yu.add (k * 6)).block, (yu.add (k * 6)).off + 2, none⟩ = some (.int .i64 s2) ∧ w'.cell? ⟨(yu.add (k * 6)).block, (yu.add (k * 6)).off + 3, none⟩ = some (.int .i64 s3) ∧ w'.cell? ⟨(yu.add (k * 6)).block, (yu.add (k * 6)).off + 4, none⟩ = some (.slice bu lu ccu) ∧ w'.cell? ⟨(yu.add (k * 6)).block, (yu.add (k * 6)).off + 5, none⟩ = some (.int .u32 xu) ∧ w'.cell? (yt.add (k * 6)) = some (.int .i64 s0) ∧ w'.cell? ⟨(yt.add (k * 6)).block, (yt.add (k * 6)).off + 1, none⟩ = some (.int .i64 s1) ∧ w'.cell? ⟨(yt.add (k * 6)).block, (yt.add (k * 6)).off + 2, none⟩ = some (.int .i64 s2) ∧ w'.cell? ⟨(yt.add (k * 6)).block, (yt.add (k * 6)).off + 3, none⟩ = some (.int .i64 s3) ∧ w'.cell? ⟨(yt.add (k * 6)).block, (yt.add (k * 6)).off + 4, none⟩ = some (.slice bt lt cct) ∧ w'.cell? ⟨(yt.add (k * 6)).block, (yt.add (k * 6)).off + 5, none⟩ = some (.int .u32 xt)) := Lib.hid (fun w' hb => ⟨(hb.cell (lt_of_cell g0)).trans g0, (hb.cell (lt_of_cell g1)).trans g1, (hb.cell (lt_of_cell g2)).trans g2, (hb.cell (lt_of_cell g3)).trans g3, (hb.cell (lt_of_cell g4)).trans g4, (hb.cell (lt_of_cell g5)).trans g5, (hb.cell (lt_of_cell g6)).trans g6, (hb.cell (lt_of_cell g7)).trans g7, (hb.cell (lt_of_cell g8)).trans g8, (hb.cell (lt_of_cell g9)).trans g9, (hb.cell (lt_of_cell g10)).trans g10, (hb.cell (lt_of_cell g11)).trans g11, (hb.cell (lt_of_cell g12)).trans g12, (hb.cell (lt_of_cell g13)).trans g13⟩)
        obtain ⟨M1, hM1⟩ : ∃ M1, mayTb ((s0, s1, s2, s3), est, xt) = M1 := ⟨_, rfl⟩
        have HM1 := Lib.hid hM1
        have HM2 : Hid (M1 = true → mayTb ((s0, s1, s2, s3), esu, xu) = true) := Lib.hid (fun h => hmy (hM1.trans h))
        have hss := scEq_self s0 s1 s2 s3
        clear hyu hyt hTu hTt hgt hgu hmy hEu hEt hxu hxt hM1
        go_wp2_with fail
        refine wp_region_held_drew (S := (fun w' => w'.cell? ⟨m3.heap.size, 5, none⟩ = some (.slice (some yu) ts1.length rc) ∧ w'.cell? ⟨w.heap.size + 1, 4, none⟩ = some (.slice (some yt) ts1.length cap1) ∧ w'.cell? (yu.add (k * 6)) = some (.int .i64 s0) ∧ w'.cell? ⟨(yu.add (k * 6)).block, (yu.add (k * 6)).off + 1, none⟩ = some (.int .i64 s1) ∧ w'.cell? ⟨(yu.add (k * 6)).block, (yu.add (k * 6)).off + 2, none⟩ = some (.int .i64 s2) ∧ w'.cell? ⟨(yu.add (k * 6)).block, (yu.add (k * 6)).off + 3, none⟩ = some (.int .i64 s3) ∧ w'.cell? ⟨(yu.add (k * 6)).block, (yu.add (k * 6)).off + 4, none⟩ = some (.slice bu lu ccu) ∧ w'.cell? ⟨(yu.add (k * 6)).block, (yu.add (k * 6)).off + 5, none⟩ = some (.int .u32 xu) ∧ w'.cell? (yt.add (k * 6)) = some (.int .i64 s0) ∧ w'.cell? ⟨(yt.add (k * 6)).block, (yt.add (k * 6)).off + 1, none⟩ = some (.int .i64 s1) ∧ w'.cell? ⟨(yt.add (k * 6)).block, (yt.add (k * 6)).off + 2, none⟩ = some (.int .i64 s2) ∧ w'.cell? ⟨(yt.add (k * 6)).block, (yt.add (k * 6)).off + 3, none⟩ = some (.int .i64 s3) ∧ w'.cell? ⟨(yt.add (k * 6)).block, (yt.add (k * 6)).off + 4, none⟩ = some (.slice bt lt cct) ∧ w'.cell? ⟨(yt.add (k * 6)).block, (yt.add (k * 6)).off + 5, none⟩ = some (.int .u32 xt))) (by kernel_rfl) (HKc.out _ (Below.refl _ _).drew) (fun hHeld => ?_)
        refine wpAnyH_yield (i := 0) (v := ?v0) rfl rfl (by kernel_rfl) (by kernel_rfl) (by kernel_rfl) (fun _ _ _ h => h) (by rfl) ?hy0 hHeld ?rest0
        case hy0 =>
          intro w hSw
          (try dsimp only at hSw)
          go_simp
          try with_reducible rfl
        simp only [Act.put, List.setIfInBounds_toArray, List.set_cons_zero, List.set_cons_succ]
        refine wpAnyH_yield (i := 1) (v := ?v1) rfl rfl (by kernel_rfl) (by kernel_rfl) (by kernel_rfl) (fun _ _ _ h => h) (by rfl) ?hy1 hHeld ?rest1
        case hy1 =>
          intro w hSw
          (try dsimp only at hSw)
          go_simp
          try with_reducible rfl
        simp only [Act.put, List.setIfInBounds_toArray, List.set_cons_zero, List.set_cons_succ]
        refine wpAnyH_yield (i := 2) (v := ?v2) rfl rfl (by kernel_rfl) (by kernel_rfl) (by kernel_rfl) (fun _ _ _ h => h) (by rfl) ?hy2 hHeld ?rest2
        case hy2 =>
          intro w hSw
          (try dsimp only at hSw)
          go_simp
          try with_reducible rfl
        simp only [Act.put, List.setIfInBounds_toArray, List.set_cons_zero, List.set_cons_succ]
        refine wpAnyH_yield (i := 3) (v := ?v3) rfl rfl (by kernel_rfl) (by kernel_rfl) (by kernel_rfl) (fun _ _ _ h => h) (by rfl) ?hy3 hHeld ?rest3
        case hy3 =>
          intro w hSw
          (try dsimp only at hSw)
          go_simp
          try with_reducible rfl
        simp only [Act.put, List.setIfInBounds_toArray, List.set_cons_zero, List.set_cons_succ]
        refine wpAnyH_yield (i := 4) (v := ?v4) rfl rfl (by kernel_rfl) (by kernel_rfl) (by kernel_rfl) (fun _ _ _ h => h) (by rfl) ?hy4 hHeld ?rest4
        case hy4 =>
          intro w hSw
          (try dsimp only at hSw)
          go_simp
          try with_reducible rfl
        simp only [Act.put, List.setIfInBounds_toArray, List.set_cons_zero, List.set_cons_succ]
        refine wpAnyH_yield (i := 5) (v := ?v5) rfl rfl (by kernel_rfl) (by kernel_rfl) (by kernel_rfl) (fun _ _ _ h => h) (by rfl) ?hy5 hHeld ?rest5
        case hy5 =>
          intro w hSw
          (try dsimp only at hSw)
          go_simp
          try with_reducible rfl
        simp only [Act.put, List.setIfInBounds_toArray, List.set_cons_zero, List.set_cons_succ]
        refine wpAnyH_yield (i := 6) (v := ?v6) rfl rfl (by kernel_rfl) (by kernel_rfl) (by kernel_rfl) (fun _ _ _ h => h) (by rfl) ?hy6 hHeld ?rest6
        case hy6 =>
          intro w hSw
          (try dsimp only at hSw)
          go_simp
          try with_reducible rfl
        simp only [Act.put, List.setIfInBounds_toArray, List.set_cons_zero, List.set_cons_succ]
        refine wpAnyH_yield (i := 7) (v := ?v7) rfl rfl (by kernel_rfl) (by kernel_rfl) (by kernel_rfl) (fun _ _ _ h => h) (by rfl) ?hy7 hHeld ?rest7
        case hy7 =>
          intro w hSw
          (try dsimp only at hSw)
          go_simp
          try with_reducible rfl
        simp only [Act.put, List.setIfInBounds_toArray, List.set_cons_zero, List.set_cons_succ]
        refine wpAnyH_yield (i := 8) (v := ?v8) rfl rfl (by kernel_rfl) (by kernel_rfl) (by kernel_rfl) (fun _ _ _ h => h) (by rfl) ?hy8 hHeld ?rest8
        case hy8 =>
          intro w hSw
          (try dsimp only at hSw)
          go_simp
          try with_reducible rfl
        simp only [Act.put, List.setIfInBounds_toArray, List.set_cons_zero, List.set_cons_succ]
        refine wpAnyH_yield (i := 9) (v := ?v9) rfl rfl (by kernel_rfl) (by kernel_rfl) (by kernel_rfl) (fun _ _ _ h => h) (by rfl) ?hy9 hHeld ?rest9
        case hy9 =>
          intro w hSw
          (try dsimp only at hSw)
          go_simp
          try with_reducible rfl
        simp only [Act.put, List.setIfInBounds_toArray, List.set_cons_zero, List.set_cons_succ]
        refine wpAnyH_yield (i := 10) (v := ?v10) rfl rfl (by kernel_rfl) (by kernel_rfl) (by kernel_rfl) (fun _ _ _ h => h) (by rfl) ?hy10 hHeld ?rest10
        case hy10 =>
          intro w hSw
          (try dsimp only at hSw)
          go_simp
          try with_reducible rfl
        simp only [Act.put, List.setIfInBounds_toArray, List.set_cons_zero, List.set_cons_succ]
        refine wpAnyH_yield (i := 11) (v := ?v11) rfl rfl (by kernel_rfl) (by kernel_rfl) (by kernel_rfl) (fun _ _ _ h => h) (by rfl) ?hy11 hHeld ?rest11
        case hy11 =>
          intro w hSw
          (try dsimp only at hSw)
          go_simp
          try with_reducible rfl
        simp only [Act.put, List.setIfInBounds_toArray, List.set_cons_zero, List.set_cons_succ]
        refine wpAnyH_yield (i := 12) (v := ?v12) rfl rfl (by kernel_rfl) (by kernel_rfl) (by kernel_rfl) (fun _ _ _ h => h) (by rfl) ?hy12 hHeld ?rest12
        case hy12 =>
          intro w hSw
          (try dsimp only at hSw)
          go_simp
          try with_reducible rfl
        simp only [Act.put, List.setIfInBounds_toArray, List.set_cons_zero, List.set_cons_succ]
        refine wpAnyH_yield (i := 13) (v := ?v13) rfl rfl (by kernel_rfl) (by kernel_rfl) (by kernel_rfl) (fun _ _ _ h => h) (by rfl) ?hy13 hHeld ?rest13
        case hy13 =>
          intro w hSw
          (try dsimp only at hSw)
          go_simp
          try with_reducible rfl
        simp only [Act.put, List.setIfInBounds_toArray, List.set_cons_zero, List.set_cons_succ]
        refine wpAnyH_yield (i := 14) (v := ?v14) rfl rfl (by kernel_rfl) (by kernel_rfl) (by kernel_rfl) (fun _ _ _ h => h) (by rfl) ?hy14 hHeld ?rest14
        case hy14 =>
          intro w hSw
          (try dsimp only at hSw)
          go_simp
          try with_reducible rfl
        simp only [Act.put, List.setIfInBounds_toArray, List.set_cons_zero, List.set_cons_succ]
        refine wpAnyH_yield (i := 15) (v := ?v15) rfl rfl (by kernel_rfl) (by kernel_rfl) (by kernel_rfl) (fun _ _ _ h => h) (by rfl) ?hy15 hHeld ?rest15
        case hy15 =>
          intro w hSw
          (try dsimp only at hSw)
          go_simp
          try with_reducible rfl
        simp only [Act.put, List.setIfInBounds_toArray, List.set_cons_zero, List.set_cons_succ]
        refine wpAnyH_yield (i := 16) (v := ?v16) rfl rfl (by kernel_rfl) (by kernel_rfl) (by kernel_rfl) (fun _ _ _ h => h) (by rfl) ?hy16 hHeld ?rest16
        case hy16 =>
          intro w hSw
          (try dsimp only at hSw)
          go_simp
          try with_reducible rfl
        simp only [Act.put, List.setIfInBounds_toArray, List.set_cons_zero, List.set_cons_succ]
        refine wpAnyH_yield (i := 17) (v := ?v17) rfl rfl (by kernel_rfl) (by kernel_rfl) (by kernel_rfl) (fun _ _ _ h => h) (by rfl) ?hy17 hHeld ?rest17
        case hy17 =>
          intro w hSw
          (try dsimp only at hSw)
          go_simp
          try with_reducible rfl
        simp only [Act.put, List.setIfInBounds_toArray, List.set_cons_zero, List.set_cons_succ]
        refine wpAnyH_yield (i := 18) (v := ?v18) rfl rfl (by kernel_rfl) (by kernel_rfl) (by kernel_rfl) (fun _ _ _ h => h) (by rfl) ?hy18 hHeld ?rest18
        case hy18 =>
          intro w hSw
          (try dsimp only at hSw)
          go_simp
          try with_reducible rfl
        simp only [Act.put, List.setIfInBounds_toArray, List.set_cons_zero, List.set_cons_succ]
        refine wpAnyH_yield (i := 19) (v := ?v19) rfl rfl (by kernel_rfl) (by kernel_rfl) (by kernel_rfl) (fun _ _ _ h => h) (by rfl) ?hy19 hHeld ?rest19
        case hy19 =>
          intro w hSw
          (try dsimp only at hSw)
          go_simp
          try with_reducible rfl
        simp only [Act.put, List.setIfInBounds_toArray, List.set_cons_zero, List.set_cons_succ]
        refine wpAnyH_ready (rs := [20]) (by kernel_rfl) (by simp) ?_
        refine AllReadyH.cons rfl (fun K hK => ?_) AllReadyH.nil
        go_simp
        have c1 := tmay_any (s0, s1, s2, s3) bt lt cct xt est wr.drew (HEt.out.below (Below.refl _ _).drew) HXt.out
        rw [HM1.out] at c1
        refine c1.mono ?_
        rintro e m5 ⟨rfl, hb5⟩
        have HB5 : Hid (Below wr.heap.size wr m5) := Lib.hid ((Below.refl _ _).drew.trans hb5)
        clear c1 hb5
        go_wp2_with fail
        refine hK.out _ _ (HKc.out _ HB5.out) (fun hHeld => ?_)
        clear hK K
        try simp only [Act.put, List.setIfInBounds_toArray, List.set_cons_zero, List.set_cons_succ]
        refine wpAnyH_yield (i := 21) (v := ?v21) rfl rfl (by kernel_rfl) (by kernel_rfl) (by kernel_rfl) (fun _ _ _ h => h) (by rfl) ?hy21 hHeld ?rest21
        case hy21 =>
          intro w hSw
          (try dsimp only at hSw)
          go_simp
          try with_reducible rfl
        simp only [Act.put, List.setIfInBounds_toArray, List.set_cons_zero, List.set_cons_succ]
        rcases M1 with _ | _
        · refine wpAnyH_skip (i := 22) rfl rfl (by kernel_rfl) (by kernel_rfl) (by kernel_rfl) (fun _ _ _ h => h) (by rfl) hHeld ?_
          simp only [Act.put, List.setIfInBounds_toArray, List.set_cons_zero, List.set_cons_succ]
          refine wpAnyH_skip (i := 23) rfl rfl (by kernel_rfl) (by kernel_rfl) (by kernel_rfl) (fun _ _ _ h => h) (by rfl) hHeld ?_
          simp only [Act.put, List.setIfInBounds_toArray, List.set_cons_zero, List.set_cons_succ]
          refine wpAnyH_skip (i := 24) rfl rfl (by kernel_rfl) (by kernel_rfl) (by kernel_rfl) (fun _ _ _ h => h) (by rfl) hHeld ?_
          simp only [Act.put, List.setIfInBounds_toArray, List.set_cons_zero, List.set_cons_succ]
          refine wpAnyH_skip (i := 25) rfl rfl (by kernel_rfl) (by kernel_rfl) (by kernel_rfl) (fun _ _ _ h => h) (by rfl) hHeld ?_
          simp only [Act.put, List.setIfInBounds_toArray, List.set_cons_zero, List.set_cons_succ]
          refine wpAnyH_skip (i := 26) rfl rfl (by kernel_rfl) (by kernel_rfl) (by kernel_rfl) (fun _ _ _ h => h) (by rfl) hHeld ?_
          simp only [Act.put, List.setIfInBounds_toArray, List.set_cons_zero, List.set_cons_succ]
          refine wpAnyH_skip (i := 27) rfl rfl (by kernel_rfl) (by kernel_rfl) (by kernel_rfl) (fun _ _ _ h => h) (by rfl) hHeld ?_
          simp only [Act.put, List.setIfInBounds_toArray, List.set_cons_zero, List.set_cons_succ]
          refine wpAnyH_skip (i := 28) rfl rfl (by kernel_rfl) (by kernel_rfl) (by kernel_rfl) (fun _ _ _ h => h) (by rfl) hHeld ?_
          simp only [Act.put, List.setIfInBounds_toArray, List.set_cons_zero, List.set_cons_succ]
          refine wpAnyH_skip (i := 29) rfl rfl (by kernel_rfl) (by kernel_rfl) (by kernel_rfl) (fun _ _ _ h => h) (by rfl) hHeld ?_
          simp only [Act.put, List.setIfInBounds_toArray, List.set_cons_zero, List.set_cons_succ]
          have HB7 := HB5
          refine wpAnyH_yield (i := 30) (v := ?vf30) rfl rfl (by kernel_rfl) (by kernel_rfl) (by kernel_rfl) (fun _ _ _ h => h) (by rfl) ?hyf30 hHeld ?restf30
          case hyf30 =>
            intro w hSw
            (try dsimp only at hSw)
            go_simp
            try with_reducible rfl
          simp only [Act.put, List.setIfInBounds_toArray, List.set_cons_zero, List.set_cons_succ]
          refine wpAnyH_yield (i := 31) (v := ?vf31) rfl rfl (by kernel_rfl) (by kernel_rfl) (by kernel_rfl) (fun _ _ _ h => h) (by rfl) ?hyf31 hHeld ?restf31
          case hyf31 =>
            intro w hSw
            (try dsimp only at hSw)
            go_simp
            try with_reducible rfl
          simp only [Act.put, List.setIfInBounds_toArray, List.set_cons_zero, List.set_cons_succ]
          refine wpAnyH_done (by kernel_rfl) ?_ _
          clear hHeld
          go_wp2_with fail
          exact ⟨⟨k + 1, by omega, by go_num, Lib.hid (HB.out.trans (HB7.out.mono HB.out.size))⟩, by simp [intOf]; omega⟩
        · replace HM2 : Hid (mayTb ((s0, s1, s2, s3), esu, xu) = true) := Lib.hid (HM2.out rfl)
          refine wpAnyH_yield (i := 22) (v := ?vt22) rfl rfl (by kernel_rfl) (by kernel_rfl) (by kernel_rfl) (fun _ _ _ h => h) (by rfl) ?hyt22 hHeld ?restt22
          case hyt22 =>
            intro w hSw
            (try dsimp only at hSw)
            go_simp
            try with_reducible rfl
          simp only [Act.put, List.setIfInBounds_toArray, List.set_cons_zero, List.set_cons_succ]
          refine wpAnyH_yield (i := 23) (v := ?vt23) rfl rfl (by kernel_rfl) (by kernel_rfl) (by kernel_rfl) (fun _ _ _ h => h) (by rfl) ?hyt23 hHeld ?restt23
          case hyt23 =>
            intro w hSw
            (try dsimp only at hSw)
            go_simp
            try with_reducible rfl
          simp only [Act.put, List.setIfInBounds_toArray, List.set_cons_zero, List.set_cons_succ]
          refine wpAnyH_yield (i := 24) (v := ?vt24) rfl rfl (by kernel_rfl) (by kernel_rfl) (by kernel_rfl) (fun _ _ _ h => h) (by rfl) ?hyt24 hHeld ?restt24
          case hyt24 =>
            intro w hSw
            (try dsimp only at hSw)
            go_simp
            try with_reducible rfl
          simp only [Act.put, List.setIfInBounds_toArray, List.set_cons_zero, List.set_cons_succ]
          refine wpAnyH_yield (i := 25) (v := ?vt25) rfl rfl (by kernel_rfl) (by kernel_rfl) (by kernel_rfl) (fun _ _ _ h => h) (by rfl) ?hyt25 hHeld ?restt25
          case hyt25 =>
            intro w hSw
            (try dsimp only at hSw)
            go_simp
            try with_reducible rfl
          simp only [Act.put, List.setIfInBounds_toArray, List.set_cons_zero, List.set_cons_succ]
          refine wpAnyH_yield (i := 26) (v := ?vt26) rfl rfl (by kernel_rfl) (by kernel_rfl) (by kernel_rfl) (fun _ _ _ h => h) (by rfl) ?hyt26 hHeld ?restt26
          case hyt26 =>
            intro w hSw
            (try dsimp only at hSw)
            go_simp
            try with_reducible rfl
          simp only [Act.put, List.setIfInBounds_toArray, List.set_cons_zero, List.set_cons_succ]
          refine wpAnyH_yield (i := 27) (v := ?vt27) rfl rfl (by kernel_rfl) (by kernel_rfl) (by kernel_rfl) (fun _ _ _ h => h) (by rfl) ?hyt27 hHeld ?restt27
          case hyt27 =>
            intro w hSw
            (try dsimp only at hSw)
            go_simp
            try with_reducible rfl
          simp only [Act.put, List.setIfInBounds_toArray, List.set_cons_zero, List.set_cons_succ]
          refine wpAnyH_ready (rs := [28]) (by kernel_rfl) (by simp) ?_
          refine AllReadyH.cons rfl (fun K hK => ?_) AllReadyH.nil
          go_simp
          have c2 := tmay_any (s0, s1, s2, s3) bu lu ccu xu esu m5 (HEu.out.below HB5.out) HXu.out
          rw [HM2.out] at c2
          refine c2.mono ?_
          rintro e m7 ⟨rfl, hb7⟩
          have HB7 : Hid (Below wr.heap.size wr m7) := Lib.hid (HB5.out.trans (hb7.mono HB5.out.size))
          clear c2 hb7
          go_wp2_with fail
          refine hK.out _ _ (HKc.out _ HB7.out) (fun hHeld => ?_)
          clear hK K
          try simp only [Act.put, List.setIfInBounds_toArray, List.set_cons_zero, List.set_cons_succ]
          refine wpAnyH_yield (i := 29) (v := ?vt29) rfl rfl (by kernel_rfl) (by kernel_rfl) (by kernel_rfl) (fun _ _ _ h => h) (by rfl) ?hyt29 hHeld ?restt29
          case hyt29 =>
            intro w hSw
            (try dsimp only at hSw)
            go_simp
            try with_reducible rfl
          simp only [Act.put, List.setIfInBounds_toArray, List.set_cons_zero, List.set_cons_succ]
          refine wpAnyH_yield (i := 30) (v := ?vt30) rfl rfl (by kernel_rfl) (by kernel_rfl) (by kernel_rfl) (fun _ _ _ h => h) (by rfl) ?hyt30 hHeld ?restt30
          case hyt30 =>
            intro w hSw
            (try dsimp only at hSw)
            go_simp
            try with_reducible rfl
          simp only [Act.put, List.setIfInBounds_toArray, List.set_cons_zero, List.set_cons_succ]
          refine wpAnyH_yield (i := 31) (v := ?vt31) rfl rfl (by kernel_rfl) (by kernel_rfl) (by kernel_rfl) (fun _ _ _ h => h) (by rfl) ?hyt31 hHeld ?restt31
          case hyt31 =>
            intro w hSw
            (try dsimp only at hSw)
            go_simp
            try with_reducible rfl
          simp only [Act.put, List.setIfInBounds_toArray, List.set_cons_zero, List.set_cons_succ]
          refine wpAnyH_done (by kernel_rfl) ?_ _
          clear hHeld
          go_wp2_with fail
          exact ⟨⟨k + 1, by omega, by go_num, Lib.hid (HB.out.trans (HB7.out.mono HB.out.size))⟩, by simp [intOf]; omega⟩
      · have hkI : ¬ (k : Int) < (ts1.length : Int) := by omega
        go_wp2_with fail
        go_ret
        exact ⟨rfl, HA.out.below.trans (HB.out.mono HA.out.below.size)⟩


theorem own : ownKnob Tryd.prog.godebug = none := by kernel_rfl
theorem laidOut : laidOutB Tryd.prog = true := by kernel_rfl
theorem door_met (os : Os) (args : Array Value) : laidMetH Tryd.prog laidL ((World.doorLaid Tryd.prog 400 os).forCall (fun _ _ => 0) ⟨#[], args, []⟩).memory :=
  laidMetH_of_parts3 (fuel := 8) (laidMet_of_run' 8 (by kernel_rfl) (by kernel_rfl)) (by kernel_rfl) (by kernel_rfl)
set_option maxRecDepth 100000 in
theorem lifted (os : Os) (started : os.Started) (H : Type) (enc : TypeId × Value → H) :
    ReturnsInHanded {} Tryd.checked os 4 .any (fun w args => (Rows.interpKeepsSpec.pre enc Tryd.prog Tryd.f4 [] false w args ∧ laidMetH Tryd.prog laidL w) ∧ sizedMet enc Tryd.prog Tryd.f4 (OpenSpec.ofChange Rows.interpKeepsSpec) false w args)
      (Rows.interpKeepsSpec.post enc Tryd.prog Tryd.f4 false true false false) := by
  refine returnsInHanded_of_change_and (C := Tryd.checked) (X := fun w _ => laidMetH Tryd.prog laidL w) (fun _ _ _ hh h => h.of_heap hh) own started (by kernel_rfl) Tryd.func4
    (ChangeSpec.witness_shaped (enc := enc) (C := Tryd.checked) (os := os) (X := fun w _ => laidMetH Tryd.prog laidL w) false (World.doorLaid Tryd.prog 400 os) #[.agg #[.slice none 0 0], .agg #[.int .u32 0, .int .u32 0, .int .u32 0, .int .u32 0, .slice none 0 0, .int .u32 0], .int .i64 0] 8 rfl (World.shaped_of_RefB (by kernel_rfl) (by kernel_rfl)) (by kernel_rfl) (by kernel_rfl) (by kernel_rfl) (door_met os _)) ?_
  intro W base args ds gs before hval0 hW _ _ hL _
  have hval : ∀ (j : Nat) t v, Tryd.f4.params[j]? = some t → args[j]? = some v → Value.okWide Tryd.prog W .any base t v := hval0
  have hW' := hW
  obtain ⟨p, q, hA0, hV, rfl, hfz, hnd⟩ := hW
  have hA : DataW.TrodAll enc Tryd.prog W 0 (fun _ => true) true Tryd.f4.params.toList args.toList ds p := hA0
  rw [Tryd.params4] at hA hval
  obtain ⟨v0, vs0, e0, ds0, p0, q0, hargs, rfl, rfl, h0, t0⟩ := trodAll_cons hA
  obtain ⟨v1, vs1, e1, ds1, p1, q1, rfl, rfl, rfl, h1, t1⟩ := trodAll_cons t0
  obtain ⟨v2, vs2, e2, ds2, p2, q2, rfl, rfl, rfl, h2, t2⟩ := trodAll_cons t1
  obtain ⟨rfl, rfl, rfl⟩ := trodAll_nil t2
  obtain rfl : args = #[v0, v1, v2] := by cases args; simp_all
  obtain ⟨rfl, rfl⟩ := trodVars_none hV
  have k0 := h0
  have lt0 : ∀ x ∈ p0, x.block < W.heap.size := by obtain ⟨m, hm⟩ := k0; exact DataW.trod_lt m _ _ _ hm
  have k1 := h1
  have lt1 : ∀ x ∈ p1, x.block < W.heap.size := by obtain ⟨m, hm⟩ := k1; exact DataW.trod_lt m _ _ _ hm
  have k2 := h2
  have lt2 : ∀ x ∈ p2, x.block < W.heap.size := by obtain ⟨m, hm⟩ := k2; exact DataW.trod_lt m _ _ _ hm
  obtain ⟨a0, len0, cap0, fs0, rfl, w0⟩ := open_prog (hval 0 24 v0 rfl rfl) h0
  obtain ⟨c1, a1, len1, cap1, x1, ts1, rfl, w1, y1, z1⟩ := open_envw (hval 1 29 v1 rfl rfl) h1
  obtain ⟨a2, rfl, _, _, w2⟩ := open_int Tryd.underlying3 (hval 2 3 v2 rfl rfl) h2
  clear hA0 hval0
  refine (walk a0 len0 cap0 fs0 c1 a1 len1 cap1 x1 ts1 a2 w2 W (rows_of_laid hL) w0 w1 y1 z1).mono fun e W' ⟨he, bel⟩ => ?_
  subst he
  exact ⟨_, rfl, _, _, _, [], _, [], hW', trodAll_mk1 (shut_bool Tryd.underlying4 _), (trodAll_cons_mk (Below.trod laidOut (by kernel_rfl) (of_decide_eq_true (by kernel_rfl)) k0 bel lt0) (trodAll_cons_mk (Below.trod laidOut (by kernel_rfl) (of_decide_eq_true (by kernel_rfl)) k1 bel lt1) (trodAll_cons_mk (Below.trod laidOut (by kernel_rfl) (of_decide_eq_true (by kernel_rfl)) k2 bel lt2) trodAll_mk0))), rfl, bel.frame _, fun h => by cases h⟩

theorem over : Rows.interpKeepsRow.holds Tryd.pinned (OpenSpec.ofChange Rows.interpKeepsSpec) :=
  OpenClaim.holds_of_wide 4 Tryd.f4 rfl rfl rfl rfl rfl rfl rfl ⟨rfl, rfl, rfl, rfl, rfl⟩ rfl rfl rfl rfl rfl (by kernel_rfl) Tryd.func4 (by kernel_rfl)
    (of_decide_eq_true (by kernel_rfl)) (by unfold Func.isWrapper; first | (rw [if_pos (by decide +kernel)]; kernel_rfl) | (rw [if_neg (by decide +kernel)]; exact ⟨rfl, rfl⟩))
    (fun os started H enc _ => lifted os started H enc)

theorem proved : Rows.InterpKeepsCardSaid :=
  Claim7.holds_tied_plain_at .later [] [.data] true (true, "06c1961827986d8c8e50d4b984e0c9bf0d6611e5e24705ee5aae201a4df00376") false
    over (fun _ h => by cases h) (by kernel_rfl) (fun _ h => by cases h) interpKeeps_row_tie rfl ⟨rfl, rfl⟩ (by kernel_rfl) rfl
    (fun f fn hf hfn => by
      obtain rfl : f = 4 := Option.some.inj ((show Tryd.prog.funcNamed "drydock/drydocklaw07.InterpKeeps" = some 4 by kernel_rfl).symm.trans hf) |>.symm
      obtain rfl : fn = Tryd.f4 := (Option.some.inj (Tryd.func4.symm.trans hfn)).symm
      exact ⟨by kernel_rfl, fun j t ht => by
        rw [Tryd.params4] at ht
        match j, ht with
        | 0, ht => obtain rfl : t = 24 := by simpa using ht.symm
                   exact (show Tryd.prog.wantsStandIn 24 = false by kernel_rfl)
        | 1, ht => obtain rfl : t = 29 := by simpa using ht.symm
                   exact (show Tryd.prog.wantsStandIn 29 = false by kernel_rfl)
        | 2, ht => obtain rfl : t = 3 := by simpa using ht.symm
                   exact (show Tryd.prog.wantsStandIn 3 = false by kernel_rfl)
        | j + 3, ht => simp at ht⟩)
    (by kernel_rfl)
#print axioms proved
end Go.Proofs.YtilddlgcfbefiaaDoor.interpKeeps
