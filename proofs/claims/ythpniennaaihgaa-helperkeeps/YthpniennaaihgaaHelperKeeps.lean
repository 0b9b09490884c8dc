/-
  Tables that may be stay so; no other table changes, nor the words that were handed over; only a draw changes the seed.
  Conditions: none.
-/
import Derived.Test.YthpniennaaihgaaRows
import Derived.Test.YthpniennaaihgaaGh
import Derived.Test.YthpniennaaihgaaHK
import Derived.Test.YthpniennaaihgaaRS
import Derived.WalkKit
import Derived.ProofKit
import Derived.OpenShut
import Derived.ChangeOld
import Derived.Below
namespace Go.Proofs.Ythpniennaaihgaa.helperKeeps
open Go.ChangeShapes Go.WideShapes Go.ChangeAt Go.RowKit
set_option linter.unusedVariables false

theorem Vq.new {w W : World} {e : Ev} {V : Value} (h : Below w.heap.size w W) (hr : TabsR W w.heap.size V e.2.1) : Vq w (W.alloc (.cells (envA e.1 V e.2.2) 26)) W.heap.size e V :=
  ⟨h.trans ((belowA _ _).mono h.size), Box.new _ _ _, h.size, .inr (hr.below (belowA _ _))⟩
set_option maxRecDepth 100000 in
set_option maxHeartbeats 40000000 in
theorem walk (a0 : Int) (w0 : (Lit.int .i64 a0).wf = true) (c1 : Cx) (a1 : Option Addr) (len1 cap1 : Nat) (x1 : Int) (ts1 : List Tb) (a2 : Option Addr) (len2 cap2 : Nat) (z2 : List Int) (w : World) (w1 : TabsAt w a1 len1 cap1 ts1) (y1 : isW x1) (w2 : WordsAt w a2 len2 cap2 z2) :
    Calls Try.prog 4 #[.int .i64 a0, envV c1 (.slice a1 len1 cap1) x1, .slice a2 len2 cap2] w fun e w' => e = .returned (.bool true) ∧ Below w.heap.size w w' := by
  rcases c1 with ⟨e0, e1, e2, e3⟩
  obtain ⟨P, hP⟩ : ∃ P, w.heap.size = P := ⟨_, rfl⟩
  obtain ⟨W0, hW0⟩ : ∃ W0, w.alloc (.cells #[.int .u32 e0, .int .u32 e1, .int .u32 e2, .int .u32 e3, .slice a1 len1 cap1, .int .u32 x1] 26) = W0 := ⟨_, rfl⟩
  have HV : Hid (Vq w W0 P ((e0, e1, e2, e3), ts1, x1) (.slice a1 len1 cap1)) := by rw [← hW0, ← hP]; exact Lib.hid (Vq.begin (e0, e1, e2, e3) x1 w1)
  have HX := Lib.hid y1
  have HLen := Lib.hid w1.1
  have HT0 := Lib.hid w1
  have HWd := Lib.hid w2
  have hlm := w1.max
  have hlm2 := w2.max
  clear w1 y1 w0 w2
  go_enter Try.func4, Try.ntmps4
  go_wp2_with fail
  clear hW0 hP
  refine (awake_any W0).mono ?_
  rintro e m1 ⟨rfl, hb⟩
  replace HV := Lib.hid (HV.out.later hb)
  clear hb
  obtain ⟨v0, v1, v2, v3, v4, v5⟩ := HV.out.cells
  simp only at v0 v1 v2 v3 v4 v5
  go_wp2_with fail
  have hT := HT0.out.below HV.out.1
  have cf := few_any a1 len1 cap1 ts1 m1 hT
  rcases hfew : fewTs ts1 with _ | _
  · rw [hfew] at cf
    refine cf.mono ?_
    rintro e m2 ⟨rfl, hm2⟩
    subst m2
    clear cf hfew hT
    go_wp2_with fail
    go_ret
    exact ⟨rfl, HV.out.1⟩
  rw [hfew] at cf
  have HF := Lib.hid (few_of hfew)
  refine cf.mono ?_
  rintro e m2 ⟨rfl, hm2⟩
  subst m2
  clear cf hfew hT
  by_cases h8 : (8 : Int) < (len2 : Int)
  · go_wp2_with fail
    go_ret
    exact ⟨rfl, HV.out.1⟩
  go_wp2_with fail
  clear v0 v1 v2 v3 v4 v5
  obtain ⟨r, hr⟩ : ∃ r, callP a0 ((e0, e1, e2, e3), ts1, x1) z2 = r := ⟨_, rfl⟩
  have cx := call_any a0 (e0, e1, e2, e3) a1 len1 cap1 x1 ts1 a2 len2 cap2 z2 m1 (HT0.out.below HV.out.1) HF.out HX.out (HWd.out.below HV.out.1)
  rw [hr] at cx
  rcases r with ⟨⟨⟨r0, r1, r2, r3⟩, us, sd⟩, rv, rf⟩
  have HKl := Lib.hid (keeps_law HWd.out.2.2.2.1 hr)
  clear hr
  refine cx.mono ?_
  rintro e m3 ⟨Vx, rfl, hb3, hr3⟩
  clear cx
  have HV3 := Lib.hid (HV.out.later hb3)
  have HR3 := Lib.hid (hr3.low (base' := w.heap.size) HV.out.1.size)
  clear hb3 hr3 HV
  obtain ⟨du, pu, hu, _⟩ := HR3.out.at
  simp only at hu
  subst hu
  have HVx : Hid (Vq w (m3.alloc (.cells #[.int .u32 r0, .int .u32 r1, .int .u32 r2, .int .u32 r3, .slice du us.length pu, .int .u32 sd] 26)) m3.heap.size ((r0, r1, r2, r3), us, sd) (.slice du us.length pu)) := Lib.hid (Vq.new HV3.out.1 HR3.out)
  have HVp := Lib.hid (HV3.out.later (belowA m3 (.cells #[.int .u32 r0, .int .u32 r1, .int .u32 r2, .int .u32 r3, .slice du us.length pu, .int .u32 sd] 26)))
  clear HV3 HR3
  obtain ⟨v0, v1, v2, v3, v4, v5⟩ := HVp.out.cells
  obtain ⟨u0, u1, u2, u3, u4, u5⟩ := HVx.out.cells
  simp only at v0 v1 v2 v3 v4 v5 u0 u1 u2 u3 u4 u5
  have hne := neq_cx r0 r1 r2 r3 e0 e1 e2 e3
  have hgd := guardC
  rcases HKl.out with ⟨hf1, hus⟩ | ⟨hf, hul, hcc, hsd, hall⟩
  · subst hf1
    subst hus
    have hz1 : ((1 : Int) == 1) = true := by decide
    go_wp2_with fail
    go_ret
    exact ⟨rfl, HVx.out.1⟩
  simp only [Prod.mk.injEq] at hcc
  obtain ⟨rfl, rfl, rfl, rfl⟩ := hcc
  have hsc := scEq_self r0 r1 r2 r3
  have hfn : (rf == 1) = false := by rcases hf with rfl | rfl <;> decide
  have hul1 : us.length = len1 := by rw [hul, HLen.out]
  rw [hul1] at HVx HVp u0 u1 u2 u3 u4 u5 v0 v1 v2 v3 v4 v5
  rw [hul1]
  have HUl := Lib.hid hul1
  have hll : ((len1 : Int) != (len1 : Int)) = false := by simp
  have HAll := Lib.hid hall
  have HFf := Lib.hid hf
  clear hul hul1 hall HKl
  generalize hM : m3.alloc (.cells #[.int .u32 r0, .int .u32 r1, .int .u32 r2, .int .u32 r3, .slice du len1 pu, .int .u32 sd] 26) = M at *
  generalize hX : m3.heap.size = X at *
  go_upto_region 8 with fail
  go_cut [69] from 45 to 69 (fun c wc => c = .bool false ∧ M = wc)
  case first =>
    by_cases hn4 : a0 = 4
    · have hnb : (a0 != 4) = false := by simpa using hn4
      go_wp2_with fail
      go_meet
      exact ⟨rfl, rfl⟩
    · have hnb : (a0 != 4) = true := by simpa using hn4
      obtain rfl : sd = x1 := hsd hn4
      have hxx : (sd != sd) = false := by simp
      go_wp2_with fail
      go_meet
      exact ⟨rfl, rfl⟩
  case rest =>
    obtain ⟨rfl, rfl⟩ := hcut
    go_wp2_with fail
    clear u0 u1 u2 u3 u4 u5 v0 v1 v2 v3 v4 v5 hne hgd hsc hM hX
    have hne := neq_sc
    have hgd := guardS
    go_loopw [12] (fun i wr => ∃ k : Nat, k ≤ len1 ∧ i = .int .i64 k ∧ Hid (Below M.heap.size M wr)) (fun i _ => len1 - (intOf i).toNat)
    case atStart => exact ⟨0, by omega, rfl, Lib.hid (Below.refl _ _)⟩
    case round =>
      obtain ⟨k, hk, rfl, HB⟩ := hrel
      have hk0 : (0 : Int) ≤ (k : Int) := Int.natCast_nonneg _
      have g1 : wr.cell? ⟨P, 4, none⟩ = some (.slice a1 len1 cap1) := (HVp.out.2.1.later HB.out).cell rfl
      by_cases hkl : k < len1
      · have hkI : (k : Int) < (len1 : Int) := by omega
        have g0 : wr.cell? ⟨X, 4, none⟩ = some (.slice du len1 pu) := (HVx.out.2.1.later HB.out).cell rfl
        obtain ⟨bq, ccq, hqq, hTu⟩ := HVx.out.at
        simp only [HUl.out, Value.slice.injEq] at hqq hTu
        obtain ⟨rfl, _, rfl⟩ := hqq
        have hTt := (HT0.out.below HVp.out.1).below HB.out
        replace hTu := hTu.below HB.out
        obtain ⟨yu, rfl, hyu⟩ := hTu.2.2.2.resolve_left (by omega)
        obtain ⟨yt, rfl, hyt⟩ := hTt.2.2.2.resolve_left (by omega)
        have hu1 := hyu k hkl
        have ht1 := hyt k hkl
        obtain ⟨hch, hmy, hsc⟩ := HAll.out k (by rw [HLen.out]; exact hkl)
        rcases hgt : ts1.getD k zeroT with ⟨⟨t0, t1, t2, t3⟩, est, xt⟩
        rcases hgu : us.getD k zeroT with ⟨⟨s0, s1, s2, s3⟩, ess, xs⟩
        rw [hgt] at ht1 hch hmy hsc
        rw [hgu] at hu1 hch hmy hsc
        simp only [Prod.mk.injEq] at hsc
        obtain ⟨rfl, rfl, rfl, rfl⟩ := hsc
        obtain ⟨g2, g3, g4, g5, ⟨bs, ls, ccs, g6, hEs⟩, g7, hxs⟩ := hu1
        obtain ⟨g8, g9, g10, g11, ⟨bt, lt, cct, g12, hEt⟩, g13, hxt⟩ := ht1
        simp only at g2 g3 g4 g5 g6 g7 g8 g9 g10 g11 g12 g13 hEs hEt hxs hxt
        have HEs := Lib.hid hEs
        have HEt := Lib.hid hEt
        have HXs := Lib.hid hxs
        have HXt := Lib.hid hxt
        have HKp : Hid (∀ w', Below wr.heap.size wr w' → w'.cell? ⟨X, 4, none⟩ = some (.slice (some yu) len1 pu) ∧ w'.cell? ⟨P, 4, none⟩ = some (.slice (some yt) len1 cap1) ∧ w'.cell? (yu.add (k * 6)) = some (.int .i64 s0) ∧ w'.cell? ⟨(yu.add (k * 6)).block, (yu.add (k * 6)).off + 1, none⟩ = some (.int .i64 s1) ∧ w'.cell? ⟨(yu.add (k * 6)).block, (yu.add (k * 6)).off + 2, none⟩ = some (.int .i64 s2) ∧ w'.cell? ⟨(yu.add (k * 6)).block, (yu.add (k * 6)).off + 3, none⟩ = some (.int .i64 s3) ∧ w'.cell? ⟨(yu.add (k * 6)).block, (yu.add (k * 6)).off + 4, none⟩ = some (.slice bs ls ccs) ∧ w'.cell? ⟨(yu.add (k * 6)).block, (yu.add (k * 6)).off + 5, none⟩ = some (.int .u32 xs) ∧ w'.cell? (yt.add (k * 6)) = some (.int .i64 s0) ∧ w'.cell? ⟨(yt.add (k * 6)).block, (yt.add (k * 6)).off + 1, none⟩ = some (.int .i64 s1) ∧ w'.cell? ⟨(yt.add (k * 6)).block, (yt.add (k * 6)).off + 2, none⟩ = some (.int .i64 s2) ∧ w'.cell? ⟨(yt.add (k * 6)).block, (yt.add (k * 6)).off + 3, none⟩ = some (.int .i64 s3) ∧ w'.cell? ⟨(yt.add (k * 6)).block, (yt.add (k * 6)).off + 4, none⟩ = some (.slice bt lt cct) ∧ w'.cell? ⟨(yt.add (k * 6)).block, (yt.add (k * 6)).off + 5, none⟩ = some (.int .u32 xt)) := Lib.hid (fun w' hb => ⟨(hb.cell (lt_of_cell g0)).trans g0, (hb.cell (lt_of_cell g1)).trans g1, (hb.cell (lt_of_cell g2)).trans g2, (hb.cell (lt_of_cell g3)).trans g3, (hb.cell (lt_of_cell g4)).trans g4, (hb.cell (lt_of_cell g5)).trans g5, (hb.cell (lt_of_cell g6)).trans g6, (hb.cell (lt_of_cell g7)).trans g7, (hb.cell (lt_of_cell g8)).trans g8, (hb.cell (lt_of_cell g9)).trans g9, (hb.cell (lt_of_cell g10)).trans g10, (hb.cell (lt_of_cell g11)).trans g11, (hb.cell (lt_of_cell g12)).trans g12, (hb.cell (lt_of_cell g13)).trans g13⟩)
        obtain ⟨SM, hSM⟩ : ∃ SM, decide ((((s0, s1, s2, s3), ess, xs) : Tb) = ((s0, s1, s2, s3), est, xt)) = SM := ⟨_, rfl⟩
        have HSm := Lib.hid hSM
        obtain ⟨M1, hM1⟩ : ∃ M1, mayTb ((s0, s1, s2, s3), est, xt) = M1 := ⟨_, rfl⟩
        have HM1 := Lib.hid hM1
        have HM2 : Hid (M1 = true → mayTb ((s0, s1, s2, s3), ess, xs) = true) := Lib.hid (fun h => hmy (hM1.trans h))
        have HOw : Hid (SM = false → 0 < z2.length ∧ z2.getD 0 0 = (k : Int) ∧ rf = 0) := Lib.hid (fun h => hch.resolve_left (fun e => by rw [← hSM] at h; exact of_decide_eq_false h e))
        have hss := scEq_self s0 s1 s2 s3
        clear hyu hyt hTu hTt hgt hgu hch hmy hEs hEt hxs hxt hSM hM1
        go_wp2_with fail
        refine wp_region_held_drew (S := (fun w' => w'.cell? ⟨X, 4, none⟩ = some (.slice (some yu) len1 pu) ∧ w'.cell? ⟨P, 4, none⟩ = some (.slice (some yt) len1 cap1) ∧ w'.cell? (yu.add (k * 6)) = some (.int .i64 s0) ∧ w'.cell? ⟨(yu.add (k * 6)).block, (yu.add (k * 6)).off + 1, none⟩ = some (.int .i64 s1) ∧ w'.cell? ⟨(yu.add (k * 6)).block, (yu.add (k * 6)).off + 2, none⟩ = some (.int .i64 s2) ∧ w'.cell? ⟨(yu.add (k * 6)).block, (yu.add (k * 6)).off + 3, none⟩ = some (.int .i64 s3) ∧ w'.cell? ⟨(yu.add (k * 6)).block, (yu.add (k * 6)).off + 4, none⟩ = some (.slice bs ls ccs) ∧ w'.cell? ⟨(yu.add (k * 6)).block, (yu.add (k * 6)).off + 5, none⟩ = some (.int .u32 xs) ∧ w'.cell? (yt.add (k * 6)) = some (.int .i64 s0) ∧ w'.cell? ⟨(yt.add (k * 6)).block, (yt.add (k * 6)).off + 1, none⟩ = some (.int .i64 s1) ∧ w'.cell? ⟨(yt.add (k * 6)).block, (yt.add (k * 6)).off + 2, none⟩ = some (.int .i64 s2) ∧ w'.cell? ⟨(yt.add (k * 6)).block, (yt.add (k * 6)).off + 3, none⟩ = some (.int .i64 s3) ∧ w'.cell? ⟨(yt.add (k * 6)).block, (yt.add (k * 6)).off + 4, none⟩ = some (.slice bt lt cct) ∧ w'.cell? ⟨(yt.add (k * 6)).block, (yt.add (k * 6)).off + 5, none⟩ = some (.int .u32 xt))) (by kernel_rfl) (HKp.out _ (Below.refl _ _).drew) (fun hHeld => ?_)
        refine wpAnyH_yield (i := 0) (v := ?v0) rfl rfl (by kernel_rfl) (by kernel_rfl) (by kernel_rfl) (fun _ _ _ h => h) (by rfl) ?hy0 hHeld ?rest0
        case hy0 =>
          intro w hSw
          (try dsimp only at hSw)
          go_simp
          try with_reducible rfl
        simp only [Act.put, List.setIfInBounds_toArray, List.set_cons_zero, List.set_cons_succ]
        refine wpAnyH_yield (i := 1) (v := ?v1) rfl rfl (by kernel_rfl) (by kernel_rfl) (by kernel_rfl) (fun _ _ _ h => h) (by rfl) ?hy1 hHeld ?rest1
        case hy1 =>
          intro w hSw
          (try dsimp only at hSw)
          go_simp
          try with_reducible rfl
        simp only [Act.put, List.setIfInBounds_toArray, List.set_cons_zero, List.set_cons_succ]
        refine wpAnyH_yield (i := 2) (v := ?v2) rfl rfl (by kernel_rfl) (by kernel_rfl) (by kernel_rfl) (fun _ _ _ h => h) (by rfl) ?hy2 hHeld ?rest2
        case hy2 =>
          intro w hSw
          (try dsimp only at hSw)
          go_simp
          try with_reducible rfl
        simp only [Act.put, List.setIfInBounds_toArray, List.set_cons_zero, List.set_cons_succ]
        refine wpAnyH_yield (i := 3) (v := ?v3) rfl rfl (by kernel_rfl) (by kernel_rfl) (by kernel_rfl) (fun _ _ _ h => h) (by rfl) ?hy3 hHeld ?rest3
        case hy3 =>
          intro w hSw
          (try dsimp only at hSw)
          go_simp
          try with_reducible rfl
        simp only [Act.put, List.setIfInBounds_toArray, List.set_cons_zero, List.set_cons_succ]
        refine wpAnyH_yield (i := 4) (v := ?v4) rfl rfl (by kernel_rfl) (by kernel_rfl) (by kernel_rfl) (fun _ _ _ h => h) (by rfl) ?hy4 hHeld ?rest4
        case hy4 =>
          intro w hSw
          (try dsimp only at hSw)
          go_simp
          try with_reducible rfl
        simp only [Act.put, List.setIfInBounds_toArray, List.set_cons_zero, List.set_cons_succ]
        refine wpAnyH_yield (i := 5) (v := ?v5) rfl rfl (by kernel_rfl) (by kernel_rfl) (by kernel_rfl) (fun _ _ _ h => h) (by rfl) ?hy5 hHeld ?rest5
        case hy5 =>
          intro w hSw
          (try dsimp only at hSw)
          go_simp
          try with_reducible rfl
        simp only [Act.put, List.setIfInBounds_toArray, List.set_cons_zero, List.set_cons_succ]
        refine wpAnyH_yield (i := 6) (v := ?v6) rfl rfl (by kernel_rfl) (by kernel_rfl) (by kernel_rfl) (fun _ _ _ h => h) (by rfl) ?hy6 hHeld ?rest6
        case hy6 =>
          intro w hSw
          (try dsimp only at hSw)
          go_simp
          try with_reducible rfl
        simp only [Act.put, List.setIfInBounds_toArray, List.set_cons_zero, List.set_cons_succ]
        refine wpAnyH_yield (i := 7) (v := ?v7) rfl rfl (by kernel_rfl) (by kernel_rfl) (by kernel_rfl) (fun _ _ _ h => h) (by rfl) ?hy7 hHeld ?rest7
        case hy7 =>
          intro w hSw
          (try dsimp only at hSw)
          go_simp
          try with_reducible rfl
        simp only [Act.put, List.setIfInBounds_toArray, List.set_cons_zero, List.set_cons_succ]
        refine wpAnyH_yield (i := 8) (v := ?v8) rfl rfl (by kernel_rfl) (by kernel_rfl) (by kernel_rfl) (fun _ _ _ h => h) (by rfl) ?hy8 hHeld ?rest8
        case hy8 =>
          intro w hSw
          (try dsimp only at hSw)
          go_simp
          try with_reducible rfl
        simp only [Act.put, List.setIfInBounds_toArray, List.set_cons_zero, List.set_cons_succ]
        refine wpAnyH_yield (i := 9) (v := ?v9) rfl rfl (by kernel_rfl) (by kernel_rfl) (by kernel_rfl) (fun _ _ _ h => h) (by rfl) ?hy9 hHeld ?rest9
        case hy9 =>
          intro w hSw
          (try dsimp only at hSw)
          go_simp
          try with_reducible rfl
        simp only [Act.put, List.setIfInBounds_toArray, List.set_cons_zero, List.set_cons_succ]
        refine wpAnyH_ready (rs := [10]) (by kernel_rfl) (by simp) ?_
        refine AllReadyH.cons rfl (fun K hK => ?_) AllReadyH.nil
        go_simp
        have c1 := same_any (s0, s1, s2, s3) bs ls ccs xs ess (s0, s1, s2, s3) bt lt cct xt est wr.drew (HEs.out.below (Below.refl _ _).drew) (HEt.out.below (Below.refl _ _).drew)
        rw [HSm.out] at c1
        refine c1.mono ?_
        rintro e m5 ⟨rfl, hb5⟩
        have HB5 : Hid (Below wr.heap.size wr m5) := Lib.hid ((Below.refl _ _).drew.trans hb5)
        clear c1 hb5
        go_wp2_with fail
        refine hK.out _ _ (HKp.out _ HB5.out) (fun hHeld => ?_)
        clear hK K
        try simp only [Act.put, List.setIfInBounds_toArray, List.set_cons_zero, List.set_cons_succ]
        refine wpAnyH_yield (i := 11) (v := ?v11) rfl rfl (by kernel_rfl) (by kernel_rfl) (by kernel_rfl) (fun _ _ _ h => h) (by rfl) ?hy11 hHeld ?rest11
        case hy11 =>
          intro w hSw
          (try dsimp only at hSw)
          go_simp
          try with_reducible rfl
        simp only [Act.put, List.setIfInBounds_toArray, List.set_cons_zero, List.set_cons_succ]
        refine wpAnyH_done (by kernel_rfl) ?_ _
        clear hHeld
        replace HB6 := HB5
        clear HB5
        go_upto_region 14 with fail
        go_cut [14] from 70 to 140 (fun o wc => (∃ ow : Bool, o = .bool ow ∧ (SM = false → ow = true)) ∧ m5 = wc)
        case first =>
          by_cases how : 0 < z2.length ∧ z2.getD 0 0 = (k : Int) ∧ rf = 0
          · obtain ⟨ho1, ho2, ho3⟩ := how
            have hl2 : (0 : Int) < (len2 : Int) := by have := HWd.out.1; omega
            have hk0 : k < 9223372036854775807 := by omega
            obtain ⟨yw, rfl, hyw⟩ := HWd.out.2.2.2.2.resolve_left (by omega)
            have h0w := hyw 0 (by omega)
            rw [Addr.add_zero'] at h0w
            have hcw : m5.cell? yw = some (.int .u32 (z2.getD 0 0)) := ((HVx.out.1.trans ((HB.out.trans (HB6.out.mono HB.out.size)).mono HVx.out.1.size)).cell (lt_of_cell h0w)).trans h0w
            have hzw := wordL_getD HWd.out.2.2.2.1 0
            clear hyw h0w
            rw [ho2] at hcw hzw
            have hwI : IntKind.i64.wrap (k : Int) = (k : Int) := wI (k : Int) hzw.1 (by have := hzw.2; omega)
            have hkk : ((k : Int) == (k : Int)) = true := by simp
            have hf0 : (rf == 0) = true := by simpa using ho3
            clear ho1 ho2 ho3
            go_wp2_with fail
            go_meet
            exact ⟨⟨true, rfl, fun _ => rfl⟩, rfl⟩
          · have hSt : SM = true := by
              rcases SM with _ | _
              · exact absurd (HOw.out rfl) how
              · rfl
            subst hSt
            by_cases hl2 : (0 : Int) < (len2 : Int)
            · have hk0 : k < 9223372036854775807 := by omega
              obtain ⟨yw, rfl, hyw⟩ := HWd.out.2.2.2.2.resolve_left (by omega)
              have h0w := hyw 0 (by omega)
              rw [Addr.add_zero'] at h0w
              have hcw : m5.cell? yw = some (.int .u32 (z2.getD 0 0)) := ((HVx.out.1.trans ((HB.out.trans (HB6.out.mono HB.out.size)).mono HVx.out.1.size)).cell (lt_of_cell h0w)).trans h0w
              have hzw := wordL_getD HWd.out.2.2.2.1 0
              clear hyw h0w
              have hwI : IntKind.i64.wrap (z2.getD 0 0) = z2.getD 0 0 := wI _ hzw.1 (by have := hzw.2; omega)
              obtain ⟨zw, hzw2⟩ : ∃ zw, z2.getD 0 0 = zw := ⟨_, rfl⟩
              rw [hzw2] at hcw hwI hzw
              by_cases hzk : zw = (k : Int)
              · have hrf : (rf == 0) = false := by
                  have h : rf ≠ 0 := fun h => how ⟨by have := HWd.out.1; omega, by rw [hzw2]; exact hzk, h⟩
                  simpa using h
                have hzb : (zw == (k : Int)) = true := by simpa using hzk
                clear hzk how
                go_wp2_with fail
                go_meet
                exact ⟨⟨_, rfl, fun h => by cases h⟩, rfl⟩
              · have hzb : (zw == (k : Int)) = false := by simpa using hzk
                clear how
                go_wp2_with fail
                go_meet
                exact ⟨⟨_, rfl, fun h => by cases h⟩, rfl⟩
            · clear how
              go_wp2_with fail
              go_meet
              exact ⟨⟨_, rfl, fun h => by cases h⟩, rfl⟩
        case rest =>
          obtain ⟨⟨ow, rfl, how⟩, rfl⟩ := hcut
          rcases SM with _ | _
          · obtain rfl : ow = true := how rfl
            clear how
            go_wp2_with fail
            rcases M1 with _ | _
            · have HSmB := HSm
              refine wp_region_held_drew (S := (fun w' => w'.cell? ⟨X, 4, none⟩ = some (.slice (some yu) len1 pu) ∧ w'.cell? ⟨P, 4, none⟩ = some (.slice (some yt) len1 cap1) ∧ w'.cell? (yu.add (k * 6)) = some (.int .i64 s0) ∧ w'.cell? ⟨(yu.add (k * 6)).block, (yu.add (k * 6)).off + 1, none⟩ = some (.int .i64 s1) ∧ w'.cell? ⟨(yu.add (k * 6)).block, (yu.add (k * 6)).off + 2, none⟩ = some (.int .i64 s2) ∧ w'.cell? ⟨(yu.add (k * 6)).block, (yu.add (k * 6)).off + 3, none⟩ = some (.int .i64 s3) ∧ w'.cell? ⟨(yu.add (k * 6)).block, (yu.add (k * 6)).off + 4, none⟩ = some (.slice bs ls ccs) ∧ w'.cell? ⟨(yu.add (k * 6)).block, (yu.add (k * 6)).off + 5, none⟩ = some (.int .u32 xs) ∧ w'.cell? (yt.add (k * 6)) = some (.int .i64 s0) ∧ w'.cell? ⟨(yt.add (k * 6)).block, (yt.add (k * 6)).off + 1, none⟩ = some (.int .i64 s1) ∧ w'.cell? ⟨(yt.add (k * 6)).block, (yt.add (k * 6)).off + 2, none⟩ = some (.int .i64 s2) ∧ w'.cell? ⟨(yt.add (k * 6)).block, (yt.add (k * 6)).off + 3, none⟩ = some (.int .i64 s3) ∧ w'.cell? ⟨(yt.add (k * 6)).block, (yt.add (k * 6)).off + 4, none⟩ = some (.slice bt lt cct) ∧ w'.cell? ⟨(yt.add (k * 6)).block, (yt.add (k * 6)).off + 5, none⟩ = some (.int .u32 xt))) (by kernel_rfl) (HKp.out _ HB6.out.drew) (fun hHeld => ?_)
              refine wpAnyH_yield (i := 0) (v := ?vaf0) rfl rfl (by kernel_rfl) (by kernel_rfl) (by kernel_rfl) (fun _ _ _ h => h) (by rfl) ?hyaf0 hHeld ?restaf0
              case hyaf0 =>
                intro w hSw
                (try dsimp only at hSw)
                go_simp
                try with_reducible rfl
              simp only [Act.put, List.setIfInBounds_toArray, List.set_cons_zero, List.set_cons_succ]
              refine wpAnyH_yield (i := 1) (v := ?vaf1) rfl rfl (by kernel_rfl) (by kernel_rfl) (by kernel_rfl) (fun _ _ _ h => h) (by rfl) ?hyaf1 hHeld ?restaf1
              case hyaf1 =>
                intro w hSw
                (try dsimp only at hSw)
                go_simp
                try with_reducible rfl
              simp only [Act.put, List.setIfInBounds_toArray, List.set_cons_zero, List.set_cons_succ]
              refine wpAnyH_yield (i := 2) (v := ?vaf2) rfl rfl (by kernel_rfl) (by kernel_rfl) (by kernel_rfl) (fun _ _ _ h => h) (by rfl) ?hyaf2 hHeld ?restaf2
              case hyaf2 =>
                intro w hSw
                (try dsimp only at hSw)
                go_simp
                try with_reducible rfl
              simp only [Act.put, List.setIfInBounds_toArray, List.set_cons_zero, List.set_cons_succ]
              refine wpAnyH_yield (i := 3) (v := ?vaf3) rfl rfl (by kernel_rfl) (by kernel_rfl) (by kernel_rfl) (fun _ _ _ h => h) (by rfl) ?hyaf3 hHeld ?restaf3
              case hyaf3 =>
                intro w hSw
                (try dsimp only at hSw)
                go_simp
                try with_reducible rfl
              simp only [Act.put, List.setIfInBounds_toArray, List.set_cons_zero, List.set_cons_succ]
              refine wpAnyH_yield (i := 4) (v := ?vaf4) rfl rfl (by kernel_rfl) (by kernel_rfl) (by kernel_rfl) (fun _ _ _ h => h) (by rfl) ?hyaf4 hHeld ?restaf4
              case hyaf4 =>
                intro w hSw
                (try dsimp only at hSw)
                go_simp
                try with_reducible rfl
              simp only [Act.put, List.setIfInBounds_toArray, List.set_cons_zero, List.set_cons_succ]
              refine wpAnyH_yield (i := 5) (v := ?vaf5) rfl rfl (by kernel_rfl) (by kernel_rfl) (by kernel_rfl) (fun _ _ _ h => h) (by rfl) ?hyaf5 hHeld ?restaf5
              case hyaf5 =>
                intro w hSw
                (try dsimp only at hSw)
                go_simp
                try with_reducible rfl
              simp only [Act.put, List.setIfInBounds_toArray, List.set_cons_zero, List.set_cons_succ]
              refine wpAnyH_yield (i := 6) (v := ?vaf6) rfl rfl (by kernel_rfl) (by kernel_rfl) (by kernel_rfl) (fun _ _ _ h => h) (by rfl) ?hyaf6 hHeld ?restaf6
              case hyaf6 =>
                intro w hSw
                (try dsimp only at hSw)
                go_simp
                try with_reducible rfl
              simp only [Act.put, List.setIfInBounds_toArray, List.set_cons_zero, List.set_cons_succ]
              refine wpAnyH_yield (i := 7) (v := ?vaf7) rfl rfl (by kernel_rfl) (by kernel_rfl) (by kernel_rfl) (fun _ _ _ h => h) (by rfl) ?hyaf7 hHeld ?restaf7
              case hyaf7 =>
                intro w hSw
                (try dsimp only at hSw)
                go_simp
                try with_reducible rfl
              simp only [Act.put, List.setIfInBounds_toArray, List.set_cons_zero, List.set_cons_succ]
              refine wpAnyH_yield (i := 8) (v := ?vaf8) rfl rfl (by kernel_rfl) (by kernel_rfl) (by kernel_rfl) (fun _ _ _ h => h) (by rfl) ?hyaf8 hHeld ?restaf8
              case hyaf8 =>
                intro w hSw
                (try dsimp only at hSw)
                go_simp
                try with_reducible rfl
              simp only [Act.put, List.setIfInBounds_toArray, List.set_cons_zero, List.set_cons_succ]
              refine wpAnyH_yield (i := 9) (v := ?vaf9) rfl rfl (by kernel_rfl) (by kernel_rfl) (by kernel_rfl) (fun _ _ _ h => h) (by rfl) ?hyaf9 hHeld ?restaf9
              case hyaf9 =>
                intro w hSw
                (try dsimp only at hSw)
                go_simp
                try with_reducible rfl
              simp only [Act.put, List.setIfInBounds_toArray, List.set_cons_zero, List.set_cons_succ]
              refine wpAnyH_yield (i := 10) (v := ?vaf10) rfl rfl (by kernel_rfl) (by kernel_rfl) (by kernel_rfl) (fun _ _ _ h => h) (by rfl) ?hyaf10 hHeld ?restaf10
              case hyaf10 =>
                intro w hSw
                (try dsimp only at hSw)
                go_simp
                try with_reducible rfl
              simp only [Act.put, List.setIfInBounds_toArray, List.set_cons_zero, List.set_cons_succ]
              refine wpAnyH_yield (i := 11) (v := ?vaf11) rfl rfl (by kernel_rfl) (by kernel_rfl) (by kernel_rfl) (fun _ _ _ h => h) (by rfl) ?hyaf11 hHeld ?restaf11
              case hyaf11 =>
                intro w hSw
                (try dsimp only at hSw)
                go_simp
                try with_reducible rfl
              simp only [Act.put, List.setIfInBounds_toArray, List.set_cons_zero, List.set_cons_succ]
              refine wpAnyH_ready (rs := [12]) (by kernel_rfl) (by simp) ?_
              refine AllReadyH.cons rfl (fun K hK => ?_) AllReadyH.nil
              go_simp
              have caf := tmay_any (s0, s1, s2, s3) bt lt cct xt est m5.drew (HEt.out.below HB6.out.drew) HXt.out
              rw [HM1.out] at caf
              refine caf.mono ?_
              rintro e m7 ⟨rfl, hb7⟩
              have HB7 : Hid (Below wr.heap.size wr m7) := Lib.hid (HB6.out.drew.trans (hb7.mono HB6.out.size))
              clear caf hb7
              go_wp2_with fail
              refine hK.out _ _ (HKp.out _ HB7.out) (fun hHeld => ?_)
              clear hK K
              try simp only [Act.put, List.setIfInBounds_toArray, List.set_cons_zero, List.set_cons_succ]
              refine wpAnyH_yield (i := 13) (v := ?vaf13) rfl rfl (by kernel_rfl) (by kernel_rfl) (by kernel_rfl) (fun _ _ _ h => h) (by rfl) ?hyaf13 hHeld ?restaf13
              case hyaf13 =>
                intro w hSw
                (try dsimp only at hSw)
                go_simp
                try with_reducible rfl
              simp only [Act.put, List.setIfInBounds_toArray, List.set_cons_zero, List.set_cons_succ]
              refine wpAnyH_skip (i := 14) rfl rfl (by kernel_rfl) (by kernel_rfl) (by kernel_rfl) (fun _ _ _ h => h) (by rfl) hHeld ?_
              simp only [Act.put, List.setIfInBounds_toArray, List.set_cons_zero, List.set_cons_succ]
              refine wpAnyH_skip (i := 15) rfl rfl (by kernel_rfl) (by kernel_rfl) (by kernel_rfl) (fun _ _ _ h => h) (by rfl) hHeld ?_
              simp only [Act.put, List.setIfInBounds_toArray, List.set_cons_zero, List.set_cons_succ]
              refine wpAnyH_skip (i := 16) rfl rfl (by kernel_rfl) (by kernel_rfl) (by kernel_rfl) (fun _ _ _ h => h) (by rfl) hHeld ?_
              simp only [Act.put, List.setIfInBounds_toArray, List.set_cons_zero, List.set_cons_succ]
              refine wpAnyH_skip (i := 17) rfl rfl (by kernel_rfl) (by kernel_rfl) (by kernel_rfl) (fun _ _ _ h => h) (by rfl) hHeld ?_
              simp only [Act.put, List.setIfInBounds_toArray, List.set_cons_zero, List.set_cons_succ]
              refine wpAnyH_skip (i := 18) rfl rfl (by kernel_rfl) (by kernel_rfl) (by kernel_rfl) (fun _ _ _ h => h) (by rfl) hHeld ?_
              simp only [Act.put, List.setIfInBounds_toArray, List.set_cons_zero, List.set_cons_succ]
              refine wpAnyH_skip (i := 19) rfl rfl (by kernel_rfl) (by kernel_rfl) (by kernel_rfl) (fun _ _ _ h => h) (by rfl) hHeld ?_
              simp only [Act.put, List.setIfInBounds_toArray, List.set_cons_zero, List.set_cons_succ]
              refine wpAnyH_skip (i := 20) rfl rfl (by kernel_rfl) (by kernel_rfl) (by kernel_rfl) (fun _ _ _ h => h) (by rfl) hHeld ?_
              simp only [Act.put, List.setIfInBounds_toArray, List.set_cons_zero, List.set_cons_succ]
              have HB8 := HB7
              refine wpAnyH_yield (i := 21) (v := ?vaf21) rfl rfl (by kernel_rfl) (by kernel_rfl) (by kernel_rfl) (fun _ _ _ h => h) (by rfl) ?hyaf21 hHeld ?restaf21
              case hyaf21 =>
                intro w hSw
                (try dsimp only at hSw)
                go_simp
                try with_reducible rfl
              simp only [Act.put, List.setIfInBounds_toArray, List.set_cons_zero, List.set_cons_succ]
              refine wpAnyH_yield (i := 22) (v := ?vaf22) rfl rfl (by kernel_rfl) (by kernel_rfl) (by kernel_rfl) (fun _ _ _ h => h) (by rfl) ?hyaf22 hHeld ?restaf22
              case hyaf22 =>
                intro w hSw
                (try dsimp only at hSw)
                go_simp
                try with_reducible rfl
              simp only [Act.put, List.setIfInBounds_toArray, List.set_cons_zero, List.set_cons_succ]
              refine wpAnyH_yield (i := 23) (v := ?vaf23) rfl rfl (by kernel_rfl) (by kernel_rfl) (by kernel_rfl) (fun _ _ _ h => h) (by rfl) ?hyaf23 hHeld ?restaf23
              case hyaf23 =>
                intro w hSw
                (try dsimp only at hSw)
                go_simp
                try with_reducible rfl
              simp only [Act.put, List.setIfInBounds_toArray, List.set_cons_zero, List.set_cons_succ]
              refine wpAnyH_yield (i := 24) (v := ?vaf24) rfl rfl (by kernel_rfl) (by kernel_rfl) (by kernel_rfl) (fun _ _ _ h => h) (by rfl) ?hyaf24 hHeld ?restaf24
              case hyaf24 =>
                intro w hSw
                (try dsimp only at hSw)
                go_simp
                try with_reducible rfl
              simp only [Act.put, List.setIfInBounds_toArray, List.set_cons_zero, List.set_cons_succ]
              refine wpAnyH_yield (i := 25) (v := ?vaf25) rfl rfl (by kernel_rfl) (by kernel_rfl) (by kernel_rfl) (fun _ _ _ h => h) (by rfl) ?hyaf25 hHeld ?restaf25
              case hyaf25 =>
                intro w hSw
                (try dsimp only at hSw)
                go_simp
                try with_reducible rfl
              simp only [Act.put, List.setIfInBounds_toArray, List.set_cons_zero, List.set_cons_succ]
              refine wpAnyH_yield (i := 26) (v := ?vaf26) rfl rfl (by kernel_rfl) (by kernel_rfl) (by kernel_rfl) (fun _ _ _ h => h) (by rfl) ?hyaf26 hHeld ?restaf26
              case hyaf26 =>
                intro w hSw
                (try dsimp only at hSw)
                go_simp
                try with_reducible rfl
              simp only [Act.put, List.setIfInBounds_toArray, List.set_cons_zero, List.set_cons_succ]
              refine wpAnyH_yield (i := 27) (v := ?vaf27) rfl rfl (by kernel_rfl) (by kernel_rfl) (by kernel_rfl) (fun _ _ _ h => h) (by rfl) ?hyaf27 hHeld ?restaf27
              case hyaf27 =>
                intro w hSw
                (try dsimp only at hSw)
                go_simp
                try with_reducible rfl
              simp only [Act.put, List.setIfInBounds_toArray, List.set_cons_zero, List.set_cons_succ]
              refine wpAnyH_yield (i := 28) (v := ?vaf28) rfl rfl (by kernel_rfl) (by kernel_rfl) (by kernel_rfl) (fun _ _ _ h => h) (by rfl) ?hyaf28 hHeld ?restaf28
              case hyaf28 =>
                intro w hSw
                (try dsimp only at hSw)
                go_simp
                try with_reducible rfl
              simp only [Act.put, List.setIfInBounds_toArray, List.set_cons_zero, List.set_cons_succ]
              refine wpAnyH_yield (i := 29) (v := ?vaf29) rfl rfl (by kernel_rfl) (by kernel_rfl) (by kernel_rfl) (fun _ _ _ h => h) (by rfl) ?hyaf29 hHeld ?restaf29
              case hyaf29 =>
                intro w hSw
                (try dsimp only at hSw)
                go_simp
                try with_reducible rfl
              simp only [Act.put, List.setIfInBounds_toArray, List.set_cons_zero, List.set_cons_succ]
              refine wpAnyH_yield (i := 30) (v := ?vaf30) rfl rfl (by kernel_rfl) (by kernel_rfl) (by kernel_rfl) (fun _ _ _ h => h) (by rfl) ?hyaf30 hHeld ?restaf30
              case hyaf30 =>
                intro w hSw
                (try dsimp only at hSw)
                go_simp
                try with_reducible rfl
              simp only [Act.put, List.setIfInBounds_toArray, List.set_cons_zero, List.set_cons_succ]
              refine wpAnyH_yield (i := 31) (v := ?vaf31) rfl rfl (by kernel_rfl) (by kernel_rfl) (by kernel_rfl) (fun _ _ _ h => h) (by rfl) ?hyaf31 hHeld ?restaf31
              case hyaf31 =>
                intro w hSw
                (try dsimp only at hSw)
                go_simp
                try with_reducible rfl
              simp only [Act.put, List.setIfInBounds_toArray, List.set_cons_zero, List.set_cons_succ]
              refine wpAnyH_yield (i := 32) (v := ?vaf32) rfl rfl (by kernel_rfl) (by kernel_rfl) (by kernel_rfl) (fun _ _ _ h => h) (by rfl) ?hyaf32 hHeld ?restaf32
              case hyaf32 =>
                intro w hSw
                (try dsimp only at hSw)
                go_simp
                try with_reducible rfl
              simp only [Act.put, List.setIfInBounds_toArray, List.set_cons_zero, List.set_cons_succ]
              refine wpAnyH_yield (i := 33) (v := ?vaf33) rfl rfl (by kernel_rfl) (by kernel_rfl) (by kernel_rfl) (fun _ _ _ h => h) (by rfl) ?hyaf33 hHeld ?restaf33
              case hyaf33 =>
                intro w hSw
                (try dsimp only at hSw)
                go_simp
                try with_reducible rfl
              simp only [Act.put, List.setIfInBounds_toArray, List.set_cons_zero, List.set_cons_succ]
              refine wpAnyH_yield (i := 34) (v := ?vaf34) rfl rfl (by kernel_rfl) (by kernel_rfl) (by kernel_rfl) (fun _ _ _ h => h) (by rfl) ?hyaf34 hHeld ?restaf34
              case hyaf34 =>
                intro w hSw
                (try dsimp only at hSw)
                go_simp
                try with_reducible rfl
              simp only [Act.put, List.setIfInBounds_toArray, List.set_cons_zero, List.set_cons_succ]
              refine wpAnyH_yield (i := 35) (v := ?vaf35) rfl rfl (by kernel_rfl) (by kernel_rfl) (by kernel_rfl) (fun _ _ _ h => h) (by rfl) ?hyaf35 hHeld ?restaf35
              case hyaf35 =>
                intro w hSw
                (try dsimp only at hSw)
                go_simp
                try with_reducible rfl
              simp only [Act.put, List.setIfInBounds_toArray, List.set_cons_zero, List.set_cons_succ]
              refine wpAnyH_yield (i := 36) (v := ?vaf36) rfl rfl (by kernel_rfl) (by kernel_rfl) (by kernel_rfl) (fun _ _ _ h => h) (by rfl) ?hyaf36 hHeld ?restaf36
              case hyaf36 =>
                intro w hSw
                (try dsimp only at hSw)
                go_simp
                try with_reducible rfl
              simp only [Act.put, List.setIfInBounds_toArray, List.set_cons_zero, List.set_cons_succ]
              refine wpAnyH_yield (i := 37) (v := ?vaf37) rfl rfl (by kernel_rfl) (by kernel_rfl) (by kernel_rfl) (fun _ _ _ h => h) (by rfl) ?hyaf37 hHeld ?restaf37
              case hyaf37 =>
                intro w hSw
                (try dsimp only at hSw)
                go_simp
                try with_reducible rfl
              simp only [Act.put, List.setIfInBounds_toArray, List.set_cons_zero, List.set_cons_succ]
              refine wpAnyH_done (by kernel_rfl) ?_ _
              clear hHeld
              go_wp2_with fail
              exact ⟨⟨k + 1, by omega, by go_num, Lib.hid (HB.out.trans (HB8.out.mono HB.out.size))⟩, by simp [intOf]; omega⟩
            · replace HM2 : Hid (mayTb ((s0, s1, s2, s3), ess, xs) = true) := Lib.hid (HM2.out rfl)
              have HSmB := HSm
              refine wp_region_held_drew (S := (fun w' => w'.cell? ⟨X, 4, none⟩ = some (.slice (some yu) len1 pu) ∧ w'.cell? ⟨P, 4, none⟩ = some (.slice (some yt) len1 cap1) ∧ w'.cell? (yu.add (k * 6)) = some (.int .i64 s0) ∧ w'.cell? ⟨(yu.add (k * 6)).block, (yu.add (k * 6)).off + 1, none⟩ = some (.int .i64 s1) ∧ w'.cell? ⟨(yu.add (k * 6)).block, (yu.add (k * 6)).off + 2, none⟩ = some (.int .i64 s2) ∧ w'.cell? ⟨(yu.add (k * 6)).block, (yu.add (k * 6)).off + 3, none⟩ = some (.int .i64 s3) ∧ w'.cell? ⟨(yu.add (k * 6)).block, (yu.add (k * 6)).off + 4, none⟩ = some (.slice bs ls ccs) ∧ w'.cell? ⟨(yu.add (k * 6)).block, (yu.add (k * 6)).off + 5, none⟩ = some (.int .u32 xs) ∧ w'.cell? (yt.add (k * 6)) = some (.int .i64 s0) ∧ w'.cell? ⟨(yt.add (k * 6)).block, (yt.add (k * 6)).off + 1, none⟩ = some (.int .i64 s1) ∧ w'.cell? ⟨(yt.add (k * 6)).block, (yt.add (k * 6)).off + 2, none⟩ = some (.int .i64 s2) ∧ w'.cell? ⟨(yt.add (k * 6)).block, (yt.add (k * 6)).off + 3, none⟩ = some (.int .i64 s3) ∧ w'.cell? ⟨(yt.add (k * 6)).block, (yt.add (k * 6)).off + 4, none⟩ = some (.slice bt lt cct) ∧ w'.cell? ⟨(yt.add (k * 6)).block, (yt.add (k * 6)).off + 5, none⟩ = some (.int .u32 xt))) (by kernel_rfl) (HKp.out _ HB6.out.drew) (fun hHeld => ?_)
              refine wpAnyH_yield (i := 0) (v := ?vat0) rfl rfl (by kernel_rfl) (by kernel_rfl) (by kernel_rfl) (fun _ _ _ h => h) (by rfl) ?hyat0 hHeld ?restat0
              case hyat0 =>
                intro w hSw
                (try dsimp only at hSw)
                go_simp
                try with_reducible rfl
              simp only [Act.put, List.setIfInBounds_toArray, List.set_cons_zero, List.set_cons_succ]
              refine wpAnyH_yield (i := 1) (v := ?vat1) rfl rfl (by kernel_rfl) (by kernel_rfl) (by kernel_rfl) (fun _ _ _ h => h) (by rfl) ?hyat1 hHeld ?restat1
              case hyat1 =>
                intro w hSw
                (try dsimp only at hSw)
                go_simp
                try with_reducible rfl
              simp only [Act.put, List.setIfInBounds_toArray, List.set_cons_zero, List.set_cons_succ]
              refine wpAnyH_yield (i := 2) (v := ?vat2) rfl rfl (by kernel_rfl) (by kernel_rfl) (by kernel_rfl) (fun _ _ _ h => h) (by rfl) ?hyat2 hHeld ?restat2
              case hyat2 =>
                intro w hSw
                (try dsimp only at hSw)
                go_simp
                try with_reducible rfl
              simp only [Act.put, List.setIfInBounds_toArray, List.set_cons_zero, List.set_cons_succ]
              refine wpAnyH_yield (i := 3) (v := ?vat3) rfl rfl (by kernel_rfl) (by kernel_rfl) (by kernel_rfl) (fun _ _ _ h => h) (by rfl) ?hyat3 hHeld ?restat3
              case hyat3 =>
                intro w hSw
                (try dsimp only at hSw)
                go_simp
                try with_reducible rfl
              simp only [Act.put, List.setIfInBounds_toArray, List.set_cons_zero, List.set_cons_succ]
              refine wpAnyH_yield (i := 4) (v := ?vat4) rfl rfl (by kernel_rfl) (by kernel_rfl) (by kernel_rfl) (fun _ _ _ h => h) (by rfl) ?hyat4 hHeld ?restat4
              case hyat4 =>
                intro w hSw
                (try dsimp only at hSw)
                go_simp
                try with_reducible rfl
              simp only [Act.put, List.setIfInBounds_toArray, List.set_cons_zero, List.set_cons_succ]
              refine wpAnyH_yield (i := 5) (v := ?vat5) rfl rfl (by kernel_rfl) (by kernel_rfl) (by kernel_rfl) (fun _ _ _ h => h) (by rfl) ?hyat5 hHeld ?restat5
              case hyat5 =>
                intro w hSw
                (try dsimp only at hSw)
                go_simp
                try with_reducible rfl
              simp only [Act.put, List.setIfInBounds_toArray, List.set_cons_zero, List.set_cons_succ]
              refine wpAnyH_yield (i := 6) (v := ?vat6) rfl rfl (by kernel_rfl) (by kernel_rfl) (by kernel_rfl) (fun _ _ _ h => h) (by rfl) ?hyat6 hHeld ?restat6
              case hyat6 =>
                intro w hSw
                (try dsimp only at hSw)
                go_simp
                try with_reducible rfl
              simp only [Act.put, List.setIfInBounds_toArray, List.set_cons_zero, List.set_cons_succ]
              refine wpAnyH_yield (i := 7) (v := ?vat7) rfl rfl (by kernel_rfl) (by kernel_rfl) (by kernel_rfl) (fun _ _ _ h => h) (by rfl) ?hyat7 hHeld ?restat7
              case hyat7 =>
                intro w hSw
                (try dsimp only at hSw)
                go_simp
                try with_reducible rfl
              simp only [Act.put, List.setIfInBounds_toArray, List.set_cons_zero, List.set_cons_succ]
              refine wpAnyH_yield (i := 8) (v := ?vat8) rfl rfl (by kernel_rfl) (by kernel_rfl) (by kernel_rfl) (fun _ _ _ h => h) (by rfl) ?hyat8 hHeld ?restat8
              case hyat8 =>
                intro w hSw
                (try dsimp only at hSw)
                go_simp
                try with_reducible rfl
              simp only [Act.put, List.setIfInBounds_toArray, List.set_cons_zero, List.set_cons_succ]
              refine wpAnyH_yield (i := 9) (v := ?vat9) rfl rfl (by kernel_rfl) (by kernel_rfl) (by kernel_rfl) (fun _ _ _ h => h) (by rfl) ?hyat9 hHeld ?restat9
              case hyat9 =>
                intro w hSw
                (try dsimp only at hSw)
                go_simp
                try with_reducible rfl
              simp only [Act.put, List.setIfInBounds_toArray, List.set_cons_zero, List.set_cons_succ]
              refine wpAnyH_yield (i := 10) (v := ?vat10) rfl rfl (by kernel_rfl) (by kernel_rfl) (by kernel_rfl) (fun _ _ _ h => h) (by rfl) ?hyat10 hHeld ?restat10
              case hyat10 =>
                intro w hSw
                (try dsimp only at hSw)
                go_simp
                try with_reducible rfl
              simp only [Act.put, List.setIfInBounds_toArray, List.set_cons_zero, List.set_cons_succ]
              refine wpAnyH_yield (i := 11) (v := ?vat11) rfl rfl (by kernel_rfl) (by kernel_rfl) (by kernel_rfl) (fun _ _ _ h => h) (by rfl) ?hyat11 hHeld ?restat11
              case hyat11 =>
                intro w hSw
                (try dsimp only at hSw)
                go_simp
                try with_reducible rfl
              simp only [Act.put, List.setIfInBounds_toArray, List.set_cons_zero, List.set_cons_succ]
              refine wpAnyH_ready (rs := [12]) (by kernel_rfl) (by simp) ?_
              refine AllReadyH.cons rfl (fun K hK => ?_) AllReadyH.nil
              go_simp
              have cat := tmay_any (s0, s1, s2, s3) bt lt cct xt est m5.drew (HEt.out.below HB6.out.drew) HXt.out
              rw [HM1.out] at cat
              refine cat.mono ?_
              rintro e m7 ⟨rfl, hb7⟩
              have HB7 : Hid (Below wr.heap.size wr m7) := Lib.hid (HB6.out.drew.trans (hb7.mono HB6.out.size))
              clear cat hb7
              go_wp2_with fail
              refine hK.out _ _ (HKp.out _ HB7.out) (fun hHeld => ?_)
              clear hK K
              try simp only [Act.put, List.setIfInBounds_toArray, List.set_cons_zero, List.set_cons_succ]
              refine wpAnyH_yield (i := 13) (v := ?vat13) rfl rfl (by kernel_rfl) (by kernel_rfl) (by kernel_rfl) (fun _ _ _ h => h) (by rfl) ?hyat13 hHeld ?restat13
              case hyat13 =>
                intro w hSw
                (try dsimp only at hSw)
                go_simp
                try with_reducible rfl
              simp only [Act.put, List.setIfInBounds_toArray, List.set_cons_zero, List.set_cons_succ]
              refine wpAnyH_yield (i := 14) (v := ?vat14) rfl rfl (by kernel_rfl) (by kernel_rfl) (by kernel_rfl) (fun _ _ _ h => h) (by rfl) ?hyat14 hHeld ?restat14
              case hyat14 =>
                intro w hSw
                (try dsimp only at hSw)
                go_simp
                try with_reducible rfl
              simp only [Act.put, List.setIfInBounds_toArray, List.set_cons_zero, List.set_cons_succ]
              refine wpAnyH_yield (i := 15) (v := ?vat15) rfl rfl (by kernel_rfl) (by kernel_rfl) (by kernel_rfl) (fun _ _ _ h => h) (by rfl) ?hyat15 hHeld ?restat15
              case hyat15 =>
                intro w hSw
                (try dsimp only at hSw)
                go_simp
                try with_reducible rfl
              simp only [Act.put, List.setIfInBounds_toArray, List.set_cons_zero, List.set_cons_succ]
              refine wpAnyH_yield (i := 16) (v := ?vat16) rfl rfl (by kernel_rfl) (by kernel_rfl) (by kernel_rfl) (fun _ _ _ h => h) (by rfl) ?hyat16 hHeld ?restat16
              case hyat16 =>
                intro w hSw
                (try dsimp only at hSw)
                go_simp
                try with_reducible rfl
              simp only [Act.put, List.setIfInBounds_toArray, List.set_cons_zero, List.set_cons_succ]
              refine wpAnyH_yield (i := 17) (v := ?vat17) rfl rfl (by kernel_rfl) (by kernel_rfl) (by kernel_rfl) (fun _ _ _ h => h) (by rfl) ?hyat17 hHeld ?restat17
              case hyat17 =>
                intro w hSw
                (try dsimp only at hSw)
                go_simp
                try with_reducible rfl
              simp only [Act.put, List.setIfInBounds_toArray, List.set_cons_zero, List.set_cons_succ]
              refine wpAnyH_yield (i := 18) (v := ?vat18) rfl rfl (by kernel_rfl) (by kernel_rfl) (by kernel_rfl) (fun _ _ _ h => h) (by rfl) ?hyat18 hHeld ?restat18
              case hyat18 =>
                intro w hSw
                (try dsimp only at hSw)
                go_simp
                try with_reducible rfl
              simp only [Act.put, List.setIfInBounds_toArray, List.set_cons_zero, List.set_cons_succ]
              refine wpAnyH_ready (rs := [19]) (by kernel_rfl) (by simp) ?_
              refine AllReadyH.cons rfl (fun K hK => ?_) AllReadyH.nil
              go_simp
              have cat := tmay_any (s0, s1, s2, s3) bs ls ccs xs ess m7 (HEs.out.below HB7.out) HXs.out
              rw [HM2.out] at cat
              refine cat.mono ?_
              rintro e m8 ⟨rfl, hb8⟩
              have HB8 : Hid (Below wr.heap.size wr m8) := Lib.hid (HB7.out.trans (hb8.mono HB7.out.size))
              clear cat hb8
              go_wp2_with fail
              refine hK.out _ _ (HKp.out _ HB8.out) (fun hHeld => ?_)
              clear hK K
              try simp only [Act.put, List.setIfInBounds_toArray, List.set_cons_zero, List.set_cons_succ]
              refine wpAnyH_yield (i := 20) (v := ?vat20) rfl rfl (by kernel_rfl) (by kernel_rfl) (by kernel_rfl) (fun _ _ _ h => h) (by rfl) ?hyat20 hHeld ?restat20
              case hyat20 =>
                intro w hSw
                (try dsimp only at hSw)
                go_simp
                try with_reducible rfl
              simp only [Act.put, List.setIfInBounds_toArray, List.set_cons_zero, List.set_cons_succ]
              refine wpAnyH_yield (i := 21) (v := ?vat21) rfl rfl (by kernel_rfl) (by kernel_rfl) (by kernel_rfl) (fun _ _ _ h => h) (by rfl) ?hyat21 hHeld ?restat21
              case hyat21 =>
                intro w hSw
                (try dsimp only at hSw)
                go_simp
                try with_reducible rfl
              simp only [Act.put, List.setIfInBounds_toArray, List.set_cons_zero, List.set_cons_succ]
              refine wpAnyH_yield (i := 22) (v := ?vat22) rfl rfl (by kernel_rfl) (by kernel_rfl) (by kernel_rfl) (fun _ _ _ h => h) (by rfl) ?hyat22 hHeld ?restat22
              case hyat22 =>
                intro w hSw
                (try dsimp only at hSw)
                go_simp
                try with_reducible rfl
              simp only [Act.put, List.setIfInBounds_toArray, List.set_cons_zero, List.set_cons_succ]
              refine wpAnyH_yield (i := 23) (v := ?vat23) rfl rfl (by kernel_rfl) (by kernel_rfl) (by kernel_rfl) (fun _ _ _ h => h) (by rfl) ?hyat23 hHeld ?restat23
              case hyat23 =>
                intro w hSw
                (try dsimp only at hSw)
                go_simp
                try with_reducible rfl
              simp only [Act.put, List.setIfInBounds_toArray, List.set_cons_zero, List.set_cons_succ]
              refine wpAnyH_yield (i := 24) (v := ?vat24) rfl rfl (by kernel_rfl) (by kernel_rfl) (by kernel_rfl) (fun _ _ _ h => h) (by rfl) ?hyat24 hHeld ?restat24
              case hyat24 =>
                intro w hSw
                (try dsimp only at hSw)
                go_simp
                try with_reducible rfl
              simp only [Act.put, List.setIfInBounds_toArray, List.set_cons_zero, List.set_cons_succ]
              refine wpAnyH_yield (i := 25) (v := ?vat25) rfl rfl (by kernel_rfl) (by kernel_rfl) (by kernel_rfl) (fun _ _ _ h => h) (by rfl) ?hyat25 hHeld ?restat25
              case hyat25 =>
                intro w hSw
                (try dsimp only at hSw)
                go_simp
                try with_reducible rfl
              simp only [Act.put, List.setIfInBounds_toArray, List.set_cons_zero, List.set_cons_succ]
              refine wpAnyH_yield (i := 26) (v := ?vat26) rfl rfl (by kernel_rfl) (by kernel_rfl) (by kernel_rfl) (fun _ _ _ h => h) (by rfl) ?hyat26 hHeld ?restat26
              case hyat26 =>
                intro w hSw
                (try dsimp only at hSw)
                go_simp
                try with_reducible rfl
              simp only [Act.put, List.setIfInBounds_toArray, List.set_cons_zero, List.set_cons_succ]
              refine wpAnyH_yield (i := 27) (v := ?vat27) rfl rfl (by kernel_rfl) (by kernel_rfl) (by kernel_rfl) (fun _ _ _ h => h) (by rfl) ?hyat27 hHeld ?restat27
              case hyat27 =>
                intro w hSw
                (try dsimp only at hSw)
                go_simp
                try with_reducible rfl
              simp only [Act.put, List.setIfInBounds_toArray, List.set_cons_zero, List.set_cons_succ]
              refine wpAnyH_yield (i := 28) (v := ?vat28) rfl rfl (by kernel_rfl) (by kernel_rfl) (by kernel_rfl) (fun _ _ _ h => h) (by rfl) ?hyat28 hHeld ?restat28
              case hyat28 =>
                intro w hSw
                (try dsimp only at hSw)
                go_simp
                try with_reducible rfl
              simp only [Act.put, List.setIfInBounds_toArray, List.set_cons_zero, List.set_cons_succ]
              refine wpAnyH_yield (i := 29) (v := ?vat29) rfl rfl (by kernel_rfl) (by kernel_rfl) (by kernel_rfl) (fun _ _ _ h => h) (by rfl) ?hyat29 hHeld ?restat29
              case hyat29 =>
                intro w hSw
                (try dsimp only at hSw)
                go_simp
                try with_reducible rfl
              simp only [Act.put, List.setIfInBounds_toArray, List.set_cons_zero, List.set_cons_succ]
              refine wpAnyH_yield (i := 30) (v := ?vat30) rfl rfl (by kernel_rfl) (by kernel_rfl) (by kernel_rfl) (fun _ _ _ h => h) (by rfl) ?hyat30 hHeld ?restat30
              case hyat30 =>
                intro w hSw
                (try dsimp only at hSw)
                go_simp
                try with_reducible rfl
              simp only [Act.put, List.setIfInBounds_toArray, List.set_cons_zero, List.set_cons_succ]
              refine wpAnyH_yield (i := 31) (v := ?vat31) rfl rfl (by kernel_rfl) (by kernel_rfl) (by kernel_rfl) (fun _ _ _ h => h) (by rfl) ?hyat31 hHeld ?restat31
              case hyat31 =>
                intro w hSw
                (try dsimp only at hSw)
                go_simp
                try with_reducible rfl
              simp only [Act.put, List.setIfInBounds_toArray, List.set_cons_zero, List.set_cons_succ]
              refine wpAnyH_yield (i := 32) (v := ?vat32) rfl rfl (by kernel_rfl) (by kernel_rfl) (by kernel_rfl) (fun _ _ _ h => h) (by rfl) ?hyat32 hHeld ?restat32
              case hyat32 =>
                intro w hSw
                (try dsimp only at hSw)
                go_simp
                try with_reducible rfl
              simp only [Act.put, List.setIfInBounds_toArray, List.set_cons_zero, List.set_cons_succ]
              refine wpAnyH_yield (i := 33) (v := ?vat33) rfl rfl (by kernel_rfl) (by kernel_rfl) (by kernel_rfl) (fun _ _ _ h => h) (by rfl) ?hyat33 hHeld ?restat33
              case hyat33 =>
                intro w hSw
                (try dsimp only at hSw)
                go_simp
                try with_reducible rfl
              simp only [Act.put, List.setIfInBounds_toArray, List.set_cons_zero, List.set_cons_succ]
              refine wpAnyH_yield (i := 34) (v := ?vat34) rfl rfl (by kernel_rfl) (by kernel_rfl) (by kernel_rfl) (fun _ _ _ h => h) (by rfl) ?hyat34 hHeld ?restat34
              case hyat34 =>
                intro w hSw
                (try dsimp only at hSw)
                go_simp
                try with_reducible rfl
              simp only [Act.put, List.setIfInBounds_toArray, List.set_cons_zero, List.set_cons_succ]
              refine wpAnyH_yield (i := 35) (v := ?vat35) rfl rfl (by kernel_rfl) (by kernel_rfl) (by kernel_rfl) (fun _ _ _ h => h) (by rfl) ?hyat35 hHeld ?restat35
              case hyat35 =>
                intro w hSw
                (try dsimp only at hSw)
                go_simp
                try with_reducible rfl
              simp only [Act.put, List.setIfInBounds_toArray, List.set_cons_zero, List.set_cons_succ]
              refine wpAnyH_yield (i := 36) (v := ?vat36) rfl rfl (by kernel_rfl) (by kernel_rfl) (by kernel_rfl) (fun _ _ _ h => h) (by rfl) ?hyat36 hHeld ?restat36
              case hyat36 =>
                intro w hSw
                (try dsimp only at hSw)
                go_simp
                try with_reducible rfl
              simp only [Act.put, List.setIfInBounds_toArray, List.set_cons_zero, List.set_cons_succ]
              refine wpAnyH_yield (i := 37) (v := ?vat37) rfl rfl (by kernel_rfl) (by kernel_rfl) (by kernel_rfl) (fun _ _ _ h => h) (by rfl) ?hyat37 hHeld ?restat37
              case hyat37 =>
                intro w hSw
                (try dsimp only at hSw)
                go_simp
                try with_reducible rfl
              simp only [Act.put, List.setIfInBounds_toArray, List.set_cons_zero, List.set_cons_succ]
              refine wpAnyH_done (by kernel_rfl) ?_ _
              clear hHeld
              go_wp2_with fail
              exact ⟨⟨k + 1, by omega, by go_num, Lib.hid (HB.out.trans (HB8.out.mono HB.out.size))⟩, by simp [intOf]; omega⟩
          · clear how
            go_wp2_with fail
            rcases M1 with _ | _
            · have HSmB := HSm
              refine wp_region_held_drew (S := (fun w' => w'.cell? ⟨X, 4, none⟩ = some (.slice (some yu) len1 pu) ∧ w'.cell? ⟨P, 4, none⟩ = some (.slice (some yt) len1 cap1) ∧ w'.cell? (yu.add (k * 6)) = some (.int .i64 s0) ∧ w'.cell? ⟨(yu.add (k * 6)).block, (yu.add (k * 6)).off + 1, none⟩ = some (.int .i64 s1) ∧ w'.cell? ⟨(yu.add (k * 6)).block, (yu.add (k * 6)).off + 2, none⟩ = some (.int .i64 s2) ∧ w'.cell? ⟨(yu.add (k * 6)).block, (yu.add (k * 6)).off + 3, none⟩ = some (.int .i64 s3) ∧ w'.cell? ⟨(yu.add (k * 6)).block, (yu.add (k * 6)).off + 4, none⟩ = some (.slice bs ls ccs) ∧ w'.cell? ⟨(yu.add (k * 6)).block, (yu.add (k * 6)).off + 5, none⟩ = some (.int .u32 xs) ∧ w'.cell? (yt.add (k * 6)) = some (.int .i64 s0) ∧ w'.cell? ⟨(yt.add (k * 6)).block, (yt.add (k * 6)).off + 1, none⟩ = some (.int .i64 s1) ∧ w'.cell? ⟨(yt.add (k * 6)).block, (yt.add (k * 6)).off + 2, none⟩ = some (.int .i64 s2) ∧ w'.cell? ⟨(yt.add (k * 6)).block, (yt.add (k * 6)).off + 3, none⟩ = some (.int .i64 s3) ∧ w'.cell? ⟨(yt.add (k * 6)).block, (yt.add (k * 6)).off + 4, none⟩ = some (.slice bt lt cct) ∧ w'.cell? ⟨(yt.add (k * 6)).block, (yt.add (k * 6)).off + 5, none⟩ = some (.int .u32 xt))) (by kernel_rfl) (HKp.out _ HB6.out.drew) (fun hHeld => ?_)
              refine wpAnyH_yield (i := 0) (v := ?vbf0) rfl rfl (by kernel_rfl) (by kernel_rfl) (by kernel_rfl) (fun _ _ _ h => h) (by rfl) ?hybf0 hHeld ?restbf0
              case hybf0 =>
                intro w hSw
                (try dsimp only at hSw)
                go_simp
                try with_reducible rfl
              simp only [Act.put, List.setIfInBounds_toArray, List.set_cons_zero, List.set_cons_succ]
              refine wpAnyH_yield (i := 1) (v := ?vbf1) rfl rfl (by kernel_rfl) (by kernel_rfl) (by kernel_rfl) (fun _ _ _ h => h) (by rfl) ?hybf1 hHeld ?restbf1
              case hybf1 =>
                intro w hSw
                (try dsimp only at hSw)
                go_simp
                try with_reducible rfl
              simp only [Act.put, List.setIfInBounds_toArray, List.set_cons_zero, List.set_cons_succ]
              refine wpAnyH_yield (i := 2) (v := ?vbf2) rfl rfl (by kernel_rfl) (by kernel_rfl) (by kernel_rfl) (fun _ _ _ h => h) (by rfl) ?hybf2 hHeld ?restbf2
              case hybf2 =>
                intro w hSw
                (try dsimp only at hSw)
                go_simp
                try with_reducible rfl
              simp only [Act.put, List.setIfInBounds_toArray, List.set_cons_zero, List.set_cons_succ]
              refine wpAnyH_skip (i := 3) rfl rfl (by kernel_rfl) (by kernel_rfl) (by kernel_rfl) (fun _ _ _ h => h) (by rfl) hHeld ?_
              simp only [Act.put, List.setIfInBounds_toArray, List.set_cons_zero, List.set_cons_succ]
              refine wpAnyH_skip (i := 4) rfl rfl (by kernel_rfl) (by kernel_rfl) (by kernel_rfl) (fun _ _ _ h => h) (by rfl) hHeld ?_
              simp only [Act.put, List.setIfInBounds_toArray, List.set_cons_zero, List.set_cons_succ]
              refine wpAnyH_yield (i := 5) (v := ?vbf5) rfl rfl (by kernel_rfl) (by kernel_rfl) (by kernel_rfl) (fun _ _ _ h => h) (by rfl) ?hybf5 hHeld ?restbf5
              case hybf5 =>
                intro w hSw
                (try dsimp only at hSw)
                go_simp
                try with_reducible rfl
              simp only [Act.put, List.setIfInBounds_toArray, List.set_cons_zero, List.set_cons_succ]
              refine wpAnyH_yield (i := 6) (v := ?vbf6) rfl rfl (by kernel_rfl) (by kernel_rfl) (by kernel_rfl) (fun _ _ _ h => h) (by rfl) ?hybf6 hHeld ?restbf6
              case hybf6 =>
                intro w hSw
                (try dsimp only at hSw)
                go_simp
                try with_reducible rfl
              simp only [Act.put, List.setIfInBounds_toArray, List.set_cons_zero, List.set_cons_succ]
              refine wpAnyH_yield (i := 7) (v := ?vbf7) rfl rfl (by kernel_rfl) (by kernel_rfl) (by kernel_rfl) (fun _ _ _ h => h) (by rfl) ?hybf7 hHeld ?restbf7
              case hybf7 =>
                intro w hSw
                (try dsimp only at hSw)
                go_simp
                try with_reducible rfl
              simp only [Act.put, List.setIfInBounds_toArray, List.set_cons_zero, List.set_cons_succ]
              refine wpAnyH_yield (i := 8) (v := ?vbf8) rfl rfl (by kernel_rfl) (by kernel_rfl) (by kernel_rfl) (fun _ _ _ h => h) (by rfl) ?hybf8 hHeld ?restbf8
              case hybf8 =>
                intro w hSw
                (try dsimp only at hSw)
                go_simp
                try with_reducible rfl
              simp only [Act.put, List.setIfInBounds_toArray, List.set_cons_zero, List.set_cons_succ]
              refine wpAnyH_yield (i := 9) (v := ?vbf9) rfl rfl (by kernel_rfl) (by kernel_rfl) (by kernel_rfl) (fun _ _ _ h => h) (by rfl) ?hybf9 hHeld ?restbf9
              case hybf9 =>
                intro w hSw
                (try dsimp only at hSw)
                go_simp
                try with_reducible rfl
              simp only [Act.put, List.setIfInBounds_toArray, List.set_cons_zero, List.set_cons_succ]
              refine wpAnyH_yield (i := 10) (v := ?vbf10) rfl rfl (by kernel_rfl) (by kernel_rfl) (by kernel_rfl) (fun _ _ _ h => h) (by rfl) ?hybf10 hHeld ?restbf10
              case hybf10 =>
                intro w hSw
                (try dsimp only at hSw)
                go_simp
                try with_reducible rfl
              simp only [Act.put, List.setIfInBounds_toArray, List.set_cons_zero, List.set_cons_succ]
              refine wpAnyH_yield (i := 11) (v := ?vbf11) rfl rfl (by kernel_rfl) (by kernel_rfl) (by kernel_rfl) (fun _ _ _ h => h) (by rfl) ?hybf11 hHeld ?restbf11
              case hybf11 =>
                intro w hSw
                (try dsimp only at hSw)
                go_simp
                try with_reducible rfl
              simp only [Act.put, List.setIfInBounds_toArray, List.set_cons_zero, List.set_cons_succ]
              refine wpAnyH_ready (rs := [12]) (by kernel_rfl) (by simp) ?_
              refine AllReadyH.cons rfl (fun K hK => ?_) AllReadyH.nil
              go_simp
              have cbf := tmay_any (s0, s1, s2, s3) bt lt cct xt est m5.drew (HEt.out.below HB6.out.drew) HXt.out
              rw [HM1.out] at cbf
              refine cbf.mono ?_
              rintro e m7 ⟨rfl, hb7⟩
              have HB7 : Hid (Below wr.heap.size wr m7) := Lib.hid (HB6.out.drew.trans (hb7.mono HB6.out.size))
              clear cbf hb7
              go_wp2_with fail
              refine hK.out _ _ (HKp.out _ HB7.out) (fun hHeld => ?_)
              clear hK K
              try simp only [Act.put, List.setIfInBounds_toArray, List.set_cons_zero, List.set_cons_succ]
              refine wpAnyH_yield (i := 13) (v := ?vbf13) rfl rfl (by kernel_rfl) (by kernel_rfl) (by kernel_rfl) (fun _ _ _ h => h) (by rfl) ?hybf13 hHeld ?restbf13
              case hybf13 =>
                intro w hSw
                (try dsimp only at hSw)
                go_simp
                try with_reducible rfl
              simp only [Act.put, List.setIfInBounds_toArray, List.set_cons_zero, List.set_cons_succ]
              refine wpAnyH_skip (i := 14) rfl rfl (by kernel_rfl) (by kernel_rfl) (by kernel_rfl) (fun _ _ _ h => h) (by rfl) hHeld ?_
              simp only [Act.put, List.setIfInBounds_toArray, List.set_cons_zero, List.set_cons_succ]
              refine wpAnyH_skip (i := 15) rfl rfl (by kernel_rfl) (by kernel_rfl) (by kernel_rfl) (fun _ _ _ h => h) (by rfl) hHeld ?_
              simp only [Act.put, List.setIfInBounds_toArray, List.set_cons_zero, List.set_cons_succ]
              refine wpAnyH_skip (i := 16) rfl rfl (by kernel_rfl) (by kernel_rfl) (by kernel_rfl) (fun _ _ _ h => h) (by rfl) hHeld ?_
              simp only [Act.put, List.setIfInBounds_toArray, List.set_cons_zero, List.set_cons_succ]
              refine wpAnyH_skip (i := 17) rfl rfl (by kernel_rfl) (by kernel_rfl) (by kernel_rfl) (fun _ _ _ h => h) (by rfl) hHeld ?_
              simp only [Act.put, List.setIfInBounds_toArray, List.set_cons_zero, List.set_cons_succ]
              refine wpAnyH_skip (i := 18) rfl rfl (by kernel_rfl) (by kernel_rfl) (by kernel_rfl) (fun _ _ _ h => h) (by rfl) hHeld ?_
              simp only [Act.put, List.setIfInBounds_toArray, List.set_cons_zero, List.set_cons_succ]
              refine wpAnyH_skip (i := 19) rfl rfl (by kernel_rfl) (by kernel_rfl) (by kernel_rfl) (fun _ _ _ h => h) (by rfl) hHeld ?_
              simp only [Act.put, List.setIfInBounds_toArray, List.set_cons_zero, List.set_cons_succ]
              refine wpAnyH_skip (i := 20) rfl rfl (by kernel_rfl) (by kernel_rfl) (by kernel_rfl) (fun _ _ _ h => h) (by rfl) hHeld ?_
              simp only [Act.put, List.setIfInBounds_toArray, List.set_cons_zero, List.set_cons_succ]
              have HB8 := HB7
              refine wpAnyH_yield (i := 21) (v := ?vbf21) rfl rfl (by kernel_rfl) (by kernel_rfl) (by kernel_rfl) (fun _ _ _ h => h) (by rfl) ?hybf21 hHeld ?restbf21
              case hybf21 =>
                intro w hSw
                (try dsimp only at hSw)
                go_simp
                try with_reducible rfl
              simp only [Act.put, List.setIfInBounds_toArray, List.set_cons_zero, List.set_cons_succ]
              refine wpAnyH_yield (i := 22) (v := ?vbf22) rfl rfl (by kernel_rfl) (by kernel_rfl) (by kernel_rfl) (fun _ _ _ h => h) (by rfl) ?hybf22 hHeld ?restbf22
              case hybf22 =>
                intro w hSw
                (try dsimp only at hSw)
                go_simp
                try with_reducible rfl
              simp only [Act.put, List.setIfInBounds_toArray, List.set_cons_zero, List.set_cons_succ]
              refine wpAnyH_yield (i := 23) (v := ?vbf23) rfl rfl (by kernel_rfl) (by kernel_rfl) (by kernel_rfl) (fun _ _ _ h => h) (by rfl) ?hybf23 hHeld ?restbf23
              case hybf23 =>
                intro w hSw
                (try dsimp only at hSw)
                go_simp
                try with_reducible rfl
              simp only [Act.put, List.setIfInBounds_toArray, List.set_cons_zero, List.set_cons_succ]
              refine wpAnyH_yield (i := 24) (v := ?vbf24) rfl rfl (by kernel_rfl) (by kernel_rfl) (by kernel_rfl) (fun _ _ _ h => h) (by rfl) ?hybf24 hHeld ?restbf24
              case hybf24 =>
                intro w hSw
                (try dsimp only at hSw)
                go_simp
                try with_reducible rfl
              simp only [Act.put, List.setIfInBounds_toArray, List.set_cons_zero, List.set_cons_succ]
              refine wpAnyH_yield (i := 25) (v := ?vbf25) rfl rfl (by kernel_rfl) (by kernel_rfl) (by kernel_rfl) (fun _ _ _ h => h) (by rfl) ?hybf25 hHeld ?restbf25
              case hybf25 =>
                intro w hSw
                (try dsimp only at hSw)
                go_simp
                try with_reducible rfl
              simp only [Act.put, List.setIfInBounds_toArray, List.set_cons_zero, List.set_cons_succ]
              refine wpAnyH_yield (i := 26) (v := ?vbf26) rfl rfl (by kernel_rfl) (by kernel_rfl) (by kernel_rfl) (fun _ _ _ h => h) (by rfl) ?hybf26 hHeld ?restbf26
              case hybf26 =>
                intro w hSw
                (try dsimp only at hSw)
                go_simp
                try with_reducible rfl
              simp only [Act.put, List.setIfInBounds_toArray, List.set_cons_zero, List.set_cons_succ]
              refine wpAnyH_yield (i := 27) (v := ?vbf27) rfl rfl (by kernel_rfl) (by kernel_rfl) (by kernel_rfl) (fun _ _ _ h => h) (by rfl) ?hybf27 hHeld ?restbf27
              case hybf27 =>
                intro w hSw
                (try dsimp only at hSw)
                go_simp
                try with_reducible rfl
              simp only [Act.put, List.setIfInBounds_toArray, List.set_cons_zero, List.set_cons_succ]
              refine wpAnyH_yield (i := 28) (v := ?vbf28) rfl rfl (by kernel_rfl) (by kernel_rfl) (by kernel_rfl) (fun _ _ _ h => h) (by rfl) ?hybf28 hHeld ?restbf28
              case hybf28 =>
                intro w hSw
                (try dsimp only at hSw)
                go_simp
                try with_reducible rfl
              simp only [Act.put, List.setIfInBounds_toArray, List.set_cons_zero, List.set_cons_succ]
              refine wpAnyH_yield (i := 29) (v := ?vbf29) rfl rfl (by kernel_rfl) (by kernel_rfl) (by kernel_rfl) (fun _ _ _ h => h) (by rfl) ?hybf29 hHeld ?restbf29
              case hybf29 =>
                intro w hSw
                (try dsimp only at hSw)
                go_simp
                try with_reducible rfl
              simp only [Act.put, List.setIfInBounds_toArray, List.set_cons_zero, List.set_cons_succ]
              refine wpAnyH_yield (i := 30) (v := ?vbf30) rfl rfl (by kernel_rfl) (by kernel_rfl) (by kernel_rfl) (fun _ _ _ h => h) (by rfl) ?hybf30 hHeld ?restbf30
              case hybf30 =>
                intro w hSw
                (try dsimp only at hSw)
                go_simp
                try with_reducible rfl
              simp only [Act.put, List.setIfInBounds_toArray, List.set_cons_zero, List.set_cons_succ]
              refine wpAnyH_yield (i := 31) (v := ?vbf31) rfl rfl (by kernel_rfl) (by kernel_rfl) (by kernel_rfl) (fun _ _ _ h => h) (by rfl) ?hybf31 hHeld ?restbf31
              case hybf31 =>
                intro w hSw
                (try dsimp only at hSw)
                go_simp
                try with_reducible rfl
              simp only [Act.put, List.setIfInBounds_toArray, List.set_cons_zero, List.set_cons_succ]
              refine wpAnyH_yield (i := 32) (v := ?vbf32) rfl rfl (by kernel_rfl) (by kernel_rfl) (by kernel_rfl) (fun _ _ _ h => h) (by rfl) ?hybf32 hHeld ?restbf32
              case hybf32 =>
                intro w hSw
                (try dsimp only at hSw)
                go_simp
                try with_reducible rfl
              simp only [Act.put, List.setIfInBounds_toArray, List.set_cons_zero, List.set_cons_succ]
              refine wpAnyH_yield (i := 33) (v := ?vbf33) rfl rfl (by kernel_rfl) (by kernel_rfl) (by kernel_rfl) (fun _ _ _ h => h) (by rfl) ?hybf33 hHeld ?restbf33
              case hybf33 =>
                intro w hSw
                (try dsimp only at hSw)
                go_simp
                try with_reducible rfl
              simp only [Act.put, List.setIfInBounds_toArray, List.set_cons_zero, List.set_cons_succ]
              refine wpAnyH_yield (i := 34) (v := ?vbf34) rfl rfl (by kernel_rfl) (by kernel_rfl) (by kernel_rfl) (fun _ _ _ h => h) (by rfl) ?hybf34 hHeld ?restbf34
              case hybf34 =>
                intro w hSw
                (try dsimp only at hSw)
                go_simp
                try with_reducible rfl
              simp only [Act.put, List.setIfInBounds_toArray, List.set_cons_zero, List.set_cons_succ]
              refine wpAnyH_yield (i := 35) (v := ?vbf35) rfl rfl (by kernel_rfl) (by kernel_rfl) (by kernel_rfl) (fun _ _ _ h => h) (by rfl) ?hybf35 hHeld ?restbf35
              case hybf35 =>
                intro w hSw
                (try dsimp only at hSw)
                go_simp
                try with_reducible rfl
              simp only [Act.put, List.setIfInBounds_toArray, List.set_cons_zero, List.set_cons_succ]
              refine wpAnyH_yield (i := 36) (v := ?vbf36) rfl rfl (by kernel_rfl) (by kernel_rfl) (by kernel_rfl) (fun _ _ _ h => h) (by rfl) ?hybf36 hHeld ?restbf36
              case hybf36 =>
                intro w hSw
                (try dsimp only at hSw)
                go_simp
                try with_reducible rfl
              simp only [Act.put, List.setIfInBounds_toArray, List.set_cons_zero, List.set_cons_succ]
              refine wpAnyH_yield (i := 37) (v := ?vbf37) rfl rfl (by kernel_rfl) (by kernel_rfl) (by kernel_rfl) (fun _ _ _ h => h) (by rfl) ?hybf37 hHeld ?restbf37
              case hybf37 =>
                intro w hSw
                (try dsimp only at hSw)
                go_simp
                try with_reducible rfl
              simp only [Act.put, List.setIfInBounds_toArray, List.set_cons_zero, List.set_cons_succ]
              refine wpAnyH_done (by kernel_rfl) ?_ _
              clear hHeld
              go_wp2_with fail
              exact ⟨⟨k + 1, by omega, by go_num, Lib.hid (HB.out.trans (HB8.out.mono HB.out.size))⟩, by simp [intOf]; omega⟩
            · replace HM2 : Hid (mayTb ((s0, s1, s2, s3), ess, xs) = true) := Lib.hid (HM2.out rfl)
              have HSmB := HSm
              refine wp_region_held_drew (S := (fun w' => w'.cell? ⟨X, 4, none⟩ = some (.slice (some yu) len1 pu) ∧ w'.cell? ⟨P, 4, none⟩ = some (.slice (some yt) len1 cap1) ∧ w'.cell? (yu.add (k * 6)) = some (.int .i64 s0) ∧ w'.cell? ⟨(yu.add (k * 6)).block, (yu.add (k * 6)).off + 1, none⟩ = some (.int .i64 s1) ∧ w'.cell? ⟨(yu.add (k * 6)).block, (yu.add (k * 6)).off + 2, none⟩ = some (.int .i64 s2) ∧ w'.cell? ⟨(yu.add (k * 6)).block, (yu.add (k * 6)).off + 3, none⟩ = some (.int .i64 s3) ∧ w'.cell? ⟨(yu.add (k * 6)).block, (yu.add (k * 6)).off + 4, none⟩ = some (.slice bs ls ccs) ∧ w'.cell? ⟨(yu.add (k * 6)).block, (yu.add (k * 6)).off + 5, none⟩ = some (.int .u32 xs) ∧ w'.cell? (yt.add (k * 6)) = some (.int .i64 s0) ∧ w'.cell? ⟨(yt.add (k * 6)).block, (yt.add (k * 6)).off + 1, none⟩ = some (.int .i64 s1) ∧ w'.cell? ⟨(yt.add (k * 6)).block, (yt.add (k * 6)).off + 2, none⟩ = some (.int .i64 s2) ∧ w'.cell? ⟨(yt.add (k * 6)).block, (yt.add (k * 6)).off + 3, none⟩ = some (.int .i64 s3) ∧ w'.cell? ⟨(yt.add (k * 6)).block, (yt.add (k * 6)).off + 4, none⟩ = some (.slice bt lt cct) ∧ w'.cell? ⟨(yt.add (k * 6)).block, (yt.add (k * 6)).off + 5, none⟩ = some (.int .u32 xt))) (by kernel_rfl) (HKp.out _ HB6.out.drew) (fun hHeld => ?_)
              refine wpAnyH_yield (i := 0) (v := ?vbt0) rfl rfl (by kernel_rfl) (by kernel_rfl) (by kernel_rfl) (fun _ _ _ h => h) (by rfl) ?hybt0 hHeld ?restbt0
              case hybt0 =>
                intro w hSw
                (try dsimp only at hSw)
                go_simp
                try with_reducible rfl
              simp only [Act.put, List.setIfInBounds_toArray, List.set_cons_zero, List.set_cons_succ]
              refine wpAnyH_yield (i := 1) (v := ?vbt1) rfl rfl (by kernel_rfl) (by kernel_rfl) (by kernel_rfl) (fun _ _ _ h => h) (by rfl) ?hybt1 hHeld ?restbt1
              case hybt1 =>
                intro w hSw
                (try dsimp only at hSw)
                go_simp
                try with_reducible rfl
              simp only [Act.put, List.setIfInBounds_toArray, List.set_cons_zero, List.set_cons_succ]
              refine wpAnyH_yield (i := 2) (v := ?vbt2) rfl rfl (by kernel_rfl) (by kernel_rfl) (by kernel_rfl) (fun _ _ _ h => h) (by rfl) ?hybt2 hHeld ?restbt2
              case hybt2 =>
                intro w hSw
                (try dsimp only at hSw)
                go_simp
                try with_reducible rfl
              simp only [Act.put, List.setIfInBounds_toArray, List.set_cons_zero, List.set_cons_succ]
              refine wpAnyH_skip (i := 3) rfl rfl (by kernel_rfl) (by kernel_rfl) (by kernel_rfl) (fun _ _ _ h => h) (by rfl) hHeld ?_
              simp only [Act.put, List.setIfInBounds_toArray, List.set_cons_zero, List.set_cons_succ]
              refine wpAnyH_skip (i := 4) rfl rfl (by kernel_rfl) (by kernel_rfl) (by kernel_rfl) (fun _ _ _ h => h) (by rfl) hHeld ?_
              simp only [Act.put, List.setIfInBounds_toArray, List.set_cons_zero, List.set_cons_succ]
              refine wpAnyH_yield (i := 5) (v := ?vbt5) rfl rfl (by kernel_rfl) (by kernel_rfl) (by kernel_rfl) (fun _ _ _ h => h) (by rfl) ?hybt5 hHeld ?restbt5
              case hybt5 =>
                intro w hSw
                (try dsimp only at hSw)
                go_simp
                try with_reducible rfl
              simp only [Act.put, List.setIfInBounds_toArray, List.set_cons_zero, List.set_cons_succ]
              refine wpAnyH_yield (i := 6) (v := ?vbt6) rfl rfl (by kernel_rfl) (by kernel_rfl) (by kernel_rfl) (fun _ _ _ h => h) (by rfl) ?hybt6 hHeld ?restbt6
              case hybt6 =>
                intro w hSw
                (try dsimp only at hSw)
                go_simp
                try with_reducible rfl
              simp only [Act.put, List.setIfInBounds_toArray, List.set_cons_zero, List.set_cons_succ]
              refine wpAnyH_yield (i := 7) (v := ?vbt7) rfl rfl (by kernel_rfl) (by kernel_rfl) (by kernel_rfl) (fun _ _ _ h => h) (by rfl) ?hybt7 hHeld ?restbt7
              case hybt7 =>
                intro w hSw
                (try dsimp only at hSw)
                go_simp
                try with_reducible rfl
              simp only [Act.put, List.setIfInBounds_toArray, List.set_cons_zero, List.set_cons_succ]
              refine wpAnyH_yield (i := 8) (v := ?vbt8) rfl rfl (by kernel_rfl) (by kernel_rfl) (by kernel_rfl) (fun _ _ _ h => h) (by rfl) ?hybt8 hHeld ?restbt8
              case hybt8 =>
                intro w hSw
                (try dsimp only at hSw)
                go_simp
                try with_reducible rfl
              simp only [Act.put, List.setIfInBounds_toArray, List.set_cons_zero, List.set_cons_succ]
              refine wpAnyH_yield (i := 9) (v := ?vbt9) rfl rfl (by kernel_rfl) (by kernel_rfl) (by kernel_rfl) (fun _ _ _ h => h) (by rfl) ?hybt9 hHeld ?restbt9
              case hybt9 =>
                intro w hSw
                (try dsimp only at hSw)
                go_simp
                try with_reducible rfl
              simp only [Act.put, List.setIfInBounds_toArray, List.set_cons_zero, List.set_cons_succ]
              refine wpAnyH_yield (i := 10) (v := ?vbt10) rfl rfl (by kernel_rfl) (by kernel_rfl) (by kernel_rfl) (fun _ _ _ h => h) (by rfl) ?hybt10 hHeld ?restbt10
              case hybt10 =>
                intro w hSw
                (try dsimp only at hSw)
                go_simp
                try with_reducible rfl
              simp only [Act.put, List.setIfInBounds_toArray, List.set_cons_zero, List.set_cons_succ]
              refine wpAnyH_yield (i := 11) (v := ?vbt11) rfl rfl (by kernel_rfl) (by kernel_rfl) (by kernel_rfl) (fun _ _ _ h => h) (by rfl) ?hybt11 hHeld ?restbt11
              case hybt11 =>
                intro w hSw
                (try dsimp only at hSw)
                go_simp
                try with_reducible rfl
              simp only [Act.put, List.setIfInBounds_toArray, List.set_cons_zero, List.set_cons_succ]
              refine wpAnyH_ready (rs := [12]) (by kernel_rfl) (by simp) ?_
              refine AllReadyH.cons rfl (fun K hK => ?_) AllReadyH.nil
              go_simp
              have cbt := tmay_any (s0, s1, s2, s3) bt lt cct xt est m5.drew (HEt.out.below HB6.out.drew) HXt.out
              rw [HM1.out] at cbt
              refine cbt.mono ?_
              rintro e m7 ⟨rfl, hb7⟩
              have HB7 : Hid (Below wr.heap.size wr m7) := Lib.hid (HB6.out.drew.trans (hb7.mono HB6.out.size))
              clear cbt hb7
              go_wp2_with fail
              refine hK.out _ _ (HKp.out _ HB7.out) (fun hHeld => ?_)
              clear hK K
              try simp only [Act.put, List.setIfInBounds_toArray, List.set_cons_zero, List.set_cons_succ]
              refine wpAnyH_yield (i := 13) (v := ?vbt13) rfl rfl (by kernel_rfl) (by kernel_rfl) (by kernel_rfl) (fun _ _ _ h => h) (by rfl) ?hybt13 hHeld ?restbt13
              case hybt13 =>
                intro w hSw
                (try dsimp only at hSw)
                go_simp
                try with_reducible rfl
              simp only [Act.put, List.setIfInBounds_toArray, List.set_cons_zero, List.set_cons_succ]
              refine wpAnyH_yield (i := 14) (v := ?vbt14) rfl rfl (by kernel_rfl) (by kernel_rfl) (by kernel_rfl) (fun _ _ _ h => h) (by rfl) ?hybt14 hHeld ?restbt14
              case hybt14 =>
                intro w hSw
                (try dsimp only at hSw)
                go_simp
                try with_reducible rfl
              simp only [Act.put, List.setIfInBounds_toArray, List.set_cons_zero, List.set_cons_succ]
              refine wpAnyH_yield (i := 15) (v := ?vbt15) rfl rfl (by kernel_rfl) (by kernel_rfl) (by kernel_rfl) (fun _ _ _ h => h) (by rfl) ?hybt15 hHeld ?restbt15
              case hybt15 =>
                intro w hSw
                (try dsimp only at hSw)
                go_simp
                try with_reducible rfl
              simp only [Act.put, List.setIfInBounds_toArray, List.set_cons_zero, List.set_cons_succ]
              refine wpAnyH_yield (i := 16) (v := ?vbt16) rfl rfl (by kernel_rfl) (by kernel_rfl) (by kernel_rfl) (fun _ _ _ h => h) (by rfl) ?hybt16 hHeld ?restbt16
              case hybt16 =>
                intro w hSw
                (try dsimp only at hSw)
                go_simp
                try with_reducible rfl
              simp only [Act.put, List.setIfInBounds_toArray, List.set_cons_zero, List.set_cons_succ]
              refine wpAnyH_yield (i := 17) (v := ?vbt17) rfl rfl (by kernel_rfl) (by kernel_rfl) (by kernel_rfl) (fun _ _ _ h => h) (by rfl) ?hybt17 hHeld ?restbt17
              case hybt17 =>
                intro w hSw
                (try dsimp only at hSw)
                go_simp
                try with_reducible rfl
              simp only [Act.put, List.setIfInBounds_toArray, List.set_cons_zero, List.set_cons_succ]
              refine wpAnyH_yield (i := 18) (v := ?vbt18) rfl rfl (by kernel_rfl) (by kernel_rfl) (by kernel_rfl) (fun _ _ _ h => h) (by rfl) ?hybt18 hHeld ?restbt18
              case hybt18 =>
                intro w hSw
                (try dsimp only at hSw)
                go_simp
                try with_reducible rfl
              simp only [Act.put, List.setIfInBounds_toArray, List.set_cons_zero, List.set_cons_succ]
              refine wpAnyH_ready (rs := [19]) (by kernel_rfl) (by simp) ?_
              refine AllReadyH.cons rfl (fun K hK => ?_) AllReadyH.nil
              go_simp
              have cbt := tmay_any (s0, s1, s2, s3) bs ls ccs xs ess m7 (HEs.out.below HB7.out) HXs.out
              rw [HM2.out] at cbt
              refine cbt.mono ?_
              rintro e m8 ⟨rfl, hb8⟩
              have HB8 : Hid (Below wr.heap.size wr m8) := Lib.hid (HB7.out.trans (hb8.mono HB7.out.size))
              clear cbt hb8
              go_wp2_with fail
              refine hK.out _ _ (HKp.out _ HB8.out) (fun hHeld => ?_)
              clear hK K
              try simp only [Act.put, List.setIfInBounds_toArray, List.set_cons_zero, List.set_cons_succ]
              refine wpAnyH_yield (i := 20) (v := ?vbt20) rfl rfl (by kernel_rfl) (by kernel_rfl) (by kernel_rfl) (fun _ _ _ h => h) (by rfl) ?hybt20 hHeld ?restbt20
              case hybt20 =>
                intro w hSw
                (try dsimp only at hSw)
                go_simp
                try with_reducible rfl
              simp only [Act.put, List.setIfInBounds_toArray, List.set_cons_zero, List.set_cons_succ]
              refine wpAnyH_yield (i := 21) (v := ?vbt21) rfl rfl (by kernel_rfl) (by kernel_rfl) (by kernel_rfl) (fun _ _ _ h => h) (by rfl) ?hybt21 hHeld ?restbt21
              case hybt21 =>
                intro w hSw
                (try dsimp only at hSw)
                go_simp
                try with_reducible rfl
              simp only [Act.put, List.setIfInBounds_toArray, List.set_cons_zero, List.set_cons_succ]
              refine wpAnyH_yield (i := 22) (v := ?vbt22) rfl rfl (by kernel_rfl) (by kernel_rfl) (by kernel_rfl) (fun _ _ _ h => h) (by rfl) ?hybt22 hHeld ?restbt22
              case hybt22 =>
                intro w hSw
                (try dsimp only at hSw)
                go_simp
                try with_reducible rfl
              simp only [Act.put, List.setIfInBounds_toArray, List.set_cons_zero, List.set_cons_succ]
              refine wpAnyH_yield (i := 23) (v := ?vbt23) rfl rfl (by kernel_rfl) (by kernel_rfl) (by kernel_rfl) (fun _ _ _ h => h) (by rfl) ?hybt23 hHeld ?restbt23
              case hybt23 =>
                intro w hSw
                (try dsimp only at hSw)
                go_simp
                try with_reducible rfl
              simp only [Act.put, List.setIfInBounds_toArray, List.set_cons_zero, List.set_cons_succ]
              refine wpAnyH_yield (i := 24) (v := ?vbt24) rfl rfl (by kernel_rfl) (by kernel_rfl) (by kernel_rfl) (fun _ _ _ h => h) (by rfl) ?hybt24 hHeld ?restbt24
              case hybt24 =>
                intro w hSw
                (try dsimp only at hSw)
                go_simp
                try with_reducible rfl
              simp only [Act.put, List.setIfInBounds_toArray, List.set_cons_zero, List.set_cons_succ]
              refine wpAnyH_yield (i := 25) (v := ?vbt25) rfl rfl (by kernel_rfl) (by kernel_rfl) (by kernel_rfl) (fun _ _ _ h => h) (by rfl) ?hybt25 hHeld ?restbt25
              case hybt25 =>
                intro w hSw
                (try dsimp only at hSw)
                go_simp
                try with_reducible rfl
              simp only [Act.put, List.setIfInBounds_toArray, List.set_cons_zero, List.set_cons_succ]
              refine wpAnyH_yield (i := 26) (v := ?vbt26) rfl rfl (by kernel_rfl) (by kernel_rfl) (by kernel_rfl) (fun _ _ _ h => h) (by rfl) ?hybt26 hHeld ?restbt26
              case hybt26 =>
                intro w hSw
                (try dsimp only at hSw)
                go_simp
                try with_reducible rfl
              simp only [Act.put, List.setIfInBounds_toArray, List.set_cons_zero, List.set_cons_succ]
              refine wpAnyH_yield (i := 27) (v := ?vbt27) rfl rfl (by kernel_rfl) (by kernel_rfl) (by kernel_rfl) (fun _ _ _ h => h) (by rfl) ?hybt27 hHeld ?restbt27
              case hybt27 =>
                intro w hSw
                (try dsimp only at hSw)
                go_simp
                try with_reducible rfl
              simp only [Act.put, List.setIfInBounds_toArray, List.set_cons_zero, List.set_cons_succ]
              refine wpAnyH_yield (i := 28) (v := ?vbt28) rfl rfl (by kernel_rfl) (by kernel_rfl) (by kernel_rfl) (fun _ _ _ h => h) (by rfl) ?hybt28 hHeld ?restbt28
              case hybt28 =>
                intro w hSw
                (try dsimp only at hSw)
                go_simp
                try with_reducible rfl
              simp only [Act.put, List.setIfInBounds_toArray, List.set_cons_zero, List.set_cons_succ]
              refine wpAnyH_yield (i := 29) (v := ?vbt29) rfl rfl (by kernel_rfl) (by kernel_rfl) (by kernel_rfl) (fun _ _ _ h => h) (by rfl) ?hybt29 hHeld ?restbt29
              case hybt29 =>
                intro w hSw
                (try dsimp only at hSw)
                go_simp
                try with_reducible rfl
              simp only [Act.put, List.setIfInBounds_toArray, List.set_cons_zero, List.set_cons_succ]
              refine wpAnyH_yield (i := 30) (v := ?vbt30) rfl rfl (by kernel_rfl) (by kernel_rfl) (by kernel_rfl) (fun _ _ _ h => h) (by rfl) ?hybt30 hHeld ?restbt30
              case hybt30 =>
                intro w hSw
                (try dsimp only at hSw)
                go_simp
                try with_reducible rfl
              simp only [Act.put, List.setIfInBounds_toArray, List.set_cons_zero, List.set_cons_succ]
              refine wpAnyH_yield (i := 31) (v := ?vbt31) rfl rfl (by kernel_rfl) (by kernel_rfl) (by kernel_rfl) (fun _ _ _ h => h) (by rfl) ?hybt31 hHeld ?restbt31
              case hybt31 =>
                intro w hSw
                (try dsimp only at hSw)
                go_simp
                try with_reducible rfl
              simp only [Act.put, List.setIfInBounds_toArray, List.set_cons_zero, List.set_cons_succ]
              refine wpAnyH_yield (i := 32) (v := ?vbt32) rfl rfl (by kernel_rfl) (by kernel_rfl) (by kernel_rfl) (fun _ _ _ h => h) (by rfl) ?hybt32 hHeld ?restbt32
              case hybt32 =>
                intro w hSw
                (try dsimp only at hSw)
                go_simp
                try with_reducible rfl
              simp only [Act.put, List.setIfInBounds_toArray, List.set_cons_zero, List.set_cons_succ]
              refine wpAnyH_yield (i := 33) (v := ?vbt33) rfl rfl (by kernel_rfl) (by kernel_rfl) (by kernel_rfl) (fun _ _ _ h => h) (by rfl) ?hybt33 hHeld ?restbt33
              case hybt33 =>
                intro w hSw
                (try dsimp only at hSw)
                go_simp
                try with_reducible rfl
              simp only [Act.put, List.setIfInBounds_toArray, List.set_cons_zero, List.set_cons_succ]
              refine wpAnyH_yield (i := 34) (v := ?vbt34) rfl rfl (by kernel_rfl) (by kernel_rfl) (by kernel_rfl) (fun _ _ _ h => h) (by rfl) ?hybt34 hHeld ?restbt34
              case hybt34 =>
                intro w hSw
                (try dsimp only at hSw)
                go_simp
                try with_reducible rfl
              simp only [Act.put, List.setIfInBounds_toArray, List.set_cons_zero, List.set_cons_succ]
              refine wpAnyH_yield (i := 35) (v := ?vbt35) rfl rfl (by kernel_rfl) (by kernel_rfl) (by kernel_rfl) (fun _ _ _ h => h) (by rfl) ?hybt35 hHeld ?restbt35
              case hybt35 =>
                intro w hSw
                (try dsimp only at hSw)
                go_simp
                try with_reducible rfl
              simp only [Act.put, List.setIfInBounds_toArray, List.set_cons_zero, List.set_cons_succ]
              refine wpAnyH_yield (i := 36) (v := ?vbt36) rfl rfl (by kernel_rfl) (by kernel_rfl) (by kernel_rfl) (fun _ _ _ h => h) (by rfl) ?hybt36 hHeld ?restbt36
              case hybt36 =>
                intro w hSw
                (try dsimp only at hSw)
                go_simp
                try with_reducible rfl
              simp only [Act.put, List.setIfInBounds_toArray, List.set_cons_zero, List.set_cons_succ]
              refine wpAnyH_yield (i := 37) (v := ?vbt37) rfl rfl (by kernel_rfl) (by kernel_rfl) (by kernel_rfl) (fun _ _ _ h => h) (by rfl) ?hybt37 hHeld ?restbt37
              case hybt37 =>
                intro w hSw
                (try dsimp only at hSw)
                go_simp
                try with_reducible rfl
              simp only [Act.put, List.setIfInBounds_toArray, List.set_cons_zero, List.set_cons_succ]
              refine wpAnyH_done (by kernel_rfl) ?_ _
              clear hHeld
              go_wp2_with fail
              exact ⟨⟨k + 1, by omega, by go_num, Lib.hid (HB.out.trans (HB8.out.mono HB.out.size))⟩, by simp [intOf]; omega⟩
      · have hkI : ¬ (k : Int) < (len1 : Int) := by omega
        have hfin : (rf == 0) = true ∨ ((rf == 0) = false ∧ (rf == 10) = true) := by
          rcases HFf.out with h | h
          · exact .inl (by simpa using h)
          · exact .inr ⟨by rw [h]; decide, by simpa using h⟩
        rcases hfin with h1 | ⟨h1, h2⟩
        · go_wp2_with fail
          go_ret
          exact ⟨rfl, HVx.out.1.trans (HB.out.mono HVx.out.1.size)⟩
        · go_wp2_with fail
          go_ret
          exact ⟨rfl, HVx.out.1.trans (HB.out.mono HVx.out.1.size)⟩


theorem own : ownKnob Try.prog.godebug = none := by kernel_rfl
theorem laidOut : laidOutB Try.prog = true := by kernel_rfl
set_option maxRecDepth 100000 in
theorem lifted (os : Os) (started : os.Started) (H : Type) (enc : TypeId × Value → H) :
    ReturnsInHanded {} Try.checked os 4 .any (Rows.helperKeepsSpec.pre6 enc Try.prog Try.f4 Rows.helperKeepsRow.domain false) (Rows.helperKeepsSpec.post enc Try.prog Try.f4 false true false false) := by
  refine returnsInHanded_of_change (C := Try.checked) own started (by kernel_rfl) Try.func4
    (ChangeSpec.witness6 (enc := enc) (C := Try.checked) false ⟨#[], #[.int .i64 0, .agg #[.int .u32 0, .int .u32 0, .int .u32 0, .int .u32 0, .slice none 0 0, .int .u32 0], .slice none 0 0], []⟩ 8 (by kernel_rfl) (by kernel_rfl) (by kernel_rfl) (by kernel_rfl)) ?_
  intro W base args ds gs before hval0 hW hcnd _
  have hval : ∀ (j : Nat) t v, Try.f4.params[j]? = some t → args[j]? = some v → Value.okWide Try.prog W .any base t v := hval0
  have hW' := hW
  obtain ⟨p, q, hA0, hV, rfl, hfz, hnd⟩ := hW
  have hA : DataW.TrodAll enc Try.prog W 0 (fun _ => true) true Try.f4.params.toList args.toList ds p := hA0
  rw [Try.params4] at hA hval
  obtain ⟨u0, vs0, e0, ds0, p0, q0, hargs, rfl, rfl, h0, t0⟩ := trodAll_cons hA
  obtain ⟨u1, vs1, e1, ds1, p1, q1, rfl, rfl, rfl, h1, t1⟩ := trodAll_cons t0
  obtain ⟨u2, vs2, e2, ds2, p2, q2, rfl, rfl, rfl, h2, t2⟩ := trodAll_cons t1
  obtain ⟨rfl, rfl, rfl⟩ := trodAll_nil t2
  obtain rfl : args = #[u0, u1, u2] := by cases args; simp_all
  obtain ⟨rfl, rfl⟩ := trodVars_none hV
  have y0 := h0
  have lt0 : ∀ x ∈ p0, x.block < W.heap.size := by obtain ⟨m, hm⟩ := y0; exact DataW.trod_lt m _ _ _ hm
  have y1 := h1
  have lt1 : ∀ x ∈ p1, x.block < W.heap.size := by obtain ⟨m, hm⟩ := y1; exact DataW.trod_lt m _ _ _ hm
  have y2 := h2
  have lt2 : ∀ x ∈ p2, x.block < W.heap.size := by obtain ⟨m, hm⟩ := y2; exact DataW.trod_lt m _ _ _ hm
  obtain ⟨a0, rfl, _, _, w0⟩ := open_int Try.underlying3 (hval 0 3 u0 rfl rfl) h0
  obtain ⟨c1, a1, len1, cap1, x1, ts1, rfl, w1, yx1⟩ := open_env (hval 1 26 u1 rfl rfl) h1
  obtain ⟨a2, len2, cap2, z2, rfl, w2⟩ := open_words (hval 2 27 u2 rfl rfl) h2
  clear hA0 hval0
  refine (walk a0 w0 c1 a1 len1 cap1 x1 ts1 a2 len2 cap2 z2 W w1 yx1 w2).mono fun e W' ⟨he, bel⟩ => ?_
  subst he
  exact ⟨_, rfl, _, _, _, [], _, [], hW', trodAll_mk1 (shut_bool Try.underlying4 _), (trodAll_cons_mk (Below.trod laidOut (by kernel_rfl) (of_decide_eq_true (by kernel_rfl)) y0 bel lt0) (trodAll_cons_mk (Below.trod laidOut (by kernel_rfl) (of_decide_eq_true (by kernel_rfl)) y1 bel lt1) (trodAll_cons_mk (Below.trod laidOut (by kernel_rfl) (of_decide_eq_true (by kernel_rfl)) y2 bel lt2) trodAll_mk0))), rfl, bel.frame _, fun h => by cases h⟩

theorem over : Rows.helperKeepsRow.holds Try.pinned (OpenSpec.ofChange Rows.helperKeepsSpec) :=
  OpenClaim.holds_of_wide 4 Try.f4 rfl rfl rfl rfl rfl rfl rfl ⟨rfl, rfl, rfl, rfl, rfl⟩ rfl rfl rfl rfl rfl (by kernel_rfl) Try.func4 (by kernel_rfl)
    (of_decide_eq_true (by kernel_rfl)) (by unfold Func.isWrapper; first | (rw [if_pos (by decide +kernel)]; kernel_rfl) | (rw [if_neg (by decide +kernel)]; exact ⟨rfl, rfl⟩))
    (fun os started H enc _ => lifted os started H enc)

theorem proved : Rows.HelperKeepsSaid := over
#print axioms proved
end Go.Proofs.Ythpniennaaihgaa.helperKeeps
