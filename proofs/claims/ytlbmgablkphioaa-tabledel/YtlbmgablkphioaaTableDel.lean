/-
  A key that was let go is not there, or, of an Array, has noughts; every other key stands as it did.
  Conditions: none.
-/
import Derived.Test.YtlbmgablkphioaaRows
import Derived.Test.YtlbmgablkphioaaX1
import Derived.Test.YtlbmgablkphioaaPL2
import Derived.WalkKit
import Derived.ProofKit
import Derived.OpenShut
import Derived.ChangeOld
import Derived.Below
namespace Go.Proofs.Ytlbmgablkphioaa.tableDel
open Go.ChangeShapes Go.WideShapes Go.ChangeAt Go.RowKit
set_option linter.unusedVariables false

set_option maxRecDepth 100000 in
set_option maxHeartbeats 8000000 in
theorem walk (s0 : Sc) (a0 : Option Addr) (len0 cap0 : Nat) (x0 : Int) (es0 : List Ent) (a1 : Int) (w1 : isW a1) (a2 : Int) (w2 : isW a2) (w : World) (w0 : EntsAt w a0 len0 cap0 es0) (y0 : isW x0) :
    Calls Try.prog 5 #[tbV s0 (.slice a0 len0 cap0) x0, .int .u32 a1, .int .u32 a2] w fun e w' => e = .returned (.bool true) ∧ Below w.heap.size w w' := by
  rcases s0 with ⟨s0, s1, s2, s3⟩
  obtain ⟨W0, hW0⟩ : ∃ W0, w.alloc (.cells #[.int .i64 s0, .int .i64 s1, .int .i64 s2, .int .i64 s3, .slice a0 len0 cap0, .int .u32 x0] 27) = W0 := ⟨_, rfl⟩
  have HB : Hid (Below w.heap.size w W0) := by rw [← hW0]; exact Lib.hid ((Below.refl _ _).alloc (Nat.le_refl _) _)
  have HVt : Hid (Vt W0 w.heap.size ((s0, s1, s2, s3), es0, x0) a0 len0 cap0) := by rw [← hW0]; exact Lib.hid (Vt.new (s := (s0, s1, s2, s3)) (x := x0) w0)
  have HX := Lib.hid y0
  clear w0 y0
  go_enter Try.func5, Try.ntmps5
  go_wp2_with fail
  clear hW0
  have c1 := awake_any W0
  refine c1.mono ?_
  rintro e m1 ⟨rfl, hb⟩
  clear c1
  replace HVt := Lib.hid (HVt.out.later hb)
  replace HB := Lib.hid (HB.out.trans (hb.mono HB.out.size))
  clear hb
  obtain ⟨kt0, kt1, kt2, kt3, kt4, kt5⟩ := HVt.out.tb
  simp only at kt0 kt1 kt2 kt3 kt4 kt5
  go_wp2_with fail
  clear kt0 kt1 kt2 kt3 kt4 kt5
  have c2 := lfew_any (s0, s1, s2, s3) a0 len0 cap0 x0 es0 m1 HVt.out.2 HX.out
  refine c2.mono ?_
  rintro e m2 ⟨rfl, hb⟩
  clear c2
  replace HVt := Lib.hid (HVt.out.later hb)
  replace HB := Lib.hid (HB.out.trans (hb.mono HB.out.size))
  clear hb
  rcases hfew : fewT ((s0, s1, s2, s3), es0, x0) with _ | _
  · clear hfew
    go_wp2_with fail
    go_ret
    exact ⟨rfl, HB.out⟩
  have HF := Lib.hid (fewE_of hfew)
  clear hfew
  have HK := Lib.hid w1
  have HO := Lib.hid w2
  clear w1 w2
  obtain ⟨kt0, kt1, kt2, kt3, kt4, kt5⟩ := HVt.out.tb
  simp only at kt0 kt1 kt2 kt3 kt4 kt5
  go_wp2_with fail
  clear kt0 kt1 kt2 kt3 kt4 kt5
  have c3 := tmay_any (s0, s1, s2, s3) a0 len0 cap0 x0 es0 m2 HVt.out.2 HX.out
  refine c3.mono ?_
  rintro e m3 ⟨rfl, hb⟩
  clear c3
  replace HVt := Lib.hid (HVt.out.later hb)
  replace HB := Lib.hid (HB.out.trans (hb.mono HB.out.size))
  clear hb
  rcases hmay : mayTb ((s0, s1, s2, s3), es0, x0) with _ | _
  · clear hmay
    go_wp2_with fail
    go_ret
    exact ⟨rfl, HB.out⟩
  have HM := Lib.hid hmay
  clear hmay
  have hlaw := del_law HM.out a1 a2
  have hzero := del_zero HM.out a1
  have hnx : (delT ((s0, s1, s2, s3), es0, x0) a1).1.2.2 = x0 := del_next
  have hsc : (delT ((s0, s1, s2, s3), es0, x0) a1).1.1 = (s0, s1, s2, s3) := del_sc
  rcases hg : delT ((s0, s1, s2, s3), es0, x0) a1 with ⟨⟨⟨d0, d1, d2, d3⟩, de, dx⟩, ok⟩
  rw [hg] at hlaw hnx hsc
  have HD := Lib.hid hg
  simp only [Prod.mk.injEq] at hsc hnx
  obtain ⟨rfl, rfl, rfl, rfl⟩ := hsc
  subst hnx
  have hgg := hg
  clear hg
  simp only at hlaw
  rw [hgg] at hzero
  clear hgg
  rcases hg : getT ((d0, d1, d2, d3), de, dx) a1 0 with ⟨⟨⟨f0, f1, f2, f3⟩, fe, fx⟩, fv, has⟩
  rw [hg] at hlaw hzero
  simp only at hzero
  subst hzero
  have HG1 := Lib.hid hg
  clear hg
  rcases hg : getT ((d0, d1, d2, d3), es0, dx) a1 0 with ⟨⟨⟨g0, g1, g2, g3⟩, ge, gx⟩, gv, had⟩
  rw [hg] at hlaw
  have HG2 := Lib.hid hg
  clear hg
  rcases hg : getT ((d0, d1, d2, d3), de, dx) a2 0 with ⟨⟨⟨h0, h1, h2, h3⟩, he, hx⟩, y, is⟩
  rw [hg] at hlaw
  have HG3 := Lib.hid hg
  clear hg
  rcases hg : getT ((d0, d1, d2, d3), es0, dx) a2 0 with ⟨⟨⟨i0, i1, i2, i3⟩, ie, ix⟩, z, was⟩
  rw [hg] at hlaw
  have HG4 := Lib.hid hg
  clear hg
  simp only at hlaw
  obtain ⟨l1, l2, l3, l4, l5⟩ := hlaw
  subst l1
  have HMD := Lib.hid l2
  have HL3 := Lib.hid l3
  have HL4 := Lib.hid l4
  have HL5 := Lib.hid l5
  have HFD : Hid (fewE de) := Lib.hid (may_few l2)
  clear l2 l3 l4 l5
  obtain ⟨kt0, kt1, kt2, kt3, kt4, kt5⟩ := HVt.out.tb
  simp only at kt0 kt1 kt2 kt3 kt4 kt5
  go_wp2_with fail
  clear kt0 kt1 kt2 kt3 kt4 kt5
  have c4 := tdel_any (d0, d1, d2, d3) a0 len0 cap0 dx es0 a1 m3 HVt.out.2 HF.out HX.out
  rw [HD.out] at c4
  refine c4.mono ?_
  rintro e m4 ⟨u, rfl, hb, hr0⟩
  clear c4
  have hr : Row m4 _ u de := hr0
  obtain ⟨jb4, jp4, hu, hE⟩ := hr.at
  subst hu
  clear hr hr0
  have hb2 : Below m3.heap.size m3 (m4.alloc (.cells #[.int .i64 d0, .int .i64 d1, .int .i64 d2, .int .i64 d3, .slice jb4 de.length jp4, .int .u32 dx] 27)) := hb.trans (((Below.refl _ _).alloc (Nat.le_refl _) _).mono hb.size)
  replace HVt := Lib.hid (HVt.out.later hb2)
  replace HB := Lib.hid (HB.out.trans (hb2.mono HB.out.size))
  have HVd : Hid (Vt (m4.alloc (.cells #[.int .i64 d0, .int .i64 d1, .int .i64 d2, .int .i64 d3, .slice jb4 de.length jp4, .int .u32 dx] 27)) m4.heap.size ((d0, d1, d2, d3), de, dx) jb4 de.length jp4) := Lib.hid (Vt.new (s := (d0, d1, d2, d3)) (x := dx) hE)
  obtain ⟨T4, hT4⟩ : ∃ T4, m4.heap.size = T4 := ⟨_, rfl⟩
  obtain ⟨W4, hW4⟩ : ∃ W4, m4.alloc (.cells #[.int .i64 d0, .int .i64 d1, .int .i64 d2, .int .i64 d3, .slice jb4 de.length jp4, .int .u32 dx] 27) = W4 := ⟨_, rfl⟩
  rw [hT4] at HVd
  rw [hW4] at HB HVt HVd
  clear hb hb2 hE
  obtain ⟨kd0, kd1, kd2, kd3, kd4, kd5⟩ := HVd.out.tb
  simp only at kd0 kd1 kd2 kd3 kd4 kd5
  go_wp2_with fail
  clear hT4 hW4 kd0 kd1 kd2 kd3 kd4 kd5
  have c5 := tget_any (d0, d1, d2, d3) jb4 de.length jp4 dx de a1 0 W4 HVd.out.2 HFD.out HX.out isW_zero
  rw [HG1.out] at c5
  refine c5.mono ?_
  rintro e m5 ⟨u, rfl, hb, hr0⟩
  clear c5
  have hr : Row m5 _ u fe := hr0
  obtain ⟨jb5, jp5, hu, hE⟩ := hr.at
  subst hu
  clear hr hr0
  have hb2 : Below W4.heap.size W4 (m5.alloc (.cells #[.int .i64 f0, .int .i64 f1, .int .i64 f2, .int .i64 f3, .slice jb5 fe.length jp5, .int .u32 fx] 27)) := hb.trans (((Below.refl _ _).alloc (Nat.le_refl _) _).mono hb.size)
  replace HVt := Lib.hid (HVt.out.later hb2)
  replace HVd := Lib.hid (HVd.out.later hb2)
  replace HB := Lib.hid (HB.out.trans (hb2.mono HB.out.size))
  have HVf : Hid (Vt (m5.alloc (.cells #[.int .i64 f0, .int .i64 f1, .int .i64 f2, .int .i64 f3, .slice jb5 fe.length jp5, .int .u32 fx] 27)) m5.heap.size ((f0, f1, f2, f3), fe, fx) jb5 fe.length jp5) := Lib.hid (Vt.new (s := (f0, f1, f2, f3)) (x := fx) hE)
  obtain ⟨T5, hT5⟩ : ∃ T5, m5.heap.size = T5 := ⟨_, rfl⟩
  obtain ⟨W5, hW5⟩ : ∃ W5, m5.alloc (.cells #[.int .i64 f0, .int .i64 f1, .int .i64 f2, .int .i64 f3, .slice jb5 fe.length jp5, .int .u32 fx] 27) = W5 := ⟨_, rfl⟩
  rw [hT5] at HVf
  rw [hW5] at HB HVt HVd HVf
  clear hb hb2 hE
  clear HVf
  obtain ⟨kt0, kt1, kt2, kt3, kt4, kt5⟩ := HVt.out.tb
  simp only at kt0 kt1 kt2 kt3 kt4 kt5
  go_wp2_with fail
  clear hT5 hW5 kt0 kt1 kt2 kt3 kt4 kt5
  have c6 := tget_any (d0, d1, d2, d3) a0 len0 cap0 dx es0 a1 0 W5 HVt.out.2 HF.out HX.out isW_zero
  rw [HG2.out] at c6
  refine c6.mono ?_
  rintro e m6 ⟨u, rfl, hb, hr0⟩
  clear c6
  have hr : Row m6 _ u ge := hr0
  obtain ⟨jb6, jp6, hu, hE⟩ := hr.at
  subst hu
  clear hr hr0
  have hb2 : Below W5.heap.size W5 (m6.alloc (.cells #[.int .i64 g0, .int .i64 g1, .int .i64 g2, .int .i64 g3, .slice jb6 ge.length jp6, .int .u32 gx] 27)) := hb.trans (((Below.refl _ _).alloc (Nat.le_refl _) _).mono hb.size)
  replace HVt := Lib.hid (HVt.out.later hb2)
  replace HVd := Lib.hid (HVd.out.later hb2)
  replace HB := Lib.hid (HB.out.trans (hb2.mono HB.out.size))
  have HVg : Hid (Vt (m6.alloc (.cells #[.int .i64 g0, .int .i64 g1, .int .i64 g2, .int .i64 g3, .slice jb6 ge.length jp6, .int .u32 gx] 27)) m6.heap.size ((g0, g1, g2, g3), ge, gx) jb6 ge.length jp6) := Lib.hid (Vt.new (s := (g0, g1, g2, g3)) (x := gx) hE)
  obtain ⟨T6, hT6⟩ : ∃ T6, m6.heap.size = T6 := ⟨_, rfl⟩
  obtain ⟨W6, hW6⟩ : ∃ W6, m6.alloc (.cells #[.int .i64 g0, .int .i64 g1, .int .i64 g2, .int .i64 g3, .slice jb6 ge.length jp6, .int .u32 gx] 27) = W6 := ⟨_, rfl⟩
  rw [hT6] at HVg
  rw [hW6] at HB HVt HVd HVg
  clear hb hb2 hE
  clear HVg
  have hoo : (ok != ok) = false := by simp
  have hzz : ((0 : Int) != 0) = false := by simp
  obtain ⟨kd0, kd1, kd2, kd3, kd4, kd5⟩ := HVd.out.tb
  simp only at kd0 kd1 kd2 kd3 kd4 kd5
  go_wp2_with fail
  clear hT6 hW6 kd0 kd1 kd2 kd3 kd4 kd5
  have c7 := tmay_any (d0, d1, d2, d3) jb4 de.length jp4 dx de W6 HVd.out.2 HX.out
  rw [HMD.out] at c7
  refine c7.mono ?_
  rintro e m7 ⟨rfl, hb⟩
  clear c7
  replace HVt := Lib.hid (HVt.out.later hb)
  replace HVd := Lib.hid (HVd.out.later hb)
  replace HB := Lib.hid (HB.out.trans (hb.mono HB.out.size))
  clear hb
  clear hoo
  rcases ok with _ | _
  · obtain ⟨kd0, kd1, kd2, kd3, kd4, kd5⟩ := HVd.out.tb
    simp only at kd0 kd1 kd2 kd3 kd4 kd5
    obtain ⟨kt0, kt1, kt2, kt3, kt4, kt5⟩ := HVt.out.tb
    simp only at kt0 kt1 kt2 kt3 kt4 kt5
    go_wp2_with fail
    clear kd0 kd1 kd2 kd3 kd4 kd5 kt0 kt1 kt2 kt3 kt4 kt5
    have HEq := Lib.hid (HL3.out (by trivial))
    have hdq : decide (((d0, d1, d2, d3), de, dx) = (((d0, d1, d2, d3), es0, dx) : Tb)) = true := decide_eq_true HEq.out
    have c8 := tsame_any (d0, d1, d2, d3) jb4 de.length jp4 dx de (d0, d1, d2, d3) a0 len0 cap0 dx es0 m7 HVd.out.2 HVt.out.2
    rw [hdq] at c8
    refine c8.mono ?_
    rintro e m8 ⟨rfl, hb⟩
    clear c8
    replace HVt := Lib.hid (HVt.out.later hb)
    replace HVd := Lib.hid (HVd.out.later hb)
    replace HB := Lib.hid (HB.out.trans (hb.mono HB.out.size))
    clear hb
    clear hdq
    obtain ⟨kd0, kd1, kd2, kd3, kd4, kd5⟩ := HVd.out.tb
    simp only at kd0 kd1 kd2 kd3 kd4 kd5
    obtain ⟨kt0, kt1, kt2, kt3, kt4, kt5⟩ := HVt.out.tb
    simp only at kt0 kt1 kt2 kt3 kt4 kt5
    go_wp2_with fail
    clear kd0 kd1 kd2 kd3 kd4 kd5 kt0 kt1 kt2 kt3 kt4 kt5
    have c9 := tget_any (d0, d1, d2, d3) jb4 de.length jp4 dx de a2 0 m8 HVd.out.2 HFD.out HX.out isW_zero
    rw [HG3.out] at c9
    refine c9.mono ?_
    rintro e m9 ⟨u, rfl, hb, hr0⟩
    clear c9
    have hr : Row m9 _ u he := hr0
    obtain ⟨jb9, jp9, hu, hE⟩ := hr.at
    subst hu
    clear hr hr0
    have hb2 : Below m8.heap.size m8 (m9.alloc (.cells #[.int .i64 h0, .int .i64 h1, .int .i64 h2, .int .i64 h3, .slice jb9 he.length jp9, .int .u32 hx] 27)) := hb.trans (((Below.refl _ _).alloc (Nat.le_refl _) _).mono hb.size)
    replace HVt := Lib.hid (HVt.out.later hb2)
    replace HVd := Lib.hid (HVd.out.later hb2)
    replace HB := Lib.hid (HB.out.trans (hb2.mono HB.out.size))
    have HVh : Hid (Vt (m9.alloc (.cells #[.int .i64 h0, .int .i64 h1, .int .i64 h2, .int .i64 h3, .slice jb9 he.length jp9, .int .u32 hx] 27)) m9.heap.size ((h0, h1, h2, h3), he, hx) jb9 he.length jp9) := Lib.hid (Vt.new (s := (h0, h1, h2, h3)) (x := hx) hE)
    obtain ⟨T9, hT9⟩ : ∃ T9, m9.heap.size = T9 := ⟨_, rfl⟩
    obtain ⟨W9, hW9⟩ : ∃ W9, m9.alloc (.cells #[.int .i64 h0, .int .i64 h1, .int .i64 h2, .int .i64 h3, .slice jb9 he.length jp9, .int .u32 hx] 27) = W9 := ⟨_, rfl⟩
    rw [hT9] at HVh
    rw [hW9] at HB HVt HVd HVh
    clear hb hb2 hE
    clear HVh
    obtain ⟨kt0, kt1, kt2, kt3, kt4, kt5⟩ := HVt.out.tb
    simp only at kt0 kt1 kt2 kt3 kt4 kt5
    go_wp2_with fail
    clear hT9 hW9 kt0 kt1 kt2 kt3 kt4 kt5
    have c10 := tget_any (d0, d1, d2, d3) a0 len0 cap0 dx es0 a2 0 W9 HVt.out.2 HF.out HX.out isW_zero
    rw [HG4.out] at c10
    refine c10.mono ?_
    rintro e m10 ⟨u, rfl, hb, hr0⟩
    clear c10
    have hr : Row m10 _ u ie := hr0
    obtain ⟨jb10, jp10, hu, hE⟩ := hr.at
    subst hu
    clear hr hr0
    have hb2 : Below W9.heap.size W9 (m10.alloc (.cells #[.int .i64 i0, .int .i64 i1, .int .i64 i2, .int .i64 i3, .slice jb10 ie.length jp10, .int .u32 ix] 27)) := hb.trans (((Below.refl _ _).alloc (Nat.le_refl _) _).mono hb.size)
    replace HVt := Lib.hid (HVt.out.later hb2)
    replace HVd := Lib.hid (HVd.out.later hb2)
    replace HB := Lib.hid (HB.out.trans (hb2.mono HB.out.size))
    have HVi : Hid (Vt (m10.alloc (.cells #[.int .i64 i0, .int .i64 i1, .int .i64 i2, .int .i64 i3, .slice jb10 ie.length jp10, .int .u32 ix] 27)) m10.heap.size ((i0, i1, i2, i3), ie, ix) jb10 ie.length jp10) := Lib.hid (Vt.new (s := (i0, i1, i2, i3)) (x := ix) hE)
    obtain ⟨T10, hT10⟩ : ∃ T10, m10.heap.size = T10 := ⟨_, rfl⟩
    obtain ⟨W10, hW10⟩ : ∃ W10, m10.alloc (.cells #[.int .i64 i0, .int .i64 i1, .int .i64 i2, .int .i64 i3, .slice jb10 ie.length jp10, .int .u32 ix] 27) = W10 := ⟨_, rfl⟩
    rw [hT10] at HVi
    rw [hW10] at HB HVt HVd HVi
    clear hb hb2 hE
    clear HVi
    by_cases hoe : a2 = a1
    · have hq : (a2 == a1) = true := by simpa using hoe
      clear hoe
      go_wp2_with fail
      go_ret
      exact ⟨rfl, HB.out⟩
    · have hq : (a2 == a1) = false := by simpa using hoe
      have h9 := HL5.out hoe
      simp only [Prod.mk.injEq] at h9
      obtain ⟨rfl, rfl⟩ := h9
      clear hoe
      have r1 : (y == y) = true := by simp
      have r2 : (is == is) = true := by simp
      go_wp2_with fail
      go_ret
      exact ⟨rfl, HB.out⟩
  · obtain ⟨l6, _⟩ := HL4.out (by trivial)
    have hk0 : (d0 == 0) = has := l6.symm
    have hk1 : (has != has) = false := by simp
    have hz : ((0 : Int) != 0) = false := by simp
    clear l6
    obtain ⟨kd0, kd1, kd2, kd3, kd4, kd5⟩ := HVd.out.tb
    simp only at kd0 kd1 kd2 kd3 kd4 kd5
    obtain ⟨kt0, kt1, kt2, kt3, kt4, kt5⟩ := HVt.out.tb
    simp only at kt0 kt1 kt2 kt3 kt4 kt5
    go_wp2_with fail
    clear kd0 kd1 kd2 kd3 kd4 kd5 kt0 kt1 kt2 kt3 kt4 kt5
    have c8 := tget_any (d0, d1, d2, d3) jb4 de.length jp4 dx de a2 0 m7 HVd.out.2 HFD.out HX.out isW_zero
    rw [HG3.out] at c8
    refine c8.mono ?_
    rintro e m8 ⟨u, rfl, hb, hr0⟩
    clear c8
    have hr : Row m8 _ u he := hr0
    obtain ⟨jb8, jp8, hu, hE⟩ := hr.at
    subst hu
    clear hr hr0
    have hb2 : Below m7.heap.size m7 (m8.alloc (.cells #[.int .i64 h0, .int .i64 h1, .int .i64 h2, .int .i64 h3, .slice jb8 he.length jp8, .int .u32 hx] 27)) := hb.trans (((Below.refl _ _).alloc (Nat.le_refl _) _).mono hb.size)
    replace HVt := Lib.hid (HVt.out.later hb2)
    replace HVd := Lib.hid (HVd.out.later hb2)
    replace HB := Lib.hid (HB.out.trans (hb2.mono HB.out.size))
    have HVh : Hid (Vt (m8.alloc (.cells #[.int .i64 h0, .int .i64 h1, .int .i64 h2, .int .i64 h3, .slice jb8 he.length jp8, .int .u32 hx] 27)) m8.heap.size ((h0, h1, h2, h3), he, hx) jb8 he.length jp8) := Lib.hid (Vt.new (s := (h0, h1, h2, h3)) (x := hx) hE)
    obtain ⟨T8, hT8⟩ : ∃ T8, m8.heap.size = T8 := ⟨_, rfl⟩
    obtain ⟨W8, hW8⟩ : ∃ W8, m8.alloc (.cells #[.int .i64 h0, .int .i64 h1, .int .i64 h2, .int .i64 h3, .slice jb8 he.length jp8, .int .u32 hx] 27) = W8 := ⟨_, rfl⟩
    rw [hT8] at HVh
    rw [hW8] at HB HVt HVd HVh
    clear hb hb2 hE
    clear HVh
    obtain ⟨kt0, kt1, kt2, kt3, kt4, kt5⟩ := HVt.out.tb
    simp only at kt0 kt1 kt2 kt3 kt4 kt5
    go_wp2_with fail
    clear hT8 hW8 kt0 kt1 kt2 kt3 kt4 kt5
    have c9 := tget_any (d0, d1, d2, d3) a0 len0 cap0 dx es0 a2 0 W8 HVt.out.2 HF.out HX.out isW_zero
    rw [HG4.out] at c9
    refine c9.mono ?_
    rintro e m9 ⟨u, rfl, hb, hr0⟩
    clear c9
    have hr : Row m9 _ u ie := hr0
    obtain ⟨jb9, jp9, hu, hE⟩ := hr.at
    subst hu
    clear hr hr0
    have hb2 : Below W8.heap.size W8 (m9.alloc (.cells #[.int .i64 i0, .int .i64 i1, .int .i64 i2, .int .i64 i3, .slice jb9 ie.length jp9, .int .u32 ix] 27)) := hb.trans (((Below.refl _ _).alloc (Nat.le_refl _) _).mono hb.size)
    replace HVt := Lib.hid (HVt.out.later hb2)
    replace HVd := Lib.hid (HVd.out.later hb2)
    replace HB := Lib.hid (HB.out.trans (hb2.mono HB.out.size))
    have HVi : Hid (Vt (m9.alloc (.cells #[.int .i64 i0, .int .i64 i1, .int .i64 i2, .int .i64 i3, .slice jb9 ie.length jp9, .int .u32 ix] 27)) m9.heap.size ((i0, i1, i2, i3), ie, ix) jb9 ie.length jp9) := Lib.hid (Vt.new (s := (i0, i1, i2, i3)) (x := ix) hE)
    obtain ⟨T9, hT9⟩ : ∃ T9, m9.heap.size = T9 := ⟨_, rfl⟩
    obtain ⟨W9, hW9⟩ : ∃ W9, m9.alloc (.cells #[.int .i64 i0, .int .i64 i1, .int .i64 i2, .int .i64 i3, .slice jb9 ie.length jp9, .int .u32 ix] 27) = W9 := ⟨_, rfl⟩
    rw [hT9] at HVi
    rw [hW9] at HB HVt HVd HVi
    clear hb hb2 hE
    clear HVi
    by_cases hoe : a2 = a1
    · have hq : (a2 == a1) = true := by simpa using hoe
      clear hoe
      go_wp2_with fail
      go_ret
      exact ⟨rfl, HB.out⟩
    · have hq : (a2 == a1) = false := by simpa using hoe
      have h9 := HL5.out hoe
      simp only [Prod.mk.injEq] at h9
      obtain ⟨rfl, rfl⟩ := h9
      clear hoe
      have r1 : (y == y) = true := by simp
      have r2 : (is == is) = true := by simp
      go_wp2_with fail
      go_ret
      exact ⟨rfl, HB.out⟩


theorem own : ownKnob Try.prog.godebug = none := by kernel_rfl
theorem laidOut : laidOutB Try.prog = true := by kernel_rfl
set_option maxRecDepth 100000 in
theorem lifted (os : Os) (started : os.Started) (H : Type) (enc : TypeId × Value → H) :
    ReturnsInHanded {} Try.checked os 5 .any (Rows.tableDelSpec.pre6 enc Try.prog Try.f5 Rows.tableDelRow.domain false) (Rows.tableDelSpec.post enc Try.prog Try.f5 false true false false) := by
  refine returnsInHanded_of_change (C := Try.checked) own started (by kernel_rfl) Try.func5
    (ChangeSpec.witness6 (enc := enc) (C := Try.checked) false ⟨#[], #[.agg #[.int .i64 0, .int .i64 0, .int .i64 0, .int .i64 0, .slice none 0 0, .int .u32 0], .int .u32 0, .int .u32 0], []⟩ 8 (by kernel_rfl) (by kernel_rfl) (by kernel_rfl) (by kernel_rfl)) ?_
  intro W base args ds gs before hval0 hW hcnd _
  have hval : ∀ (j : Nat) t v, Try.f5.params[j]? = some t → args[j]? = some v → Value.okWide Try.prog W .any base t v := hval0
  have hW' := hW
  obtain ⟨p, q, hA0, hV, rfl, hfz, hnd⟩ := hW
  have hA : DataW.TrodAll enc Try.prog W 0 (fun _ => true) true Try.f5.params.toList args.toList ds p := hA0
  rw [Try.params5] at hA hval
  obtain ⟨u0, vs0, e0, ds0, p0, q0, hargs, rfl, rfl, h0, t0⟩ := trodAll_cons hA
  obtain ⟨u1, vs1, e1, ds1, p1, q1, rfl, rfl, rfl, h1, t1⟩ := trodAll_cons t0
  obtain ⟨u2, vs2, e2, ds2, p2, q2, rfl, rfl, rfl, h2, t2⟩ := trodAll_cons t1
  obtain ⟨rfl, rfl, rfl⟩ := trodAll_nil t2
  obtain rfl : args = #[u0, u1, u2] := by cases args; simp_all
  obtain ⟨rfl, rfl⟩ := trodVars_none hV
  have y0 := h0
  have lt0 : ∀ x ∈ p0, x.block < W.heap.size := by obtain ⟨m, hm⟩ := y0; exact DataW.trod_lt m _ _ _ hm
  have y1 := h1
  have lt1 : ∀ x ∈ p1, x.block < W.heap.size := by obtain ⟨m, hm⟩ := y1; exact DataW.trod_lt m _ _ _ hm
  have y2 := h2
  have lt2 : ∀ x ∈ p2, x.block < W.heap.size := by obtain ⟨m, hm⟩ := y2; exact DataW.trod_lt m _ _ _ hm
  obtain ⟨s0, a0, len0, cap0, x0, es0, rfl, w0, yx0⟩ := open_tb (hval 0 27 u0 rfl rfl) h0
  obtain ⟨a1, rfl, _, _, w1'⟩ := open_int Try.underlying25 (hval 1 25 u1 rfl rfl) h1
  have w1 : isW a1 := bounds_u32 w1'
  obtain ⟨a2, rfl, _, _, w2'⟩ := open_int Try.underlying25 (hval 2 25 u2 rfl rfl) h2
  have w2 : isW a2 := bounds_u32 w2'
  clear hA0 hval0
  refine (walk s0 a0 len0 cap0 x0 es0 a1 w1 a2 w2 W w0 yx0).mono fun e W' ⟨he, bel⟩ => ?_
  subst he
  exact ⟨_, rfl, _, _, _, [], _, [], hW', trodAll_mk1 (shut_bool Try.underlying4 _), (trodAll_cons_mk (Below.trod laidOut (by kernel_rfl) (of_decide_eq_true (by kernel_rfl)) y0 bel lt0) (trodAll_cons_mk (Below.trod laidOut (by kernel_rfl) (of_decide_eq_true (by kernel_rfl)) y1 bel lt1) (trodAll_cons_mk (Below.trod laidOut (by kernel_rfl) (of_decide_eq_true (by kernel_rfl)) y2 bel lt2) trodAll_mk0))), rfl, bel.frame _, fun h => by cases h⟩

theorem over : Rows.tableDelRow.holds Try.pinned (OpenSpec.ofChange Rows.tableDelSpec) :=
  OpenClaim.holds_of_wide 5 Try.f5 rfl rfl rfl rfl rfl rfl rfl ⟨rfl, rfl, rfl, rfl, rfl⟩ rfl rfl rfl rfl rfl (by kernel_rfl) Try.func5 (by kernel_rfl)
    (of_decide_eq_true (by kernel_rfl)) (by unfold Func.isWrapper; first | (rw [if_pos (by decide +kernel)]; kernel_rfl) | (rw [if_neg (by decide +kernel)]; exact ⟨rfl, rfl⟩))
    (fun os started H enc _ => lifted os started H enc)

theorem proved : Rows.TableDelSaid := over
#print axioms proved
end Go.Proofs.Ytlbmgablkphioaa.tableDel
