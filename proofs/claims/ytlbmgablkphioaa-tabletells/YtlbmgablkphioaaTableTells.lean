/-
  Any table may be, or not, is gone through, changed, pushed and popped, as the document says, or it is told why not.
  Conditions: none.
-/
import Derived.Test.YtlbmgablkphioaaRows
import Derived.Test.YtlbmgablkphioaaX1
import Derived.WalkKit
import Derived.ProofKit
import Derived.OpenShut
import Derived.ChangeOld
import Derived.Below
namespace Go.Proofs.Ytlbmgablkphioaa.tableTells
open Go.ChangeShapes Go.WideShapes Go.ChangeAt Go.RowKit
set_option linter.unusedVariables false

set_option maxRecDepth 100000 in
set_option maxHeartbeats 8000000 in
theorem walk (s0 : Sc) (a0 : Option Addr) (len0 cap0 : Nat) (x0 : Int) (es0 : List Ent) (a1 : Int) (w1 : isW a1) (a2 : Int) (w2 : isW a2) (a3 : Int) (w3 : isW a3) (w : World) (w0 : EntsAt w a0 len0 cap0 es0) (y0 : isW x0) :
    Calls Try.prog 3 #[tbV s0 (.slice a0 len0 cap0) x0, .int .u32 a1, .int .u32 a2, .int .u32 a3] w fun e w' => e = .returned (.bool true) ∧ Below w.heap.size w w' := by
  rcases s0 with ⟨s0, s1, s2, s3⟩
  obtain ⟨W0, hW0⟩ : ∃ W0, w.alloc (.cells #[.int .i64 s0, .int .i64 s1, .int .i64 s2, .int .i64 s3, .slice a0 len0 cap0, .int .u32 x0] 27) = W0 := ⟨_, rfl⟩
  have HB : Hid (Below w.heap.size w W0) := by rw [← hW0]; exact Lib.hid ((Below.refl _ _).alloc (Nat.le_refl _) _)
  have HVt : Hid (Vt W0 w.heap.size ((s0, s1, s2, s3), es0, x0) a0 len0 cap0) := by rw [← hW0]; exact Lib.hid (Vt.new (s := (s0, s1, s2, s3)) (x := x0) w0)
  have HX := Lib.hid y0
  clear w0 y0
  go_enter Try.func3, Try.ntmps3
  go_wp2_with fail
  clear hW0
  have c1 := awake_any W0
  refine c1.mono ?_
  rintro e m1 ⟨rfl, hb⟩
  clear c1
  replace HVt := Lib.hid (HVt.out.later hb)
  replace HB := Lib.hid (HB.out.trans (hb.mono HB.out.size))
  clear hb
  obtain ⟨kt0, kt1, kt2, kt3, kt4, kt5⟩ := HVt.out.tb
  simp only at kt0 kt1 kt2 kt3 kt4 kt5
  go_wp2_with fail
  clear kt0 kt1 kt2 kt3 kt4 kt5
  have c2 := lfew_any (s0, s1, s2, s3) a0 len0 cap0 x0 es0 m1 HVt.out.2 HX.out
  refine c2.mono ?_
  rintro e m2 ⟨rfl, hb⟩
  clear c2
  replace HVt := Lib.hid (HVt.out.later hb)
  replace HB := Lib.hid (HB.out.trans (hb.mono HB.out.size))
  clear hb
  rcases hfew : fewT ((s0, s1, s2, s3), es0, x0) with _ | _
  · clear hfew
    go_wp2_with fail
    go_ret
    exact ⟨rfl, HB.out⟩
  have HF := Lib.hid (fewE_of hfew)
  clear hfew
  have HK := Lib.hid w1
  have HFi := Lib.hid w2
  have HVv := Lib.hid w3
  clear w1 w2 w3
  rcases hg : getT ((s0, s1, s2, s3), es0, x0) a1 a2 with ⟨⟨⟨g0, g1, g2, g3⟩, ge, gx⟩, gv, gb⟩
  have HG := Lib.hid hg
  clear hg
  rcases hg : setT ((s0, s1, s2, s3), es0, x0) a1 a2 a3 with ⟨⟨⟨h0, h1, h2, h3⟩, he, hx⟩, hv⟩
  have HS := Lib.hid hg
  clear hg
  rcases hg : delT ((s0, s1, s2, s3), es0, x0) a1 with ⟨⟨⟨d0, d1, d2, d3⟩, de, dx⟩, dv⟩
  have HD := Lib.hid hg
  clear hg
  rcases hg : pushT ((s0, s1, s2, s3), es0, x0) a3 with ⟨⟨⟨p0, p1, p2, p3⟩, pe, px⟩, pv⟩
  have HP := Lib.hid hg
  clear hg
  rcases hg : popT ((s0, s1, s2, s3), es0, x0) with ⟨⟨⟨q0, q1, q2, q3⟩, qe, qx⟩, qv, qb⟩
  have HQ := Lib.hid hg
  clear hg
  rcases hg : newT (s0, s1, s2, s3) with ⟨⟨n0, n1, n2, n3⟩, ne, nx⟩
  have HN := Lib.hid hg
  clear hg
  obtain ⟨nv, hg⟩ : ∃ nv, newE (s0, s1, s2, s3) = nv := ⟨_, rfl⟩
  have HNE := Lib.hid hg
  clear hg
  obtain ⟨kt0, kt1, kt2, kt3, kt4, kt5⟩ := HVt.out.tb
  simp only at kt0 kt1 kt2 kt3 kt4 kt5
  go_wp2_with fail
  clear kt0 kt1 kt2 kt3 kt4 kt5
  have c3 := own_any (s0, s1, s2, s3) a0 len0 cap0 x0 es0 m2 HVt.out.2 HF.out
  refine c3.mono ?_
  intro e m3 hP
  obtain ⟨jb3, jn3, jp3, rfl, hb, hE0⟩ := own_in hP
  clear hP
  clear c3
  have hE : EntsAt m3 jb3 jn3 jp3 es0 := hE0.at
  clear hE0
  have hb2 : Below m2.heap.size m2 (m3.alloc (.cells #[.int .i64 s0, .int .i64 s1, .int .i64 s2, .int .i64 s3, .slice jb3 jn3 jp3, .int .u32 x0] 27)) := hb.trans (((Below.refl _ _).alloc (Nat.le_refl _) _).mono hb.size)
  replace HVt := Lib.hid (HVt.out.later hb2)
  replace HB := Lib.hid (HB.out.trans (hb2.mono HB.out.size))
  have HVw : Hid (Vt (m3.alloc (.cells #[.int .i64 s0, .int .i64 s1, .int .i64 s2, .int .i64 s3, .slice jb3 jn3 jp3, .int .u32 x0] 27)) m3.heap.size ((s0, s1, s2, s3), es0, x0) jb3 jn3 jp3) := Lib.hid (Vt.new (s := (s0, s1, s2, s3)) (x := x0) hE)
  obtain ⟨T3, hT3⟩ : ∃ T3, m3.heap.size = T3 := ⟨_, rfl⟩
  obtain ⟨W3, hW3⟩ : ∃ W3, m3.alloc (.cells #[.int .i64 s0, .int .i64 s1, .int .i64 s2, .int .i64 s3, .slice jb3 jn3 jp3, .int .u32 x0] 27) = W3 := ⟨_, rfl⟩
  rw [hT3] at HVw
  rw [hW3] at HB HVt HVw
  clear hb hb2 hE
  obtain ⟨kt0, kt1, kt2, kt3, kt4, kt5⟩ := HVt.out.tb
  simp only at kt0 kt1 kt2 kt3 kt4 kt5
  go_wp2_with fail
  clear hT3 hW3 kt0 kt1 kt2 kt3 kt4 kt5
  have c4 := tget_any (s0, s1, s2, s3) a0 len0 cap0 x0 es0 a1 a2 W3 HVt.out.2 HF.out HX.out HFi.out
  rw [HG.out] at c4
  refine c4.mono ?_
  rintro e m4 ⟨u, rfl, hb, hr0⟩
  clear c4
  have hr : Row m4 _ u ge := hr0
  obtain ⟨jb4, jp4, hu, hE⟩ := hr.at
  subst hu
  clear hr hr0
  have hb2 : Below W3.heap.size W3 (m4.alloc (.cells #[.int .i64 g0, .int .i64 g1, .int .i64 g2, .int .i64 g3, .slice jb4 ge.length jp4, .int .u32 gx] 27)) := hb.trans (((Below.refl _ _).alloc (Nat.le_refl _) _).mono hb.size)
  replace HVt := Lib.hid (HVt.out.later hb2)
  replace HVw := Lib.hid (HVw.out.later hb2)
  replace HB := Lib.hid (HB.out.trans (hb2.mono HB.out.size))
  have HVa : Hid (Vt (m4.alloc (.cells #[.int .i64 g0, .int .i64 g1, .int .i64 g2, .int .i64 g3, .slice jb4 ge.length jp4, .int .u32 gx] 27)) m4.heap.size ((g0, g1, g2, g3), ge, gx) jb4 ge.length jp4) := Lib.hid (Vt.new (s := (g0, g1, g2, g3)) (x := gx) hE)
  obtain ⟨T4, hT4⟩ : ∃ T4, m4.heap.size = T4 := ⟨_, rfl⟩
  obtain ⟨W4, hW4⟩ : ∃ W4, m4.alloc (.cells #[.int .i64 g0, .int .i64 g1, .int .i64 g2, .int .i64 g3, .slice jb4 ge.length jp4, .int .u32 gx] 27) = W4 := ⟨_, rfl⟩
  rw [hT4] at HVa
  rw [hW4] at HB HVt HVw HVa
  clear hb hb2 hE
  obtain ⟨kt0, kt1, kt2, kt3, kt4, kt5⟩ := HVt.out.tb
  simp only at kt0 kt1 kt2 kt3 kt4 kt5
  go_wp2_with fail
  clear hT4 hW4 kt0 kt1 kt2 kt3 kt4 kt5
  have c5 := get_any (s0, s1, s2, s3) a0 len0 cap0 x0 es0 a1 a2 W4 HVt.out.2 HF.out HFi.out
  rw [HG.out] at c5
  refine c5.mono ?_
  rintro e m5 ⟨jb5, jn5, jp5, rfl, hb, hE0⟩
  clear c5
  have hE : EntsAt m5 jb5 jn5 jp5 ge := hE0.at
  clear hE0
  have hb2 : Below W4.heap.size W4 (m5.alloc (.cells #[.int .i64 g0, .int .i64 g1, .int .i64 g2, .int .i64 g3, .slice jb5 jn5 jp5, .int .u32 gx] 27)) := hb.trans (((Below.refl _ _).alloc (Nat.le_refl _) _).mono hb.size)
  replace HVt := Lib.hid (HVt.out.later hb2)
  replace HVw := Lib.hid (HVw.out.later hb2)
  replace HVa := Lib.hid (HVa.out.later hb2)
  replace HB := Lib.hid (HB.out.trans (hb2.mono HB.out.size))
  have HVb : Hid (Vt (m5.alloc (.cells #[.int .i64 g0, .int .i64 g1, .int .i64 g2, .int .i64 g3, .slice jb5 jn5 jp5, .int .u32 gx] 27)) m5.heap.size ((g0, g1, g2, g3), ge, gx) jb5 jn5 jp5) := Lib.hid (Vt.new (s := (g0, g1, g2, g3)) (x := gx) hE)
  obtain ⟨T5, hT5⟩ : ∃ T5, m5.heap.size = T5 := ⟨_, rfl⟩
  obtain ⟨W5, hW5⟩ : ∃ W5, m5.alloc (.cells #[.int .i64 g0, .int .i64 g1, .int .i64 g2, .int .i64 g3, .slice jb5 jn5 jp5, .int .u32 gx] 27) = W5 := ⟨_, rfl⟩
  rw [hT5] at HVb
  rw [hW5] at HB HVt HVw HVa HVb
  clear hb hb2 hE
  obtain ⟨ka0, ka1, ka2, ka3, ka4, ka5⟩ := HVa.out.tb
  simp only at ka0 ka1 ka2 ka3 ka4 ka5
  obtain ⟨kb0, kb1, kb2, kb3, kb4, kb5⟩ := HVb.out.tb
  simp only at kb0 kb1 kb2 kb3 kb4 kb5
  go_wp2_with fail
  clear hT5 hW5 ka0 ka1 ka2 ka3 ka4 ka5 kb0 kb1 kb2 kb3 kb4 kb5
  have c6 := same_any (g0, g1, g2, g3) jb4 ge.length jp4 gx ge (g0, g1, g2, g3) jb5 jn5 jp5 gx ge W5 HVa.out.2 HVb.out.2
  rw [decide_eq_true rfl] at c6
  refine c6.mono ?_
  rintro e m6 ⟨rfl, hb⟩
  clear c6
  replace HVt := Lib.hid (HVt.out.later hb)
  replace HVw := Lib.hid (HVw.out.later hb)
  replace HVa := Lib.hid (HVa.out.later hb)
  replace HVb := Lib.hid (HVb.out.later hb)
  replace HB := Lib.hid (HB.out.trans (hb.mono HB.out.size))
  clear hb
  clear HVb
  obtain ⟨kt0, kt1, kt2, kt3, kt4, kt5⟩ := HVt.out.tb
  simp only at kt0 kt1 kt2 kt3 kt4 kt5
  go_wp2_with fail
  clear kt0 kt1 kt2 kt3 kt4 kt5
  have c7 := tset_any (s0, s1, s2, s3) a0 len0 cap0 x0 es0 a1 a2 a3 m6 HVt.out.2 HF.out HX.out HK.out HFi.out HVv.out
  rw [HS.out] at c7
  refine c7.mono ?_
  rintro e m7 ⟨u, rfl, hb, hr0⟩
  clear c7
  have hr : Row m7 _ u he := hr0
  obtain ⟨jb7, jp7, hu, hE⟩ := hr.at
  subst hu
  clear hr hr0
  have hb2 : Below m6.heap.size m6 (m7.alloc (.cells #[.int .i64 h0, .int .i64 h1, .int .i64 h2, .int .i64 h3, .slice jb7 he.length jp7, .int .u32 hx] 27)) := hb.trans (((Below.refl _ _).alloc (Nat.le_refl _) _).mono hb.size)
  replace HVt := Lib.hid (HVt.out.later hb2)
  replace HVw := Lib.hid (HVw.out.later hb2)
  replace HVa := Lib.hid (HVa.out.later hb2)
  replace HB := Lib.hid (HB.out.trans (hb2.mono HB.out.size))
  have HVc : Hid (Vt (m7.alloc (.cells #[.int .i64 h0, .int .i64 h1, .int .i64 h2, .int .i64 h3, .slice jb7 he.length jp7, .int .u32 hx] 27)) m7.heap.size ((h0, h1, h2, h3), he, hx) jb7 he.length jp7) := Lib.hid (Vt.new (s := (h0, h1, h2, h3)) (x := hx) hE)
  obtain ⟨T7, hT7⟩ : ∃ T7, m7.heap.size = T7 := ⟨_, rfl⟩
  obtain ⟨W7, hW7⟩ : ∃ W7, m7.alloc (.cells #[.int .i64 h0, .int .i64 h1, .int .i64 h2, .int .i64 h3, .slice jb7 he.length jp7, .int .u32 hx] 27) = W7 := ⟨_, rfl⟩
  rw [hT7] at HVc
  rw [hW7] at HB HVt HVw HVa HVc
  clear hb hb2 hE
  obtain ⟨kt0, kt1, kt2, kt3, kt4, kt5⟩ := HVt.out.tb
  simp only at kt0 kt1 kt2 kt3 kt4 kt5
  go_wp2_with fail
  clear hT7 hW7 kt0 kt1 kt2 kt3 kt4 kt5
  have c8 := set_any (s0, s1, s2, s3) a0 len0 cap0 x0 es0 a1 a2 a3 W7 HVt.out.2 HF.out HK.out HFi.out HVv.out
  rw [HS.out] at c8
  refine c8.mono ?_
  rintro e m8 ⟨jb8, jn8, jp8, rfl, hb, hE0⟩
  clear c8
  have hE : EntsAt m8 jb8 jn8 jp8 he := hE0.at
  clear hE0
  have hb2 : Below W7.heap.size W7 (m8.alloc (.cells #[.int .i64 h0, .int .i64 h1, .int .i64 h2, .int .i64 h3, .slice jb8 jn8 jp8, .int .u32 hx] 27)) := hb.trans (((Below.refl _ _).alloc (Nat.le_refl _) _).mono hb.size)
  replace HVt := Lib.hid (HVt.out.later hb2)
  replace HVw := Lib.hid (HVw.out.later hb2)
  replace HVa := Lib.hid (HVa.out.later hb2)
  replace HVc := Lib.hid (HVc.out.later hb2)
  replace HB := Lib.hid (HB.out.trans (hb2.mono HB.out.size))
  have HVd : Hid (Vt (m8.alloc (.cells #[.int .i64 h0, .int .i64 h1, .int .i64 h2, .int .i64 h3, .slice jb8 jn8 jp8, .int .u32 hx] 27)) m8.heap.size ((h0, h1, h2, h3), he, hx) jb8 jn8 jp8) := Lib.hid (Vt.new (s := (h0, h1, h2, h3)) (x := hx) hE)
  obtain ⟨T8, hT8⟩ : ∃ T8, m8.heap.size = T8 := ⟨_, rfl⟩
  obtain ⟨W8, hW8⟩ : ∃ W8, m8.alloc (.cells #[.int .i64 h0, .int .i64 h1, .int .i64 h2, .int .i64 h3, .slice jb8 jn8 jp8, .int .u32 hx] 27) = W8 := ⟨_, rfl⟩
  rw [hT8] at HVd
  rw [hW8] at HB HVt HVw HVa HVc HVd
  clear hb hb2 hE
  obtain ⟨kc0, kc1, kc2, kc3, kc4, kc5⟩ := HVc.out.tb
  simp only at kc0 kc1 kc2 kc3 kc4 kc5
  obtain ⟨kd0, kd1, kd2, kd3, kd4, kd5⟩ := HVd.out.tb
  simp only at kd0 kd1 kd2 kd3 kd4 kd5
  go_wp2_with fail
  clear hT8 hW8 kc0 kc1 kc2 kc3 kc4 kc5 kd0 kd1 kd2 kd3 kd4 kd5
  have c9 := same_any (h0, h1, h2, h3) jb7 he.length jp7 hx he (h0, h1, h2, h3) jb8 jn8 jp8 hx he W8 HVc.out.2 HVd.out.2
  rw [decide_eq_true rfl] at c9
  refine c9.mono ?_
  rintro e m9 ⟨rfl, hb⟩
  clear c9
  replace HVt := Lib.hid (HVt.out.later hb)
  replace HVw := Lib.hid (HVw.out.later hb)
  replace HVa := Lib.hid (HVa.out.later hb)
  replace HVc := Lib.hid (HVc.out.later hb)
  replace HVd := Lib.hid (HVd.out.later hb)
  replace HB := Lib.hid (HB.out.trans (hb.mono HB.out.size))
  clear hb
  clear HVc
  clear HVd
  obtain ⟨kt0, kt1, kt2, kt3, kt4, kt5⟩ := HVt.out.tb
  simp only at kt0 kt1 kt2 kt3 kt4 kt5
  go_wp2_with fail
  clear kt0 kt1 kt2 kt3 kt4 kt5
  have c10 := tdel_any (s0, s1, s2, s3) a0 len0 cap0 x0 es0 a1 m9 HVt.out.2 HF.out HX.out
  rw [HD.out] at c10
  refine c10.mono ?_
  rintro e m10 ⟨u, rfl, hb, hr0⟩
  clear c10
  have hr : Row m10 _ u de := hr0
  obtain ⟨jb10, jp10, hu, hE⟩ := hr.at
  subst hu
  clear hr hr0
  have hb2 : Below m9.heap.size m9 (m10.alloc (.cells #[.int .i64 d0, .int .i64 d1, .int .i64 d2, .int .i64 d3, .slice jb10 de.length jp10, .int .u32 dx] 27)) := hb.trans (((Below.refl _ _).alloc (Nat.le_refl _) _).mono hb.size)
  replace HVt := Lib.hid (HVt.out.later hb2)
  replace HVw := Lib.hid (HVw.out.later hb2)
  replace HVa := Lib.hid (HVa.out.later hb2)
  replace HB := Lib.hid (HB.out.trans (hb2.mono HB.out.size))
  have HVc : Hid (Vt (m10.alloc (.cells #[.int .i64 d0, .int .i64 d1, .int .i64 d2, .int .i64 d3, .slice jb10 de.length jp10, .int .u32 dx] 27)) m10.heap.size ((d0, d1, d2, d3), de, dx) jb10 de.length jp10) := Lib.hid (Vt.new (s := (d0, d1, d2, d3)) (x := dx) hE)
  obtain ⟨T10, hT10⟩ : ∃ T10, m10.heap.size = T10 := ⟨_, rfl⟩
  obtain ⟨W10, hW10⟩ : ∃ W10, m10.alloc (.cells #[.int .i64 d0, .int .i64 d1, .int .i64 d2, .int .i64 d3, .slice jb10 de.length jp10, .int .u32 dx] 27) = W10 := ⟨_, rfl⟩
  rw [hT10] at HVc
  rw [hW10] at HB HVt HVw HVa HVc
  clear hb hb2 hE
  obtain ⟨kt0, kt1, kt2, kt3, kt4, kt5⟩ := HVt.out.tb
  simp only at kt0 kt1 kt2 kt3 kt4 kt5
  go_wp2_with fail
  clear hT10 hW10 kt0 kt1 kt2 kt3 kt4 kt5
  have c11 := del_any (s0, s1, s2, s3) a0 len0 cap0 x0 es0 a1 W10 HVt.out.2 HF.out
  rw [HD.out] at c11
  refine c11.mono ?_
  rintro e m11 ⟨jb11, jn11, jp11, rfl, hb, hE0⟩
  clear c11
  have hE : EntsAt m11 jb11 jn11 jp11 de := hE0.at
  clear hE0
  have hb2 : Below W10.heap.size W10 (m11.alloc (.cells #[.int .i64 d0, .int .i64 d1, .int .i64 d2, .int .i64 d3, .slice jb11 jn11 jp11, .int .u32 dx] 27)) := hb.trans (((Below.refl _ _).alloc (Nat.le_refl _) _).mono hb.size)
  replace HVt := Lib.hid (HVt.out.later hb2)
  replace HVw := Lib.hid (HVw.out.later hb2)
  replace HVa := Lib.hid (HVa.out.later hb2)
  replace HVc := Lib.hid (HVc.out.later hb2)
  replace HB := Lib.hid (HB.out.trans (hb2.mono HB.out.size))
  have HVd : Hid (Vt (m11.alloc (.cells #[.int .i64 d0, .int .i64 d1, .int .i64 d2, .int .i64 d3, .slice jb11 jn11 jp11, .int .u32 dx] 27)) m11.heap.size ((d0, d1, d2, d3), de, dx) jb11 jn11 jp11) := Lib.hid (Vt.new (s := (d0, d1, d2, d3)) (x := dx) hE)
  obtain ⟨T11, hT11⟩ : ∃ T11, m11.heap.size = T11 := ⟨_, rfl⟩
  obtain ⟨W11, hW11⟩ : ∃ W11, m11.alloc (.cells #[.int .i64 d0, .int .i64 d1, .int .i64 d2, .int .i64 d3, .slice jb11 jn11 jp11, .int .u32 dx] 27) = W11 := ⟨_, rfl⟩
  rw [hT11] at HVd
  rw [hW11] at HB HVt HVw HVa HVc HVd
  clear hb hb2 hE
  obtain ⟨kc0, kc1, kc2, kc3, kc4, kc5⟩ := HVc.out.tb
  simp only at kc0 kc1 kc2 kc3 kc4 kc5
  obtain ⟨kd0, kd1, kd2, kd3, kd4, kd5⟩ := HVd.out.tb
  simp only at kd0 kd1 kd2 kd3 kd4 kd5
  go_wp2_with fail
  clear hT11 hW11 kc0 kc1 kc2 kc3 kc4 kc5 kd0 kd1 kd2 kd3 kd4 kd5
  have c12 := same_any (d0, d1, d2, d3) jb10 de.length jp10 dx de (d0, d1, d2, d3) jb11 jn11 jp11 dx de W11 HVc.out.2 HVd.out.2
  rw [decide_eq_true rfl] at c12
  refine c12.mono ?_
  rintro e m12 ⟨rfl, hb⟩
  clear c12
  replace HVt := Lib.hid (HVt.out.later hb)
  replace HVw := Lib.hid (HVw.out.later hb)
  replace HVa := Lib.hid (HVa.out.later hb)
  replace HVc := Lib.hid (HVc.out.later hb)
  replace HVd := Lib.hid (HVd.out.later hb)
  replace HB := Lib.hid (HB.out.trans (hb.mono HB.out.size))
  clear hb
  clear HVc
  clear HVd
  obtain ⟨kt0, kt1, kt2, kt3, kt4, kt5⟩ := HVt.out.tb
  simp only at kt0 kt1 kt2 kt3 kt4 kt5
  go_wp2_with fail
  clear kt0 kt1 kt2 kt3 kt4 kt5
  have c13 := tpush_any (s0, s1, s2, s3) a0 len0 cap0 x0 es0 a3 m12 HVt.out.2 HF.out HX.out HVv.out
  rw [HP.out] at c13
  refine c13.mono ?_
  rintro e m13 ⟨u, rfl, hb, hr0⟩
  clear c13
  have hr : Row m13 _ u pe := hr0
  obtain ⟨jb13, jp13, hu, hE⟩ := hr.at
  subst hu
  clear hr hr0
  have hb2 : Below m12.heap.size m12 (m13.alloc (.cells #[.int .i64 p0, .int .i64 p1, .int .i64 p2, .int .i64 p3, .slice jb13 pe.length jp13, .int .u32 px] 27)) := hb.trans (((Below.refl _ _).alloc (Nat.le_refl _) _).mono hb.size)
  replace HVt := Lib.hid (HVt.out.later hb2)
  replace HVw := Lib.hid (HVw.out.later hb2)
  replace HVa := Lib.hid (HVa.out.later hb2)
  replace HB := Lib.hid (HB.out.trans (hb2.mono HB.out.size))
  have HVc : Hid (Vt (m13.alloc (.cells #[.int .i64 p0, .int .i64 p1, .int .i64 p2, .int .i64 p3, .slice jb13 pe.length jp13, .int .u32 px] 27)) m13.heap.size ((p0, p1, p2, p3), pe, px) jb13 pe.length jp13) := Lib.hid (Vt.new (s := (p0, p1, p2, p3)) (x := px) hE)
  obtain ⟨T13, hT13⟩ : ∃ T13, m13.heap.size = T13 := ⟨_, rfl⟩
  obtain ⟨W13, hW13⟩ : ∃ W13, m13.alloc (.cells #[.int .i64 p0, .int .i64 p1, .int .i64 p2, .int .i64 p3, .slice jb13 pe.length jp13, .int .u32 px] 27) = W13 := ⟨_, rfl⟩
  rw [hT13] at HVc
  rw [hW13] at HB HVt HVw HVa HVc
  clear hb hb2 hE
  obtain ⟨kt0, kt1, kt2, kt3, kt4, kt5⟩ := HVt.out.tb
  simp only at kt0 kt1 kt2 kt3 kt4 kt5
  go_wp2_with fail
  clear hT13 hW13 kt0 kt1 kt2 kt3 kt4 kt5
  have c14 := push_any (s0, s1, s2, s3) a0 len0 cap0 x0 es0 a3 W13 HVt.out.2 HF.out HX.out HVv.out
  rw [HP.out] at c14
  refine c14.mono ?_
  rintro e m14 ⟨jb14, jn14, jp14, rfl, hb, hE0⟩
  clear c14
  have hE : EntsAt m14 jb14 jn14 jp14 pe := hE0.at
  clear hE0
  have hb2 : Below W13.heap.size W13 (m14.alloc (.cells #[.int .i64 p0, .int .i64 p1, .int .i64 p2, .int .i64 p3, .slice jb14 jn14 jp14, .int .u32 px] 27)) := hb.trans (((Below.refl _ _).alloc (Nat.le_refl _) _).mono hb.size)
  replace HVt := Lib.hid (HVt.out.later hb2)
  replace HVw := Lib.hid (HVw.out.later hb2)
  replace HVa := Lib.hid (HVa.out.later hb2)
  replace HVc := Lib.hid (HVc.out.later hb2)
  replace HB := Lib.hid (HB.out.trans (hb2.mono HB.out.size))
  have HVd : Hid (Vt (m14.alloc (.cells #[.int .i64 p0, .int .i64 p1, .int .i64 p2, .int .i64 p3, .slice jb14 jn14 jp14, .int .u32 px] 27)) m14.heap.size ((p0, p1, p2, p3), pe, px) jb14 jn14 jp14) := Lib.hid (Vt.new (s := (p0, p1, p2, p3)) (x := px) hE)
  obtain ⟨T14, hT14⟩ : ∃ T14, m14.heap.size = T14 := ⟨_, rfl⟩
  obtain ⟨W14, hW14⟩ : ∃ W14, m14.alloc (.cells #[.int .i64 p0, .int .i64 p1, .int .i64 p2, .int .i64 p3, .slice jb14 jn14 jp14, .int .u32 px] 27) = W14 := ⟨_, rfl⟩
  rw [hT14] at HVd
  rw [hW14] at HB HVt HVw HVa HVc HVd
  clear hb hb2 hE
  obtain ⟨kc0, kc1, kc2, kc3, kc4, kc5⟩ := HVc.out.tb
  simp only at kc0 kc1 kc2 kc3 kc4 kc5
  obtain ⟨kd0, kd1, kd2, kd3, kd4, kd5⟩ := HVd.out.tb
  simp only at kd0 kd1 kd2 kd3 kd4 kd5
  go_wp2_with fail
  clear hT14 hW14 kc0 kc1 kc2 kc3 kc4 kc5 kd0 kd1 kd2 kd3 kd4 kd5
  have c15 := same_any (p0, p1, p2, p3) jb13 pe.length jp13 px pe (p0, p1, p2, p3) jb14 jn14 jp14 px pe W14 HVc.out.2 HVd.out.2
  rw [decide_eq_true rfl] at c15
  refine c15.mono ?_
  rintro e m15 ⟨rfl, hb⟩
  clear c15
  replace HVt := Lib.hid (HVt.out.later hb)
  replace HVw := Lib.hid (HVw.out.later hb)
  replace HVa := Lib.hid (HVa.out.later hb)
  replace HVc := Lib.hid (HVc.out.later hb)
  replace HVd := Lib.hid (HVd.out.later hb)
  replace HB := Lib.hid (HB.out.trans (hb.mono HB.out.size))
  clear hb
  clear HVc
  clear HVd
  obtain ⟨kt0, kt1, kt2, kt3, kt4, kt5⟩ := HVt.out.tb
  simp only at kt0 kt1 kt2 kt3 kt4 kt5
  go_wp2_with fail
  clear kt0 kt1 kt2 kt3 kt4 kt5
  have c16 := tpop_any (s0, s1, s2, s3) a0 len0 cap0 x0 es0 m15 HVt.out.2 HF.out HX.out
  rw [HQ.out] at c16
  refine c16.mono ?_
  rintro e m16 ⟨u, rfl, hb, hr0⟩
  clear c16
  have hr : Row m16 _ u qe := hr0
  obtain ⟨jb16, jp16, hu, hE⟩ := hr.at
  subst hu
  clear hr hr0
  have hb2 : Below m15.heap.size m15 (m16.alloc (.cells #[.int .i64 q0, .int .i64 q1, .int .i64 q2, .int .i64 q3, .slice jb16 qe.length jp16, .int .u32 qx] 27)) := hb.trans (((Below.refl _ _).alloc (Nat.le_refl _) _).mono hb.size)
  replace HVt := Lib.hid (HVt.out.later hb2)
  replace HVw := Lib.hid (HVw.out.later hb2)
  replace HVa := Lib.hid (HVa.out.later hb2)
  replace HB := Lib.hid (HB.out.trans (hb2.mono HB.out.size))
  have HVc : Hid (Vt (m16.alloc (.cells #[.int .i64 q0, .int .i64 q1, .int .i64 q2, .int .i64 q3, .slice jb16 qe.length jp16, .int .u32 qx] 27)) m16.heap.size ((q0, q1, q2, q3), qe, qx) jb16 qe.length jp16) := Lib.hid (Vt.new (s := (q0, q1, q2, q3)) (x := qx) hE)
  obtain ⟨T16, hT16⟩ : ∃ T16, m16.heap.size = T16 := ⟨_, rfl⟩
  obtain ⟨W16, hW16⟩ : ∃ W16, m16.alloc (.cells #[.int .i64 q0, .int .i64 q1, .int .i64 q2, .int .i64 q3, .slice jb16 qe.length jp16, .int .u32 qx] 27) = W16 := ⟨_, rfl⟩
  rw [hT16] at HVc
  rw [hW16] at HB HVt HVw HVa HVc
  clear hb hb2 hE
  obtain ⟨kt0, kt1, kt2, kt3, kt4, kt5⟩ := HVt.out.tb
  simp only at kt0 kt1 kt2 kt3 kt4 kt5
  go_wp2_with fail
  clear hT16 hW16 kt0 kt1 kt2 kt3 kt4 kt5
  have c17 := pop_any (s0, s1, s2, s3) a0 len0 cap0 x0 es0 W16 HVt.out.2 HF.out
  rw [HQ.out] at c17
  refine c17.mono ?_
  rintro e m17 ⟨jb17, jn17, jp17, rfl, hb, hE0⟩
  clear c17
  have hE : EntsAt m17 jb17 jn17 jp17 qe := hE0.at
  clear hE0
  have hb2 : Below W16.heap.size W16 (m17.alloc (.cells #[.int .i64 q0, .int .i64 q1, .int .i64 q2, .int .i64 q3, .slice jb17 jn17 jp17, .int .u32 qx] 27)) := hb.trans (((Below.refl _ _).alloc (Nat.le_refl _) _).mono hb.size)
  replace HVt := Lib.hid (HVt.out.later hb2)
  replace HVw := Lib.hid (HVw.out.later hb2)
  replace HVa := Lib.hid (HVa.out.later hb2)
  replace HVc := Lib.hid (HVc.out.later hb2)
  replace HB := Lib.hid (HB.out.trans (hb2.mono HB.out.size))
  have HVd : Hid (Vt (m17.alloc (.cells #[.int .i64 q0, .int .i64 q1, .int .i64 q2, .int .i64 q3, .slice jb17 jn17 jp17, .int .u32 qx] 27)) m17.heap.size ((q0, q1, q2, q3), qe, qx) jb17 jn17 jp17) := Lib.hid (Vt.new (s := (q0, q1, q2, q3)) (x := qx) hE)
  obtain ⟨T17, hT17⟩ : ∃ T17, m17.heap.size = T17 := ⟨_, rfl⟩
  obtain ⟨W17, hW17⟩ : ∃ W17, m17.alloc (.cells #[.int .i64 q0, .int .i64 q1, .int .i64 q2, .int .i64 q3, .slice jb17 jn17 jp17, .int .u32 qx] 27) = W17 := ⟨_, rfl⟩
  rw [hT17] at HVd
  rw [hW17] at HB HVt HVw HVa HVc HVd
  clear hb hb2 hE
  obtain ⟨kc0, kc1, kc2, kc3, kc4, kc5⟩ := HVc.out.tb
  simp only at kc0 kc1 kc2 kc3 kc4 kc5
  obtain ⟨kd0, kd1, kd2, kd3, kd4, kd5⟩ := HVd.out.tb
  simp only at kd0 kd1 kd2 kd3 kd4 kd5
  go_wp2_with fail
  clear hT17 hW17 kc0 kc1 kc2 kc3 kc4 kc5 kd0 kd1 kd2 kd3 kd4 kd5
  have c18 := same_any (q0, q1, q2, q3) jb16 qe.length jp16 qx qe (q0, q1, q2, q3) jb17 jn17 jp17 qx qe W17 HVc.out.2 HVd.out.2
  rw [decide_eq_true rfl] at c18
  refine c18.mono ?_
  rintro e m18 ⟨rfl, hb⟩
  clear c18
  replace HVt := Lib.hid (HVt.out.later hb)
  replace HVw := Lib.hid (HVw.out.later hb)
  replace HVa := Lib.hid (HVa.out.later hb)
  replace HVc := Lib.hid (HVc.out.later hb)
  replace HVd := Lib.hid (HVd.out.later hb)
  replace HB := Lib.hid (HB.out.trans (hb.mono HB.out.size))
  clear hb
  clear HVc
  clear HVd
  obtain ⟨kt0, kt1, kt2, kt3, kt4, kt5⟩ := HVt.out.tb
  simp only at kt0 kt1 kt2 kt3 kt4 kt5
  go_wp2_with fail
  clear kt0 kt1 kt2 kt3 kt4 kt5
  have c19 := tnew_any s0 s1 s2 s3 m18
  rw [HN.out, HNE.out] at c19
  refine c19.mono ?_
  rintro e m19 ⟨u, rfl, hb, hr0⟩
  clear c19
  have hr : Row m19 _ u ne := hr0
  obtain ⟨jb19, jp19, hu, hE⟩ := hr.at
  subst hu
  clear hr hr0
  have hb2 : Below m18.heap.size m18 (m19.alloc (.cells #[.int .i64 n0, .int .i64 n1, .int .i64 n2, .int .i64 n3, .slice jb19 ne.length jp19, .int .u32 nx] 27)) := hb.trans (((Below.refl _ _).alloc (Nat.le_refl _) _).mono hb.size)
  replace HVt := Lib.hid (HVt.out.later hb2)
  replace HVw := Lib.hid (HVw.out.later hb2)
  replace HVa := Lib.hid (HVa.out.later hb2)
  replace HB := Lib.hid (HB.out.trans (hb2.mono HB.out.size))
  have HVc : Hid (Vt (m19.alloc (.cells #[.int .i64 n0, .int .i64 n1, .int .i64 n2, .int .i64 n3, .slice jb19 ne.length jp19, .int .u32 nx] 27)) m19.heap.size ((n0, n1, n2, n3), ne, nx) jb19 ne.length jp19) := Lib.hid (Vt.new (s := (n0, n1, n2, n3)) (x := nx) hE)
  obtain ⟨T19, hT19⟩ : ∃ T19, m19.heap.size = T19 := ⟨_, rfl⟩
  obtain ⟨W19, hW19⟩ : ∃ W19, m19.alloc (.cells #[.int .i64 n0, .int .i64 n1, .int .i64 n2, .int .i64 n3, .slice jb19 ne.length jp19, .int .u32 nx] 27) = W19 := ⟨_, rfl⟩
  rw [hT19] at HVc
  rw [hW19] at HB HVt HVw HVa HVc
  clear hb hb2 hE
  obtain ⟨kt0, kt1, kt2, kt3, kt4, kt5⟩ := HVt.out.tb
  simp only at kt0 kt1 kt2 kt3 kt4 kt5
  go_wp2_with fail
  clear hT19 hW19 kt0 kt1 kt2 kt3 kt4 kt5
  have c20 := new_any s0 s1 s2 s3 W19
  rw [HN.out, HNE.out] at c20
  refine c20.mono ?_
  rintro e m20 ⟨jb20, jn20, jp20, rfl, hb, hE0⟩
  clear c20
  have hE : EntsAt m20 jb20 jn20 jp20 ne := hE0.at
  clear hE0
  have hb2 : Below W19.heap.size W19 (m20.alloc (.cells #[.int .i64 n0, .int .i64 n1, .int .i64 n2, .int .i64 n3, .slice jb20 jn20 jp20, .int .u32 nx] 27)) := hb.trans (((Below.refl _ _).alloc (Nat.le_refl _) _).mono hb.size)
  replace HVt := Lib.hid (HVt.out.later hb2)
  replace HVw := Lib.hid (HVw.out.later hb2)
  replace HVa := Lib.hid (HVa.out.later hb2)
  replace HVc := Lib.hid (HVc.out.later hb2)
  replace HB := Lib.hid (HB.out.trans (hb2.mono HB.out.size))
  have HVd : Hid (Vt (m20.alloc (.cells #[.int .i64 n0, .int .i64 n1, .int .i64 n2, .int .i64 n3, .slice jb20 jn20 jp20, .int .u32 nx] 27)) m20.heap.size ((n0, n1, n2, n3), ne, nx) jb20 jn20 jp20) := Lib.hid (Vt.new (s := (n0, n1, n2, n3)) (x := nx) hE)
  obtain ⟨T20, hT20⟩ : ∃ T20, m20.heap.size = T20 := ⟨_, rfl⟩
  obtain ⟨W20, hW20⟩ : ∃ W20, m20.alloc (.cells #[.int .i64 n0, .int .i64 n1, .int .i64 n2, .int .i64 n3, .slice jb20 jn20 jp20, .int .u32 nx] 27) = W20 := ⟨_, rfl⟩
  rw [hT20] at HVd
  rw [hW20] at HB HVt HVw HVa HVc HVd
  clear hb hb2 hE
  obtain ⟨kc0, kc1, kc2, kc3, kc4, kc5⟩ := HVc.out.tb
  simp only at kc0 kc1 kc2 kc3 kc4 kc5
  obtain ⟨kd0, kd1, kd2, kd3, kd4, kd5⟩ := HVd.out.tb
  simp only at kd0 kd1 kd2 kd3 kd4 kd5
  go_wp2_with fail
  clear hT20 hW20 kc0 kc1 kc2 kc3 kc4 kc5 kd0 kd1 kd2 kd3 kd4 kd5
  have c21 := same_any (n0, n1, n2, n3) jb19 ne.length jp19 nx ne (n0, n1, n2, n3) jb20 jn20 jp20 nx ne W20 HVc.out.2 HVd.out.2
  rw [decide_eq_true rfl] at c21
  refine c21.mono ?_
  rintro e m21 ⟨rfl, hb⟩
  clear c21
  replace HVt := Lib.hid (HVt.out.later hb)
  replace HVw := Lib.hid (HVw.out.later hb)
  replace HVa := Lib.hid (HVa.out.later hb)
  replace HVc := Lib.hid (HVc.out.later hb)
  replace HVd := Lib.hid (HVd.out.later hb)
  replace HB := Lib.hid (HB.out.trans (hb.mono HB.out.size))
  clear hb
  clear HVc
  clear HVd
  obtain ⟨qs, hqs⟩ : ∃ qs, decide ((((s0, s1, s2, s3), es0, x0) : Tb) = ((g0, g1, g2, g3), ge, gx)) = qs := ⟨_, rfl⟩
  obtain ⟨qm, hqm⟩ : ∃ qm, mayTb ((s0, s1, s2, s3), es0, x0) = qm := ⟨_, rfl⟩
  have C1 : Hid (∀ W', EntsAt W' a0 len0 cap0 es0 → EntsAt W' jb3 jn3 jp3 es0 → Calls Try.prog 17 #[tbV (s0, s1, s2, s3) (.slice a0 len0 cap0) x0, tbV (s0, s1, s2, s3) (.slice jb3 jn3 jp3) x0] W' fun e w' => e = .returned (.bool true) ∧ Below W'.heap.size W' w') := Lib.hid (fun W' h h' => by
    have c := same_any (s0, s1, s2, s3) a0 len0 cap0 x0 es0 (s0, s1, s2, s3) jb3 jn3 jp3 x0 es0 W' h h'
    rw [decide_eq_true rfl] at c
    exact c)
  have C2 : Hid (∀ W', EntsAt W' a0 len0 cap0 es0 → Calls Try.prog 28 #[tbV (s0, s1, s2, s3) (.slice a0 len0 cap0) x0] W' fun e w' => e = .returned (.bool qm) ∧ Below W'.heap.size W' w') := Lib.hid (fun W' h => by
    rw [← hqm]
    exact tmay_any (s0, s1, s2, s3) a0 len0 cap0 x0 es0 W' h HX.out)
  have C3 : Hid (∀ W', EntsAt W' a0 len0 cap0 es0 → Calls Try.prog 29 #[tbV (s0, s1, s2, s3) (.slice a0 len0 cap0) x0] W' fun e w' => e = .returned (.bool qm) ∧ Below W'.heap.size W' w') := Lib.hid (fun W' h => by
    rw [← hqm]
    exact mayTb_any (s0, s1, s2, s3) a0 len0 cap0 x0 es0 W' h)
  have C4 : Hid (∀ W', EntsAt W' a0 len0 cap0 es0 → EntsAt W' jb4 ge.length jp4 ge → Calls Try.prog 30 #[tbV (s0, s1, s2, s3) (.slice a0 len0 cap0) x0, tbV (g0, g1, g2, g3) (.slice jb4 ge.length jp4) gx] W' fun e w' => e = .returned (.bool qs) ∧ Below W'.heap.size W' w') := Lib.hid (fun W' h h' => by
    rw [← hqs]
    exact tsame_any (s0, s1, s2, s3) a0 len0 cap0 x0 es0 (g0, g1, g2, g3) jb4 ge.length jp4 gx ge W' h h')
  have C5 : Hid (∀ W', EntsAt W' a0 len0 cap0 es0 → EntsAt W' jb4 ge.length jp4 ge → Calls Try.prog 17 #[tbV (s0, s1, s2, s3) (.slice a0 len0 cap0) x0, tbV (g0, g1, g2, g3) (.slice jb4 ge.length jp4) gx] W' fun e w' => e = .returned (.bool qs) ∧ Below W'.heap.size W' w') := Lib.hid (fun W' h h' => by
    rw [← hqs]
    exact same_any (s0, s1, s2, s3) a0 len0 cap0 x0 es0 (g0, g1, g2, g3) jb4 ge.length jp4 gx ge W' h h')
  have HKK : Hid (∀ w', Below m21.heap.size m21 w' → w'.cell? ⟨w.heap.size, 0, none⟩ = some (.int .i64 s0) ∧ w'.cell? ⟨w.heap.size, 1, none⟩ = some (.int .i64 s1) ∧ w'.cell? ⟨w.heap.size, 2, none⟩ = some (.int .i64 s2) ∧ w'.cell? ⟨w.heap.size, 3, none⟩ = some (.int .i64 s3) ∧ w'.cell? ⟨w.heap.size, 4, none⟩ = some (.slice a0 len0 cap0) ∧ w'.cell? ⟨w.heap.size, 5, none⟩ = some (.int .u32 x0) ∧ w'.cell? ⟨T3, 0, none⟩ = some (.int .i64 s0) ∧ w'.cell? ⟨T3, 1, none⟩ = some (.int .i64 s1) ∧ w'.cell? ⟨T3, 2, none⟩ = some (.int .i64 s2) ∧ w'.cell? ⟨T3, 3, none⟩ = some (.int .i64 s3) ∧ w'.cell? ⟨T3, 4, none⟩ = some (.slice jb3 jn3 jp3) ∧ w'.cell? ⟨T3, 5, none⟩ = some (.int .u32 x0) ∧ w'.cell? ⟨T4, 0, none⟩ = some (.int .i64 g0) ∧ w'.cell? ⟨T4, 1, none⟩ = some (.int .i64 g1) ∧ w'.cell? ⟨T4, 2, none⟩ = some (.int .i64 g2) ∧ w'.cell? ⟨T4, 3, none⟩ = some (.int .i64 g3) ∧ w'.cell? ⟨T4, 4, none⟩ = some (.slice jb4 ge.length jp4) ∧ w'.cell? ⟨T4, 5, none⟩ = some (.int .u32 gx) ∧ Below m21.heap.size m21 w') := Lib.hid (fun w' h => by
    obtain ⟨tc0, tc1, tc2, tc3, tc4, tc5⟩ := (HVt.out.later h).tb
    obtain ⟨wc0, wc1, wc2, wc3, wc4, wc5⟩ := (HVw.out.later h).tb
    obtain ⟨ac0, ac1, ac2, ac3, ac4, ac5⟩ := (HVa.out.later h).tb
    exact ⟨tc0, tc1, tc2, tc3, tc4, tc5, wc0, wc1, wc2, wc3, wc4, wc5, ac0, ac1, ac2, ac3, ac4, ac5, h⟩)
  have hq0 : Below m21.heap.size m21 m21.drew := (Below.refl _ _).drew
  have r1 : (qm == qm) = true := by simp
  have r2 : (qs == qs) = true := by simp
  clear hqs hqm
  obtain ⟨d0, d1, d2, d3, d4, d5, d6, d7, d8, d9, d10, d11, d12, d13, d14, d15, d16, d17, _⟩ := HKK.out _ (Below.refl _ _)
  go_wp2_with fail
  go_region_held3 (fun w' => w'.cell? ⟨w.heap.size, 0, none⟩ = some (.int .i64 s0) ∧ w'.cell? ⟨w.heap.size, 1, none⟩ = some (.int .i64 s1) ∧ w'.cell? ⟨w.heap.size, 2, none⟩ = some (.int .i64 s2) ∧ w'.cell? ⟨w.heap.size, 3, none⟩ = some (.int .i64 s3) ∧ w'.cell? ⟨w.heap.size, 4, none⟩ = some (.slice a0 len0 cap0) ∧ w'.cell? ⟨w.heap.size, 5, none⟩ = some (.int .u32 x0) ∧ w'.cell? ⟨T3, 0, none⟩ = some (.int .i64 s0) ∧ w'.cell? ⟨T3, 1, none⟩ = some (.int .i64 s1) ∧ w'.cell? ⟨T3, 2, none⟩ = some (.int .i64 s2) ∧ w'.cell? ⟨T3, 3, none⟩ = some (.int .i64 s3) ∧ w'.cell? ⟨T3, 4, none⟩ = some (.slice jb3 jn3 jp3) ∧ w'.cell? ⟨T3, 5, none⟩ = some (.int .u32 x0) ∧ w'.cell? ⟨T4, 0, none⟩ = some (.int .i64 g0) ∧ w'.cell? ⟨T4, 1, none⟩ = some (.int .i64 g1) ∧ w'.cell? ⟨T4, 2, none⟩ = some (.int .i64 g2) ∧ w'.cell? ⟨T4, 3, none⟩ = some (.int .i64 g3) ∧ w'.cell? ⟨T4, 4, none⟩ = some (.slice jb4 ge.length jp4) ∧ w'.cell? ⟨T4, 5, none⟩ = some (.int .u32 gx) ∧ Below m21.heap.size m21 w')
      (first
        | exact HKK.out _ hq0
        | exact hS1
        | exact hS2
        | exact hS3
        | exact hS4
        | exact hS5)
      (first
        | (have hq := hS4; go_at_call 17; refine (C5.out _ (HVt.out.2.below hq4) (HVa.out.2.below hq4)).mono ?_; rintro e z5 ⟨rfl, hg5⟩; have hq5 := hq4.trans (hg5.mono hq4.size); have hS5 := HKK.out _ hq5)
        | (go_at_call 17; refine (C1.out _ (HVt.out.2.below hq0) (HVw.out.2.below hq0)).mono ?_; rintro e z1 ⟨rfl, hg1⟩; have hq1 := hq0.trans (hg1.mono hq0.size); have hS1 := HKK.out _ hq1)
        | (go_at_call 28; refine (C2.out _ (HVt.out.2.below hq1)).mono ?_; rintro e z2 ⟨rfl, hg2⟩; have hq2 := hq1.trans (hg2.mono hq1.size); have hS2 := HKK.out _ hq2)
        | (go_at_call 29; refine (C3.out _ (HVt.out.2.below hq2)).mono ?_; rintro e z3 ⟨rfl, hg3⟩; have hq3 := hq2.trans (hg3.mono hq2.size); have hS3 := HKK.out _ hq3)
        | (go_at_call 30; refine (C4.out _ (HVt.out.2.below hq3) (HVa.out.2.below hq3)).mono ?_; rintro e z4 ⟨rfl, hg4⟩; have hq4 := hq3.trans (hg4.mono hq3.size); have hS4 := HKK.out _ hq4))
  have HZ := Lib.hid (HB.out.trans (hq5.mono HB.out.size))
  clear hS1 hS2 hS3 hS4 hS5 hg1 hg2 hg3 hg4 hg5 hq1 hq2 hq3 hq4 hq5
  go_wp2
  go_ret
  exact ⟨rfl, HZ.out⟩


theorem own : ownKnob Try.prog.godebug = none := by kernel_rfl
theorem laidOut : laidOutB Try.prog = true := by kernel_rfl
set_option maxRecDepth 100000 in
theorem lifted (os : Os) (started : os.Started) (H : Type) (enc : TypeId × Value → H) :
    ReturnsInHanded {} Try.checked os 3 .any (Rows.tableTellsSpec.pre6 enc Try.prog Try.f3 Rows.tableTellsRow.domain false) (Rows.tableTellsSpec.post enc Try.prog Try.f3 false true false false) := by
  refine returnsInHanded_of_change (C := Try.checked) own started (by kernel_rfl) Try.func3
    (ChangeSpec.witness6 (enc := enc) (C := Try.checked) false ⟨#[], #[.agg #[.int .i64 0, .int .i64 0, .int .i64 0, .int .i64 0, .slice none 0 0, .int .u32 0], .int .u32 0, .int .u32 0, .int .u32 0], []⟩ 8 (by kernel_rfl) (by kernel_rfl) (by kernel_rfl) (by kernel_rfl)) ?_
  intro W base args ds gs before hval0 hW hcnd _
  have hval : ∀ (j : Nat) t v, Try.f3.params[j]? = some t → args[j]? = some v → Value.okWide Try.prog W .any base t v := hval0
  have hW' := hW
  obtain ⟨p, q, hA0, hV, rfl, hfz, hnd⟩ := hW
  have hA : DataW.TrodAll enc Try.prog W 0 (fun _ => true) true Try.f3.params.toList args.toList ds p := hA0
  rw [Try.params3] at hA hval
  obtain ⟨u0, vs0, e0, ds0, p0, q0, hargs, rfl, rfl, h0, t0⟩ := trodAll_cons hA
  obtain ⟨u1, vs1, e1, ds1, p1, q1, rfl, rfl, rfl, h1, t1⟩ := trodAll_cons t0
  obtain ⟨u2, vs2, e2, ds2, p2, q2, rfl, rfl, rfl, h2, t2⟩ := trodAll_cons t1
  obtain ⟨u3, vs3, e3, ds3, p3, q3, rfl, rfl, rfl, h3, t3⟩ := trodAll_cons t2
  obtain ⟨rfl, rfl, rfl⟩ := trodAll_nil t3
  obtain rfl : args = #[u0, u1, u2, u3] := by cases args; simp_all
  obtain ⟨rfl, rfl⟩ := trodVars_none hV
  have y0 := h0
  have lt0 : ∀ x ∈ p0, x.block < W.heap.size := by obtain ⟨m, hm⟩ := y0; exact DataW.trod_lt m _ _ _ hm
  have y1 := h1
  have lt1 : ∀ x ∈ p1, x.block < W.heap.size := by obtain ⟨m, hm⟩ := y1; exact DataW.trod_lt m _ _ _ hm
  have y2 := h2
  have lt2 : ∀ x ∈ p2, x.block < W.heap.size := by obtain ⟨m, hm⟩ := y2; exact DataW.trod_lt m _ _ _ hm
  have y3 := h3
  have lt3 : ∀ x ∈ p3, x.block < W.heap.size := by obtain ⟨m, hm⟩ := y3; exact DataW.trod_lt m _ _ _ hm
  obtain ⟨s0, a0, len0, cap0, x0, es0, rfl, w0, yx0⟩ := open_tb (hval 0 27 u0 rfl rfl) h0
  obtain ⟨a1, rfl, _, _, w1'⟩ := open_int Try.underlying25 (hval 1 25 u1 rfl rfl) h1
  have w1 : isW a1 := bounds_u32 w1'
  obtain ⟨a2, rfl, _, _, w2'⟩ := open_int Try.underlying25 (hval 2 25 u2 rfl rfl) h2
  have w2 : isW a2 := bounds_u32 w2'
  obtain ⟨a3, rfl, _, _, w3'⟩ := open_int Try.underlying25 (hval 3 25 u3 rfl rfl) h3
  have w3 : isW a3 := bounds_u32 w3'
  clear hA0 hval0
  refine (walk s0 a0 len0 cap0 x0 es0 a1 w1 a2 w2 a3 w3 W w0 yx0).mono fun e W' ⟨he, bel⟩ => ?_
  subst he
  exact ⟨_, rfl, _, _, _, [], _, [], hW', trodAll_mk1 (shut_bool Try.underlying4 _), (trodAll_cons_mk (Below.trod laidOut (by kernel_rfl) (of_decide_eq_true (by kernel_rfl)) y0 bel lt0) (trodAll_cons_mk (Below.trod laidOut (by kernel_rfl) (of_decide_eq_true (by kernel_rfl)) y1 bel lt1) (trodAll_cons_mk (Below.trod laidOut (by kernel_rfl) (of_decide_eq_true (by kernel_rfl)) y2 bel lt2) (trodAll_cons_mk (Below.trod laidOut (by kernel_rfl) (of_decide_eq_true (by kernel_rfl)) y3 bel lt3) trodAll_mk0)))), rfl, bel.frame _, fun h => by cases h⟩

theorem over : Rows.tableTellsRow.holds Try.pinned (OpenSpec.ofChange Rows.tableTellsSpec) :=
  OpenClaim.holds_of_wide 3 Try.f3 rfl rfl rfl rfl rfl rfl rfl ⟨rfl, rfl, rfl, rfl, rfl⟩ rfl rfl rfl rfl rfl (by kernel_rfl) Try.func3 (by kernel_rfl)
    (of_decide_eq_true (by kernel_rfl)) (by unfold Func.isWrapper; first | (rw [if_pos (by decide +kernel)]; kernel_rfl) | (rw [if_neg (by decide +kernel)]; exact ⟨rfl, rfl⟩))
    (fun os started H enc _ => lifted os started H enc)

theorem proved : Rows.TableTellsSaid := over
#print axioms proved
end Go.Proofs.Ytlbmgablkphioaa.tableTells
