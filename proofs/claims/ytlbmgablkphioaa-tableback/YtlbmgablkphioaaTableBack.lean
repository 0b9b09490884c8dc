/-
  What is set is got, and every other word of every other key is as it was, unless an Lru lets it go; never are there more than Cap.
  Conditions: none.
-/
import Derived.Test.YtlbmgablkphioaaRows
import Derived.Test.YtlbmgablkphioaaX1
import Derived.Test.YtlbmgablkphioaaPL2
import Derived.WalkKit
import Derived.ProofKit
import Derived.OpenShut
import Derived.ChangeOld
import Derived.Below
namespace Go.Proofs.Ytlbmgablkphioaa.tableBack
open Go.ChangeShapes Go.WideShapes Go.ChangeAt Go.RowKit
set_option linter.unusedVariables false

set_option maxRecDepth 100000 in
set_option maxHeartbeats 8000000 in
theorem walk (s0 : Sc) (a0 : Option Addr) (len0 cap0 : Nat) (x0 : Int) (es0 : List Ent) (a1 : Int) (w1 : isW a1) (a2 : Int) (w2 : isW a2) (a3 : Int) (w3 : isW a3) (a4 : Int) (w4 : isW a4) (a5 : Int) (w5 : isW a5) (w : World) (w0 : EntsAt w a0 len0 cap0 es0) (y0 : isW x0) :
    Calls Try.prog 4 #[tbV s0 (.slice a0 len0 cap0) x0, .int .u32 a1, .int .u32 a2, .int .u32 a3, .int .u32 a4, .int .u32 a5] w fun e w' => e = .returned (.bool true) ∧ Below w.heap.size w w' := by
  rcases s0 with ⟨s0, s1, s2, s3⟩
  obtain ⟨W0, hW0⟩ : ∃ W0, w.alloc (.cells #[.int .i64 s0, .int .i64 s1, .int .i64 s2, .int .i64 s3, .slice a0 len0 cap0, .int .u32 x0] 27) = W0 := ⟨_, rfl⟩
  have HB : Hid (Below w.heap.size w W0) := by rw [← hW0]; exact Lib.hid ((Below.refl _ _).alloc (Nat.le_refl _) _)
  have HVt : Hid (Vt W0 w.heap.size ((s0, s1, s2, s3), es0, x0) a0 len0 cap0) := by rw [← hW0]; exact Lib.hid (Vt.new (s := (s0, s1, s2, s3)) (x := x0) w0)
  have HX := Lib.hid y0
  clear w0 y0
  go_enter Try.func4, Try.ntmps4
  go_wp2_with fail
  clear hW0
  have c1 := awake_any W0
  refine c1.mono ?_
  rintro e m1 ⟨rfl, hb⟩
  clear c1
  replace HVt := Lib.hid (HVt.out.later hb)
  replace HB := Lib.hid (HB.out.trans (hb.mono HB.out.size))
  clear hb
  obtain ⟨kt0, kt1, kt2, kt3, kt4, kt5⟩ := HVt.out.tb
  simp only at kt0 kt1 kt2 kt3 kt4 kt5
  go_wp2_with fail
  clear kt0 kt1 kt2 kt3 kt4 kt5
  have c2 := lfew_any (s0, s1, s2, s3) a0 len0 cap0 x0 es0 m1 HVt.out.2 HX.out
  refine c2.mono ?_
  rintro e m2 ⟨rfl, hb⟩
  clear c2
  replace HVt := Lib.hid (HVt.out.later hb)
  replace HB := Lib.hid (HB.out.trans (hb.mono HB.out.size))
  clear hb
  rcases hfew : fewT ((s0, s1, s2, s3), es0, x0) with _ | _
  · clear hfew
    go_wp2_with fail
    go_ret
    exact ⟨rfl, HB.out⟩
  have HF := Lib.hid (fewE_of hfew)
  clear hfew
  have HK := Lib.hid w1
  have HFi := Lib.hid w2
  have HVv := Lib.hid w3
  have HO := Lib.hid w4
  have HP := Lib.hid w5
  clear w1 w2 w3 w4 w5
  have hno := set_no (t := ((s0, s1, s2, s3), es0, x0)) (key := a1) (f := a2) (v := a3)
  have hlaw := fun h => back_law (t := ((s0, s1, s2, s3), es0, x0)) (key := a1) (f := a2) (v := a3) h HFi.out.1 a4 a5 HP.out.1
  have hnx := set_next (t := ((s0, s1, s2, s3), es0, x0)) (key := a1) (f := a2) (v := a3)
  have hsl := fun h => (set_law (t := ((s0, s1, s2, s3), es0, x0)) (key := a1) (f := a2) (v := a3) h HFi.out.1).1
  rcases hg : setT ((s0, s1, s2, s3), es0, x0) a1 a2 a3 with ⟨⟨⟨c0, c1, c2, c3⟩, ce, cx⟩, er⟩
  rw [hg] at hno hlaw hnx hsl
  have HS := Lib.hid hg
  clear hg
  have HNO := Lib.hid hno
  have HLAW := Lib.hid hlaw
  have HNX := Lib.hid hnx
  have HSC := Lib.hid hsl
  clear hno hlaw hnx hsl
  obtain ⟨kt0, kt1, kt2, kt3, kt4, kt5⟩ := HVt.out.tb
  simp only at kt0 kt1 kt2 kt3 kt4 kt5
  go_wp2_with fail
  clear kt0 kt1 kt2 kt3 kt4 kt5
  have c3 := tset_any (s0, s1, s2, s3) a0 len0 cap0 x0 es0 a1 a2 a3 m2 HVt.out.2 HF.out HX.out HK.out HFi.out HVv.out
  rw [HS.out] at c3
  refine c3.mono ?_
  rintro e m3 ⟨u, rfl, hb, hr0⟩
  clear c3
  have hr : Row m3 _ u ce := hr0
  obtain ⟨jb3, jp3, hu, hE⟩ := hr.at
  obtain ⟨jn3, hjn⟩ : ∃ jn3, ce.length = jn3 := ⟨_, rfl⟩
  rw [hjn] at hu hE
  have HNc := Lib.hid hjn
  clear hjn
  subst hu
  clear hr hr0
  have hb2 : Below m2.heap.size m2 (m3.alloc (.cells #[.int .i64 c0, .int .i64 c1, .int .i64 c2, .int .i64 c3, .slice jb3 jn3 jp3, .int .u32 cx] 27)) := hb.trans (((Below.refl _ _).alloc (Nat.le_refl _) _).mono hb.size)
  replace HVt := Lib.hid (HVt.out.later hb2)
  replace HB := Lib.hid (HB.out.trans (hb2.mono HB.out.size))
  have HVc : Hid (Vt (m3.alloc (.cells #[.int .i64 c0, .int .i64 c1, .int .i64 c2, .int .i64 c3, .slice jb3 jn3 jp3, .int .u32 cx] 27)) m3.heap.size ((c0, c1, c2, c3), ce, cx) jb3 jn3 jp3) := Lib.hid (Vt.new (s := (c0, c1, c2, c3)) (x := cx) hE)
  obtain ⟨T3, hT3⟩ : ∃ T3, m3.heap.size = T3 := ⟨_, rfl⟩
  obtain ⟨W3, hW3⟩ : ∃ W3, m3.alloc (.cells #[.int .i64 c0, .int .i64 c1, .int .i64 c2, .int .i64 c3, .slice jb3 jn3 jp3, .int .u32 cx] 27) = W3 := ⟨_, rfl⟩
  rw [hT3] at HVc
  rw [hW3] at HB HVt HVc
  clear hb hb2 hE
  by_cases her : ¬ er = 0
  · have hq : (er != 0) = true := by simpa using her
    have h0 := HNO.out her
    have hjn0 : jn3 = 0 := by
      have h1 := HNc.out
      simp only [zeroT, Prod.mk.injEq] at h0
      rw [h0.2.1] at h1
      exact h1.symm
    have hq0 : (((jn3 : Nat) : Int) == 0) = true := by simp [hjn0]
    clear her h0 hjn0
    obtain ⟨kc0, kc1, kc2, kc3, kc4, kc5⟩ := HVc.out.tb
    simp only at kc0 kc1 kc2 kc3 kc4 kc5
    go_wp2_with fail
    clear hT3 hW3 kc0 kc1 kc2 kc3 kc4 kc5
    go_ret
    exact ⟨rfl, HB.out⟩
  replace her := Decidable.not_not.1 her
  subst her
  have hnx := HNX.out (by trivial)
  have hsl := HSC.out (by trivial)
  simp only [Prod.mk.injEq] at hnx hsl
  obtain ⟨rfl, rfl, rfl, rfl⟩ := hsl
  subst hnx
  obtain ⟨l1, l2, l3, l4, l5, l6⟩ := HLAW.out (by trivial)
  (try simp only at l1)
  (try simp only at l2)
  (try simp only at l3)
  (try simp only at l4)
  (try simp only at l5)
  (try simp only at l6)
  rcases hg : getT (((c0, c1, c2, c3), ce, cx) : Tb) a1 a2 with ⟨⟨⟨f0, f1, f2, f3⟩, fe, fx⟩, fv, fb⟩
  rw [hg] at l1
  simp only [Prod.mk.injEq] at l1
  obtain ⟨rfl, rfl⟩ := l1
  have HG1 := Lib.hid hg
  clear hg
  rcases hg : getT (((c0, c1, c2, c3), ce, cx) : Tb) a4 a5 with ⟨⟨⟨h0, h1, h2, h3⟩, he, hx⟩, y, has⟩
  rw [hg] at l5 l6
  have HG2 := Lib.hid hg
  clear hg
  rcases hg : getT (((c0, c1, c2, c3), es0, cx) : Tb) a4 a5 with ⟨⟨⟨i0, i1, i2, i3⟩, ie, ix⟩, z, had⟩
  rw [hg] at l5 l6
  have HG3 := Lib.hid hg
  clear hg
  simp only at l5 l6
  have HMS := Lib.hid l2
  have HL5 := Lib.hid l5
  have HL6 := Lib.hid l6
  have HFS : Hid (fewE ce) := Lib.hid (may_few l2)
  have hlm := HVt.out.2.max
  have hlt : es0.length = len0 := HVt.out.2.1
  have hjn := HNc.out
  have b1 : ¬ c1 < (jn3 : Int) := by omega
  have hfw : IntKind.i64.wrap ((len0 : Int) + 1) = (len0 : Int) + 1 := wI _ (by omega) (by have := HF.out.1; omega)
  have b2 : ¬ (len0 : Int) + 1 < (jn3 : Int) := by omega
  clear l2 l3 l4 l5 l6 hlt hjn hlm
  have hee : ((0 : Int) != 0) = false := by simp
  have hvv : (fv != fv) = false := by simp
  obtain ⟨kc0, kc1, kc2, kc3, kc4, kc5⟩ := HVc.out.tb
  simp only at kc0 kc1 kc2 kc3 kc4 kc5
  go_wp2_with fail
  clear hT3 hW3 kc0 kc1 kc2 kc3 kc4 kc5
  have c4 := tget_any (c0, c1, c2, c3) jb3 jn3 jp3 cx ce a1 a2 W3 HVc.out.2 HFS.out HX.out HFi.out
  rw [HG1.out] at c4
  refine c4.mono ?_
  rintro e m4 ⟨u, rfl, hb, hr0⟩
  clear c4
  have hr : Row m4 _ u fe := hr0
  obtain ⟨jb4, jp4, hu, hE⟩ := hr.at
  subst hu
  clear hr hr0
  have hb2 : Below W3.heap.size W3 (m4.alloc (.cells #[.int .i64 f0, .int .i64 f1, .int .i64 f2, .int .i64 f3, .slice jb4 fe.length jp4, .int .u32 fx] 27)) := hb.trans (((Below.refl _ _).alloc (Nat.le_refl _) _).mono hb.size)
  replace HVt := Lib.hid (HVt.out.later hb2)
  replace HVc := Lib.hid (HVc.out.later hb2)
  replace HB := Lib.hid (HB.out.trans (hb2.mono HB.out.size))
  have HVf : Hid (Vt (m4.alloc (.cells #[.int .i64 f0, .int .i64 f1, .int .i64 f2, .int .i64 f3, .slice jb4 fe.length jp4, .int .u32 fx] 27)) m4.heap.size ((f0, f1, f2, f3), fe, fx) jb4 fe.length jp4) := Lib.hid (Vt.new (s := (f0, f1, f2, f3)) (x := fx) hE)
  obtain ⟨T4, hT4⟩ : ∃ T4, m4.heap.size = T4 := ⟨_, rfl⟩
  obtain ⟨W4, hW4⟩ : ∃ W4, m4.alloc (.cells #[.int .i64 f0, .int .i64 f1, .int .i64 f2, .int .i64 f3, .slice jb4 fe.length jp4, .int .u32 fx] 27) = W4 := ⟨_, rfl⟩
  rw [hT4] at HVf
  rw [hW4] at HB HVt HVc HVf
  clear hb hb2 hE
  clear HVf
  obtain ⟨kc0, kc1, kc2, kc3, kc4, kc5⟩ := HVc.out.tb
  simp only at kc0 kc1 kc2 kc3 kc4 kc5
  go_wp2_with fail
  clear hT4 hW4 kc0 kc1 kc2 kc3 kc4 kc5
  have c5 := tmay_any (c0, c1, c2, c3) jb3 jn3 jp3 cx ce W4 HVc.out.2 HX.out
  rw [HMS.out] at c5
  refine c5.mono ?_
  rintro e m5 ⟨rfl, hb⟩
  clear c5
  replace HVt := Lib.hid (HVt.out.later hb)
  replace HVc := Lib.hid (HVc.out.later hb)
  replace HB := Lib.hid (HB.out.trans (hb.mono HB.out.size))
  clear hb
  obtain ⟨kc0, kc1, kc2, kc3, kc4, kc5⟩ := HVc.out.tb
  simp only at kc0 kc1 kc2 kc3 kc4 kc5
  obtain ⟨kt0, kt1, kt2, kt3, kt4, kt5⟩ := HVt.out.tb
  simp only at kt0 kt1 kt2 kt3 kt4 kt5
  go_wp2_with fail
  clear kc0 kc1 kc2 kc3 kc4 kc5 kt0 kt1 kt2 kt3 kt4 kt5
  have c6 := tget_any (c0, c1, c2, c3) jb3 jn3 jp3 cx ce a4 a5 m5 HVc.out.2 HFS.out HX.out HP.out
  rw [HG2.out] at c6
  refine c6.mono ?_
  rintro e m6 ⟨u, rfl, hb, hr0⟩
  clear c6
  have hr : Row m6 _ u he := hr0
  obtain ⟨jb6, jp6, hu, hE⟩ := hr.at
  subst hu
  clear hr hr0
  have hb2 : Below m5.heap.size m5 (m6.alloc (.cells #[.int .i64 h0, .int .i64 h1, .int .i64 h2, .int .i64 h3, .slice jb6 he.length jp6, .int .u32 hx] 27)) := hb.trans (((Below.refl _ _).alloc (Nat.le_refl _) _).mono hb.size)
  replace HVt := Lib.hid (HVt.out.later hb2)
  replace HVc := Lib.hid (HVc.out.later hb2)
  replace HB := Lib.hid (HB.out.trans (hb2.mono HB.out.size))
  have HVh : Hid (Vt (m6.alloc (.cells #[.int .i64 h0, .int .i64 h1, .int .i64 h2, .int .i64 h3, .slice jb6 he.length jp6, .int .u32 hx] 27)) m6.heap.size ((h0, h1, h2, h3), he, hx) jb6 he.length jp6) := Lib.hid (Vt.new (s := (h0, h1, h2, h3)) (x := hx) hE)
  obtain ⟨T6, hT6⟩ : ∃ T6, m6.heap.size = T6 := ⟨_, rfl⟩
  obtain ⟨W6, hW6⟩ : ∃ W6, m6.alloc (.cells #[.int .i64 h0, .int .i64 h1, .int .i64 h2, .int .i64 h3, .slice jb6 he.length jp6, .int .u32 hx] 27) = W6 := ⟨_, rfl⟩
  rw [hT6] at HVh
  rw [hW6] at HB HVt HVc HVh
  clear hb hb2 hE
  clear HVh
  obtain ⟨kt0, kt1, kt2, kt3, kt4, kt5⟩ := HVt.out.tb
  simp only at kt0 kt1 kt2 kt3 kt4 kt5
  go_wp2_with fail
  clear hT6 hW6 kt0 kt1 kt2 kt3 kt4 kt5
  have c7 := tget_any (c0, c1, c2, c3) a0 len0 cap0 cx es0 a4 a5 W6 HVt.out.2 HF.out HX.out HP.out
  rw [HG3.out] at c7
  refine c7.mono ?_
  rintro e m7 ⟨u, rfl, hb, hr0⟩
  clear c7
  have hr : Row m7 _ u ie := hr0
  obtain ⟨jb7, jp7, hu, hE⟩ := hr.at
  subst hu
  clear hr hr0
  have hb2 : Below W6.heap.size W6 (m7.alloc (.cells #[.int .i64 i0, .int .i64 i1, .int .i64 i2, .int .i64 i3, .slice jb7 ie.length jp7, .int .u32 ix] 27)) := hb.trans (((Below.refl _ _).alloc (Nat.le_refl _) _).mono hb.size)
  replace HVt := Lib.hid (HVt.out.later hb2)
  replace HVc := Lib.hid (HVc.out.later hb2)
  replace HB := Lib.hid (HB.out.trans (hb2.mono HB.out.size))
  have HVi : Hid (Vt (m7.alloc (.cells #[.int .i64 i0, .int .i64 i1, .int .i64 i2, .int .i64 i3, .slice jb7 ie.length jp7, .int .u32 ix] 27)) m7.heap.size ((i0, i1, i2, i3), ie, ix) jb7 ie.length jp7) := Lib.hid (Vt.new (s := (i0, i1, i2, i3)) (x := ix) hE)
  obtain ⟨T7, hT7⟩ : ∃ T7, m7.heap.size = T7 := ⟨_, rfl⟩
  obtain ⟨W7, hW7⟩ : ∃ W7, m7.alloc (.cells #[.int .i64 i0, .int .i64 i1, .int .i64 i2, .int .i64 i3, .slice jb7 ie.length jp7, .int .u32 ix] 27) = W7 := ⟨_, rfl⟩
  rw [hT7] at HVi
  rw [hW7] at HB HVt HVc HVi
  clear hb hb2 hE
  clear HVi
  clear hvv hee
  by_cases hoe : a4 = a1
  · have hq : (a4 == a1) = true := by simpa using hoe
    have h5 := HL5.out hoe
    clear hoe
    rcases had with _ | _
    · clear h5
      obtain ⟨kt0, kt1, kt2, kt3, kt4, kt5⟩ := HVt.out.tb
      simp only at kt0 kt1 kt2 kt3 kt4 kt5
      go_wp2_with fail
      clear hT7 hW7 kt0 kt1 kt2 kt3 kt4 kt5
      go_ret
      exact ⟨rfl, HB.out⟩
    · obtain ⟨h6, h7⟩ := h5 rfl
      subst h6
      by_cases hpf : a5 = a2
      · have hq2 : (a5 == a2) = true := by simpa using hpf
        clear h7 hpf
        obtain ⟨kt0, kt1, kt2, kt3, kt4, kt5⟩ := HVt.out.tb
        simp only at kt0 kt1 kt2 kt3 kt4 kt5
        go_wp2_with fail
        clear hT7 hW7 kt0 kt1 kt2 kt3 kt4 kt5
        go_ret
        exact ⟨rfl, HB.out⟩
      · have hq2 : (a5 == a2) = false := by simpa using hpf
        have h8 := h7.resolve_left hpf
        subst h8
        clear h7 hpf
        have hyy : (y == y) = true := by simp
        obtain ⟨kt0, kt1, kt2, kt3, kt4, kt5⟩ := HVt.out.tb
        simp only at kt0 kt1 kt2 kt3 kt4 kt5
        go_wp2_with fail
        clear hT7 hW7 kt0 kt1 kt2 kt3 kt4 kt5
        go_ret
        exact ⟨rfl, HB.out⟩
  have hq : (a4 == a1) = false := by simpa using hoe
  have h6 := HL6.out hoe
  clear hoe
  have K1 : Hid (∀ (b : Bool), (c0 == 2) = b → True) := Lib.hid (fun _ _ => trivial)
  rcases h6 with h6 | ⟨h6, h7, h8⟩
  · simp only [Prod.mk.injEq] at h6
    obtain ⟨rfl, rfl⟩ := h6
    have hyy : (y == y) = true := by simp
    by_cases hk2 : c0 = 2
    · have hq2 : (c0 == 2) = true := by simpa using hk2
      clear hk2
      by_cases hlc : (len0 : Int) = c1
      · have hq3 : ((len0 : Int) == c1) = true := by simpa using hlc
        clear hlc
        rcases has with _ | _
        · obtain ⟨kt0, kt1, kt2, kt3, kt4, kt5⟩ := HVt.out.tb
          simp only at kt0 kt1 kt2 kt3 kt4 kt5
          go_wp2_with fail
          clear hT7 hW7 kt0 kt1 kt2 kt3 kt4 kt5
          go_ret
          exact ⟨rfl, HB.out⟩
        · obtain ⟨kt0, kt1, kt2, kt3, kt4, kt5⟩ := HVt.out.tb
          simp only at kt0 kt1 kt2 kt3 kt4 kt5
          go_wp2_with fail
          clear hT7 hW7 kt0 kt1 kt2 kt3 kt4 kt5
          go_ret
          exact ⟨rfl, HB.out⟩
      · have hq3 : ((len0 : Int) == c1) = false := by simpa using hlc
        clear hlc
        rcases has with _ | _
        · obtain ⟨kt0, kt1, kt2, kt3, kt4, kt5⟩ := HVt.out.tb
          simp only at kt0 kt1 kt2 kt3 kt4 kt5
          go_wp2_with fail
          clear hT7 hW7 kt0 kt1 kt2 kt3 kt4 kt5
          go_ret
          exact ⟨rfl, HB.out⟩
        · obtain ⟨kt0, kt1, kt2, kt3, kt4, kt5⟩ := HVt.out.tb
          simp only at kt0 kt1 kt2 kt3 kt4 kt5
          go_wp2_with fail
          clear hT7 hW7 kt0 kt1 kt2 kt3 kt4 kt5
          go_ret
          exact ⟨rfl, HB.out⟩
    · have hq2 : (c0 == 2) = false := by simpa using hk2
      clear hk2
      rcases has with _ | _
      · obtain ⟨kt0, kt1, kt2, kt3, kt4, kt5⟩ := HVt.out.tb
        simp only at kt0 kt1 kt2 kt3 kt4 kt5
        go_wp2_with fail
        clear hT7 hW7 kt0 kt1 kt2 kt3 kt4 kt5
        go_ret
        exact ⟨rfl, HB.out⟩
      · obtain ⟨kt0, kt1, kt2, kt3, kt4, kt5⟩ := HVt.out.tb
        simp only at kt0 kt1 kt2 kt3 kt4 kt5
        go_wp2_with fail
        clear hT7 hW7 kt0 kt1 kt2 kt3 kt4 kt5
        go_ret
        exact ⟨rfl, HB.out⟩
  · subst h6
    have hq2 : (c0 == 2) = true := by simpa using h7
    have hl9 : es0.length = len0 := HVt.out.2.1
    have hq3 : ((len0 : Int) == c1) = true := by rw [← hl9]; simpa using h8
    clear h7 h8 hl9
    rcases had with _ | _
    · obtain ⟨kt0, kt1, kt2, kt3, kt4, kt5⟩ := HVt.out.tb
      simp only at kt0 kt1 kt2 kt3 kt4 kt5
      go_wp2_with fail
      clear hT7 hW7 kt0 kt1 kt2 kt3 kt4 kt5
      go_ret
      exact ⟨rfl, HB.out⟩
    · obtain ⟨kt0, kt1, kt2, kt3, kt4, kt5⟩ := HVt.out.tb
      simp only at kt0 kt1 kt2 kt3 kt4 kt5
      go_wp2_with fail
      clear hT7 hW7 kt0 kt1 kt2 kt3 kt4 kt5
      go_ret
      exact ⟨rfl, HB.out⟩


theorem own : ownKnob Try.prog.godebug = none := by kernel_rfl
theorem laidOut : laidOutB Try.prog = true := by kernel_rfl
set_option maxRecDepth 100000 in
theorem lifted (os : Os) (started : os.Started) (H : Type) (enc : TypeId × Value → H) :
    ReturnsInHanded {} Try.checked os 4 .any (Rows.tableBackSpec.pre6 enc Try.prog Try.f4 Rows.tableBackRow.domain false) (Rows.tableBackSpec.post enc Try.prog Try.f4 false true false false) := by
  refine returnsInHanded_of_change (C := Try.checked) own started (by kernel_rfl) Try.func4
    (ChangeSpec.witness6 (enc := enc) (C := Try.checked) false ⟨#[], #[.agg #[.int .i64 0, .int .i64 0, .int .i64 0, .int .i64 0, .slice none 0 0, .int .u32 0], .int .u32 0, .int .u32 0, .int .u32 0, .int .u32 0, .int .u32 0], []⟩ 8 (by kernel_rfl) (by kernel_rfl) (by kernel_rfl) (by kernel_rfl)) ?_
  intro W base args ds gs before hval0 hW hcnd _
  have hval : ∀ (j : Nat) t v, Try.f4.params[j]? = some t → args[j]? = some v → Value.okWide Try.prog W .any base t v := hval0
  have hW' := hW
  obtain ⟨p, q, hA0, hV, rfl, hfz, hnd⟩ := hW
  have hA : DataW.TrodAll enc Try.prog W 0 (fun _ => true) true Try.f4.params.toList args.toList ds p := hA0
  rw [Try.params4] at hA hval
  obtain ⟨u0, vs0, e0, ds0, p0, q0, hargs, rfl, rfl, h0, t0⟩ := trodAll_cons hA
  obtain ⟨u1, vs1, e1, ds1, p1, q1, rfl, rfl, rfl, h1, t1⟩ := trodAll_cons t0
  obtain ⟨u2, vs2, e2, ds2, p2, q2, rfl, rfl, rfl, h2, t2⟩ := trodAll_cons t1
  obtain ⟨u3, vs3, e3, ds3, p3, q3, rfl, rfl, rfl, h3, t3⟩ := trodAll_cons t2
  obtain ⟨u4, vs4, e4, ds4, p4, q4, rfl, rfl, rfl, h4, t4⟩ := trodAll_cons t3
  obtain ⟨u5, vs5, e5, ds5, p5, q5, rfl, rfl, rfl, h5, t5⟩ := trodAll_cons t4
  obtain ⟨rfl, rfl, rfl⟩ := trodAll_nil t5
  obtain rfl : args = #[u0, u1, u2, u3, u4, u5] := by cases args; simp_all
  obtain ⟨rfl, rfl⟩ := trodVars_none hV
  have y0 := h0
  have lt0 : ∀ x ∈ p0, x.block < W.heap.size := by obtain ⟨m, hm⟩ := y0; exact DataW.trod_lt m _ _ _ hm
  have y1 := h1
  have lt1 : ∀ x ∈ p1, x.block < W.heap.size := by obtain ⟨m, hm⟩ := y1; exact DataW.trod_lt m _ _ _ hm
  have y2 := h2
  have lt2 : ∀ x ∈ p2, x.block < W.heap.size := by obtain ⟨m, hm⟩ := y2; exact DataW.trod_lt m _ _ _ hm
  have y3 := h3
  have lt3 : ∀ x ∈ p3, x.block < W.heap.size := by obtain ⟨m, hm⟩ := y3; exact DataW.trod_lt m _ _ _ hm
  have y4 := h4
  have lt4 : ∀ x ∈ p4, x.block < W.heap.size := by obtain ⟨m, hm⟩ := y4; exact DataW.trod_lt m _ _ _ hm
  have y5 := h5
  have lt5 : ∀ x ∈ p5, x.block < W.heap.size := by obtain ⟨m, hm⟩ := y5; exact DataW.trod_lt m _ _ _ hm
  obtain ⟨s0, a0, len0, cap0, x0, es0, rfl, w0, yx0⟩ := open_tb (hval 0 27 u0 rfl rfl) h0
  obtain ⟨a1, rfl, _, _, w1'⟩ := open_int Try.underlying25 (hval 1 25 u1 rfl rfl) h1
  have w1 : isW a1 := bounds_u32 w1'
  obtain ⟨a2, rfl, _, _, w2'⟩ := open_int Try.underlying25 (hval 2 25 u2 rfl rfl) h2
  have w2 : isW a2 := bounds_u32 w2'
  obtain ⟨a3, rfl, _, _, w3'⟩ := open_int Try.underlying25 (hval 3 25 u3 rfl rfl) h3
  have w3 : isW a3 := bounds_u32 w3'
  obtain ⟨a4, rfl, _, _, w4'⟩ := open_int Try.underlying25 (hval 4 25 u4 rfl rfl) h4
  have w4 : isW a4 := bounds_u32 w4'
  obtain ⟨a5, rfl, _, _, w5'⟩ := open_int Try.underlying25 (hval 5 25 u5 rfl rfl) h5
  have w5 : isW a5 := bounds_u32 w5'
  clear hA0 hval0
  refine (walk s0 a0 len0 cap0 x0 es0 a1 w1 a2 w2 a3 w3 a4 w4 a5 w5 W w0 yx0).mono fun e W' ⟨he, bel⟩ => ?_
  subst he
  exact ⟨_, rfl, _, _, _, [], _, [], hW', trodAll_mk1 (shut_bool Try.underlying4 _), (trodAll_cons_mk (Below.trod laidOut (by kernel_rfl) (of_decide_eq_true (by kernel_rfl)) y0 bel lt0) (trodAll_cons_mk (Below.trod laidOut (by kernel_rfl) (of_decide_eq_true (by kernel_rfl)) y1 bel lt1) (trodAll_cons_mk (Below.trod laidOut (by kernel_rfl) (of_decide_eq_true (by kernel_rfl)) y2 bel lt2) (trodAll_cons_mk (Below.trod laidOut (by kernel_rfl) (of_decide_eq_true (by kernel_rfl)) y3 bel lt3) (trodAll_cons_mk (Below.trod laidOut (by kernel_rfl) (of_decide_eq_true (by kernel_rfl)) y4 bel lt4) (trodAll_cons_mk (Below.trod laidOut (by kernel_rfl) (of_decide_eq_true (by kernel_rfl)) y5 bel lt5) trodAll_mk0)))))), rfl, bel.frame _, fun h => by cases h⟩

theorem over : Rows.tableBackRow.holds Try.pinned (OpenSpec.ofChange Rows.tableBackSpec) :=
  OpenClaim.holds_of_wide 4 Try.f4 rfl rfl rfl rfl rfl rfl rfl ⟨rfl, rfl, rfl, rfl, rfl⟩ rfl rfl rfl rfl rfl (by kernel_rfl) Try.func4 (by kernel_rfl)
    (of_decide_eq_true (by kernel_rfl)) (by unfold Func.isWrapper; first | (rw [if_pos (by decide +kernel)]; kernel_rfl) | (rw [if_neg (by decide +kernel)]; exact ⟨rfl, rfl⟩))
    (fun os started H enc _ => lifted os started H enc)

theorem proved : Rows.TableBackSaid := over
#print axioms proved
end Go.Proofs.Ytlbmgablkphioaa.tableBack
