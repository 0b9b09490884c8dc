/-
  A Hash that is full takes no new key, but changes those that it has; with one let go it takes one more.
  Conditions: none.
-/
import Derived.Test.YtlbmgablkphioaaRows
import Derived.Test.YtlbmgablkphioaaX1
import Derived.Test.YtlbmgablkphioaaPL3
import Derived.WalkKit
import Derived.ProofKit
import Derived.OpenShut
import Derived.ChangeOld
import Derived.Below
namespace Go.Proofs.Ytlbmgablkphioaa.tableFull
open Go.ChangeShapes Go.WideShapes Go.ChangeAt Go.RowKit
set_option linter.unusedVariables false

set_option maxRecDepth 100000 in
set_option maxHeartbeats 8000000 in
theorem walk (a0 : Int) (w0 : (Lit.int .i64 a0).wf = true) (a1 : Int) (w1 : isW a1) (w : World) :
    Calls Try.prog 10 #[.int .i64 a0, .int .u32 a1] w fun e w' => e = .returned (.bool true) ∧ Below w.heap.size w w' := by
  have HK := Lib.hid w1
  clear w0 w1
  have HB := Lib.hid (Below.refl w.heap.size w)
  go_enter Try.func10, Try.ntmps10
  go_wp2_with fail
  have c1 := awake_any w
  refine c1.mono ?_
  rintro e m1 ⟨rfl, hb⟩
  clear c1
  replace HB := Lib.hid (HB.out.trans (hb.mono HB.out.size))
  clear hb
  go_wp2_with fail
  have c2 := tnew_any 1 a0 1 0 m1
  rcases hmay : mayT (1, a0, 1, 0) with _ | _
  · rw [show newT (1, a0, 1, 0) = zeroT by rw [newT, hmay]; rfl, show newE (1, a0, 1, 0) = 1 by rw [newE, hmay]; rfl] at c2
    refine c2.mono ?_
    rintro e m2 ⟨u, rfl, hb, hr0⟩
    clear c2 hmay
    have hr : Row m2 _ u [] := hr0
    obtain ⟨jb2, jp2, hu, hE⟩ := hr.at
    subst hu
    replace HB := Lib.hid (HB.out.trans (hb.mono HB.out.size))
    clear hr hr0 hE hb
    go_wp2_with fail
    go_ret
    exact ⟨rfl, HB.out.alloc HB.out.size _⟩
  rw [show newT (1, a0, 1, 0) = ((1, a0, 1, 0), [], 0) by rw [newT, hmay]; rfl, show newE (1, a0, 1, 0) = 0 by rw [newE, hmay]; rfl] at c2
  refine c2.mono ?_
  rintro e m2 ⟨u, rfl, hb, hr0⟩
  clear c2
  have HM := Lib.hid hmay
  simp only [mayT, mayS_iff] at hmay
  obtain ⟨nc, hnc⟩ : ∃ nc : Nat, a0 = (nc : Int) := ⟨a0.toNat, by omega⟩
  have hnc1 : 1 ≤ nc := by omega
  have hnc16 : nc ≤ 16 := by omega
  have HNc := Lib.hid hnc
  clear hmay hnc
  have hr : Row m2 _ u [] := hr0
  obtain ⟨jb2, jp2, hu, hE⟩ := hr.at
  subst hu
  have HV : Hid (Vr w (m2.alloc (.cells #[.int .i64 1, .int .i64 a0, .int .i64 1, .int .i64 0, .slice jb2 0 jp2, .int .u32 0] 27)) m2.heap.size ((1, a0, 1, 0), fullE a1 0, 0) (.slice jb2 0 jp2)) := Lib.hid (Vr.new (t := ((1, a0, 1, 0), [], 0)) (HB.out.trans (hb.mono HB.out.size)) hr HB.out.size)
  clear hr hr0 hE hb HB
  have hz : ((0 : Int) != 0) = false := by simp
  go_wp2_with fail
  generalize hW1 : m2.alloc (.cells #[.int .i64 1, .int .i64 a0, .int .i64 1, .int .i64 0, .slice jb2 0 jp2, .int .u32 0] 27) = W1 at *
  generalize hT : m2.heap.size = T at *
  clear hW1 hT
  go_loopw [8] (fun i wr => ∃ (k : Nat) (V : Value), k ≤ nc ∧ i = .int .i64 k ∧ Hid (Vr w wr T ((1, a0, 1, 0), fullE a1 k, 0) V)) (fun i _ => nc - (intOf i).toNat)
  case atStart => exact ⟨0, _, by omega, rfl, HV⟩
  case round =>
    obtain ⟨k, V, hk, rfl, HV2⟩ := hrel
    clear HV
    have HV := HV2
    clear HV2
    obtain ⟨b, p, hV, hE⟩ := HV.out.at
    simp only [fullE_len] at hV hE
    subst hV
    have HE := Lib.hid hE
    clear hE
    obtain ⟨k0, k1, k2, k3, k4, k5⟩ := Box.tb (s := (1, a0, 1, 0)) HV.out.2.1
    simp only at k0 k1 k2 k3 k4 k5
    have hkw : IntKind.u32.wrap (k : Int) = (k : Int) := by rw [wW]; omega
    obtain ⟨K, hK⟩ : ∃ K, (a1 + (k : Int)) % 4294967296 = K := ⟨_, rfl⟩
    have hwK : IntKind.u32.wrap (a1 + (k : Int)) = K := by rw [wW]; exact hK
    have HKK := Lib.hid hK
    have HKW : Hid (isW K) := Lib.hid ⟨by omega, by omega⟩
    clear hK
    by_cases hkl : k < nc
    · have hkI : (k : Int) < a0 := by have := HNc.out; omega
      go_wp2_with fail
      have c3 := tset_any (1, a0, 1, 0) b k p 0 (fullE a1 k) K 0 1 wr HE.out (may_few (hash_vk (key := a1) HM.out (k := k) (by have := HNc.out; omega)).may) isW_zero HKW.out isW_zero ⟨by omega, by omega⟩
      rw [show setT ((1, a0, 1, 0), fullE a1 k, 0) K 0 1 = (((1, a0, 1, 0), fullE a1 (k + 1), 0), 0) from by rw [← HKK.out]; exact hash_set HM.out hkI] at c3
      refine c3.mono ?_
      rintro e m3 ⟨u, rfl, hb, hr0⟩
      clear c3
      have hr : Row m3 wr.heap.size u (fullE a1 (k + 1)) := hr0
      obtain ⟨b3, p3, hu, hE3⟩ := hr.at
      simp only [fullE_len] at hu
      subst hu
      have hb2 : Below wr.heap.size wr (m3.alloc (.cells #[.int .i64 1, .int .i64 a0, .int .i64 1, .int .i64 0, .slice b3 (k + 1) p3, .int .u32 0] 27)) := hb.trans (((Below.refl _ _).alloc (Nat.le_refl _) _).mono hb.size)
      have HBx := Lib.hid (HV.out.2.1.later hb2)
      have HBs : Hid (Box (m3.alloc (.cells #[.int .i64 1, .int .i64 a0, .int .i64 1, .int .i64 0, .slice b3 (k + 1) p3, .int .u32 0] 27)) m3.heap.size 27 #[.int .i64 1, .int .i64 a0, .int .i64 1, .int .i64 0, .slice b3 (k + 1) p3, .int .u32 0]) := Lib.hid (Box.new _ _ _)
      have HVn := Lib.hid (HV.out.set (t' := ((1, a0, 1, 0), fullE a1 (k + 1), 0)) hb2 (hr.below ((Below.refl _ _).alloc (Nat.le_refl _) _)))
      obtain ⟨q0, q1, q2, q3, q4, q5⟩ := Box.tb (s := (1, a0, 1, 0)) HBs.out
      simp only at q0 q1 q2 q3 q4 q5
      clear hr hr0 hE3 hb hb2 k0 k1 k2 k3 k4 k5
      go_wp2_with (refine wpList_store_row rfl 27 _ _ rfl T _ rfl rfl 27 _ HBx.out (by kernel_rfl) rfl (by simp [Value.oneCell']) ?_)
      exact ⟨⟨k + 1, _, by omega, by go_num, HVn⟩, by simp [intOf]; omega⟩
    · have hkI : ¬ (k : Int) < a0 := by have := HNc.out; omega
      have hkn : (k : Int) = a0 := by have := HNc.out; omega
      have HKA := Lib.hid hkn
      have hwa : IntKind.u32.wrap a0 = (k : Int) := by rw [wW]; omega
      have h1 := hash_full (key := a1) HM.out hkn
      have h2 := hash_again (key := a1) HM.out hkn HK.out
      have h3 := hash_more (key := a1) HM.out hkn HK.out
      have hvk := hash_vk (key := a1) HM.out (k := k) (by omega)
      rw [HKK.out] at h1 h3
      unfold hashT at h1 h2 h3 hvk
      have HF := Lib.hid (may_few hvk.may)
      have hdn : (delT ((1, a0, 1, 0), fullE a1 k, 0) a1).1.2.2 = 0 := del_next
      have hds : (delT ((1, a0, 1, 0), fullE a1 k, 0) a1).1.1 = (1, a0, 1, 0) := del_sc
      rcases hg : setT ((1, a0, 1, 0), fullE a1 k, 0) K 0 1 with ⟨⟨⟨c0, c1, c2, c3⟩, ce, cx⟩, cr⟩
      rw [hg] at h1
      simp only at h1
      subst h1
      have HS1 := Lib.hid hg
      clear hg
      rcases hg : setT ((1, a0, 1, 0), fullE a1 k, 0) a1 0 2 with ⟨⟨⟨g0, g1, g2, g3⟩, ge, gx⟩, gr⟩
      rw [hg] at h2
      simp only at h2
      subst h2
      have HS2 := Lib.hid hg
      clear hg
      rcases hg : delT ((1, a0, 1, 0), fullE a1 k, 0) a1 with ⟨⟨ds, de, dx⟩, dr⟩
      rw [hg] at h3 hdn hds
      simp only at h3 hdn hds
      subst hdn hds
      have HD := Lib.hid hg
      clear hg
      obtain ⟨rfl, h4, h5, h6, h7, h8⟩ := h3
      have hsn := set_next h5
      have hss := (set_law h5 (by omega)).1
      rcases hg : setT ((1, a0, 1, 0), de, 0) K 0 1 with ⟨⟨ss, se, sx⟩, sr⟩
      rw [hg] at h5 h6 h7 h8 hsn hss
      simp only at h5 h6 h7 h8 hsn hss
      subst hsn hss h5
      have HS3 := Lib.hid hg
      clear hg
      rcases hg : getT ((1, a0, 1, 0), se, 0) a1 0 with ⟨⟨⟨f0, f1, f2, f3⟩, fe, fx⟩, fv, fb⟩
      rw [hg] at h7
      simp only at h7
      subst h7
      have HG := Lib.hid hg
      clear hg
      have HFD : Hid (fewE de) := Lib.hid (may_few h4.may)
      have HFS : Hid (fewE se) := Lib.hid (may_few h6)
      have HMS := Lib.hid h6
      have HLS := Lib.hid h8
      clear h4 h6 h8 hkn hvk k0 k1 k2 k3 k4 k5
      have HB := Lib.hid HV.out.1
      have HVt : Hid (Vt wr T ((1, a0, 1, 0), fullE a1 k, 0) b k p) := Lib.hid ⟨HV.out.2.1, HE.out⟩
      clear HV HE
      obtain ⟨kt0, kt1, kt2, kt3, kt4, kt5⟩ := HVt.out.tb
      simp only at kt0 kt1 kt2 kt3 kt4 kt5
      go_wp2_with fail
      clear kt0 kt1 kt2 kt3 kt4 kt5
      have c4 := tset_any (1, a0, 1, 0) b k p 0 (fullE a1 k) K 0 1 wr HVt.out.2 HF.out isW_zero HKW.out isW_zero ⟨by omega, by omega⟩
      rw [HS1.out] at c4
      refine c4.mono ?_
      rintro e m4 ⟨u, rfl, hb, hr0⟩
      clear c4
      have hr : Row m4 _ u ce := hr0
      obtain ⟨jb4, jp4, hu, hE⟩ := hr.at
      subst hu
      clear hr hr0
      have hb2 : Below wr.heap.size wr (m4.alloc (.cells #[.int .i64 c0, .int .i64 c1, .int .i64 c2, .int .i64 c3, .slice jb4 ce.length jp4, .int .u32 cx] 27)) := hb.trans (((Below.refl _ _).alloc (Nat.le_refl _) _).mono hb.size)
      replace HVt := Lib.hid (HVt.out.later hb2)
      replace HB := Lib.hid (HB.out.trans (hb2.mono HB.out.size))
      have HVc : Hid (Vt (m4.alloc (.cells #[.int .i64 c0, .int .i64 c1, .int .i64 c2, .int .i64 c3, .slice jb4 ce.length jp4, .int .u32 cx] 27)) m4.heap.size ((c0, c1, c2, c3), ce, cx) jb4 ce.length jp4) := Lib.hid (Vt.new (s := (c0, c1, c2, c3)) (x := cx) hE)
      obtain ⟨T4, hT4⟩ : ∃ T4, m4.heap.size = T4 := ⟨_, rfl⟩
      obtain ⟨W4, hW4⟩ : ∃ W4, m4.alloc (.cells #[.int .i64 c0, .int .i64 c1, .int .i64 c2, .int .i64 c3, .slice jb4 ce.length jp4, .int .u32 cx] 27) = W4 := ⟨_, rfl⟩
      rw [hT4] at HVc
      rw [hW4] at HB HVt HVc
      clear hb hb2 hE
      clear HVc
      obtain ⟨kt0, kt1, kt2, kt3, kt4, kt5⟩ := HVt.out.tb
      simp only at kt0 kt1 kt2 kt3 kt4 kt5
      go_wp2_with fail
      clear hT4 hW4 kt0 kt1 kt2 kt3 kt4 kt5
      have c5 := tset_any (1, a0, 1, 0) b k p 0 (fullE a1 k) a1 0 2 W4 HVt.out.2 HF.out isW_zero HK.out isW_zero ⟨by omega, by omega⟩
      rw [HS2.out] at c5
      refine c5.mono ?_
      rintro e m5 ⟨u, rfl, hb, hr0⟩
      clear c5
      have hr : Row m5 _ u ge := hr0
      obtain ⟨jb5, jp5, hu, hE⟩ := hr.at
      subst hu
      clear hr hr0
      have hb2 : Below W4.heap.size W4 (m5.alloc (.cells #[.int .i64 g0, .int .i64 g1, .int .i64 g2, .int .i64 g3, .slice jb5 ge.length jp5, .int .u32 gx] 27)) := hb.trans (((Below.refl _ _).alloc (Nat.le_refl _) _).mono hb.size)
      replace HVt := Lib.hid (HVt.out.later hb2)
      replace HB := Lib.hid (HB.out.trans (hb2.mono HB.out.size))
      have HVg : Hid (Vt (m5.alloc (.cells #[.int .i64 g0, .int .i64 g1, .int .i64 g2, .int .i64 g3, .slice jb5 ge.length jp5, .int .u32 gx] 27)) m5.heap.size ((g0, g1, g2, g3), ge, gx) jb5 ge.length jp5) := Lib.hid (Vt.new (s := (g0, g1, g2, g3)) (x := gx) hE)
      obtain ⟨T5, hT5⟩ : ∃ T5, m5.heap.size = T5 := ⟨_, rfl⟩
      obtain ⟨W5, hW5⟩ : ∃ W5, m5.alloc (.cells #[.int .i64 g0, .int .i64 g1, .int .i64 g2, .int .i64 g3, .slice jb5 ge.length jp5, .int .u32 gx] 27) = W5 := ⟨_, rfl⟩
      rw [hT5] at HVg
      rw [hW5] at HB HVt HVg
      clear hb hb2 hE
      clear HVg
      obtain ⟨kt0, kt1, kt2, kt3, kt4, kt5⟩ := HVt.out.tb
      simp only at kt0 kt1 kt2 kt3 kt4 kt5
      go_wp2_with fail
      clear hT5 hW5 kt0 kt1 kt2 kt3 kt4 kt5
      have c6 := tdel_any (1, a0, 1, 0) b k p 0 (fullE a1 k) a1 W5 HVt.out.2 HF.out isW_zero
      rw [HD.out] at c6
      refine c6.mono ?_
      rintro e m6 ⟨u, rfl, hb, hr0⟩
      clear c6
      have hr : Row m6 _ u de := hr0
      obtain ⟨jb6, jp6, hu, hE⟩ := hr.at
      obtain ⟨jn6, hjn⟩ : ∃ jn6, de.length = jn6 := ⟨_, rfl⟩
      rw [hjn] at hu hE
      have HNd := Lib.hid hjn
      clear hjn
      subst hu
      clear hr hr0
      have hb2 : Below W5.heap.size W5 (m6.alloc (.cells #[.int .i64 1, .int .i64 a0, .int .i64 1, .int .i64 0, .slice jb6 jn6 jp6, .int .u32 0] 27)) := hb.trans (((Below.refl _ _).alloc (Nat.le_refl _) _).mono hb.size)
      replace HVt := Lib.hid (HVt.out.later hb2)
      replace HB := Lib.hid (HB.out.trans (hb2.mono HB.out.size))
      have HVd : Hid (Vt (m6.alloc (.cells #[.int .i64 1, .int .i64 a0, .int .i64 1, .int .i64 0, .slice jb6 jn6 jp6, .int .u32 0] 27)) m6.heap.size ((1, a0, 1, 0), de, 0) jb6 jn6 jp6) := Lib.hid (Vt.new (s := (1, a0, 1, 0)) (x := 0) hE)
      clear hb hb2 hE
      obtain ⟨kd0, kd1, kd2, kd3, kd4, kd5⟩ := HVd.out.tb
      simp only at kd0 kd1 kd2 kd3 kd4 kd5
      go_wp2_with fail
      clear kd0 kd1 kd2 kd3 kd4 kd5
      generalize hW : m6.alloc (.cells #[.int .i64 1, .int .i64 a0, .int .i64 1, .int .i64 0, .slice jb6 jn6 jp6, .int .u32 0] 27) = W6 at *
      generalize hT : m6.heap.size = T6 at *
      clear hW hT
      have c7 := tset_any (1, a0, 1, 0) jb6 jn6 jp6 0 de K 0 1 W6 HVd.out.2 HFD.out isW_zero HKW.out isW_zero ⟨by omega, by omega⟩
      rw [HS3.out] at c7
      refine c7.mono ?_
      rintro e m7 ⟨u, rfl, hb, hr0⟩
      clear c7
      have hr : Row m7 _ u se := hr0
      obtain ⟨jb7, jp7, hu, hE⟩ := hr.at
      obtain ⟨jn7, hjn⟩ : ∃ jn7, se.length = jn7 := ⟨_, rfl⟩
      rw [hjn] at hu hE
      have HNs := Lib.hid hjn
      clear hjn
      subst hu
      clear hr hr0
      have hb2 : Below W6.heap.size W6 (m7.alloc (.cells #[.int .i64 1, .int .i64 a0, .int .i64 1, .int .i64 0, .slice jb7 jn7 jp7, .int .u32 0] 27)) := hb.trans (((Below.refl _ _).alloc (Nat.le_refl _) _).mono hb.size)
      replace HVt := Lib.hid (HVt.out.later hb2)
      replace HVd := Lib.hid (HVd.out.later hb2)
      replace HB := Lib.hid (HB.out.trans (hb2.mono HB.out.size))
      have HVs : Hid (Vt (m7.alloc (.cells #[.int .i64 1, .int .i64 a0, .int .i64 1, .int .i64 0, .slice jb7 jn7 jp7, .int .u32 0] 27)) m7.heap.size ((1, a0, 1, 0), se, 0) jb7 jn7 jp7) := Lib.hid (Vt.new (s := (1, a0, 1, 0)) (x := 0) hE)
      clear hb hb2 hE
      obtain ⟨ks0, ks1, ks2, ks3, ks4, ks5⟩ := HVs.out.tb
      simp only at ks0 ks1 ks2 ks3 ks4 ks5
      go_wp2_with fail
      clear ks0 ks1 ks2 ks3 ks4 ks5
      generalize hW : m7.alloc (.cells #[.int .i64 1, .int .i64 a0, .int .i64 1, .int .i64 0, .slice jb7 jn7 jp7, .int .u32 0] 27) = W7 at *
      generalize hT : m7.heap.size = T7 at *
      clear hW hT
      have c8 := tget_any (1, a0, 1, 0) jb7 jn7 jp7 0 se a1 0 W7 HVs.out.2 HFS.out isW_zero isW_zero
      rw [HG.out] at c8
      refine c8.mono ?_
      rintro e m8 ⟨u, rfl, hb, hr0⟩
      clear c8
      have hr : Row m8 _ u fe := hr0
      obtain ⟨jb8, jp8, hu, hE⟩ := hr.at
      subst hu
      clear hr hr0
      have hb2 : Below W7.heap.size W7 (m8.alloc (.cells #[.int .i64 f0, .int .i64 f1, .int .i64 f2, .int .i64 f3, .slice jb8 fe.length jp8, .int .u32 fx] 27)) := hb.trans (((Below.refl _ _).alloc (Nat.le_refl _) _).mono hb.size)
      replace HVt := Lib.hid (HVt.out.later hb2)
      replace HVd := Lib.hid (HVd.out.later hb2)
      replace HVs := Lib.hid (HVs.out.later hb2)
      replace HB := Lib.hid (HB.out.trans (hb2.mono HB.out.size))
      have HVf : Hid (Vt (m8.alloc (.cells #[.int .i64 f0, .int .i64 f1, .int .i64 f2, .int .i64 f3, .slice jb8 fe.length jp8, .int .u32 fx] 27)) m8.heap.size ((f0, f1, f2, f3), fe, fx) jb8 fe.length jp8) := Lib.hid (Vt.new (s := (f0, f1, f2, f3)) (x := fx) hE)
      obtain ⟨T8, hT8⟩ : ∃ T8, m8.heap.size = T8 := ⟨_, rfl⟩
      obtain ⟨W8, hW8⟩ : ∃ W8, m8.alloc (.cells #[.int .i64 f0, .int .i64 f1, .int .i64 f2, .int .i64 f3, .slice jb8 fe.length jp8, .int .u32 fx] 27) = W8 := ⟨_, rfl⟩
      rw [hT8] at HVf
      rw [hW8] at HB HVt HVd HVs HVf
      clear hb hb2 hE
      clear HVf
      have hl : (((jn7 : Nat) : Int) == a0) = true := by have h1 := HNs.out; have h2 := HLS.out; simp; omega
      have r4 : ((4 : Int) == 4) = true := by simp
      have r0 : ((0 : Int) == 0) = true := by simp
      obtain ⟨ks0, ks1, ks2, ks3, ks4, ks5⟩ := HVs.out.tb
      simp only at ks0 ks1 ks2 ks3 ks4 ks5
      go_wp2_with fail
      clear hT8 hW8 ks0 ks1 ks2 ks3 ks4 ks5
      have c9 := tmay_any (1, a0, 1, 0) jb7 jn7 jp7 0 se W8 HVs.out.2 isW_zero
      rw [HMS.out] at c9
      refine c9.mono ?_
      rintro e m9 ⟨rfl, hb⟩
      clear c9
      replace HVt := Lib.hid (HVt.out.later hb)
      replace HVd := Lib.hid (HVd.out.later hb)
      replace HVs := Lib.hid (HVs.out.later hb)
      replace HB := Lib.hid (HB.out.trans (hb.mono HB.out.size))
      clear hb
      go_wp2_with fail
      go_ret
      exact ⟨rfl, HB.out⟩


theorem own : ownKnob Try.prog.godebug = none := by kernel_rfl
theorem laidOut : laidOutB Try.prog = true := by kernel_rfl
set_option maxRecDepth 100000 in
theorem lifted (os : Os) (started : os.Started) (H : Type) (enc : TypeId × Value → H) :
    ReturnsInHanded {} Try.checked os 10 .any (Rows.tableFullSpec.pre6 enc Try.prog Try.f10 Rows.tableFullRow.domain false) (Rows.tableFullSpec.post enc Try.prog Try.f10 false true false false) := by
  refine returnsInHanded_of_change (C := Try.checked) own started (by kernel_rfl) Try.func10
    (ChangeSpec.witness6 (enc := enc) (C := Try.checked) false ⟨#[], #[.int .i64 0, .int .u32 0], []⟩ 8 (by kernel_rfl) (by kernel_rfl) (by kernel_rfl) (by kernel_rfl)) ?_
  intro W base args ds gs before hval0 hW hcnd _
  have hval : ∀ (j : Nat) t v, Try.f10.params[j]? = some t → args[j]? = some v → Value.okWide Try.prog W .any base t v := hval0
  have hW' := hW
  obtain ⟨p, q, hA0, hV, rfl, hfz, hnd⟩ := hW
  have hA : DataW.TrodAll enc Try.prog W 0 (fun _ => true) true Try.f10.params.toList args.toList ds p := hA0
  rw [Try.params10] at hA hval
  obtain ⟨u0, vs0, e0, ds0, p0, q0, hargs, rfl, rfl, h0, t0⟩ := trodAll_cons hA
  obtain ⟨u1, vs1, e1, ds1, p1, q1, rfl, rfl, rfl, h1, t1⟩ := trodAll_cons t0
  obtain ⟨rfl, rfl, rfl⟩ := trodAll_nil t1
  obtain rfl : args = #[u0, u1] := by cases args; simp_all
  obtain ⟨rfl, rfl⟩ := trodVars_none hV
  have y0 := h0
  have lt0 : ∀ x ∈ p0, x.block < W.heap.size := by obtain ⟨m, hm⟩ := y0; exact DataW.trod_lt m _ _ _ hm
  have y1 := h1
  have lt1 : ∀ x ∈ p1, x.block < W.heap.size := by obtain ⟨m, hm⟩ := y1; exact DataW.trod_lt m _ _ _ hm
  obtain ⟨a0, rfl, _, _, w0⟩ := open_int Try.underlying3 (hval 0 3 u0 rfl rfl) h0
  obtain ⟨a1, rfl, _, _, w1'⟩ := open_int Try.underlying25 (hval 1 25 u1 rfl rfl) h1
  have w1 : isW a1 := bounds_u32 w1'
  clear hA0 hval0
  refine (walk a0 w0 a1 w1 W).mono fun e W' ⟨he, bel⟩ => ?_
  subst he
  exact ⟨_, rfl, _, _, _, [], _, [], hW', trodAll_mk1 (shut_bool Try.underlying4 _), (trodAll_cons_mk (Below.trod laidOut (by kernel_rfl) (of_decide_eq_true (by kernel_rfl)) y0 bel lt0) (trodAll_cons_mk (Below.trod laidOut (by kernel_rfl) (of_decide_eq_true (by kernel_rfl)) y1 bel lt1) trodAll_mk0)), rfl, bel.frame _, fun h => by cases h⟩

theorem over : Rows.tableFullRow.holds Try.pinned (OpenSpec.ofChange Rows.tableFullSpec) :=
  OpenClaim.holds_of_wide 10 Try.f10 rfl rfl rfl rfl rfl rfl rfl ⟨rfl, rfl, rfl, rfl, rfl⟩ rfl rfl rfl rfl rfl (by kernel_rfl) Try.func10 (by kernel_rfl)
    (of_decide_eq_true (by kernel_rfl)) (by unfold Func.isWrapper; first | (rw [if_pos (by decide +kernel)]; kernel_rfl) | (rw [if_neg (by decide +kernel)]; exact ⟨rfl, rfl⟩))
    (fun os started H enc _ => lifted os started H enc)

theorem proved : Rows.TableFullSaid := over
#print axioms proved
end Go.Proofs.Ytlbmgablkphioaa.tableFull
