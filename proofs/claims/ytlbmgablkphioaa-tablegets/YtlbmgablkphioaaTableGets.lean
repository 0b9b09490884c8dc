/-
  What is got changes nothing but an Lru's order; got twice it is the same; a key that is not there, and a word that none has, are told so.
  Conditions: none.
-/
import Derived.Test.YtlbmgablkphioaaRows
import Derived.Test.YtlbmgablkphioaaX1
import Derived.Test.YtlbmgablkphioaaPL2
import Derived.WalkKit
import Derived.ProofKit
import Derived.OpenShut
import Derived.ChangeOld
import Derived.Below
namespace Go.Proofs.Ytlbmgablkphioaa.tableGets
open Go.ChangeShapes Go.WideShapes Go.ChangeAt Go.RowKit
set_option linter.unusedVariables false

set_option maxRecDepth 100000 in
set_option maxHeartbeats 8000000 in
theorem walk (s0 : Sc) (a0 : Option Addr) (len0 cap0 : Nat) (x0 : Int) (es0 : List Ent) (a1 : Int) (w1 : isW a1) (a2 : Int) (w2 : isW a2) (w : World) (w0 : EntsAt w a0 len0 cap0 es0) (y0 : isW x0) :
    Calls Try.prog 8 #[tbV s0 (.slice a0 len0 cap0) x0, .int .u32 a1, .int .u32 a2] w fun e w' => e = .returned (.bool true) ∧ Below w.heap.size w w' := by
  rcases s0 with ⟨s0, s1, s2, s3⟩
  obtain ⟨W0, hW0⟩ : ∃ W0, w.alloc (.cells #[.int .i64 s0, .int .i64 s1, .int .i64 s2, .int .i64 s3, .slice a0 len0 cap0, .int .u32 x0] 27) = W0 := ⟨_, rfl⟩
  have HB : Hid (Below w.heap.size w W0) := by rw [← hW0]; exact Lib.hid ((Below.refl _ _).alloc (Nat.le_refl _) _)
  have HVt : Hid (Vt W0 w.heap.size ((s0, s1, s2, s3), es0, x0) a0 len0 cap0) := by rw [← hW0]; exact Lib.hid (Vt.new (s := (s0, s1, s2, s3)) (x := x0) w0)
  have HX := Lib.hid y0
  clear w0 y0
  go_enter Try.func8, Try.ntmps8
  go_wp2_with fail
  clear hW0
  have c1 := awake_any W0
  refine c1.mono ?_
  rintro e m1 ⟨rfl, hb⟩
  clear c1
  replace HVt := Lib.hid (HVt.out.later hb)
  replace HB := Lib.hid (HB.out.trans (hb.mono HB.out.size))
  clear hb
  obtain ⟨kt0, kt1, kt2, kt3, kt4, kt5⟩ := HVt.out.tb
  simp only at kt0 kt1 kt2 kt3 kt4 kt5
  go_wp2_with fail
  clear kt0 kt1 kt2 kt3 kt4 kt5
  have c2 := lfew_any (s0, s1, s2, s3) a0 len0 cap0 x0 es0 m1 HVt.out.2 HX.out
  refine c2.mono ?_
  rintro e m2 ⟨rfl, hb⟩
  clear c2
  replace HVt := Lib.hid (HVt.out.later hb)
  replace HB := Lib.hid (HB.out.trans (hb.mono HB.out.size))
  clear hb
  rcases hfew : fewT ((s0, s1, s2, s3), es0, x0) with _ | _
  · clear hfew
    go_wp2_with fail
    go_ret
    exact ⟨rfl, HB.out⟩
  have HF := Lib.hid (fewE_of hfew)
  clear hfew
  have HK := Lib.hid w1
  have HFi := Lib.hid w2
  have hfw : IntKind.i64.wrap a2 = a2 := wI a2 w2.1 (by have := w2.2; omega)
  clear w1 w2
  obtain ⟨kt0, kt1, kt2, kt3, kt4, kt5⟩ := HVt.out.tb
  simp only at kt0 kt1 kt2 kt3 kt4 kt5
  go_wp2_with fail
  clear kt0 kt1 kt2 kt3 kt4 kt5
  have c3 := tmay_any (s0, s1, s2, s3) a0 len0 cap0 x0 es0 m2 HVt.out.2 HX.out
  refine c3.mono ?_
  rintro e m3 ⟨rfl, hb⟩
  clear c3
  replace HVt := Lib.hid (HVt.out.later hb)
  replace HB := Lib.hid (HB.out.trans (hb.mono HB.out.size))
  clear hb
  rcases hmay : mayTb ((s0, s1, s2, s3), es0, x0) with _ | _
  · clear hmay
    go_wp2_with fail
    go_ret
    exact ⟨rfl, HB.out⟩
  have HM := Lib.hid hmay
  clear hmay
  have hlaw := gets_law HM.out a1 a2
  have hnx : (getT ((s0, s1, s2, s3), es0, x0) a1 a2).1.2.2 = x0 := get_next
  have hsc : (getT ((s0, s1, s2, s3), es0, x0) a1 a2).1.1 = (s0, s1, s2, s3) := get_sc
  rcases hg : getT ((s0, s1, s2, s3), es0, x0) a1 a2 with ⟨⟨⟨g0, g1, g2, g3⟩, ge, gx⟩, gv, is⟩
  rw [hg] at hlaw hnx hsc
  have HG := Lib.hid hg
  simp only [Prod.mk.injEq] at hsc hnx
  obtain ⟨rfl, rfl, rfl, rfl⟩ := hsc
  subst hnx
  clear hg
  simp only at hlaw
  obtain ⟨l1, l2, l3, l4, l5, l6, l7⟩ := hlaw
  obtain ⟨ix, hix⟩ : ∃ ix, atI es0 a1 = ix := ⟨_, rfl⟩
  rw [hix] at l1
  have HIX := Lib.hid hix
  have HL1 := Lib.hid l1
  have HG2 := Lib.hid l2
  have HMA := Lib.hid l3
  have HL4 := Lib.hid l4
  have HL5 := Lib.hid l5
  have HL6 := Lib.hid l6
  have HL7 := Lib.hid l7
  have HFA : Hid (fewE ge) := Lib.hid (may_few l3)
  clear l1 l2 l3 l4 l5 l6 l7 hix
  obtain ⟨kt0, kt1, kt2, kt3, kt4, kt5⟩ := HVt.out.tb
  simp only at kt0 kt1 kt2 kt3 kt4 kt5
  go_wp2_with fail
  clear kt0 kt1 kt2 kt3 kt4 kt5
  have c4 := tget_any (g0, g1, g2, g3) a0 len0 cap0 gx es0 a1 a2 m3 HVt.out.2 HF.out HX.out HFi.out
  rw [HG.out] at c4
  refine c4.mono ?_
  rintro e m4 ⟨u, rfl, hb, hr0⟩
  clear c4
  have hr : Row m4 _ u ge := hr0
  obtain ⟨jb4, jp4, hu, hE⟩ := hr.at
  obtain ⟨jn4, hjn⟩ : ∃ jn4, ge.length = jn4 := ⟨_, rfl⟩
  rw [hjn] at hu hE
  have HNa := Lib.hid hjn
  clear hjn
  subst hu
  clear hr hr0
  have hb2 : Below m3.heap.size m3 (m4.alloc (.cells #[.int .i64 g0, .int .i64 g1, .int .i64 g2, .int .i64 g3, .slice jb4 jn4 jp4, .int .u32 gx] 27)) := hb.trans (((Below.refl _ _).alloc (Nat.le_refl _) _).mono hb.size)
  replace HVt := Lib.hid (HVt.out.later hb2)
  replace HB := Lib.hid (HB.out.trans (hb2.mono HB.out.size))
  have HVa : Hid (Vt (m4.alloc (.cells #[.int .i64 g0, .int .i64 g1, .int .i64 g2, .int .i64 g3, .slice jb4 jn4 jp4, .int .u32 gx] 27)) m4.heap.size ((g0, g1, g2, g3), ge, gx) jb4 jn4 jp4) := Lib.hid (Vt.new (s := (g0, g1, g2, g3)) (x := gx) hE)
  obtain ⟨T4, hT4⟩ : ∃ T4, m4.heap.size = T4 := ⟨_, rfl⟩
  obtain ⟨W4, hW4⟩ : ∃ W4, m4.alloc (.cells #[.int .i64 g0, .int .i64 g1, .int .i64 g2, .int .i64 g3, .slice jb4 jn4 jp4, .int .u32 gx] 27) = W4 := ⟨_, rfl⟩
  rw [hT4] at HVa
  rw [hW4] at HB HVt HVa
  clear hb hb2 hE
  obtain ⟨ka0, ka1, ka2, ka3, ka4, ka5⟩ := HVa.out.tb
  simp only at ka0 ka1 ka2 ka3 ka4 ka5
  go_wp2_with fail
  clear hT4 hW4 ka0 ka1 ka2 ka3 ka4 ka5
  have c5 := tget_any (g0, g1, g2, g3) jb4 jn4 jp4 gx ge a1 a2 W4 HVa.out.2 HFA.out HX.out HFi.out
  rw [HG2.out] at c5
  refine c5.mono ?_
  rintro e m5 ⟨u, rfl, hb, hr0⟩
  clear c5
  have hr : Row m5 _ u ge := hr0
  obtain ⟨jb5, jp5, hu, hE⟩ := hr.at
  obtain ⟨jn5, hjn⟩ : ∃ jn5, ge.length = jn5 := ⟨_, rfl⟩
  rw [hjn] at hu hE
  have HNb := Lib.hid hjn
  clear hjn
  subst hu
  clear hr hr0
  have hb2 : Below W4.heap.size W4 (m5.alloc (.cells #[.int .i64 g0, .int .i64 g1, .int .i64 g2, .int .i64 g3, .slice jb5 jn5 jp5, .int .u32 gx] 27)) := hb.trans (((Below.refl _ _).alloc (Nat.le_refl _) _).mono hb.size)
  replace HVt := Lib.hid (HVt.out.later hb2)
  replace HVa := Lib.hid (HVa.out.later hb2)
  replace HB := Lib.hid (HB.out.trans (hb2.mono HB.out.size))
  have HVb : Hid (Vt (m5.alloc (.cells #[.int .i64 g0, .int .i64 g1, .int .i64 g2, .int .i64 g3, .slice jb5 jn5 jp5, .int .u32 gx] 27)) m5.heap.size ((g0, g1, g2, g3), ge, gx) jb5 jn5 jp5) := Lib.hid (Vt.new (s := (g0, g1, g2, g3)) (x := gx) hE)
  obtain ⟨T5, hT5⟩ : ∃ T5, m5.heap.size = T5 := ⟨_, rfl⟩
  obtain ⟨W5, hW5⟩ : ∃ W5, m5.alloc (.cells #[.int .i64 g0, .int .i64 g1, .int .i64 g2, .int .i64 g3, .slice jb5 jn5 jp5, .int .u32 gx] 27) = W5 := ⟨_, rfl⟩
  rw [hT5] at HVb
  rw [hW5] at HB HVt HVa HVb
  clear hb hb2 hE
  obtain ⟨kt0, kt1, kt2, kt3, kt4, kt5⟩ := HVt.out.tb
  simp only at kt0 kt1 kt2 kt3 kt4 kt5
  go_wp2_with fail
  clear hT5 hW5 kt0 kt1 kt2 kt3 kt4 kt5
  have c6 := at_any (g0, g1, g2, g3) a0 len0 cap0 gx a1 es0 W5 HVt.out.2
  rw [HIX.out] at c6
  refine c6.mono ?_
  rintro e m6 ⟨rfl, hb⟩
  clear c6
  replace HVt := Lib.hid (HVt.out.later hb)
  replace HVa := Lib.hid (HVa.out.later hb)
  replace HVb := Lib.hid (HVb.out.later hb)
  replace HB := Lib.hid (HB.out.trans (hb.mono HB.out.size))
  clear hb
  have hll : (((jn4 : Nat) : Int) != (len0 : Int)) = false := by have h1 := HNa.out; have h2 := HL4.out; have h3 : es0.length = len0 := HVt.out.2.1; simp; omega
  have hvv : (gv != gv) = false := by simp
  by_cases hi0 : ¬ (0 : Int) ≤ ix
  · have hi : is = false := by rw [HL1.out]; simp [hi0]
    subst hi
    obtain ⟨kt0, kt1, kt2, kt3, kt4, kt5⟩ := HVt.out.tb
    simp only at kt0 kt1 kt2 kt3 kt4 kt5
    obtain ⟨ka0, ka1, ka2, ka3, ka4, ka5⟩ := HVa.out.tb
    simp only at ka0 ka1 ka2 ka3 ka4 ka5
    obtain ⟨kb0, kb1, kb2, kb3, kb4, kb5⟩ := HVb.out.tb
    simp only at kb0 kb1 kb2 kb3 kb4 kb5
    go_wp2_with fail
    clear kt0 kt1 kt2 kt3 kt4 kt5 ka0 ka1 ka2 ka3 ka4 ka5 kb0 kb1 kb2 kb3 kb4 kb5
    have c7 := same_any (g0, g1, g2, g3) jb4 jn4 jp4 gx ge (g0, g1, g2, g3) jb5 jn5 jp5 gx ge m6 HVa.out.2 HVb.out.2
    rw [decide_eq_true rfl] at c7
    refine c7.mono ?_
    rintro e m7 ⟨rfl, hb⟩
    clear c7
    replace HVt := Lib.hid (HVt.out.later hb)
    replace HVa := Lib.hid (HVa.out.later hb)
    replace HVb := Lib.hid (HVb.out.later hb)
    replace HB := Lib.hid (HB.out.trans (hb.mono HB.out.size))
    clear hb
    obtain ⟨ka0, ka1, ka2, ka3, ka4, ka5⟩ := HVa.out.tb
    simp only at ka0 ka1 ka2 ka3 ka4 ka5
    go_wp2_with fail
    clear ka0 ka1 ka2 ka3 ka4 ka5
    have c8 := tmay_any (g0, g1, g2, g3) jb4 jn4 jp4 gx ge m7 HVa.out.2 HX.out
    rw [HMA.out] at c8
    refine c8.mono ?_
    rintro e m8 ⟨rfl, hb⟩
    clear c8
    replace HVt := Lib.hid (HVt.out.later hb)
    replace HVa := Lib.hid (HVa.out.later hb)
    replace HVb := Lib.hid (HVb.out.later hb)
    replace HB := Lib.hid (HB.out.trans (hb.mono HB.out.size))
    clear hb
    have hv0 := HL6.out (by trivial)
    subst hv0
    have hdq : decide (((g0, g1, g2, g3), ge, gx) = (((g0, g1, g2, g3), es0, gx) : Tb)) = true := decide_eq_true (HL5.out (.inl (by trivial)))
    obtain ⟨ka0, ka1, ka2, ka3, ka4, ka5⟩ := HVa.out.tb
    simp only at ka0 ka1 ka2 ka3 ka4 ka5
    obtain ⟨kt0, kt1, kt2, kt3, kt4, kt5⟩ := HVt.out.tb
    simp only at kt0 kt1 kt2 kt3 kt4 kt5
    go_wp2_with fail
    clear ka0 ka1 ka2 ka3 ka4 ka5 kt0 kt1 kt2 kt3 kt4 kt5
    have c9 := same_any (g0, g1, g2, g3) jb4 jn4 jp4 gx ge (g0, g1, g2, g3) a0 len0 cap0 gx es0 m8 HVa.out.2 HVt.out.2
    rw [hdq] at c9
    refine c9.mono ?_
    rintro e m9 ⟨rfl, hb⟩
    clear c9
    replace HVt := Lib.hid (HVt.out.later hb)
    replace HVa := Lib.hid (HVa.out.later hb)
    replace HVb := Lib.hid (HVb.out.later hb)
    replace HB := Lib.hid (HB.out.trans (hb.mono HB.out.size))
    clear hb
    clear hdq
    go_wp2_with fail
    go_ret
    exact ⟨rfl, HB.out⟩
  replace hi0 := Decidable.not_not.1 hi0
  by_cases hk3 : g0 = 3
  · have hi : is = false := by rw [HL1.out]; simp [hk3]
    subst hi
    have hq3 : (g0 != 3) = false := by simpa using hk3
    have HK3 := Lib.hid hk3
    clear hk3
    obtain ⟨kt0, kt1, kt2, kt3, kt4, kt5⟩ := HVt.out.tb
    simp only at kt0 kt1 kt2 kt3 kt4 kt5
    obtain ⟨ka0, ka1, ka2, ka3, ka4, ka5⟩ := HVa.out.tb
    simp only at ka0 ka1 ka2 ka3 ka4 ka5
    obtain ⟨kb0, kb1, kb2, kb3, kb4, kb5⟩ := HVb.out.tb
    simp only at kb0 kb1 kb2 kb3 kb4 kb5
    go_wp2_with fail
    clear kt0 kt1 kt2 kt3 kt4 kt5 ka0 ka1 ka2 ka3 ka4 ka5 kb0 kb1 kb2 kb3 kb4 kb5
    have c7 := same_any (g0, g1, g2, g3) jb4 jn4 jp4 gx ge (g0, g1, g2, g3) jb5 jn5 jp5 gx ge m6 HVa.out.2 HVb.out.2
    rw [decide_eq_true rfl] at c7
    refine c7.mono ?_
    rintro e m7 ⟨rfl, hb⟩
    clear c7
    replace HVt := Lib.hid (HVt.out.later hb)
    replace HVa := Lib.hid (HVa.out.later hb)
    replace HVb := Lib.hid (HVb.out.later hb)
    replace HB := Lib.hid (HB.out.trans (hb.mono HB.out.size))
    clear hb
    obtain ⟨ka0, ka1, ka2, ka3, ka4, ka5⟩ := HVa.out.tb
    simp only at ka0 ka1 ka2 ka3 ka4 ka5
    go_wp2_with fail
    clear ka0 ka1 ka2 ka3 ka4 ka5
    have c8 := tmay_any (g0, g1, g2, g3) jb4 jn4 jp4 gx ge m7 HVa.out.2 HX.out
    rw [HMA.out] at c8
    refine c8.mono ?_
    rintro e m8 ⟨rfl, hb⟩
    clear c8
    replace HVt := Lib.hid (HVt.out.later hb)
    replace HVa := Lib.hid (HVa.out.later hb)
    replace HVb := Lib.hid (HVb.out.later hb)
    replace HB := Lib.hid (HB.out.trans (hb.mono HB.out.size))
    clear hb
    have hv0 := HL6.out (by trivial)
    subst hv0
    have hdq : decide (((g0, g1, g2, g3), ge, gx) = (((g0, g1, g2, g3), es0, gx) : Tb)) = true := decide_eq_true (HL5.out (.inl (by trivial)))
    obtain ⟨ka0, ka1, ka2, ka3, ka4, ka5⟩ := HVa.out.tb
    simp only at ka0 ka1 ka2 ka3 ka4 ka5
    obtain ⟨kt0, kt1, kt2, kt3, kt4, kt5⟩ := HVt.out.tb
    simp only at kt0 kt1 kt2 kt3 kt4 kt5
    go_wp2_with fail
    clear ka0 ka1 ka2 ka3 ka4 ka5 kt0 kt1 kt2 kt3 kt4 kt5
    have c9 := same_any (g0, g1, g2, g3) jb4 jn4 jp4 gx ge (g0, g1, g2, g3) a0 len0 cap0 gx es0 m8 HVa.out.2 HVt.out.2
    rw [hdq] at c9
    refine c9.mono ?_
    rintro e m9 ⟨rfl, hb⟩
    clear c9
    replace HVt := Lib.hid (HVt.out.later hb)
    replace HVa := Lib.hid (HVa.out.later hb)
    replace HVb := Lib.hid (HVb.out.later hb)
    replace HB := Lib.hid (HB.out.trans (hb.mono HB.out.size))
    clear hb
    clear hdq
    go_wp2_with fail
    go_ret
    exact ⟨rfl, HB.out⟩
  have hq3 : (g0 != 3) = true := by simpa using hk3
  by_cases hfl : ¬ a2 < g2
  · have hi : is = false := by rw [HL1.out]; simp; omega
    subst hi
    obtain ⟨kt0, kt1, kt2, kt3, kt4, kt5⟩ := HVt.out.tb
    simp only at kt0 kt1 kt2 kt3 kt4 kt5
    obtain ⟨ka0, ka1, ka2, ka3, ka4, ka5⟩ := HVa.out.tb
    simp only at ka0 ka1 ka2 ka3 ka4 ka5
    obtain ⟨kb0, kb1, kb2, kb3, kb4, kb5⟩ := HVb.out.tb
    simp only at kb0 kb1 kb2 kb3 kb4 kb5
    go_wp2_with fail
    clear kt0 kt1 kt2 kt3 kt4 kt5 ka0 ka1 ka2 ka3 ka4 ka5 kb0 kb1 kb2 kb3 kb4 kb5
    have c7 := same_any (g0, g1, g2, g3) jb4 jn4 jp4 gx ge (g0, g1, g2, g3) jb5 jn5 jp5 gx ge m6 HVa.out.2 HVb.out.2
    rw [decide_eq_true rfl] at c7
    refine c7.mono ?_
    rintro e m7 ⟨rfl, hb⟩
    clear c7
    replace HVt := Lib.hid (HVt.out.later hb)
    replace HVa := Lib.hid (HVa.out.later hb)
    replace HVb := Lib.hid (HVb.out.later hb)
    replace HB := Lib.hid (HB.out.trans (hb.mono HB.out.size))
    clear hb
    obtain ⟨ka0, ka1, ka2, ka3, ka4, ka5⟩ := HVa.out.tb
    simp only at ka0 ka1 ka2 ka3 ka4 ka5
    go_wp2_with fail
    clear ka0 ka1 ka2 ka3 ka4 ka5
    have c8 := tmay_any (g0, g1, g2, g3) jb4 jn4 jp4 gx ge m7 HVa.out.2 HX.out
    rw [HMA.out] at c8
    refine c8.mono ?_
    rintro e m8 ⟨rfl, hb⟩
    clear c8
    replace HVt := Lib.hid (HVt.out.later hb)
    replace HVa := Lib.hid (HVa.out.later hb)
    replace HVb := Lib.hid (HVb.out.later hb)
    replace HB := Lib.hid (HB.out.trans (hb.mono HB.out.size))
    clear hb
    have hv0 := HL6.out (by trivial)
    subst hv0
    have hdq : decide (((g0, g1, g2, g3), ge, gx) = (((g0, g1, g2, g3), es0, gx) : Tb)) = true := decide_eq_true (HL5.out (.inl (by trivial)))
    obtain ⟨ka0, ka1, ka2, ka3, ka4, ka5⟩ := HVa.out.tb
    simp only at ka0 ka1 ka2 ka3 ka4 ka5
    obtain ⟨kt0, kt1, kt2, kt3, kt4, kt5⟩ := HVt.out.tb
    simp only at kt0 kt1 kt2 kt3 kt4 kt5
    go_wp2_with fail
    clear ka0 ka1 ka2 ka3 ka4 ka5 kt0 kt1 kt2 kt3 kt4 kt5
    have c9 := same_any (g0, g1, g2, g3) jb4 jn4 jp4 gx ge (g0, g1, g2, g3) a0 len0 cap0 gx es0 m8 HVa.out.2 HVt.out.2
    rw [hdq] at c9
    refine c9.mono ?_
    rintro e m9 ⟨rfl, hb⟩
    clear c9
    replace HVt := Lib.hid (HVt.out.later hb)
    replace HVa := Lib.hid (HVa.out.later hb)
    replace HVb := Lib.hid (HVb.out.later hb)
    replace HB := Lib.hid (HB.out.trans (hb.mono HB.out.size))
    clear hb
    clear hdq
    go_wp2_with fail
    go_ret
    exact ⟨rfl, HB.out⟩
  replace hfl := Decidable.not_not.1 hfl
  have hi : is = true := by rw [HL1.out]; simp [hi0, hk3, hfl]
  subst hi
  obtain ⟨kt0, kt1, kt2, kt3, kt4, kt5⟩ := HVt.out.tb
  simp only at kt0 kt1 kt2 kt3 kt4 kt5
  obtain ⟨ka0, ka1, ka2, ka3, ka4, ka5⟩ := HVa.out.tb
  simp only at ka0 ka1 ka2 ka3 ka4 ka5
  obtain ⟨kb0, kb1, kb2, kb3, kb4, kb5⟩ := HVb.out.tb
  simp only at kb0 kb1 kb2 kb3 kb4 kb5
  go_wp2_with fail
  clear kt0 kt1 kt2 kt3 kt4 kt5 ka0 ka1 ka2 ka3 ka4 ka5 kb0 kb1 kb2 kb3 kb4 kb5
  have c7 := same_any (g0, g1, g2, g3) jb4 jn4 jp4 gx ge (g0, g1, g2, g3) jb5 jn5 jp5 gx ge m6 HVa.out.2 HVb.out.2
  rw [decide_eq_true rfl] at c7
  refine c7.mono ?_
  rintro e m7 ⟨rfl, hb⟩
  clear c7
  replace HVt := Lib.hid (HVt.out.later hb)
  replace HVa := Lib.hid (HVa.out.later hb)
  replace HVb := Lib.hid (HVb.out.later hb)
  replace HB := Lib.hid (HB.out.trans (hb.mono HB.out.size))
  clear hb
  obtain ⟨ka0, ka1, ka2, ka3, ka4, ka5⟩ := HVa.out.tb
  simp only at ka0 ka1 ka2 ka3 ka4 ka5
  go_wp2_with fail
  clear ka0 ka1 ka2 ka3 ka4 ka5
  have c8 := tmay_any (g0, g1, g2, g3) jb4 jn4 jp4 gx ge m7 HVa.out.2 HX.out
  rw [HMA.out] at c8
  refine c8.mono ?_
  rintro e m8 ⟨rfl, hb⟩
  clear c8
  replace HVt := Lib.hid (HVt.out.later hb)
  replace HVa := Lib.hid (HVa.out.later hb)
  replace HVb := Lib.hid (HVb.out.later hb)
  replace HB := Lib.hid (HB.out.trans (hb.mono HB.out.size))
  clear hb
  by_cases hk2 : ¬ g0 = 2
  · have hq2 : (g0 != 2) = true := by simpa using hk2
    have hdq : decide (((g0, g1, g2, g3), ge, gx) = (((g0, g1, g2, g3), es0, gx) : Tb)) = true := decide_eq_true (HL5.out (.inr hk2))
    obtain ⟨ka0, ka1, ka2, ka3, ka4, ka5⟩ := HVa.out.tb
    simp only at ka0 ka1 ka2 ka3 ka4 ka5
    obtain ⟨kt0, kt1, kt2, kt3, kt4, kt5⟩ := HVt.out.tb
    simp only at kt0 kt1 kt2 kt3 kt4 kt5
    go_wp2_with fail
    clear ka0 ka1 ka2 ka3 ka4 ka5 kt0 kt1 kt2 kt3 kt4 kt5
    have c9 := same_any (g0, g1, g2, g3) jb4 jn4 jp4 gx ge (g0, g1, g2, g3) a0 len0 cap0 gx es0 m8 HVa.out.2 HVt.out.2
    rw [hdq] at c9
    refine c9.mono ?_
    rintro e m9 ⟨rfl, hb⟩
    clear c9
    replace HVt := Lib.hid (HVt.out.later hb)
    replace HVa := Lib.hid (HVa.out.later hb)
    replace HVb := Lib.hid (HVb.out.later hb)
    replace HB := Lib.hid (HB.out.trans (hb.mono HB.out.size))
    clear hb
    clear hdq
    go_wp2_with fail
    go_ret
    exact ⟨rfl, HB.out⟩
  · have hq2 : (g0 != 2) = false := by simpa using hk2
    obtain ⟨l8, l9⟩ := HL7.out (by trivial) (Decidable.not_not.1 hk2)
    have l4 := HL4.out
    have l5 := HNa.out
    obtain ⟨m, hm⟩ : ∃ m, jn4 = m + 1 := ⟨jn4 - 1, by omega⟩
    have hmm : es0.length - 1 = m := by omega
    rw [hmm] at l9
    have hmx := HVa.out.2.max
    have hsub : IntKind.i64.wrap ((jn4 : Int) - 1) = (m : Int) := by rw [wI _ (by omega) (by omega)]; omega
    have hmI : (m : Int) < (jn4 : Int) := by omega
    have hml : m < jn4 := by omega
    obtain ⟨y, hy0, hy⟩ := HVa.out.2.2.2.2.resolve_left (by omega)
    obtain ⟨cc, _, _⟩ := hy m hml
    rw [l9] at cc
    subst hy0
    have hqk : (a1 == a1) = true := by simp
    clear l4 l5 l8 l9 hmm hm hy hk2
    obtain ⟨ka0, ka1, ka2, ka3, ka4, ka5⟩ := HVa.out.tb
    simp only at ka0 ka1 ka2 ka3 ka4 ka5
    obtain ⟨kt0, kt1, kt2, kt3, kt4, kt5⟩ := HVt.out.tb
    simp only at kt0 kt1 kt2 kt3 kt4 kt5
    go_wp2_with fail
    clear ka0 ka1 ka2 ka3 ka4 ka5 kt0 kt1 kt2 kt3 kt4 kt5
    go_ret
    exact ⟨rfl, HB.out⟩


theorem own : ownKnob Try.prog.godebug = none := by kernel_rfl
theorem laidOut : laidOutB Try.prog = true := by kernel_rfl
set_option maxRecDepth 100000 in
theorem lifted (os : Os) (started : os.Started) (H : Type) (enc : TypeId × Value → H) :
    ReturnsInHanded {} Try.checked os 8 .any (Rows.tableGetsSpec.pre6 enc Try.prog Try.f8 Rows.tableGetsRow.domain false) (Rows.tableGetsSpec.post enc Try.prog Try.f8 false true false false) := by
  refine returnsInHanded_of_change (C := Try.checked) own started (by kernel_rfl) Try.func8
    (ChangeSpec.witness6 (enc := enc) (C := Try.checked) false ⟨#[], #[.agg #[.int .i64 0, .int .i64 0, .int .i64 0, .int .i64 0, .slice none 0 0, .int .u32 0], .int .u32 0, .int .u32 0], []⟩ 8 (by kernel_rfl) (by kernel_rfl) (by kernel_rfl) (by kernel_rfl)) ?_
  intro W base args ds gs before hval0 hW hcnd _
  have hval : ∀ (j : Nat) t v, Try.f8.params[j]? = some t → args[j]? = some v → Value.okWide Try.prog W .any base t v := hval0
  have hW' := hW
  obtain ⟨p, q, hA0, hV, rfl, hfz, hnd⟩ := hW
  have hA : DataW.TrodAll enc Try.prog W 0 (fun _ => true) true Try.f8.params.toList args.toList ds p := hA0
  rw [Try.params8] at hA hval
  obtain ⟨u0, vs0, e0, ds0, p0, q0, hargs, rfl, rfl, h0, t0⟩ := trodAll_cons hA
  obtain ⟨u1, vs1, e1, ds1, p1, q1, rfl, rfl, rfl, h1, t1⟩ := trodAll_cons t0
  obtain ⟨u2, vs2, e2, ds2, p2, q2, rfl, rfl, rfl, h2, t2⟩ := trodAll_cons t1
  obtain ⟨rfl, rfl, rfl⟩ := trodAll_nil t2
  obtain rfl : args = #[u0, u1, u2] := by cases args; simp_all
  obtain ⟨rfl, rfl⟩ := trodVars_none hV
  have y0 := h0
  have lt0 : ∀ x ∈ p0, x.block < W.heap.size := by obtain ⟨m, hm⟩ := y0; exact DataW.trod_lt m _ _ _ hm
  have y1 := h1
  have lt1 : ∀ x ∈ p1, x.block < W.heap.size := by obtain ⟨m, hm⟩ := y1; exact DataW.trod_lt m _ _ _ hm
  have y2 := h2
  have lt2 : ∀ x ∈ p2, x.block < W.heap.size := by obtain ⟨m, hm⟩ := y2; exact DataW.trod_lt m _ _ _ hm
  obtain ⟨s0, a0, len0, cap0, x0, es0, rfl, w0, yx0⟩ := open_tb (hval 0 27 u0 rfl rfl) h0
  obtain ⟨a1, rfl, _, _, w1'⟩ := open_int Try.underlying25 (hval 1 25 u1 rfl rfl) h1
  have w1 : isW a1 := bounds_u32 w1'
  obtain ⟨a2, rfl, _, _, w2'⟩ := open_int Try.underlying25 (hval 2 25 u2 rfl rfl) h2
  have w2 : isW a2 := bounds_u32 w2'
  clear hA0 hval0
  refine (walk s0 a0 len0 cap0 x0 es0 a1 w1 a2 w2 W w0 yx0).mono fun e W' ⟨he, bel⟩ => ?_
  subst he
  exact ⟨_, rfl, _, _, _, [], _, [], hW', trodAll_mk1 (shut_bool Try.underlying4 _), (trodAll_cons_mk (Below.trod laidOut (by kernel_rfl) (of_decide_eq_true (by kernel_rfl)) y0 bel lt0) (trodAll_cons_mk (Below.trod laidOut (by kernel_rfl) (of_decide_eq_true (by kernel_rfl)) y1 bel lt1) (trodAll_cons_mk (Below.trod laidOut (by kernel_rfl) (of_decide_eq_true (by kernel_rfl)) y2 bel lt2) trodAll_mk0))), rfl, bel.frame _, fun h => by cases h⟩

theorem over : Rows.tableGetsRow.holds Try.pinned (OpenSpec.ofChange Rows.tableGetsSpec) :=
  OpenClaim.holds_of_wide 8 Try.f8 rfl rfl rfl rfl rfl rfl rfl ⟨rfl, rfl, rfl, rfl, rfl⟩ rfl rfl rfl rfl rfl (by kernel_rfl) Try.func8 (by kernel_rfl)
    (of_decide_eq_true (by kernel_rfl)) (by unfold Func.isWrapper; first | (rw [if_pos (by decide +kernel)]; kernel_rfl) | (rw [if_neg (by decide +kernel)]; exact ⟨rfl, rfl⟩))
    (fun os started H enc _ => lifted os started H enc)

theorem proved : Rows.TableGetsSaid := over
#print axioms proved
end Go.Proofs.Ytlbmgablkphioaa.tableGets
