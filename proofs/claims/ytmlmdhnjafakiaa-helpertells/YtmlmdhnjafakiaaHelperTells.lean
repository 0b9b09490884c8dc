/-
  Any helper has as many words, fits a schema, and is called, as the document says, or it is told why not; any number is drawn: law HelperTells returns true for every number, environment, words and schema.
  Conditions: none.
-/
import Derived.Test.YtmlmdhnjafakiaaRows
import Derived.Test.YtmlmdhnjafakiaaGu
import Derived.Test.YtmlmdhnjafakiaaGh
import Derived.WalkKit
import Derived.ProofKit
import Derived.OpenShut
import Derived.ChangeOld
import Derived.Below
namespace Go.Proofs.Ytmlmdhnjafakiaa.helperTells
open Go.ChangeShapes Go.WideShapes Go.ChangeAt Go.RowKit
set_option linter.unusedVariables false

set_option maxRecDepth 100000 in
set_option maxHeartbeats 40000000 in
theorem walk (a0 : Int) (w0 : (Lit.int .i64 a0).wf = true) (c1 : Cx) (a1 : Option Addr) (len1 cap1 : Nat) (x1 : Int) (ts1 : List Tb) (a2 : Option Addr) (len2 cap2 : Nat) (z2 : List Int) (k3 c3 n3 v3 : Int) (w : World) (w1 : TabsAt w a1 len1 cap1 ts1) (y1 : isW x1) (w2 : WordsAt w a2 len2 cap2 z2) :
    Calls Try.prog 3 #[.int .i64 a0, envV c1 (.slice a1 len1 cap1) x1, .slice a2 len2 cap2, scV k3 c3 n3 v3] w fun e w' => e = .returned (.bool true) ∧ Below w.heap.size w w' := by
  rcases c1 with ⟨e0, e1, e2, e3⟩
  obtain ⟨W0, hW0⟩ : ∃ W0, (w.alloc (.cells #[.int .u32 e0, .int .u32 e1, .int .u32 e2, .int .u32 e3, .slice a1 len1 cap1, .int .u32 x1] 26)).alloc (.cells #[.int .i64 k3, .int .i64 c3, .int .i64 n3, .int .i64 v3] 29) = W0 := ⟨_, rfl⟩
  have hb0 : Below w.heap.size w W0 := by rw [← hW0]; exact box2 (Below.refl _ _) (Nat.le_refl _) _ _
  have HP : Hid (Box W0 w.heap.size 26 #[.int .u32 e0, .int .u32 e1, .int .u32 e2, .int .u32 e3, .slice a1 len1 cap1, .int .u32 x1]) := by rw [← hW0]; exact Lib.hid ((Box.new w 26 _).alloc _)
  have HQ : Hid (Box W0 (w.heap.size + 1) 29 #[.int .i64 k3, .int .i64 c3, .int .i64 n3, .int .i64 v3]) := by
    rw [← hW0]
    have := Box.new (w.alloc (.cells #[.int .u32 e0, .int .u32 e1, .int .u32 e2, .int .u32 e3, .slice a1 len1 cap1, .int .u32 x1] 26)) 29 #[.int .i64 k3, .int .i64 c3, .int .i64 n3, .int .i64 v3]
    rw [show (w.alloc (.cells #[.int .u32 e0, .int .u32 e1, .int .u32 e2, .int .u32 e3, .slice a1 len1 cap1, .int .u32 x1] 26)).heap.size = w.heap.size + 1 by simp] at this
    exact Lib.hid this
  have HX := Lib.hid y1
  have HT0 := Lib.hid (w1.below hb0)
  have HWd := Lib.hid (w2.below hb0)
  have HB := Lib.hid hb0
  have hlm := w1.max
  have hlm2 := w2.max
  clear w1 y1 w0 w2 hb0
  go_enter Try.func3, Try.ntmps3
  go_wp2_with fail
  clear hW0
  refine (awake_any W0).mono ?_
  rintro e m1 ⟨rfl, hb⟩
  replace HP := Lib.hid (HP.out.later hb)
  replace HQ := Lib.hid (HQ.out.later hb)
  replace HT0 := Lib.hid (HT0.out.below hb)
  replace HWd := Lib.hid (HWd.out.below hb)
  replace HB := Lib.hid (HB.out.trans (hb.mono HB.out.size))
  clear hb
  have v0 : m1.cell? ⟨w.heap.size, 0, none⟩ = some (.int .u32 e0) := HP.out.cell rfl
  have v1 : m1.cell? ⟨w.heap.size, 1, none⟩ = some (.int .u32 e1) := HP.out.cell rfl
  have v2 : m1.cell? ⟨w.heap.size, 2, none⟩ = some (.int .u32 e2) := HP.out.cell rfl
  have v3 : m1.cell? ⟨w.heap.size, 3, none⟩ = some (.int .u32 e3) := HP.out.cell rfl
  have v4 : m1.cell? ⟨w.heap.size, 4, none⟩ = some (.slice a1 len1 cap1) := HP.out.cell rfl
  have v5 : m1.cell? ⟨w.heap.size, 5, none⟩ = some (.int .u32 x1) := HP.out.cell rfl
  go_wp2_with fail
  have cf := few_any a1 len1 cap1 ts1 m1 HT0.out
  rcases hfew : fewTs ts1 with _ | _
  · rw [hfew] at cf
    refine cf.mono ?_
    rintro e m2 ⟨rfl, hm2⟩
    subst m2
    clear cf hfew
    go_wp2_with fail
    go_ret
    exact ⟨rfl, HB.out⟩
  rw [hfew] at cf
  have HF := Lib.hid (few_of hfew)
  refine cf.mono ?_
  rintro e m2 ⟨rfl, hm2⟩
  subst m2
  clear cf hfew
  by_cases h8 : (8 : Int) < (len2 : Int)
  · go_wp2_with fail
    go_ret
    exact ⟨rfl, HB.out⟩
  go_wp2_with fail
  refine (eown_any (e0, e1, e2, e3) a1 len1 cap1 x1 ts1 m1 HT0.out HF.out).mono ?_
  rintro e m2 ⟨V2, rfl, hb2, hT2⟩
  clear v0 v1 v2 v3 v4 v5
  obtain ⟨b2, cc2, rfl, hA2⟩ := hT2.at
  have hb3 := hb2.trans (belowA m2 (.cells #[.int .u32 e0, .int .u32 e1, .int .u32 e2, .int .u32 e3, .slice b2 ts1.length cc2, .int .u32 x1] 26) |>.mono hb2.size)
  have HP3 := Lib.hid (HP.out.later hb3)
  have HQ3 := Lib.hid (HQ.out.later hb3)
  have HT3 := Lib.hid (HT0.out.below hb3)
  have HWd3 := Lib.hid (HWd.out.below hb3)
  have HB3 := Lib.hid (HB.out.trans (hb3.mono HB.out.size))
  have HA3 := Lib.hid (hA2.below (belowA m2 (.cells #[.int .u32 e0, .int .u32 e1, .int .u32 e2, .int .u32 e3, .slice b2 ts1.length cc2, .int .u32 x1] 26)))
  have H11 : Hid (Box (m2.alloc (.cells #[.int .u32 e0, .int .u32 e1, .int .u32 e2, .int .u32 e3, .slice b2 ts1.length cc2, .int .u32 x1] 26)) m2.heap.size 26 #[.int .u32 e0, .int .u32 e1, .int .u32 e2, .int .u32 e3, .slice b2 ts1.length cc2, .int .u32 x1]) := Lib.hid (Box.new _ _ _)
  clear hb2 hT2 hA2 hb3 HP HQ HT0 HWd HB
  have v0 : (m2.alloc (.cells #[.int .u32 e0, .int .u32 e1, .int .u32 e2, .int .u32 e3, .slice b2 ts1.length cc2, .int .u32 x1] 26)).cell? ⟨w.heap.size, 0, none⟩ = some (.int .u32 e0) := HP3.out.cell rfl
  have v1 : (m2.alloc (.cells #[.int .u32 e0, .int .u32 e1, .int .u32 e2, .int .u32 e3, .slice b2 ts1.length cc2, .int .u32 x1] 26)).cell? ⟨w.heap.size, 1, none⟩ = some (.int .u32 e1) := HP3.out.cell rfl
  have v2 : (m2.alloc (.cells #[.int .u32 e0, .int .u32 e1, .int .u32 e2, .int .u32 e3, .slice b2 ts1.length cc2, .int .u32 x1] 26)).cell? ⟨w.heap.size, 2, none⟩ = some (.int .u32 e2) := HP3.out.cell rfl
  have v3 : (m2.alloc (.cells #[.int .u32 e0, .int .u32 e1, .int .u32 e2, .int .u32 e3, .slice b2 ts1.length cc2, .int .u32 x1] 26)).cell? ⟨w.heap.size, 3, none⟩ = some (.int .u32 e3) := HP3.out.cell rfl
  have v4 : (m2.alloc (.cells #[.int .u32 e0, .int .u32 e1, .int .u32 e2, .int .u32 e3, .slice b2 ts1.length cc2, .int .u32 x1] 26)).cell? ⟨w.heap.size, 4, none⟩ = some (.slice a1 len1 cap1) := HP3.out.cell rfl
  have v5 : (m2.alloc (.cells #[.int .u32 e0, .int .u32 e1, .int .u32 e2, .int .u32 e3, .slice b2 ts1.length cc2, .int .u32 x1] 26)).cell? ⟨w.heap.size, 5, none⟩ = some (.int .u32 x1) := HP3.out.cell rfl
  go_wp2_with fail
  generalize hW3 : m2.alloc (.cells #[.int .u32 e0, .int .u32 e1, .int .u32 e2, .int .u32 e3, .slice b2 ts1.length cc2, .int .u32 x1] 26) = W3 at *
  generalize hB11 : m2.heap.size = B11 at *
  clear hW3 hB11 v0 v1 v2 v3 v4 v5
  obtain ⟨r, hr⟩ : ∃ r, callP a0 ((e0, e1, e2, e3), ts1, x1) z2 = r := ⟨_, rfl⟩
  have cx := call_any a0 (e0, e1, e2, e3) a1 len1 cap1 x1 ts1 a2 len2 cap2 z2 W3 HT3.out HF.out HX.out HWd3.out
  have cy := fun W hT hZ => rcall_any a0 (e0, e1, e2, e3) a1 len1 cap1 x1 ts1 a2 len2 cap2 z2 W hT HF.out HX.out hZ
  rw [hr] at cx cy
  rcases r with ⟨⟨⟨r0, r1, r2, r3⟩, us, sd⟩, rv, rf⟩
  clear hr
  refine cx.mono ?_
  rintro e m4 ⟨Vx, rfl, hb4, hr4⟩
  clear cx
  obtain ⟨bx, px, hu, hAx⟩ := hr4.at
  simp only at hu hAx
  subst hu
  have hb5 := hb4.trans (belowA m4 (.cells #[.int .u32 r0, .int .u32 r1, .int .u32 r2, .int .u32 r3, .slice bx us.length px, .int .u32 sd] 26) |>.mono hb4.size)
  have HP5 := Lib.hid (HP3.out.later hb5)
  have HQ5 := Lib.hid (HQ3.out.later hb5)
  have HT5 := Lib.hid (HT3.out.below hb5)
  have HWd5 := Lib.hid (HWd3.out.below hb5)
  have HB5 := Lib.hid (HB3.out.trans (hb5.mono HB3.out.size))
  have HA5 := Lib.hid (HA3.out.below hb5)
  have H115 := Lib.hid (H11.out.later hb5)
  have HAx := Lib.hid (hAx.below (belowA m4 (.cells #[.int .u32 r0, .int .u32 r1, .int .u32 r2, .int .u32 r3, .slice bx us.length px, .int .u32 sd] 26)))
  have H12 : Hid (Box (m4.alloc (.cells #[.int .u32 r0, .int .u32 r1, .int .u32 r2, .int .u32 r3, .slice bx us.length px, .int .u32 sd] 26)) m4.heap.size 26 #[.int .u32 r0, .int .u32 r1, .int .u32 r2, .int .u32 r3, .slice bx us.length px, .int .u32 sd]) := Lib.hid (Box.new _ _ _)
  clear hb4 hr4 hAx hb5 HP3 HQ3 HT3 HWd3 HB3 HA3 H11
  have v0 : (m4.alloc (.cells #[.int .u32 r0, .int .u32 r1, .int .u32 r2, .int .u32 r3, .slice bx us.length px, .int .u32 sd] 26)).cell? ⟨w.heap.size, 0, none⟩ = some (.int .u32 e0) := HP5.out.cell rfl
  have v1 : (m4.alloc (.cells #[.int .u32 r0, .int .u32 r1, .int .u32 r2, .int .u32 r3, .slice bx us.length px, .int .u32 sd] 26)).cell? ⟨w.heap.size, 1, none⟩ = some (.int .u32 e1) := HP5.out.cell rfl
  have v2 : (m4.alloc (.cells #[.int .u32 r0, .int .u32 r1, .int .u32 r2, .int .u32 r3, .slice bx us.length px, .int .u32 sd] 26)).cell? ⟨w.heap.size, 2, none⟩ = some (.int .u32 e2) := HP5.out.cell rfl
  have v3 : (m4.alloc (.cells #[.int .u32 r0, .int .u32 r1, .int .u32 r2, .int .u32 r3, .slice bx us.length px, .int .u32 sd] 26)).cell? ⟨w.heap.size, 3, none⟩ = some (.int .u32 e3) := HP5.out.cell rfl
  have v4 : (m4.alloc (.cells #[.int .u32 r0, .int .u32 r1, .int .u32 r2, .int .u32 r3, .slice bx us.length px, .int .u32 sd] 26)).cell? ⟨w.heap.size, 4, none⟩ = some (.slice a1 len1 cap1) := HP5.out.cell rfl
  have v5 : (m4.alloc (.cells #[.int .u32 r0, .int .u32 r1, .int .u32 r2, .int .u32 r3, .slice bx us.length px, .int .u32 sd] 26)).cell? ⟨w.heap.size, 5, none⟩ = some (.int .u32 x1) := HP5.out.cell rfl
  go_wp2_with fail
  generalize hW5 : m4.alloc (.cells #[.int .u32 r0, .int .u32 r1, .int .u32 r2, .int .u32 r3, .slice bx us.length px, .int .u32 sd] 26) = W5 at *
  generalize hB12 : m4.heap.size = B12 at *
  clear hW5 hB12 v0 v1 v2 v3 v4 v5
  refine (cy W5 HT5.out HWd5.out).mono ?_
  rintro e m6 ⟨Vy, rfl, hb6, bq, pq, hu, hAy⟩
  clear cy
  simp only at hu hAy
  subst hu
  have hb7 := hb6.trans (belowA m6 (.cells #[.int .u32 r0, .int .u32 r1, .int .u32 r2, .int .u32 r3, .slice bq us.length pq, .int .u32 sd] 26) |>.mono hb6.size)
  have HP7 := Lib.hid (HP5.out.later hb7)
  have HQ7 := Lib.hid (HQ5.out.later hb7)
  have HT7 := Lib.hid (HT5.out.below hb7)
  have HB7 := Lib.hid (HB5.out.trans (hb7.mono HB5.out.size))
  have HA7 := Lib.hid (HA5.out.below hb7)
  have H117 := Lib.hid (H115.out.later hb7)
  have HAx7 := Lib.hid (HAx.out.below hb7)
  have H127 := Lib.hid (H12.out.later hb7)
  have HAy := Lib.hid (hAy.below (belowA m6 (.cells #[.int .u32 r0, .int .u32 r1, .int .u32 r2, .int .u32 r3, .slice bq us.length pq, .int .u32 sd] 26)))
  have H15 : Hid (Box (m6.alloc (.cells #[.int .u32 r0, .int .u32 r1, .int .u32 r2, .int .u32 r3, .slice bq us.length pq, .int .u32 sd] 26)) m6.heap.size 26 #[.int .u32 r0, .int .u32 r1, .int .u32 r2, .int .u32 r3, .slice bq us.length pq, .int .u32 sd]) := Lib.hid (Box.new _ _ _)
  clear hb6 hAy hb7 HP5 HQ5 HT5 HWd5 HB5 HA5 H115 HAx H12
  have v0 : (m6.alloc (.cells #[.int .u32 r0, .int .u32 r1, .int .u32 r2, .int .u32 r3, .slice bq us.length pq, .int .u32 sd] 26)).cell? ⟨B12, 0, none⟩ = some (.int .u32 r0) := H127.out.cell rfl
  have v1 : (m6.alloc (.cells #[.int .u32 r0, .int .u32 r1, .int .u32 r2, .int .u32 r3, .slice bq us.length pq, .int .u32 sd] 26)).cell? ⟨B12, 1, none⟩ = some (.int .u32 r1) := H127.out.cell rfl
  have v2 : (m6.alloc (.cells #[.int .u32 r0, .int .u32 r1, .int .u32 r2, .int .u32 r3, .slice bq us.length pq, .int .u32 sd] 26)).cell? ⟨B12, 2, none⟩ = some (.int .u32 r2) := H127.out.cell rfl
  have v3 : (m6.alloc (.cells #[.int .u32 r0, .int .u32 r1, .int .u32 r2, .int .u32 r3, .slice bq us.length pq, .int .u32 sd] 26)).cell? ⟨B12, 3, none⟩ = some (.int .u32 r3) := H127.out.cell rfl
  have v4 : (m6.alloc (.cells #[.int .u32 r0, .int .u32 r1, .int .u32 r2, .int .u32 r3, .slice bq us.length pq, .int .u32 sd] 26)).cell? ⟨B12, 4, none⟩ = some (.slice bx us.length px) := H127.out.cell rfl
  have v5 : (m6.alloc (.cells #[.int .u32 r0, .int .u32 r1, .int .u32 r2, .int .u32 r3, .slice bq us.length pq, .int .u32 sd] 26)).cell? ⟨B12, 5, none⟩ = some (.int .u32 sd) := H127.out.cell rfl
  have u0 : (m6.alloc (.cells #[.int .u32 r0, .int .u32 r1, .int .u32 r2, .int .u32 r3, .slice bq us.length pq, .int .u32 sd] 26)).cell? ⟨m6.heap.size, 0, none⟩ = some (.int .u32 r0) := H15.out.cell rfl
  have u1 : (m6.alloc (.cells #[.int .u32 r0, .int .u32 r1, .int .u32 r2, .int .u32 r3, .slice bq us.length pq, .int .u32 sd] 26)).cell? ⟨m6.heap.size, 1, none⟩ = some (.int .u32 r1) := H15.out.cell rfl
  have u2 : (m6.alloc (.cells #[.int .u32 r0, .int .u32 r1, .int .u32 r2, .int .u32 r3, .slice bq us.length pq, .int .u32 sd] 26)).cell? ⟨m6.heap.size, 2, none⟩ = some (.int .u32 r2) := H15.out.cell rfl
  have u3 : (m6.alloc (.cells #[.int .u32 r0, .int .u32 r1, .int .u32 r2, .int .u32 r3, .slice bq us.length pq, .int .u32 sd] 26)).cell? ⟨m6.heap.size, 3, none⟩ = some (.int .u32 r3) := H15.out.cell rfl
  have u4 : (m6.alloc (.cells #[.int .u32 r0, .int .u32 r1, .int .u32 r2, .int .u32 r3, .slice bq us.length pq, .int .u32 sd] 26)).cell? ⟨m6.heap.size, 4, none⟩ = some (.slice bq us.length pq) := H15.out.cell rfl
  have u5 : (m6.alloc (.cells #[.int .u32 r0, .int .u32 r1, .int .u32 r2, .int .u32 r3, .slice bq us.length pq, .int .u32 sd] 26)).cell? ⟨m6.heap.size, 5, none⟩ = some (.int .u32 sd) := H15.out.cell rfl
  go_wp2_with fail
  generalize hW7 : m6.alloc (.cells #[.int .u32 r0, .int .u32 r1, .int .u32 r2, .int .u32 r3, .slice bq us.length pq, .int .u32 sd] 26) = W7 at *
  generalize hB15 : m6.heap.size = B15 at *
  clear hW7 hB15 v0 v1 v2 v3 v4 v5 u0 u1 u2 u3 u4 u5 H15 H127
  have cs := esame_any (r0, r1, r2, r3) bx us.length px sd us (r0, r1, r2, r3) bq us.length pq sd us W7 HAx7.out HAy.out
  rw [decide_eq_true rfl] at cs
  refine cs.mono ?_
  rintro e m8 ⟨rfl, hb8⟩
  clear cs
  have HP8 := Lib.hid (HP7.out.later hb8)
  have HQ8 := Lib.hid (HQ7.out.later hb8)
  have HT8 := Lib.hid (HT7.out.below hb8)
  have HB8 := Lib.hid (HB7.out.trans (hb8.mono HB7.out.size))
  have HA8 := Lib.hid (HA7.out.below hb8)
  have H118 := Lib.hid (H117.out.later hb8)
  clear hb8 HP7 HQ7 HT7 HB7 HA7 H117 HAx7 HAy
  have v0 : m8.cell? ⟨w.heap.size, 0, none⟩ = some (.int .u32 e0) := HP8.out.cell rfl
  have v1 : m8.cell? ⟨w.heap.size, 1, none⟩ = some (.int .u32 e1) := HP8.out.cell rfl
  have v2 : m8.cell? ⟨w.heap.size, 2, none⟩ = some (.int .u32 e2) := HP8.out.cell rfl
  have v3 : m8.cell? ⟨w.heap.size, 3, none⟩ = some (.int .u32 e3) := HP8.out.cell rfl
  have v4 : m8.cell? ⟨w.heap.size, 4, none⟩ = some (.slice a1 len1 cap1) := HP8.out.cell rfl
  have v5 : m8.cell? ⟨w.heap.size, 5, none⟩ = some (.int .u32 x1) := HP8.out.cell rfl
  have u0 : m8.cell? ⟨B11, 0, none⟩ = some (.int .u32 e0) := H118.out.cell rfl
  have u1 : m8.cell? ⟨B11, 1, none⟩ = some (.int .u32 e1) := H118.out.cell rfl
  have u2 : m8.cell? ⟨B11, 2, none⟩ = some (.int .u32 e2) := H118.out.cell rfl
  have u3 : m8.cell? ⟨B11, 3, none⟩ = some (.int .u32 e3) := H118.out.cell rfl
  have u4 : m8.cell? ⟨B11, 4, none⟩ = some (.slice b2 ts1.length cc2) := H118.out.cell rfl
  have u5 : m8.cell? ⟨B11, 5, none⟩ = some (.int .u32 x1) := H118.out.cell rfl
  go_wp2_with fail
  have ct := esame_any (e0, e1, e2, e3) a1 len1 cap1 x1 ts1 (e0, e1, e2, e3) b2 ts1.length cc2 x1 ts1 m8 HT8.out HA8.out
  rw [decide_eq_true rfl] at ct
  refine ct.mono ?_
  rintro e m9 ⟨rfl, hb9⟩
  clear ct v0 v1 v2 v3 v4 v5 u0 u1 u2 u3 u4 u5
  have HP9 := Lib.hid (HP8.out.later hb9)
  have HQ9 := Lib.hid (HQ8.out.later hb9)
  have HB9 := Lib.hid (HB8.out.trans (hb9.mono HB8.out.size))
  clear hb9 HP8 HQ8 HT8 HB8 HA8 H118
  have q1 : (argsP a0 == argsP a0) = true := by simp
  have q2 : (fitsP a0 (k3, c3, n3, v3) == fitsP a0 (k3, c3, n3, v3)) = true := by simp
  have q3 : (drawP x1 == drawP x1) = true := by simp
  have q4 : (rv == rv) = true := by simp
  have q5 : (rf == rf) = true := by simp
  have hS9 : SL m9 w.heap.size (w.heap.size + 1) x1 k3 c3 n3 v3 m9 := ⟨HP9.out.cell rfl, HQ9.out.cell rfl, HQ9.out.cell rfl, HQ9.out.cell rfl, HQ9.out.cell rfl, Below.refl _ _⟩
  go_wp2_with fail
  go_region_held3 (fun w' => w'.cell? ⟨w.heap.size, 5, none⟩ = some (.int .u32 x1) ∧ w'.cell? ⟨w.heap.size + 1, 0, none⟩ = some (.int .i64 k3) ∧ w'.cell? ⟨w.heap.size + 1, 1, none⟩ = some (.int .i64 c3) ∧ w'.cell? ⟨w.heap.size + 1, 2, none⟩ = some (.int .i64 n3) ∧ w'.cell? ⟨w.heap.size + 1, 3, none⟩ = some (.int .i64 v3) ∧ Below m9.heap.size m9 w')
    (first
      | assumption
      | exact SL.later hS9 ((Below.refl _ _).drew))
    (first
      | (go_at_call 10; refine (sl_args (W9 := m9) (P := w.heap.size) (Q := w.heap.size + 1) (x := x1) (k := k3) (c := c3) (m := n3) (v := v3) a0 (by assumption)).mono ?_; rintro e wa ⟨rfl, hSa⟩)
      | (go_at_call 11; refine (sl_rargs (W9 := m9) (P := w.heap.size) (Q := w.heap.size + 1) (x := x1) (k := k3) (c := c3) (m := n3) (v := v3) a0 (by assumption)).mono ?_; rintro e wb ⟨rfl, hSb⟩)
      | (go_at_call 12; refine (sl_fits (W9 := m9) (P := w.heap.size) (Q := w.heap.size + 1) (x := x1) (k := k3) (c := c3) (m := n3) (v := v3) a0 (by assumption)).mono ?_; rintro e wc ⟨rfl, hSc⟩)
      | (go_at_call 13; refine (sl_rfits (W9 := m9) (P := w.heap.size) (Q := w.heap.size + 1) (x := x1) (k := k3) (c := c3) (m := n3) (v := v3) a0 (by assumption)).mono ?_; rintro e wd ⟨rfl, hSd⟩)
      | (go_at_call 14; refine (sl_draw (W9 := m9) (P := w.heap.size) (Q := w.heap.size + 1) (x := x1) (k := k3) (c := c3) (m := n3) (v := v3) (by assumption)).mono ?_; rintro e we ⟨rfl, hSe⟩)
      | (go_at_call 15; refine (sl_rdraw (W9 := m9) (P := w.heap.size) (Q := w.heap.size + 1) (x := x1) (k := k3) (c := c3) (m := n3) (v := v3) HX.out (by assumption)).mono ?_; rintro e wf ⟨rfl, hSf⟩))
  all_goals
    go_wp2_with fail
    go_ret
    exact ⟨rfl, HB9.out.trans (hSf.2.2.2.2.2.mono HB9.out.size)⟩


theorem own : ownKnob Try.prog.godebug = none := by kernel_rfl
theorem laidOut : laidOutB Try.prog = true := by kernel_rfl
set_option maxRecDepth 100000 in
theorem lifted (os : Os) (started : os.Started) (H : Type) (enc : TypeId × Value → H) :
    ReturnsInHanded {} Try.checked os 3 .any (Rows.helperTellsSpec.pre6 enc Try.prog Try.f3 Rows.helperTellsRow.domain false) (Rows.helperTellsSpec.post enc Try.prog Try.f3 false true false false) := by
  refine returnsInHanded_of_change (C := Try.checked) own started (by kernel_rfl) Try.func3
    (ChangeSpec.witness6 (enc := enc) (C := Try.checked) false ⟨#[], #[.int .i64 0, .agg #[.int .u32 0, .int .u32 0, .int .u32 0, .int .u32 0, .slice none 0 0, .int .u32 0], .slice none 0 0, .agg #[.int .i64 0, .int .i64 0, .int .i64 0, .int .i64 0]], []⟩ 8 (by kernel_rfl) (by kernel_rfl) (by kernel_rfl) (by kernel_rfl)) ?_
  intro W base args ds gs before hval0 hW hcnd _
  have hval : ∀ (j : Nat) t v, Try.f3.params[j]? = some t → args[j]? = some v → Value.okWide Try.prog W .any base t v := hval0
  have hW' := hW
  obtain ⟨p, q, hA0, hV, rfl, hfz, hnd⟩ := hW
  have hA : DataW.TrodAll enc Try.prog W 0 (fun _ => true) true Try.f3.params.toList args.toList ds p := hA0
  rw [Try.params3] at hA hval
  obtain ⟨u0, vs0, e0, ds0, p0, q0, hargs, rfl, rfl, h0, t0⟩ := trodAll_cons hA
  obtain ⟨u1, vs1, e1, ds1, p1, q1, rfl, rfl, rfl, h1, t1⟩ := trodAll_cons t0
  obtain ⟨u2, vs2, e2, ds2, p2, q2, rfl, rfl, rfl, h2, t2⟩ := trodAll_cons t1
  obtain ⟨u3, vs3, e3, ds3, p3, q3, rfl, rfl, rfl, h3, t3⟩ := trodAll_cons t2
  obtain ⟨rfl, rfl, rfl⟩ := trodAll_nil t3
  obtain rfl : args = #[u0, u1, u2, u3] := by cases args; simp_all
  obtain ⟨rfl, rfl⟩ := trodVars_none hV
  have y0 := h0
  have lt0 : ∀ x ∈ p0, x.block < W.heap.size := by obtain ⟨m, hm⟩ := y0; exact DataW.trod_lt m _ _ _ hm
  have y1 := h1
  have lt1 : ∀ x ∈ p1, x.block < W.heap.size := by obtain ⟨m, hm⟩ := y1; exact DataW.trod_lt m _ _ _ hm
  have y2 := h2
  have lt2 : ∀ x ∈ p2, x.block < W.heap.size := by obtain ⟨m, hm⟩ := y2; exact DataW.trod_lt m _ _ _ hm
  have y3 := h3
  have lt3 : ∀ x ∈ p3, x.block < W.heap.size := by obtain ⟨m, hm⟩ := y3; exact DataW.trod_lt m _ _ _ hm
  obtain ⟨a0, rfl, _, _, w0⟩ := open_int Try.underlying3 (hval 0 3 u0 rfl rfl) h0
  obtain ⟨c1, a1, len1, cap1, x1, ts1, rfl, w1, yx1⟩ := open_env (hval 1 26 u1 rfl rfl) h1
  obtain ⟨a2, len2, cap2, z2, rfl, w2⟩ := open_words (hval 2 27 u2 rfl rfl) h2
  obtain ⟨k3, c3, n3, v3, rfl⟩ := open_sc (hval 3 29 u3 rfl rfl) h3
  clear hA0 hval0
  refine (walk a0 w0 c1 a1 len1 cap1 x1 ts1 a2 len2 cap2 z2 k3 c3 n3 v3 W w1 yx1 w2).mono fun e W' ⟨he, bel⟩ => ?_
  subst he
  exact ⟨_, rfl, _, _, _, [], _, [], hW', trodAll_mk1 (shut_bool Try.underlying4 _), (trodAll_cons_mk (Below.trod laidOut (by kernel_rfl) (of_decide_eq_true (by kernel_rfl)) y0 bel lt0) (trodAll_cons_mk (Below.trod laidOut (by kernel_rfl) (of_decide_eq_true (by kernel_rfl)) y1 bel lt1) (trodAll_cons_mk (Below.trod laidOut (by kernel_rfl) (of_decide_eq_true (by kernel_rfl)) y2 bel lt2) (trodAll_cons_mk (Below.trod laidOut (by kernel_rfl) (of_decide_eq_true (by kernel_rfl)) y3 bel lt3) trodAll_mk0)))), rfl, bel.frame _, fun h => by cases h⟩

theorem over : Rows.helperTellsRow.holds Try.pinned (OpenSpec.ofChange Rows.helperTellsSpec) :=
  OpenClaim.holds_of_wide 3 Try.f3 rfl rfl rfl rfl rfl rfl rfl ⟨rfl, rfl, rfl, rfl, rfl⟩ rfl rfl rfl rfl rfl (by kernel_rfl) Try.func3 (by kernel_rfl)
    (of_decide_eq_true (by kernel_rfl)) (by unfold Func.isWrapper; first | (rw [if_pos (by decide +kernel)]; kernel_rfl) | (rw [if_neg (by decide +kernel)]; exact ⟨rfl, rfl⟩))
    (fun os started H enc _ => lifted os started H enc)

theorem proved : Rows.HelperTellsSaid := over
#print axioms proved
end Go.Proofs.Ytmlmdhnjafakiaa.helperTells
