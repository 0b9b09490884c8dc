/-
  What is set is got, and is there; what was let go is not there; of what is told an error nothing changes.
  Conditions: none.
-/
import Derived.Test.YthpniennaaihgaaRows
import Derived.Test.YthpniennaaihgaaGh
import Derived.Test.YthpniennaaihgaaHX
import Derived.Test.YthpniennaaihgaaRS
import Derived.WalkKit
import Derived.ProofKit
import Derived.OpenShut
import Derived.ChangeOld
import Derived.Below
namespace Go.Proofs.Ythpniennaaihgaa.helperAfter
open Go.ChangeShapes Go.WideShapes Go.ChangeAt Go.RowKit
set_option linter.unusedVariables false

theorem Vq.new {w W : World} {e : Ev} {V : Value} (h : Below w.heap.size w W) (hr : TabsR W w.heap.size V e.2.1) : Vq w (W.alloc (.cells (envA e.1 V e.2.2) 26)) W.heap.size e V :=
  ⟨h.trans ((belowA _ _).mono h.size), Box.new _ _ _, h.size, .inr (hr.below (belowA _ _))⟩
set_option maxRecDepth 100000 in
set_option maxHeartbeats 16000000 in
theorem walk (c0 : Cx) (a0 : Option Addr) (len0 cap0 : Nat) (x0 : Int) (ts0 : List Tb) (a1 : Int) (w1 : isW a1) (a2 : Int) (w2 : isW a2) (a3 : Int) (w3 : isW a3) (a4 : Int) (w4 : isW a4) (w : World) (w0 : TabsAt w a0 len0 cap0 ts0) (y0 : isW x0) :
    Calls Try.prog 5 #[envV c0 (.slice a0 len0 cap0) x0, .int .u32 a1, .int .u32 a2, .int .u32 a3, .int .u32 a4] w fun e w' => e = .returned (.bool true) ∧ Below w.heap.size w w' := by
  rcases c0 with ⟨e0, e1, e2, e3⟩
  obtain ⟨P, hP⟩ : ∃ P, w.heap.size = P := ⟨_, rfl⟩
  obtain ⟨W0, hW0⟩ : ∃ W0, w.alloc (.cells #[.int .u32 e0, .int .u32 e1, .int .u32 e2, .int .u32 e3, .slice a0 len0 cap0, .int .u32 x0] 26) = W0 := ⟨_, rfl⟩
  have HV : Hid (Vq w W0 P ((e0, e1, e2, e3), ts0, x0) (.slice a0 len0 cap0)) := by rw [← hW0, ← hP]; exact Lib.hid (Vq.begin (e0, e1, e2, e3) x0 w0)
  have HX := Lib.hid y0
  have HLen := Lib.hid w0.1
  have HT0 := Lib.hid w0
  have hlm := w0.max
  clear w0 y0
  go_enter Try.func5, Try.ntmps5
  go_wp2_with fail
  clear hW0 hP
  refine (awake_any W0).mono ?_
  rintro e m1 ⟨rfl, hb⟩
  replace HV := Lib.hid (HV.out.later hb)
  clear hb
  obtain ⟨v0, v1, v2, v3, v4, v5⟩ := HV.out.cells
  simp only at v0 v1 v2 v3 v4 v5
  go_wp2_with fail
  have hT := HT0.out.below HV.out.1
  have cf := few_any a0 len0 cap0 ts0 m1 hT
  rcases hfew : fewTs ts0 with _ | _
  · rw [hfew] at cf
    refine cf.mono ?_
    rintro e m2 ⟨rfl, hm2⟩
    subst m2
    clear cf hfew hT
    go_wp2_with fail
    go_ret
    exact ⟨rfl, HV.out.1⟩
  rw [hfew] at cf
  have HF := Lib.hid (few_of hfew)
  refine cf.mono ?_
  rintro e m2 ⟨rfl, hm2⟩
  subst m2
  clear cf hfew hT
  obtain ⟨i, hi⟩ : ∃ i : Nat, a1 = (i : Int) := ⟨a1.toNat, by have := w1.1; omega⟩
  have HI := Lib.hid hi
  clear hi
  have hwI : IntKind.i64.wrap a1 = a1 := wI a1 w1.1 (by have := w1.2; omega)
  by_cases hil : (len0 : Int) ≤ a1
  · go_wp2_with fail
    go_ret
    exact ⟨rfl, HV.out.1⟩
  clear v0 v1 v2 v3 v4 v5
  obtain ⟨r, hr⟩ : ∃ r, callP 1 ((e0, e1, e2, e3), ts0, x0) [a1, a2, a3, a4] = r := ⟨_, rfl⟩
  have HRr := Lib.hid hr
  clear hr
  have HAx := Lib.hid (HV.out.later (belowA m1 (.cells #[.int .u32 a1, .int .u32 a2, .int .u32 a3, .int .u32 a4] 22)))
  have HWx : Hid (WordsAt (m1.alloc (.cells #[.int .u32 a1, .int .u32 a2, .int .u32 a3, .int .u32 a4] 22)) (some ⟨m1.heap.size, 0, none⟩) 4 4 [a1, a2, a3, a4]) := Lib.hid (by
    have h := words_box (W := m1.alloc (.cells #[.int .u32 a1, .int .u32 a2, .int .u32 a3, .int .u32 a4] 22)) (A := m1.heap.size) [a1, a2, a3, a4] (by intro z hz; simp only [List.mem_cons, List.not_mem_nil, or_false] at hz; rcases hz with rfl | rfl | rfl | rfl; exact w1; exact w2; exact w3; exact w4) (by simp) (Box.new _ _ _)
    rwa [show m1.heap.size = m1.heap.size by simp] at h)
  obtain ⟨v0, v1, v2, v3, v4, v5⟩ := HV.out.cells
  simp only at v0 v1 v2 v3 v4 v5
  go_wp2_with fail
  clear v0 v1 v2 v3 v4 v5 
  generalize hWx : m1.alloc (.cells #[.int .u32 a1, .int .u32 a2, .int .u32 a3, .int .u32 a4] 22) = Wx at *
  generalize hAx : m1.heap.size = Ax at *
  clear hWx hAx
  obtain ⟨bx, ccx, hq, hT⟩ := HAx.out.at
  simp only [HLen.out, Value.slice.injEq] at hq hT
  obtain ⟨rfl, _, rfl⟩ := hq
  have cx := call_any 1 (e0, e1, e2, e3) a0 len0 cap0 x0 ts0 (some ⟨Ax, 0, none⟩) 4 4 [a1, a2, a3, a4] Wx hT HF.out HX.out HWx.out
  rw [HRr.out] at cx
  clear hT
  refine cx.mono ?_
  rintro e mx ⟨Vx, rfl, hb3, hr3⟩
  clear cx
  have HBx := Lib.hid (HAx.out.later hb3)
  have HRx := Lib.hid (hr3.low (base' := w.heap.size) HAx.out.1.size)
  clear hb3 hr3
  rcases r with ⟨re, told, f⟩
  by_cases hok : f = 0 ∧ told = 0
  · obtain ⟨hf0, ht0⟩ := hok
    subst hf0
    subst ht0
    obtain ⟨u, d, g, g', k1, k2, k3, k4, k5, k6, k7⟩ := after_ok (e := ((e0, e1, e2, e3), ts0, x0)) HI.out w3.1 HF.out (by rw [HRr.out]) (by rw [HRr.out])
    simp only at k1 k2 k3 k4 k5 k6 k7
    rw [HRr.out] at k1
    simp only [Prod.mk.injEq, and_true] at k1
    subst k1
    obtain ⟨us, hus⟩ : ∃ us, ts0.set i u = us := ⟨_, rfl⟩
    obtain ⟨ds, hds⟩ : ∃ ds, ts0.set i d = ds := ⟨_, rfl⟩
    have HLu : Hid (us.length = len0) := Lib.hid (by rw [← hus, List.length_set]; exact HLen.out)
    have HLd : Hid (ds.length = len0) := Lib.hid (by rw [← hds, List.length_set]; exact HLen.out)
    rw [hus] at k2 k4 k5 k6 HRx
    rw [hds] at k3 k6 k7
    have HFus := Lib.hid k2
    have HFds := Lib.hid k3
    have HK4 := Lib.hid k4
    have HK5 := Lib.hid k5
    have HK6 := Lib.hid k6
    have HK7 := Lib.hid k7
    clear k2 k3 k4 k5 k6 k7 hus hds
    obtain ⟨d1, p1, hu, _⟩ := HRx.out.at
    simp only [HLu.out] at hu
    subst hu
    have HX1 : Hid (Vq w (mx.alloc (.cells #[.int .u32 e0, .int .u32 e1, .int .u32 e2, .int .u32 e3, .slice d1 len0 p1, .int .u32 x0] 26)) mx.heap.size ((e0, e1, e2, e3), us, x0) (.slice d1 len0 p1)) := Lib.hid (Vq.new HBx.out.1 HRx.out)
    clear HBx HRx HAx HWx
    have HAg := Lib.hid (HX1.out.later (belowA (mx.alloc (.cells #[.int .u32 e0, .int .u32 e1, .int .u32 e2, .int .u32 e3, .slice d1 len0 p1, .int .u32 x0] 26)) (.cells #[.int .u32 a1, .int .u32 a2, .int .u32 a3] 22)))
    have HWg : Hid (WordsAt ((mx.alloc (.cells #[.int .u32 e0, .int .u32 e1, .int .u32 e2, .int .u32 e3, .slice d1 len0 p1, .int .u32 x0] 26)).alloc (.cells #[.int .u32 a1, .int .u32 a2, .int .u32 a3] 22)) (some ⟨mx.heap.size + 1, 0, none⟩) 3 3 [a1, a2, a3]) := Lib.hid (by
      have h := words_box (W := (mx.alloc (.cells #[.int .u32 e0, .int .u32 e1, .int .u32 e2, .int .u32 e3, .slice d1 len0 p1, .int .u32 x0] 26)).alloc (.cells #[.int .u32 a1, .int .u32 a2, .int .u32 a3] 22)) (A := (mx.alloc (.cells #[.int .u32 e0, .int .u32 e1, .int .u32 e2, .int .u32 e3, .slice d1 len0 p1, .int .u32 x0] 26)).heap.size) [a1, a2, a3] (by intro z hz; simp only [List.mem_cons, List.not_mem_nil, or_false] at hz; rcases hz with rfl | rfl | rfl; exact w1; exact w2; exact w3) (by simp) (Box.new _ _ _)
      rwa [show (mx.alloc (.cells #[.int .u32 e0, .int .u32 e1, .int .u32 e2, .int .u32 e3, .slice d1 len0 p1, .int .u32 x0] 26)).heap.size = mx.heap.size + 1 by simp] at h)
    obtain ⟨v0, v1, v2, v3, v4, v5⟩ := HX1.out.cells
    simp only at v0 v1 v2 v3 v4 v5
    go_wp2_with fail
    clear v0 v1 v2 v3 v4 v5 HX1
    generalize hWx : (mx.alloc (.cells #[.int .u32 e0, .int .u32 e1, .int .u32 e2, .int .u32 e3, .slice d1 len0 p1, .int .u32 x0] 26)).alloc (.cells #[.int .u32 a1, .int .u32 a2, .int .u32 a3] 22) = Wg at *
    generalize hAx : mx.heap.size + 1 = Ag at *
    clear hWx hAx
    generalize hBx : mx.heap.size = B1 at *
    clear hBx
    obtain ⟨bg, ccg, hq, hT⟩ := HAg.out.at
    simp only [HLu.out, Value.slice.injEq] at hq hT
    obtain ⟨rfl, _, rfl⟩ := hq
    have cg := call_any 0 (e0, e1, e2, e3) d1 len0 p1 x0 us (some ⟨Ag, 0, none⟩) 3 3 [a1, a2, a3] Wg hT HFus.out HX.out HWg.out
    rw [HK4.out] at cg
    clear hT
    refine cg.mono ?_
    rintro e mg ⟨Vg, rfl, hb3, hr3⟩
    clear cg
    have HBg := Lib.hid (HAg.out.later hb3)
    have HRg := Lib.hid (hr3.low (base' := w.heap.size) HAg.out.1.size)
    clear hb3 hr3
    rcases g with ⟨⟨g0, g1, g2, g3⟩, gs, gx⟩
    obtain ⟨dg, pg, hu, _⟩ := HRg.out.at
    simp only at hu
    subst hu
    have HX2 := Lib.hid (HBg.out.later (belowA mg (.cells #[.int .u32 g0, .int .u32 g1, .int .u32 g2, .int .u32 g3, .slice dg gs.length pg, .int .u32 gx] 26)))
    clear HBg HRg HAg HWg
    have HAh := Lib.hid (HX2.out.later (belowA (mg.alloc (.cells #[.int .u32 g0, .int .u32 g1, .int .u32 g2, .int .u32 g3, .slice dg gs.length pg, .int .u32 gx] 26)) (.cells #[.int .u32 a1, .int .u32 a2] 22)))
    have HWh : Hid (WordsAt ((mg.alloc (.cells #[.int .u32 g0, .int .u32 g1, .int .u32 g2, .int .u32 g3, .slice dg gs.length pg, .int .u32 gx] 26)).alloc (.cells #[.int .u32 a1, .int .u32 a2] 22)) (some ⟨mg.heap.size + 1, 0, none⟩) 2 2 [a1, a2]) := Lib.hid (by
      have h := words_box (W := (mg.alloc (.cells #[.int .u32 g0, .int .u32 g1, .int .u32 g2, .int .u32 g3, .slice dg gs.length pg, .int .u32 gx] 26)).alloc (.cells #[.int .u32 a1, .int .u32 a2] 22)) (A := (mg.alloc (.cells #[.int .u32 g0, .int .u32 g1, .int .u32 g2, .int .u32 g3, .slice dg gs.length pg, .int .u32 gx] 26)).heap.size) [a1, a2] (by intro z hz; simp only [List.mem_cons, List.not_mem_nil, or_false] at hz; rcases hz with rfl | rfl; exact w1; exact w2) (by simp) (Box.new _ _ _)
      rwa [show (mg.alloc (.cells #[.int .u32 g0, .int .u32 g1, .int .u32 g2, .int .u32 g3, .slice dg gs.length pg, .int .u32 gx] 26)).heap.size = mg.heap.size + 1 by simp] at h)
    obtain ⟨v0, v1, v2, v3, v4, v5⟩ := HX2.out.cells
    simp only at v0 v1 v2 v3 v4 v5
    go_wp2_with fail
    clear v0 v1 v2 v3 v4 v5 HX2
    generalize hWx : (mg.alloc (.cells #[.int .u32 g0, .int .u32 g1, .int .u32 g2, .int .u32 g3, .slice dg gs.length pg, .int .u32 gx] 26)).alloc (.cells #[.int .u32 a1, .int .u32 a2] 22) = Wh at *
    generalize hAx : mg.heap.size + 1 = Ah at *
    clear hWx hAx
    obtain ⟨bh, cch, hq, hT⟩ := HAh.out.at
    simp only [HLu.out, Value.slice.injEq] at hq hT
    obtain ⟨rfl, _, rfl⟩ := hq
    have ch := call_any 3 (e0, e1, e2, e3) d1 len0 p1 x0 us (some ⟨Ah, 0, none⟩) 2 2 [a1, a2] Wh hT HFus.out HX.out HWh.out
    rw [HK5.out] at ch
    clear hT
    refine ch.mono ?_
    rintro e mh ⟨Vh, rfl, hb3, hr3⟩
    clear ch
    have HBh := Lib.hid (HAh.out.later hb3)
    have HRh := Lib.hid (hr3.low (base' := w.heap.size) HAh.out.1.size)
    clear hb3 hr3
    obtain ⟨dh, ph, hu, _⟩ := HRh.out.at
    simp only [HLu.out] at hu
    subst hu
    have HX3 := Lib.hid (HBh.out.later (belowA mh (.cells #[.int .u32 e0, .int .u32 e1, .int .u32 e2, .int .u32 e3, .slice dh len0 ph, .int .u32 x0] 26)))
    clear HBh HRh HAh HWh
    have HAq := Lib.hid (HX3.out.later (belowA (mh.alloc (.cells #[.int .u32 e0, .int .u32 e1, .int .u32 e2, .int .u32 e3, .slice dh len0 ph, .int .u32 x0] 26)) (.cells #[.int .u32 a1, .int .u32 a2] 22)))
    have HWq : Hid (WordsAt ((mh.alloc (.cells #[.int .u32 e0, .int .u32 e1, .int .u32 e2, .int .u32 e3, .slice dh len0 ph, .int .u32 x0] 26)).alloc (.cells #[.int .u32 a1, .int .u32 a2] 22)) (some ⟨mh.heap.size + 1, 0, none⟩) 2 2 [a1, a2]) := Lib.hid (by
      have h := words_box (W := (mh.alloc (.cells #[.int .u32 e0, .int .u32 e1, .int .u32 e2, .int .u32 e3, .slice dh len0 ph, .int .u32 x0] 26)).alloc (.cells #[.int .u32 a1, .int .u32 a2] 22)) (A := (mh.alloc (.cells #[.int .u32 e0, .int .u32 e1, .int .u32 e2, .int .u32 e3, .slice dh len0 ph, .int .u32 x0] 26)).heap.size) [a1, a2] (by intro z hz; simp only [List.mem_cons, List.not_mem_nil, or_false] at hz; rcases hz with rfl | rfl; exact w1; exact w2) (by simp) (Box.new _ _ _)
      rwa [show (mh.alloc (.cells #[.int .u32 e0, .int .u32 e1, .int .u32 e2, .int .u32 e3, .slice dh len0 ph, .int .u32 x0] 26)).heap.size = mh.heap.size + 1 by simp] at h)
    obtain ⟨v0, v1, v2, v3, v4, v5⟩ := HX3.out.cells
    simp only at v0 v1 v2 v3 v4 v5
    go_wp2_with fail
    clear v0 v1 v2 v3 v4 v5 HX3
    generalize hWx : (mh.alloc (.cells #[.int .u32 e0, .int .u32 e1, .int .u32 e2, .int .u32 e3, .slice dh len0 ph, .int .u32 x0] 26)).alloc (.cells #[.int .u32 a1, .int .u32 a2] 22) = Wq at *
    generalize hAx : mh.heap.size + 1 = Aq at *
    clear hWx hAx
    obtain ⟨bq, ccq, hq, hT⟩ := HAq.out.at
    simp only [HLu.out, Value.slice.injEq] at hq hT
    obtain ⟨rfl, _, rfl⟩ := hq
    have cq := call_any 2 (e0, e1, e2, e3) d1 len0 p1 x0 us (some ⟨Aq, 0, none⟩) 2 2 [a1, a2] Wq hT HFus.out HX.out HWq.out
    rw [HK6.out] at cq
    clear hT
    refine cq.mono ?_
    rintro e mq ⟨Vq, rfl, hb3, hr3⟩
    clear cq
    have HBq := Lib.hid (HAq.out.later hb3)
    have HRq := Lib.hid (hr3.low (base' := w.heap.size) HAq.out.1.size)
    clear hb3 hr3
    obtain ⟨dq, pq, hu, _⟩ := HRq.out.at
    simp only [HLd.out] at hu
    subst hu
    have HX4 : Hid (Vq w (mq.alloc (.cells #[.int .u32 e0, .int .u32 e1, .int .u32 e2, .int .u32 e3, .slice dq len0 pq, .int .u32 x0] 26)) mq.heap.size ((e0, e1, e2, e3), ds, x0) (.slice dq len0 pq)) := Lib.hid (Vq.new HBq.out.1 HRq.out)
    clear HBq HRq HAq HWq
    have HAz := Lib.hid (HX4.out.later (belowA (mq.alloc (.cells #[.int .u32 e0, .int .u32 e1, .int .u32 e2, .int .u32 e3, .slice dq len0 pq, .int .u32 x0] 26)) (.cells #[.int .u32 a1, .int .u32 a2, .int .u32 a3] 22)))
    have HWz : Hid (WordsAt ((mq.alloc (.cells #[.int .u32 e0, .int .u32 e1, .int .u32 e2, .int .u32 e3, .slice dq len0 pq, .int .u32 x0] 26)).alloc (.cells #[.int .u32 a1, .int .u32 a2, .int .u32 a3] 22)) (some ⟨mq.heap.size + 1, 0, none⟩) 3 3 [a1, a2, a3]) := Lib.hid (by
      have h := words_box (W := (mq.alloc (.cells #[.int .u32 e0, .int .u32 e1, .int .u32 e2, .int .u32 e3, .slice dq len0 pq, .int .u32 x0] 26)).alloc (.cells #[.int .u32 a1, .int .u32 a2, .int .u32 a3] 22)) (A := (mq.alloc (.cells #[.int .u32 e0, .int .u32 e1, .int .u32 e2, .int .u32 e3, .slice dq len0 pq, .int .u32 x0] 26)).heap.size) [a1, a2, a3] (by intro z hz; simp only [List.mem_cons, List.not_mem_nil, or_false] at hz; rcases hz with rfl | rfl | rfl; exact w1; exact w2; exact w3) (by simp) (Box.new _ _ _)
      rwa [show (mq.alloc (.cells #[.int .u32 e0, .int .u32 e1, .int .u32 e2, .int .u32 e3, .slice dq len0 pq, .int .u32 x0] 26)).heap.size = mq.heap.size + 1 by simp] at h)
    obtain ⟨v0, v1, v2, v3, v4, v5⟩ := HX4.out.cells
    simp only at v0 v1 v2 v3 v4 v5
    go_wp2_with fail
    clear v0 v1 v2 v3 v4 v5 HX4
    generalize hWx : (mq.alloc (.cells #[.int .u32 e0, .int .u32 e1, .int .u32 e2, .int .u32 e3, .slice dq len0 pq, .int .u32 x0] 26)).alloc (.cells #[.int .u32 a1, .int .u32 a2, .int .u32 a3] 22) = Wz at *
    generalize hAx : mq.heap.size + 1 = Az at *
    clear hWx hAx
    generalize hBx : mq.heap.size = B4 at *
    clear hBx
    obtain ⟨bz, ccz, hq, hT⟩ := HAz.out.at
    simp only [HLd.out, Value.slice.injEq] at hq hT
    obtain ⟨rfl, _, rfl⟩ := hq
    have cz := call_any 0 (e0, e1, e2, e3) dq len0 pq x0 ds (some ⟨Az, 0, none⟩) 3 3 [a1, a2, a3] Wz hT HFds.out HX.out HWz.out
    rw [HK7.out] at cz
    clear hT
    refine cz.mono ?_
    rintro e mz ⟨Vz, rfl, hb3, hr3⟩
    clear cz
    have HBz := Lib.hid (HAz.out.later hb3)
    have HRz := Lib.hid (hr3.low (base' := w.heap.size) HAz.out.1.size)
    clear hb3 hr3
    rcases g' with ⟨⟨g0, g1, g2, g3⟩, gs, gx⟩
    obtain ⟨dz, pz, hu, _⟩ := HRz.out.at
    simp only at hu
    subst hu
    have HX5 := Lib.hid (HBz.out.1.trans ((belowA mz (.cells #[.int .u32 g0, .int .u32 g1, .int .u32 g2, .int .u32 g3, .slice dz gs.length pz, .int .u32 gx] 26)).mono HBz.out.1.size))
    clear HBz HRz HAz HWz
    have hvv : (a4 == a4) = true := by simp
    go_wp2_with fail
    go_ret
    exact ⟨rfl, HX5.out⟩
  · have herr : f ≠ 0 ∨ told ≠ 0 := by
      by_cases hf : f = 0
      · exact .inr (fun h => hok ⟨hf, h⟩)
      · exact .inl hf
    have her := after_err (e := ((e0, e1, e2, e3), ts0, x0)) HI.out (by rw [HRr.out]; exact herr)
    have hto : f ≠ 0 → told = 0 := fun h => by
      have := after_told (e := ((e0, e1, e2, e3), ts0, x0)) (m := a1) (key := a2) (f := a3) (v := a4) (by rw [HRr.out]; exact h)
      rw [HRr.out] at this
      exact this
    rw [HRr.out] at her
    simp only at her
    subst her
    obtain ⟨d1, p1, hu, hT1⟩ := HRx.out.at
    simp only [HLen.out] at hu hT1
    subst hu
    have HX1 : Hid (Vq w (mx.alloc (.cells #[.int .u32 e0, .int .u32 e1, .int .u32 e2, .int .u32 e3, .slice d1 len0 p1, .int .u32 x0] 26)) mx.heap.size ((e0, e1, e2, e3), ts0, x0) (.slice d1 len0 p1)) := Lib.hid (Vq.new HBx.out.1 HRx.out)
    have HV2 := Lib.hid (HBx.out.later (belowA mx (.cells #[.int .u32 e0, .int .u32 e1, .int .u32 e2, .int .u32 e3, .slice d1 len0 p1, .int .u32 x0] 26)))
    clear HBx HRx HAx HWx hT1
    obtain ⟨v0, v1, v2, v3, v4, v5⟩ := HX1.out.cells
    obtain ⟨u0, u1, u2, u3, u4, u5⟩ := HV2.out.cells
    simp only at v0 v1 v2 v3 v4 v5 u0 u1 u2 u3 u4 u5
    generalize hXw : (mx.alloc (.cells #[.int .u32 e0, .int .u32 e1, .int .u32 e2, .int .u32 e3, .slice d1 len0 p1, .int .u32 x0] 26)) = X1 at *
    obtain ⟨b9, cc9, hq9, hT9⟩ := HX1.out.at
    simp only [HLen.out, Value.slice.injEq] at hq9 hT9
    obtain ⟨rfl, _, rfl⟩ := hq9
    obtain ⟨b8, cc8, hq8, hT8⟩ := HV2.out.at
    simp only [HLen.out, Value.slice.injEq] at hq8 hT8
    obtain ⟨rfl, _, rfl⟩ := hq8
    have s1 := esame_any (e0, e1, e2, e3) d1 len0 p1 x0 ts0 (e0, e1, e2, e3) a0 len0 cap0 x0 ts0 X1 hT9 hT8
    rw [show decide ((((e0, e1, e2, e3), ts0, x0) : Ev) = ((e0, e1, e2, e3), ts0, x0)) = true from decide_eq_true rfl] at s1
    clear hT9 hT8
    by_cases hf : f = 0
    · have ht : (told != 0) = true := by simpa using herr.resolve_left (fun h => h hf)
      subst hf
      have hz : ((0 : Int) != 0) = false := by simp
      clear herr hok hto
      go_wp2_with fail
      clear hXw
      refine s1.mono ?_
      rintro e m9 ⟨rfl, hb9⟩
      go_wp2_with fail
      go_ret
      exact ⟨rfl, HX1.out.1.trans (hb9.mono HX1.out.1.size)⟩
    · have ht : told = 0 := hto hf
      have hfn : (f != 0) = true := by simpa using hf
      subst ht
      have hz : ((0 : Int) == 0) = true := by simp
      clear herr hok hto hf
      go_wp2_with fail
      clear hXw
      refine s1.mono ?_
      rintro e m9 ⟨rfl, hb9⟩
      go_wp2_with fail
      go_ret
      exact ⟨rfl, HX1.out.1.trans (hb9.mono HX1.out.1.size)⟩


theorem own : ownKnob Try.prog.godebug = none := by kernel_rfl
theorem laidOut : laidOutB Try.prog = true := by kernel_rfl
set_option maxRecDepth 100000 in
theorem lifted (os : Os) (started : os.Started) (H : Type) (enc : TypeId × Value → H) :
    ReturnsInHanded {} Try.checked os 5 .any (Rows.helperAfterSpec.pre6 enc Try.prog Try.f5 Rows.helperAfterRow.domain false) (Rows.helperAfterSpec.post enc Try.prog Try.f5 false true false false) := by
  refine returnsInHanded_of_change (C := Try.checked) own started (by kernel_rfl) Try.func5
    (ChangeSpec.witness6 (enc := enc) (C := Try.checked) false ⟨#[], #[.agg #[.int .u32 0, .int .u32 0, .int .u32 0, .int .u32 0, .slice none 0 0, .int .u32 0], .int .u32 0, .int .u32 0, .int .u32 0, .int .u32 0], []⟩ 8 (by kernel_rfl) (by kernel_rfl) (by kernel_rfl) (by kernel_rfl)) ?_
  intro W base args ds gs before hval0 hW hcnd _
  have hval : ∀ (j : Nat) t v, Try.f5.params[j]? = some t → args[j]? = some v → Value.okWide Try.prog W .any base t v := hval0
  have hW' := hW
  obtain ⟨p, q, hA0, hV, rfl, hfz, hnd⟩ := hW
  have hA : DataW.TrodAll enc Try.prog W 0 (fun _ => true) true Try.f5.params.toList args.toList ds p := hA0
  rw [Try.params5] at hA hval
  obtain ⟨u0, vs0, e0, ds0, p0, q0, hargs, rfl, rfl, h0, t0⟩ := trodAll_cons hA
  obtain ⟨u1, vs1, e1, ds1, p1, q1, rfl, rfl, rfl, h1, t1⟩ := trodAll_cons t0
  obtain ⟨u2, vs2, e2, ds2, p2, q2, rfl, rfl, rfl, h2, t2⟩ := trodAll_cons t1
  obtain ⟨u3, vs3, e3, ds3, p3, q3, rfl, rfl, rfl, h3, t3⟩ := trodAll_cons t2
  obtain ⟨u4, vs4, e4, ds4, p4, q4, rfl, rfl, rfl, h4, t4⟩ := trodAll_cons t3
  obtain ⟨rfl, rfl, rfl⟩ := trodAll_nil t4
  obtain rfl : args = #[u0, u1, u2, u3, u4] := by cases args; simp_all
  obtain ⟨rfl, rfl⟩ := trodVars_none hV
  have y0 := h0
  have lt0 : ∀ x ∈ p0, x.block < W.heap.size := by obtain ⟨m, hm⟩ := y0; exact DataW.trod_lt m _ _ _ hm
  have y1 := h1
  have lt1 : ∀ x ∈ p1, x.block < W.heap.size := by obtain ⟨m, hm⟩ := y1; exact DataW.trod_lt m _ _ _ hm
  have y2 := h2
  have lt2 : ∀ x ∈ p2, x.block < W.heap.size := by obtain ⟨m, hm⟩ := y2; exact DataW.trod_lt m _ _ _ hm
  have y3 := h3
  have lt3 : ∀ x ∈ p3, x.block < W.heap.size := by obtain ⟨m, hm⟩ := y3; exact DataW.trod_lt m _ _ _ hm
  have y4 := h4
  have lt4 : ∀ x ∈ p4, x.block < W.heap.size := by obtain ⟨m, hm⟩ := y4; exact DataW.trod_lt m _ _ _ hm
  obtain ⟨c0, a0, len0, cap0, x0, ts0, rfl, w0, yx0⟩ := open_env (hval 0 26 u0 rfl rfl) h0
  obtain ⟨a1, rfl, _, _, w1'⟩ := open_int Try.underlying22 (hval 1 22 u1 rfl rfl) h1
  have w1 : isW a1 := bounds_u32 w1'
  obtain ⟨a2, rfl, _, _, w2'⟩ := open_int Try.underlying22 (hval 2 22 u2 rfl rfl) h2
  have w2 : isW a2 := bounds_u32 w2'
  obtain ⟨a3, rfl, _, _, w3'⟩ := open_int Try.underlying22 (hval 3 22 u3 rfl rfl) h3
  have w3 : isW a3 := bounds_u32 w3'
  obtain ⟨a4, rfl, _, _, w4'⟩ := open_int Try.underlying22 (hval 4 22 u4 rfl rfl) h4
  have w4 : isW a4 := bounds_u32 w4'
  clear hA0 hval0
  refine (walk c0 a0 len0 cap0 x0 ts0 a1 w1 a2 w2 a3 w3 a4 w4 W w0 yx0).mono fun e W' ⟨he, bel⟩ => ?_
  subst he
  exact ⟨_, rfl, _, _, _, [], _, [], hW', trodAll_mk1 (shut_bool Try.underlying4 _), (trodAll_cons_mk (Below.trod laidOut (by kernel_rfl) (of_decide_eq_true (by kernel_rfl)) y0 bel lt0) (trodAll_cons_mk (Below.trod laidOut (by kernel_rfl) (of_decide_eq_true (by kernel_rfl)) y1 bel lt1) (trodAll_cons_mk (Below.trod laidOut (by kernel_rfl) (of_decide_eq_true (by kernel_rfl)) y2 bel lt2) (trodAll_cons_mk (Below.trod laidOut (by kernel_rfl) (of_decide_eq_true (by kernel_rfl)) y3 bel lt3) (trodAll_cons_mk (Below.trod laidOut (by kernel_rfl) (of_decide_eq_true (by kernel_rfl)) y4 bel lt4) trodAll_mk0))))), rfl, bel.frame _, fun h => by cases h⟩

theorem over : Rows.helperAfterRow.holds Try.pinned (OpenSpec.ofChange Rows.helperAfterSpec) :=
  OpenClaim.holds_of_wide 5 Try.f5 rfl rfl rfl rfl rfl rfl rfl ⟨rfl, rfl, rfl, rfl, rfl⟩ rfl rfl rfl rfl rfl (by kernel_rfl) Try.func5 (by kernel_rfl)
    (of_decide_eq_true (by kernel_rfl)) (by unfold Func.isWrapper; first | (rw [if_pos (by decide +kernel)]; kernel_rfl) | (rw [if_neg (by decide +kernel)]; exact ⟨rfl, rfl⟩))
    (fun os started H enc _ => lifted os started H enc)

theorem proved : Rows.HelperAfterSaid := over
#print axioms proved
end Go.Proofs.Ythpniennaaihgaa.helperAfter
