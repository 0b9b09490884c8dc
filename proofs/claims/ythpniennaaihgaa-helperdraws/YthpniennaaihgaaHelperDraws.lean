/-
  Draws one behind the other differ, and hang on the seed alone.
  Conditions: none.
-/
import Derived.Test.YthpniennaaihgaaRows
import Derived.Test.YthpniennaaihgaaGh
import Derived.WalkKit
import Derived.ProofKit
import Derived.OpenShut
import Derived.ChangeOld
import Derived.Below
namespace Go.Proofs.Ythpniennaaihgaa.helperDraws
open Go.ChangeShapes Go.WideShapes Go.ChangeAt Go.RowKit
set_option linter.unusedVariables false

set_option maxRecDepth 100000 in
set_option maxHeartbeats 8000000 in
theorem walk (c0 : Cx) (a0 : Option Addr) (len0 cap0 : Nat) (x0 : Int) (ts0 : List Tb) (a1 : Int) (w1 : (Lit.int .i64 a1).wf = true) (w : World) (w0 : TabsAt w a0 len0 cap0 ts0) (y0 : isW x0) :
    Calls Try.prog 6 #[envV c0 (.slice a0 len0 cap0) x0, .int .i64 a1] w fun e w' => e = .returned (.bool true) ∧ Below w.heap.size w w' := by
  rcases c0 with ⟨e0, e1, e2, e3⟩
  obtain ⟨P, hP⟩ : ∃ P, w.heap.size = P := ⟨_, rfl⟩
  obtain ⟨W0, hW0⟩ : ∃ W0, w.alloc (.cells #[.int .u32 e0, .int .u32 e1, .int .u32 e2, .int .u32 e3, .slice a0 len0 cap0, .int .u32 x0] 26) = W0 := ⟨_, rfl⟩
  have HV : Hid (Vq w W0 P ((e0, e1, e2, e3), ts0, x0) (.slice a0 len0 cap0)) := by rw [← hW0, ← hP]; exact Lib.hid (Vq.begin (e0, e1, e2, e3) x0 w0)
  have HX := Lib.hid y0
  have H1 := Lib.hid w0.1
  have hlm := w0.max
  clear w0 y0
  go_enter Try.func6, Try.ntmps6
  go_wp2_with fail
  clear hW0 hP
  refine (awake_any W0).mono ?_
  rintro e m1 ⟨rfl, hb⟩
  replace HV := Lib.hid (HV.out.later hb)
  clear hb
  obtain ⟨v0, v1, v2, v3, v4, v5⟩ := HV.out.cells
  simp only at v0 v1 v2 v3 v4 v5
  go_wp2_with fail
  obtain ⟨b9, cc9, hq, hT⟩ := HV.out.at
  simp only [H1.out, Value.slice.injEq] at hq hT
  obtain ⟨rfl, _, rfl⟩ := hq
  have cf := few_any a0 len0 cap0 ts0 m1 hT
  rcases hfew : fewTs ts0 with _ | _
  · rw [hfew] at cf
    refine cf.mono ?_
    rintro e m2 ⟨rfl, hm2⟩
    subst m2
    clear cf hfew hT
    go_wp2_with fail
    go_ret
    exact ⟨rfl, HV.out.1⟩
  rw [hfew] at cf
  have HF := Lib.hid (few_of hfew)
  refine cf.mono ?_
  rintro e m2 ⟨rfl, hm2⟩
  subst m2
  clear cf hfew hT
  by_cases hn0 : a1 < 0
  · go_wp2_with fail
    go_ret
    exact ⟨rfl, HV.out.1⟩
  by_cases hn1 : 100 < a1
  · go_wp2_with fail
    go_ret
    exact ⟨rfl, HV.out.1⟩
  obtain ⟨n, hn⟩ : ∃ n : Nat, a1 = (n : Int) := ⟨a1.toNat, by omega⟩
  have hn9 : n ≤ 100 := by omega
  have HN := Lib.hid hn
  go_wp2_with fail
  clear v0 v1 v2 v3 v4 v5 hn0 hn1
  subst hn
  go_loopw [7, 8] (fun s i wr => ∃ (k : Nat) (sd : Int) (V : Value), k ≤ n ∧ i = .int .i64 k ∧ s = .int .u32 sd ∧ Hid (isW sd) ∧ Hid (Vq w wr P ((e0, e1, e2, e3), ts0, sd) V)) (fun _ i _ => n - (intOf i).toNat)
  case atStart => exact ⟨0, x0, _, by omega, rfl, rfl, HX, HV⟩
  case round =>
    obtain ⟨k, sd, V, hk, rfl, rfl, HSd, HV2⟩ := hrel
    clear HV
    have HV := HV2
    clear HV2
    obtain ⟨b, cc, hq, hT⟩ := HV.out.at
    simp only [H1.out] at hq hT
    subst hq
    have HT := Lib.hid hT
    clear hT
    obtain ⟨v0, v1, v2, v3, v4, v5⟩ := HV.out.cells
    simp only at v0 v1 v2 v3 v4 v5
    by_cases hkl : k < n
    · have hkI : (k : Int) < (n : Int) := by omega
      go_wp2_with fail
      have c2 := call_any 4 (e0, e1, e2, e3) b len0 cc sd ts0 none 0 0 [] wr HT.out HF.out HSd.out (words_nil wr)
      rw [callP_draw (e := ((e0, e1, e2, e3), ts0, sd)) (by decide)] at c2
      simp only at c2
      obtain ⟨dv, hdv⟩ : ∃ dv, drawP sd = dv := ⟨_, rfl⟩
      have hdne : (dv == sd) = false := by rw [← hdv]; simp [drawP_ne]
      have HDw : Hid (isW dv) := Lib.hid (by rw [← hdv]; exact drawP_w sd)
      rw [hdv] at c2
      refine c2.mono ?_
      rintro e m3 ⟨V3, rfl, hb3, hr3⟩
      clear c2
      have HV3 := Lib.hid (HV.out.later hb3)
      have HR3 := Lib.hid (hr3.low (base' := w.heap.size) HV.out.1.size)
      obtain ⟨b3, p3, hu, _⟩ := hr3.at
      simp only [H1.out] at hu
      subst hu
      clear hb3 hr3 v0 v1 v2 v3 v4 v5
      have HV4 := Lib.hid (HV3.out.later (belowA m3 (.cells #[.int .u32 e0, .int .u32 e1, .int .u32 e2, .int .u32 e3, .slice b3 len0 p3, .int .u32 dv] 26)))
      have HR4 := Lib.hid (HR3.out.below (belowA m3 (.cells #[.int .u32 e0, .int .u32 e1, .int .u32 e2, .int .u32 e3, .slice b3 len0 p3, .int .u32 dv] 26)))
      have HB4 : Hid (Box (m3.alloc (.cells #[.int .u32 e0, .int .u32 e1, .int .u32 e2, .int .u32 e3, .slice b3 len0 p3, .int .u32 dv] 26)) m3.heap.size 26 #[.int .u32 e0, .int .u32 e1, .int .u32 e2, .int .u32 e3, .slice b3 len0 p3, .int .u32 dv]) := Lib.hid (Box.new _ _ _)
      have q0 : (m3.alloc (.cells #[.int .u32 e0, .int .u32 e1, .int .u32 e2, .int .u32 e3, .slice b3 len0 p3, .int .u32 dv] 26)).cell? ⟨m3.heap.size, 0, none⟩ = some (.int .u32 e0) := HB4.out.cell rfl
      have q1 : (m3.alloc (.cells #[.int .u32 e0, .int .u32 e1, .int .u32 e2, .int .u32 e3, .slice b3 len0 p3, .int .u32 dv] 26)).cell? ⟨m3.heap.size, 1, none⟩ = some (.int .u32 e1) := HB4.out.cell rfl
      have q2 : (m3.alloc (.cells #[.int .u32 e0, .int .u32 e1, .int .u32 e2, .int .u32 e3, .slice b3 len0 p3, .int .u32 dv] 26)).cell? ⟨m3.heap.size, 2, none⟩ = some (.int .u32 e2) := HB4.out.cell rfl
      have q3 : (m3.alloc (.cells #[.int .u32 e0, .int .u32 e1, .int .u32 e2, .int .u32 e3, .slice b3 len0 p3, .int .u32 dv] 26)).cell? ⟨m3.heap.size, 3, none⟩ = some (.int .u32 e3) := HB4.out.cell rfl
      have q4 : (m3.alloc (.cells #[.int .u32 e0, .int .u32 e1, .int .u32 e2, .int .u32 e3, .slice b3 len0 p3, .int .u32 dv] 26)).cell? ⟨m3.heap.size, 4, none⟩ = some (.slice b3 len0 p3) := HB4.out.cell rfl
      have q5 : (m3.alloc (.cells #[.int .u32 e0, .int .u32 e1, .int .u32 e2, .int .u32 e3, .slice b3 len0 p3, .int .u32 dv] 26)).cell? ⟨m3.heap.size, 5, none⟩ = some (.int .u32 dv) := HB4.out.cell rfl
      have hz : ((0 : Int) != 0) = false := by simp
      have hdd : (dv != dv) = false := by simp
      have HDv := Lib.hid hdv
      clear hdv
      go_wp2_with fail
      have c3 := draw_any sd (m3.alloc (.cells #[.int .u32 e0, .int .u32 e1, .int .u32 e2, .int .u32 e3, .slice b3 len0 p3, .int .u32 dv] 26))
      rw [HDv.out] at c3
      refine c3.mono ?_
      rintro e m4 ⟨rfl, hm4⟩
      subst m4
      clear c3
      have HBx := Lib.hid HV4.out.2.1
      have HVn := Lib.hid (HV4.out.set (e' := ((e0, e1, e2, e3), ts0, dv)) HR4.out)
      go_wp2_with (refine wpList_store_row rfl 26 _ _ rfl P _ rfl rfl 26 _ HBx.out (by kernel_rfl) rfl (by simp [Value.oneCell']) ?_)
      exact ⟨⟨k + 1, dv, _, by omega, by go_num, rfl, HDw, HVn⟩, by simp [intOf]; omega⟩
    · have hkI : ¬ (k : Int) < (n : Int) := by omega
      go_wp2_with fail
      go_ret
      exact ⟨rfl, HV.out.1⟩


theorem own : ownKnob Try.prog.godebug = none := by kernel_rfl
theorem laidOut : laidOutB Try.prog = true := by kernel_rfl
set_option maxRecDepth 100000 in
theorem lifted (os : Os) (started : os.Started) (H : Type) (enc : TypeId × Value → H) :
    ReturnsInHanded {} Try.checked os 6 .any (Rows.helperDrawsSpec.pre6 enc Try.prog Try.f6 Rows.helperDrawsRow.domain false) (Rows.helperDrawsSpec.post enc Try.prog Try.f6 false true false false) := by
  refine returnsInHanded_of_change (C := Try.checked) own started (by kernel_rfl) Try.func6
    (ChangeSpec.witness6 (enc := enc) (C := Try.checked) false ⟨#[], #[.agg #[.int .u32 0, .int .u32 0, .int .u32 0, .int .u32 0, .slice none 0 0, .int .u32 0], .int .i64 0], []⟩ 8 (by kernel_rfl) (by kernel_rfl) (by kernel_rfl) (by kernel_rfl)) ?_
  intro W base args ds gs before hval0 hW hcnd _
  have hval : ∀ (j : Nat) t v, Try.f6.params[j]? = some t → args[j]? = some v → Value.okWide Try.prog W .any base t v := hval0
  have hW' := hW
  obtain ⟨p, q, hA0, hV, rfl, hfz, hnd⟩ := hW
  have hA : DataW.TrodAll enc Try.prog W 0 (fun _ => true) true Try.f6.params.toList args.toList ds p := hA0
  rw [Try.params6] at hA hval
  obtain ⟨u0, vs0, e0, ds0, p0, q0, hargs, rfl, rfl, h0, t0⟩ := trodAll_cons hA
  obtain ⟨u1, vs1, e1, ds1, p1, q1, rfl, rfl, rfl, h1, t1⟩ := trodAll_cons t0
  obtain ⟨rfl, rfl, rfl⟩ := trodAll_nil t1
  obtain rfl : args = #[u0, u1] := by cases args; simp_all
  obtain ⟨rfl, rfl⟩ := trodVars_none hV
  have y0 := h0
  have lt0 : ∀ x ∈ p0, x.block < W.heap.size := by obtain ⟨m, hm⟩ := y0; exact DataW.trod_lt m _ _ _ hm
  have y1 := h1
  have lt1 : ∀ x ∈ p1, x.block < W.heap.size := by obtain ⟨m, hm⟩ := y1; exact DataW.trod_lt m _ _ _ hm
  obtain ⟨c0, a0, len0, cap0, x0, ts0, rfl, w0, yx0⟩ := open_env (hval 0 26 u0 rfl rfl) h0
  obtain ⟨a1, rfl, _, _, w1⟩ := open_int Try.underlying3 (hval 1 3 u1 rfl rfl) h1
  clear hA0 hval0
  refine (walk c0 a0 len0 cap0 x0 ts0 a1 w1 W w0 yx0).mono fun e W' ⟨he, bel⟩ => ?_
  subst he
  exact ⟨_, rfl, _, _, _, [], _, [], hW', trodAll_mk1 (shut_bool Try.underlying4 _), (trodAll_cons_mk (Below.trod laidOut (by kernel_rfl) (of_decide_eq_true (by kernel_rfl)) y0 bel lt0) (trodAll_cons_mk (Below.trod laidOut (by kernel_rfl) (of_decide_eq_true (by kernel_rfl)) y1 bel lt1) trodAll_mk0)), rfl, bel.frame _, fun h => by cases h⟩

theorem over : Rows.helperDrawsRow.holds Try.pinned (OpenSpec.ofChange Rows.helperDrawsSpec) :=
  OpenClaim.holds_of_wide 6 Try.f6 rfl rfl rfl rfl rfl rfl rfl ⟨rfl, rfl, rfl, rfl, rfl⟩ rfl rfl rfl rfl rfl (by kernel_rfl) Try.func6 (by kernel_rfl)
    (of_decide_eq_true (by kernel_rfl)) (by unfold Func.isWrapper; first | (rw [if_pos (by decide +kernel)]; kernel_rfl) | (rw [if_neg (by decide +kernel)]; exact ⟨rfl, rfl⟩))
    (fun os started H enc _ => lifted os started H enc)

theorem proved : Rows.HelperDrawsSaid := over
#print axioms proved
end Go.Proofs.Ythpniennaaihgaa.helperDraws
