/-
  With more fuel a program comes to the same, unless it was too long; it never takes more than it has.
  Conditions: none; the package variable that the law reads starts as its initialiser lays it (the card ties it).
-/
import Derived.Test.YtilddlgcfbefiaaDoorRows
import Derived.Test.YtilddlgcfbefiaaDoorCards
import Derived.Test.YtilddlgcfbefiaaDoorTie
import Derived.Test.YtilddlgcfbefiaaDoorGik
import Derived.Test.YtilddlgcfbefiaaDoorGio
import Derived.Test.YtilddlgcfbefiaaDoorGcd
import Derived.Test.YtilddlgcfbefiaaDoorGip
import Derived.WalkKit
import Derived.ProofKit
import Derived.OpenShut
import Derived.ChangeOld
import Derived.Below
import Derived.SevenTiedAt
namespace Go.Proofs.YtilddlgcfbefiaaDoor.interpFuel
set_option linter.unusedSimpArgs false
set_option linter.unusedVariables false
open Go.ChangeShapes Go.WideShapes Go.ChangeAt Go.RowKit

set_option maxRecDepth 100000 in
set_option maxHeartbeats 20000000 in
theorem walk (a0 : Option Addr) (len0 cap0 : Nat) (fs0 : List Fun) (c1 : Cx) (a1 : Option Addr) (len1 cap1 : Nat) (x1 : Int) (ts1 : List Tb) (a2 : Int) (w2 : (Lit.int .i64 a2).wf = true) (a3 : Int) (w3 : (Lit.int .i64 a3).wf = true) (w : World) (hR : RowsIn w) (w0 : FnsAt w a0 len0 cap0 fs0) (w1 : TabsAt w a1 len1 cap1 ts1) (y1 : isW x1) (z1 : isW c1.1 ∧ isW c1.2.1 ∧ isW c1.2.2.1 ∧ isW c1.2.2.2) :
    Calls Tryd.prog 3 #[.agg #[.slice a0 len0 cap0], envV c1 (.slice a1 len1 cap1) x1, .int .i64 a2, .int .i64 a3] w fun e w' => e = .returned (.bool true) ∧ Below w.heap.size w w' := by
  rcases c1 with ⟨e0, e1, e2, e3⟩
  simp only at z1
  obtain ⟨W0, hW0, hA0⟩ := Ar.begin (e0, e1, e2, e3) x1 hR w0 w1
  simp only at hW0
  have HA := Lib.hid hA0
  have HP0 := Lib.hid w0
  have HX := Lib.hid y1
  have HZ := Lib.hid z1
  have HLm := Lib.hid w0.2.1
  clear hA0 hR w0 w1 y1 z1
  obtain ⟨p0, q0, q1, q2, q3, q4, q5⟩ := HA.out.cells
  simp only at p0 q0 q1 q2 q3 q4 q5
  go_enter Tryd.func3, Tryd.ntmps3
  go_wp2_with fail
  refine (iawake_any W0 HA.out.rows).mono ?_
  rintro en1 m1 ⟨rfl, hb1⟩
  replace HA := Lib.hid (HA.out.later hb1)
  clear hb1 hW0 p0 q0 q1 q2 q3 q4 q5
  obtain ⟨p0, q0, q1, q2, q3, q4, q5⟩ := HA.out.cells
  simp only at p0 q0 q1 q2 q3 q4 q5
  go_wp2_with fail
  refine (ifew_any fs0 a0 len0 cap0 (e0, e1, e2, e3) a1 len1 cap1 x1 ts1 m1 HA.out.fns HA.out.tabs).mono ?_
  rintro en2 m2 ⟨rfl, hb2⟩
  replace HA := Lib.hid (HA.out.later hb2)
  clear hb2 p0 q0 q1 q2 q3 q4 q5
  obtain ⟨p0, q0, q1, q2, q3, q4, q5⟩ := HA.out.cells
  simp only at p0 q0 q1 q2 q3 q4 q5
  obtain ⟨fb, hfb⟩ : ∃ fb, (fewP fs0 && fewTs ts1) = fb := ⟨_, rfl⟩
  rw [hfb]
  have HFb := Lib.hid hfb
  clear hfb
  cases fb with
  | false =>
    go_wp2
    go_ret
    exact ⟨rfl, HA.out.below⟩
  | true =>
    have HT : Hid (fewTs ts1 = true) := Lib.hid (by have h := HFb.out; simp only [Bool.and_eq_true] at h; exact h.2)
    have HFp : Hid (fewP fs0 = true) := Lib.hid (by have h := HFb.out; simp only [Bool.and_eq_true] at h; exact h.1)
    have HOk : Hid (okEv ((e0, e1, e2, e3), ts1, x1)) := Lib.hid (ok_ofI HT.out HX.out HZ.out)
    by_cases h0 : a2 < 0
    · go_wp2
      go_ret
      exact ⟨rfl, HA.out.below⟩
    by_cases h1 : a3 < 0
    · go_wp2
      go_ret
      exact ⟨rfl, HA.out.below⟩
    by_cases h2 : 1500 < a2
    · go_wp2
      go_ret
      exact ⟨rfl, HA.out.below⟩
    by_cases h3 : 1500 < a3
    · go_wp2
      go_ret
      exact ⟨rfl, HA.out.below⟩
    have HMo := Lib.hid (callI_more fs0 ((e0, e1, e2, e3), ts1, x1) (show 0 ≤ a2 by omega) (show 0 ≤ a3 by omega) (show a2 + a3 ≤ 100000 by omega) [] 0)
    have HBo := Lib.hid (callI_bounds fs0 ((e0, e1, e2, e3), ts1, x1) (show 0 ≤ a2 by omega) [] 0)
    have HBo2 := Lib.hid (callI_bounds fs0 ((e0, e1, e2, e3), ts1, x1) (show 0 ≤ a2 + a3 by omega) [] 0)
    have hw64 : wrap64 (a2 + a3) = a2 + a3 := by unfold wrap64; omega
    have crR := irun_any fs0 a0 len0 cap0 ((e0, e1, e2, e3), ts1, x1) a1 len1 cap1 a2 m2 HA.out.rows HA.out.fns HA.out.tabs HOk.out
    obtain ⟨r, hrq⟩ : ∃ r, callI fs0 0 ((e0, e1, e2, e3), ts1, x1) a2 [] = r := ⟨_, rfl⟩
    rw [hrq] at crR
    have HrQ := Lib.hid hrq
    clear hrq
    go_wp2_with fail
    refine crR.mono ?_
    intro enr m3 hr3
    obtain ⟨r0, ⟨⟨r1, r2, r3, r4⟩, rt, rs⟩, ru, re⟩ := r
    obtain ⟨rb, rc, her, hbr, hTr, hor, _⟩ := hr3.form
    simp only [ranA] at her hTr
    subst her
    obtain ⟨W4, hW4, hbr4, hVr, _⟩ := new_ran m3 #[.int .u32 r0, .int .u32 r1, .int .u32 r2, .int .u32 r3, .int .u32 r4, .slice rb rt.length rc, .int .u32 rs, .int .i64 ru, .int .i64 re]
    have HVr : Hid (Vn w W4 m3.heap.size (r0, ((r1, r2, r3, r4), rt, rs), ru, re) (.slice rb rt.length rc)) := Lib.hid (Vn.new HA.out.below hbr hTr hor hbr4 hVr)
    replace HA := Lib.hid ((HA.out.later hbr).later hbr4)
    clear hr3 hbr hTr hor hbr4 hVr crR p0 q0 q1 q2 q3 q4 q5
    obtain ⟨p0, q0, q1, q2, q3, q4, q5⟩ := HA.out.cells
    simp only at p0 q0 q1 q2 q3 q4 q5
    have csR := irun_any fs0 a0 len0 cap0 ((e0, e1, e2, e3), ts1, x1) a1 len1 cap1 (a2 + a3) W4 HA.out.rows HA.out.fns HA.out.tabs HOk.out
    obtain ⟨s, hsq⟩ : ∃ s, callI fs0 0 ((e0, e1, e2, e3), ts1, x1) (a2 + a3) [] = s := ⟨_, rfl⟩
    rw [hsq] at csR
    have HsQ := Lib.hid hsq
    clear hsq
    go_wp2_with (refine wpList_store_row rfl 34 _ _ rfl m3.heap.size _ rfl rfl 34 _ (Box.new m3 34 _) (by kernel_rfl) rfl (by simp [Value.oneCell']) ?_)
    clear hW4
    refine csR.mono ?_
    intro ens m5 hs3
    obtain ⟨s0, ⟨⟨s1, s2, s3, s4⟩, st, ss⟩, su, se⟩ := s
    obtain ⟨sb, sc, hes, hbs, hTs, hos, _⟩ := hs3.form
    simp only [ranA] at hes hTs
    subst hes
    obtain ⟨W6, hW6, hbs4, hVs, _⟩ := new_ran m5 #[.int .u32 s0, .int .u32 s1, .int .u32 s2, .int .u32 s3, .int .u32 s4, .slice sb st.length sc, .int .u32 ss, .int .i64 su, .int .i64 se]
    have HVs : Hid (Vn w W6 m5.heap.size (s0, ((s1, s2, s3, s4), st, ss), su, se) (.slice sb st.length sc)) := Lib.hid (Vn.new HA.out.below hbs hTs hos hbs4 hVs)
    replace HA := Lib.hid ((HA.out.later hbs).later hbs4)
    replace HVr := Lib.hid ((HVr.out.later hbs).later hbs4)
    clear hs3 hbs hTs hos hbs4 hVs csR p0 q0 q1 q2 q3 q4 q5
    rw [HrQ.out, HsQ.out] at HMo
    rw [HrQ.out] at HBo
    rw [HsQ.out] at HBo2
    obtain ⟨k1, k2, k3⟩ := HBo.out
    obtain ⟨k4, k5, k6⟩ := HBo2.out
    simp only at k1 k2 k3 k4 k5 k6
    have k7 : ru ≤ su := by
      rcases HMo.out with ⟨_, g⟩ | ⟨_, g1, g2⟩
      · simp only [Prod.mk.injEq] at g
        omega
      · simp only at g1 g2
        omega
    obtain ⟨v0, v1, v2, v3, v4, v5, v6, v7, v8⟩ := HVr.out.cells
    simp only at v0 v1 v2 v3 v4 v5 v6 v7 v8
    obtain ⟨u0, u1, u2, u3, u4, u5, u6, u7, u8⟩ := HVs.out.cells
    simp only at u0 u1 u2 u3 u4 u5 u6 u7 u8
    have j1 : ¬ a2 < ru := by omega
    have j2 : ¬ a2 + a3 < su := by omega
    have j3 : ¬ ru < 0 := by omega
    have j4 : ¬ su < ru := by omega
    clear k1 k2 k4 k5 k6 k7
    by_cases hz : re = 0
    · subst hz
      have l1 : ((0 : Int) != 0) = false := by decide
      have l2 : ((0 : Int) == 2) = false := by decide
      have c9 := isame_any (r0, ((r1, r2, r3, r4), rt, rs), ru, 0) (s0, ((s1, s2, s3, s4), st, ss), su, se) rb rt.length rc sb st.length sc W6 (by obtain ⟨b', c', hh, hx⟩ := HVr.out.2.2.2.1.at; simp only [Value.slice.injEq] at hh; obtain ⟨rfl, _, rfl⟩ := hh; exact hx) (by obtain ⟨b', c', hh, hx⟩ := HVs.out.2.2.2.1.at; simp only [Value.slice.injEq] at hh; obtain ⟨rfl, _, rfl⟩ := hh; exact hx)
      have HS : Hid (((r0, ((r1, r2, r3, r4), rt, rs), ru, 0) : Rn) = (s0, ((s1, s2, s3, s4), st, ss), su, se)) := Lib.hid (by
        rcases HMo.out with ⟨_, g⟩ | ⟨g, _⟩
        · exact g.symm
        · simp only at g; exact absurd g (by decide))
      rw [decide_eq_true HS.out] at c9
      go_wp2_with (refine wpList_store_row rfl 34 _ _ rfl m5.heap.size _ rfl rfl 34 _ (Box.new m5 34 _) (by kernel_rfl) rfl (by simp [Value.oneCell']) ?_)
      refine c9.mono ?_
      rintro en9 m9 ⟨rfl, hb9⟩
      clear c9
      go_wp2
      go_ret
      exact ⟨rfl, HA.out.below.trans (hb9.mono HA.out.below.size)⟩
    have hr0 : r0 = 0 := k3 hz
    subst hr0
    have l1 : (re != 0) = true := by simpa using hz
    have l3 : ((0 : Int) != 0) = false := by decide
    by_cases hz2 : re = 2
    · subst hz2
      have HU : Hid (ru = a2) := Lib.hid (by
        rcases HMo.out with ⟨g, _⟩ | ⟨_, g, _⟩
        · simp only at g; exact absurd rfl g
        · exact g)
      have l2 : ((2 : Int) == 2) = true := by decide
      have l4 : (ru == a2) = true := by simpa using HU.out
      go_wp2_with (refine wpList_store_row rfl 34 _ _ rfl m5.heap.size _ rfl rfl 34 _ (Box.new m5 34 _) (by kernel_rfl) rfl (by simp [Value.oneCell']) ?_)
      go_ret
      exact ⟨rfl, HA.out.below⟩
    have l2 : (re == 2) = false := by simpa using hz2
    have c9 := isame_any (0, ((r1, r2, r3, r4), rt, rs), ru, re) (s0, ((s1, s2, s3, s4), st, ss), su, se) rb rt.length rc sb st.length sc W6 (by obtain ⟨b', c', hh, hx⟩ := HVr.out.2.2.2.1.at; simp only [Value.slice.injEq] at hh; obtain ⟨rfl, _, rfl⟩ := hh; exact hx) (by obtain ⟨b', c', hh, hx⟩ := HVs.out.2.2.2.1.at; simp only [Value.slice.injEq] at hh; obtain ⟨rfl, _, rfl⟩ := hh; exact hx)
    have HS : Hid (((0, ((r1, r2, r3, r4), rt, rs), ru, re) : Rn) = (s0, ((s1, s2, s3, s4), st, ss), su, se)) := Lib.hid (by
      rcases HMo.out with ⟨_, g⟩ | ⟨g, _⟩
      · exact g.symm
      · simp only at g; exact absurd g hz2)
    rw [decide_eq_true HS.out] at c9
    go_wp2_with (refine wpList_store_row rfl 34 _ _ rfl m5.heap.size _ rfl rfl 34 _ (Box.new m5 34 _) (by kernel_rfl) rfl (by simp [Value.oneCell']) ?_)
    refine c9.mono ?_
    rintro en9 m9 ⟨rfl, hb9⟩
    clear c9
    go_wp2
    go_ret
    exact ⟨rfl, HA.out.below.trans (hb9.mono HA.out.below.size)⟩


theorem own : ownKnob Tryd.prog.godebug = none := by kernel_rfl
theorem laidOut : laidOutB Tryd.prog = true := by kernel_rfl
theorem door_met (os : Os) (args : Array Value) : laidMetH Tryd.prog laidL ((World.doorLaid Tryd.prog 400 os).forCall (fun _ _ => 0) ⟨#[], args, []⟩).memory :=
  laidMetH_of_parts3 (fuel := 8) (laidMet_of_run' 8 (by kernel_rfl) (by kernel_rfl)) (by kernel_rfl) (by kernel_rfl)
set_option maxRecDepth 100000 in
theorem lifted (os : Os) (started : os.Started) (H : Type) (enc : TypeId × Value → H) :
    ReturnsInHanded {} Tryd.checked os 3 .any (fun w args => (Rows.interpFuelSpec.pre enc Tryd.prog Tryd.f3 [] false w args ∧ laidMetH Tryd.prog laidL w) ∧ sizedMet enc Tryd.prog Tryd.f3 (OpenSpec.ofChange Rows.interpFuelSpec) false w args)
      (Rows.interpFuelSpec.post enc Tryd.prog Tryd.f3 false true false false) := by
  refine returnsInHanded_of_change_and (C := Tryd.checked) (X := fun w _ => laidMetH Tryd.prog laidL w) (fun _ _ _ hh h => h.of_heap hh) own started (by kernel_rfl) Tryd.func3
    (ChangeSpec.witness_shaped (enc := enc) (C := Tryd.checked) (os := os) (X := fun w _ => laidMetH Tryd.prog laidL w) false (World.doorLaid Tryd.prog 400 os) #[.agg #[.slice none 0 0], .agg #[.int .u32 0, .int .u32 0, .int .u32 0, .int .u32 0, .slice none 0 0, .int .u32 0], .int .i64 0, .int .i64 0] 8 rfl (World.shaped_of_RefB (by kernel_rfl) (by kernel_rfl)) (by kernel_rfl) (by kernel_rfl) (by kernel_rfl) (door_met os _)) ?_
  intro W base args ds gs before hval0 hW _ _ hL _
  have hval : ∀ (j : Nat) t v, Tryd.f3.params[j]? = some t → args[j]? = some v → Value.okWide Tryd.prog W .any base t v := hval0
  have hW' := hW
  obtain ⟨p, q, hA0, hV, rfl, hfz, hnd⟩ := hW
  have hA : DataW.TrodAll enc Tryd.prog W 0 (fun _ => true) true Tryd.f3.params.toList args.toList ds p := hA0
  rw [Tryd.params3] at hA hval
  obtain ⟨v0, vs0, e0, ds0, p0, q0, hargs, rfl, rfl, h0, t0⟩ := trodAll_cons hA
  obtain ⟨v1, vs1, e1, ds1, p1, q1, rfl, rfl, rfl, h1, t1⟩ := trodAll_cons t0
  obtain ⟨v2, vs2, e2, ds2, p2, q2, rfl, rfl, rfl, h2, t2⟩ := trodAll_cons t1
  obtain ⟨v3, vs3, e3, ds3, p3, q3, rfl, rfl, rfl, h3, t3⟩ := trodAll_cons t2
  obtain ⟨rfl, rfl, rfl⟩ := trodAll_nil t3
  obtain rfl : args = #[v0, v1, v2, v3] := by cases args; simp_all
  obtain ⟨rfl, rfl⟩ := trodVars_none hV
  have k0 := h0
  have lt0 : ∀ x ∈ p0, x.block < W.heap.size := by obtain ⟨m, hm⟩ := k0; exact DataW.trod_lt m _ _ _ hm
  have k1 := h1
  have lt1 : ∀ x ∈ p1, x.block < W.heap.size := by obtain ⟨m, hm⟩ := k1; exact DataW.trod_lt m _ _ _ hm
  have k2 := h2
  have lt2 : ∀ x ∈ p2, x.block < W.heap.size := by obtain ⟨m, hm⟩ := k2; exact DataW.trod_lt m _ _ _ hm
  have k3 := h3
  have lt3 : ∀ x ∈ p3, x.block < W.heap.size := by obtain ⟨m, hm⟩ := k3; exact DataW.trod_lt m _ _ _ hm
  obtain ⟨a0, len0, cap0, fs0, rfl, w0⟩ := open_prog (hval 0 24 v0 rfl rfl) h0
  obtain ⟨c1, a1, len1, cap1, x1, ts1, rfl, w1, y1, z1⟩ := open_envw (hval 1 29 v1 rfl rfl) h1
  obtain ⟨a2, rfl, _, _, w2⟩ := open_int Tryd.underlying3 (hval 2 3 v2 rfl rfl) h2
  obtain ⟨a3, rfl, _, _, w3⟩ := open_int Tryd.underlying3 (hval 3 3 v3 rfl rfl) h3
  clear hA0 hval0
  refine (walk a0 len0 cap0 fs0 c1 a1 len1 cap1 x1 ts1 a2 w2 a3 w3 W (rows_of_laid hL) w0 w1 y1 z1).mono fun e W' ⟨he, bel⟩ => ?_
  subst he
  exact ⟨_, rfl, _, _, _, [], _, [], hW', trodAll_mk1 (shut_bool Tryd.underlying4 _), (trodAll_cons_mk (Below.trod laidOut (by kernel_rfl) (of_decide_eq_true (by kernel_rfl)) k0 bel lt0) (trodAll_cons_mk (Below.trod laidOut (by kernel_rfl) (of_decide_eq_true (by kernel_rfl)) k1 bel lt1) (trodAll_cons_mk (Below.trod laidOut (by kernel_rfl) (of_decide_eq_true (by kernel_rfl)) k2 bel lt2) (trodAll_cons_mk (Below.trod laidOut (by kernel_rfl) (of_decide_eq_true (by kernel_rfl)) k3 bel lt3) trodAll_mk0)))), rfl, bel.frame _, fun h => by cases h⟩

theorem over : Rows.interpFuelRow.holds Tryd.pinned (OpenSpec.ofChange Rows.interpFuelSpec) :=
  OpenClaim.holds_of_wide 3 Tryd.f3 rfl rfl rfl rfl rfl rfl rfl ⟨rfl, rfl, rfl, rfl, rfl⟩ rfl rfl rfl rfl rfl (by kernel_rfl) Tryd.func3 (by kernel_rfl)
    (of_decide_eq_true (by kernel_rfl)) (by unfold Func.isWrapper; first | (rw [if_pos (by decide +kernel)]; kernel_rfl) | (rw [if_neg (by decide +kernel)]; exact ⟨rfl, rfl⟩))
    (fun os started H enc _ => lifted os started H enc)

theorem proved : Rows.InterpFuelCardSaid :=
  Claim7.holds_tied_plain_at .later [] [.data] true (true, "06c1961827986d8c8e50d4b984e0c9bf0d6611e5e24705ee5aae201a4df00376") false
    over (fun _ h => by cases h) (by kernel_rfl) (fun _ h => by cases h) interpFuel_row_tie rfl ⟨rfl, rfl⟩ (by kernel_rfl) rfl
    (fun f fn hf hfn => by
      obtain rfl : f = 3 := Option.some.inj ((show Tryd.prog.funcNamed "drydock/drydocklaw07.InterpFuel" = some 3 by kernel_rfl).symm.trans hf) |>.symm
      obtain rfl : fn = Tryd.f3 := (Option.some.inj (Tryd.func3.symm.trans hfn)).symm
      exact ⟨by kernel_rfl, fun j t ht => by
        rw [Tryd.params3] at ht
        match j, ht with
        | 0, ht => obtain rfl : t = 24 := by simpa using ht.symm
                   exact (show Tryd.prog.wantsStandIn 24 = false by kernel_rfl)
        | 1, ht => obtain rfl : t = 29 := by simpa using ht.symm
                   exact (show Tryd.prog.wantsStandIn 29 = false by kernel_rfl)
        | 2, ht => obtain rfl : t = 3 := by simpa using ht.symm
                   exact (show Tryd.prog.wantsStandIn 3 = false by kernel_rfl)
        | 3, ht => obtain rfl : t = 3 := by simpa using ht.symm
                   exact (show Tryd.prog.wantsStandIn 3 = false by kernel_rfl)
        | j + 4, ht => simp at ht⟩)
    (by kernel_rfl)
#print axioms proved
end Go.Proofs.YtilddlgcfbefiaaDoor.interpFuel
