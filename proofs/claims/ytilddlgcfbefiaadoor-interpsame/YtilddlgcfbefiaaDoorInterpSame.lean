/-
  What a program tells hangs on what it is handed, and nothing else; the context does not matter to one that reads none of it.
  Conditions: none; the package variable that the law reads starts as its initialiser lays it (the card ties it).
-/
import Derived.Test.YtilddlgcfbefiaaDoorRows
import Derived.Test.YtilddlgcfbefiaaDoorCards
import Derived.Test.YtilddlgcfbefiaaDoorTie
import Derived.Test.YtilddlgcfbefiaaDoorGiw
import Derived.Test.YtilddlgcfbefiaaDoorGio
import Derived.Test.YtilddlgcfbefiaaDoorGcd
import Derived.WalkKit
import Derived.ProofKit
import Derived.OpenShut
import Derived.ChangeOld
import Derived.Below
import Derived.SevenTiedAt
namespace Go.Proofs.YtilddlgcfbefiaaDoor.interpSame
set_option linter.unusedSimpArgs false
set_option linter.unusedVariables false
open Go.ChangeShapes Go.WideShapes Go.ChangeAt Go.RowKit

set_option maxRecDepth 100000 in
set_option maxHeartbeats 40000000 in
theorem walk (a0 : Option Addr) (len0 cap0 : Nat) (fs0 : List Fun) (c1 : Cx) (a1 : Option Addr) (len1 cap1 : Nat) (x1 : Int) (ts1 : List Tb) (c2 : Cx) (w2 : isW c2.1 ∧ isW c2.2.1 ∧ isW c2.2.2.1 ∧ isW c2.2.2.2) (w : World) (hR : RowsIn w) (w0 : FnsAt w a0 len0 cap0 fs0) (w1 : TabsAt w a1 len1 cap1 ts1) (y1 : isW x1) (z1 : isW c1.1 ∧ isW c1.2.1 ∧ isW c1.2.2.1 ∧ isW c1.2.2.2) :
    Calls Tryd.prog 7 #[.agg #[.slice a0 len0 cap0], envV c1 (.slice a1 len1 cap1) x1, .agg #[.int .u32 c2.1, .int .u32 c2.2.1, .int .u32 c2.2.2.1, .int .u32 c2.2.2.2]] w fun e w' => e = .returned (.bool true) ∧ Below w.heap.size w w' := by
  rcases c1 with ⟨e0, e1, e2, e3⟩
  rcases c2 with ⟨d0, d1, d2, d3⟩
  simp only at w2
  have HD := Lib.hid w2
  simp only at z1
  obtain ⟨W0, hW0, hA0, hD0⟩ := Ar.begin3 (e0, e1, e2, e3) x1 (d0, d1, d2, d3) hR w0 w1
  simp only at hW0 hD0
  have HC := Lib.hid hD0
  have HA := Lib.hid hA0
  have HP0 := Lib.hid w0
  have HX := Lib.hid y1
  have HZ := Lib.hid z1
  have HLm := Lib.hid w0.2.1
  clear hA0 hD0 w2 hR w0 w1 y1 z1
  obtain ⟨p0, q0, q1, q2, q3, q4, q5⟩ := HA.out.cells
  simp only at p0 q0 q1 q2 q3 q4 q5
  go_enter Tryd.func7, Tryd.ntmps7
  go_wp2_with fail
  refine (iawake_any W0 HA.out.rows).mono ?_
  rintro en1 m1 ⟨rfl, hb1⟩
  replace HA := Lib.hid (HA.out.later hb1)
  replace HC := Lib.hid (HC.out.later hb1)
  clear hb1 hW0 p0 q0 q1 q2 q3 q4 q5
  obtain ⟨p0, q0, q1, q2, q3, q4, q5⟩ := HA.out.cells
  simp only at p0 q0 q1 q2 q3 q4 q5
  go_wp2_with fail
  refine (ifew_any fs0 a0 len0 cap0 (e0, e1, e2, e3) a1 len1 cap1 x1 ts1 m1 HA.out.fns HA.out.tabs).mono ?_
  rintro en2 m2 ⟨rfl, hb2⟩
  replace HA := Lib.hid (HA.out.later hb2)
  replace HC := Lib.hid (HC.out.later hb2)
  clear hb2 p0 q0 q1 q2 q3 q4 q5
  obtain ⟨p0, q0, q1, q2, q3, q4, q5⟩ := HA.out.cells
  simp only at p0 q0 q1 q2 q3 q4 q5
  obtain ⟨fb, hfb⟩ : ∃ fb, (fewP fs0 && fewTs ts1) = fb := ⟨_, rfl⟩
  rw [hfb]
  have HFb := Lib.hid hfb
  clear hfb
  cases fb with
  | false =>
    go_wp2
    go_ret
    exact ⟨rfl, HA.out.below⟩
  | true =>
    have HT : Hid (fewTs ts1 = true) := Lib.hid (by have h := HFb.out; simp only [Bool.and_eq_true] at h; exact h.2)
    have HFp : Hid (fewP fs0 = true) := Lib.hid (by have h := HFb.out; simp only [Bool.and_eq_true] at h; exact h.1)
    have HOk : Hid (okEv ((e0, e1, e2, e3), ts1, x1)) := Lib.hid (ok_ofI HT.out HX.out HZ.out)
    have hlm0 : len0 ≤ 9223372036854775807 := by have h := Nat.le_trans HA.out.fns.2.1 HA.out.fns.2.2.1; unfold maxLen at h; omega
    have crR := irun_any fs0 a0 len0 cap0 ((e0, e1, e2, e3), ts1, x1) a1 len1 cap1 500 m2 HA.out.rows HA.out.fns HA.out.tabs HOk.out
    obtain ⟨r, hrq⟩ : ∃ r, callI fs0 0 ((e0, e1, e2, e3), ts1, x1) 500 [] = r := ⟨_, rfl⟩
    rw [hrq] at crR
    have HrQ := Lib.hid hrq
    clear hrq
    go_wp2_with fail
    refine crR.mono ?_
    intro enr m3 hr3
    obtain ⟨r0, ⟨⟨r1, r2, r3, r4⟩, rt, rs⟩, ru, re⟩ := r
    obtain ⟨rb, rc, her, hbr, hTr, hor, _⟩ := hr3.form
    simp only [ranA] at her hTr
    subst her
    obtain ⟨W4, hW4, hbr4, hVr, hszr⟩ := new_ran m3 #[.int .u32 r0, .int .u32 r1, .int .u32 r2, .int .u32 r3, .int .u32 r4, .slice rb rt.length rc, .int .u32 rs, .int .i64 ru, .int .i64 re]
    have HVr : Hid (Vn w W4 m3.heap.size (r0, ((r1, r2, r3, r4), rt, rs), ru, re) (.slice rb rt.length rc)) := Lib.hid (Vn.new HA.out.below hbr hTr hor hbr4 hVr)
    replace HA := Lib.hid ((HA.out.later hbr).later hbr4)
    replace HC := Lib.hid ((HC.out.later hbr).later hbr4)
    clear hszr hr3 hbr hTr hor hbr4 hVr crR p0 q0 q1 q2 q3 q4 q5
    obtain ⟨p0, q0, q1, q2, q3, q4, q5⟩ := HA.out.cells
    simp only at p0 q0 q1 q2 q3 q4 q5
    have HKc : Hid (∀ w', Below W4.heap.size W4 w' → w'.cell? ⟨w.heap.size, 0, none⟩ = some (.slice a0 len0 cap0) ∧ w'.cell? ⟨w.heap.size + 1, 0, none⟩ = some (.int .u32 e0) ∧ w'.cell? ⟨w.heap.size + 1, 1, none⟩ = some (.int .u32 e1) ∧ w'.cell? ⟨w.heap.size + 1, 2, none⟩ = some (.int .u32 e2) ∧ w'.cell? ⟨w.heap.size + 1, 3, none⟩ = some (.int .u32 e3) ∧ w'.cell? ⟨w.heap.size + 1, 4, none⟩ = some (.slice a1 len1 cap1) ∧ w'.cell? ⟨w.heap.size + 1, 5, none⟩ = some (.int .u32 x1)) := Lib.hid (fun w' hb => by
      have h := (HA.out.later hb).cells
      exact h)
    go_upto_region 6 with (refine wpList_store_row rfl 34 _ _ rfl m3.heap.size _ rfl rfl 34 _ (Box.new m3 34 _) (by kernel_rfl) rfl (by simp [Value.oneCell']) ?_)
    try simp only [Act.put, List.setIfInBounds_toArray, List.set_cons_zero, List.set_cons_succ]
    try rw [hW4]
    clear hW4
    clear p0 q0 q1 q2 q3 q4 q5
    go_cut [10] from 29 to 33 (fun o wc => ∃ (T : Nat) (sb : Option Addr) (sc : Nat), o = .pointer (some ⟨T, 0, none⟩) ∧ Hid (Vn w wc T (r0, ((r1, r2, r3, r4), rt, rs), ru, re) (.slice sb rt.length sc)) ∧ Hid (Below W4.heap.size W4 wc))
    case first =>
      go_wp2_with fail
      refine wp_region_held_drew (S := (fun w' => w'.cell? ⟨w.heap.size, 0, none⟩ = some (.slice a0 len0 cap0) ∧ w'.cell? ⟨w.heap.size + 1, 0, none⟩ = some (.int .u32 e0) ∧ w'.cell? ⟨w.heap.size + 1, 1, none⟩ = some (.int .u32 e1) ∧ w'.cell? ⟨w.heap.size + 1, 2, none⟩ = some (.int .u32 e2) ∧ w'.cell? ⟨w.heap.size + 1, 3, none⟩ = some (.int .u32 e3) ∧ w'.cell? ⟨w.heap.size + 1, 4, none⟩ = some (.slice a1 len1 cap1) ∧ w'.cell? ⟨w.heap.size + 1, 5, none⟩ = some (.int .u32 x1))) (by kernel_rfl) (HKc.out _ ((Below.refl W4.heap.size W4).drew)) (fun hHeld => ?_)
      refine wpAnyH_yield (i := 0) (v := ?v0) rfl rfl (by kernel_rfl) (by kernel_rfl) (by kernel_rfl) (fun _ _ _ h => h) (by rfl) ?hy0 hHeld ?rest0
      case hy0 =>
        intro w hSw
        (try dsimp only at hSw)
        go_simp
        try with_reducible rfl
      simp only [Act.put, List.setIfInBounds_toArray, List.set_cons_zero, List.set_cons_succ]
      refine wpAnyH_yield (i := 2) (v := ?v2) rfl rfl (by kernel_rfl) (by kernel_rfl) (by kernel_rfl) (fun _ _ _ h => h) (by rfl) ?hy2 hHeld ?rest2
      case hy2 =>
        intro w hSw
        (try dsimp only at hSw)
        go_simp
        try with_reducible rfl
      simp only [Act.put, List.setIfInBounds_toArray, List.set_cons_zero, List.set_cons_succ]
      refine wpAnyH_ready (rs := [1, 5]) (by kernel_rfl) (by simp) ?_
      refine AllReadyH.cons rfl (fun K hK => ?_) ?_
      · go_simp
        refine (rpown_any a0 len0 cap0 fs0 W4.drew (HA.out.fns.below ((Below.refl W4.heap.size W4).drew)) HFp.out).mono ?_
        rintro en5 m5 ⟨b5, cp5, rfl, hb5, hF5⟩
        have HB5 : Hid (Below W4.heap.size W4 m5) := Lib.hid (((Below.refl W4.heap.size W4).drew).trans (hb5.mono ((Below.refl W4.heap.size W4).drew).size))
        have HF5 := Lib.hid hF5
        clear hb5 hF5
        go_wp2_with fail
        refine hK.out _ _ (HKc.out _ (HB5.out)) (fun hHeld => ?_)
        clear hK K
        try simp only [Act.put, List.setIfInBounds_toArray, List.set_cons_zero, List.set_cons_succ]
        refine wpAnyH_ready (rs := [3, 5]) (by kernel_rfl) (by simp) ?_
        refine AllReadyH.cons rfl (fun K hK => ?_) ?_
        · go_simp
          refine (eown_any (e0, e1, e2, e3) a1 len1 cap1 x1 ts1 m5 (HA.out.tabs.below (HB5.out)) HOk.out.1).mono ?_
          rintro en6 m6 ⟨V6, rfl, hb6, hN6⟩
          obtain ⟨b6, cp6, hV6, hT6⟩ := hN6.at
          subst hV6
          have HB6 : Hid (Below W4.heap.size W4 m6) := Lib.hid ((HB5.out).trans (hb6.mono (HB5.out).size))
          have HF6 := Lib.hid (HF5.out)
          replace HF6 := Lib.hid (HF6.out.below hb6)
          have HT6 := Lib.hid hT6
          clear hb6 hN6 hT6
          go_wp2_with fail
          refine hK.out _ _ (HKc.out _ (HB6.out)) (fun hHeld => ?_)
          clear hK K
          try simp only [Act.put, List.setIfInBounds_toArray, List.set_cons_zero, List.set_cons_succ]
          refine wpAnyH_ready (rs := [4, 5]) (by kernel_rfl) (by simp) ?_
          refine AllReadyH.cons rfl (fun K hK => ?_) ?_
          · go_simp
            have c7 := irun_any fs0 b5 len0 cp5 ((e0, e1, e2, e3), ts1, x1) b6 ts1.length cp6 500 m6 (HA.out.rows.later (HB6.out)) (HF6.out) (HT6.out) HOk.out
            rw [HrQ.out] at c7
            refine c7.mono ?_
            intro en7 m7 h7
            obtain ⟨sb, sc, he7, hb7, hT7, ho7, _⟩ := h7.form
            simp only [ranA] at he7 hT7
            subst he7
            have HB7 : Hid (Below W4.heap.size W4 m7) := Lib.hid ((HB6.out).trans (hb7.mono (HB6.out).size))
            have HT7 : Hid (TabsI m7 w.heap.size (.slice sb rt.length sc) rt) := Lib.hid (hT7.low (Nat.le_trans HA.out.below.size (HB6.out).size))
            clear hb7 hT7 h7 c7
            go_wp2_with fail
            refine hK.out _ _ (HKc.out _ (HB7.out)) (fun hHeld => ?_)
            clear hK K
            try simp only [Act.put, List.setIfInBounds_toArray, List.set_cons_zero, List.set_cons_succ]
            refine wpAnyH_ready (rs := [5]) (by kernel_rfl) (by simp) ?_
            refine AllReadyH.cons rfl (fun K hK => ?_) AllReadyH.nil
            go_simp
            have HBz : Hid (Below W4.heap.size W4 (m7.alloc (.cells #[.int .u32 0, .int .u32 0, .int .u32 0, .int .u32 0, .int .u32 0, .slice none 0 0, .int .u32 0, .int .i64 0, .int .i64 0] 34))) := Lib.hid ((HB7.out).trans ((belowA m7 (.cells #[.int .u32 0, .int .u32 0, .int .u32 0, .int .u32 0, .int .u32 0, .slice none 0 0, .int .u32 0, .int .i64 0, .int .i64 0] 34)).mono (HB7.out).size))
            have HZ : Hid (Box (m7.alloc (.cells #[.int .u32 0, .int .u32 0, .int .u32 0, .int .u32 0, .int .u32 0, .slice none 0 0, .int .u32 0, .int .i64 0, .int .i64 0] 34)) m7.heap.size 34 _) := Lib.hid (Box.new m7 _ _)
            have HTl : Hid (w.heap.size ≤ m7.heap.size) := Lib.hid (Nat.le_trans HA.out.below.size (HB7.out).size)
            have HTw : Hid (W4.heap.size ≤ m7.heap.size) := Lib.hid (HB7.out).size
            refine hK.out _ _ (HKc.out _ (HBz.out)) (fun hHeld => ?_)
            clear hK K
            try simp only [Act.put, List.setIfInBounds_toArray, List.set_cons_zero, List.set_cons_succ]
            refine wpAnyH_ready (rs := [6]) (by kernel_rfl) (by simp) ?_
            refine AllReadyH.cons rfl (fun K hK => ?_) AllReadyH.nil
            refine step_row _ (by rfl) 34 _ _ (by rfl) (by rfl) (m7.heap.size) #[.int .u32 r0, .int .u32 r1, .int .u32 r2, .int .u32 r3, .int .u32 r4, .slice sb rt.length sc, .int .u32 rs, .int .i64 ru, .int .i64 re] (by rfl) (by rfl) 34 _ HZ.out (by kernel_rfl) rfl (by simp [Value.oneCell']) ?_
            have hX : Below W4.heap.size W4 ((m7.alloc (.cells #[.int .u32 0, .int .u32 0, .int .u32 0, .int .u32 0, .int .u32 0, .slice none 0 0, .int .u32 0, .int .i64 0, .int .i64 0] 34)).setRow (m7.heap.size) #[.int .u32 r0, .int .u32 r1, .int .u32 r2, .int .u32 r3, .int .u32 r4, .slice sb rt.length sc, .int .u32 rs, .int .i64 ru, .int .i64 re]) := below_setRow HBz.out HTw.out _
            have hV9 : Vn w ((m7.alloc (.cells #[.int .u32 0, .int .u32 0, .int .u32 0, .int .u32 0, .int .u32 0, .slice none 0 0, .int .u32 0, .int .i64 0, .int .i64 0] 34)).setRow (m7.heap.size) #[.int .u32 r0, .int .u32 r1, .int .u32 r2, .int .u32 r3, .int .u32 r4, .slice sb rt.length sc, .int .u32 rs, .int .i64 ru, .int .i64 re]) (m7.heap.size) (r0, ((r1, r2, r3, r4), rt, rs), ru, re) (.slice sb rt.length sc) := ⟨HA.out.below.trans (hX.mono HA.out.below.size), setRow_heap _ _ _ _ _ _ HZ.out, HTl.out, (HT7.out.below (belowA m7 (.cells #[.int .u32 0, .int .u32 0, .int .u32 0, .int .u32 0, .int .u32 0, .slice none 0 0, .int .u32 0, .int .i64 0, .int .i64 0] 34))).far HZ.out (by decide) (by decide) (by decide) (grownBy_setRow _ _ _), HVr.out.2.2.2.2⟩
            refine hK.out _ _ (HKc.out _ (hX)) (fun hHeld => ?_)
            clear hK K
            try simp only [Act.put, List.setIfInBounds_toArray, List.set_cons_zero, List.set_cons_succ]
            refine wpAnyH_done (by kernel_rfl) ?_ _
            clear hHeld
            go_wp2_with fail
            go_meet
            exact ⟨(m7.heap.size), sb, sc, rfl, Lib.hid hV9, Lib.hid hX⟩
          refine AllReadyH.cons rfl (fun K hK => ?_) AllReadyH.nil
          go_simp
          have HBz : Hid (Below W4.heap.size W4 (m6.alloc (.cells #[.int .u32 0, .int .u32 0, .int .u32 0, .int .u32 0, .int .u32 0, .slice none 0 0, .int .u32 0, .int .i64 0, .int .i64 0] 34))) := Lib.hid ((HB6.out).trans ((belowA m6 (.cells #[.int .u32 0, .int .u32 0, .int .u32 0, .int .u32 0, .int .u32 0, .slice none 0 0, .int .u32 0, .int .i64 0, .int .i64 0] 34)).mono (HB6.out).size))
          have HZ : Hid (Box (m6.alloc (.cells #[.int .u32 0, .int .u32 0, .int .u32 0, .int .u32 0, .int .u32 0, .slice none 0 0, .int .u32 0, .int .i64 0, .int .i64 0] 34)) m6.heap.size 34 _) := Lib.hid (Box.new m6 _ _)
          have HTl : Hid (w.heap.size ≤ m6.heap.size) := Lib.hid (Nat.le_trans HA.out.below.size (HB6.out).size)
          have HTw : Hid (W4.heap.size ≤ m6.heap.size) := Lib.hid (HB6.out).size
          refine hK.out _ _ (HKc.out _ (HBz.out)) (fun hHeld => ?_)
          clear hK K
          try simp only [Act.put, List.setIfInBounds_toArray, List.set_cons_zero, List.set_cons_succ]
          refine wpAnyH_ready (rs := [4]) (by kernel_rfl) (by simp) ?_
          refine AllReadyH.cons rfl (fun K hK => ?_) AllReadyH.nil
          go_simp
          have c7 := irun_any fs0 b5 len0 cp5 ((e0, e1, e2, e3), ts1, x1) b6 ts1.length cp6 500 (m6.alloc (.cells #[.int .u32 0, .int .u32 0, .int .u32 0, .int .u32 0, .int .u32 0, .slice none 0 0, .int .u32 0, .int .i64 0, .int .i64 0] 34)) (HA.out.rows.later (HBz.out)) (HF6.out.below (belowA m6 (.cells #[.int .u32 0, .int .u32 0, .int .u32 0, .int .u32 0, .int .u32 0, .slice none 0 0, .int .u32 0, .int .i64 0, .int .i64 0] 34))) (HT6.out.below (belowA m6 (.cells #[.int .u32 0, .int .u32 0, .int .u32 0, .int .u32 0, .int .u32 0, .slice none 0 0, .int .u32 0, .int .i64 0, .int .i64 0] 34))) HOk.out
          rw [HrQ.out] at c7
          refine c7.mono ?_
          intro en7 m7 h7
          obtain ⟨sb, sc, he7, hb7, hT7, ho7, _⟩ := h7.form
          simp only [ranA] at he7 hT7
          subst he7
          have HB7 : Hid (Below W4.heap.size W4 m7) := Lib.hid ((HBz.out).trans (hb7.mono (HBz.out).size))
          have HT7 : Hid (TabsI m7 w.heap.size (.slice sb rt.length sc) rt) := Lib.hid (hT7.low (Nat.le_trans HA.out.below.size (HBz.out).size))
          have HZ7 := Lib.hid (HZ.out.later hb7)
          clear hb7 hT7 h7 c7
          go_wp2_with fail
          refine hK.out _ _ (HKc.out _ (HB7.out)) (fun hHeld => ?_)
          clear hK K
          try simp only [Act.put, List.setIfInBounds_toArray, List.set_cons_zero, List.set_cons_succ]
          refine wpAnyH_ready (rs := [6]) (by kernel_rfl) (by simp) ?_
          refine AllReadyH.cons rfl (fun K hK => ?_) AllReadyH.nil
          refine step_row _ (by rfl) 34 _ _ (by rfl) (by rfl) (m6.heap.size) #[.int .u32 r0, .int .u32 r1, .int .u32 r2, .int .u32 r3, .int .u32 r4, .slice sb rt.length sc, .int .u32 rs, .int .i64 ru, .int .i64 re] (by rfl) (by rfl) 34 _ HZ7.out (by kernel_rfl) rfl (by simp [Value.oneCell']) ?_
          have hX : Below W4.heap.size W4 (m7.setRow (m6.heap.size) #[.int .u32 r0, .int .u32 r1, .int .u32 r2, .int .u32 r3, .int .u32 r4, .slice sb rt.length sc, .int .u32 rs, .int .i64 ru, .int .i64 re]) := below_setRow HB7.out HTw.out _
          have hV9 : Vn w (m7.setRow (m6.heap.size) #[.int .u32 r0, .int .u32 r1, .int .u32 r2, .int .u32 r3, .int .u32 r4, .slice sb rt.length sc, .int .u32 rs, .int .i64 ru, .int .i64 re]) (m6.heap.size) (r0, ((r1, r2, r3, r4), rt, rs), ru, re) (.slice sb rt.length sc) := ⟨HA.out.below.trans (hX.mono HA.out.below.size), setRow_heap _ _ _ _ _ _ HZ7.out, HTl.out, HT7.out.far HZ7.out (by decide) (by decide) (by decide) (grownBy_setRow _ _ _), HVr.out.2.2.2.2⟩
          refine hK.out _ _ (HKc.out _ (hX)) (fun hHeld => ?_)
          clear hK K
          try simp only [Act.put, List.setIfInBounds_toArray, List.set_cons_zero, List.set_cons_succ]
          refine wpAnyH_done (by kernel_rfl) ?_ _
          clear hHeld
          go_wp2_with fail
          go_meet
          exact ⟨(m6.heap.size), sb, sc, rfl, Lib.hid hV9, Lib.hid hX⟩
        refine AllReadyH.cons rfl (fun K hK => ?_) AllReadyH.nil
        go_simp
        have HBz : Hid (Below W4.heap.size W4 (m5.alloc (.cells #[.int .u32 0, .int .u32 0, .int .u32 0, .int .u32 0, .int .u32 0, .slice none 0 0, .int .u32 0, .int .i64 0, .int .i64 0] 34))) := Lib.hid ((HB5.out).trans ((belowA m5 (.cells #[.int .u32 0, .int .u32 0, .int .u32 0, .int .u32 0, .int .u32 0, .slice none 0 0, .int .u32 0, .int .i64 0, .int .i64 0] 34)).mono (HB5.out).size))
        have HZ : Hid (Box (m5.alloc (.cells #[.int .u32 0, .int .u32 0, .int .u32 0, .int .u32 0, .int .u32 0, .slice none 0 0, .int .u32 0, .int .i64 0, .int .i64 0] 34)) m5.heap.size 34 _) := Lib.hid (Box.new m5 _ _)
        have HTl : Hid (w.heap.size ≤ m5.heap.size) := Lib.hid (Nat.le_trans HA.out.below.size (HB5.out).size)
        have HTw : Hid (W4.heap.size ≤ m5.heap.size) := Lib.hid (HB5.out).size
        refine hK.out _ _ (HKc.out _ (HBz.out)) (fun hHeld => ?_)
        clear hK K
        try simp only [Act.put, List.setIfInBounds_toArray, List.set_cons_zero, List.set_cons_succ]
        refine wpAnyH_ready (rs := [3]) (by kernel_rfl) (by simp) ?_
        refine AllReadyH.cons rfl (fun K hK => ?_) AllReadyH.nil
        go_simp
        refine (eown_any (e0, e1, e2, e3) a1 len1 cap1 x1 ts1 (m5.alloc (.cells #[.int .u32 0, .int .u32 0, .int .u32 0, .int .u32 0, .int .u32 0, .slice none 0 0, .int .u32 0, .int .i64 0, .int .i64 0] 34)) (HA.out.tabs.below (HBz.out)) HOk.out.1).mono ?_
        rintro en6 m6 ⟨V6, rfl, hb6, hN6⟩
        obtain ⟨b6, cp6, hV6, hT6⟩ := hN6.at
        subst hV6
        have HB6 : Hid (Below W4.heap.size W4 m6) := Lib.hid ((HBz.out).trans (hb6.mono (HBz.out).size))
        have HF6 := Lib.hid (HF5.out.below (belowA m5 (.cells #[.int .u32 0, .int .u32 0, .int .u32 0, .int .u32 0, .int .u32 0, .slice none 0 0, .int .u32 0, .int .i64 0, .int .i64 0] 34)))
        replace HF6 := Lib.hid (HF6.out.below hb6)
        have HT6 := Lib.hid hT6
        have HZ6 := Lib.hid (HZ.out.later hb6)
        clear hb6 hN6 hT6
        go_wp2_with fail
        refine hK.out _ _ (HKc.out _ (HB6.out)) (fun hHeld => ?_)
        clear hK K
        try simp only [Act.put, List.setIfInBounds_toArray, List.set_cons_zero, List.set_cons_succ]
        refine wpAnyH_ready (rs := [4]) (by kernel_rfl) (by simp) ?_
        refine AllReadyH.cons rfl (fun K hK => ?_) AllReadyH.nil
        go_simp
        have c7 := irun_any fs0 b5 len0 cp5 ((e0, e1, e2, e3), ts1, x1) b6 ts1.length cp6 500 m6 (HA.out.rows.later (HB6.out)) (HF6.out) (HT6.out) HOk.out
        rw [HrQ.out] at c7
        refine c7.mono ?_
        intro en7 m7 h7
        obtain ⟨sb, sc, he7, hb7, hT7, ho7, _⟩ := h7.form
        simp only [ranA] at he7 hT7
        subst he7
        have HB7 : Hid (Below W4.heap.size W4 m7) := Lib.hid ((HB6.out).trans (hb7.mono (HB6.out).size))
        have HT7 : Hid (TabsI m7 w.heap.size (.slice sb rt.length sc) rt) := Lib.hid (hT7.low (Nat.le_trans HA.out.below.size (HB6.out).size))
        have HZ7 := Lib.hid (HZ6.out.later hb7)
        clear hb7 hT7 h7 c7
        go_wp2_with fail
        refine hK.out _ _ (HKc.out _ (HB7.out)) (fun hHeld => ?_)
        clear hK K
        try simp only [Act.put, List.setIfInBounds_toArray, List.set_cons_zero, List.set_cons_succ]
        refine wpAnyH_ready (rs := [6]) (by kernel_rfl) (by simp) ?_
        refine AllReadyH.cons rfl (fun K hK => ?_) AllReadyH.nil
        refine step_row _ (by rfl) 34 _ _ (by rfl) (by rfl) (m5.heap.size) #[.int .u32 r0, .int .u32 r1, .int .u32 r2, .int .u32 r3, .int .u32 r4, .slice sb rt.length sc, .int .u32 rs, .int .i64 ru, .int .i64 re] (by rfl) (by rfl) 34 _ HZ7.out (by kernel_rfl) rfl (by simp [Value.oneCell']) ?_
        have hX : Below W4.heap.size W4 (m7.setRow (m5.heap.size) #[.int .u32 r0, .int .u32 r1, .int .u32 r2, .int .u32 r3, .int .u32 r4, .slice sb rt.length sc, .int .u32 rs, .int .i64 ru, .int .i64 re]) := below_setRow HB7.out HTw.out _
        have hV9 : Vn w (m7.setRow (m5.heap.size) #[.int .u32 r0, .int .u32 r1, .int .u32 r2, .int .u32 r3, .int .u32 r4, .slice sb rt.length sc, .int .u32 rs, .int .i64 ru, .int .i64 re]) (m5.heap.size) (r0, ((r1, r2, r3, r4), rt, rs), ru, re) (.slice sb rt.length sc) := ⟨HA.out.below.trans (hX.mono HA.out.below.size), setRow_heap _ _ _ _ _ _ HZ7.out, HTl.out, HT7.out.far HZ7.out (by decide) (by decide) (by decide) (grownBy_setRow _ _ _), HVr.out.2.2.2.2⟩
        refine hK.out _ _ (HKc.out _ (hX)) (fun hHeld => ?_)
        clear hK K
        try simp only [Act.put, List.setIfInBounds_toArray, List.set_cons_zero, List.set_cons_succ]
        refine wpAnyH_done (by kernel_rfl) ?_ _
        clear hHeld
        go_wp2_with fail
        go_meet
        exact ⟨(m5.heap.size), sb, sc, rfl, Lib.hid hV9, Lib.hid hX⟩
      refine AllReadyH.cons rfl (fun K hK => ?_) AllReadyH.nil
      go_simp
      have HBz : Hid (Below W4.heap.size W4 (W4.drew.alloc (.cells #[.int .u32 0, .int .u32 0, .int .u32 0, .int .u32 0, .int .u32 0, .slice none 0 0, .int .u32 0, .int .i64 0, .int .i64 0] 34))) := Lib.hid (((Below.refl W4.heap.size W4).drew).trans ((belowA W4.drew (.cells #[.int .u32 0, .int .u32 0, .int .u32 0, .int .u32 0, .int .u32 0, .slice none 0 0, .int .u32 0, .int .i64 0, .int .i64 0] 34)).mono ((Below.refl W4.heap.size W4).drew).size))
      have HZ : Hid (Box (W4.drew.alloc (.cells #[.int .u32 0, .int .u32 0, .int .u32 0, .int .u32 0, .int .u32 0, .slice none 0 0, .int .u32 0, .int .i64 0, .int .i64 0] 34)) W4.drew.heap.size 34 _) := Lib.hid (Box.new W4.drew _ _)
      have HTl : Hid (w.heap.size ≤ W4.drew.heap.size) := Lib.hid (Nat.le_trans HA.out.below.size ((Below.refl W4.heap.size W4).drew).size)
      have HTw : Hid (W4.heap.size ≤ W4.drew.heap.size) := Lib.hid ((Below.refl W4.heap.size W4).drew).size
      refine hK.out _ _ (HKc.out _ (HBz.out)) (fun hHeld => ?_)
      clear hK K
      try simp only [Act.put, List.setIfInBounds_toArray, List.set_cons_zero, List.set_cons_succ]
      refine wpAnyH_ready (rs := [1]) (by kernel_rfl) (by simp) ?_
      refine AllReadyH.cons rfl (fun K hK => ?_) AllReadyH.nil
      go_simp
      refine (rpown_any a0 len0 cap0 fs0 (W4.drew.alloc (.cells #[.int .u32 0, .int .u32 0, .int .u32 0, .int .u32 0, .int .u32 0, .slice none 0 0, .int .u32 0, .int .i64 0, .int .i64 0] 34)) (HA.out.fns.below (HBz.out)) HFp.out).mono ?_
      rintro en5 m5 ⟨b5, cp5, rfl, hb5, hF5⟩
      have HB5 : Hid (Below W4.heap.size W4 m5) := Lib.hid ((HBz.out).trans (hb5.mono (HBz.out).size))
      have HF5 := Lib.hid hF5
      have HZ5 := Lib.hid (HZ.out.later hb5)
      clear hb5 hF5
      go_wp2_with fail
      refine hK.out _ _ (HKc.out _ (HB5.out)) (fun hHeld => ?_)
      clear hK K
      try simp only [Act.put, List.setIfInBounds_toArray, List.set_cons_zero, List.set_cons_succ]
      refine wpAnyH_ready (rs := [3]) (by kernel_rfl) (by simp) ?_
      refine AllReadyH.cons rfl (fun K hK => ?_) AllReadyH.nil
      go_simp
      refine (eown_any (e0, e1, e2, e3) a1 len1 cap1 x1 ts1 m5 (HA.out.tabs.below (HB5.out)) HOk.out.1).mono ?_
      rintro en6 m6 ⟨V6, rfl, hb6, hN6⟩
      obtain ⟨b6, cp6, hV6, hT6⟩ := hN6.at
      subst hV6
      have HB6 : Hid (Below W4.heap.size W4 m6) := Lib.hid ((HB5.out).trans (hb6.mono (HB5.out).size))
      have HF6 := Lib.hid (HF5.out)
      replace HF6 := Lib.hid (HF6.out.below hb6)
      have HT6 := Lib.hid hT6
      have HZ6 := Lib.hid (HZ5.out.later hb6)
      clear hb6 hN6 hT6
      go_wp2_with fail
      refine hK.out _ _ (HKc.out _ (HB6.out)) (fun hHeld => ?_)
      clear hK K
      try simp only [Act.put, List.setIfInBounds_toArray, List.set_cons_zero, List.set_cons_succ]
      refine wpAnyH_ready (rs := [4]) (by kernel_rfl) (by simp) ?_
      refine AllReadyH.cons rfl (fun K hK => ?_) AllReadyH.nil
      go_simp
      have c7 := irun_any fs0 b5 len0 cp5 ((e0, e1, e2, e3), ts1, x1) b6 ts1.length cp6 500 m6 (HA.out.rows.later (HB6.out)) (HF6.out) (HT6.out) HOk.out
      rw [HrQ.out] at c7
      refine c7.mono ?_
      intro en7 m7 h7
      obtain ⟨sb, sc, he7, hb7, hT7, ho7, _⟩ := h7.form
      simp only [ranA] at he7 hT7
      subst he7
      have HB7 : Hid (Below W4.heap.size W4 m7) := Lib.hid ((HB6.out).trans (hb7.mono (HB6.out).size))
      have HT7 : Hid (TabsI m7 w.heap.size (.slice sb rt.length sc) rt) := Lib.hid (hT7.low (Nat.le_trans HA.out.below.size (HB6.out).size))
      have HZ7 := Lib.hid (HZ6.out.later hb7)
      clear hb7 hT7 h7 c7
      go_wp2_with fail
      refine hK.out _ _ (HKc.out _ (HB7.out)) (fun hHeld => ?_)
      clear hK K
      try simp only [Act.put, List.setIfInBounds_toArray, List.set_cons_zero, List.set_cons_succ]
      refine wpAnyH_ready (rs := [6]) (by kernel_rfl) (by simp) ?_
      refine AllReadyH.cons rfl (fun K hK => ?_) AllReadyH.nil
      refine step_row _ (by rfl) 34 _ _ (by rfl) (by rfl) (W4.heap.size) #[.int .u32 r0, .int .u32 r1, .int .u32 r2, .int .u32 r3, .int .u32 r4, .slice sb rt.length sc, .int .u32 rs, .int .i64 ru, .int .i64 re] (by rfl) (by rfl) 34 _ HZ7.out (by kernel_rfl) rfl (by simp [Value.oneCell']) ?_
      have hX : Below W4.heap.size W4 (m7.setRow (W4.heap.size) #[.int .u32 r0, .int .u32 r1, .int .u32 r2, .int .u32 r3, .int .u32 r4, .slice sb rt.length sc, .int .u32 rs, .int .i64 ru, .int .i64 re]) := below_setRow HB7.out HTw.out _
      have hV9 : Vn w (m7.setRow (W4.heap.size) #[.int .u32 r0, .int .u32 r1, .int .u32 r2, .int .u32 r3, .int .u32 r4, .slice sb rt.length sc, .int .u32 rs, .int .i64 ru, .int .i64 re]) (W4.heap.size) (r0, ((r1, r2, r3, r4), rt, rs), ru, re) (.slice sb rt.length sc) := ⟨HA.out.below.trans (hX.mono HA.out.below.size), setRow_heap _ _ _ _ _ _ HZ7.out, HTl.out, HT7.out.far HZ7.out (by decide) (by decide) (by decide) (grownBy_setRow _ _ _), HVr.out.2.2.2.2⟩
      refine hK.out _ _ (HKc.out _ (hX)) (fun hHeld => ?_)
      clear hK K
      try simp only [Act.put, List.setIfInBounds_toArray, List.set_cons_zero, List.set_cons_succ]
      refine wpAnyH_done (by kernel_rfl) ?_ _
      clear hHeld
      go_wp2_with fail
      go_meet
      exact ⟨(W4.heap.size), sb, sc, rfl, Lib.hid hV9, Lib.hid hX⟩
    case rest =>
      obtain ⟨T, sb, sc, rfl, HVs, HB9⟩ := hcut
      replace HVr := Lib.hid (HVr.out.later HB9.out)
      replace HA := Lib.hid (HA.out.later HB9.out)
      replace HC := Lib.hid (HC.out.later HB9.out)
      clear HB9 HKc
      obtain ⟨v0, v1, v2, v3, v4, v5, v6, v7, v8⟩ := HVr.out.cells
      simp only at v0 v1 v2 v3 v4 v5 v6 v7 v8
      obtain ⟨u0, u1, u2, u3, u4, u5, u6, u7, u8⟩ := HVs.out.cells
      simp only at u0 u1 u2 u3 u4 u5 u6 u7 u8
      have c9 := isame_any (r0, ((r1, r2, r3, r4), rt, rs), ru, re) (r0, ((r1, r2, r3, r4), rt, rs), ru, re) rb rt.length rc sb rt.length sc wc (by obtain ⟨b', c', hh, hx⟩ := HVr.out.2.2.2.1.at; simp only [Value.slice.injEq] at hh; obtain ⟨rfl, _, rfl⟩ := hh; exact hx) (by obtain ⟨b', c', hh, hx⟩ := HVs.out.2.2.2.1.at; simp only [Value.slice.injEq] at hh; obtain ⟨rfl, _, rfl⟩ := hh; exact hx)
      rw [decide_eq_true (rfl : ((r0, ((r1, r2, r3, r4), rt, rs), ru, re) : Rn) = (r0, ((r1, r2, r3, r4), rt, rs), ru, re))] at c9
      go_wp2_with fail
      refine c9.mono ?_
      rintro en9 m8 ⟨rfl, hb8⟩
      replace HVr := Lib.hid (HVr.out.later hb8)
      replace HA := Lib.hid (HA.out.later hb8)
      replace HC := Lib.hid (HC.out.later hb8)
      clear c9 hb8 HVs
      clear v0 v1 v2 v3 v4 v5 v6 v7 v8 u0 u1 u2 u3 u4 u5 u6 u7 u8
      obtain ⟨p0, q0, q1, q2, q3, q4, q5⟩ := HA.out.cells
      simp only at p0 q0 q1 q2 q3 q4 q5
      have HLn := Lib.hid HA.out.fns.1
      go_wp2_with fail
      go_loopw [11] (fun i wr => ∃ k : Nat, k ≤ len0 ∧ i = .int .i64 k ∧ Hid (Below m8.heap.size m8 wr) ∧ Hid (∀ k', k' < k → ∀ j, j < (fs0.getD k' zeroF).2.length → ((fs0.getD k' zeroF).2.getD j zeroI).1 ≠ 2)) (fun i _ => len0 - (intOf i).toNat)
      case atStart => exact ⟨0, by omega, rfl, Lib.hid (Below.refl _ _), Lib.hid (fun k' hk => absurd hk (by omega))⟩
      case round =>
        obtain ⟨k, hk, rfl, HB, HN⟩ := hrel
        obtain ⟨wo, rfl⟩ : ∃ wo, wo = wr := ⟨_, rfl⟩
        clear p0 q0 q1 q2 q3 q4 q5
        have HAo := Lib.hid (HA.out.later HB.out)
        have hk0 : (0 : Int) ≤ (k : Int) := Int.natCast_nonneg _
        have p0 : wo.cell? ⟨w.heap.size, 0, none⟩ = some (.slice a0 len0 cap0) := HAo.out.prog.cell rfl
        by_cases hkl : k < len0
        · have hkI : (k : Int) < (len0 : Int) := by omega
          obtain ⟨y, rfl, hy⟩ := HAo.out.fns.2.2.2.resolve_left (by omega)
          obtain ⟨_, b7, l7, c7, f1, hCo⟩ := hy k hkl
          have hc7 : l7 ≤ 9223372036854775807 := by have h := Nat.le_trans hCo.2.1 hCo.2.2.1; unfold maxLen at h; omega
          have HCo := Lib.hid hCo
          have HF1 := Lib.hid f1
          clear hy hCo
          go_wp2_with fail
          go_loopw [12] (fun i wr => ∃ j : Nat, j ≤ l7 ∧ i = .int .i64 j ∧ Hid (Below wo.heap.size wo wr) ∧ Hid (∀ j', j' < j → ((fs0.getD k zeroF).2.getD j' zeroI).1 ≠ 2)) (fun i _ => l7 - (intOf i).toNat)
          case atStart => exact ⟨0, by omega, rfl, Lib.hid (Below.refl _ _), Lib.hid (fun j' hj => absurd hj (by omega))⟩
          case round =>
            obtain ⟨j, hj, rfl, HB2, HN2⟩ := hrel
            have hj0 : (0 : Int) ≤ (j : Int) := Int.natCast_nonneg _
            clear p0 f1
            have p0 : wr.cell? ⟨w.heap.size, 0, none⟩ = some (.slice (some y) len0 cap0) := (HAo.out.prog.later HB2.out).cell rfl
            have f1 := (HB2.out.cell (lt_of_cell HF1.out)).trans HF1.out
            by_cases hjl : j < l7
            · have hjI : (j : Int) < (l7 : Int) := by omega
              obtain ⟨z, rfl, hz⟩ := (HCo.out.below HB2.out).2.2.2.2.resolve_left (by omega)
              obtain ⟨i0, _⟩ := hz j hjl
              obtain ⟨op, hop⟩ : ∃ op, ((fs0.getD k zeroF).2.getD j zeroI).1 = op := ⟨_, rfl⟩
              rw [hop] at i0
              have HOp := Lib.hid hop
              clear hz hop
              by_cases h2 : op = 2
              · have hb2 : (op == 2) = true := by simpa using h2
                clear h2
                go_wp2_with fail
                go_ret
                exact ⟨rfl, HAo.out.below.trans (HB2.out.mono HAo.out.below.size)⟩
              · have hb2 : (op == 2) = false := by simpa using h2
                have HN3 : Hid (∀ j', j' < j + 1 → ((fs0.getD k zeroF).2.getD j' zeroI).1 ≠ 2) := Lib.hid (fun j' hj' => by
                  by_cases e : j' = j
                  · subst e; rw [HOp.out]; exact h2
                  · exact HN2.out j' (by omega))
                clear h2
                go_wp2_with fail
                exact ⟨⟨j + 1, by omega, by go_num, HB2, HN3⟩, by simp [intOf]; omega⟩
            · have hjI : ¬ (j : Int) < (l7 : Int) := by omega
              have HN3 : Hid (∀ k', k' < k + 1 → ∀ j, j < (fs0.getD k' zeroF).2.length → ((fs0.getD k' zeroF).2.getD j zeroI).1 ≠ 2) := Lib.hid (fun k' hk' j' hj' => by
                by_cases e : k' = k
                · subst e; exact HN2.out j' (by rw [HCo.out.1] at hj'; omega)
                · exact HN.out k' (by omega) j' hj')
              have HB3 := Lib.hid (HB.out.trans (HB2.out.mono HB.out.size))
              go_wp2_with fail
              exact ⟨⟨k + 1, by omega, by go_num, HB3, HN3⟩, by simp [intOf]; omega⟩
        · have hkI : ¬ (k : Int) < (len0 : Int) := by omega
          have HNo : Hid (∀ k, k < fs0.length → ∀ i ∈ (fs0.getD k zeroF).2, i.1 ≠ 2) := Lib.hid (fun k' hk' i hi => by
            obtain ⟨j, hj, rfl⟩ := List.getElem_of_mem hi
            have := HN.out k' (by rw [HLn.out] at hk'; omega) j hj
            rwa [List.getD_eq_getElem?_getD, List.getElem?_eq_getElem hj] at this)
          replace HA := HAo
          clear HAo p0
          replace HVr := Lib.hid (HVr.out.later HB.out)
          replace HC := Lib.hid (HC.out.later HB.out)
          clear HB HN
          obtain ⟨Y, hY, hbY, hBY⟩ := env_row wo #[.int .u32 e0, .int .u32 e1, .int .u32 e2, .int .u32 e3, .slice a1 len1 cap1, .int .u32 x1]
          obtain ⟨X, hX, hgX, hBX⟩ := env_set hBY d0 d1 d2 d3
          have hbX : Below wo.heap.size wo X := hbY.grown hgX hbY.size (fun n hn => by cases hn; exact Nat.le_refl _)
          have hCY := HC.out.later hbY
          have g0 : Y.cell? ⟨w.heap.size + 1 + 1, 0, none⟩ = some (.int .u32 d0) := hCY.cell rfl
          have g1 : Y.cell? ⟨w.heap.size + 1 + 1, 1, none⟩ = some (.int .u32 d1) := hCY.cell rfl
          have g2 : Y.cell? ⟨w.heap.size + 1 + 1, 2, none⟩ = some (.int .u32 d2) := hCY.cell rfl
          have g3 : Y.cell? ⟨w.heap.size + 1 + 1, 3, none⟩ = some (.int .u32 d3) := hCY.cell rfl
          have z0 : Y.cell? ⟨wo.heap.size, 0, none⟩ = some (.int .u32 e0) := hBY.cell rfl
          have z1 : Y.cell? ⟨wo.heap.size, 1, none⟩ = some (.int .u32 e1) := hBY.cell rfl
          have z2 : Y.cell? ⟨wo.heap.size, 2, none⟩ = some (.int .u32 e2) := hBY.cell rfl
          have z3 : Y.cell? ⟨wo.heap.size, 3, none⟩ = some (.int .u32 e3) := hBY.cell rfl
          have y0 := hBY.free 0
          have y1 := hBY.free 1
          have y2 := hBY.free 2
          have y3 := hBY.free 3
          have x0 : X.cell? ⟨wo.heap.size, 0, none⟩ = some (.int .u32 d0) := hBX.cell rfl
          have x1' : X.cell? ⟨wo.heap.size, 1, none⟩ = some (.int .u32 d1) := hBX.cell rfl
          have x2 : X.cell? ⟨wo.heap.size, 2, none⟩ = some (.int .u32 d2) := hBX.cell rfl
          have x3 : X.cell? ⟨wo.heap.size, 3, none⟩ = some (.int .u32 d3) := hBX.cell rfl
          have x4 : X.cell? ⟨wo.heap.size, 4, none⟩ = some (.slice a1 len1 cap1) := hBX.cell rfl
          have x5 : X.cell? ⟨wo.heap.size, 5, none⟩ = some (.int .u32 x1) := hBX.cell rfl
          obtain ⟨p0, q0, q1, q2, q3, q4, q5⟩ := HA.out.cells
          simp only at p0 q0 q1 q2 q3 q4 q5
          have HAX := Lib.hid (HA.out.later hbX)
          have s0 : X.cell? ⟨w.heap.size, 0, none⟩ = some (.slice a0 len0 cap0) := HAX.out.prog.cell rfl
          have HVX := Lib.hid (HVr.out.later hbX)
          have HOd : Hid (okEv ((d0, d1, d2, d3), ts1, x1)) := Lib.hid ⟨HOk.out.1, HOk.out.2.1, HD.out⟩
          have HqD : Hid (callI fs0 0 ((d0, d1, d2, d3), ts1, x1) 500 [] = (r0, ((d0, d1, d2, d3), rt, rs), ru, re)) := Lib.hid (by
            have h := callI_setC (d0, d1, d2, d3) fs0 ((e0, e1, e2, e3), ts1, x1) 500 0 [] HNo.out
            rw [HrQ.out] at h
            exact h)
          have cT := irun_any fs0 a0 len0 cap0 ((d0, d1, d2, d3), ts1, x1) a1 len1 cap1 500 X HAX.out.rows HAX.out.fns HAX.out.tabs HOd.out
          rw [HqD.out] at cT
          clear hbY hBY hgX hBX hbX hCY
          go_wp2_with (refine wpList_store_row rfl 29 _ _ rfl wo.heap.size _ rfl rfl 29 _ (Box.new wo 29 _) (by kernel_rfl) rfl (by simp [Value.oneCell']) ?_)
          clear hY hX p0 q0 q1 q2 q3 q4 q5 g0 g1 g2 g3 z0 z1 z2 z3 y0 y1 y2 y3 x0 x1' x2 x3 x4 x5 s0
          refine cT.mono ?_
          intro en10 m10 h10
          obtain ⟨tb, tc, he10, hb10, hT10, ho10, _⟩ := h10.form
          simp only [ranA] at he10 hT10
          subst he10
          obtain ⟨W11, hW11, hb11, hB11, hsz11⟩ := new_ran m10 #[.int .u32 r0, .int .u32 d0, .int .u32 d1, .int .u32 d2, .int .u32 d3, .slice tb rt.length tc, .int .u32 rs, .int .i64 ru, .int .i64 re]
          have HVt : Hid (Vn w W11 m10.heap.size (r0, ((d0, d1, d2, d3), rt, rs), ru, re) (.slice tb rt.length tc)) := Lib.hid (Vn.new HAX.out.below hb10 hT10 ho10 hb11 hB11)
          have HVa := Lib.hid ((HVX.out.later hb10).later hb11)
          have hTa : m3.heap.size < m10.heap.size := (HVX.out.later hb10).2.1.lt
          clear hsz11 h10 hb10 hT10 ho10 hb11 hB11 cT HVr HVX
          obtain ⟨X2, hX2, hg2, hB2, hb2⟩ := set_ctx HVt.out (r1, r2, r3, r4)
          simp only at hX2
          obtain ⟨v0, v1, v2, v3, v4, v5, v6, v7, v8⟩ := HVa.out.cells
          obtain ⟨u0, u1, u2, u3, u4, u5, u6, u7, u8⟩ := HVt.out.cells
          simp only at v0 v1 v2 v3 v4 v5 v6 v7 v8 u0 u1 u2 u3 u4 u5 u6 u7 u8
          have f1 := HVt.out.2.1.free 1
          have f2 := HVt.out.2.1.free 2
          have f3 := HVt.out.2.1.free 3
          have f4 := HVt.out.2.1.free 4
          have hBa : Box X2 m3.heap.size 34 (ranA (r0, ((r1, r2, r3, r4), rt, rs), ru, re) (.slice rb rt.length rc)) := HVa.out.2.1.grown hg2 (fun e => by have := Option.some.inj e; omega)
          have hTaI := HVa.out.2.2.2.1.far HVt.out.2.1 (by decide) (by decide) (by decide) hg2
          have hTtI := HVt.out.2.2.2.1.far HVt.out.2.1 (by decide) (by decide) (by decide) hg2
          have a0' : X2.cell? ⟨m3.heap.size, 0, none⟩ = some (.int .u32 r0) := hBa.cell rfl
          have a1' : X2.cell? ⟨m3.heap.size, 1, none⟩ = some (.int .u32 r1) := hBa.cell rfl
          have a2' : X2.cell? ⟨m3.heap.size, 2, none⟩ = some (.int .u32 r2) := hBa.cell rfl
          have a3' : X2.cell? ⟨m3.heap.size, 3, none⟩ = some (.int .u32 r3) := hBa.cell rfl
          have a4' : X2.cell? ⟨m3.heap.size, 4, none⟩ = some (.int .u32 r4) := hBa.cell rfl
          have a5' : X2.cell? ⟨m3.heap.size, 5, none⟩ = some (.slice rb rt.length rc) := hBa.cell rfl
          have a6' : X2.cell? ⟨m3.heap.size, 6, none⟩ = some (.int .u32 rs) := hBa.cell rfl
          have a7' : X2.cell? ⟨m3.heap.size, 7, none⟩ = some (.int .i64 ru) := hBa.cell rfl
          have a8' : X2.cell? ⟨m3.heap.size, 8, none⟩ = some (.int .i64 re) := hBa.cell rfl
          have b0' : X2.cell? ⟨m10.heap.size, 0, none⟩ = some (.int .u32 r0) := hB2.cell rfl
          have b1' : X2.cell? ⟨m10.heap.size, 1, none⟩ = some (.int .u32 r1) := hB2.cell rfl
          have b2' : X2.cell? ⟨m10.heap.size, 2, none⟩ = some (.int .u32 r2) := hB2.cell rfl
          have b3' : X2.cell? ⟨m10.heap.size, 3, none⟩ = some (.int .u32 r3) := hB2.cell rfl
          have b4' : X2.cell? ⟨m10.heap.size, 4, none⟩ = some (.int .u32 r4) := hB2.cell rfl
          have b5' : X2.cell? ⟨m10.heap.size, 5, none⟩ = some (.slice tb rt.length tc) := hB2.cell rfl
          have b6' : X2.cell? ⟨m10.heap.size, 6, none⟩ = some (.int .u32 rs) := hB2.cell rfl
          have b7' : X2.cell? ⟨m10.heap.size, 7, none⟩ = some (.int .i64 ru) := hB2.cell rfl
          have b8' : X2.cell? ⟨m10.heap.size, 8, none⟩ = some (.int .i64 re) := hB2.cell rfl
          have HB2 := Lib.hid hb2
          have c12 := isame_any (r0, ((r1, r2, r3, r4), rt, rs), ru, re) (r0, ((r1, r2, r3, r4), rt, rs), ru, re) rb rt.length rc tb rt.length tc X2 (by obtain ⟨b', c', hh, hx⟩ := hTaI.at; simp only [Value.slice.injEq] at hh; obtain ⟨rfl, _, rfl⟩ := hh; exact hx) (by obtain ⟨b', c', hh, hx⟩ := hTtI.at; simp only [Value.slice.injEq] at hh; obtain ⟨rfl, _, rfl⟩ := hh; exact hx)
          rw [decide_eq_true (rfl : ((r0, ((r1, r2, r3, r4), rt, rs), ru, re) : Rn) = (r0, ((r1, r2, r3, r4), rt, rs), ru, re))] at c12
          clear hBa hTaI hTtI hB2 hb2 hg2
          go_wp2_with (refine wpList_store_row rfl 34 _ _ rfl m10.heap.size _ rfl rfl 34 _ (Box.new m10 34 _) (by kernel_rfl) rfl (by simp [Value.oneCell']) ?_)
          refine c12.mono ?_
          rintro en13 m13 ⟨rfl, hb13⟩
          clear c12
          go_wp2
          go_ret
          exact ⟨rfl, HB2.out.trans (hb13.mono HB2.out.size)⟩


theorem own : ownKnob Tryd.prog.godebug = none := by kernel_rfl
theorem laidOut : laidOutB Tryd.prog = true := by kernel_rfl
theorem door_met (os : Os) (args : Array Value) : laidMetH Tryd.prog laidL ((World.doorLaid Tryd.prog 400 os).forCall (fun _ _ => 0) ⟨#[], args, []⟩).memory :=
  laidMetH_of_parts3 (fuel := 8) (laidMet_of_run' 8 (by kernel_rfl) (by kernel_rfl)) (by kernel_rfl) (by kernel_rfl)
set_option maxRecDepth 100000 in
theorem lifted (os : Os) (started : os.Started) (H : Type) (enc : TypeId × Value → H) :
    ReturnsInHanded {} Tryd.checked os 7 .any (fun w args => (Rows.interpSameSpec.pre enc Tryd.prog Tryd.f7 [] false w args ∧ laidMetH Tryd.prog laidL w) ∧ sizedMet enc Tryd.prog Tryd.f7 (OpenSpec.ofChange Rows.interpSameSpec) false w args)
      (Rows.interpSameSpec.post enc Tryd.prog Tryd.f7 false true false false) := by
  refine returnsInHanded_of_change_and (C := Tryd.checked) (X := fun w _ => laidMetH Tryd.prog laidL w) (fun _ _ _ hh h => h.of_heap hh) own started (by kernel_rfl) Tryd.func7
    (ChangeSpec.witness_shaped (enc := enc) (C := Tryd.checked) (os := os) (X := fun w _ => laidMetH Tryd.prog laidL w) false (World.doorLaid Tryd.prog 400 os) #[.agg #[.slice none 0 0], .agg #[.int .u32 0, .int .u32 0, .int .u32 0, .int .u32 0, .slice none 0 0, .int .u32 0], .agg #[.int .u32 0, .int .u32 0, .int .u32 0, .int .u32 0]] 8 rfl (World.shaped_of_RefB (by kernel_rfl) (by kernel_rfl)) (by kernel_rfl) (by kernel_rfl) (by kernel_rfl) (door_met os _)) ?_
  intro W base args ds gs before hval0 hW _ _ hL _
  have hval : ∀ (j : Nat) t v, Tryd.f7.params[j]? = some t → args[j]? = some v → Value.okWide Tryd.prog W .any base t v := hval0
  have hW' := hW
  obtain ⟨p, q, hA0, hV, rfl, hfz, hnd⟩ := hW
  have hA : DataW.TrodAll enc Tryd.prog W 0 (fun _ => true) true Tryd.f7.params.toList args.toList ds p := hA0
  rw [Tryd.params7] at hA hval
  obtain ⟨v0, vs0, e0, ds0, p0, q0, hargs, rfl, rfl, h0, t0⟩ := trodAll_cons hA
  obtain ⟨v1, vs1, e1, ds1, p1, q1, rfl, rfl, rfl, h1, t1⟩ := trodAll_cons t0
  obtain ⟨v2, vs2, e2, ds2, p2, q2, rfl, rfl, rfl, h2, t2⟩ := trodAll_cons t1
  obtain ⟨rfl, rfl, rfl⟩ := trodAll_nil t2
  obtain rfl : args = #[v0, v1, v2] := by cases args; simp_all
  obtain ⟨rfl, rfl⟩ := trodVars_none hV
  have k0 := h0
  have lt0 : ∀ x ∈ p0, x.block < W.heap.size := by obtain ⟨m, hm⟩ := k0; exact DataW.trod_lt m _ _ _ hm
  have k1 := h1
  have lt1 : ∀ x ∈ p1, x.block < W.heap.size := by obtain ⟨m, hm⟩ := k1; exact DataW.trod_lt m _ _ _ hm
  have k2 := h2
  have lt2 : ∀ x ∈ p2, x.block < W.heap.size := by obtain ⟨m, hm⟩ := k2; exact DataW.trod_lt m _ _ _ hm
  obtain ⟨a0, len0, cap0, fs0, rfl, w0⟩ := open_prog (hval 0 24 v0 rfl rfl) h0
  obtain ⟨c1, a1, len1, cap1, x1, ts1, rfl, w1, y1, z1⟩ := open_envw (hval 1 29 v1 rfl rfl) h1
  obtain ⟨c2, rfl, w2⟩ := open_cx (hval 2 26 v2 rfl rfl) h2
  clear hA0 hval0
  refine (walk a0 len0 cap0 fs0 c1 a1 len1 cap1 x1 ts1 c2 w2 W (rows_of_laid hL) w0 w1 y1 z1).mono fun e W' ⟨he, bel⟩ => ?_
  subst he
  exact ⟨_, rfl, _, _, _, [], _, [], hW', trodAll_mk1 (shut_bool Tryd.underlying4 _), (trodAll_cons_mk (Below.trod laidOut (by kernel_rfl) (of_decide_eq_true (by kernel_rfl)) k0 bel lt0) (trodAll_cons_mk (Below.trod laidOut (by kernel_rfl) (of_decide_eq_true (by kernel_rfl)) k1 bel lt1) (trodAll_cons_mk (Below.trod laidOut (by kernel_rfl) (of_decide_eq_true (by kernel_rfl)) k2 bel lt2) trodAll_mk0))), rfl, bel.frame _, fun h => by cases h⟩

theorem over : Rows.interpSameRow.holds Tryd.pinned (OpenSpec.ofChange Rows.interpSameSpec) :=
  OpenClaim.holds_of_wide 7 Tryd.f7 rfl rfl rfl rfl rfl rfl rfl ⟨rfl, rfl, rfl, rfl, rfl⟩ rfl rfl rfl rfl rfl (by kernel_rfl) Tryd.func7 (by kernel_rfl)
    (of_decide_eq_true (by kernel_rfl)) (by unfold Func.isWrapper; first | (rw [if_pos (by decide +kernel)]; kernel_rfl) | (rw [if_neg (by decide +kernel)]; exact ⟨rfl, rfl⟩))
    (fun os started H enc _ => lifted os started H enc)

theorem proved : Rows.InterpSameCardSaid :=
  Claim7.holds_tied_plain_at .later [] [.data] true (true, "06c1961827986d8c8e50d4b984e0c9bf0d6611e5e24705ee5aae201a4df00376") false
    over (fun _ h => by cases h) (by kernel_rfl) (fun _ h => by cases h) interpSame_row_tie rfl ⟨rfl, rfl⟩ (by kernel_rfl) rfl
    (fun f fn hf hfn => by
      obtain rfl : f = 7 := Option.some.inj ((show Tryd.prog.funcNamed "drydock/drydocklaw07.InterpSame" = some 7 by kernel_rfl).symm.trans hf) |>.symm
      obtain rfl : fn = Tryd.f7 := (Option.some.inj (Tryd.func7.symm.trans hfn)).symm
      exact ⟨by kernel_rfl, fun j t ht => by
        rw [Tryd.params7] at ht
        match j, ht with
        | 0, ht => obtain rfl : t = 24 := by simpa using ht.symm
                   exact (show Tryd.prog.wantsStandIn 24 = false by kernel_rfl)
        | 1, ht => obtain rfl : t = 29 := by simpa using ht.symm
                   exact (show Tryd.prog.wantsStandIn 29 = false by kernel_rfl)
        | 2, ht => obtain rfl : t = 26 := by simpa using ht.symm
                   exact (show Tryd.prog.wantsStandIn 26 = false by kernel_rfl)
        | j + 3, ht => simp at ht⟩)
    (by kernel_rfl)
#print axioms proved
end Go.Proofs.YtilddlgcfbefiaaDoor.interpSame
