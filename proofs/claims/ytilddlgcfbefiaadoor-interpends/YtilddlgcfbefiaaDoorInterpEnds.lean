/-
  With fuel for 65 to the power of how many functions there are no program of at most two functions is too long.
  Conditions: none; the package variable that the law reads starts as its initialiser lays it (the card ties it).
-/
import Derived.Test.YtilddlgcfbefiaaDoorRows
import Derived.Test.YtilddlgcfbefiaaDoorCards
import Derived.Test.YtilddlgcfbefiaaDoorTie
import Derived.Test.YtilddlgcfbefiaaDoorGik
import Derived.Test.YtilddlgcfbefiaaDoorGio
import Derived.Test.YtilddlgcfbefiaaDoorGcd
import Derived.Test.YtilddlgcfbefiaaDoorGip
import Derived.WalkKit
import Derived.ProofKit
import Derived.OpenShut
import Derived.ChangeOld
import Derived.Below
import Derived.SevenTiedAt
namespace Go.Proofs.YtilddlgcfbefiaaDoor.interpEnds
set_option linter.unusedSimpArgs false
set_option linter.unusedVariables false
open Go.ChangeShapes Go.WideShapes Go.ChangeAt Go.RowKit

set_option maxRecDepth 100000 in
set_option maxHeartbeats 20000000 in
theorem walk (a0 : Option Addr) (len0 cap0 : Nat) (fs0 : List Fun) (c1 : Cx) (a1 : Option Addr) (len1 cap1 : Nat) (x1 : Int) (ts1 : List Tb) (w : World) (hR : RowsIn w) (w0 : FnsAt w a0 len0 cap0 fs0) (w1 : TabsAt w a1 len1 cap1 ts1) (y1 : isW x1) (z1 : isW c1.1 ∧ isW c1.2.1 ∧ isW c1.2.2.1 ∧ isW c1.2.2.2) :
    Calls Tryd.prog 5 #[.agg #[.slice a0 len0 cap0], envV c1 (.slice a1 len1 cap1) x1] w fun e w' => e = .returned (.bool true) ∧ Below w.heap.size w w' := by
  rcases c1 with ⟨e0, e1, e2, e3⟩
  simp only at z1
  obtain ⟨W0, hW0, hA0⟩ := Ar.begin (e0, e1, e2, e3) x1 hR w0 w1
  simp only at hW0
  have HA := Lib.hid hA0
  have HP0 := Lib.hid w0
  have HX := Lib.hid y1
  have HZ := Lib.hid z1
  have HLm := Lib.hid w0.2.1
  clear hA0 hR w0 w1 y1 z1
  obtain ⟨p0, q0, q1, q2, q3, q4, q5⟩ := HA.out.cells
  simp only at p0 q0 q1 q2 q3 q4 q5
  go_enter Tryd.func5, Tryd.ntmps5
  go_wp2_with fail
  refine (iawake_any W0 HA.out.rows).mono ?_
  rintro en1 m1 ⟨rfl, hb1⟩
  replace HA := Lib.hid (HA.out.later hb1)
  clear hb1 hW0 p0 q0 q1 q2 q3 q4 q5
  obtain ⟨p0, q0, q1, q2, q3, q4, q5⟩ := HA.out.cells
  simp only at p0 q0 q1 q2 q3 q4 q5
  go_wp2_with fail
  refine (ifew_any fs0 a0 len0 cap0 (e0, e1, e2, e3) a1 len1 cap1 x1 ts1 m1 HA.out.fns HA.out.tabs).mono ?_
  rintro en2 m2 ⟨rfl, hb2⟩
  replace HA := Lib.hid (HA.out.later hb2)
  clear hb2 p0 q0 q1 q2 q3 q4 q5
  obtain ⟨p0, q0, q1, q2, q3, q4, q5⟩ := HA.out.cells
  simp only at p0 q0 q1 q2 q3 q4 q5
  obtain ⟨fb, hfb⟩ : ∃ fb, (fewP fs0 && fewTs ts1) = fb := ⟨_, rfl⟩
  rw [hfb]
  have HFb := Lib.hid hfb
  clear hfb
  cases fb with
  | false =>
    go_wp2
    go_ret
    exact ⟨rfl, HA.out.below⟩
  | true =>
    have HT : Hid (fewTs ts1 = true) := Lib.hid (by have h := HFb.out; simp only [Bool.and_eq_true] at h; exact h.2)
    have HFp : Hid (fewP fs0 = true) := Lib.hid (by have h := HFb.out; simp only [Bool.and_eq_true] at h; exact h.1)
    have HOk : Hid (okEv ((e0, e1, e2, e3), ts1, x1)) := Lib.hid (ok_ofI HT.out HX.out HZ.out)
    by_cases h2 : (2 : Int) < (len0 : Int)
    · go_wp2
      go_ret
      exact ⟨rfl, HA.out.below⟩
    have HNe : Hid ((callI fs0 0 ((e0, e1, e2, e3), ts1, x1) 4225 []).2.2.2 ≠ 2) := Lib.hid (callI_ends fs0 a0 len0 cap0 w HP0.out (by have := HP0.out.1; omega) ((e0, e1, e2, e3), ts1, x1) [])
    have cR := irun_any fs0 a0 len0 cap0 ((e0, e1, e2, e3), ts1, x1) a1 len1 cap1 4225 m2 HA.out.rows HA.out.fns HA.out.tabs HOk.out
    obtain ⟨q, hq⟩ : ∃ q, callI fs0 0 ((e0, e1, e2, e3), ts1, x1) 4225 [] = q := ⟨_, rfl⟩
    rw [hq] at cR
    have HNe2 : Hid (q.2.2.2 ≠ 2) := Lib.hid (by rw [← hq]; exact HNe.out)
    clear hq HNe
    go_wp2_with fail
    refine cR.mono ?_
    intro en3 m3 h3
    obtain ⟨r0, ⟨⟨r1, r2, r3, r4⟩, rt, rs⟩, ru, re⟩ := q
    obtain ⟨rb, rc, he3, hb3, _, _, _⟩ := h3.form
    simp only [ranA] at he3
    subst he3
    replace HA := Lib.hid (HA.out.later hb3)
    obtain ⟨W4, hW4, hb4, hV4, _⟩ := new_ran m3 #[.int .u32 r0, .int .u32 r1, .int .u32 r2, .int .u32 r3, .int .u32 r4, .slice rb rt.length rc, .int .u32 rs, .int .i64 ru, .int .i64 re]
    replace HA := Lib.hid (HA.out.later hb4)
    have v8 : W4.cell? ⟨m3.heap.size, 8, none⟩ = some (.int .i64 re) := hV4.cell rfl
    have hne : (re != 2) = true := by have := HNe2.out; simpa using this
    clear h3 hb3 hb4 hV4 cR p0 q0 q1 q2 q3 q4 q5
    go_wp2_with (refine wpList_store_row rfl 34 _ _ rfl m3.heap.size _ rfl rfl 34 _ (Box.new m3 34 _) (by kernel_rfl) rfl (by simp [Value.oneCell']) ?_)
    go_ret
    exact ⟨rfl, HA.out.below⟩


theorem own : ownKnob Tryd.prog.godebug = none := by kernel_rfl
theorem laidOut : laidOutB Tryd.prog = true := by kernel_rfl
theorem door_met (os : Os) (args : Array Value) : laidMetH Tryd.prog laidL ((World.doorLaid Tryd.prog 400 os).forCall (fun _ _ => 0) ⟨#[], args, []⟩).memory :=
  laidMetH_of_parts3 (fuel := 8) (laidMet_of_run' 8 (by kernel_rfl) (by kernel_rfl)) (by kernel_rfl) (by kernel_rfl)
set_option maxRecDepth 100000 in
theorem lifted (os : Os) (started : os.Started) (H : Type) (enc : TypeId × Value → H) :
    ReturnsInHanded {} Tryd.checked os 5 .any (fun w args => (Rows.interpEndsSpec.pre enc Tryd.prog Tryd.f5 [] false w args ∧ laidMetH Tryd.prog laidL w) ∧ sizedMet enc Tryd.prog Tryd.f5 (OpenSpec.ofChange Rows.interpEndsSpec) false w args)
      (Rows.interpEndsSpec.post enc Tryd.prog Tryd.f5 false true false false) := by
  refine returnsInHanded_of_change_and (C := Tryd.checked) (X := fun w _ => laidMetH Tryd.prog laidL w) (fun _ _ _ hh h => h.of_heap hh) own started (by kernel_rfl) Tryd.func5
    (ChangeSpec.witness_shaped (enc := enc) (C := Tryd.checked) (os := os) (X := fun w _ => laidMetH Tryd.prog laidL w) false (World.doorLaid Tryd.prog 400 os) #[.agg #[.slice none 0 0], .agg #[.int .u32 0, .int .u32 0, .int .u32 0, .int .u32 0, .slice none 0 0, .int .u32 0]] 8 rfl (World.shaped_of_RefB (by kernel_rfl) (by kernel_rfl)) (by kernel_rfl) (by kernel_rfl) (by kernel_rfl) (door_met os _)) ?_
  intro W base args ds gs before hval0 hW _ _ hL _
  have hval : ∀ (j : Nat) t v, Tryd.f5.params[j]? = some t → args[j]? = some v → Value.okWide Tryd.prog W .any base t v := hval0
  have hW' := hW
  obtain ⟨p, q, hA0, hV, rfl, hfz, hnd⟩ := hW
  have hA : DataW.TrodAll enc Tryd.prog W 0 (fun _ => true) true Tryd.f5.params.toList args.toList ds p := hA0
  rw [Tryd.params5] at hA hval
  obtain ⟨v0, vs0, e0, ds0, p0, q0, hargs, rfl, rfl, h0, t0⟩ := trodAll_cons hA
  obtain ⟨v1, vs1, e1, ds1, p1, q1, rfl, rfl, rfl, h1, t1⟩ := trodAll_cons t0
  obtain ⟨rfl, rfl, rfl⟩ := trodAll_nil t1
  obtain rfl : args = #[v0, v1] := by cases args; simp_all
  obtain ⟨rfl, rfl⟩ := trodVars_none hV
  have k0 := h0
  have lt0 : ∀ x ∈ p0, x.block < W.heap.size := by obtain ⟨m, hm⟩ := k0; exact DataW.trod_lt m _ _ _ hm
  have k1 := h1
  have lt1 : ∀ x ∈ p1, x.block < W.heap.size := by obtain ⟨m, hm⟩ := k1; exact DataW.trod_lt m _ _ _ hm
  obtain ⟨a0, len0, cap0, fs0, rfl, w0⟩ := open_prog (hval 0 24 v0 rfl rfl) h0
  obtain ⟨c1, a1, len1, cap1, x1, ts1, rfl, w1, y1, z1⟩ := open_envw (hval 1 29 v1 rfl rfl) h1
  clear hA0 hval0
  refine (walk a0 len0 cap0 fs0 c1 a1 len1 cap1 x1 ts1 W (rows_of_laid hL) w0 w1 y1 z1).mono fun e W' ⟨he, bel⟩ => ?_
  subst he
  exact ⟨_, rfl, _, _, _, [], _, [], hW', trodAll_mk1 (shut_bool Tryd.underlying4 _), (trodAll_cons_mk (Below.trod laidOut (by kernel_rfl) (of_decide_eq_true (by kernel_rfl)) k0 bel lt0) (trodAll_cons_mk (Below.trod laidOut (by kernel_rfl) (of_decide_eq_true (by kernel_rfl)) k1 bel lt1) trodAll_mk0)), rfl, bel.frame _, fun h => by cases h⟩

theorem over : Rows.interpEndsRow.holds Tryd.pinned (OpenSpec.ofChange Rows.interpEndsSpec) :=
  OpenClaim.holds_of_wide 5 Tryd.f5 rfl rfl rfl rfl rfl rfl rfl ⟨rfl, rfl, rfl, rfl, rfl⟩ rfl rfl rfl rfl rfl (by kernel_rfl) Tryd.func5 (by kernel_rfl)
    (of_decide_eq_true (by kernel_rfl)) (by unfold Func.isWrapper; first | (rw [if_pos (by decide +kernel)]; kernel_rfl) | (rw [if_neg (by decide +kernel)]; exact ⟨rfl, rfl⟩))
    (fun os started H enc _ => lifted os started H enc)

theorem proved : Rows.InterpEndsCardSaid :=
  Claim7.holds_tied_plain_at .later [] [.data] true (true, "06c1961827986d8c8e50d4b984e0c9bf0d6611e5e24705ee5aae201a4df00376") false
    over (fun _ h => by cases h) (by kernel_rfl) (fun _ h => by cases h) interpEnds_row_tie rfl ⟨rfl, rfl⟩ (by kernel_rfl) rfl
    (fun f fn hf hfn => by
      obtain rfl : f = 5 := Option.some.inj ((show Tryd.prog.funcNamed "drydock/drydocklaw07.InterpEnds" = some 5 by kernel_rfl).symm.trans hf) |>.symm
      obtain rfl : fn = Tryd.f5 := (Option.some.inj (Tryd.func5.symm.trans hfn)).symm
      exact ⟨by kernel_rfl, fun j t ht => by
        rw [Tryd.params5] at ht
        match j, ht with
        | 0, ht => obtain rfl : t = 24 := by simpa using ht.symm
                   exact (show Tryd.prog.wantsStandIn 24 = false by kernel_rfl)
        | 1, ht => obtain rfl : t = 29 := by simpa using ht.symm
                   exact (show Tryd.prog.wantsStandIn 29 = false by kernel_rfl)
        | j + 2, ht => simp at ht⟩)
    (by kernel_rfl)
#print axioms proved
end Go.Proofs.YtilddlgcfbefiaaDoor.interpEnds
