/-
  Two instructions that may be, and are not the same, have other bytes: law InstApart returns true for every two instructions.
  Conditions: none; the package variable that the law reads starts as its initialiser lays it (the card ties it).
-/
import Derived.Test.YtfkmlkieipoibaaDoorRows
import Derived.Test.YtfkmlkieipoibaaDoorCards
import Derived.Test.YtfkmlkieipoibaaDoorTie
import Derived.Test.YtfkmlkieipoibaaDoorH
import Derived.Test.YtfkmlkieipoibaaDoorP
import Derived.Test.YtfkmlkieipoibaaDoorQ
import Derived.Test.YtfkmlkieipoibaaDoorK
import Derived.WalkKit
import Derived.ProofKit
import Derived.OpenShut
import Derived.ChangeOld
import Derived.Below
import Derived.SevenTiedAt
namespace Go.Proofs.YtfkmlkieipoibaaDoor.instApart
open Go.ChangeShapes Go.WideShapes Go.ChangeAt Go.RowKit
set_option linter.unusedVariables false

theorem fin {o f d s : Int} {r : Bool} {x m o' f' d' s' : Int} {r' : Bool} {x' m' : Int} (h : refP o f d s r x m) (h' : refP o' f' d' s' r' x' m') :
    (decide (encL o f d s r x m = encL o' f' d' s' r' x' m') == instEq o f d s r x m o' f' d' s' r' x' m') = true := by
  rw [beq_iff_eq, Bool.eq_iff_iff, decide_eq_true_iff, encL_eq_iff h h', instEq_iff]
set_option maxHeartbeats 2000000 in
theorem walk (o0 f0 d0 s0 : Int) (r0 : Bool) (x0 m0 : Int) (lo0 : 0 ≤ m0) (hi0 : m0 ≤ 4294967295) (o1 f1 d1 s1 : Int) (r1 : Bool) (x1 m1 : Int) (lo1 : 0 ≤ m1) (hi1 : m1 ≤ 4294967295) (w : World) (hR : RowsIn w) :
    Calls Tryd.prog 5 #[instV o0 f0 d0 s0 r0 x0 m0, instV o1 f1 d1 s1 r1 x1 m1] w fun e w' => e = .returned (.bool true) ∧ Below w.heap.size w w' := by
  have hg : Below w.heap.size w ((w.alloc (.cells #[.int .i64 o0, .int .i64 f0, .int .i64 d0, .int .i64 s0, .bool r0, .int .i64 x0, .int .u32 m0] 24)).alloc (.cells #[.int .i64 o1, .int .i64 f1, .int .i64 d1, .int .i64 s1, .bool r1, .int .i64 x1, .int .u32 m1] 24)) := ((Below.refl _ _).alloc (Nat.le_refl _) _).alloc (by simp) _
  have hR1 := hR.later hg
  have HI0 := Lib.hid ((instAt_alloc w o0 f0 d0 s0 r0 x0 m0 24).below ((Below.refl (w.heap.size + 1) _).alloc (by simp) (.cells #[.int .i64 o1, .int .i64 f1, .int .i64 d1, .int .i64 s1, .bool r1, .int .i64 x1, .int .u32 m1] 24)) (by omega))
  have HI1 : Hid (InstAt ((w.alloc (.cells #[.int .i64 o0, .int .i64 f0, .int .i64 d0, .int .i64 s0, .bool r0, .int .i64 x0, .int .u32 m0] 24)).alloc (.cells #[.int .i64 o1, .int .i64 f1, .int .i64 d1, .int .i64 s1, .bool r1, .int .i64 x1, .int .u32 m1] 24)) (w.heap.size + 1) o1 f1 d1 s1 r1 x1 m1) := Lib.hid (by
    have h := instAt_alloc (w.alloc (.cells #[.int .i64 o0, .int .i64 f0, .int .i64 d0, .int .i64 s0, .bool r0, .int .i64 x0, .int .u32 m0] 24)) o1 f1 d1 s1 r1 x1 m1 24
    rwa [show (w.alloc (.cells #[.int .i64 o0, .int .i64 f0, .int .i64 d0, .int .i64 s0, .bool r0, .int .i64 x0, .int .u32 m0] 24)).heap.size = w.heap.size + 1 by simp] at h)
  have hlt : w.heap.size + 1 < ((w.alloc (.cells #[.int .i64 o0, .int .i64 f0, .int .i64 d0, .int .i64 s0, .bool r0, .int .i64 x0, .int .u32 m0] 24)).alloc (.cells #[.int .i64 o1, .int .i64 f1, .int .i64 d1, .int .i64 s1, .bool r1, .int .i64 x1, .int .u32 m1] 24)).heap.size := by simp
  go_enter Tryd.func5, Tryd.ntmps5
  go_wp2_with fail
  refine (awake_any _ hR1).mono ?_
  rintro e w1 ⟨rfl, hg1⟩
  replace HI0 := Lib.hid (InstAt.below HI0.out hg1 (by omega))
  replace HI1 := Lib.hid (InstAt.below HI1.out hg1 hlt)
  replace hlt := Nat.lt_of_lt_of_le hlt hg1.size
  replace hg := hg.trans (hg1.mono hg.size)
  replace hR1 := hR1.later hg1
  clear hg1
  obtain ⟨c0, c1, c2, c3, c4, c5, c6⟩ := HI0.out
  go_wp2_with fail
  clear c0 c1 c2 c3 c4 c5 c6
  rcases hM : mayB o0 f0 d0 s0 r0 x0 m0 with _ | _
  · refine (put_no _ _ _ _ _ _ _ _ hR1 hM).mono ?_
    rintro e w2 ⟨rfl, hg2⟩
    replace HI1 := Lib.hid (InstAt.below HI1.out hg2 hlt)
    replace hg := hg.trans (hg2.mono hg.size)
    replace hR1 := hR1.later hg2
    clear hg2
    obtain ⟨c0, c1, c2, c3, c4, c5, c6⟩ := HI1.out
    go_wp2_with fail
    clear c0 c1 c2 c3 c4 c5 c6
    rcases hN : mayB o1 f1 d1 s1 r1 x1 m1 with _ | _
    · refine (put_no _ _ _ _ _ _ _ _ hR1 hN).mono ?_
      rintro e w3 ⟨rfl, hg3⟩
      go_wp2
      go_ret
      exact ⟨rfl, hg.trans (hg3.mono hg.size)⟩
    · refine (put_yes _ _ _ _ _ _ _ _ hR1 hN lo1 hi1).mono ?_
      rintro e w3 ⟨b, rfl, hg3, _, _⟩
      go_wp2
      go_ret
      exact ⟨rfl, hg.trans (hg3.mono hg.size)⟩
  · refine (put_yes _ _ _ _ _ _ _ _ hR1 hM lo0 hi0).mono ?_
    rintro e w2 ⟨b0, rfl, hg2, _, hB0⟩
    replace HI0 := Lib.hid (InstAt.below HI0.out hg2 (by omega))
    replace HI1 := Lib.hid (InstAt.below HI1.out hg2 hlt)
    replace hlt := Nat.lt_of_lt_of_le hlt hg2.size
    replace hg := hg.trans (hg2.mono hg.size)
    replace hR1 := hR1.later hg2
    have HB0 := Lib.hid hB0
    clear hg2 hB0
    obtain ⟨c0, c1, c2, c3, c4, c5, c6⟩ := HI1.out
    go_wp2_with fail
    clear c0 c1 c2 c3 c4 c5 c6
    rcases hN : mayB o1 f1 d1 s1 r1 x1 m1 with _ | _
    · refine (put_no _ _ _ _ _ _ _ _ hR1 hN).mono ?_
      rintro e w3 ⟨rfl, hg3⟩
      go_wp2
      go_ret
      exact ⟨rfl, hg.trans (hg3.mono hg.size)⟩
    · refine (put_yes _ _ _ _ _ _ _ _ hR1 hN lo1 hi1).mono ?_
      rintro e w3 ⟨b1, rfl, hg3, _, hB1⟩
      replace HI0 := Lib.hid (InstAt.below HI0.out hg3 (by omega))
      replace HI1 := Lib.hid (InstAt.below HI1.out hg3 hlt)
      replace HB0 := Lib.hid (BytesAt.below HB0.out hg3)
      have HB1 := Lib.hid hB1
      replace hg := hg.trans (hg3.mono hg.size)
      clear hg3 hB1 hlt hR1
      have hfin := fin (o := o0) (f := f0) (d := d0) (s := s0) (r := r0) (x := x0) (m := m0) (o' := o1) (f' := f1) (d' := d1) (s' := s1) (r' := r1) (x' := x1) (m' := m1) ((mayB_iff lo0 hi0).1 hM) ((mayB_iff lo1 hi1).1 hN)
      obtain ⟨c0, c1, c2, c3, c4, c5, c6⟩ := HI0.out
      obtain ⟨e0, e1, e2, e3, e4, e5, e6⟩ := HI1.out
      have he := eql_inst o0 f0 d0 s0 r0 x0 m0 o1 f1 d1 s1 r1 x1 m1
      have hgd := guard24
      clear hM hN
      go_wp2
      go_quiet ((go_at_call 12; exact Calls.quiet_of (bytes_sameQ ⟨b0, 0, none⟩ ⟨b1, 0, none⟩ 8 8 8 _ _ _ (by decide) rfl rfl HB0.out HB1.out)))
      go_wp2
      go_ret
      exact ⟨rfl, belowDrewN hg _⟩


theorem own : ownKnob Tryd.prog.godebug = none := by kernel_rfl
theorem laidOut : laidOutB Tryd.prog = true := by kernel_rfl
theorem door_met (os : Os) (args : Array Value) : laidMetH Tryd.prog laidL ((World.doorLaid Tryd.prog 400 os).forCall (fun _ _ => 0) ⟨#[], args, []⟩).memory :=
  laidMetH_of_parts3 (fuel := 8) (laidMet_of_run' 8 (by kernel_rfl) (by kernel_rfl)) (by kernel_rfl) (by kernel_rfl)
set_option maxRecDepth 100000 in
theorem lifted (os : Os) (started : os.Started) (H : Type) (enc : TypeId × Value → H) :
    ReturnsInHanded {} Tryd.checked os 5 .any (fun w args => (Rows.instApartSpec.pre enc Tryd.prog Tryd.f5 [] false w args ∧ laidMetH Tryd.prog laidL w) ∧ sizedMet enc Tryd.prog Tryd.f5 (OpenSpec.ofChange Rows.instApartSpec) false w args)
      (Rows.instApartSpec.post enc Tryd.prog Tryd.f5 false true false false) := by
  refine returnsInHanded_of_change_and (C := Tryd.checked) (X := fun w _ => laidMetH Tryd.prog laidL w) (fun _ _ _ hh h => h.of_heap hh) own started (by kernel_rfl) Tryd.func5
    (ChangeSpec.witness_shaped (enc := enc) (C := Tryd.checked) (os := os) (X := fun w _ => laidMetH Tryd.prog laidL w) false (World.doorLaid Tryd.prog 400 os) #[.agg #[.int .i64 0, .int .i64 0, .int .i64 0, .int .i64 0, .bool false, .int .i64 0, .int .u32 0], .agg #[.int .i64 0, .int .i64 0, .int .i64 0, .int .i64 0, .bool false, .int .i64 0, .int .u32 0]] 8 rfl (World.shaped_of_RefB (by kernel_rfl) (by kernel_rfl)) (by kernel_rfl) (by kernel_rfl) (by kernel_rfl) (door_met os _)) ?_
  intro W base args ds gs before hval0 hW _ _ hL _
  have hval : ∀ (j : Nat) t v, Tryd.f5.params[j]? = some t → args[j]? = some v → Value.okWide Tryd.prog W .any base t v := hval0
  have hW' := hW
  obtain ⟨p, q, hA0, hV, rfl, hfz, hnd⟩ := hW
  have hA : DataW.TrodAll enc Tryd.prog W 0 (fun _ => true) true Tryd.f5.params.toList args.toList ds p := hA0
  rw [Tryd.params5] at hA hval
  obtain ⟨v0, vs0, e0, ds0, p0, q0, hargs, rfl, rfl, h0, t0⟩ := trodAll_cons hA
  obtain ⟨v1, vs1, e1, ds1, p1, q1, rfl, rfl, rfl, h1, t1⟩ := trodAll_cons t0
  obtain ⟨rfl, rfl, rfl⟩ := trodAll_nil t1
  obtain rfl : args = #[v0, v1] := by cases args; simp_all
  obtain ⟨rfl, rfl⟩ := trodVars_none hV
  have k0 := h0
  have lt0 : ∀ x ∈ p0, x.block < W.heap.size := by obtain ⟨m, hm⟩ := k0; exact DataW.trod_lt m _ _ _ hm
  have k1 := h1
  have lt1 : ∀ x ∈ p1, x.block < W.heap.size := by obtain ⟨m, hm⟩ := k1; exact DataW.trod_lt m _ _ _ hm
  obtain ⟨o0, f0, d0, s0, r0, x0, m0, rfl, lo0, hi0⟩ := open_inst (hval 0 24 v0 rfl rfl) h0
  obtain ⟨o1, f1, d1, s1, r1, x1, m1, rfl, lo1, hi1⟩ := open_inst (hval 1 24 v1 rfl rfl) h1
  clear hA0 hval0
  refine (walk o0 f0 d0 s0 r0 x0 m0 lo0 hi0 o1 f1 d1 s1 r1 x1 m1 lo1 hi1 W (rows_of_laid hL)).mono fun e W' ⟨he, bel⟩ => ?_
  subst he
  exact ⟨_, rfl, _, _, _, [], _, [], hW', trodAll_mk1 (shut_bool Tryd.underlying4 _), (trodAll_cons_mk (Below.trod laidOut (by kernel_rfl) (of_decide_eq_true (by kernel_rfl)) k0 bel lt0) (trodAll_cons_mk (Below.trod laidOut (by kernel_rfl) (of_decide_eq_true (by kernel_rfl)) k1 bel lt1) trodAll_mk0)), rfl, bel.frame _, fun h => by cases h⟩

theorem over : Rows.instApartRow.holds Tryd.pinned (OpenSpec.ofChange Rows.instApartSpec) :=
  OpenClaim.holds_of_wide 5 Tryd.f5 rfl rfl rfl rfl rfl rfl rfl ⟨rfl, rfl, rfl, rfl, rfl⟩ rfl rfl rfl rfl rfl (by kernel_rfl) Tryd.func5 (by kernel_rfl)
    (of_decide_eq_true (by kernel_rfl)) (by unfold Func.isWrapper; first | (rw [if_pos (by decide +kernel)]; kernel_rfl) | (rw [if_neg (by decide +kernel)]; exact ⟨rfl, rfl⟩))
    (fun os started H enc _ => lifted os started H enc)

theorem proved : Rows.InstApartCardSaid :=
  Claim7.holds_tied_plain_at .later [] [.data] true (true, "c53787b049a8d55b8b8ad79c3807f9aebe7e4b58dc7af991b34b15730efeb0fa") false
    over (fun _ h => by cases h) (by kernel_rfl) (fun _ h => by cases h) instApart_row_tie rfl ⟨rfl, rfl⟩ (by kernel_rfl) rfl
    (fun f fn hf hfn => by
      obtain rfl : f = 5 := Option.some.inj ((show Tryd.prog.funcNamed "drydock/drydocklaw02.InstApart" = some 5 by kernel_rfl).symm.trans hf) |>.symm
      obtain rfl : fn = Tryd.f5 := (Option.some.inj (Tryd.func5.symm.trans hfn)).symm
      exact ⟨by kernel_rfl, fun j t ht => by
        rw [Tryd.params5] at ht
        match j, ht with
        | 0, ht => obtain rfl : t = 24 := by simpa using ht.symm
                   exact (show Tryd.prog.wantsStandIn 24 = false by kernel_rfl)
        | 1, ht => obtain rfl : t = 24 := by simpa using ht.symm
                   exact (show Tryd.prog.wantsStandIn 24 = false by kernel_rfl)
        | j + 2, ht => simp at ht⟩)
    (by kernel_rfl)
#print axioms proved
end Go.Proofs.YtfkmlkieipoibaaDoor.instApart
