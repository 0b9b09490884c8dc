/-
  Only a jump goes further, only what has a second register has no number, and the end has nothing: law InstKinds returns true for every instruction.
  Conditions: none; the package variable that the law reads starts as its initialiser lays it (the card ties it).
-/
import Derived.Test.YtfkmlkieipoibaaDoorRows
import Derived.Test.YtfkmlkieipoibaaDoorCards
import Derived.Test.YtfkmlkieipoibaaDoorTie
import Derived.Test.YtfkmlkieipoibaaDoorH
import Derived.Test.YtfkmlkieipoibaaDoorQ
import Derived.Test.YtfkmlkieipoibaaDoorK
import Derived.WalkKit
import Derived.ProofKit
import Derived.OpenShut
import Derived.ChangeOld
import Derived.Below
import Derived.SevenTiedAt
namespace Go.Proofs.YtfkmlkieipoibaaDoor.instKinds
open Go.ChangeShapes Go.WideShapes Go.ChangeAt Go.RowKit
set_option linter.unusedVariables false

set_option maxHeartbeats 2000000 in
theorem walk (o0 f0 d0 s0 : Int) (r0 : Bool) (x0 m0 : Int) (lo0 : 0 ≤ m0) (hi0 : m0 ≤ 4294967295) (w : World) (hR : RowsIn w) :
    Calls Tryd.prog 6 #[instV o0 f0 d0 s0 r0 x0 m0] w fun e w' => e = .returned (.bool true) ∧ Below w.heap.size w w' := by
  have hg : Below w.heap.size w (w.alloc (.cells #[.int .i64 o0, .int .i64 f0, .int .i64 d0, .int .i64 s0, .bool r0, .int .i64 x0, .int .u32 m0] 24)) :=
    (Below.refl _ _).alloc (Nat.le_refl _) _
  have hR1 := hR.later hg
  have HI := Lib.hid (instAt_alloc w o0 f0 d0 s0 r0 x0 m0 24)
  have hlt : w.heap.size < (w.alloc (.cells #[.int .i64 o0, .int .i64 f0, .int .i64 d0, .int .i64 s0, .bool r0, .int .i64 x0, .int .u32 m0] 24)).heap.size := by simp
  go_enter Tryd.func6, Tryd.ntmps6
  go_wp2_with fail
  refine (awake_any _ hR1).mono ?_
  rintro e w1 ⟨rfl, hg1⟩
  replace HI := Lib.hid (InstAt.below HI.out hg1 hlt)
  have hlt1 := Nat.lt_of_lt_of_le hlt hg1.size
  replace hg := hg.trans (hg1.mono hg.size)
  have hR2 := hR1.later hg1
  obtain ⟨c0, c1, c2, c3, c4, c5, c6⟩ := HI.out
  clear hg1 hR1 hlt
  go_wp2_with fail
  clear c0 c1 c2 c3 c4 c5 c6
  refine (may_any _ _ _ _ _ _ _ _ hR2).mono ?_
  rintro e w2 ⟨rfl, hg2⟩
  replace HI := Lib.hid (InstAt.below HI.out hg2 hlt1)
  replace hg := hg.trans (hg2.mono hg.size)
  clear hg2 hR2 hR hlt1
  rcases hM : mayB o0 f0 d0 s0 r0 x0 m0 with _ | _
  · go_wp2
    go_ret
    exact ⟨rfl, hg⟩
  · obtain ⟨q0, q1, q2, q3, q4, q5, q6, q7, q8, q9, q10, q11, q12, q13, q14, q15, q16, q17⟩ := (mayB_iff lo0 hi0).1 hM
    obtain ⟨c0, c1, c2, c3, c4, c5, c6⟩ := HI.out
    clear HI
    have he := eql_inst
    have hgd := guard24
    have f11 : f0 < 11 := by omega
    have d8 : d0 < 8 := by omega
    have s8 : s0 < 8 := by omega
    by_cases h1 : o0 = 1
    · subst h1
      clear q9 q10 q11 q14 q15 q16 q17 q0 q1
      cases r0
      · have hs : s0 = 0 := q13 rfl
        subst hs
        clear q12 q13
        go_wp2
        go_ret
        exact ⟨rfl, hg⟩
      · have hm : m0 = 0 := q12 rfl
        subst hm
        clear q12 q13
        go_wp2
        go_ret
        exact ⟨rfl, hg⟩
    · have hx : x0 = 0 := q14 h1
      subst hx
      by_cases h7 : o0 = 7
      · subst h7
        have hm : m0 = 0 := q16 rfl
        have hf : f0 = 0 := by omega
        obtain ⟨hd, hs, hr⟩ := q17 (by omega)
        subst hm hf hd hs hr
        have hq : instEq 7 0 0 0 false 0 0 7 0 0 0 false 0 0 = true := by decide
        clear q9 q10 q11 q12 q13 q14 q15 q16 q17 q0 q1 h1
        go_wp2
        go_ret
        exact ⟨rfl, hg⟩
      · have hof : o0 ≤ 1 ∨ 1 < o0 ∧ f0 = 0 := by omega
        clear q9 q10 q11 q14 q15 q16 q17 q0 q1
        cases r0
        · have hs : s0 = 0 := q13 rfl
          subst hs
          clear q12 q13
          rcases hof with hof | ⟨hof, rfl⟩
          · go_wp2
            go_ret
            exact ⟨rfl, hg⟩
          · go_wp2
            go_ret
            exact ⟨rfl, hg⟩
        · have hm : m0 = 0 := q12 rfl
          subst hm
          clear q12 q13
          rcases hof with hof | ⟨hof, rfl⟩
          · go_wp2
            go_ret
            exact ⟨rfl, hg⟩
          · go_wp2
            go_ret
            exact ⟨rfl, hg⟩


theorem own : ownKnob Tryd.prog.godebug = none := by kernel_rfl
theorem laidOut : laidOutB Tryd.prog = true := by kernel_rfl
theorem door_met (os : Os) (args : Array Value) : laidMetH Tryd.prog laidL ((World.doorLaid Tryd.prog 400 os).forCall (fun _ _ => 0) ⟨#[], args, []⟩).memory :=
  laidMetH_of_parts3 (fuel := 8) (laidMet_of_run' 8 (by kernel_rfl) (by kernel_rfl)) (by kernel_rfl) (by kernel_rfl)
set_option maxRecDepth 100000 in
theorem lifted (os : Os) (started : os.Started) (H : Type) (enc : TypeId × Value → H) :
    ReturnsInHanded {} Tryd.checked os 6 .any (fun w args => (Rows.instKindsSpec.pre enc Tryd.prog Tryd.f6 [] false w args ∧ laidMetH Tryd.prog laidL w) ∧ sizedMet enc Tryd.prog Tryd.f6 (OpenSpec.ofChange Rows.instKindsSpec) false w args)
      (Rows.instKindsSpec.post enc Tryd.prog Tryd.f6 false true false false) := by
  refine returnsInHanded_of_change_and (C := Tryd.checked) (X := fun w _ => laidMetH Tryd.prog laidL w) (fun _ _ _ hh h => h.of_heap hh) own started (by kernel_rfl) Tryd.func6
    (ChangeSpec.witness_shaped (enc := enc) (C := Tryd.checked) (os := os) (X := fun w _ => laidMetH Tryd.prog laidL w) false (World.doorLaid Tryd.prog 400 os) #[.agg #[.int .i64 0, .int .i64 0, .int .i64 0, .int .i64 0, .bool false, .int .i64 0, .int .u32 0]] 8 rfl (World.shaped_of_RefB (by kernel_rfl) (by kernel_rfl)) (by kernel_rfl) (by kernel_rfl) (by kernel_rfl) (door_met os _)) ?_
  intro W base args ds gs before hval0 hW _ _ hL _
  have hval : ∀ (j : Nat) t v, Tryd.f6.params[j]? = some t → args[j]? = some v → Value.okWide Tryd.prog W .any base t v := hval0
  have hW' := hW
  obtain ⟨p, q, hA0, hV, rfl, hfz, hnd⟩ := hW
  have hA : DataW.TrodAll enc Tryd.prog W 0 (fun _ => true) true Tryd.f6.params.toList args.toList ds p := hA0
  rw [Tryd.params6] at hA hval
  obtain ⟨v0, vs0, e0, ds0, p0, q0, hargs, rfl, rfl, h0, t0⟩ := trodAll_cons hA
  obtain ⟨rfl, rfl, rfl⟩ := trodAll_nil t0
  obtain rfl : args = #[v0] := by cases args; simp_all
  obtain ⟨rfl, rfl⟩ := trodVars_none hV
  have k0 := h0
  have lt0 : ∀ x ∈ p0, x.block < W.heap.size := by obtain ⟨m, hm⟩ := k0; exact DataW.trod_lt m _ _ _ hm
  obtain ⟨o0, f0, d0, s0, r0, x0, m0, rfl, lo0, hi0⟩ := open_inst (hval 0 24 v0 rfl rfl) h0
  clear hA0 hval0
  refine (walk o0 f0 d0 s0 r0 x0 m0 lo0 hi0 W (rows_of_laid hL)).mono fun e W' ⟨he, bel⟩ => ?_
  subst he
  exact ⟨_, rfl, _, _, _, [], _, [], hW', trodAll_mk1 (shut_bool Tryd.underlying4 _), (trodAll_cons_mk (Below.trod laidOut (by kernel_rfl) (of_decide_eq_true (by kernel_rfl)) k0 bel lt0) trodAll_mk0), rfl, bel.frame _, fun h => by cases h⟩

theorem over : Rows.instKindsRow.holds Tryd.pinned (OpenSpec.ofChange Rows.instKindsSpec) :=
  OpenClaim.holds_of_wide 6 Tryd.f6 rfl rfl rfl rfl rfl rfl rfl ⟨rfl, rfl, rfl, rfl, rfl⟩ rfl rfl rfl rfl rfl (by kernel_rfl) Tryd.func6 (by kernel_rfl)
    (of_decide_eq_true (by kernel_rfl)) (by unfold Func.isWrapper; first | (rw [if_pos (by decide +kernel)]; kernel_rfl) | (rw [if_neg (by decide +kernel)]; exact ⟨rfl, rfl⟩))
    (fun os started H enc _ => lifted os started H enc)

theorem proved : Rows.InstKindsCardSaid :=
  Claim7.holds_tied_plain_at .later [] [.data] true (true, "c53787b049a8d55b8b8ad79c3807f9aebe7e4b58dc7af991b34b15730efeb0fa") false
    over (fun _ h => by cases h) (by kernel_rfl) (fun _ h => by cases h) instKinds_row_tie rfl ⟨rfl, rfl⟩ (by kernel_rfl) rfl
    (fun f fn hf hfn => by
      obtain rfl : f = 6 := Option.some.inj ((show Tryd.prog.funcNamed "drydock/drydocklaw02.InstKinds" = some 6 by kernel_rfl).symm.trans hf) |>.symm
      obtain rfl : fn = Tryd.f6 := (Option.some.inj (Tryd.func6.symm.trans hfn)).symm
      exact ⟨by kernel_rfl, fun j t ht => by
        rw [Tryd.params6] at ht
        match j, ht with
        | 0, ht => obtain rfl : t = 24 := by simpa using ht.symm
                   exact (show Tryd.prog.wantsStandIn 24 = false by kernel_rfl)
        | j + 1, ht => simp at ht⟩)
    (by kernel_rfl)
#print axioms proved
end Go.Proofs.YtfkmlkieipoibaaDoor.instKinds
