/-
  Fewer bytes, or more, are none; of the first byte only those of kinds that there are: law InstWrong returns true for every bytes.
  Conditions: none; the package variable that the law reads starts as its initialiser lays it (the card ties it).
-/
import Derived.Test.YtfkmlkieipoibaaDoorRows
import Derived.Test.YtfkmlkieipoibaaDoorCards
import Derived.Test.YtfkmlkieipoibaaDoorTie
import Derived.Test.YtfkmlkieipoibaaDoorH
import Derived.Test.YtfkmlkieipoibaaDoorP
import Derived.Test.YtfkmlkieipoibaaDoorQ
import Derived.Test.YtfkmlkieipoibaaDoorK
import Derived.Test.YtfkmlkieipoibaaDoorS
import Derived.WalkKit
import Derived.ProofKit
import Derived.OpenShut
import Derived.ChangeOld
import Derived.Below
import Derived.SevenTiedAt
namespace Go.Proofs.YtfkmlkieipoibaaDoor.instWrong
open Go.ChangeShapes Go.WideShapes Go.ChangeAt Go.RowKit
set_option linter.unusedVariables false

set_option maxHeartbeats 2000000 in
theorem walk (a0 : Option Addr) (len0 cap0 : Nat) (z0 : List Int) (w : World) (hR : RowsIn w) (w0 : IsRow .u8 w a0 len0 cap0 z0) :
    Calls Tryd.prog 7 #[.slice a0 len0 cap0] w fun e w' => e = .returned (.bool true) ∧ Below w.heap.size w w' := by
  have hmx := isRow_max w0
  have hmx' : len0 ≤ 9223372036854775807 := by unfold maxLen at hmx; omega
  by_cases h100 : 100 < len0
  · clear w0
    go_enter Tryd.func7, Tryd.ntmps7
    go_wp2_with fail
    refine (awake_any _ hR).mono ?_
    rintro e w1 ⟨rfl, hg1⟩
    go_wp2
    go_ret
    exact ⟨rfl, hg1⟩
  · by_cases h8 : len0 = 8
    · subst h8
      obtain ⟨x, z0, z1, z2, z3, z4, z5, z6, z7, rfl, hc, hz, hb⟩ := row8 w0
      obtain ⟨lo, hi⟩ := dec_imm hz
      have b0 := hz 0 (by omega)
      have b1 := hz 1 (by omega)
      have b2 := hz 2 (by omega)
      have b3 := hz 3 (by omega)
      have b4 := hz 4 (by omega)
      have b5 := hz 5 (by omega)
      have b6 := hz 6 (by omega)
      have b7 := hz 7 (by omega)
      simp at b0 b1 b2 b3 b4 b5 b6 b7
      have HZ := Lib.hid hz
      clear w0 hz
      generalize ho : z0 / 16 = o at *
      generalize hf : z0 % 16 = f at *
      generalize hd : z1 % 128 / 8 = d at *
      generalize hs : z1 % 8 = s at *
      generalize hr : decide (128 ≤ z1) = r at *
      generalize hx : z2 * 256 + z3 = xo at *
      generalize hm : ((z4 * 256 + z5) * 256 + z6) * 256 + z7 = m at *
      rcases hM : mayB o f d s r xo m with _ | _
      · have HG := Lib.hid (fun w' (h1 : RowsIn w') (h2 : BytesAt w' x [z0, z1, z2, z3, z4, z5, z6, z7]) => get_no x cap0 w' h1 z0 z1 z2 z3 z4 z5 z6 z7 hc HZ.out h2 o f d s r xo m ho hf hd hs hr hx hm hM)
        clear ho hf hd hs hr hx hm
        go_enter Tryd.func7, Tryd.ntmps7
        go_wp2_with fail
        refine (awake_any _ hR).mono ?_
        rintro e w1 ⟨rfl, hg1⟩
        go_wp2_with fail
        refine (HG.out w1 (hR.later hg1) (hb.below hg1)).mono ?_
        rintro e w2 ⟨rfl, hg2⟩
        replace hg1 := hg1.trans (hg2.mono hg1.size)
        clear hg2
        go_wp2
        go_quiet (fail)
        go_wp2
        go_ret
        exact ⟨rfl, belowDrewN (hg1.alloc hg1.size _) _⟩
      · have HG := Lib.hid (fun w' (h1 : RowsIn w') (h2 : BytesAt w' x [z0, z1, z2, z3, z4, z5, z6, z7]) => get_yes x cap0 w' h1 z0 z1 z2 z3 z4 z5 z6 z7 hc HZ.out h2 o f d s r xo m ho hf hd hs hr hx hm hM)
        obtain ⟨q0, q1, q2, q3, q4, q5, q6, q7, q8, q9, q10, q11, _⟩ := (mayB_iff lo hi).1 hM
        have q12 : f ≤ 10 := by omega
        have t0 : (z0 == 16 * o + f) = true := by simp; omega
        have t1 : decide (z0 < 128) = true := by simp; omega
        have t2 : (z2 == xo / 256) = true := by simp; omega
        have t7 : (z7 == m % 256) = true := by simp; omega
        have v0 := wI z0 (by omega) (by omega)
        have v1 := wI (16 * o) (by omega) (by omega)
        have v2 := wI (16 * o + f) (by omega) (by omega)
        have v3 := wI z2 (by omega) (by omega)
        have v4 := tdivE xo 256 (by omega)
        have v5 := wI (xo / 256) (by omega) (by omega)
        have v6 := wI z7 (by omega) (by omega)
        have v7 := tmodE m 256 (by omega)
        have v8 := wU (m % 256) (by omega) (by omega)
        have v9 := wI (m % 256) (by omega) (by omega)
        clear ho hf hd hs hr hx hm q9 q10 q11
        go_enter Tryd.func7, Tryd.ntmps7
        go_wp2_with fail
        refine (awake_any _ hR).mono ?_
        rintro e w1 ⟨rfl, hg1⟩
        go_wp2_with fail
        refine (HG.out w1 (hR.later hg1) (hb.below hg1)).mono ?_
        rintro e w2 ⟨rfl, hg2⟩
        replace hg1 := hg1.trans (hg2.mono hg1.size)
        have hb2 := hb.below (hg1.alloc hg1.size (.cells #[.int .i64 o, .int .i64 f, .int .i64 d, .int .i64 s, .bool r, .int .i64 xo, .int .u32 m] 24))
        have c0 : (w2.alloc (.cells #[.int .i64 o, .int .i64 f, .int .i64 d, .int .i64 s, .bool r, .int .i64 xo, .int .u32 m] 24)).cell? x = some (.int .u8 z0) := by
          have h : (w2.alloc (.cells #[.int .i64 o, .int .i64 f, .int .i64 d, .int .i64 s, .bool r, .int .i64 xo, .int .u32 m] 24)).cell? (x.add 0) = some (.int .u8 z0) := hb2 0 (by simp)
          rwa [Addr.add_zero'] at h
        have c2 : (w2.alloc (.cells #[.int .i64 o, .int .i64 f, .int .i64 d, .int .i64 s, .bool r, .int .i64 xo, .int .u32 m] 24)).cell? ⟨x.block, x.off + 2, none⟩ = some (.int .u8 z2) := hb2 2 (by simp)
        have c7 : (w2.alloc (.cells #[.int .i64 o, .int .i64 f, .int .i64 d, .int .i64 s, .bool r, .int .i64 xo, .int .u32 m] 24)).cell? ⟨x.block, x.off + 7, none⟩ = some (.int .u8 z7) := hb2 7 (by simp)
        clear hg2 hb2 hb HG hM
        have hI := instAt_alloc w2 o f d s r xo m 24
        replace hg1 := hg1.alloc hg1.size (.cells #[.int .i64 o, .int .i64 f, .int .i64 d, .int .i64 s, .bool r, .int .i64 xo, .int .u32 m] 24)
        go_wp2
        generalize hw : w2.alloc (.cells #[.int .i64 o, .int .i64 f, .int .i64 d, .int .i64 s, .bool r, .int .i64 xo, .int .u32 m] 24) = w3 at *
        obtain ⟨i0, i1, i2, i3, i4, i5, i6⟩ := hI
        clear hw
        go_quiet (fail)
        go_wp2
        go_ret
        exact ⟨rfl, belowDrewN hg1 _⟩
    · have he := eql_inst 0 0 0 0 false 0 0 0 0 0 0 false 0 0
      have hq : instEq 0 0 0 0 false 0 0 0 0 0 0 false 0 0 = true := by decide
      have hgd := guard24
      have h8' : ¬ (len0 : Int) = 8 := by omega
      clear w0
      go_enter Tryd.func7, Tryd.ntmps7
      go_wp2_with fail
      refine (awake_any _ hR).mono ?_
      rintro e w1 ⟨rfl, hg1⟩
      go_wp2_with fail
      refine (get_len a0 len0 cap0 w1 h8 hmx).mono ?_
      rintro e w2 ⟨rfl, hg2⟩
      replace hg1 := hg1.trans (hg2.mono hg1.size)
      clear hg2
      go_wp2
      go_ret
      exact ⟨rfl, hg1.alloc hg1.size _⟩


theorem own : ownKnob Tryd.prog.godebug = none := by kernel_rfl
theorem laidOut : laidOutB Tryd.prog = true := by kernel_rfl
theorem door_met (os : Os) (args : Array Value) : laidMetH Tryd.prog laidL ((World.doorLaid Tryd.prog 400 os).forCall (fun _ _ => 0) ⟨#[], args, []⟩).memory :=
  laidMetH_of_parts3 (fuel := 8) (laidMet_of_run' 8 (by kernel_rfl) (by kernel_rfl)) (by kernel_rfl) (by kernel_rfl)
set_option maxRecDepth 100000 in
theorem lifted (os : Os) (started : os.Started) (H : Type) (enc : TypeId × Value → H) :
    ReturnsInHanded {} Tryd.checked os 7 .any (fun w args => (Rows.instWrongSpec.pre enc Tryd.prog Tryd.f7 [] false w args ∧ laidMetH Tryd.prog laidL w) ∧ sizedMet enc Tryd.prog Tryd.f7 (OpenSpec.ofChange Rows.instWrongSpec) false w args)
      (Rows.instWrongSpec.post enc Tryd.prog Tryd.f7 false true false false) := by
  refine returnsInHanded_of_change_and (C := Tryd.checked) (X := fun w _ => laidMetH Tryd.prog laidL w) (fun _ _ _ hh h => h.of_heap hh) own started (by kernel_rfl) Tryd.func7
    (ChangeSpec.witness_shaped (enc := enc) (C := Tryd.checked) (os := os) (X := fun w _ => laidMetH Tryd.prog laidL w) false (World.doorLaid Tryd.prog 400 os) #[.slice none 0 0] 8 rfl (World.shaped_of_RefB (by kernel_rfl) (by kernel_rfl)) (by kernel_rfl) (by kernel_rfl) (by kernel_rfl) (door_met os _)) ?_
  intro W base args ds gs before hval0 hW _ _ hL _
  have hval : ∀ (j : Nat) t v, Tryd.f7.params[j]? = some t → args[j]? = some v → Value.okWide Tryd.prog W .any base t v := hval0
  have hW' := hW
  obtain ⟨p, q, hA0, hV, rfl, hfz, hnd⟩ := hW
  have hA : DataW.TrodAll enc Tryd.prog W 0 (fun _ => true) true Tryd.f7.params.toList args.toList ds p := hA0
  rw [Tryd.params7] at hA hval
  obtain ⟨v0, vs0, e0, ds0, p0, q0, hargs, rfl, rfl, h0, t0⟩ := trodAll_cons hA
  obtain ⟨rfl, rfl, rfl⟩ := trodAll_nil t0
  obtain rfl : args = #[v0] := by cases args; simp_all
  obtain ⟨rfl, rfl⟩ := trodVars_none hV
  have k0 := h0
  have lt0 : ∀ x ∈ p0, x.block < W.heap.size := by obtain ⟨m, hm⟩ := k0; exact DataW.trod_lt m _ _ _ hm
  obtain ⟨a0, len0, cap0, rfl⟩ := okWide_slice Tryd.underlying25 (hval 0 25 v0 rfl rfl)
  obtain ⟨z0, w0⟩ := isRow_of h0
  clear hA0 hval0
  refine (walk a0 len0 cap0 z0 W (rows_of_laid hL) w0).mono fun e W' ⟨he, bel⟩ => ?_
  subst he
  exact ⟨_, rfl, _, _, _, [], _, [], hW', trodAll_mk1 (shut_bool Tryd.underlying4 _), (trodAll_cons_mk (Below.trod laidOut (by kernel_rfl) (of_decide_eq_true (by kernel_rfl)) k0 bel lt0) trodAll_mk0), rfl, bel.frame _, fun h => by cases h⟩

theorem over : Rows.instWrongRow.holds Tryd.pinned (OpenSpec.ofChange Rows.instWrongSpec) :=
  OpenClaim.holds_of_wide 7 Tryd.f7 rfl rfl rfl rfl rfl rfl rfl ⟨rfl, rfl, rfl, rfl, rfl⟩ rfl rfl rfl rfl rfl (by kernel_rfl) Tryd.func7 (by kernel_rfl)
    (of_decide_eq_true (by kernel_rfl)) (by unfold Func.isWrapper; first | (rw [if_pos (by decide +kernel)]; kernel_rfl) | (rw [if_neg (by decide +kernel)]; exact ⟨rfl, rfl⟩))
    (fun os started H enc _ => lifted os started H enc)

theorem proved : Rows.InstWrongCardSaid :=
  Claim7.holds_tied_plain_at .later [] [.data] true (true, "c53787b049a8d55b8b8ad79c3807f9aebe7e4b58dc7af991b34b15730efeb0fa") false
    over (fun _ h => by cases h) (by kernel_rfl) (fun _ h => by cases h) instWrong_row_tie rfl ⟨rfl, rfl⟩ (by kernel_rfl) rfl
    (fun f fn hf hfn => by
      obtain rfl : f = 7 := Option.some.inj ((show Tryd.prog.funcNamed "drydock/drydocklaw02.InstWrong" = some 7 by kernel_rfl).symm.trans hf) |>.symm
      obtain rfl : fn = Tryd.f7 := (Option.some.inj (Tryd.func7.symm.trans hfn)).symm
      exact ⟨by kernel_rfl, fun j t ht => by
        rw [Tryd.params7] at ht
        match j, ht with
        | 0, ht => obtain rfl : t = 25 := by simpa using ht.symm
                   exact (show Tryd.prog.wantsStandIn 25 = false by kernel_rfl)
        | j + 1, ht => simp at ht⟩)
    (by kernel_rfl)
#print axioms proved
end Go.Proofs.YtfkmlkieipoibaaDoor.instWrong
