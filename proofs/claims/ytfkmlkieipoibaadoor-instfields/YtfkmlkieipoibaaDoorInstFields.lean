/-
  A byte's change in an instruction's bytes is another instruction, or none; just the last four bytes tell the number, just the third and the fourth how far it goes: law InstFields returns true for every instruction, place and byte.
  Conditions: none; the package variable that the law reads starts as its initialiser lays it (the card ties it).
-/
import Derived.Test.YtfkmlkieipoibaaDoorRows
import Derived.Test.YtfkmlkieipoibaaDoorCards
import Derived.Test.YtfkmlkieipoibaaDoorTie
import Derived.Test.YtfkmlkieipoibaaDoorH
import Derived.Test.YtfkmlkieipoibaaDoorP
import Derived.Test.YtfkmlkieipoibaaDoorQ
import Derived.Test.YtfkmlkieipoibaaDoorK
import Derived.Test.YtfkmlkieipoibaaDoorS
import Derived.Test.YtfkmlkieipoibaaDoorU
import Derived.WalkKit
import Derived.ProofKit
import Derived.OpenShut
import Derived.ChangeOld
import Derived.Below
import Derived.SevenTiedAt
namespace Go.Proofs.YtfkmlkieipoibaaDoor.instFields
open Go.ChangeShapes Go.WideShapes Go.ChangeAt Go.RowKit
set_option linter.unusedVariables false

theorem info5 : (Tryd.prog.info? 5).map (fun i => (i.zero, i.size, i.bytes)) = some (some (.int .u8 0), 1, 1) := by kernel_rfl
set_option maxHeartbeats 8000000 in
theorem walk (o0 f0 d0 s0 : Int) (r0 : Bool) (x0 m0 : Int) (lo0 : 0 ≤ m0) (hi0 : m0 ≤ 4294967295) (a1 : Int) (w1 : (Lit.int .i64 a1).wf = true) (a2 : Int) (w2 : (Lit.int .u8 a2).wf = true) (w : World) (hR : RowsIn w) :
    Calls Tryd.prog 8 #[instV o0 f0 d0 s0 r0 x0 m0, .int .i64 a1, .int .u8 a2] w fun e w' => e = .returned (.bool true) ∧ Below w.heap.size w w' := by
  have hg : Below w.heap.size w (w.alloc (.cells #[.int .i64 o0, .int .i64 f0, .int .i64 d0, .int .i64 s0, .bool r0, .int .i64 x0, .int .u32 m0] 24)) := (Below.refl _ _).alloc (Nat.le_refl _) _
  have hR1 := hR.later hg
  have HI0 := Lib.hid (instAt_alloc w o0 f0 d0 s0 r0 x0 m0 24)
  have hlt : w.heap.size < (w.alloc (.cells #[.int .i64 o0, .int .i64 f0, .int .i64 d0, .int .i64 s0, .bool r0, .int .i64 x0, .int .u32 m0] 24)).heap.size := by simp
  rcases hM0 : mayB o0 f0 d0 s0 r0 x0 m0 with _ | _
  · go_enter Tryd.func8, Tryd.ntmps8
    go_wp2_with fail
    refine (awake_any _ hR1).mono ?_
    rintro e w1 ⟨rfl, hg1⟩
    replace HI0 := Lib.hid (InstAt.below HI0.out hg1 hlt)
    replace hlt := Nat.lt_of_lt_of_le hlt hg1.size
    replace hg := hg.trans (hg1.mono hg.size)
    replace hR1 := hR1.later hg1
    clear hg1
    obtain ⟨c0, c1, c2, c3, c4, c5, c6⟩ := HI0.out
    go_wp2_with fail
    clear c0 c1 c2 c3 c4 c5 c6
    refine (put_no _ _ _ _ _ _ _ _ hR1 hM0).mono ?_
    rintro e w2 ⟨rfl, hg2⟩
    replace hg := hg.trans (hg2.mono hg.size)
    go_wp2
    go_ret
    exact ⟨rfl, hg⟩
  · by_cases hn : a1 < 0
    · go_enter Tryd.func8, Tryd.ntmps8
      go_wp2_with fail
      refine (awake_any _ hR1).mono ?_
      rintro e w1 ⟨rfl, hg1⟩
      replace HI0 := Lib.hid (InstAt.below HI0.out hg1 hlt)
      replace hlt := Nat.lt_of_lt_of_le hlt hg1.size
      replace hg := hg.trans (hg1.mono hg.size)
      replace hR1 := hR1.later hg1
      clear hg1
      obtain ⟨c0, c1, c2, c3, c4, c5, c6⟩ := HI0.out
      go_wp2_with fail
      clear c0 c1 c2 c3 c4 c5 c6
      refine (put_yes _ _ _ _ _ _ _ _ hR1 hM0 lo0 hi0).mono ?_
      rintro e w2 ⟨b0, rfl, hg2, hb0, hB0⟩
      replace HI0 := Lib.hid (InstAt.below HI0.out hg2 hlt)
      replace hlt := Nat.lt_of_lt_of_le hlt hg2.size
      replace hg := hg.trans (hg2.mono hg.size)
      replace hR1 := hR1.later hg2
      have HB0 := Lib.hid hB0
      clear hg2 hB0
      go_wp2
      go_ret
      exact ⟨rfl, hg⟩
    · by_cases hk8 : 8 ≤ a1
      · go_enter Tryd.func8, Tryd.ntmps8
        go_wp2_with fail
        refine (awake_any _ hR1).mono ?_
        rintro e w1 ⟨rfl, hg1⟩
        replace HI0 := Lib.hid (InstAt.below HI0.out hg1 hlt)
        replace hlt := Nat.lt_of_lt_of_le hlt hg1.size
        replace hg := hg.trans (hg1.mono hg.size)
        replace hR1 := hR1.later hg1
        clear hg1
        obtain ⟨c0, c1, c2, c3, c4, c5, c6⟩ := HI0.out
        go_wp2_with fail
        clear c0 c1 c2 c3 c4 c5 c6
        refine (put_yes _ _ _ _ _ _ _ _ hR1 hM0 lo0 hi0).mono ?_
        rintro e w2 ⟨b0, rfl, hg2, hb0, hB0⟩
        replace HI0 := Lib.hid (InstAt.below HI0.out hg2 hlt)
        replace hlt := Nat.lt_of_lt_of_le hlt hg2.size
        replace hg := hg.trans (hg2.mono hg.size)
        replace hR1 := hR1.later hg2
        have HB0 := Lib.hid hB0
        clear hg2 hB0
        go_wp2
        go_ret
        exact ⟨rfl, hg⟩
      · by_cases hb : a2 = 0
        · subst hb
          go_enter Tryd.func8, Tryd.ntmps8
          go_wp2_with fail
          refine (awake_any _ hR1).mono ?_
          rintro e w1 ⟨rfl, hg1⟩
          replace HI0 := Lib.hid (InstAt.below HI0.out hg1 hlt)
          replace hlt := Nat.lt_of_lt_of_le hlt hg1.size
          replace hg := hg.trans (hg1.mono hg.size)
          replace hR1 := hR1.later hg1
          clear hg1
          obtain ⟨c0, c1, c2, c3, c4, c5, c6⟩ := HI0.out
          go_wp2_with fail
          clear c0 c1 c2 c3 c4 c5 c6
          refine (put_yes _ _ _ _ _ _ _ _ hR1 hM0 lo0 hi0).mono ?_
          rintro e w2 ⟨b0, rfl, hg2, hb0, hB0⟩
          replace HI0 := Lib.hid (InstAt.below HI0.out hg2 hlt)
          replace hlt := Nat.lt_of_lt_of_le hlt hg2.size
          replace hg := hg.trans (hg2.mono hg.size)
          replace hR1 := hR1.later hg2
          have HB0 := Lib.hid hB0
          clear hg2 hB0
          go_wp2
          go_ret
          exact ⟨rfl, hg⟩
        · obtain ⟨k, rfl⟩ := Int.eq_ofNat_of_zero_le (show 0 ≤ a1 by omega)
          obtain ⟨y0, y1⟩ := bounds_u8 w2
          obtain ⟨i0, hi, hz0, hz1, hz2⟩ := info_parts info5
          have g1 : decide ((k : Int) < 0) = false := by simp
          have g2 : decide (8 ≤ (k : Int)) = false := by simp; omega
          have g3 : (a2 == 0) = false := by simpa using hb
          have hk : k < 8 := by omega
          clear w1 w2 hn hk8
          go_enter Tryd.func8, Tryd.ntmps8
          go_wp2_with fail
          refine (awake_any _ hR1).mono ?_
          rintro e w1 ⟨rfl, hg1⟩
          replace HI0 := Lib.hid (InstAt.below HI0.out hg1 hlt)
          replace hlt := Nat.lt_of_lt_of_le hlt hg1.size
          replace hg := hg.trans (hg1.mono hg.size)
          replace hR1 := hR1.later hg1
          clear hg1
          obtain ⟨c0, c1, c2, c3, c4, c5, c6⟩ := HI0.out
          go_wp2_with fail
          clear c0 c1 c2 c3 c4 c5 c6
          refine (put_yes _ _ _ _ _ _ _ _ hR1 hM0 lo0 hi0).mono ?_
          rintro e w2 ⟨b0, rfl, hg2, hb0, hB0⟩
          replace HI0 := Lib.hid (InstAt.below HI0.out hg2 hlt)
          replace hlt := Nat.lt_of_lt_of_le hlt hg2.size
          replace hg := hg.trans (hg2.mono hg.size)
          replace hR1 := hR1.later hg2
          have HB0 := Lib.hid hB0
          clear hg2 hB0
          go_wp2_with (at_builtin; refine wpList_append_own _ rfl _ _ 25 rfl w2.heap.size 5 i0 (.int .u8 0) 1 1 Tryd.underlying25 hi hz0 hz1 hz2 rfl (by decide) _ _ _ rfl (World.ownsRow_nil _ _ _ _) ⟨b0, 0, none⟩ 8 8 ((encL o0 f0 d0 s0 r0 x0 m0).map (Value.int .u8)) rfl rfl ?c1 ?c2 ?c3 ?c4 ?c5 ?_)
          case c1 =>
            intro j u hj
            have hj2 : j < (encL o0 f0 d0 s0 r0 x0 m0).length := by
              have := (List.getElem?_eq_some_iff.1 hj).1
              simpa using this
            have h := HB0.out j hj2
            rw [List.getD_eq_getElem?_getD, List.getElem?_eq_getElem hj2] at h
            rw [List.getElem?_map, List.getElem?_eq_getElem hj2] at hj
            simp at hj h
            rw [h, hj]
          case c2 =>
            intro u hu
            obtain ⟨a, _, rfl⟩ := List.mem_map.1 hu
            rfl
          case c3 => unfold maxLen; omega
          case c4 => omega
          case c5 => omega
          intro v' w3 hown hgrow hnil
          obtain ⟨g, cap, rfl, hbg, h8c, hcm, hBg, hfz⟩ := own_bytes rfl hown
          have hgb : Below w2.heap.size w2 w3 := ⟨hgrow.os, hgrow.tape, hgrow.output, hgrow.size, fun k hk => hgrow.block k hk (by simp [Value.ownBlock])⟩
          replace HI0 := Lib.hid (InstAt.below HI0.out hgb hlt)
          replace hg := hg.trans (hgb.mono hg.size)
          replace hR1 := hR1.later hgb
          have hwg : w.heap.size < g := Nat.lt_of_lt_of_le hlt hbg
          have HBG := Lib.hid hBg
          have ck := hBg k (by simpa [encL] using hk)
          rw [addr_add] at ck
          have fk := hfz k
          have hcp : cap ≤ 9223372036854775807 := by unfold maxLen at hcm; omega
          have HP := Lib.hid ((mayB_iff lo0 hi0).1 hM0)
          have HEB := Lib.hid (enc_bytes HP.out lo0 hi0 k hk)
          clear hown hgrow hnil hgb hBg hfz HB0
          generalize he : (encL o0 f0 d0 s0 r0 x0 m0).getD k 0 = e at *
          have HXB := Lib.hid (xor_byte e a2 HEB.out.1 HEB.out.2 y0 y1 hb)
          clear hi hz0 hz1 hz2
          go_wp2_with fail
          have HB4 := bytes_set (y := bits .xor .u8 e a2) HBG.out (by simpa [encL] using hk)
          have hbw : Below (w.heap.size + 1) w3 (w3.setCell ⟨g, k, none⟩ (.int .u8 (bits .xor .u8 e a2))) := (Below.refl _ _).setCell (show w.heap.size + 1 ≤ g from hwg) _
          replace HI0 := Lib.hid (InstAt.below HI0.out hbw (by omega))
          replace hg := hg.setCell (p := ⟨g, k, none⟩) (show w.heap.size ≤ g by omega) (.int .u8 (bits .xor .u8 e a2))
          replace hR1 := hR.later hg
          have hlt4 : w.heap.size < (w3.setCell ⟨g, k, none⟩ (.int .u8 (bits .xor .u8 e a2))).heap.size := by
            have h := lt_of_cell (InstAt.below (InstAt.below HI0.out (Below.refl _ _) (by omega : w.heap.size < w.heap.size + 1)) (Below.refl (w.heap.size + 1) _) (by omega)).1
            exact h
          generalize w3.setCell ⟨g, k, none⟩ (.int .u8 (bits .xor .u8 e a2)) = w4 at *
          obtain ⟨yb0, yb1, yne⟩ := HXB.out
          generalize bits .xor .u8 e a2 = y at *
          obtain ⟨z0, z1, z2, z3, z4, z5, z6, z7, hL⟩ : ∃ z0 z1 z2 z3 z4 z5 z6 z7, (encL o0 f0 d0 s0 r0 x0 m0).set k y = [z0, z1, z2, z3, z4, z5, z6, z7] := ⟨_, _, _, _, _, _, _, _, list8 _ (by simp [encL])⟩
          rw [hL] at HB4
          obtain ⟨hz, hne, p, q, t, t1, t2, t3, t4, t5⟩ := fields_facts HP.out lo0 hi0 hk yb0 yb1 (by rw [he]; exact yne) hL
          obtain ⟨lo, hi⟩ := dec_imm hz
          have HZ := Lib.hid hz
          clear hz hL hbw HBG HEB HXB yne yb0 yb1 he ck fk HP
          generalize ho : z0 / 16 = o at *
          generalize hf : z0 % 16 = f at *
          generalize hd : z1 % 128 / 8 = d at *
          generalize hs : z1 % 8 = s at *
          generalize hr : decide (128 ≤ z1) = r at *
          generalize hx : z2 * 256 + z3 = xo at *
          generalize hm : ((z4 * 256 + z5) * 256 + z6) * 256 + z7 = m at *
          have hgd := guard24
          rcases hM : mayB o f d s r xo m with _ | _
          · refine (get_no ⟨g, 0, none⟩ cap w4 hR1 z0 z1 z2 z3 z4 z5 z6 z7 h8c HZ.out HB4 o f d s r xo m ho hf hd hs hr hx hm hM).mono ?_
            rintro e w5 ⟨rfl, hg6⟩
            have hee := eql_inst 0 0 0 0 false 0 0 0 0 0 0 false 0 0
            have hq : instEq 0 0 0 0 false 0 0 0 0 0 0 false 0 0 = true := by decide
            replace hg := hg.trans (hg6.mono hg.size)
            clear hg6 ho hf hd hs hr hx hm
            go_wp2
            go_ret
            exact ⟨rfl, hg.alloc hg.size _⟩
          · refine (get_yes ⟨g, 0, none⟩ cap w4 hR1 z0 z1 z2 z3 z4 z5 z6 z7 h8c HZ.out HB4 o f d s r xo m ho hf hd hs hr hx hm hM).mono ?_
            rintro e w5 ⟨rfl, hg6⟩
            have hnn := neq_inst o f d s r xo m o0 f0 d0 s0 r0 x0 m0
            replace hg := hg.trans (hg6.mono hg.size)
            obtain ⟨c0, c1, c2, c3, c4, c5, c6⟩ := InstAt.below HI0.out hg6 hlt4
            have hlt5 := Nat.lt_of_lt_of_le hlt4 hg6.size
            clear hg6 ho hf hd hs hr hx hm HI0
            rcases p with _ | _ <;> rcases q with _ | _ <;> rcases t with _ | _ <;> simp only [Bool.or_false, Bool.or_true] at t5
            all_goals go_wp2
            all_goals go_ret
            all_goals exact ⟨rfl, hg.alloc hg.size _⟩


theorem own : ownKnob Tryd.prog.godebug = none := by kernel_rfl
theorem laidOut : laidOutB Tryd.prog = true := by kernel_rfl
theorem door_met (os : Os) (args : Array Value) : laidMetH Tryd.prog laidL ((World.doorLaid Tryd.prog 400 os).forCall (fun _ _ => 0) ⟨#[], args, []⟩).memory :=
  laidMetH_of_parts3 (fuel := 8) (laidMet_of_run' 8 (by kernel_rfl) (by kernel_rfl)) (by kernel_rfl) (by kernel_rfl)
set_option maxRecDepth 100000 in
theorem lifted (os : Os) (started : os.Started) (H : Type) (enc : TypeId × Value → H) :
    ReturnsInHanded {} Tryd.checked os 8 .any (fun w args => (Rows.instFieldsSpec.pre enc Tryd.prog Tryd.f8 [] false w args ∧ laidMetH Tryd.prog laidL w) ∧ sizedMet enc Tryd.prog Tryd.f8 (OpenSpec.ofChange Rows.instFieldsSpec) false w args)
      (Rows.instFieldsSpec.post enc Tryd.prog Tryd.f8 false true false false) := by
  refine returnsInHanded_of_change_and (C := Tryd.checked) (X := fun w _ => laidMetH Tryd.prog laidL w) (fun _ _ _ hh h => h.of_heap hh) own started (by kernel_rfl) Tryd.func8
    (ChangeSpec.witness_shaped (enc := enc) (C := Tryd.checked) (os := os) (X := fun w _ => laidMetH Tryd.prog laidL w) false (World.doorLaid Tryd.prog 400 os) #[.agg #[.int .i64 0, .int .i64 0, .int .i64 0, .int .i64 0, .bool false, .int .i64 0, .int .u32 0], .int .i64 0, .int .u8 0] 8 rfl (World.shaped_of_RefB (by kernel_rfl) (by kernel_rfl)) (by kernel_rfl) (by kernel_rfl) (by kernel_rfl) (door_met os _)) ?_
  intro W base args ds gs before hval0 hW _ _ hL _
  have hval : ∀ (j : Nat) t v, Tryd.f8.params[j]? = some t → args[j]? = some v → Value.okWide Tryd.prog W .any base t v := hval0
  have hW' := hW
  obtain ⟨p, q, hA0, hV, rfl, hfz, hnd⟩ := hW
  have hA : DataW.TrodAll enc Tryd.prog W 0 (fun _ => true) true Tryd.f8.params.toList args.toList ds p := hA0
  rw [Tryd.params8] at hA hval
  obtain ⟨v0, vs0, e0, ds0, p0, q0, hargs, rfl, rfl, h0, t0⟩ := trodAll_cons hA
  obtain ⟨v1, vs1, e1, ds1, p1, q1, rfl, rfl, rfl, h1, t1⟩ := trodAll_cons t0
  obtain ⟨v2, vs2, e2, ds2, p2, q2, rfl, rfl, rfl, h2, t2⟩ := trodAll_cons t1
  obtain ⟨rfl, rfl, rfl⟩ := trodAll_nil t2
  obtain rfl : args = #[v0, v1, v2] := by cases args; simp_all
  obtain ⟨rfl, rfl⟩ := trodVars_none hV
  have k0 := h0
  have lt0 : ∀ x ∈ p0, x.block < W.heap.size := by obtain ⟨m, hm⟩ := k0; exact DataW.trod_lt m _ _ _ hm
  have k1 := h1
  have lt1 : ∀ x ∈ p1, x.block < W.heap.size := by obtain ⟨m, hm⟩ := k1; exact DataW.trod_lt m _ _ _ hm
  have k2 := h2
  have lt2 : ∀ x ∈ p2, x.block < W.heap.size := by obtain ⟨m, hm⟩ := k2; exact DataW.trod_lt m _ _ _ hm
  obtain ⟨o0, f0, d0, s0, r0, x0, m0, rfl, lo0, hi0⟩ := open_inst (hval 0 24 v0 rfl rfl) h0
  obtain ⟨a1, rfl, _, _, w1⟩ := open_int Tryd.underlying3 (hval 1 3 v1 rfl rfl) h1
  obtain ⟨a2, rfl, _, _, w2⟩ := open_int Tryd.underlying5 (hval 2 5 v2 rfl rfl) h2
  clear hA0 hval0
  refine (walk o0 f0 d0 s0 r0 x0 m0 lo0 hi0 a1 w1 a2 w2 W (rows_of_laid hL)).mono fun e W' ⟨he, bel⟩ => ?_
  subst he
  exact ⟨_, rfl, _, _, _, [], _, [], hW', trodAll_mk1 (shut_bool Tryd.underlying4 _), (trodAll_cons_mk (Below.trod laidOut (by kernel_rfl) (of_decide_eq_true (by kernel_rfl)) k0 bel lt0) (trodAll_cons_mk (Below.trod laidOut (by kernel_rfl) (of_decide_eq_true (by kernel_rfl)) k1 bel lt1) (trodAll_cons_mk (Below.trod laidOut (by kernel_rfl) (of_decide_eq_true (by kernel_rfl)) k2 bel lt2) trodAll_mk0))), rfl, bel.frame _, fun h => by cases h⟩

theorem over : Rows.instFieldsRow.holds Tryd.pinned (OpenSpec.ofChange Rows.instFieldsSpec) :=
  OpenClaim.holds_of_wide 8 Tryd.f8 rfl rfl rfl rfl rfl rfl rfl ⟨rfl, rfl, rfl, rfl, rfl⟩ rfl rfl rfl rfl rfl (by kernel_rfl) Tryd.func8 (by kernel_rfl)
    (of_decide_eq_true (by kernel_rfl)) (by unfold Func.isWrapper; first | (rw [if_pos (by decide +kernel)]; kernel_rfl) | (rw [if_neg (by decide +kernel)]; exact ⟨rfl, rfl⟩))
    (fun os started H enc _ => lifted os started H enc)

theorem proved : Rows.InstFieldsCardSaid :=
  Claim7.holds_tied_plain_at .later [] [.data] true (true, "c53787b049a8d55b8b8ad79c3807f9aebe7e4b58dc7af991b34b15730efeb0fa") false
    over (fun _ h => by cases h) (by kernel_rfl) (fun _ h => by cases h) instFields_row_tie rfl ⟨rfl, rfl⟩ (by kernel_rfl) rfl
    (fun f fn hf hfn => by
      obtain rfl : f = 8 := Option.some.inj ((show Tryd.prog.funcNamed "drydock/drydocklaw02.InstFields" = some 8 by kernel_rfl).symm.trans hf) |>.symm
      obtain rfl : fn = Tryd.f8 := (Option.some.inj (Tryd.func8.symm.trans hfn)).symm
      exact ⟨by kernel_rfl, fun j t ht => by
        rw [Tryd.params8] at ht
        match j, ht with
        | 0, ht => obtain rfl : t = 24 := by simpa using ht.symm
                   exact (show Tryd.prog.wantsStandIn 24 = false by kernel_rfl)
        | 1, ht => obtain rfl : t = 3 := by simpa using ht.symm
                   exact (show Tryd.prog.wantsStandIn 3 = false by kernel_rfl)
        | 2, ht => obtain rfl : t = 5 := by simpa using ht.symm
                   exact (show Tryd.prog.wantsStandIn 5 = false by kernel_rfl)
        | j + 3, ht => simp at ht⟩)
    (by kernel_rfl)
#print axioms proved
end Go.Proofs.YtfkmlkieipoibaaDoor.instFields
