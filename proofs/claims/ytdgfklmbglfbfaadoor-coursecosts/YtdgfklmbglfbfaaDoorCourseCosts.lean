/-
  Costlier calls make no way cheaper; a way costs at least 1, and at most as much as all its instructions, with all their calls: law CourseCosts returns true for every code, costs and number.
  Conditions: none; the package variable that the law reads starts as its initialiser lays it (the card ties it).
-/
import Derived.Test.YtdgfklmbglfbfaaDoorRows
import Derived.Test.YtdgfklmbglfbfaaDoorCards
import Derived.Test.YtdgfklmbglfbfaaDoorTie
import Derived.Test.YtdgfklmbglfbfaaDoorD6
import Derived.WalkKit
import Derived.ProofKit
import Derived.OpenShut
import Derived.ChangeOld
import Derived.Below
import Derived.SevenTiedAt
namespace Go.Proofs.YtdgfklmbglfbfaaDoor.courseCosts
open Go.ChangeShapes Go.WideShapes Go.ChangeAt Go.RowKit
set_option linter.unusedVariables false

set_option maxRecDepth 100000 in
set_option maxHeartbeats 16000000 in
theorem walk (a0 : Option Addr) (len0 cap0 : Nat) (c0 : List I) (a1 : Option Addr) (len1 cap1 : Nat) (z1 : List Int) (a2 : Int) (w2 : (Lit.int .i64 a2).wf = true) (w : World) (hR : RowsIn w) (w0 : CodeAt w a0 len0 cap0 c0) (w1 : IntsAt w a1 len1 cap1 z1) :
    Calls Tryd.prog 6 #[.slice a0 len0 cap0, .slice a1 len1 cap1, .int .i64 a2] w fun e w' => e = .returned (.bool true) ∧ Below w.heap.size w w' := by
  have hmx := code_max w0
  have hmx1 := w1.max
  have H := Lib.hid w0
  have H1 := Lib.hid w0.1
  have HI := Lib.hid w1
  have HI1 := Lib.hid w1.1
  have HR0 := Lib.hid hR
  clear w0 w1 w2
  go_enter Tryd.func6, Tryd.ntmps6
  go_wp2_with fail
  refine (awake_any _ HR0.out).mono ?_
  rintro e m1 ⟨rfl, hb1⟩
  have HB1 := Lib.hid hb1
  have HR1 := Lib.hid (HR0.out.later hb1)
  clear hb1 hR
  by_cases h80 : 80 < len0
  · have h80I : (80 : Int) < (len0 : Int) := by omega
    go_wp2
    go_ret
    exact ⟨rfl, HB1.out⟩
  have h80I : ¬ (80 : Int) < (len0 : Int) := by omega
  by_cases h20 : 20 < len1
  · have h20I : (20 : Int) < (len1 : Int) := by omega
    go_wp2
    go_ret
    exact ⟨rfl, HB1.out⟩
  have h20I : ¬ (20 : Int) < (len1 : Int) := by omega
  by_cases hm0 : a2 < 0
  · go_wp2
    go_ret
    exact ⟨rfl, HB1.out⟩
  by_cases hm1 : 1000 < a2
  · go_wp2
    go_ret
    exact ⟨rfl, HB1.out⟩
  have hm0' : 0 ≤ a2 := by omega
  have hm1' : a2 ≤ 1000 := by omega
  go_wp2_with fail
  obtain ⟨iI, hiI, hz0, hz1, hz2⟩ := info_parts infoI
  go_loopw [8, 9] (fun v i wr => ∃ k : Nat, k ≤ len1 ∧ i = .int .i64 k ∧ Hid (∀ j, j < k → 0 ≤ z1.getD j 0 ∧ z1.getD j 0 ≤ 1000) ∧ Hid (wr.ownsRow m1.heap.size 3 1 v k (valsI ((z1.take k).map (fun z => z + a2))) ∧ Below m1.heap.size m1 wr)) (fun _ i _ => len1 - (intOf i).toNat)
  case atStart => exact ⟨0, by omega, rfl, Lib.hid (fun j hj => absurd hj (by omega)), Lib.hid ⟨by simpa [valsI] using World.ownsRow_nil _ _ _ _, Below.refl _ _⟩⟩
  case round =>
    obtain ⟨k, hk, rfl, HZ, HS⟩ := hrel
    have hk0 : (0 : Int) ≤ (k : Int) := Int.natCast_nonneg _
    have HBw := Lib.hid (HB1.out.trans (HS.out.2.mono HB1.out.size))
    by_cases hkl : k < len1
    · have hkI : (k : Int) < (len1 : Int) := by omega
      obtain ⟨y1, rfl, hy1⟩ := (HI.out.below HBw.out).2.2.2.resolve_left (by omega)
      have hc1 := hy1 k hkl
      obtain ⟨z, hz⟩ : ∃ z, z1.getD k 0 = z := ⟨_, rfl⟩
      rw [hz] at hc1
      have HZk := Lib.hid hz
      clear hy1 hz
      by_cases hzn : z < 0
      · go_wp2
        go_ret
        exact ⟨rfl, HBw.out⟩
      by_cases hzm : 1000 < z
      · go_wp2
        go_ret
        exact ⟨rfl, HBw.out⟩
      have hz0' : 0 ≤ z := by omega
      have hz1' : z ≤ 1000 := by omega
      have hown := HS.out.1
      have HOw := Lib.hid (fun g hg => (hown.lt g hg).1)
      go_wp2_with (at_builtin; refine wpList_append_own _ rfl _ _ 23 rfl m1.heap.size 3 iI (.int .i64 0) 1 8 Tryd.underlying23 hiI hz0 hz1 hz2 rfl (by decide) _ _ _ rfl (ownsRow_below hown ((Below.refl _ _).alloc (Nat.le_refl _) _)) ⟨wr.heap.size, 0, none⟩ 1 1 [.int .i64 (z + a2)] rfl rfl ?c1 ?c2 ?c3 ?c4 ?c5 ?_)
      case c2 => first | rfl | (intro u hu; simp at hu; subst hu; rfl)
      case c3 => unfold maxLen; omega
      case c4 => omega
      case c5 => have := HS.out.2.size; simp; omega
      intro v' w2 hown' hgrow' _
      have HS2 : Hid (w2.ownsRow m1.heap.size 3 1 v' (k + 1) (valsI ((z1.take (k + 1)).map (fun z => z + a2))) ∧ Below m1.heap.size m1 w2) := Lib.hid ⟨by rw [← valsI_step z1 a2 (by rw [HI1.out]; exact hkl), HZk.out, List.map_take]; exact hown', (HS.out.2.alloc HS.out.2.size _).grown hgrow' (by have := HS.out.2.size; simp; omega) (fun j hj => HOw.out j hj)⟩
      have HZ2 : Hid (∀ j, j < k + 1 → 0 ≤ z1.getD j 0 ∧ z1.getD j 0 ≤ 1000) := Lib.hid (fun j hj => by
        rcases Nat.lt_succ_iff_lt_or_eq.1 hj with h | rfl
        · exact HZ.out j h
        · rw [HZk.out]; exact ⟨hz0', hz1'⟩)
      clear hown hown' hgrow'
      go_wp2_with fail
      exact ⟨⟨k + 1, by omega, by go_num, HZ2, HS2⟩, by simp [intOf]; omega⟩
    · have hkI : ¬ (k : Int) < (len1 : Int) := by omega
      have hke : k = len1 := by omega
      subst hke
      obtain ⟨bd, cd, hvd, hDe⟩ := own_ints HS.out.1
      rw [List.take_of_length_le (by rw [HI1.out]; exact Nat.le_refl _)] at hDe
      subst hvd
      have HAl : Hid (∀ z ∈ z1, 0 ≤ z ∧ z ≤ 1000) := Lib.hid (fun z hz => by
        obtain ⟨j, hj, rfl⟩ := List.getElem_of_mem hz
        have := HZ.out j (by rw [HI1.out] at hj; exact hj)
        rwa [List.getD_eq_getElem?_getD, List.getElem?_eq_getElem hj] at this)
      have HDe := Lib.hid hDe
      have HRw := Lib.hid (HR1.out.below (by have := HR1.out.pos; exact this) HS.out.2)
      clear hDe
      go_wp2_with fail
      obtain ⟨LA, hLA⟩ : ∃ LA, longP z1 c0 = LA := ⟨_, rfl⟩
      obtain ⟨LB, hLB⟩ : ∃ LB, longP (z1.map (fun z => z + a2)) c0 = LB := ⟨_, rfl⟩
      have HLA := Lib.hid hLA
      have HLB := Lib.hid hLB
      have c1 := long_any a0 len0 cap0 c0 a1 k cap1 z1 wr HRw.out (H.out.below HBw.out) (HI.out.below HBw.out)
      rw [hLA] at c1
      refine c1.mono ?_
      rintro e m3 ⟨rfl, hb3⟩
      have HB3 := Lib.hid (HBw.out.trans (hb3.mono HBw.out.size))
      have HR3 := Lib.hid (HRw.out.later hb3)
      have HD3 := Lib.hid (HDe.out.below hb3)
      clear c1 hb3
      go_wp2_with fail
      have c2 := long_any a0 len0 cap0 c0 bd k cd (z1.map (fun z => z + a2)) m3 HR3.out (H.out.below HB3.out) HD3.out
      rw [hLB] at c2
      refine c2.mono ?_
      rintro e m4 ⟨rfl, hb4⟩
      have HB4 := Lib.hid (HB3.out.trans (hb4.mono HB3.out.size))
      have HR4 := Lib.hid (HR3.out.later hb4)
      clear c2 hb4 hLA hLB HS
      rcases hQ : codeB c0 with _ | _
      · have hA0 : LA = 0 := by rw [← HLA.out]; exact costs_no hQ
        have hB0 : LB = 0 := by rw [← HLB.out]; exact costs_no hQ
        subst hA0
        subst hB0
        have hzz : ((0 : Int) == 0) = true := by decide
        have HQ := Lib.hid hQ
        clear hQ
        go_wp2_with fail
        have c5 := reach_any a0 len0 cap0 c0 m4 HR4.out (H.out.below HB4.out)
        rw [show reachP c0 = [] by rw [reachP, HQ.out]; simp] at c5
        refine c5.mono ?_
        rintro e m5 ⟨b5, l5, cp5, rfl, hb5, hI5⟩
        obtain rfl : l5 = 0 := by have := hI5.1; simpa using this.symm
        have HB5 := Lib.hid (HB4.out.trans (hb5.mono HB4.out.size))
        clear c5 hb5 hI5
        go_wp2_with fail
        go_ret
        exact ⟨rfl, HB5.out⟩
      · have hcl := codeB_len hQ
        rw [H1.out] at hcl
        obtain ⟨hl1, hl9⟩ := hcl
        have hlaw := costs_law (calls := z1) (m := a2) hQ HAl.out ⟨hm0', hm1'⟩
        rw [HLA.out, HLB.out, H1.out] at hlaw
        have HLaw := Lib.hid hlaw
        have hLA9 := (longP_le z1 c0).2
        rw [HLA.out] at hLA9
        have hLA1 := hlaw.1
        have hAz : (LA == 0) = false := by simp; omega
        have HQ := Lib.hid hQ
        clear hQ hlaw
        go_wp2_with fail
        go_loopw [12, 13] (fun al i wr5 => ∃ q : Nat, q ≤ len0 ∧ al = .int .i64 (allP z1 c0 q) ∧ i = .int .i64 q ∧ wr5 = m4) (fun _ i _ => len0 - (intOf i).toNat)
        case atStart => exact ⟨0, by omega, rfl, rfl, rfl⟩
        case round =>
          obtain ⟨q, hq, rfl, rfl, rfl⟩ := hrel
          have hq0 : (0 : Int) ≤ (q : Int) := Int.natCast_nonneg _
          have hall := allP_le z1 c0 q
          by_cases hql : q < len0
          · have hqI : (q : Int) < (len0 : Int) := by omega
            obtain ⟨y, rfl, hy⟩ := H.out.2.2.2.2.resolve_left (by omega)
            have hIn := (hy q hql).below HB4.out
            have hok := H.out.2.2.2.1 _ (getD_mem c0 q zeroI (by rw [H1.out]; exact hql))
            have HAq : Hid (allP z1 c0 (q + 1) = allP z1 c0 q + costP z1 (c0.getD q zeroI)) := Lib.hid rfl
            rcases hi : c0.getD q zeroI with ⟨o, fn, d, s, r, x, m⟩
            rw [hi] at hIn hok HAq
            obtain ⟨i0, _, _, _, _, _, i6⟩ := hIn
            obtain ⟨hk1, hk2⟩ := hok
            simp only at i0 i6 hk1 hk2
            obtain ⟨al, hal⟩ : ∃ al, allP z1 c0 q = al := ⟨_, rfl⟩
            rw [hal] at hall HAq ⊢
            obtain ⟨hal0, hal9⟩ := hall
            have hal8 : al ≤ 64000064 := by omega
            clear hy hi hal hal9
            obtain ⟨g, rfl⟩ : ∃ g : Nat, m = (g : Int) := ⟨m.toNat, by omega⟩
            have hwI : IntKind.i64.wrap (g : Int) = (g : Int) := wI (g : Int) hk1 (by omega)
            by_cases ho : o = 6
            · have hob : (o == 6) = true := by simpa using ho
              by_cases hgl : (g : Int) < (k : Int)
              · obtain ⟨y1, rfl, hy1⟩ := (HI.out.below HB4.out).2.2.2.resolve_left (by omega)
                have hc1 := hy1 g (by omega)
                have hzb := HAl.out _ (getD_mem z1 g 0 (by rw [HI1.out]; omega))
                obtain ⟨z, hz⟩ : ∃ z, z1.getD g 0 = z := ⟨_, rfl⟩
                rw [hz] at hc1 hzb
                obtain ⟨hzb0, hzb1⟩ := hzb
                have HN : Hid (allP z1 c0 (q + 1) = al + 1 + z) := Lib.hid (by
                  rw [HAq.out, costP, if_pos ho, calledP]
                  simp only [Int.toNat_natCast, hz]
                  rw [if_pos (by omega)]
                  omega)
                clear hy1 hz ho
                go_wp2_with fail
                exact ⟨⟨q + 1, by omega, by rw [HN.out], by go_num, by trivial⟩, by simp [intOf]; omega⟩
              · have HN : Hid (allP z1 c0 (q + 1) = al + 1) := Lib.hid (by
                  rw [HAq.out, costP, if_pos ho, calledP]
                  simp only [Int.toNat_natCast]
                  rw [show z1.getD g 0 = 0 by rw [List.getD_eq_getElem?_getD, List.getElem?_eq_none (by rw [HI1.out]; omega)]; rfl]
                  simp)
                clear ho
                go_wp2_with fail
                exact ⟨⟨q + 1, by omega, by rw [HN.out], by go_num, by trivial⟩, by simp [intOf]; omega⟩
            · have hob : (o == 6) = false := by simpa using ho
              have HN : Hid (allP z1 c0 (q + 1) = al + 1) := Lib.hid (by rw [HAq.out, costP, if_neg ho])
              clear ho
              go_wp2_with fail
              exact ⟨⟨q + 1, by omega, by rw [HN.out], by go_num, by trivial⟩, by simp [intOf]; omega⟩
          · have hqI : ¬ (q : Int) < (len0 : Int) := by omega
            have hqe : q = len0 := by omega
            obtain ⟨AL, hAL⟩ : ∃ AL, allP z1 c0 q = AL := ⟨_, rfl⟩
            have HAL : Hid (allP z1 c0 len0 = AL) := Lib.hid (by rw [← hqe]; exact hAL)
            rw [hAL] at hall ⊢
            obtain ⟨p1, p2, p3, p4, p5⟩ := HLaw.out
            rw [HAL.out] at p2
            have hlm : 0 ≤ (len0 : Int) * a2 ∧ (len0 : Int) * a2 ≤ 64 * 1000 := ⟨Int.mul_nonneg (by omega) hm0', Int.mul_le_mul (by omega) hm1' hm0' (by omega)⟩
            obtain ⟨lm, hlm2⟩ : ∃ lm, (len0 : Int) * a2 = lm := ⟨_, rfl⟩
            rw [hlm2] at hlm p4
            have hmul : IntKind.i64.wrap ((len0 : Int) * a2) = lm := by rw [hlm2]; exact wI lm hlm.1 (by omega)
            have hadd : IntKind.i64.wrap (LA + lm) = LA + lm := wI _ (by omega) (by omega)
            have HP5 := Lib.hid p5
            clear hAL hqe hall p5
            go_wp2_with fail
            have c9 := long_any a0 len0 cap0 c0 none 0 0 [] wr HR4.out (H.out.below HB4.out) (ints_nil wr)
            obtain ⟨LC, hLC⟩ : ∃ LC, longP [] c0 = LC := ⟨_, rfl⟩
            rw [hLC] at c9 HP5
            have hp5 := HP5.out
            clear hLC
            refine c9.mono ?_
            rintro e m9 ⟨rfl, hb9⟩
            have HB9 := Lib.hid (HB4.out.trans (hb9.mono HB4.out.size))
            clear c9 hb9
            go_wp2_with fail
            go_ret
            exact ⟨rfl, HB9.out⟩


theorem own : ownKnob Tryd.prog.godebug = none := by kernel_rfl
theorem laidOut : laidOutB Tryd.prog = true := by kernel_rfl
theorem door_met (os : Os) (args : Array Value) : laidMetH Tryd.prog laidL ((World.doorLaid Tryd.prog 400 os).forCall (fun _ _ => 0) ⟨#[], args, []⟩).memory :=
  laidMetH_of_parts3 (fuel := 8) (laidMet_of_run' 8 (by kernel_rfl) (by kernel_rfl)) (by kernel_rfl) (by kernel_rfl)
set_option maxRecDepth 100000 in
theorem lifted (os : Os) (started : os.Started) (H : Type) (enc : TypeId × Value → H) :
    ReturnsInHanded {} Tryd.checked os 6 .any (fun w args => (Rows.courseCostsSpec.pre enc Tryd.prog Tryd.f6 [] false w args ∧ laidMetH Tryd.prog laidL w) ∧ sizedMet enc Tryd.prog Tryd.f6 (OpenSpec.ofChange Rows.courseCostsSpec) false w args)
      (Rows.courseCostsSpec.post enc Tryd.prog Tryd.f6 false true false false) := by
  refine returnsInHanded_of_change_and (C := Tryd.checked) (X := fun w _ => laidMetH Tryd.prog laidL w) (fun _ _ _ hh h => h.of_heap hh) own started (by kernel_rfl) Tryd.func6
    (ChangeSpec.witness_shaped (enc := enc) (C := Tryd.checked) (os := os) (X := fun w _ => laidMetH Tryd.prog laidL w) false (World.doorLaid Tryd.prog 400 os) #[.slice none 0 0, .slice none 0 0, .int .i64 0] 8 rfl (World.shaped_of_RefB (by kernel_rfl) (by kernel_rfl)) (by kernel_rfl) (by kernel_rfl) (by kernel_rfl) (door_met os _)) ?_
  intro W base args ds gs before hval0 hW _ _ hL _
  have hval : ∀ (j : Nat) t v, Tryd.f6.params[j]? = some t → args[j]? = some v → Value.okWide Tryd.prog W .any base t v := hval0
  have hW' := hW
  obtain ⟨p, q, hA0, hV, rfl, hfz, hnd⟩ := hW
  have hA : DataW.TrodAll enc Tryd.prog W 0 (fun _ => true) true Tryd.f6.params.toList args.toList ds p := hA0
  rw [Tryd.params6] at hA hval
  obtain ⟨v0, vs0, e0, ds0, p0, q0, hargs, rfl, rfl, h0, t0⟩ := trodAll_cons hA
  obtain ⟨v1, vs1, e1, ds1, p1, q1, rfl, rfl, rfl, h1, t1⟩ := trodAll_cons t0
  obtain ⟨v2, vs2, e2, ds2, p2, q2, rfl, rfl, rfl, h2, t2⟩ := trodAll_cons t1
  obtain ⟨rfl, rfl, rfl⟩ := trodAll_nil t2
  obtain rfl : args = #[v0, v1, v2] := by cases args; simp_all
  obtain ⟨rfl, rfl⟩ := trodVars_none hV
  have k0 := h0
  have lt0 : ∀ x ∈ p0, x.block < W.heap.size := by obtain ⟨m, hm⟩ := k0; exact DataW.trod_lt m _ _ _ hm
  have k1 := h1
  have lt1 : ∀ x ∈ p1, x.block < W.heap.size := by obtain ⟨m, hm⟩ := k1; exact DataW.trod_lt m _ _ _ hm
  have k2 := h2
  have lt2 : ∀ x ∈ p2, x.block < W.heap.size := by obtain ⟨m, hm⟩ := k2; exact DataW.trod_lt m _ _ _ hm
  obtain ⟨a0, len0, cap0, c0, rfl, w0⟩ := open_code (hval 0 22 v0 rfl rfl) h0
  obtain ⟨a1, len1, cap1, z1, rfl, w1⟩ := open_intl (hval 1 23 v1 rfl rfl) h1
  obtain ⟨a2, rfl, _, _, w2⟩ := open_int Tryd.underlying3 (hval 2 3 v2 rfl rfl) h2
  clear hA0 hval0
  refine (walk a0 len0 cap0 c0 a1 len1 cap1 z1 a2 w2 W (rows_of_laid hL) w0 w1).mono fun e W' ⟨he, bel⟩ => ?_
  subst he
  exact ⟨_, rfl, _, _, _, [], _, [], hW', trodAll_mk1 (shut_bool Tryd.underlying4 _), (trodAll_cons_mk (Below.trod laidOut (by kernel_rfl) (of_decide_eq_true (by kernel_rfl)) k0 bel lt0) (trodAll_cons_mk (Below.trod laidOut (by kernel_rfl) (of_decide_eq_true (by kernel_rfl)) k1 bel lt1) (trodAll_cons_mk (Below.trod laidOut (by kernel_rfl) (of_decide_eq_true (by kernel_rfl)) k2 bel lt2) trodAll_mk0))), rfl, bel.frame _, fun h => by cases h⟩

theorem over : Rows.courseCostsRow.holds Tryd.pinned (OpenSpec.ofChange Rows.courseCostsSpec) :=
  OpenClaim.holds_of_wide 6 Tryd.f6 rfl rfl rfl rfl rfl rfl rfl ⟨rfl, rfl, rfl, rfl, rfl⟩ rfl rfl rfl rfl rfl (by kernel_rfl) Tryd.func6 (by kernel_rfl)
    (of_decide_eq_true (by kernel_rfl)) (by unfold Func.isWrapper; first | (rw [if_pos (by decide +kernel)]; kernel_rfl) | (rw [if_neg (by decide +kernel)]; exact ⟨rfl, rfl⟩))
    (fun os started H enc _ => lifted os started H enc)

theorem proved : Rows.CourseCostsCardSaid :=
  Claim7.holds_tied_plain_at .later [] [.data] true (true, "7d0a0e285f706a861ae4768e5e684a9390231320807c5470609f1b673339f244") false
    over (fun _ h => by cases h) (by kernel_rfl) (fun _ h => by cases h) courseCosts_row_tie rfl ⟨rfl, rfl⟩ (by kernel_rfl) rfl
    (fun f fn hf hfn => by
      obtain rfl : f = 6 := Option.some.inj ((show Tryd.prog.funcNamed "drydock/drydocklaw08.CourseCosts" = some 6 by kernel_rfl).symm.trans hf) |>.symm
      obtain rfl : fn = Tryd.f6 := (Option.some.inj (Tryd.func6.symm.trans hfn)).symm
      exact ⟨by kernel_rfl, fun j t ht => by
        rw [Tryd.params6] at ht
        match j, ht with
        | 0, ht => obtain rfl : t = 22 := by simpa using ht.symm
                   exact (show Tryd.prog.wantsStandIn 22 = false by kernel_rfl)
        | 1, ht => obtain rfl : t = 23 := by simpa using ht.symm
                   exact (show Tryd.prog.wantsStandIn 23 = false by kernel_rfl)
        | 2, ht => obtain rfl : t = 3 := by simpa using ht.symm
                   exact (show Tryd.prog.wantsStandIn 3 = false by kernel_rfl)
        | j + 3, ht => simp at ht⟩)
    (by kernel_rfl)
#print axioms proved
end Go.Proofs.YtdgfklmbglfbfaaDoor.courseCosts
