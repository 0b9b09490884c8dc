/-
  Of code that is fine each place that is reached leads to one that is, or is an end; and some end is reached: law CourseFine returns true for every code.
  Conditions: none; the package variable that the law reads starts as its initialiser lays it (the card ties it).
-/
import Derived.Test.YtdgfklmbglfbfaaDoorRows
import Derived.Test.YtdgfklmbglfbfaaDoorCards
import Derived.Test.YtdgfklmbglfbfaaDoorTie
import Derived.Test.YtdgfklmbglfbfaaDoorD4
import Derived.WalkKit
import Derived.ProofKit
import Derived.OpenShut
import Derived.ChangeOld
import Derived.Below
import Derived.SevenTiedAt
namespace Go.Proofs.YtdgfklmbglfbfaaDoor.courseFine
open Go.ChangeShapes Go.WideShapes Go.ChangeAt Go.RowKit
set_option linter.unusedVariables false

set_option maxRecDepth 100000 in
set_option maxHeartbeats 8000000 in
theorem walk (a0 : Option Addr) (len0 cap0 : Nat) (c0 : List I) (w : World) (hR : RowsIn w) (w0 : CodeAt w a0 len0 cap0 c0) :
    Calls Tryd.prog 8 #[.slice a0 len0 cap0] w fun e w' => e = .returned (.bool true) ∧ Below w.heap.size w w' := by
  have hmx := code_max w0
  have H := Lib.hid w0
  have H1 := Lib.hid w0.1
  have HR0 := Lib.hid hR
  clear w0
  go_enter Tryd.func8, Tryd.ntmps8
  go_wp2_with fail
  refine (awake_any _ HR0.out).mono ?_
  rintro e m1 ⟨rfl, hb1⟩
  have HB1 := Lib.hid hb1
  have HR1 := Lib.hid (HR0.out.later hb1)
  clear hb1 hR
  by_cases h80 : 80 < len0
  · have h80I : (80 : Int) < (len0 : Int) := by omega
    go_wp2
    go_ret
    exact ⟨rfl, HB1.out⟩
  have h80I : ¬ (80 : Int) < (len0 : Int) := by omega
  go_wp2_with fail
  have k1 := fine_any a0 len0 cap0 c0 m1 HR1.out (H.out.below HB1.out)
  obtain ⟨Q, hQ⟩ : ∃ Q, fineP c0 = Q := ⟨_, rfl⟩
  rw [hQ] at k1
  have HQ := Lib.hid hQ
  clear hQ
  refine k1.mono ?_
  rintro e m2 ⟨rfl, hb2⟩
  have HB2 := Lib.hid (HB1.out.trans (hb2.mono HB1.out.size))
  have HR2 := Lib.hid (HR1.out.later hb2)
  clear k1 hb2 HB1 HR1
  cases Q
  · go_wp2
    go_ret
    exact ⟨rfl, HB2.out⟩
  have HC := Lib.hid (fine_code HQ.out)
  go_wp2_with fail
  have k2 := reach_any a0 len0 cap0 c0 m2 HR2.out (H.out.below HB2.out)
  rw [show reachP c0 = (List.range len0).map (rch c0) by rw [reachP, if_pos HC.out, H1.out]] at k2
  refine k2.mono ?_
  rintro e m3 ⟨b, l, cp, rfl, hb3, hB3⟩
  obtain rfl : l = len0 := by have := hB3.1; simpa using this.symm
  have HB3 := Lib.hid (HB2.out.trans (hb3.mono HB2.out.size))
  have HR3 := Lib.hid (HR2.out.later hb3)
  have HRe := Lib.hid hB3
  clear k2 hb3 HB2 HR2 hB3
  go_wp2_with fail
  go_loopw [5, 6] (fun en i wr => ∃ (k e : Nat), k ≤ l ∧ e ≤ k ∧ i = .int .i64 k ∧ en = .int .i64 e ∧ Hid (0 < e ↔ ∃ i, i < k ∧ rch c0 i = true ∧ (c0.getD i zeroI).1 = 7) ∧ Hid (Below w.heap.size w wr ∧ RowsIn wr ∧ BoolsAt wr b l cp ((List.range l).map (rch c0)))) (fun _ i _ => l - (intOf i).toNat)
  case atStart => exact ⟨0, 0, by omega, by omega, rfl, rfl, Lib.hid ⟨fun h => absurd h (by omega), fun ⟨i, hi, _⟩ => absurd hi (by omega)⟩, Lib.hid ⟨HB3.out, HR3.out, HRe.out⟩⟩
  case round =>
    obtain ⟨k, e, hk, he, rfl, rfl, HE, HS⟩ := hrel
    clear HB3 HR3 HRe
    have hk0 : (0 : Int) ≤ (k : Int) := Int.natCast_nonneg _
    have he0 : (0 : Int) ≤ (e : Int) := Int.natCast_nonneg _
    have hek : (e : Int) ≤ (k : Int) := by omega
    have hll : ((l : Int) == (l : Int)) = true := by simp
    by_cases hkl : k < l
    · have hkI : (k : Int) < (l : Int) := by omega
      have k4 := next_any a0 l cap0 c0 (k : Int) wr HS.out.2.1 (H.out.below HS.out.1)
      rw [show nextP c0 (k : Int) = castL (sucC c0 k) by rw [nextP, if_pos ⟨HC.out, by omega, by rw [H1.out]; omega⟩]; rfl] at k4
      go_wp2_with fail
      refine k4.mono ?_
      rintro e' m4 ⟨b4, l4, cp4, rfl, hb4, hI4, _⟩
      have HS4 : Hid (Below w.heap.size w m4 ∧ RowsIn m4 ∧ BoolsAt m4 b l cp ((List.range l).map (rch c0))) := Lib.hid ⟨HS.out.1.trans (hb4.mono HS.out.1.size), HS.out.2.1.later hb4, HS.out.2.2.below hb4⟩
      have HI4 := Lib.hid hI4
      have HLs : Hid ((sucC c0 k).length = l4) := Lib.hid (by rw [← castL_len]; exact hI4.1)
      have hlm4 := hI4.max
      clear k4 hb4 hI4 HS
      obtain ⟨y0, rfl, hy0⟩ := HS4.out.2.2.2.2.2.resolve_left (by omega)
      obtain ⟨y, rfl, hy⟩ := H.out.2.2.2.2.resolve_left (by omega)
      have hIn := ((hy k hkl).below HS4.out.1).1
      have hre := hy0 k hkl
      rw [show ((List.range l).map (rch c0)).getD k false = rch c0 k by simp [List.getD_eq_getElem?_getD, hkl]] at hre
      obtain ⟨R, hR⟩ : ∃ R, rch c0 k = R := ⟨_, rfl⟩
      rw [hR] at hre
      obtain ⟨o, ho⟩ : ∃ o, (c0.getD k zeroI).1 = o := ⟨_, rfl⟩
      rw [ho] at hIn
      have HRk := Lib.hid hR
      have HO := Lib.hid ho
      have HNil : Hid (l4 = 0 ↔ o = 7) := Lib.hid (by
        rw [← HLs.out, List.length_eq_zero_iff, ← HO.out]
        exact sucP_nil)
      clear hR ho hy hy0
      cases R
      · have HE2 : Hid (0 < e ↔ ∃ i, i < k + 1 ∧ rch c0 i = true ∧ (c0.getD i zeroI).1 = 7) := Lib.hid (HE.out.trans (ends_no (by rw [HRk.out]; simp)).symm)
        go_wp2_with fail
        go_loopw [8] (fun j wr2 => j = .int .i64 0 ∧ wr2 = m4) (fun _ _ => 0)
        case atStart => exact ⟨rfl, rfl⟩
        case round =>
          obtain ⟨rfl, rfl⟩ := hrel
          by_cases hz : 0 < l4
          · go_wp2_with fail
            exact ⟨⟨k + 1, e, by omega, by omega, by go_num, rfl, HE2, HS4⟩, by simp [intOf]; omega⟩
          · go_wp2_with fail
            exact ⟨⟨k + 1, e, by omega, by omega, by go_num, rfl, HE2, HS4⟩, by simp [intOf]; omega⟩
      · have HFi : Hid (∀ t, t ∈ sucC c0 k → t < l ∧ rch c0 t = true) := Lib.hid (fun t ht => ⟨by rw [← H1.out]; exact fine_suc HQ.out (by rw [H1.out]; exact hkl) HRk.out ht, rch_next HRk.out ht⟩)
        by_cases h7 : o = 7
        · have HO7 := Lib.hid h7
          have h7b : (o == 7) = true := by simpa using h7
          clear h7
          have HE2 : Hid (0 < e + 1 ↔ ∃ i, i < k + 1 ∧ rch c0 i = true ∧ (c0.getD i zeroI).1 = 7) := Lib.hid (⟨fun _ => ⟨k, by omega, HRk.out, by rw [HO.out]; exact HO7.out⟩, fun _ => by omega⟩)
          go_wp2_with fail
          go_loopw [8] (fun j wr2 => ∃ q : Nat, q ≤ l4 ∧ j = .int .i64 q ∧ wr2 = m4) (fun j _ => l4 - (intOf j).toNat)
          case atStart => exact ⟨0, by omega, rfl, rfl⟩
          case round =>
            obtain ⟨q, hq, rfl, rfl⟩ := hrel
            have hq0 : (0 : Int) ≤ (q : Int) := Int.natCast_nonneg _
            by_cases hql : q < l4
            · have hqI : (q : Int) < (l4 : Int) := by omega
              obtain ⟨y4, rfl, hy4⟩ := HI4.out.2.2.2.resolve_left (by omega)
              have hc4 := hy4 q hql
              rw [castL_getD] at hc4
              have hmem := getD_mem' (ts := sucC c0 k) (j := q) (by rw [HLs.out]; exact hql)
              obtain ⟨t, ht⟩ : ∃ t, (sucC c0 k).getD q 0 = t := ⟨_, rfl⟩
              rw [ht] at hc4 hmem
              obtain ⟨htl, htr⟩ := HFi.out t hmem
              have htI : (t : Int) < (l : Int) := by omega
              have ht0 : (0 : Int) ≤ (t : Int) := Int.natCast_nonneg _
              obtain ⟨y1, e1, hy1⟩ := HS4.out.2.2.2.2.2.resolve_left (by omega)
              obtain rfl := Option.some.inj e1
              have hct := hy1 t htl
              rw [show ((List.range l).map (rch c0)).getD t false = true by rw [← htr]; simp [List.getD_eq_getElem?_getD, htl]] at hct
              clear ht hmem htr hy4 hy1
              go_wp2_with fail
              exact ⟨⟨q + 1, by omega, by go_num, by trivial⟩, by simp [intOf]; omega⟩
            · have hqI : ¬ (q : Int) < (l4 : Int) := by omega
              have hl0 : ((l4 : Int) == 0) = true := by have := HNil.out.2 HO7.out; simp; omega
              go_wp2_with fail
              exact ⟨⟨k + 1, e + 1, by omega, by omega, by go_num, by go_num, HE2, HS4⟩, by simp [intOf]; omega⟩
        · have HO7 := Lib.hid h7
          have h7b : (o == 7) = false := by simpa using h7
          clear h7
          have HE2 : Hid (0 < e ↔ ∃ i, i < k + 1 ∧ rch c0 i = true ∧ (c0.getD i zeroI).1 = 7) := Lib.hid (HE.out.trans (ends_no (fun h => HO7.out (HO.out.symm.trans h.2))).symm)
          go_wp2_with fail
          go_loopw [8] (fun j wr2 => ∃ q : Nat, q ≤ l4 ∧ j = .int .i64 q ∧ wr2 = m4) (fun j _ => l4 - (intOf j).toNat)
          case atStart => exact ⟨0, by omega, rfl, rfl⟩
          case round =>
            obtain ⟨q, hq, rfl, rfl⟩ := hrel
            have hq0 : (0 : Int) ≤ (q : Int) := Int.natCast_nonneg _
            by_cases hql : q < l4
            · have hqI : (q : Int) < (l4 : Int) := by omega
              obtain ⟨y4, rfl, hy4⟩ := HI4.out.2.2.2.resolve_left (by omega)
              have hc4 := hy4 q hql
              rw [castL_getD] at hc4
              have hmem := getD_mem' (ts := sucC c0 k) (j := q) (by rw [HLs.out]; exact hql)
              obtain ⟨t, ht⟩ : ∃ t, (sucC c0 k).getD q 0 = t := ⟨_, rfl⟩
              rw [ht] at hc4 hmem
              obtain ⟨htl, htr⟩ := HFi.out t hmem
              have htI : (t : Int) < (l : Int) := by omega
              have ht0 : (0 : Int) ≤ (t : Int) := Int.natCast_nonneg _
              obtain ⟨y1, e1, hy1⟩ := HS4.out.2.2.2.2.2.resolve_left (by omega)
              obtain rfl := Option.some.inj e1
              have hct := hy1 t htl
              rw [show ((List.range l).map (rch c0)).getD t false = true by rw [← htr]; simp [List.getD_eq_getElem?_getD, htl]] at hct
              clear ht hmem htr hy4 hy1
              go_wp2_with fail
              exact ⟨⟨q + 1, by omega, by go_num, by trivial⟩, by simp [intOf]; omega⟩
            · have hqI : ¬ (q : Int) < (l4 : Int) := by omega
              have hl0 : ((l4 : Int) == 0) = false := by have := fun h => HO7.out (HNil.out.1 h); simp; omega
              go_wp2_with fail
              exact ⟨⟨k + 1, e, by omega, by omega, by go_num, by go_num, HE2, HS4⟩, by simp [intOf]; omega⟩
    · have hkI : ¬ (k : Int) < (l : Int) := by omega
      have hke : k = l := by omega
      have HEn : Hid (0 < e) := Lib.hid (HE.out.2 (by
        obtain ⟨i, h1, h2, h3⟩ := fine_end HQ.out
        exact ⟨i, by rw [H1.out] at h1; omega, h2, h3⟩))
      have heI : (1 : Int) ≤ (e : Int) := by have := HEn.out; omega
      go_wp2
      go_ret
      exact ⟨rfl, HS.out.1⟩


theorem own : ownKnob Tryd.prog.godebug = none := by kernel_rfl
theorem laidOut : laidOutB Tryd.prog = true := by kernel_rfl
theorem door_met (os : Os) (args : Array Value) : laidMetH Tryd.prog laidL ((World.doorLaid Tryd.prog 400 os).forCall (fun _ _ => 0) ⟨#[], args, []⟩).memory :=
  laidMetH_of_parts3 (fuel := 8) (laidMet_of_run' 8 (by kernel_rfl) (by kernel_rfl)) (by kernel_rfl) (by kernel_rfl)
set_option maxRecDepth 100000 in
theorem lifted (os : Os) (started : os.Started) (H : Type) (enc : TypeId × Value → H) :
    ReturnsInHanded {} Tryd.checked os 8 .any (fun w args => (Rows.courseFineSpec.pre enc Tryd.prog Tryd.f8 [] false w args ∧ laidMetH Tryd.prog laidL w) ∧ sizedMet enc Tryd.prog Tryd.f8 (OpenSpec.ofChange Rows.courseFineSpec) false w args)
      (Rows.courseFineSpec.post enc Tryd.prog Tryd.f8 false true false false) := by
  refine returnsInHanded_of_change_and (C := Tryd.checked) (X := fun w _ => laidMetH Tryd.prog laidL w) (fun _ _ _ hh h => h.of_heap hh) own started (by kernel_rfl) Tryd.func8
    (ChangeSpec.witness_shaped (enc := enc) (C := Tryd.checked) (os := os) (X := fun w _ => laidMetH Tryd.prog laidL w) false (World.doorLaid Tryd.prog 400 os) #[.slice none 0 0] 8 rfl (World.shaped_of_RefB (by kernel_rfl) (by kernel_rfl)) (by kernel_rfl) (by kernel_rfl) (by kernel_rfl) (door_met os _)) ?_
  intro W base args ds gs before hval0 hW _ _ hL _
  have hval : ∀ (j : Nat) t v, Tryd.f8.params[j]? = some t → args[j]? = some v → Value.okWide Tryd.prog W .any base t v := hval0
  have hW' := hW
  obtain ⟨p, q, hA0, hV, rfl, hfz, hnd⟩ := hW
  have hA : DataW.TrodAll enc Tryd.prog W 0 (fun _ => true) true Tryd.f8.params.toList args.toList ds p := hA0
  rw [Tryd.params8] at hA hval
  obtain ⟨v0, vs0, e0, ds0, p0, q0, hargs, rfl, rfl, h0, t0⟩ := trodAll_cons hA
  obtain ⟨rfl, rfl, rfl⟩ := trodAll_nil t0
  obtain rfl : args = #[v0] := by cases args; simp_all
  obtain ⟨rfl, rfl⟩ := trodVars_none hV
  have k0 := h0
  have lt0 : ∀ x ∈ p0, x.block < W.heap.size := by obtain ⟨m, hm⟩ := k0; exact DataW.trod_lt m _ _ _ hm
  obtain ⟨a0, len0, cap0, c0, rfl, w0⟩ := open_code (hval 0 22 v0 rfl rfl) h0
  clear hA0 hval0
  refine (walk a0 len0 cap0 c0 W (rows_of_laid hL) w0).mono fun e W' ⟨he, bel⟩ => ?_
  subst he
  exact ⟨_, rfl, _, _, _, [], _, [], hW', trodAll_mk1 (shut_bool Tryd.underlying4 _), (trodAll_cons_mk (Below.trod laidOut (by kernel_rfl) (of_decide_eq_true (by kernel_rfl)) k0 bel lt0) trodAll_mk0), rfl, bel.frame _, fun h => by cases h⟩

theorem over : Rows.courseFineRow.holds Tryd.pinned (OpenSpec.ofChange Rows.courseFineSpec) :=
  OpenClaim.holds_of_wide 8 Tryd.f8 rfl rfl rfl rfl rfl rfl rfl ⟨rfl, rfl, rfl, rfl, rfl⟩ rfl rfl rfl rfl rfl (by kernel_rfl) Tryd.func8 (by kernel_rfl)
    (of_decide_eq_true (by kernel_rfl)) (by unfold Func.isWrapper; first | (rw [if_pos (by decide +kernel)]; kernel_rfl) | (rw [if_neg (by decide +kernel)]; exact ⟨rfl, rfl⟩))
    (fun os started H enc _ => lifted os started H enc)

theorem proved : Rows.CourseFineCardSaid :=
  Claim7.holds_tied_plain_at .later [] [.data] true (true, "7d0a0e285f706a861ae4768e5e684a9390231320807c5470609f1b673339f244") false
    over (fun _ h => by cases h) (by kernel_rfl) (fun _ h => by cases h) courseFine_row_tie rfl ⟨rfl, rfl⟩ (by kernel_rfl) rfl
    (fun f fn hf hfn => by
      obtain rfl : f = 8 := Option.some.inj ((show Tryd.prog.funcNamed "drydock/drydocklaw08.CourseFine" = some 8 by kernel_rfl).symm.trans hf) |>.symm
      obtain rfl : fn = Tryd.f8 := (Option.some.inj (Tryd.func8.symm.trans hfn)).symm
      exact ⟨by kernel_rfl, fun j t ht => by
        rw [Tryd.params8] at ht
        match j, ht with
        | 0, ht => obtain rfl : t = 22 := by simpa using ht.symm
                   exact (show Tryd.prog.wantsStandIn 22 = false by kernel_rfl)
        | j + 1, ht => simp at ht⟩)
    (by kernel_rfl)
#print axioms proved
end Go.Proofs.YtdgfklmbglfbfaaDoor.courseFine
