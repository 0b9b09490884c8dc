/-
  Code that is fine, with something behind it, is fine, reaches what it did, and costs as much: law CourseTail returns true for every two codes.
  Conditions: none; the package variable that the law reads starts as its initialiser lays it (the card ties it).
-/
import Derived.Test.YtdgfklmbglfbfaaDoorRows
import Derived.Test.YtdgfklmbglfbfaaDoorCards
import Derived.Test.YtdgfklmbglfbfaaDoorTie
import Derived.Test.YtdgfklmbglfbfaaDoorD7
import Derived.WalkKit
import Derived.ProofKit
import Derived.OpenShut
import Derived.ChangeOld
import Derived.Below
import Derived.SevenTiedAt
namespace Go.Proofs.YtdgfklmbglfbfaaDoor.courseTail
open Go.ChangeShapes Go.WideShapes Go.ChangeAt Go.RowKit
set_option linter.unusedVariables false

theorem bools_at {W : World} {b : Option Addr} {l cp : Nat} {c : List I} (h : BoolsAt W b l cp ((List.range l).map (rch c))) {q : Nat} (hq : q < l) : ∃ y, b = some y ∧ W.cell? (y.add q) = some (.bool (rch c q)) := by
  obtain ⟨y, e, h1⟩ := h.2.2.2.resolve_left (by omega)
  refine ⟨y, e, ?_⟩
  rw [h1 q hq]
  simp [List.getD_eq_getElem?_getD, hq]
set_option maxRecDepth 100000 in
set_option maxHeartbeats 16000000 in
theorem walk (a0 : Option Addr) (len0 cap0 : Nat) (c0 : List I) (a1 : Option Addr) (len1 cap1 : Nat) (c1 : List I) (w : World) (hR : RowsIn w) (w0 : CodeAt w a0 len0 cap0 c0) (w1 : CodeAt w a1 len1 cap1 c1) :
    Calls Tryd.prog 7 #[.slice a0 len0 cap0, .slice a1 len1 cap1] w fun e w' => e = .returned (.bool true) ∧ Below w.heap.size w w' := by
  have hmx := code_max w0
  have hmx1 := code_max w1
  have H := Lib.hid w0
  have H1 := Lib.hid w0.1
  have G := Lib.hid w1
  have G1 := Lib.hid w1.1
  have HR0 := Lib.hid hR
  clear w0 w1
  go_enter Tryd.func7, Tryd.ntmps7
  go_wp2_with fail
  refine (awake_any _ HR0.out).mono ?_
  rintro e m1 ⟨rfl, hb1⟩
  have HB1 := Lib.hid hb1
  have HR1 := Lib.hid (HR0.out.later hb1)
  clear hb1 hR
  by_cases h30 : 30 < len0
  · have h30I : (30 : Int) < (len0 : Int) := by omega
    go_wp2
    go_ret
    exact ⟨rfl, HB1.out⟩
  have h30I : ¬ (30 : Int) < (len0 : Int) := by omega
  by_cases h31 : 30 < len1
  · have h31I : (30 : Int) < (len1 : Int) := by omega
    go_wp2
    go_ret
    exact ⟨rfl, HB1.out⟩
  have h31I : ¬ (30 : Int) < (len1 : Int) := by omega
  go_wp2_with fail
  have k2 := reach_any a0 len0 cap0 c0 m1 HR1.out (H.out.below HB1.out)
  refine k2.mono ?_
  rintro e m2 ⟨b2, l2, cp2, rfl, hb2, hI2⟩
  have HB2 := Lib.hid (HB1.out.trans (hb2.mono HB1.out.size))
  have HR2 := Lib.hid (HR1.out.later hb2)
  have HL2 := Lib.hid hI2.1
  have hlm2 := hI2.max
  clear k2 hb2 hI2
  rcases hQ : codeB c0 with _ | _
  · obtain rfl : l2 = 0 := by have := HL2.out; rw [reachP, hQ] at this; simpa using this.symm
    clear hQ
    go_wp2
    go_ret
    exact ⟨rfl, HB2.out⟩
  obtain rfl : l2 = len0 := by have := HL2.out; rw [reachP, hQ] at this; simpa [H1.out] using this.symm
  have hl1 : 1 ≤ l2 := by have := (codeB_len hQ).1; have := H1.out; omega
  have hlz : ((l2 : Int) == 0) = false := by simp; omega
  have HQ := Lib.hid hQ
  clear hQ
  go_wp2_with fail
  have k3 := fine_any a0 l2 cap0 c0 m2 HR2.out (H.out.below HB2.out)
  obtain ⟨Q, hQ⟩ : ∃ Q, fineP c0 = Q := ⟨_, rfl⟩
  rw [hQ] at k3
  have HF := Lib.hid hQ
  clear hQ
  refine k3.mono ?_
  rintro e m3 ⟨rfl, hb3⟩
  have HB3 := Lib.hid (HB2.out.trans (hb3.mono HB2.out.size))
  have HR3 := Lib.hid (HR2.out.later hb3)
  clear k3 hb3 HB2 HR2 HB1 HR1
  cases Q
  · go_wp2
    go_ret
    exact ⟨rfl, HB3.out⟩
  have HS0 := Lib.hid (H.out.below HB3.out)
  have HS1 := Lib.hid (G.out.below HB3.out)
  go_wp2_with (at_builtin; refine wpList_cat _ rfl _ _ rfl rfl m3.heap.size (.slice none 0 0) [] c0 a0 l2 cap0 rfl rfl (World.ownsRow_nil _ _ _ _) HS0.out (by simp; omega) (Nat.le_refl _) m3.heap.size m3 (Below.refl _ _) (Nat.le_refl _) ?_)
  intro v4 w4 hO4 hB4 hZ4
  have HO4 := Lib.hid hO4
  have HB4 := Lib.hid hB4
  have HS14 := Lib.hid (HS1.out.below hB4)
  clear hO4 hB4
  go_wp2_with (at_builtin; refine wpList_cat _ rfl _ _ rfl rfl m3.heap.size v4 c0 c1 a1 len1 cap1 rfl rfl HO4.out HS14.out (by rw [H1.out]; omega) hZ4 m3.heap.size m3 HB4.out (Nat.le_refl _) ?_)
  intro v5 w5 hO5 hB5 hZ5
  obtain ⟨N, hN⟩ : ∃ N, l2 + len1 = N := ⟨_, rfl⟩
  have HNl : Hid ((c0 ++ c1).length = N) := Lib.hid (by rw [List.length_append, H1.out, G1.out, hN])
  have HOk : Hid (∀ i ∈ c0 ++ c1, okI i) := Lib.hid (fun i hi => (List.mem_append.1 hi).elim (H.out.2.2.2.1 i) (G.out.2.2.2.1 i))
  have hO6 : w5.ownsRow m3.heap.size 53 7 v5 N (codeV (c0 ++ c1)) := by
    have h := hO5
    simp only [H1.out, G1.out, List.length_append, hN] at h
    exact h
  obtain ⟨b5, cp5, hv5, hA5, _⟩ := code_own HNl.out HOk.out hO6
  subst hv5
  have HA5 := Lib.hid hA5
  have HB5 := Lib.hid (HB3.out.trans (hB5.mono HB3.out.size))
  have HR5 := Lib.hid (HR3.out.later hB5)
  have hN60 : N ≤ 60 := by omega
  have HNq := Lib.hid hN
  clear hO5 hO6 hB5 hA5 HO4 HB4 HS14 hZ4 hZ5 HS0 HS1 hN
  go_wp2_with fail
  have k6 := reach_any b5 N cp5 (c0 ++ c1) w5 HR5.out HA5.out
  refine k6.mono ?_
  rintro e m6 ⟨b6, l6, cp6, rfl, hb6, hI6⟩
  have HB6 := Lib.hid (HB5.out.trans (hb6.mono HB5.out.size))
  have HR6 := Lib.hid (HR5.out.later hb6)
  have HA6 := Lib.hid (HA5.out.below hb6)
  have HI6 := Lib.hid hI6
  have hlm6 := hI6.max
  clear k6 hb6 hI6 HB5 HR5 HA5
  rcases hC : codeB (c0 ++ c1) with _ | _
  · obtain rfl : l6 = 0 := by have := HI6.out.1; rw [reachP, hC] at this; simpa using this.symm
    have hFn : Hid (fineP (c0 ++ c1) = false) := Lib.hid (by rw [fineP, hC]; simp)
    clear hC
    go_wp2_with fail
    have k7 := fine_any b5 N cp5 (c0 ++ c1) m6 HR6.out HA6.out
    rw [hFn.out] at k7
    refine k7.mono ?_
    rintro e m7 ⟨rfl, hb7⟩
    have HB7 := Lib.hid (HB6.out.trans (hb7.mono HB6.out.size))
    clear k7 hb7
    go_wp2_with fail
    go_ret
    exact ⟨rfl, HB7.out⟩
  obtain rfl : l6 = N := by have := HI6.out.1; rw [reachP, hC] at this; simpa [HNl.out] using this.symm
  have HRp : Hid (reachP (c0 ++ c1) = (List.range l6).map (rch (c0 ++ c1))) := Lib.hid (by rw [reachP, if_pos hC, HNl.out])
  have HCc := Lib.hid hC
  have hNz : ((l6 : Int) == 0) = false := by have := HNq.out; simp; omega
  clear hC
  go_wp2_with fail
  have k7 := reach_any a0 l2 cap0 c0 m6 HR6.out (H.out.below HB6.out)
  rw [show reachP c0 = (List.range l2).map (rch c0) by rw [reachP, if_pos HQ.out, H1.out]] at k7
  refine k7.mono ?_
  rintro e m7 ⟨b7, l7, cp7, rfl, hb7, hI7⟩
  obtain rfl : l7 = l2 := by have := hI7.1; simpa using this.symm
  have HB7 := Lib.hid (HB6.out.trans (hb7.mono HB6.out.size))
  have HR7 := Lib.hid (HR6.out.later hb7)
  have HA7 := Lib.hid (HA6.out.below hb7)
  have HI67 := Lib.hid (HI6.out.below hb7)
  have HI7 := Lib.hid hI7
  clear k7 hb7 hI7 HB6 HR6 HA6 HI6
  have hnn : ((l6 : Int) != (l6 : Int)) = false := by simp
  have hll : ((l7 : Int) != (l7 : Int)) = false := by simp
  go_wp2_with fail
  go_loopw [9] (fun i wr => ∃ k : Nat, k ≤ l6 ∧ i = .int .i64 k ∧ Hid (∃ n, wr = m7.drewN n)) (fun i _ => l6 - (intOf i).toNat)
  case atStart => exact ⟨0, by omega, rfl, Lib.hid ⟨0, rfl⟩⟩
  case round =>
    obtain ⟨k, hk, rfl, HW⟩ := hrel
    have hk0 : (0 : Int) ≤ (k : Int) := Int.natCast_nonneg _
    have hbw := below_of_quiet HW.out
    by_cases hkl : k < l6
    · have hkI : (k : Int) < (l6 : Int) := by omega
      have hcA := bools_at (c := c0 ++ c1) (W := wr) (b := b6) (l := l6) (cp := cp6) (by rw [← HRp.out]; exact HI67.out.below hbw) hkl
      obtain ⟨y6, hy6, hcA⟩ := hcA
      subst hy6
      by_cases hk2 : k < l7
      · obtain ⟨y7, hy7, hcB⟩ := bools_at (c := c0) (W := wr) (b := b7) (l := l7) (cp := cp7) (HI7.out.below hbw) hk2
        subst hy7
        rw [rch_front k (by rw [H1.out]; exact hk2)] at hcA
        obtain ⟨v, hv⟩ : ∃ v, rch c0 k = v := ⟨_, rfl⟩
        rw [hv] at hcA hcB
        have hvv : (v != v) = false := by simp
        have hd1 : decide (k < l7) = true := decide_eq_true hk2
        have hd2 : decide (l7 ≤ k) = false := decide_eq_false (by omega)
        have hk2I : (k : Int) < (l7 : Int) := by omega
        clear hv hbw
        go_wp2_with fail
        go_quiet (fail)
        have HW2 : Hid (∃ n, wr.drewN nq = m7.drewN n) := Lib.hid (by obtain ⟨n, hn⟩ := HW.out; exact ⟨n + nq, by rw [hn, World.drewN_drewN]⟩)
        go_wp2_with fail
        exact ⟨⟨k + 1, by omega, by go_num, HW2⟩, by simp [intOf]; omega⟩
      · rw [rch_behind HF.out k (by rw [H1.out]; omega)] at hcA
        have hd1 : decide (k < l7) = false := decide_eq_false hk2
        have hd2 : decide (l7 ≤ k) = true := decide_eq_true (by omega)
        clear hbw
        go_wp2_with fail
        go_quiet (fail)
        have HW2 : Hid (∃ n, wr.drewN nq = m7.drewN n) := Lib.hid (by obtain ⟨n, hn⟩ := HW.out; exact ⟨n + nq, by rw [hn, World.drewN_drewN]⟩)
        go_wp2_with fail
        exact ⟨⟨k + 1, by omega, by go_num, HW2⟩, by simp [intOf]; omega⟩
    · have hkI : ¬ (k : Int) < (l6 : Int) := by omega
      have HB8 := Lib.hid (HB7.out.trans (hbw.mono HB7.out.size))
      have HR8 := Lib.hid (HR7.out.later hbw)
      have HA8 := Lib.hid (HA7.out.below hbw)
      clear hbw
      go_wp2_with fail
      have k8 := fine_any b5 l6 cp5 (c0 ++ c1) wr HR8.out HA8.out
      rw [tail_fine HF.out HCc.out] at k8
      refine k8.mono ?_
      rintro e m8 ⟨rfl, hb8⟩
      have HB9 := Lib.hid (HB8.out.trans (hb8.mono HB8.out.size))
      have HR9 := Lib.hid (HR8.out.later hb8)
      have HA9 := Lib.hid (HA8.out.below hb8)
      clear k8 hb8 HB8 HR8 HA8
      go_wp2_with fail
      obtain ⟨LL, hLL⟩ : ∃ LL, longP [] c0 = LL := ⟨_, rfl⟩
      have k9 := long_any b5 l6 cp5 (c0 ++ c1) none 0 0 [] m8 HR9.out HA9.out (ints_nil m8)
      rw [tail_long HF.out HCc.out, hLL] at k9
      refine k9.mono ?_
      rintro e m9 ⟨rfl, hb9⟩
      have HB10 := Lib.hid (HB9.out.trans (hb9.mono HB9.out.size))
      have HR10 := Lib.hid (HR9.out.later hb9)
      clear k9 hb9 HB9 HR9 HA9
      go_wp2_with fail
      have k10 := long_any a0 l7 cap0 c0 none 0 0 [] m9 HR10.out (H.out.below HB10.out) (ints_nil m9)
      rw [hLL] at k10
      refine k10.mono ?_
      rintro e m10 ⟨rfl, hb10⟩
      have HB11 := Lib.hid (HB10.out.trans (hb10.mono HB10.out.size))
      have hee : (LL == LL) = true := by simp
      clear k10 hb10 hLL
      go_wp2_with fail
      go_ret
      exact ⟨rfl, HB11.out⟩


theorem own : ownKnob Tryd.prog.godebug = none := by kernel_rfl
theorem laidOut : laidOutB Tryd.prog = true := by kernel_rfl
theorem door_met (os : Os) (args : Array Value) : laidMetH Tryd.prog laidL ((World.doorLaid Tryd.prog 400 os).forCall (fun _ _ => 0) ⟨#[], args, []⟩).memory :=
  laidMetH_of_parts3 (fuel := 8) (laidMet_of_run' 8 (by kernel_rfl) (by kernel_rfl)) (by kernel_rfl) (by kernel_rfl)
set_option maxRecDepth 100000 in
theorem lifted (os : Os) (started : os.Started) (H : Type) (enc : TypeId × Value → H) :
    ReturnsInHanded {} Tryd.checked os 7 .any (fun w args => (Rows.courseTailSpec.pre enc Tryd.prog Tryd.f7 [] false w args ∧ laidMetH Tryd.prog laidL w) ∧ sizedMet enc Tryd.prog Tryd.f7 (OpenSpec.ofChange Rows.courseTailSpec) false w args)
      (Rows.courseTailSpec.post enc Tryd.prog Tryd.f7 false true false false) := by
  refine returnsInHanded_of_change_and (C := Tryd.checked) (X := fun w _ => laidMetH Tryd.prog laidL w) (fun _ _ _ hh h => h.of_heap hh) own started (by kernel_rfl) Tryd.func7
    (ChangeSpec.witness_shaped (enc := enc) (C := Tryd.checked) (os := os) (X := fun w _ => laidMetH Tryd.prog laidL w) false (World.doorLaid Tryd.prog 400 os) #[.slice none 0 0, .slice none 0 0] 8 rfl (World.shaped_of_RefB (by kernel_rfl) (by kernel_rfl)) (by kernel_rfl) (by kernel_rfl) (by kernel_rfl) (door_met os _)) ?_
  intro W base args ds gs before hval0 hW _ _ hL _
  have hval : ∀ (j : Nat) t v, Tryd.f7.params[j]? = some t → args[j]? = some v → Value.okWide Tryd.prog W .any base t v := hval0
  have hW' := hW
  obtain ⟨p, q, hA0, hV, rfl, hfz, hnd⟩ := hW
  have hA : DataW.TrodAll enc Tryd.prog W 0 (fun _ => true) true Tryd.f7.params.toList args.toList ds p := hA0
  rw [Tryd.params7] at hA hval
  obtain ⟨v0, vs0, e0, ds0, p0, q0, hargs, rfl, rfl, h0, t0⟩ := trodAll_cons hA
  obtain ⟨v1, vs1, e1, ds1, p1, q1, rfl, rfl, rfl, h1, t1⟩ := trodAll_cons t0
  obtain ⟨rfl, rfl, rfl⟩ := trodAll_nil t1
  obtain rfl : args = #[v0, v1] := by cases args; simp_all
  obtain ⟨rfl, rfl⟩ := trodVars_none hV
  have k0 := h0
  have lt0 : ∀ x ∈ p0, x.block < W.heap.size := by obtain ⟨m, hm⟩ := k0; exact DataW.trod_lt m _ _ _ hm
  have k1 := h1
  have lt1 : ∀ x ∈ p1, x.block < W.heap.size := by obtain ⟨m, hm⟩ := k1; exact DataW.trod_lt m _ _ _ hm
  obtain ⟨a0, len0, cap0, c0, rfl, w0⟩ := open_code (hval 0 22 v0 rfl rfl) h0
  obtain ⟨a1, len1, cap1, c1, rfl, w1⟩ := open_code (hval 1 22 v1 rfl rfl) h1
  clear hA0 hval0
  refine (walk a0 len0 cap0 c0 a1 len1 cap1 c1 W (rows_of_laid hL) w0 w1).mono fun e W' ⟨he, bel⟩ => ?_
  subst he
  exact ⟨_, rfl, _, _, _, [], _, [], hW', trodAll_mk1 (shut_bool Tryd.underlying4 _), (trodAll_cons_mk (Below.trod laidOut (by kernel_rfl) (of_decide_eq_true (by kernel_rfl)) k0 bel lt0) (trodAll_cons_mk (Below.trod laidOut (by kernel_rfl) (of_decide_eq_true (by kernel_rfl)) k1 bel lt1) trodAll_mk0)), rfl, bel.frame _, fun h => by cases h⟩

theorem over : Rows.courseTailRow.holds Tryd.pinned (OpenSpec.ofChange Rows.courseTailSpec) :=
  OpenClaim.holds_of_wide 7 Tryd.f7 rfl rfl rfl rfl rfl rfl rfl ⟨rfl, rfl, rfl, rfl, rfl⟩ rfl rfl rfl rfl rfl (by kernel_rfl) Tryd.func7 (by kernel_rfl)
    (of_decide_eq_true (by kernel_rfl)) (by unfold Func.isWrapper; first | (rw [if_pos (by decide +kernel)]; kernel_rfl) | (rw [if_neg (by decide +kernel)]; exact ⟨rfl, rfl⟩))
    (fun os started H enc _ => lifted os started H enc)

theorem proved : Rows.CourseTailCardSaid :=
  Claim7.holds_tied_plain_at .later [] [.data] true (true, "7d0a0e285f706a861ae4768e5e684a9390231320807c5470609f1b673339f244") false
    over (fun _ h => by cases h) (by kernel_rfl) (fun _ h => by cases h) courseTail_row_tie rfl ⟨rfl, rfl⟩ (by kernel_rfl) rfl
    (fun f fn hf hfn => by
      obtain rfl : f = 7 := Option.some.inj ((show Tryd.prog.funcNamed "drydock/drydocklaw08.CourseTail" = some 7 by kernel_rfl).symm.trans hf) |>.symm
      obtain rfl : fn = Tryd.f7 := (Option.some.inj (Tryd.func7.symm.trans hfn)).symm
      exact ⟨by kernel_rfl, fun j t ht => by
        rw [Tryd.params7] at ht
        match j, ht with
        | 0, ht => obtain rfl : t = 22 := by simpa using ht.symm
                   exact (show Tryd.prog.wantsStandIn 22 = false by kernel_rfl)
        | 1, ht => obtain rfl : t = 22 := by simpa using ht.symm
                   exact (show Tryd.prog.wantsStandIn 22 = false by kernel_rfl)
        | j + 2, ht => simp at ht⟩)
    (by kernel_rfl)
#print axioms proved
end Go.Proofs.YtdgfklmbglfbfaaDoor.courseTail
