/-
  Of any code what is next, what is reached and what its longest way costs, whether nothing goes off its end, and of any program what it does, is what the eighth reference says: law CourseTells returns true for every code, place, costs and program.
  Conditions: none; the package variable that the law reads starts as its initialiser lays it (the card ties it).
-/
import Derived.Test.YtdgfklmbglfbfaaDoorRows
import Derived.Test.YtdgfklmbglfbfaaDoorCards
import Derived.Test.YtdgfklmbglfbfaaDoorTie
import Derived.Test.YtdgfklmbglfbfaaDoorD2
import Derived.Test.YtdgfklmbglfbfaaDoorD4
import Derived.Test.YtdgfklmbglfbfaaDoorE1
import Derived.Test.YtdgfklmbglfbfaaDoorE3
import Derived.Test.YtdgfklmbglfbfaaDoorE5
import Derived.Test.YtdgfklmbglfbfaaDoorX1
import Derived.Test.YtdgfklmbglfbfaaDoorO
import Derived.WalkKit
import Derived.ProofKit
import Derived.OpenShut
import Derived.ChangeOld
import Derived.Below
import Derived.SevenTiedAt
namespace Go.Proofs.YtdgfklmbglfbfaaDoor.courseTells
open Go.ChangeShapes Go.WideShapes Go.ChangeAt Go.RowKit
set_option linter.unusedVariables false

set_option maxRecDepth 100000 in
set_option maxHeartbeats 16000000 in
theorem walk (a0 : Option Addr) (len0 cap0 : Nat) (c0 : List I) (a1 : Int) (w1 : (Lit.int .i64 a1).wf = true) (a2 : Option Addr) (len2 cap2 : Nat) (z2 : List Int) (a3 : Option Addr) (len3 cap3 : Nat) (fs3 : List Fun) (w : World) (hR : RowsIn w) (w0 : CodeAt w a0 len0 cap0 c0) (w2 : IntsAt w a2 len2 cap2 z2) (w3 : FnsAt w a3 len3 cap3 fs3) :
    Calls Tryd.prog 3 #[.slice a0 len0 cap0, .int .i64 a1, .slice a2 len2 cap2, .agg #[.slice a3 len3 cap3]] w fun e w' => e = .returned (.bool true) ∧ Below w.heap.size w w' := by
  have hmx := code_max w0
  have hmx2 := w2.max
  have hmx3 : len3 ≤ 9223372036854775807 := by have := w3.2.1; have := w3.2.2.1; unfold maxLen at this; omega
  obtain ⟨P, hP⟩ : ∃ P, w.heap.size = P := ⟨_, rfl⟩
  have hba : Below w.heap.size w (w.alloc (.cells #[.slice a3 len3 cap3] 26)) := (Below.refl _ _).alloc (Nat.le_refl _) _
  obtain ⟨W0, hW0⟩ : ∃ W0, w.alloc (.cells #[.slice a3 len3 cap3] 26) = W0 := ⟨_, rfl⟩
  have hBx : Box W0 P 26 #[.slice a3 len3 cap3] := by rw [← hW0, ← hP]; exact Box.new _ _ _
  rw [hW0] at hba
  have HB := Lib.hid hba
  have HBx := Lib.hid hBx
  have HC := Lib.hid (w0.below hba)
  have HI := Lib.hid (w2.below hba)
  have HF := Lib.hid (w3.below hba)
  have HRw := Lib.hid (hR.later hba)
  clear w0 w2 w3 hba hBx hR
  go_enter Tryd.func3, Tryd.ntmps3
  go_wp2_with fail
  clear hW0 hP
  refine (awake_any _ HRw.out).mono ?_
  rintro e m1 ⟨rfl, hg⟩
  replace HC := Lib.hid (HC.out.below hg)
  replace HI := Lib.hid (HI.out.below hg)
  replace HF := Lib.hid (HF.out.below hg)
  replace HBx := Lib.hid (HBx.out.later hg)
  replace HRw := Lib.hid (HRw.out.later hg)
  replace HB := Lib.hid (HB.out.trans (hg.mono HB.out.size))
  clear hg
  have k1 : m1.cell? ⟨P, 0, none⟩ = some (.slice a3 len3 cap3) := HBx.out.cell rfl
  go_wp2_with fail
  obtain ⟨fw, hfw⟩ : ∃ fw, fewP fs3 = fw := ⟨_, rfl⟩
  have c2 := few_any a3 len3 cap3 fs3 m1 HF.out
  rw [hfw] at c2
  refine (c2).mono ?_
  rintro e m2 ⟨rfl, hg⟩
  replace HC := Lib.hid (HC.out.below hg)
  replace HI := Lib.hid (HI.out.below hg)
  replace HF := Lib.hid (HF.out.below hg)
  replace HBx := Lib.hid (HBx.out.later hg)
  replace HRw := Lib.hid (HRw.out.later hg)
  replace HB := Lib.hid (HB.out.trans (hg.mono HB.out.size))
  clear hg c2 hfw k1
  cases fw
  · go_wp2
    go_ret
    exact ⟨rfl, HB.out⟩
  by_cases h80 : 80 < len0
  · have h80I : (80 : Int) < (len0 : Int) := by omega
    go_wp2
    go_ret
    exact ⟨rfl, HB.out⟩
  have h80I : ¬ (80 : Int) < (len0 : Int) := by omega
  by_cases h20 : 20 < len2
  · have h20I : (20 : Int) < (len2 : Int) := by omega
    go_wp2
    go_ret
    exact ⟨rfl, HB.out⟩
  have h20I : ¬ (20 : Int) < (len2 : Int) := by omega
  go_wp2_with fail
  refine (next_any a0 len0 cap0 c0 a1 _ HRw.out HC.out).mono ?_
  rintro e m3 ⟨b3, l3, p3, rfl, hg, hx, _⟩
  replace HC := Lib.hid (HC.out.below hg)
  replace HI := Lib.hid (HI.out.below hg)
  replace HF := Lib.hid (HF.out.below hg)
  replace HBx := Lib.hid (HBx.out.later hg)
  replace HRw := Lib.hid (HRw.out.later hg)
  replace HB := Lib.hid (HB.out.trans (hg.mono HB.out.size))
  have HX := Lib.hid hx
  clear hg hx
  go_wp2_with fail
  refine (rnext_any a0 len0 cap0 c0 a1 _ HC.out).mono ?_
  rintro e m4 ⟨b4, l4, p4, rfl, hg, hy, _⟩
  replace HC := Lib.hid (HC.out.below hg)
  replace HI := Lib.hid (HI.out.below hg)
  replace HF := Lib.hid (HF.out.below hg)
  replace HX := Lib.hid (HX.out.below hg)
  replace HBx := Lib.hid (HBx.out.later hg)
  replace HRw := Lib.hid (HRw.out.later hg)
  replace HB := Lib.hid (HB.out.trans (hg.mono HB.out.size))
  have HY := Lib.hid hy
  clear hg hy
  go_wp2_with fail
  refine (ints_any b3 b4 l3 p3 l4 p4 _ _ _ HX.out HY.out).mono ?_
  rintro e m5 ⟨rfl, hg⟩
  replace HC := Lib.hid (HC.out.below hg)
  replace HI := Lib.hid (HI.out.below hg)
  replace HF := Lib.hid (HF.out.below hg)
  replace HBx := Lib.hid (HBx.out.later hg)
  replace HRw := Lib.hid (HRw.out.later hg)
  replace HB := Lib.hid (HB.out.trans (hg.mono HB.out.size))
  clear hg HX HY
  rw [show decide (nextP c0 a1 = nextP c0 a1) = true from decide_eq_true rfl]
  go_wp2_with fail
  refine (reach_any a0 len0 cap0 c0 _ HRw.out HC.out).mono ?_
  rintro e m6 ⟨b6, l6, p6, rfl, hg, hx⟩
  replace HC := Lib.hid (HC.out.below hg)
  replace HI := Lib.hid (HI.out.below hg)
  replace HF := Lib.hid (HF.out.below hg)
  replace HBx := Lib.hid (HBx.out.later hg)
  replace HRw := Lib.hid (HRw.out.later hg)
  replace HB := Lib.hid (HB.out.trans (hg.mono HB.out.size))
  have HX := Lib.hid hx
  clear hg hx
  go_wp2_with fail
  refine (rreach_any a0 len0 cap0 c0 _ HC.out).mono ?_
  rintro e m7 ⟨b7, l7, p7, rfl, hg, hy, _⟩
  replace HC := Lib.hid (HC.out.below hg)
  replace HI := Lib.hid (HI.out.below hg)
  replace HF := Lib.hid (HF.out.below hg)
  replace HX := Lib.hid (HX.out.below hg)
  replace HBx := Lib.hid (HBx.out.later hg)
  replace HRw := Lib.hid (HRw.out.later hg)
  replace HB := Lib.hid (HB.out.trans (hg.mono HB.out.size))
  have HY := Lib.hid hy
  clear hg hy
  go_wp2_with fail
  refine (bools_any b6 b7 l6 p6 l7 p7 _ _ _ HX.out HY.out).mono ?_
  rintro e m8 ⟨rfl, hg⟩
  replace HC := Lib.hid (HC.out.below hg)
  replace HI := Lib.hid (HI.out.below hg)
  replace HF := Lib.hid (HF.out.below hg)
  replace HBx := Lib.hid (HBx.out.later hg)
  replace HRw := Lib.hid (HRw.out.later hg)
  replace HB := Lib.hid (HB.out.trans (hg.mono HB.out.size))
  clear hg HX HY
  rw [show decide (reachP c0 = reachP c0) = true from decide_eq_true rfl]
  obtain ⟨lo, hlo⟩ : ∃ lo, longP z2 c0 = lo := ⟨_, rfl⟩
  have HLo := Lib.hid hlo
  clear hlo
  go_wp2_with fail
  have c9 := long_any a0 len0 cap0 c0 a2 len2 cap2 z2 m8 HRw.out HC.out HI.out
  rw [HLo.out] at c9
  refine (c9).mono ?_
  rintro e m10 ⟨rfl, hg⟩
  replace HC := Lib.hid (HC.out.below hg)
  replace HI := Lib.hid (HI.out.below hg)
  replace HF := Lib.hid (HF.out.below hg)
  replace HBx := Lib.hid (HBx.out.later hg)
  replace HRw := Lib.hid (HRw.out.later hg)
  replace HB := Lib.hid (HB.out.trans (hg.mono HB.out.size))
  clear hg c9
  go_wp2_with fail
  have c10 := rlong_any a0 len0 cap0 c0 a2 len2 cap2 z2 m10 HC.out HI.out
  rw [HLo.out] at c10
  refine (c10).mono ?_
  rintro e m11 ⟨rfl, hg⟩
  replace HC := Lib.hid (HC.out.below hg)
  replace HI := Lib.hid (HI.out.below hg)
  replace HF := Lib.hid (HF.out.below hg)
  replace HBx := Lib.hid (HBx.out.later hg)
  replace HRw := Lib.hid (HRw.out.later hg)
  replace HB := Lib.hid (HB.out.trans (hg.mono HB.out.size))
  clear hg c10
  have hll : (lo == lo) = true := by simp
  generalize m11 = w9 at *
  have HK : Hid (∀ w', Below w9.heap.size w9 w' → w'.cell? ⟨P, 0, none⟩ = some (.slice a3 len3 cap3) ∧ Below w9.heap.size w9 w') := Lib.hid (fun w' h => ⟨(HBx.out.later h).cell rfl, h⟩)
  have hq0 : Below w9.heap.size w9 w9.drew := (Below.refl _ _).drew
  have r1 : (fineP c0 == fineP c0) = true := by simp
  have r2 : (budP fs3 == budP fs3) = true := by simp
  obtain ⟨d0, _⟩ := HK.out _ (Below.refl _ _)
  go_wp2_with fail
  go_region_held3 (fun w' => w'.cell? ⟨P, 0, none⟩ = some (.slice a3 len3 cap3) ∧ Below w9.heap.size w9 w')
      (first
        | exact HK.out _ hq0
        | exact hS1
        | exact hS2
        | exact hS3
        | exact hS4)
      (first
        | (go_at_call 19; refine (fine_any a0 len0 cap0 c0 _ (HRw.out.later hq0) (HC.out.below hq0)).mono ?_; rintro e x1 ⟨rfl, hg1⟩; have hq1 := hq0.trans (hg1.mono hq0.size); have hS1 := HK.out _ hq1)
        | (go_at_call 20; refine (rfine_any a0 len0 cap0 c0 _ (HC.out.below hq1)).mono ?_; rintro e x2 ⟨rfl, hg2⟩; have hq2 := hq1.trans (hg2.mono hq1.size); have hS2 := HK.out _ hq2)
        | (go_at_call 21; refine (budget_any a3 len3 cap3 fs3 _ (HRw.out.later hq2) (HF.out.below hq2)).mono ?_; rintro e x3 ⟨rfl, hg3⟩; have hq3 := hq2.trans (hg3.mono hq2.size); have hS3 := HK.out _ hq3)
        | (go_at_call 22; refine (rbudget_any a3 len3 cap3 fs3 _ (HF.out.below hq3)).mono ?_; rintro e x4 ⟨rfl, hg4⟩; have hq4 := hq3.trans (hg4.mono hq3.size); have hS4 := HK.out _ hq4))
  have HBf := Lib.hid (HB.out.trans (hq4.mono HB.out.size))
  clear hS1 hS2 hS3 hS4 hg1 hg2 hg3 hg4 hq1 hq2 hq3 hq4 hq0
  go_wp2
  go_ret
  exact ⟨rfl, HBf.out⟩



theorem own : ownKnob Tryd.prog.godebug = none := by kernel_rfl
theorem laidOut : laidOutB Tryd.prog = true := by kernel_rfl
theorem door_met (os : Os) (args : Array Value) : laidMetH Tryd.prog laidL ((World.doorLaid Tryd.prog 400 os).forCall (fun _ _ => 0) ⟨#[], args, []⟩).memory :=
  laidMetH_of_parts3 (fuel := 8) (laidMet_of_run' 8 (by kernel_rfl) (by kernel_rfl)) (by kernel_rfl) (by kernel_rfl)
set_option maxRecDepth 100000 in
theorem lifted (os : Os) (started : os.Started) (H : Type) (enc : TypeId × Value → H) :
    ReturnsInHanded {} Tryd.checked os 3 .any (fun w args => (Rows.courseTellsSpec.pre enc Tryd.prog Tryd.f3 [] false w args ∧ laidMetH Tryd.prog laidL w) ∧ sizedMet enc Tryd.prog Tryd.f3 (OpenSpec.ofChange Rows.courseTellsSpec) false w args)
      (Rows.courseTellsSpec.post enc Tryd.prog Tryd.f3 false true false false) := by
  refine returnsInHanded_of_change_and (C := Tryd.checked) (X := fun w _ => laidMetH Tryd.prog laidL w) (fun _ _ _ hh h => h.of_heap hh) own started (by kernel_rfl) Tryd.func3
    (ChangeSpec.witness_shaped (enc := enc) (C := Tryd.checked) (os := os) (X := fun w _ => laidMetH Tryd.prog laidL w) false (World.doorLaid Tryd.prog 400 os) #[.slice none 0 0, .int .i64 0, .slice none 0 0, .agg #[.slice none 0 0]] 8 rfl (World.shaped_of_RefB (by kernel_rfl) (by kernel_rfl)) (by kernel_rfl) (by kernel_rfl) (by kernel_rfl) (door_met os _)) ?_
  intro W base args ds gs before hval0 hW _ _ hL _
  have hval : ∀ (j : Nat) t v, Tryd.f3.params[j]? = some t → args[j]? = some v → Value.okWide Tryd.prog W .any base t v := hval0
  have hW' := hW
  obtain ⟨p, q, hA0, hV, rfl, hfz, hnd⟩ := hW
  have hA : DataW.TrodAll enc Tryd.prog W 0 (fun _ => true) true Tryd.f3.params.toList args.toList ds p := hA0
  rw [Tryd.params3] at hA hval
  obtain ⟨v0, vs0, e0, ds0, p0, q0, hargs, rfl, rfl, h0, t0⟩ := trodAll_cons hA
  obtain ⟨v1, vs1, e1, ds1, p1, q1, rfl, rfl, rfl, h1, t1⟩ := trodAll_cons t0
  obtain ⟨v2, vs2, e2, ds2, p2, q2, rfl, rfl, rfl, h2, t2⟩ := trodAll_cons t1
  obtain ⟨v3, vs3, e3, ds3, p3, q3, rfl, rfl, rfl, h3, t3⟩ := trodAll_cons t2
  obtain ⟨rfl, rfl, rfl⟩ := trodAll_nil t3
  obtain rfl : args = #[v0, v1, v2, v3] := by cases args; simp_all
  obtain ⟨rfl, rfl⟩ := trodVars_none hV
  have k0 := h0
  have lt0 : ∀ x ∈ p0, x.block < W.heap.size := by obtain ⟨m, hm⟩ := k0; exact DataW.trod_lt m _ _ _ hm
  have k1 := h1
  have lt1 : ∀ x ∈ p1, x.block < W.heap.size := by obtain ⟨m, hm⟩ := k1; exact DataW.trod_lt m _ _ _ hm
  have k2 := h2
  have lt2 : ∀ x ∈ p2, x.block < W.heap.size := by obtain ⟨m, hm⟩ := k2; exact DataW.trod_lt m _ _ _ hm
  have k3 := h3
  have lt3 : ∀ x ∈ p3, x.block < W.heap.size := by obtain ⟨m, hm⟩ := k3; exact DataW.trod_lt m _ _ _ hm
  obtain ⟨a0, len0, cap0, c0, rfl, w0⟩ := open_code (hval 0 22 v0 rfl rfl) h0
  obtain ⟨a1, rfl, _, _, w1⟩ := open_int Tryd.underlying3 (hval 1 3 v1 rfl rfl) h1
  obtain ⟨a2, len2, cap2, z2, rfl, w2⟩ := open_intl (hval 2 23 v2 rfl rfl) h2
  obtain ⟨a3, len3, cap3, fs3, rfl, w3⟩ := open_prog (hval 3 26 v3 rfl rfl) h3
  clear hA0 hval0
  refine (walk a0 len0 cap0 c0 a1 w1 a2 len2 cap2 z2 a3 len3 cap3 fs3 W (rows_of_laid hL) w0 w2 w3).mono fun e W' ⟨he, bel⟩ => ?_
  subst he
  exact ⟨_, rfl, _, _, _, [], _, [], hW', trodAll_mk1 (shut_bool Tryd.underlying4 _), (trodAll_cons_mk (Below.trod laidOut (by kernel_rfl) (of_decide_eq_true (by kernel_rfl)) k0 bel lt0) (trodAll_cons_mk (Below.trod laidOut (by kernel_rfl) (of_decide_eq_true (by kernel_rfl)) k1 bel lt1) (trodAll_cons_mk (Below.trod laidOut (by kernel_rfl) (of_decide_eq_true (by kernel_rfl)) k2 bel lt2) (trodAll_cons_mk (Below.trod laidOut (by kernel_rfl) (of_decide_eq_true (by kernel_rfl)) k3 bel lt3) trodAll_mk0)))), rfl, bel.frame _, fun h => by cases h⟩

theorem over : Rows.courseTellsRow.holds Tryd.pinned (OpenSpec.ofChange Rows.courseTellsSpec) :=
  OpenClaim.holds_of_wide 3 Tryd.f3 rfl rfl rfl rfl rfl rfl rfl ⟨rfl, rfl, rfl, rfl, rfl⟩ rfl rfl rfl rfl rfl (by kernel_rfl) Tryd.func3 (by kernel_rfl)
    (of_decide_eq_true (by kernel_rfl)) (by unfold Func.isWrapper; first | (rw [if_pos (by decide +kernel)]; kernel_rfl) | (rw [if_neg (by decide +kernel)]; exact ⟨rfl, rfl⟩))
    (fun os started H enc _ => lifted os started H enc)

theorem proved : Rows.CourseTellsCardSaid :=
  Claim7.holds_tied_plain_at .later [] [.data] true (true, "7d0a0e285f706a861ae4768e5e684a9390231320807c5470609f1b673339f244") false
    over (fun _ h => by cases h) (by kernel_rfl) (fun _ h => by cases h) courseTells_row_tie rfl ⟨rfl, rfl⟩ (by kernel_rfl) rfl
    (fun f fn hf hfn => by
      obtain rfl : f = 3 := Option.some.inj ((show Tryd.prog.funcNamed "drydock/drydocklaw08.CourseTells" = some 3 by kernel_rfl).symm.trans hf) |>.symm
      obtain rfl : fn = Tryd.f3 := (Option.some.inj (Tryd.func3.symm.trans hfn)).symm
      exact ⟨by kernel_rfl, fun j t ht => by
        rw [Tryd.params3] at ht
        match j, ht with
        | 0, ht => obtain rfl : t = 22 := by simpa using ht.symm
                   exact (show Tryd.prog.wantsStandIn 22 = false by kernel_rfl)
        | 1, ht => obtain rfl : t = 3 := by simpa using ht.symm
                   exact (show Tryd.prog.wantsStandIn 3 = false by kernel_rfl)
        | 2, ht => obtain rfl : t = 23 := by simpa using ht.symm
                   exact (show Tryd.prog.wantsStandIn 23 = false by kernel_rfl)
        | 3, ht => obtain rfl : t = 26 := by simpa using ht.symm
                   exact (show Tryd.prog.wantsStandIn 26 = false by kernel_rfl)
        | j + 4, ht => simp at ht⟩)
    (by kernel_rfl)
#print axioms proved
end Go.Proofs.YtdgfklmbglfbfaaDoor.courseTells
