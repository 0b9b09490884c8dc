/-
  Of Eq and Ne, and of Lt and Ge, just one holds; of two words one is less, or both are the same; Always always holds: law AluHolds returns true for every two words.
  Conditions: none.
-/
import Derived.Test.YtdhmfdfmblheoaaRows
import Derived.Test.YtdhmfdfmblheoaaA
import Derived.WalkKit
import Derived.ProofKit
import Derived.OpenShut
namespace Go.Proofs.Ytdhmfdfmblheoaa.aluHolds
open Go.ChangeShapes Go.WideShapes Go.ChangeAt Go.RowKit
set_option linter.unusedVariables false      -- a walk need not use every 'w<i>' (that an integer argument fits its kind)

theorem own : ownKnob Try.prog.godebug = none := by kernel_rfl

theorem h0 (a b : Int) : holdsB 0 a b = true := rfl
theorem h1 (a b : Int) : holdsB 1 a b = (a == b) := rfl
theorem h2 (a b : Int) : holdsB 2 a b = (a != b) := rfl
theorem h3 (a b : Int) : holdsB 3 a b = decide (a < b) := rfl
theorem h4 (a b : Int) : holdsB 4 a b = decide (b ≤ a) := rfl
set_option maxHeartbeats 400000 in
theorem walk (a0 : Int) (a1 : Int) (w0 : (Lit.int .u32 a0).wf = true) (w1 : (Lit.int .u32 a1).wf = true) (w : World) :
    Calls Try.prog 7 #[.int .u32 a0, .int .u32 a1] w fun e w' => e = .returned (.bool true) ∧ Grown w w' := by
  obtain ⟨b0, b1⟩ := bounds_u32 w0
  obtain ⟨c0, c1⟩ := bounds_u32 w1
  have k0 := condB_of 0 (by omega) (by omega)
  have k1 := condB_of 1 (by omega) (by omega)
  have k2 := condB_of 2 (by omega) (by omega)
  have k3 := condB_of 3 (by omega) (by omega)
  have k4 := condB_of 4 (by omega) (by omega)
  have hg := Grown.refl w
  rcases Int.lt_trichotomy a0 a1 with hlt | heq | hgt
  · have eq : (a0 == a1) = false := by simp; omega
    have e0 : holdsB 0 a0 a1 = true := by rw [h0]
    have e1 : holdsB 1 a0 a1 = false := by rw [h1]; simp <;> omega
    have e2 : holdsB 2 a0 a1 = true := by rw [h2]; simp <;> omega
    have e3 : holdsB 3 a0 a1 = true := by rw [h3]; simp <;> omega
    have e4 : holdsB 4 a0 a1 = false := by rw [h4]; simp <;> omega
    have e5 : holdsB 3 a1 a0 = false := by rw [h3]; simp <;> omega
    go_enter Try.func7, Try.ntmps7
    go_wp2_with (first | (go_at_call 11; refine (awake_any _).mono ?_; rintro e w' ⟨rfl, hg2⟩; replace hg := grown_trans hg hg2; clear hg2) | (go_at_call 14; refine (holds_any _ _ _ _).mono ?_; rintro e w' ⟨rfl, rfl⟩))
    go_ret
    exact ⟨rfl, hg⟩
  · subst heq
    have e0 : holdsB 0 a0 a0 = true := by rw [h0]
    have e1 : holdsB 1 a0 a0 = true := by rw [h1]; simp
    have e2 : holdsB 2 a0 a0 = false := by rw [h2]; simp
    have e3 : holdsB 3 a0 a0 = false := by rw [h3]; simp
    have e4 : holdsB 4 a0 a0 = true := by rw [h4]; simp
    go_enter Try.func7, Try.ntmps7
    go_wp2_with (first | (go_at_call 11; refine (awake_any _).mono ?_; rintro e w' ⟨rfl, hg2⟩; replace hg := grown_trans hg hg2; clear hg2) | (go_at_call 14; refine (holds_any _ _ _ _).mono ?_; rintro e w' ⟨rfl, rfl⟩))
    go_ret
    exact ⟨rfl, hg⟩
  · have eq : (a0 == a1) = false := by simp; omega
    have e0 : holdsB 0 a0 a1 = true := by rw [h0]
    have e1 : holdsB 1 a0 a1 = false := by rw [h1]; simp <;> omega
    have e2 : holdsB 2 a0 a1 = true := by rw [h2]; simp <;> omega
    have e3 : holdsB 3 a0 a1 = false := by rw [h3]; simp <;> omega
    have e4 : holdsB 4 a0 a1 = true := by rw [h4]; simp <;> omega
    have e5 : holdsB 3 a1 a0 = true := by rw [h3]; simp <;> omega
    go_enter Try.func7, Try.ntmps7
    go_wp2_with (first | (go_at_call 11; refine (awake_any _).mono ?_; rintro e w' ⟨rfl, hg2⟩; replace hg := grown_trans hg hg2; clear hg2) | (go_at_call 14; refine (holds_any _ _ _ _).mono ?_; rintro e w' ⟨rfl, rfl⟩))
    go_ret
    exact ⟨rfl, hg⟩

/-! ### THE ROW's STEP: WRITTEN OUT: LEAVE IT -/
set_option maxRecDepth 100000 in
theorem lifted (os : Os) (started : os.Started) (H : Type) (enc : TypeId × Value → H) :
    ReturnsInHanded {} Try.checked os 7 .any (Rows.aluHoldsSpec.pre6 enc Try.prog Try.f7 Rows.aluHoldsRow.domain false) (Rows.aluHoldsSpec.post enc Try.prog Try.f7 false true false false) := by
  refine returnsInHanded_of_change (C := Try.checked) own started (by kernel_rfl) Try.func7
    (ChangeSpec.witness6 (enc := enc) (C := Try.checked) false ⟨#[], #[.int .u32 0, .int .u32 0], []⟩ 8 (by kernel_rfl) (by kernel_rfl) (by kernel_rfl) (by kernel_rfl)) ?_
  intro W base args ds gs before hval0 hW hcnd _
  have hval : ∀ (j : Nat) t v, Try.f7.params[j]? = some t → args[j]? = some v → Value.okWide Try.prog W .any base t v := hval0
  have hW' := hW
  obtain ⟨p, q, hA0, hV, rfl, hfz, hnd⟩ := hW
  have hA : DataW.TrodAll enc Try.prog W 0 (fun _ => true) true Try.f7.params.toList args.toList ds p := hA0
  rw [Try.params7] at hA hval
  obtain ⟨v0, vs0, d0, ds0, p0, q0, hargs, rfl, rfl, h0, r0⟩ := trodAll_cons hA
  obtain ⟨v1, vs1, d1, ds1, p1, q1, rfl, rfl, rfl, h1, r1⟩ := trodAll_cons r0
  obtain ⟨rfl, rfl, rfl⟩ := trodAll_nil r1
  obtain rfl : args = #[v0, v1] := by cases args; simp_all
  obtain ⟨rfl, rfl⟩ := trodVars_none hV
  obtain ⟨a0, rfl, rfl, rfl, w0⟩ := open_int Try.underlying22 (hval 0 22 v0 rfl rfl) h0
  obtain ⟨a1, rfl, rfl, rfl, w1⟩ := open_int Try.underlying22 (hval 1 22 v1 rfl rfl) h1
  clear hA0 hval0
  simp only [List.append_nil] at hW'
  refine (walk a0 a1 w0 w1 W).mono fun e W' ⟨he, hg⟩ => ?_
  subst he
  exact ⟨_, rfl, post_of_same (pa := []) (pv := []) hW' (fun _ _ _ => (trodAll_cons_mk (shut_bool Try.underlying4 _) trodAll_mk0)) (fun sp _ => (trodAll_cons_mk (shut_int Try.underlying22 w0) (trodAll_cons_mk (shut_int Try.underlying22 w1) trodAll_mk0))) (fun _ _ => rfl) rfl
    (hg.frame _) hg.2.1 (ok_one (by kernel_rfl) rfl (okWide_bool_mk Try.underlying4 _))⟩

theorem over : Rows.aluHoldsRow.holds Try.pinned (OpenSpec.ofChange Rows.aluHoldsSpec) :=
  OpenClaim.holds_of_wide 7 Try.f7 rfl rfl rfl rfl rfl rfl rfl ⟨rfl, rfl, rfl, rfl, rfl⟩ rfl rfl rfl rfl rfl (by kernel_rfl) Try.func7 (by kernel_rfl)
    (of_decide_eq_true (by kernel_rfl)) (by unfold Func.isWrapper; first | (rw [if_pos (by decide +kernel)]; kernel_rfl) | (rw [if_neg (by decide +kernel)]; exact ⟨rfl, rfl⟩))
    (fun os started H enc _ => lifted os started H enc)

/-- ████ THE STATEMENT ████ -/
theorem proved : Rows.AluHoldsSaid :=
  over
#print axioms proved
end Go.Proofs.Ytdhmfdfmblheoaa.aluHolds
