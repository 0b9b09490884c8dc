/-
  What package bounds' small functions return, as contracts over the translated program: Floor, isWord, May, Of, all, orAll, Ends, Has, Join.
-/
import Derived.Test.YtngeadbdjkjpcaaA
import Derived.Test.YtngeadbdjkjpcaaFl
namespace Go.Proofs.Ytngeadbdjkjpcaa
open Go.RowKit

theorem dfmt : FloatKind.f64.format = Ieee.double := rfl
theorem call59 (x : Int) (hx : x.natAbs < 2 ^ 53) (w : World) : (callFunc 59 #[.float .f64 (fl x)]).run Try.prog w = .ok (.value (.float .f64 (fl x))) w := by
  have h := run_callFunc_extern (P := Try.prog) (f := 59) (e := Extern.MathFloor.toIntegral "math.archFloor" .down) Try.func59 (by kernel_rfl) (by kernel_rfl) (by kernel_rfl) (by kernel_rfl) #[.float .f64 (fl x)] w
  rw [h]
  obtain ⟨k, hk⟩ := read_fl x hx
  have hf := floor_fl x hx
  have e : (Extern.MathFloor.toIntegral "math.archFloor" .down #[.float .f64 (fl x)] : Sem Value) = pure (.float .f64 (fl x)) := by
    have hd : FloatKind.f64.decode (fl x) = .number (decide (x < 0)) (x.natAbs * 2 ^ k) (-(k : Int)) := hk
    rw [hk] at hf
    have he : (pure (.float .f64 (FloatKind.f64.encode ((Ieee.Datum.number (decide (x < 0)) (x.natAbs * 2 ^ k) (-(k : Int))).integral .down))) : Sem Value) = pure (.float .f64 (fl x)) := congrArg (fun q => (pure (.float .f64 q) : Sem Value)) hf
    rw [← he]
    have key : ∃ A : Bool → Nat → Sem Value, (Extern.MathFloor.toIntegral "math.archFloor" .down #[.float .f64 (fl x)] : Sem Value) =
        (match FloatKind.f64.decode (fl x) with | .nan s t => A s t | d => pure (.float .f64 (FloatKind.f64.encode (d.integral .down)))) := ⟨_, rfl⟩
    obtain ⟨A, hA⟩ := key
    rw [hA, hd]
  rw [e]; rfl
theorem floor_any (x : Int) (hx : x.natAbs < 2 ^ 53) (w : World) : Calls Try.prog 57 #[.float .f64 (fl x)] w fun e w' => e = .returned (.float .f64 (fl x)) ∧ w = w' := by
  have hc := fun w => call59 x hx w
  go_enter Try.func57, Try.ntmps57
  go_wp2
  go_ret
  exact ⟨rfl, rfl⟩
theorem cmp_lt {a b : Int} (h : a < b) : compare a b = .lt := by simp [compare, compareOfLessAndEq, h]
theorem cmp_gt {a b : Int} (h : b < a) : compare a b = .gt := by simp [compare, compareOfLessAndEq, show ¬ a < b by omega, show ¬ a = b by omega]
theorem cmp_eq {a b : Int} (h : a = b) : compare a b = .eq := by subst h; simp [compare, compareOfLessAndEq]
def wordB (x : Int) : Bool := decide (0 ≤ x ∧ x ≤ 4294967295)
theorem ord0 {r : Nat} {x : Int} (h : Fv r x) : FloatKind.f64.format.order r 0 = some (compare x 0) := by
  have := order_Fv h 0 (by omega) (by omega); rw [fl0] at this; exact this
theorem ordTop {r : Nat} {x : Int} (h : Fv r x) : FloatKind.f64.format.order r 4751297606873776128 = some (compare x 4294967295) := by
  have := order_Fv h 4294967295 (by omega) (by omega); rw [flTop] at this; exact this
theorem ord_fl (a b : Int) (ha : a.natAbs < 2 ^ 53) (hb : b.natAbs < 2 ^ 53) : FloatKind.f64.format.order (fl a) (fl b) = some (compare a b) := order_fl a b ha hb
theorem geq_of {r s : Nat} {x y : Int} (h : FloatKind.f64.format.order r s = some (compare x y)) : (FloatKind.f64.format.order r s == some .gt || FloatKind.f64.format.order r s == some .eq) = decide (y ≤ x) := by
  rw [h]
  by_cases h1 : x < y
  · rw [cmp_lt h1, decide_eq_false (by omega)]; rfl
  · by_cases h2 : x = y
    · rw [cmp_eq h2, decide_eq_true (by omega)]; rfl
    · rw [cmp_gt (by omega), decide_eq_true (by omega)]; rfl
theorem leq_of {r s : Nat} {x y : Int} (h : FloatKind.f64.format.order r s = some (compare x y)) : (FloatKind.f64.format.order r s == some .lt || FloatKind.f64.format.order r s == some .eq) = decide (x ≤ y) := by
  rw [h]
  by_cases h1 : x < y
  · rw [cmp_lt h1, decide_eq_true (by omega)]; rfl
  · by_cases h2 : x = y
    · rw [cmp_eq h2, decide_eq_true (by omega)]; rfl
    · rw [cmp_gt (by omega), decide_eq_false (by omega)]; rfl
theorem lss_of {r s : Nat} {x y : Int} (h : FloatKind.f64.format.order r s = some (compare x y)) : (FloatKind.f64.format.order r s == some .lt) = decide (x < y) := by
  rw [h]
  by_cases h1 : x < y
  · rw [cmp_lt h1, decide_eq_true (by omega)]; rfl
  · by_cases h2 : x = y
    · rw [cmp_eq h2, decide_eq_false (by omega)]; rfl
    · rw [cmp_gt (by omega), decide_eq_false (by omega)]; rfl
theorem eql_of {r s : Nat} {x y : Int} (h : FloatKind.f64.format.order r s = some (compare x y)) : (FloatKind.f64.format.order r s == some .eq) = decide (x = y) := by
  rw [h]
  by_cases h1 : x < y
  · rw [cmp_lt h1, decide_eq_false (by omega)]; rfl
  · by_cases h2 : x = y
    · rw [cmp_eq h2, decide_eq_true (by omega)]; rfl
    · rw [cmp_gt (by omega), decide_eq_false (by omega)]; rfl
theorem run_geq_fv {r s : Nat} {x y : Int} (h : FloatKind.f64.format.order r s = some (compare x y)) (b : Bool) (hb : decide (y ≤ x) = b) (t : TypeId) : binOp .geq t (.float .f64 r) (.float .f64 s) = pure (.bool b) := by
  rw [binOp_float_cmp_geq, geq_of h, hb]
theorem run_leq_fv {r s : Nat} {x y : Int} (h : FloatKind.f64.format.order r s = some (compare x y)) (b : Bool) (hb : decide (x ≤ y) = b) (t : TypeId) : binOp .leq t (.float .f64 r) (.float .f64 s) = pure (.bool b) := by
  rw [binOp_float_cmp_leq, leq_of h, hb]
theorem isWord_any (r : Nat) (x : Int) (hx : Fv r x) (w : World) : Calls Try.prog 51 #[.float .f64 r] w fun e w' => e = .returned (.bool (wordB x)) ∧ w = w' := by
  have o0 := geq_of (ord0 hx)
  have o1 := leq_of (ordTop hx)
  by_cases h0 : x < 0
  · have e : wordB x = false := decide_eq_false (by omega)
    rw [decide_eq_false (show ¬ 0 ≤ x by omega)] at o0
    rw [e]
    clear o1 h0
    go_enter Try.func51, Try.ntmps51
    go_wp2
    go_ret
    exact ⟨rfl, rfl⟩
  rw [decide_eq_true (show 0 ≤ x by omega)] at o0
  by_cases h1 : 4294967295 < x
  · have e : wordB x = false := decide_eq_false (by omega)
    rw [decide_eq_false (show ¬ x ≤ 4294967295 by omega)] at o1
    rw [e]
    clear h0 h1
    go_enter Try.func51, Try.ntmps51
    go_wp2
    go_ret
    exact ⟨rfl, rfl⟩
  rw [decide_eq_true (show x ≤ 4294967295 by omega)] at o1
  have e : wordB x = true := decide_eq_true (by omega)
  have er := hx.get (by omega)
  subst er
  have o2 := eql_of (ord_fl x x (by omega) (by omega))
  rw [decide_eq_true rfl] at o2
  have hn : x.natAbs < 2 ^ 53 := by omega
  rw [e]
  clear h0 h1
  go_enter Try.func51, Try.ntmps51
  go_wp2_with fail
  refine (floor_any x hn _).mono ?_
  rintro e w' ⟨rfl, rfl⟩
  go_wp2_with fail
  go_ret
  exact ⟨rfl, rfl⟩
/-- Of any two words, in whichever order. -/
theorem of_any (l h : Int) (w : World) : Calls Try.prog 16 #[.int .u32 l, .int .u32 h] w fun e w' => e = .returned (.complex .f64 (fl (min l h)) (fl (max l h))) ∧ w = w' := by
  go_enter Try.func16, Try.ntmps16
  by_cases h1 : l < h
  · have e1 : min l h = l := by omega
    have e2 : max l h = h := by omega
    rw [e1, e2]
    by_cases h2 : h < l
    · omega
    have d1 : decide (l < h) = true := decide_eq_true h1
    have d2 : decide (h < l) = false := decide_eq_false h2
    go_wp2
    go_ret
    exact ⟨rfl, rfl⟩
  · by_cases h2 : h < l
    · have e1 : min l h = h := by omega
      have e2 : max l h = l := by omega
      rw [e1, e2]
      have d1 : decide (l < h) = false := decide_eq_false h1
      have d2 : decide (h < l) = true := decide_eq_true h2
      go_wp2
      go_ret
      exact ⟨rfl, rfl⟩
    · obtain rfl : l = h := by omega
      have e1 : min l l = l := by omega
      have e2 : max l l = l := by omega
      rw [e1, e2]
      go_wp2
      go_ret
      exact ⟨rfl, rfl⟩
end Go.Proofs.Ytngeadbdjkjpcaa
