/-
  Texts that the laws of this layer stand on, one behind the other.
-/
import Derived.Laws.BitsAllLaws
import Derived.Test.YtilddlgcfbefiaaDoorTM
import Derived.WalkKit
import Derived.ProofKit
import Derived.OpenShut
import Derived.Below
import Derived.WalkSpells
import Derived.WalkLawsBesides
import Derived.Outline
import Derived.Lib.Hide
import Derived.Laws.ResultCell
import Derived.Laws.EntriesVeiled
/-
  The operations on words as plain functions on numbers, and their laws. Nothing of the program is used here.
-/
namespace Go.Proofs.YtilddlgcfbefiaaDoor
set_option linter.unusedSimpArgs false
set_option linter.unusedVariables false

def doN : Nat → Nat → Nat → Nat
  | 0, _, b => b
  | 1, a, b => (a + b) % 4294967296
  | 2, a, b => (a + (4294967296 - b)) % 4294967296
  | 3, a, b => a * b % 4294967296
  | 4, a, b => a / b
  | 5, a, b => a % b
  | 6, a, b => a &&& b
  | 7, a, b => a ||| b
  | 8, a, b => a ^^^ b
  | 9, a, b => a * 2 ^ (b % 32) % 4294967296
  | 10, a, b => a / 2 ^ (b % 32)
  | _, _, _ => 0
def doI (op a b : Int) : Int := (doN op.toNat a.toNat b.toNat : Nat)
theorem doN_lt (op a b : Nat) (ha : a < 4294967296) (hb : b < 4294967296) : doN op a b < 4294967296 := by
  match op with
  | 0 => exact hb
  | 1 => simp only [doN]; omega
  | 2 => simp only [doN]; omega
  | 3 => simp only [doN]; omega
  | 4 => simp only [doN]; have := Nat.div_le_self a b; omega
  | 5 => simp only [doN]; have := Nat.mod_le a b; omega
  | 6 => simp only [doN]; exact Nat.and_lt_two_pow (n := 32) _ hb
  | 7 => simp only [doN]; exact Nat.or_lt_two_pow (n := 32) ha hb
  | 8 => simp only [doN]; exact Nat.xor_lt_two_pow (n := 32) ha hb
  | 9 => simp only [doN]; omega
  | 10 => simp only [doN]; have := Nat.div_le_self a (2 ^ (b % 32)); omega
  | n + 11 => simp [doN]
theorem div_cast (a b : Nat) (h : a < 4294967296) : (a : Int) / (b : Int) % 4294967296 = ((a / b : Nat) : Int) := by
  have hq := Nat.div_le_self a b
  rw [← Int.natCast_ediv]
  generalize a / b = q at *
  exact Int.emod_eq_of_lt (by omega) (by omega)
theorem doI_ge (op a b : Int) : 0 ≤ doI op a b := by unfold doI; omega
theorem doI_le (op a b : Int) (ha : a ≤ 4294967295) (hb : b ≤ 4294967295) : doI op a b ≤ 4294967295 := by
  unfold doI; have := doN_lt op.toNat a.toNat b.toNat (by omega) (by omega); omega
def holdsB (c a b : Int) : Bool := if c = 0 then true else if c = 1 then a == b else if c = 2 then a != b else if c = 3 then decide (a < b) else if c = 4 then decide (b ≤ a) else false
def condB (c : Int) : Bool := decide (0 ≤ c ∧ c ≤ 4)
theorem condB_of (c : Int) (h0 : 0 ≤ c) (h1 : c ≤ 4) : condB c = true := by simp [condB]; omega
theorem condB_not (c : Int) (h : ¬ (0 ≤ c ∧ c ≤ 4)) : condB c = false := by simp [condB]; omega
theorem holdsB_not (c a b : Int) (h : ¬ (0 ≤ c ∧ c ≤ 4)) : holdsB c a b = false := by
  unfold holdsB; rw [if_neg (by omega), if_neg (by omega), if_neg (by omega), if_neg (by omega), if_neg (by omega)]
theorem xor_ones (a : Nat) (ha : a < 4294967296) : a ^^^ 4294967295 = 4294967295 - a := by
  have h := congrArg BitVec.toNat (BitVec.xor_allOnes (x := BitVec.ofNat 32 a))
  simp only [BitVec.toNat_xor, BitVec.toNat_not, BitVec.toNat_ofNat, BitVec.toNat_allOnes] at h
  rw [Nat.mod_eq_of_lt (by omega)] at h
  exact h
end Go.Proofs.YtilddlgcfbefiaaDoor

/-
  What package alu's operations and comparisons return, as contracts over the translated program: each of the eleven operations, Do and Holds.
-/
namespace Go.Proofs.YtilddlgcfbefiaaDoor
set_option linter.unusedSimpArgs false
set_option linter.unusedVariables false
open Go.RowKit

def opsV : Value := .agg #[.func (.func 107) #[] #[], .func (.func 108) #[] #[], .func (.func 109) #[] #[], .func (.func 110) #[] #[], .func (.func 111) #[] #[], .func (.func 112) #[] #[], .func (.func 113) #[] #[], .func (.func 114) #[] #[], .func (.func 115) #[] #[], .func (.func 116) #[] #[], .func (.func 117) #[] #[]]
theorem ops_any (w : World) : Calls Tryd.prog 103 #[] w fun e w' => e = .returned opsV ∧ Below w.heap.size w w' := by
  go_enter Tryd.func103, Tryd.ntmps103
  go_wp2
  refine bodyPost_ret (v := opsV) (by simp [results, Tryd.results103, go_sem, opsV]) rfl ⟨rfl, ?_⟩
  exact (Below.refl _ _).alloc (Nat.le_refl _) _
theorem fld (k : Nat) (w : World) : (Instr.field 154 (.agg #[.func (.func k) #[] #[]]) 0).run Tryd.prog w = .ok (.func (.func k) #[] #[]) w := by kernel_rfl
theorem ret_int {k : IntKind} {a b : Int} (h : a = b) : Ending.returned (.int k a) = .returned (.int k b) := by rw [h]
theorem move_any (a b : Nat) (w : World) (_ha : a < 4294967296) (_hb : b < 4294967296) : Calls Tryd.prog 107 #[.int .u32 a, .int .u32 b] w fun e w' => e = .returned (.int .u32 (doN 0 a b)) ∧ w = w' := by
  go_enter Tryd.func107, Tryd.ntmps107
  go_wp2
  go_ret
  exact ⟨ret_int (by simp [doN]), rfl⟩
theorem add_any (a b : Nat) (w : World) (_ha : a < 4294967296) (_hb : b < 4294967296) : Calls Tryd.prog 108 #[.int .u32 a, .int .u32 b] w fun e w' => e = .returned (.int .u32 (doN 1 a b)) ∧ w = w' := by
  go_enter Tryd.func108, Tryd.ntmps108
  go_wp2
  go_ret
  exact ⟨ret_int (by simp [doN]), rfl⟩
theorem sub_any (a b : Nat) (w : World) (_ha : a < 4294967296) (_hb : b < 4294967296) : Calls Tryd.prog 109 #[.int .u32 a, .int .u32 b] w fun e w' => e = .returned (.int .u32 (doN 2 a b)) ∧ w = w' := by
  go_enter Tryd.func109, Tryd.ntmps109
  go_wp2
  go_ret
  exact ⟨ret_int (by simp only [doN]; omega), rfl⟩
theorem mul_any (a b : Nat) (w : World) (_ha : a < 4294967296) (_hb : b < 4294967296) : Calls Tryd.prog 110 #[.int .u32 a, .int .u32 b] w fun e w' => e = .returned (.int .u32 (doN 3 a b)) ∧ w = w' := by
  go_enter Tryd.func110, Tryd.ntmps110
  go_wp2
  go_ret
  exact ⟨ret_int (by simp [doN]), rfl⟩
theorem div_any (a b : Nat) (w : World) (_ha : a < 4294967296) (_hb : b < 4294967296) : Calls Tryd.prog 111 #[.int .u32 a, .int .u32 b] w fun e w' => e = .returned (.int .u32 (doN 4 a b)) ∧ w = w' := by
  by_cases h : b = 0
  · subst h
    go_enter Tryd.func111, Tryd.ntmps111
    go_wp2
    go_ret
    exact ⟨ret_int (by simp [doN]), rfl⟩
  · have h1 : ((b : Int) == 0) = false := by simp; omega
    have h2 : ¬ (b : Int) = 0 := by omega
    clear h
    go_enter Tryd.func111, Tryd.ntmps111
    go_wp2
    go_ret
    exact ⟨ret_int (by simp only [doN]; exact div_cast a b _ha), rfl⟩
theorem mod_any (a b : Nat) (w : World) (_ha : a < 4294967296) (_hb : b < 4294967296) : Calls Tryd.prog 112 #[.int .u32 a, .int .u32 b] w fun e w' => e = .returned (.int .u32 (doN 5 a b)) ∧ w = w' := by
  by_cases h : b = 0
  · subst h
    go_enter Tryd.func112, Tryd.ntmps112
    go_wp2
    go_ret
    exact ⟨ret_int (by simp [doN]), rfl⟩
  · have h1 : ((b : Int) == 0) = false := by simp; omega
    have h2 : ¬ (b : Int) = 0 := by omega
    clear h
    go_enter Tryd.func112, Tryd.ntmps112
    go_wp2
    go_ret
    exact ⟨ret_int (by simp [doN]), rfl⟩
theorem and_any (a b : Nat) (w : World) (_ha : a < 4294967296) (_hb : b < 4294967296) : Calls Tryd.prog 113 #[.int .u32 a, .int .u32 b] w fun e w' => e = .returned (.int .u32 (doN 6 a b)) ∧ w = w' := by
  have hz := Lib.hid (u32_and_nat a b _ha _hb)
  go_enter Tryd.func113, Tryd.ntmps113
  go_wp2
  go_ret
  exact ⟨ret_int (by rw [hz.out]; rfl), rfl⟩
theorem or_any (a b : Nat) (w : World) (_ha : a < 4294967296) (_hb : b < 4294967296) : Calls Tryd.prog 114 #[.int .u32 a, .int .u32 b] w fun e w' => e = .returned (.int .u32 (doN 7 a b)) ∧ w = w' := by
  have hz := Lib.hid (u32_or_nat a b _ha _hb)
  go_enter Tryd.func114, Tryd.ntmps114
  go_wp2
  go_ret
  exact ⟨ret_int (by rw [hz.out]; rfl), rfl⟩
theorem xor_any (a b : Nat) (w : World) (_ha : a < 4294967296) (_hb : b < 4294967296) : Calls Tryd.prog 115 #[.int .u32 a, .int .u32 b] w fun e w' => e = .returned (.int .u32 (doN 8 a b)) ∧ w = w' := by
  have hz := Lib.hid (u32_xor_nat a b _ha _hb)
  go_enter Tryd.func115, Tryd.ntmps115
  go_wp2
  go_ret
  exact ⟨ret_int (by rw [hz.out]; rfl), rfl⟩
theorem shl_any (a b : Nat) (w : World) (_ha : a < 4294967296) (_hb : b < 4294967296) : Calls Tryd.prog 116 #[.int .u32 a, .int .u32 b] w fun e w' => e = .returned (.int .u32 (doN 9 a b)) ∧ w = w' := by
  go_enter Tryd.func116, Tryd.ntmps116
  go_wp2
  go_ret
  exact ⟨ret_int (by simp [doN]), rfl⟩
theorem shr_any (a b : Nat) (w : World) (_ha : a < 4294967296) (_hb : b < 4294967296) : Calls Tryd.prog 117 #[.int .u32 a, .int .u32 b] w fun e w' => e = .returned (.int .u32 (doN 10 a b)) ∧ w = w' := by
  go_enter Tryd.func117, Tryd.ntmps117
  go_wp2
  go_ret
  exact ⟨ret_int (by simp [doN]), rfl⟩
theorem do0 (a b : Nat) (w : World) (ha : a < 4294967296) (hb : b < 4294967296) :
    Calls Tryd.prog 92 #[.int .i64 0, .int .u32 a, .int .u32 b] w fun e w' => e = .returned (.tuple #[.int .u32 (doN 0 a b), .bool true]) ∧ Below w.heap.size w w' := by
  have hi : ∀ w, (Instr.index 155 opsV (.int .i64 0)).run Tryd.prog w = .ok (.agg #[.func (.func 107) #[] #[]]) w := fun _ => by kernel_rfl
  have hf := fld 107
  go_enter Tryd.func92, Tryd.ntmps92
  go_wp2_with fail
  refine (ops_any _).mono ?_
  rintro e w' ⟨rfl, hg⟩
  go_wp2_with fail
  refine (move_any a b _ ha hb).mono ?_
  rintro e w' ⟨rfl, rfl⟩
  go_wp2_with fail
  go_ret2
  exact ⟨rfl, hg⟩
theorem do1 (a b : Nat) (w : World) (ha : a < 4294967296) (hb : b < 4294967296) :
    Calls Tryd.prog 92 #[.int .i64 1, .int .u32 a, .int .u32 b] w fun e w' => e = .returned (.tuple #[.int .u32 (doN 1 a b), .bool true]) ∧ Below w.heap.size w w' := by
  have hi : ∀ w, (Instr.index 155 opsV (.int .i64 1)).run Tryd.prog w = .ok (.agg #[.func (.func 108) #[] #[]]) w := fun _ => by kernel_rfl
  have hf := fld 108
  go_enter Tryd.func92, Tryd.ntmps92
  go_wp2_with fail
  refine (ops_any _).mono ?_
  rintro e w' ⟨rfl, hg⟩
  go_wp2_with fail
  refine (add_any a b _ ha hb).mono ?_
  rintro e w' ⟨rfl, rfl⟩
  go_wp2_with fail
  go_ret2
  exact ⟨rfl, hg⟩
theorem do2 (a b : Nat) (w : World) (ha : a < 4294967296) (hb : b < 4294967296) :
    Calls Tryd.prog 92 #[.int .i64 2, .int .u32 a, .int .u32 b] w fun e w' => e = .returned (.tuple #[.int .u32 (doN 2 a b), .bool true]) ∧ Below w.heap.size w w' := by
  have hi : ∀ w, (Instr.index 155 opsV (.int .i64 2)).run Tryd.prog w = .ok (.agg #[.func (.func 109) #[] #[]]) w := fun _ => by kernel_rfl
  have hf := fld 109
  go_enter Tryd.func92, Tryd.ntmps92
  go_wp2_with fail
  refine (ops_any _).mono ?_
  rintro e w' ⟨rfl, hg⟩
  go_wp2_with fail
  refine (sub_any a b _ ha hb).mono ?_
  rintro e w' ⟨rfl, rfl⟩
  go_wp2_with fail
  go_ret2
  exact ⟨rfl, hg⟩
theorem do3 (a b : Nat) (w : World) (ha : a < 4294967296) (hb : b < 4294967296) :
    Calls Tryd.prog 92 #[.int .i64 3, .int .u32 a, .int .u32 b] w fun e w' => e = .returned (.tuple #[.int .u32 (doN 3 a b), .bool true]) ∧ Below w.heap.size w w' := by
  have hi : ∀ w, (Instr.index 155 opsV (.int .i64 3)).run Tryd.prog w = .ok (.agg #[.func (.func 110) #[] #[]]) w := fun _ => by kernel_rfl
  have hf := fld 110
  go_enter Tryd.func92, Tryd.ntmps92
  go_wp2_with fail
  refine (ops_any _).mono ?_
  rintro e w' ⟨rfl, hg⟩
  go_wp2_with fail
  refine (mul_any a b _ ha hb).mono ?_
  rintro e w' ⟨rfl, rfl⟩
  go_wp2_with fail
  go_ret2
  exact ⟨rfl, hg⟩
theorem do4 (a b : Nat) (w : World) (ha : a < 4294967296) (hb : b < 4294967296) :
    Calls Tryd.prog 92 #[.int .i64 4, .int .u32 a, .int .u32 b] w fun e w' => e = .returned (.tuple #[.int .u32 (doN 4 a b), .bool true]) ∧ Below w.heap.size w w' := by
  have hi : ∀ w, (Instr.index 155 opsV (.int .i64 4)).run Tryd.prog w = .ok (.agg #[.func (.func 111) #[] #[]]) w := fun _ => by kernel_rfl
  have hf := fld 111
  go_enter Tryd.func92, Tryd.ntmps92
  go_wp2_with fail
  refine (ops_any _).mono ?_
  rintro e w' ⟨rfl, hg⟩
  go_wp2_with fail
  refine (div_any a b _ ha hb).mono ?_
  rintro e w' ⟨rfl, rfl⟩
  go_wp2_with fail
  go_ret2
  exact ⟨rfl, hg⟩
theorem do5 (a b : Nat) (w : World) (ha : a < 4294967296) (hb : b < 4294967296) :
    Calls Tryd.prog 92 #[.int .i64 5, .int .u32 a, .int .u32 b] w fun e w' => e = .returned (.tuple #[.int .u32 (doN 5 a b), .bool true]) ∧ Below w.heap.size w w' := by
  have hi : ∀ w, (Instr.index 155 opsV (.int .i64 5)).run Tryd.prog w = .ok (.agg #[.func (.func 112) #[] #[]]) w := fun _ => by kernel_rfl
  have hf := fld 112
  go_enter Tryd.func92, Tryd.ntmps92
  go_wp2_with fail
  refine (ops_any _).mono ?_
  rintro e w' ⟨rfl, hg⟩
  go_wp2_with fail
  refine (mod_any a b _ ha hb).mono ?_
  rintro e w' ⟨rfl, rfl⟩
  go_wp2_with fail
  go_ret2
  exact ⟨rfl, hg⟩
theorem do6 (a b : Nat) (w : World) (ha : a < 4294967296) (hb : b < 4294967296) :
    Calls Tryd.prog 92 #[.int .i64 6, .int .u32 a, .int .u32 b] w fun e w' => e = .returned (.tuple #[.int .u32 (doN 6 a b), .bool true]) ∧ Below w.heap.size w w' := by
  have hi : ∀ w, (Instr.index 155 opsV (.int .i64 6)).run Tryd.prog w = .ok (.agg #[.func (.func 113) #[] #[]]) w := fun _ => by kernel_rfl
  have hf := fld 113
  go_enter Tryd.func92, Tryd.ntmps92
  go_wp2_with fail
  refine (ops_any _).mono ?_
  rintro e w' ⟨rfl, hg⟩
  go_wp2_with fail
  refine (and_any a b _ ha hb).mono ?_
  rintro e w' ⟨rfl, rfl⟩
  go_wp2_with fail
  go_ret2
  exact ⟨rfl, hg⟩
theorem do7 (a b : Nat) (w : World) (ha : a < 4294967296) (hb : b < 4294967296) :
    Calls Tryd.prog 92 #[.int .i64 7, .int .u32 a, .int .u32 b] w fun e w' => e = .returned (.tuple #[.int .u32 (doN 7 a b), .bool true]) ∧ Below w.heap.size w w' := by
  have hi : ∀ w, (Instr.index 155 opsV (.int .i64 7)).run Tryd.prog w = .ok (.agg #[.func (.func 114) #[] #[]]) w := fun _ => by kernel_rfl
  have hf := fld 114
  go_enter Tryd.func92, Tryd.ntmps92
  go_wp2_with fail
  refine (ops_any _).mono ?_
  rintro e w' ⟨rfl, hg⟩
  go_wp2_with fail
  refine (or_any a b _ ha hb).mono ?_
  rintro e w' ⟨rfl, rfl⟩
  go_wp2_with fail
  go_ret2
  exact ⟨rfl, hg⟩
theorem do8 (a b : Nat) (w : World) (ha : a < 4294967296) (hb : b < 4294967296) :
    Calls Tryd.prog 92 #[.int .i64 8, .int .u32 a, .int .u32 b] w fun e w' => e = .returned (.tuple #[.int .u32 (doN 8 a b), .bool true]) ∧ Below w.heap.size w w' := by
  have hi : ∀ w, (Instr.index 155 opsV (.int .i64 8)).run Tryd.prog w = .ok (.agg #[.func (.func 115) #[] #[]]) w := fun _ => by kernel_rfl
  have hf := fld 115
  go_enter Tryd.func92, Tryd.ntmps92
  go_wp2_with fail
  refine (ops_any _).mono ?_
  rintro e w' ⟨rfl, hg⟩
  go_wp2_with fail
  refine (xor_any a b _ ha hb).mono ?_
  rintro e w' ⟨rfl, rfl⟩
  go_wp2_with fail
  go_ret2
  exact ⟨rfl, hg⟩
theorem do9 (a b : Nat) (w : World) (ha : a < 4294967296) (hb : b < 4294967296) :
    Calls Tryd.prog 92 #[.int .i64 9, .int .u32 a, .int .u32 b] w fun e w' => e = .returned (.tuple #[.int .u32 (doN 9 a b), .bool true]) ∧ Below w.heap.size w w' := by
  have hi : ∀ w, (Instr.index 155 opsV (.int .i64 9)).run Tryd.prog w = .ok (.agg #[.func (.func 116) #[] #[]]) w := fun _ => by kernel_rfl
  have hf := fld 116
  go_enter Tryd.func92, Tryd.ntmps92
  go_wp2_with fail
  refine (ops_any _).mono ?_
  rintro e w' ⟨rfl, hg⟩
  go_wp2_with fail
  refine (shl_any a b _ ha hb).mono ?_
  rintro e w' ⟨rfl, rfl⟩
  go_wp2_with fail
  go_ret2
  exact ⟨rfl, hg⟩
theorem do10 (a b : Nat) (w : World) (ha : a < 4294967296) (hb : b < 4294967296) :
    Calls Tryd.prog 92 #[.int .i64 10, .int .u32 a, .int .u32 b] w fun e w' => e = .returned (.tuple #[.int .u32 (doN 10 a b), .bool true]) ∧ Below w.heap.size w w' := by
  have hi : ∀ w, (Instr.index 155 opsV (.int .i64 10)).run Tryd.prog w = .ok (.agg #[.func (.func 117) #[] #[]]) w := fun _ => by kernel_rfl
  have hf := fld 117
  go_enter Tryd.func92, Tryd.ntmps92
  go_wp2_with fail
  refine (ops_any _).mono ?_
  rintro e w' ⟨rfl, hg⟩
  go_wp2_with fail
  refine (shr_any a b _ ha hb).mono ?_
  rintro e w' ⟨rfl, rfl⟩
  go_wp2_with fail
  go_ret2
  exact ⟨rfl, hg⟩
/-- 'Do' of a number that is none. -/
theorem do_none (op a b : Int) (w : World) (h : op < 0 ∨ 11 ≤ op) :
    Calls Tryd.prog 92 #[.int .i64 op, .int .u32 a, .int .u32 b] w fun e w' => e = .returned (.tuple #[.int .u32 0, .bool false]) ∧ Below w.heap.size w w' := by
  rcases h with h | h
  · have e1 : decide (op < 0) = true := by simp; omega
    go_enter Tryd.func92, Tryd.ntmps92
    go_wp2
    go_ret2
    exact ⟨rfl, Below.refl _ _⟩
  · have e1 : decide (op < 0) = false := by simp; omega
    have e2 : decide (11 ≤ op) = true := by simp; omega
    go_enter Tryd.func92, Tryd.ntmps92
    go_wp2
    go_ret2
    exact ⟨rfl, Below.refl _ _⟩
theorem doI_nat (op a b : Nat) : doI op a b = (doN op a b : Nat) := by simp [doI]
/-- 'Do' of an operation. -/
theorem do_any (op a b : Int) (w : World) (h0 : 0 ≤ op) (h1 : op ≤ 10) (ha0 : 0 ≤ a) (ha : a ≤ 4294967295) (hb0 : 0 ≤ b) (hb : b ≤ 4294967295) :
    Calls Tryd.prog 92 #[.int .i64 op, .int .u32 a, .int .u32 b] w fun e w' => e = .returned (.tuple #[.int .u32 (doI op a b), .bool true]) ∧ Below w.heap.size w w' := by
  obtain ⟨n, rfl⟩ := Int.eq_ofNat_of_zero_le h0
  obtain ⟨a, rfl⟩ := Int.eq_ofNat_of_zero_le ha0
  obtain ⟨b, rfl⟩ := Int.eq_ofNat_of_zero_le hb0
  rw [doI_nat]
  have hn : n ≤ 10 := by omega
  match n, hn with
  | 0, _ => exact do0 a b w (by omega) (by omega)
  | 1, _ => exact do1 a b w (by omega) (by omega)
  | 2, _ => exact do2 a b w (by omega) (by omega)
  | 3, _ => exact do3 a b w (by omega) (by omega)
  | 4, _ => exact do4 a b w (by omega) (by omega)
  | 5, _ => exact do5 a b w (by omega) (by omega)
  | 6, _ => exact do6 a b w (by omega) (by omega)
  | 7, _ => exact do7 a b w (by omega) (by omega)
  | 8, _ => exact do8 a b w (by omega) (by omega)
  | 9, _ => exact do9 a b w (by omega) (by omega)
  | 10, _ => exact do10 a b w (by omega) (by omega)
/-- 'Holds', of any number. -/
theorem holds_any (c a b : Int) (w : World) :
    Calls Tryd.prog 93 #[.int .i64 c, .int .u32 a, .int .u32 b] w fun e w' => e = .returned (.tuple #[.bool (holdsB c a b), .bool (condB c)]) ∧ w = w' := by
  by_cases h0 : c = 0
  · subst h0; rw [condB_of 0 (by omega) (by omega)]
    go_enter Tryd.func93, Tryd.ntmps93
    go_wp2
    go_ret2
    exact ⟨rfl, rfl⟩
  by_cases h1 : c = 1
  · subst h1; clear h0; rw [condB_of 1 (by omega) (by omega)]
    go_enter Tryd.func93, Tryd.ntmps93
    go_wp2
    go_ret2
    exact ⟨rfl, rfl⟩
  by_cases h2 : c = 2
  · subst h2; clear h0 h1; rw [condB_of 2 (by omega) (by omega)]
    go_enter Tryd.func93, Tryd.ntmps93
    go_wp2
    go_ret2
    exact ⟨rfl, rfl⟩
  by_cases h3 : c = 3
  · subst h3; clear h0 h1 h2; rw [condB_of 3 (by omega) (by omega)]
    go_enter Tryd.func93, Tryd.ntmps93
    go_wp2
    go_ret2
    exact ⟨rfl, rfl⟩
  by_cases h4 : c = 4
  · subst h4; clear h0 h1 h2 h3; rw [condB_of 4 (by omega) (by omega)]
    go_enter Tryd.func93, Tryd.ntmps93
    go_wp2
    go_ret2
    exact ⟨rfl, rfl⟩
  rw [condB_not c (by omega), holdsB_not c a b (by omega)]
  have e0 : (c == 0) = false := by simp; omega
  have e1 : (c == 1) = false := by simp; omega
  have e2 : (c == 2) = false := by simp; omega
  have e3 : (c == 3) = false := by simp; omega
  have e4 : (c == 4) = false := by simp; omega
  clear h0 h1 h2 h3 h4
  go_enter Tryd.func93, Tryd.ntmps93
  go_wp2
  go_ret2
  exact ⟨rfl, rfl⟩
end Go.Proofs.YtilddlgcfbefiaaDoor

