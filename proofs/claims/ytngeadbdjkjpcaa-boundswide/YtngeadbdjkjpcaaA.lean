/-
  What package alu's operations and comparisons return, as contracts over the translated program: each of the eleven operations, Do and Holds.
-/
import Derived.Test.YtngeadbdjkjpcaaRows
import Derived.WalkKit
import Derived.ProofKit
import Derived.OpenShut
import Derived.WalkSpells
import Derived.WalkLawsBesides
import Derived.Outline
import Derived.Lib.Hide
import Derived.Laws.ResultCell
import Derived.Laws.EntriesVeiled
import Derived.Laws.BitsAllLaws
import Derived.Test.YtngeadbdjkjpcaaPlain
namespace Go.Proofs.Ytngeadbdjkjpcaa
open Go.RowKit

theorem grown_trans {a b c : World} (h : Grown a b) (k : Grown b c) : Grown a c :=
  ⟨World.keptBut_trans h.1 k.1, fun x => (k.2.1 x).trans (h.2.1 x), Nat.le_trans h.2.2 k.2.2⟩
def opsV : Value := .agg #[.func (.func 24) #[] #[], .func (.func 25) #[] #[], .func (.func 26) #[] #[], .func (.func 27) #[] #[], .func (.func 28) #[] #[], .func (.func 29) #[] #[], .func (.func 30) #[] #[], .func (.func 31) #[] #[], .func (.func 32) #[] #[], .func (.func 33) #[] #[], .func (.func 34) #[] #[]]
theorem ops_any (w : World) : Calls Try.prog 18 #[] w fun e w' => e = .returned opsV ∧ Grown w w' := by
  go_enter Try.func18, Try.ntmps18
  go_wp2
  refine bodyPost_ret (v := opsV) (by simp [results, Try.results18, go_sem, opsV]) rfl ⟨rfl, ?_⟩
  exact (Grown.refl _).alloc _ _
theorem fld (k : Nat) (w : World) : (Instr.field 44 (.agg #[.func (.func k) #[] #[]]) 0).run Try.prog w = .ok (.func (.func k) #[] #[]) w := by kernel_rfl
theorem ret_int {k : IntKind} {a b : Int} (h : a = b) : Ending.returned (.int k a) = .returned (.int k b) := by rw [h]
theorem move_any (a b : Nat) (w : World) (_ha : a < 4294967296) (_hb : b < 4294967296) : Calls Try.prog 24 #[.int .u32 a, .int .u32 b] w fun e w' => e = .returned (.int .u32 (doN 0 a b)) ∧ w = w' := by
  go_enter Try.func24, Try.ntmps24
  go_wp2
  go_ret
  exact ⟨ret_int (by simp [doN]), rfl⟩
theorem add_any (a b : Nat) (w : World) (_ha : a < 4294967296) (_hb : b < 4294967296) : Calls Try.prog 25 #[.int .u32 a, .int .u32 b] w fun e w' => e = .returned (.int .u32 (doN 1 a b)) ∧ w = w' := by
  go_enter Try.func25, Try.ntmps25
  go_wp2
  go_ret
  exact ⟨ret_int (by simp [doN]), rfl⟩
theorem sub_any (a b : Nat) (w : World) (_ha : a < 4294967296) (_hb : b < 4294967296) : Calls Try.prog 26 #[.int .u32 a, .int .u32 b] w fun e w' => e = .returned (.int .u32 (doN 2 a b)) ∧ w = w' := by
  go_enter Try.func26, Try.ntmps26
  go_wp2
  go_ret
  exact ⟨ret_int (by simp only [doN]; omega), rfl⟩
theorem mul_any (a b : Nat) (w : World) (_ha : a < 4294967296) (_hb : b < 4294967296) : Calls Try.prog 27 #[.int .u32 a, .int .u32 b] w fun e w' => e = .returned (.int .u32 (doN 3 a b)) ∧ w = w' := by
  go_enter Try.func27, Try.ntmps27
  go_wp2
  go_ret
  exact ⟨ret_int (by simp [doN]), rfl⟩
theorem div_any (a b : Nat) (w : World) (_ha : a < 4294967296) (_hb : b < 4294967296) : Calls Try.prog 28 #[.int .u32 a, .int .u32 b] w fun e w' => e = .returned (.int .u32 (doN 4 a b)) ∧ w = w' := by
  by_cases h : b = 0
  · subst h
    go_enter Try.func28, Try.ntmps28
    go_wp2
    go_ret
    exact ⟨ret_int (by simp [doN]), rfl⟩
  · have h1 : ((b : Int) == 0) = false := by simp; omega
    have h2 : ¬ (b : Int) = 0 := by omega
    clear h
    go_enter Try.func28, Try.ntmps28
    go_wp2
    go_ret
    exact ⟨ret_int (by simp only [doN]; exact div_cast a b _ha), rfl⟩
theorem mod_any (a b : Nat) (w : World) (_ha : a < 4294967296) (_hb : b < 4294967296) : Calls Try.prog 29 #[.int .u32 a, .int .u32 b] w fun e w' => e = .returned (.int .u32 (doN 5 a b)) ∧ w = w' := by
  by_cases h : b = 0
  · subst h
    go_enter Try.func29, Try.ntmps29
    go_wp2
    go_ret
    exact ⟨ret_int (by simp [doN]), rfl⟩
  · have h1 : ((b : Int) == 0) = false := by simp; omega
    have h2 : ¬ (b : Int) = 0 := by omega
    clear h
    go_enter Try.func29, Try.ntmps29
    go_wp2
    go_ret
    exact ⟨ret_int (by simp [doN]), rfl⟩
theorem and_any (a b : Nat) (w : World) (_ha : a < 4294967296) (_hb : b < 4294967296) : Calls Try.prog 30 #[.int .u32 a, .int .u32 b] w fun e w' => e = .returned (.int .u32 (doN 6 a b)) ∧ w = w' := by
  have hz := Lib.hid (u32_and_nat a b _ha _hb)
  go_enter Try.func30, Try.ntmps30
  go_wp2
  go_ret
  exact ⟨ret_int (by rw [hz.out]; rfl), rfl⟩
theorem or_any (a b : Nat) (w : World) (_ha : a < 4294967296) (_hb : b < 4294967296) : Calls Try.prog 31 #[.int .u32 a, .int .u32 b] w fun e w' => e = .returned (.int .u32 (doN 7 a b)) ∧ w = w' := by
  have hz := Lib.hid (u32_or_nat a b _ha _hb)
  go_enter Try.func31, Try.ntmps31
  go_wp2
  go_ret
  exact ⟨ret_int (by rw [hz.out]; rfl), rfl⟩
theorem xor_any (a b : Nat) (w : World) (_ha : a < 4294967296) (_hb : b < 4294967296) : Calls Try.prog 32 #[.int .u32 a, .int .u32 b] w fun e w' => e = .returned (.int .u32 (doN 8 a b)) ∧ w = w' := by
  have hz := Lib.hid (u32_xor_nat a b _ha _hb)
  go_enter Try.func32, Try.ntmps32
  go_wp2
  go_ret
  exact ⟨ret_int (by rw [hz.out]; rfl), rfl⟩
theorem shl_any (a b : Nat) (w : World) (_ha : a < 4294967296) (_hb : b < 4294967296) : Calls Try.prog 33 #[.int .u32 a, .int .u32 b] w fun e w' => e = .returned (.int .u32 (doN 9 a b)) ∧ w = w' := by
  go_enter Try.func33, Try.ntmps33
  go_wp2
  go_ret
  exact ⟨ret_int (by simp [doN]), rfl⟩
theorem shr_any (a b : Nat) (w : World) (_ha : a < 4294967296) (_hb : b < 4294967296) : Calls Try.prog 34 #[.int .u32 a, .int .u32 b] w fun e w' => e = .returned (.int .u32 (doN 10 a b)) ∧ w = w' := by
  go_enter Try.func34, Try.ntmps34
  go_wp2
  go_ret
  exact ⟨ret_int (by simp [doN]), rfl⟩
theorem do0 (a b : Nat) (w : World) (ha : a < 4294967296) (hb : b < 4294967296) :
    Calls Try.prog 10 #[.int .i64 0, .int .u32 a, .int .u32 b] w fun e w' => e = .returned (.tuple #[.int .u32 (doN 0 a b), .bool true]) ∧ Grown w w' := by
  have hi : ∀ w, (Instr.index 45 opsV (.int .i64 0)).run Try.prog w = .ok (.agg #[.func (.func 24) #[] #[]]) w := fun _ => by kernel_rfl
  have hf := fld 24
  go_enter Try.func10, Try.ntmps10
  go_wp2_with fail
  refine (ops_any _).mono ?_
  rintro e w' ⟨rfl, hg⟩
  go_wp2_with fail
  refine (move_any a b _ ha hb).mono ?_
  rintro e w' ⟨rfl, rfl⟩
  go_wp2_with fail
  go_ret2
  exact ⟨rfl, hg⟩
theorem do1 (a b : Nat) (w : World) (ha : a < 4294967296) (hb : b < 4294967296) :
    Calls Try.prog 10 #[.int .i64 1, .int .u32 a, .int .u32 b] w fun e w' => e = .returned (.tuple #[.int .u32 (doN 1 a b), .bool true]) ∧ Grown w w' := by
  have hi : ∀ w, (Instr.index 45 opsV (.int .i64 1)).run Try.prog w = .ok (.agg #[.func (.func 25) #[] #[]]) w := fun _ => by kernel_rfl
  have hf := fld 25
  go_enter Try.func10, Try.ntmps10
  go_wp2_with fail
  refine (ops_any _).mono ?_
  rintro e w' ⟨rfl, hg⟩
  go_wp2_with fail
  refine (add_any a b _ ha hb).mono ?_
  rintro e w' ⟨rfl, rfl⟩
  go_wp2_with fail
  go_ret2
  exact ⟨rfl, hg⟩
theorem do2 (a b : Nat) (w : World) (ha : a < 4294967296) (hb : b < 4294967296) :
    Calls Try.prog 10 #[.int .i64 2, .int .u32 a, .int .u32 b] w fun e w' => e = .returned (.tuple #[.int .u32 (doN 2 a b), .bool true]) ∧ Grown w w' := by
  have hi : ∀ w, (Instr.index 45 opsV (.int .i64 2)).run Try.prog w = .ok (.agg #[.func (.func 26) #[] #[]]) w := fun _ => by kernel_rfl
  have hf := fld 26
  go_enter Try.func10, Try.ntmps10
  go_wp2_with fail
  refine (ops_any _).mono ?_
  rintro e w' ⟨rfl, hg⟩
  go_wp2_with fail
  refine (sub_any a b _ ha hb).mono ?_
  rintro e w' ⟨rfl, rfl⟩
  go_wp2_with fail
  go_ret2
  exact ⟨rfl, hg⟩
theorem do3 (a b : Nat) (w : World) (ha : a < 4294967296) (hb : b < 4294967296) :
    Calls Try.prog 10 #[.int .i64 3, .int .u32 a, .int .u32 b] w fun e w' => e = .returned (.tuple #[.int .u32 (doN 3 a b), .bool true]) ∧ Grown w w' := by
  have hi : ∀ w, (Instr.index 45 opsV (.int .i64 3)).run Try.prog w = .ok (.agg #[.func (.func 27) #[] #[]]) w := fun _ => by kernel_rfl
  have hf := fld 27
  go_enter Try.func10, Try.ntmps10
  go_wp2_with fail
  refine (ops_any _).mono ?_
  rintro e w' ⟨rfl, hg⟩
  go_wp2_with fail
  refine (mul_any a b _ ha hb).mono ?_
  rintro e w' ⟨rfl, rfl⟩
  go_wp2_with fail
  go_ret2
  exact ⟨rfl, hg⟩
theorem do4 (a b : Nat) (w : World) (ha : a < 4294967296) (hb : b < 4294967296) :
    Calls Try.prog 10 #[.int .i64 4, .int .u32 a, .int .u32 b] w fun e w' => e = .returned (.tuple #[.int .u32 (doN 4 a b), .bool true]) ∧ Grown w w' := by
  have hi : ∀ w, (Instr.index 45 opsV (.int .i64 4)).run Try.prog w = .ok (.agg #[.func (.func 28) #[] #[]]) w := fun _ => by kernel_rfl
  have hf := fld 28
  go_enter Try.func10, Try.ntmps10
  go_wp2_with fail
  refine (ops_any _).mono ?_
  rintro e w' ⟨rfl, hg⟩
  go_wp2_with fail
  refine (div_any a b _ ha hb).mono ?_
  rintro e w' ⟨rfl, rfl⟩
  go_wp2_with fail
  go_ret2
  exact ⟨rfl, hg⟩
theorem do5 (a b : Nat) (w : World) (ha : a < 4294967296) (hb : b < 4294967296) :
    Calls Try.prog 10 #[.int .i64 5, .int .u32 a, .int .u32 b] w fun e w' => e = .returned (.tuple #[.int .u32 (doN 5 a b), .bool true]) ∧ Grown w w' := by
  have hi : ∀ w, (Instr.index 45 opsV (.int .i64 5)).run Try.prog w = .ok (.agg #[.func (.func 29) #[] #[]]) w := fun _ => by kernel_rfl
  have hf := fld 29
  go_enter Try.func10, Try.ntmps10
  go_wp2_with fail
  refine (ops_any _).mono ?_
  rintro e w' ⟨rfl, hg⟩
  go_wp2_with fail
  refine (mod_any a b _ ha hb).mono ?_
  rintro e w' ⟨rfl, rfl⟩
  go_wp2_with fail
  go_ret2
  exact ⟨rfl, hg⟩
theorem do6 (a b : Nat) (w : World) (ha : a < 4294967296) (hb : b < 4294967296) :
    Calls Try.prog 10 #[.int .i64 6, .int .u32 a, .int .u32 b] w fun e w' => e = .returned (.tuple #[.int .u32 (doN 6 a b), .bool true]) ∧ Grown w w' := by
  have hi : ∀ w, (Instr.index 45 opsV (.int .i64 6)).run Try.prog w = .ok (.agg #[.func (.func 30) #[] #[]]) w := fun _ => by kernel_rfl
  have hf := fld 30
  go_enter Try.func10, Try.ntmps10
  go_wp2_with fail
  refine (ops_any _).mono ?_
  rintro e w' ⟨rfl, hg⟩
  go_wp2_with fail
  refine (and_any a b _ ha hb).mono ?_
  rintro e w' ⟨rfl, rfl⟩
  go_wp2_with fail
  go_ret2
  exact ⟨rfl, hg⟩
theorem do7 (a b : Nat) (w : World) (ha : a < 4294967296) (hb : b < 4294967296) :
    Calls Try.prog 10 #[.int .i64 7, .int .u32 a, .int .u32 b] w fun e w' => e = .returned (.tuple #[.int .u32 (doN 7 a b), .bool true]) ∧ Grown w w' := by
  have hi : ∀ w, (Instr.index 45 opsV (.int .i64 7)).run Try.prog w = .ok (.agg #[.func (.func 31) #[] #[]]) w := fun _ => by kernel_rfl
  have hf := fld 31
  go_enter Try.func10, Try.ntmps10
  go_wp2_with fail
  refine (ops_any _).mono ?_
  rintro e w' ⟨rfl, hg⟩
  go_wp2_with fail
  refine (or_any a b _ ha hb).mono ?_
  rintro e w' ⟨rfl, rfl⟩
  go_wp2_with fail
  go_ret2
  exact ⟨rfl, hg⟩
theorem do8 (a b : Nat) (w : World) (ha : a < 4294967296) (hb : b < 4294967296) :
    Calls Try.prog 10 #[.int .i64 8, .int .u32 a, .int .u32 b] w fun e w' => e = .returned (.tuple #[.int .u32 (doN 8 a b), .bool true]) ∧ Grown w w' := by
  have hi : ∀ w, (Instr.index 45 opsV (.int .i64 8)).run Try.prog w = .ok (.agg #[.func (.func 32) #[] #[]]) w := fun _ => by kernel_rfl
  have hf := fld 32
  go_enter Try.func10, Try.ntmps10
  go_wp2_with fail
  refine (ops_any _).mono ?_
  rintro e w' ⟨rfl, hg⟩
  go_wp2_with fail
  refine (xor_any a b _ ha hb).mono ?_
  rintro e w' ⟨rfl, rfl⟩
  go_wp2_with fail
  go_ret2
  exact ⟨rfl, hg⟩
theorem do9 (a b : Nat) (w : World) (ha : a < 4294967296) (hb : b < 4294967296) :
    Calls Try.prog 10 #[.int .i64 9, .int .u32 a, .int .u32 b] w fun e w' => e = .returned (.tuple #[.int .u32 (doN 9 a b), .bool true]) ∧ Grown w w' := by
  have hi : ∀ w, (Instr.index 45 opsV (.int .i64 9)).run Try.prog w = .ok (.agg #[.func (.func 33) #[] #[]]) w := fun _ => by kernel_rfl
  have hf := fld 33
  go_enter Try.func10, Try.ntmps10
  go_wp2_with fail
  refine (ops_any _).mono ?_
  rintro e w' ⟨rfl, hg⟩
  go_wp2_with fail
  refine (shl_any a b _ ha hb).mono ?_
  rintro e w' ⟨rfl, rfl⟩
  go_wp2_with fail
  go_ret2
  exact ⟨rfl, hg⟩
theorem do10 (a b : Nat) (w : World) (ha : a < 4294967296) (hb : b < 4294967296) :
    Calls Try.prog 10 #[.int .i64 10, .int .u32 a, .int .u32 b] w fun e w' => e = .returned (.tuple #[.int .u32 (doN 10 a b), .bool true]) ∧ Grown w w' := by
  have hi : ∀ w, (Instr.index 45 opsV (.int .i64 10)).run Try.prog w = .ok (.agg #[.func (.func 34) #[] #[]]) w := fun _ => by kernel_rfl
  have hf := fld 34
  go_enter Try.func10, Try.ntmps10
  go_wp2_with fail
  refine (ops_any _).mono ?_
  rintro e w' ⟨rfl, hg⟩
  go_wp2_with fail
  refine (shr_any a b _ ha hb).mono ?_
  rintro e w' ⟨rfl, rfl⟩
  go_wp2_with fail
  go_ret2
  exact ⟨rfl, hg⟩
/-- 'Do' of a number that is none. -/
theorem do_none (op a b : Int) (w : World) (h : op < 0 ∨ 11 ≤ op) :
    Calls Try.prog 10 #[.int .i64 op, .int .u32 a, .int .u32 b] w fun e w' => e = .returned (.tuple #[.int .u32 0, .bool false]) ∧ Grown w w' := by
  rcases h with h | h
  · have e1 : decide (op < 0) = true := by simp; omega
    go_enter Try.func10, Try.ntmps10
    go_wp2
    go_ret2
    exact ⟨rfl, Grown.refl _⟩
  · have e1 : decide (op < 0) = false := by simp; omega
    have e2 : decide (11 ≤ op) = true := by simp; omega
    go_enter Try.func10, Try.ntmps10
    go_wp2
    go_ret2
    exact ⟨rfl, Grown.refl _⟩
theorem doI_nat (op a b : Nat) : doI op a b = (doN op a b : Nat) := by simp [doI]
/-- 'Do' of an operation. -/
theorem do_any (op a b : Int) (w : World) (h0 : 0 ≤ op) (h1 : op ≤ 10) (ha0 : 0 ≤ a) (ha : a ≤ 4294967295) (hb0 : 0 ≤ b) (hb : b ≤ 4294967295) :
    Calls Try.prog 10 #[.int .i64 op, .int .u32 a, .int .u32 b] w fun e w' => e = .returned (.tuple #[.int .u32 (doI op a b), .bool true]) ∧ Grown w w' := by
  obtain ⟨n, rfl⟩ := Int.eq_ofNat_of_zero_le h0
  obtain ⟨a, rfl⟩ := Int.eq_ofNat_of_zero_le ha0
  obtain ⟨b, rfl⟩ := Int.eq_ofNat_of_zero_le hb0
  rw [doI_nat]
  have hn : n ≤ 10 := by omega
  match n, hn with
  | 0, _ => exact do0 a b w (by omega) (by omega)
  | 1, _ => exact do1 a b w (by omega) (by omega)
  | 2, _ => exact do2 a b w (by omega) (by omega)
  | 3, _ => exact do3 a b w (by omega) (by omega)
  | 4, _ => exact do4 a b w (by omega) (by omega)
  | 5, _ => exact do5 a b w (by omega) (by omega)
  | 6, _ => exact do6 a b w (by omega) (by omega)
  | 7, _ => exact do7 a b w (by omega) (by omega)
  | 8, _ => exact do8 a b w (by omega) (by omega)
  | 9, _ => exact do9 a b w (by omega) (by omega)
  | 10, _ => exact do10 a b w (by omega) (by omega)
/-- 'Holds', of any number. -/
theorem holds_any (c a b : Int) (w : World) :
    Calls Try.prog 13 #[.int .i64 c, .int .u32 a, .int .u32 b] w fun e w' => e = .returned (.tuple #[.bool (holdsB c a b), .bool (condB c)]) ∧ w = w' := by
  by_cases h0 : c = 0
  · subst h0; rw [condB_of 0 (by omega) (by omega)]
    go_enter Try.func13, Try.ntmps13
    go_wp2
    go_ret2
    exact ⟨rfl, rfl⟩
  by_cases h1 : c = 1
  · subst h1; clear h0; rw [condB_of 1 (by omega) (by omega)]
    go_enter Try.func13, Try.ntmps13
    go_wp2
    go_ret2
    exact ⟨rfl, rfl⟩
  by_cases h2 : c = 2
  · subst h2; clear h0 h1; rw [condB_of 2 (by omega) (by omega)]
    go_enter Try.func13, Try.ntmps13
    go_wp2
    go_ret2
    exact ⟨rfl, rfl⟩
  by_cases h3 : c = 3
  · subst h3; clear h0 h1 h2; rw [condB_of 3 (by omega) (by omega)]
    go_enter Try.func13, Try.ntmps13
    go_wp2
    go_ret2
    exact ⟨rfl, rfl⟩
  by_cases h4 : c = 4
  · subst h4; clear h0 h1 h2 h3; rw [condB_of 4 (by omega) (by omega)]
    go_enter Try.func13, Try.ntmps13
    go_wp2
    go_ret2
    exact ⟨rfl, rfl⟩
  rw [condB_not c (by omega), holdsB_not c a b (by omega)]
  have e0 : (c == 0) = false := by simp; omega
  have e1 : (c == 1) = false := by simp; omega
  have e2 : (c == 2) = false := by simp; omega
  have e3 : (c == 3) = false := by simp; omega
  have e4 : (c == 4) = false := by simp; omega
  clear h0 h1 h2 h3 h4
  go_enter Try.func13, Try.ntmps13
  go_wp2
  go_ret2
  exact ⟨rfl, rfl⟩
end Go.Proofs.Ytngeadbdjkjpcaa
