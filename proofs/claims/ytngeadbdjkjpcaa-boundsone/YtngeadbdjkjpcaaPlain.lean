/-
  The operations on words as plain functions on numbers, and their laws. Nothing of the program is used here.
-/
import Derived.Laws.BitsAllLaws
namespace Go.Proofs.Ytngeadbdjkjpcaa

def doN : Nat → Nat → Nat → Nat
  | 0, _, b => b
  | 1, a, b => (a + b) % 4294967296
  | 2, a, b => (a + (4294967296 - b)) % 4294967296
  | 3, a, b => a * b % 4294967296
  | 4, a, b => a / b
  | 5, a, b => a % b
  | 6, a, b => a &&& b
  | 7, a, b => a ||| b
  | 8, a, b => a ^^^ b
  | 9, a, b => a * 2 ^ (b % 32) % 4294967296
  | 10, a, b => a / 2 ^ (b % 32)
  | _, _, _ => 0
def doI (op a b : Int) : Int := (doN op.toNat a.toNat b.toNat : Nat)
theorem doN_lt (op a b : Nat) (ha : a < 4294967296) (hb : b < 4294967296) : doN op a b < 4294967296 := by
  match op with
  | 0 => exact hb
  | 1 => simp only [doN]; omega
  | 2 => simp only [doN]; omega
  | 3 => simp only [doN]; omega
  | 4 => simp only [doN]; have := Nat.div_le_self a b; omega
  | 5 => simp only [doN]; have := Nat.mod_le a b; omega
  | 6 => simp only [doN]; exact Nat.and_lt_two_pow (n := 32) _ hb
  | 7 => simp only [doN]; exact Nat.or_lt_two_pow (n := 32) ha hb
  | 8 => simp only [doN]; exact Nat.xor_lt_two_pow (n := 32) ha hb
  | 9 => simp only [doN]; omega
  | 10 => simp only [doN]; have := Nat.div_le_self a (2 ^ (b % 32)); omega
  | n + 11 => simp [doN]
theorem div_cast (a b : Nat) (h : a < 4294967296) : (a : Int) / (b : Int) % 4294967296 = ((a / b : Nat) : Int) := by
  have hq := Nat.div_le_self a b
  rw [← Int.natCast_ediv]
  generalize a / b = q at *
  exact Int.emod_eq_of_lt (by omega) (by omega)
theorem doI_ge (op a b : Int) : 0 ≤ doI op a b := by unfold doI; omega
theorem doI_le (op a b : Int) (ha : a ≤ 4294967295) (hb : b ≤ 4294967295) : doI op a b ≤ 4294967295 := by
  unfold doI; have := doN_lt op.toNat a.toNat b.toNat (by omega) (by omega); omega
def holdsB (c a b : Int) : Bool := if c = 0 then true else if c = 1 then a == b else if c = 2 then a != b else if c = 3 then decide (a < b) else if c = 4 then decide (b ≤ a) else false
def condB (c : Int) : Bool := decide (0 ≤ c ∧ c ≤ 4)
theorem condB_of (c : Int) (h0 : 0 ≤ c) (h1 : c ≤ 4) : condB c = true := by simp [condB]; omega
theorem condB_not (c : Int) (h : ¬ (0 ≤ c ∧ c ≤ 4)) : condB c = false := by simp [condB]; omega
theorem holdsB_not (c a b : Int) (h : ¬ (0 ≤ c ∧ c ≤ 4)) : holdsB c a b = false := by
  unfold holdsB; rw [if_neg (by omega), if_neg (by omega), if_neg (by omega), if_neg (by omega), if_neg (by omega)]
theorem xor_ones (a : Nat) (ha : a < 4294967296) : a ^^^ 4294967295 = 4294967295 - a := by
  have h := congrArg BitVec.toNat (BitVec.xor_allOnes (x := BitVec.ofNat 32 a))
  simp only [BitVec.toNat_xor, BitVec.toNat_not, BitVec.toNat_ofNat, BitVec.toNat_allOnes] at h
  rw [Nat.mod_eq_of_lt (by omega)] at h
  exact h
end Go.Proofs.Ytngeadbdjkjpcaa
