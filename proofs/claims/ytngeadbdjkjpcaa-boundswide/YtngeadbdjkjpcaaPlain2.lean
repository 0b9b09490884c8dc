/-
  More laws of the operations on words, as plain functions on numbers: what is added is taken off again, orders that do not matter, shifts as products, and what is no greater.
-/
import Derived.Test.YtngeadbdjkjpcaaPlain
namespace Go.Proofs.Ytngeadbdjkjpcaa

theorem doI0 (a b : Nat) : doI 0 a b = (b : Nat) := by simp [doI, doN]
theorem doI1 (a b : Nat) : doI 1 a b = ((a + b) % 4294967296 : Nat) := by simp [doI, doN]
theorem doI2 (a b : Nat) : doI 2 a b = ((a + (4294967296 - b)) % 4294967296 : Nat) := by simp [doI, doN]
theorem doI3 (a b : Nat) : doI 3 a b = (a * b % 4294967296 : Nat) := by simp [doI, doN]
theorem doI4 (a b : Nat) : doI 4 a b = (a / b : Nat) := by simp [doI, doN]
theorem doI5 (a b : Nat) : doI 5 a b = (a % b : Nat) := by simp [doI, doN]
theorem doI6 (a b : Nat) : doI 6 a b = (a &&& b : Nat) := by simp [doI, doN]
theorem doI7 (a b : Nat) : doI 7 a b = (a ||| b : Nat) := by simp [doI, doN]
theorem doI8 (a b : Nat) : doI 8 a b = (a ^^^ b : Nat) := by simp [doI, doN]
theorem doI9 (a b : Nat) : doI 9 a b = (a * 2 ^ (b % 32) % 4294967296 : Nat) := by simp [doI, doN]
theorem doI10 (a b : Nat) : doI 10 a b = (a / 2 ^ (b % 32) : Nat) := by simp [doI, doN]
theorem beq_nat {a b : Nat} (h : a = b) : (((a : Nat) : Int) == ((b : Nat) : Int)) = true := by simp [h]
theorem bne_nat {a b : Nat} (h : a = b) : (((a : Nat) : Int) != ((b : Nat) : Int)) = false := by simp [h]

/- What is added is taken off again. -/
theorem back1 (a b : Nat) (ha : a < 4294967296) (hb : b < 4294967296) : (doI 2 (doI 1 a b) b == (a : Int)) = true := by
  rw [doI1, doI2]; exact beq_nat (by omega)
theorem back2 (a b : Nat) : (doI 8 (doI 8 a b) b == (a : Int)) = true := by
  rw [doI8, doI8]; exact beq_nat (by rw [Nat.xor_assoc, Nat.xor_self, Nat.xor_zero])
theorem back3 (a b : Nat) (ha : a < 4294967296) : (doI 1 (doI 3 (doI 4 a b) b) (doI 5 a b) == (a : Int)) = true := by
  rw [doI4, doI3, doI5, doI1]
  refine beq_nat ?_
  have h := Nat.div_add_mod a b
  rw [Nat.mul_comm] at h
  generalize a / b * b = q at *
  generalize a % b = r at *
  omega
theorem and_add_or (a : Nat) : ∀ b, (a &&& b) + (a ||| b) = a + b := by
  induction a using Nat.strongRecOn with
  | _ a ih =>
    intro b
    by_cases h : a = 0
    · subst h; simp
    · have i := ih (a / 2) (by omega) (b / 2)
      have h1 : (a &&& b) / 2 = a / 2 &&& b / 2 := Nat.and_div_two
      have h2 : (a ||| b) / 2 = a / 2 ||| b / 2 := Nat.or_div_two
      have h3 : (a &&& b) % 2 = (a % 2) &&& (b % 2) := Nat.and_mod_two_pow (n := 1)
      have h4 : (a ||| b) % 2 = (a % 2) ||| (b % 2) := Nat.or_mod_two_pow (n := 1)
      rw [← h1, ← h2] at i
      have h5 : (a &&& b) % 2 + (a ||| b) % 2 = a % 2 + b % 2 := by
        rw [h3, h4]
        rcases Nat.mod_two_eq_zero_or_one a with ea | ea <;> rcases Nat.mod_two_eq_zero_or_one b with eb | eb <;> rw [ea, eb] <;> rfl
      clear h1 h2 h3 h4 ih
      generalize a &&& b = x at *
      generalize a ||| b = y at *
      omega
theorem back4 (a b : Nat) : (doI 1 (doI 6 a b) (doI 7 a b) == doI 1 a b) = true := by
  rw [doI6, doI7, doI1, doI1]; exact beq_nat (by rw [and_add_or])
theorem back5 (a b : Nat) : (doI 0 a b == (b : Int)) = true := by rw [doI0]; exact beq_nat rfl

/- The order does not matter. -/
def comm (k : Int) : Prop := k = 1 ∨ k = 3 ∨ k = 6 ∨ k = 7 ∨ k = 8
theorem order1 (k : Int) (h : comm k) (a b : Nat) : (doI k a b != doI k b a) = false := by
  rcases h with rfl | rfl | rfl | rfl | rfl
  · rw [doI1, doI1]; exact bne_nat (by rw [Nat.add_comm])
  · rw [doI3, doI3]; exact bne_nat (by rw [Nat.mul_comm])
  · rw [doI6, doI6]; exact bne_nat (by rw [Nat.and_comm])
  · rw [doI7, doI7]; exact bne_nat (by rw [Nat.or_comm])
  · rw [doI8, doI8]; exact bne_nat (by rw [Nat.xor_comm])
theorem order2 (k : Int) (h : comm k) (a b c : Nat) : (doI k (doI k a b) c != doI k a (doI k b c)) = false := by
  rcases h with rfl | rfl | rfl | rfl | rfl
  · rw [doI1, doI1, doI1, doI1]; exact bne_nat (by omega)
  · rw [doI3, doI3, doI3, doI3]; exact bne_nat (by simp [Nat.mul_assoc])
  · rw [doI6, doI6, doI6, doI6]; exact bne_nat (by rw [Nat.and_assoc])
  · rw [doI7, doI7, doI7, doI7]; exact bne_nat (by rw [Nat.or_assoc])
  · rw [doI8, doI8, doI8, doI8]; exact bne_nat (by rw [Nat.xor_assoc])
theorem order3 (a b c : Nat) : (doI 3 a (doI 1 b c) == doI 1 (doI 3 a b) (doI 3 a c)) = true := by
  rw [doI1, doI3, doI3, doI3, doI1]; exact beq_nat (by simp [Nat.mul_add])

/- Shifts. -/
theorem pow_lt (n : Nat) : 2 ^ (n % 32) < 4294967296 := by
  have h : 2 ^ (n % 32) < 2 ^ 32 := Nat.pow_lt_pow_right (by omega) (by omega)
  exact h
theorem shift0 (n : Nat) : doI 9 1 n = (2 ^ (n % 32) : Nat) := by
  have e : doI 9 1 n = doI 9 (1 : Nat) n := rfl
  rw [e, doI9, Nat.one_mul, Nat.mod_eq_of_lt (pow_lt n)]
theorem shift1 (a n : Nat) : (doI 9 a n == doI 3 a (doI 9 1 n)) = true := by
  rw [shift0, doI9, doI3]; exact beq_nat rfl
theorem shift2 (a n : Nat) : (doI 10 a n == doI 4 a (doI 9 1 n)) = true := by
  rw [shift0, doI10, doI4]; exact beq_nat rfl
theorem shift3 (a n : Nat) : (doI 9 a (n + 32) == doI 9 a n) = true := by
  have e : doI 9 a ((n : Int) + 32) = doI 9 a ((n + 32 : Nat) : Int) := by simp
  rw [e, doI9, doI9]; exact beq_nat (by rw [Nat.add_mod_right])
theorem shift4 (n : Nat) : (doI 9 1 n != 0) = true := by
  rw [shift0]; have h : 0 < 2 ^ (n % 32) := Nat.two_pow_pos _
  generalize 2 ^ (n % 32) = p at *
  simp; omega

/- What is no greater. -/
theorem dec_le {a b : Nat} (h : a ≤ b) : decide (((a : Nat) : Int) ≤ ((b : Nat) : Int)) = true := by simp; omega
theorem less1 (a b : Nat) : decide (doI 4 a b ≤ (a : Int)) = true := by rw [doI4]; exact dec_le (Nat.div_le_self _ _)
theorem less2 (a b : Nat) : decide (doI 6 a b ≤ (a : Int)) = true := by rw [doI6]; exact dec_le Nat.and_le_left
theorem less3 (a b : Nat) : decide (doI 6 a b ≤ (b : Int)) = true := by rw [doI6]; exact dec_le Nat.and_le_right
theorem less4 (a b : Nat) : decide (doI 10 a b ≤ (a : Int)) = true := by rw [doI10]; exact dec_le (Nat.div_le_self _ _)
theorem less5 (a b : Nat) (h : 0 < b) : decide (doI 5 a b < (b : Int)) = true := by rw [doI5]; have := Nat.mod_lt a h; simp; omega
theorem less6 (a b : Nat) : decide (doI 5 a b ≤ (a : Int)) = true := by rw [doI5]; exact dec_le (Nat.mod_le _ _)
theorem less7 (a b : Nat) : decide ((a : Int) ≤ doI 7 a b) = true := by rw [doI7]; exact dec_le Nat.left_le_or
theorem less8 (a b : Nat) : decide ((b : Int) ≤ doI 7 a b) = true := by rw [doI7]; exact dec_le Nat.right_le_or
end Go.Proofs.Ytngeadbdjkjpcaa
