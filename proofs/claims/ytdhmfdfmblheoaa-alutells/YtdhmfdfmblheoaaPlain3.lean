/-
  The document's own reckoning of the operations (by halves, bit by bit, by doubling) as plain functions on numbers, and that it comes to the operations themselves.
-/
import Derived.Test.YtdhmfdfmblheoaaPlain2
namespace Go.Proofs.Ytdhmfdfmblheoaa

/- A product by halves of the first factor. -/
def timesI (a b : Int) : Int := a % 65536 * b % 4294967296 + a / 65536 * b % 65536 * 65536
theorem timesI_ge (a b : Int) : 0 ≤ timesI a b := by unfold timesI; generalize a % 65536 * b = x; generalize a / 65536 * b = y; omega
theorem timesI_le (a b : Int) : timesI a b ≤ 8589934592 := by unfold timesI; generalize a % 65536 * b = x; generalize a / 65536 * b = y; omega
theorem timesI_mod (a b : Int) : timesI a b % 4294967296 = a * b % 4294967296 := by
  have e : a * b = a % 65536 * b + a / 65536 * b * 65536 := by
    have h : a = a % 65536 + a / 65536 * 65536 := by omega
    generalize a % 65536 = r at *
    generalize a / 65536 = q at *
    subst h
    rw [Int.add_mul, Int.mul_assoc q 65536 b, Int.mul_assoc q b 65536, Int.mul_comm 65536 b]
  unfold timesI
  rw [e]
  generalize a % 65536 * b = x
  generalize a / 65536 * b = y
  omega
theorem times_low (a b : Int) (hb0 : 0 ≤ b) (hb : b ≤ 4294967295) : 0 ≤ a % 65536 * b ∧ a % 65536 * b ≤ 281474976710656 := by
  have h0 : 0 ≤ a % 65536 := by omega
  have h1 : a % 65536 ≤ 65536 := by omega
  generalize a % 65536 = r at *
  refine ⟨Int.mul_nonneg h0 hb0, ?_⟩
  have := Int.mul_le_mul h1 hb hb0 (by omega)
  omega
theorem times_high (a b : Int) (ha0 : 0 ≤ a) (ha : a ≤ 4294967295) (hb0 : 0 ≤ b) (hb : b ≤ 4294967295) : 0 ≤ a / 65536 * b ∧ a / 65536 * b ≤ 281474976710656 := by
  have h0 : 0 ≤ a / 65536 := by omega
  have h1 : a / 65536 ≤ 65536 := by omega
  generalize a / 65536 = r at *
  refine ⟨Int.mul_nonneg h0 hb0, ?_⟩
  have := Int.mul_le_mul h1 hb hb0 (by omega)
  omega

/- Bit by bit: of each bit what a list tells of how many of both have it. -/
def pick3 (t0 t1 t2 : Nat) : Nat → Nat
  | 0 => t0
  | 1 => t1
  | _ => t2
def bitsN (t0 t1 t2 : Nat) : Nat → Nat → Nat → Nat
  | 0, _, _ => 0
  | n + 1, a, b => pick3 t0 t1 t2 (a % 2 + b % 2) + 2 * bitsN t0 t1 t2 n (a / 2) (b / 2)
theorem pick3_le (t0 t1 t2 : Nat) (h0 : t0 ≤ 1) (h1 : t1 ≤ 1) (h2 : t2 ≤ 1) (n : Nat) : pick3 t0 t1 t2 n ≤ 1 := by
  match n with
  | 0 => exact h0
  | 1 => exact h1
  | n + 2 => exact h2
theorem bits_and (n : Nat) : ∀ a b, a < 2 ^ n → b < 2 ^ n → bitsN 0 0 1 n a b = a &&& b := by
  induction n with
  | zero => intro a b ha hb; have e1 : a = 0 := by omega
            have e2 : b = 0 := by omega
            subst e1 e2; rfl
  | succ n ih =>
    intro a b ha hb
    rw [Nat.pow_succ] at ha hb
    have i := ih (a / 2) (b / 2) (by omega) (by omega)
    have h1 : (a &&& b) / 2 = a / 2 &&& b / 2 := Nat.and_div_two
    have h3 : (a &&& b) % 2 = (a % 2) &&& (b % 2) := Nat.and_mod_two_pow (n := 1)
    rw [bitsN, i, ← h1]
    have h5 : pick3 0 0 1 (a % 2 + b % 2) = (a &&& b) % 2 := by
      rw [h3]
      rcases Nat.mod_two_eq_zero_or_one a with ea | ea <;> rcases Nat.mod_two_eq_zero_or_one b with eb | eb <;> rw [ea, eb] <;> rfl
    rw [h5]
    generalize a &&& b = x
    omega
theorem bits_or (n : Nat) : ∀ a b, a < 2 ^ n → b < 2 ^ n → bitsN 0 1 1 n a b = a ||| b := by
  induction n with
  | zero => intro a b ha hb; have e1 : a = 0 := by omega
            have e2 : b = 0 := by omega
            subst e1 e2; rfl
  | succ n ih =>
    intro a b ha hb
    rw [Nat.pow_succ] at ha hb
    have i := ih (a / 2) (b / 2) (by omega) (by omega)
    have h1 : (a ||| b) / 2 = a / 2 ||| b / 2 := Nat.or_div_two
    have h3 : (a ||| b) % 2 = (a % 2) ||| (b % 2) := Nat.or_mod_two_pow (n := 1)
    rw [bitsN, i, ← h1]
    have h5 : pick3 0 1 1 (a % 2 + b % 2) = (a ||| b) % 2 := by
      rw [h3]
      rcases Nat.mod_two_eq_zero_or_one a with ea | ea <;> rcases Nat.mod_two_eq_zero_or_one b with eb | eb <;> rw [ea, eb] <;> rfl
    rw [h5]
    generalize a ||| b = x
    omega
theorem bits_xor (n : Nat) : ∀ a b, a < 2 ^ n → b < 2 ^ n → bitsN 0 1 0 n a b = a ^^^ b := by
  induction n with
  | zero => intro a b ha hb; have e1 : a = 0 := by omega
            have e2 : b = 0 := by omega
            subst e1 e2; rfl
  | succ n ih =>
    intro a b ha hb
    rw [Nat.pow_succ] at ha hb
    have i := ih (a / 2) (b / 2) (by omega) (by omega)
    have h1 : (a ^^^ b) / 2 = a / 2 ^^^ b / 2 := Nat.xor_div_two
    have h3 : (a ^^^ b) % 2 = (a % 2) ^^^ (b % 2) := Nat.xor_mod_two_pow (n := 1)
    rw [bitsN, i, ← h1]
    have h5 : pick3 0 1 0 (a % 2 + b % 2) = (a ^^^ b) % 2 := by
      rw [h3]
      rcases Nat.mod_two_eq_zero_or_one a with ea | ea <;> rcases Nat.mod_two_eq_zero_or_one b with eb | eb <;> rw [ea, eb] <;> rfl
    rw [h5]
    generalize a ^^^ b = x
    omega
theorem bitsN_lt (t0 t1 t2 : Nat) (h0 : t0 ≤ 1) (h1 : t1 ≤ 1) (h2 : t2 ≤ 1) (n : Nat) : ∀ a b, bitsN t0 t1 t2 n a b < 2 ^ n := by
  induction n with
  | zero => intro a b; simp [bitsN]
  | succ n ih =>
    intro a b
    have i := ih (a / 2) (b / 2)
    have p := pick3_le t0 t1 t2 h0 h1 h2 (a % 2 + b % 2)
    rw [bitsN, Nat.pow_succ]
    omega
/- What the loop over the bits holds behind i rounds. -/
theorem bits_step (t0 t1 t2 i k o p x y V : Nat) (hi : k + 1 = i) (h : o + p * bitsN t0 t1 t2 i x y = V) :
    (o + p * pick3 t0 t1 t2 (x % 2 + y % 2)) + (2 * p) * bitsN t0 t1 t2 k (x / 2) (y / 2) = V := by
  subst hi
  rw [bitsN, Nat.mul_add] at h
  have e : p * (2 * bitsN t0 t1 t2 k (x / 2) (y / 2)) = 2 * p * bitsN t0 t1 t2 k (x / 2) (y / 2) := by rw [← Nat.mul_assoc, Nat.mul_comm p 2]
  omega
end Go.Proofs.Ytdhmfdfmblheoaa
