/-
  What the document's reckoning returns (package drydockref01: word, times, power, bits, Do, Holds), as contracts over the translated program: the operations themselves.
-/
import Derived.Test.YtdhmfdfmblheoaaA
import Derived.Test.YtdhmfdfmblheoaaPlain3
namespace Go.Proofs.Ytdhmfdfmblheoaa
open Go.RowKit

theorem tmod_neg (n : Int) (h0 : -4294967296 < n) (h1 : n < 0) : n.tmod 4294967296 = n := by
  have e : n = -(-n) := by omega
  rw [e, Int.neg_tmod, Int.tmod_eq_emod_of_nonneg (by omega), Int.emod_eq_of_lt (by omega) (by omega)]
theorem word_any (n : Int) (w : World) (h0 : -4294967296 < n) (h1 : n ≤ 1099511627776) :
    Calls Try.prog 18 #[.int .i64 n] w fun e w' => e = .returned (.int .u32 (n % 4294967296)) ∧ w = w' := by
  by_cases hn : n < 0
  · have e := tmod_neg n h0 hn
    go_enter Try.func18, Try.ntmps18
    go_wp2
    go_ret
    exact ⟨ret_int (by omega), rfl⟩
  · have hn' : 0 ≤ n := by omega
    have d : decide (n % 4294967296 < 0) = false := by simp; omega
    clear hn
    go_enter Try.func18, Try.ntmps18
    go_wp2
    go_ret
    exact ⟨rfl, rfl⟩
theorem times_any (a b : Int) (w : World) (ha0 : 0 ≤ a) (ha : a ≤ 4294967295) (hb0 : 0 ≤ b) (hb : b ≤ 4294967295) :
    Calls Try.prog 19 #[.int .i64 a, .int .i64 b] w fun e w' => e = .returned (.int .i64 (timesI a b)) ∧ w = w' := by
  obtain ⟨l0, l1⟩ := times_low a b hb0 hb
  obtain ⟨k0, k1⟩ := times_high a b ha0 ha hb0 hb
  go_enter Try.func19, Try.ntmps19
  go_wp2
  go_ret
  exact ⟨ret_int (by unfold timesI; rfl), rfl⟩
def pw (n : Nat) : Nat := 2 ^ (n % 32)
theorem pw_end (n k q : Nat) (h : k = n % 32) (h2 : 2 ^ k = q) : (q : Int) = (pw n : Nat) := by rw [← h2, h]; rfl
theorem bits_end (t0 t1 t2 k o p x y V : Nat) (h : k = 32) (h2 : o + p * bitsN t0 t1 t2 (32 - k) x y = V) : (o : Int) = (V : Nat) := by
  subst h
  rw [Nat.sub_self, bitsN, Nat.mul_zero, Nat.add_zero] at h2
  rw [h2]
theorem power_any (n : Nat) (w : World) (hn : n ≤ 4294967295) :
    Calls Try.prog 21 #[.int .i64 n] w fun e w' => e = .returned (.int .i64 (pw n : Nat)) ∧ w = w' := by
  go_enter Try.func21, Try.ntmps21
  go_wp2
  go_loop [3, 4] (fun o i => ∃ k q : Nat, k ≤ n % 32 ∧ Hid (2 ^ k = q) ∧ q < 4294967296 ∧ i = .int .i64 k ∧ o = .int .i64 q) (fun _ i => n % 32 - (intOf i).toNat)
  case atStart => exact ⟨0, 1, by omega, Lib.hid rfl, by omega, rfl, rfl⟩
  case round =>
    obtain ⟨k, q, hk, HQ, hq, rfl, rfl⟩ := hrel
    by_cases hlt : k < n % 32
    · go_wp2
      go_round
      case rel =>
        have hp : 2 ^ (k + 1) < 2 ^ 32 := Nat.pow_lt_pow_right (by omega) (by omega)
        have he : 2 ^ (k + 1) = 2 * q := by rw [Nat.pow_succ, HQ.out, Nat.mul_comm]
        exact ⟨k + 1, 2 * q, by omega, Lib.hid he, by rw [← he]; exact hp, by go_num, by go_num⟩
      case measure => simp [intOf]; omega
    · have HK := Lib.hid (show k = n % 32 by omega)
      go_wp2
      go_ret
      exact ⟨ret_int (pw_end n k q HK.out HQ.out), rfl⟩
theorem bits_any (a b t0 t1 t2 bl : Nat) (w : World) (ha : a < 4294967296) (hb : b < 4294967296) (h0 : t0 ≤ 1) (h1 : t1 ≤ 1) (h2 : t2 ≤ 1)
    (c0 : w.cell? ⟨bl, 0, none⟩ = some (.int .i64 t0)) (c1 : w.cell? ⟨bl, 1, none⟩ = some (.int .i64 t1)) (c2 : w.cell? ⟨bl, 2, none⟩ = some (.int .i64 t2)) :
    Calls Try.prog 20 #[.int .i64 a, .int .i64 b, .slice (some ⟨bl, 0, none⟩) 3 3] w fun e w' => e = .returned (.int .i64 (bitsN t0 t1 t2 32 a b : Nat)) ∧ w = w' := by
  have hcell : ∀ j : Nat, j ≤ 2 → w.cell? ⟨bl, j, none⟩ = some (.int .i64 (pick3 t0 t1 t2 j : Nat)) := by
    intro j hj
    match j, hj with
    | 0, _ => exact c0
    | 1, _ => exact c1
    | 2, _ => exact c2
  have HC := Lib.hid hcell
  clear hcell c0 c1 c2
  go_enter Try.func20, Try.ntmps20
  go_wp2
  go_loop [0, 1, 7, 8, 9] (fun x y o p i => ∃ xn yn on pn k : Nat, k ≤ 32 ∧ xn < 4294967296 ∧ yn < 4294967296 ∧ on < pn ∧ pn ≤ 4294967296 ∧ Hid (pn = 2 ^ k) ∧ Hid (on + pn * bitsN t0 t1 t2 (32 - k) xn yn = bitsN t0 t1 t2 32 a b) ∧ x = .int .i64 xn ∧ y = .int .i64 yn ∧ o = .int .i64 on ∧ p = .int .i64 pn ∧ i = .int .i64 k) (fun _ _ _ _ i => 32 - (intOf i).toNat)
  case atStart => exact ⟨a, b, 0, 1, 0, by omega, ha, hb, by omega, by omega, Lib.hid rfl, Lib.hid (by simp), rfl, rfl, rfl, rfl, rfl⟩
  case round =>
    obtain ⟨xn, yn, on, pn, k, hk, hx, hy, ho, hp, HP, HV, rfl, rfl, rfl, rfl, rfl⟩ := hrel
    by_cases hlt : k < 32
    · have hpk : pn ≤ 2147483648 := by
        have : 2 ^ k ≤ 2 ^ 31 := Nat.pow_le_pow_right (by omega) (by omega)
        rw [HP.out]; exact this
      have hl := pick3_le t0 t1 t2 h0 h1 h2 (xn % 2 + yn % 2)
      have hc := HC.out (xn % 2 + yn % 2) (by omega)
      have hst := Lib.hid (bits_step t0 t1 t2 (32 - k) (32 - (k + 1)) on pn xn yn _ (by omega) HV.out)
      have hm : pn * pick3 t0 t1 t2 (xn % 2 + yn % 2) ≤ pn := by
        have := Nat.mul_le_mul_left pn hl; omega
      generalize pick3 t0 t1 t2 (xn % 2 + yn % 2) = c at *
      have hmi : (pn : Int) * (c : Int) = ((pn * c : Nat) : Int) := by simp
      have hpow := Lib.hid (Nat.pow_succ (n := 2) (m := k))
      generalize hz : pn * c = z at *
      have HZ := Lib.hid hz
      clear hz HC
      go_wp2
      exact ⟨⟨xn / 2, yn / 2, on + z, 2 * pn, k + 1, by omega, by omega, by omega, by omega, by omega, Lib.hid (by rw [hpow.out, ← HP.out, Nat.mul_comm]), hst, by go_num, by go_num, by go_num, by go_num, by go_num⟩, by simp [intOf]; omega⟩
    · have HK := Lib.hid (show k = 32 by omega)
      clear HC
      go_wp2
      go_ret
      exact ⟨ret_int (bits_end t0 t1 t2 k on pn xn yn _ HK.out HV.out), rfl⟩

theorem mod_word (n : Nat) (h : n < 4294967296) : ((n : Nat) : Int) % 4294967296 = (n : Int) := by omega
theorem rdiv (a b : Nat) (ha : a < 4294967296) : 0 ≤ (a : Int) / (b : Int) ∧ (a : Int) / (b : Int) ≤ 4294967295 ∧ (a : Int) / (b : Int) % 4294967296 = (doN 4 a b : Nat) := by
  have hq := Nat.div_le_self a b
  rw [← Int.natCast_ediv]
  show 0 ≤ ((a / b : Nat) : Int) ∧ ((a / b : Nat) : Int) ≤ 4294967295 ∧ ((a / b : Nat) : Int) % 4294967296 = ((a / b : Nat) : Int)
  generalize a / b = q at *
  omega
end Go.Proofs.Ytdhmfdfmblheoaa
