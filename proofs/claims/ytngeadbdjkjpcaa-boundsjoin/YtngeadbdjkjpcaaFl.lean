/-
  Floats that stand for integers: what the nearest float of an integer reads as, and that order, sum, difference, product, floor and the way back to an integer are those of the integers. Nothing of the program is used here.
-/
import Derived.Laws.FloatArith
namespace Go.Proofs.Ytngeadbdjkjpcaa
open Ieee

theorem log2_mulp (m k : Nat) (h : m ≠ 0) : (m * 2 ^ k).log2 = m.log2 + k := by
  have hp : 0 < 2 ^ k := Nat.two_pow_pos k
  have h1 := Nat.log2_self_le h
  have h2 : m < 2 ^ (m.log2 + 1) := Nat.lt_log2_self
  refine (Nat.log2_eq_iff (Nat.mul_ne_zero h (by omega))).2 ⟨?_, ?_⟩
  · rw [Nat.pow_add]; exact Nat.mul_le_mul_right _ h1
  · rw [show m.log2 + k + 1 = (m.log2 + 1) + k by omega, Nat.pow_add]; exact (Nat.mul_lt_mul_right hp).2 h2
theorem cut_exact (way : Toward) (neg : Bool) (n d : Nat) : way.cut neg (n * 2 ^ d) d = n := by
  by_cases h : n = 0
  · subst h
    have hp : 0 < 2 ^ min d 2 := Nat.two_pow_pos _
    unfold Toward.cut
    cases way <;> simp [Nat.one_shiftLeft]
  · have e : min d ((n * 2 ^ d).log2 + 2) = d := by rw [log2_mulp n d h]; omega
    have hp : 0 < 2 ^ d := Nat.two_pow_pos d
    unfold Toward.cut
    simp only [e, Nat.one_shiftLeft, Nat.mul_div_cancel _ hp, Nat.mul_mod_left]
    cases way <;> simp
theorem kept_bound (m : Nat) (h0 : m ≠ 0) (hl : m.log2 ≤ 52) : 2 ^ 52 ≤ m * 2 ^ (52 - m.log2) ∧ m * 2 ^ (52 - m.log2) < 2 ^ 53 := by
  have hp : 0 < 2 ^ (52 - m.log2) := Nat.two_pow_pos _
  have h1 := Nat.mul_le_mul_right (2 ^ (52 - m.log2)) (Nat.log2_self_le h0)
  have h2 := (Nat.mul_lt_mul_right hp).2 (Nat.lt_log2_self (n := m))
  rw [← Nat.pow_add, show m.log2 + (52 - m.log2) = 52 by omega] at h1
  rw [← Nat.pow_add, show m.log2 + 1 + (52 - m.log2) = 53 by omega] at h2
  exact ⟨h1, h2⟩
theorem nearest_small (neg : Bool) (m k : Nat) (h0 : m ≠ 0) (hm : m < 2 ^ 53) :
    double.nearest neg (m * 2 ^ k) (-(k : Int)) = double.word neg ((m.log2 + 1022) * 2 ^ 52 + m * 2 ^ (52 - m.log2)) := by
  have hl : m.log2 ≤ 52 := by have := (Nat.log2_lt h0).2 hm; omega
  have hp : 0 < 2 ^ k := Nat.two_pow_pos k
  unfold Format.nearest
  rw [if_neg (Nat.mul_ne_zero h0 (by omega))]
  have e1 : max (-(k : Int) + ((m * 2 ^ k).log2 : Nat) - (double.fractionBits : Nat)) double.leastPlace = (m.log2 : Int) - 52 := by
    rw [log2_mulp m k h0]
    have : double.leastPlace = -1074 := by decide
    have e : double.fractionBits = 52 := rfl
    rw [this, e]; omega
  simp only [e1]
  have e2 : ((m.log2 : Int) - 52 - double.leastPlace).toNat = m.log2 + 1022 := by
    have : double.leastPlace = -1074 := by decide
    rw [this]; omega
  have e3 : Toward.even.cut neg ((m * 2 ^ k) <<< (-(k : Int) - ((m.log2 : Int) - 52)).toNat) ((m.log2 : Int) - 52 - -(k : Int)).toNat = m * 2 ^ (52 - m.log2) := by
    by_cases hk : k ≤ 52 - m.log2
    · have a1 : (-(k : Int) - ((m.log2 : Int) - 52)).toNat = 52 - m.log2 - k := by omega
      have a2 : ((m.log2 : Int) - 52 - -(k : Int)).toNat = 0 := by omega
      rw [a1, a2, Nat.shiftLeft_eq, Nat.mul_assoc, ← Nat.pow_add, show k + (52 - m.log2 - k) = 52 - m.log2 by omega]
      have := cut_exact .even neg (m * 2 ^ (52 - m.log2)) 0
      simpa using this
    · have a1 : (-(k : Int) - ((m.log2 : Int) - 52)).toNat = 0 := by omega
      have a2 : ((m.log2 : Int) - 52 - -(k : Int)).toNat = k - (52 - m.log2) := by omega
      rw [a1, a2, Nat.shiftLeft_zero]
      have e : m * 2 ^ k = m * 2 ^ (52 - m.log2) * 2 ^ (k - (52 - m.log2)) := by rw [Nat.mul_assoc, ← Nat.pow_add, show 52 - m.log2 + (k - (52 - m.log2)) = k by omega]
      rw [e]; exact cut_exact ..
  rw [e2, e3]
  obtain ⟨b1, b2⟩ := kept_bound m h0 hl
  generalize m * 2 ^ (52 - m.log2) = q at *
  have e4 : double.binade = 2 ^ 52 := rfl
  have e5 : double.infRung = 2047 * 2 ^ 52 := by decide
  rw [e4, e5, Nat.min_eq_left (by omega)]
theorem read_word (neg : Bool) (e q : Nat) (he : e ≤ 2000) (hq : 2 ^ 52 ≤ q) (hq2 : q < 2 ^ 53) :
    double.read (double.word neg (e * 2 ^ 52 + q)) = .number neg q ((e : Int) - 1074) := by
  have s : double.signWeight = 2 ^ 63 := by decide
  have b : double.binade = 2 ^ 52 := rfl
  have i : double.infRung = 2047 * 2 ^ 52 := by decide
  have l : double.leastPlace = -1074 := by decide
  unfold Format.read Format.word
  rw [s, b, i, l]
  have h1 : (if neg = true then 2 ^ 63 + (e * 2 ^ 52 + q) else e * 2 ^ 52 + q) % 2 ^ 63 = e * 2 ^ 52 + q := by split <;> omega
  have h2 : ((if neg = true then 2 ^ 63 + (e * 2 ^ 52 + q) else e * 2 ^ 52 + q) / 2 ^ 63 % 2 == 1) = neg := by
    cases neg
    · have : (e * 2 ^ 52 + q) / 2 ^ 63 = 0 := by omega
      simp only [Bool.false_eq_true, if_false, this]; rfl
    · have : (2 ^ 63 + (e * 2 ^ 52 + q)) / 2 ^ 63 = 1 := by omega
      simp only [if_true, this]; rfl
  simp only [h1, h2]
  rw [if_neg (by omega), if_pos (by omega)]
  have h3 : (e * 2 ^ 52 + q) / 2 ^ 52 = e + 1 := by omega
  have h4 : 2 ^ 52 + (e * 2 ^ 52 + q) % 2 ^ 52 = q := by omega
  rw [h3, h4]
  have h5 : (-1074 : Int) + ((e + 1 - 1 : Nat) : Int) = (e : Int) - 1074 := by omega
  rw [h5]
/-- The nearest float of an integer. -/
def fl (n : Int) : Nat := floatOfInt .f64 n
theorem fl_eq (n : Int) : fl n = double.nearest (n < 0) n.natAbs 0 := rfl
theorem nearest_scale (neg : Bool) (m k : Nat) (hm : m < 2 ^ 53) : double.nearest neg (m * 2 ^ k) (-(k : Int)) = double.nearest neg m 0 := by
  by_cases h : m = 0
  · subst h; simp [Format.nearest]
  · rw [nearest_small neg m k h hm]
    have := nearest_small neg m 0 h hm
    simp only [Nat.pow_zero, Nat.mul_one] at this
    exact this.symm
theorem read_fl (n : Int) (h : n.natAbs < 2 ^ 53) : ∃ k : Nat, double.read (fl n) = .number (n < 0) (n.natAbs * 2 ^ k) (-(k : Int)) := by
  rw [fl_eq]
  by_cases h0 : n.natAbs = 0
  · have : n = 0 := by omega
    subst this
    have e : double.read (double.nearest (decide ((0 : Int) < 0)) (Int.natAbs 0) 0) = .number (decide ((0 : Int) < 0)) 0 (-1074) := by decide
    have key : ∀ k : Nat, (k : Int) = 1074 → double.read (double.nearest (decide ((0 : Int) < 0)) (Int.natAbs 0) 0) = .number (decide ((0 : Int) < 0)) (Int.natAbs 0 * 2 ^ k) (-(k : Int)) := by
      intro k hk
      rw [hk, Int.natAbs_zero, Nat.zero_mul]
      exact e
    obtain ⟨k, hk⟩ : ∃ k : Nat, (k : Int) = 1074 := ⟨1074, rfl⟩
    exact ⟨k, key k hk⟩
  · have hl : n.natAbs.log2 ≤ 52 := by have := (Nat.log2_lt h0).2 h; omega
    have e := nearest_small (decide (n < 0)) n.natAbs 0 h0 h
    simp only [Nat.pow_zero, Nat.mul_one] at e
    obtain ⟨b1, b2⟩ := kept_bound n.natAbs h0 hl
    refine ⟨52 - n.natAbs.log2, ?_⟩
    have e' : double.nearest (decide (n < 0)) n.natAbs 0 = double.word (decide (n < 0)) ((n.natAbs.log2 + 1022) * 2 ^ 52 + n.natAbs * 2 ^ (52 - n.natAbs.log2)) := e
    have r := read_word (decide (n < 0)) (n.natAbs.log2 + 1022) (n.natAbs * 2 ^ (52 - n.natAbs.log2)) (by omega) b1 b2
    have h5 : ((n.natAbs.log2 + 1022 : Nat) : Int) - 1074 = -((52 - n.natAbs.log2 : Nat) : Int) := by omega
    rw [e', r, h5]
theorem signed_fl (n : Int) (k u : Nat) : signed (decide (n < 0)) (n.natAbs * 2 ^ k) u = n * 2 ^ (k + u) := by
  unfold signed
  rw [Nat.shiftLeft_eq, Nat.mul_assoc, ← Nat.pow_add]
  have e : ((n.natAbs * 2 ^ (k + u) : Nat) : Int) = (n.natAbs : Int) * 2 ^ (k + u) := by simp [Int.natCast_mul, Int.natCast_pow]
  rw [e]
  by_cases h : n < 0
  · simp only [h, decide_true, if_true]
    rw [← Int.neg_mul]
    congr 1
    omega
  · simp only [h, decide_false, Bool.false_eq_true, if_false]
    congr 1
    omega
theorem pow_pos_int (k : Nat) : (0 : Int) < 2 ^ k := by
  have := Nat.two_pow_pos k
  have e : ((2 ^ k : Nat) : Int) = 2 ^ k := by simp [Int.natCast_pow]
  omega
theorem compare_scale (a b : Int) (M : Nat) : compare (a * 2 ^ M) (b * 2 ^ M) = compare a b := by
  have hp := pow_pos_int M
  simp only [compare, compareOfLessAndEq]
  have h1 : (a * 2 ^ M < b * 2 ^ M) ↔ a < b := Int.mul_lt_mul_right hp
  have h2 : (a * 2 ^ M = b * 2 ^ M) ↔ a = b := ⟨fun h => Int.eq_of_mul_eq_mul_right (by omega) h, fun h => by rw [h]⟩
  simp only [h1, h2]
theorem order_fl (a b : Int) (ha : a.natAbs < 2 ^ 53) (hb : b.natAbs < 2 ^ 53) : double.order (fl a) (fl b) = some (compare a b) := by
  obtain ⟨k, hk⟩ := read_fl a ha
  obtain ⟨j, hj⟩ := read_fl b hb
  unfold Format.order
  rw [hk, hj]
  simp only [Datum.order, signed_fl]
  have e1 : k + (-(k : Int) - min (-(k : Int)) (-(j : Int))).toNat = max k j := by omega
  have e2 : j + (-(j : Int) - min (-(k : Int)) (-(j : Int))).toNat = max k j := by omega
  rw [e1, e2, compare_scale]
theorem sum_fl (a b : Int) (k j : Nat) (hs : (a + b).natAbs < 2 ^ 53) (hz : a + b = 0 → ¬ (a < 0 ∧ b < 0)) :
    (Datum.sum (.number (a < 0) (a.natAbs * 2 ^ k) (-(k : Int))) (.number (b < 0) (b.natAbs * 2 ^ j) (-(j : Int)))).map double.write = some (fl (a + b)) := by
  simp only [Datum.sum, signed_fl, Option.map_some]
  have e1 : k + (-(k : Int) - min (-(k : Int)) (-(j : Int))).toNat = max k j := by omega
  have e2 : j + (-(j : Int) - min (-(k : Int)) (-(j : Int))).toNat = max k j := by omega
  have e3 : min (-(k : Int)) (-(j : Int)) = -((max k j : Nat) : Int) := by omega
  rw [e1, e2, e3, ← Int.add_mul]
  have hp := pow_pos_int (max k j)
  generalize max k j = M at *
  have e4 : ((a + b) * 2 ^ M).natAbs = (a + b).natAbs * 2 ^ M := by rw [Int.natAbs_mul, Int.natAbs_pow]; rfl
  rw [e4]
  simp only [Format.write]
  rw [nearest_scale _ _ _ hs, fl_eq]
  congr 2
  by_cases h : a + b = 0
  · have hh := hz h
    rw [h]
    simp only [Int.zero_mul, if_true]
    simp only [← Bool.decide_and]
    simp [hh]
  · have : ¬ (a + b) * 2 ^ M = 0 := by
      intro h'; rcases Int.mul_eq_zero.1 h' with h'' | h'' <;> omega
    rw [if_neg this]
    have e5 : ((a + b) * 2 ^ M < 0) ↔ a + b < 0 := by
      have := Int.mul_lt_mul_right (b := a + b) (c := 0) hp
      rw [Int.zero_mul] at this
      exact this
    simp only [e5]
theorem add_fl (a b : Int) (ha : a.natAbs < 2 ^ 52) (hb : b.natAbs < 2 ^ 52) : double.add (fl a) (fl b) = some (fl (a + b)) := by
  obtain ⟨k, hk⟩ := read_fl a (by omega)
  obtain ⟨j, hj⟩ := read_fl b (by omega)
  unfold Format.add
  rw [hk, hj]
  exact sum_fl a b k j (by omega) (by omega)
theorem sub_fl (a b : Int) (ha : a.natAbs < 2 ^ 52) (hb : b.natAbs < 2 ^ 52) (h0 : 0 ≤ a) (h1 : 0 ≤ b) : double.sub (fl a) (fl b) = some (fl (a - b)) := by
  obtain ⟨k, hk⟩ := read_fl a (by omega)
  obtain ⟨j, hj⟩ := read_fl b (by omega)
  unfold Format.sub
  rw [hk, hj]
  by_cases h : b = 0
  · subst h
    have e := sum_fl a 0 k j (by omega) (by omega)
    rw [Int.add_zero] at e
    rw [Int.sub_zero, ← e]
    have n0 : decide (a < 0) = false := by simp; omega
    simp only [Datum.opposite, Datum.sum, Option.map_some, Int.natAbs_zero, Nat.zero_mul, n0]
    simp [signed]
  · have e := sum_fl a (-b) k j (by omega) (by omega)
    rw [show a - b = a + -b by omega, ← e]
    simp only [Datum.opposite, Int.natAbs_neg]
    have : (!decide (b < 0)) = decide (-b < 0) := by
      by_cases hb : b < 0
      · have h2 : ¬ (-b < 0) := by omega
        rw [decide_eq_true hb, decide_eq_false h2]; rfl
      · have h2 : -b < 0 := by omega
        rw [decide_eq_false hb, decide_eq_true h2]; rfl
    rw [this]
/-- A float that is 2^53 or more. -/
def Big (r : Nat) : Prop := ∃ m i : Nat, double.read r = .number false m i ∧ 2 ^ 52 ≤ m ∧ 1 ≤ i
theorem nearest_big (m k : Nat) (hm : 2 ^ 53 ≤ m) (hm2 : m < 2 ^ 65) : Big (double.nearest false (m * 2 ^ k) (-(k : Int))) := by
  have h0 : m ≠ 0 := by omega
  have hp : 0 < 2 ^ k := Nat.two_pow_pos k
  have hl : 53 ≤ m.log2 := (Nat.le_log2 h0).2 hm
  have hu : m.log2 < 65 := (Nat.log2_lt h0).2 hm2
  unfold Format.nearest
  rw [if_neg (Nat.mul_ne_zero h0 (by omega))]
  have lp : double.leastPlace = -1074 := by decide
  have e1 : max (-(k : Int) + ((m * 2 ^ k).log2 : Nat) - (double.fractionBits : Nat)) double.leastPlace = (m.log2 : Int) - 52 := by
    rw [log2_mulp m k h0]
    have e : double.fractionBits = 52 := rfl
    rw [lp, e]; omega
  simp only [e1]
  have e2 : ((m.log2 : Int) - 52 - double.leastPlace).toNat = m.log2 + 1022 := by rw [lp]; omega
  have a1 : (-(k : Int) - ((m.log2 : Int) - 52)).toNat = 0 := by omega
  have a2 : ((m.log2 : Int) - 52 - -(k : Int)).toNat = m.log2 - 52 + k := by omega
  rw [e2, a1, a2, Nat.shiftLeft_zero]
  have hk : ∃ q, Toward.even.cut false (m * 2 ^ k) (m.log2 - 52 + k) = q ∧ 2 ^ 52 ≤ q ∧ q ≤ 2 ^ 53 := by
    refine ⟨_, rfl, ?_⟩
    have l := log2_mulp m k h0
    have hq0 : m * 2 ^ k ≠ 0 := Nat.mul_ne_zero h0 (by omega)
    have b1 := Nat.log2_self_le hq0
    have b2 := Nat.lt_log2_self (n := m * 2 ^ k)
    rw [l] at b1 b2
    unfold Toward.cut
    rw [l, show min (m.log2 - 52 + k) (m.log2 + k + 2) = m.log2 - 52 + k by omega, Nat.one_shiftLeft]
    have d1 : 2 ^ 52 ≤ m * 2 ^ k / 2 ^ (m.log2 - 52 + k) := by
      refine (Nat.le_div_iff_mul_le (Nat.two_pow_pos _)).2 ?_
      rw [← Nat.pow_add, show 52 + (m.log2 - 52 + k) = m.log2 + k by omega]; exact b1
    have d2 : m * 2 ^ k / 2 ^ (m.log2 - 52 + k) < 2 ^ 53 := by
      refine (Nat.div_lt_iff_lt_mul (Nat.two_pow_pos _)).2 ?_
      rw [← Nat.pow_add, show 53 + (m.log2 - 52 + k) = m.log2 + k + 1 by omega]; exact b2
    dsimp only
    generalize m * 2 ^ k / 2 ^ (m.log2 - 52 + k) = low at *
    have d3 : ∀ b : Bool, b.toNat ≤ 1 := fun b => by cases b <;> decide
    refine ⟨?_, ?_⟩
    · omega
    · have := d3 (decide (2 ^ (m.log2 - 52 + k) < 2 * (m * 2 ^ k % 2 ^ (m.log2 - 52 + k))) || (2 ^ (m.log2 - 52 + k) == 2 * (m * 2 ^ k % 2 ^ (m.log2 - 52 + k)) && low % 2 == 1))
      omega
  obtain ⟨q, hq, q1, q2⟩ := hk
  rw [hq]
  have e4 : double.binade = 2 ^ 52 := rfl
  have e5 : double.infRung = 2047 * 2 ^ 52 := by decide
  rw [e4, e5, Nat.min_eq_left (by omega)]
  by_cases h53 : q < 2 ^ 53
  · refine ⟨q, m.log2 - 52, ?_, q1, by omega⟩
    rw [read_word false (m.log2 + 1022) q (by omega) q1 h53]
    have : ((m.log2 + 1022 : Nat) : Int) - 1074 = ((m.log2 - 52 : Nat) : Int) := by omega
    rw [this]
  · refine ⟨2 ^ 52, m.log2 - 51, ?_, by omega, by omega⟩
    have e6 : (m.log2 + 1022) * 2 ^ 52 + q = (m.log2 + 1023) * 2 ^ 52 + 2 ^ 52 := by omega
    rw [e6, read_word false (m.log2 + 1023) (2 ^ 52) (by omega) (by omega) (by omega)]
    have : ((m.log2 + 1023 : Nat) : Int) - 1074 = ((m.log2 - 51 : Nat) : Int) := by omega
    rw [this]
/-- A float that stands for an integer, as far as words can tell. -/
def Fv (r : Nat) (n : Int) : Prop := (n.natAbs < 2 ^ 53 ∧ r = fl n) ∨ (2 ^ 53 ≤ n ∧ Big r)
theorem Fv.of (n : Int) (h : n.natAbs < 2 ^ 53) : Fv (fl n) n := Or.inl ⟨h, rfl⟩
theorem Fv.get {r : Nat} {n : Int} (h : Fv r n) (hn : n < 2 ^ 53) : r = fl n := by
  rcases h with ⟨_, e⟩ | ⟨h1, _⟩
  · exact e
  · omega
theorem order_Fv {r : Nat} {n : Int} (h : Fv r n) (c : Int) (h0 : 0 ≤ c) (hc : c < 2 ^ 33) : double.order r (fl c) = some (compare n c) := by
  rcases h with ⟨h1, e⟩ | ⟨h1, m, i, e, hm, hi⟩
  · rw [e]; exact order_fl n c h1 (by omega)
  · obtain ⟨j, hj⟩ := read_fl c (by omega)
    unfold Format.order
    rw [e, hj]
    simp only [Datum.order]
    have n0 : decide (c < 0) = false := by simp; omega
    have b1 : ((i : Int) - min (i : Int) (-(j : Int))).toNat = i + j := by omega
    have b2 : (-(j : Int) - min (i : Int) (-(j : Int))).toNat = 0 := by omega
    rw [b1, b2, n0]
    simp only [signed, Bool.false_eq_true, if_false, Nat.shiftLeft_eq, Nat.pow_zero, Nat.mul_one]
    have hlt : c.natAbs * 2 ^ j < m * 2 ^ (i + j) := by
      have hp : 0 < 2 ^ j := Nat.two_pow_pos j
      have h3 : 2 ^ 1 ≤ 2 ^ i := Nat.pow_le_pow_right (by omega) hi
      have h4 : c.natAbs < m * 2 ^ i := by
        have := Nat.mul_le_mul hm h3
        omega
      rw [Nat.pow_add, ← Nat.mul_assoc]
      exact (Nat.mul_lt_mul_right hp).2 h4
    have g1 : compare ((m * 2 ^ (i + j) : Nat) : Int) ((c.natAbs * 2 ^ j : Nat) : Int) = .gt := by
      simp only [compare, compareOfLessAndEq]
      rw [if_neg (by omega), if_neg (by omega)]
    have g2 : compare n c = .gt := by
      simp only [compare, compareOfLessAndEq]
      rw [if_neg (by omega), if_neg (by omega)]
    rw [g1, g2]
theorem mul_fl (a b : Int) (ha : 0 ≤ a) (ha2 : a < 2 ^ 32) (hb : 0 ≤ b) (hb2 : b < 2 ^ 32) : ∃ r, double.mul (fl a) (fl b) = some r ∧ Fv r (a * b) := by
  obtain ⟨k, hk⟩ := read_fl a (by omega)
  obtain ⟨j, hj⟩ := read_fl b (by omega)
  have na : decide (a < 0) = false := by simp; omega
  have nb : decide (b < 0) = false := by simp; omega
  refine ⟨_, by unfold Format.mul; rw [hk, hj]; rfl, ?_⟩
  simp only [Format.write, na, nb, Bool.xor_self]
  have e1 : a.natAbs * 2 ^ k * (b.natAbs * 2 ^ j) = (a * b).natAbs * 2 ^ (k + j) := by
    rw [Int.natAbs_mul, Nat.pow_add]; grind
  have e2 : -(k : Int) + -(j : Int) = -((k + j : Nat) : Int) := by omega
  rw [e1, e2]
  have hn : 0 ≤ a * b := Int.mul_nonneg ha hb
  have hu : a * b < 2 ^ 65 := by
    have := Int.mul_le_mul (show a ≤ 2 ^ 32 by omega) (show b ≤ 2 ^ 32 by omega) hb (by omega)
    omega
  generalize a * b = n at *
  by_cases h : n < 2 ^ 53
  · refine Or.inl ⟨by omega, ?_⟩
    rw [nearest_scale _ _ _ (by omega), fl_eq]
    have : decide (n < 0) = false := by simp; omega
    rw [this]
  · exact Or.inr ⟨by omega, nearest_big n.natAbs (k + j) (by omega) (by omega)⟩
theorem integral_fl (way : Toward) (n : Int) (h : n.natAbs < 2 ^ 53) : (double.read (fl n)).integral way = .number (n < 0) n.natAbs 0 := by
  obtain ⟨k, hk⟩ := read_fl n h
  rw [hk]
  simp only [Datum.integral]
  have e1 : (-(k : Int)).toNat = 0 := by omega
  have e2 : (- -(k : Int)).toNat = k := by omega
  rw [e1, e2, Nat.shiftLeft_zero, cut_exact]
theorem floor_fl (n : Int) (h : n.natAbs < 2 ^ 53) : double.write ((double.read (fl n)).integral .down) = fl n := by
  rw [integral_fl _ n h]; rfl
theorem toInt_fl (n : Int) (h0 : 0 ≤ n) (h1 : n ≤ 4294967295) : floatToIntVal .f64 (fl n) .u32 = some n := by
  unfold floatToIntVal FloatKind.decode Datum.toInt
  have e : FloatKind.f64.format = double := rfl
  rw [e, integral_fl _ n (by omega)]
  have n0 : decide (n < 0) = false := by simp; omega
  have e2 : signed (decide (n < 0)) n.natAbs 0 = n := by
    rw [n0]; simp only [signed, Bool.false_eq_true, if_false, Nat.shiftLeft_zero]; omega
  simp only [e2]
  have m0 : IntKind.u32.min = 0 := by decide
  have m1 : IntKind.u32.max = 4294967295 := by decide
  rw [m0, m1, if_pos ⟨h0, h1⟩]
theorem neg_fl (n : Int) (h : 0 ≤ n) (h1 : n.natAbs < 2 ^ 53) : (double.read (fl n)).neg = false := by
  obtain ⟨k, hk⟩ := read_fl n h1
  rw [hk]
  simp [Datum.neg]; omega
theorem fl0 : fl 0 = 0 := by decide
theorem fl1 : fl 1 = 4607182418800017408 := by decide
theorem flTop : fl 4294967295 = 4751297606873776128 := by decide
section
variable {P : Program}
theorem run_max_fl (a b : Int) (ha : a.natAbs < 2 ^ 53) (hb : b.natAbs < 2 ^ 53) (ts : Array TypeId) (t : TypeId) (w : World) :
    (Builtin.max_ ts t #[.float .f64 (fl a), .float .f64 (fl b)]).run P w = .ok (.float .f64 (fl (max a b))) w := by
  have o := order_fl a b ha hb
  have e : FloatKind.f64.format.order (fl a) (fl b) = some (compare a b) := o
  simp only [Builtin.max_, List.foldlM_cons, List.foldlM_nil, Builtin.max2, e]
  by_cases h1 : a < b
  · have : compare a b = .lt := by simp [compare, compareOfLessAndEq, h1]
    rw [this]; simp [show max a b = b by omega]
  · by_cases h2 : a = b
    · subst h2
      have : compare a a = .eq := by simp [compare, compareOfLessAndEq]
      rw [this]; simp
    · have : compare a b = .gt := by simp [compare, compareOfLessAndEq, h1, h2]
      rw [this]; simp [show max a b = a by omega]
theorem run_min_fl (a b : Int) (ha : a.natAbs < 2 ^ 53) (hb : b.natAbs < 2 ^ 53) (ts : Array TypeId) (t : TypeId) (w : World) :
    (Builtin.min_ ts t #[.float .f64 (fl a), .float .f64 (fl b)]).run P w = .ok (.float .f64 (fl (min a b))) w := by
  have o := order_fl a b ha hb
  have e : FloatKind.f64.format.order (fl a) (fl b) = some (compare a b) := o
  simp only [Builtin.min_, List.foldlM_cons, List.foldlM_nil, Builtin.min2, e]
  by_cases h1 : a < b
  · have : compare a b = .lt := by simp [compare, compareOfLessAndEq, h1]
    rw [this]; simp [show min a b = a by omega]
  · by_cases h2 : a = b
    · subst h2
      have : compare a a = .eq := by simp [compare, compareOfLessAndEq]
      rw [this]; simp
    · have : compare a b = .gt := by simp [compare, compareOfLessAndEq, h1, h2]
      rw [this]; simp [show min a b = b by omega]
end
end Go.Proofs.Ytngeadbdjkjpcaa
