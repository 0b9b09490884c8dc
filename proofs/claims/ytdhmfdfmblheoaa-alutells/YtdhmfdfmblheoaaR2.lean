/-
  What the document's Do and Holds return, for every number and every two words, as contracts over the translated program.
-/
import Derived.Test.YtdhmfdfmblheoaaR
namespace Go.Proofs.Ytdhmfdfmblheoaa
open Go.RowKit

theorem ret_pair {a b : Int} (h : a = b) : Ending.returned (.tuple #[.int .u32 a, .bool true]) = .returned (.tuple #[.int .u32 b, .bool true]) := by rw [h]
theorem pw_lt (n : Nat) : pw n < 4294967296 := pow_lt n
theorem pw_pos (n : Nat) : 0 < pw n := Nat.two_pow_pos _
theorem rmod (a b : Nat) : 0 ≤ (a : Int) / (b : Int) * (b : Int) ∧ (a : Int) / (b : Int) * (b : Int) ≤ a ∧ (a : Int) - (a : Int) / (b : Int) * (b : Int) = (a % b : Nat) := by
  have h := Nat.div_add_mod a b
  rw [Nat.mul_comm] at h
  have e : (a : Int) / (b : Int) * (b : Int) = ((a / b * b : Nat) : Int) := by simp
  rw [e]
  generalize a / b * b = q at *
  generalize a % b = r at *
  omega
set_option maxHeartbeats 400000 in
theorem refdo0 (a b : Nat) (w : World) (ha : a < 4294967296) (hb : b < 4294967296) :
    Calls Try.prog 13 #[.int .i64 0, .int .u32 a, .int .u32 b] w fun e w' => e = .returned (.tuple #[.int .u32 (doN 0 a b), .bool true]) ∧ Grown w w' := by
  go_enter Try.func13, Try.ntmps13
  go_wp2
  go_ret2
  exact ⟨rfl, Grown.refl _⟩
set_option maxHeartbeats 400000 in
theorem refdo1 (a b : Nat) (w : World) (ha : a < 4294967296) (hb : b < 4294967296) :
    Calls Try.prog 13 #[.int .i64 1, .int .u32 a, .int .u32 b] w fun e w' => e = .returned (.tuple #[.int .u32 (doN 1 a b), .bool true]) ∧ Grown w w' := by
  go_enter Try.func13, Try.ntmps13
  go_wp2_with fail
  refine (word_any _ _ (by omega) (by omega)).mono ?_
  rintro e w' ⟨rfl, rfl⟩
  go_wp2_with fail
  go_ret2
  exact ⟨ret_pair (by simp only [doN]; omega), Grown.refl _⟩
set_option maxHeartbeats 400000 in
theorem refdo2 (a b : Nat) (w : World) (ha : a < 4294967296) (hb : b < 4294967296) :
    Calls Try.prog 13 #[.int .i64 2, .int .u32 a, .int .u32 b] w fun e w' => e = .returned (.tuple #[.int .u32 (doN 2 a b), .bool true]) ∧ Grown w w' := by
  go_enter Try.func13, Try.ntmps13
  go_wp2_with fail
  refine (word_any _ _ (by omega) (by omega)).mono ?_
  rintro e w' ⟨rfl, rfl⟩
  go_wp2_with fail
  go_ret2
  exact ⟨ret_pair (by simp only [doN]; omega), Grown.refl _⟩
set_option maxHeartbeats 400000 in
theorem refdo3 (a b : Nat) (w : World) (ha : a < 4294967296) (hb : b < 4294967296) :
    Calls Try.prog 13 #[.int .i64 3, .int .u32 a, .int .u32 b] w fun e w' => e = .returned (.tuple #[.int .u32 (doN 3 a b), .bool true]) ∧ Grown w w' := by
  have l := timesI_ge a b
  have u := timesI_le a b
  have HM := Lib.hid (timesI_mod a b)
  go_enter Try.func13, Try.ntmps13
  go_wp2_with fail
  refine (times_any _ _ _ (by omega) (by omega) (by omega) (by omega)).mono ?_
  rintro e w' ⟨rfl, rfl⟩
  go_wp2_with fail
  refine (word_any _ _ (by omega) (by omega)).mono ?_
  rintro e w' ⟨rfl, rfl⟩
  go_wp2_with fail
  go_ret2
  exact ⟨ret_pair (by rw [HM.out]; simp [doN]), Grown.refl _⟩
set_option maxHeartbeats 400000 in
theorem refdo4 (a b : Nat) (w : World) (ha : a < 4294967296) (hb : b < 4294967296) :
    Calls Try.prog 13 #[.int .i64 4, .int .u32 a, .int .u32 b] w fun e w' => e = .returned (.tuple #[.int .u32 (doN 4 a b), .bool true]) ∧ Grown w w' := by
  by_cases hz : b = 0
  · subst hz
    go_enter Try.func13, Try.ntmps13
    go_wp2
    go_ret2
    exact ⟨ret_pair (by simp [doN]), Grown.refl _⟩
  · have hz1 : ((b : Int) == 0) = false := by simp; omega
    have hz2 : ¬ (b : Int) = 0 := by omega
    clear hz
    obtain ⟨q0, q1, q2⟩ := rdiv a b ha
    have HQ := Lib.hid q2
    clear q2
    go_enter Try.func13, Try.ntmps13
    go_wp2_with fail
    refine (word_any _ _ (by omega) (by omega)).mono ?_
    rintro e w' ⟨rfl, rfl⟩
    go_wp2_with fail
    go_ret2
    exact ⟨ret_pair HQ.out, Grown.refl _⟩
set_option maxHeartbeats 400000 in
theorem refdo5 (a b : Nat) (w : World) (ha : a < 4294967296) (hb : b < 4294967296) :
    Calls Try.prog 13 #[.int .i64 5, .int .u32 a, .int .u32 b] w fun e w' => e = .returned (.tuple #[.int .u32 (doN 5 a b), .bool true]) ∧ Grown w w' := by
  by_cases hz : b = 0
  · subst hz
    go_enter Try.func13, Try.ntmps13
    go_wp2
    go_ret2
    exact ⟨ret_pair (by simp [doN]), Grown.refl _⟩
  · have hz1 : ((b : Int) == 0) = false := by simp; omega
    have hz2 : ¬ (b : Int) = 0 := by omega
    clear hz
    obtain ⟨q0, q1, q2⟩ := rdiv a b ha
    clear q2
    obtain ⟨r0, r1, r2⟩ := rmod a b
    have HR := Lib.hid r2
    have HL := Lib.hid (Nat.mod_le a b)
    clear r2
    go_enter Try.func13, Try.ntmps13
    go_wp2_with fail
    refine (word_any _ _ (by omega) (by omega)).mono ?_
    rintro e w' ⟨rfl, rfl⟩
    go_wp2_with fail
    go_ret2
    exact ⟨ret_pair (by rw [HR.out]; exact mod_word _ (Nat.lt_of_le_of_lt HL.out ha)), Grown.refl _⟩
set_option maxHeartbeats 400000 in
theorem refdo6 (a b : Nat) (w : World) (ha : a < 4294967296) (hb : b < 4294967296) :
    Calls Try.prog 13 #[.int .i64 6, .int .u32 a, .int .u32 b] w fun e w' => e = .returned (.tuple #[.int .u32 (doN 6 a b), .bool true]) ∧ Grown w w' := by
  have hlt := bitsN_lt 0 0 1 (by omega) (by omega) (by omega) 32 a b
  have HB := Lib.hid (bits_and 32 a b ha hb)
  go_enter Try.func13, Try.ntmps13
  go_wp2_with fail
  refine (bits_any a b 0 0 1 _ _ ha hb (by omega) (by omega) (by omega) (by simp [World.cell?_alloc_new]) (by simp [World.cell?_alloc_new]) (by simp [World.cell?_alloc_new])).mono ?_
  rintro e w' ⟨rfl, rfl⟩
  generalize bitsN 0 0 1 32 a b = z at *
  have hz : z < 4294967296 := hlt
  clear hlt
  go_wp2_with fail
  refine (word_any _ _ (by omega) (by omega)).mono ?_
  rintro e w' ⟨rfl, rfl⟩
  go_wp2_with fail
  go_ret2
  exact ⟨ret_pair (by rw [mod_word z hz, HB.out]; rfl), (Grown.refl _).alloc _ _⟩
set_option maxHeartbeats 400000 in
theorem refdo7 (a b : Nat) (w : World) (ha : a < 4294967296) (hb : b < 4294967296) :
    Calls Try.prog 13 #[.int .i64 7, .int .u32 a, .int .u32 b] w fun e w' => e = .returned (.tuple #[.int .u32 (doN 7 a b), .bool true]) ∧ Grown w w' := by
  have hlt := bitsN_lt 0 1 1 (by omega) (by omega) (by omega) 32 a b
  have HB := Lib.hid (bits_or 32 a b ha hb)
  go_enter Try.func13, Try.ntmps13
  go_wp2_with fail
  refine (bits_any a b 0 1 1 _ _ ha hb (by omega) (by omega) (by omega) (by simp [World.cell?_alloc_new]) (by simp [World.cell?_alloc_new]) (by simp [World.cell?_alloc_new])).mono ?_
  rintro e w' ⟨rfl, rfl⟩
  generalize bitsN 0 1 1 32 a b = z at *
  have hz : z < 4294967296 := hlt
  clear hlt
  go_wp2_with fail
  refine (word_any _ _ (by omega) (by omega)).mono ?_
  rintro e w' ⟨rfl, rfl⟩
  go_wp2_with fail
  go_ret2
  exact ⟨ret_pair (by rw [mod_word z hz, HB.out]; rfl), (Grown.refl _).alloc _ _⟩
set_option maxHeartbeats 400000 in
theorem refdo8 (a b : Nat) (w : World) (ha : a < 4294967296) (hb : b < 4294967296) :
    Calls Try.prog 13 #[.int .i64 8, .int .u32 a, .int .u32 b] w fun e w' => e = .returned (.tuple #[.int .u32 (doN 8 a b), .bool true]) ∧ Grown w w' := by
  have hlt := bitsN_lt 0 1 0 (by omega) (by omega) (by omega) 32 a b
  have HB := Lib.hid (bits_xor 32 a b ha hb)
  go_enter Try.func13, Try.ntmps13
  go_wp2_with fail
  refine (bits_any a b 0 1 0 _ _ ha hb (by omega) (by omega) (by omega) (by simp [World.cell?_alloc_new]) (by simp [World.cell?_alloc_new]) (by simp [World.cell?_alloc_new])).mono ?_
  rintro e w' ⟨rfl, rfl⟩
  generalize bitsN 0 1 0 32 a b = z at *
  have hz : z < 4294967296 := hlt
  clear hlt
  go_wp2_with fail
  refine (word_any _ _ (by omega) (by omega)).mono ?_
  rintro e w' ⟨rfl, rfl⟩
  go_wp2_with fail
  go_ret2
  exact ⟨ret_pair (by rw [mod_word z hz, HB.out]; rfl), (Grown.refl _).alloc _ _⟩
set_option maxHeartbeats 400000 in
theorem refdo9 (a b : Nat) (w : World) (ha : a < 4294967296) (hb : b < 4294967296) :
    Calls Try.prog 13 #[.int .i64 9, .int .u32 a, .int .u32 b] w fun e w' => e = .returned (.tuple #[.int .u32 (doN 9 a b), .bool true]) ∧ Grown w w' := by
  have l := timesI_ge a (pw b)
  have u := timesI_le a (pw b)
  have HM := Lib.hid (timesI_mod a (pw b))
  have p := pw_lt b
  go_enter Try.func13, Try.ntmps13
  go_wp2_with fail
  refine (power_any b _ (by omega)).mono ?_
  rintro e w' ⟨rfl, rfl⟩
  go_wp2_with fail
  refine (times_any _ _ _ (by omega) (by omega) (by omega) (by omega)).mono ?_
  rintro e w' ⟨rfl, rfl⟩
  go_wp2_with fail
  refine (word_any _ _ (by omega) (by omega)).mono ?_
  rintro e w' ⟨rfl, rfl⟩
  go_wp2_with fail
  go_ret2
  exact ⟨ret_pair (by rw [HM.out]; simp [doN, pw]), Grown.refl _⟩
set_option maxHeartbeats 400000 in
theorem refdo10 (a b : Nat) (w : World) (ha : a < 4294967296) (hb : b < 4294967296) :
    Calls Try.prog 13 #[.int .i64 10, .int .u32 a, .int .u32 b] w fun e w' => e = .returned (.tuple #[.int .u32 (doN 10 a b), .bool true]) ∧ Grown w w' := by
  have p := pw_pos b
  have p1 : ¬ (pw b : Int) = 0 := by omega
  obtain ⟨q0, q1, q2⟩ := rdiv a (pw b) ha
  have HQ := Lib.hid q2
  clear q2
  go_enter Try.func13, Try.ntmps13
  go_wp2_with fail
  refine (power_any b _ (by omega)).mono ?_
  rintro e w' ⟨rfl, rfl⟩
  go_wp2_with fail
  refine (word_any _ _ (by omega) (by omega)).mono ?_
  rintro e w' ⟨rfl, rfl⟩
  go_wp2_with fail
  go_ret2
  exact ⟨ret_pair HQ.out, Grown.refl _⟩
theorem refdo_none (op a b : Int) (w : World) (ha0 : 0 ≤ a) (ha : a ≤ 4294967295) (hb0 : 0 ≤ b) (hb : b ≤ 4294967295) (h : op < 0 ∨ 11 ≤ op) :
    Calls Try.prog 13 #[.int .i64 op, .int .u32 a, .int .u32 b] w fun e w' => e = .returned (.tuple #[.int .u32 0, .bool false]) ∧ Grown w w' := by
  have e0 : (op == 0) = false := by simp; omega
  have e1 : (op == 1) = false := by simp; omega
  have e2 : (op == 2) = false := by simp; omega
  have e3 : (op == 3) = false := by simp; omega
  have e4 : (op == 4) = false := by simp; omega
  have e5 : (op == 5) = false := by simp; omega
  have e6 : (op == 6) = false := by simp; omega
  have e7 : (op == 7) = false := by simp; omega
  have e8 : (op == 8) = false := by simp; omega
  have e9 : (op == 9) = false := by simp; omega
  have e10 : (op == 10) = false := by simp; omega
  clear h
  go_enter Try.func13, Try.ntmps13
  go_wp2
  go_ret2
  exact ⟨rfl, Grown.refl _⟩
theorem refdo_any (op a b : Int) (w : World) (h0 : 0 ≤ op) (h1 : op ≤ 10) (ha0 : 0 ≤ a) (ha : a ≤ 4294967295) (hb0 : 0 ≤ b) (hb : b ≤ 4294967295) :
    Calls Try.prog 13 #[.int .i64 op, .int .u32 a, .int .u32 b] w fun e w' => e = .returned (.tuple #[.int .u32 (doI op a b), .bool true]) ∧ Grown w w' := by
  obtain ⟨n, rfl⟩ := Int.eq_ofNat_of_zero_le h0
  obtain ⟨a, rfl⟩ := Int.eq_ofNat_of_zero_le ha0
  obtain ⟨b, rfl⟩ := Int.eq_ofNat_of_zero_le hb0
  rw [doI_nat]
  have hn : n ≤ 10 := by omega
  match n, hn with
  | 0, _ => exact refdo0 a b w (by omega) (by omega)
  | 1, _ => exact refdo1 a b w (by omega) (by omega)
  | 2, _ => exact refdo2 a b w (by omega) (by omega)
  | 3, _ => exact refdo3 a b w (by omega) (by omega)
  | 4, _ => exact refdo4 a b w (by omega) (by omega)
  | 5, _ => exact refdo5 a b w (by omega) (by omega)
  | 6, _ => exact refdo6 a b w (by omega) (by omega)
  | 7, _ => exact refdo7 a b w (by omega) (by omega)
  | 8, _ => exact refdo8 a b w (by omega) (by omega)
  | 9, _ => exact refdo9 a b w (by omega) (by omega)
  | 10, _ => exact refdo10 a b w (by omega) (by omega)
/-- The document's 'Holds', of any number. -/
theorem refholds_any (c a b : Int) (w : World) (ha0 : 0 ≤ a) (ha : a ≤ 4294967295) (hb0 : 0 ≤ b) (hb : b ≤ 4294967295) :
    Calls Try.prog 15 #[.int .i64 c, .int .u32 a, .int .u32 b] w fun e w' => e = .returned (.tuple #[.bool (holdsB c a b), .bool (condB c)]) ∧ w = w' := by
  by_cases hneg : c < 0
  · rw [condB_not c (by omega), holdsB_not c a b (by omega)]
    have e1 : decide (c < 0) = true := by simp; omega
    go_enter Try.func15, Try.ntmps15
    go_wp2
    go_ret2
    exact ⟨rfl, rfl⟩
  by_cases hbig : 4 < c
  · rw [condB_not c (by omega), holdsB_not c a b (by omega)]
    have e1 : decide (c < 0) = false := by simp; omega
    have e2 : decide (4 < c) = true := by simp; omega
    go_enter Try.func15, Try.ntmps15
    go_wp2
    go_ret2
    exact ⟨rfl, rfl⟩
  rw [condB_of c (by omega) (by omega)]
  obtain ⟨n, rfl⟩ := Int.eq_ofNat_of_zero_le (show 0 ≤ c by omega)
  have hn : n ≤ 4 := by omega
  clear hneg hbig
  match n, hn with
  | 0, _ =>
    show Calls Try.prog 15 #[.int .i64 0, .int .u32 a, .int .u32 b] w fun e w' => e = .returned (.tuple #[.bool true, .bool true]) ∧ w = w'
    go_enter Try.func15, Try.ntmps15
    go_wp2
    go_ret2
    exact ⟨rfl, rfl⟩
  | 1, _ =>
    show Calls Try.prog 15 #[.int .i64 1, .int .u32 a, .int .u32 b] w fun e w' => e = .returned (.tuple #[.bool (a == b), .bool true]) ∧ w = w'
    cases ht : (a == b)
    · have ht2 : (a - b == 0) = false := by simp at ht ⊢; omega
      clear ht
      go_enter Try.func15, Try.ntmps15
      go_wp2
      go_ret2
      exact ⟨rfl, rfl⟩
    · have ht2 : (a - b == 0) = true := by simp at ht ⊢; omega
      clear ht
      go_enter Try.func15, Try.ntmps15
      go_wp2
      go_ret2
      exact ⟨rfl, rfl⟩
  | 2, _ =>
    show Calls Try.prog 15 #[.int .i64 2, .int .u32 a, .int .u32 b] w fun e w' => e = .returned (.tuple #[.bool (a != b), .bool true]) ∧ w = w'
    cases ht : (a != b)
    · have ht2 : (a - b != 0) = false := by simp at ht ⊢; omega
      clear ht
      go_enter Try.func15, Try.ntmps15
      go_wp2
      go_ret2
      exact ⟨rfl, rfl⟩
    · have ht2 : (a - b != 0) = true := by simp at ht ⊢; omega
      clear ht
      go_enter Try.func15, Try.ntmps15
      go_wp2
      go_ret2
      exact ⟨rfl, rfl⟩
  | 3, _ =>
    show Calls Try.prog 15 #[.int .i64 3, .int .u32 a, .int .u32 b] w fun e w' => e = .returned (.tuple #[.bool (decide (a < b)), .bool true]) ∧ w = w'
    cases ht : (decide (a < b))
    · have ht2 : (decide (0 < b - a)) = false := by simp at ht ⊢; omega
      go_enter Try.func15, Try.ntmps15
      go_wp2
      go_ret2
      exact ⟨rfl, rfl⟩
    · have ht2 : (decide (0 < b - a)) = true := by simp at ht ⊢; omega
      go_enter Try.func15, Try.ntmps15
      go_wp2
      go_ret2
      exact ⟨rfl, rfl⟩
  | 4, _ =>
    show Calls Try.prog 15 #[.int .i64 4, .int .u32 a, .int .u32 b] w fun e w' => e = .returned (.tuple #[.bool (decide (b ≤ a)), .bool true]) ∧ w = w'
    cases ht : (decide (b ≤ a))
    · have ht2 : (decide (b - a ≤ 0)) = false := by simp at ht ⊢; omega
      clear ht
      go_enter Try.func15, Try.ntmps15
      go_wp2
      go_ret2
      exact ⟨rfl, rfl⟩
    · have ht2 : (decide (b - a ≤ 0)) = true := by simp at ht ⊢; omega
      clear ht
      go_enter Try.func15, Try.ntmps15
      go_wp2
      go_ret2
      exact ⟨rfl, rfl⟩
end Go.Proofs.Ytdhmfdfmblheoaa
