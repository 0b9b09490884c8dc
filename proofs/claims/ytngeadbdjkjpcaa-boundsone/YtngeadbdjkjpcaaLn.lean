/-
  How many bits a word has (math/bits.Len32), as a contract over the translated program.
-/
import Derived.Test.YtngeadbdjkjpcaaC
import Derived.Lib.BitFns
import Derived.Lib.Walk
import Derived.Lib.Small
namespace Go.Proofs.Ytngeadbdjkjpcaa
open Go.RowKit

theorem len_a (x : Int) (w : World) (h0 : 0 ≤ x) (h1 : x ≤ 255) : Calls Try.prog 58 #[.int .u32 x] w fun e w' => e = .returned (.int .i64 (Lib.bitLen x.toNat)) ∧ w' = w := by
  have d1 : decide ((65536 : Int) ≤ x) = false := decide_eq_false (by omega)
  have d2 : decide ((256 : Int) ≤ x) = false := decide_eq_false (by omega)
  have hv := Lib.hid (Lib.len8_of x h0 h1)
  have l := Lib.bitLen_le8' x h0 h1
  have g0 := Int.natCast_nonneg (Lib.bitLen x.toNat)
  go_enter Try.func58, Try.ntmps58
  go_wp2
  go_ret
  refine ⟨congrArg Ending.returned (congrArg (Value.int IntKind.i64) ?_), rfl⟩
  rw [hv.out]; simp only [wrap64]; omega
theorem len_b (x : Int) (w : World) (h0 : 256 ≤ x) (h1 : x ≤ 65535) : Calls Try.prog 58 #[.int .u32 x] w fun e w' => e = .returned (.int .i64 (Lib.bitLen x.toNat)) ∧ w' = w := by
  have d1 : decide ((65536 : Int) ≤ x) = false := decide_eq_false (by omega)
  have d2 : decide ((256 : Int) ≤ x) = true := decide_eq_true (by omega)
  have i0 : 0 ≤ x / 256 := by omega
  have i1 : x / 256 ≤ 255 := by omega
  have hv := Lib.hid (Lib.len8_of (x / 256) i0 i1)
  have l := Lib.hid (Lib.bitLen_le8' (x / 256) i0 i1)
  have s := Lib.hid (Lib.bitLen_shift8 x.toNat (by omega) (by omega))
  have e : (x / 256).toNat = x.toNat / 256 := by omega
  rw [e] at hv l
  clear h0 h1 e
  go_enter Try.func58, Try.ntmps58
  go_wp2
  go_ret
  refine ⟨congrArg Ending.returned (congrArg (Value.int IntKind.i64) ?_), rfl⟩
  have hv := hv.out
  have l := l.out
  have s := s.out
  simp only [wrap64]
  omega
theorem len_c (x : Int) (w : World) (h0 : 65536 ≤ x) (h1 : x ≤ 16777215) : Calls Try.prog 58 #[.int .u32 x] w fun e w' => e = .returned (.int .i64 (Lib.bitLen x.toNat)) ∧ w' = w := by
  have d1 : decide ((65536 : Int) ≤ x) = true := decide_eq_true (by omega)
  have d2 : decide ((256 : Int) ≤ x / 65536) = false := decide_eq_false (by omega)
  have i0 : 0 ≤ x / 65536 := by omega
  have i1 : x / 65536 ≤ 255 := by omega
  have hv := Lib.hid (Lib.len8_of (x / 65536) i0 i1)
  have l := Lib.hid (Lib.bitLen_le8' (x / 65536) i0 i1)
  have s := Lib.hid (Lib.bitLen_shift16 x.toNat (by omega) (by omega))
  have e : (x / 65536).toNat = x.toNat / 65536 := by omega
  rw [e] at hv l
  clear h0 h1 e
  go_enter Try.func58, Try.ntmps58
  go_wp2
  go_ret
  refine ⟨congrArg Ending.returned (congrArg (Value.int IntKind.i64) ?_), rfl⟩
  have hv := hv.out
  have l := l.out
  have s := s.out
  simp only [wrap64]
  omega
theorem len_d (x : Int) (w : World) (h0 : 16777216 ≤ x) (h1 : x ≤ 4294967295) : Calls Try.prog 58 #[.int .u32 x] w fun e w' => e = .returned (.int .i64 (Lib.bitLen x.toNat)) ∧ w' = w := by
  have d1 : decide ((65536 : Int) ≤ x) = true := decide_eq_true (by omega)
  have d2 : decide ((256 : Int) ≤ x / 65536) = true := decide_eq_true (by omega)
  have i0 : 0 ≤ x / 65536 / 256 := by omega
  have i1 : x / 65536 / 256 ≤ 255 := by omega
  have hv := Lib.hid (Lib.len8_of (x / 65536 / 256) i0 i1)
  have l := Lib.hid (Lib.bitLen_le8' (x / 65536 / 256) i0 i1)
  have s := Lib.hid (Lib.bitLen_shift24 x.toNat (by omega) (by omega))
  have e : (x / 65536 / 256).toNat = x.toNat / 16777216 := by omega
  rw [e] at hv l
  clear h0 h1 e
  go_enter Try.func58, Try.ntmps58
  go_wp2
  go_ret
  refine ⟨congrArg Ending.returned (congrArg (Value.int IntKind.i64) ?_), rfl⟩
  have hv := hv.out
  have l := l.out
  have s := s.out
  simp only [wrap64]
  omega
theorem len_any (x : Int) (w : World) (h0 : 0 ≤ x) (h1 : x ≤ 4294967295) : Calls Try.prog 58 #[.int .u32 x] w fun e w' => e = .returned (.int .i64 (Lib.bitLen x.toNat)) ∧ w' = w := by
  by_cases a : x ≤ 255
  · exact len_a x w h0 a
  by_cases b : x ≤ 65535
  · exact len_b x w (by omega) b
  by_cases c : x ≤ 16777215
  · exact len_c x w (by omega) c
  exact len_d x w (by omega) h1
theorem bitLen_eq (x : Nat) (h : x < 4294967296) : x < 2 ^ Lib.bitLen x ∧ (∀ n, x < 2 ^ n → Lib.bitLen x ≤ n) := by
  have key : ∀ f y, y < 2 ^ f → y < 2 ^ Lib.bitLenAux f y ∧ (∀ n, y < 2 ^ n → Lib.bitLenAux f y ≤ n) := by
    intro f
    induction f with
    | zero => intro y hy; exact ⟨hy, fun n _ => Nat.zero_le n⟩
    | succ f ih =>
      intro y hy
      rw [Nat.pow_succ] at hy
      unfold Lib.bitLenAux
      by_cases h0 : y = 0
      · rw [if_pos h0]; exact ⟨by omega, fun n _ => Nat.zero_le n⟩
      · rw [if_neg h0]
        obtain ⟨i1, i2⟩ := ih (y / 2) (by omega)
        refine ⟨?_, ?_⟩
        · rw [Nat.add_comm, Nat.pow_succ]; omega
        · intro n hn
          cases n with
          | zero => omega
          | succ n =>
            rw [Nat.pow_succ] at hn
            have := i2 n (by omega)
            omega
  exact key 64 x (by omega)
end Go.Proofs.Ytngeadbdjkjpcaa
