/-
  A slice of bytes that came in, with eight bytes and with any number of them.
-/
import Derived.Test.YtlbhmopmfddhjaaDoorP
import Derived.Test.YtlbhmopmfddhjaaDoorK
namespace Go.Proofs.YtlbhmopmfddhjaaDoor
open Go.RowKit

theorem isRow_max {w : World} {a : Option Addr} {len cap : Nat} {zs : List Int} (h : IsRow .u8 w a len cap zs) : len ≤ maxLen := by
  rcases h with ⟨_, rfl, _⟩ | ⟨x, _, hl, hm, _⟩
  · exact Nat.zero_le _
  · exact Nat.le_trans hl hm
theorem byte_bounds {zs : List Int} (h : ∀ n ∈ zs, (Lit.int .u8 n).wf = true) (i : Nat) (hi : i < zs.length) : 0 ≤ zs.getD i 0 ∧ zs.getD i 0 ≤ 255 := by
  have hm : zs.getD i 0 ∈ zs := by
    rw [List.getD_eq_getElem?_getD, List.getElem?_eq_getElem hi]
    simp
  exact bounds_u8 (h _ hm)
theorem row8 {w : World} {a : Option Addr} {cap : Nat} {zs : List Int} (h : IsRow .u8 w a 8 cap zs) :
    ∃ x z0 z1 z2 z3 z4 z5 z6 z7, a = some x ∧ 8 ≤ cap ∧ (∀ i, i < 8 → 0 ≤ [z0, z1, z2, z3, z4, z5, z6, z7].getD i 0 ∧ [z0, z1, z2, z3, z4, z5, z6, z7].getD i 0 ≤ 255) ∧ BytesAt w x [z0, z1, z2, z3, z4, z5, z6, z7] := by
  rcases h with ⟨_, h0, _⟩ | ⟨x, rfl, hl, _, hz, hc, hw⟩
  · cases h0
  · refine ⟨x, zs.getD 0 0, zs.getD 1 0, zs.getD 2 0, zs.getD 3 0, zs.getD 4 0, zs.getD 5 0, zs.getD 6 0, zs.getD 7 0, rfl, hl, ?_, ?_⟩
    · intro i hi
      match i, hi with
      | 0, _ => exact byte_bounds hw 0 (by omega)
      | 1, _ => exact byte_bounds hw 1 (by omega)
      | 2, _ => exact byte_bounds hw 2 (by omega)
      | 3, _ => exact byte_bounds hw 3 (by omega)
      | 4, _ => exact byte_bounds hw 4 (by omega)
      | 5, _ => exact byte_bounds hw 5 (by omega)
      | 6, _ => exact byte_bounds hw 6 (by omega)
      | 7, _ => exact byte_bounds hw 7 (by omega)
    · intro i hi
      match i, hi with
      | 0, _ => exact hc 0 (by omega)
      | 1, _ => exact hc 1 (by omega)
      | 2, _ => exact hc 2 (by omega)
      | 3, _ => exact hc 3 (by omega)
      | 4, _ => exact hc 4 (by omega)
      | 5, _ => exact hc 5 (by omega)
      | 6, _ => exact hc 6 (by omega)
      | 7, _ => exact hc 7 (by omega)
/- the decoded number fits -/
theorem dec_imm {z0 z1 z2 z3 z4 z5 z6 z7 : Int} (hz : ∀ i, i < 8 → 0 ≤ [z0, z1, z2, z3, z4, z5, z6, z7].getD i 0 ∧ [z0, z1, z2, z3, z4, z5, z6, z7].getD i 0 ≤ 255) :
    0 ≤ ((z4 * 256 + z5) * 256 + z6) * 256 + z7 ∧ ((z4 * 256 + z5) * 256 + z6) * 256 + z7 ≤ 4294967295 := by
  have b4 := hz 4 (by omega)
  have b5 := hz 5 (by omega)
  have b6 := hz 6 (by omega)
  have b7 := hz 7 (by omega)
  simp at b4 b5 b6 b7
  omega
theorem wI (n : Int) (h0 : 0 ≤ n) (h1 : n < 9223372036854775808) : IntKind.i64.wrap n = n := by
  simp [IntKind.wrap, IntKind.bits, IntKind.signed]
  omega
theorem wU (n : Int) (h0 : 0 ≤ n) (h1 : n < 4294967296) : IntKind.u32.wrap n = n := by
  simp [IntKind.wrap, IntKind.bits, IntKind.signed]
  omega
theorem tdivE (a b : Int) (h : 0 ≤ a) : a.tdiv b = a / b := Int.tdiv_eq_ediv_of_nonneg h
theorem tmodE (a b : Int) (h : 0 ≤ a) : a.tmod b = a % b := Int.tmod_eq_emod_of_nonneg h
end Go.Proofs.YtlbhmopmfddhjaaDoor
