/-
  What package schema's decode returns, as a contract over the translated program.
-/
import Derived.Test.YtbihfaplhjbfeaaD
namespace Go.Proofs.Ytbihfaplhjbfeaa
open Go.RowKit

theorem or_byte (n z : Nat) (hz : z < 256) : (n * 256) ||| z = n * 256 + z := by
  have := Nat.shiftLeft_add_eq_or_of_lt (i := 8) (b := z) (by omega) n
  rw [Nat.shiftLeft_eq] at this
  exact this.symm
theorem or64 (a b : Nat) (ha : a < 65536) (hb : b < 65536) : bits .or .i64 (a : Int) (b : Int) = ((a ||| b : Nat) : Int) := by
  have hx : a ||| b < 2 ^ 16 := Nat.or_lt_two_pow (by omega) (by omega)
  show IntKind.i64.wrap ((BitVec.ofInt 64 (a : Int) ||| BitVec.ofInt 64 (b : Int)).toNat : Int) = _
  rw [BitVec.toNat_or, ofInt_u64 a (by omega), ofInt_u64 b (by omega)]
  exact wI _ (by omega) (by omega)
theorem or_bytes (y z : Int) (hy : 0 ≤ y ∧ y ≤ 255) (hz : 0 ≤ z ∧ z ≤ 255) : bits .or .i64 (y * 256) z = y * 256 + z := by
  obtain ⟨a, rfl⟩ := Int.eq_ofNat_of_zero_le hy.1
  obtain ⟨b, rfl⟩ := Int.eq_ofNat_of_zero_le hz.1
  have h := or64 (a * 256) b (by omega) (by omega)
  rw [or_byte a b (by omega)] at h
  simpa using h

abbrev zeroA : Array Value := #[.int .i64 0, .int .i64 0, .int .i64 0, .int .i64 0]
set_option maxHeartbeats 2000000 in
theorem decode_any (x : Addr) (len cap : Nat) (zs : List Int) (w : World) (h : SliceB w (some x) len cap zs) (hl : 5 ≤ len) :
    Calls Try.prog 23 #[.slice (some x) len cap] w fun e w' => e = .returned (scV (zs.getD 0 0) (zs.getD 1 0) (zs.getD 2 0) (zs.getD 3 0 * 256 + zs.getD 4 0)) ∧ Below w.heap.size w w' := by
  have hm := h.max
  have hg : Below w.heap.size w (w.alloc (.cells zeroA 25)) := (Below.refl _ _).alloc (Nat.le_refl _) _
  have h' := h.below hg
  obtain ⟨h1, h2, h3, h4, h5⟩ := h'
  obtain ⟨x', hx, hB⟩ := h5.resolve_left (by omega)
  cases hx
  have b : ∀ i, i < zs.length → 0 ≤ zs.getD i 0 ∧ zs.getD i 0 ≤ 255 := fun i hi => h4 _ (getD_mem zs i 0 hi)
  have b0 := b 0 (by omega)
  have b1 := b 1 (by omega)
  have b2 := b 2 (by omega)
  have b3 := b 3 (by omega)
  have b4 := b 4 (by omega)
  have c0 := hB 0 (by omega)
  have c1 := hB 1 (by omega)
  have c2 := hB 2 (by omega)
  have c3 := hB 3 (by omega)
  have c4 := hB 4 (by omega)
  rw [Addr.add_zero'] at c0
  rw [add_add_cell x _ (by omega)] at c1 c2 c3 c4
  have hor := or_bytes _ _ b3 b4
  have hx0 : x.block < (w.alloc (.cells zeroA 25)).heap.size := lt_of_cell c0
  have l0 : (0 : Int) < (len : Int) := by omega
  have l1 : (1 : Int) < (len : Int) := by omega
  have l2 : (2 : Int) < (len : Int) := by omega
  have l3 : (3 : Int) < (len : Int) := by omega
  have l4 : (4 : Int) < (len : Int) := by omega
  have hxw : x.block < w.heap.size := by
    obtain ⟨y, hy, hB'⟩ := h.2.2.2.2.resolve_left (by omega)
    cases hy
    have := lt_of_cell (hB' 0 (by omega))
    rwa [add_block] at this
  clear h h1 h2 h3 h4 h5 hB b
  generalize zs.getD 0 0 = z0 at *
  generalize zs.getD 1 0 = z1 at *
  generalize zs.getD 2 0 = z2 at *
  generalize zs.getD 3 0 = z3 at *
  generalize zs.getD 4 0 = z4 at *
  go_enter Try.func23, Try.ntmps23
  go_wp2_with fail
  go_big_region
  go_wp2
  refine bodyPost_ret (v := scV z0 z1 z2 (z3 * 256 + z4)) ?_ ?_ ?_
  · exact results_cell_row Try.results23 _ _ w.heap.size 25 _ (0, 0) _ rfl (heap_alloc_new w _) Try.underlying25 rfl (by kernel_rfl)
  · rfl
  · exact ⟨rfl, ((Below.refl _ _).alloc (Nat.le_refl _) _).drew⟩
end Go.Proofs.Ytbihfaplhjbfeaa
