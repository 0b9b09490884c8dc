/-
  What package inst's partReader, its closure and decode return, as contracts over the translated program.
-/
import Derived.Test.YtlbhmopmfddhjaaDoorC
import Derived.Laws.BitsAllLaws
import Derived.Laws.CopyOwn
import Derived.Laws.ResultCell
namespace Go.Proofs.YtlbhmopmfddhjaaDoor
open Go.RowKit

/- the reader's two variables: the bytes in block B, how many are read in block C -/
def Rdr (w : World) (B C : Nat) (a : Option Addr) (cap at0 : Nat) : Prop :=
  B ≠ C ∧ w.cell? ⟨B, 0, none⟩ = some (.slice a 8 cap) ∧ w.cell? ⟨C, 0, none⟩ = some (.int .i64 (at0 : Int)) ∧ w.frozen? ⟨C, 0, none⟩ = false
theorem reader_any (a : Option Addr) (cap : Nat) (w : World) :
    Calls Tryd.prog 40 #[.slice a 8 cap] w fun e w' => ∃ B C, e = .returned (.func (.func 43) #[] #[.pointer (some ⟨B, 0, none⟩), .pointer (some ⟨C, 0, none⟩)]) ∧ Below w.heap.size w w' ∧ w.heap.size ≤ C ∧ Rdr w' B C a cap 0 := by
  go_enter Tryd.func40, Tryd.ntmps40
  go_wp2
  go_ret
  exact ⟨_, _, rfl, ((Below.refl _ _).alloc (Nat.le_refl _) _).alloc (by simp) _, by omega, by omega, by simp, by simp, by simp⟩

/- the number that k bytes from at on make -/
def num (zs : List Int) (at0 : Nat) : Nat → Int
  | 0 => 0
  | k + 1 => num zs at0 k * 256 + zs.getD (at0 + k) 0
theorem num_bounds (zs : List Int) (at0 : Nat) (hz : ∀ i, i < zs.length → 0 ≤ zs.getD i 0 ∧ zs.getD i 0 ≤ 255) : ∀ k, at0 + k ≤ zs.length → 0 ≤ num zs at0 k ∧ num zs at0 k < 256 ^ k
  | 0, _ => by simp [num]
  | k + 1, h => by
    have h1 := num_bounds zs at0 hz k (by omega)
    have h2 := hz (at0 + k) (by omega)
    have h3 : (256 : Int) ^ (k + 1) = 256 ^ k * 256 := Int.pow_succ _ _
    simp only [num, h3]
    omega
theorem or_byte (n z : Nat) (hz : z < 256) : (n * 256) ||| z = n * 256 + z := by
  have := Nat.shiftLeft_add_eq_or_of_lt (i := 8) (b := z) (by omega) n
  rw [Nat.shiftLeft_eq] at this
  exact this.symm

theorem rd_any (size at0 cap B C : Nat) (x : Addr) (zs : List Int) (w : World) (hl : zs.length = 8) (hc : 8 ≤ cap) (hz : ∀ i, i < zs.length → 0 ≤ zs.getD i 0 ∧ zs.getD i 0 ≤ 255) (h1 : 1 ≤ size) (hs : size ≤ 4) (ha : at0 + size ≤ 8)
    (hb : BytesAt w x zs) (W : Nat) (hW : W ≤ C) (hR : Rdr w B C (some x) cap at0) :
    Calls Tryd.prog 43 #[.int .i64 size, .pointer (some ⟨B, 0, none⟩), .pointer (some ⟨C, 0, none⟩)] w fun e w' => e = .returned (.int .u32 (num zs at0 size)) ∧ Below W w w' ∧ Rdr w' B C (some x) cap (at0 + size) := by
  obtain ⟨hBC, c0, c1, fz⟩ := hR
  have HCl := Lib.hid c1
  have hne : ¬ cap = at0 := by omega
  have hzs := Lib.hid hz
  have hcell := Lib.hid hb
  clear hz hb
  go_enter Tryd.func43, Tryd.ntmps43
  go_wp2
  go_loop [5, 15] (fun n i => ∃ k q : Nat, k ≤ size ∧ Hid (num zs at0 k = (q : Int)) ∧ i = .int .i64 k ∧ n = .int .u32 q) (fun _ i => size - (intOf i).toNat)
  case atStart => exact ⟨0, 0, by omega, Lib.hid rfl, rfl, rfl⟩
  case round =>
    obtain ⟨k, q, hk, HQ, rfl, rfl⟩ := hrel
    by_cases hlt : k < size
    · have hq : q < 16777216 := by
        have h := (num_bounds zs at0 hzs.out k (by omega)).2
        rw [HQ.out] at h
        have h3 : 256 ^ k ≤ 256 ^ 3 := Nat.pow_le_pow_right (by omega) (by omega)
        have h4 : ((q : Nat) : Int) < ((256 ^ k : Nat) : Int) := by simpa using h
        omega
      have hc1 := hcell.out (at0 + k) (by omega)
      have hzb := hzs.out (at0 + k) (by omega)
      have HN := Lib.hid (show num zs at0 (k + 1) = num zs at0 k * 256 + zs.getD (at0 + k) 0 from rfl)
      obtain ⟨z, hz⟩ := Int.eq_ofNat_of_zero_le hzb.1
      rw [hz] at hc1 hzb HN
      have hz2 : z < 256 := by omega
      clear hz hzb
      rw [← Addr.add_add] at hc1
      have hor : Hid (bits .or .u32 ((q : Int) * 256) (z : Int) = ((q * 256 + z : Nat) : Int)) := Lib.hid (by
        have h := u32_or_nat (q * 256) z (by omega) (by omega)
        rw [or_byte q z hz2] at h
        simpa using h)
      go_wp2
      exact ⟨⟨k + 1, q * 256 + z, by omega, Lib.hid (by rw [HN.out, HQ.out]; simp), by go_num, by rw [hor.out]⟩, by simp [intOf]; omega⟩
    · have HK := Lib.hid (show k = size by omega)
      go_wp2
      go_ret
      refine ⟨?_, ?_⟩
      · rw [← HK.out, HQ.out]
        rfl
      · exact ⟨(Below.refl _ _).setCell hW _, hBC, (World.cell?_setCell_other _ _ _ _ (fun h => hBC (congrArg Addr.block h).symm)).trans c0, by rw [World.cell?_setCell_same _ _ _ HCl.out]; simp, by simp [fz]⟩
theorem rd_at (si : Int) (size at0 cap B C : Nat) (hsi : si = (size : Int)) (x : Addr) (zs : List Int) (w : World) (hl : zs.length = 8) (hc : 8 ≤ cap) (hz : ∀ i, i < zs.length → 0 ≤ zs.getD i 0 ∧ zs.getD i 0 ≤ 255) (h1 : 1 ≤ size) (hs : size ≤ 4) (ha : at0 + size ≤ 8)
    (hb : BytesAt w x zs) (W : Nat) (hW : W ≤ C) (hR : Rdr w B C (some x) cap at0) :
    Calls Tryd.prog 43 #[.int .i64 si, .pointer (some ⟨B, 0, none⟩), .pointer (some ⟨C, 0, none⟩)] w fun e w' => e = .returned (.int .u32 (num zs at0 size)) ∧ Below W w w' ∧ Rdr w' B C (some x) cap (at0 + size) := by
  subst hsi
  exact rd_any size at0 cap B C x zs w hl hc hz h1 hs ha hb W hW hR

set_option maxHeartbeats 2000000 in
theorem decode_any (x : Addr) (cap : Nat) (w : World) (z0 z1 z2 z3 z4 z5 z6 z7 : Int) (hc : 8 ≤ cap) (hz : ∀ i, i < 8 → 0 ≤ [z0, z1, z2, z3, z4, z5, z6, z7].getD i 0 ∧ [z0, z1, z2, z3, z4, z5, z6, z7].getD i 0 ≤ 255) (hb : BytesAt w x [z0, z1, z2, z3, z4, z5, z6, z7]) :
    Calls Tryd.prog 38 #[.slice (some x) 8 cap] w fun e w' => e = .returned (instV (z0 / 16) (z0 % 16) (z1 % 128 / 8) (z1 % 8) (decide (128 ≤ z1)) (z2 * 256 + z3) (((z4 * 256 + z5) * 256 + z6) * 256 + z7)) ∧ Below w.heap.size w w' := by
  have b0 := hz 0 (by omega)
  have b1 := hz 1 (by omega)
  have b2 := hz 2 (by omega)
  have b3 := hz 3 (by omega)
  have b4 := hz 4 (by omega)
  have b5 := hz 5 (by omega)
  have b6 := hz 6 (by omega)
  have b7 := hz 7 (by omega)
  simp at b0 b1 b2 b3 b4 b5 b6 b7
  have n0 : num [z0, z1, z2, z3, z4, z5, z6, z7] 0 1 = z0 := by simp [num]
  have n1 : num [z0, z1, z2, z3, z4, z5, z6, z7] 1 1 = z1 := by simp [num]
  have n2 : num [z0, z1, z2, z3, z4, z5, z6, z7] 2 2 = z2 * 256 + z3 := by simp [num]
  have n4 : num [z0, z1, z2, z3, z4, z5, z6, z7] 4 4 = ((z4 * 256 + z5) * 256 + z6) * 256 + z7 := by simp [num]
  have HZ := Lib.hid hz
  have hg : Below w.heap.size w (w.alloc (.cells #[.int .i64 0, .int .i64 0, .int .i64 0, .int .i64 0, .bool false, .int .i64 0, .int .u32 0] 46)) :=
    (Below.refl _ _).alloc (Nat.le_refl _) _
  have HB := Lib.hid (hb.below hg)
  have hs1 : (w.alloc (.cells #[.int .i64 0, .int .i64 0, .int .i64 0, .int .i64 0, .bool false, .int .i64 0, .int .u32 0] 46)).heap.size = w.heap.size + 1 := by simp
  clear hz hb
  go_enter Tryd.func38, Tryd.ntmps38
  go_wp2_with (go_at_call 40; refine (reader_any _ _ _).mono ?_; rintro e w1 ⟨B, C, rfl, hg1, hC, hR⟩)
  refine (rd_at 1 1 0 cap B C rfl x [z0, z1, z2, z3, z4, z5, z6, z7] _ rfl hc HZ.out (by omega) (by omega) (by omega) (BytesAt.below HB.out hg1) _ hC hR).mono ?_
  rintro e w2 ⟨rfl, hg2, hR2⟩
  replace hg1 := hg1.trans hg2
  clear hg2 hR
  go_wp2_with fail
  refine (rd_at 1 1 1 cap B C rfl x [z0, z1, z2, z3, z4, z5, z6, z7] _ rfl hc HZ.out (by omega) (by omega) (by omega) (BytesAt.below HB.out hg1) _ hC hR2).mono ?_
  rintro e w3 ⟨rfl, hg2, hR3⟩
  replace hg1 := hg1.trans hg2
  clear hg2 hR2
  go_wp2_with fail
  refine (rd_at 2 2 2 cap B C rfl x [z0, z1, z2, z3, z4, z5, z6, z7] _ rfl hc HZ.out (by omega) (by omega) (by omega) (BytesAt.below HB.out hg1) _ hC hR3).mono ?_
  rintro e w4 ⟨rfl, hg2, hR4⟩
  replace hg1 := hg1.trans hg2
  clear hg2 hR3
  go_wp2_with fail
  refine (rd_at 4 4 4 cap B C rfl x [z0, z1, z2, z3, z4, z5, z6, z7] _ rfl hc HZ.out (by omega) (by omega) (by omega) (BytesAt.below HB.out hg1) _ hC hR4).mono ?_
  rintro e w5 ⟨rfl, hg2, hR5⟩
  replace hg1 := hg1.trans hg2
  clear hg2 hR4
  have hblk : w5.heap[w.heap.size]? = some (.cells #[.int .i64 0, .int .i64 0, .int .i64 0, .int .i64 0, .bool false, .int .i64 0, .int .u32 0] 46 (0, 0)) :=
    (hg1.block _ (by simp)).trans (heap_alloc_new _ _)
  have HBK := Lib.hid hblk
  have hg5 := hg.trans (hg1.mono hg.size)
  clear hblk hR5 hg1 hg
  go_wp2_with (refine wpList_store_row rfl 46 _ _ rfl w.heap.size _ rfl rfl 46 _ HBK.out (by kernel_rfl) rfl (by simp [Value.oneCell']) ?_)
  refine bodyPost_ret (v := instV (z0 / 16) (z0 % 16) (z1 % 128 / 8) (z1 % 8) (decide (128 ≤ z1)) (z2 * 256 + z3) (((z4 * 256 + z5) * 256 + z6) * 256 + z7)) ?_ ?_ ?_
  · exact results_cell_row Tryd.results38 _ _ w.heap.size 46 _ (0, 0) _ rfl (setRow_heap _ _ _ _ _ _ HBK.out) Tryd.underlying46 rfl (by kernel_rfl)
  · rfl
  · exact ⟨rfl, below_setRow hg5 (Nat.le_refl _) _⟩
end Go.Proofs.YtlbhmopmfddhjaaDoor
