/-
  What the reference's Put and Get return, as contracts over the translated program: as package inst's do.
-/
import Derived.Test.YtlbhmopmfddhjaaDoorR
import Derived.Test.YtlbhmopmfddhjaaDoorE
import Derived.Test.YtlbhmopmfddhjaaDoorS
import Derived.BigQuiet
import Derived.BigRegion
namespace Go.Proofs.YtlbhmopmfddhjaaDoor
open Go.RowKit

theorem rput_no (o f d s : Int) (r : Bool) (x m : Int) (w : World) (hM : mayB o f d s r x m = false) (h0 : 0 ≤ m) (hm : m ≤ 4294967295) :
    Calls Tryd.prog 24 #[instV o f d s r x m] w fun e w' => e = .returned (.tuple #[.slice none 0 0, .int .i64 1]) ∧ Below w.heap.size w w' := by
  have hg : Below w.heap.size w (w.alloc (.cells #[.int .i64 o, .int .i64 f, .int .i64 d, .int .i64 s, .bool r, .int .i64 x, .int .u32 m] 46)) :=
    (Below.refl _ _).alloc (Nat.le_refl _) _
  go_enter Tryd.func24, Tryd.ntmps24
  go_wp2_with fail
  refine (ref_may _ _ _ _ _ _ _ _ h0 hm).mono ?_
  rintro e w' ⟨rfl, hg2⟩
  replace hg := hg.trans (hg2.mono hg.size)
  clear hg2
  go_wp2
  go_ret2
  exact ⟨rfl, hg⟩

theorem rput_yes (o f d s : Int) (r : Bool) (x m : Int) (w : World) (hM : mayB o f d s r x m = true) (h0 : 0 ≤ m) (hm : m ≤ 4294967295) :
    Calls Tryd.prog 24 #[instV o f d s r x m] w fun e w' => ∃ b, e = .returned (.tuple #[.slice (some ⟨b, 0, none⟩) 8 8, .int .i64 0]) ∧ Below w.heap.size w w' ∧ w.heap.size ≤ b ∧ BytesAt w' ⟨b, 0, none⟩ (encL o f d s r x m) := by
  have hP := (mayB_iff h0 hm).1 hM
  obtain ⟨o0, o7, d0, d7, s0, s7, f0, x0, x7, fa, fb, fc, hrest⟩ := hP
  have f10 : f ≤ 10 := by omega
  clear fa fb fc hrest
  have hg : Below w.heap.size w (w.alloc (.cells #[.int .i64 o, .int .i64 f, .int .i64 d, .int .i64 s, .bool r, .int .i64 x, .int .u32 m] 46)) :=
    (Below.refl _ _).alloc (Nat.le_refl _) _
  have HI := Lib.hid (instAt_alloc w o f d s r x m 46)
  cases r
  · go_enter Tryd.func24, Tryd.ntmps24
    go_wp2_with fail
    refine (ref_may _ _ _ _ _ _ _ _ h0 hm).mono ?_
    rintro e w' ⟨rfl, hg2⟩
    obtain ⟨c0, c1, c2, c3, c4, c5, c6⟩ := InstAt.below HI.out hg2 (by simp)
    replace hg := hg.trans (hg2.mono hg.size)
    clear hg2 HI
    go_wp2
    go_ret2
    exact ⟨_, rfl, hg.alloc hg.size _, hg.size, bytesAt_alloc _ _ _ _ _ _ _ _ _ _⟩
  · go_enter Tryd.func24, Tryd.ntmps24
    go_wp2_with fail
    refine (ref_may _ _ _ _ _ _ _ _ h0 hm).mono ?_
    rintro e w' ⟨rfl, hg2⟩
    obtain ⟨c0, c1, c2, c3, c4, c5, c6⟩ := InstAt.below HI.out hg2 (by simp)
    replace hg := hg.trans (hg2.mono hg.size)
    clear hg2 HI
    go_wp2
    go_ret2
    refine ⟨_, rfl, hg.alloc hg.size _, hg.size, ?_⟩
    have hl : encL o f d s true x m = [16 * o + f, 128 + 8 * d + s, x / 256, x % 256, m / 16777216, m / 65536 % 256, m / 256 % 256, m % 256] := by
      simp [encL]
      omega
    rw [hl]
    exact bytesAt_alloc _ _ _ _ _ _ _ _ _ _

theorem rget_len (a : Option Addr) (len cap : Nat) (w : World) (hl : len ≠ 8) (hm : len ≤ maxLen) :
    Calls Tryd.prog 26 #[.slice a len cap] w fun e w' => e = .returned (.tuple #[instV 0 0 0 0 false 0 0, .int .i64 7]) ∧ Below w.heap.size w w' := by
  have hm' : len ≤ 9223372036854775807 := by unfold maxLen at hm; omega
  have h8 : ¬ (len : Int) = 8 := by omega
  go_enter Tryd.func26, Tryd.ntmps26
  go_wp2
  refine bodyPost_ret (v := .tuple #[instV 0 0 0 0 false 0 0, .int .i64 7]) ?_ ?_ ?_
  · exact results_inst_two Tryd.results26 _ _ w.heap.size 46 _ _ rfl rfl rfl (heap_alloc_new _ _)
  · rfl
  · exact ⟨rfl, (Below.refl _ _).alloc (Nat.le_refl _) _⟩

set_option maxHeartbeats 4000000 in
theorem rget_no (x : Addr) (cap : Nat) (w : World) (z0 z1 z2 z3 z4 z5 z6 z7 : Int) (hz : ∀ i, i < 8 → 0 ≤ [z0, z1, z2, z3, z4, z5, z6, z7].getD i 0 ∧ [z0, z1, z2, z3, z4, z5, z6, z7].getD i 0 ≤ 255) (hb : BytesAt w x [z0, z1, z2, z3, z4, z5, z6, z7])
    (hM : mayB (z0 / 16) (z0 % 16) (z1 % 128 / 8) (z1 % 8) (decide (128 ≤ z1)) (z2 * 256 + z3) (((z4 * 256 + z5) * 256 + z6) * 256 + z7) = false) :
    Calls Tryd.prog 26 #[.slice (some x) 8 cap] w fun e w' => e = .returned (.tuple #[instV 0 0 0 0 false 0 0, .int .i64 7]) ∧ Below w.heap.size w w' := by
  have b0 := hz 0 (by omega)
  have b1 := hz 1 (by omega)
  have b2 := hz 2 (by omega)
  have b3 := hz 3 (by omega)
  have b4 := hz 4 (by omega)
  have b5 := hz 5 (by omega)
  have b6 := hz 6 (by omega)
  have b7 := hz 7 (by omega)
  simp at b0 b1 b2 b3 b4 b5 b6 b7
  have hg : Below w.heap.size w (w.alloc (.cells zeroL 46)) := (Below.refl _ _).alloc (Nat.le_refl _) _
  have HB := Lib.hid (hb.below hg)
  have hx0 : x.block < (w.alloc (.cells zeroL 46)).heap.size := lt_of_cell (HB.out 0 (by simp))
  have c0 : (w.alloc (.cells zeroL 46)).cell? x = some (.int .u8 z0) := by
    have h : (w.alloc (.cells zeroL 46)).cell? (x.add 0) = some (.int .u8 z0) := HB.out 0 (by simp)
    rwa [Addr.add_zero'] at h
  have c1 : (w.alloc (.cells zeroL 46)).cell? ⟨x.block, x.off + 1, none⟩ = some (.int .u8 z1) := HB.out 1 (by simp)
  have c2 : (w.alloc (.cells zeroL 46)).cell? ⟨x.block, x.off + 2, none⟩ = some (.int .u8 z2) := HB.out 2 (by simp)
  have c3 : (w.alloc (.cells zeroL 46)).cell? ⟨x.block, x.off + 3, none⟩ = some (.int .u8 z3) := HB.out 3 (by simp)
  have c4 : (w.alloc (.cells zeroL 46)).cell? ⟨x.block, x.off + 4, none⟩ = some (.int .u8 z4) := HB.out 4 (by simp)
  have c5 : (w.alloc (.cells zeroL 46)).cell? ⟨x.block, x.off + 5, none⟩ = some (.int .u8 z5) := HB.out 5 (by simp)
  have c6 : (w.alloc (.cells zeroL 46)).cell? ⟨x.block, x.off + 6, none⟩ = some (.int .u8 z6) := HB.out 6 (by simp)
  have c7 : (w.alloc (.cells zeroL 46)).cell? ⟨x.block, x.off + 7, none⟩ = some (.int .u8 z7) := HB.out 7 (by simp)
  have hw1 : (w.alloc (.cells zeroL 46)).heap[w.heap.size]? = some (.cells zeroL 46 (0, 0)) := heap_alloc_new _ _
  have HW1 := Lib.hid hw1
  have hws : w.heap.size < (w.alloc (.cells zeroL 46)).heap.size := by simp
  clear hw1 hz hb
  go_enter Tryd.func26, Tryd.ntmps26
  go_wp2_with fail
  generalize w.alloc (.cells zeroL 46) = w1 at *
  go_big_region
  go_wp2_with fail
  have hg2 : Below w1.heap.size w1 ((w1.alloc (.cells #[.int .i64 (z0 / 16), .int .i64 (z0 % 16), .int .i64 (z1 % 128 / 8), .int .i64 (z1 % 8), .bool (decide (128 ≤ z1)), .int .i64 0, .int .u32 0] 46)).drew) := ((Below.refl _ _).alloc (Nat.le_refl _) _).drew
  have HB2 := Lib.hid (BytesAt.below HB.out hg2)
  have HW2 := Lib.hid ((hg2.block _ hws).trans HW1.out)
  have hblk : ((w1.alloc (.cells #[.int .i64 (z0 / 16), .int .i64 (z0 % 16), .int .i64 (z1 % 128 / 8), .int .i64 (z1 % 8), .bool (decide (128 ≤ z1)), .int .i64 0, .int .u32 0] 46)).drew).heap[w1.heap.size]? = some (.cells #[.int .i64 (z0 / 16), .int .i64 (z0 % 16), .int .i64 (z1 % 128 / 8), .int .i64 (z1 % 8), .bool (decide (128 ≤ z1)), .int .i64 0, .int .u32 0] 46 (0, 0)) := heap_alloc_new _ _
  have HK2 := Lib.hid hblk
  replace hg := hg.trans (hg2.mono hg.size)
  have hxB := hx0
  clear c0 c1 c2 c3 c4 c5 c6 c7 hx0 HB HW1 hblk
  have hne : ¬ w1.heap.size = w.heap.size := by omega
  generalize hB : w1.heap.size = B at *
  generalize ((w1.alloc (.cells #[.int .i64 (z0 / 16), .int .i64 (z0 % 16), .int .i64 (z1 % 128 / 8), .int .i64 (z1 % 8), .bool (decide (128 ≤ z1)), .int .i64 0, .int .u32 0] 46)).drew) = w2 at *
  clear hg2
  have c2 : w2.cell? ⟨x.block, x.off + 2, none⟩ = some (.int .u8 z2) := HB2.out 2 (by simp)
  have c3 : w2.cell? ⟨x.block, x.off + 3, none⟩ = some (.int .u8 z3) := HB2.out 3 (by simp)
  have k5 : w2.cell? ⟨B, 5, none⟩ = some (.int .i64 0) := by simp [World.cell?, HK2.out]
  have f5 : w2.frozen? ⟨B, 5, none⟩ = false := by simp [World.frozen?, HK2.out]
  go_big_region
  go_wp2_with fail
  clear c2 c3 k5 f5
  have hg3 : Below B w2 ((w2.setCell ⟨B, 5, none⟩ (.int .i64 (256 * z2 + z3))).drew) := ((Below.refl _ _).setCell (p := ⟨B, 5, none⟩) (Nat.le_refl _) _).drew
  have HW3 := Lib.hid ((hg3.block _ hws).trans HW2.out)
  have hblk : ((w2.setCell ⟨B, 5, none⟩ (.int .i64 (256 * z2 + z3))).drew).heap[B]? = some (.cells #[.int .i64 (z0 / 16), .int .i64 (z0 % 16), .int .i64 (z1 % 128 / 8), .int .i64 (z1 % 8), .bool (decide (128 ≤ z1)), .int .i64 (256 * z2 + z3), .int .u32 0] 46 (0, 0)) := (heap_setCell_same w2 B 5 _ 46 _ HK2.out).trans (by simp)
  have HK3 := Lib.hid hblk
  have HB3 := Lib.hid (show BytesAt ((w2.setCell ⟨B, 5, none⟩ (.int .i64 (256 * z2 + z3))).drew) x [z0, z1, z2, z3, z4, z5, z6, z7] from fun i hi => (hg3.cell (by rw [add_block]; exact hxB)).trans (HB2.out i hi))
  replace hg := hg.trans (hg3.mono (Nat.le_of_lt hws))
  clear HK2 HW2 HB2 hblk
  generalize ((w2.setCell ⟨B, 5, none⟩ (.int .i64 (256 * z2 + z3))).drew) = w3 at *
  clear hg3
  have c4 : w3.cell? ⟨x.block, x.off + 4, none⟩ = some (.int .u8 z4) := HB3.out 4 (by simp)
  have c5 : w3.cell? ⟨x.block, x.off + 5, none⟩ = some (.int .u8 z5) := HB3.out 5 (by simp)
  have c6 : w3.cell? ⟨x.block, x.off + 6, none⟩ = some (.int .u8 z6) := HB3.out 6 (by simp)
  have c7 : w3.cell? ⟨x.block, x.off + 7, none⟩ = some (.int .u8 z7) := HB3.out 7 (by simp)
  have k6 : w3.cell? ⟨B, 6, none⟩ = some (.int .u32 0) := by simp [World.cell?, HK3.out]
  have f6 : w3.frozen? ⟨B, 6, none⟩ = false := by simp [World.frozen?, HK3.out]
  go_big_region
  clear c4 c5 c6 c7 k6 f6
  have hg3 : Below B w3 ((w3.setCell ⟨B, 6, none⟩ (.int .u32 (16777216 * z4 + 65536 * z5 + 256 * z6 + z7))).drew) := ((Below.refl _ _).setCell (p := ⟨B, 6, none⟩) (Nat.le_refl _) _).drew
  have HW4 := Lib.hid ((hg3.block _ hws).trans HW3.out)
  have hblk : ((w3.setCell ⟨B, 6, none⟩ (.int .u32 (16777216 * z4 + 65536 * z5 + 256 * z6 + z7))).drew).heap[B]? = some (.cells #[.int .i64 (z0 / 16), .int .i64 (z0 % 16), .int .i64 (z1 % 128 / 8), .int .i64 (z1 % 8), .bool (decide (128 ≤ z1)), .int .i64 (256 * z2 + z3), .int .u32 (16777216 * z4 + 65536 * z5 + 256 * z6 + z7)] 46 (0, 0)) := (heap_setCell_same w3 B 6 _ 46 _ HK3.out).trans (by simp)
  have HK4 := Lib.hid hblk
  have hB4 : B < ((w3.setCell ⟨B, 6, none⟩ (.int .u32 (16777216 * z4 + 65536 * z5 + 256 * z6 + z7))).drew).heap.size := (Array.getElem?_eq_some_iff.1 hblk).1
  replace hg := hg.trans (hg3.mono (Nat.le_of_lt hws))
  clear HK3 HW3 HB3 hblk
  generalize ((w3.setCell ⟨B, 6, none⟩ (.int .u32 (16777216 * z4 + 65536 * z5 + 256 * z6 + z7))).drew) = w4 at *
  clear hg3
  have i0 : w4.cell? ⟨B, 0, none⟩ = some (.int .i64 (z0 / 16)) := by simp [World.cell?, HK4.out]
  have i1 : w4.cell? ⟨B, 1, none⟩ = some (.int .i64 (z0 % 16)) := by simp [World.cell?, HK4.out]
  have i2 : w4.cell? ⟨B, 2, none⟩ = some (.int .i64 (z1 % 128 / 8)) := by simp [World.cell?, HK4.out]
  have i3 : w4.cell? ⟨B, 3, none⟩ = some (.int .i64 (z1 % 8)) := by simp [World.cell?, HK4.out]
  have i4 : w4.cell? ⟨B, 4, none⟩ = some (.bool (decide (128 ≤ z1))) := by simp [World.cell?, HK4.out]
  have i5 : w4.cell? ⟨B, 5, none⟩ = some (.int .i64 (256 * z2 + z3)) := by simp [World.cell?, HK4.out]
  have i6 : w4.cell? ⟨B, 6, none⟩ = some (.int .u32 (16777216 * z4 + 65536 * z5 + 256 * z6 + z7)) := by simp [World.cell?, HK4.out]
  go_wp2_with fail
  clear i0 i1 i2 i3 i4 i5 i6
  refine (ref_may _ _ _ _ _ _ _ _ (by omega) (by omega)).mono ?_
  rintro e w5 ⟨rfl, hg5⟩
  have HW5 := Lib.hid ((hg5.block _ (Nat.lt_trans hws hB4)).trans HW4.out)
  replace hg := hg.trans (hg5.mono hg.size)
  have e1 : 256 * z2 + z3 = z2 * 256 + z3 := by omega
  have e2 : 16777216 * z4 + 65536 * z5 + 256 * z6 + z7 = ((z4 * 256 + z5) * 256 + z6) * 256 + z7 := by omega
  have hM2 : mayB (z0 / 16) (z0 % 16) (z1 % 128 / 8) (z1 % 8) (decide (128 ≤ z1)) (256 * z2 + z3) (16777216 * z4 + 65536 * z5 + 256 * z6 + z7) = false := by
    rw [e1, e2]
    exact hM
  have HE := Lib.hid (And.intro e1 e2)
  clear e1 e2 hM
  clear hg5 HK4 HW4
  go_wp2_with (refine wpList_store_row rfl 46 _ _ rfl w.heap.size _ rfl rfl 46 _ HW5.out (by kernel_rfl) rfl (by simp [Value.oneCell']) ?_)
  refine bodyPost_ret (v := .tuple #[instV 0 0 0 0 false 0 0, .int .i64 7]) ?_ ?_ ?_
  · exact results_inst_two Tryd.results26 _ _ w.heap.size 46 _ _ rfl rfl rfl (setRow_heap _ _ _ _ _ _ HW5.out)
  · rfl
  · exact ⟨rfl, below_setRow hg (Nat.le_refl _) _⟩
set_option maxHeartbeats 4000000 in
theorem rget_yes (x : Addr) (cap : Nat) (w : World) (z0 z1 z2 z3 z4 z5 z6 z7 : Int) (hz : ∀ i, i < 8 → 0 ≤ [z0, z1, z2, z3, z4, z5, z6, z7].getD i 0 ∧ [z0, z1, z2, z3, z4, z5, z6, z7].getD i 0 ≤ 255) (hb : BytesAt w x [z0, z1, z2, z3, z4, z5, z6, z7])
    (hM : mayB (z0 / 16) (z0 % 16) (z1 % 128 / 8) (z1 % 8) (decide (128 ≤ z1)) (z2 * 256 + z3) (((z4 * 256 + z5) * 256 + z6) * 256 + z7) = true) :
    Calls Tryd.prog 26 #[.slice (some x) 8 cap] w fun e w' => e = .returned (.tuple #[instV (z0 / 16) (z0 % 16) (z1 % 128 / 8) (z1 % 8) (decide (128 ≤ z1)) (z2 * 256 + z3) (((z4 * 256 + z5) * 256 + z6) * 256 + z7), .int .i64 0]) ∧ Below w.heap.size w w' := by
  have b0 := hz 0 (by omega)
  have b1 := hz 1 (by omega)
  have b2 := hz 2 (by omega)
  have b3 := hz 3 (by omega)
  have b4 := hz 4 (by omega)
  have b5 := hz 5 (by omega)
  have b6 := hz 6 (by omega)
  have b7 := hz 7 (by omega)
  simp at b0 b1 b2 b3 b4 b5 b6 b7
  have hg : Below w.heap.size w (w.alloc (.cells zeroL 46)) := (Below.refl _ _).alloc (Nat.le_refl _) _
  have HB := Lib.hid (hb.below hg)
  have hx0 : x.block < (w.alloc (.cells zeroL 46)).heap.size := lt_of_cell (HB.out 0 (by simp))
  have c0 : (w.alloc (.cells zeroL 46)).cell? x = some (.int .u8 z0) := by
    have h : (w.alloc (.cells zeroL 46)).cell? (x.add 0) = some (.int .u8 z0) := HB.out 0 (by simp)
    rwa [Addr.add_zero'] at h
  have c1 : (w.alloc (.cells zeroL 46)).cell? ⟨x.block, x.off + 1, none⟩ = some (.int .u8 z1) := HB.out 1 (by simp)
  have c2 : (w.alloc (.cells zeroL 46)).cell? ⟨x.block, x.off + 2, none⟩ = some (.int .u8 z2) := HB.out 2 (by simp)
  have c3 : (w.alloc (.cells zeroL 46)).cell? ⟨x.block, x.off + 3, none⟩ = some (.int .u8 z3) := HB.out 3 (by simp)
  have c4 : (w.alloc (.cells zeroL 46)).cell? ⟨x.block, x.off + 4, none⟩ = some (.int .u8 z4) := HB.out 4 (by simp)
  have c5 : (w.alloc (.cells zeroL 46)).cell? ⟨x.block, x.off + 5, none⟩ = some (.int .u8 z5) := HB.out 5 (by simp)
  have c6 : (w.alloc (.cells zeroL 46)).cell? ⟨x.block, x.off + 6, none⟩ = some (.int .u8 z6) := HB.out 6 (by simp)
  have c7 : (w.alloc (.cells zeroL 46)).cell? ⟨x.block, x.off + 7, none⟩ = some (.int .u8 z7) := HB.out 7 (by simp)
  have hw1 : (w.alloc (.cells zeroL 46)).heap[w.heap.size]? = some (.cells zeroL 46 (0, 0)) := heap_alloc_new _ _
  have HW1 := Lib.hid hw1
  have hws : w.heap.size < (w.alloc (.cells zeroL 46)).heap.size := by simp
  clear hw1 hz hb
  go_enter Tryd.func26, Tryd.ntmps26
  go_wp2_with fail
  generalize w.alloc (.cells zeroL 46) = w1 at *
  go_big_region
  go_wp2_with fail
  have hg2 : Below w1.heap.size w1 ((w1.alloc (.cells #[.int .i64 (z0 / 16), .int .i64 (z0 % 16), .int .i64 (z1 % 128 / 8), .int .i64 (z1 % 8), .bool (decide (128 ≤ z1)), .int .i64 0, .int .u32 0] 46)).drew) := ((Below.refl _ _).alloc (Nat.le_refl _) _).drew
  have HB2 := Lib.hid (BytesAt.below HB.out hg2)
  have HW2 := Lib.hid ((hg2.block _ hws).trans HW1.out)
  have hblk : ((w1.alloc (.cells #[.int .i64 (z0 / 16), .int .i64 (z0 % 16), .int .i64 (z1 % 128 / 8), .int .i64 (z1 % 8), .bool (decide (128 ≤ z1)), .int .i64 0, .int .u32 0] 46)).drew).heap[w1.heap.size]? = some (.cells #[.int .i64 (z0 / 16), .int .i64 (z0 % 16), .int .i64 (z1 % 128 / 8), .int .i64 (z1 % 8), .bool (decide (128 ≤ z1)), .int .i64 0, .int .u32 0] 46 (0, 0)) := heap_alloc_new _ _
  have HK2 := Lib.hid hblk
  replace hg := hg.trans (hg2.mono hg.size)
  have hxB := hx0
  clear c0 c1 c2 c3 c4 c5 c6 c7 hx0 HB HW1 hblk
  have hne : ¬ w1.heap.size = w.heap.size := by omega
  generalize hB : w1.heap.size = B at *
  generalize ((w1.alloc (.cells #[.int .i64 (z0 / 16), .int .i64 (z0 % 16), .int .i64 (z1 % 128 / 8), .int .i64 (z1 % 8), .bool (decide (128 ≤ z1)), .int .i64 0, .int .u32 0] 46)).drew) = w2 at *
  clear hg2
  have c2 : w2.cell? ⟨x.block, x.off + 2, none⟩ = some (.int .u8 z2) := HB2.out 2 (by simp)
  have c3 : w2.cell? ⟨x.block, x.off + 3, none⟩ = some (.int .u8 z3) := HB2.out 3 (by simp)
  have k5 : w2.cell? ⟨B, 5, none⟩ = some (.int .i64 0) := by simp [World.cell?, HK2.out]
  have f5 : w2.frozen? ⟨B, 5, none⟩ = false := by simp [World.frozen?, HK2.out]
  go_big_region
  go_wp2_with fail
  clear c2 c3 k5 f5
  have hg3 : Below B w2 ((w2.setCell ⟨B, 5, none⟩ (.int .i64 (256 * z2 + z3))).drew) := ((Below.refl _ _).setCell (p := ⟨B, 5, none⟩) (Nat.le_refl _) _).drew
  have HW3 := Lib.hid ((hg3.block _ hws).trans HW2.out)
  have hblk : ((w2.setCell ⟨B, 5, none⟩ (.int .i64 (256 * z2 + z3))).drew).heap[B]? = some (.cells #[.int .i64 (z0 / 16), .int .i64 (z0 % 16), .int .i64 (z1 % 128 / 8), .int .i64 (z1 % 8), .bool (decide (128 ≤ z1)), .int .i64 (256 * z2 + z3), .int .u32 0] 46 (0, 0)) := (heap_setCell_same w2 B 5 _ 46 _ HK2.out).trans (by simp)
  have HK3 := Lib.hid hblk
  have HB3 := Lib.hid (show BytesAt ((w2.setCell ⟨B, 5, none⟩ (.int .i64 (256 * z2 + z3))).drew) x [z0, z1, z2, z3, z4, z5, z6, z7] from fun i hi => (hg3.cell (by rw [add_block]; exact hxB)).trans (HB2.out i hi))
  replace hg := hg.trans (hg3.mono (Nat.le_of_lt hws))
  clear HK2 HW2 HB2 hblk
  generalize ((w2.setCell ⟨B, 5, none⟩ (.int .i64 (256 * z2 + z3))).drew) = w3 at *
  clear hg3
  have c4 : w3.cell? ⟨x.block, x.off + 4, none⟩ = some (.int .u8 z4) := HB3.out 4 (by simp)
  have c5 : w3.cell? ⟨x.block, x.off + 5, none⟩ = some (.int .u8 z5) := HB3.out 5 (by simp)
  have c6 : w3.cell? ⟨x.block, x.off + 6, none⟩ = some (.int .u8 z6) := HB3.out 6 (by simp)
  have c7 : w3.cell? ⟨x.block, x.off + 7, none⟩ = some (.int .u8 z7) := HB3.out 7 (by simp)
  have k6 : w3.cell? ⟨B, 6, none⟩ = some (.int .u32 0) := by simp [World.cell?, HK3.out]
  have f6 : w3.frozen? ⟨B, 6, none⟩ = false := by simp [World.frozen?, HK3.out]
  go_big_region
  clear c4 c5 c6 c7 k6 f6
  have hg3 : Below B w3 ((w3.setCell ⟨B, 6, none⟩ (.int .u32 (16777216 * z4 + 65536 * z5 + 256 * z6 + z7))).drew) := ((Below.refl _ _).setCell (p := ⟨B, 6, none⟩) (Nat.le_refl _) _).drew
  have HW4 := Lib.hid ((hg3.block _ hws).trans HW3.out)
  have hblk : ((w3.setCell ⟨B, 6, none⟩ (.int .u32 (16777216 * z4 + 65536 * z5 + 256 * z6 + z7))).drew).heap[B]? = some (.cells #[.int .i64 (z0 / 16), .int .i64 (z0 % 16), .int .i64 (z1 % 128 / 8), .int .i64 (z1 % 8), .bool (decide (128 ≤ z1)), .int .i64 (256 * z2 + z3), .int .u32 (16777216 * z4 + 65536 * z5 + 256 * z6 + z7)] 46 (0, 0)) := (heap_setCell_same w3 B 6 _ 46 _ HK3.out).trans (by simp)
  have HK4 := Lib.hid hblk
  have hB4 : B < ((w3.setCell ⟨B, 6, none⟩ (.int .u32 (16777216 * z4 + 65536 * z5 + 256 * z6 + z7))).drew).heap.size := (Array.getElem?_eq_some_iff.1 hblk).1
  replace hg := hg.trans (hg3.mono (Nat.le_of_lt hws))
  clear HK3 HW3 HB3 hblk
  generalize ((w3.setCell ⟨B, 6, none⟩ (.int .u32 (16777216 * z4 + 65536 * z5 + 256 * z6 + z7))).drew) = w4 at *
  clear hg3
  have i0 : w4.cell? ⟨B, 0, none⟩ = some (.int .i64 (z0 / 16)) := by simp [World.cell?, HK4.out]
  have i1 : w4.cell? ⟨B, 1, none⟩ = some (.int .i64 (z0 % 16)) := by simp [World.cell?, HK4.out]
  have i2 : w4.cell? ⟨B, 2, none⟩ = some (.int .i64 (z1 % 128 / 8)) := by simp [World.cell?, HK4.out]
  have i3 : w4.cell? ⟨B, 3, none⟩ = some (.int .i64 (z1 % 8)) := by simp [World.cell?, HK4.out]
  have i4 : w4.cell? ⟨B, 4, none⟩ = some (.bool (decide (128 ≤ z1))) := by simp [World.cell?, HK4.out]
  have i5 : w4.cell? ⟨B, 5, none⟩ = some (.int .i64 (256 * z2 + z3)) := by simp [World.cell?, HK4.out]
  have i6 : w4.cell? ⟨B, 6, none⟩ = some (.int .u32 (16777216 * z4 + 65536 * z5 + 256 * z6 + z7)) := by simp [World.cell?, HK4.out]
  go_wp2_with fail
  clear i0 i1 i2 i3 i4 i5 i6
  refine (ref_may _ _ _ _ _ _ _ _ (by omega) (by omega)).mono ?_
  rintro e w5 ⟨rfl, hg5⟩
  have HW5 := Lib.hid ((hg5.block _ (Nat.lt_trans hws hB4)).trans HW4.out)
  replace hg := hg.trans (hg5.mono hg.size)
  have e1 : 256 * z2 + z3 = z2 * 256 + z3 := by omega
  have e2 : 16777216 * z4 + 65536 * z5 + 256 * z6 + z7 = ((z4 * 256 + z5) * 256 + z6) * 256 + z7 := by omega
  have hM2 : mayB (z0 / 16) (z0 % 16) (z1 % 128 / 8) (z1 % 8) (decide (128 ≤ z1)) (256 * z2 + z3) (16777216 * z4 + 65536 * z5 + 256 * z6 + z7) = true := by
    rw [e1, e2]
    exact hM
  have HE := Lib.hid (And.intro e1 e2)
  clear e1 e2 hM
  have HK5 := Lib.hid ((hg5.block _ hB4).trans HK4.out)
  clear hg5 HK4 HW4
  have i0 : w5.cell? ⟨B, 0, none⟩ = some (.int .i64 (z0 / 16)) := by simp [World.cell?, HK5.out]
  have i1 : w5.cell? ⟨B, 1, none⟩ = some (.int .i64 (z0 % 16)) := by simp [World.cell?, HK5.out]
  have i2 : w5.cell? ⟨B, 2, none⟩ = some (.int .i64 (z1 % 128 / 8)) := by simp [World.cell?, HK5.out]
  have i3 : w5.cell? ⟨B, 3, none⟩ = some (.int .i64 (z1 % 8)) := by simp [World.cell?, HK5.out]
  have i4 : w5.cell? ⟨B, 4, none⟩ = some (.bool (decide (128 ≤ z1))) := by simp [World.cell?, HK5.out]
  have i5 : w5.cell? ⟨B, 5, none⟩ = some (.int .i64 (256 * z2 + z3)) := by simp [World.cell?, HK5.out]
  have i6 : w5.cell? ⟨B, 6, none⟩ = some (.int .u32 (16777216 * z4 + 65536 * z5 + 256 * z6 + z7)) := by simp [World.cell?, HK5.out]
  go_wp2_with (refine wpList_store_row rfl 46 _ _ rfl w.heap.size _ rfl rfl 46 _ HW5.out (by kernel_rfl) rfl (by simp [Value.oneCell']) ?_)
  refine bodyPost_ret (v := .tuple #[instV (z0 / 16) (z0 % 16) (z1 % 128 / 8) (z1 % 8) (decide (128 ≤ z1)) (256 * z2 + z3) (16777216 * z4 + 65536 * z5 + 256 * z6 + z7), .int .i64 0]) ?_ ?_ ?_
  · exact results_inst_two Tryd.results26 _ _ w.heap.size 46 _ _ rfl rfl rfl (setRow_heap _ _ _ _ _ _ HW5.out)
  · rfl
  · refine ⟨?_, below_setRow hg (Nat.le_refl _) _⟩
    rw [HE.out.1, HE.out.2]
end Go.Proofs.YtlbhmopmfddhjaaDoor
