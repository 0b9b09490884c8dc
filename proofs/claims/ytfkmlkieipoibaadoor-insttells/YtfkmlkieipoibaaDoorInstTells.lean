/-
  Any instruction may be, or not, and has the bytes, and any bytes are the instruction, or have the error, that the document says: law InstTells returns true for every instruction and bytes.
  Conditions: none; the package variable that the law reads starts as its initialiser lays it (the card ties it).
-/
import Derived.Test.YtfkmlkieipoibaaDoorRows
import Derived.Test.YtfkmlkieipoibaaDoorCards
import Derived.Test.YtfkmlkieipoibaaDoorTie
import Derived.Test.YtfkmlkieipoibaaDoorH
import Derived.Test.YtfkmlkieipoibaaDoorP
import Derived.Test.YtfkmlkieipoibaaDoorQ
import Derived.Test.YtfkmlkieipoibaaDoorK
import Derived.Test.YtfkmlkieipoibaaDoorS
import Derived.Test.YtfkmlkieipoibaaDoorG
import Derived.Test.YtfkmlkieipoibaaDoorV
import Derived.WalkKit
import Derived.Deep.RegionHeld3
import Derived.ProofKit
import Derived.OpenShut
import Derived.ChangeOld
import Derived.Below
import Derived.SevenTiedAt
namespace Go.Proofs.YtfkmlkieipoibaaDoor.instTells
open Go.ChangeShapes Go.WideShapes Go.ChangeAt Go.RowKit
set_option linter.unusedVariables false

set_option maxHeartbeats 8000000 in
theorem walk (o0 f0 d0 s0 : Int) (r0 : Bool) (x0 m0 : Int) (lo0 : 0 ≤ m0) (hi0 : m0 ≤ 4294967295) (a1 : Option Addr) (len1 cap1 : Nat) (z1 : List Int) (w : World) (hR : RowsIn w) (w1 : IsRow .u8 w a1 len1 cap1 z1) :
    Calls Tryd.prog 3 #[instV o0 f0 d0 s0 r0 x0 m0, .slice a1 len1 cap1] w fun e w' => e = .returned (.bool true) ∧ Below w.heap.size w w' := by
  have hmx := isRow_max w1
  have hmx' : len1 ≤ 9223372036854775807 := by unfold maxLen at hmx; omega
  have hg : Below w.heap.size w (w.alloc (.cells #[.int .i64 o0, .int .i64 f0, .int .i64 d0, .int .i64 s0, .bool r0, .int .i64 x0, .int .u32 m0] 24)) := (Below.refl _ _).alloc (Nat.le_refl _) _
  have hR1 := hR.later hg
  have HI0 := Lib.hid (instAt_alloc w o0 f0 d0 s0 r0 x0 m0 24)
  have hlt : w.heap.size < (w.alloc (.cells #[.int .i64 o0, .int .i64 f0, .int .i64 d0, .int .i64 s0, .bool r0, .int .i64 x0, .int .u32 m0] 24)).heap.size := by simp
  by_cases h100 : 100 < len1
  · clear w1
    go_enter Tryd.func3, Tryd.ntmps3
    go_wp2_with fail
    refine (awake_any _ hR1).mono ?_
    rintro e w1 ⟨rfl, hg1⟩
    go_wp2
    go_ret
    exact ⟨rfl, hg.trans (hg1.mono hg.size)⟩
  · by_cases h8 : len1 = 8
    · subst h8
      obtain ⟨x, z0, z1, z2, z3, z4, z5, z6, z7, rfl, hc, hz, hb⟩ := row8 w1
      have HZ := Lib.hid hz
      have HB := Lib.hid hb
      clear w1 hz hb
      rcases hM : mayB (z0 / 16) (z0 % 16) (z1 % 128 / 8) (z1 % 8) (decide (128 ≤ z1)) (z2 * 256 + z3) (((z4 * 256 + z5) * 256 + z6) * 256 + z7) with _ | _
      · have HG := Lib.hid (fun w' (h1 : RowsIn w') (h2 : BytesAt w' x [z0, z1, z2, z3, z4, z5, z6, z7]) => get_no x cap1 w' h1 z0 z1 z2 z3 z4 z5 z6 z7 hc HZ.out h2 _ _ _ _ _ _ _ rfl rfl rfl rfl rfl rfl rfl hM)
        have HH := Lib.hid (fun w' (h2 : BytesAt w' x [z0, z1, z2, z3, z4, z5, z6, z7]) => rget_no x cap1 w' z0 z1 z2 z3 z4 z5 z6 z7 HZ.out h2 hM)
        clear hM HZ
        rcases hM0 : mayB o0 f0 d0 s0 r0 x0 m0 with _ | _
        · go_enter Tryd.func3, Tryd.ntmps3
          go_wp2_with fail
          refine (awake_any _ hR1).mono ?_
          rintro e w1 ⟨rfl, hg1⟩
          replace HI0 := Lib.hid (InstAt.below HI0.out hg1 hlt)
          replace hlt := Nat.lt_of_lt_of_le hlt hg1.size
          replace hg := hg.trans (hg1.mono hg.size)
          replace hR1 := hR1.later hg1
          clear hg1
          obtain ⟨c0, c1, c2, c3, c4, c5, c6⟩ := HI0.out
          go_wp2_with fail
          clear c0 c1 c2 c3 c4 c5 c6
          refine (put_no _ _ _ _ _ _ _ _ hR1 hM0).mono ?_
          rintro e w2 ⟨rfl, hg2⟩
          replace HI0 := Lib.hid (InstAt.below HI0.out hg2 hlt)
          replace hlt := Nat.lt_of_lt_of_le hlt hg2.size
          replace hg := hg.trans (hg2.mono hg.size)
          replace hR1 := hR1.later hg2
          clear hg2
          obtain ⟨c0, c1, c2, c3, c4, c5, c6⟩ := HI0.out
          go_wp2_with fail
          clear c0 c1 c2 c3 c4 c5 c6
          refine (rput_no _ _ _ _ _ _ _ _ hM0 lo0 hi0).mono ?_
          rintro e w3 ⟨rfl, hg2⟩
          replace HI0 := Lib.hid (InstAt.below HI0.out hg2 hlt)
          replace hlt := Nat.lt_of_lt_of_le hlt hg2.size
          replace hg := hg.trans (hg2.mono hg.size)
          replace hR1 := hR1.later hg2
          clear hg2
          go_wp2_with fail
          refine (bytes_nil none none 0 0 _).mono ?_
          rintro e w4 ⟨rfl, hg2⟩
          replace HI0 := Lib.hid (InstAt.below HI0.out hg2 hlt)
          replace hlt := Nat.lt_of_lt_of_le hlt hg2.size
          replace hg := hg.trans (hg2.mono hg.size)
          replace hR1 := hR1.later hg2
          clear hg2
          go_wp2_with fail
          refine (HG.out w4 hR1 (BytesAt.below HB.out hg)).mono ?_
          rintro e w5 ⟨rfl, hg2⟩
          replace HI0 := Lib.hid (InstAt.below HI0.out hg2 hlt)
          replace hlt := Nat.lt_of_lt_of_le hlt hg2.size
          replace hg := hg.trans (hg2.mono hg.size)
          replace hR1 := hR1.later hg2
          have HX := Lib.hid (instAt_alloc w5 0 0 0 0 false 0 0 24)
          have hg3 := (Below.refl w5.heap.size w5).alloc (Nat.le_refl _) (.cells #[.int .i64 0, .int .i64 0, .int .i64 0, .int .i64 0, .bool false, .int .i64 0, .int .u32 0] 24)
          clear hg2
          replace HI0 := Lib.hid (InstAt.below HI0.out hg3 hlt)
          replace hlt := Nat.lt_of_lt_of_le hlt hg3.size
          replace hg := hg.trans (hg3.mono hg.size)
          replace hR1 := hR1.later hg3
          have hlx : w5.heap.size < (w5.alloc (.cells #[.int .i64 0, .int .i64 0, .int .i64 0, .int .i64 0, .bool false, .int .i64 0, .int .u32 0] 24)).heap.size := by simp
          clear hg3
          go_wp2_with fail
          generalize w5.alloc (.cells #[.int .i64 0, .int .i64 0, .int .i64 0, .int .i64 0, .bool false, .int .i64 0, .int .u32 0] 24) = w6 at *
          refine (HH.out w6 (BytesAt.below HB.out hg)).mono ?_
          rintro e w7 ⟨rfl, hg2⟩
          replace HX := Lib.hid (InstAt.below HX.out hg2 hlx)
          replace hlx := Nat.lt_of_lt_of_le hlx hg2.size
          replace HI0 := Lib.hid (InstAt.below HI0.out hg2 hlt)
          replace hlt := Nat.lt_of_lt_of_le hlt hg2.size
          replace hg := hg.trans (hg2.mono hg.size)
          replace hR1 := hR1.later hg2
          have HY := Lib.hid (instAt_alloc w7 0 0 0 0 false 0 0 24)
          have hg3 := (Below.refl w7.heap.size w7).alloc (Nat.le_refl _) (.cells #[.int .i64 0, .int .i64 0, .int .i64 0, .int .i64 0, .bool false, .int .i64 0, .int .u32 0] 24)
          clear hg2
          replace HI0 := Lib.hid (InstAt.below HI0.out hg3 hlt)
          replace HX := Lib.hid (InstAt.below HX.out hg3 hlx)
          replace hg := hg.trans (hg3.mono hg.size)
          replace hR1 := hR1.later hg3
          clear hg3 hlt hlx
          have he := eql_inst 0 0 0 0 false 0 0 0 0 0 0 false 0 0
          have hq := instEq_self 0 0 0 0 false 0 0
          have hgd := guard24
          go_wp2_with fail
          have hS : SS w (w7.alloc (.cells #[.int .i64 0, .int .i64 0, .int .i64 0, .int .i64 0, .bool false, .int .i64 0, .int .u32 0] 24)).drew w.heap.size w5.heap.size w7.heap.size o0 f0 d0 s0 r0 x0 m0 0 0 0 0 false 0 0 := ⟨HI0.out, HX.out, HY.out, hR1, hg.drew⟩
          clear HI0 HX HY hR1 hg
          generalize w7.alloc (.cells #[.int .i64 0, .int .i64 0, .int .i64 0, .int .i64 0, .bool false, .int .i64 0, .int .u32 0] 24) = w8 at *
          generalize w5.heap.size = bx at *
          generalize w7.heap.size = yb at *
          generalize hbi : w.heap.size = bi at hS ⊢
          go_region_held3 (fun w' => (w'.cell? ⟨bi, 0, none⟩ = some (.int .i64 o0) ∧ w'.cell? ⟨bi, 1, none⟩ = some (.int .i64 f0) ∧ w'.cell? ⟨bi, 2, none⟩ = some (.int .i64 d0) ∧ w'.cell? ⟨bi, 3, none⟩ = some (.int .i64 s0) ∧ w'.cell? ⟨bi, 4, none⟩ = some (.bool r0) ∧ w'.cell? ⟨bi, 5, none⟩ = some (.int .i64 x0) ∧ w'.cell? ⟨bi, 6, none⟩ = some (.int .u32 m0)) ∧ (w'.cell? ⟨bx, 0, none⟩ = some (.int .i64 0) ∧ w'.cell? ⟨bx, 1, none⟩ = some (.int .i64 0) ∧ w'.cell? ⟨bx, 2, none⟩ = some (.int .i64 0) ∧ w'.cell? ⟨bx, 3, none⟩ = some (.int .i64 0) ∧ w'.cell? ⟨bx, 4, none⟩ = some (.bool false) ∧ w'.cell? ⟨bx, 5, none⟩ = some (.int .i64 0) ∧ w'.cell? ⟨bx, 6, none⟩ = some (.int .u32 0)) ∧ (w'.cell? ⟨yb, 0, none⟩ = some (.int .i64 0) ∧ w'.cell? ⟨yb, 1, none⟩ = some (.int .i64 0) ∧ w'.cell? ⟨yb, 2, none⟩ = some (.int .i64 0) ∧ w'.cell? ⟨yb, 3, none⟩ = some (.int .i64 0) ∧ w'.cell? ⟨yb, 4, none⟩ = some (.bool false) ∧ w'.cell? ⟨yb, 5, none⟩ = some (.int .i64 0) ∧ w'.cell? ⟨yb, 6, none⟩ = some (.int .u32 0)) ∧ RowsIn w' ∧ Below w.heap.size w w') (first | exact hS | assumption)
            (first
              | (go_at_call 15; refine (may15 (w := w) (bi := bi) (bx := bx) (yb := yb) (o' := 0) (f' := 0) (d' := 0) (s' := 0) (r' := false) (x' := 0) (m' := 0) _ (by assumption)).mono ?_; rintro e w' ⟨rfl, hS2⟩)
              | (go_at_call 16; refine (may16 (w := w) (bi := bi) (bx := bx) (yb := yb) (o' := 0) (f' := 0) (d' := 0) (s' := 0) (r' := false) (x' := 0) (m' := 0) _ lo0 hi0 (by assumption)).mono ?_; rintro e w' ⟨rfl, hS3⟩))
          all_goals go_wp2
          all_goals go_ret
          all_goals first | exact ⟨rfl, hS3.2.2.2.2⟩ | exact ⟨rfl, hS2.2.2.2.2⟩
        · go_enter Tryd.func3, Tryd.ntmps3
          go_wp2_with fail
          refine (awake_any _ hR1).mono ?_
          rintro e w1 ⟨rfl, hg1⟩
          replace HI0 := Lib.hid (InstAt.below HI0.out hg1 hlt)
          replace hlt := Nat.lt_of_lt_of_le hlt hg1.size
          replace hg := hg.trans (hg1.mono hg.size)
          replace hR1 := hR1.later hg1
          clear hg1
          obtain ⟨c0, c1, c2, c3, c4, c5, c6⟩ := HI0.out
          go_wp2_with fail
          clear c0 c1 c2 c3 c4 c5 c6
          refine (put_yes _ _ _ _ _ _ _ _ hR1 hM0 lo0 hi0).mono ?_
          rintro e w2 ⟨b0, rfl, hg2, _, hB0⟩
          replace HI0 := Lib.hid (InstAt.below HI0.out hg2 hlt)
          replace hlt := Nat.lt_of_lt_of_le hlt hg2.size
          replace hg := hg.trans (hg2.mono hg.size)
          replace hR1 := hR1.later hg2
          have HB0 := Lib.hid hB0
          clear hg2 hB0
          obtain ⟨c0, c1, c2, c3, c4, c5, c6⟩ := HI0.out
          go_wp2_with fail
          clear c0 c1 c2 c3 c4 c5 c6
          refine (rput_yes _ _ _ _ _ _ _ _ hM0 lo0 hi0).mono ?_
          rintro e w3 ⟨b1, rfl, hg2, _, hB1⟩
          replace HB0 := Lib.hid (BytesAt.below HB0.out hg2)
          replace HI0 := Lib.hid (InstAt.below HI0.out hg2 hlt)
          replace hlt := Nat.lt_of_lt_of_le hlt hg2.size
          replace hg := hg.trans (hg2.mono hg.size)
          replace hR1 := hR1.later hg2
          clear hg2
          go_wp2_with fail
          refine (bytes_same ⟨b0, 0, none⟩ ⟨b1, 0, none⟩ 8 8 8 _ _ _ (by decide) rfl rfl HB0.out hB1).mono ?_
          rintro e w4 ⟨rfl, hg2⟩
          replace HI0 := Lib.hid (InstAt.below HI0.out hg2 hlt)
          replace hlt := Nat.lt_of_lt_of_le hlt hg2.size
          replace hg := hg.trans (hg2.mono hg.size)
          replace hR1 := hR1.later hg2
          clear hg2 hB1 HB0
          rw [show decide (encL o0 f0 d0 s0 r0 x0 m0 = encL o0 f0 d0 s0 r0 x0 m0) = true from decide_eq_true rfl]
          go_wp2_with fail
          refine (HG.out w4 hR1 (BytesAt.below HB.out hg)).mono ?_
          rintro e w5 ⟨rfl, hg2⟩
          replace HI0 := Lib.hid (InstAt.below HI0.out hg2 hlt)
          replace hlt := Nat.lt_of_lt_of_le hlt hg2.size
          replace hg := hg.trans (hg2.mono hg.size)
          replace hR1 := hR1.later hg2
          have HX := Lib.hid (instAt_alloc w5 0 0 0 0 false 0 0 24)
          have hg3 := (Below.refl w5.heap.size w5).alloc (Nat.le_refl _) (.cells #[.int .i64 0, .int .i64 0, .int .i64 0, .int .i64 0, .bool false, .int .i64 0, .int .u32 0] 24)
          clear hg2
          replace HI0 := Lib.hid (InstAt.below HI0.out hg3 hlt)
          replace hlt := Nat.lt_of_lt_of_le hlt hg3.size
          replace hg := hg.trans (hg3.mono hg.size)
          replace hR1 := hR1.later hg3
          have hlx : w5.heap.size < (w5.alloc (.cells #[.int .i64 0, .int .i64 0, .int .i64 0, .int .i64 0, .bool false, .int .i64 0, .int .u32 0] 24)).heap.size := by simp
          clear hg3
          go_wp2_with fail
          generalize w5.alloc (.cells #[.int .i64 0, .int .i64 0, .int .i64 0, .int .i64 0, .bool false, .int .i64 0, .int .u32 0] 24) = w6 at *
          refine (HH.out w6 (BytesAt.below HB.out hg)).mono ?_
          rintro e w7 ⟨rfl, hg2⟩
          replace HX := Lib.hid (InstAt.below HX.out hg2 hlx)
          replace hlx := Nat.lt_of_lt_of_le hlx hg2.size
          replace HI0 := Lib.hid (InstAt.below HI0.out hg2 hlt)
          replace hlt := Nat.lt_of_lt_of_le hlt hg2.size
          replace hg := hg.trans (hg2.mono hg.size)
          replace hR1 := hR1.later hg2
          have HY := Lib.hid (instAt_alloc w7 0 0 0 0 false 0 0 24)
          have hg3 := (Below.refl w7.heap.size w7).alloc (Nat.le_refl _) (.cells #[.int .i64 0, .int .i64 0, .int .i64 0, .int .i64 0, .bool false, .int .i64 0, .int .u32 0] 24)
          clear hg2
          replace HI0 := Lib.hid (InstAt.below HI0.out hg3 hlt)
          replace HX := Lib.hid (InstAt.below HX.out hg3 hlx)
          replace hg := hg.trans (hg3.mono hg.size)
          replace hR1 := hR1.later hg3
          clear hg3 hlt hlx
          have he := eql_inst 0 0 0 0 false 0 0 0 0 0 0 false 0 0
          have hq := instEq_self 0 0 0 0 false 0 0
          have hgd := guard24
          go_wp2_with fail
          have hS : SS w (w7.alloc (.cells #[.int .i64 0, .int .i64 0, .int .i64 0, .int .i64 0, .bool false, .int .i64 0, .int .u32 0] 24)).drew w.heap.size w5.heap.size w7.heap.size o0 f0 d0 s0 r0 x0 m0 0 0 0 0 false 0 0 := ⟨HI0.out, HX.out, HY.out, hR1, hg.drew⟩
          clear HI0 HX HY hR1 hg
          generalize w7.alloc (.cells #[.int .i64 0, .int .i64 0, .int .i64 0, .int .i64 0, .bool false, .int .i64 0, .int .u32 0] 24) = w8 at *
          generalize w5.heap.size = bx at *
          generalize w7.heap.size = yb at *
          generalize hbi : w.heap.size = bi at hS ⊢
          go_region_held3 (fun w' => (w'.cell? ⟨bi, 0, none⟩ = some (.int .i64 o0) ∧ w'.cell? ⟨bi, 1, none⟩ = some (.int .i64 f0) ∧ w'.cell? ⟨bi, 2, none⟩ = some (.int .i64 d0) ∧ w'.cell? ⟨bi, 3, none⟩ = some (.int .i64 s0) ∧ w'.cell? ⟨bi, 4, none⟩ = some (.bool r0) ∧ w'.cell? ⟨bi, 5, none⟩ = some (.int .i64 x0) ∧ w'.cell? ⟨bi, 6, none⟩ = some (.int .u32 m0)) ∧ (w'.cell? ⟨bx, 0, none⟩ = some (.int .i64 0) ∧ w'.cell? ⟨bx, 1, none⟩ = some (.int .i64 0) ∧ w'.cell? ⟨bx, 2, none⟩ = some (.int .i64 0) ∧ w'.cell? ⟨bx, 3, none⟩ = some (.int .i64 0) ∧ w'.cell? ⟨bx, 4, none⟩ = some (.bool false) ∧ w'.cell? ⟨bx, 5, none⟩ = some (.int .i64 0) ∧ w'.cell? ⟨bx, 6, none⟩ = some (.int .u32 0)) ∧ (w'.cell? ⟨yb, 0, none⟩ = some (.int .i64 0) ∧ w'.cell? ⟨yb, 1, none⟩ = some (.int .i64 0) ∧ w'.cell? ⟨yb, 2, none⟩ = some (.int .i64 0) ∧ w'.cell? ⟨yb, 3, none⟩ = some (.int .i64 0) ∧ w'.cell? ⟨yb, 4, none⟩ = some (.bool false) ∧ w'.cell? ⟨yb, 5, none⟩ = some (.int .i64 0) ∧ w'.cell? ⟨yb, 6, none⟩ = some (.int .u32 0)) ∧ RowsIn w' ∧ Below w.heap.size w w') (first | exact hS | assumption)
            (first
              | (go_at_call 15; refine (may15 (w := w) (bi := bi) (bx := bx) (yb := yb) (o' := 0) (f' := 0) (d' := 0) (s' := 0) (r' := false) (x' := 0) (m' := 0) _ (by assumption)).mono ?_; rintro e w' ⟨rfl, hS2⟩)
              | (go_at_call 16; refine (may16 (w := w) (bi := bi) (bx := bx) (yb := yb) (o' := 0) (f' := 0) (d' := 0) (s' := 0) (r' := false) (x' := 0) (m' := 0) _ lo0 hi0 (by assumption)).mono ?_; rintro e w' ⟨rfl, hS3⟩))
          all_goals go_wp2
          all_goals go_ret
          all_goals first | exact ⟨rfl, hS3.2.2.2.2⟩ | exact ⟨rfl, hS2.2.2.2.2⟩
      · have HG := Lib.hid (fun w' (h1 : RowsIn w') (h2 : BytesAt w' x [z0, z1, z2, z3, z4, z5, z6, z7]) => get_yes x cap1 w' h1 z0 z1 z2 z3 z4 z5 z6 z7 hc HZ.out h2 _ _ _ _ _ _ _ rfl rfl rfl rfl rfl rfl rfl hM)
        have HH := Lib.hid (fun w' (h2 : BytesAt w' x [z0, z1, z2, z3, z4, z5, z6, z7]) => rget_yes x cap1 w' z0 z1 z2 z3 z4 z5 z6 z7 HZ.out h2 hM)
        clear hM HZ
        generalize z0 / 16 = o at HG HH
        generalize z0 % 16 = f at HG HH
        generalize z1 % 128 / 8 = d at HG HH
        generalize z1 % 8 = s at HG HH
        generalize decide (128 ≤ z1) = r at HG HH
        generalize z2 * 256 + z3 = xo at HG HH
        generalize ((z4 * 256 + z5) * 256 + z6) * 256 + z7 = m at HG HH
        rcases hM0 : mayB o0 f0 d0 s0 r0 x0 m0 with _ | _
        · go_enter Tryd.func3, Tryd.ntmps3
          go_wp2_with fail
          refine (awake_any _ hR1).mono ?_
          rintro e w1 ⟨rfl, hg1⟩
          replace HI0 := Lib.hid (InstAt.below HI0.out hg1 hlt)
          replace hlt := Nat.lt_of_lt_of_le hlt hg1.size
          replace hg := hg.trans (hg1.mono hg.size)
          replace hR1 := hR1.later hg1
          clear hg1
          obtain ⟨c0, c1, c2, c3, c4, c5, c6⟩ := HI0.out
          go_wp2_with fail
          clear c0 c1 c2 c3 c4 c5 c6
          refine (put_no _ _ _ _ _ _ _ _ hR1 hM0).mono ?_
          rintro e w2 ⟨rfl, hg2⟩
          replace HI0 := Lib.hid (InstAt.below HI0.out hg2 hlt)
          replace hlt := Nat.lt_of_lt_of_le hlt hg2.size
          replace hg := hg.trans (hg2.mono hg.size)
          replace hR1 := hR1.later hg2
          clear hg2
          obtain ⟨c0, c1, c2, c3, c4, c5, c6⟩ := HI0.out
          go_wp2_with fail
          clear c0 c1 c2 c3 c4 c5 c6
          refine (rput_no _ _ _ _ _ _ _ _ hM0 lo0 hi0).mono ?_
          rintro e w3 ⟨rfl, hg2⟩
          replace HI0 := Lib.hid (InstAt.below HI0.out hg2 hlt)
          replace hlt := Nat.lt_of_lt_of_le hlt hg2.size
          replace hg := hg.trans (hg2.mono hg.size)
          replace hR1 := hR1.later hg2
          clear hg2
          go_wp2_with fail
          refine (bytes_nil none none 0 0 _).mono ?_
          rintro e w4 ⟨rfl, hg2⟩
          replace HI0 := Lib.hid (InstAt.below HI0.out hg2 hlt)
          replace hlt := Nat.lt_of_lt_of_le hlt hg2.size
          replace hg := hg.trans (hg2.mono hg.size)
          replace hR1 := hR1.later hg2
          clear hg2
          go_wp2_with fail
          refine (HG.out w4 hR1 (BytesAt.below HB.out hg)).mono ?_
          rintro e w5 ⟨rfl, hg2⟩
          replace HI0 := Lib.hid (InstAt.below HI0.out hg2 hlt)
          replace hlt := Nat.lt_of_lt_of_le hlt hg2.size
          replace hg := hg.trans (hg2.mono hg.size)
          replace hR1 := hR1.later hg2
          have HX := Lib.hid (instAt_alloc w5 o f d s r xo m 24)
          have hg3 := (Below.refl w5.heap.size w5).alloc (Nat.le_refl _) (.cells #[.int .i64 o, .int .i64 f, .int .i64 d, .int .i64 s, .bool r, .int .i64 xo, .int .u32 m] 24)
          clear hg2
          replace HI0 := Lib.hid (InstAt.below HI0.out hg3 hlt)
          replace hlt := Nat.lt_of_lt_of_le hlt hg3.size
          replace hg := hg.trans (hg3.mono hg.size)
          replace hR1 := hR1.later hg3
          have hlx : w5.heap.size < (w5.alloc (.cells #[.int .i64 o, .int .i64 f, .int .i64 d, .int .i64 s, .bool r, .int .i64 xo, .int .u32 m] 24)).heap.size := by simp
          clear hg3
          go_wp2_with fail
          generalize w5.alloc (.cells #[.int .i64 o, .int .i64 f, .int .i64 d, .int .i64 s, .bool r, .int .i64 xo, .int .u32 m] 24) = w6 at *
          refine (HH.out w6 (BytesAt.below HB.out hg)).mono ?_
          rintro e w7 ⟨rfl, hg2⟩
          replace HX := Lib.hid (InstAt.below HX.out hg2 hlx)
          replace hlx := Nat.lt_of_lt_of_le hlx hg2.size
          replace HI0 := Lib.hid (InstAt.below HI0.out hg2 hlt)
          replace hlt := Nat.lt_of_lt_of_le hlt hg2.size
          replace hg := hg.trans (hg2.mono hg.size)
          replace hR1 := hR1.later hg2
          have HY := Lib.hid (instAt_alloc w7 o f d s r xo m 24)
          have hg3 := (Below.refl w7.heap.size w7).alloc (Nat.le_refl _) (.cells #[.int .i64 o, .int .i64 f, .int .i64 d, .int .i64 s, .bool r, .int .i64 xo, .int .u32 m] 24)
          clear hg2
          replace HI0 := Lib.hid (InstAt.below HI0.out hg3 hlt)
          replace HX := Lib.hid (InstAt.below HX.out hg3 hlx)
          replace hg := hg.trans (hg3.mono hg.size)
          replace hR1 := hR1.later hg3
          clear hg3 hlt hlx
          have he := eql_inst o f d s r xo m o f d s r xo m
          have hq := instEq_self o f d s r xo m
          have hgd := guard24
          go_wp2_with fail
          have hS : SS w (w7.alloc (.cells #[.int .i64 o, .int .i64 f, .int .i64 d, .int .i64 s, .bool r, .int .i64 xo, .int .u32 m] 24)).drew w.heap.size w5.heap.size w7.heap.size o0 f0 d0 s0 r0 x0 m0 o f d s r xo m := ⟨HI0.out, HX.out, HY.out, hR1, hg.drew⟩
          clear HI0 HX HY hR1 hg
          generalize w7.alloc (.cells #[.int .i64 o, .int .i64 f, .int .i64 d, .int .i64 s, .bool r, .int .i64 xo, .int .u32 m] 24) = w8 at *
          generalize w5.heap.size = bx at *
          generalize w7.heap.size = yb at *
          generalize hbi : w.heap.size = bi at hS ⊢
          go_region_held3 (fun w' => (w'.cell? ⟨bi, 0, none⟩ = some (.int .i64 o0) ∧ w'.cell? ⟨bi, 1, none⟩ = some (.int .i64 f0) ∧ w'.cell? ⟨bi, 2, none⟩ = some (.int .i64 d0) ∧ w'.cell? ⟨bi, 3, none⟩ = some (.int .i64 s0) ∧ w'.cell? ⟨bi, 4, none⟩ = some (.bool r0) ∧ w'.cell? ⟨bi, 5, none⟩ = some (.int .i64 x0) ∧ w'.cell? ⟨bi, 6, none⟩ = some (.int .u32 m0)) ∧ (w'.cell? ⟨bx, 0, none⟩ = some (.int .i64 o) ∧ w'.cell? ⟨bx, 1, none⟩ = some (.int .i64 f) ∧ w'.cell? ⟨bx, 2, none⟩ = some (.int .i64 d) ∧ w'.cell? ⟨bx, 3, none⟩ = some (.int .i64 s) ∧ w'.cell? ⟨bx, 4, none⟩ = some (.bool r) ∧ w'.cell? ⟨bx, 5, none⟩ = some (.int .i64 xo) ∧ w'.cell? ⟨bx, 6, none⟩ = some (.int .u32 m)) ∧ (w'.cell? ⟨yb, 0, none⟩ = some (.int .i64 o) ∧ w'.cell? ⟨yb, 1, none⟩ = some (.int .i64 f) ∧ w'.cell? ⟨yb, 2, none⟩ = some (.int .i64 d) ∧ w'.cell? ⟨yb, 3, none⟩ = some (.int .i64 s) ∧ w'.cell? ⟨yb, 4, none⟩ = some (.bool r) ∧ w'.cell? ⟨yb, 5, none⟩ = some (.int .i64 xo) ∧ w'.cell? ⟨yb, 6, none⟩ = some (.int .u32 m)) ∧ RowsIn w' ∧ Below w.heap.size w w') (first | exact hS | assumption)
            (first
              | (go_at_call 15; refine (may15 (w := w) (bi := bi) (bx := bx) (yb := yb) (o' := o) (f' := f) (d' := d) (s' := s) (r' := r) (x' := xo) (m' := m) _ (by assumption)).mono ?_; rintro e w' ⟨rfl, hS2⟩)
              | (go_at_call 16; refine (may16 (w := w) (bi := bi) (bx := bx) (yb := yb) (o' := o) (f' := f) (d' := d) (s' := s) (r' := r) (x' := xo) (m' := m) _ lo0 hi0 (by assumption)).mono ?_; rintro e w' ⟨rfl, hS3⟩))
          all_goals go_wp2
          all_goals go_ret
          all_goals first | exact ⟨rfl, hS3.2.2.2.2⟩ | exact ⟨rfl, hS2.2.2.2.2⟩
        · go_enter Tryd.func3, Tryd.ntmps3
          go_wp2_with fail
          refine (awake_any _ hR1).mono ?_
          rintro e w1 ⟨rfl, hg1⟩
          replace HI0 := Lib.hid (InstAt.below HI0.out hg1 hlt)
          replace hlt := Nat.lt_of_lt_of_le hlt hg1.size
          replace hg := hg.trans (hg1.mono hg.size)
          replace hR1 := hR1.later hg1
          clear hg1
          obtain ⟨c0, c1, c2, c3, c4, c5, c6⟩ := HI0.out
          go_wp2_with fail
          clear c0 c1 c2 c3 c4 c5 c6
          refine (put_yes _ _ _ _ _ _ _ _ hR1 hM0 lo0 hi0).mono ?_
          rintro e w2 ⟨b0, rfl, hg2, _, hB0⟩
          replace HI0 := Lib.hid (InstAt.below HI0.out hg2 hlt)
          replace hlt := Nat.lt_of_lt_of_le hlt hg2.size
          replace hg := hg.trans (hg2.mono hg.size)
          replace hR1 := hR1.later hg2
          have HB0 := Lib.hid hB0
          clear hg2 hB0
          obtain ⟨c0, c1, c2, c3, c4, c5, c6⟩ := HI0.out
          go_wp2_with fail
          clear c0 c1 c2 c3 c4 c5 c6
          refine (rput_yes _ _ _ _ _ _ _ _ hM0 lo0 hi0).mono ?_
          rintro e w3 ⟨b1, rfl, hg2, _, hB1⟩
          replace HB0 := Lib.hid (BytesAt.below HB0.out hg2)
          replace HI0 := Lib.hid (InstAt.below HI0.out hg2 hlt)
          replace hlt := Nat.lt_of_lt_of_le hlt hg2.size
          replace hg := hg.trans (hg2.mono hg.size)
          replace hR1 := hR1.later hg2
          clear hg2
          go_wp2_with fail
          refine (bytes_same ⟨b0, 0, none⟩ ⟨b1, 0, none⟩ 8 8 8 _ _ _ (by decide) rfl rfl HB0.out hB1).mono ?_
          rintro e w4 ⟨rfl, hg2⟩
          replace HI0 := Lib.hid (InstAt.below HI0.out hg2 hlt)
          replace hlt := Nat.lt_of_lt_of_le hlt hg2.size
          replace hg := hg.trans (hg2.mono hg.size)
          replace hR1 := hR1.later hg2
          clear hg2 hB1 HB0
          rw [show decide (encL o0 f0 d0 s0 r0 x0 m0 = encL o0 f0 d0 s0 r0 x0 m0) = true from decide_eq_true rfl]
          go_wp2_with fail
          refine (HG.out w4 hR1 (BytesAt.below HB.out hg)).mono ?_
          rintro e w5 ⟨rfl, hg2⟩
          replace HI0 := Lib.hid (InstAt.below HI0.out hg2 hlt)
          replace hlt := Nat.lt_of_lt_of_le hlt hg2.size
          replace hg := hg.trans (hg2.mono hg.size)
          replace hR1 := hR1.later hg2
          have HX := Lib.hid (instAt_alloc w5 o f d s r xo m 24)
          have hg3 := (Below.refl w5.heap.size w5).alloc (Nat.le_refl _) (.cells #[.int .i64 o, .int .i64 f, .int .i64 d, .int .i64 s, .bool r, .int .i64 xo, .int .u32 m] 24)
          clear hg2
          replace HI0 := Lib.hid (InstAt.below HI0.out hg3 hlt)
          replace hlt := Nat.lt_of_lt_of_le hlt hg3.size
          replace hg := hg.trans (hg3.mono hg.size)
          replace hR1 := hR1.later hg3
          have hlx : w5.heap.size < (w5.alloc (.cells #[.int .i64 o, .int .i64 f, .int .i64 d, .int .i64 s, .bool r, .int .i64 xo, .int .u32 m] 24)).heap.size := by simp
          clear hg3
          go_wp2_with fail
          generalize w5.alloc (.cells #[.int .i64 o, .int .i64 f, .int .i64 d, .int .i64 s, .bool r, .int .i64 xo, .int .u32 m] 24) = w6 at *
          refine (HH.out w6 (BytesAt.below HB.out hg)).mono ?_
          rintro e w7 ⟨rfl, hg2⟩
          replace HX := Lib.hid (InstAt.below HX.out hg2 hlx)
          replace hlx := Nat.lt_of_lt_of_le hlx hg2.size
          replace HI0 := Lib.hid (InstAt.below HI0.out hg2 hlt)
          replace hlt := Nat.lt_of_lt_of_le hlt hg2.size
          replace hg := hg.trans (hg2.mono hg.size)
          replace hR1 := hR1.later hg2
          have HY := Lib.hid (instAt_alloc w7 o f d s r xo m 24)
          have hg3 := (Below.refl w7.heap.size w7).alloc (Nat.le_refl _) (.cells #[.int .i64 o, .int .i64 f, .int .i64 d, .int .i64 s, .bool r, .int .i64 xo, .int .u32 m] 24)
          clear hg2
          replace HI0 := Lib.hid (InstAt.below HI0.out hg3 hlt)
          replace HX := Lib.hid (InstAt.below HX.out hg3 hlx)
          replace hg := hg.trans (hg3.mono hg.size)
          replace hR1 := hR1.later hg3
          clear hg3 hlt hlx
          have he := eql_inst o f d s r xo m o f d s r xo m
          have hq := instEq_self o f d s r xo m
          have hgd := guard24
          go_wp2_with fail
          have hS : SS w (w7.alloc (.cells #[.int .i64 o, .int .i64 f, .int .i64 d, .int .i64 s, .bool r, .int .i64 xo, .int .u32 m] 24)).drew w.heap.size w5.heap.size w7.heap.size o0 f0 d0 s0 r0 x0 m0 o f d s r xo m := ⟨HI0.out, HX.out, HY.out, hR1, hg.drew⟩
          clear HI0 HX HY hR1 hg
          generalize w7.alloc (.cells #[.int .i64 o, .int .i64 f, .int .i64 d, .int .i64 s, .bool r, .int .i64 xo, .int .u32 m] 24) = w8 at *
          generalize w5.heap.size = bx at *
          generalize w7.heap.size = yb at *
          generalize hbi : w.heap.size = bi at hS ⊢
          go_region_held3 (fun w' => (w'.cell? ⟨bi, 0, none⟩ = some (.int .i64 o0) ∧ w'.cell? ⟨bi, 1, none⟩ = some (.int .i64 f0) ∧ w'.cell? ⟨bi, 2, none⟩ = some (.int .i64 d0) ∧ w'.cell? ⟨bi, 3, none⟩ = some (.int .i64 s0) ∧ w'.cell? ⟨bi, 4, none⟩ = some (.bool r0) ∧ w'.cell? ⟨bi, 5, none⟩ = some (.int .i64 x0) ∧ w'.cell? ⟨bi, 6, none⟩ = some (.int .u32 m0)) ∧ (w'.cell? ⟨bx, 0, none⟩ = some (.int .i64 o) ∧ w'.cell? ⟨bx, 1, none⟩ = some (.int .i64 f) ∧ w'.cell? ⟨bx, 2, none⟩ = some (.int .i64 d) ∧ w'.cell? ⟨bx, 3, none⟩ = some (.int .i64 s) ∧ w'.cell? ⟨bx, 4, none⟩ = some (.bool r) ∧ w'.cell? ⟨bx, 5, none⟩ = some (.int .i64 xo) ∧ w'.cell? ⟨bx, 6, none⟩ = some (.int .u32 m)) ∧ (w'.cell? ⟨yb, 0, none⟩ = some (.int .i64 o) ∧ w'.cell? ⟨yb, 1, none⟩ = some (.int .i64 f) ∧ w'.cell? ⟨yb, 2, none⟩ = some (.int .i64 d) ∧ w'.cell? ⟨yb, 3, none⟩ = some (.int .i64 s) ∧ w'.cell? ⟨yb, 4, none⟩ = some (.bool r) ∧ w'.cell? ⟨yb, 5, none⟩ = some (.int .i64 xo) ∧ w'.cell? ⟨yb, 6, none⟩ = some (.int .u32 m)) ∧ RowsIn w' ∧ Below w.heap.size w w') (first | exact hS | assumption)
            (first
              | (go_at_call 15; refine (may15 (w := w) (bi := bi) (bx := bx) (yb := yb) (o' := o) (f' := f) (d' := d) (s' := s) (r' := r) (x' := xo) (m' := m) _ (by assumption)).mono ?_; rintro e w' ⟨rfl, hS2⟩)
              | (go_at_call 16; refine (may16 (w := w) (bi := bi) (bx := bx) (yb := yb) (o' := o) (f' := f) (d' := d) (s' := s) (r' := r) (x' := xo) (m' := m) _ lo0 hi0 (by assumption)).mono ?_; rintro e w' ⟨rfl, hS3⟩))
          all_goals go_wp2
          all_goals go_ret
          all_goals first | exact ⟨rfl, hS3.2.2.2.2⟩ | exact ⟨rfl, hS2.2.2.2.2⟩
    · have h8' : ¬ (len1 : Int) = 8 := by omega
      clear w1
      rcases hM0 : mayB o0 f0 d0 s0 r0 x0 m0 with _ | _
      · go_enter Tryd.func3, Tryd.ntmps3
        go_wp2_with fail
        refine (awake_any _ hR1).mono ?_
        rintro e w1 ⟨rfl, hg1⟩
        replace HI0 := Lib.hid (InstAt.below HI0.out hg1 hlt)
        replace hlt := Nat.lt_of_lt_of_le hlt hg1.size
        replace hg := hg.trans (hg1.mono hg.size)
        replace hR1 := hR1.later hg1
        clear hg1
        obtain ⟨c0, c1, c2, c3, c4, c5, c6⟩ := HI0.out
        go_wp2_with fail
        clear c0 c1 c2 c3 c4 c5 c6
        refine (put_no _ _ _ _ _ _ _ _ hR1 hM0).mono ?_
        rintro e w2 ⟨rfl, hg2⟩
        replace HI0 := Lib.hid (InstAt.below HI0.out hg2 hlt)
        replace hlt := Nat.lt_of_lt_of_le hlt hg2.size
        replace hg := hg.trans (hg2.mono hg.size)
        replace hR1 := hR1.later hg2
        clear hg2
        obtain ⟨c0, c1, c2, c3, c4, c5, c6⟩ := HI0.out
        go_wp2_with fail
        clear c0 c1 c2 c3 c4 c5 c6
        refine (rput_no _ _ _ _ _ _ _ _ hM0 lo0 hi0).mono ?_
        rintro e w3 ⟨rfl, hg2⟩
        replace HI0 := Lib.hid (InstAt.below HI0.out hg2 hlt)
        replace hlt := Nat.lt_of_lt_of_le hlt hg2.size
        replace hg := hg.trans (hg2.mono hg.size)
        replace hR1 := hR1.later hg2
        clear hg2
        go_wp2_with fail
        refine (bytes_nil none none 0 0 _).mono ?_
        rintro e w4 ⟨rfl, hg2⟩
        replace HI0 := Lib.hid (InstAt.below HI0.out hg2 hlt)
        replace hlt := Nat.lt_of_lt_of_le hlt hg2.size
        replace hg := hg.trans (hg2.mono hg.size)
        replace hR1 := hR1.later hg2
        clear hg2
        go_wp2_with fail
        refine (get_len a1 len1 cap1 w4 h8 hmx).mono ?_
        rintro e w5 ⟨rfl, hg2⟩
        replace HI0 := Lib.hid (InstAt.below HI0.out hg2 hlt)
        replace hlt := Nat.lt_of_lt_of_le hlt hg2.size
        replace hg := hg.trans (hg2.mono hg.size)
        replace hR1 := hR1.later hg2
        have HX := Lib.hid (instAt_alloc w5 0 0 0 0 false 0 0 24)
        have hg3 := (Below.refl w5.heap.size w5).alloc (Nat.le_refl _) (.cells #[.int .i64 0, .int .i64 0, .int .i64 0, .int .i64 0, .bool false, .int .i64 0, .int .u32 0] 24)
        clear hg2
        replace HI0 := Lib.hid (InstAt.below HI0.out hg3 hlt)
        replace hlt := Nat.lt_of_lt_of_le hlt hg3.size
        replace hg := hg.trans (hg3.mono hg.size)
        replace hR1 := hR1.later hg3
        have hlx : w5.heap.size < (w5.alloc (.cells #[.int .i64 0, .int .i64 0, .int .i64 0, .int .i64 0, .bool false, .int .i64 0, .int .u32 0] 24)).heap.size := by simp
        clear hg3
        go_wp2_with fail
        generalize w5.alloc (.cells #[.int .i64 0, .int .i64 0, .int .i64 0, .int .i64 0, .bool false, .int .i64 0, .int .u32 0] 24) = w6 at *
        refine (rget_len a1 len1 cap1 w6 h8 hmx).mono ?_
        rintro e w7 ⟨rfl, hg2⟩
        replace HX := Lib.hid (InstAt.below HX.out hg2 hlx)
        replace hlx := Nat.lt_of_lt_of_le hlx hg2.size
        replace HI0 := Lib.hid (InstAt.below HI0.out hg2 hlt)
        replace hlt := Nat.lt_of_lt_of_le hlt hg2.size
        replace hg := hg.trans (hg2.mono hg.size)
        replace hR1 := hR1.later hg2
        have HY := Lib.hid (instAt_alloc w7 0 0 0 0 false 0 0 24)
        have hg3 := (Below.refl w7.heap.size w7).alloc (Nat.le_refl _) (.cells #[.int .i64 0, .int .i64 0, .int .i64 0, .int .i64 0, .bool false, .int .i64 0, .int .u32 0] 24)
        clear hg2
        replace HI0 := Lib.hid (InstAt.below HI0.out hg3 hlt)
        replace HX := Lib.hid (InstAt.below HX.out hg3 hlx)
        replace hg := hg.trans (hg3.mono hg.size)
        replace hR1 := hR1.later hg3
        clear hg3 hlt hlx
        have he := eql_inst 0 0 0 0 false 0 0 0 0 0 0 false 0 0
        have hq := instEq_self 0 0 0 0 false 0 0
        have hgd := guard24
        go_wp2_with fail
        have hS : SS w (w7.alloc (.cells #[.int .i64 0, .int .i64 0, .int .i64 0, .int .i64 0, .bool false, .int .i64 0, .int .u32 0] 24)).drew w.heap.size w5.heap.size w7.heap.size o0 f0 d0 s0 r0 x0 m0 0 0 0 0 false 0 0 := ⟨HI0.out, HX.out, HY.out, hR1, hg.drew⟩
        clear HI0 HX HY hR1 hg
        generalize w7.alloc (.cells #[.int .i64 0, .int .i64 0, .int .i64 0, .int .i64 0, .bool false, .int .i64 0, .int .u32 0] 24) = w8 at *
        generalize w5.heap.size = bx at *
        generalize w7.heap.size = yb at *
        generalize hbi : w.heap.size = bi at hS ⊢
        go_region_held3 (fun w' => (w'.cell? ⟨bi, 0, none⟩ = some (.int .i64 o0) ∧ w'.cell? ⟨bi, 1, none⟩ = some (.int .i64 f0) ∧ w'.cell? ⟨bi, 2, none⟩ = some (.int .i64 d0) ∧ w'.cell? ⟨bi, 3, none⟩ = some (.int .i64 s0) ∧ w'.cell? ⟨bi, 4, none⟩ = some (.bool r0) ∧ w'.cell? ⟨bi, 5, none⟩ = some (.int .i64 x0) ∧ w'.cell? ⟨bi, 6, none⟩ = some (.int .u32 m0)) ∧ (w'.cell? ⟨bx, 0, none⟩ = some (.int .i64 0) ∧ w'.cell? ⟨bx, 1, none⟩ = some (.int .i64 0) ∧ w'.cell? ⟨bx, 2, none⟩ = some (.int .i64 0) ∧ w'.cell? ⟨bx, 3, none⟩ = some (.int .i64 0) ∧ w'.cell? ⟨bx, 4, none⟩ = some (.bool false) ∧ w'.cell? ⟨bx, 5, none⟩ = some (.int .i64 0) ∧ w'.cell? ⟨bx, 6, none⟩ = some (.int .u32 0)) ∧ (w'.cell? ⟨yb, 0, none⟩ = some (.int .i64 0) ∧ w'.cell? ⟨yb, 1, none⟩ = some (.int .i64 0) ∧ w'.cell? ⟨yb, 2, none⟩ = some (.int .i64 0) ∧ w'.cell? ⟨yb, 3, none⟩ = some (.int .i64 0) ∧ w'.cell? ⟨yb, 4, none⟩ = some (.bool false) ∧ w'.cell? ⟨yb, 5, none⟩ = some (.int .i64 0) ∧ w'.cell? ⟨yb, 6, none⟩ = some (.int .u32 0)) ∧ RowsIn w' ∧ Below w.heap.size w w') (first | exact hS | assumption)
          (first
            | (go_at_call 15; refine (may15 (w := w) (bi := bi) (bx := bx) (yb := yb) (o' := 0) (f' := 0) (d' := 0) (s' := 0) (r' := false) (x' := 0) (m' := 0) _ (by assumption)).mono ?_; rintro e w' ⟨rfl, hS2⟩)
            | (go_at_call 16; refine (may16 (w := w) (bi := bi) (bx := bx) (yb := yb) (o' := 0) (f' := 0) (d' := 0) (s' := 0) (r' := false) (x' := 0) (m' := 0) _ lo0 hi0 (by assumption)).mono ?_; rintro e w' ⟨rfl, hS3⟩))
        all_goals go_wp2
        all_goals go_ret
        all_goals first | exact ⟨rfl, hS3.2.2.2.2⟩ | exact ⟨rfl, hS2.2.2.2.2⟩
      · go_enter Tryd.func3, Tryd.ntmps3
        go_wp2_with fail
        refine (awake_any _ hR1).mono ?_
        rintro e w1 ⟨rfl, hg1⟩
        replace HI0 := Lib.hid (InstAt.below HI0.out hg1 hlt)
        replace hlt := Nat.lt_of_lt_of_le hlt hg1.size
        replace hg := hg.trans (hg1.mono hg.size)
        replace hR1 := hR1.later hg1
        clear hg1
        obtain ⟨c0, c1, c2, c3, c4, c5, c6⟩ := HI0.out
        go_wp2_with fail
        clear c0 c1 c2 c3 c4 c5 c6
        refine (put_yes _ _ _ _ _ _ _ _ hR1 hM0 lo0 hi0).mono ?_
        rintro e w2 ⟨b0, rfl, hg2, _, hB0⟩
        replace HI0 := Lib.hid (InstAt.below HI0.out hg2 hlt)
        replace hlt := Nat.lt_of_lt_of_le hlt hg2.size
        replace hg := hg.trans (hg2.mono hg.size)
        replace hR1 := hR1.later hg2
        have HB0 := Lib.hid hB0
        clear hg2 hB0
        obtain ⟨c0, c1, c2, c3, c4, c5, c6⟩ := HI0.out
        go_wp2_with fail
        clear c0 c1 c2 c3 c4 c5 c6
        refine (rput_yes _ _ _ _ _ _ _ _ hM0 lo0 hi0).mono ?_
        rintro e w3 ⟨b1, rfl, hg2, _, hB1⟩
        replace HB0 := Lib.hid (BytesAt.below HB0.out hg2)
        replace HI0 := Lib.hid (InstAt.below HI0.out hg2 hlt)
        replace hlt := Nat.lt_of_lt_of_le hlt hg2.size
        replace hg := hg.trans (hg2.mono hg.size)
        replace hR1 := hR1.later hg2
        clear hg2
        go_wp2_with fail
        refine (bytes_same ⟨b0, 0, none⟩ ⟨b1, 0, none⟩ 8 8 8 _ _ _ (by decide) rfl rfl HB0.out hB1).mono ?_
        rintro e w4 ⟨rfl, hg2⟩
        replace HI0 := Lib.hid (InstAt.below HI0.out hg2 hlt)
        replace hlt := Nat.lt_of_lt_of_le hlt hg2.size
        replace hg := hg.trans (hg2.mono hg.size)
        replace hR1 := hR1.later hg2
        clear hg2 hB1 HB0
        rw [show decide (encL o0 f0 d0 s0 r0 x0 m0 = encL o0 f0 d0 s0 r0 x0 m0) = true from decide_eq_true rfl]
        go_wp2_with fail
        refine (get_len a1 len1 cap1 w4 h8 hmx).mono ?_
        rintro e w5 ⟨rfl, hg2⟩
        replace HI0 := Lib.hid (InstAt.below HI0.out hg2 hlt)
        replace hlt := Nat.lt_of_lt_of_le hlt hg2.size
        replace hg := hg.trans (hg2.mono hg.size)
        replace hR1 := hR1.later hg2
        have HX := Lib.hid (instAt_alloc w5 0 0 0 0 false 0 0 24)
        have hg3 := (Below.refl w5.heap.size w5).alloc (Nat.le_refl _) (.cells #[.int .i64 0, .int .i64 0, .int .i64 0, .int .i64 0, .bool false, .int .i64 0, .int .u32 0] 24)
        clear hg2
        replace HI0 := Lib.hid (InstAt.below HI0.out hg3 hlt)
        replace hlt := Nat.lt_of_lt_of_le hlt hg3.size
        replace hg := hg.trans (hg3.mono hg.size)
        replace hR1 := hR1.later hg3
        have hlx : w5.heap.size < (w5.alloc (.cells #[.int .i64 0, .int .i64 0, .int .i64 0, .int .i64 0, .bool false, .int .i64 0, .int .u32 0] 24)).heap.size := by simp
        clear hg3
        go_wp2_with fail
        generalize w5.alloc (.cells #[.int .i64 0, .int .i64 0, .int .i64 0, .int .i64 0, .bool false, .int .i64 0, .int .u32 0] 24) = w6 at *
        refine (rget_len a1 len1 cap1 w6 h8 hmx).mono ?_
        rintro e w7 ⟨rfl, hg2⟩
        replace HX := Lib.hid (InstAt.below HX.out hg2 hlx)
        replace hlx := Nat.lt_of_lt_of_le hlx hg2.size
        replace HI0 := Lib.hid (InstAt.below HI0.out hg2 hlt)
        replace hlt := Nat.lt_of_lt_of_le hlt hg2.size
        replace hg := hg.trans (hg2.mono hg.size)
        replace hR1 := hR1.later hg2
        have HY := Lib.hid (instAt_alloc w7 0 0 0 0 false 0 0 24)
        have hg3 := (Below.refl w7.heap.size w7).alloc (Nat.le_refl _) (.cells #[.int .i64 0, .int .i64 0, .int .i64 0, .int .i64 0, .bool false, .int .i64 0, .int .u32 0] 24)
        clear hg2
        replace HI0 := Lib.hid (InstAt.below HI0.out hg3 hlt)
        replace HX := Lib.hid (InstAt.below HX.out hg3 hlx)
        replace hg := hg.trans (hg3.mono hg.size)
        replace hR1 := hR1.later hg3
        clear hg3 hlt hlx
        have he := eql_inst 0 0 0 0 false 0 0 0 0 0 0 false 0 0
        have hq := instEq_self 0 0 0 0 false 0 0
        have hgd := guard24
        go_wp2_with fail
        have hS : SS w (w7.alloc (.cells #[.int .i64 0, .int .i64 0, .int .i64 0, .int .i64 0, .bool false, .int .i64 0, .int .u32 0] 24)).drew w.heap.size w5.heap.size w7.heap.size o0 f0 d0 s0 r0 x0 m0 0 0 0 0 false 0 0 := ⟨HI0.out, HX.out, HY.out, hR1, hg.drew⟩
        clear HI0 HX HY hR1 hg
        generalize w7.alloc (.cells #[.int .i64 0, .int .i64 0, .int .i64 0, .int .i64 0, .bool false, .int .i64 0, .int .u32 0] 24) = w8 at *
        generalize w5.heap.size = bx at *
        generalize w7.heap.size = yb at *
        generalize hbi : w.heap.size = bi at hS ⊢
        go_region_held3 (fun w' => (w'.cell? ⟨bi, 0, none⟩ = some (.int .i64 o0) ∧ w'.cell? ⟨bi, 1, none⟩ = some (.int .i64 f0) ∧ w'.cell? ⟨bi, 2, none⟩ = some (.int .i64 d0) ∧ w'.cell? ⟨bi, 3, none⟩ = some (.int .i64 s0) ∧ w'.cell? ⟨bi, 4, none⟩ = some (.bool r0) ∧ w'.cell? ⟨bi, 5, none⟩ = some (.int .i64 x0) ∧ w'.cell? ⟨bi, 6, none⟩ = some (.int .u32 m0)) ∧ (w'.cell? ⟨bx, 0, none⟩ = some (.int .i64 0) ∧ w'.cell? ⟨bx, 1, none⟩ = some (.int .i64 0) ∧ w'.cell? ⟨bx, 2, none⟩ = some (.int .i64 0) ∧ w'.cell? ⟨bx, 3, none⟩ = some (.int .i64 0) ∧ w'.cell? ⟨bx, 4, none⟩ = some (.bool false) ∧ w'.cell? ⟨bx, 5, none⟩ = some (.int .i64 0) ∧ w'.cell? ⟨bx, 6, none⟩ = some (.int .u32 0)) ∧ (w'.cell? ⟨yb, 0, none⟩ = some (.int .i64 0) ∧ w'.cell? ⟨yb, 1, none⟩ = some (.int .i64 0) ∧ w'.cell? ⟨yb, 2, none⟩ = some (.int .i64 0) ∧ w'.cell? ⟨yb, 3, none⟩ = some (.int .i64 0) ∧ w'.cell? ⟨yb, 4, none⟩ = some (.bool false) ∧ w'.cell? ⟨yb, 5, none⟩ = some (.int .i64 0) ∧ w'.cell? ⟨yb, 6, none⟩ = some (.int .u32 0)) ∧ RowsIn w' ∧ Below w.heap.size w w') (first | exact hS | assumption)
          (first
            | (go_at_call 15; refine (may15 (w := w) (bi := bi) (bx := bx) (yb := yb) (o' := 0) (f' := 0) (d' := 0) (s' := 0) (r' := false) (x' := 0) (m' := 0) _ (by assumption)).mono ?_; rintro e w' ⟨rfl, hS2⟩)
            | (go_at_call 16; refine (may16 (w := w) (bi := bi) (bx := bx) (yb := yb) (o' := 0) (f' := 0) (d' := 0) (s' := 0) (r' := false) (x' := 0) (m' := 0) _ lo0 hi0 (by assumption)).mono ?_; rintro e w' ⟨rfl, hS3⟩))
        all_goals go_wp2
        all_goals go_ret
        all_goals first | exact ⟨rfl, hS3.2.2.2.2⟩ | exact ⟨rfl, hS2.2.2.2.2⟩


theorem own : ownKnob Tryd.prog.godebug = none := by kernel_rfl
theorem laidOut : laidOutB Tryd.prog = true := by kernel_rfl
theorem door_met (os : Os) (args : Array Value) : laidMetH Tryd.prog laidL ((World.doorLaid Tryd.prog 400 os).forCall (fun _ _ => 0) ⟨#[], args, []⟩).memory :=
  laidMetH_of_parts3 (fuel := 8) (laidMet_of_run' 8 (by kernel_rfl) (by kernel_rfl)) (by kernel_rfl) (by kernel_rfl)
set_option maxRecDepth 100000 in
theorem lifted (os : Os) (started : os.Started) (H : Type) (enc : TypeId × Value → H) :
    ReturnsInHanded {} Tryd.checked os 3 .any (fun w args => (Rows.instTellsSpec.pre enc Tryd.prog Tryd.f3 [] false w args ∧ laidMetH Tryd.prog laidL w) ∧ sizedMet enc Tryd.prog Tryd.f3 (OpenSpec.ofChange Rows.instTellsSpec) false w args)
      (Rows.instTellsSpec.post enc Tryd.prog Tryd.f3 false true false false) := by
  refine returnsInHanded_of_change_and (C := Tryd.checked) (X := fun w _ => laidMetH Tryd.prog laidL w) (fun _ _ _ hh h => h.of_heap hh) own started (by kernel_rfl) Tryd.func3
    (ChangeSpec.witness_shaped (enc := enc) (C := Tryd.checked) (os := os) (X := fun w _ => laidMetH Tryd.prog laidL w) false (World.doorLaid Tryd.prog 400 os) #[.agg #[.int .i64 0, .int .i64 0, .int .i64 0, .int .i64 0, .bool false, .int .i64 0, .int .u32 0], .slice none 0 0] 8 rfl (World.shaped_of_RefB (by kernel_rfl) (by kernel_rfl)) (by kernel_rfl) (by kernel_rfl) (by kernel_rfl) (door_met os _)) ?_
  intro W base args ds gs before hval0 hW _ _ hL _
  have hval : ∀ (j : Nat) t v, Tryd.f3.params[j]? = some t → args[j]? = some v → Value.okWide Tryd.prog W .any base t v := hval0
  have hW' := hW
  obtain ⟨p, q, hA0, hV, rfl, hfz, hnd⟩ := hW
  have hA : DataW.TrodAll enc Tryd.prog W 0 (fun _ => true) true Tryd.f3.params.toList args.toList ds p := hA0
  rw [Tryd.params3] at hA hval
  obtain ⟨v0, vs0, e0, ds0, p0, q0, hargs, rfl, rfl, h0, t0⟩ := trodAll_cons hA
  obtain ⟨v1, vs1, e1, ds1, p1, q1, rfl, rfl, rfl, h1, t1⟩ := trodAll_cons t0
  obtain ⟨rfl, rfl, rfl⟩ := trodAll_nil t1
  obtain rfl : args = #[v0, v1] := by cases args; simp_all
  obtain ⟨rfl, rfl⟩ := trodVars_none hV
  have k0 := h0
  have lt0 : ∀ x ∈ p0, x.block < W.heap.size := by obtain ⟨m, hm⟩ := k0; exact DataW.trod_lt m _ _ _ hm
  have k1 := h1
  have lt1 : ∀ x ∈ p1, x.block < W.heap.size := by obtain ⟨m, hm⟩ := k1; exact DataW.trod_lt m _ _ _ hm
  obtain ⟨o0, f0, d0, s0, r0, x0, m0, rfl, lo0, hi0⟩ := open_inst (hval 0 24 v0 rfl rfl) h0
  obtain ⟨a1, len1, cap1, rfl⟩ := okWide_slice Tryd.underlying25 (hval 1 25 v1 rfl rfl)
  obtain ⟨z1, w1⟩ := isRow_of h1
  clear hA0 hval0
  refine (walk o0 f0 d0 s0 r0 x0 m0 lo0 hi0 a1 len1 cap1 z1 W (rows_of_laid hL) w1).mono fun e W' ⟨he, bel⟩ => ?_
  subst he
  exact ⟨_, rfl, _, _, _, [], _, [], hW', trodAll_mk1 (shut_bool Tryd.underlying4 _), (trodAll_cons_mk (Below.trod laidOut (by kernel_rfl) (of_decide_eq_true (by kernel_rfl)) k0 bel lt0) (trodAll_cons_mk (Below.trod laidOut (by kernel_rfl) (of_decide_eq_true (by kernel_rfl)) k1 bel lt1) trodAll_mk0)), rfl, bel.frame _, fun h => by cases h⟩

theorem over : Rows.instTellsRow.holds Tryd.pinned (OpenSpec.ofChange Rows.instTellsSpec) :=
  OpenClaim.holds_of_wide 3 Tryd.f3 rfl rfl rfl rfl rfl rfl rfl ⟨rfl, rfl, rfl, rfl, rfl⟩ rfl rfl rfl rfl rfl (by kernel_rfl) Tryd.func3 (by kernel_rfl)
    (of_decide_eq_true (by kernel_rfl)) (by unfold Func.isWrapper; first | (rw [if_pos (by decide +kernel)]; kernel_rfl) | (rw [if_neg (by decide +kernel)]; exact ⟨rfl, rfl⟩))
    (fun os started H enc _ => lifted os started H enc)

theorem proved : Rows.InstTellsCardSaid :=
  Claim7.holds_tied_plain_at .later [] [.data] true (true, "c53787b049a8d55b8b8ad79c3807f9aebe7e4b58dc7af991b34b15730efeb0fa") false
    over (fun _ h => by cases h) (by kernel_rfl) (fun _ h => by cases h) instTells_row_tie rfl ⟨rfl, rfl⟩ (by kernel_rfl) rfl
    (fun f fn hf hfn => by
      obtain rfl : f = 3 := Option.some.inj ((show Tryd.prog.funcNamed "drydock/drydocklaw02.InstTells" = some 3 by kernel_rfl).symm.trans hf) |>.symm
      obtain rfl : fn = Tryd.f3 := (Option.some.inj (Tryd.func3.symm.trans hfn)).symm
      exact ⟨by kernel_rfl, fun j t ht => by
        rw [Tryd.params3] at ht
        match j, ht with
        | 0, ht => obtain rfl : t = 24 := by simpa using ht.symm
                   exact (show Tryd.prog.wantsStandIn 24 = false by kernel_rfl)
        | 1, ht => obtain rfl : t = 25 := by simpa using ht.symm
                   exact (show Tryd.prog.wantsStandIn 25 = false by kernel_rfl)
        | j + 2, ht => simp at ht⟩)
    (by kernel_rfl)
#print axioms proved
end Go.Proofs.YtfkmlkieipoibaaDoor.instTells
