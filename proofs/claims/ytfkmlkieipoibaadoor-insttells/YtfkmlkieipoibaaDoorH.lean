/-
  The law file's awake, as a contract over the translated program: it returns true.
-/
import Derived.Test.YtfkmlkieipoibaaDoorF
namespace Go.Proofs.YtfkmlkieipoibaaDoor
open Go.RowKit

theorem awake_may : mayB 0 1 2 0 false 0 5 = true := by decide
theorem awake_enc : encL 0 1 2 0 false 0 5 = [1, 16, 0, 0, 0, 0, 0, 5] := by decide
theorem awake_bytes : ∀ i, i < 8 → 0 ≤ ([1, 16, 0, 0, 0, 0, 0, 5] : List Int).getD i 0 ∧ ([1, 16, 0, 0, 0, 0, 0, 5] : List Int).getD i 0 ≤ 255 := by decide

set_option maxHeartbeats 1000000 in
theorem awake_any (w : World) (hR : RowsIn w) :
    Calls Tryd.prog 9 #[] w fun e w' => e = .returned (.bool true) ∧ Below w.heap.size w w' := by
  go_enter Tryd.func9, Tryd.ntmps9
  go_wp2_with fail
  refine (put_yes 0 1 2 0 false 0 5 w hR awake_may (by omega) (by omega)).mono ?_
  rintro e w1 ⟨b, rfl, hg1, hb1, HB⟩
  rw [awake_enc] at HB
  have HB1 := Lib.hid HB
  have hR1 := hR.later hg1
  clear HB
  go_wp2_with fail
  refine (get_yes ⟨b, 0, none⟩ 8 w1 hR1 1 16 0 0 0 0 0 5 (by omega) awake_bytes HB1.out 0 1 2 0 false 0 5 (by decide) (by decide) (by decide) (by decide) (by decide) (by decide) (by decide) awake_may).mono ?_
  rintro e w2 ⟨rfl, hg2⟩
  go_wp2_with fail
  have hg3 : Below w2.heap.size w2 ((w2.alloc (.cells #[.int .i64 0, .int .i64 1, .int .i64 2, .int .i64 0, .bool false, .int .i64 0, .int .u32 5] 24)).alloc (.cells #[.int .u8 1, .int .u8 16, .int .u8 0, .int .u8 0, .int .u8 0, .int .u8 0, .int .u8 0, .int .u8 5] 5)) := ((Below.refl _ _).alloc (Nat.le_refl _) _).alloc (by simp) _
  have hy : BytesAt ((w2.alloc (.cells #[.int .i64 0, .int .i64 1, .int .i64 2, .int .i64 0, .bool false, .int .i64 0, .int .u32 5] 24)).alloc (.cells #[.int .u8 1, .int .u8 16, .int .u8 0, .int .u8 0, .int .u8 0, .int .u8 0, .int .u8 0, .int .u8 5] 5)) ⟨w2.heap.size + 1, 0, none⟩ [1, 16, 0, 0, 0, 0, 0, 5] := by
    have h := bytesAt_alloc (w2.alloc (.cells #[.int .i64 0, .int .i64 1, .int .i64 2, .int .i64 0, .bool false, .int .i64 0, .int .u32 5] 24)) 1 16 0 0 0 0 0 5 5
    rwa [show (w2.alloc (.cells #[.int .i64 0, .int .i64 1, .int .i64 2, .int .i64 0, .bool false, .int .i64 0, .int .u32 5] 24)).heap.size = w2.heap.size + 1 by simp] at h
  have hx : BytesAt ((w2.alloc (.cells #[.int .i64 0, .int .i64 1, .int .i64 2, .int .i64 0, .bool false, .int .i64 0, .int .u32 5] 24)).alloc (.cells #[.int .u8 1, .int .u8 16, .int .u8 0, .int .u8 0, .int .u8 0, .int .u8 0, .int .u8 0, .int .u8 5] 5)) ⟨b, 0, none⟩ [1, 16, 0, 0, 0, 0, 0, 5] := BytesAt.below (BytesAt.below HB1.out hg2) hg3
  refine (bytes_same ⟨b, 0, none⟩ ⟨w2.heap.size + 1, 0, none⟩ 8 8 8 _ _ _ (by decide) rfl rfl hx hy).mono ?_
  rintro e w3 ⟨rfl, hg4⟩
  have hI := (instAt_alloc w2 0 1 2 0 false 0 5 24).below ((Below.refl (w2.heap.size + 1) _).alloc (by simp) (.cells #[.int .u8 1, .int .u8 16, .int .u8 0, .int .u8 0, .int .u8 0, .int .u8 0, .int .u8 0, .int .u8 5] 5)) (by omega)
  obtain ⟨c0, c1, c2, c3, c4, c5, c6⟩ := hI.below hg4 (by simp; omega)
  have hg5 := hg1.trans ((hg2.trans ((hg3.trans (hg4.mono hg3.size)).mono hg2.size)).mono hg1.size)
  have hR3 := hR.later hg5
  clear hg1 hg2 hg3 hg4 hx hy hI
  go_wp2_with fail
  refine (may_any _ _ _ _ _ _ _ _ hR3).mono ?_
  rintro e w4 ⟨rfl, hg6⟩
  have hM := awake_may
  go_wp2
  go_ret
  exact ⟨rfl, hg5.trans (hg6.mono hg5.size)⟩
end Go.Proofs.YtfkmlkieipoibaaDoor
