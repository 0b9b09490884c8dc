/-
  The law file's awake, as a contract over the translated program: it returns true.
-/
import Derived.Test.YtbihfaplhjbfeaaC
import Derived.Test.YtbihfaplhjbfeaaF
import Derived.Test.YtbihfaplhjbfeaaG
namespace Go.Proofs.Ytbihfaplhjbfeaa
open Go.RowKit

def wakeS : List Sc := [(1, 4, 2, 258)]
theorem wake_may : mayL wakeS = true := by decide
theorem wake_enc : encS wakeS = [1, 1, 4, 2, 1, 2] := by decide
theorem wake_putE : putE wakeS = 0 := putE_yes wake_may
theorem wake_putZ : putZ wakeS = [1, 1, 4, 2, 1, 2] := (putZ_yes wake_may).trans wake_enc
theorem wake_get : getS [1, 1, 4, 2, 1, 2] = some wakeS := by rw [← wake_enc]; exact getS_enc wake_may
theorem wake_room : roomS 1 4 2 258 = 12 := by decide
theorem wake_eq : scEq 1 4 2 258 1 4 2 258 = true := by decide
theorem wake_at (w : World) (o : Obj) : ScsAt ((w.alloc o).alloc (scO 1 4 2 258)) (some ⟨w.heap.size + 1, 0, none⟩) 1 1 wakeS := by
  refine ⟨rfl, Nat.le_refl _, by decide, .inr ⟨_, rfl, fun k hk => ?_⟩⟩
  obtain rfl : k = 0 := by omega
  rw [Nat.zero_mul, Addr.add_zero']
  exact scAt_two w 1 4 2 258 o
theorem six_at (w : World) : SliceB (w.alloc (.cells #[.int .u8 1, .int .u8 1, .int .u8 4, .int .u8 2, .int .u8 1, .int .u8 2] 5)) (some ⟨w.heap.size, 0, none⟩) 6 6 [1, 1, 4, 2, 1, 2] := by
  refine ⟨rfl, Nat.le_refl _, by decide, by unfold byteL; decide, .inr ⟨_, rfl, fun i hi => ?_⟩⟩
  rw [addr_add]
  match i, hi with
  | 0, _ | 1, _ | 2, _ | 3, _ | 4, _ | 5, _ => simp

set_option maxRecDepth 100000 in
set_option maxHeartbeats 4000000 in
theorem awake_any (w : World) : Calls Try.prog 9 #[] w fun e w' => e = .returned (.bool true) ∧ Below w.heap.size w w' := by
  have hg : Below w.heap.size w ((w.alloc (scO 1 4 2 258)).alloc (scO 1 4 2 258)) := box2 (Below.refl _ _) (Nat.le_refl _) _ _
  have HA := Lib.hid (scAt_old (scAt_new w 1 4 2 258) (scO 1 4 2 258))
  have HW := Lib.hid (wake_at w (scO 1 4 2 258))
  go_enter Try.func9, Try.ntmps9
  go_wp2_with fail
  refine (put_any _ 1 1 wakeS _ HW.out).mono ?_
  rintro e w1 ⟨b, cb, rfl, hg1, hS⟩
  rw [wake_putE, wake_putZ]
  rw [wake_putZ] at hS
  have HS := Lib.hid hS
  replace HA := Lib.hid (HA.out.later hg1)
  replace hg := hg.trans (hg1.mono hg.size)
  clear hg1 hS HW
  go_wp2_with fail
  refine (get_any _ 6 cb _ w1 HS.out).mono ?_
  rintro e w2 ⟨l, cl, rfl, hg2, hL⟩
  rw [getE_some wake_get, getL_some wake_get]
  rw [getL_some wake_get] at hL
  obtain ⟨y, rfl, hy⟩ := hL.2.2.2.resolve_left (by decide)
  have hy0 := hy 0 (by decide)
  rw [Nat.zero_mul, Addr.add_zero'] at hy0
  replace HA := Lib.hid (HA.out.later hg2)
  replace HS := Lib.hid (HS.out.below hg2)
  replace hg := hg.trans (hg2.mono hg.size)
  have HK : Hid (∀ w', Below w2.heap.size w2 w' → w'.cell? ⟨w.heap.size, 0, none⟩ = some (.int .i64 1) ∧ w'.cell? ⟨w.heap.size, 1, none⟩ = some (.int .i64 4) ∧ w'.cell? ⟨w.heap.size, 2, none⟩ = some (.int .i64 2) ∧ w'.cell? ⟨w.heap.size, 3, none⟩ = some (.int .i64 258) ∧ w'.cell? y = some (.int .i64 1) ∧ w'.cell? ⟨y.block, y.off + 1, none⟩ = some (.int .i64 4) ∧ w'.cell? ⟨y.block, y.off + 2, none⟩ = some (.int .i64 2) ∧ w'.cell? ⟨y.block, y.off + 3, none⟩ = some (.int .i64 258) ∧ Below w2.heap.size w2 w') := Lib.hid (fun w' hb => by
    obtain ⟨a0, a1, a2, a3⟩ := HA.out.later hb
    obtain ⟨b0, b1, b2, b3⟩ := ScHere.below hy0 hb
    exact ⟨a0, a1, a2, a3, b0, b1, b2, b3, hb⟩)
  have HB0 : Hid (Below w2.heap.size w2 w2.drew) := Lib.hid (Below.refl _ _).drew
  have HB1 : Hid (Below w2.heap.size w2 (w2.drew.alloc (.cells #[.int .u8 1, .int .u8 1, .int .u8 4, .int .u8 2, .int .u8 1, .int .u8 2] 5))) := Lib.hid ((Below.refl _ _).drew.alloc (Nat.le_refl _) _)
  have heq := eql_sc 1 4 2 258 1 4 2 258
  rw [wake_eq] at heq
  have hgd := guardS
  have hln : wakeS.length = 1 := rfl
  have hroom := wake_room
  have hde : decide (([1, 1, 4, 2, 1, 2] : List Int) = [1, 1, 4, 2, 1, 2]) = true := by decide
  have HSix := Lib.hid (six_at w2.drew)
  clear hg2 hL hy hy0
  go_wp2_with fail
  go_region_held3 (fun w' => w'.cell? ⟨w.heap.size, 0, none⟩ = some (.int .i64 1) ∧ w'.cell? ⟨w.heap.size, 1, none⟩ = some (.int .i64 4) ∧ w'.cell? ⟨w.heap.size, 2, none⟩ = some (.int .i64 2) ∧ w'.cell? ⟨w.heap.size, 3, none⟩ = some (.int .i64 258) ∧ w'.cell? y = some (.int .i64 1) ∧ w'.cell? ⟨y.block, y.off + 1, none⟩ = some (.int .i64 4) ∧ w'.cell? ⟨y.block, y.off + 2, none⟩ = some (.int .i64 2) ∧ w'.cell? ⟨y.block, y.off + 3, none⟩ = some (.int .i64 258) ∧ Below w2.heap.size w2 w')
    (first
      | exact HK.out _ HB0.out
      | exact HK.out _ HB1.out
      | exact hS3
      | exact hS4)
    (first
      | (go_at_call 12; refine (bytesB_any b (some ⟨w2.heap.size, 0, none⟩) 6 cb 6 6 _ _ _ (by exact HS.out.below HB1.out) (by exact HSix.out)).mono ?_; rintro e w3 ⟨rfl, hg3⟩; have hb3 := HB1.out.trans (hg3.mono HB1.out.size); have hS3 := HK.out _ hb3)
      | (go_at_call 18; refine (room_any 1 4 2 258 _).mono ?_; rintro e w4 ⟨rfl, hg4⟩; have hb4 := hb3.trans (hg4.mono hb3.size); have hS4 := HK.out _ hb4))
  replace hg := hg.trans (hb4.mono hg.size)
  clear hS3 hS4 hb3 hb4 hg3 hg4
  go_wp2
  go_ret
  exact ⟨rfl, hg⟩
end Go.Proofs.Ytbihfaplhjbfeaa
