/-
  Whether a table is not too great: a contract over the translated program.
-/
import Derived.Test.YtlbmgablkphioaaTF
import Derived.Test.YtlbmgablkphioaaTS
namespace Go.Proofs.Ytlbmgablkphioaa
open Go Go.RowKit
set_option linter.unusedVariables false

set_option maxHeartbeats 2000000 in
theorem lfew_any (s : Sc) (a : Option Addr) (len cap : Nat) (x : Int) (es : List Ent) (w : World) (h : EntsAt w a len cap es) (hx : isW x) :
    Calls Try.prog 13 #[tbV s (.slice a len cap) x] w fun e w' => e = .returned (.bool (fewT (s, es, x))) ∧ Below w.heap.size w w' := by
  rcases s with ⟨s0, s1, s2, s3⟩
  obtain ⟨q, hq⟩ : ∃ q, fewT ((s0, s1, s2, s3), es, x) = q := ⟨_, rfl⟩
  rw [hq]
  have HQ : Hid (fewTs [((s0, s1, s2, s3), es, x)] = q) := Lib.hid (by rw [← hq]; simp [fewTs])
  clear hq
  obtain ⟨W, hW⟩ : ∃ W, ((w.alloc (.cells #[.int .i64 s0, .int .i64 s1, .int .i64 s2, .int .i64 s3, .slice a len cap, .int .u32 x] 27)).alloc (.cells #[.int .i64 s0, .int .i64 s1, .int .i64 s2, .int .i64 s3, .slice a len cap, .int .u32 x] 27)) = W := ⟨_, rfl⟩
  have hb2 : Below w.heap.size w W := by rw [← hW]; exact box2 (Below.refl _ _) (Nat.le_refl _) _ _
  have HT : Hid (TbAt W (w.heap.size + 1) (s0, s1, s2, s3) (.slice a len cap) x) := by rw [← hW]; exact Lib.hid (tbAt_two w (s0, s1, s2, s3) (.slice a len cap) x (tbO (s0, s1, s2, s3) (.slice a len cap) x))
  have HE := Lib.hid (h.below hb2)
  have HB := Lib.hid hb2
  have HA : Hid (TabsAt W (some ⟨w.heap.size + 1, 0, none⟩) 1 1 [((s0, s1, s2, s3), es, x)]) := Lib.hid ⟨rfl, Nat.le_refl _, by unfold maxLen; omega, .inr ⟨_, rfl, fun k hk => by
    obtain rfl : k = 0 := by omega
    obtain ⟨d0, d1, d2, d3, d4, d5⟩ := HT.out
    rw [addr_add]
    exact ⟨d0, d1, d2, d3, ⟨a, len, cap, d4, HE.out⟩, d5, hx⟩⟩⟩
  clear hb2 h
  go_enter Try.func13, Try.ntmps13
  go_wp2_with fail
  refine (few_any (some ⟨w.heap.size + 1, 0, none⟩) 1 1 [((s0, s1, s2, s3), es, x)] W HA.out).mono ?_
  rintro e w1 ⟨rfl, rfl⟩
  rw [HQ.out]
  go_wp2_with fail
  go_ret
  exact ⟨rfl, HB.out⟩
end Go.Proofs.Ytlbmgablkphioaa
