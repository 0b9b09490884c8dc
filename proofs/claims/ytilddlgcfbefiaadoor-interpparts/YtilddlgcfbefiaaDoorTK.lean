/-
  What the fifth reference's keyed and Few return, as contracts over the translated program.
-/
import Derived.Test.YtilddlgcfbefiaaDoorTN
import Derived.Test.YtilddlgcfbefiaaDoorGta
namespace Go.Proofs.YtilddlgcfbefiaaDoor
set_option linter.unusedSimpArgs false
set_option linter.unusedVariables false
open Go Go.RowKit

set_option maxHeartbeats 4000000 in
theorem keyed_any (s : Sc) (a : Option Addr) (len cap : Nat) (x : Int) (es : List Ent) (f : Int) (w : World) (h : EntsAt w a len cap es) (hf : isW f) :
    Calls Tryd.prog 100 #[tbV s (.slice a len cap) x, .int .u32 f] w fun e w' => e = .returned (.bool (keyedB (s, es, x) f)) ∧ Below w.heap.size w w' := by
  rcases s with ⟨s0, s1, s2, s3⟩
  obtain ⟨W0, hW0⟩ : ∃ W0, w.alloc (.cells #[.int .i64 s0, .int .i64 s1, .int .i64 s2, .int .i64 s3, .slice a len cap, .int .u32 x] 42) = W0 := ⟨_, rfl⟩
  have hb0 : Below w.heap.size w W0 := by rw [← hW0]; exact (Below.refl _ _).alloc (Nat.le_refl _) _
  have HT : Hid (TbAt W0 w.heap.size (s0, s1, s2, s3) (.slice a len cap) x) := by rw [← hW0]; exact Lib.hid (tbAt_new w (s0, s1, s2, s3) (.slice a len cap) x)
  have HEs := Lib.hid (h.below hb0)
  obtain ⟨R, hR⟩ : ∃ R, keyedB ((s0, s1, s2, s3), es, x) f = R := ⟨_, rfl⟩
  rw [hR]
  have HR := Lib.hid hR
  have hf0 : 0 ≤ f ∧ f ≤ 4294967295 := hf
  have hfw := wI f (by omega) (by omega)
  obtain ⟨d0, d1, d2, d3, d4, d5⟩ := HT.out
  simp only at d0 d1 d2 d3 d4 d5
  clear h hR hf
  go_enter Tryd.func100, Tryd.ntmps100
  go_wp2_with fail
  refine (mayTb_any (s0, s1, s2, s3) a len cap x es W0 HEs.out).mono ?_
  rintro e w1 ⟨rfl, hg⟩
  clear d0 d1 d2 d3 d4 d5 hW0
  obtain ⟨d0, d1, d2, d3, d4, d5⟩ := HT.out.later hg
  simp only at d0 d1 d2 d3 d4 d5
  have hb1 := hb0.trans (hg.mono hb0.size)
  clear hg
  rcases hM : mayTb ((s0, s1, s2, s3), es, x) with _ | _
  · have HF : Hid (R = false) := Lib.hid (by rw [← HR.out]; simp [keyedB, hM])
    go_wp2
    go_ret
    exact ⟨by rw [HF.out]; rfl, hb1⟩
  by_cases e3 : s0 = 3
  · have HF : Hid (R = false) := Lib.hid (by rw [← HR.out]; simp [keyedB, e3])
    have k3 : (s0 != 3) = false := by simpa using e3
    clear e3
    go_wp2
    go_ret
    exact ⟨by rw [HF.out]; rfl, hb1⟩
  have k3 : (s0 != 3) = true := by simpa using e3
  by_cases hl : f < s2
  · have HF : Hid (R = true) := Lib.hid (by rw [← HR.out]; simp [keyedB, hM, e3, hl])
    clear e3
    go_wp2
    go_ret
    exact ⟨by rw [HF.out]; rfl, hb1⟩
  · have HF : Hid (R = false) := Lib.hid (by rw [← HR.out]; simp [keyedB, hl])
    have hlI : decide (f < s2) = false := by simp; omega
    clear e3 hl
    go_wp2
    go_ret
    exact ⟨by rw [HF.out]; rfl, hb1⟩
end Go.Proofs.YtilddlgcfbefiaaDoor
