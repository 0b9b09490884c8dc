/-
  What the package's keyed, queued and mayAdd return, as contracts over the translated program.
-/
import Derived.Test.YtmlmdhnjafakiaaU4
namespace Go.Proofs.Ytmlmdhnjafakiaa
open Go Go.RowKit
set_option linter.unusedVariables false

set_option maxRecDepth 100000 in
set_option maxHeartbeats 4000000 in
theorem tkeyed_any (s : Sc) (a : Option Addr) (len cap : Nat) (x : Int) (es : List Ent) (w : World) (h : EntsAt w a len cap es) (hx : isW x) :
    Calls Try.prog 65 #[tbV s (.slice a len cap) x] w fun e w' => e = .returned (.bool (mayTb (s, es, x) && decide (s.1 ≠ 3))) ∧ Below w.heap.size w w' := by
  have hm := h.max
  rcases s with ⟨s0, s1, s2, s3⟩
  obtain ⟨W0, hW0⟩ : ∃ W0, w.alloc (.cells #[.int .i64 s0, .int .i64 s1, .int .i64 s2, .int .i64 s3, .slice a len cap, .int .u32 x] 44) = W0 := ⟨_, rfl⟩
  have hbw : Below w.heap.size w W0 := by rw [← hW0]; exact (Below.refl _ _).alloc (Nat.le_refl _) _
  have HT : Hid (TbAt W0 w.heap.size (s0, s1, s2, s3) (.slice a len cap) x) := by rw [← hW0]; exact Lib.hid (tbAt_new w (s0, s1, s2, s3) (.slice a len cap) x)
  have HE := Lib.hid (h.below hbw)
  have HB := Lib.hid hbw
  clear h hbw
  obtain ⟨d0, d1, d2, d3, d4, d5⟩ := HT.out
  simp only at d0 d1 d2 d3 d4 d5
  go_enter Try.func65, Try.ntmps65
  go_wp2_with fail
  refine (tmay_any (s0, s1, s2, s3) a len cap x es _ HE.out hx).mono ?_
  rintro e w1 ⟨rfl, hB1⟩
  have HT1 := Lib.hid (HT.out.later hB1)
  have HB1 := Lib.hid (HB.out.trans (hB1.mono HB.out.size))
  clear d0 d1 d2 d3 d4 d5 hB1 HT HE HB hW0
  obtain ⟨d0, d1, d2, d3, d4, d5⟩ := HT1.out
  simp only at d0 d1 d2 d3 d4 d5
  rcases hM : mayTb ((s0, s1, s2, s3), es, x) with _ | _
  · go_wp2
    go_ret
    exact ⟨ret_bool (by rw [hM]; simp), HB1.out⟩
  · by_cases h3 : s0 = 3
    · have hq : (s0 != 3) = false := by simpa using h3
      go_wp2
      go_ret
      exact ⟨ret_bool (by rw [hM]; simp [h3]), HB1.out⟩
    · have hq : (s0 != 3) = true := by simpa using h3
      go_wp2
      go_ret
      exact ⟨ret_bool (by rw [hM]; simp [h3]), HB1.out⟩
set_option maxRecDepth 100000 in
set_option maxHeartbeats 4000000 in
theorem tqueued_any (s : Sc) (a : Option Addr) (len cap : Nat) (x : Int) (es : List Ent) (w : World) (h : EntsAt w a len cap es) (hx : isW x) :
    Calls Try.prog 71 #[tbV s (.slice a len cap) x] w fun e w' => e = .returned (.bool (mayTb (s, es, x) && decide (s.1 = 3))) ∧ Below w.heap.size w w' := by
  have hm := h.max
  rcases s with ⟨s0, s1, s2, s3⟩
  obtain ⟨W0, hW0⟩ : ∃ W0, w.alloc (.cells #[.int .i64 s0, .int .i64 s1, .int .i64 s2, .int .i64 s3, .slice a len cap, .int .u32 x] 44) = W0 := ⟨_, rfl⟩
  have hbw : Below w.heap.size w W0 := by rw [← hW0]; exact (Below.refl _ _).alloc (Nat.le_refl _) _
  have HT : Hid (TbAt W0 w.heap.size (s0, s1, s2, s3) (.slice a len cap) x) := by rw [← hW0]; exact Lib.hid (tbAt_new w (s0, s1, s2, s3) (.slice a len cap) x)
  have HE := Lib.hid (h.below hbw)
  have HB := Lib.hid hbw
  clear h hbw
  obtain ⟨d0, d1, d2, d3, d4, d5⟩ := HT.out
  simp only at d0 d1 d2 d3 d4 d5
  go_enter Try.func71, Try.ntmps71
  go_wp2_with fail
  refine (tmay_any (s0, s1, s2, s3) a len cap x es _ HE.out hx).mono ?_
  rintro e w1 ⟨rfl, hB1⟩
  have HT1 := Lib.hid (HT.out.later hB1)
  have HB1 := Lib.hid (HB.out.trans (hB1.mono HB.out.size))
  clear d0 d1 d2 d3 d4 d5 hB1 HT HE HB hW0
  obtain ⟨d0, d1, d2, d3, d4, d5⟩ := HT1.out
  simp only at d0 d1 d2 d3 d4 d5
  rcases hM : mayTb ((s0, s1, s2, s3), es, x) with _ | _
  · go_wp2
    go_ret
    exact ⟨ret_bool (by rw [hM]; simp), HB1.out⟩
  · by_cases h3 : s0 = 3
    · have hq : (s0 == 3) = true := by simpa using h3
      go_wp2
      go_ret
      exact ⟨ret_bool (by rw [hM]; simp [h3]), HB1.out⟩
    · have hq : (s0 == 3) = false := by simpa using h3
      go_wp2
      go_ret
      exact ⟨ret_bool (by rw [hM]; simp [h3]), HB1.out⟩
def addE (s : Sc) (len : Nat) : Int := if s.1 = 0 then 3 else if s.1 = 1 ∧ (len : Int) = s.2.1 then 4 else 0
set_option maxHeartbeats 4000000 in
theorem mayAdd_any (s : Sc) (a : Option Addr) (len cap : Nat) (x : Int) (es : List Ent) (w : World) (h : EntsAt w a len cap es) :
    Calls Try.prog 68 #[tbV s (.slice a len cap) x] w fun e w' => e = .returned (.int .i64 (addE s len)) ∧ Below w.heap.size w w' := by
  have hm := h.max
  rcases s with ⟨s0, s1, s2, s3⟩
  obtain ⟨W0, hW0⟩ : ∃ W0, w.alloc (.cells #[.int .i64 s0, .int .i64 s1, .int .i64 s2, .int .i64 s3, .slice a len cap, .int .u32 x] 44) = W0 := ⟨_, rfl⟩
  have hbw : Below w.heap.size w W0 := by rw [← hW0]; exact (Below.refl _ _).alloc (Nat.le_refl _) _
  have HT : Hid (TbAt W0 w.heap.size (s0, s1, s2, s3) (.slice a len cap) x) := by rw [← hW0]; exact Lib.hid (tbAt_new w (s0, s1, s2, s3) (.slice a len cap) x)
  have HE := Lib.hid (h.below hbw)
  have HB := Lib.hid hbw
  clear h hbw
  obtain ⟨d0, d1, d2, d3, d4, d5⟩ := HT.out
  simp only at d0 d1 d2 d3 d4 d5
  by_cases h0 : s0 = 0
  · have hq : (s0 == 0) = true := by simpa using h0
    have HR : Hid (addE (s0, s1, s2, s3) len = 3) := Lib.hid (by simp [addE, h0])
    clear h0
    go_enter Try.func68, Try.ntmps68
    go_wp2
    go_ret
    exact ⟨by rw [HR.out]; rfl, HB.out⟩
  · have hq : (s0 == 0) = false := by simpa using h0
    by_cases h1 : s0 = 1
    · have hq1 : (s0 == 1) = true := by simpa using h1
      have HK := Lib.hid h1
      have HN := Lib.hid h0
      clear h0 h1
      go_enter Try.func68, Try.ntmps68
      go_wp2_with fail
      refine (full_any (s0, s1, s2, s3) a len cap x _).mono ?_
      rintro e w1 ⟨rfl, hB1⟩
      have HB1 := Lib.hid (HB.out.trans (hB1.mono HB.out.size))
      clear d0 d1 d2 d3 d4 d5 hB1 HT HE HB hW0
      by_cases hl : (len : Int) = s1
      · have HR : Hid (addE (s0, s1, s2, s3) len = 4) := Lib.hid (by simp [addE, HK.out, hl])
        have hd : decide ((len : Int) = s1) = true := decide_eq_true hl
        simp only [hd]
        clear hl hd
        go_wp2
        go_ret
        exact ⟨by rw [HR.out]; rfl, HB1.out⟩
      · have HR : Hid (addE (s0, s1, s2, s3) len = 0) := Lib.hid (by simp [addE, HK.out, hl])
        have hd : decide ((len : Int) = s1) = false := decide_eq_false hl
        simp only [hd]
        clear hl hd
        go_wp2
        go_ret
        exact ⟨by rw [HR.out]; rfl, HB1.out⟩
    · have hq1 : (s0 == 1) = false := by simpa using h1
      have HR : Hid (addE (s0, s1, s2, s3) len = 0) := Lib.hid (by simp [addE, h0, h1])
      clear h0 h1
      go_enter Try.func68, Try.ntmps68
      go_wp2
      go_ret
      exact ⟨by rw [HR.out]; rfl, HB.out⟩
end Go.Proofs.Ytmlmdhnjafakiaa
