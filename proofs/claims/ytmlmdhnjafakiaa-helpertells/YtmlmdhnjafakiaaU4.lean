/-
  What the package's May, keyed and queued return, as contracts over the translated program: whether a table is valid.
-/
import Derived.Test.YtmlmdhnjafakiaaU3
import Derived.Test.YtmlmdhnjafakiaaSA
namespace Go.Proofs.Ytmlmdhnjafakiaa
open Go Go.RowKit
set_option linter.unusedVariables false

theorem ret_bool {b b' : Bool} (h : b' = b) : Ending.returned (Value.bool b) = Ending.returned (Value.bool b') := by rw [h]
set_option maxRecDepth 100000 in
set_option maxHeartbeats 8000000 in
theorem tmay_any (s : Sc) (a : Option Addr) (len cap : Nat) (x : Int) (es : List Ent) (w : World) (h : EntsAt w a len cap es) (hx : isW x) :
    Calls Try.prog 35 #[tbV s (.slice a len cap) x] w fun e w' => e = .returned (.bool (mayTb (s, es, x))) ∧ Below w.heap.size w w' := by
  rw [← mayB_eq (t := (s, es, x)) ⟨h.ok, hx⟩]
  have hm := h.max
  have H1 := Lib.hid h.1
  rcases s with ⟨s0, s1, s2, s3⟩
  obtain ⟨W0, hW0⟩ : ∃ W0, w.alloc (.cells #[.int .i64 s0, .int .i64 s1, .int .i64 s2, .int .i64 s3, .slice a len cap, .int .u32 x] 44) = W0 := ⟨_, rfl⟩
  have hbw : Below w.heap.size w W0 := by rw [← hW0]; exact (Below.refl _ _).alloc (Nat.le_refl _) _
  have HT : Hid (TbAt W0 w.heap.size (s0, s1, s2, s3) (.slice a len cap) x) := by rw [← hW0]; exact Lib.hid (tbAt_new w (s0, s1, s2, s3) (.slice a len cap) x)
  have HE := Lib.hid (h.below hbw)
  have HB := Lib.hid hbw
  clear h hbw
  obtain ⟨R, hR⟩ : ∃ R, mayB ((s0, s1, s2, s3), es, x) = R := ⟨_, rfl⟩
  rw [hR]
  have HR := Lib.hid hR
  clear hR
  obtain ⟨d0, d1, d2, d3, d4, d5⟩ := HT.out
  simp only at d0 d1 d2 d3 d4 d5
  go_enter Try.func35, Try.ntmps35
  go_wp2_with fail
  refine (may_any s0 s1 s2 s3 _).mono ?_
  rintro e w1 ⟨rfl, hB1⟩
  have HT1 := Lib.hid (HT.out.later hB1)
  have HE1 := Lib.hid (HE.out.below hB1)
  have HB1 := Lib.hid (HB.out.trans (hB1.mono HB.out.size))
  clear d0 d1 d2 d3 d4 d5 hB1 HT HE HB hW0
  rcases hM : mayS s0 s1 s2 s3 with _ | _
  · have HQ : Hid (R = false) := Lib.hid (by rw [← HR.out]; simp [mayB, mayT, hM])
    go_wp2
    go_ret
    exact ⟨ret_bool HQ.out, HB1.out⟩
  have HM := Lib.hid hM
  have HMi := Lib.hid (mayS_iff.1 hM)
  clear hM
  obtain ⟨d0, d1, d2, d3, d4, d5⟩ := HT1.out
  simp only at d0 d1 d2 d3 d4 d5
  by_cases hc : (len : Int) ≤ s1
  · have hcI : ¬ s1 < (len : Int) := by omega
    have HC := Lib.hid hc
    clear hc
    go_wp2_with fail
    refine (haveWords_any a len cap s2 es _ HE1.out).mono ?_
    rintro e w2 ⟨rfl, hB2⟩
    have HT2 := Lib.hid (HT1.out.later hB2)
    have HE2 := Lib.hid (HE1.out.below hB2)
    have HB2 := Lib.hid (HB1.out.trans (hB2.mono HB1.out.size))
    clear d0 d1 d2 d3 d4 d5 hB2 HT1 HE1 HB1
    rcases hH : haveB es s2 with _ | _
    · have HQ : Hid (R = false) := Lib.hid (by rw [← HR.out]; simp [mayB, hH])
      go_wp2
      go_ret
      exact ⟨ret_bool HQ.out, HB2.out⟩
    have HQ : Hid (R = kindB ((s0, s1, s2, s3), es, x)) := Lib.hid (by rw [← HR.out]; simp [mayB, mayT, HM.out, hH, H1.out, HC.out])
    clear hH HR
    obtain ⟨d0, d1, d2, d3, d4, d5⟩ := HT2.out
    simp only at d0 d1 d2 d3 d4 d5
    by_cases hk0 : s0 = 0
    · have hq0 : (s0 == 0) = true := by simpa using hk0
      have HK0 := Lib.hid hk0
      clear hk0
      by_cases hx0 : x = 0
      · have hqx : (x == 0) = true := by simpa using hx0
        have HX0 := Lib.hid hx0
        clear hx0
        by_cases hl : (len : Int) = s1
        · have hql : ((len : Int) == s1) = true := by simpa using hl
          have HL := Lib.hid hl
          clear hl
          go_wp2_with fail
          refine (consecutive_any a len cap 0 es _ HE2.out).mono ?_
          rintro e w3 ⟨rfl, hB3⟩
          have HB3 := Lib.hid (HB2.out.trans (hB3.mono HB2.out.size))
          clear d0 d1 d2 d3 d4 d5 hB3
          obtain ⟨r, hr⟩ : ∃ r, allB es (consP es 0) = r := ⟨_, rfl⟩
          have HG : Hid (R = r) := Lib.hid (by rw [HQ.out, ← hr]; simp [kindB, HK0.out, HX0.out, H1.out, HL.out])
          rw [hr]
          clear hr
          go_wp2
          all_goals (go_ret; exact ⟨ret_bool HG.out, HB3.out⟩)
        · have hql : ((len : Int) == s1) = false := by simpa using hl
          have HG : Hid (R = false) := Lib.hid (by rw [HQ.out]; simp [kindB, HK0.out, H1.out, hl])
          clear hl
          go_wp2
          go_ret
          exact ⟨ret_bool HG.out, HB2.out⟩
      · have hqx : (x == 0) = false := by simpa using hx0
        have HG : Hid (R = false) := Lib.hid (by rw [HQ.out]; simp [kindB, HK0.out, hx0])
        clear hx0
        go_wp2
        go_ret
        exact ⟨ret_bool HG.out, HB2.out⟩
    · have hq0 : (s0 == 0) = false := by simpa using hk0
      have HK0 := Lib.hid hk0
      clear hk0
      by_cases hk3 : s0 = 3
      · have hq3 : (s0 == 3) = true := by simpa using hk3
        have HK3 := Lib.hid hk3
        clear hk3
        go_wp2_with fail
        refine (consecutive_any a len cap ((x - (len : Int)) % 4294967296) es _ HE2.out).mono ?_
        rintro e w3 ⟨rfl, hB3⟩
        have HB3 := Lib.hid (HB2.out.trans (hB3.mono HB2.out.size))
        clear d0 d1 d2 d3 d4 d5 hB3
        obtain ⟨r, hr⟩ : ∃ r, allB es (consP es ((x - (len : Int)) % 4294967296)) = r := ⟨_, rfl⟩
        have HG : Hid (R = r) := Lib.hid (by rw [HQ.out, ← hr, ← H1.out]; simp only [kindB]; rw [if_neg HK0.out, if_pos HK3.out])
        rw [hr]
        clear hr
        go_wp2
        all_goals (go_ret; exact ⟨ret_bool HG.out, HB3.out⟩)
      · have hq3 : (s0 == 3) = false := by simpa using hk3
        have HK3 := Lib.hid hk3
        clear hk3
        by_cases hx0 : x = 0
        · have hqx : (x == 0) = true := by simpa using hx0
          have HX0 := Lib.hid hx0
          clear hx0
          go_wp2_with fail
          refine (distinct_any a len cap es _ HE2.out).mono ?_
          rintro e w3 ⟨rfl, hB3⟩
          have HB3 := Lib.hid (HB2.out.trans (hB3.mono HB2.out.size))
          clear d0 d1 d2 d3 d4 d5 hB3
          obtain ⟨r, hr⟩ : ∃ r, allB es (distP es) = r := ⟨_, rfl⟩
          have HG : Hid (R = r) := Lib.hid (by rw [HQ.out, ← hr]; simp [kindB, HK0.out, HK3.out, HX0.out])
          rw [hr]
          clear hr
          go_wp2
          all_goals (go_ret; exact ⟨ret_bool HG.out, HB3.out⟩)
        · have hqx : (x == 0) = false := by simpa using hx0
          have HG : Hid (R = false) := Lib.hid (by rw [HQ.out]; simp [kindB, HK0.out, HK3.out, hx0])
          clear hx0
          go_wp2
          go_ret
          exact ⟨ret_bool HG.out, HB2.out⟩
  · have hcI : s1 < (len : Int) := by omega
    have HQ : Hid (R = false) := Lib.hid (by rw [← HR.out]; simp [mayB, H1.out, hc])
    clear hc
    go_wp2
    go_ret
    exact ⟨ret_bool HQ.out, HB1.out⟩
end Go.Proofs.Ytmlmdhnjafakiaa
