/-
  The walk of law ProgBack: it returns true for every program and all bytes.
-/
import Derived.Test.YtlbhmopmfddhjaaDoorL0
namespace Go.Proofs.YtlbhmopmfddhjaaDoor
open Go.RowKit

theorem slice_nil (w : World) : SliceB w none 0 0 [] := ⟨rfl, Nat.le_refl _, Nat.zero_le _, by intro z hz; simp at hz, .inl rfl⟩
theorem fns_nil (w : World) (a : Option Addr) : FnsAt w a 0 0 [] := ⟨rfl, Nat.le_refl _, Nat.zero_le _, .inl rfl⟩

set_option maxRecDepth 100000 in
set_option maxHeartbeats 8000000 in
theorem back_walk (a : Option Addr) (len cap : Nat) (fs : List Fun) (a1 : Option Addr) (len1 cap1 : Nat) (z1 : List Int) (w : World) (hR : RowsIn w) (h : FnsAt w a len cap fs) (hz : SliceB w a1 len1 cap1 z1) :
    Calls Tryd.prog 4 #[.agg #[.slice a len cap], .slice a1 len1 cap1] w fun e w' => e = .returned (.bool true) ∧ Below w.heap.size w w' := by
  have HS := Lib.hid (St.start (a := a) (len := len) (cap := cap) hR)
  have HF := Lib.hid h
  have HZ := Lib.hid hz
  have hm : len ≤ 9223372036854775807 := by have := h.2.1; have := h.2.2.1; unfold maxLen at this; omega
  have hm1 : len1 ≤ 9223372036854775807 := by have := hz.2.1; have := hz.2.2.1; unfold maxLen at this; omega
  have HOk := Lib.hid (fns_ok h)
  clear h hz
  go_enter Tryd.func4, Tryd.ntmps4
  go_wp2_with fail
  refine (awake_any _ HS.out.rows).mono ?_
  rintro e w1 ⟨rfl, hg⟩
  replace HS := Lib.hid (HS.out.later hg)
  have c := HS.out.cell
  clear hg
  go_wp2_with fail
  refine (few_any a len cap fs _ (HS.out.fns HF.out)).mono ?_
  rintro e w2 ⟨rfl, hg⟩
  replace HS := Lib.hid (HS.out.later hg)
  clear hg c
  rcases hfew : fewP fs with _ | _
  · go_wp2
    go_ret
    exact ⟨rfl, HS.out.1⟩
  clear hfew
  by_cases h5 : 5000 < len1
  · have h5I : (5000 : Int) < (len1 : Int) := by omega
    go_wp2
    go_ret
    exact ⟨rfl, HS.out.1⟩
  have h5I : ¬ (5000 : Int) < (len1 : Int) := by omega
  have c := HS.out.cell
  rcases hM : mayP fs with _ | _
  · have HM := Lib.hid hM
    clear hM
    go_wp2_with fail
    refine (prPut_no a len cap fs _ HS.out.rows (HS.out.fns HF.out) HM.out).mono ?_
    rintro e w3 ⟨rfl, hg⟩
    replace HS := Lib.hid (HS.out.later hg)
    clear hg c
    go_wp2_with fail
    refine (prGet_no none 0 0 [] _ HS.out.rows (slice_nil _) rfl).mono ?_
    rintro e w4 ⟨rfl, hg⟩
    replace HS := Lib.hid ((HS.out.later hg).alloc (.cells #[.slice none 0 0] 24))
    have c := HS.out.cell
    clear hg
    go_wp2_with fail
    refine (rSame_any none a 0 0 len cap [] fs _ (fns_nil _ _) (HS.out.fns HF.out)).mono ?_
    rintro e w5 ⟨rfl, hg⟩
    replace HS := Lib.hid (HS.out.later hg)
    clear hg c
    generalize decide (([] : List Fun) = fs) = sm
    rcases hG : getP z1 with _ | gs
    · have HG := Lib.hid hG
      clear hG
      go_wp2_with fail
      refine (prGet_no a1 len1 cap1 z1 _ HS.out.rows (HZ.out.below HS.out.1) HG.out).mono ?_
      rintro e w8 ⟨rfl, hg⟩
      replace HS := Lib.hid ((HS.out.later hg).alloc (.cells #[.slice none 0 0] 24))
      clear hg
      go_wp2
      go_ret
      exact ⟨rfl, HS.out.1⟩
    · have HG := Lib.hid hG
      obtain ⟨hE, hMg, hOg⟩ := getP_some HZ.out.2.2.2.1 hG
      have HE := Lib.hid hE
      have HMg := Lib.hid hMg
      have hgl := mayP_len hMg
      clear hG hE hMg hOg
      go_wp2_with fail
      refine (prGet_yes a1 len1 cap1 z1 gs _ HS.out.rows (HZ.out.below HS.out.1) HG.out).mono ?_
      rintro e w8 ⟨b8, c8, rfl, hg, hF8⟩
      have hb8 : Below w8.heap.size w8 (w8.alloc (.cells #[.slice b8 gs.length c8] 24)) := (Below.refl _ _).alloc (Nat.le_refl _) _
      have HX := Lib.hid (Box.new w8 24 #[.slice b8 gs.length c8])
      have HF8 := Lib.hid (hF8.below hb8)
      replace HS := Lib.hid ((HS.out.later hg).later hb8)
      clear hg hF8 hb8
      go_wp2_with fail
      refine (prPut_yes b8 gs.length c8 gs _ HS.out.rows HF8.out HMg.out).mono ?_
      rintro e w9 ⟨g9, cp9, rfl, hg, hgb, hc1, hc2, hB⟩
      have HB9 := Lib.hid (put_slice (fns_ok HF8.out) HMg.out hc1 hc2 hB)
      replace HX := Lib.hid (HX.out.below hg HX.out.lt)
      replace HF8 := Lib.hid (HF8.out.below hg)
      replace HS := Lib.hid (HS.out.later hg)
      clear hg hgb hc1 hc2 hB
      go_wp2_with fail
      refine (bytesB_any _ _ _ _ _ _ _ _ _ HB9.out (HZ.out.below HS.out.1)).mono ?_
      rintro e w10 ⟨rfl, hg⟩
      replace HX := Lib.hid (HX.out.below hg HX.out.lt)
      replace HF8 := Lib.hid (HF8.out.below hg)
      replace HS := Lib.hid (HS.out.later hg)
      rw [decide_eq_true HE.out]
      have c := HX.out.cell (i := 0) rfl
      clear hg
      go_wp2_with fail
      refine (prMay_any b8 gs.length c8 gs _ HS.out.rows HF8.out).mono ?_
      rintro e w11 ⟨rfl, hg⟩
      replace HS := Lib.hid (HS.out.later hg)
      rw [HMg.out]
      clear hg c
      go_wp2
      go_ret
      exact ⟨rfl, HS.out.1⟩
  · have HM := Lib.hid hM
    have hG0 := getP_enc HOk.out hM
    have HG0 := Lib.hid hG0
    have hL3 : 3 ≤ (encP fs).length := by simp [encP]
    clear hM hG0
    go_wp2_with fail
    refine (prPut_yes a len cap fs _ HS.out.rows (HS.out.fns HF.out) HM.out).mono ?_
    rintro e w3 ⟨g, cp, rfl, hg, hgb, hc1, hc2, hB⟩
    replace HS := Lib.hid (HS.out.later hg)
    have HB := Lib.hid (put_slice HOk.out HM.out hc1 hc2 hB)
    clear hg hgb hB c hc1 hc2
    go_wp2_with fail
    refine (prGet_yes _ _ cp _ fs _ HS.out.rows HB.out HG0.out).mono ?_
    rintro e w4 ⟨b4, c4, rfl, hg, hF4⟩
    have hb4 : Below w4.heap.size w4 (w4.alloc (.cells #[.slice b4 fs.length c4] 24)) := (Below.refl _ _).alloc (Nat.le_refl _) _
    have HF4 := Lib.hid (hF4.below hb4)
    replace HS := Lib.hid ((HS.out.later hg).later hb4)
    have c := HS.out.cell
    clear hg hF4 hb4 HB
    go_wp2_with fail
    refine (rSame_any b4 a fs.length c4 len cap fs fs _ HF4.out (HS.out.fns HF.out)).mono ?_
    rintro e w5 ⟨rfl, hg⟩
    replace HS := Lib.hid (HS.out.later hg)
    rw [decide_eq_true (rfl : fs = fs)]
    clear hg c HF4
    rcases hG : getP z1 with _ | gs
    · have HG := Lib.hid hG
      clear hG
      go_wp2_with fail
      refine (prGet_no a1 len1 cap1 z1 _ HS.out.rows (HZ.out.below HS.out.1) HG.out).mono ?_
      rintro e w8 ⟨rfl, hg⟩
      replace HS := Lib.hid ((HS.out.later hg).alloc (.cells #[.slice none 0 0] 24))
      clear hg
      go_wp2
      go_ret
      exact ⟨rfl, HS.out.1⟩
    · have HG := Lib.hid hG
      obtain ⟨hE, hMg, hOg⟩ := getP_some HZ.out.2.2.2.1 hG
      have HE := Lib.hid hE
      have HMg := Lib.hid hMg
      have hgl := mayP_len hMg
      clear hG hE hMg hOg
      go_wp2_with fail
      refine (prGet_yes a1 len1 cap1 z1 gs _ HS.out.rows (HZ.out.below HS.out.1) HG.out).mono ?_
      rintro e w8 ⟨b8, c8, rfl, hg, hF8⟩
      have hb8 : Below w8.heap.size w8 (w8.alloc (.cells #[.slice b8 gs.length c8] 24)) := (Below.refl _ _).alloc (Nat.le_refl _) _
      have HX := Lib.hid (Box.new w8 24 #[.slice b8 gs.length c8])
      have HF8 := Lib.hid (hF8.below hb8)
      replace HS := Lib.hid ((HS.out.later hg).later hb8)
      clear hg hF8 hb8
      go_wp2_with fail
      refine (prPut_yes b8 gs.length c8 gs _ HS.out.rows HF8.out HMg.out).mono ?_
      rintro e w9 ⟨g9, cp9, rfl, hg, hgb, hc1, hc2, hB⟩
      have HB9 := Lib.hid (put_slice (fns_ok HF8.out) HMg.out hc1 hc2 hB)
      replace HX := Lib.hid (HX.out.below hg HX.out.lt)
      replace HF8 := Lib.hid (HF8.out.below hg)
      replace HS := Lib.hid (HS.out.later hg)
      clear hg hgb hc1 hc2 hB
      go_wp2_with fail
      refine (bytesB_any _ _ _ _ _ _ _ _ _ HB9.out (HZ.out.below HS.out.1)).mono ?_
      rintro e w10 ⟨rfl, hg⟩
      replace HX := Lib.hid (HX.out.below hg HX.out.lt)
      replace HF8 := Lib.hid (HF8.out.below hg)
      replace HS := Lib.hid (HS.out.later hg)
      rw [decide_eq_true HE.out]
      have c := HX.out.cell (i := 0) rfl
      clear hg
      go_wp2_with fail
      refine (prMay_any b8 gs.length c8 gs _ HS.out.rows HF8.out).mono ?_
      rintro e w11 ⟨rfl, hg⟩
      replace HS := Lib.hid (HS.out.later hg)
      rw [HMg.out]
      clear hg c
      go_wp2
      go_ret
      exact ⟨rfl, HS.out.1⟩
end Go.Proofs.YtlbhmopmfddhjaaDoor
