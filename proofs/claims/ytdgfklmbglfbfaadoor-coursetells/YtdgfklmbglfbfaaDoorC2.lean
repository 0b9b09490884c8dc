/-
  What package course's mayCode returns, as a contract over the translated program.
-/
import Derived.Test.YtdgfklmbglfbfaaDoorM
namespace Go.Proofs.YtdgfklmbglfbfaaDoor
open Go.RowKit

set_option maxHeartbeats 1000000 in
theorem cmay_any (a : Option Addr) (len cap : Nat) (c : List I) (w : World) (hR : RowsIn w) (h : CodeAt w a len cap c) :
    Calls Tryd.prog 25 #[.slice a len cap] w fun e w' => e = .returned (.bool (codeB c)) ∧ Below w.heap.size w w' := by
  obtain ⟨h1, h2, h3, h4, h5⟩ := h
  have hm : len ≤ 9223372036854775807 := by unfold maxLen at h3; omega
  by_cases hl : len < 1
  · have HC : Hid (codeB c = false) := Lib.hid (by simp [codeB]; omega)
    clear h1 h4 h5
    have hlI : (len : Int) < 1 := by omega
    go_enter Tryd.func25, Tryd.ntmps25
    go_wp2
    go_ret
    exact ⟨by rw [HC.out]; rfl, Below.refl _ _⟩
  by_cases hg : 64 < len
  · have HC : Hid (codeB c = false) := Lib.hid (by simp [codeB]; omega)
    clear h1 h4 h5
    have hlI : ¬ (len : Int) < 1 := by omega
    have hgI : (64 : Int) < (len : Int) := by omega
    go_enter Tryd.func25, Tryd.ntmps25
    go_wp2
    go_ret
    exact ⟨by rw [HC.out]; rfl, Below.refl _ _⟩
  obtain ⟨y, rfl, h6⟩ := h5.resolve_left (by omega)
  have H6 := Lib.hid h6
  have H4 := Lib.hid h4
  have H1 := Lib.hid h1
  clear h6 h4 h1 h5
  have hlI : ¬ (len : Int) < 1 := by omega
  have hgI : ¬ (64 : Int) < (len : Int) := by omega
  go_enter Tryd.func25, Tryd.ntmps25
  go_wp2
  go_loopw [15] (fun i wr => ∃ k : Nat, k ≤ len ∧ i = .int .i64 k ∧ Hid (∀ j, j < k → mayI (c.getD j zeroI) = true) ∧ Below w.heap.size w wr) (fun i _ => len - (intOf i).toNat)
  case atStart => exact ⟨0, by omega, rfl, Lib.hid (fun j hj => absurd hj (by omega)), Below.refl _ _⟩
  case round =>
    obtain ⟨k, hk, rfl, HF, hb⟩ := hrel
    by_cases hkl : k < len
    · have hI := InstHere.below (H6.out k hkl) hb
      have hok := H4.out _ (getD_mem c k zeroI (by rw [H1.out]; exact hkl))
      rcases hi : c.getD k zeroI with ⟨o, f, d, s, r, x, m⟩
      rw [hi] at hI hok
      have HI := Lib.hid hi
      obtain ⟨i0, i1, i2, i3, i4, i5, i6⟩ := hI
      obtain ⟨hok1, hok2⟩ := hok
      simp only at i0 i1 i2 i3 i4 i5 i6 hok1 hok2
      clear hi
      have hkI : (k : Int) < (len : Int) := by omega
      have hb2 : Below wr.heap.size wr (wr.alloc (.cells #[.int .i64 o, .int .i64 f, .int .i64 d, .int .i64 s, .bool r, .int .i64 x, .int .u32 m] 53)) := (Below.refl _ _).alloc (Nat.le_refl _) _
      have hR2 := (hR.later hb).later hb2
      replace hb := hb.trans (hb2.mono hb.size)
      clear hb2
      go_wp2_with fail
      refine (may_any _ _ _ _ _ _ _ _ hR2).mono ?_
      rintro e w' ⟨rfl, hg3⟩
      replace hb := hb.trans (hg3.mono hb.size)
      clear i0 i1 i2 i3 i4 i5 i6 hg3 hR2
      rcases hM : mayB o f d s r x m with _ | _
      · have HC := Lib.hid (codeB_false (by rw [H1.out]; exact hkl) (by rw [HI.out]; exact hM))
        go_wp2
        go_ret
        exact ⟨by rw [HC.out]; rfl, hb⟩
      · have HM := Lib.hid hM
        go_wp2
        go_roundw
        case rel =>
          refine ⟨k + 1, by omega, by go_num, Lib.hid (fun j hj => ?_), hb⟩
          rcases Nat.lt_succ_iff_lt_or_eq.1 hj with hj | rfl
          · exact HF.out j hj
          · rw [HI.out]
            exact HM.out
        case measure => simp [intOf]; omega
    · have HC := Lib.hid (codeB_end (fun j hj => HF.out j (by rw [H1.out] at hj; omega)))
      rw [H1.out] at HC
      have hkI : ¬ (k : Int) < (len : Int) := by omega
      go_wp2
      go_ret
      exact ⟨by rw [HC.out]; simp; omega, hb⟩

end Go.Proofs.YtdgfklmbglfbfaaDoor
