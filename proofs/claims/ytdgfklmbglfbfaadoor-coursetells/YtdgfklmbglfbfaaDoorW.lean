/-
  What the third reference's Code, May, Few and Same return, as contracts over the translated program.
-/
import Derived.Test.YtdgfklmbglfbfaaDoorM
import Derived.Test.YtdgfklmbglfbfaaDoorPlain4
import Derived.Test.YtdgfklmbglfbfaaDoorR
namespace Go.Proofs.YtdgfklmbglfbfaaDoor
open Go.RowKit
set_option maxHeartbeats 1000000 in
theorem code_any (args : Int) (a : Option Addr) (len cap : Nat) (c : List I) (w : World) (h : CodeAt w a len cap c) :
    Calls Tryd.prog 37 #[.agg #[.int .i64 args, .slice a len cap]] w fun e w' => e = .returned (.bool (codeB c)) ∧ Below w.heap.size w w' := by
  obtain ⟨h1, h2, h3, h4, h5⟩ := h
  have hm : len ≤ 9223372036854775807 := by unfold maxLen at h3; omega
  rcases h5 with h5 | ⟨y, rfl, h6⟩
  · subst h5
    have hc : c = [] := List.length_eq_zero_iff.1 h1
    subst hc
    clear h1 h2 h4
    go_enter Tryd.func37, Tryd.ntmps37
    go_wp2
    go_loopw [3] (fun i wr => i = .int .i64 0 ∧ Below w.heap.size w wr ∧ wr.cell? ⟨w.heap.size, 1, none⟩ = some (.slice a 0 cap)) (fun _ _ => 0)
    case atStart => exact ⟨rfl, (Below.refl _ _).alloc (Nat.le_refl _) _, by simp⟩
    case round =>
      obtain ⟨rfl, hb, c1⟩ := hrel
      go_wp2
      go_ret
      exact ⟨by simp [codeB], hb⟩
  · have H6 := Lib.hid h6
    have H4 := Lib.hid h4
    have H1 := Lib.hid h1
    clear h6 h4 h1
    go_enter Tryd.func37, Tryd.ntmps37
    go_wp2
    go_loopw [3] (fun i wr => ∃ k : Nat, k ≤ len ∧ i = .int .i64 k ∧ Hid (∀ j, j < k → mayI (c.getD j zeroI) = true) ∧ Below w.heap.size w wr ∧ w.heap.size < wr.heap.size ∧
      wr.cell? ⟨w.heap.size, 0, none⟩ = some (.int .i64 args) ∧ wr.cell? ⟨w.heap.size, 1, none⟩ = some (.slice (some y) len cap)) (fun i _ => len - (intOf i).toNat)
    case atStart => exact ⟨0, by omega, rfl, Lib.hid (fun j hj => absurd hj (by omega)), (Below.refl _ _).alloc (Nat.le_refl _) _, by simp, by simp, by simp⟩
    case round =>
      obtain ⟨k, hk, rfl, HF, hb, hlt, c0, c1⟩ := hrel
      by_cases hkl : k < len
      · have hI := InstHere.below (H6.out k hkl) hb
        have hok := H4.out _ (getD_mem c k zeroI (by rw [H1.out]; exact hkl))
        rcases hi : c.getD k zeroI with ⟨o, f, d, s, r, x, m⟩
        rw [hi] at hI hok
        have HI := Lib.hid hi
        obtain ⟨i0, i1, i2, i3, i4, i5, i6⟩ := hI
        obtain ⟨hok1, hok2⟩ := hok
        simp only at i0 i1 i2 i3 i4 i5 i6 hok1 hok2
        clear hi
        have hkI : (k : Int) < (len : Int) := by omega
        go_wp2_with fail
        refine (ref_may _ _ _ _ _ _ _ _ hok1 hok2).mono ?_
        rintro e w' ⟨rfl, hg3⟩
        rcases hM : mayB o f d s r x m with _ | _
        · have HC := Lib.hid (codeB_false (by rw [H1.out]; exact hkl) (by rw [HI.out]; exact hM))
          clear i0 i1 i2 i3 i4 i5 i6
          go_wp2
          go_ret
          exact ⟨by rw [HC.out]; rfl, hb.trans (hg3.mono hb.size)⟩
        · have HM := Lib.hid hM
          have k0 := (hg3.cell (p := ⟨w.heap.size, 0, none⟩) hlt).trans c0
          have k1 := (hg3.cell (p := ⟨w.heap.size, 1, none⟩) hlt).trans c1
          clear i0 i1 i2 i3 i4 i5 i6 c0 c1
          go_wp2
          go_roundw
          case rel =>
            refine ⟨k + 1, by omega, by go_num, Lib.hid (fun j hj => ?_), hb.trans (hg3.mono hb.size), Nat.lt_of_lt_of_le hlt hg3.size, k0, k1⟩
            rcases Nat.lt_succ_iff_lt_or_eq.1 hj with hj | rfl
            · exact HF.out j hj
            · rw [HI.out]
              exact HM.out
          case measure => simp [intOf]; omega
      · have HC := Lib.hid (codeB_end (fun j hj => HF.out j (by rw [H1.out] at hj; omega)))
        rw [H1.out] at HC
        by_cases h1 : 1 ≤ len
        · go_wp2
          go_ret
          exact ⟨by rw [HC.out]; simp [h1]; omega, hb⟩
        · go_wp2
          go_ret
          exact ⟨by rw [HC.out]; simp [h1], hb⟩

set_option maxHeartbeats 2000000 in
theorem pmay_any (a : Option Addr) (len cap : Nat) (fs : List Fun) (w : World) (h : FnsAt w a len cap fs) :
    Calls Tryd.prog 34 #[.agg #[.slice a len cap]] w fun e w' => e = .returned (.bool (mayP fs)) ∧ Below w.heap.size w w' := by
  obtain ⟨h1, h2, h3, h5⟩ := h
  have hm : len ≤ 9223372036854775807 := by unfold maxLen at h3; omega
  rcases h5 with h5 | ⟨y, rfl, h6⟩
  · subst h5
    have hc : fs = [] := List.length_eq_zero_iff.1 h1
    subst hc
    clear h1 h2
    go_enter Tryd.func34, Tryd.ntmps34
    go_wp2
    go_loopw [3] (fun i wr => i = .int .i64 0 ∧ Below w.heap.size w wr ∧ wr.cell? ⟨w.heap.size, 0, none⟩ = some (.slice a 0 cap)) (fun _ _ => 0)
    case atStart => exact ⟨rfl, (Below.refl _ _).alloc (Nat.le_refl _) _, by simp⟩
    case round =>
      obtain ⟨rfl, hb, c1⟩ := hrel
      go_wp2
      go_ret
      exact ⟨by simp [mayP], hb⟩
  · have H6 := Lib.hid h6
    have H1 := Lib.hid h1
    clear h6 h1
    go_enter Tryd.func34, Tryd.ntmps34
    go_wp2
    go_loopw [3] (fun i wr => ∃ k : Nat, k ≤ len ∧ i = .int .i64 k ∧ Hid (∀ j, j < k → fnB j (fs.getD j zeroF) = true) ∧ Below w.heap.size w wr ∧ w.heap.size < wr.heap.size ∧
      wr.cell? ⟨w.heap.size, 0, none⟩ = some (.slice (some y) len cap)) (fun i _ => len - (intOf i).toNat)
    case atStart => exact ⟨0, by omega, rfl, Lib.hid (fun j hj => absurd hj (by omega)), (Below.refl _ _).alloc (Nat.le_refl _) _, by simp, by simp⟩
    case round =>
      obtain ⟨k, hk, rfl, HF, hb, hlt, c0⟩ := hrel
      by_cases hkl : k < len
      · have hI := FnHere.below (H6.out k hkl) hb
        rcases hi : fs.getD k zeroF with ⟨args, code⟩
        rw [hi] at hI
        have HI := Lib.hid hi
        obtain ⟨i0, b, l, cc, i1, hCode⟩ := hI
        simp only at i0 i1 hCode
        clear hi
        have hkI : (k : Int) < (len : Int) := by omega
        go_wp2_with fail
        refine (code_any args b l cc code _ hCode).mono ?_
        rintro e w' ⟨rfl, hg3⟩
        have k0 := (hg3.cell (p := ⟨w.heap.size, 0, none⟩) hlt).trans c0
        have j0 := (hg3.cell (lt_of_cell i0)).trans i0
        clear i0 i1 c0
        have hlt2 := Nat.lt_of_lt_of_le hlt hg3.size
        replace hb := hb.trans (hg3.mono hb.size)
        clear hg3 hCode
        have hsplit : codeB code = false ∨ (codeB code = true ∧ decide (args < 0) = true) ∨ (codeB code = true ∧ decide (args < 0) = false ∧ decide (4 < args) = true) ∨
            (codeB code = true ∧ decide (args < 0) = false ∧ decide (4 < args) = false ∧ ((k : Int) == 0) = true ∧ (args != 0) = true) ∨
            (codeB code = true ∧ decide (args < 0) = false ∧ decide (4 < args) = false ∧ ((k : Int) == 0) = true ∧ (args != 0) = false) ∨
            (codeB code = true ∧ decide (args < 0) = false ∧ decide (4 < args) = false ∧ ((k : Int) == 0) = false) := by
          cases codeB code <;> cases decide (args < 0) <;> cases decide (4 < args) <;> cases ((k : Int) == 0) <;> cases (args != 0) <;> simp
        rcases hsplit with g0 | ⟨g0, g1⟩ | ⟨g0, g1, g2⟩ | ⟨g0, g1, g2, g3, g4⟩ | ⟨g0, g1, g2, g3, g4⟩ | ⟨g0, g1, g2, g3⟩
        · have hM : fnB k (args, code) = false := by simp [fnB, g0]
          have HC := Lib.hid (mayP_false (by rw [H1.out]; exact hkl) (by rw [HI.out]; exact hM))
          clear hM
          go_wp2
          go_ret
          exact ⟨by rw [HC.out]; rfl, hb⟩
        · have hM : fnB k (args, code) = false := by
            simp at g1
            simp [fnB]
            omega
          have HC := Lib.hid (mayP_false (by rw [H1.out]; exact hkl) (by rw [HI.out]; exact hM))
          clear hM
          go_wp2
          go_ret
          exact ⟨by rw [HC.out]; rfl, hb⟩
        · have hM : fnB k (args, code) = false := by
            simp at g2
            simp [fnB]
            omega
          have HC := Lib.hid (mayP_false (by rw [H1.out]; exact hkl) (by rw [HI.out]; exact hM))
          clear hM
          go_wp2
          go_ret
          exact ⟨by rw [HC.out]; rfl, hb⟩
        · have hM : fnB k (args, code) = false := by
            simp at g3 g4
            simp [fnB, g3, g4]
          have HC := Lib.hid (mayP_false (by rw [H1.out]; exact hkl) (by rw [HI.out]; exact hM))
          clear hM
          go_wp2
          go_ret
          exact ⟨by rw [HC.out]; rfl, hb⟩
        · have HM : Hid (fnB k (args, code) = true) := Lib.hid (by
            simp at g1 g2 g3 g4
            simp [fnB, g0, g4])
          go_wp2
          go_roundw
          case rel =>
            refine ⟨k + 1, by omega, by go_num, Lib.hid (fun j hj => ?_), hb, hlt2, k0⟩
            rcases Nat.lt_succ_iff_lt_or_eq.1 hj with hj | rfl
            · exact HF.out j hj
            · rw [HI.out]
              exact HM.out
          case measure => simp [intOf]; omega
        · have HM : Hid (fnB k (args, code) = true) := Lib.hid (by
            simp at g1 g2 g3
            simp [fnB, g0, g1, g2, g3])
          go_wp2
          go_roundw
          case rel =>
            refine ⟨k + 1, by omega, by go_num, Lib.hid (fun j hj => ?_), hb, hlt2, k0⟩
            rcases Nat.lt_succ_iff_lt_or_eq.1 hj with hj | rfl
            · exact HF.out j hj
            · rw [HI.out]
              exact HM.out
          case measure => simp [intOf]; omega
      · have HC := Lib.hid (mayP_end (fun j hj => HF.out j (by rw [H1.out] at hj; omega)))
        rw [H1.out] at HC
        by_cases h1 : 1 ≤ len
        · go_wp2
          go_ret
          exact ⟨by rw [HC.out]; simp [h1]; omega, hb⟩
        · go_wp2
          go_ret
          exact ⟨by rw [HC.out]; simp [h1], hb⟩
end Go.Proofs.YtdgfklmbglfbfaaDoor
