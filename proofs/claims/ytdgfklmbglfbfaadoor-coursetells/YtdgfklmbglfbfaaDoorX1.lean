/-
  What the third reference's Few returns, as a contract over the translated program.
-/
import Derived.Test.YtdgfklmbglfbfaaDoorM
namespace Go.Proofs.YtdgfklmbglfbfaaDoor
open Go.RowKit

set_option maxHeartbeats 2000000 in
theorem few_any (a : Option Addr) (len cap : Nat) (fs : List Fun) (w : World) (h : FnsAt w a len cap fs) :
    Calls Tryd.prog 10 #[.agg #[.slice a len cap]] w fun e w' => e = .returned (.bool (fewP fs)) ∧ Below w.heap.size w w' := by
  obtain ⟨h1, h2, h3, h5⟩ := h
  have hm : len ≤ 9223372036854775807 := by unfold maxLen at h3; omega
  rcases h5 with h5 | ⟨y, rfl, h6⟩
  · subst h5
    have hc : fs = [] := List.length_eq_zero_iff.1 h1
    subst hc
    clear h1 h2
    go_enter Tryd.func10, Tryd.ntmps10
    go_wp2
    go_loopw [3, 4] (fun o i wr => o = .bool true ∧ i = .int .i64 0 ∧ Below w.heap.size w wr ∧ wr.cell? ⟨w.heap.size, 0, none⟩ = some (.slice a 0 cap)) (fun _ _ _ => 0)
    case atStart => exact ⟨rfl, rfl, (Below.refl _ _).alloc (Nat.le_refl _) _, by simp⟩
    case round =>
      obtain ⟨rfl, rfl, hb, c1⟩ := hrel
      go_wp2
      go_ret
      exact ⟨by simp [fewP], hb⟩
  · have H6 := Lib.hid h6
    have H1 := Lib.hid h1
    clear h6 h1
    go_enter Tryd.func10, Tryd.ntmps10
    go_wp2
    go_loopw [3, 4] (fun o i wr => ∃ (k : Nat) (ok : Bool), k ≤ len ∧ o = .bool ok ∧ i = .int .i64 k ∧ Hid (ok = true → len ≤ 12 ∧ ∀ j, j < k → (fs.getD j zeroF).2.length ≤ 80) ∧ Hid (ok = false → fewP fs = false) ∧ Below w.heap.size w wr ∧ w.heap.size < wr.heap.size ∧
      wr.cell? ⟨w.heap.size, 0, none⟩ = some (.slice (some y) len cap)) (fun _ i _ => len - (intOf i).toNat)
    case atStart =>
      refine ⟨0, decide (len ≤ 12), by omega, by simp; omega, rfl, Lib.hid (fun h => ⟨by simpa using h, fun j hj => absurd hj (by omega)⟩), Lib.hid (fun h => ?_), (Below.refl _ _).alloc (Nat.le_refl _) _, by simp, by simp⟩
      simp at h
      simp [fewP]
      intro h'
      rw [H1.out] at h'
      omega
    case round =>
      obtain ⟨k, ok, hk, rfl, rfl, HT, HF, hb, hlt, c0⟩ := hrel
      by_cases hkl : k < len
      · have hkI : (k : Int) < (len : Int) := by omega
        cases ok
        · have HR := Lib.hid (HF.out rfl)
          go_wp2
          go_ret
          exact ⟨by rw [HR.out]; rfl, hb⟩
        · have hI := FnHere.below (H6.out k hkl) hb
          rcases hi : fs.getD k zeroF with ⟨args, code⟩
          rw [hi] at hI
          have HI := Lib.hid hi
          obtain ⟨i0, b, l, cc, i1, hCode⟩ := hI
          simp only at i0 i1 hCode
          have hl : code.length = l := hCode.1
          have hlm : l ≤ 9223372036854775807 := by
            have := hCode.2.1
            have := hCode.2.2.1
            unfold maxLen at this
            omega
          have HL := Lib.hid hl
          clear hi hl hCode
          go_wp2
          go_roundw
          case rel =>
            refine ⟨k + 1, decide (l ≤ 80), by omega, by simp; omega, by go_num, Lib.hid (fun h => ⟨(HT.out rfl).1, fun j hj => ?_⟩), Lib.hid (fun h => ?_), hb, hlt, c0⟩
            · rcases Nat.lt_succ_iff_lt_or_eq.1 hj with hj | rfl
              · exact (HT.out rfl).2 j hj
              · rw [HI.out]
                simp at h
                simp only [HL.out]
                exact h
            · simp at h
              refine fewP_false (k := k) (by rw [H1.out]; exact hkl) ?_
              rw [HI.out]
              simp only [HL.out]
              omega
          case measure => simp [intOf]; omega
      · have hkI : ¬ (k : Int) < (len : Int) := by omega
        have HR : Hid (fewP fs = ok) := Lib.hid (by
          cases ok
          · exact HF.out rfl
          · exact fewP_end (by rw [H1.out]; exact (HT.out rfl).1) (fun j hj => (HT.out rfl).2 j (by rw [H1.out] at hj; omega)))
        go_wp2
        go_ret
        exact ⟨by rw [HR.out]; rfl, hb⟩
end Go.Proofs.YtdgfklmbglfbfaaDoor
