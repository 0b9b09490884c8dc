/-
  What the third reference's Swap returns, as a contract over the translated program: its errors.
-/
import Derived.Test.YtlbhmopmfddhjaaDoorZ2
import Derived.Test.YtlbhmopmfddhjaaDoorW
namespace Go.Proofs.YtlbhmopmfddhjaaDoor
open Go.RowKit

set_option maxRecDepth 100000 in
set_option maxHeartbeats 4000000 in
theorem rSwap_err (a : Option Addr) (len cap : Nat) (fs : List Fun) (i g : Int) (b : Option Addr) (l cc : Nat) (c : List I) (w : World) (hR : RowsIn w) (h : FnsAt w a len cap fs) (hC : CodeAt w b l cc c) (hE : swapE fs i g c ≠ 0) :
    Calls Tryd.prog 19 #[.agg #[.slice a len cap], .int .i64 i, .agg #[.int .i64 g, .slice b l cc]] w (SwapPost fs i g c w) := by
  have HS := Lib.hid (Sw.start (a := a) (len := len) (cap := cap) (g := g) (b := b) (l := l) (cc := cc) hR)
  have HF := Lib.hid h
  have HC := Lib.hid hC
  have H1 := Lib.hid h.1
  have HE := Lib.hid hE
  have hm : len ≤ 9223372036854775807 := by have := h.2.1; have := h.2.2.1; unfold maxLen at this; omega
  clear h hC hE
  go_enter Tryd.func19, Tryd.ntmps19
  go_wp2_with fail
  refine (pmay_any a len cap fs _ (HF.out.below HS.out.1)).mono ?_
  rintro e w1 ⟨rfl, hg⟩
  replace HS := Lib.hid (HS.out.later hg)
  have c1 := HS.out.c1
  have c2 := HS.out.c2
  clear hg
  go_wp2_with fail
  refine (code_any g b l cc c _ (HC.out.below HS.out.1)).mono ?_
  rintro e w2 ⟨rfl, hg⟩
  replace HS := Lib.hid (HS.out.later hg)
  clear hg c2 c1
  rcases hM : mayP fs with _ | _
  · have HN := Lib.hid (swapE_may i g c hM)
    clear hM
    generalize codeB c = cb
    go_wp2_with (refine wpList_store_row rfl 24 _ _ rfl (w.heap.size + 1 + 1) _ rfl rfl 24 _ HS.out.result (by kernel_rfl) rfl (by simp [Value.oneCell']) ?_)
    refine bodyPost_ret (v := .tuple #[.agg #[.slice none 0 0], .int .i64 1]) ?_ rfl ?_
    · exact results_prog_two Tryd.results19 _ _ (w.heap.size + 1 + 1) 24 _ _ rfl rfl rfl (setRow_heap _ _ _ _ _ _ HS.out.result)
    · exact swap_err HN.out (by omega) (HS.out.end_ _)
  have HM := Lib.hid hM
  clear hM
  rcases hB : codeB c with _ | _
  · have HN := Lib.hid (swapE_code fs i g hB)
    clear hB
    go_wp2_with (refine wpList_store_row rfl 24 _ _ rfl (w.heap.size + 1 + 1) _ rfl rfl 24 _ HS.out.result (by kernel_rfl) rfl (by simp [Value.oneCell']) ?_)
    refine bodyPost_ret (v := .tuple #[.agg #[.slice none 0 0], .int .i64 1]) ?_ rfl ?_
    · exact results_prog_two Tryd.results19 _ _ (w.heap.size + 1 + 1) 24 _ _ rfl rfl rfl (setRow_heap _ _ _ _ _ _ HS.out.result)
    · exact swap_err HN.out (by omega) (HS.out.end_ _)
  have HB := Lib.hid hB
  have c0 := HS.out.c0
  have c1 := HS.out.c1
  clear hB
  by_cases hi0 : i < 0
  · have HN := Lib.hid (swapE_none (fs := fs) (i := i) g HM.out HB.out (by omega))
    go_wp2_with (refine wpList_store_row rfl 24 _ _ rfl (w.heap.size + 1 + 1) _ rfl rfl 24 _ HS.out.result (by kernel_rfl) rfl (by simp [Value.oneCell']) ?_)
    refine bodyPost_ret (v := .tuple #[.agg #[.slice none 0 0], .int .i64 3]) ?_ rfl ?_
    · exact results_prog_two Tryd.results19 _ _ (w.heap.size + 1 + 1) 24 _ _ rfl rfl rfl (setRow_heap _ _ _ _ _ _ HS.out.result)
    · exact swap_err HN.out (by omega) (HS.out.end_ _)
  obtain ⟨k, rfl⟩ := Int.eq_ofNat_of_zero_le (show 0 ≤ i by omega)
  clear hi0
  by_cases hkl : k < len
  · have hkI : (k : Int) < (len : Int) := by omega
    obtain ⟨y, rfl, hy⟩ := HF.out.2.2.2.resolve_left (by omega)
    have hI := FnHere.below (hy k hkl) HS.out.1
    rcases hi : fs.getD k zeroF with ⟨args, code⟩
    rw [hi] at hI
    obtain ⟨i0, _⟩ := hI
    simp only at i0
    have hne : args ≠ g := fun e => HE.out (swapE_ok HM.out HB.out (by rw [H1.out]; exact hkl) (by rw [hi, e]))
    have HN := Lib.hid (swapE_type HM.out HB.out (by rw [H1.out]; exact hkl) hi hne)
    have hne' : (args != g) = true := by simpa using hne
    have hyb := lt_of_cell i0
    clear hi hne hy
    go_wp2_with fail
    go_quiet (fail)
    have hres : (w2.drewN nq).heap[w.heap.size + 1 + 1]? = some (.cells #[.slice none 0 0] 24 (0, 0)) := HS.out.result
    have HRes := Lib.hid hres
    have hbe := belowDrewN HS.out.1 nq
    clear hres
    go_wp2_with (refine wpList_store_row rfl 24 _ _ rfl (w.heap.size + 1 + 1) _ rfl rfl 24 _ HRes.out (by kernel_rfl) rfl (by simp [Value.oneCell']) ?_)
    refine bodyPost_ret (v := .tuple #[.agg #[.slice none 0 0], .int .i64 9]) ?_ rfl ?_
    · exact results_prog_two Tryd.results19 _ _ (w.heap.size + 1 + 1) 24 _ _ rfl rfl rfl (setRow_heap _ _ _ _ _ _ HRes.out)
    · exact swap_err HN.out (by omega) (below_setRow hbe (by omega) _)
  · have HN := Lib.hid (swapE_none (fs := fs) (i := k) g HM.out HB.out (by rw [H1.out]; omega))
    have hkI : ¬ (k : Int) < (len : Int) := by omega
    have hkJ : (len : Int) ≤ (k : Int) := by omega
    go_wp2_with (refine wpList_store_row rfl 24 _ _ rfl (w.heap.size + 1 + 1) _ rfl rfl 24 _ HS.out.result (by kernel_rfl) rfl (by simp [Value.oneCell']) ?_)
    refine bodyPost_ret (v := .tuple #[.agg #[.slice none 0 0], .int .i64 3]) ?_ rfl ?_
    · exact results_prog_two Tryd.results19 _ _ (w.heap.size + 1 + 1) 24 _ _ rfl rfl rfl (setRow_heap _ _ _ _ _ _ HS.out.result)
    · exact swap_err HN.out (by omega) (HS.out.end_ _)
end Go.Proofs.YtlbhmopmfddhjaaDoor
