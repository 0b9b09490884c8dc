/-
  What package prog's Swap returns, as a contract over the translated program: its errors.
-/
import Derived.Test.YtlbhmopmfddhjaaDoorY8
namespace Go.Proofs.YtlbhmopmfddhjaaDoor
open Go.RowKit

/- which error Swap has: 0 where it has none -/
def swapE (fs : List Fun) (i : Int) (g : Int) (c : List I) : Int :=
  if mayP fs = true ∧ codeB c = true then (if 0 ≤ i ∧ i < (fs.length : Int) then (if (fs.getD i.toNat zeroF).1 = g then 0 else 9) else 3) else 1
def SwapPost (fs : List Fun) (i g : Int) (c : List I) (w : World) (e : Ending) (w' : World) : Prop :=
  Below w.heap.size w w' ∧
  ((swapE fs i g c ≠ 0 ∧ e = .returned (.tuple #[.agg #[.slice none 0 0], .int .i64 (swapE fs i g c)])) ∨
   (swapE fs i g c = 0 ∧ ∃ b cp, e = .returned (.tuple #[.agg #[.slice b fs.length cp], .int .i64 0]) ∧ FnsAt w' b fs.length cp (fs.set i.toNat (g, c))))
theorem swap_err {fs : List Fun} {i g : Int} {c : List I} {w w' : World} {E : Int} (hE : swapE fs i g c = E) (h0 : E ≠ 0) (hb : Below w.heap.size w w') : SwapPost fs i g c w (.returned (.tuple #[.agg #[.slice none 0 0], .int .i64 E])) w' := by
  subst hE
  exact ⟨hb, .inl ⟨h0, rfl⟩⟩
theorem swapE_may {fs : List Fun} (i g : Int) (c : List I) (h : mayP fs = false) : swapE fs i g c = 1 := by simp [swapE, h]
theorem swapE_code (fs : List Fun) (i g : Int) {c : List I} (h : codeB c = false) : swapE fs i g c = 1 := by simp [swapE, h]
theorem swapE_none {fs : List Fun} {i : Int} (g : Int) {c : List I} (h : mayP fs = true) (hc : codeB c = true) (hi : ¬ (0 ≤ i ∧ i < (fs.length : Int))) : swapE fs i g c = 3 := by simp [swapE, h, hc, hi]
theorem swapE_type {fs : List Fun} {k : Nat} {g a : Int} {c d : List I} (h : mayP fs = true) (hc : codeB c = true) (hi : k < fs.length) (hf : fs.getD k zeroF = (a, d)) (hg : a ≠ g) : swapE fs k g c = 9 := by
  have e1 : (0 : Int) ≤ (k : Int) ∧ (k : Int) < (fs.length : Int) := by omega
  have e2 : ¬ (fs.getD ((k : Int)).toNat zeroF).1 = g := by rw [Int.toNat_natCast, hf]; exact hg
  unfold swapE
  rw [if_pos ⟨h, hc⟩, if_pos e1, if_neg e2]
theorem swapE_ok {fs : List Fun} {k : Nat} {g : Int} {c d : List I} (h : mayP fs = true) (hc : codeB c = true) (hi : k < fs.length) (hf : fs.getD k zeroF = (g, d)) : swapE fs k g c = 0 := by
  have e1 : (0 : Int) ≤ (k : Int) ∧ (k : Int) < (fs.length : Int) := by omega
  have e2 : (fs.getD ((k : Int)).toNat zeroF).1 = g := by rw [Int.toNat_natCast, hf]
  unfold swapE
  rw [if_pos ⟨h, hc⟩, if_pos e1, if_pos e2]

/- what holds while Swap runs: its three variables, all that was there before -/
def Sw (w W : World) (a : Option Addr) (len cap : Nat) (g : Int) (b : Option Addr) (l cc : Nat) : Prop :=
  Below w.heap.size w W ∧ RowsIn w ∧ Box W w.heap.size 24 #[.slice a len cap] ∧ Box W (w.heap.size + 1) 28 #[.int .i64 g, .slice b l cc] ∧ Box W (w.heap.size + 1 + 1) 24 #[.slice none 0 0]
section
variable {w W W' : World} {a b : Option Addr} {len cap l cc : Nat} {g : Int}
theorem Sw.start (hR : RowsIn w) : Sw w (((w.alloc (.cells #[.slice a len cap] 24)).alloc (.cells #[.int .i64 g, .slice b l cc] 28)).alloc (.cells #[.slice none 0 0] 24)) a len cap g b l cc := by
  have h1 := Box.new (w.alloc (.cells #[.slice a len cap] 24)) 28 #[.int .i64 g, .slice b l cc]
  rw [show (w.alloc (.cells #[.slice a len cap] 24)).heap.size = w.heap.size + 1 by simp] at h1
  have h2 := Box.new ((w.alloc (.cells #[.slice a len cap] 24)).alloc (.cells #[.int .i64 g, .slice b l cc] 28)) 24 #[.slice none 0 0]
  rw [show ((w.alloc (.cells #[.slice a len cap] 24)).alloc (.cells #[.int .i64 g, .slice b l cc] 28)).heap.size = w.heap.size + 1 + 1 by simp] at h2
  exact ⟨(((Below.refl _ _).alloc (Nat.le_refl _) _).alloc (by simp) _).alloc (by simp; omega) _, hR, ((Box.new w 24 _).alloc _).alloc _, h1.alloc _, h2⟩
theorem Sw.later (h : Sw w W a len cap g b l cc) (hb : Below W.heap.size W W') : Sw w W' a len cap g b l cc :=
  ⟨h.1.trans (hb.mono h.1.size), h.2.1, h.2.2.1.below hb h.2.2.1.lt, h.2.2.2.1.below hb h.2.2.2.1.lt, h.2.2.2.2.below hb h.2.2.2.2.lt⟩
theorem Sw.rows (h : Sw w W a len cap g b l cc) : RowsIn W := h.2.1.later h.1
theorem Sw.c0 (h : Sw w W a len cap g b l cc) : W.cell? ⟨w.heap.size, 0, none⟩ = some (.slice a len cap) := h.2.2.1.cell rfl
theorem Sw.c1 (h : Sw w W a len cap g b l cc) : W.cell? ⟨w.heap.size + 1, 0, none⟩ = some (.int .i64 g) := h.2.2.2.1.cell rfl
theorem Sw.c2 (h : Sw w W a len cap g b l cc) : W.cell? ⟨w.heap.size + 1, 1, none⟩ = some (.slice b l cc) := h.2.2.2.1.cell rfl
theorem Sw.result (h : Sw w W a len cap g b l cc) : W.heap[w.heap.size + 1 + 1]? = some (.cells #[.slice none 0 0] 24 (0, 0)) := h.2.2.2.2
theorem Sw.end_ (h : Sw w W a len cap g b l cc) (cs : Array Value) : Below w.heap.size w (W.setRow (w.heap.size + 1 + 1) cs) := below_setRow h.1 (by omega) cs
end

set_option maxRecDepth 100000 in
set_option maxHeartbeats 4000000 in
theorem prSwap_err (a : Option Addr) (len cap : Nat) (fs : List Fun) (i g : Int) (b : Option Addr) (l cc : Nat) (c : List I) (w : World) (hR : RowsIn w) (h : FnsAt w a len cap fs) (hC : CodeAt w b l cc c) (hE : swapE fs i g c ≠ 0) :
    Calls Tryd.prog 18 #[.agg #[.slice a len cap], .int .i64 i, .agg #[.int .i64 g, .slice b l cc]] w (SwapPost fs i g c w) := by
  have HS := Lib.hid (Sw.start (a := a) (len := len) (cap := cap) (g := g) (b := b) (l := l) (cc := cc) hR)
  have HF := Lib.hid h
  have HC := Lib.hid hC
  have H1 := Lib.hid h.1
  have HE := Lib.hid hE
  have hm : len ≤ 9223372036854775807 := by have := h.2.1; have := h.2.2.1; unfold maxLen at this; omega
  clear h hC hE
  go_enter Tryd.func18, Tryd.ntmps18
  go_wp2_with fail
  refine (prMay_any a len cap fs _ HS.out.rows (HF.out.below HS.out.1)).mono ?_
  rintro e w1 ⟨rfl, hg⟩
  replace HS := Lib.hid (HS.out.later hg)
  clear hg
  rcases hM : mayP fs with _ | _
  · have HN := Lib.hid (swapE_may i g c hM)
    clear hM
    go_wp2_with (refine wpList_store_row rfl 24 _ _ rfl (w.heap.size + 1 + 1) _ rfl rfl 24 _ HS.out.result (by kernel_rfl) rfl (by simp [Value.oneCell']) ?_)
    refine bodyPost_ret (v := .tuple #[.agg #[.slice none 0 0], .int .i64 1]) ?_ rfl ?_
    · exact results_prog_two Tryd.results18 _ _ (w.heap.size + 1 + 1) 24 _ _ rfl rfl rfl (setRow_heap _ _ _ _ _ _ HS.out.result)
    · exact swap_err HN.out (by omega) (HS.out.end_ _)
  have HM := Lib.hid hM
  have c2 := HS.out.c2
  clear hM
  go_wp2_with fail
  refine (mayCode_any b l cc c _ HS.out.rows (HC.out.below HS.out.1)).mono ?_
  rintro e w2 ⟨rfl, hg⟩
  replace HS := Lib.hid (HS.out.later hg)
  clear hg c2
  rcases hB : codeB c with _ | _
  · have HN := Lib.hid (swapE_code fs i g hB)
    clear hB
    go_wp2_with (refine wpList_store_row rfl 24 _ _ rfl (w.heap.size + 1 + 1) _ rfl rfl 24 _ HS.out.result (by kernel_rfl) rfl (by simp [Value.oneCell']) ?_)
    refine bodyPost_ret (v := .tuple #[.agg #[.slice none 0 0], .int .i64 1]) ?_ rfl ?_
    · exact results_prog_two Tryd.results18 _ _ (w.heap.size + 1 + 1) 24 _ _ rfl rfl rfl (setRow_heap _ _ _ _ _ _ HS.out.result)
    · exact swap_err HN.out (by omega) (HS.out.end_ _)
  have HB := Lib.hid hB
  have c0 := HS.out.c0
  have c1 := HS.out.c1
  clear hB
  by_cases hi0 : i < 0
  · have HN := Lib.hid (swapE_none (fs := fs) (i := i) g HM.out HB.out (by omega))
    go_wp2_with (refine wpList_store_row rfl 24 _ _ rfl (w.heap.size + 1 + 1) _ rfl rfl 24 _ HS.out.result (by kernel_rfl) rfl (by simp [Value.oneCell']) ?_)
    refine bodyPost_ret (v := .tuple #[.agg #[.slice none 0 0], .int .i64 3]) ?_ rfl ?_
    · exact results_prog_two Tryd.results18 _ _ (w.heap.size + 1 + 1) 24 _ _ rfl rfl rfl (setRow_heap _ _ _ _ _ _ HS.out.result)
    · exact swap_err HN.out (by omega) (HS.out.end_ _)
  obtain ⟨k, rfl⟩ := Int.eq_ofNat_of_zero_le (show 0 ≤ i by omega)
  clear hi0
  by_cases hkl : k < len
  · have hkI : (k : Int) < (len : Int) := by omega
    obtain ⟨y, rfl, hy⟩ := HF.out.2.2.2.resolve_left (by omega)
    have hI := FnHere.below (hy k hkl) HS.out.1
    rcases hi : fs.getD k zeroF with ⟨args, code⟩
    rw [hi] at hI
    obtain ⟨i0, _⟩ := hI
    simp only at i0
    have hne : args ≠ g := fun e => HE.out (swapE_ok HM.out HB.out (by rw [H1.out]; exact hkl) (by rw [hi, e]))
    have HN := Lib.hid (swapE_type HM.out HB.out (by rw [H1.out]; exact hkl) hi hne)
    have hne' : (g != args) = true := by simpa using fun e => hne e.symm
    have hyb := lt_of_cell i0
    clear hi hne hy
    go_wp2_with fail
    go_quiet (fail)
    have hres : (w2.drewN nq).heap[w.heap.size + 1 + 1]? = some (.cells #[.slice none 0 0] 24 (0, 0)) := HS.out.result
    have HRes := Lib.hid hres
    have hbe := belowDrewN HS.out.1 nq
    clear hres
    go_wp2_with (refine wpList_store_row rfl 24 _ _ rfl (w.heap.size + 1 + 1) _ rfl rfl 24 _ HRes.out (by kernel_rfl) rfl (by simp [Value.oneCell']) ?_)
    refine bodyPost_ret (v := .tuple #[.agg #[.slice none 0 0], .int .i64 9]) ?_ rfl ?_
    · exact results_prog_two Tryd.results18 _ _ (w.heap.size + 1 + 1) 24 _ _ rfl rfl rfl (setRow_heap _ _ _ _ _ _ HRes.out)
    · exact swap_err HN.out (by omega) (below_setRow hbe (by omega) _)
  · have HN := Lib.hid (swapE_none (fs := fs) (i := k) g HM.out HB.out (by rw [H1.out]; omega))
    have hkI : ¬ (k : Int) < (len : Int) := by omega
    have hkJ : (len : Int) ≤ (k : Int) := by omega
    go_wp2_with (refine wpList_store_row rfl 24 _ _ rfl (w.heap.size + 1 + 1) _ rfl rfl 24 _ HS.out.result (by kernel_rfl) rfl (by simp [Value.oneCell']) ?_)
    refine bodyPost_ret (v := .tuple #[.agg #[.slice none 0 0], .int .i64 3]) ?_ rfl ?_
    · exact results_prog_two Tryd.results18 _ _ (w.heap.size + 1 + 1) 24 _ _ rfl rfl rfl (setRow_heap _ _ _ _ _ _ HS.out.result)
    · exact swap_err HN.out (by omega) (HS.out.end_ _)
end Go.Proofs.YtlbhmopmfddhjaaDoor
