/-
  Package prog's Swap whatever it is handed; parts of a slice of functions.
-/
import Derived.Test.YtlbhmopmfddhjaaDoorZ4
namespace Go.Proofs.YtlbhmopmfddhjaaDoor
open Go.RowKit

theorem swapE_zero {fs : List Fun} {i g : Int} {c : List I} (h : swapE fs i g c = 0) : mayP fs = true ∧ codeB c = true ∧ ∃ k : Nat, i = (k : Int) ∧ k < fs.length ∧ ∃ d, fs.getD k zeroF = (g, d) := by
  unfold swapE at h
  split at h
  · rename_i h1
    split at h
    · rename_i h2
      split at h
      · rename_i h3
        obtain ⟨k, rfl⟩ := Int.eq_ofNat_of_zero_le h2.1
        rw [Int.toNat_natCast] at h3
        refine ⟨h1.1, h1.2, k, rfl, by omega, (fs.getD k zeroF).2, ?_⟩
        rw [← h3]
      · omega
    · omega
  · omega
theorem prSwap_any (a : Option Addr) (len cap : Nat) (fs : List Fun) (i g : Int) (b : Option Addr) (l cc : Nat) (c : List I) (w : World) (hR : RowsIn w) (h : FnsAt w a len cap fs) (hC : CodeAt w b l cc c) :
    Calls Tryd.prog 18 #[.agg #[.slice a len cap], .int .i64 i, .agg #[.int .i64 g, .slice b l cc]] w (SwapPost fs i g c w) := by
  by_cases hE : swapE fs i g c = 0
  · obtain ⟨hM, hB, k, rfl, hk, d, hg⟩ := swapE_zero hE
    obtain ⟨y, rfl, _⟩ := h.2.2.2.resolve_left (by have := h.1; omega)
    exact prSwap_ok y len cap fs k g b l cc c d w hR h hC hM hB (by rw [← h.1]; exact hk) hg
  · exact prSwap_err a len cap fs i g b l cc c w hR h hC hE
theorem swap_may {fs : List Fun} {k : Nat} {g : Int} {c d : List I} (hM : mayP fs = true) (hB : codeB c = true) (hg : fs.getD k zeroF = (g, d)) (hk : k < fs.length) : mayP (fs.set k (g, c)) = true := by
  have h1 : ∀ j, j < (fs.set k (g, c)).length → fnB j ((fs.set k (g, c)).getD j zeroF) = true := by
    intro j hj
    rw [List.length_set] at hj
    have h2 := mayP_fn hM j hj
    by_cases hkj : k = j
    · subst hkj
      rw [set_getD_self fs k _ hk]
      rw [hg] at h2
      simp only [fnB, Bool.and_eq_true] at h2 ⊢
      exact ⟨hB, h2.2⟩
    · rw [set_getD_other fs k j _ hkj]
      exact h2
  rw [mayP_end h1, List.length_set]
  have := mayP_len hM
  simp
  omega
theorem set_same {fs : List Fun} {k : Nat} {g : Fun} (hk : k < fs.length) (hg : fs.getD k zeroF = g) : fs.set k g = fs := by
  have : fs[k] = g := by
    rw [← hg, List.getD_eq_getElem?_getD, List.getElem?_eq_getElem hk]
    rfl
  rw [← this]
  exact List.set_getElem_self hk
theorem set_set_back {fs : List Fun} {k : Nat} {f g : Fun} (hk : k < fs.length) (hg : fs.getD k zeroF = g) : (fs.set k f).set k g = fs := by
  rw [List.set_set]
  exact set_same hk hg

/- parts of a slice of functions -/
def cutF (a : Option Addr) (cap k : Nat) : Option Addr := if cap = k then a else a.map (·.add (k * 2))
theorem sizeOf28 (w : World) : (sizeOf 28).run Tryd.prog w = .ok 2 w := by kernel_rfl
theorem run_cutF (a : Option Addr) (len cap k : Nat) (i : Int) (hi : i = (k : Int)) (hk : k ≤ len) (w : World) :
    (Instr.sliceAt 22 (.slice a len cap) (some (.int .i64 i)) none none).run Tryd.prog w = .ok (.slice (cutF a cap k) (len - k) (cap - k)) w := by
  subst hi
  have ht : Tryd.prog.underlying 22 = some (.slice (Tryd.prog.elem 22)) := by kernel_rfl
  have he : Tryd.prog.elem 22 = 28 := by kernel_rfl
  rw [run_sliceAt_slice w 22 _ _ _ _ ht, run_slice_l w 22 a len cap ht .i64 k (by omega) (by omega), he, sizeOf28]
  simp [Result.andThen, sliced, cutF]
theorem run_headF (a : Option Addr) (len cap k : Nat) (i : Int) (hi : i = (k : Int)) (hk : k ≤ cap) (w : World) :
    (Instr.sliceAt 22 (.slice a len cap) none (some (.int .i64 i)) none).run Tryd.prog w = .ok (.slice a k cap) w := by
  subst hi
  have ht : Tryd.prog.underlying 22 = some (.slice (Tryd.prog.elem 22)) := by kernel_rfl
  have he : Tryd.prog.elem 22 = 28 := by kernel_rfl
  rw [run_sliceAt_slice w 22 _ _ _ _ ht, run_slice_h w 22 a len cap ht .i64 k (by omega) (by omega), he, sizeOf28]
  cases a <;> simp [Result.andThen, sliced, Addr.add_zero']
theorem run_oneF (a : Option Addr) (len cap k : Nat) (i j : Int) (hi : i = (k : Int)) (hj : j = (k : Int) + 1) (hk : k + 1 ≤ cap) (w : World) :
    (Instr.sliceAt 22 (.slice a len cap) (some (.int .i64 i)) (some (.int .i64 j)) none).run Tryd.prog w = .ok (.slice (cutF a cap k) 1 (cap - k)) w := by
  subst hi hj
  have ht : Tryd.prog.underlying 22 = some (.slice (Tryd.prog.elem 22)) := by kernel_rfl
  have he : Tryd.prog.elem 22 = 28 := by kernel_rfl
  rw [run_sliceAt_slice w 22 _ _ _ _ ht, run_slice_lh w 22 a len cap ht .i64 .i64 k ((k : Int) + 1) (by omega) (by omega) (by omega), he, sizeOf28]
  have e2 : ((k : Int) + 1).toNat = k + 1 := by omega
  simp [Result.andThen, sliced, cutF, e2]
theorem FnsAt.cut {w : World} {a : Option Addr} {len cap : Nat} {fs : List Fun} (h : FnsAt w a len cap fs) {k : Nat} (hk : k ≤ len) : FnsAt w (cutF a cap k) (len - k) (cap - k) (fs.drop k) := by
  obtain ⟨h1, h2, h3, h5⟩ := h
  refine ⟨by rw [List.length_drop, h1], by omega, by omega, ?_⟩
  by_cases he : len = k
  · exact .inl (by omega)
  · obtain ⟨x, rfl, h6⟩ := h5.resolve_left (by omega)
    refine .inr ⟨x.add (k * 2), ?_, fun j hj => ?_⟩
    · unfold cutF
      rw [if_neg (by omega)]
      rfl
    · have e : (x.add (k * 2)).add (j * 2) = x.add ((k + j) * 2) := by
        rw [Go.Deep.add_add, Nat.add_mul]
      have e2 : (fs.drop k).getD j zeroF = fs.getD (k + j) zeroF := by simp [List.getD_eq_getElem?_getD, List.getElem?_drop]
      rw [e, e2]
      exact h6 (k + j) (by omega)
theorem FnsAt.head {w : World} {a : Option Addr} {len cap : Nat} {fs : List Fun} (h : FnsAt w a len cap fs) {k : Nat} (hk : k ≤ len) : FnsAt w a k cap (fs.take k) := by
  obtain ⟨h1, h2, h3, h5⟩ := h
  refine ⟨by rw [List.length_take]; omega, by omega, h3, ?_⟩
  by_cases he : k = 0
  · exact .inl he
  · obtain ⟨x, rfl, h6⟩ := h5.resolve_left (by omega)
    refine .inr ⟨x, rfl, fun j hj => ?_⟩
    have e2 : (fs.take k).getD j zeroF = fs.getD j zeroF := by simp [List.getD_eq_getElem?_getD, hj]
    rw [e2]
    exact h6 j (by omega)
end Go.Proofs.YtlbhmopmfddhjaaDoor
