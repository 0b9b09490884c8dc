/-
  What the fifth reference's New returns, as a contract over the translated program: an empty table, an Array with noughts.
-/
import Derived.Test.YtilddlgcfbefiaaDoorTR
import Derived.Laws.OwnMore
namespace Go.Proofs.YtilddlgcfbefiaaDoor
set_option linter.unusedSimpArgs false
set_option linter.unusedVariables false
open Go Go.RowKit

theorem made_words (n : Nat) : (madeCells (Value.int .u32 0).cells (n * 1)).toList = wordsV (List.replicate n 0) := by
  have hc : (Value.int .u32 0).cells = #[.int .u32 0] := rfl
  rw [hc]
  apply List.ext_getElem?
  intro i
  simp only [madeCells, wordsV, Array.toList_map, Array.toList_range, List.getElem?_map, Nat.mul_one]
  by_cases hi : i < n
  · rw [List.getElem?_range hi, List.getElem?_replicate, if_pos hi]
    simp [Nat.mod_one]
  · rw [List.getElem?_eq_none (by simp; omega), List.getElem?_eq_none (by simp; omega)]
    rfl
/- 'make([]uint32, n)' at a step of a region that draws its order -/
theorem step_makeW {ops : Array Oper} {o : Oper} {a : Act} {d : Tmp} {K : Act → World → Prop} {Q : Exit → Act → World → Prop} {E : Prop} (w : World) (hgd : o.guard = none) (l c : Operand) (ho : o.op = .makeSlice 52 l c) (hd : o.dst = some d)
    (base n : Nat) (L : Int) (hl : a.eval l = .int .i64 L) (hc : a.eval c = .int .i64 L) (hL : L = (n : Int)) (hn : n ≤ 1000) (hb : base ≤ w.heap.size) (H : Nat) (hH : w.heap.size = H)
    (h : ∀ w', w'.ownsRow base 25 1 (.slice (some ⟨H, 0, none⟩) n n) n (wordsV (List.replicate n 0)) → w.grownBy w' none → K (a.put (some d) (.slice (some ⟨H, 0, none⟩) n n)) w') :
    if Region.wanted o (yielded ops a.tmps) = true then Oper.wp Tryd.prog o a w K Q else E := by
  obtain ⟨jW, hiW, hy0, hy1, hy2⟩ := info_parts infoW
  have hw : Region.wanted o (yielded ops a.tmps) = true := by simp [Region.wanted, hgd]
  rw [if_pos hw]
  subst hL
  subst hH
  obtain ⟨w', hr, r1, r2⟩ := run_make_full (P := Tryd.prog) w base 52 25 jW _ 1 Tryd.underlying52 hiW hy0 hy1 .i64 .i64 n (by rw [hy2]; omega) (by unfold maxLen; omega) hb
  rw [made_words] at r1
  unfold Oper.wp execOp
  simp only [ho, hl, hc, Sem.run_bind, Sem.run_pure, Result.andThen_ok, hr, Oper.upon, hd]
  exact h w' r1 r2
def zeroEs (k n : Nat) : List Ent := (List.range k).map (fun (i : Nat) => ((i : Int), List.replicate n 0))
theorem zeroEs_len (k n : Nat) : (zeroEs k n).length = k := by simp [zeroEs]
theorem zeroEs_step (k n : Nat) : zeroEs (k + 1) n = zeroEs k n ++ [((k : Int), List.replicate n 0)] := by simp [zeroEs, List.range_succ]
theorem new_no {s : Sc} (h : mayT s = false) : newT s = zeroT ∧ newE s = 1 := by simp [newT, newE, h]
theorem new_array {s : Sc} (h : mayT s = true) (h0 : s.1 = 0) : newT s = (s, zeroEs s.2.1.toNat s.2.2.1.toNat, 0) ∧ newE s = 0 := by simp [newT, newE, h, h0, zeroEs]
theorem new_other {s : Sc} (h : mayT s = true) (h0 : ¬ s.1 = 0) : newT s = (s, [], 0) ∧ newE s = 0 := by simp [newT, newE, h, h0]
end Go.Proofs.YtilddlgcfbefiaaDoor
