/-
  What package inst's May returns, as a contract over the translated program, where the table of rows is as its initialiser lays it.
-/
import Derived.Test.YtdgfklmbglfbfaaDoorA
import Derived.Laws.Rows
import Derived.LoopTactic
namespace Go.Proofs.YtdgfklmbglfbfaaDoor
open Go.RowKit

/- the cells of row k of the table -/
def rowL (k : Nat) : List Value := [.int .i64 (rOp k), .int .i64 (rLo k), .int .i64 (rHi k), .int .i64 (rRg k), .bool (rMr k), .int .i64 (rOf k), .int .u32 (rIm k)]
def rowsA : Array Value := (rowL 0 ++ (rowL 1 ++ (rowL 2 ++ (rowL 3 ++ (rowL 4 ++ (rowL 5 ++ (rowL 6 ++ (rowL 7 ++ rowL 8)))))))).toArray
def RowsIn (w : World) : Prop := ∃ t fr, w.heap[0]? = some (.cells rowsA t fr)

theorem RowsIn.pos {w : World} (h : RowsIn w) : 0 < w.heap.size := by
  obtain ⟨t, fr, h⟩ := h
  exact (Array.getElem?_eq_some_iff.1 h).1
theorem RowsIn.below {w w' : World} {B : Nat} (h : RowsIn w) (hB : 0 < B) (hb : Below B w w') : RowsIn w' := by
  obtain ⟨t, fr, h⟩ := h
  exact ⟨t, fr, (hb.block 0 hB).trans h⟩
theorem RowsIn.later {w w' : World} (h : RowsIn w) (hb : Below w.heap.size w w') : RowsIn w' := h.below h.pos hb

theorem index_row (k : Nat) (hk : k < 9) (w : World) : (Instr.index 88 (.agg rowsA) (.int .i64 (k : Int))).run Tryd.prog w = .ok (instV (rOp k) (rLo k) (rHi k) (rRg k) (rMr k) (rOf k) (rIm k)) w := by
  match k, hk with
  | 0, _ => show _ = _; kernel_rfl
  | 1, _ => show _ = _; kernel_rfl
  | 2, _ => show _ = _; kernel_rfl
  | 3, _ => show _ = _; kernel_rfl
  | 4, _ => show _ = _; kernel_rfl
  | 5, _ => show _ = _; kernel_rfl
  | 6, _ => show _ = _; kernel_rfl
  | 7, _ => show _ = _; kernel_rfl
  | 8, _ => show _ = _; kernel_rfl

theorem may_any (o f d s : Int) (r : Bool) (x m : Int) (w : World) (hR : RowsIn w) :
    Calls Tryd.prog 36 #[instV o f d s r x m] w fun e w' => e = .returned (.bool (mayB o f d s r x m)) ∧ Below w.heap.size w w' := by
  have hg : Below w.heap.size w (w.alloc (.cells #[.int .i64 o, .int .i64 f, .int .i64 d, .int .i64 s, .bool r, .int .i64 x, .int .u32 m] 53)) :=
    (Below.refl _ _).alloc (Nat.le_refl _) _
  have hR1 := hR.later hg
  obtain ⟨tt, fr, hh⟩ := hR1
  go_enter Tryd.func36, Tryd.ntmps36
  go_wp2_with (refine wpList_load_row rfl 88 _ rfl 0 rfl tt _ fr _ hh Tryd.underlying88 rfl (by kernel_rfl) ?_)
  clear hh
  go_loopw [6] (fun i wr => ∃ k : Nat, k ≤ 9 ∧ i = .int .i64 k ∧ Hid (∀ j, j < k → alwK j o f d s r x m = false) ∧ Below w.heap.size w wr ∧ w.heap.size < wr.heap.size ∧
      wr.cell? ⟨w.heap.size, 0, none⟩ = some (.int .i64 o) ∧ wr.cell? ⟨w.heap.size, 1, none⟩ = some (.int .i64 f) ∧ wr.cell? ⟨w.heap.size, 2, none⟩ = some (.int .i64 d) ∧ wr.cell? ⟨w.heap.size, 3, none⟩ = some (.int .i64 s) ∧
      wr.cell? ⟨w.heap.size, 4, none⟩ = some (.bool r) ∧ wr.cell? ⟨w.heap.size, 5, none⟩ = some (.int .i64 x) ∧ wr.cell? ⟨w.heap.size, 6, none⟩ = some (.int .u32 m)) (fun i _ => 9 - (intOf i).toNat)
  case atStart => exact ⟨0, by omega, rfl, Lib.hid (fun j hj => absurd hj (by omega)), hg, by simp, by simp, by simp, by simp, by simp, by simp, by simp, by simp⟩
  case round =>
    obtain ⟨k, hk, rfl, HF, hb, hlt, c0, c1, c2, c3, c4, c5, c6⟩ := hrel
    by_cases h9 : k < 9
    · have hi := index_row k h9
      have hg2 : Below wr.heap.size wr ((wr.alloc (.cells #[.int .i64 (rOp k), .int .i64 (rLo k), .int .i64 (rHi k), .int .i64 (rRg k), .bool (rMr k), .int .i64 (rOf k), .int .u32 (rIm k)] 87))) :=
        (Below.refl _ _).alloc (Nat.le_refl _) _
      rcases hA : alwK k o f d s r x m with _ | _
      · have HA := Lib.hid hA
        have hA' : alw (rOp k) (rLo k) (rHi k) (rRg k) (rMr k) (rOf k) (rIm k) o f d s r x m = false := hA
        clear hA
        go_wp2_with (go_at_call 42; refine (alw_any _ _ _ _ _ _ _ _ _ _ _ _ _ _ _).mono ?_; rintro e w' ⟨rfl, hg3⟩)
        have hg4 := hg2.trans (hg3.mono hg2.size)
        clear hg3
        go_roundw
        case rel =>
          refine ⟨k + 1, by omega, by go_num, Lib.hid (fun j hj => ?_), hb.trans (hg4.mono hb.size), Nat.lt_of_lt_of_le hlt hg4.size, (hg4.cell hlt).trans c0, (hg4.cell hlt).trans c1, (hg4.cell hlt).trans c2, (hg4.cell hlt).trans c3, (hg4.cell hlt).trans c4, (hg4.cell hlt).trans c5, (hg4.cell hlt).trans c6⟩
          rcases Nat.lt_succ_iff_lt_or_eq.1 hj with hj | rfl
          · exact HF.out j hj
          · exact HA.out
        case measure => simp [intOf]; omega
      · have HA := Lib.hid (mayB_true h9 hA)
        have hA' : alw (rOp k) (rLo k) (rHi k) (rRg k) (rMr k) (rOf k) (rIm k) o f d s r x m = true := hA
        clear hA
        go_wp2_with (go_at_call 42; refine (alw_any _ _ _ _ _ _ _ _ _ _ _ _ _ _ _).mono ?_; rintro e w' ⟨rfl, hg3⟩)
        have hg4 := hg2.trans (hg3.mono hg2.size)
        go_ret
        refine ⟨?_, hb.trans (hg4.mono hb.size)⟩
        rw [HA.out]
        rfl
    · have HK := Lib.hid (show k = 9 by omega)
      go_wp2
      go_ret
      refine ⟨?_, hb⟩
      rw [mayB_false (fun j hj => HF.out j (by rw [HK.out]; exact hj))]
      rfl
end Go.Proofs.YtdgfklmbglfbfaaDoor
