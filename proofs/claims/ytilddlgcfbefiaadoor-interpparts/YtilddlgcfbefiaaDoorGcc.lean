/-
  Texts that the laws of this layer stand on, one behind the other.
-/
import Derived.Test.YtilddlgcfbefiaaDoorRows
import Derived.WalkKit
import Derived.ProofKit
import Derived.OpenShut
import Derived.WalkSpells
import Derived.WalkLawsBesides
import Derived.Outline
import Derived.Lib.Hide
import Derived.Below
import Derived.Test.YtilddlgcfbefiaaDoorGca
import Derived.Laws.Rows
import Derived.LoopTactic
import Derived.Test.YtilddlgcfbefiaaDoorGcb
import Derived.Test.YtilddlgcfbefiaaDoorKitG
/-
  What package inst's May returns, as a contract over the translated program: within, allowsOperand, allows, May.
-/
namespace Go.Proofs.YtilddlgcfbefiaaDoor
set_option linter.unusedSimpArgs false
set_option linter.unusedVariables false
open Go.RowKit

abbrev instV (o f d s : Int) (r : Bool) (x m : Int) : Value := .agg #[.int .i64 o, .int .i64 f, .int .i64 d, .int .i64 s, .bool r, .int .i64 x, .int .u32 m]

theorem pwithin_any (n lo hi : Int) (w : World) : Calls Tryd.prog 76 #[.int .i64 n, .int .i64 lo, .int .i64 hi] w fun e w' => e = .returned (.bool (pwthn n lo hi)) ∧ w = w' := by
  by_cases h : lo ≤ n
  · go_enter Tryd.func76, Tryd.ntmps76
    go_wp2
    go_ret
    exact ⟨by simp [pwthn, h], rfl⟩
  · go_enter Tryd.func76, Tryd.ntmps76
    go_wp2
    go_ret
    exact ⟨by simp [pwthn]; omega, rfl⟩
theorem grown_trans {a b c : World} (h : Grown a b) (k : Grown b c) : Grown a c :=
  ⟨World.keptBut_trans h.1 k.1, fun x => (k.2.1 x).trans (h.2.1 x), Nat.le_trans h.2.2 k.2.2⟩

theorem opnd_any (ro rl rh rR : Int) (rm : Bool) (rO rM o f d s : Int) (r : Bool) (x m : Int) (w : World) :
    Calls Tryd.prog 77 #[instV ro rl rh rR rm rO rM, instV o f d s r x m] w fun e w' => e = .returned (.bool (opnd rR rm rM s r m)) ∧ Below w.heap.size w w' := by
  have hg : Below w.heap.size w ((w.alloc (.cells #[.int .i64 ro, .int .i64 rl, .int .i64 rh, .int .i64 rR, .bool rm, .int .i64 rO, .int .u32 rM] 118)).alloc (.cells #[.int .i64 o, .int .i64 f, .int .i64 d, .int .i64 s, .bool r, .int .i64 x, .int .u32 m] 50)) :=
    ((Below.refl _ _).alloc (Nat.le_refl _) _).alloc (by simp) _
  cases r
  · by_cases h : s = 0
    · subst h
      go_enter Tryd.func77, Tryd.ntmps77
      go_wp2
      go_ret
      exact ⟨by simp [opnd], hg⟩
    · have h1 : (s == 0) = false := by simpa using h
      clear h
      go_enter Tryd.func77, Tryd.ntmps77
      go_wp2
      go_ret
      exact ⟨by simp [opnd, h1], hg⟩
  · cases rm
    · go_enter Tryd.func77, Tryd.ntmps77
      go_wp2
      go_ret
      exact ⟨by simp [opnd], hg⟩
    · cases h : pwthn s 0 rR
      · go_enter Tryd.func77, Tryd.ntmps77
        go_wp2_with (go_at_call 76; refine (pwithin_any _ _ _ _).mono ?_; rintro e w' ⟨rfl, rfl⟩)
        go_ret
        exact ⟨by simp [opnd, h], hg⟩
      · go_enter Tryd.func77, Tryd.ntmps77
        go_wp2_with (go_at_call 76; refine (pwithin_any _ _ _ _).mono ?_; rintro e w' ⟨rfl, rfl⟩)
        go_ret
        exact ⟨by simp [opnd, h], hg⟩
theorem alw_any (ro rl rh rR : Int) (rm : Bool) (rO rM o f d s : Int) (r : Bool) (x m : Int) (w : World) :
    Calls Tryd.prog 60 #[instV ro rl rh rR rm rO rM, instV o f d s r x m] w fun e w' => e = .returned (.bool (alw ro rl rh rR rm rO rM o f d s r x m)) ∧ Below w.heap.size w w' := by
  have hg : Below w.heap.size w ((w.alloc (.cells #[.int .i64 ro, .int .i64 rl, .int .i64 rh, .int .i64 rR, .bool rm, .int .i64 rO, .int .u32 rM] 118)).alloc (.cells #[.int .i64 o, .int .i64 f, .int .i64 d, .int .i64 s, .bool r, .int .i64 x, .int .u32 m] 50)) :=
    ((Below.refl _ _).alloc (Nat.le_refl _) _).alloc (by simp) _
  rcases h1 : (o == ro) with _ | _
  · go_enter Tryd.func60, Tryd.ntmps60
    go_wp2_with (first | (go_at_call 76; refine (pwithin_any _ _ _ _).mono ?_; rintro e w' ⟨rfl, rfl⟩) | (go_at_call 77; refine (opnd_any _ _ _ _ _ _ _ _ _ _ _ _ _ _ _).mono ?_; rintro e w' ⟨rfl, hg2⟩; replace hg := hg.trans (hg2.mono hg.size); clear hg2))
    go_ret
    exact ⟨by simp [alw, h1], hg⟩
  rcases h2 : pwthn f rl rh with _ | _
  · go_enter Tryd.func60, Tryd.ntmps60
    go_wp2_with (first | (go_at_call 76; refine (pwithin_any _ _ _ _).mono ?_; rintro e w' ⟨rfl, rfl⟩) | (go_at_call 77; refine (opnd_any _ _ _ _ _ _ _ _ _ _ _ _ _ _ _).mono ?_; rintro e w' ⟨rfl, hg2⟩; replace hg := hg.trans (hg2.mono hg.size); clear hg2))
    go_ret
    exact ⟨by simp [alw, h2], hg⟩
  rcases h3 : pwthn d 0 rR with _ | _
  · go_enter Tryd.func60, Tryd.ntmps60
    go_wp2_with (first | (go_at_call 76; refine (pwithin_any _ _ _ _).mono ?_; rintro e w' ⟨rfl, rfl⟩) | (go_at_call 77; refine (opnd_any _ _ _ _ _ _ _ _ _ _ _ _ _ _ _).mono ?_; rintro e w' ⟨rfl, hg2⟩; replace hg := hg.trans (hg2.mono hg.size); clear hg2))
    go_ret
    exact ⟨by simp [alw, h3], hg⟩
  rcases h4 : pwthn x 0 rO with _ | _
  · go_enter Tryd.func60, Tryd.ntmps60
    go_wp2_with (first | (go_at_call 76; refine (pwithin_any _ _ _ _).mono ?_; rintro e w' ⟨rfl, rfl⟩) | (go_at_call 77; refine (opnd_any _ _ _ _ _ _ _ _ _ _ _ _ _ _ _).mono ?_; rintro e w' ⟨rfl, hg2⟩; replace hg := hg.trans (hg2.mono hg.size); clear hg2))
    go_ret
    exact ⟨by simp [alw, h4], hg⟩
  · go_enter Tryd.func60, Tryd.ntmps60
    go_wp2_with (first | (go_at_call 76; refine (pwithin_any _ _ _ _).mono ?_; rintro e w' ⟨rfl, rfl⟩) | (go_at_call 77; refine (opnd_any _ _ _ _ _ _ _ _ _ _ _ _ _ _ _).mono ?_; rintro e w' ⟨rfl, hg2⟩; replace hg := hg.trans (hg2.mono hg.size); clear hg2))
    go_ret
    exact ⟨by simp [alw, h1, h2, h3, h4], hg⟩
end Go.Proofs.YtilddlgcfbefiaaDoor

/-
  What package inst's May returns, as a contract over the translated program, where the table of rows is as its initialiser lays it.
-/
namespace Go.Proofs.YtilddlgcfbefiaaDoor
set_option linter.unusedSimpArgs false
set_option linter.unusedVariables false
open Go.RowKit

/- the cells of row k of the table -/
def rowL (k : Nat) : List Value := [.int .i64 (rOp k), .int .i64 (rLo k), .int .i64 (rHi k), .int .i64 (rRg k), .bool (rMr k), .int .i64 (rOf k), .int .u32 (rIm k)]
def rowsA : Array Value := (rowL 0 ++ (rowL 1 ++ (rowL 2 ++ (rowL 3 ++ (rowL 4 ++ (rowL 5 ++ (rowL 6 ++ (rowL 7 ++ rowL 8)))))))).toArray
def RowsIn (w : World) : Prop := ∃ t fr, w.heap[0]? = some (.cells rowsA t fr)

theorem RowsIn.pos {w : World} (h : RowsIn w) : 0 < w.heap.size := by
  obtain ⟨t, fr, h⟩ := h
  exact (Array.getElem?_eq_some_iff.1 h).1
theorem RowsIn.below {w w' : World} {B : Nat} (h : RowsIn w) (hB : 0 < B) (hb : Below B w w') : RowsIn w' := by
  obtain ⟨t, fr, h⟩ := h
  exact ⟨t, fr, (hb.block 0 hB).trans h⟩
theorem RowsIn.later {w w' : World} (h : RowsIn w) (hb : Below w.heap.size w w') : RowsIn w' := h.below h.pos hb

theorem index_row (k : Nat) (hk : k < 9) (w : World) : (Instr.index 119 (.agg rowsA) (.int .i64 (k : Int))).run Tryd.prog w = .ok (instV (rOp k) (rLo k) (rHi k) (rRg k) (rMr k) (rOf k) (rIm k)) w := by
  match k, hk with
  | 0, _ => show _ = _; kernel_rfl
  | 1, _ => show _ = _; kernel_rfl
  | 2, _ => show _ = _; kernel_rfl
  | 3, _ => show _ = _; kernel_rfl
  | 4, _ => show _ = _; kernel_rfl
  | 5, _ => show _ = _; kernel_rfl
  | 6, _ => show _ = _; kernel_rfl
  | 7, _ => show _ = _; kernel_rfl
  | 8, _ => show _ = _; kernel_rfl

theorem pmay_any (o f d s : Int) (r : Bool) (x m : Int) (w : World) (hR : RowsIn w) :
    Calls Tryd.prog 54 #[instV o f d s r x m] w fun e w' => e = .returned (.bool (pmayB o f d s r x m)) ∧ Below w.heap.size w w' := by
  have hg : Below w.heap.size w (w.alloc (.cells #[.int .i64 o, .int .i64 f, .int .i64 d, .int .i64 s, .bool r, .int .i64 x, .int .u32 m] 50)) :=
    (Below.refl _ _).alloc (Nat.le_refl _) _
  have hR1 := hR.later hg
  obtain ⟨tt, fr, hh⟩ := hR1
  go_enter Tryd.func54, Tryd.ntmps54
  go_wp2_with (refine wpList_load_row rfl 119 _ rfl 0 rfl tt _ fr _ hh Tryd.underlying119 rfl (by kernel_rfl) ?_)
  clear hh
  go_loopw [6] (fun i wr => ∃ k : Nat, k ≤ 9 ∧ i = .int .i64 k ∧ Hid (∀ j, j < k → alwK j o f d s r x m = false) ∧ Below w.heap.size w wr ∧ w.heap.size < wr.heap.size ∧
      wr.cell? ⟨w.heap.size, 0, none⟩ = some (.int .i64 o) ∧ wr.cell? ⟨w.heap.size, 1, none⟩ = some (.int .i64 f) ∧ wr.cell? ⟨w.heap.size, 2, none⟩ = some (.int .i64 d) ∧ wr.cell? ⟨w.heap.size, 3, none⟩ = some (.int .i64 s) ∧
      wr.cell? ⟨w.heap.size, 4, none⟩ = some (.bool r) ∧ wr.cell? ⟨w.heap.size, 5, none⟩ = some (.int .i64 x) ∧ wr.cell? ⟨w.heap.size, 6, none⟩ = some (.int .u32 m)) (fun i _ => 9 - (intOf i).toNat)
  case atStart => exact ⟨0, by omega, rfl, Lib.hid (fun j hj => absurd hj (by omega)), hg, by simp, by simp, by simp, by simp, by simp, by simp, by simp, by simp⟩
  case round =>
    obtain ⟨k, hk, rfl, HF, hb, hlt, c0, c1, c2, c3, c4, c5, c6⟩ := hrel
    by_cases h9 : k < 9
    · have hi := index_row k h9
      have hg2 : Below wr.heap.size wr ((wr.alloc (.cells #[.int .i64 (rOp k), .int .i64 (rLo k), .int .i64 (rHi k), .int .i64 (rRg k), .bool (rMr k), .int .i64 (rOf k), .int .u32 (rIm k)] 118))) :=
        (Below.refl _ _).alloc (Nat.le_refl _) _
      rcases hA : alwK k o f d s r x m with _ | _
      · have HA := Lib.hid hA
        have hA' : alw (rOp k) (rLo k) (rHi k) (rRg k) (rMr k) (rOf k) (rIm k) o f d s r x m = false := hA
        clear hA
        go_wp2_with (go_at_call 60; refine (alw_any _ _ _ _ _ _ _ _ _ _ _ _ _ _ _).mono ?_; rintro e w' ⟨rfl, hg3⟩)
        have hg4 := hg2.trans (hg3.mono hg2.size)
        clear hg3
        go_roundw
        case rel =>
          refine ⟨k + 1, by omega, by go_num, Lib.hid (fun j hj => ?_), hb.trans (hg4.mono hb.size), Nat.lt_of_lt_of_le hlt hg4.size, (hg4.cell hlt).trans c0, (hg4.cell hlt).trans c1, (hg4.cell hlt).trans c2, (hg4.cell hlt).trans c3, (hg4.cell hlt).trans c4, (hg4.cell hlt).trans c5, (hg4.cell hlt).trans c6⟩
          rcases Nat.lt_succ_iff_lt_or_eq.1 hj with hj | rfl
          · exact HF.out j hj
          · exact HA.out
        case measure => simp [intOf]; omega
      · have HA := Lib.hid (mayB_true h9 hA)
        have hA' : alw (rOp k) (rLo k) (rHi k) (rRg k) (rMr k) (rOf k) (rIm k) o f d s r x m = true := hA
        clear hA
        go_wp2_with (go_at_call 60; refine (alw_any _ _ _ _ _ _ _ _ _ _ _ _ _ _ _).mono ?_; rintro e w' ⟨rfl, hg3⟩)
        have hg4 := hg2.trans (hg3.mono hg2.size)
        go_ret
        refine ⟨?_, hb.trans (hg4.mono hb.size)⟩
        rw [HA.out]
        rfl
    · have HK := Lib.hid (show k = 9 by omega)
      go_wp2
      go_ret
      refine ⟨?_, hb⟩
      rw [mayB_false (fun j hj => HF.out j (by rw [HK.out]; exact hj))]
      rfl
end Go.Proofs.YtilddlgcfbefiaaDoor

/-
  Programs in memory: slices of instructions, slices of functions.
-/
namespace Go.Proofs.YtilddlgcfbefiaaDoor
set_option linter.unusedSimpArgs false
set_option linter.unusedVariables false
open Go.RowKit

/- the seven cells of an instruction from a on -/
def InstHere (W : World) (a : Addr) (i : I) : Prop :=
  W.cell? a = some (.int .i64 i.1) ∧ W.cell? ⟨a.block, a.off + 1, none⟩ = some (.int .i64 i.2.1) ∧ W.cell? ⟨a.block, a.off + 2, none⟩ = some (.int .i64 i.2.2.1) ∧ W.cell? ⟨a.block, a.off + 3, none⟩ = some (.int .i64 i.2.2.2.1) ∧
  W.cell? ⟨a.block, a.off + 4, none⟩ = some (.bool i.2.2.2.2.1) ∧ W.cell? ⟨a.block, a.off + 5, none⟩ = some (.int .i64 i.2.2.2.2.2.1) ∧ W.cell? ⟨a.block, a.off + 6, none⟩ = some (.int .u32 i.2.2.2.2.2.2)
theorem InstHere.below {W W' : World} {a : Addr} {i : I} (h : InstHere W a i) (hb : Below W.heap.size W W') : InstHere W' a i := by
  obtain ⟨c0, c1, c2, c3, c4, c5, c6⟩ := h
  exact ⟨(hb.cell (lt_of_cell c0)).trans c0, (hb.cell (lt_of_cell c1)).trans c1, (hb.cell (lt_of_cell c2)).trans c2, (hb.cell (lt_of_cell c3)).trans c3, (hb.cell (lt_of_cell c4)).trans c4, (hb.cell (lt_of_cell c5)).trans c5, (hb.cell (lt_of_cell c6)).trans c6⟩
/- a slice of instructions -/
def CodeAt (W : World) (a : Option Addr) (len cap : Nat) (c : List I) : Prop :=
  c.length = len ∧ len ≤ cap ∧ cap ≤ maxLen ∧ (∀ i ∈ c, okI i) ∧ (len = 0 ∨ ∃ y, a = some y ∧ ∀ k, k < len → InstHere W (y.add (k * 7)) (c.getD k zeroI))
theorem CodeAt.below {W W' : World} {a : Option Addr} {len cap : Nat} {c : List I} (h : CodeAt W a len cap c) (hb : Below W.heap.size W W') : CodeAt W' a len cap c := by
  obtain ⟨h1, h2, h3, h4, h5⟩ := h
  refine ⟨h1, h2, h3, h4, ?_⟩
  rcases h5 with h5 | ⟨y, h5, h6⟩
  · exact .inl h5
  · exact .inr ⟨y, h5, fun k hk => (h6 k hk).below hb⟩
/- a function's two cells from a on, and its code -/
def FnHere (W : World) (a : Addr) (f : Fun) : Prop :=
  W.cell? a = some (.int .i64 f.1) ∧ ∃ b l c, W.cell? ⟨a.block, a.off + 1, none⟩ = some (.slice b l c) ∧ CodeAt W b l c f.2
theorem FnHere.below {W W' : World} {a : Addr} {f : Fun} (h : FnHere W a f) (hb : Below W.heap.size W W') : FnHere W' a f := by
  obtain ⟨c0, b, l, c, c1, hc⟩ := h
  exact ⟨(hb.cell (lt_of_cell c0)).trans c0, b, l, c, (hb.cell (lt_of_cell c1)).trans c1, hc.below hb⟩
/- a slice of functions -/
def FnsAt (W : World) (a : Option Addr) (len cap : Nat) (fs : List Fun) : Prop :=
  fs.length = len ∧ len ≤ cap ∧ cap ≤ maxLen ∧ (len = 0 ∨ ∃ y, a = some y ∧ ∀ k, k < len → FnHere W (y.add (k * 2)) (fs.getD k zeroF))
theorem FnsAt.below {W W' : World} {a : Option Addr} {len cap : Nat} {fs : List Fun} (h : FnsAt W a len cap fs) (hb : Below W.heap.size W W') : FnsAt W' a len cap fs := by
  obtain ⟨h1, h2, h3, h5⟩ := h
  refine ⟨h1, h2, h3, ?_⟩
  rcases h5 with h5 | ⟨y, h5, h6⟩
  · exact .inl h5
  · exact .inr ⟨y, h5, fun k hk => (h6 k hk).below hb⟩
end Go.Proofs.YtilddlgcfbefiaaDoor

/-
  What the third reference's Few returns, as a contract over the translated program.
-/
namespace Go.Proofs.YtilddlgcfbefiaaDoor
set_option linter.unusedSimpArgs false
set_option linter.unusedVariables false
open Go.RowKit

set_option maxHeartbeats 2000000 in
theorem pfew_any (a : Option Addr) (len cap : Nat) (fs : List Fun) (w : World) (h : FnsAt w a len cap fs) :
    Calls Tryd.prog 20 #[.agg #[.slice a len cap]] w fun e w' => e = .returned (.bool (fewP fs)) ∧ Below w.heap.size w w' := by
  obtain ⟨h1, h2, h3, h5⟩ := h
  have hm : len ≤ 9223372036854775807 := by unfold maxLen at h3; omega
  rcases h5 with h5 | ⟨y, rfl, h6⟩
  · subst h5
    have hc : fs = [] := List.length_eq_zero_iff.1 h1
    subst hc
    clear h1 h2
    go_enter Tryd.func20, Tryd.ntmps20
    go_wp2
    go_loopw [3, 4] (fun o i wr => o = .bool true ∧ i = .int .i64 0 ∧ Below w.heap.size w wr ∧ wr.cell? ⟨w.heap.size, 0, none⟩ = some (.slice a 0 cap)) (fun _ _ _ => 0)
    case atStart => exact ⟨rfl, rfl, (Below.refl _ _).alloc (Nat.le_refl _) _, by simp⟩
    case round =>
      obtain ⟨rfl, rfl, hb, c1⟩ := hrel
      go_wp2
      go_ret
      exact ⟨by simp [fewP], hb⟩
  · have H6 := Lib.hid h6
    have H1 := Lib.hid h1
    clear h6 h1
    go_enter Tryd.func20, Tryd.ntmps20
    go_wp2
    go_loopw [3, 4] (fun o i wr => ∃ (k : Nat) (ok : Bool), k ≤ len ∧ o = .bool ok ∧ i = .int .i64 k ∧ Hid (ok = true → len ≤ 12 ∧ ∀ j, j < k → (fs.getD j zeroF).2.length ≤ 80) ∧ Hid (ok = false → fewP fs = false) ∧ Below w.heap.size w wr ∧ w.heap.size < wr.heap.size ∧
      wr.cell? ⟨w.heap.size, 0, none⟩ = some (.slice (some y) len cap)) (fun _ i _ => len - (intOf i).toNat)
    case atStart =>
      refine ⟨0, decide (len ≤ 12), by omega, by simp; omega, rfl, Lib.hid (fun h => ⟨by simpa using h, fun j hj => absurd hj (by omega)⟩), Lib.hid (fun h => ?_), (Below.refl _ _).alloc (Nat.le_refl _) _, by simp, by simp⟩
      simp at h
      simp [fewP]
      intro h'
      rw [H1.out] at h'
      omega
    case round =>
      obtain ⟨k, ok, hk, rfl, rfl, HT, HF, hb, hlt, c0⟩ := hrel
      by_cases hkl : k < len
      · have hkI : (k : Int) < (len : Int) := by omega
        cases ok
        · have HR := Lib.hid (HF.out rfl)
          go_wp2
          go_ret
          exact ⟨by rw [HR.out]; rfl, hb⟩
        · have hI := FnHere.below (H6.out k hkl) hb
          rcases hi : fs.getD k zeroF with ⟨args, code⟩
          rw [hi] at hI
          have HI := Lib.hid hi
          obtain ⟨i0, b, l, cc, i1, hCode⟩ := hI
          simp only at i0 i1 hCode
          have hl : code.length = l := hCode.1
          have hlm : l ≤ 9223372036854775807 := by
            have := hCode.2.1
            have := hCode.2.2.1
            unfold maxLen at this
            omega
          have HL := Lib.hid hl
          clear hi hl hCode
          go_wp2
          go_roundw
          case rel =>
            refine ⟨k + 1, decide (l ≤ 80), by omega, by simp; omega, by go_num, Lib.hid (fun h => ⟨(HT.out rfl).1, fun j hj => ?_⟩), Lib.hid (fun h => ?_), hb, hlt, c0⟩
            · rcases Nat.lt_succ_iff_lt_or_eq.1 hj with hj | rfl
              · exact (HT.out rfl).2 j hj
              · rw [HI.out]
                simp at h
                simp only [HL.out]
                exact h
            · simp at h
              refine fewP_false (k := k) (by rw [H1.out]; exact hkl) ?_
              rw [HI.out]
              simp only [HL.out]
              omega
          case measure => simp [intOf]; omega
      · have hkI : ¬ (k : Int) < (len : Int) := by omega
        have HR : Hid (fewP fs = ok) := Lib.hid (by
          cases ok
          · exact HF.out rfl
          · exact fewP_end (by rw [H1.out]; exact (HT.out rfl).1) (fun j hj => (HT.out rfl).2 j (by rw [H1.out] at hj; omega)))
        go_wp2
        go_ret
        exact ⟨by rw [HR.out]; rfl, hb⟩
end Go.Proofs.YtilddlgcfbefiaaDoor

/-
  What package prog's mayCode and May return, as contracts over the translated program.
-/
namespace Go.Proofs.YtilddlgcfbefiaaDoor
set_option linter.unusedSimpArgs false
set_option linter.unusedVariables false
open Go.RowKit

set_option maxHeartbeats 1000000 in
theorem mayCode_any (a : Option Addr) (len cap : Nat) (c : List I) (w : World) (hR : RowsIn w) (h : CodeAt w a len cap c) :
    Calls Tryd.prog 46 #[.slice a len cap] w fun e w' => e = .returned (.bool (codeB c)) ∧ Below w.heap.size w w' := by
  obtain ⟨h1, h2, h3, h4, h5⟩ := h
  have hm : len ≤ 9223372036854775807 := by unfold maxLen at h3; omega
  by_cases hl : len < 1
  · have HC : Hid (codeB c = false) := Lib.hid (by simp [codeB]; omega)
    clear h1 h4 h5
    have hlI : (len : Int) < 1 := by omega
    go_enter Tryd.func46, Tryd.ntmps46
    go_wp2
    go_ret
    exact ⟨by rw [HC.out]; rfl, Below.refl _ _⟩
  by_cases hg : 64 < len
  · have HC : Hid (codeB c = false) := Lib.hid (by simp [codeB]; omega)
    clear h1 h4 h5
    have hlI : ¬ (len : Int) < 1 := by omega
    have hgI : (64 : Int) < (len : Int) := by omega
    go_enter Tryd.func46, Tryd.ntmps46
    go_wp2
    go_ret
    exact ⟨by rw [HC.out]; rfl, Below.refl _ _⟩
  obtain ⟨y, rfl, h6⟩ := h5.resolve_left (by omega)
  have H6 := Lib.hid h6
  have H4 := Lib.hid h4
  have H1 := Lib.hid h1
  clear h6 h4 h1 h5
  have hlI : ¬ (len : Int) < 1 := by omega
  have hgI : ¬ (64 : Int) < (len : Int) := by omega
  go_enter Tryd.func46, Tryd.ntmps46
  go_wp2
  go_loopw [15] (fun i wr => ∃ k : Nat, k ≤ len ∧ i = .int .i64 k ∧ Hid (∀ j, j < k → mayI (c.getD j zeroI) = true) ∧ Below w.heap.size w wr) (fun i _ => len - (intOf i).toNat)
  case atStart => exact ⟨0, by omega, rfl, Lib.hid (fun j hj => absurd hj (by omega)), Below.refl _ _⟩
  case round =>
    obtain ⟨k, hk, rfl, HF, hb⟩ := hrel
    by_cases hkl : k < len
    · have hI := InstHere.below (H6.out k hkl) hb
      have hok := H4.out _ (getD_mem c k zeroI (by rw [H1.out]; exact hkl))
      rcases hi : c.getD k zeroI with ⟨o, f, d, s, r, x, m⟩
      rw [hi] at hI hok
      have HI := Lib.hid hi
      obtain ⟨i0, i1, i2, i3, i4, i5, i6⟩ := hI
      obtain ⟨hok1, hok2⟩ := hok
      simp only at i0 i1 i2 i3 i4 i5 i6 hok1 hok2
      clear hi
      have hkI : (k : Int) < (len : Int) := by omega
      have hb2 : Below wr.heap.size wr (wr.alloc (.cells #[.int .i64 o, .int .i64 f, .int .i64 d, .int .i64 s, .bool r, .int .i64 x, .int .u32 m] 50)) := (Below.refl _ _).alloc (Nat.le_refl _) _
      have hR2 := (hR.later hb).later hb2
      replace hb := hb.trans (hb2.mono hb.size)
      clear hb2
      go_wp2_with fail
      refine (pmay_any _ _ _ _ _ _ _ _ hR2).mono ?_
      rintro e w' ⟨rfl, hg3⟩
      replace hb := hb.trans (hg3.mono hb.size)
      clear i0 i1 i2 i3 i4 i5 i6 hg3 hR2
      rcases hM : pmayB o f d s r x m with _ | _
      · have HC := Lib.hid (codeB_false (by rw [H1.out]; exact hkl) (by rw [HI.out]; exact hM))
        go_wp2
        go_ret
        exact ⟨by rw [HC.out]; rfl, hb⟩
      · have HM := Lib.hid hM
        go_wp2
        go_roundw
        case rel =>
          refine ⟨k + 1, by omega, by go_num, Lib.hid (fun j hj => ?_), hb⟩
          rcases Nat.lt_succ_iff_lt_or_eq.1 hj with hj | rfl
          · exact HF.out j hj
          · rw [HI.out]
            exact HM.out
        case measure => simp [intOf]; omega
    · have HC := Lib.hid (codeB_end (fun j hj => HF.out j (by rw [H1.out] at hj; omega)))
      rw [H1.out] at HC
      have hkI : ¬ (k : Int) < (len : Int) := by omega
      go_wp2
      go_ret
      exact ⟨by rw [HC.out]; simp; omega, hb⟩

set_option maxHeartbeats 2000000 in
theorem prMay_any (a : Option Addr) (len cap : Nat) (fs : List Fun) (w : World) (hR : RowsIn w) (h : FnsAt w a len cap fs) :
    Calls Tryd.prog 29 #[.agg #[.slice a len cap]] w fun e w' => e = .returned (.bool (mayP fs)) ∧ Below w.heap.size w w' := by
  obtain ⟨h1, h2, h3, h5⟩ := h
  have hm : len ≤ 9223372036854775807 := by unfold maxLen at h3; omega
  have hg : Below w.heap.size w (w.alloc (.cells #[.slice a len cap] 24)) := (Below.refl _ _).alloc (Nat.le_refl _) _
  by_cases hl : len < 1
  · have HC : Hid (mayP fs = false) := Lib.hid (by simp [mayP]; omega)
    clear h1 h5
    have hlI : (len : Int) < 1 := by omega
    go_enter Tryd.func29, Tryd.ntmps29
    go_wp2
    go_ret
    exact ⟨by rw [HC.out]; rfl, hg⟩
  by_cases h8 : 8 < len
  · have HC : Hid (mayP fs = false) := Lib.hid (by simp [mayP]; omega)
    clear h1 h5
    have hlI : ¬ (len : Int) < 1 := by omega
    have hgI : (8 : Int) < (len : Int) := by omega
    go_enter Tryd.func29, Tryd.ntmps29
    go_wp2
    go_ret
    exact ⟨by rw [HC.out]; rfl, hg⟩
  obtain ⟨y, rfl, h6⟩ := h5.resolve_left (by omega)
  have hlI : ¬ (len : Int) < 1 := by omega
  have hgI : ¬ (8 : Int) < (len : Int) := by omega
  have h0I : (0 : Int) < (len : Int) := by omega
  have h0N : 0 < len := by omega
  have hI0 := FnHere.below (h6 0 h0N) hg
  have H6 := Lib.hid h6
  have H1 := Lib.hid h1
  clear h6 h1 h5
  rcases hi0 : fs.getD 0 zeroF with ⟨args0, code0⟩
  rw [hi0] at hI0
  have HI0 := Lib.hid hi0
  have z0 := hI0.1
  simp only [Nat.zero_mul, Addr.add_zero'] at z0
  clear hi0 hI0
  by_cases ha0 : args0 = 0
  · subst ha0
    go_enter Tryd.func29, Tryd.ntmps29
    go_wp2
    clear z0
    go_loopw [26] (fun i wr => ∃ k : Nat, k ≤ len ∧ i = .int .i64 k ∧ Hid (∀ j, j < k → fnB j (fs.getD j zeroF) = true) ∧ Below w.heap.size w wr) (fun i _ => len - (intOf i).toNat)
    case atStart => exact ⟨0, by omega, rfl, Lib.hid (fun j hj => absurd hj (by omega)), hg⟩
    case round =>
      obtain ⟨k, hk, rfl, HF, hb⟩ := hrel
      clear hg
      by_cases hkl : k < len
      · have hI := FnHere.below (H6.out k hkl) hb
        rcases hi : fs.getD k zeroF with ⟨args, code⟩
        rw [hi] at hI
        have HI := Lib.hid hi
        obtain ⟨i0, b, l, cc, i1, hCode⟩ := hI
        simp only at i0 i1 hCode
        clear hi
        have hkI : (k : Int) < (len : Int) := by omega
        have hb2 : Below wr.heap.size wr (wr.alloc (.cells #[.int .i64 args, .slice b l cc] 47)) := (Below.refl _ _).alloc (Nat.le_refl _) _
        have hR2 := (hR.later hb).later hb2
        have HCode := Lib.hid (hCode.below hb2)
        replace hb := hb.trans (hb2.mono hb.size)
        clear hb2 hCode
        have HK : Hid (k = 0 → args = 0) := Lib.hid (fun hk0 => by
          subst hk0
          have := HI0.out.symm.trans HI.out
          simp only [Prod.mk.injEq] at this
          exact this.1.symm)
        rcases g1 : decide (args < 0) with _ | _
        · rcases g2 : decide (4 < args) with _ | _
          · go_wp2_with fail
            refine (mayCode_any b l cc code _ hR2 HCode.out).mono ?_
            rintro e w' ⟨rfl, hg3⟩
            replace hb := hb.trans (hg3.mono hb.size)
            clear i0 i1 hg3 hR2 HCode
            rcases hM : codeB code with _ | _
            · have HC := Lib.hid (mayP_false (fs := fs) (k := k) (by rw [H1.out]; exact hkl) (by rw [HI.out]; simp [fnB, hM]))
              go_wp2
              go_ret
              exact ⟨by rw [HC.out]; rfl, hb⟩
            · have HM : Hid (fnB k (args, code) = true) := Lib.hid (by
                simp at g1 g2
                have := HK.out
                simp [fnB, hM, g1, g2]
                omega)
              go_wp2
              go_roundw
              case rel =>
                refine ⟨k + 1, by omega, by go_num, Lib.hid (fun j hj => ?_), hb⟩
                rcases Nat.lt_succ_iff_lt_or_eq.1 hj with hj | rfl
                · exact HF.out j hj
                · rw [HI.out]
                  exact HM.out
              case measure => simp [intOf]; omega
          · have HC := Lib.hid (mayP_false (fs := fs) (k := k) (by rw [H1.out]; exact hkl) (by
              rw [HI.out]
              simp at g2
              simp [fnB]
              omega))
            go_wp2
            go_ret
            exact ⟨by rw [HC.out]; rfl, hb⟩
        · have HC := Lib.hid (mayP_false (fs := fs) (k := k) (by rw [H1.out]; exact hkl) (by
            rw [HI.out]
            simp at g1
            simp [fnB]
            omega))
          go_wp2
          go_ret
          exact ⟨by rw [HC.out]; rfl, hb⟩
      · have HC := Lib.hid (mayP_end (fun j hj => HF.out j (by rw [H1.out] at hj; omega)))
        rw [H1.out] at HC
        have hkI : ¬ (k : Int) < (len : Int) := by omega
        go_wp2
        go_ret
        exact ⟨by rw [HC.out]; simp; omega, hb⟩
  · have HC := Lib.hid (mayP_false (fs := fs) (k := 0) (by rw [H1.out]; omega) (by
      rw [HI0.out]
      simp [fnB, ha0]))
    have hn0 : (args0 != 0) = true := by simpa using ha0
    go_enter Tryd.func29, Tryd.ntmps29
    go_wp2
    go_ret
    exact ⟨by rw [HC.out]; rfl, hg⟩
end Go.Proofs.YtilddlgcfbefiaaDoor

