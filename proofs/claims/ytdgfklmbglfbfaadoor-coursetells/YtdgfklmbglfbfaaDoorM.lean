/-
  Programs in memory: slices of instructions, slices of functions.
-/
import Derived.Test.YtdgfklmbglfbfaaDoorPlain4
import Derived.Test.YtdgfklmbglfbfaaDoorB
import Derived.Test.YtdgfklmbglfbfaaDoorKitG
namespace Go.Proofs.YtdgfklmbglfbfaaDoor
open Go.RowKit

/- the seven cells of an instruction from a on -/
def InstHere (W : World) (a : Addr) (i : I) : Prop :=
  W.cell? a = some (.int .i64 i.1) ∧ W.cell? ⟨a.block, a.off + 1, none⟩ = some (.int .i64 i.2.1) ∧ W.cell? ⟨a.block, a.off + 2, none⟩ = some (.int .i64 i.2.2.1) ∧ W.cell? ⟨a.block, a.off + 3, none⟩ = some (.int .i64 i.2.2.2.1) ∧
  W.cell? ⟨a.block, a.off + 4, none⟩ = some (.bool i.2.2.2.2.1) ∧ W.cell? ⟨a.block, a.off + 5, none⟩ = some (.int .i64 i.2.2.2.2.2.1) ∧ W.cell? ⟨a.block, a.off + 6, none⟩ = some (.int .u32 i.2.2.2.2.2.2)
theorem InstHere.below {W W' : World} {a : Addr} {i : I} (h : InstHere W a i) (hb : Below W.heap.size W W') : InstHere W' a i := by
  obtain ⟨c0, c1, c2, c3, c4, c5, c6⟩ := h
  exact ⟨(hb.cell (lt_of_cell c0)).trans c0, (hb.cell (lt_of_cell c1)).trans c1, (hb.cell (lt_of_cell c2)).trans c2, (hb.cell (lt_of_cell c3)).trans c3, (hb.cell (lt_of_cell c4)).trans c4, (hb.cell (lt_of_cell c5)).trans c5, (hb.cell (lt_of_cell c6)).trans c6⟩
/- a slice of instructions -/
def CodeAt (W : World) (a : Option Addr) (len cap : Nat) (c : List I) : Prop :=
  c.length = len ∧ len ≤ cap ∧ cap ≤ maxLen ∧ (∀ i ∈ c, okI i) ∧ (len = 0 ∨ ∃ y, a = some y ∧ ∀ k, k < len → InstHere W (y.add (k * 7)) (c.getD k zeroI))
theorem CodeAt.below {W W' : World} {a : Option Addr} {len cap : Nat} {c : List I} (h : CodeAt W a len cap c) (hb : Below W.heap.size W W') : CodeAt W' a len cap c := by
  obtain ⟨h1, h2, h3, h4, h5⟩ := h
  refine ⟨h1, h2, h3, h4, ?_⟩
  rcases h5 with h5 | ⟨y, h5, h6⟩
  · exact .inl h5
  · exact .inr ⟨y, h5, fun k hk => (h6 k hk).below hb⟩
/- a function's two cells from a on, and its code -/
def FnHere (W : World) (a : Addr) (f : Fun) : Prop :=
  W.cell? a = some (.int .i64 f.1) ∧ ∃ b l c, W.cell? ⟨a.block, a.off + 1, none⟩ = some (.slice b l c) ∧ CodeAt W b l c f.2
theorem FnHere.below {W W' : World} {a : Addr} {f : Fun} (h : FnHere W a f) (hb : Below W.heap.size W W') : FnHere W' a f := by
  obtain ⟨c0, b, l, c, c1, hc⟩ := h
  exact ⟨(hb.cell (lt_of_cell c0)).trans c0, b, l, c, (hb.cell (lt_of_cell c1)).trans c1, hc.below hb⟩
/- a slice of functions -/
def FnsAt (W : World) (a : Option Addr) (len cap : Nat) (fs : List Fun) : Prop :=
  fs.length = len ∧ len ≤ cap ∧ cap ≤ maxLen ∧ (len = 0 ∨ ∃ y, a = some y ∧ ∀ k, k < len → FnHere W (y.add (k * 2)) (fs.getD k zeroF))
theorem FnsAt.below {W W' : World} {a : Option Addr} {len cap : Nat} {fs : List Fun} (h : FnsAt W a len cap fs) (hb : Below W.heap.size W W') : FnsAt W' a len cap fs := by
  obtain ⟨h1, h2, h3, h5⟩ := h
  refine ⟨h1, h2, h3, ?_⟩
  rcases h5 with h5 | ⟨y, h5, h6⟩
  · exact .inl h5
  · exact .inr ⟨y, h5, fun k hk => (h6 k hk).below hb⟩
end Go.Proofs.YtdgfklmbglfbfaaDoor
