/-
  Programs, functions and bytes that came in, opened: what is read of an argument is a list of functions that lies in memory.
-/
import Derived.Test.YtdgfklmbglfbfaaDoorK
import Derived.Test.YtdgfklmbglfbfaaDoorM
import Derived.Deep.Slices
namespace Go.Proofs.YtdgfklmbglfbfaaDoor
open Go.ChangeShapes Go.WideShapes Go.ChangeAt Go.RowKit Go.Deep

set_option maxRecDepth 100000 in
theorem cells28 : Tryd.prog.cellsOf 46 = 2 := by kernel_rfl
set_option maxRecDepth 100000 in
theorem cells26 : Tryd.prog.cellsOf 22 = 1 := by kernel_rfl
set_option maxRecDepth 100000 in
theorem cells24' : Tryd.prog.cellsOf 26 = 1 := by kernel_rfl
set_option maxRecDepth 100000 in
theorem cells22' : Tryd.prog.cellsOf 24 = 1 := by kernel_rfl
set_option maxRecDepth 100000 in
theorem fields28 : oneCellFields Tryd.prog #[⟨"Args", 3, 0, false, "", "", 0⟩, ⟨"Code", 22, 1, false, "", "", 8⟩] = true := by kernel_rfl
set_option maxRecDepth 100000 in
theorem fields24' : oneCellFields Tryd.prog #[⟨"Fns", 24, 0, false, "", "", 0⟩] = true := by kernel_rfl
set_option maxRecDepth 100000 in
theorem add_cell (a : Addr) (k : Nat) : 0 < k → a.add k = ⟨a.block, a.off + k, none⟩ := add_add_cell a k

section
variable {H : Type} {enc : TypeId × Value → H} {w : World} {base : Nat} {spare : Nat → Bool} {held : Bool}
set_option maxRecDepth 100000 in
theorem inst_here {fuel : Nat} {a : Addr} {cs : List Value} {x : DataW H × List MemPlace} (hc : w.cells? base a 7 = some cs) (h : DataW.trod enc Tryd.prog w base spare held fuel 53 cs = some x) : ∃ i : I, okI i ∧ InstHere w a i := by
  obtain ⟨o, f, d, s, r, y, m, rfl, _, hm⟩ := open7 Tryd.underlying53 (by kernel_rfl) cells24 rfl rfl rfl rfl rfl rfl rfl h
  obtain ⟨_, _, hat⟩ := World.cells?_some hc
  obtain ⟨h0, h1⟩ := bounds_u32 hm
  have k0 := hat 0 (by omega)
  have k1 := hat 1 (by omega)
  have k2 := hat 2 (by omega)
  have k3 := hat 3 (by omega)
  have k4 := hat 4 (by omega)
  have k5 := hat 5 (by omega)
  have k6 := hat 6 (by omega)
  rw [Addr.add_zero'] at k0
  rw [add_cell a 1 (by omega)] at k1
  rw [add_cell a 2 (by omega)] at k2
  rw [add_cell a 3 (by omega)] at k3
  rw [add_cell a 4 (by omega)] at k4
  rw [add_cell a 5 (by omega)] at k5
  rw [add_cell a 6 (by omega)] at k6
  exact ⟨(o, f, d, s, r, y, m), ⟨h0, h1⟩, k0, k1, k2, k3, k4, k5, k6⟩
set_option maxRecDepth 100000 in
theorem code_here {fuel : Nat} {v : Value} {x : DataW H × List MemPlace} (h : DataW.trod enc Tryd.prog w base spare held fuel 22 [v] = some x) : ∃ a len cap c, v = .slice a len cap ∧ CodeAt w a len cap c := by
  rcases open_slice Tryd.underlying22 h with ⟨hcs, _⟩ | ⟨a, len, cap, m, n, D, Pl, hcs, _, hl, hm, hmm, _, hx⟩
  · simp at hcs
    exact ⟨none, 0, 0, [], hcs, rfl, Nat.le_refl _, Nat.zero_le _, by simp, .inl rfl⟩
  · simp at hcs
    have hml : len ≤ m := by rw [hmm]; split <;> omega
    obtain ⟨c, hcl, hc⟩ := exists_list zeroI (fun k (i : I) => okI i ∧ InstHere w (a.add (k * 7)) i) len (fun k hk => by
      obtain ⟨cs', h1, h2⟩ := hx k (by omega)
      rw [cells24] at h1
      exact inst_here h1 h2)
    refine ⟨some a, len, cap, c, hcs, hcl, hl, hm, fun i hi => ?_, .inr ⟨a, rfl, fun k hk => (hc k hk).2⟩⟩
    obtain ⟨j, hj, rfl⟩ := List.getElem_of_mem hi
    have := (hc j (by omega)).1
    rwa [List.getD_eq_getElem?_getD, List.getElem?_eq_getElem hj] at this
/- a function's two cells -/
set_option maxRecDepth 100000 in
theorem fn_cells {fuel : Nat} {cs : List Value} {x : DataW H × List MemPlace} (h : DataW.trod enc Tryd.prog w base spare held fuel 46 cs = some x) : ∃ (args : Int) (a : Option Addr) (len cap : Nat) (c : List I), cs = [.int .i64 args, .slice a len cap] ∧ CodeAt w a len cap c := by
  obtain ⟨xs, n, _, _, hl, hxl, hg⟩ := DataW.trod_struct Tryd.underlying46 h
  rw [cells28] at hl
  match cs, hl with
  | [c0, c1], _ =>
    have k0 := hg 0 _ rfl
    have k1 := hg 1 _ rfl
    have hone := hone_of (P := Tryd.prog) fields28
    rw [(hone 0 _ rfl).1, (hone 0 _ rfl).2] at k0
    rw [(hone 1 _ rfl).1, (hone 1 _ rfl).2] at k1
    match xs, hxl with
    | [y0, y1], _ =>
      obtain ⟨args, e0, _, _⟩ := DataW.trod_int Tryd.underlying3 k0
      have k1' : DataW.trod enc Tryd.prog w base spare held n 22 [c1] = some y1 := k1
      obtain ⟨a, len, cap, c, rfl, hc⟩ := code_here k1'
      have e0' : [c0] = [.int .i64 args] := e0
      simp at e0'
      subst e0'
      exact ⟨args, a, len, cap, c, rfl, hc⟩
set_option maxRecDepth 100000 in
theorem fns_here {fuel : Nat} {v : Value} {x : DataW H × List MemPlace} (h : DataW.trod enc Tryd.prog w base spare held fuel 24 [v] = some x) : ∃ a len cap fs, v = .slice a len cap ∧ FnsAt w a len cap fs := by
  rcases open_slice Tryd.underlying24 h with ⟨hcs, _⟩ | ⟨a, len, cap, m, n, D, Pl, hcs, _, hl, hm, hmm, _, hx⟩
  · simp at hcs
    exact ⟨none, 0, 0, [], hcs, rfl, Nat.le_refl _, Nat.zero_le _, .inl rfl⟩
  · simp at hcs
    have hml : len ≤ m := by rw [hmm]; split <;> omega
    obtain ⟨fs, hcl, hc⟩ := exists_list zeroF (fun k (f : Fun) => FnHere w (a.add (k * 2)) f) len (fun k hk => by
      obtain ⟨cs', h1, h2⟩ := hx k (by omega)
      rw [cells28] at h1
      obtain ⟨args, b, l, cc, c, rfl, hC⟩ := fn_cells h2
      obtain ⟨_, _, hat⟩ := World.cells?_some h1
      have k0 := hat 0 (by omega)
      have k1 := hat 1 (by omega)
      rw [Addr.add_zero'] at k0
      rw [add_cell _ 1 (by omega)] at k1
      exact ⟨(args, c), k0, b, l, cc, k1, hC⟩)
    exact ⟨some a, len, cap, fs, hcs, hcl, hl, hm, .inr ⟨a, rfl, hc⟩⟩
set_option maxRecDepth 100000 in
theorem open_prog {r0 : Reach} {b0 : Nat} {v : Value} {dd : DataW H} {p : List MemPlace} (hv : Value.okWide Tryd.prog w r0 b0 26 v) (h : DataW.Trod enc Tryd.prog w base spare held 26 v dd p) :
    ∃ a len cap fs, v = .agg #[.slice a len cap] ∧ FnsAt w a len cap fs := by
  obtain ⟨cs, rfl, _⟩ := okWide_struct Tryd.underlying26 hv
  obtain ⟨l⟩ := cs
  obtain ⟨fuel, hf⟩ := h
  obtain ⟨xs, n, _, _, hl, hxl, hg⟩ := DataW.trod_struct Tryd.underlying26 hf
  simp only [Value.cells] at hl hg
  rw [cells24'] at hl
  match l, hl with
  | [c0], _ =>
    have k0 := hg 0 _ rfl
    have hone := hone_of (P := Tryd.prog) fields24'
    rw [(hone 0 _ rfl).1, (hone 0 _ rfl).2] at k0
    match xs, hxl with
    | [y0], _ =>
      have k0' : DataW.trod enc Tryd.prog w base spare held n 24 [c0] = some y0 := k0
      obtain ⟨a, len, cap, fs, rfl, hF⟩ := fns_here k0'
      exact ⟨a, len, cap, fs, rfl, hF⟩
set_option maxRecDepth 100000 in
theorem open_fn {r0 : Reach} {b0 : Nat} {v : Value} {dd : DataW H} {p : List MemPlace} (hv : Value.okWide Tryd.prog w r0 b0 46 v) (h : DataW.Trod enc Tryd.prog w base spare held 46 v dd p) :
    ∃ args a len cap c, v = .agg #[.int .i64 args, .slice a len cap] ∧ CodeAt w a len cap c := by
  obtain ⟨cs, rfl, _⟩ := okWide_struct Tryd.underlying46 hv
  obtain ⟨l⟩ := cs
  obtain ⟨fuel, hf⟩ := h
  obtain ⟨args, a, len, cap, c, hc, hC⟩ := fn_cells hf
  simp only [Value.cells] at hc
  subst hc
  exact ⟨args, a, len, cap, c, rfl, hC⟩
end
end Go.Proofs.YtdgfklmbglfbfaaDoor
