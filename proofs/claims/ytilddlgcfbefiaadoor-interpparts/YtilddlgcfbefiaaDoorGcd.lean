/-
  Texts that the laws of this layer stand on, one behind the other.
-/
import Derived.Test.YtilddlgcfbefiaaDoorGcc
import Derived.LaidMore
import Derived.Stop.Joined
import Derived.Deep.Fields
import Derived.Deep.Slices
/-
  The table of rows out of the rows' condition; an instruction that came in, opened.
-/
namespace Go.Proofs.YtilddlgcfbefiaaDoor
set_option linter.unusedSimpArgs false
set_option linter.unusedVariables false
open Go.ChangeShapes Go.WideShapes Go.ChangeAt Go.RowKit Go.Deep

set_option maxRecDepth 100000 in
theorem cells3 : Tryd.prog.cellsOf 3 = 1 := by kernel_rfl
set_option maxRecDepth 100000 in
theorem cells4 : Tryd.prog.cellsOf 4 = 1 := by kernel_rfl
set_option maxRecDepth 100000 in
theorem cells22 : Tryd.prog.cellsOf 25 = 1 := by kernel_rfl
set_option maxRecDepth 100000 in
theorem cells24 : Tryd.prog.cellsOf 50 = 7 := by kernel_rfl
set_option maxRecDepth 100000 in
theorem cells41 : Tryd.prog.cellsOf 118 = 7 := by kernel_rfl
set_option maxRecDepth 100000 in
theorem cells42 : Tryd.prog.cellsOf 119 = 63 := by kernel_rfl

section
variable {H : Type} {enc : TypeId × Value → H} {w : World} {base : Nat} {spare : Nat → Bool} {held : Bool}
/- seven cells that read as a struct of four ints, a bool, an int and a uint32 -/
set_option maxRecDepth 100000 in
theorem open7 {t : TypeId} {f0 f1 f2 f3 f4 f5 f6 : Field} {fuel : Nat} {cs : List Value} {x : DataW H × List MemPlace} (hs : Tryd.prog.underlying t = some (.struct #[f0, f1, f2, f3, f4, f5, f6]))
    (hone : oneCellFields Tryd.prog #[f0, f1, f2, f3, f4, f5, f6] = true) (hC : Tryd.prog.cellsOf t = 7)
    (t0 : f0.type = 3) (t1 : f1.type = 3) (t2 : f2.type = 3) (t3 : f3.type = 3) (t4 : f4.type = 4) (t5 : f5.type = 3) (t6 : f6.type = 25) (h : DataW.trod enc Tryd.prog w base spare held fuel t cs = some x) :
    ∃ (o f d s : Int) (r : Bool) (y m : Int), cs = [.int .i64 o, .int .i64 f, .int .i64 d, .int .i64 s, .bool r, .int .i64 y, .int .u32 m] ∧
      x.1 = .agg [.lit (.int .i64 o), .lit (.int .i64 f), .lit (.int .i64 d), .lit (.int .i64 s), .lit (.bool r), .lit (.int .i64 y), .lit (.int .u32 m)] ∧ (Lit.int .u32 m).wf = true := by
  obtain ⟨xs, n, _, hx, hl, hxl, hg⟩ := DataW.trod_struct hs h
  rw [hC] at hl
  match cs, hl with
  | [c0, c1, c2, c3, c4, c5, c6], _ =>
    match xs, hxl with
    | [y0, y1, y2, y3, y4, y5, y6], _ =>
      have k0 := hg 0 f0 rfl
      have k1 := hg 1 f1 rfl
      have k2 := hg 2 f2 rfl
      have k3 := hg 3 f3 rfl
      have k4 := hg 4 f4 rfl
      have k5 := hg 5 f5 rfl
      have k6 := hg 6 f6 rfl
      rw [(hone_of hone 0 f0 rfl).1, (hone_of hone 0 f0 rfl).2, t0] at k0
      rw [(hone_of hone 1 f1 rfl).1, (hone_of hone 1 f1 rfl).2, t1] at k1
      rw [(hone_of hone 2 f2 rfl).1, (hone_of hone 2 f2 rfl).2, t2] at k2
      rw [(hone_of hone 3 f3 rfl).1, (hone_of hone 3 f3 rfl).2, t3] at k3
      rw [(hone_of hone 4 f4 rfl).1, (hone_of hone 4 f4 rfl).2, t4] at k4
      rw [(hone_of hone 5 f5 rfl).1, (hone_of hone 5 f5 rfl).2, t5] at k5
      rw [(hone_of hone 6 f6 rfl).1, (hone_of hone 6 f6 rfl).2, t6] at k6
      obtain ⟨o, e0, rfl, _⟩ := DataW.trod_int Tryd.underlying3 k0
      obtain ⟨f, e1, rfl, _⟩ := DataW.trod_int Tryd.underlying3 k1
      obtain ⟨d, e2, rfl, _⟩ := DataW.trod_int Tryd.underlying3 k2
      obtain ⟨s, e3, rfl, _⟩ := DataW.trod_int Tryd.underlying3 k3
      obtain ⟨r, e4, rfl⟩ := DataW.trod_bool Tryd.underlying4 k4
      obtain ⟨y, e5, rfl, _⟩ := DataW.trod_int Tryd.underlying3 k5
      obtain ⟨m, e6, rfl, hm⟩ := DataW.trod_int Tryd.underlying25 k6
      simp at e0 e1 e2 e3 e4 e5 e6
      subst e0 e1 e2 e3 e4 e5 e6
      exact ⟨o, f, d, s, r, y, m, rfl, by rw [hx]; rfl, hm⟩
set_option maxRecDepth 100000 in
theorem open_inst {r0 : Reach} {b0 : Nat} {v : Value} {dd : DataW H} {p : List MemPlace} (hv : Value.okWide Tryd.prog w r0 b0 50 v) (h : DataW.Trod enc Tryd.prog w base spare held 50 v dd p) :
    ∃ (o f d s : Int) (r : Bool) (y m : Int), v = instV o f d s r y m ∧ 0 ≤ m ∧ m ≤ 4294967295 := by
  obtain ⟨cs, rfl, _⟩ := okWide_struct Tryd.underlying50 hv
  obtain ⟨l⟩ := cs
  obtain ⟨fuel, hf⟩ := h
  obtain ⟨o, f, d, s, r, y, m, hc, _, hm⟩ := open7 Tryd.underlying50 (by kernel_rfl) cells24 rfl rfl rfl rfl rfl rfl rfl hf
  simp only [Value.cells] at hc
  subst hc
  obtain ⟨h0, h1⟩ := bounds_u32 hm
  exact ⟨o, f, d, s, r, y, m, rfl, h0, h1⟩
/- a row of the table: its datum tells its cells -/
set_option maxRecDepth 100000 in
theorem row_cells {fuel : Nat} {cs : List Value} {x : DataW H × List MemPlace} {k : Nat} (h : DataW.trod enc Tryd.prog w base spare held fuel 118 cs = some x)
    (hx : x.1 = .agg [.lit (.int .i64 (rOp k)), .lit (.int .i64 (rLo k)), .lit (.int .i64 (rHi k)), .lit (.int .i64 (rRg k)), .lit (.bool (rMr k)), .lit (.int .i64 (rOf k)), .lit (.int .u32 (rIm k))]) : cs = rowL k := by
  obtain ⟨o, f, d, s, r, y, m, hc, hx', _⟩ := open7 Tryd.underlying118 (by kernel_rfl) cells41 rfl rfl rfl rfl rfl rfl rfl h
  rw [hx'] at hx
  simp only [DataW.agg.injEq, List.cons.injEq, DataW.lit.injEq, Lit.int.injEq, Lit.bool.injEq, true_and, and_true] at hx
  obtain ⟨rfl, rfl, rfl, rfl, rfl, rfl, rfl⟩ := hx
  exact hc
end

def laidL : List (String × DataW Unit) := [("drydock/inst.rows", Rows.laid_drydock_inst_rows)]
set_option maxRecDepth 100000 in
theorem gRows : Tryd.prog.globalNamed "drydock/inst.rows" = some 0 := by kernel_rfl
set_option maxRecDepth 100000 in
theorem tRows : (Tryd.prog.globals[0]?).map (·.type) = some 119 := by kernel_rfl

set_option maxRecDepth 100000 in
theorem nine_rows (l : List Value) (hl : l.length = 63) : l = (l.drop 0).take 7 ++ ((l.drop 7).take 7 ++ ((l.drop 14).take 7 ++ ((l.drop 21).take 7 ++ ((l.drop 28).take 7 ++ ((l.drop 35).take 7 ++ ((l.drop 42).take 7 ++ ((l.drop 49).take 7 ++ (l.drop 56).take 7))))))) := by
  have s : ∀ a b, b = a + 7 → (l.drop a).take 7 ++ l.drop b = l.drop a := fun a b h => by
    rw [h, ← List.drop_drop, List.take_append_drop]
  rw [List.take_of_length_le (l := l.drop 56) (by simp; omega), s 49 56 rfl, s 42 49 rfl, s 35 42 rfl, s 28 35 rfl, s 21 28 rfl, s 14 21 rfl, s 7 14 rfl, s 0 7 rfl]
  rfl
set_option maxRecDepth 100000 in
theorem rows_of_laid {W : World} (h : laidMetH Tryd.prog laidL W) : RowsIn W := by
  rw [MakeChecks.laidMetH_plain _ _ _ (by kernel_rfl)] at h
  obtain ⟨ps, ⟨g0, t0, cs0, f0, p0, q0, hg0, ht0, hv0, hd0, _⟩, _, _⟩ := h
  obtain rfl := Option.some.inj (gRows.symm.trans hg0)
  obtain rfl := Option.some.inj (tRows.symm.trans ht0)
  obtain ⟨xs, m, _, hx, hl, hn, hel⟩ := DataW.trod_array Tryd.underlying119 hd0
  rw [cells42] at hl
  rw [cells41] at hel
  match xs, hn with
  | [x0, x1, x2, x3, x4, x5, x6, x7, x8], _ =>
    simp only [Rows.laid_drydock_inst_rows, Prod.mk.injEq, DataW.agg.injEq, List.map_cons, List.map_nil, List.cons.injEq, and_true] at hx
    obtain ⟨⟨e0, e1, e2, e3, e4, e5, e6, e7, e8⟩, _⟩ := hx
    have r0 := row_cells (k := 0) (hel 0 (by decide)) e0.symm
    have r1 := row_cells (k := 1) (hel 1 (by decide)) e1.symm
    have r2 := row_cells (k := 2) (hel 2 (by decide)) e2.symm
    have r3 := row_cells (k := 3) (hel 3 (by decide)) e3.symm
    have r4 := row_cells (k := 4) (hel 4 (by decide)) e4.symm
    have r5 := row_cells (k := 5) (hel 5 (by decide)) e5.symm
    have r6 := row_cells (k := 6) (hel 6 (by decide)) e6.symm
    have r7 := row_cells (k := 7) (hel 7 (by decide)) e7.symm
    have r8 := row_cells (k := 8) (hel 8 (by decide)) e8.symm
    have hcs : cs0 = rowsA := by
      obtain ⟨l⟩ := cs0
      unfold rowsA
      congr 1
      rw [← r0, ← r1, ← r2, ← r3, ← r4, ← r5, ← r6, ← r7, ← r8]
      exact nine_rows l hl
    subst hcs
    simp only [World.var?, gRows, Option.bind_some] at hv0
    split at hv0
    · rename_i c t fr hh
      obtain rfl := Option.some.inj hv0
      exact ⟨t, fr, hh⟩
    · cases hv0
end Go.Proofs.YtilddlgcfbefiaaDoor

/-
  Programs, functions and bytes that came in, opened: what is read of an argument is a list of functions that lies in memory.
-/
namespace Go.Proofs.YtilddlgcfbefiaaDoor
set_option linter.unusedSimpArgs false
set_option linter.unusedVariables false
open Go.ChangeShapes Go.WideShapes Go.ChangeAt Go.RowKit Go.Deep

set_option maxRecDepth 100000 in
theorem cells28 : Tryd.prog.cellsOf 47 = 2 := by kernel_rfl
set_option maxRecDepth 100000 in
theorem cells26 : Tryd.prog.cellsOf 45 = 1 := by kernel_rfl
set_option maxRecDepth 100000 in
theorem cells24' : Tryd.prog.cellsOf 24 = 1 := by kernel_rfl
set_option maxRecDepth 100000 in
theorem cells22' : Tryd.prog.cellsOf 22 = 1 := by kernel_rfl
set_option maxRecDepth 100000 in
theorem fields28 : oneCellFields Tryd.prog #[⟨"Args", 3, 0, false, "", "", 0⟩, ⟨"Code", 45, 1, false, "", "", 8⟩] = true := by kernel_rfl
set_option maxRecDepth 100000 in
theorem fields24' : oneCellFields Tryd.prog #[⟨"Fns", 22, 0, false, "", "", 0⟩] = true := by kernel_rfl
set_option maxRecDepth 100000 in
theorem add_cell (a : Addr) (k : Nat) : 0 < k → a.add k = ⟨a.block, a.off + k, none⟩ := add_add_cell a k

section
variable {H : Type} {enc : TypeId × Value → H} {w : World} {base : Nat} {spare : Nat → Bool} {held : Bool}
set_option maxRecDepth 100000 in
theorem inst_here {fuel : Nat} {a : Addr} {cs : List Value} {x : DataW H × List MemPlace} (hc : w.cells? base a 7 = some cs) (h : DataW.trod enc Tryd.prog w base spare held fuel 50 cs = some x) : ∃ i : I, okI i ∧ InstHere w a i := by
  obtain ⟨o, f, d, s, r, y, m, rfl, _, hm⟩ := open7 Tryd.underlying50 (by kernel_rfl) cells24 rfl rfl rfl rfl rfl rfl rfl h
  obtain ⟨_, _, hat⟩ := World.cells?_some hc
  obtain ⟨h0, h1⟩ := bounds_u32 hm
  have k0 := hat 0 (by omega)
  have k1 := hat 1 (by omega)
  have k2 := hat 2 (by omega)
  have k3 := hat 3 (by omega)
  have k4 := hat 4 (by omega)
  have k5 := hat 5 (by omega)
  have k6 := hat 6 (by omega)
  rw [Addr.add_zero'] at k0
  rw [add_cell a 1 (by omega)] at k1
  rw [add_cell a 2 (by omega)] at k2
  rw [add_cell a 3 (by omega)] at k3
  rw [add_cell a 4 (by omega)] at k4
  rw [add_cell a 5 (by omega)] at k5
  rw [add_cell a 6 (by omega)] at k6
  exact ⟨(o, f, d, s, r, y, m), ⟨h0, h1⟩, k0, k1, k2, k3, k4, k5, k6⟩
set_option maxRecDepth 100000 in
theorem code_here {fuel : Nat} {v : Value} {x : DataW H × List MemPlace} (h : DataW.trod enc Tryd.prog w base spare held fuel 45 [v] = some x) : ∃ a len cap c, v = .slice a len cap ∧ CodeAt w a len cap c := by
  rcases open_slice Tryd.underlying45 h with ⟨hcs, _⟩ | ⟨a, len, cap, m, n, D, Pl, hcs, _, hl, hm, hmm, _, hx⟩
  · simp at hcs
    exact ⟨none, 0, 0, [], hcs, rfl, Nat.le_refl _, Nat.zero_le _, by simp, .inl rfl⟩
  · simp at hcs
    have hml : len ≤ m := by rw [hmm]; split <;> omega
    obtain ⟨c, hcl, hc⟩ := exists_list zeroI (fun k (i : I) => okI i ∧ InstHere w (a.add (k * 7)) i) len (fun k hk => by
      obtain ⟨cs', h1, h2⟩ := hx k (by omega)
      rw [cells24] at h1
      exact inst_here h1 h2)
    refine ⟨some a, len, cap, c, hcs, hcl, hl, hm, fun i hi => ?_, .inr ⟨a, rfl, fun k hk => (hc k hk).2⟩⟩
    obtain ⟨j, hj, rfl⟩ := List.getElem_of_mem hi
    have := (hc j (by omega)).1
    rwa [List.getD_eq_getElem?_getD, List.getElem?_eq_getElem hj] at this
/- a function's two cells -/
set_option maxRecDepth 100000 in
theorem fn_cells {fuel : Nat} {cs : List Value} {x : DataW H × List MemPlace} (h : DataW.trod enc Tryd.prog w base spare held fuel 47 cs = some x) : ∃ (args : Int) (a : Option Addr) (len cap : Nat) (c : List I), cs = [.int .i64 args, .slice a len cap] ∧ CodeAt w a len cap c := by
  obtain ⟨xs, n, _, _, hl, hxl, hg⟩ := DataW.trod_struct Tryd.underlying47 h
  rw [cells28] at hl
  match cs, hl with
  | [c0, c1], _ =>
    have k0 := hg 0 _ rfl
    have k1 := hg 1 _ rfl
    have hone := hone_of (P := Tryd.prog) fields28
    rw [(hone 0 _ rfl).1, (hone 0 _ rfl).2] at k0
    rw [(hone 1 _ rfl).1, (hone 1 _ rfl).2] at k1
    match xs, hxl with
    | [y0, y1], _ =>
      obtain ⟨args, e0, _, _⟩ := DataW.trod_int Tryd.underlying3 k0
      have k1' : DataW.trod enc Tryd.prog w base spare held n 45 [c1] = some y1 := k1
      obtain ⟨a, len, cap, c, rfl, hc⟩ := code_here k1'
      have e0' : [c0] = [.int .i64 args] := e0
      simp at e0'
      subst e0'
      exact ⟨args, a, len, cap, c, rfl, hc⟩
set_option maxRecDepth 100000 in
theorem fns_here {fuel : Nat} {v : Value} {x : DataW H × List MemPlace} (h : DataW.trod enc Tryd.prog w base spare held fuel 22 [v] = some x) : ∃ a len cap fs, v = .slice a len cap ∧ FnsAt w a len cap fs := by
  rcases open_slice Tryd.underlying22 h with ⟨hcs, _⟩ | ⟨a, len, cap, m, n, D, Pl, hcs, _, hl, hm, hmm, _, hx⟩
  · simp at hcs
    exact ⟨none, 0, 0, [], hcs, rfl, Nat.le_refl _, Nat.zero_le _, .inl rfl⟩
  · simp at hcs
    have hml : len ≤ m := by rw [hmm]; split <;> omega
    obtain ⟨fs, hcl, hc⟩ := exists_list zeroF (fun k (f : Fun) => FnHere w (a.add (k * 2)) f) len (fun k hk => by
      obtain ⟨cs', h1, h2⟩ := hx k (by omega)
      rw [cells28] at h1
      obtain ⟨args, b, l, cc, c, rfl, hC⟩ := fn_cells h2
      obtain ⟨_, _, hat⟩ := World.cells?_some h1
      have k0 := hat 0 (by omega)
      have k1 := hat 1 (by omega)
      rw [Addr.add_zero'] at k0
      rw [add_cell _ 1 (by omega)] at k1
      exact ⟨(args, c), k0, b, l, cc, k1, hC⟩)
    exact ⟨some a, len, cap, fs, hcs, hcl, hl, hm, .inr ⟨a, rfl, hc⟩⟩
set_option maxRecDepth 100000 in
theorem open_prog {r0 : Reach} {b0 : Nat} {v : Value} {dd : DataW H} {p : List MemPlace} (hv : Value.okWide Tryd.prog w r0 b0 24 v) (h : DataW.Trod enc Tryd.prog w base spare held 24 v dd p) :
    ∃ a len cap fs, v = .agg #[.slice a len cap] ∧ FnsAt w a len cap fs := by
  obtain ⟨cs, rfl, _⟩ := okWide_struct Tryd.underlying24 hv
  obtain ⟨l⟩ := cs
  obtain ⟨fuel, hf⟩ := h
  obtain ⟨xs, n, _, _, hl, hxl, hg⟩ := DataW.trod_struct Tryd.underlying24 hf
  simp only [Value.cells] at hl hg
  rw [cells24'] at hl
  match l, hl with
  | [c0], _ =>
    have k0 := hg 0 _ rfl
    have hone := hone_of (P := Tryd.prog) fields24'
    rw [(hone 0 _ rfl).1, (hone 0 _ rfl).2] at k0
    match xs, hxl with
    | [y0], _ =>
      have k0' : DataW.trod enc Tryd.prog w base spare held n 22 [c0] = some y0 := k0
      obtain ⟨a, len, cap, fs, rfl, hF⟩ := fns_here k0'
      exact ⟨a, len, cap, fs, rfl, hF⟩
set_option maxRecDepth 100000 in
theorem open_fn {r0 : Reach} {b0 : Nat} {v : Value} {dd : DataW H} {p : List MemPlace} (hv : Value.okWide Tryd.prog w r0 b0 47 v) (h : DataW.Trod enc Tryd.prog w base spare held 47 v dd p) :
    ∃ args a len cap c, v = .agg #[.int .i64 args, .slice a len cap] ∧ CodeAt w a len cap c := by
  obtain ⟨cs, rfl, _⟩ := okWide_struct Tryd.underlying47 hv
  obtain ⟨l⟩ := cs
  obtain ⟨fuel, hf⟩ := h
  obtain ⟨args, a, len, cap, c, hc, hC⟩ := fn_cells hf
  simp only [Value.cells] at hc
  subst hc
  exact ⟨args, a, len, cap, c, rfl, hC⟩
end
end Go.Proofs.YtilddlgcfbefiaaDoor

