/-
  The table of rows out of the rows' condition; an instruction that came in, opened.
-/
import Derived.Test.YtdgfklmbglfbfaaDoorB
import Derived.LaidMore
import Derived.Stop.Joined
import Derived.Deep.Fields
namespace Go.Proofs.YtdgfklmbglfbfaaDoor
open Go.ChangeShapes Go.WideShapes Go.ChangeAt Go.RowKit Go.Deep

set_option maxRecDepth 100000 in
theorem cells3 : Tryd.prog.cellsOf 3 = 1 := by kernel_rfl
set_option maxRecDepth 100000 in
theorem cells4 : Tryd.prog.cellsOf 4 = 1 := by kernel_rfl
set_option maxRecDepth 100000 in
theorem cells22 : Tryd.prog.cellsOf 39 = 1 := by kernel_rfl
set_option maxRecDepth 100000 in
theorem cells24 : Tryd.prog.cellsOf 53 = 7 := by kernel_rfl
set_option maxRecDepth 100000 in
theorem cells41 : Tryd.prog.cellsOf 87 = 7 := by kernel_rfl
set_option maxRecDepth 100000 in
theorem cells42 : Tryd.prog.cellsOf 88 = 63 := by kernel_rfl

section
variable {H : Type} {enc : TypeId × Value → H} {w : World} {base : Nat} {spare : Nat → Bool} {held : Bool}
/- seven cells that read as a struct of four ints, a bool, an int and a uint32 -/
set_option maxRecDepth 100000 in
theorem open7 {t : TypeId} {f0 f1 f2 f3 f4 f5 f6 : Field} {fuel : Nat} {cs : List Value} {x : DataW H × List MemPlace} (hs : Tryd.prog.underlying t = some (.struct #[f0, f1, f2, f3, f4, f5, f6]))
    (hone : oneCellFields Tryd.prog #[f0, f1, f2, f3, f4, f5, f6] = true) (hC : Tryd.prog.cellsOf t = 7)
    (t0 : f0.type = 3) (t1 : f1.type = 3) (t2 : f2.type = 3) (t3 : f3.type = 3) (t4 : f4.type = 4) (t5 : f5.type = 3) (t6 : f6.type = 39) (h : DataW.trod enc Tryd.prog w base spare held fuel t cs = some x) :
    ∃ (o f d s : Int) (r : Bool) (y m : Int), cs = [.int .i64 o, .int .i64 f, .int .i64 d, .int .i64 s, .bool r, .int .i64 y, .int .u32 m] ∧
      x.1 = .agg [.lit (.int .i64 o), .lit (.int .i64 f), .lit (.int .i64 d), .lit (.int .i64 s), .lit (.bool r), .lit (.int .i64 y), .lit (.int .u32 m)] ∧ (Lit.int .u32 m).wf = true := by
  obtain ⟨xs, n, _, hx, hl, hxl, hg⟩ := DataW.trod_struct hs h
  rw [hC] at hl
  match cs, hl with
  | [c0, c1, c2, c3, c4, c5, c6], _ =>
    match xs, hxl with
    | [y0, y1, y2, y3, y4, y5, y6], _ =>
      have k0 := hg 0 f0 rfl
      have k1 := hg 1 f1 rfl
      have k2 := hg 2 f2 rfl
      have k3 := hg 3 f3 rfl
      have k4 := hg 4 f4 rfl
      have k5 := hg 5 f5 rfl
      have k6 := hg 6 f6 rfl
      rw [(hone_of hone 0 f0 rfl).1, (hone_of hone 0 f0 rfl).2, t0] at k0
      rw [(hone_of hone 1 f1 rfl).1, (hone_of hone 1 f1 rfl).2, t1] at k1
      rw [(hone_of hone 2 f2 rfl).1, (hone_of hone 2 f2 rfl).2, t2] at k2
      rw [(hone_of hone 3 f3 rfl).1, (hone_of hone 3 f3 rfl).2, t3] at k3
      rw [(hone_of hone 4 f4 rfl).1, (hone_of hone 4 f4 rfl).2, t4] at k4
      rw [(hone_of hone 5 f5 rfl).1, (hone_of hone 5 f5 rfl).2, t5] at k5
      rw [(hone_of hone 6 f6 rfl).1, (hone_of hone 6 f6 rfl).2, t6] at k6
      obtain ⟨o, e0, rfl, _⟩ := DataW.trod_int Tryd.underlying3 k0
      obtain ⟨f, e1, rfl, _⟩ := DataW.trod_int Tryd.underlying3 k1
      obtain ⟨d, e2, rfl, _⟩ := DataW.trod_int Tryd.underlying3 k2
      obtain ⟨s, e3, rfl, _⟩ := DataW.trod_int Tryd.underlying3 k3
      obtain ⟨r, e4, rfl⟩ := DataW.trod_bool Tryd.underlying4 k4
      obtain ⟨y, e5, rfl, _⟩ := DataW.trod_int Tryd.underlying3 k5
      obtain ⟨m, e6, rfl, hm⟩ := DataW.trod_int Tryd.underlying39 k6
      simp at e0 e1 e2 e3 e4 e5 e6
      subst e0 e1 e2 e3 e4 e5 e6
      exact ⟨o, f, d, s, r, y, m, rfl, by rw [hx]; rfl, hm⟩
set_option maxRecDepth 100000 in
theorem open_inst {r0 : Reach} {b0 : Nat} {v : Value} {dd : DataW H} {p : List MemPlace} (hv : Value.okWide Tryd.prog w r0 b0 53 v) (h : DataW.Trod enc Tryd.prog w base spare held 53 v dd p) :
    ∃ (o f d s : Int) (r : Bool) (y m : Int), v = instV o f d s r y m ∧ 0 ≤ m ∧ m ≤ 4294967295 := by
  obtain ⟨cs, rfl, _⟩ := okWide_struct Tryd.underlying53 hv
  obtain ⟨l⟩ := cs
  obtain ⟨fuel, hf⟩ := h
  obtain ⟨o, f, d, s, r, y, m, hc, _, hm⟩ := open7 Tryd.underlying53 (by kernel_rfl) cells24 rfl rfl rfl rfl rfl rfl rfl hf
  simp only [Value.cells] at hc
  subst hc
  obtain ⟨h0, h1⟩ := bounds_u32 hm
  exact ⟨o, f, d, s, r, y, m, rfl, h0, h1⟩
/- a row of the table: its datum tells its cells -/
set_option maxRecDepth 100000 in
theorem row_cells {fuel : Nat} {cs : List Value} {x : DataW H × List MemPlace} {k : Nat} (h : DataW.trod enc Tryd.prog w base spare held fuel 87 cs = some x)
    (hx : x.1 = .agg [.lit (.int .i64 (rOp k)), .lit (.int .i64 (rLo k)), .lit (.int .i64 (rHi k)), .lit (.int .i64 (rRg k)), .lit (.bool (rMr k)), .lit (.int .i64 (rOf k)), .lit (.int .u32 (rIm k))]) : cs = rowL k := by
  obtain ⟨o, f, d, s, r, y, m, hc, hx', _⟩ := open7 Tryd.underlying87 (by kernel_rfl) cells41 rfl rfl rfl rfl rfl rfl rfl h
  rw [hx'] at hx
  simp only [DataW.agg.injEq, List.cons.injEq, DataW.lit.injEq, Lit.int.injEq, Lit.bool.injEq, true_and, and_true] at hx
  obtain ⟨rfl, rfl, rfl, rfl, rfl, rfl, rfl⟩ := hx
  exact hc
end

def laidL : List (String × DataW Unit) := [("drydock/inst.rows", Rows.laid_drydock_inst_rows)]
set_option maxRecDepth 100000 in
theorem gRows : Tryd.prog.globalNamed "drydock/inst.rows" = some 0 := by kernel_rfl
set_option maxRecDepth 100000 in
theorem tRows : (Tryd.prog.globals[0]?).map (·.type) = some 88 := by kernel_rfl

set_option maxRecDepth 100000 in
theorem nine_rows (l : List Value) (hl : l.length = 63) : l = (l.drop 0).take 7 ++ ((l.drop 7).take 7 ++ ((l.drop 14).take 7 ++ ((l.drop 21).take 7 ++ ((l.drop 28).take 7 ++ ((l.drop 35).take 7 ++ ((l.drop 42).take 7 ++ ((l.drop 49).take 7 ++ (l.drop 56).take 7))))))) := by
  have s : ∀ a b, b = a + 7 → (l.drop a).take 7 ++ l.drop b = l.drop a := fun a b h => by
    rw [h, ← List.drop_drop, List.take_append_drop]
  rw [List.take_of_length_le (l := l.drop 56) (by simp; omega), s 49 56 rfl, s 42 49 rfl, s 35 42 rfl, s 28 35 rfl, s 21 28 rfl, s 14 21 rfl, s 7 14 rfl, s 0 7 rfl]
  rfl
set_option maxRecDepth 100000 in
theorem rows_of_laid {W : World} (h : laidMetH Tryd.prog laidL W) : RowsIn W := by
  rw [MakeChecks.laidMetH_plain _ _ _ (by kernel_rfl)] at h
  obtain ⟨ps, ⟨g0, t0, cs0, f0, p0, q0, hg0, ht0, hv0, hd0, _⟩, _, _⟩ := h
  obtain rfl := Option.some.inj (gRows.symm.trans hg0)
  obtain rfl := Option.some.inj (tRows.symm.trans ht0)
  obtain ⟨xs, m, _, hx, hl, hn, hel⟩ := DataW.trod_array Tryd.underlying88 hd0
  rw [cells42] at hl
  rw [cells41] at hel
  match xs, hn with
  | [x0, x1, x2, x3, x4, x5, x6, x7, x8], _ =>
    simp only [Rows.laid_drydock_inst_rows, Prod.mk.injEq, DataW.agg.injEq, List.map_cons, List.map_nil, List.cons.injEq, and_true] at hx
    obtain ⟨⟨e0, e1, e2, e3, e4, e5, e6, e7, e8⟩, _⟩ := hx
    have r0 := row_cells (k := 0) (hel 0 (by decide)) e0.symm
    have r1 := row_cells (k := 1) (hel 1 (by decide)) e1.symm
    have r2 := row_cells (k := 2) (hel 2 (by decide)) e2.symm
    have r3 := row_cells (k := 3) (hel 3 (by decide)) e3.symm
    have r4 := row_cells (k := 4) (hel 4 (by decide)) e4.symm
    have r5 := row_cells (k := 5) (hel 5 (by decide)) e5.symm
    have r6 := row_cells (k := 6) (hel 6 (by decide)) e6.symm
    have r7 := row_cells (k := 7) (hel 7 (by decide)) e7.symm
    have r8 := row_cells (k := 8) (hel 8 (by decide)) e8.symm
    have hcs : cs0 = rowsA := by
      obtain ⟨l⟩ := cs0
      unfold rowsA
      congr 1
      rw [← r0, ← r1, ← r2, ← r3, ← r4, ← r5, ← r6, ← r7, ← r8]
      exact nine_rows l hl
    subst hcs
    simp only [World.var?, gRows, Option.bind_some] at hv0
    split at hv0
    · rename_i c t fr hh
      obtain rfl := Option.some.inj hv0
      exact ⟨t, fr, hh⟩
    · cases hv0
end Go.Proofs.YtdgfklmbglfbfaaDoor
