/-
  What lies in memory while the package's calls work: the argument, the result's variable, a table of one's own; posts of the calls.
-/
import Derived.Test.YtmlmdhnjafakiaaU9
namespace Go.Proofs.Ytmlmdhnjafakiaa
open Go Go.RowKit
set_option linter.unusedVariables false

/- a table that a call returns in memory of its own, with one more result, with two more -/
def Own2 (t : Tb) (v : Value) (w : World) (e : Ending) (w' : World) : Prop := ∃ u, e = .returned (.tuple #[tbV t.1 u t.2.2, v]) ∧ Below w.heap.size w w' ∧ Row w' w.heap.size u t.2.1
def Own3 (t : Tb) (v v2 : Value) (w : World) (e : Ending) (w' : World) : Prop := ∃ u, e = .returned (.tuple #[tbV t.1 u t.2.2, v, v2]) ∧ Below w.heap.size w w' ∧ Row w' w.heap.size u t.2.1
/- a variable that holds a table lies in none of the blocks of a row -/
theorem own_apart {W W' : World} {base U : Nat} {e : TypeId} {size n : Nat} {v : Value} {xs : List Value} {cs : Array Value} (h : W.ownsRow base e size v n xs) (he : e ≠ 44) (hB : Box W U 44 cs) (hg : W.grownBy W' (some U)) : W'.ownsRow base e size v n xs := by
  refine h.kept hg (.inr (fun e' => ?_))
  obtain ⟨_, ⟨rfl, _⟩ | ⟨g, cap, cur, rfl, _, hh, _⟩⟩ := h
  · cases e'
  · have e2 : g = U := Option.some.inj e'
    subst e2
    have hB' : W.heap[g]? = some (.cells cs 44 (0, 0)) := hB
    rw [hB'] at hh
    simp only [Option.some.injEq, Obj.cells.injEq] at hh
    exact he hh.2.1.symm
theorem Row.apart {W W' : World} {base U : Nat} {v : Value} {es : List Ent} {cs : Array Value} (h : Row W base v es) (hB : Box W U 44 cs) (hg : W.grownBy W' (some U)) : Row W' base v es := by
  obtain ⟨xs, o, od⟩ := h
  refine ⟨xs, own_apart o (by decide) hB hg, od.1, fun k hk => ?_, od.2.2⟩
  obtain ⟨e1, cv, e2, e3, e4, e5⟩ := od.2.1 k hk
  exact ⟨e1, cv, e2, own_apart e3 (by decide) hB hg, e4, e5⟩
theorem Row.notBox {W : World} {base U : Nat} {v : Value} {es : List Ent} {cs : Array Value} (h : Row W base v es) (hB : Box W U 44 cs) : v.ownBlock ≠ some U := by
  obtain ⟨xs, ⟨_, ⟨rfl, _⟩ | ⟨g, cap, cur, rfl, _, hh, _⟩⟩, _⟩ := h
  · intro e
    cases e
  · intro e
    have e2 : g = U := Option.some.inj e
    subst e2
    have hB' : W.heap[g]? = some (.cells cs 44 (0, 0)) := hB
    rw [hB'] at hh
    simp only [Option.some.injEq, Obj.cells.injEq] at hh
    exact absurd hh.2.1 (by decide)
theorem Row.words {W : World} {base g n c : Nat} {es : List Ent} (h : Row W base (.slice (some ⟨g, 0, none⟩) n c) es) (hn : es.length = n) {j : Nat} (hj : j < n) (h0 : 0 < (es.getD j zeroE).2.length) :
    ∃ gv cw, W.cell? ⟨g, j * 2, none⟩ = some (.int .u32 (es.getD j zeroE).1) ∧ W.cell? ⟨g, j * 2 + 1, none⟩ = some (.slice (some ⟨gv, 0, none⟩) (es.getD j zeroE).2.length cw) ∧ W.ownsRow base 22 1 (.slice (some ⟨gv, 0, none⟩) (es.getD j zeroE).2.length cw) (es.getD j zeroE).2.length (wordsV (es.getD j zeroE).2) ∧ wordL (es.getD j zeroE).2 ∧ base ≤ gv := by
  obtain ⟨xs, o, od⟩ := h
  rw [hn] at o
  obtain ⟨e1, cv, e2, e3, e4, e5⟩ := od.2.1 j (by omega)
  have o3 := e3
  obtain ⟨_, ⟨_, hz⟩ | ⟨gv, cw, cur, rfl, hb, _⟩⟩ := e3
  · omega
  · exact ⟨gv, cw, own_cells o _ _ e1, own_cells o _ _ e2, o3, e4.2, hb⟩
theorem own_notBox {W : World} {base gv n m c U : Nat} {e : TypeId} {size : Nat} {xs : List Value} {cs : Array Value} (h : W.ownsRow base e size (.slice (some ⟨gv, 0, none⟩) n c) m xs) (he : e ≠ 44) (hB : Box W U 44 cs) : gv ≠ U := by
  rintro rfl
  obtain ⟨_, ⟨e', _⟩ | ⟨g, cap, cur, e', _, hh, _⟩⟩ := h
  · cases e'
  · simp only [Value.slice.injEq, Option.some.injEq, Addr.mk.injEq, and_true, true_and] at e'
    obtain ⟨rfl, _⟩ := e'
    have hB' : W.heap[gv]? = some (.cells cs 44 (0, 0)) := hB
    rw [hB'] at hh
    simp only [Option.some.injEq, Obj.cells.injEq] at hh
    exact he hh.2.1.symm
/- the argument lies in the first block, the result's variable in the next, the table u in block U -/
def St (w W : World) (s : Sc) (p : Value) (x : Int) (U : Nat) (V : Value) (x' : Int) (es : List Ent) : Prop :=
  Below w.heap.size w W ∧ Box W w.heap.size 44 (tbA s p x) ∧ Box W (w.heap.size + 1) 44 zeroTA ∧ Box W U 44 (tbA s V x') ∧ Row W (w.heap.size + 2) V es ∧ w.heap.size + 2 ≤ U ∧ V.ownBlock ≠ some U
section
variable {w W W' : World} {s : Sc} {p : Value} {x x' : Int} {U : Nat} {V V' : Value} {es es' : List Ent}
theorem St.later (h : St w W s p x U V x' es) (hb : Below W.heap.size W W') : St w W' s p x U V x' es := by
  obtain ⟨h1, h2, h3, h4, h5, h6, h7⟩ := h
  exact ⟨h1.trans (hb.mono h1.size), h2.later hb, h3.later hb, h4.later hb, h5.below hb, h6, h7⟩
theorem St.turned (h : St w W s p x U V x' es) {g : Nat} (hg : W.grownBy W' (some g)) (hV : V.ownBlock = some g) (hr : Row W' (w.heap.size + 2) V es') : St w W' s p x U V x' es' := by
  obtain ⟨h1, h2, h3, h4, h5, h6, h7⟩ := h
  have hlt := h5.lt g hV
  refine ⟨h1.grown hg h1.size (fun g' e => by have := Option.some.inj e; omega), h2.grown hg (fun e => by have := Option.some.inj e; omega), h3.grown hg (fun e => by have := Option.some.inj e; omega), h4.grown hg (fun e => h7 (by rw [hV, e])), hr, h6, h7⟩
theorem St.start {Wc : World} (h1 : Below w.heap.size w Wc) (h2 : Box Wc w.heap.size 44 (tbA s p x)) (h3 : Box Wc (w.heap.size + 1) 44 zeroTA) (h5 : Row Wc (w.heap.size + 2) V es) : St w (Wc.alloc (.cells (tbA s V x) 44)) s p x Wc.heap.size V x es := by
  have hb : Below Wc.heap.size Wc (Wc.alloc (.cells (tbA s V x) 44)) := (Below.refl _ _).alloc (Nat.le_refl _) _
  refine ⟨h1.trans (hb.mono h1.size), h2.later hb, h3.later hb, Box.new _ _ _, h5.below hb, ?_, fun e => ?_⟩
  · have := h3.lt
    omega
  · have := (h5.lt _ e).2
    omega
theorem St.fin3 (h : St w W s p x U V x' es) (v v2 : Value) : Own3 (s, es, x') v v2 w (.returned (.tuple #[tbV s V x', v, v2])) (W.setRow (w.heap.size + 1) (tbA s V x')) := by
  obtain ⟨h1, h2, h3, h4, h5, h6, h7⟩ := h
  exact ⟨V, rfl, below_setRow h1 (by omega) _, (h5.far (grownBy_setRow _ _ _) (by omega)).low (by omega)⟩
theorem St.fin2 (h : St w W s p x U V x' es) (v : Value) : Own2 (s, es, x') v w (.returned (.tuple #[tbV s V x', v])) (W.setRow (w.heap.size + 1) (tbA s V x')) := by
  obtain ⟨h1, h2, h3, h4, h5, h6, h7⟩ := h
  exact ⟨V, rfl, below_setRow h1 (by omega) _, (h5.far (grownBy_setRow _ _ _) (by omega)).low (by omega)⟩
/- another list in the table u: its variable is written -/
theorem St.put (h : St w W s p x U V x' es) (hr : Row W (w.heap.size + 2) V' es') : St w (W.setCell ⟨U, 4, none⟩ V') s p x U V' x' es' := by
  obtain ⟨h1, h2, h3, h4, h5, h6, h7⟩ := h
  exact ⟨h1.setCell (by show w.heap.size ≤ U; omega) _, h2.other (by show w.heap.size ≠ U; omega) _, h3.other (by show w.heap.size + 1 ≠ U; omega) _, h4.set 4 V', hr.apart h4 (grownBy_setCell W ⟨U, 4, none⟩ V'), h6, hr.notBox h4⟩
theorem St.next (h : St w W s p x U V x' es) (y : Int) : St w (W.setCell ⟨U, 5, none⟩ (.int .u32 y)) s p x U V y es := by
  obtain ⟨h1, h2, h3, h4, h5, h6, h7⟩ := h
  exact ⟨h1.setCell (by show w.heap.size ≤ U; omega) _, h2.other (by show w.heap.size ≠ U; omega) _, h3.other (by show w.heap.size + 1 ≠ U; omega) _, h4.set 5 (.int .u32 y), h5.apart h4 (grownBy_setCell W ⟨U, 5, none⟩ (.int .u32 y)), h6, h7⟩
theorem St.inside (h : St w W s p x U V x' es) {g : Nat} (hg : W.grownBy W' (some g)) (hgv : w.heap.size + 2 ≤ g) (hne : g ≠ U) (hr : Row W' (w.heap.size + 2) V es') : St w W' s p x U V x' es' := by
  obtain ⟨h1, h2, h3, h4, h5, h6, h7⟩ := h
  exact ⟨h1.grown hg h1.size (fun g' e => by have := Option.some.inj e; omega), h2.grown hg (fun e => by have := Option.some.inj e; omega), h3.grown hg (fun e => by have := Option.some.inj e; omega), h4.grown hg (fun e => hne (Option.some.inj e).symm), hr, h6, h7⟩
theorem St.boxG (h : St w W s p x U V x' es) {g : Nat} (hg : W.grownBy W' (some g)) (hV : V.ownBlock = some g) : Box W' U 44 (tbA s V x') := h.2.2.2.1.grown hg (fun e => h.2.2.2.2.2.2 (by rw [hV, e]))
theorem St.swap (h : St w W s p x U V x' es) {g : Nat} (hg : W.grownBy W' (some g)) (hV : V.ownBlock = some g) (hr : Row W' (w.heap.size + 2) V' es') : St w (W'.setCell ⟨U, 4, none⟩ V') s p x U V' x' es' := by
  have hB := h.boxG hg hV
  obtain ⟨h1, h2, h3, h4, h5, h6, h7⟩ := h
  have hlt := h5.lt g hV
  have k1 : Below w.heap.size w W' := h1.grown hg h1.size (fun g' e => by have := Option.some.inj e; omega)
  have k2 : Box W' w.heap.size 44 (tbA s p x) := h2.grown hg (fun e => by have := Option.some.inj e; omega)
  have k3 : Box W' (w.heap.size + 1) 44 zeroTA := h3.grown hg (fun e => by have := Option.some.inj e; omega)
  exact ⟨k1.setCell (by show w.heap.size ≤ U; omega) _, k2.other (by show w.heap.size ≠ U; omega) _, k3.other (by show w.heap.size + 1 ≠ U; omega) _, hB.set 4 V', hr.apart hB (grownBy_setCell W' ⟨U, 4, none⟩ V'), h6, hr.notBox hB⟩
theorem St.box0 (h : St w W s p x U V x' es) : TbAt W w.heap.size s p x := h.2.1.tb
theorem St.boxU (h : St w W s p x U V x' es) : TbAt W U s V x' := h.2.2.2.1.tb
end
end Go.Proofs.Ytmlmdhnjafakiaa
