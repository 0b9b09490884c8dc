/-
  Tables and rows of words that came in, opened: what is read of an argument lies in memory as plain numbers.
-/
import Derived.Test.YthpniennaaihgaaTM
import Derived.Test.YthpniennaaihgaaTF
import Derived.Stop.Joined
import Derived.Deep.Fields
import Derived.Deep.Slices
namespace Go.Proofs.Ythpniennaaihgaa
open Go.ChangeShapes Go.WideShapes Go.ChangeAt Go.RowKit Go.Deep

theorem cellsS : Try.prog.cellsOf 29 = 4 := by kernel_rfl
theorem cellsE : Try.prog.cellsOf 55 = 2 := by kernel_rfl
theorem cellsT : Try.prog.cellsOf 45 = 6 := by kernel_rfl
theorem cellsL : Try.prog.cellsOf 43 = 1 := by kernel_rfl
theorem cellsW : Try.prog.cellsOf 22 = 1 := by kernel_rfl
section
variable {H : Type} {enc : TypeId × Value → H} {w : World} {base : Nat} {spare : Nat → Bool} {held : Bool}
theorem sc_cells {fuel : Nat} {cs : List Value} {x : DataW H × List MemPlace} (h : DataW.trod enc Try.prog w base spare held fuel 29 cs = some x) :
    ∃ (k c n v : Int), cs = [.int .i64 k, .int .i64 c, .int .i64 n, .int .i64 v] := by
  obtain ⟨xs, n, _, hx, hl, hxl, hg⟩ := DataW.trod_struct Try.underlying29 h
  rw [cellsS] at hl
  have hone := hone_of (P := Try.prog) (fs := #[⟨"Kind", 3, 0, false, "", "", 0⟩, ⟨"Cap", 3, 1, false, "", "", 8⟩, ⟨"Words", 3, 2, false, "", "", 16⟩, ⟨"Ver", 3, 3, false, "", "", 24⟩]) (by kernel_rfl)
  match cs, hl with
  | [c0, c1, c2, c3], _ =>
    match xs, hxl with
    | [y0, y1, y2, y3], _ =>
      have k0 := hg 0 _ rfl
      have k1 := hg 1 _ rfl
      have k2 := hg 2 _ rfl
      have k3 := hg 3 _ rfl
      rw [(hone 0 _ rfl).1, (hone 0 _ rfl).2] at k0
      rw [(hone 1 _ rfl).1, (hone 1 _ rfl).2] at k1
      rw [(hone 2 _ rfl).1, (hone 2 _ rfl).2] at k2
      rw [(hone 3 _ rfl).1, (hone 3 _ rfl).2] at k3
      obtain ⟨a0, e0, _, _⟩ := DataW.trod_int Try.underlying3 k0
      obtain ⟨a1, e1, _, _⟩ := DataW.trod_int Try.underlying3 k1
      obtain ⟨a2, e2, _, _⟩ := DataW.trod_int Try.underlying3 k2
      obtain ⟨a3, e3, _, _⟩ := DataW.trod_int Try.underlying3 k3
      simp at e0 e1 e2 e3
      subst e0 e1 e2 e3
      exact ⟨a0, a1, a2, a3, rfl⟩
theorem words_here {fuel : Nat} {v : Value} {x : DataW H × List MemPlace} (h : DataW.trod enc Try.prog w base spare held fuel 27 [v] = some x) : ∃ a len cap zs, v = .slice a len cap ∧ WordsAt w a len cap zs := by
  rcases open_slice Try.underlying27 h with ⟨hcs, _⟩ | ⟨a, len, cap, m, n, D, Pl, hcs, _, hl, hm, hmm, _, hx⟩
  · simp at hcs
    exact ⟨none, 0, 0, [], hcs, words_nil w⟩
  · simp at hcs
    have hml : len ≤ m := by rw [hmm]; split <;> omega
    obtain ⟨zs, hcl, hc⟩ := exists_list (0 : Int) (fun k (z : Int) => isW z ∧ w.cell? (a.add k) = some (.int .u32 z)) len (fun k hk => by
      obtain ⟨cs', h1, h2⟩ := hx k (by omega)
      rw [cellsW] at h1
      obtain ⟨z, e, _, hwf⟩ := DataW.trod_int Try.underlying22 h2
      subst e
      obtain ⟨_, _, hat⟩ := World.cells?_some h1
      have k0 := hat 0 (by omega)
      rw [Addr.add_zero', Nat.mul_one] at k0
      exact ⟨z, bounds_u32 hwf, k0⟩)
    refine ⟨some a, len, cap, zs, hcs, hcl, hl, hm, fun z hz => ?_, .inr ⟨a, rfl, fun k hk => (hc k hk).2⟩⟩
    obtain ⟨j, hj, rfl⟩ := List.getElem_of_mem hz
    have := (hc j (by omega)).1
    rwa [List.getD_eq_getElem?_getD, List.getElem?_eq_getElem hj] at this
theorem ent_cells {fuel : Nat} {cs : List Value} {x : DataW H × List MemPlace} (h : DataW.trod enc Try.prog w base spare held fuel 55 cs = some x) : ∃ (key : Int) (a : Option Addr) (len cap : Nat) (zs : List Int), cs = [.int .u32 key, .slice a len cap] ∧ isW key ∧ WordsAt w a len cap zs := by
  obtain ⟨xs, n, _, _, hl, hxl, hg⟩ := DataW.trod_struct Try.underlying55 h
  rw [cellsE] at hl
  match cs, hl with
  | [c0, c1], _ =>
    have k0 := hg 0 _ rfl
    have k1 := hg 1 _ rfl
    have hone := hone_of (P := Try.prog) (fs := #[⟨"Key", 22, 0, false, "", "", 0⟩, ⟨"V", 27, 1, false, "", "", 8⟩]) (by kernel_rfl)
    rw [(hone 0 _ rfl).1, (hone 0 _ rfl).2] at k0
    rw [(hone 1 _ rfl).1, (hone 1 _ rfl).2] at k1
    match xs, hxl with
    | [y0, y1], _ =>
      obtain ⟨key, e0, _, hwf⟩ := DataW.trod_int Try.underlying22 k0
      have k1' : DataW.trod enc Try.prog w base spare held n 27 [c1] = some y1 := k1
      obtain ⟨a, len, cap, zs, rfl, hW⟩ := words_here k1'
      have e0' : [c0] = [.int .u32 key] := e0
      simp at e0'
      subst e0'
      exact ⟨key, a, len, cap, zs, rfl, bounds_u32 hwf, hW⟩
theorem ents_here {fuel : Nat} {v : Value} {x : DataW H × List MemPlace} (h : DataW.trod enc Try.prog w base spare held fuel 43 [v] = some x) : ∃ a len cap es, v = .slice a len cap ∧ EntsAt w a len cap es := by
  rcases open_slice Try.underlying43 h with ⟨hcs, _⟩ | ⟨a, len, cap, m, n, D, Pl, hcs, _, hl, hm, hmm, _, hx⟩
  · simp at hcs
    exact ⟨none, 0, 0, [], hcs, ents_nil w⟩
  · simp at hcs
    have hml : len ≤ m := by rw [hmm]; split <;> omega
    obtain ⟨es, hcl, hc⟩ := exists_list zeroE (fun k (e : Ent) => EntHere w (a.add (k * 2)) e) len (fun k hk => by
      obtain ⟨cs', h1, h2⟩ := hx k (by omega)
      rw [cellsE] at h1
      obtain ⟨key, b, l, cc, zs, rfl, hkw, hW⟩ := ent_cells h2
      obtain ⟨_, _, hat⟩ := World.cells?_some h1
      have k0 := hat 0 (by omega)
      have k1 := hat 1 (by omega)
      rw [Addr.add_zero'] at k0
      rw [add_add_cell _ 1 (by omega)] at k1
      exact ⟨(key, zs), k0, hkw, b, l, cc, k1, hW⟩)
    exact ⟨some a, len, cap, es, hcs, hcl, hl, hm, .inr ⟨a, rfl, hc⟩⟩
set_option maxRecDepth 100000 in
theorem tb_cells {fuel : Nat} {cs : List Value} {x : DataW H × List MemPlace} (h : DataW.trod enc Try.prog w base spare held fuel 45 cs = some x) : ∃ (s : Sc) (a : Option Addr) (len cap : Nat) (y : Int) (es : List Ent), cs = [.int .i64 s.1, .int .i64 s.2.1, .int .i64 s.2.2.1, .int .i64 s.2.2.2, .slice a len cap, .int .u32 y] ∧ EntsAt w a len cap es ∧ isW y := by
  obtain ⟨xs, n, _, _, hl, hxl, hg⟩ := DataW.trod_struct Try.underlying45 h
  rw [cellsT] at hl
  match cs, hl with
  | [c0, c1, c2, c3, c4, c5], _ =>
    have k0 := hg 0 _ rfl
    have k1 := hg 1 _ rfl
    have k2 := hg 2 _ rfl
    match xs, hxl with
    | [y0, y1, y2], _ =>
      have k0' : DataW.trod enc Try.prog w base spare held n 29 [c0, c1, c2, c3] = some y0 := by
        first
        | exact k0
        | (dsimp only at k0; rw [cellsS] at k0; exact k0)
        | simpa [cellsS] using k0
      have k1' : DataW.trod enc Try.prog w base spare held n 43 [c4] = some y1 := by
        first
        | exact k1
        | (dsimp only at k1; rw [cellsL] at k1; exact k1)
        | simpa [cellsL] using k1
      have k2' : DataW.trod enc Try.prog w base spare held n 22 [c5] = some y2 := by
        first
        | exact k2
        | (dsimp only at k2; rw [cellsW] at k2; exact k2)
        | simpa [cellsW] using k2
      obtain ⟨k, c, nn, v, e0⟩ := sc_cells k0'
      obtain ⟨a, len, cap, es, rfl, hE⟩ := ents_here k1'
      obtain ⟨y, e2, _, hwf⟩ := DataW.trod_int Try.underlying22 k2'
      simp at e0 e2
      obtain ⟨rfl, rfl, rfl, rfl⟩ := e0
      subst e2
      exact ⟨(k, c, nn, v), a, len, cap, y, es, rfl, hE, bounds_u32 hwf⟩
theorem open_tb {r0 : Reach} {b0 : Nat} {v : Value} {dd : DataW H} {p : List MemPlace} (hv : Value.okWide Try.prog w r0 b0 45 v) (h : DataW.Trod enc Try.prog w base spare held 45 v dd p) :
    ∃ s a len cap y es, v = tbV s (.slice a len cap) y ∧ EntsAt w a len cap es ∧ isW y := by
  obtain ⟨cs, rfl, _⟩ := okWide_struct Try.underlying45 hv
  obtain ⟨l⟩ := cs
  obtain ⟨fuel, hf⟩ := h
  obtain ⟨s, a, len, cap, y, es, hc, hE, hy⟩ := tb_cells hf
  simp only [Value.cells] at hc
  subst hc
  exact ⟨s, a, len, cap, y, es, rfl, hE, hy⟩
theorem open_words {r0 : Reach} {b0 : Nat} {v : Value} {dd : DataW H} {p : List MemPlace} (hv : Value.okWide Try.prog w r0 b0 27 v) (h : DataW.Trod enc Try.prog w base spare held 27 v dd p) :
    ∃ a len cap zs, v = .slice a len cap ∧ WordsAt w a len cap zs := by
  obtain ⟨a0, len0, cap0, rfl⟩ := okWide_slice Try.underlying27 hv
  obtain ⟨fuel, hf⟩ := h
  exact words_here hf
end
end Go.Proofs.Ythpniennaaihgaa
