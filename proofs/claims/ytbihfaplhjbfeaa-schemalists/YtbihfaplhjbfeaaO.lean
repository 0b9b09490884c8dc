/-
  Schemas, lists of schemas and bytes that came in, opened: what is read of an argument lies in memory as plain numbers.
-/
import Derived.Test.YtbihfaplhjbfeaaM
import Derived.Test.YtbihfaplhjbfeaaA
import Derived.Stop.Joined
import Derived.Deep.Fields
import Derived.Deep.Slices
namespace Go.Proofs.Ytbihfaplhjbfeaa
open Go.ChangeShapes Go.WideShapes Go.ChangeAt Go.RowKit Go.Deep

theorem cellsS : Try.prog.cellsOf 25 = 4 := by kernel_rfl
section
variable {H : Type} {enc : TypeId × Value → H} {w : World} {base : Nat} {spare : Nat → Bool} {held : Bool}
theorem sc_cells {fuel : Nat} {cs : List Value} {x : DataW H × List MemPlace} (h : DataW.trod enc Try.prog w base spare held fuel 25 cs = some x) :
    ∃ (k c n v : Int), cs = [.int .i64 k, .int .i64 c, .int .i64 n, .int .i64 v] := by
  obtain ⟨xs, n, _, hx, hl, hxl, hg⟩ := DataW.trod_struct Try.underlying25 h
  rw [cellsS] at hl
  have hone := hone_of (P := Try.prog) (fs := #[⟨"Kind", 3, 0, false, "", "", 0⟩, ⟨"Cap", 3, 1, false, "", "", 8⟩, ⟨"Words", 3, 2, false, "", "", 16⟩, ⟨"Ver", 3, 3, false, "", "", 24⟩]) (by kernel_rfl)
  match cs, hl with
  | [c0, c1, c2, c3], _ =>
    match xs, hxl with
    | [y0, y1, y2, y3], _ =>
      have k0 := hg 0 _ rfl
      have k1 := hg 1 _ rfl
      have k2 := hg 2 _ rfl
      have k3 := hg 3 _ rfl
      rw [(hone 0 _ rfl).1, (hone 0 _ rfl).2] at k0
      rw [(hone 1 _ rfl).1, (hone 1 _ rfl).2] at k1
      rw [(hone 2 _ rfl).1, (hone 2 _ rfl).2] at k2
      rw [(hone 3 _ rfl).1, (hone 3 _ rfl).2] at k3
      obtain ⟨a0, e0, _, _⟩ := DataW.trod_int Try.underlying3 k0
      obtain ⟨a1, e1, _, _⟩ := DataW.trod_int Try.underlying3 k1
      obtain ⟨a2, e2, _, _⟩ := DataW.trod_int Try.underlying3 k2
      obtain ⟨a3, e3, _, _⟩ := DataW.trod_int Try.underlying3 k3
      simp at e0 e1 e2 e3
      subst e0 e1 e2 e3
      exact ⟨a0, a1, a2, a3, rfl⟩
theorem open_sc {r0 : Reach} {b0 : Nat} {u : Value} {dd : DataW H} {p : List MemPlace} (hv : Value.okWide Try.prog w r0 b0 25 u) (h : DataW.Trod enc Try.prog w base spare held 25 u dd p) :
    ∃ (k c n v : Int), u = scV k c n v := by
  obtain ⟨cs, rfl, _⟩ := okWide_struct Try.underlying25 hv
  obtain ⟨l⟩ := cs
  obtain ⟨fuel, hf⟩ := h
  obtain ⟨k, c, n, v, hc⟩ := sc_cells hf
  simp only [Value.cells] at hc
  subst hc
  exact ⟨k, c, n, v, rfl⟩
theorem sc_here {fuel : Nat} {a : Addr} {cs : List Value} {x : DataW H × List MemPlace} (hc : w.cells? base a 4 = some cs) (h : DataW.trod enc Try.prog w base spare held fuel 25 cs = some x) : ∃ s : Sc, ScHere w a s := by
  obtain ⟨k, c, n, v, rfl⟩ := sc_cells h
  obtain ⟨_, _, hat⟩ := World.cells?_some hc
  have k0 := hat 0 (by omega)
  have k1 := hat 1 (by omega)
  have k2 := hat 2 (by omega)
  have k3 := hat 3 (by omega)
  rw [Addr.add_zero'] at k0
  rw [add_add_cell a 1 (by omega)] at k1
  rw [add_add_cell a 2 (by omega)] at k2
  rw [add_add_cell a 3 (by omega)] at k3
  exact ⟨(k, c, n, v), k0, k1, k2, k3⟩
theorem open_scs {r0 : Reach} {b0 : Nat} {u : Value} {dd : DataW H} {p : List MemPlace} (hv : Value.okWide Try.prog w r0 b0 22 u) (h : DataW.Trod enc Try.prog w base spare held 22 u dd p) :
    ∃ a len cap ss, u = .slice a len cap ∧ ScsAt w a len cap ss := by
  obtain ⟨a0, len0, cap0, rfl⟩ := okWide_slice Try.underlying22 hv
  obtain ⟨fuel, hf⟩ := h
  rcases open_slice Try.underlying22 hf with ⟨hcs, _⟩ | ⟨a, len, cap, m, n, D, Pl, hcs, _, hl, hm, hmm, _, hx⟩
  · simp [Value.cells] at hcs
    obtain ⟨rfl, rfl, rfl⟩ := hcs
    exact ⟨none, 0, 0, [], rfl, scs_nil w⟩
  · simp [Value.cells] at hcs
    obtain ⟨rfl, rfl, rfl⟩ := hcs
    have hml : len0 ≤ m := by rw [hmm]; split <;> omega
    obtain ⟨c, hcl, hc⟩ := exists_list zeroS (fun k (s : Sc) => ScHere w (a.add (k * 4)) s) len0 (fun k hk => by
      obtain ⟨cs', h1, h2⟩ := hx k (by omega)
      rw [cellsS] at h1
      exact sc_here h1 h2)
    exact ⟨some a, len0, cap0, c, rfl, hcl, hl, hm, .inr ⟨a, rfl, hc⟩⟩
/- how many a list that came in has is how many its datum has -/
theorem scs_data {a : Option Addr} {len cap : Nat} {dd : DataW H} {p : List MemPlace} (h : DataW.Trod enc Try.prog w base spare held 22 (.slice a len cap) dd p) : len = 0 ∨ ∃ el sp, dd = .slice el sp ∧ el.length = len := by
  obtain ⟨fuel, hf⟩ := h
  rcases open_slice Try.underlying22 hf with ⟨hcs, _⟩ | ⟨a', len', cap', m, n, D, Pl, hcs, _, hl, hm, hmm, hx, _⟩
  · simp [Value.cells] at hcs
    exact .inl hcs.2.1
  · simp [Value.cells] at hcs
    obtain ⟨rfl, rfl, rfl⟩ := hcs
    exact .inr ⟨_, _, congrArg Prod.fst hx, by simp⟩
theorem bytesS : Try.prog.bytesOf 25 = 32 := by kernel_rfl
theorem open_bytes {r0 : Reach} {b0 : Nat} {u : Value} {dd : DataW H} {p : List MemPlace} (hv : Value.okWide Try.prog w r0 b0 23 u) (h : DataW.Trod enc Try.prog w 0 (fun _ => true) true 23 u dd p) :
    ∃ a len cap zs, u = .slice a len cap ∧ SliceB w a len cap zs := by
  obtain ⟨a0, len0, cap0, rfl⟩ := okWide_slice Try.underlying23 hv
  obtain ⟨fuel, hf⟩ := h
  rcases open_ints Try.underlying23 Try.underlying5 (by kernel_rfl) hf with ⟨hcs, _⟩ | ⟨x, l, c, zs, hcs, _, hl, hm, hz, _, hcell, hwz⟩
  · simp [Value.cells] at hcs
    obtain ⟨rfl, rfl, rfl⟩ := hcs
    exact ⟨none, 0, 0, [], rfl, slice_nil w⟩
  · simp [Value.cells] at hcs
    obtain ⟨rfl, rfl, rfl⟩ := hcs
    have hz' : zs.length = cap0 := by simpa using hz
    refine ⟨some x, len0, cap0, zs.take len0, rfl, by rw [List.length_take]; omega, hl, hm, fun z hz => bounds_u8 (hwz z (List.mem_of_mem_take hz)), .inr ⟨x, rfl, bytesAt_take hcell len0⟩⟩
end
end Go.Proofs.Ytbihfaplhjbfeaa
