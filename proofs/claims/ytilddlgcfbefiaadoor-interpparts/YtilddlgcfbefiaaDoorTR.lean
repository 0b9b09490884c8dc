/-
  A table stored into the result's variable; what the fifth reference's Pop returns, as a contract over the translated program.
-/
import Derived.Test.YtilddlgcfbefiaaDoorTX
import Derived.Test.YtilddlgcfbefiaaDoorTK
namespace Go.Proofs.YtilddlgcfbefiaaDoor
set_option linter.unusedSimpArgs false
set_option linter.unusedVariables false
open Go Go.RowKit

theorem results_tb_two {fn : Func} {p q : Tmp} (h : fn.results = #[.cell p 42, .tmp q]) (tmps : Array Value) (w : World) (g : Nat) (t : TypeId) (cs : Array Value) (v : Value) (hs : cs.size = 6)
    (hp : tmps.getD p undef = .pointer (some ⟨g, 0, none⟩)) (hq : tmps.getD q undef = v) (hg : w.heap[g]? = some (.cells cs t (0, 0))) : (results fn tmps).run Tryd.prog w = .ok (.tuple #[.agg cs, v]) w := by
  have hp' : tmps[p]?.getD undef = .pointer (some ⟨g, 0, none⟩) := by simpa using hp
  have hq' : tmps[q]?.getD undef = v := by simpa using hq
  have hi : (Tryd.prog.info? 42).map (·.size) = some cs.size := by rw [hs]; kernel_rfl
  simp [results, h, hp', hq', asAddr, run_loadVar_row w g t 42 cs (0, 0) _ hg Tryd.underlying42 rfl hi]
theorem results_tb_three {fn : Func} {p q r : Tmp} (h : fn.results = #[.cell p 42, .tmp q, .tmp r]) (tmps : Array Value) (w : World) (g : Nat) (t : TypeId) (cs : Array Value) (u v : Value) (hs : cs.size = 6)
    (hp : tmps.getD p undef = .pointer (some ⟨g, 0, none⟩)) (hq : tmps.getD q undef = u) (hr : tmps.getD r undef = v) (hg : w.heap[g]? = some (.cells cs t (0, 0))) : (results fn tmps).run Tryd.prog w = .ok (.tuple #[.agg cs, u, v]) w := by
  have hp' : tmps[p]?.getD undef = .pointer (some ⟨g, 0, none⟩) := by simpa using hp
  have hq' : tmps[q]?.getD undef = u := by simpa using hq
  have hr' : tmps[r]?.getD undef = v := by simpa using hr
  have hi : (Tryd.prog.info? 42).map (·.size) = some cs.size := by rw [hs]; kernel_rfl
  simp [results, h, hp', hq', hr', asAddr, run_loadVar_row w g t 42 cs (0, 0) _ hg Tryd.underlying42 rfl hi]
/- a struct stored at a step of a region that draws its order -/
theorem step_row {ops : Array Oper} {o : Oper} {a : Act} {K : Act → World → Prop} {Q : Exit → Act → World → Prop} {E : Prop} (w : World) (hgd : o.guard = none) (ty : TypeId) (x y : Operand) (ho : o.op = .store ty x y) (hd : o.dst = none)
    (g : Nat) (cells : Array Value) (hx : a.eval x = .pointer (some ⟨g, 0, none⟩)) (hy : a.eval y = .agg cells) (t : TypeId) (old : Array Value) (hg : w.heap[g]? = some (.cells old t (0, 0))) (hi : (Tryd.prog.info? ty).map (·.size) = some cells.size)
    (hold : old.size = cells.size) (h1 : cells.all (·.oneCell') = true) (h : K a (w.setRow g cells)) :
    if Region.wanted o (yielded ops a.tmps) = true then Oper.wp Tryd.prog o a w K Q else E := by
  have hw : Region.wanted o (yielded ops a.tmps) = true := by simp [Region.wanted, hgd]
  rw [if_pos hw]
  exact wp_store_row ty x y ho g cells hx hy t old hg hi hold h1 (by rw [hd]; exact h)
theorem withoutI_any (s : Sc) (a : Option Addr) (len cap : Nat) (x : Int) (es : List Ent) (j : Nat) (i : Int) (hi : i = (j : Int)) (w : World) (h : EntsAt w a len cap es) (hf : fewE es) (hj : j < es.length) :
    Calls Tryd.prog 102 #[tbV s (.slice a len cap) x, .int .i64 i] w (TabPost (withoutT (s, es, x) j) (fun n => w.heap.size ≤ n) w) := by
  subst hi
  exact without_any s a len cap x es j w h hf hj
/- what a call with one more result, with two more, returns -/
def TabPost2 (t : Tb) (A : Nat → Prop) (v : Value) (w : World) (e : Ending) (w' : World) : Prop :=
  ∃ b n c, e = .returned (.tuple #[tbV t.1 (.slice b n c) t.2.2, v]) ∧ Below w.heap.size w w' ∧ EntsIn w' A b n c t.2.1
def TabPost3 (t : Tb) (A : Nat → Prop) (u v : Value) (w : World) (e : Ending) (w' : World) : Prop :=
  ∃ b n c, e = .returned (.tuple #[tbV t.1 (.slice b n c) t.2.2, u, v]) ∧ Below w.heap.size w w' ∧ EntsIn w' A b n c t.2.1
end Go.Proofs.YtilddlgcfbefiaaDoor
