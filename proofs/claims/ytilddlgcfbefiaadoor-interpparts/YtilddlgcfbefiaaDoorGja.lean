/-
  Texts that the laws of this layer stand on, one behind the other.
-/
import Derived.Test.YtilddlgcfbefiaaDoorTM
import Derived.Test.YtilddlgcfbefiaaDoorGrg
import Derived.BigQuiet
import Derived.OwnWalk
import Derived.Deep.AppendLies
/-
  A frame of the interpreter in memory: its function, its position, its registers and which are set, its stack.
-/
namespace Go.Proofs.YtilddlgcfbefiaaDoor
set_option linter.unusedSimpArgs false
set_option linter.unusedVariables false
open Go Go.RowKit
/- function, position, registers' words, which are set, stack, ended -/
abbrev Fr : Type := Int × Int × (Nat → Int) × (Nat → Bool) × (Nat → Int) × Bool
abbrev Fr.reg (x : Fr) (k : Nat) : Int := x.2.2.1 k
abbrev Fr.isSet (x : Fr) (k : Nat) : Bool := x.2.2.2.1 k
abbrev Fr.stk (x : Fr) (k : Nat) : Int := x.2.2.2.2.1 k
abbrev Fr.fin (x : Fr) : Bool := x.2.2.2.2.2
def FrC (cs : Array Value) (r : Nat) (x : Fr) : Prop :=
  cs.size = 36 ∧ cs[0]? = some (.pointer (some ⟨r, 0, none⟩)) ∧ cs[1]? = some (.int .i64 x.1) ∧ cs[2]? = some (.int .i64 x.2.1) ∧ (∀ k, k < 8 → cs[3 + k * 2]? = some (.int .u32 (x.reg k)) ∧ cs[3 + k * 2 + 1]? = some (.bool (x.isSet k))) ∧
  (∀ k, k < 16 → cs[19 + k]? = some (.int .u32 (x.stk k))) ∧ cs[35]? = some (.bool x.fin) ∧ (∀ k, isW (x.reg k)) ∧ (∀ k, isW (x.stk k))
def FrAt (W : World) (f r : Nat) (x : Fr) : Prop := ∃ cs, Box W f 92 cs ∧ FrC cs r x
def putF (x : Fr) (k : Nat) (v : Int) : Fr := (x.1, x.2.1, fun j => if j = k then v else x.reg j, fun j => if j = k then true else x.isSet j, x.2.2.2.2.1, x.fin)
def storeF (x : Fr) (k : Nat) (v : Int) : Fr := (x.1, x.2.1, x.2.2.1, x.2.2.2.1, fun j => if j = k then v else x.stk j, x.fin)
def atF (x : Fr) (p : Int) : Fr := (x.1, p, x.2.2.1, x.2.2.2.1, x.2.2.2.2.1, x.fin)
def endF (x : Fr) : Fr := (x.1, x.2.1, x.2.2.1, x.2.2.2.1, x.2.2.2.2.1, true)
theorem grow_trans {a b c : World} {row : Option Nat} (h : a.grownBy b row) (h' : b.grownBy c row) : a.grownBy c row := ⟨h'.os.trans h.os, h'.tape.trans h.tape, h'.output.trans h.output, Nat.le_trans h.size h'.size, fun k hk hne => (h'.block k (Nat.lt_of_lt_of_le hk h.size) hne).trans (h.block k hk hne)⟩
section
variable {W W' : World} {f r : Nat} {x : Fr}
theorem FrAt.lt (h : FrAt W f r x) : f < W.heap.size := by
  obtain ⟨cs, h1, _⟩ := h
  exact h1.lt
theorem FrAt.free (h : FrAt W f r x) (j : Nat) : W.frozen? ⟨f, j, none⟩ = false := by
  obtain ⟨cs, h1, _⟩ := h
  exact h1.free j
theorem FrAt.later (h : FrAt W f r x) (hb : Below W.heap.size W W') : FrAt W' f r x := by
  obtain ⟨cs, h1, h2⟩ := h
  exact ⟨cs, h1.later hb, h2⟩
theorem FrAt.grown {row : Option Nat} (h : FrAt W f r x) (hg : W.grownBy W' row) (hne : some f ≠ row) : FrAt W' f r x := by
  obtain ⟨cs, h1, h2⟩ := h
  exact ⟨cs, h1.grown hg hne, h2⟩
theorem FrAt.run (h : FrAt W f r x) : W.cell? ⟨f, 0, none⟩ = some (.pointer (some ⟨r, 0, none⟩)) := by
  obtain ⟨cs, h1, h2⟩ := h
  exact h1.cell h2.2.1
theorem FrAt.fn (h : FrAt W f r x) : W.cell? ⟨f, 1, none⟩ = some (.int .i64 x.1) := by
  obtain ⟨cs, h1, h2⟩ := h
  exact h1.cell h2.2.2.1
theorem FrAt.pos (h : FrAt W f r x) : W.cell? ⟨f, 2, none⟩ = some (.int .i64 x.2.1) := by
  obtain ⟨cs, h1, h2⟩ := h
  exact h1.cell h2.2.2.2.1
theorem FrAt.word (h : FrAt W f r x) {k : Nat} (hk : k < 8) : W.cell? ⟨f, 3 + k * 2, none⟩ = some (.int .u32 (x.reg k)) ∧ W.cell? ⟨f, 3 + k * 2 + 1, none⟩ = some (.bool (x.isSet k)) := by
  obtain ⟨cs, h1, h2⟩ := h
  exact ⟨h1.cell (h2.2.2.2.2.1 k hk).1, h1.cell (h2.2.2.2.2.1 k hk).2⟩
theorem FrAt.stack (h : FrAt W f r x) {k : Nat} (hk : k < 16) : W.cell? ⟨f, 19 + k, none⟩ = some (.int .u32 (x.stk k)) := by
  obtain ⟨cs, h1, h2⟩ := h
  exact h1.cell (h2.2.2.2.2.2.1 k hk)
theorem FrAt.fine (h : FrAt W f r x) : W.cell? ⟨f, 35, none⟩ = some (.bool x.fin) := by
  obtain ⟨cs, h1, h2⟩ := h
  exact h1.cell h2.2.2.2.2.2.2.1
theorem FrAt.isw (h : FrAt W f r x) (k : Nat) : isW (x.reg k) := by
  obtain ⟨cs, h1, h2⟩ := h
  exact h2.2.2.2.2.2.2.2.1 k
theorem FrAt.isws (h : FrAt W f r x) (k : Nat) : isW (x.stk k) := by
  obtain ⟨cs, h1, h2⟩ := h
  exact h2.2.2.2.2.2.2.2.2 k
theorem FrAt.put (h : FrAt W f r x) {k : Nat} (hk : k < 8) {v : Int} (hv : isW v) : FrAt ((W.setCell ⟨f, 3 + k * 2, none⟩ (.int .u32 v)).setCell ⟨f, 3 + k * 2 + 1, none⟩ (.bool true)) f r (putF x k v) := by
  obtain ⟨cs, h1, c0, c1, c2, c3, c4, c5, c6, c7, c8⟩ := h
  refine ⟨_, (h1.set (3 + k * 2) _).set (3 + k * 2 + 1) _, by simp [c0], ?_, ?_, ?_, fun j hj => ?_, fun j hj => ?_, ?_, fun j => ?_, c8⟩
  · rw [Array.getElem?_setIfInBounds_ne (by omega), Array.getElem?_setIfInBounds_ne (by omega)]; exact c1
  · rw [Array.getElem?_setIfInBounds_ne (by omega), Array.getElem?_setIfInBounds_ne (by omega)]; exact c2
  · rw [Array.getElem?_setIfInBounds_ne (by omega), Array.getElem?_setIfInBounds_ne (by omega)]; exact c3
  · by_cases e : j = k
    · subst e
      refine ⟨?_, ?_⟩
      · rw [Array.getElem?_setIfInBounds_ne (by omega), Array.getElem?_setIfInBounds_self_of_lt (by omega)]
        simp [putF, Fr.reg]
      · rw [Array.getElem?_setIfInBounds_self_of_lt (by simp; omega)]
        simp [putF, Fr.isSet]
    · have := c4 j hj
      refine ⟨?_, ?_⟩
      · rw [Array.getElem?_setIfInBounds_ne (by omega), Array.getElem?_setIfInBounds_ne (by omega)]
        simpa [putF, Fr.reg, e] using this.1
      · rw [Array.getElem?_setIfInBounds_ne (by omega), Array.getElem?_setIfInBounds_ne (by omega)]
        simpa [putF, Fr.isSet, e] using this.2
  · rw [Array.getElem?_setIfInBounds_ne (by omega), Array.getElem?_setIfInBounds_ne (by omega)]; exact c5 j hj
  · rw [Array.getElem?_setIfInBounds_ne (by omega), Array.getElem?_setIfInBounds_ne (by omega)]; exact c6
  · by_cases e : j = k
    · simp [putF, Fr.reg, e]; exact hv
    · simp [putF, Fr.reg, e]; exact c7 j
theorem FrAt.store (h : FrAt W f r x) {k : Nat} (hk : k < 16) {v : Int} (hv : isW v) : FrAt (W.setCell ⟨f, 19 + k, none⟩ (.int .u32 v)) f r (storeF x k v) := by
  obtain ⟨cs, h1, c0, c1, c2, c3, c4, c5, c6, c7, c8⟩ := h
  refine ⟨_, h1.set (19 + k) _, by simp [c0], ?_, ?_, ?_, fun j hj => ?_, fun j hj => ?_, ?_, c7, fun j => ?_⟩
  · rw [Array.getElem?_setIfInBounds_ne (by omega)]; exact c1
  · rw [Array.getElem?_setIfInBounds_ne (by omega)]; exact c2
  · rw [Array.getElem?_setIfInBounds_ne (by omega)]; exact c3
  · rw [Array.getElem?_setIfInBounds_ne (by omega), Array.getElem?_setIfInBounds_ne (by omega)]; exact c4 j hj
  · by_cases e : j = k
    · subst e
      rw [Array.getElem?_setIfInBounds_self_of_lt (by omega)]
      simp [storeF, Fr.stk]
    · rw [Array.getElem?_setIfInBounds_ne (by omega)]
      simpa [storeF, Fr.stk, e] using c5 j hj
  · rw [Array.getElem?_setIfInBounds_ne (by omega)]; exact c6
  · by_cases e : j = k
    · simp [storeF, Fr.stk, e]; exact hv
    · simp [storeF, Fr.stk, e]; exact c8 j
theorem FrAt.go (h : FrAt W f r x) (p : Int) : FrAt (W.setCell ⟨f, 2, none⟩ (.int .i64 p)) f r (atF x p) := by
  obtain ⟨cs, h1, c0, c1, c2, c3, c4, c5, c6, c7, c8⟩ := h
  refine ⟨_, h1.set 2 _, by simp [c0], ?_, ?_, ?_, fun j hj => ?_, fun j hj => ?_, ?_, c7, c8⟩
  · rw [Array.getElem?_setIfInBounds_ne (by omega)]; exact c1
  · rw [Array.getElem?_setIfInBounds_ne (by omega)]; exact c2
  · rw [Array.getElem?_setIfInBounds_self_of_lt (by omega)]; rfl
  · rw [Array.getElem?_setIfInBounds_ne (by omega), Array.getElem?_setIfInBounds_ne (by omega)]; exact c4 j hj
  · rw [Array.getElem?_setIfInBounds_ne (by omega)]; exact c5 j hj
  · rw [Array.getElem?_setIfInBounds_ne (by omega)]; exact c6
theorem FrAt.over (h : FrAt W f r x) : FrAt (W.setCell ⟨f, 35, none⟩ (.bool true)) f r (endF x) := by
  obtain ⟨cs, h1, c0, c1, c2, c3, c4, c5, c6, c7, c8⟩ := h
  refine ⟨_, h1.set 35 _, by simp [c0], ?_, ?_, ?_, fun j hj => ?_, fun j hj => ?_, ?_, c7, c8⟩
  · rw [Array.getElem?_setIfInBounds_ne (by omega)]; exact c1
  · rw [Array.getElem?_setIfInBounds_ne (by omega)]; exact c2
  · rw [Array.getElem?_setIfInBounds_ne (by omega)]; exact c3
  · rw [Array.getElem?_setIfInBounds_ne (by omega), Array.getElem?_setIfInBounds_ne (by omega)]; exact c4 j hj
  · rw [Array.getElem?_setIfInBounds_ne (by omega)]; exact c5 j hj
  · rw [Array.getElem?_setIfInBounds_self_of_lt (by omega)]; rfl
end
end Go.Proofs.YtilddlgcfbefiaaDoor

/-
  What the interpreter's small methods on a frame do, as contracts over the translated program: put, exit, within, operand.
-/
namespace Go.Proofs.YtilddlgcfbefiaaDoor
set_option linter.unusedSimpArgs false
set_option linter.unusedVariables false
open Go Go.RowKit
theorem put_any (f r : Nat) (x : Fr) (k : Nat) (hk : k < 8) (v : Int) (hv : isW v) (W : World) (h : FrAt W f r x) :
    Calls Tryd.prog 47 #[.pointer (some ⟨f, 0, none⟩), .int .i64 k, .int .u32 v] W fun e w' => e = .returned (.tuple #[]) ∧ W.grownBy w' (some f) ∧ FrAt w' f r (putF x k v) := by
  have hkI : (k : Int) < 8 := by omega
  have hp := Lib.hid (h.put hk hv)
  obtain ⟨c0, c1⟩ := h.word hk
  have f0 := h.free (3 + k * 2)
  have f1 := h.free (3 + k * 2 + 1)
  clear h hk hv
  go_enter Tryd.func47, Tryd.ntmps47
  go_wp2
  refine bodyPost_end (results_none rfl _ _ _) rfl ?_
  exact ⟨rfl, grow_trans (grownBy_setCell _ _ _) (grownBy_setCell _ _ _), hp.out⟩
abbrev inV (op fn d s : Int) (rg : Bool) (o m : Int) : Value := .agg #[.int .i64 op, .int .i64 fn, .int .i64 d, .int .i64 s, .bool rg, .int .i64 o, .int .u32 m]
theorem exit_any (f r : Nat) (x : Fr) (op fn d s : Int) (rg : Bool) (o m : Int) (W : World) (h : FrAt W f r x) :
    Calls Tryd.prog 75 #[.pointer (some ⟨f, 0, none⟩), inV op fn d s rg o m] W fun e w' => e = .returned (.int .i64 (if x.isSet 0 then 0 else 10)) ∧ W.grownBy w' (some f) ∧ FrAt w' f r (if x.isSet 0 then endF x else x) := by
  have hb : Below W.heap.size W (W.alloc (.cells #[.int .i64 op, .int .i64 fn, .int .i64 d, .int .i64 s, .bool rg, .int .i64 o, .int .u32 m] 50)) := (Below.refl _ _).alloc (Nat.le_refl _) _
  have h' := h.later hb
  have hp := Lib.hid h'.over
  have HB := Lib.hid hb
  have HF := Lib.hid h'
  obtain ⟨c0, c1⟩ := h'.word (k := 0) (by omega)
  have c9 := h'.fine
  have f9 := h'.free 35
  obtain ⟨b, hbb⟩ : ∃ b, x.isSet 0 = b := ⟨_, rfl⟩
  rw [hbb] at c1 ⊢
  clear hb h h' hbb
  cases b with
  | false =>
    go_enter Tryd.func75, Tryd.ntmps75
    go_wp2
    go_ret
    exact ⟨rfl, grownBy_of_below HB.out _, HF.out⟩
  | true =>
    go_enter Tryd.func75, Tryd.ntmps75
    go_wp2
    go_ret
    exact ⟨rfl, grow_trans (grownBy_of_below HB.out _) (grownBy_setCell _ ⟨f, 35, none⟩ _), hp.out⟩
theorem iwithin_any (a : Option Addr) (len cap : Nat) (hlen : len ≤ 100) (v : Int) (hv : isW v) (b : Bool) (W : World) :
    Calls Tryd.prog 94 #[.slice a len cap, .agg #[.int .u32 v, .bool b]] W fun e w' => e = .returned (.bool (b && decide (v < (len : Int)))) ∧ Below W.heap.size W w' := by
  have hb : Below W.heap.size W (W.alloc (.cells #[.int .u32 v, .bool b] 88)) := (Below.refl _ _).alloc (Nat.le_refl _) _
  have v0 := hv.1
  have v1 := hv.2
  have HB := Lib.hid hb
  clear hb hv
  cases b with
  | false =>
    go_enter Tryd.func94, Tryd.ntmps94
    go_wp2
    go_ret
    exact ⟨rfl, HB.out⟩
  | true =>
    go_enter Tryd.func94, Tryd.ntmps94
    go_wp2
    go_ret
    exact ⟨by simp, HB.out⟩
end Go.Proofs.YtilddlgcfbefiaaDoor

/-
  What the interpreter's operand returns, as a contract over the translated program.
-/
namespace Go.Proofs.YtilddlgcfbefiaaDoor
set_option linter.unusedSimpArgs false
set_option linter.unusedVariables false
open Go Go.RowKit
theorem step_rowJ {ops : Array Oper} {o : Oper} {a : Act} {K : Act → World → Prop} {Q : Exit → Act → World → Prop} {E : Prop} (w : World) (hgd : o.guard = none) (ty : TypeId) (x y : Operand) (ho : o.op = .store ty x y) (hd : o.dst = none)
    (g : Nat) (cells : Array Value) (hx : a.eval x = .pointer (some ⟨g, 0, none⟩)) (hy : a.eval y = .agg cells) (t : TypeId) (old : Array Value) (hg : w.heap[g]? = some (.cells old t (0, 0))) (hi : (Tryd.prog.info? ty).map (·.size) = some cells.size)
    (hold : old.size = cells.size) (h1 : cells.all (·.oneCell') = true) (h : K a (w.setRow g cells)) :
    if Region.wanted o (yielded ops a.tmps) = true then Oper.wp Tryd.prog o a w K Q else E := by
  have hw : Region.wanted o (yielded ops a.tmps) = true := by simp [Region.wanted, hgd]
  rw [if_pos hw]
  exact wp_store_row ty x y ho g cells hx hy t old hg hi hold h1 (by rw [hd]; exact h)
/- the second word of an instruction, and whether it is set -/
def opW (x : Fr) (rg : Bool) (s m : Int) : Int := if rg then x.reg s.toNat else m
def opS (x : Fr) (rg : Bool) (s : Int) : Bool := if rg then x.isSet s.toNat else true
theorem opW_w {W : World} {f r : Nat} {x : Fr} (h : FrAt W f r x) (rg : Bool) (s m : Int) (hm : isW m) : isW (opW x rg s m) := by
  unfold opW
  cases rg with
  | false => exact hm
  | true => exact h.isw _
set_option maxRecDepth 100000 in
set_option maxHeartbeats 20000000 in
theorem operand_any (f r : Nat) (x : Fr) (op fn d s : Int) (rg : Bool) (o m : Int) (hs0 : 0 ≤ s) (hs : s < 8) (W : World) (h : FrAt W f r x) :
    Calls Tryd.prog 91 #[.pointer (some ⟨f, 0, none⟩), inV op fn d s rg o m] W fun e w' => e = .returned (.agg #[.int .u32 (opW x rg s m), .bool (opS x rg s)]) ∧ Below W.heap.size W w' := by
  obtain ⟨k, rfl⟩ : ∃ k : Nat, s = k := ⟨s.toNat, by omega⟩
  have hk : k < 8 := by omega
  have hb : Below W.heap.size W ((W.alloc (.cells #[.int .i64 op, .int .i64 fn, .int .i64 d, .int .i64 k, .bool rg, .int .i64 o, .int .u32 m] 50)).alloc (.cells #[.int .u32 0, .bool false] 88)) := box2 (Below.refl _ _) (Nat.le_refl _) _ _
  have h' := h.later hb
  have HR : Hid (Box ((W.alloc (.cells #[.int .i64 op, .int .i64 fn, .int .i64 d, .int .i64 k, .bool rg, .int .i64 o, .int .u32 m] 50)).alloc (.cells #[.int .u32 0, .bool false] 88)) (W.heap.size + 1) 88 #[.int .u32 0, .bool false]) := Lib.hid (by
    have := Box.new (W.alloc (.cells #[.int .i64 op, .int .i64 fn, .int .i64 d, .int .i64 k, .bool rg, .int .i64 o, .int .u32 m] 50)) 88 #[.int .u32 0, .bool false]
    rwa [show (W.alloc (.cells #[.int .i64 op, .int .i64 fn, .int .i64 d, .int .i64 k, .bool rg, .int .i64 o, .int .u32 m] 50)).heap.size = W.heap.size + 1 by simp] at this)
  have HI := Lib.hid ((Box.new W 50 #[.int .i64 op, .int .i64 fn, .int .i64 d, .int .i64 k, .bool rg, .int .i64 o, .int .u32 m]).alloc (.cells #[.int .u32 0, .bool false] 88))
  obtain ⟨W1, hW1⟩ : ∃ W1, ((W.alloc (.cells #[.int .i64 op, .int .i64 fn, .int .i64 d, .int .i64 k, .bool rg, .int .i64 o, .int .u32 m] 50)).alloc (.cells #[.int .u32 0, .bool false] 88)) = W1 := ⟨_, rfl⟩
  rw [hW1] at hb h' HR HI
  have HB := Lib.hid hb
  have HFl := Lib.hid h.lt
  obtain ⟨a0, a1⟩ := h'.word hk
  have i3 : W1.cell? ⟨W.heap.size, 3, none⟩ = some (.int .i64 (k : Int)) := HI.out.cell rfl
  have i4 : W1.cell? ⟨W.heap.size, 4, none⟩ = some (.bool rg) := HI.out.cell rfl
  have i6 : W1.cell? ⟨W.heap.size, 6, none⟩ = some (.int .u32 m) := HI.out.cell rfl
  have hkI : (k : Int) < 8 := by omega
  have HK := Lib.hid hk
  clear hb h h' hk hs0 hs
  cases rg with
  | false =>
    have e1 : opW x false (k : Int) m = m := rfl
    have e2 : opS x false (k : Int) = true := rfl
    rw [e1, e2]
    go_enter Tryd.func91, Tryd.ntmps91
    go_wp2_with (refine wpList_store_row rfl 88 _ _ rfl (W.heap.size + 1) _ rfl rfl 88 _ HR.out (by kernel_rfl) rfl (by simp [Value.oneCell']) ?_)
    refine bodyPost_ret (v := .agg #[.int .u32 m, .bool true]) ?_ rfl ?_
    · exact results_cell_row Tryd.results91 _ _ (W.heap.size + 1) 88 _ (0, 0) _ rfl (setRow_heap _ _ _ _ _ _ HR.out) Tryd.underlying88 rfl (by kernel_rfl)
    · exact ⟨rfl, below_setRow HB.out (by omega) _⟩
  | true =>
    have e1 : opW x true (k : Int) m = x.reg k := rfl
    have e2 : opS x true (k : Int) = x.isSet k := rfl
    rw [e1, e2]
    obtain ⟨u, hu⟩ : ∃ u, x.reg k = u := ⟨_, rfl⟩
    obtain ⟨b, hbb⟩ : ∃ b, x.isSet k = b := ⟨_, rfl⟩
    rw [hu] at a0 ⊢
    rw [hbb] at a1 ⊢
    clear hu hbb e1 e2
    have HKp : Hid (∀ W', Below (W.heap.size + 1) W1 W' → W'.cell? ⟨W.heap.size, 3, none⟩ = some (.int .i64 (k : Int)) ∧ W'.cell? ⟨f, 3 + k * 2, none⟩ = some (.int .u32 u) ∧ W'.cell? ⟨f, 3 + k * 2 + 1, none⟩ = some (.bool b)) := Lib.hid (fun W' hb => ⟨(hb.cell (p := ⟨W.heap.size, 3, none⟩) (by show W.heap.size < W.heap.size + 1; omega)).trans i3, (hb.cell (p := ⟨f, 3 + k * 2, none⟩) (by show f < W.heap.size + 1; have := HFl.out; omega)).trans a0, (hb.cell (p := ⟨f, 3 + k * 2 + 1, none⟩) (by show f < W.heap.size + 1; have := HFl.out; omega)).trans a1⟩)
    clear i3 i6 a0 a1
    go_enter Tryd.func91, Tryd.ntmps91
    go_wp2_with fail
    clear hW1 i4
    refine wp_region_held_drew (S := (fun W' => W'.cell? ⟨W.heap.size, 3, none⟩ = some (.int .i64 (k : Int)) ∧ W'.cell? ⟨f, 3 + k * 2, none⟩ = some (.int .u32 u) ∧ W'.cell? ⟨f, 3 + k * 2 + 1, none⟩ = some (.bool b))) (by kernel_rfl) (HKp.out _ (Below.refl _ _).drew) (fun hHeld => ?_)
    refine wpAnyH_yield (i := 0) (v := ?v0) rfl rfl (by kernel_rfl) (by kernel_rfl) (by kernel_rfl) (fun _ _ _ h => h) (by rfl) ?hy0 hHeld ?rest0
    case hy0 =>
      intro w hSw
      (try dsimp only at hSw)
      go_simp
      try with_reducible rfl
    simp only [Act.put, List.setIfInBounds_toArray, List.set_cons_zero, List.set_cons_succ]
    refine wpAnyH_yield (i := 1) (v := ?v1) rfl rfl (by kernel_rfl) (by kernel_rfl) (by kernel_rfl) (fun _ _ _ h => h) (by rfl) ?hy1 hHeld ?rest1
    case hy1 =>
      intro w hSw
      (try dsimp only at hSw)
      go_simp
      try with_reducible rfl
    simp only [Act.put, List.setIfInBounds_toArray, List.set_cons_zero, List.set_cons_succ]
    refine wpAnyH_yield (i := 2) (v := ?v2) rfl rfl (by kernel_rfl) (by kernel_rfl) (by kernel_rfl) (fun _ _ _ h => h) (by rfl) ?hy2 hHeld ?rest2
    case hy2 =>
      intro w hSw
      (try dsimp only at hSw)
      go_simp
      try with_reducible rfl
    simp only [Act.put, List.setIfInBounds_toArray, List.set_cons_zero, List.set_cons_succ]
    refine wpAnyH_yield (i := 3) (v := ?v3) rfl rfl (by kernel_rfl) (by kernel_rfl) (by kernel_rfl) (fun _ _ _ h => h) (by rfl) ?hy3 hHeld ?rest3
    case hy3 =>
      intro w hSw
      (try dsimp only at hSw)
      go_simp
      try with_reducible rfl
    simp only [Act.put, List.setIfInBounds_toArray, List.set_cons_zero, List.set_cons_succ]
    refine wpAnyH_yield (i := 4) (v := ?v4) rfl rfl (by kernel_rfl) (by kernel_rfl) (by kernel_rfl) (fun _ _ _ h => h) (by rfl) ?hy4 hHeld ?rest4
    case hy4 =>
      intro w hSw
      (try dsimp only at hSw)
      go_simp
      try with_reducible rfl
    simp only [Act.put, List.setIfInBounds_toArray, List.set_cons_zero, List.set_cons_succ]
    refine wpAnyH_yield (i := 5) (v := ?v5) rfl rfl (by kernel_rfl) (by kernel_rfl) (by kernel_rfl) (fun _ _ _ h => h) (by rfl) ?hy5 hHeld ?rest5
    case hy5 =>
      intro w hSw
      (try dsimp only at hSw)
      go_simp
      try with_reducible rfl
    simp only [Act.put, List.setIfInBounds_toArray, List.set_cons_zero, List.set_cons_succ]
    refine wpAnyH_yield (i := 6) (v := ?v6) rfl rfl (by kernel_rfl) (by kernel_rfl) (by kernel_rfl) (fun _ _ _ h => h) (by rfl) ?hy6 hHeld ?rest6
    case hy6 =>
      intro w hSw
      (try dsimp only at hSw)
      go_simp
      try with_reducible rfl
    simp only [Act.put, List.setIfInBounds_toArray, List.set_cons_zero, List.set_cons_succ]
    refine wpAnyH_ready (rs := [7]) (by kernel_rfl) (by simp) ?_
    refine AllReadyH.cons rfl (fun K hK => ?_) AllReadyH.nil
    refine step_rowJ _ (by rfl) 88 _ _ (by rfl) (by rfl) (W.heap.size + 1) #[.int .u32 u, .bool b] (by rfl) (by rfl) 88 _ HR.out (by kernel_rfl) rfl (by simp [Value.oneCell']) ?_
    refine hK.out _ _ (HKp.out _ (below_setRow ((Below.refl _ _).drew) (Nat.le_refl _) _)) (fun hHeld => ?_)
    clear hK K
    try simp only [Act.put, List.setIfInBounds_toArray, List.set_cons_zero, List.set_cons_succ]
    refine wpAnyH_done (by kernel_rfl) ?_ _
    go_wp2_with fail
    refine bodyPost_ret (v := .agg #[.int .u32 u, .bool b]) ?_ rfl ?_
    · exact results_cell_row Tryd.results91 _ _ (W.heap.size + 1) 88 _ (0, 0) _ rfl (setRow_heap _ _ _ _ _ _ HR.out) Tryd.underlying88 rfl (by kernel_rfl)
    · exact ⟨rfl, below_setRow HB.out.drew (by omega) _⟩
end Go.Proofs.YtilddlgcfbefiaaDoor

/-
  What the interpreter's back and args do, as contracts over the translated program.
-/
namespace Go.Proofs.YtilddlgcfbefiaaDoor
set_option linter.unusedSimpArgs false
set_option linter.unusedVariables false
open Go Go.RowKit
def clr1 (x : Fr) (k : Nat) : Fr := (x.1, x.2.1, fun j => if j = k then 0 else x.reg j, fun j => if j = k then false else x.isSet j, x.2.2.2.2.1, x.fin)
def clrF (x : Fr) : Fr := clr1 (clr1 (clr1 (clr1 (clr1 x 1) 2) 3) 4) 5
def backF (x : Fr) (v : Int) : Fr := putF (clrF x) 0 v
theorem FrAt.unset {W : World} {f r : Nat} {x : Fr} (h : FrAt W f r x) {k : Nat} (hk : k < 8) : FrAt ((W.setCell ⟨f, 3 + k * 2, none⟩ (.int .u32 0)).setCell ⟨f, 3 + k * 2 + 1, none⟩ (.bool false)) f r (clr1 x k) := by
  obtain ⟨cs, h1, c0, c1, c2, c3, c4, c5, c6, c7, c8⟩ := h
  refine ⟨_, (h1.set (3 + k * 2) _).set (3 + k * 2 + 1) _, by simp [c0], ?_, ?_, ?_, fun j hj => ?_, fun j hj => ?_, ?_, fun j => ?_, c8⟩
  · rw [Array.getElem?_setIfInBounds_ne (by omega), Array.getElem?_setIfInBounds_ne (by omega)]; exact c1
  · rw [Array.getElem?_setIfInBounds_ne (by omega), Array.getElem?_setIfInBounds_ne (by omega)]; exact c2
  · rw [Array.getElem?_setIfInBounds_ne (by omega), Array.getElem?_setIfInBounds_ne (by omega)]; exact c3
  · by_cases e : j = k
    · subst e
      refine ⟨?_, ?_⟩
      · rw [Array.getElem?_setIfInBounds_ne (by omega), Array.getElem?_setIfInBounds_self_of_lt (by omega)]
        simp [clr1, Fr.reg]
      · rw [Array.getElem?_setIfInBounds_self_of_lt (by simp; omega)]
        simp [clr1, Fr.isSet]
    · have := c4 j hj
      refine ⟨?_, ?_⟩
      · rw [Array.getElem?_setIfInBounds_ne (by omega), Array.getElem?_setIfInBounds_ne (by omega)]
        simpa [clr1, Fr.reg, e] using this.1
      · rw [Array.getElem?_setIfInBounds_ne (by omega), Array.getElem?_setIfInBounds_ne (by omega)]
        simpa [clr1, Fr.isSet, e] using this.2
  · rw [Array.getElem?_setIfInBounds_ne (by omega), Array.getElem?_setIfInBounds_ne (by omega)]; exact c5 j hj
  · rw [Array.getElem?_setIfInBounds_ne (by omega), Array.getElem?_setIfInBounds_ne (by omega)]; exact c6
  · by_cases e : j = k
    · simp [clr1, Fr.reg, e]; exact isW_zero
    · simp [clr1, Fr.reg, e]; exact c7 j
theorem run_clearR (w : World) (ty : TypeId) (f c : Nat) (hc : ∀ j, j < 10 → (w.cell? ⟨f, 5 + j, none⟩).isSome = true) (hf : ∀ j, j < 10 → w.frozen? ⟨f, 5 + j, none⟩ = false) :
    (Builtin.clear_ #[163] ty #[.slice (some ⟨f, 5, none⟩) 5 c]).run Tryd.prog w = .ok (.tuple #[]) (w.setCells f 5 [.int .u32 0, .bool false, .int .u32 0, .bool false, .int .u32 0, .bool false, .int .u32 0, .bool false, .int .u32 0, .bool false]) := by
  have hst := run_storeCells_cells (P := Tryd.prog) f 5 [.int .u32 0, .bool false, .int .u32 0, .bool false, .int .u32 0, .bool false, .int .u32 0, .bool false, .int .u32 0, .bool false] 0 w (by simpa using hc) (by simpa using hf) (by simp [Value.oneCell'])
  simp only [Nat.add_zero] at hst
  have hz : (zeroValue 88).run Tryd.prog w = .ok (.agg #[.int .u32 0, .bool false]) w := by kernel_rfl
  have hzc : (Builtin.zeroCells (Value.agg #[.int .u32 0, .bool false]).cells 5).toList = [.int .u32 0, .bool false, .int .u32 0, .bool false, .int .u32 0, .bool false, .int .u32 0, .bool false, .int .u32 0, .bool false] := by kernel_rfl
  simp [Builtin.clear_, run_underlying Tryd.underlying163, hz, hzc, hst]
theorem clear_frame {W : World} {f r : Nat} {x : Fr} (h : FrAt W f r x) :
    FrAt (W.setCells f 5 [.int .u32 0, .bool false, .int .u32 0, .bool false, .int .u32 0, .bool false, .int .u32 0, .bool false, .int .u32 0, .bool false]) f r (clrF x) :=
  ((((h.unset (k := 1) (by omega)).unset (k := 2) (by omega)).unset (k := 3) (by omega)).unset (k := 4) (by omega)).unset (k := 5) (by omega)
theorem clear_grown (W : World) (f : Nat) : W.grownBy (W.setCells f 5 [.int .u32 0, .bool false, .int .u32 0, .bool false, .int .u32 0, .bool false, .int .u32 0, .bool false, .int .u32 0, .bool false]) (some f) :=
  grow_trans (grow_trans (grow_trans (grow_trans (grow_trans (grow_trans (grow_trans (grow_trans (grow_trans (grownBy_setCell W ⟨f, 5, none⟩ _) (grownBy_setCell _ ⟨f, 6, none⟩ _)) (grownBy_setCell _ ⟨f, 7, none⟩ _)) (grownBy_setCell _ ⟨f, 8, none⟩ _)) (grownBy_setCell _ ⟨f, 9, none⟩ _)) (grownBy_setCell _ ⟨f, 10, none⟩ _)) (grownBy_setCell _ ⟨f, 11, none⟩ _)) (grownBy_setCell _ ⟨f, 12, none⟩ _)) (grownBy_setCell _ ⟨f, 13, none⟩ _)) (grownBy_setCell _ ⟨f, 14, none⟩ _)
theorem back_any (f r : Nat) (x : Fr) (v : Int) (hv : isW v) (W : World) (h : FrAt W f r x) :
    Calls Tryd.prog 98 #[.pointer (some ⟨f, 0, none⟩), .int .u32 v] W fun e w' => e = .returned (.tuple #[]) ∧ W.grownBy w' (some f) ∧ FrAt w' f r (backF x v) := by
  have hcl := fun ty => run_clearR W ty f 7 (fun j hj => by
    obtain ⟨cs, h1, h2⟩ := h
    rcases Nat.mod_two_eq_zero_or_one j with e | e
    · have := h1.cell (h2.2.2.2.2.1 (1 + j / 2) (by omega)).1
      rw [show 3 + (1 + j / 2) * 2 = 5 + j by omega] at this
      rw [this]; rfl
    · have := h1.cell (h2.2.2.2.2.1 (1 + j / 2) (by omega)).2
      rw [show 3 + (1 + j / 2) * 2 + 1 = 5 + j by omega] at this
      rw [this]; rfl) (fun j hj => h.free (5 + j))
  have HF := Lib.hid (clear_frame h)
  have HG := Lib.hid (clear_grown W f)
  clear h
  go_enter Tryd.func98, Tryd.ntmps98
  go_wp2_with fail
  refine (put_any f r (clrF x) 0 (by omega) v hv _ HF.out).mono ?_
  rintro e w8 ⟨rfl, hg, hF⟩
  go_wp2_with fail
  refine bodyPost_end (results_none rfl _ _ _) rfl ?_
  exact ⟨rfl, grow_trans HG.out hg, hF⟩
/- the words of the registers from 1 on -/
def regsL (x : Fr) (n : Nat) : List Int := (List.range n).map (fun k => x.reg (k + 1))
def allSet (x : Fr) (n : Nat) : Bool := (List.range n).all (fun k => x.isSet (k + 1))
theorem regsL_succ (x : Fr) (k : Nat) : regsL x (k + 1) = regsL x k ++ [x.reg (k + 1)] := by simp [regsL, List.range_succ]
theorem regsL_len (x : Fr) (k : Nat) : (regsL x k).length = k := by simp [regsL]
theorem allSet_no {x : Fr} {n k : Nat} (hk : k < n) (h : x.isSet (k + 1) = false) : allSet x n = false := by
  rcases hA : allSet x n with _ | _
  · rfl
  · simp only [allSet, List.all_eq_true, List.mem_range] at hA
    rw [hA k hk] at h
    cases h
theorem regsL_w {W : World} {f r : Nat} {x : Fr} (h : FrAt W f r x) (n : Nat) : wordL (regsL x n) := fun z hz => by
  obtain ⟨k, _, rfl⟩ := List.mem_map.1 hz
  exact h.isw _
set_option maxRecDepth 100000 in
set_option maxHeartbeats 20000000 in
theorem rargs_any (f r : Nat) (x : Fr) (c0 : Int) (n : Nat) (hn : n ≤ 7) (hcn : c0.toNat = n) (W : World) (h : FrAt W f r x) :
    Calls Tryd.prog 95 #[.pointer (some ⟨f, 0, none⟩), .int .i64 c0] W fun e w' =>
      Below W.heap.size W w' ∧ ((allSet x n = false ∧ e = .returned (.tuple #[.slice none 0 0, .bool false])) ∨ (allSet x n = true ∧ ∃ b c, e = .returned (.tuple #[.slice b n c, .bool true]) ∧ WordsAt w' b n c (regsL x n))) := by
  obtain ⟨iW, hiW, hz0, hz1, hz2⟩ := info_parts infoW
  have HF := Lib.hid h
  have hn0 : c0 ≤ 7 := by omega
  clear h
  go_enter Tryd.func95, Tryd.ntmps95
  go_wp2_with fail
  go_loopw [6, 10] (fun l i wr => ∃ (k : Nat) (v : Value), k ≤ n ∧ i = .int .i64 k ∧ v = l ∧ Hid (Below W.heap.size W wr) ∧ Hid (wr.ownsRow W.heap.size 25 1 v k (wordsV (regsL x k))) ∧ Hid (∀ j, j < k → x.isSet (j + 1) = true)) (fun _ i _ => n - (intOf i).toNat)
  case atStart => exact ⟨0, .slice none 0 0, by omega, rfl, rfl, Lib.hid (Below.refl _ _), Lib.hid (World.ownsRow_nil _ _ _ _), Lib.hid (fun j hj => absurd hj (by omega))⟩
  case round =>
    obtain ⟨k, v, hk, rfl, rfl, HB, HO, HS⟩ := hrel
    by_cases hkn : k < n
    · have hkI : (k : Int) < c0 := by omega
      have HFr := Lib.hid (HF.out.later HB.out)
      obtain ⟨a0, a1⟩ := HFr.out.word (k := k + 1) (by omega)
      have haddr : 3 + (1 + k) * 2 = 3 + (k + 1) * 2 := by omega
      have a0' : wr.cell? ⟨f, 3 + (1 + k) * 2, none⟩ = some (.int .u32 (x.reg (k + 1))) := by rw [haddr]; exact a0
      have a1' : wr.cell? ⟨f, 3 + (1 + k) * 2 + 1, none⟩ = some (.bool (x.isSet (k + 1))) := by rw [haddr]; exact a1
      have hk1 : (1 : Int) + (k : Int) < 8 := by omega
      have hk0 : (0 : Int) ≤ (k : Int) := Int.natCast_nonneg _
      have hnat : ((1 : Int) + (k : Int)).toNat = 1 + k := by omega
      obtain ⟨u, hu⟩ : ∃ u, x.reg (k + 1) = u := ⟨_, rfl⟩
      obtain ⟨b, hb⟩ : ∃ b, x.isSet (k + 1) = b := ⟨_, rfl⟩
      rw [hu] at a0 a0'
      rw [hb] at a1 a1'
      have HU := Lib.hid hu
      have HBt := Lib.hid hb
      clear hu hb
      clear a0' a1'
      cases b with
      | false =>
        have HA := Lib.hid (allSet_no hkn HBt.out)
        have HBx := Lib.hid (HB.out.alloc HB.out.size (.cells #[.int .u32 u, .bool false] 88))
        go_wp2_with fail
        go_ret2
        exact ⟨HBx.out, .inl ⟨HA.out, rfl⟩⟩
      | true =>
        have hb5 : Below wr.heap.size wr ((wr.alloc (.cells #[.int .u32 u, .bool true] 88)).alloc (.cells #[.int .u32 u] 25)) := box2 (Below.refl _ _) (Nat.le_refl _) _ _
        have hO6 := ownsRow_below HO.out hb5
        have hs := HB.out.size
        have HNew : Hid (Box ((wr.alloc (.cells #[.int .u32 u, .bool true] 88)).alloc (.cells #[.int .u32 u] 25)) (wr.heap.size + 1) 25 #[.int .u32 u]) := Lib.hid (by
          have := Box.new (wr.alloc (.cells #[.int .u32 u, .bool true] 88)) 25 #[.int .u32 u]
          rwa [show (wr.alloc (.cells #[.int .u32 u, .bool true] 88)).heap.size = wr.heap.size + 1 by simp] at this)
        have HB5 := Lib.hid hb5
        have HW1 : Hid (wordsV (regsL x k) ++ [.int .u32 u] = wordsV (regsL x (k + 1))) := Lib.hid (by rw [regsL_succ, HU.out]; simp [wordsV])
        have HS1 : Hid (∀ j, j < k + 1 → x.isSet (j + 1) = true) := Lib.hid (fun j hj => by
          by_cases e : j = k
          · subst e; exact HBt.out
          · exact HS.out j (by omega))
        have hlt := Lib.hid HO.out.lt
        clear hb5
        go_wp2_with (at_builtin; refine wpList_append_lies _ rfl _ _ _ rfl W.heap.size 25 iW _ 1 4 Tryd.underlying52 hiW hz0 hz1 hz2 rfl (by omega) v k (wordsV (regsL x k)) rfl hO6 ⟨wr.heap.size + 1, 0, none⟩ 1 1 [.int .u32 u] rfl rfl (World.news_of_block HNew.out) (by simp [Value.oneCell']) (by omega) (by unfold maxLen; omega) (by omega) (by simp; omega) (wr.heap.size + 1 + 1) (by simp) ?_)
        intro g6 cp6 w6 hown6 hgrow6 hat6 hlt6
        rw [HW1.out] at hown6
        have HO7 := Lib.hid hown6
        have HB7 : Hid (Below W.heap.size W w6) := Lib.hid ((HB.out.trans (HB5.out.mono hs)).grown hgrow6 (by simp; omega) (fun g hg => by have := (hlt.out g hg).1; omega))
        clear hown6 hgrow6 hat6 hlt6 hO6 a0 a1
        go_wp2
        exact ⟨⟨k + 1, _, by omega, by go_num, rfl, HB7, HO7, HS1⟩, by simp [intOf]; omega⟩
    · have hkI : ¬ (k : Int) < c0 := by omega
      obtain rfl : k = n := by omega
      have HA : Hid (allSet x k = true) := Lib.hid (by simp only [allSet, List.all_eq_true, List.mem_range]; exact HS.out)
      obtain ⟨b, c, hv, hWd, _⟩ := words_own (regsL_len x k) (regsL_w HF.out k) HO.out
      subst hv
      have HWd := Lib.hid hWd
      clear hWd
      go_wp2_with fail
      go_ret2
      exact ⟨HB.out, .inr ⟨HA.out, b, c, rfl, HWd.out⟩⟩
end Go.Proofs.YtilddlgcfbefiaaDoor

