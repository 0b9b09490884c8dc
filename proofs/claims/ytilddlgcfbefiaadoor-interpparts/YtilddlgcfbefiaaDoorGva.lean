/-
  Texts that the laws of this layer stand on, one behind the other.
-/
import Derived.Test.YtilddlgcfbefiaaDoorU9
import Derived.Test.YtilddlgcfbefiaaDoorTR
/-
  What lies in memory while the package's calls work: the argument, the result's variable, a table of one's own; posts of the calls.
-/
namespace Go.Proofs.YtilddlgcfbefiaaDoor
set_option linter.unusedSimpArgs false
set_option linter.unusedVariables false
open Go Go.RowKit

/- a table that a call returns in memory of its own, with one more result, with two more -/
def Own2 (t : Tb) (v : Value) (w : World) (e : Ending) (w' : World) : Prop := ∃ u, e = .returned (.tuple #[tbV t.1 u t.2.2, v]) ∧ Below w.heap.size w w' ∧ Row w' w.heap.size u t.2.1
def Own3 (t : Tb) (v v2 : Value) (w : World) (e : Ending) (w' : World) : Prop := ∃ u, e = .returned (.tuple #[tbV t.1 u t.2.2, v, v2]) ∧ Below w.heap.size w w' ∧ Row w' w.heap.size u t.2.1
/- a variable that holds a table lies in none of the blocks of a row -/
theorem own_apart {W W' : World} {base U : Nat} {e : TypeId} {size n : Nat} {v : Value} {xs : List Value} {cs : Array Value} (h : W.ownsRow base e size v n xs) (he : e ≠ 42) (hB : Box W U 42 cs) (hg : W.grownBy W' (some U)) : W'.ownsRow base e size v n xs := by
  refine h.kept hg (.inr (fun e' => ?_))
  obtain ⟨_, ⟨rfl, _⟩ | ⟨g, cap, cur, rfl, _, hh, _⟩⟩ := h
  · cases e'
  · have e2 : g = U := Option.some.inj e'
    subst e2
    have hB' : W.heap[g]? = some (.cells cs 42 (0, 0)) := hB
    rw [hB'] at hh
    simp only [Option.some.injEq, Obj.cells.injEq] at hh
    exact he hh.2.1.symm
theorem Row.apart {W W' : World} {base U : Nat} {v : Value} {es : List Ent} {cs : Array Value} (h : Row W base v es) (hB : Box W U 42 cs) (hg : W.grownBy W' (some U)) : Row W' base v es := by
  obtain ⟨xs, o, od⟩ := h
  refine ⟨xs, own_apart o (by decide) hB hg, od.1, fun k hk => ?_, od.2.2⟩
  obtain ⟨e1, cv, e2, e3, e4, e5⟩ := od.2.1 k hk
  exact ⟨e1, cv, e2, own_apart e3 (by decide) hB hg, e4, e5⟩
theorem Row.notBox {W : World} {base U : Nat} {v : Value} {es : List Ent} {cs : Array Value} (h : Row W base v es) (hB : Box W U 42 cs) : v.ownBlock ≠ some U := by
  obtain ⟨xs, ⟨_, ⟨rfl, _⟩ | ⟨g, cap, cur, rfl, _, hh, _⟩⟩, _⟩ := h
  · intro e
    cases e
  · intro e
    have e2 : g = U := Option.some.inj e
    subst e2
    have hB' : W.heap[g]? = some (.cells cs 42 (0, 0)) := hB
    rw [hB'] at hh
    simp only [Option.some.injEq, Obj.cells.injEq] at hh
    exact absurd hh.2.1 (by decide)
theorem Row.words {W : World} {base g n c : Nat} {es : List Ent} (h : Row W base (.slice (some ⟨g, 0, none⟩) n c) es) (hn : es.length = n) {j : Nat} (hj : j < n) (h0 : 0 < (es.getD j zeroE).2.length) :
    ∃ gv cw, W.cell? ⟨g, j * 2, none⟩ = some (.int .u32 (es.getD j zeroE).1) ∧ W.cell? ⟨g, j * 2 + 1, none⟩ = some (.slice (some ⟨gv, 0, none⟩) (es.getD j zeroE).2.length cw) ∧ W.ownsRow base 25 1 (.slice (some ⟨gv, 0, none⟩) (es.getD j zeroE).2.length cw) (es.getD j zeroE).2.length (wordsV (es.getD j zeroE).2) ∧ wordL (es.getD j zeroE).2 ∧ base ≤ gv := by
  obtain ⟨xs, o, od⟩ := h
  rw [hn] at o
  obtain ⟨e1, cv, e2, e3, e4, e5⟩ := od.2.1 j (by omega)
  have o3 := e3
  obtain ⟨_, ⟨_, hz⟩ | ⟨gv, cw, cur, rfl, hb, _⟩⟩ := e3
  · omega
  · exact ⟨gv, cw, own_cells o _ _ e1, own_cells o _ _ e2, o3, e4.2, hb⟩
theorem own_notBox {W : World} {base gv n m c U : Nat} {e : TypeId} {size : Nat} {xs : List Value} {cs : Array Value} (h : W.ownsRow base e size (.slice (some ⟨gv, 0, none⟩) n c) m xs) (he : e ≠ 42) (hB : Box W U 42 cs) : gv ≠ U := by
  rintro rfl
  obtain ⟨_, ⟨e', _⟩ | ⟨g, cap, cur, e', _, hh, _⟩⟩ := h
  · cases e'
  · simp only [Value.slice.injEq, Option.some.injEq, Addr.mk.injEq, and_true, true_and] at e'
    obtain ⟨rfl, _⟩ := e'
    have hB' : W.heap[gv]? = some (.cells cs 42 (0, 0)) := hB
    rw [hB'] at hh
    simp only [Option.some.injEq, Obj.cells.injEq] at hh
    exact he hh.2.1.symm
/- the argument lies in the first block, the result's variable in the next, the table u in block U -/
def St (w W : World) (s : Sc) (p : Value) (x : Int) (U : Nat) (V : Value) (x' : Int) (es : List Ent) : Prop :=
  Below w.heap.size w W ∧ Box W w.heap.size 42 (tbA s p x) ∧ Box W (w.heap.size + 1) 42 zeroTA ∧ Box W U 42 (tbA s V x') ∧ Row W (w.heap.size + 2) V es ∧ w.heap.size + 2 ≤ U ∧ V.ownBlock ≠ some U
section
variable {w W W' : World} {s : Sc} {p : Value} {x x' : Int} {U : Nat} {V V' : Value} {es es' : List Ent}
theorem St.later (h : St w W s p x U V x' es) (hb : Below W.heap.size W W') : St w W' s p x U V x' es := by
  obtain ⟨h1, h2, h3, h4, h5, h6, h7⟩ := h
  exact ⟨h1.trans (hb.mono h1.size), h2.later hb, h3.later hb, h4.later hb, h5.below hb, h6, h7⟩
theorem St.turned (h : St w W s p x U V x' es) {g : Nat} (hg : W.grownBy W' (some g)) (hV : V.ownBlock = some g) (hr : Row W' (w.heap.size + 2) V es') : St w W' s p x U V x' es' := by
  obtain ⟨h1, h2, h3, h4, h5, h6, h7⟩ := h
  have hlt := h5.lt g hV
  refine ⟨h1.grown hg h1.size (fun g' e => by have := Option.some.inj e; omega), h2.grown hg (fun e => by have := Option.some.inj e; omega), h3.grown hg (fun e => by have := Option.some.inj e; omega), h4.grown hg (fun e => h7 (by rw [hV, e])), hr, h6, h7⟩
theorem St.start {Wc : World} (h1 : Below w.heap.size w Wc) (h2 : Box Wc w.heap.size 42 (tbA s p x)) (h3 : Box Wc (w.heap.size + 1) 42 zeroTA) (h5 : Row Wc (w.heap.size + 2) V es) : St w (Wc.alloc (.cells (tbA s V x) 42)) s p x Wc.heap.size V x es := by
  have hb : Below Wc.heap.size Wc (Wc.alloc (.cells (tbA s V x) 42)) := (Below.refl _ _).alloc (Nat.le_refl _) _
  refine ⟨h1.trans (hb.mono h1.size), h2.later hb, h3.later hb, Box.new _ _ _, h5.below hb, ?_, fun e => ?_⟩
  · have := h3.lt
    omega
  · have := (h5.lt _ e).2
    omega
theorem St.fin3 (h : St w W s p x U V x' es) (v v2 : Value) : Own3 (s, es, x') v v2 w (.returned (.tuple #[tbV s V x', v, v2])) (W.setRow (w.heap.size + 1) (tbA s V x')) := by
  obtain ⟨h1, h2, h3, h4, h5, h6, h7⟩ := h
  exact ⟨V, rfl, below_setRow h1 (by omega) _, (h5.far (grownBy_setRow _ _ _) (by omega)).low (by omega)⟩
theorem St.fin2 (h : St w W s p x U V x' es) (v : Value) : Own2 (s, es, x') v w (.returned (.tuple #[tbV s V x', v])) (W.setRow (w.heap.size + 1) (tbA s V x')) := by
  obtain ⟨h1, h2, h3, h4, h5, h6, h7⟩ := h
  exact ⟨V, rfl, below_setRow h1 (by omega) _, (h5.far (grownBy_setRow _ _ _) (by omega)).low (by omega)⟩
/- another list in the table u: its variable is written -/
theorem St.put (h : St w W s p x U V x' es) (hr : Row W (w.heap.size + 2) V' es') : St w (W.setCell ⟨U, 4, none⟩ V') s p x U V' x' es' := by
  obtain ⟨h1, h2, h3, h4, h5, h6, h7⟩ := h
  exact ⟨h1.setCell (by show w.heap.size ≤ U; omega) _, h2.other (by show w.heap.size ≠ U; omega) _, h3.other (by show w.heap.size + 1 ≠ U; omega) _, h4.set 4 V', hr.apart h4 (grownBy_setCell W ⟨U, 4, none⟩ V'), h6, hr.notBox h4⟩
theorem St.next (h : St w W s p x U V x' es) (y : Int) : St w (W.setCell ⟨U, 5, none⟩ (.int .u32 y)) s p x U V y es := by
  obtain ⟨h1, h2, h3, h4, h5, h6, h7⟩ := h
  exact ⟨h1.setCell (by show w.heap.size ≤ U; omega) _, h2.other (by show w.heap.size ≠ U; omega) _, h3.other (by show w.heap.size + 1 ≠ U; omega) _, h4.set 5 (.int .u32 y), h5.apart h4 (grownBy_setCell W ⟨U, 5, none⟩ (.int .u32 y)), h6, h7⟩
theorem St.inside (h : St w W s p x U V x' es) {g : Nat} (hg : W.grownBy W' (some g)) (hgv : w.heap.size + 2 ≤ g) (hne : g ≠ U) (hr : Row W' (w.heap.size + 2) V es') : St w W' s p x U V x' es' := by
  obtain ⟨h1, h2, h3, h4, h5, h6, h7⟩ := h
  exact ⟨h1.grown hg h1.size (fun g' e => by have := Option.some.inj e; omega), h2.grown hg (fun e => by have := Option.some.inj e; omega), h3.grown hg (fun e => by have := Option.some.inj e; omega), h4.grown hg (fun e => hne (Option.some.inj e).symm), hr, h6, h7⟩
theorem St.boxG (h : St w W s p x U V x' es) {g : Nat} (hg : W.grownBy W' (some g)) (hV : V.ownBlock = some g) : Box W' U 42 (tbA s V x') := h.2.2.2.1.grown hg (fun e => h.2.2.2.2.2.2 (by rw [hV, e]))
theorem St.swap (h : St w W s p x U V x' es) {g : Nat} (hg : W.grownBy W' (some g)) (hV : V.ownBlock = some g) (hr : Row W' (w.heap.size + 2) V' es') : St w (W'.setCell ⟨U, 4, none⟩ V') s p x U V' x' es' := by
  have hB := h.boxG hg hV
  obtain ⟨h1, h2, h3, h4, h5, h6, h7⟩ := h
  have hlt := h5.lt g hV
  have k1 : Below w.heap.size w W' := h1.grown hg h1.size (fun g' e => by have := Option.some.inj e; omega)
  have k2 : Box W' w.heap.size 42 (tbA s p x) := h2.grown hg (fun e => by have := Option.some.inj e; omega)
  have k3 : Box W' (w.heap.size + 1) 42 zeroTA := h3.grown hg (fun e => by have := Option.some.inj e; omega)
  exact ⟨k1.setCell (by show w.heap.size ≤ U; omega) _, k2.other (by show w.heap.size ≠ U; omega) _, k3.other (by show w.heap.size + 1 ≠ U; omega) _, hB.set 4 V', hr.apart hB (grownBy_setCell W' ⟨U, 4, none⟩ V'), h6, hr.notBox hB⟩
theorem St.box0 (h : St w W s p x U V x' es) : TbAt W w.heap.size s p x := h.2.1.tb
theorem St.boxU (h : St w W s p x U V x' es) : TbAt W U s V x' := h.2.2.2.1.tb
end
end Go.Proofs.YtilddlgcfbefiaaDoor

/-
  What the package's Get returns, as a contract over the translated program.
-/
namespace Go.Proofs.YtilddlgcfbefiaaDoor
set_option linter.unusedSimpArgs false
set_option linter.unusedVariables false
open Go Go.RowKit

theorem EntsAt.word {w : World} {g len c : Nat} {es : List Ent} (h : EntsAt w (some ⟨g, 0, none⟩) len c es) {j f : Nat} (hj : j < len) (hf : f < (es.getD j zeroE).2.length) :
    ∃ key z l cc, w.cell? ⟨g, j * 2, none⟩ = some (.int .u32 key) ∧ w.cell? ⟨g, j * 2 + 1, none⟩ = some (.slice (some z) l cc) ∧ l = (es.getD j zeroE).2.length ∧ w.cell? (z.add f) = some (.int .u32 ((es.getD j zeroE).2.getD f 0)) := by
  obtain ⟨y, e, hy⟩ := h.2.2.2.resolve_left (by omega)
  obtain rfl := Option.some.inj e
  obtain ⟨c0, _, b, l, cc, c1, hw⟩ := hy j hj
  have ea : (⟨g, 0, none⟩ : Addr).add (j * 2) = ⟨g, j * 2, none⟩ := addr_add g (j * 2)
  rw [ea] at c0 c1
  obtain ⟨z, rfl, hz⟩ := hw.2.2.2.2.resolve_left (by have := hw.1; omega)
  exact ⟨_, z, l, cc, c0, c1, hw.1.symm, hz f (by have := hw.1; omega)⟩
theorem valid_words {t : Tb} (h : mayTb t = true) {j : Nat} (hj : j < t.2.1.length) : ((t.2.1.getD j zeroE).2.length : Int) = t.1.2.2.1 := (entB_iff.1 (mayTb_ent h hj)).1
theorem valid_schema {t : Tb} (h : mayTb t = true) : mayT t.1 = true := (headB_iff.1 (mayTb_head h)).1
theorem ret_len {b : Option Addr} {n m c : Nat} (h : n = m) : Value.slice b n c = Value.slice b m c := by rw [h]
set_option maxRecDepth 100000 in
set_option maxHeartbeats 1000000 in
theorem tget_any (s : Sc) (a : Option Addr) (len cap : Nat) (x : Int) (es : List Ent) (key f : Int) (w : World) (h : EntsAt w a len cap es) (hf : fewE es) (hx : isW x) (hfw : isW f) :
    Calls Tryd.prog 127 #[tbV s (.slice a len cap) x, .int .u32 key, .int .u32 f] w (Own3 (getT (s, es, x) key f).1 (.int .u32 (getT (s, es, x) key f).2.1) (.bool (getT (s, es, x) key f).2.2) w) := by
  rcases s with ⟨s0, s1, s2, s3⟩
  have HF := Lib.hid hf
  have HEn := Lib.hid h
  have hlm := h.max
  have H1 := Lib.hid h.1
  obtain ⟨W0, hW0⟩ : ∃ W0, (w.alloc (.cells #[.int .i64 s0, .int .i64 s1, .int .i64 s2, .int .i64 s3, .slice a len cap, .int .u32 x] 42)).alloc (.cells zeroTA 42) = W0 := ⟨_, rfl⟩
  have hs0 : W0.heap.size = w.heap.size + 2 := by rw [← hW0]; simp
  have hb0 : Below w.heap.size w W0 := by rw [← hW0]; exact box2 (Below.refl _ _) (Nat.le_refl _) _ _
  have HT : Hid (Box W0 w.heap.size 42 #[.int .i64 s0, .int .i64 s1, .int .i64 s2, .int .i64 s3, .slice a len cap, .int .u32 x]) := by rw [← hW0]; exact Lib.hid ((Box.new w 42 _).alloc _)
  have HR : Hid (Box W0 (w.heap.size + 1) 42 zeroTA) := by
    rw [← hW0]
    have := Box.new (w.alloc (.cells #[.int .i64 s0, .int .i64 s1, .int .i64 s2, .int .i64 s3, .slice a len cap, .int .u32 x] 42)) 42 zeroTA
    rw [show (w.alloc (.cells #[.int .i64 s0, .int .i64 s1, .int .i64 s2, .int .i64 s3, .slice a len cap, .int .u32 x] 42)).heap.size = w.heap.size + 1 by simp] at this
    exact Lib.hid this
  obtain ⟨d0, d1, d2, d3, d4, d5⟩ := Box.tb (s := (s0, s1, s2, s3)) HT.out
  simp only at d0 d1 d2 d3 d4 d5
  have HB0 := Lib.hid hb0
  clear h hf hb0
  have HX := Lib.hid hx
  obtain ⟨f, rfl⟩ := Int.eq_ofNat_of_zero_le hfw.1
  have hf0 := hfw.2
  clear hx hfw
  obtain ⟨RR, hRR⟩ : ∃ RR, getT ((s0, s1, s2, s3), es, x) key (f : Int) = RR := ⟨_, rfl⟩
  rw [hRR]
  have HRR := Lib.hid hRR
  clear hRR
  go_enter Tryd.func127, Tryd.ntmps127
  go_wp2_with fail
  refine (clone_any (s0, s1, s2, s3) a len cap x es W0 (HEn.out.below HB0.out) HF.out).mono ?_
  rintro e wc ⟨g, c, rfl, hbc, hrc⟩
  rw [H1.out] at hrc ⊢
  have HSt := Lib.hid (St.start (s := (s0, s1, s2, s3)) (x := x) (HB0.out.trans (hbc.mono HB0.out.size)) (HT.out.later hbc) (HR.out.later hbc) (hrc.low (base' := w.heap.size + 2) (by have := hbc.size; omega)))
  obtain ⟨U, hU⟩ : ∃ U, wc.heap.size = U := ⟨_, rfl⟩
  obtain ⟨W2, hW2⟩ : ∃ W2, wc.alloc (.cells #[.int .i64 s0, .int .i64 s1, .int .i64 s2, .int .i64 s3, .slice (some ⟨g, 0, none⟩) len c, .int .u32 x] 42) = W2 := ⟨_, rfl⟩
  rw [hU] at HSt
  rw [hW2] at HSt
  clear d0 d1 d2 d3 d4 d5 hbc hrc hW0 HT HR hs0
  obtain ⟨d0, d1, d2, d3, d4, d5⟩ := HSt.out.box0
  simp only at d0 d1 d2 d3 d4 d5
  obtain ⟨k0, k1, k2, k3, k4, k5⟩ := HSt.out.boxU
  simp only at k0 k1 k2 k3 k4 k5
  go_wp2_with fail
  clear hU hW2
  refine (tkeyed_any (s0, s1, s2, s3) a len cap x es W2 (HEn.out.below HSt.out.1) HX.out).mono ?_
  rintro e w3 ⟨rfl, hb3⟩
  replace HSt := Lib.hid (HSt.out.later hb3)
  clear hb3
  clear d0 d1 d2 d3 d4 d5 k0 k1 k2 k3 k4 k5
  obtain ⟨d0, d1, d2, d3, d4, d5⟩ := HSt.out.box0
  simp only at d0 d1 d2 d3 d4 d5
  obtain ⟨k0, k1, k2, k3, k4, k5⟩ := HSt.out.boxU
  simp only at k0 k1 k2 k3 k4 k5
  rcases hM : mayTb ((s0, s1, s2, s3), es, x) with _ | _
  · have HN : Hid (keyedB ((s0, s1, s2, s3), es, x) (f : Int) = false ∨ atE es key = none) := Lib.hid (.inl (by simp [keyedB, hM]))
    simp only [Bool.false_and]
    clear hM
    have HRx := Lib.hid HSt.out.2.2.1
    go_wp2_with (refine wpList_store_row rfl 42 _ _ rfl (w.heap.size + 1) _ rfl rfl 42 _ HRx.out (by kernel_rfl) rfl (by simp [Value.oneCell']) ?_)
    refine bodyPost_ret (v := .tuple #[tbV (s0, s1, s2, s3) (.slice (some ⟨g, 0, none⟩) len c) x, .int .u32 0, .bool false]) ?_ rfl ?_
    · exact results_tb_three Tryd.results127 _ _ (w.heap.size + 1) 42 _ _ _ rfl rfl rfl rfl (setRow_heap _ _ _ _ _ _ HRx.out)
    · rw [← HRR.out, get_no HN.out]
      exact HSt.out.fin3 _ _
  by_cases h3 : s0 = 3
  · have HN : Hid (keyedB ((s0, s1, s2, s3), es, x) (f : Int) = false ∨ atE es key = none) := Lib.hid (.inl (by simp [keyedB, h3]))
    have hd : (true && decide (s0 ≠ 3)) = false := by simp [h3]
    rw [hd]
    clear hM h3 hd
    have HRx := Lib.hid HSt.out.2.2.1
    go_wp2_with (refine wpList_store_row rfl 42 _ _ rfl (w.heap.size + 1) _ rfl rfl 42 _ HRx.out (by kernel_rfl) rfl (by simp [Value.oneCell']) ?_)
    refine bodyPost_ret (v := .tuple #[tbV (s0, s1, s2, s3) (.slice (some ⟨g, 0, none⟩) len c) x, .int .u32 0, .bool false]) ?_ rfl ?_
    · exact results_tb_three Tryd.results127 _ _ (w.heap.size + 1) 42 _ _ _ rfl rfl rfl rfl (setRow_heap _ _ _ _ _ _ HRx.out)
    · rw [← HRR.out, get_no HN.out]
      exact HSt.out.fin3 _ _
  have hd : (true && decide (s0 ≠ 3)) = true := by simp [h3]
  rw [hd]
  have HM := Lib.hid hM
  have H3 := Lib.hid h3
  have hsc := valid_schema hM
  simp only [mayT] at hsc
  rw [mayS_iff] at hsc
  obtain ⟨hk0, hk3, _, hc16, hn1, hn4, _⟩ := hsc
  clear hM h3 hd
  go_wp2_with fail
  refine (hasField_any s0 s1 s2 s3 (f : Int) w3 ⟨by omega, hn4⟩).mono ?_
  rintro e w4 ⟨rfl, hb4⟩
  replace HSt := Lib.hid (HSt.out.later hb4)
  clear hb4
  clear d0 d1 d2 d3 d4 d5 k0 k1 k2 k3 k4 k5
  obtain ⟨d0, d1, d2, d3, d4, d5⟩ := HSt.out.box0
  simp only at d0 d1 d2 d3 d4 d5
  obtain ⟨k0, k1, k2, k3, k4, k5⟩ := HSt.out.boxU
  simp only at k0 k1 k2 k3 k4 k5
  by_cases hfs : ¬ (f : Int) < s2
  · have HN : Hid (keyedB ((s0, s1, s2, s3), es, x) (f : Int) = false ∨ atE es key = none) := Lib.hid (.inl (by simp [keyedB]; intro _ _; omega))
    have hd : decide ((f : Int) < s2) = false := decide_eq_false hfs
    rw [hd]
    clear hd hfs
    have HRx := Lib.hid HSt.out.2.2.1
    go_wp2_with (refine wpList_store_row rfl 42 _ _ rfl (w.heap.size + 1) _ rfl rfl 42 _ HRx.out (by kernel_rfl) rfl (by simp [Value.oneCell']) ?_)
    refine bodyPost_ret (v := .tuple #[tbV (s0, s1, s2, s3) (.slice (some ⟨g, 0, none⟩) len c) x, .int .u32 0, .bool false]) ?_ rfl ?_
    · exact results_tb_three Tryd.results127 _ _ (w.heap.size + 1) 42 _ _ _ rfl rfl rfl rfl (setRow_heap _ _ _ _ _ _ HRx.out)
    · rw [← HRR.out, get_no HN.out]
      exact HSt.out.fin3 _ _
  replace hfs := Decidable.not_not.1 hfs
  have hd : decide ((f : Int) < s2) = true := decide_eq_true hfs
  rw [hd]
  have HK : Hid (keyedB ((s0, s1, s2, s3), es, x) (f : Int) = true) := Lib.hid (keyed_iff.2 ⟨HM.out, H3.out, hfs⟩)
  clear hd
  have HEU : Hid (EntsAt w4 (some ⟨g, 0, none⟩) len c es) := Lib.hid (by
    obtain ⟨b, c', e, h⟩ := HSt.out.2.2.2.2.1.at
    simp only [Value.slice.injEq] at e
    obtain ⟨rfl, e2, rfl⟩ := e
    rw [e2]
    exact h)
  go_wp2_with fail
  refine (find_any (some ⟨g, 0, none⟩) len c key es w4 HEU.out).mono ?_
  rintro e w5 ⟨rfl, rfl⟩
  rcases hA : atE es key with _ | j
  · rw [findI_none hA, H1.out]
    have HN : Hid (keyedB ((s0, s1, s2, s3), es, x) (f : Int) = false ∨ atE es key = none) := Lib.hid (.inr hA)
    clear hA
    have HRx := Lib.hid HSt.out.2.2.1
    go_wp2_with (refine wpList_store_row rfl 42 _ _ rfl (w.heap.size + 1) _ rfl rfl 42 _ HRx.out (by kernel_rfl) rfl (by simp [Value.oneCell']) ?_)
    refine bodyPost_ret (v := .tuple #[tbV (s0, s1, s2, s3) (.slice (some ⟨g, 0, none⟩) len c) x, .int .u32 0, .bool false]) ?_ rfl ?_
    · exact results_tb_three Tryd.results127 _ _ (w.heap.size + 1) 42 _ _ _ rfl rfl rfl rfl (setRow_heap _ _ _ _ _ _ HRx.out)
    · rw [← HRR.out, get_no HN.out]
      exact HSt.out.fin3 _ _
  rw [findI_some hA]
  have hjl : j < len := by rw [← H1.out]; exact (atE_some hA).1
  have hj40 : len ≤ 40 := by rw [← H1.out]; exact HF.out.1
  have HA := Lib.hid hA
  have HWl := Lib.hid (valid_words HM.out (j := j) (by show j < es.length; rw [H1.out]; exact hjl))
  obtain ⟨ky, z, l, cc, c0, c1, hl, c2⟩ := HEU.out.word (f := f) hjl (by have := HWl.out; simp only at this; omega)
  have hfl : (f : Int) < (l : Int) := by have := HWl.out; simp only at this; omega
  have hfl0 : f < l := by omega
  obtain ⟨vv, hvv⟩ : ∃ vv, (es.getD j zeroE).2.getD f 0 = vv := ⟨_, rfl⟩
  rw [hvv] at c2
  have HV := Lib.hid hvv
  clear hA hvv hl
  have hqj : ((j : Int) == (len : Int)) = false := by simp; omega
  have hjI : (j : Int) < (len : Int) := by omega
  obtain ⟨n1, rfl⟩ : ∃ n1, len = n1 + 1 := ⟨len - 1, by omega⟩
  obtain ⟨m, hm⟩ : ∃ m, j + m = n1 := ⟨n1 - j, by omega⟩
  have Hm := Lib.hid hm
  clear hm
  by_cases h2 : s0 = 2
  · have HG := Lib.hid (get_lru (t := ((s0, s1, s2, s3), es, x)) HK.out HA.out h2)
    have H2 := Lib.hid h2
    clear h2
    go_wp2_with fail
    refine (met_at (s0, s1, s2, s3) g n1 c j m (w.heap.size + 2) x es w5 HSt.out.2.2.2.2.1 H1.out Hm.out (by omega) H2.out).mono ?_
    rintro e w6 ⟨rfl, hg6, hr6⟩
    have HS6 := Lib.hid (HSt.out.turned hg6 rfl hr6)
    clear hg6 hr6 c0 c1 c2
    clear d0 d1 d2 d3 d4 d5 k0 k1 k2 k3 k4 k5
    obtain ⟨d0, d1, d2, d3, d4, d5⟩ := HS6.out.box0
    simp only at d0 d1 d2 d3 d4 d5
    obtain ⟨k0, k1, k2, k3, k4, k5⟩ := HS6.out.boxU
    simp only at k0 k1 k2 k3 k4 k5
    have HRx := Lib.hid HS6.out.2.2.1
    go_wp2_with (refine wpList_store_row rfl 42 _ _ rfl (w.heap.size + 1) _ rfl rfl 42 _ HRx.out (by kernel_rfl) rfl (by simp [Value.oneCell']) ?_)
    refine bodyPost_ret (v := .tuple #[tbV (s0, s1, s2, s3) (.slice (some ⟨g, 0, none⟩) (n1 + 1) c) x, .int .u32 vv, .bool true]) ?_ rfl ?_
    · exact results_tb_three Tryd.results127 _ _ (w.heap.size + 1) 42 _ _ _ rfl rfl rfl rfl (setRow_heap _ _ _ _ _ _ HRx.out)
    · rw [← HRR.out, HG.out, ← HV.out]
      exact HS6.out.fin3 _ _
  have HG := Lib.hid (get_yes (t := ((s0, s1, s2, s3), es, x)) HK.out HA.out h2)
  have H2 := Lib.hid h2
  clear h2
  go_wp2_with fail
  refine (met_no (s0, s1, s2, s3) (.slice (some ⟨g, 0, none⟩) (n1 + 1) c) x (j : Int) w5 H2.out).mono ?_
  rintro e w6 ⟨rfl, hb6⟩
  have HS6 := Lib.hid (HSt.out.later hb6)
  clear hb6 c0 c1 c2
  clear d0 d1 d2 d3 d4 d5 k0 k1 k2 k3 k4 k5
  obtain ⟨d0, d1, d2, d3, d4, d5⟩ := HS6.out.box0
  simp only at d0 d1 d2 d3 d4 d5
  obtain ⟨k0, k1, k2, k3, k4, k5⟩ := HS6.out.boxU
  simp only at k0 k1 k2 k3 k4 k5
  have HRx := Lib.hid HS6.out.2.2.1
  go_wp2_with (refine wpList_store_row rfl 42 _ _ rfl (w.heap.size + 1) _ rfl rfl 42 _ HRx.out (by kernel_rfl) rfl (by simp [Value.oneCell']) ?_)
  refine bodyPost_ret (v := .tuple #[tbV (s0, s1, s2, s3) (.slice (some ⟨g, 0, none⟩) (n1 + 1) c) x, .int .u32 vv, .bool true]) ?_ rfl ?_
  · exact results_tb_three Tryd.results127 _ _ (w.heap.size + 1) 42 _ _ _ rfl rfl rfl rfl (setRow_heap _ _ _ _ _ _ HRx.out)
  · rw [← HRR.out, HG.out, ← HV.out]
    exact HS6.out.fin3 _ _
end Go.Proofs.YtilddlgcfbefiaaDoor

/-
  What the package's Del returns, as a contract over the translated program.
-/
namespace Go.Proofs.YtilddlgcfbefiaaDoor
set_option linter.unusedSimpArgs false
set_option linter.unusedVariables false
open Go Go.RowKit

theorem lay_zeros (ws : List Int) : layL (wordsV ws) 0 (List.replicate ws.length (.int .u32 0)) = wordsV (List.replicate ws.length 0) := by
  apply List.ext_getElem?
  intro j
  by_cases hj : j < ws.length
  · have := layL_in (List.replicate ws.length (.int .u32 0)) (wordsV ws) 0 j (by simpa using hj) (by rw [wordsV_len]; omega)
    rw [Nat.zero_add] at this
    rw [this]
    simp [wordsV, List.getElem?_replicate, hj]
  · rw [List.getElem?_eq_none (by rw [layL_len, wordsV_len]; omega), List.getElem?_eq_none (by rw [wordsV_len, List.length_replicate]; omega)]
theorem zeroW (w : World) : (zeroValue 25).run Tryd.prog w = .ok (.int .u32 0) w := by kernel_rfl
theorem clear_words {W : World} {base gv l c : Nat} {ws : List Int} (h : W.ownsRow base 25 1 (.slice (some ⟨gv, 0, none⟩) l c) l (wordsV ws)) (hl : ws.length = l) (h0 : 0 < l) :
    (∀ ty, (Builtin.clear_ #[52] ty #[.slice (some ⟨gv, 0, none⟩) l c]).run Tryd.prog W = .ok (.tuple #[]) (W.setCells gv 0 (List.replicate l (.int .u32 0)))) ∧
    (W.setCells gv 0 (List.replicate l (.int .u32 0))).ownsRow base 25 1 (.slice (some ⟨gv, 0, none⟩) l c) (List.replicate l (0 : Int)).length (wordsV (List.replicate l 0)) ∧ W.grownBy (W.setCells gv 0 (List.replicate l (.int .u32 0))) (some gv) := by
  obtain ⟨o1, g1⟩ := own_lay (List.replicate l (.int .u32 0)) W (wordsV ws) 0 h
  subst hl
  rw [lay_zeros] at o1
  refine ⟨fun ty => ?_, by rw [List.length_replicate]; exact o1, g1⟩
  refine Lib.run_clear_slice W 52 25 ty (.int .u32 0) Tryd.underlying52 zeroW rfl rfl gv 0 ws.length c h0 (fun j hj => ?_) (fun j hj => ?_)
  · rw [Nat.zero_add, own_cells h j _ (List.getElem?_eq_getElem (by rw [wordsV_len]; exact hj))]
    rfl
  · rw [Nat.zero_add]
    obtain ⟨_, ⟨e, _⟩ | ⟨g', cap', cur, e, _, hh, _⟩⟩ := h
    · cases e
    · simp only [Value.slice.injEq, Option.some.injEq, Addr.mk.injEq, and_true, true_and] at e
      obtain ⟨rfl, _⟩ := e
      simp [World.frozen?, hh]
set_option maxRecDepth 100000 in
set_option maxHeartbeats 1000000 in
theorem tdel_any (s : Sc) (a : Option Addr) (len cap : Nat) (x : Int) (es : List Ent) (key : Int) (w : World) (h : EntsAt w a len cap es) (hf : fewE es) (hx : isW x) :
    Calls Tryd.prog 131 #[tbV s (.slice a len cap) x, .int .u32 key] w (Own2 (delT (s, es, x) key).1 (.bool (delT (s, es, x) key).2) w) := by
  rcases s with ⟨s0, s1, s2, s3⟩
  have HF := Lib.hid hf
  have HEn := Lib.hid h
  have hlm := h.max
  have H1 := Lib.hid h.1
  obtain ⟨W0, hW0⟩ : ∃ W0, (w.alloc (.cells #[.int .i64 s0, .int .i64 s1, .int .i64 s2, .int .i64 s3, .slice a len cap, .int .u32 x] 42)).alloc (.cells zeroTA 42) = W0 := ⟨_, rfl⟩
  have hs0 : W0.heap.size = w.heap.size + 2 := by rw [← hW0]; simp
  have hb0 : Below w.heap.size w W0 := by rw [← hW0]; exact box2 (Below.refl _ _) (Nat.le_refl _) _ _
  have HT : Hid (Box W0 w.heap.size 42 #[.int .i64 s0, .int .i64 s1, .int .i64 s2, .int .i64 s3, .slice a len cap, .int .u32 x]) := by rw [← hW0]; exact Lib.hid ((Box.new w 42 _).alloc _)
  have HR : Hid (Box W0 (w.heap.size + 1) 42 zeroTA) := by
    rw [← hW0]
    have := Box.new (w.alloc (.cells #[.int .i64 s0, .int .i64 s1, .int .i64 s2, .int .i64 s3, .slice a len cap, .int .u32 x] 42)) 42 zeroTA
    rw [show (w.alloc (.cells #[.int .i64 s0, .int .i64 s1, .int .i64 s2, .int .i64 s3, .slice a len cap, .int .u32 x] 42)).heap.size = w.heap.size + 1 by simp] at this
    exact Lib.hid this
  obtain ⟨d0, d1, d2, d3, d4, d5⟩ := Box.tb (s := (s0, s1, s2, s3)) HT.out
  simp only at d0 d1 d2 d3 d4 d5
  have HB0 := Lib.hid hb0
  clear h hf hb0
  have HX := Lib.hid hx
  clear hx
  obtain ⟨RR, hRR⟩ : ∃ RR, delT ((s0, s1, s2, s3), es, x) key = RR := ⟨_, rfl⟩
  rw [hRR]
  have HRR := Lib.hid hRR
  clear hRR
  go_enter Tryd.func131, Tryd.ntmps131
  go_wp2_with fail
  refine (clone_any (s0, s1, s2, s3) a len cap x es W0 (HEn.out.below HB0.out) HF.out).mono ?_
  rintro e wc ⟨g, c, rfl, hbc, hrc⟩
  rw [H1.out] at hrc ⊢
  have HSt := Lib.hid (St.start (s := (s0, s1, s2, s3)) (x := x) (HB0.out.trans (hbc.mono HB0.out.size)) (HT.out.later hbc) (HR.out.later hbc) (hrc.low (base' := w.heap.size + 2) (by have := hbc.size; omega)))
  obtain ⟨U, hU⟩ : ∃ U, wc.heap.size = U := ⟨_, rfl⟩
  obtain ⟨W2, hW2⟩ : ∃ W2, wc.alloc (.cells #[.int .i64 s0, .int .i64 s1, .int .i64 s2, .int .i64 s3, .slice (some ⟨g, 0, none⟩) len c, .int .u32 x] 42) = W2 := ⟨_, rfl⟩
  rw [hU] at HSt
  rw [hW2] at HSt
  clear d0 d1 d2 d3 d4 d5 hbc hrc hW0 HT HR hs0
  obtain ⟨d0, d1, d2, d3, d4, d5⟩ := HSt.out.box0
  simp only at d0 d1 d2 d3 d4 d5
  obtain ⟨k0, k1, k2, k3, k4, k5⟩ := HSt.out.boxU
  simp only at k0 k1 k2 k3 k4 k5
  go_wp2_with fail
  clear hU hW2
  refine (tkeyed_any (s0, s1, s2, s3) a len cap x es W2 (HEn.out.below HSt.out.1) HX.out).mono ?_
  rintro e w3 ⟨rfl, hb3⟩
  replace HSt := Lib.hid (HSt.out.later hb3)
  clear hb3
  clear d0 d1 d2 d3 d4 d5 k0 k1 k2 k3 k4 k5
  obtain ⟨d0, d1, d2, d3, d4, d5⟩ := HSt.out.box0
  simp only at d0 d1 d2 d3 d4 d5
  obtain ⟨k0, k1, k2, k3, k4, k5⟩ := HSt.out.boxU
  simp only at k0 k1 k2 k3 k4 k5
  rcases hM : mayTb ((s0, s1, s2, s3), es, x) with _ | _
  · have HN : Hid (keyedB ((s0, s1, s2, s3), es, x) 0 = false ∨ atE es key = none) := Lib.hid (.inl (by simp [keyedB, hM]))
    simp only [Bool.false_and]
    clear hM
    have HRx := Lib.hid HSt.out.2.2.1
    go_wp2_with (refine wpList_store_row rfl 42 _ _ rfl (w.heap.size + 1) _ rfl rfl 42 _ HRx.out (by kernel_rfl) rfl (by simp [Value.oneCell']) ?_)
    refine bodyPost_ret (v := .tuple #[tbV (s0, s1, s2, s3) (.slice (some ⟨g, 0, none⟩) len c) x, .bool false]) ?_ rfl ?_
    · exact results_tb_two Tryd.results131 _ _ (w.heap.size + 1) 42 _ _ rfl rfl rfl (setRow_heap _ _ _ _ _ _ HRx.out)
    · rw [← HRR.out, del_no HN.out]
      exact HSt.out.fin2 _
  by_cases h3 : s0 = 3
  · have HN : Hid (keyedB ((s0, s1, s2, s3), es, x) 0 = false ∨ atE es key = none) := Lib.hid (.inl (by simp [keyedB, h3]))
    have hd : (true && decide (s0 ≠ 3)) = false := by simp [h3]
    rw [hd]
    clear hM h3 hd
    have HRx := Lib.hid HSt.out.2.2.1
    go_wp2_with (refine wpList_store_row rfl 42 _ _ rfl (w.heap.size + 1) _ rfl rfl 42 _ HRx.out (by kernel_rfl) rfl (by simp [Value.oneCell']) ?_)
    refine bodyPost_ret (v := .tuple #[tbV (s0, s1, s2, s3) (.slice (some ⟨g, 0, none⟩) len c) x, .bool false]) ?_ rfl ?_
    · exact results_tb_two Tryd.results131 _ _ (w.heap.size + 1) 42 _ _ rfl rfl rfl (setRow_heap _ _ _ _ _ _ HRx.out)
    · rw [← HRR.out, del_no HN.out]
      exact HSt.out.fin2 _
  have hd : (true && decide (s0 ≠ 3)) = true := by simp [h3]
  rw [hd]
  have HM := Lib.hid hM
  have H3 := Lib.hid h3
  have hsc := valid_schema hM
  simp only [mayT] at hsc
  rw [mayS_iff] at hsc
  obtain ⟨hk0, hk3, _, hc16, hn1, hn4, _⟩ := hsc
  have HK : Hid (keyedB ((s0, s1, s2, s3), es, x) 0 = true) := Lib.hid (keyed_iff.2 ⟨hM, h3, by show (0 : Int) < s2; omega⟩)
  clear hM h3 hd
  have HEU : Hid (EntsAt w3 (some ⟨g, 0, none⟩) len c es) := Lib.hid (by
    obtain ⟨b, c', e, h⟩ := HSt.out.2.2.2.2.1.at
    simp only [Value.slice.injEq] at e
    obtain ⟨rfl, e2, rfl⟩ := e
    rw [e2]
    exact h)
  go_wp2_with fail
  refine (find_any (some ⟨g, 0, none⟩) len c key es w3 HEU.out).mono ?_
  rintro e w5 ⟨rfl, rfl⟩
  rcases hA : atE es key with _ | j
  · rw [findI_none hA, H1.out]
    have HN : Hid (keyedB ((s0, s1, s2, s3), es, x) 0 = false ∨ atE es key = none) := Lib.hid (.inr hA)
    clear hA
    have HRx := Lib.hid HSt.out.2.2.1
    go_wp2_with (refine wpList_store_row rfl 42 _ _ rfl (w.heap.size + 1) _ rfl rfl 42 _ HRx.out (by kernel_rfl) rfl (by simp [Value.oneCell']) ?_)
    refine bodyPost_ret (v := .tuple #[tbV (s0, s1, s2, s3) (.slice (some ⟨g, 0, none⟩) len c) x, .bool false]) ?_ rfl ?_
    · exact results_tb_two Tryd.results131 _ _ (w.heap.size + 1) 42 _ _ rfl rfl rfl (setRow_heap _ _ _ _ _ _ HRx.out)
    · rw [← HRR.out, del_no HN.out]
      exact HSt.out.fin2 _
  rw [findI_some hA]
  have hjl : j < len := by rw [← H1.out]; exact (atE_some hA).1
  have hj40 : len ≤ 40 := by rw [← H1.out]; exact HF.out.1
  have HA := Lib.hid hA
  have HWl := Lib.hid (valid_words HM.out (j := j) (by show j < es.length; rw [H1.out]; exact hjl))
  obtain ⟨gv, cw, c0, c1, hown, hwl, hgv⟩ := HSt.out.2.2.2.2.1.words H1.out hjl (by have := HWl.out; simp only at this; omega)
  have HOwn := Lib.hid hown
  have hky := (atE_some hA).2.1
  rw [hky] at c0
  have HKy := Lib.hid hky
  clear hown hA hky
  have hqj : ((j : Int) == (len : Int)) = false := by simp; omega
  have hjI : (j : Int) < (len : Int) := by omega
  obtain ⟨n1, rfl⟩ : ∃ n1, len = n1 + 1 := ⟨len - 1, by omega⟩
  obtain ⟨m, hm⟩ : ∃ m, j + m = n1 := ⟨n1 - j, by omega⟩
  have Hm := Lib.hid hm
  clear hm
  by_cases h0 : s0 = 0
  · have HG := Lib.hid (del_array (t := ((s0, s1, s2, s3), es, x)) HK.out HA.out h0)
    have hq : (s0 == 0) = true := by simpa using h0
    clear h0
    obtain ⟨l, hl⟩ : ∃ l, (es.getD j zeroE).2.length = l := ⟨_, rfl⟩
    rw [hl] at c1 HOwn HWl
    obtain ⟨hcl, how, hgw⟩ := clear_words HOwn.out hl (by have := HWl.out; simp only at this; omega)
    have HRe := Lib.hid (HSt.out.2.2.2.2.1.re H1.out hjl c1 hgw how (wordL_zeros l))
    have HS6 := Lib.hid (HSt.out.inside hgw hgv (own_notBox HOwn.out (by decide) HSt.out.2.2.2.1) HRe.out)
    have HL2 : Hid (l = s2.toNat) := Lib.hid (by have := HWl.out; simp only at this; omega)
    clear how hgw hl
    obtain ⟨W6, hW6⟩ : ∃ W6, w5.setCells gv 0 (List.replicate l (.int .u32 0)) = W6 := ⟨_, rfl⟩
    rw [hW6] at HS6 hcl
    clear hW6 HRe
    obtain ⟨j0, j1, j2, j3, j4, j5⟩ := HS6.out.boxU
    simp only at j0 j1 j2 j3 j4 j5
    have HRx := Lib.hid HS6.out.2.2.1
    go_wp2_with (refine wpList_store_row rfl 42 _ _ rfl (w.heap.size + 1) _ rfl rfl 42 _ HRx.out (by kernel_rfl) rfl (by simp [Value.oneCell']) ?_)
    refine bodyPost_ret (v := .tuple #[tbV (s0, s1, s2, s3) (.slice (some ⟨g, 0, none⟩) (n1 + 1) c) x, .bool true]) ?_ rfl ?_
    · exact results_tb_two Tryd.results131 _ _ (w.heap.size + 1) 42 _ _ rfl rfl rfl (setRow_heap _ _ _ _ _ _ HRx.out)
    · rw [← HRR.out, HG.out]
      show Own2 ((s0, s1, s2, s3), es.set j (key, List.replicate s2.toNat 0), x) (.bool true) w _ _
      rw [← HL2.out, ← HKy.out]
      exact HS6.out.fin2 _
  have HG := Lib.hid (del_other (t := ((s0, s1, s2, s3), es, x)) HK.out HA.out h0)
  have hq : (s0 == 0) = false := by simpa using h0
  clear h0 c0 c1
  have hwj := wI ((j : Int) + 1) (by omega) (by omega)
  go_wp2_with fail
  refine (delete_at g n1 c j m (w.heap.size + 2) es w5 HSt.out.2.2.2.2.1 H1.out Hm.out (by omega)).mono ?_
  rintro e w6 ⟨rfl, hg6, hr6⟩
  have HB6 := Lib.hid (HSt.out.boxG hg6 rfl)
  have HS6 := Lib.hid (HSt.out.swap hg6 rfl hr6)
  clear hg6 hr6 d0 d1 d2 d3 d4 d5 k0 k1 k2 k3 k4 k5
  have u4 : w6.cell? ⟨U, 4, none⟩ = some (.slice (some ⟨g, 0, none⟩) (n1 + 1) c) := HB6.out.cell rfl
  have f4 : w6.frozen? ⟨U, 4, none⟩ = false := HB6.out.free 4
  obtain ⟨W7, hW7⟩ : ∃ W7, w6.setCell ⟨U, 4, none⟩ (.slice (some ⟨g, 0, none⟩) n1 c) = W7 := ⟨_, rfl⟩
  rw [hW7] at HS6
  obtain ⟨k0, k1, k2, k3, k4, k5⟩ := HS6.out.boxU
  simp only at k0 k1 k2 k3 k4 k5
  have HRx := Lib.hid HS6.out.2.2.1
  go_wp2_with (refine wpList_store_row rfl 42 _ _ rfl (w.heap.size + 1) _ rfl rfl 42 _ HRx.out (by kernel_rfl) rfl (by simp [Value.oneCell']) ?_)
  refine bodyPost_ret (v := .tuple #[tbV (s0, s1, s2, s3) (.slice (some ⟨g, 0, none⟩) n1 c) x, .bool true]) ?_ rfl ?_
  · exact results_tb_two Tryd.results131 _ _ (w.heap.size + 1) 42 _ _ rfl rfl rfl (setRow_heap _ _ _ _ _ _ HRx.out)
  · rw [← HRR.out, HG.out]
    exact HS6.out.fin2 _
end Go.Proofs.YtilddlgcfbefiaaDoor

/-
  What the package's Pop returns, as a contract over the translated program.
-/
namespace Go.Proofs.YtilddlgcfbefiaaDoor
set_option linter.unusedSimpArgs false
set_option linter.unusedVariables false
open Go Go.RowKit

theorem wordsV_at {ws : List Int} {f : Nat} (h : f < ws.length) : (wordsV ws)[f]? = some (.int .u32 (ws.getD f 0)) := by
  simp [wordsV, List.getD_eq_getElem?_getD, List.getElem?_eq_getElem h]
theorem delete_first (g n1 c base : Nat) (es : List Ent) (w : World) (h : Row w base (.slice (some ⟨g, 0, none⟩) (n1 + 1) c) es) (hn : es.length = n1 + 1) (h40 : n1 ≤ 1000) :
    Calls Tryd.prog 142 #[.slice (some ⟨g, 0, none⟩) (n1 + 1) c, .int .i64 0, .int .i64 1] w fun e w' => e = .returned (.slice (some ⟨g, 0, none⟩) n1 c) ∧ w.grownBy w' (some g) ∧ Row w' base (.slice (some ⟨g, 0, none⟩) n1 c) (es.eraseIdx 0) :=
  delete_at g n1 c 0 n1 base es w h hn (by omega) h40
end Go.Proofs.YtilddlgcfbefiaaDoor

