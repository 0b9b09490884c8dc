/-
  What is told is one's own: words changed in it change nothing of what was handed in.
  Conditions: none.
-/
import Derived.Test.YtlbmgablkphioaaRows
import Derived.Test.YtlbmgablkphioaaX2
import Derived.Test.YtlbmgablkphioaaTW
import Derived.BigRegion
import Derived.WalkKit
import Derived.ProofKit
import Derived.OpenShut
import Derived.ChangeOld
import Derived.Below
namespace Go.Proofs.Ytlbmgablkphioaa.tableOwn
open Go.ChangeShapes Go.WideShapes Go.ChangeAt Go.RowKit
set_option linter.unusedVariables false


/- a row of entries of one's own, its words in rows of their own: where cells lie, whatever numbers they hold -/
def ShE (B : Nat) (W : World) (q : Option Addr × Nat × Nat) (sl : Nat → Option Addr × Nat × Nat) : Prop :=
  q.2.1 ≤ 9223372036854775807 ∧ (q.2.1 = 0 ∨ ∃ g, q.1 = some ⟨g, 0, none⟩ ∧ B ≤ g ∧ ∃ cur : Array Value, W.heap[g]? = some (.cells cur 48 (0, 0)) ∧ ∀ k, k < q.2.1 →
    (∃ key, cur[k * 2]? = some (.int .u32 key)) ∧ cur[k * 2 + 1]? = some (.slice (sl k).1 (sl k).2.1 (sl k).2.2) ∧ (sl k).2.1 ≤ 9223372036854775807 ∧
    ((sl k).2.1 = 0 ∨ ∃ gw, (sl k).1 = some ⟨gw, 0, none⟩ ∧ B ≤ gw ∧ ∃ curw : Array Value, W.heap[gw]? = some (.cells curw 25 (0, 0)) ∧ ∀ m, m < (sl k).2.1 → ∃ v, curw[m]? = some (.int .u32 v)))
theorem ShE.mono {B B' : Nat} {W : World} {q : Option Addr × Nat × Nat} {sl : Nat → Option Addr × Nat × Nat} (h : ShE B W q sl) (hB : B' ≤ B) : ShE B' W q sl := by
  refine ⟨h.1, h.2.imp id ?_⟩
  rintro ⟨g, h1, h2, cur, h3, h4⟩
  refine ⟨g, h1, by omega, cur, h3, fun k hk => ?_⟩
  obtain ⟨k1, k2, k3, k4⟩ := h4 k hk
  refine ⟨k1, k2, k3, k4.imp id ?_⟩
  rintro ⟨gw, w1, w2, w3⟩
  exact ⟨gw, w1, by omega, w3⟩
theorem ShE.below {B : Nat} {W W' : World} {q : Option Addr × Nat × Nat} {sl : Nat → Option Addr × Nat × Nat} (h : ShE B W q sl) (hb : Below W.heap.size W W') : ShE B W' q sl := by
  have hk : ∀ g o, W.heap[g]? = some o → W'.heap[g]? = some o := fun g o ho => (hb.block g (Array.getElem?_eq_some_iff.1 ho).1).trans ho
  refine ⟨h.1, h.2.imp id ?_⟩
  rintro ⟨g, h1, h2, cur, h3, h4⟩
  refine ⟨g, h1, h2, cur, hk _ _ h3, fun k hk' => ?_⟩
  obtain ⟨k1, k2, k3, k4⟩ := h4 k hk'
  refine ⟨k1, k2, k3, k4.imp id ?_⟩
  rintro ⟨gw, w1, w2, cw, w3, w4⟩
  exact ⟨gw, w1, w2, cw, hk _ _ w3, w4⟩
theorem setCell_at {W : World} {g o : Nat} {cur : Array Value} {ty : TypeId} {v : Value} (h : W.heap[g]? = some (.cells cur ty (0, 0))) : (W.setCell ⟨g, o, none⟩ v).heap[g]? = some (.cells (cur.set! o v) ty (0, 0)) := by
  first
  | exact heap_setCell_same W g o cur ty v h
  | (have hg := (Array.getElem?_eq_some_iff.1 h).1
     simp [World.setCell, h, hg])
theorem setCell_off {W : World} {g o b : Nat} {v : Value} (h : b ≠ g) : (W.setCell ⟨g, o, none⟩ v).heap[b]? = W.heap[b]? := Below.heap_setCell W ⟨g, o, none⟩ v b h
theorem set_at {cur : Array Value} {o j : Nat} {v x : Value} (h : cur[j]? = some x) : (cur.set! o v)[j]? = some (if o = j then v else x) := by
  have hj := (Array.getElem?_eq_some_iff.1 h).1
  rw [Array.set!_eq_setIfInBounds, Array.getElem?_setIfInBounds]
  by_cases e : o = j
  · subst e
    simp [hj]
  · simp [e, h]
/- a number put into a cell of words, or of a key -/
theorem ShE.put {B : Nat} {W : World} {q : Option Addr × Nat × Nat} {sl : Nat → Option Addr × Nat × Nat} (h : ShE B W q sl) {g o : Nat} {cur : Array Value} {ty : TypeId} (hh : W.heap[g]? = some (.cells cur ty (0, 0))) (hty : ty = 25 ∨ ty = 48 ∧ o % 2 = 0) (z : Int) : ShE B (W.setCell ⟨g, o, none⟩ (.int .u32 z)) q sl := by
  refine ⟨h.1, h.2.imp id ?_⟩
  rintro ⟨g', h1, h2, cur', h3, h4⟩
  have hc : ∃ cur2 : Array Value, (W.setCell ⟨g, o, none⟩ (.int .u32 z)).heap[g']? = some (.cells cur2 48 (0, 0)) ∧ ∀ j x, cur'[j]? = some x → cur2[j]? = some x ∨ j % 2 = 0 ∧ cur2[j]? = some (.int .u32 z) := by
    by_cases e : g' = g
    · subst e
      rw [hh] at h3
      simp only [Option.some.injEq, Obj.cells.injEq] at h3
      obtain ⟨rfl, rfl, _⟩ := h3
      refine ⟨_, setCell_at hh, fun j x hj => ?_⟩
      rw [set_at hj]
      by_cases e : o = j
      · right
        subst e
        rcases hty with h9 | h9
        · cases h9
        · exact ⟨h9.2, by simp⟩
      · left
        simp [e]
    · exact ⟨cur', (setCell_off e).trans h3, fun j x hj => .inl hj⟩
  obtain ⟨cur2, c1, c2⟩ := hc
  refine ⟨g', h1, h2, cur2, c1, fun k hk => ?_⟩
  obtain ⟨⟨key, k1⟩, k2, k3, k4⟩ := h4 k hk
  refine ⟨?_, ?_, k3, k4.imp id ?_⟩
  · rcases c2 _ _ k1 with h9 | h9
    · exact ⟨_, h9⟩
    · exact ⟨_, h9.2⟩
  · rcases c2 _ _ k2 with h9 | h9
    · exact h9
    · have := h9.1
      omega
  · rintro ⟨gw, w1, w2, cw, w3, w4⟩
    by_cases e : gw = g
    · subst e
      refine ⟨gw, w1, w2, cur.set! o (.int .u32 z), ?_, fun m hm => ?_⟩
      · have h5 := w3
        rw [hh] at h5
        simp only [Option.some.injEq, Obj.cells.injEq] at h5
        obtain ⟨rfl, rfl, _⟩ := h5
        exact setCell_at hh
      · have h5 := w3
        rw [hh] at h5
        simp only [Option.some.injEq, Obj.cells.injEq] at h5
        obtain ⟨rfl, rfl, _⟩ := h5
        obtain ⟨v, hv⟩ := w4 m hm
        rw [set_at hv]
        by_cases e : o = m
        · exact ⟨z, by simp [e]⟩
        · exact ⟨v, by simp [e]⟩
    · exact ⟨gw, w1, w2, cw, (setCell_off e).trans w3, w4⟩
theorem shE_of {W : World} {base : Nat} {V : Value} {es : List Ent} (h : Row W base V es) : ∃ (q : Option Addr × Nat × Nat) (sl : Nat → Option Addr × Nat × Nat), V = .slice q.1 q.2.1 q.2.2 ∧ EntsAt W q.1 q.2.1 q.2.2 es ∧ ShE base W q sl := by
  obtain ⟨b, cap, hv, hE⟩ := h.at
  obtain ⟨xs, h1, h2⟩ := h
  have hmx := hE.max
  have hsl : ∀ k, ∃ q : Option Addr × Nat × Nat, k < es.length → xs[k * 2 + 1]? = some (.slice q.1 q.2.1 q.2.2) ∧ q.2.1 ≤ 9223372036854775807 ∧ (q.2.1 = 0 ∨ ∃ gw, q.1 = some ⟨gw, 0, none⟩ ∧ base ≤ gw ∧ ∃ curw : Array Value, W.heap[gw]? = some (.cells curw 25 (0, 0)) ∧ ∀ m, m < q.2.1 → ∃ v, curw[m]? = some (.int .u32 v)) := by
    intro k
    by_cases hk : k < es.length
    · obtain ⟨_, cv, e1, e2, e3, _⟩ := h2.2.1 k hk
      obtain ⟨_, ⟨rfl, hn⟩ | ⟨gw, cp, cur, rfl, hb, hh, hc, hm, hs, ht⟩⟩ := e2
      · exact ⟨(none, 0, 0), fun _ => ⟨e1, Nat.zero_le _, .inl rfl⟩⟩
      · refine ⟨(some ⟨gw, 0, none⟩, (es.getD k zeroE).2.length, cp), fun _ => ⟨e1, by unfold maxLen at hm; simp only; omega, .inr ⟨gw, rfl, hb, cur, hh, fun m hm' => ?_⟩⟩⟩
        have h3 : (cur.toList.take ((es.getD k zeroE).2.length * 1))[m]? = (wordsV (es.getD k zeroE).2)[m]? := by rw [ht]
        rw [List.getElem?_take, if_pos (by simp only at hm'; omega), Array.getElem?_toList] at h3
        simp only at hm'
        rw [h3, wordsV, List.getElem?_map, List.getElem?_eq_getElem hm']
        exact ⟨_, rfl⟩
    · exact ⟨(none, 0, 0), fun h => absurd h hk⟩
  obtain ⟨sl, hsl⟩ := Classical.skolem.1 hsl
  refine ⟨(b, es.length, cap), sl, hv, hE, hmx, ?_⟩
  obtain ⟨hxl, ⟨rfl, hn⟩ | ⟨g, cp, cur, rfl, hb, hh, hc, hm, hs, ht⟩⟩ := h1
  · exact .inl hn
  · simp only [Value.slice.injEq] at hv
    right
    refine ⟨g, hv.1.symm, hb, cur, hh, fun k hk => ?_⟩
    obtain ⟨e1, _⟩ := h2.2.1 k hk
    obtain ⟨e2, e3, e4⟩ := hsl k hk
    have hx : ∀ j u, j < es.length * 2 → xs[j]? = some u → cur[j]? = some u := fun j u hj hu => by
      rw [← ht, List.getElem?_take, if_pos hj, Array.getElem?_toList] at hu
      exact hu
    exact ⟨⟨_, hx _ _ (by simp only at hk; omega) e1⟩, hx _ _ (by simp only at hk; omega) e2, e3, e4⟩
/- the whole: what was there ahead of all is as it was; three tables lie in block L -/
def Sh (B : Nat) (Wb W : World) (L : Nat) (V : Nat → Option Addr × Nat × Nat) (sl : Nat → Nat → Option Addr × Nat × Nat) : Prop :=
  Below B Wb W ∧ B ≤ W.heap.size ∧ (∃ cs : Array Value, W.heap[L]? = some (.cells cs 27 (0, 0)) ∧ ∀ i, i < 3 → cs[i * 6 + 4]? = some (.slice (V i).1 (V i).2.1 (V i).2.2)) ∧ ∀ i, i < 3 → ShE B W (V i) (sl i)
theorem Sh.put {B L : Nat} {Wb W : World} {V : Nat → Option Addr × Nat × Nat} {sl : Nat → Nat → Option Addr × Nat × Nat} (h : Sh B Wb W L V sl) {g o : Nat} {cur : Array Value} {ty : TypeId} (hg : B ≤ g) (hh : W.heap[g]? = some (.cells cur ty (0, 0))) (hty : ty = 25 ∨ ty = 48 ∧ o % 2 = 0) (z : Int) : Sh B Wb (W.setCell ⟨g, o, none⟩ (.int .u32 z)) L V sl := by
  obtain ⟨h1, h2, ⟨cs, h3, h4⟩, h5⟩ := h
  have hgr := grownBy_setCell W ⟨g, o, none⟩ (.int .u32 z)
  have hsz9 : (W.setCell ⟨g, o, none⟩ (.int .u32 z)).heap.size = W.heap.size := by simp [World.setCell]
  refine ⟨h1.grown hgr h2 (fun k hk => by have := Option.some.inj hk; simp only at this; omega), by rw [hsz9]; exact h2, ⟨cs, ?_, h4⟩, fun i hi => (h5 i hi).put hh hty z⟩
  refine (setCell_off (fun e => ?_)).trans h3
  subst e
  rw [hh] at h3
  simp only [Option.some.injEq, Obj.cells.injEq] at h3
  rcases hty with h9 | h9
  · rw [h9] at h3
    simp at h3
  · rw [h9.1] at h3
    simp at h3
theorem Sh.drew {B L : Nat} {Wb W W' : World} {V : Nat → Option Addr × Nat × Nat} {sl : Nat → Nat → Option Addr × Nat × Nat} (h : Sh B Wb W L V sl) (hb : Below W.heap.size W W') : Sh B Wb W' L V sl := by
  obtain ⟨h1, h2, ⟨cs, h3, h4⟩, h5⟩ := h
  exact ⟨h1.trans (hb.mono h2), Nat.le_trans h2 hb.size, ⟨cs, (hb.block _ (Array.getElem?_eq_some_iff.1 h3).1).trans h3, h4⟩, fun i hi => (h5 i hi).below hb⟩
theorem cell_of {W : World} {g o : Nat} {cur : Array Value} {ty : TypeId} {u : Value} (hh : W.heap[g]? = some (.cells cur ty (0, 0))) (hu : cur[o]? = some u) : W.cell? ⟨g, o, none⟩ = some u := by
  simp [World.cell?, hh, hu]
theorem Sh.entry {B L g vn vp i k wn wp : Nat} {wb : Option Addr} {Wb W : World} {V : Nat → Option Addr × Nat × Nat} {sl : Nat → Nat → Option Addr × Nat × Nat} (h : Sh B Wb W L V sl) (hi : i < 3) (hV : V i = (some ⟨g, 0, none⟩, vn, vp)) (hk : k < vn) (hsl : sl i k = (wb, wn, wp)) :
    W.cell? ⟨L, i * 6 + 4, none⟩ = some (.slice (some ⟨g, 0, none⟩) vn vp) ∧ W.cell? ⟨g, k * 2 + 1, none⟩ = some (.slice wb wn wp) ∧ ∀ m, m < wn → ∃ gw curw v, wb = some ⟨gw, 0, none⟩ ∧ B ≤ gw ∧ W.heap[gw]? = some (.cells curw 25 (0, 0)) ∧ curw[m]? = some (.int .u32 v) := by
  obtain ⟨_, _, ⟨cs, h3, h4⟩, h5⟩ := h
  have e := h4 i hi
  have e5 := (h5 i hi).2
  rw [hV] at e e5
  simp only at e e5
  obtain ⟨g', hg', _, cur, hh, hcs⟩ := e5.resolve_left (by omega)
  have hgg : g' = g := by
    have := Option.some.inj hg'
    simp only [Addr.mk.injEq] at this
    exact this.1.symm
  subst hgg
  obtain ⟨_, k2, _, k4⟩ := hcs k hk
  rw [hsl] at k2 k4
  simp only at k2 k4
  refine ⟨cell_of h3 e, cell_of hh k2, fun m hm => ?_⟩
  obtain ⟨gw, w1, w2, cw, w3, w4⟩ := k4.resolve_left (by omega)
  obtain ⟨v, hv⟩ := w4 m hm
  exact ⟨gw, cw, v, w1, w2, w3, hv⟩
set_option maxRecDepth 100000 in
set_option maxHeartbeats 8000000 in
theorem walk (s0 : Sc) (a0 : Option Addr) (len0 cap0 : Nat) (x0 : Int) (es0 : List Ent) (a1 : Int) (w1 : isW a1) (a2 : Int) (w2 : isW a2) (a3 : Int) (w3 : isW a3) (w : World) (w0 : EntsAt w a0 len0 cap0 es0) (y0 : isW x0) :
    Calls Try.prog 11 #[tbV s0 (.slice a0 len0 cap0) x0, .int .u32 a1, .int .u32 a2, .int .u32 a3] w fun e w' => e = .returned (.bool true) ∧ Below w.heap.size w w' := by
  rcases s0 with ⟨s0, s1, s2, s3⟩
  obtain ⟨W0, hW0⟩ : ∃ W0, w.alloc (.cells #[.int .i64 s0, .int .i64 s1, .int .i64 s2, .int .i64 s3, .slice a0 len0 cap0, .int .u32 x0] 27) = W0 := ⟨_, rfl⟩
  have HB : Hid (Below w.heap.size w W0) := by rw [← hW0]; exact Lib.hid ((Below.refl _ _).alloc (Nat.le_refl _) _)
  have HVt : Hid (Vt W0 w.heap.size ((s0, s1, s2, s3), es0, x0) a0 len0 cap0) := by rw [← hW0]; exact Lib.hid (Vt.new (s := (s0, s1, s2, s3)) (x := x0) w0)
  have HX := Lib.hid y0
  clear w0 y0
  go_enter Try.func11, Try.ntmps11
  go_wp2_with fail
  clear hW0
  have c1 := awake_any W0
  refine c1.mono ?_
  rintro e m1 ⟨rfl, hb⟩
  clear c1
  replace HVt := Lib.hid (HVt.out.later hb)
  replace HB := Lib.hid (HB.out.trans (hb.mono HB.out.size))
  clear hb
  obtain ⟨kt0, kt1, kt2, kt3, kt4, kt5⟩ := HVt.out.tb
  simp only at kt0 kt1 kt2 kt3 kt4 kt5
  go_wp2_with fail
  clear kt0 kt1 kt2 kt3 kt4 kt5
  have c2 := lfew_any (s0, s1, s2, s3) a0 len0 cap0 x0 es0 m1 HVt.out.2 HX.out
  refine c2.mono ?_
  rintro e m2 ⟨rfl, hb⟩
  clear c2
  replace HVt := Lib.hid (HVt.out.later hb)
  replace HB := Lib.hid (HB.out.trans (hb.mono HB.out.size))
  clear hb
  rcases hfew : fewT ((s0, s1, s2, s3), es0, x0) with _ | _
  · clear hfew
    go_wp2_with fail
    go_ret
    exact ⟨rfl, HB.out⟩
  have HF := Lib.hid (fewE_of hfew)
  clear hfew
  have HK := Lib.hid w1
  have HFi := Lib.hid w2
  have HVv := Lib.hid w3
  clear w1 w2 w3
  obtain ⟨kt0, kt1, kt2, kt3, kt4, kt5⟩ := HVt.out.tb
  simp only at kt0 kt1 kt2 kt3 kt4 kt5
  go_wp2_with fail
  clear kt0 kt1 kt2 kt3 kt4 kt5
  have c3 := tmay_any (s0, s1, s2, s3) a0 len0 cap0 x0 es0 m2 HVt.out.2 HX.out
  refine c3.mono ?_
  rintro e m3 ⟨rfl, hb⟩
  clear c3
  replace HVt := Lib.hid (HVt.out.later hb)
  replace HB := Lib.hid (HB.out.trans (hb.mono HB.out.size))
  clear hb
  rcases hmay : mayTb ((s0, s1, s2, s3), es0, x0) with _ | _
  · clear hmay
    go_wp2_with fail
    go_ret
    exact ⟨rfl, HB.out⟩
  have HM := Lib.hid hmay
  clear hmay
  rcases hg : getT ((s0, s1, s2, s3), es0, x0) a1 a2 with ⟨⟨⟨g0, g1, g2, g3⟩, ge, gx⟩, gv, gb⟩
  have HG := Lib.hid hg
  clear hg
  rcases hg : setT ((s0, s1, s2, s3), es0, x0) a1 a2 a3 with ⟨⟨⟨h0, h1, h2, h3⟩, he, hx⟩, hv⟩
  have HSe := Lib.hid hg
  clear hg
  rcases hg : delT ((s0, s1, s2, s3), es0, x0) a1 with ⟨⟨⟨d0, d1, d2, d3⟩, de, dx⟩, dv⟩
  have HD := Lib.hid hg
  clear hg
  obtain ⟨kt0, kt1, kt2, kt3, kt4, kt5⟩ := HVt.out.tb
  simp only at kt0 kt1 kt2 kt3 kt4 kt5
  go_wp2_with fail
  clear kt0 kt1 kt2 kt3 kt4 kt5
  have c4 := own_any (s0, s1, s2, s3) a0 len0 cap0 x0 es0 m3 HVt.out.2 HF.out
  refine c4.mono ?_
  intro e m4 hP
  obtain ⟨jb4, jn4, jp4, rfl, hb, hE0⟩ := own_in hP
  clear hP
  clear c4
  have hE : EntsAt m4 jb4 jn4 jp4 es0 := hE0.at
  clear hE0
  have hb2 : Below m3.heap.size m3 (m4.alloc (.cells #[.int .i64 s0, .int .i64 s1, .int .i64 s2, .int .i64 s3, .slice jb4 jn4 jp4, .int .u32 x0] 27)) := hb.trans (((Below.refl _ _).alloc (Nat.le_refl _) _).mono hb.size)
  replace HVt := Lib.hid (HVt.out.later hb2)
  replace HB := Lib.hid (HB.out.trans (hb2.mono HB.out.size))
  have HVw : Hid (Vt (m4.alloc (.cells #[.int .i64 s0, .int .i64 s1, .int .i64 s2, .int .i64 s3, .slice jb4 jn4 jp4, .int .u32 x0] 27)) m4.heap.size ((s0, s1, s2, s3), es0, x0) jb4 jn4 jp4) := Lib.hid (Vt.new (s := (s0, s1, s2, s3)) (x := x0) hE)
  obtain ⟨T4, hT4⟩ : ∃ T4, m4.heap.size = T4 := ⟨_, rfl⟩
  obtain ⟨W4, hW4⟩ : ∃ W4, m4.alloc (.cells #[.int .i64 s0, .int .i64 s1, .int .i64 s2, .int .i64 s3, .slice jb4 jn4 jp4, .int .u32 x0] 27) = W4 := ⟨_, rfl⟩
  rw [hT4] at HVw
  rw [hW4] at HB HVt HVw
  clear hb hb2 hE
  obtain ⟨kt0, kt1, kt2, kt3, kt4, kt5⟩ := HVt.out.tb
  simp only at kt0 kt1 kt2 kt3 kt4 kt5
  go_wp2_with fail
  clear hT4 hW4 kt0 kt1 kt2 kt3 kt4 kt5
  obtain ⟨WB, hWB⟩ : ∃ WB, W4 = WB := ⟨_, rfl⟩
  have HBB : Hid (Below WB.heap.size WB W4) := Lib.hid (by rw [hWB]; exact Below.refl _ _)
  have HVt0 : Hid (Vt WB w.heap.size ((s0, s1, s2, s3), es0, x0) a0 len0 cap0) := Lib.hid (by rw [← hWB]; exact HVt.out)
  have HVw0 : Hid (Vt WB T4 ((s0, s1, s2, s3), es0, x0) jb4 jn4 jp4) := Lib.hid (by rw [← hWB]; exact HVw.out)
  have HB0 : Hid (Below w.heap.size w WB) := Lib.hid (by rw [← hWB]; exact HB.out)
  clear hWB
  have c5 := tget_any (s0, s1, s2, s3) a0 len0 cap0 x0 es0 a1 a2 W4 HVt.out.2 HF.out HX.out HFi.out
  rw [HG.out] at c5
  refine c5.mono ?_
  rintro e m5 ⟨u, rfl, hb, hr0⟩
  clear c5
  have hr : Row m5 W4.heap.size u ge := hr0
  obtain ⟨⟨jb5, jn5, jp5⟩, sl5, hu, hE, hS⟩ := shE_of hr
  simp only at hu hE
  subst hu
  clear hr hr0
  have hb2 : Below W4.heap.size W4 (m5.alloc (.cells #[.int .i64 g0, .int .i64 g1, .int .i64 g2, .int .i64 g3, .slice jb5 jn5 jp5, .int .u32 gx] 27)) := hb.trans (((Below.refl _ _).alloc (Nat.le_refl _) _).mono hb.size)
  have hBs : WB.heap.size ≤ W4.heap.size := HBB.out.size
  replace HVt := Lib.hid (HVt.out.later hb2)
  replace HVw := Lib.hid (HVw.out.later hb2)
  replace HB := Lib.hid (HB.out.trans (hb2.mono HB.out.size))
  have HVa : Hid (Vt (m5.alloc (.cells #[.int .i64 g0, .int .i64 g1, .int .i64 g2, .int .i64 g3, .slice jb5 jn5 jp5, .int .u32 gx] 27)) m5.heap.size ((g0, g1, g2, g3), ge, gx) jb5 jn5 jp5) := Lib.hid (Vt.new (s := (g0, g1, g2, g3)) (x := gx) hE)
  have HSa : Hid (ShE WB.heap.size (m5.alloc (.cells #[.int .i64 g0, .int .i64 g1, .int .i64 g2, .int .i64 g3, .slice jb5 jn5 jp5, .int .u32 gx] 27)) (jb5, jn5, jp5) sl5) := Lib.hid ((hS.mono hBs).below (belowA m5 (.cells #[.int .i64 g0, .int .i64 g1, .int .i64 g2, .int .i64 g3, .slice jb5 jn5 jp5, .int .u32 gx] 27)))
  replace HBB := Lib.hid (HBB.out.trans (hb2.mono HBB.out.size))
  obtain ⟨T5, hT5⟩ : ∃ T5, m5.heap.size = T5 := ⟨_, rfl⟩
  obtain ⟨W5, hW5⟩ : ∃ W5, m5.alloc (.cells #[.int .i64 g0, .int .i64 g1, .int .i64 g2, .int .i64 g3, .slice jb5 jn5 jp5, .int .u32 gx] 27) = W5 := ⟨_, rfl⟩
  rw [hT5] at HVa
  rw [hW5] at HB HBB HSa HVt HVw HVa 
  clear hb hb2 hE hS hBs
  obtain ⟨kt0, kt1, kt2, kt3, kt4, kt5⟩ := HVt.out.tb
  simp only at kt0 kt1 kt2 kt3 kt4 kt5
  go_wp2_with fail
  clear hT5 hW5 kt0 kt1 kt2 kt3 kt4 kt5
  have c6 := tset_any (s0, s1, s2, s3) a0 len0 cap0 x0 es0 a1 a2 a3 W5 HVt.out.2 HF.out HX.out HK.out HFi.out HVv.out
  rw [HSe.out] at c6
  refine c6.mono ?_
  rintro e m6 ⟨u, rfl, hb, hr0⟩
  clear c6
  have hr : Row m6 W5.heap.size u he := hr0
  obtain ⟨⟨jb6, jn6, jp6⟩, sl6, hu, hE, hS⟩ := shE_of hr
  simp only at hu hE
  subst hu
  clear hr hr0
  have hb2 : Below W5.heap.size W5 (m6.alloc (.cells #[.int .i64 h0, .int .i64 h1, .int .i64 h2, .int .i64 h3, .slice jb6 jn6 jp6, .int .u32 hx] 27)) := hb.trans (((Below.refl _ _).alloc (Nat.le_refl _) _).mono hb.size)
  have hBs : WB.heap.size ≤ W5.heap.size := HBB.out.size
  replace HVt := Lib.hid (HVt.out.later hb2)
  replace HVw := Lib.hid (HVw.out.later hb2)
  replace HVa := Lib.hid (HVa.out.later hb2)
  replace HB := Lib.hid (HB.out.trans (hb2.mono HB.out.size))
  replace HSa := Lib.hid (HSa.out.below hb2)
  have HVb : Hid (Vt (m6.alloc (.cells #[.int .i64 h0, .int .i64 h1, .int .i64 h2, .int .i64 h3, .slice jb6 jn6 jp6, .int .u32 hx] 27)) m6.heap.size ((h0, h1, h2, h3), he, hx) jb6 jn6 jp6) := Lib.hid (Vt.new (s := (h0, h1, h2, h3)) (x := hx) hE)
  have HSb : Hid (ShE WB.heap.size (m6.alloc (.cells #[.int .i64 h0, .int .i64 h1, .int .i64 h2, .int .i64 h3, .slice jb6 jn6 jp6, .int .u32 hx] 27)) (jb6, jn6, jp6) sl6) := Lib.hid ((hS.mono hBs).below (belowA m6 (.cells #[.int .i64 h0, .int .i64 h1, .int .i64 h2, .int .i64 h3, .slice jb6 jn6 jp6, .int .u32 hx] 27)))
  replace HBB := Lib.hid (HBB.out.trans (hb2.mono HBB.out.size))
  obtain ⟨T6, hT6⟩ : ∃ T6, m6.heap.size = T6 := ⟨_, rfl⟩
  obtain ⟨W6, hW6⟩ : ∃ W6, m6.alloc (.cells #[.int .i64 h0, .int .i64 h1, .int .i64 h2, .int .i64 h3, .slice jb6 jn6 jp6, .int .u32 hx] 27) = W6 := ⟨_, rfl⟩
  rw [hT6] at HVb
  rw [hW6] at HB HBB HSb HVt HVw HVa HVb HSa
  clear hb hb2 hE hS hBs
  obtain ⟨kt0, kt1, kt2, kt3, kt4, kt5⟩ := HVt.out.tb
  simp only at kt0 kt1 kt2 kt3 kt4 kt5
  go_wp2_with fail
  clear hT6 hW6 kt0 kt1 kt2 kt3 kt4 kt5
  have c7 := tdel_any (s0, s1, s2, s3) a0 len0 cap0 x0 es0 a1 W6 HVt.out.2 HF.out HX.out
  rw [HD.out] at c7
  refine c7.mono ?_
  rintro e m7 ⟨u, rfl, hb, hr0⟩
  clear c7
  have hr : Row m7 W6.heap.size u de := hr0
  obtain ⟨⟨jb7, jn7, jp7⟩, sl7, hu, hE, hS⟩ := shE_of hr
  simp only at hu hE
  subst hu
  clear hr hr0
  have hb2 : Below W6.heap.size W6 (m7.alloc (.cells #[.int .i64 d0, .int .i64 d1, .int .i64 d2, .int .i64 d3, .slice jb7 jn7 jp7, .int .u32 dx] 27)) := hb.trans (((Below.refl _ _).alloc (Nat.le_refl _) _).mono hb.size)
  have hBs : WB.heap.size ≤ W6.heap.size := HBB.out.size
  replace HVt := Lib.hid (HVt.out.later hb2)
  replace HVw := Lib.hid (HVw.out.later hb2)
  replace HVa := Lib.hid (HVa.out.later hb2)
  replace HVb := Lib.hid (HVb.out.later hb2)
  replace HB := Lib.hid (HB.out.trans (hb2.mono HB.out.size))
  replace HSa := Lib.hid (HSa.out.below hb2)
  replace HSb := Lib.hid (HSb.out.below hb2)
  have HVc : Hid (Vt (m7.alloc (.cells #[.int .i64 d0, .int .i64 d1, .int .i64 d2, .int .i64 d3, .slice jb7 jn7 jp7, .int .u32 dx] 27)) m7.heap.size ((d0, d1, d2, d3), de, dx) jb7 jn7 jp7) := Lib.hid (Vt.new (s := (d0, d1, d2, d3)) (x := dx) hE)
  have HSc : Hid (ShE WB.heap.size (m7.alloc (.cells #[.int .i64 d0, .int .i64 d1, .int .i64 d2, .int .i64 d3, .slice jb7 jn7 jp7, .int .u32 dx] 27)) (jb7, jn7, jp7) sl7) := Lib.hid ((hS.mono hBs).below (belowA m7 (.cells #[.int .i64 d0, .int .i64 d1, .int .i64 d2, .int .i64 d3, .slice jb7 jn7 jp7, .int .u32 dx] 27)))
  replace HBB := Lib.hid (HBB.out.trans (hb2.mono HBB.out.size))
  obtain ⟨T7, hT7⟩ : ∃ T7, m7.heap.size = T7 := ⟨_, rfl⟩
  obtain ⟨W7, hW7⟩ : ∃ W7, m7.alloc (.cells #[.int .i64 d0, .int .i64 d1, .int .i64 d2, .int .i64 d3, .slice jb7 jn7 jp7, .int .u32 dx] 27) = W7 := ⟨_, rfl⟩
  rw [hT7] at HVc
  rw [hW7] at HB HBB HSc HVt HVw HVa HVb HVc HSa HSb
  clear hb hb2 hE hS hBs
  obtain ⟨V, hV⟩ : ∃ V : Nat → Option Addr × Nat × Nat, V 0 = (jb5, jn5, jp5) ∧ V 1 = (jb6, jn6, jp6) ∧ V 2 = (jb7, jn7, jp7) := ⟨fun i => if i = 0 then (jb5, jn5, jp5) else if i = 1 then (jb6, jn6, jp6) else (jb7, jn7, jp7), rfl, rfl, rfl⟩
  obtain ⟨sl, hsl⟩ : ∃ sl : Nat → Nat → Option Addr × Nat × Nat, sl 0 = sl5 ∧ sl 1 = sl6 ∧ sl 2 = sl7 := ⟨fun i => if i = 0 then sl5 else if i = 1 then sl6 else sl7, rfl, rfl, rfl⟩
  have HSh : Hid (Sh WB.heap.size WB (W7.alloc (.cells #[.int .i64 g0, .int .i64 g1, .int .i64 g2, .int .i64 g3, .slice jb5 jn5 jp5, .int .u32 gx, .int .i64 h0, .int .i64 h1, .int .i64 h2, .int .i64 h3, .slice jb6 jn6 jp6, .int .u32 hx, .int .i64 d0, .int .i64 d1, .int .i64 d2, .int .i64 d3, .slice jb7 jn7 jp7, .int .u32 dx] 27)) W7.heap.size V sl) := Lib.hid (by
    refine ⟨HBB.out.trans ((belowA _ _).mono HBB.out.size), Nat.le_trans HBB.out.size (belowA _ _).size, ⟨_, Box.new _ _ _, fun i hi => ?_⟩, fun i hi => ?_⟩
    · match i, hi with
      | 0, _ => rw [hV.1]; rfl
      | 1, _ => rw [hV.2.1]; rfl
      | 2, _ => rw [hV.2.2]; rfl
    · match i, hi with
      | 0, _ => rw [hV.1, hsl.1]; exact HSa.out.below (belowA _ _)
      | 1, _ => rw [hV.2.1, hsl.2.1]; exact HSb.out.below (belowA _ _)
      | 2, _ => rw [hV.2.2, hsl.2.2]; exact HSc.out.below (belowA _ _))
  clear hV hsl
  obtain ⟨ka0, ka1, ka2, ka3, ka4, ka5⟩ := HVa.out.tb
  simp only at ka0 ka1 ka2 ka3 ka4 ka5
  obtain ⟨kb0, kb1, kb2, kb3, kb4, kb5⟩ := HVb.out.tb
  simp only at kb0 kb1 kb2 kb3 kb4 kb5
  obtain ⟨kc0, kc1, kc2, kc3, kc4, kc5⟩ := HVc.out.tb
  simp only at kc0 kc1 kc2 kc3 kc4 kc5
  go_wp2_with fail
  clear hT7 hW7 ka0 ka1 ka2 ka3 ka4 ka5 kb0 kb1 kb2 kb3 kb4 kb5 kc0 kc1 kc2 kc3 kc4 kc5
  generalize hL : W7.alloc (.cells #[.int .i64 g0, .int .i64 g1, .int .i64 g2, .int .i64 g3, .slice jb5 jn5 jp5, .int .u32 gx, .int .i64 h0, .int .i64 h1, .int .i64 h2, .int .i64 h3, .slice jb6 jn6 jp6, .int .u32 hx, .int .i64 d0, .int .i64 d1, .int .i64 d2, .int .i64 d3, .slice jb7 jn7 jp7, .int .u32 dx] 27) = WL at *
  generalize hLL : W7.heap.size = L at *
  clear hL hLL HVt HVw HVa HVb HVc HSa HSb HSc HB HBB
  go_loopw [20] (fun i wr => ∃ k : Nat, k ≤ 3 ∧ i = .int .i64 k ∧ Hid (Sh WB.heap.size WB wr L V sl)) (fun i _ => 3 - (intOf i).toNat)
  case atStart => exact ⟨0, by omega, rfl, HSh⟩
  case round =>
    obtain ⟨i, hi, rfl, HS1⟩ := hrel
    clear HSh
    by_cases hi3 : i < 3
    · as_aux_lemma =>
      have hiI : (i : Int) < 3 := by omega
      obtain ⟨⟨vb, vn, vp⟩, hVi⟩ : ∃ q, V i = q := ⟨_, rfl⟩
      have HVi := Lib.hid hVi
      clear hVi
      go_wp2
      go_loopw [21] (fun s wr => ∃ k : Nat, k ≤ vn ∧ s = .int .i64 k ∧ Hid (Sh WB.heap.size WB wr L V sl)) (fun s _ => vn - (intOf s).toNat)
      case atStart => exact ⟨0, by omega, rfl, HS1⟩
      case round =>
        obtain ⟨k, hk, rfl, HS2⟩ := hrel
        clear HS1
        have HLc := Lib.hid (show wr.cell? ⟨L, i * 6 + 4, none⟩ = some (.slice vb vn vp) by
          obtain ⟨_, _, ⟨cs, e1, e2⟩, _⟩ := HS2.out
          have e3 := e2 i hi3
          rw [HVi.out] at e3
          exact cell_of e1 e3)
        have hlc := HLc.out
        by_cases hkl : k < vn
        · as_aux_lemma =>
          have hkI : (k : Int) < (vn : Int) := by omega
          have hvm : vn ≤ 9223372036854775807 := by
            have h9 := (HS2.out.2.2.2 i hi3).1
            rw [HVi.out] at h9
            exact h9
          obtain ⟨g, hvb, hBg, cur, hh, hcs⟩ := ((HVi.out ▸ (HS2.out.2.2.2 i hi3 : ShE WB.heap.size wr (V i) (sl i)) : ShE WB.heap.size wr (vb, vn, vp) (sl i)).2).resolve_left (by show ¬ vn = 0; omega)
          simp only at hvb
          subst hvb
          obtain ⟨⟨key, hkey⟩, hsk, hlm, hws⟩ := hcs k hkl
          obtain ⟨⟨wb, wn, wp⟩, hslk⟩ : ∃ q, sl i k = q := ⟨_, rfl⟩
          rw [hslk] at hsk hlm hws
          simp only at hsk hlm
          have HSk := Lib.hid hslk
          have HH := Lib.hid hh
          have HBg := Lib.hid hBg
          have hc0 := cell_of hh hkey
          have hf0 : wr.frozen? ⟨g, k * 2, none⟩ = false := Box.free (cs := cur) hh _
          clear hcs hh hBg hslk hws hsk hkey
          go_wp2
          go_big_region
          have HS3 : Hid (∀ z, Sh WB.heap.size WB ((wr.setCell ⟨g, k * 2, none⟩ (.int .u32 z)).drew) L V sl) := Lib.hid (fun z => (HS2.out.put HBg.out HH.out (.inr ⟨rfl, by omega⟩) z).drew (Below.refl _ _).drew)
          clear hlc HLc hc0 hf0
          go_wp2
          go_loopw [22] (fun s wr => ∃ m : Nat, m ≤ wn ∧ s = .int .i64 m ∧ Hid (Sh WB.heap.size WB wr L V sl)) (fun s _ => wn - (intOf s).toNat)
          case atStart => exact ⟨0, by omega, rfl, Lib.hid (HS3.out _)⟩
          case round =>
            obtain ⟨m, hm, rfl, HS4⟩ := hrel
            obtain ⟨hl1, hl2, hl3⟩ := HS4.out.entry hi3 HVi.out hkl HSk.out
            by_cases hml : m < wn
            · as_aux_lemma =>
              have hmI : (m : Int) < (wn : Int) := by omega
              obtain ⟨gw, curw, v, hwb, hBw, hhw, hv⟩ := hl3 m hml
              subst hwb
              have hc2 := cell_of hhw hv
              have hf2 : wr.frozen? ⟨gw, m, none⟩ = false := Box.free (cs := curw) hhw _
              have HS5 : Hid (∀ z, Sh WB.heap.size WB ((wr.setCell ⟨gw, m, none⟩ (.int .u32 z)).drew) L V sl) := Lib.hid (fun z => (HS4.out.put hBw hhw (.inl rfl) z).drew (Below.refl _ _).drew)
              clear hl3 hBw hhw hv
              go_wp2
              go_big_region
              clear hl1 hl2 hc2 hf2
              go_wp2
              exact ⟨⟨m + 1, by omega, by go_num, Lib.hid (HS5.out _)⟩, by simp [intOf]; omega⟩
            · have hmI : ¬ (m : Int) < (wn : Int) := by omega
              clear hl3
              go_wp2
              exact ⟨⟨k + 1, by omega, by go_num, HS4⟩, by simp [intOf]; omega⟩
        · have hkI : ¬ (k : Int) < (vn : Int) := by omega
          go_wp2
          exact ⟨⟨i + 1, by omega, by go_num, HS2⟩, by simp [intOf]; omega⟩
    · have hiI : ¬ (i : Int) < 3 := by omega
      have HVt := Lib.hid (HVt0.out.later HS1.out.1)
      have HVw := Lib.hid (HVw0.out.later HS1.out.1)
      have HB := Lib.hid (HB0.out.trans (HS1.out.1.mono HB0.out.size))
      obtain ⟨k0, k1, k2, k3, k4, k5⟩ := HVt.out.tb
      obtain ⟨q0, q1, q2, q3, q4, q5⟩ := HVw.out.tb
      simp only at k0 k1 k2 k3 k4 k5 q0 q1 q2 q3 q4 q5
      go_wp2_with fail
      clear k0 k1 k2 k3 k4 k5 q0 q1 q2 q3 q4 q5
      have c9 := same_any (s0, s1, s2, s3) a0 len0 cap0 x0 es0 (s0, s1, s2, s3) jb4 jn4 jp4 x0 es0 wr HVt.out.2 HVw.out.2
      rw [decide_eq_true rfl] at c9
      refine c9.mono ?_
      rintro e m9 ⟨rfl, hb9⟩
      have HZ := Lib.hid (HB.out.trans (hb9.mono HB.out.size))
      clear c9 hb9
      go_wp2_with fail
      go_ret
      exact ⟨rfl, HZ.out⟩


theorem own : ownKnob Try.prog.godebug = none := by kernel_rfl
theorem laidOut : laidOutB Try.prog = true := by kernel_rfl
set_option maxRecDepth 100000 in
theorem lifted (os : Os) (started : os.Started) (H : Type) (enc : TypeId × Value → H) :
    ReturnsInHanded {} Try.checked os 11 .any (Rows.tableOwnSpec.pre6 enc Try.prog Try.f11 Rows.tableOwnRow.domain false) (Rows.tableOwnSpec.post enc Try.prog Try.f11 false true false false) := by
  refine returnsInHanded_of_change (C := Try.checked) own started (by kernel_rfl) Try.func11
    (ChangeSpec.witness6 (enc := enc) (C := Try.checked) false ⟨#[], #[.agg #[.int .i64 0, .int .i64 0, .int .i64 0, .int .i64 0, .slice none 0 0, .int .u32 0], .int .u32 0, .int .u32 0, .int .u32 0], []⟩ 8 (by kernel_rfl) (by kernel_rfl) (by kernel_rfl) (by kernel_rfl)) ?_
  intro W base args ds gs before hval0 hW hcnd _
  have hval : ∀ (j : Nat) t v, Try.f11.params[j]? = some t → args[j]? = some v → Value.okWide Try.prog W .any base t v := hval0
  have hW' := hW
  obtain ⟨p, q, hA0, hV, rfl, hfz, hnd⟩ := hW
  have hA : DataW.TrodAll enc Try.prog W 0 (fun _ => true) true Try.f11.params.toList args.toList ds p := hA0
  rw [Try.params11] at hA hval
  obtain ⟨u0, vs0, e0, ds0, p0, q0, hargs, rfl, rfl, h0, t0⟩ := trodAll_cons hA
  obtain ⟨u1, vs1, e1, ds1, p1, q1, rfl, rfl, rfl, h1, t1⟩ := trodAll_cons t0
  obtain ⟨u2, vs2, e2, ds2, p2, q2, rfl, rfl, rfl, h2, t2⟩ := trodAll_cons t1
  obtain ⟨u3, vs3, e3, ds3, p3, q3, rfl, rfl, rfl, h3, t3⟩ := trodAll_cons t2
  obtain ⟨rfl, rfl, rfl⟩ := trodAll_nil t3
  obtain rfl : args = #[u0, u1, u2, u3] := by cases args; simp_all
  obtain ⟨rfl, rfl⟩ := trodVars_none hV
  have y0 := h0
  have lt0 : ∀ x ∈ p0, x.block < W.heap.size := by obtain ⟨m, hm⟩ := y0; exact DataW.trod_lt m _ _ _ hm
  have y1 := h1
  have lt1 : ∀ x ∈ p1, x.block < W.heap.size := by obtain ⟨m, hm⟩ := y1; exact DataW.trod_lt m _ _ _ hm
  have y2 := h2
  have lt2 : ∀ x ∈ p2, x.block < W.heap.size := by obtain ⟨m, hm⟩ := y2; exact DataW.trod_lt m _ _ _ hm
  have y3 := h3
  have lt3 : ∀ x ∈ p3, x.block < W.heap.size := by obtain ⟨m, hm⟩ := y3; exact DataW.trod_lt m _ _ _ hm
  obtain ⟨s0, a0, len0, cap0, x0, es0, rfl, w0, yx0⟩ := open_tb (hval 0 27 u0 rfl rfl) h0
  obtain ⟨a1, rfl, _, _, w1'⟩ := open_int Try.underlying25 (hval 1 25 u1 rfl rfl) h1
  have w1 : isW a1 := bounds_u32 w1'
  obtain ⟨a2, rfl, _, _, w2'⟩ := open_int Try.underlying25 (hval 2 25 u2 rfl rfl) h2
  have w2 : isW a2 := bounds_u32 w2'
  obtain ⟨a3, rfl, _, _, w3'⟩ := open_int Try.underlying25 (hval 3 25 u3 rfl rfl) h3
  have w3 : isW a3 := bounds_u32 w3'
  clear hA0 hval0
  refine (walk s0 a0 len0 cap0 x0 es0 a1 w1 a2 w2 a3 w3 W w0 yx0).mono fun e W' ⟨he, bel⟩ => ?_
  subst he
  exact ⟨_, rfl, _, _, _, [], _, [], hW', trodAll_mk1 (shut_bool Try.underlying4 _), (trodAll_cons_mk (Below.trod laidOut (by kernel_rfl) (of_decide_eq_true (by kernel_rfl)) y0 bel lt0) (trodAll_cons_mk (Below.trod laidOut (by kernel_rfl) (of_decide_eq_true (by kernel_rfl)) y1 bel lt1) (trodAll_cons_mk (Below.trod laidOut (by kernel_rfl) (of_decide_eq_true (by kernel_rfl)) y2 bel lt2) (trodAll_cons_mk (Below.trod laidOut (by kernel_rfl) (of_decide_eq_true (by kernel_rfl)) y3 bel lt3) trodAll_mk0)))), rfl, bel.frame _, fun h => by cases h⟩

theorem over : Rows.tableOwnRow.holds Try.pinned (OpenSpec.ofChange Rows.tableOwnSpec) :=
  OpenClaim.holds_of_wide 11 Try.f11 rfl rfl rfl rfl rfl rfl rfl ⟨rfl, rfl, rfl, rfl, rfl⟩ rfl rfl rfl rfl rfl (by kernel_rfl) Try.func11 (by kernel_rfl)
    (of_decide_eq_true (by kernel_rfl)) (by unfold Func.isWrapper; first | (rw [if_pos (by decide +kernel)]; kernel_rfl) | (rw [if_neg (by decide +kernel)]; exact ⟨rfl, rfl⟩))
    (fun os started H enc _ => lifted os started H enc)

theorem proved : Rows.TableOwnSaid := over
#print axioms proved
end Go.Proofs.Ytlbmgablkphioaa.tableOwn
