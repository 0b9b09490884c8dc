/-
  Texts that the laws of this layer stand on, one behind the other.
-/
import Derived.Test.YtilddlgcfbefiaaDoorGf
import Derived.Test.YtilddlgcfbefiaaDoorGta
import Derived.Test.YtilddlgcfbefiaaDoorTM
import Derived.Lib.SliceRun
import Derived.Test.YtilddlgcfbefiaaDoorGg
/-
  Lists of tables in memory of the call's own, grown by append: one table more; a table put in another one's place.
-/
namespace Go.Proofs.YtilddlgcfbefiaaDoor
set_option linter.unusedSimpArgs false
set_option linter.unusedVariables false
open Go Go.RowKit
theorem EntsIn.lta {W : World} {A : Nat → Prop} {a : Option Addr} {len cap : Nat} {es : List Ent} (h : EntsIn W A a len cap es) : EntsIn W (fun n => A n ∧ n < W.heap.size) a len cap es := by
  obtain ⟨h1, h2, h3, h5⟩ := h
  refine ⟨h1, h2, h3, ?_⟩
  rcases h5 with h5 | ⟨y, e, hy, h6⟩
  · exact .inl h5
  · by_cases hl : len = 0
    · exact .inl hl
    · have c := lt_of_cell (h6 0 (by omega)).1
      rw [add_block] at c
      refine .inr ⟨y, e, ⟨hy, c⟩, fun k hk => ?_⟩
      obtain ⟨c0, hw, b, l, cc, c1, hc⟩ := h6 k hk
      refine ⟨c0, hw, b, l, cc, c1, hc.1, ?_⟩
      rcases hc.2 with h0 | ⟨z, ez, hz⟩
      · exact .inl h0
      · by_cases hl0 : l = 0
        · exact .inl hl0
        · obtain ⟨_, _, _, _, h5'⟩ := hc.1
          obtain ⟨z', ez', hz'⟩ := h5'.resolve_left hl0
          rw [ez] at ez'
          cases ez'
          have c2 := lt_of_cell (hz' 0 (by omega))
          rw [add_block] at c2
          exact .inr ⟨z, ez, hz, c2⟩
/- the six cells of the table k in a list of cells; its entries lie in blocks of which A holds -/
def TbIn (W : World) (A : Nat → Prop) (xs : List Value) (k : Nat) (t : Tb) : Prop :=
  xs[k * 6]? = some (.int .i64 t.1.1) ∧ xs[k * 6 + 1]? = some (.int .i64 t.1.2.1) ∧ xs[k * 6 + 2]? = some (.int .i64 t.1.2.2.1) ∧ xs[k * 6 + 3]? = some (.int .i64 t.1.2.2.2) ∧
  (∃ b l c, xs[k * 6 + 4]? = some (.slice b l c) ∧ EntsIn W A b l c t.2.1) ∧ xs[k * 6 + 5]? = some (.int .u32 t.2.2) ∧ isW t.2.2
theorem TbIn.map {W W' : World} {A A' : Nat → Prop} {xs : List Value} {k : Nat} {t : Tb} (h : TbIn W A xs k t) (hm : ∀ b l c, EntsIn W A b l c t.2.1 → EntsIn W' A' b l c t.2.1) : TbIn W' A' xs k t := by
  obtain ⟨c0, c1, c2, c3, ⟨b, l, c, c4, hE⟩, c5, hx⟩ := h
  exact ⟨c0, c1, c2, c3, ⟨b, l, c, c4, hm b l c hE⟩, c5, hx⟩
/- a row of tables grown by append; base: all blocks from there on -/
def RowT (W : World) (base : Nat) (v : Value) (ts : List Tb) : Prop :=
  ∃ xs, W.ownsRow base 42 6 v ts.length xs ∧ xs.length = ts.length * 6 ∧ ∀ k, k < ts.length → TbIn W (fun n => base ≤ n ∧ n < W.heap.size ∧ some n ≠ v.ownBlock) xs k (ts.getD k zeroT)
theorem RowT.nil (W : World) (base : Nat) : RowT W base (.slice none 0 0) [] := ⟨[], World.ownsRow_nil _ _ _ _, rfl, fun k hk => absurd hk (by simp)⟩
theorem RowT.below {W W' : World} {base : Nat} {v : Value} {ts : List Tb} (h : RowT W base v ts) (hb : Below W.heap.size W W') : RowT W' base v ts := by
  obtain ⟨xs, h1, h2, h3⟩ := h
  have hs := hb.size
  exact ⟨xs, ownsRow_below h1 hb, h2, fun k hk => (h3 k hk).map (fun b l c hE => (hE.below hb).mono (fun n hn => ⟨hn.1, by omega, hn.2.2⟩))⟩
theorem RowT.snoc {W W1 W2 : World} {base g cp H : Nat} {v : Value} {ts : List Tb} {t : Tb} {b : Option Addr} {l c : Nat} {xs : List Value} (h1 : W.ownsRow base 42 6 v ts.length xs) (h2 : xs.length = ts.length * 6)
    (h3 : ∀ k, k < ts.length → TbIn W (fun n => base ≤ n ∧ n < W.heap.size ∧ some n ≠ v.ownBlock) xs k (ts.getD k zeroT)) (hbs : base ≤ W.heap.size) (hb : Below W.heap.size W W1)
    (hE : EntsIn W1 (fun n => W.heap.size ≤ n) b l c t.2.1) (hx : isW t.2.2) (hown : W2.ownsRow base 42 6 (.slice (some ⟨g, 0, none⟩) (ts.length + 1) cp) (ts.length + 1) (xs ++ (tbA t.1 (.slice b l c) t.2.2).toList))
    (hgrow : W1.grownBy W2 v.ownBlock) (hat : v.ownBlock = some g ∨ g = H) (hH : W1.heap.size ≤ H) : RowT W2 base (.slice (some ⟨g, 0, none⟩) (ts.length + 1) cp) (ts ++ [t]) := by
  have hs := hb.size
  have hs2 := hgrow.size
  have hlt := h1.lt
  have hE' := (hE.lta).grown hgrow (fun n hn e => by have := (hlt n e.symm).2; omega)
  refine ⟨xs ++ (tbA t.1 (.slice b l c) t.2.2).toList, by simpa using hown, by simp [h2]; omega, fun k hk => ?_⟩
  have hob : (Value.slice (some ⟨g, 0, none⟩) (ts.length + 1) cp).ownBlock = some g := rfl
  rw [hob]
  by_cases hkl : k < ts.length
  · have hg : (ts ++ [t]).getD k zeroT = ts.getD k zeroT := by simp [List.getD_eq_getElem?_getD, List.getElem?_append_left hkl]
    rw [hg]
    obtain ⟨c0, c1, c2, c3, ⟨b', l', c', c4, hE1⟩, c5, hx'⟩ := h3 k hkl
    have ap : ∀ (j : Nat) (u : Value), j < 6 → xs[k * 6 + j]? = some u → (xs ++ (tbA t.1 (.slice b l c) t.2.2).toList)[k * 6 + j]? = some u := fun j u hj hu => by
      rw [List.getElem?_append_left (by omega)]; exact hu
    refine ⟨ap 0 _ (by omega) c0, ap 1 _ (by omega) c1, ap 2 _ (by omega) c2, ap 3 _ (by omega) c3, ⟨b', l', c', ap 4 _ (by omega) c4, ?_⟩, ap 5 _ (by omega) c5, hx'⟩
    refine ((hE1.below hb).grown hgrow (fun n hn => hn.2.2)).mono (fun n hn => ⟨hn.1, by omega, fun e => ?_⟩)
    have e' := Option.some.inj e
    subst e'
    rcases hat with hat | hat
    · exact hn.2.2 hat.symm
    · omega
  · have hk2 : k = ts.length := by simp at hk; omega
    subst hk2
    have hg : (ts ++ [t]).getD ts.length zeroT = t := by simp [List.getD_eq_getElem?_getD]
    rw [hg]
    have ap : ∀ (j : Nat), (xs ++ (tbA t.1 (.slice b l c) t.2.2).toList)[ts.length * 6 + j]? = (tbA t.1 (.slice b l c) t.2.2).toList[j]? := fun j => by
      rw [List.getElem?_append_right (by omega), h2, Nat.add_sub_cancel_left]
    refine ⟨(ap 0).trans rfl, (ap 1).trans rfl, (ap 2).trans rfl, (ap 3).trans rfl, ⟨b, l, c, (ap 4).trans rfl, ?_⟩, (ap 5).trans rfl, hx⟩
    refine hE'.mono (fun n hn => ⟨by omega, by omega, fun e => ?_⟩)
    have e' := Option.some.inj e
    subst e'
    rcases hat with hat | hat
    · have := (hlt _ hat).2
      omega
    · omega
/- a list of tables whose row, and entries, lie in blocks of which A holds, the entries elsewhere than the row -/
def TabsN (W : World) (A : Nat → Prop) (V : Value) (ts : List Tb) : Prop :=
  (V = .slice none 0 0 ∧ ts = []) ∨ ∃ g cap cs, V = .slice (some ⟨g, 0, none⟩) ts.length cap ∧ A g ∧ Box W g 42 cs ∧ ts.length ≤ cap ∧ cap ≤ maxLen ∧ ts.length * 6 ≤ cs.size ∧
    ∀ k, k < ts.length → isW (ts.getD k zeroT).2.2 ∧ ∃ b l c, tbCells cs k (ts.getD k zeroT) (.slice b l c) ∧ EntsIn W (fun n => A n ∧ n ≠ g) b l c (ts.getD k zeroT).2.1
theorem RowT.tabs {W : World} {base : Nat} {v : Value} {ts : List Tb} (h : RowT W base v ts) : TabsN W (fun n => base ≤ n ∧ n < W.heap.size) v ts := by
  obtain ⟨xs, h1, h2, h3⟩ := h
  have hlt := h1.lt
  obtain ⟨_, ⟨rfl, hn⟩ | ⟨g, cap, cur, rfl, hb, hh, hc, hm, hs, ht⟩⟩ := h1
  · exact .inl ⟨rfl, List.length_eq_zero_iff.1 hn⟩
  · refine .inr ⟨g, cap, cur, rfl, hlt g rfl, hh, hc, hm, ?_, fun k hk => ?_⟩
    · have : (cur.toList.take (ts.length * 6)).length = ts.length * 6 := by rw [ht, h2]
      rw [List.length_take] at this
      have e : cur.toList.length = cur.size := Array.length_toList
      omega
    · have hcell : ∀ j u, j < 6 → xs[k * 6 + j]? = some u → cur[k * 6 + j]? = some u := by
        intro j u hj hu
        have h2' : (cur.toList.take (ts.length * 6))[k * 6 + j]? = xs[k * 6 + j]? := by rw [ht]
        rw [List.getElem?_take, if_pos (by omega), Array.getElem?_toList] at h2'
        rw [h2']; exact hu
      obtain ⟨c0, c1, c2, c3, ⟨b, l, c, c4, hE⟩, c5, hx⟩ := h3 k hk
      exact ⟨hx, b, l, c, ⟨hcell 0 _ (by omega) c0, hcell 1 _ (by omega) c1, hcell 2 _ (by omega) c2, hcell 3 _ (by omega) c3, hcell 4 _ (by omega) c4, hcell 5 _ (by omega) c5⟩,
        hE.mono (fun n hn => ⟨⟨hn.1, hn.2.1⟩, fun e => hn.2.2 (by rw [e]; rfl)⟩)⟩
section
variable {W W' : World} {A : Nat → Prop} {V : Value} {ts : List Tb}
theorem TabsN.mono {A' : Nat → Prop} (h : TabsN W A V ts) (hA : ∀ n, A n → A' n) : TabsN W A' V ts := by
  refine h.imp id (fun ⟨g, cap, cs, e, hg, hB, h1, h2, h3, h4⟩ => ⟨g, cap, cs, e, hA _ hg, hB, h1, h2, h3, fun k hk => ?_⟩)
  obtain ⟨hx, b, l, c, hc, hE⟩ := h4 k hk
  exact ⟨hx, b, l, c, hc, hE.mono (fun n hn => ⟨hA _ hn.1, hn.2⟩)⟩
/- a change in a block of which A does not hold -/
theorem TabsN.grown {row : Option Nat} (h : TabsN W A V ts) (hg : W.grownBy W' row) (hr : ∀ n, A n → some n ≠ row) : TabsN W' A V ts := by
  refine h.imp id (fun ⟨g, cap, cs, e, hgA, hB, h1, h2, h3, h4⟩ => ⟨g, cap, cs, e, hgA, hB.grown hg (hr _ hgA), h1, h2, h3, fun k hk => ?_⟩)
  obtain ⟨hx, b, l, c, hc, hE⟩ := h4 k hk
  exact ⟨hx, b, l, c, hc, hE.grown hg (fun n hn => hr _ hn.1)⟩
theorem TabsN.below (h : TabsN W A V ts) (hb : Below W.heap.size W W') : TabsN W' A V ts := h.grown (grownBy_of_below hb none) (fun _ _ => by simp)
theorem TabsN.at (h : TabsN W A V ts) : ∃ b cc, V = .slice b ts.length cc ∧ TabsAt W b ts.length cc ts := by
  rcases h with ⟨rfl, rfl⟩ | ⟨g, cap, cs, rfl, hgA, hB, h1, h2, h3, h4⟩
  · exact ⟨none, 0, rfl, rfl, Nat.le_refl _, Nat.zero_le _, .inl rfl⟩
  · refine ⟨_, cap, rfl, rfl, h1, h2, .inr ⟨_, rfl, fun k hk => ?_⟩⟩
    obtain ⟨hx, b, l, c, ⟨c0, c1, c2, c3, c4, c5⟩, hE⟩ := h4 k hk
    have ea : (⟨g, 0, none⟩ : Addr).add (k * 6) = ⟨g, k * 6, none⟩ := addr_add g (k * 6)
    rw [ea]
    exact ⟨hB.cell c0, hB.cell c1, hB.cell c2, hB.cell c3, ⟨b, l, c, hB.cell c4, hE.at⟩, hB.cell c5, hx⟩
theorem TabsN.row (h : TabsN W A V ts) (hl : 0 < ts.length) : ∃ g cap, V = .slice (some ⟨g, 0, none⟩) ts.length cap ∧ A g ∧ (∀ j, W.frozen? ⟨g, j, none⟩ = false) ∧ ts.length ≤ cap := by
  rcases h with ⟨rfl, rfl⟩ | ⟨g, cap, cs, rfl, hgA, hB, h1, h2, h3, h4⟩
  · simp at hl
  · exact ⟨g, cap, rfl, hgA, fun j => hB.free j, h1⟩
theorem TabsN.put {g cap : Nat} (h : TabsN W A (.slice (some ⟨g, 0, none⟩) ts.length cap) ts) {k : Nat} (hk : k < ts.length) {t : Tb} {b : Option Addr} {l c : Nat} (hE : EntsIn W (fun n => A n ∧ n ≠ g) b l c t.2.1) (hx : isW t.2.2) :
    TabsN (set6 W g k t (.slice b l c)) A (.slice (some ⟨g, 0, none⟩) ts.length cap) (ts.set k t) := by
  rcases h with ⟨e, _⟩ | ⟨g', cap', cs, e, hgA, hB, h1, h2, h3, h4⟩
  · cases e
  simp only [Value.slice.injEq, Option.some.injEq, Addr.mk.injEq, and_true, true_and] at e
  obtain ⟨rfl, rfl⟩ := e
  have hg := grown6 W g k t (.slice b l c)
  refine .inr ⟨g, cap, _, by rw [List.length_set], hgA, (((((hB.set (k * 6) _).set (k * 6 + 1) _).set (k * 6 + 2) _).set (k * 6 + 3) _).set (k * 6 + 4) _).set (k * 6 + 5) _, by rw [List.length_set]; exact h1, h2, by simp [h3], fun j hj => ?_⟩
  rw [List.length_set] at hj
  have e6 : ∀ r, r < 6 → j * 6 + r < cs.size := fun r hr => by omega
  by_cases hjk : j = k
  · subst hjk
    have hgd : (ts.set j t).getD j zeroT = t := by simp [List.getD_eq_getElem?_getD, hj]
    rw [hgd]
    refine ⟨hx, b, l, c, ?_, hE.grown hg (fun n hn e => hn.2 (Option.some.inj e))⟩
    have q0 := e6 0 (by omega)
    have q1 := e6 1 (by omega)
    have q2 := e6 2 (by omega)
    have q3 := e6 3 (by omega)
    have q4 := e6 4 (by omega)
    have q5 := e6 5 (by omega)
    refine ⟨?_, ?_, ?_, ?_, ?_, ?_⟩ <;> simp [Array.getElem?_setIfInBounds] <;> omega
  · have hgd : (ts.set k t).getD j zeroT = ts.getD j zeroT := by simp [List.getD_eq_getElem?_getD, List.getElem?_set_ne (Ne.symm hjk)]
    rw [hgd]
    obtain ⟨k1, b', l', c', ⟨c0, c1, c2, c3, c4, c5⟩, k3⟩ := h4 j hj
    have far : ∀ (i : Nat) (u : Value), cs[i]? = some u → (∀ r, r < 6 → k * 6 + r ≠ i) → ((((((cs.setIfInBounds (k * 6) (.int .i64 t.1.1)).setIfInBounds (k * 6 + 1) (.int .i64 t.1.2.1)).setIfInBounds (k * 6 + 2) (.int .i64 t.1.2.2.1)).setIfInBounds (k * 6 + 3) (.int .i64 t.1.2.2.2)).setIfInBounds (k * 6 + 4) (.slice b l c)).setIfInBounds (k * 6 + 5) (.int .u32 t.2.2))[i]? = some u := by
      intro i u hu hne
      have n0 : k * 6 ≠ i := hne 0 (by omega)
      rw [Array.getElem?_setIfInBounds_ne (hne 5 (by omega)), Array.getElem?_setIfInBounds_ne (hne 4 (by omega)), Array.getElem?_setIfInBounds_ne (hne 3 (by omega)), Array.getElem?_setIfInBounds_ne (hne 2 (by omega)), Array.getElem?_setIfInBounds_ne (hne 1 (by omega)), Array.getElem?_setIfInBounds_ne n0]
      exact hu
    exact ⟨k1, b', l', c', ⟨far _ _ c0 (fun r hr => by omega), far _ _ c1 (fun r hr => by omega), far _ _ c2 (fun r hr => by omega), far _ _ c3 (fun r hr => by omega), far _ _ c4 (fun r hr => by omega), far _ _ c5 (fun r hr => by omega)⟩, k3.grown hg (fun n hn e => hn.2 (Option.some.inj e))⟩
end
end Go.Proofs.YtilddlgcfbefiaaDoor

/-
  What slices.Clone returns at slices of tables, of entries and of words, as contracts over the translated program.
-/
namespace Go.Proofs.YtilddlgcfbefiaaDoor
set_option linter.unusedSimpArgs false
set_option linter.unusedVariables false
open Go Go.RowKit
/- the cells xs lie behind the slice's address -/
def CellsAt (W : World) (a : Option Addr) (n size : Nat) (xs : List Value) : Prop := xs.length = n * size ∧ (∀ u ∈ xs, u.oneCell' = true) ∧ (n = 0 ∨ ∃ y, a = some y ∧ ∀ j u, xs[j]? = some u → W.cell? (y.add j) = some u)
theorem CellsAt.below {W W' : World} {a : Option Addr} {n size : Nat} {xs : List Value} (h : CellsAt W a n size xs) (hb : Below W.heap.size W W') : CellsAt W' a n size xs :=
  ⟨h.1, h.2.1, h.2.2.imp id (fun ⟨y, e, h3⟩ => ⟨y, e, fun j u hu => (hb.cell (lt_of_cell (h3 j u hu))).trans (h3 j u hu)⟩)⟩
set_option maxRecDepth 100000 in
set_option maxHeartbeats 8000000 in
theorem sclT_any (a : Option Addr) (n c : Nat) (xs : List Value) (w : World) (hn : n ≤ 1000) (h : CellsAt w a n 6 xs) :
    Calls Tryd.prog 43 #[.slice a n c] w fun e w' => ∃ v', e = .returned v' ∧ w'.ownsRow w.heap.size 42 6 v' n xs ∧ Below w.heap.size w w' := by
  obtain ⟨iX, hiX, hz0, hz1, hz2⟩ := info_parts infoT
  have hq : ∀ (w : World) (a : Option Addr) (n c n' c' : Nat), (binOp .eql 27 (.slice a n c) (.slice none n' c')).run Tryd.prog w = .ok (.bool a.isNone) w := fun w a n c n' c' => Lib.run_eql_slice_nil w _ _ a n c n' c' Tryd.underlying27
  obtain ⟨h1, h2, h3⟩ := h
  have hu : ∀ w, Sem.run Tryd.prog (underlying 27) w = .ok (TypeDesc.slice 42) w := run_underlying Tryd.underlying27
  cases a with
  | none =>
    have h0 : n = 0 := by
      rcases h3 with h3 | ⟨y, e, _⟩
      · exact h3
      · cases e
    subst h0
    have hx : xs = [] := List.length_eq_zero_iff.1 (by omega)
    subst hx
    go_enter Tryd.func43, Tryd.ntmps43
    go_wp2
    go_ret
    exact ⟨_, rfl, World.ownsRow_nil _ _ _ _, Below.refl _ _⟩
  | some y =>
    have h4 : Hid (∀ j u, xs[j]? = some u → w.cell? (y.add j) = some u) := Lib.hid (by
      rcases h3 with h3 | ⟨y', e, h5⟩
      · subst h3
        have hx : xs = [] := List.length_eq_zero_iff.1 (by omega)
        subst hx
        intro j u hu
        simp at hu
      · cases e
        exact h5)
    have H1 := Lib.hid h1
    have H2 := Lib.hid h2
    clear h1 h2 h3
    go_enter Tryd.func43, Tryd.ntmps43
    go_wp2_with (at_builtin; refine wpList_append_own _ rfl _ _ 27 rfl w.heap.size 42 iX _ 6 64 Tryd.underlying27 hiX hz0 hz1 hz2 rfl (by omega) _ _ _ rfl (World.ownsRow_made w #[] 0 (Nat.le_refl _) (Nat.zero_le _) rfl) y n c xs rfl ?qc1 ?qc2 ?qc3 ?qc4 ?qc5 ?qc6 ?_)
    case qc1 => exact H1.out
    case qc2 =>
      intro j u hj
      have hb : Below w.heap.size w (w.alloc (.cells #[] 42)) := (Below.refl _ _).alloc (Nat.le_refl _) _
      exact (hb.cell (lt_of_cell (h4.out j u hj))).trans (h4.out j u hj)
    case qc3 => exact H2.out
    case qc4 => unfold maxLen; omega
    case qc5 => omega
    case qc6 => simp
    intro v' w1 hown hgrow hnil
    clear hnil
    have HO := Lib.hid hown
    have HG := Lib.hid hgrow
    clear hown hgrow
    go_wp2
    go_ret
    refine ⟨v', rfl, by simpa using HO.out, ?_⟩
    exact ((Below.refl _ w).alloc (Nat.le_refl _) _).grown HG.out (by simp) (by intro k hk; simp [Value.ownBlock] at hk; omega)
set_option maxRecDepth 100000 in
set_option maxHeartbeats 8000000 in
theorem sclE_any (a : Option Addr) (n c : Nat) (xs : List Value) (w : World) (hn : n ≤ 1000) (h : CellsAt w a n 2 xs) :
    Calls Tryd.prog 44 #[.slice a n c] w fun e w' => ∃ v', e = .returned v' ∧ w'.ownsRow w.heap.size 66 2 v' n xs ∧ Below w.heap.size w w' := by
  obtain ⟨iX, hiX, hz0, hz1, hz2⟩ := info_parts infoE
  have hq : ∀ (w : World) (a : Option Addr) (n c n' c' : Nat), (binOp .eql 40 (.slice a n c) (.slice none n' c')).run Tryd.prog w = .ok (.bool a.isNone) w := fun w a n c n' c' => Lib.run_eql_slice_nil w _ _ a n c n' c' Tryd.underlying40
  obtain ⟨h1, h2, h3⟩ := h
  have hu : ∀ w, Sem.run Tryd.prog (underlying 40) w = .ok (TypeDesc.slice 66) w := run_underlying Tryd.underlying40
  cases a with
  | none =>
    have h0 : n = 0 := by
      rcases h3 with h3 | ⟨y, e, _⟩
      · exact h3
      · cases e
    subst h0
    have hx : xs = [] := List.length_eq_zero_iff.1 (by omega)
    subst hx
    go_enter Tryd.func44, Tryd.ntmps44
    go_wp2
    go_ret
    exact ⟨_, rfl, World.ownsRow_nil _ _ _ _, Below.refl _ _⟩
  | some y =>
    have h4 : Hid (∀ j u, xs[j]? = some u → w.cell? (y.add j) = some u) := Lib.hid (by
      rcases h3 with h3 | ⟨y', e, h5⟩
      · subst h3
        have hx : xs = [] := List.length_eq_zero_iff.1 (by omega)
        subst hx
        intro j u hu
        simp at hu
      · cases e
        exact h5)
    have H1 := Lib.hid h1
    have H2 := Lib.hid h2
    clear h1 h2 h3
    go_enter Tryd.func44, Tryd.ntmps44
    go_wp2_with (at_builtin; refine wpList_append_own _ rfl _ _ 40 rfl w.heap.size 66 iX _ 2 32 Tryd.underlying40 hiX hz0 hz1 hz2 rfl (by omega) _ _ _ rfl (World.ownsRow_made w #[] 0 (Nat.le_refl _) (Nat.zero_le _) rfl) y n c xs rfl ?qc1 ?qc2 ?qc3 ?qc4 ?qc5 ?qc6 ?_)
    case qc1 => exact H1.out
    case qc2 =>
      intro j u hj
      have hb : Below w.heap.size w (w.alloc (.cells #[] 66)) := (Below.refl _ _).alloc (Nat.le_refl _) _
      exact (hb.cell (lt_of_cell (h4.out j u hj))).trans (h4.out j u hj)
    case qc3 => exact H2.out
    case qc4 => unfold maxLen; omega
    case qc5 => omega
    case qc6 => simp
    intro v' w1 hown hgrow hnil
    clear hnil
    have HO := Lib.hid hown
    have HG := Lib.hid hgrow
    clear hown hgrow
    go_wp2
    go_ret
    refine ⟨v', rfl, by simpa using HO.out, ?_⟩
    exact ((Below.refl _ w).alloc (Nat.le_refl _) _).grown HG.out (by simp) (by intro k hk; simp [Value.ownBlock] at hk; omega)
set_option maxRecDepth 100000 in
set_option maxHeartbeats 8000000 in
theorem sclW_any (a : Option Addr) (n c : Nat) (xs : List Value) (w : World) (hn : n ≤ 1000) (h : CellsAt w a n 1 xs) :
    Calls Tryd.prog 45 #[.slice a n c] w fun e w' => ∃ v', e = .returned v' ∧ w'.ownsRow w.heap.size 25 1 v' n xs ∧ Below w.heap.size w w' := by
  obtain ⟨iX, hiX, hz0, hz1, hz2⟩ := info_parts infoW
  have hq : ∀ (w : World) (a : Option Addr) (n c n' c' : Nat), (binOp .eql 52 (.slice a n c) (.slice none n' c')).run Tryd.prog w = .ok (.bool a.isNone) w := fun w a n c n' c' => Lib.run_eql_slice_nil w _ _ a n c n' c' Tryd.underlying52
  obtain ⟨h1, h2, h3⟩ := h
  have hu : ∀ w, Sem.run Tryd.prog (underlying 52) w = .ok (TypeDesc.slice 25) w := run_underlying Tryd.underlying52
  cases a with
  | none =>
    have h0 : n = 0 := by
      rcases h3 with h3 | ⟨y, e, _⟩
      · exact h3
      · cases e
    subst h0
    have hx : xs = [] := List.length_eq_zero_iff.1 (by omega)
    subst hx
    go_enter Tryd.func45, Tryd.ntmps45
    go_wp2
    go_ret
    exact ⟨_, rfl, World.ownsRow_nil _ _ _ _, Below.refl _ _⟩
  | some y =>
    have h4 : Hid (∀ j u, xs[j]? = some u → w.cell? (y.add j) = some u) := Lib.hid (by
      rcases h3 with h3 | ⟨y', e, h5⟩
      · subst h3
        have hx : xs = [] := List.length_eq_zero_iff.1 (by omega)
        subst hx
        intro j u hu
        simp at hu
      · cases e
        exact h5)
    have H1 := Lib.hid h1
    have H2 := Lib.hid h2
    clear h1 h2 h3
    go_enter Tryd.func45, Tryd.ntmps45
    go_wp2_with (at_builtin; refine wpList_append_own _ rfl _ _ 52 rfl w.heap.size 25 iX _ 1 4 Tryd.underlying52 hiX hz0 hz1 hz2 rfl (by omega) _ _ _ rfl (World.ownsRow_made w #[] 0 (Nat.le_refl _) (Nat.zero_le _) rfl) y n c xs rfl ?qc1 ?qc2 ?qc3 ?qc4 ?qc5 ?qc6 ?_)
    case qc1 => exact H1.out
    case qc2 =>
      intro j u hj
      have hb : Below w.heap.size w (w.alloc (.cells #[] 25)) := (Below.refl _ _).alloc (Nat.le_refl _) _
      exact (hb.cell (lt_of_cell (h4.out j u hj))).trans (h4.out j u hj)
    case qc3 => exact H2.out
    case qc4 => unfold maxLen; omega
    case qc5 => omega
    case qc6 => simp
    intro v' w1 hown hgrow hnil
    clear hnil
    have HO := Lib.hid hown
    have HG := Lib.hid hgrow
    clear hown hgrow
    go_wp2
    go_ret
    refine ⟨v', rfl, by simpa using HO.out, ?_⟩
    exact ((Below.refl _ w).alloc (Nat.le_refl _) _).grown HG.out (by simp) (by intro k hk; simp [Value.ownBlock] at hk; omega)
end Go.Proofs.YtilddlgcfbefiaaDoor

/-
  Tables in memory of an execution's own: in blocks from base on, of the types of tables, entries and words.
-/
namespace Go.Proofs.YtilddlgcfbefiaaDoor
set_option linter.unusedSimpArgs false
set_option linter.unusedVariables false
open Go Go.RowKit
/- block n holds cells of the type -/
def Ty1 (W : World) (t : TypeId) (n : Nat) : Prop := ∃ cs fr, W.heap[n]? = some (.cells cs t fr)
def TyE (W : World) (n : Nat) : Prop := Ty1 W 66 n ∨ Ty1 W 25 n
def TyT (W : World) (n : Nat) : Prop := Ty1 W 42 n ∨ TyE W n
section
variable {W W' : World} {t t' : TypeId} {n base : Nat} {row : Option Nat} {cs : Array Value}
theorem Ty1.grown (h : Ty1 W t n) (hg : W.grownBy W' row) (hr : some n ≠ row) : Ty1 W' t n := by
  obtain ⟨cs, fr, h1⟩ := h
  refine ⟨cs, fr, (hg.block n ?_ hr).trans h1⟩
  exact (Array.getElem?_eq_some_iff.1 h1).1
theorem TyE.grown (h : TyE W n) (hg : W.grownBy W' row) (hr : some n ≠ row) : TyE W' n := h.imp (fun h => h.grown hg hr) (fun h => h.grown hg hr)
theorem TyT.grown (h : TyT W n) (hg : W.grownBy W' row) (hr : some n ≠ row) : TyT W' n := h.imp (fun h => h.grown hg hr) (fun h => h.grown hg hr)
theorem Ty1.ne {U : Nat} (h : Ty1 W t n) (hB : Box W U t' cs) (ht : t' ≠ t) : n ≠ U := fun e => by
  subst e
  obtain ⟨cs', fr, h1⟩ := h
  have h2 : some (Obj.cells cs' t fr) = some (Obj.cells cs t' (0, 0)) := h1.symm.trans hB
  simp only [Option.some.injEq, Obj.cells.injEq] at h2
  exact ht h2.2.1.symm
theorem TyE.ne {U : Nat} (h : TyE W n) (hB : Box W U t' cs) (h2 : t' ≠ 66) (h3 : t' ≠ 25) : n ≠ U := h.elim (fun h => h.ne hB h2) (fun h => h.ne hB h3)
theorem TyT.ne {U : Nat} (h : TyT W n) (hB : Box W U t' cs) (h1 : t' ≠ 42) (h2 : t' ≠ 66) (h3 : t' ≠ 25) : n ≠ U := h.elim (fun h => h.ne hB h1) (fun h => h.ne hB h2 h3)
theorem own_ty {size m c k : Nat} {y : Addr} {xs : List Value} (h : W.ownsRow base t size (.slice (some y) m c) k xs) : base ≤ y.block ∧ Ty1 W t y.block := by
  obtain ⟨_, ⟨e, _⟩ | ⟨g, cap, cur, e, hb, hh, _⟩⟩ := h
  · cases e
  · simp only [Value.slice.injEq, Option.some.injEq] at e
    obtain ⟨rfl, _⟩ := e
    exact ⟨hb, cur, _, hh⟩
/- words in a row of one's own -/
theorem own_words {v : Value} {zs : List Int} {k : Nat} (hok : wordL zs) (hk : zs.length = k) (h : W.ownsRow base 25 1 v k (wordsV zs)) : ∃ b c, v = .slice b k c ∧ WordsIn W (fun n => base ≤ n ∧ TyE W n) b k c zs := by
  obtain ⟨b, c, rfl, hW, hz⟩ := words_own hk hok h
  refine ⟨b, c, rfl, hW, ?_⟩
  cases b with
  | none =>
    rcases hW.2.2.2.2 with e | ⟨z, e, _⟩
    · exact .inl e
    · cases e
  | some z => exact .inr ⟨z, rfl, (own_ty h).1, .inr (own_ty h).2⟩
theorem Row.inT {v : Value} {es : List Ent} (h : Row W base v es) : ∃ b c, v = .slice b es.length c ∧ EntsIn W (fun n => base ≤ n ∧ TyE W n) b es.length c es := by
  obtain ⟨xs, h1, h2⟩ := h
  have hE : Ents W (fun n => base ≤ n ∧ TyE W n) xs es := ⟨h2.1, fun k hk => by
    obtain ⟨g1, cv, g2, g3, g4, g5⟩ := h2.2.1 k hk
    obtain ⟨b, c, rfl, hW⟩ := own_words g4.2 rfl g3
    exact ⟨g1, g4.1, b, _, c, g2, hW⟩⟩
  obtain ⟨b, cap, rfl, hA⟩ := ents_row rfl h1 hE
  refine ⟨b, cap, rfl, hA.1, hA.2.1, hA.2.2.1, ?_⟩
  by_cases hl : es.length = 0
  · exact .inl hl
  obtain ⟨y, rfl, hy⟩ := hA.2.2.2.resolve_left hl
  refine .inr ⟨y, rfl, ⟨(own_ty h1).1, .inl (own_ty h1).2⟩, fun k hk => ?_⟩
  obtain ⟨_, ⟨hv, hn⟩ | ⟨g, cap', cur, hv, hb, hh, hc, hm, hs, ht⟩⟩ := h1
  · cases hv
  · simp only [Value.slice.injEq, Option.some.injEq, true_and] at hv
    obtain ⟨rfl, rfl⟩ := hv
    have hcell : ∀ j, j < 2 → W.cell? ⟨g, k * 2 + j, none⟩ = xs[k * 2 + j]? := by
      intro j hj
      have h2 : (cur.toList.take (es.length * 2))[k * 2 + j]? = xs[k * 2 + j]? := by rw [ht]
      rw [List.getElem?_take, if_pos (by omega)] at h2
      simp only [World.cell?, hh]
      rw [← h2]
      simp
    have ea : (⟨g, 0, none⟩ : Addr).add (k * 2) = ⟨g, k * 2, none⟩ := addr_add g (k * 2)
    rw [ea]
    obtain ⟨h1, h2, b, l, c, h3, h4⟩ := hE.2 k (by omega)
    exact ⟨(hcell 0 (by omega)).trans h1, h2, b, l, c, (hcell 1 (by omega)).trans h3, h4⟩
end
/- an execution's tables -/
def TabsI (W : World) (base : Nat) (V : Value) (ts : List Tb) : Prop := TabsN W (fun n => base ≤ n ∧ TyT W n) V ts
section
variable {W W' : World} {base base' U : Nat} {V : Value} {ts : List Tb} {cs : Array Value} {row : Option Nat}
theorem TabsI.at (h : TabsI W base V ts) : ∃ b cc, V = .slice b ts.length cc ∧ TabsAt W b ts.length cc ts := TabsN.at h
theorem TabsI.low (h : TabsI W base V ts) (hb : base' ≤ base) : TabsI W base' V ts := TabsN.mono h (fun n hn => ⟨by omega, hn.2⟩)
theorem TabsI.grown (h : TabsI W base V ts) (hg : W.grownBy W' row) (hr : ∀ n, base ≤ n → TyT W n → some n ≠ row) : TabsI W' base V ts :=
  (TabsN.grown h hg (fun n hn => hr n hn.1 hn.2)).mono (fun n hn => ⟨hn.1, hn.2.grown hg (hr n hn.1 hn.2)⟩)
theorem TabsI.below (h : TabsI W base V ts) (hb : Below W.heap.size W W') : TabsI W' base V ts := h.grown (grownBy_of_below hb none) (fun _ _ _ => by simp)
theorem TabsI.far {ty : TypeId} (h : TabsI W base V ts) (hB : Box W U ty cs) (h1 : ty ≠ 42) (h2 : ty ≠ 66) (h3 : ty ≠ 25) (hg : W.grownBy W' (some U)) : TabsI W' base V ts :=
  h.grown hg (fun n _ hn e => hn.ne hB h1 h2 h3 (Option.some.inj e))
theorem TabsR.toI (h : TabsR W base V ts) : TabsI W base V ts := by
  rcases h with ⟨rfl, rfl⟩ | ⟨g, rfl, ⟨h1, cs, h2, h3, h4⟩, h5⟩
  · exact .inl ⟨rfl, rfl⟩
  · refine .inr ⟨g, _, cs, rfl, ⟨h1, .inl ⟨cs, _, h2⟩⟩, h2, Nat.le_refl _, by unfold maxLen; omega, by omega, fun k hk => ?_⟩
    obtain ⟨k1, V, k2, k3⟩ := h4 k hk
    obtain ⟨b, c, rfl, hE⟩ := k3.inT
    exact ⟨k1, b, _, c, k2, hE.mono (fun n hn => ⟨⟨hn.1, .inr hn.2⟩, fun e => hn.2.ne h2 (by decide) (by decide) e⟩)⟩
end
end Go.Proofs.YtilddlgcfbefiaaDoor

/-
  Ahead of the interpreter's clone: a row of tables, and one of entries, of which some have been cloned.
-/
namespace Go.Proofs.YtilddlgcfbefiaaDoor
set_option linter.unusedSimpArgs false
set_option linter.unusedVariables false
open Go Go.RowKit
theorem add_more (y : Addr) (k r : Nat) (hr : 0 < r) : y.add (k + r) = ⟨(y.add k).block, (y.add k).off + r, none⟩ := by
  rw [add_add_cell y (k + r) (by omega)]
  by_cases h : k = 0
  · subst h
    have : y.add 0 = y := by unfold Addr.add; rw [if_pos rfl]
    rw [this, Nat.zero_add]
  · rw [add_add_cell y k (by omega)]
    simp [Nat.add_assoc]
theorem cells_list (w : World) (y : Addr) (n : Nat) (h : ∀ j, j < n → ∃ u, w.cell? (y.add j) = some u ∧ u.oneCell' = true) :
    ∃ xs : List Value, xs.length = n ∧ (∀ u ∈ xs, u.oneCell' = true) ∧ (∀ j u, j < n → w.cell? (y.add j) = some u → xs[j]? = some u) ∧ ∀ j u, xs[j]? = some u → w.cell? (y.add j) = some u := by
  obtain ⟨xs, h1, h2⟩ := exists_list undef (fun j u => w.cell? (y.add j) = some u ∧ u.oneCell' = true) n h
  have hg : ∀ j, j < n → xs[j]? = some (xs.getD j undef) := fun j hj => by
    rw [List.getD_eq_getElem?_getD, List.getElem?_eq_getElem (by omega)]
    rfl
  refine ⟨xs, h1, fun u hu => ?_, fun j u hj hu => ?_, fun j u hu => ?_⟩
  · obtain ⟨j, hj, e⟩ := List.mem_iff_getElem.1 hu
    have := (h2 j (by omega)).2
    rw [List.getD_eq_getElem?_getD, List.getElem?_eq_getElem hj] at this
    rw [← e]
    exact this
  · rw [hg j hj, ← hu]
    exact (h2 j hj).1.symm
  · have hj : j < n := by
      have := (List.getElem?_eq_some_iff.1 hu).1
      omega
    rw [hg j hj] at hu
    rw [← Option.some.inj hu]
    exact (h2 j hj).1
theorem tabs_list {w : World} {y : Addr} {ts : List Tb} (h : ∀ k, k < ts.length → TabHere w (y.add (k * 6)) (ts.getD k zeroT)) : ∀ j, j < ts.length * 6 → ∃ u, w.cell? (y.add j) = some u ∧ u.oneCell' = true := by
  intro j hj
  obtain ⟨c0, c1, c2, c3, ⟨b, l, c, c4, hE⟩, c5, hx⟩ := h (j / 6) (by omega)
  have hjr : j = j / 6 * 6 + j % 6 := by omega
  have hr : j % 6 < 6 := Nat.mod_lt _ (by omega)
  rw [hjr]
  generalize j % 6 = r at hr ⊢
  match r, hr with
  | 0, _ => exact ⟨_, c0, rfl⟩
  | 1, _ => exact ⟨_, by rw [add_more _ _ _ (by omega)]; exact c1, rfl⟩
  | 2, _ => exact ⟨_, by rw [add_more _ _ _ (by omega)]; exact c2, rfl⟩
  | 3, _ => exact ⟨_, by rw [add_more _ _ _ (by omega)]; exact c3, rfl⟩
  | 4, _ => exact ⟨_, by rw [add_more _ _ _ (by omega)]; exact c4, rfl⟩
  | 5, _ => exact ⟨_, by rw [add_more _ _ _ (by omega)]; exact c5, rfl⟩
theorem ents_list {w : World} {y : Addr} {es : List Ent} (h : ∀ k, k < es.length → EntHere w (y.add (k * 2)) (es.getD k zeroE)) : ∀ j, j < es.length * 2 → ∃ u, w.cell? (y.add j) = some u ∧ u.oneCell' = true := by
  intro j hj
  obtain ⟨c0, _, b, l, c, c1, hE⟩ := h (j / 2) (by omega)
  have hjr : j = j / 2 * 2 + j % 2 := by omega
  have hr : j % 2 < 2 := Nat.mod_lt _ (by omega)
  rw [hjr]
  generalize j % 2 = r at hr ⊢
  match r, hr with
  | 0, _ => exact ⟨_, c0, rfl⟩
  | 1, _ => exact ⟨_, by rw [add_more _ _ _ (by omega)]; exact c1, rfl⟩
theorem words_list {w : World} {y : Addr} {zs : List Int} (h : ∀ k, k < zs.length → w.cell? (y.add k) = some (.int .u32 (zs.getD k 0))) : ∀ j u, (wordsV zs)[j]? = some u → w.cell? (y.add j) = some u := by
  intro j u hu
  have hj : j < zs.length := by
    have := (List.getElem?_eq_some_iff.1 hu).1
    simpa [wordsV] using this
  have hw : (wordsV zs)[j]? = some (.int .u32 (zs.getD j 0)) := by simp [wordsV, List.getD_eq_getElem?_getD, hj]
  rw [hw] at hu
  rw [← Option.some.inj hu]
  exact h j hj
/- a row of tables, of which the first k have entries in memory of their own, the others as in w -/
def MixT (w : World) (base : Nat) (W : World) (V : Value) (ts : List Tb) (k : Nat) : Prop :=
  (V = .slice none 0 0 ∧ ts = []) ∨ ∃ g cap cs, V = .slice (some ⟨g, 0, none⟩) ts.length cap ∧ base ≤ g ∧ Box W g 42 cs ∧ ts.length ≤ cap ∧ cap ≤ maxLen ∧ ts.length * 6 ≤ cs.size ∧
    ∀ j, j < ts.length → isW (ts.getD j zeroT).2.2 ∧ ∃ b l c, tbCells cs j (ts.getD j zeroT) (.slice b l c) ∧ ((j < k → EntsIn W (fun n => base ≤ n ∧ TyE W n) b l c (ts.getD j zeroT).2.1) ∧ (k ≤ j → EntsAt w b l c (ts.getD j zeroT).2.1))
def MixE (w : World) (base : Nat) (W : World) (V : Value) (es : List Ent) (k : Nat) : Prop :=
  (V = .slice none 0 0 ∧ es = []) ∨ ∃ g cap cs, V = .slice (some ⟨g, 0, none⟩) es.length cap ∧ base ≤ g ∧ Box W g 66 cs ∧ es.length ≤ cap ∧ cap ≤ maxLen ∧ es.length * 2 ≤ cs.size ∧
    ∀ j, j < es.length → cs[j * 2]? = some (.int .u32 (es.getD j zeroE).1) ∧ isW (es.getD j zeroE).1 ∧ ∃ b l c, cs[j * 2 + 1]? = some (.slice b l c) ∧ ((j < k → WordsIn W (fun n => base ≤ n ∧ Ty1 W 25 n) b l c (es.getD j zeroE).2) ∧ (k ≤ j → WordsAt w b l c (es.getD j zeroE).2))
section
variable {w W W' : World} {base : Nat} {V : Value} {ts : List Tb} {es : List Ent} {k U : Nat} {cs : Array Value} {ty : TypeId}
theorem TyE.below {n : Nat} (h : TyE W n) (hb : Below W.heap.size W W') : TyE W' n := h.grown (grownBy_of_below hb none) (by simp)
theorem MixT.below (h : MixT w base W V ts k) (hb : Below W.heap.size W W') : MixT w base W' V ts k := by
  refine h.imp id (fun ⟨g, cap, cs, e, hg, hB, h1, h2, h3, h4⟩ => ⟨g, cap, cs, e, hg, hB.later hb, h1, h2, h3, fun j hj => ?_⟩)
  obtain ⟨hx, b, l, c, hc, hE, hA⟩ := h4 j hj
  exact ⟨hx, b, l, c, hc, fun hk => ((hE hk).below hb).mono (fun n hn => ⟨hn.1, hn.2.below hb⟩), hA⟩
theorem MixT.far (h : MixT w base W V ts k) (hB : Box W U ty cs) (h1 : ty ≠ 42) (h2 : ty ≠ 66) (h3 : ty ≠ 25) (hg : W.grownBy W' (some U)) : MixT w base W' V ts k := by
  refine h.imp id (fun ⟨g, cap, cs, e, hga, hBx, g1, g2, g3, g4⟩ => ⟨g, cap, cs, e, hga, hBx.grown hg (fun e => Ty1.ne ⟨_, _, hBx⟩ hB h1 (Option.some.inj e)), g1, g2, g3, fun j hj => ?_⟩)
  obtain ⟨hx, b, l, c, hc, hE, hA⟩ := g4 j hj
  exact ⟨hx, b, l, c, hc, fun hk => ((hE hk).grown hg (fun n hn e => hn.2.ne hB h2 h3 (Option.some.inj e))).mono (fun n hn => ⟨hn.1, hn.2.grown hg (fun e => hn.2.ne hB h2 h3 (Option.some.inj e))⟩), hA⟩
theorem MixT.form (h : MixT w base W V ts k) : ∃ b cap, V = .slice b ts.length cap := by
  rcases h with ⟨rfl, rfl⟩ | ⟨g, cap, cs, rfl, _⟩
  · exact ⟨_, _, rfl⟩
  · exact ⟨_, _, rfl⟩
theorem MixE.form (h : MixE w base W V es k) : ∃ b cap, V = .slice b es.length cap := by
  rcases h with ⟨rfl, rfl⟩ | ⟨g, cap, cs, rfl, _⟩
  · exact ⟨_, _, rfl⟩
  · exact ⟨_, _, rfl⟩
theorem MixT.start {a : Option Addr} {cap : Nat} {xs : List Value} (h : TabsAt w a ts.length cap ts) (hx : ∀ k, k < ts.length → ∀ r, r < 6 → ∀ y, a = some y → ∀ u, w.cell? (y.add (k * 6 + r)) = some u → xs[k * 6 + r]? = some u) (hown : W.ownsRow base 42 6 V ts.length xs) : MixT w base W V ts 0 := by
  obtain ⟨h1, ⟨rfl, hn⟩ | ⟨g, cap', cur, rfl, hb, hh, hc, hm, hs, ht⟩⟩ := hown
  · exact .inl ⟨rfl, List.length_eq_zero_iff.1 hn⟩
  · refine .inr ⟨g, cap', cur, rfl, hb, hh, hc, hm, by rw [hs]; exact Nat.mul_le_mul_right 6 hc, fun j hj => ?_⟩
    obtain ⟨y, rfl, hy⟩ := h.2.2.2.resolve_left (by omega)
    obtain ⟨c0, c1, c2, c3, ⟨b, l, c, c4, hE⟩, c5, hxw⟩ := hy j hj
    have hcur : ∀ r u, r < 6 → w.cell? (y.add (j * 6 + r)) = some u → cur[j * 6 + r]? = some u := fun r u hr hu => by
      have h2 := hx j hj r hr y rfl u hu
      rw [← ht, List.getElem?_take, if_pos (by omega), Array.getElem?_toList] at h2
      exact h2
    refine ⟨hxw, b, l, c, ⟨hcur 0 _ (by omega) c0, hcur 1 _ (by omega) ?_, hcur 2 _ (by omega) ?_, hcur 3 _ (by omega) ?_, hcur 4 _ (by omega) ?_, hcur 5 _ (by omega) ?_⟩, fun hk => absurd hk (by omega), fun _ => hE⟩
    · rw [add_more _ _ _ (by omega)]; exact c1
    · rw [add_more _ _ _ (by omega)]; exact c2
    · rw [add_more _ _ _ (by omega)]; exact c3
    · rw [add_more _ _ _ (by omega)]; exact c4
    · rw [add_more _ _ _ (by omega)]; exact c5
theorem MixE.start {a : Option Addr} {cap : Nat} {xs : List Value} (h : EntsAt w a es.length cap es) (hx : ∀ k, k < es.length → ∀ r, r < 2 → ∀ y, a = some y → ∀ u, w.cell? (y.add (k * 2 + r)) = some u → xs[k * 2 + r]? = some u) (hown : W.ownsRow base 66 2 V es.length xs) : MixE w base W V es 0 := by
  obtain ⟨h1, ⟨rfl, hn⟩ | ⟨g, cap', cur, rfl, hb, hh, hc, hm, hs, ht⟩⟩ := hown
  · exact .inl ⟨rfl, List.length_eq_zero_iff.1 hn⟩
  · refine .inr ⟨g, cap', cur, rfl, hb, hh, hc, hm, by rw [hs]; exact Nat.mul_le_mul_right 2 hc, fun j hj => ?_⟩
    obtain ⟨y, rfl, hy⟩ := h.2.2.2.resolve_left (by omega)
    obtain ⟨c0, hw, b, l, c, c1, hE⟩ := hy j hj
    have hcur : ∀ r u, r < 2 → w.cell? (y.add (j * 2 + r)) = some u → cur[j * 2 + r]? = some u := fun r u hr hu => by
      have h2 := hx j hj r hr y rfl u hu
      rw [← ht, List.getElem?_take, if_pos (by omega), Array.getElem?_toList] at h2
      exact h2
    refine ⟨hcur 0 _ (by omega) c0, hw, b, l, c, hcur 1 _ (by omega) ?_, fun hk => absurd hk (by omega), fun _ => hE⟩
    rw [add_more _ _ _ (by omega)]; exact c1
theorem MixE.below (h : MixE w base W V es k) (hb : Below W.heap.size W W') : MixE w base W' V es k := by
  refine h.imp id (fun ⟨g, cap, cs, e, hg, hB, h1, h2, h3, h4⟩ => ⟨g, cap, cs, e, hg, hB.later hb, h1, h2, h3, fun j hj => ?_⟩)
  obtain ⟨h0, hx, b, l, c, hc, hE, hA⟩ := h4 j hj
  exact ⟨h0, hx, b, l, c, hc, fun hk => ((hE hk).grown (grownBy_of_below hb none) (by simp)).mono (fun n hn => ⟨hn.1, hn.2.grown (grownBy_of_below hb none) (by simp)⟩), hA⟩
/- the words of the entry k, cloned, put in their place -/
theorem MixE.put {g cap : Nat} (h : MixE w base W (.slice (some ⟨g, 0, none⟩) es.length cap) es k) (hk : k < es.length) {b : Option Addr} {l c : Nat} (hW : WordsIn W (fun n => base ≤ n ∧ Ty1 W 25 n) b l c (es.getD k zeroE).2) :
    MixE w base (W.setCell ⟨g, k * 2 + 1, none⟩ (.slice b l c)) (.slice (some ⟨g, 0, none⟩) es.length cap) es (k + 1) := by
  rcases h with ⟨e, _⟩ | ⟨g', cap', cs, e, hg, hB, h1, h2, h3, h4⟩
  · cases e
  simp only [Value.slice.injEq, Option.some.injEq, Addr.mk.injEq, and_true, true_and] at e
  obtain ⟨rfl, rfl⟩ := e
  have hgr := grownBy_setCell W ⟨g, k * 2 + 1, none⟩ (.slice b l c)
  have hne : ∀ n, Ty1 W 25 n → some n ≠ some g := fun n hn e => hn.ne hB (by decide) (Option.some.inj e)
  have keep : ∀ {b l c ws}, WordsIn W (fun n => base ≤ n ∧ Ty1 W 25 n) b l c ws → WordsIn (W.setCell ⟨g, k * 2 + 1, none⟩ (.slice b l c)) (fun n => base ≤ n ∧ Ty1 (W.setCell ⟨g, k * 2 + 1, none⟩ (.slice b l c)) 25 n) b l c ws := fun hw =>
    (hw.grown (grownBy_setCell W ⟨g, k * 2 + 1, none⟩ _) (fun n hn => hne n hn.2)).mono (fun n hn => ⟨hn.1, hn.2.grown (grownBy_setCell W ⟨g, k * 2 + 1, none⟩ _) (hne n hn.2)⟩)
  refine .inr ⟨g, cap, _, rfl, hg, hB.set (k * 2 + 1) _, h1, h2, by simpa using h3, fun j hj => ?_⟩
  obtain ⟨c0, hw, b', l', c', c1, e1, e2⟩ := h4 j hj
  by_cases hjk : j = k
  · subst hjk
    refine ⟨by rw [Array.getElem?_setIfInBounds_ne (by omega)]; exact c0, hw, b, l, c, by rw [Array.getElem?_setIfInBounds_self_of_lt (by omega)], fun _ => ?_, fun hh => absurd hh (by omega)⟩
    exact (hW.grown hgr (fun n hn => hne n hn.2)).mono (fun n hn => ⟨hn.1, hn.2.grown hgr (hne n hn.2)⟩)
  · refine ⟨by rw [Array.getElem?_setIfInBounds_ne (by omega)]; exact c0, hw, b', l', c', by rw [Array.getElem?_setIfInBounds_ne (by omega)]; exact c1, fun hh => ?_, fun hh => e2 (by omega)⟩
    exact ((e1 (by omega)).grown hgr (fun n hn => hne n hn.2)).mono (fun n hn => ⟨hn.1, hn.2.grown hgr (hne n hn.2)⟩)
theorem MixE.ents {b : Option Addr} {l c : Nat} (h : MixE w base W (.slice b l c) es k) (hk : es.length ≤ k) : EntsIn W (fun n => base ≤ n ∧ TyE W n) b l c es := by
  rcases h with ⟨e, rfl⟩ | ⟨g, cap, cs, e, hg, hB, h1, h2, h3, h4⟩
  · cases e
    exact ⟨rfl, Nat.le_refl _, Nat.zero_le _, .inl rfl⟩
  · simp only [Value.slice.injEq] at e
    obtain ⟨rfl, rfl, rfl⟩ := e
    refine ⟨rfl, h1, h2, .inr ⟨_, rfl, ⟨hg, .inl ⟨_, _, hB⟩⟩, fun j hj => ?_⟩⟩
    obtain ⟨c0, hw, b', l', c', c1, e1, _⟩ := h4 j hj
    rw [addr_add]
    exact ⟨hB.cell c0, hw, b', l', c', hB.cell c1, (e1 (by omega)).mono (fun n hn => ⟨hn.1, .inr hn.2⟩)⟩
/- the entries of the table k, cloned, put in their place -/
theorem MixT.put {g cap : Nat} (h : MixT w base W (.slice (some ⟨g, 0, none⟩) ts.length cap) ts k) (hk : k < ts.length) {b : Option Addr} {l c : Nat} (hE : EntsIn W (fun n => base ≤ n ∧ TyE W n) b l c (ts.getD k zeroT).2.1) :
    MixT w base (W.setCell ⟨g, k * 6 + 4, none⟩ (.slice b l c)) (.slice (some ⟨g, 0, none⟩) ts.length cap) ts (k + 1) := by
  rcases h with ⟨e, _⟩ | ⟨g', cap', cs, e, hg, hB, h1, h2, h3, h4⟩
  · cases e
  simp only [Value.slice.injEq, Option.some.injEq, Addr.mk.injEq, and_true, true_and] at e
  obtain ⟨rfl, rfl⟩ := e
  have hgr := grownBy_setCell W ⟨g, k * 6 + 4, none⟩ (.slice b l c)
  have hne : ∀ n, TyE W n → some n ≠ some g := fun n hn e => hn.ne hB (by decide) (by decide) (Option.some.inj e)
  refine .inr ⟨g, cap, _, rfl, hg, hB.set (k * 6 + 4) _, h1, h2, by simpa using h3, fun j hj => ?_⟩
  obtain ⟨hw, b', l', c', ⟨c0, c1, c2, c3, c4, c5⟩, e1, e2⟩ := h4 j hj
  have far : ∀ i u, i ≠ k * 6 + 4 → cs[i]? = some u → (cs.setIfInBounds (k * 6 + 4) (.slice b l c))[i]? = some u := fun i u hi hu => by
    rw [Array.getElem?_setIfInBounds_ne (Ne.symm hi)]; exact hu
  by_cases hjk : j = k
  · subst hjk
    refine ⟨hw, b, l, c, ⟨far _ _ (by omega) c0, far _ _ (by omega) c1, far _ _ (by omega) c2, far _ _ (by omega) c3, by rw [Array.getElem?_setIfInBounds_self_of_lt (by omega)], far _ _ (by omega) c5⟩, fun _ => ?_, fun hh => absurd hh (by omega)⟩
    exact (hE.grown hgr (fun n hn => hne n hn.2)).mono (fun n hn => ⟨hn.1, hn.2.grown hgr (hne n hn.2)⟩)
  · refine ⟨hw, b', l', c', ⟨far _ _ (by omega) c0, far _ _ (by omega) c1, far _ _ (by omega) c2, far _ _ (by omega) c3, far _ _ (by omega) c4, far _ _ (by omega) c5⟩, fun hh => ?_, fun hh => e2 (by omega)⟩
    exact ((e1 (by omega)).grown hgr (fun n hn => hne n hn.2)).mono (fun n hn => ⟨hn.1, hn.2.grown hgr (hne n hn.2)⟩)
theorem MixT.tabs (h : MixT w base W V ts k) (hk : ts.length ≤ k) : TabsI W base V ts := by
  rcases h with ⟨rfl, rfl⟩ | ⟨g, cap, cs, rfl, hg, hB, h1, h2, h3, h4⟩
  · exact .inl ⟨rfl, rfl⟩
  · refine .inr ⟨g, cap, cs, rfl, ⟨hg, .inl ⟨_, _, hB⟩⟩, hB, h1, h2, h3, fun j hj => ?_⟩
    obtain ⟨hw, b', l', c', hc, e1, _⟩ := h4 j hj
    exact ⟨hw, b', l', c', hc, (e1 (by omega)).mono (fun n hn => ⟨⟨hn.1, .inr hn.2⟩, fun e => hn.2.ne hB (by decide) (by decide) e⟩)⟩
end
end Go.Proofs.YtilddlgcfbefiaaDoor

/-
  What the interpreter's clone returns: the same environment, its tables in memory of their own.
-/
namespace Go.Proofs.YtilddlgcfbefiaaDoor
set_option linter.unusedSimpArgs false
set_option linter.unusedVariables false
open Go Go.RowKit
def IEnvPost (c : Cx) (sd : Int) (ts : List Tb) (w : World) (e : Ending) (w' : World) : Prop :=
  ∃ V, e = .returned (envV c V sd) ∧ Below w.heap.size w w' ∧ TabsI w' w.heap.size V ts
theorem clone_row {w wr : World} {a : Option Addr} {cap : Nat} {ts : List Tb} (h : TabsAt w a ts.length cap ts) (hb : Below w.heap.size w wr) : ∃ xs, CellsAt wr a ts.length 6 xs ∧ ∀ k, k < ts.length → ∀ r, r < 6 → ∀ y, a = some y → ∀ u, w.cell? (y.add (k * 6 + r)) = some u → xs[k * 6 + r]? = some u := by
  by_cases hl : ts.length = 0
  · exact ⟨[], ⟨by rw [hl]; rfl, fun u hu => by simp at hu, .inl hl⟩, fun k hk => absurd hk (by omega)⟩
  · obtain ⟨y, rfl, hy⟩ := h.2.2.2.resolve_left hl
    obtain ⟨xs, h1, h2, h3, h4⟩ := cells_list w y (ts.length * 6) (tabs_list hy)
    refine ⟨xs, ⟨h1, h2, .inr ⟨y, rfl, fun j u hu => (hb.cell (lt_of_cell (h4 j u hu))).trans (h4 j u hu)⟩⟩, fun k hk r hr y' e u hu => ?_⟩
    cases e
    exact h3 _ u (by omega) hu
theorem clone_ents {w wr : World} {a : Option Addr} {cap : Nat} {es : List Ent} (h : EntsAt w a es.length cap es) (hb : Below w.heap.size w wr) : ∃ xs, CellsAt wr a es.length 2 xs ∧ ∀ k, k < es.length → ∀ r, r < 2 → ∀ y, a = some y → ∀ u, w.cell? (y.add (k * 2 + r)) = some u → xs[k * 2 + r]? = some u := by
  by_cases hl : es.length = 0
  · exact ⟨[], ⟨by rw [hl]; rfl, fun u hu => by simp at hu, .inl hl⟩, fun k hk => absurd hk (by omega)⟩
  · obtain ⟨y, rfl, hy⟩ := h.2.2.2.resolve_left hl
    obtain ⟨xs, h1, h2, h3, h4⟩ := cells_list w y (es.length * 2) (ents_list hy)
    refine ⟨xs, ⟨h1, h2, .inr ⟨y, rfl, fun j u hu => (hb.cell (lt_of_cell (h4 j u hu))).trans (h4 j u hu)⟩⟩, fun k hk r hr y' e u hu => ?_⟩
    cases e
    exact h3 _ u (by omega) hu
theorem clone_words {w wr : World} {a : Option Addr} {cap : Nat} {zs : List Int} (h : WordsAt w a zs.length cap zs) (hb : Below w.heap.size w wr) : CellsAt wr a zs.length 1 (wordsV zs) := by
  refine ⟨by simp [wordsV], fun u hu => ?_, h.2.2.2.2.imp id (fun ⟨y, e, hy⟩ => ⟨y, e, fun j u hu => ?_⟩)⟩
  · obtain ⟨z, _, rfl⟩ := List.mem_map.1 hu
    rfl
  · have := words_list hy j u hu
    exact (hb.cell (lt_of_cell this)).trans this
theorem own_words1 {W : World} {base k : Nat} {v : Value} {zs : List Int} (hok : wordL zs) (hk : zs.length = k) (h : W.ownsRow base 25 1 v k (wordsV zs)) : ∃ b c, v = .slice b k c ∧ WordsIn W (fun n => base ≤ n ∧ Ty1 W 25 n) b k c zs := by
  obtain ⟨b, c, rfl, hW, hz⟩ := words_own hk hok h
  refine ⟨b, c, rfl, hW, ?_⟩
  cases b with
  | none =>
    rcases hW.2.2.2.2 with e | ⟨z, e, _⟩
    · exact .inl e
    · cases e
  | some z => exact .inr ⟨z, rfl, (own_ty h).1, (own_ty h).2⟩
theorem MixT.row {w W : World} {base : Nat} {b : Option Addr} {l c k : Nat} {ts : List Tb} (h : MixT w base W (.slice b l c) ts k) (hk : 0 < ts.length) : ∃ g cs, b = some ⟨g, 0, none⟩ ∧ l = ts.length ∧ base ≤ g ∧ Box W g 42 cs ∧ ts.length ≤ c ∧
    ∀ j, j < ts.length → isW (ts.getD j zeroT).2.2 ∧ ∃ b l c, tbCells cs j (ts.getD j zeroT) (.slice b l c) ∧ ((j < k → EntsIn W (fun n => base ≤ n ∧ TyE W n) b l c (ts.getD j zeroT).2.1) ∧ (k ≤ j → EntsAt w b l c (ts.getD j zeroT).2.1)) := by
  rcases h with ⟨e, rfl⟩ | ⟨g, cap, cs, e, hg, hB, h1, h2, h3, h4⟩
  · simp at hk
  · simp only [Value.slice.injEq] at e
    obtain ⟨rfl, rfl, rfl⟩ := e
    exact ⟨g, cs, rfl, rfl, hg, hB, h1, h4⟩
theorem MixE.row {w W : World} {base : Nat} {b : Option Addr} {l c k : Nat} {es : List Ent} (h : MixE w base W (.slice b l c) es k) (hk : 0 < es.length) : ∃ g cs, b = some ⟨g, 0, none⟩ ∧ l = es.length ∧ base ≤ g ∧ Box W g 66 cs ∧ es.length ≤ c ∧
    ∀ j, j < es.length → cs[j * 2]? = some (.int .u32 (es.getD j zeroE).1) ∧ isW (es.getD j zeroE).1 ∧ ∃ b l c, cs[j * 2 + 1]? = some (.slice b l c) ∧ ((j < k → WordsIn W (fun n => base ≤ n ∧ Ty1 W 25 n) b l c (es.getD j zeroE).2) ∧ (k ≤ j → WordsAt w b l c (es.getD j zeroE).2)) := by
  rcases h with ⟨e, rfl⟩ | ⟨g, cap, cs, e, hg, hB, h1, h2, h3, h4⟩
  · simp at hk
  · simp only [Value.slice.injEq] at e
    obtain ⟨rfl, rfl, rfl⟩ := e
    exact ⟨g, cs, rfl, rfl, hg, hB, h1, h4⟩
set_option maxRecDepth 100000 in
set_option maxHeartbeats 20000000 in
theorem iclone_any (c : Cx) (a : Option Addr) (len cap : Nat) (sd : Int) (ts : List Tb) (w : World) (h : TabsAt w a len cap ts) (hf : fewL ts) :
    Calls Tryd.prog 28 #[envV c (.slice a len cap) sd] w (IEnvPost c sd ts w) := by
  rcases c with ⟨c0, c1, c2, c3⟩
  obtain rfl : ts.length = len := h.1
  have h40 : ts.length ≤ 40 := hf.1
  have HF := Lib.hid hf.2
  have HE := Lib.hid h
  obtain ⟨W0, hW0⟩ : ∃ W0, (w.alloc (.cells #[.int .u32 c0, .int .u32 c1, .int .u32 c2, .int .u32 c3, .slice a ts.length cap, .int .u32 sd] 29)).alloc (.cells #[.int .u32 0, .int .u32 0, .int .u32 0, .int .u32 0, .slice none 0 0, .int .u32 0] 29) = W0 := ⟨_, rfl⟩
  have hb0 : Below w.heap.size w W0 := by rw [← hW0]; exact box2 (Below.refl _ _) (Nat.le_refl _) _ _
  have HP : Hid (Box W0 w.heap.size 29 #[.int .u32 c0, .int .u32 c1, .int .u32 c2, .int .u32 c3, .slice a ts.length cap, .int .u32 sd]) := by rw [← hW0]; exact Lib.hid ((Box.new w 29 _).alloc _)
  have HR : Hid (Box W0 (w.heap.size + 1) 29 #[.int .u32 0, .int .u32 0, .int .u32 0, .int .u32 0, .slice none 0 0, .int .u32 0]) := by
    rw [← hW0]
    have := Box.new (w.alloc (.cells #[.int .u32 c0, .int .u32 c1, .int .u32 c2, .int .u32 c3, .slice a ts.length cap, .int .u32 sd] 29)) 29 #[.int .u32 0, .int .u32 0, .int .u32 0, .int .u32 0, .slice none 0 0, .int .u32 0]
    rw [show (w.alloc (.cells #[.int .u32 c0, .int .u32 c1, .int .u32 c2, .int .u32 c3, .slice a ts.length cap, .int .u32 sd] 29)).heap.size = w.heap.size + 1 by simp] at this
    exact Lib.hid this
  have d4 : W0.cell? ⟨w.heap.size, 4, none⟩ = some (.slice a ts.length cap) := HP.out.cell rfl
  obtain ⟨xs, hxs, hcs⟩ := clone_row h hb0
  have cC := sclT_any a ts.length cap xs W0 (by omega) hxs
  have HC := Lib.hid hcs
  have HB0 := Lib.hid hb0
  clear h hf hcs hxs hb0
  go_enter Tryd.func28, Tryd.ntmps28
  go_wp2_with fail
  refine cC.mono ?_
  rintro en w1 ⟨v', rfl, hown, hb1⟩
  have hmix : MixT w w.heap.size w1 v' ts 0 := MixT.start HE.out HC.out (own_base hown HB0.out.size)
  obtain ⟨bv, pv, rfl⟩ := hmix.form
  have HP1 := Lib.hid (HP.out.later hb1)
  have HR1 := Lib.hid (HR.out.later hb1)
  have HB1 := Lib.hid (HB0.out.trans (hb1.mono HB0.out.size))
  have d4 : w1.cell? ⟨w.heap.size, 4, none⟩ = some (.slice a ts.length cap) := HP1.out.cell rfl
  have d4f : w1.frozen? ⟨w.heap.size, 4, none⟩ = false := HP1.out.free 4
  have hg2 := grownBy_setCell w1 ⟨w.heap.size, 4, none⟩ (.slice bv ts.length pv)
  have HP2 : Hid (Box (w1.setCell ⟨w.heap.size, 4, none⟩ (.slice bv ts.length pv)) w.heap.size 29 #[.int .u32 c0, .int .u32 c1, .int .u32 c2, .int .u32 c3, .slice bv ts.length pv, .int .u32 sd]) := Lib.hid (by simpa using HP1.out.set 4 (.slice bv ts.length pv))
  have HR2 := Lib.hid (HR1.out.other (p := ⟨w.heap.size, 4, none⟩) (by show w.heap.size + 1 ≠ w.heap.size; omega) (.slice bv ts.length pv))
  have HM2 := Lib.hid (hmix.far HP1.out (by decide) (by decide) (by decide) hg2)
  have HB2 := Lib.hid (HB1.out.setCell (p := ⟨w.heap.size, 4, none⟩) (by show w.heap.size ≤ w.heap.size; omega) (.slice bv ts.length pv))
  clear hmix hown hb1 cC HB0 HP HR HP1 HR1 HB1 hg2 hW0 HC
  obtain ⟨W2, hW2⟩ : ∃ W2, w1.setCell ⟨w.heap.size, 4, none⟩ (.slice bv ts.length pv) = W2 := ⟨_, rfl⟩
  rw [hW2] at HP2 HR2 HM2 HB2
  have d5 : W2.cell? ⟨w.heap.size, 4, none⟩ = some (.slice bv ts.length pv) := HP2.out.cell rfl
  obtain ⟨R, hR⟩ : ∃ R, w.heap.size + 1 = R := ⟨_, rfl⟩
  rw [hR] at HR2
  go_wp2_with fail
  try simp only [hR]
  have hPR : w.heap.size < R := by omega
  clear hR d4 d4f d5
  try rw [hW2]
  try clear hW2
  go_loopw [15] (fun i wr => ∃ (k : Nat), k ≤ ts.length ∧ i = .int .i64 k ∧ Hid (MixT w w.heap.size wr (.slice bv ts.length pv) ts k) ∧ Hid (Box wr w.heap.size 29 #[.int .u32 c0, .int .u32 c1, .int .u32 c2, .int .u32 c3, .slice bv ts.length pv, .int .u32 sd]) ∧ Hid (Box wr R 29 #[.int .u32 0, .int .u32 0, .int .u32 0, .int .u32 0, .slice none 0 0, .int .u32 0]) ∧ Hid (Below w.heap.size w wr)) (fun i _ => ts.length - (intOf i).toNat)
  case atStart => exact ⟨0, by omega, rfl, HM2, HP2, HR2, HB2⟩
  case round =>
    obtain ⟨k, hk, rfl, HM, HP, HR, HB⟩ := hrel
    obtain ⟨wo, rfl⟩ : ∃ wo, wo = wr := ⟨_, rfl⟩
    clear HM2 HP2 HR2 HB2
    have hk0 : (0 : Int) ≤ (k : Int) := Int.natCast_nonneg _
    by_cases hkl : k < ts.length
    · have hkI : (k : Int) < (ts.length : Int) := by omega
      obtain ⟨g, cs, rfl, _, hgB, hBx, hcap, hcells⟩ := HM.out.row (by omega)
      have hfe := HF.out _ (getD_mem ts k zeroT hkl)
      obtain ⟨hxw, b, l, cc, ⟨g0, g1, g2, g3, g4, g5⟩, _, hEA⟩ := hcells k hkl
      rcases hi : ts.getD k zeroT with ⟨⟨s0, s1, s2, s3⟩, es, x⟩
      rw [hi] at g0 g1 g2 g3 g5 hEA hfe
      simp only at g0 g1 g2 g3 g4 g5 hEA hfe
      have hEs := hEA (Nat.le_refl _)
      obtain rfl : es.length = l := hEs.1
      replace g0 := hBx.cell g0
      replace g1 := hBx.cell g1
      replace g2 := hBx.cell g2
      replace g3 := hBx.cell g3
      replace g4 := hBx.cell g4
      replace g5 := hBx.cell g5
      have HIk := Lib.hid hi
      have HEs := Lib.hid hEs
      have HFe := Lib.hid hfe
      have hl40 : es.length ≤ 40 := hfe.1
      have HBx := Lib.hid hBx
      have HG := Lib.hid hgB
      have hBE : Below wo.heap.size wo (wo.alloc (.cells #[.int .i64 s0, .int .i64 s1, .int .i64 s2, .int .i64 s3, .slice b es.length cc, .int .u32 x] 42)) := (Below.refl _ _).alloc (Nat.le_refl _) _
      have HBE := Lib.hid hBE
      have HBw := Lib.hid (HB.out.trans (hBE.mono HB.out.size))
      obtain ⟨xs4, hxs4, hcs4⟩ := clone_ents hEs HBw.out
      have cE := sclE_any b es.length cc xs4 (wo.alloc (.cells #[.int .i64 s0, .int .i64 s1, .int .i64 s2, .int .i64 s3, .slice b es.length cc, .int .u32 x] 42)) (by omega) hxs4
      have HC4 := Lib.hid hcs4
      clear hi hEs hfe hBx hcells hxw hEA hBE hcs4 hxs4 hgB
      go_wp2_with fail
      refine cE.mono ?_
      rintro e4 w4 ⟨v4, rfl, hown4, hb4⟩
      obtain ⟨WE, hWE⟩ : ∃ WE, wo.alloc (.cells #[.int .i64 s0, .int .i64 s1, .int .i64 s2, .int .i64 s3, .slice b es.length cc, .int .u32 x] 42) = WE := ⟨_, rfl⟩
      rw [hWE] at HBE HBw hown4 hb4
      have hmix4 : MixE w WE.heap.size w4 v4 es 0 := MixE.start HEs.out HC4.out hown4
      obtain ⟨b4, p4, rfl⟩ := hmix4.form
      have HM4 := Lib.hid hmix4
      have HB4 := Lib.hid hb4
      clear cE hown4 hb4 hmix4 g0 g1 g2 g3 g4 g5 HC4 hWE
      go_wp2_with fail
      go_loopw [25] (fun i wr => ∃ (j : Nat), j ≤ es.length ∧ i = .int .i64 j ∧ Hid (MixE w WE.heap.size wr (.slice b4 es.length p4) es j) ∧ Hid (Below WE.heap.size WE wr)) (fun i _ => es.length - (intOf i).toNat)
      case atStart => exact ⟨0, by omega, rfl, HM4, HB4⟩
      case round =>
        obtain ⟨j, hj, rfl, HM5, HB5⟩ := hrel
        clear HM4 HB4
        have hj0 : (0 : Int) ≤ (j : Int) := Int.natCast_nonneg _
        by_cases hjl : j < es.length
        · have hjI : (j : Int) < (es.length : Int) := by omega
          obtain ⟨h, cs5, rfl, _, hhB, hBx5, hcap5, hcells5⟩ := HM5.out.row (by omega)
          have hl5 := HFe.out.2 _ (getD_mem es j zeroE hjl)
          obtain ⟨q0, hkw, b5, l5, p5, q1, _, hWA⟩ := hcells5 j hjl
          rcases hi5 : es.getD j zeroE with ⟨key, ws⟩
          rw [hi5] at q0 hWA hl5 hkw
          simp only at q0 q1 hWA hl5 hkw
          have hWs := hWA (Nat.le_refl _)
          obtain rfl : ws.length = l5 := hWs.1
          replace q0 := hBx5.cell q0
          replace q1 := hBx5.cell q1
          have HI5 := Lib.hid hi5
          have HBx5 := Lib.hid hBx5
          have HH := Lib.hid hhB
          have HOk := Lib.hid hWs.2.2.2.1
          have hB6 : Below wr.heap.size wr (wr.alloc (.cells #[.int .u32 key, .slice b5 ws.length p5] 66)) := (Below.refl _ _).alloc (Nat.le_refl _) _
          have HB6 := Lib.hid hB6
          have hBall : Below w.heap.size w (wr.alloc (.cells #[.int .u32 key, .slice b5 ws.length p5] 66)) := (HBw.out.trans (HB5.out.mono HBw.out.size)).trans (hB6.mono (Nat.le_trans HBw.out.size HB5.out.size))
          have cW := sclW_any b5 ws.length p5 (wordsV ws) (wr.alloc (.cells #[.int .u32 key, .slice b5 ws.length p5] 66)) (by omega) (clone_words hWs hBall)
          clear hi5 hWs hBx5 hcells5 hWA hB6 hBall hhB hkw
          go_wp2_with fail
          refine cW.mono ?_
          rintro e6 w6 ⟨v6, rfl, hown6, hb6⟩
          obtain ⟨W6, hW6⟩ : ∃ W6, wr.alloc (.cells #[.int .u32 key, .slice b5 ws.length p5] 66) = W6 := ⟨_, rfl⟩
          rw [hW6] at HB6 hown6 hb6
          obtain ⟨b6, p6, rfl, hWin⟩ := own_words1 HOk.out rfl hown6
          have hsz : WE.heap.size ≤ W6.heap.size := Nat.le_trans HB5.out.size HB6.out.size
          have hbb : Below wr.heap.size wr w6 := HB6.out.trans (hb6.mono HB6.out.size)
          have hM6 := HM5.out.below hbb
          have hBx6 := HBx5.out.later hbb
          have r1 : w6.cell? ⟨h, j * 2 + 1, none⟩ = some (.slice b5 ws.length p5) := (hbb.cell (lt_of_cell q1)).trans q1
          have r1f : w6.frozen? ⟨h, j * 2 + 1, none⟩ = false := hBx6.free _
          have HM7 := Lib.hid (hM6.put hjl (b := b6) (l := ws.length) (c := p6) (by rw [HI5.out]; exact hWin.mono (fun n hn => ⟨Nat.le_trans hsz hn.1, hn.2⟩)))
          have HB7 := Lib.hid ((HB5.out.trans (hbb.mono HB5.out.size)).setCell (p := ⟨h, j * 2 + 1, none⟩) HH.out (.slice b6 ws.length p6))
          clear cW hown6 hb6 hbb hM6 hBx6 q0 q1 hWin hsz hW6
          go_wp2_with fail
          exact ⟨⟨j + 1, by omega, by go_num, HM7, HB7⟩, by simp [intOf]; omega⟩
        · have hjI : ¬ (j : Int) < (es.length : Int) := by omega
          have HE5 : Hid (EntsIn wr (fun n => WE.heap.size ≤ n ∧ TyE wr n) b4 es.length p4 es) := Lib.hid (HM5.out.ents (by omega))
          have hbb : Below wo.heap.size wo wr := HBE.out.trans (HB5.out.mono HBE.out.size)
          have hMT := HM.out.below hbb
          have hBxg := HBx.out.later hbb
          have HPb := Lib.hid (HP.out.later hbb)
          have HRb := Lib.hid (HR.out.later hbb)
          have HBb := Lib.hid (HB.out.trans (hbb.mono HB.out.size))
          have hszE : w.heap.size ≤ WE.heap.size := HBw.out.size
          have d4 : wr.cell? ⟨w.heap.size, 4, none⟩ = some (.slice (some ⟨g, 0, none⟩) ts.length pv) := HPb.out.cell rfl
          obtain ⟨g', cs', eg, _, _, hBx', _, hcells'⟩ := hMT.row (by omega)
          simp only [Option.some.injEq, Addr.mk.injEq, and_true, true_and] at eg
          subst eg
          obtain ⟨_, b', l', cc', ⟨_, _, _, _, t4, _⟩, _, _⟩ := hcells' k hkl
          replace t4 := hBx'.cell t4
          have t4f : wr.frozen? ⟨g, k * 6 + 4, none⟩ = false := hBx'.free _
          have hEin : EntsIn wr (fun n => w.heap.size ≤ n ∧ TyE wr n) b4 es.length p4 (ts.getD k zeroT).2.1 := by
            rw [HIk.out]
            exact HE5.out.mono (fun n hn => ⟨Nat.le_trans hszE hn.1, hn.2⟩)
          have hgr := grownBy_setCell wr ⟨g, k * 6 + 4, none⟩ (.slice b4 es.length p4)
          have HM8 := Lib.hid (hMT.put hkl hEin)
          have hneP : w.heap.size ≠ g := fun e => Ty1.ne ⟨_, _, HPb.out⟩ hBx' (by decide) e
          have hneR : R ≠ g := fun e => Ty1.ne ⟨_, _, HRb.out⟩ hBx' (by decide) e
          have HP8 := Lib.hid (HPb.out.grown hgr (fun e => hneP (Option.some.inj e)))
          have HR8 := Lib.hid (HRb.out.grown hgr (fun e => hneR (Option.some.inj e)))
          have HB8 := Lib.hid (HBb.out.setCell (p := ⟨g, k * 6 + 4, none⟩) HG.out (.slice b4 es.length p4))
          clear hMT hBxg hbb hBx' hcells' hEin hgr hneP hneR hszE
          go_wp2_with fail
          exact ⟨⟨k + 1, by omega, by go_num, HM8, HP8, HR8, HB8⟩, by simp [intOf]; omega⟩
    · have hkI : ¬ (k : Int) < (ts.length : Int) := by omega
      have HT := Lib.hid (HM.out.tabs (by omega))
      have k0 : wo.cell? ⟨w.heap.size, 0, none⟩ = some (.int .u32 c0) := HP.out.cell rfl
      have k1 : wo.cell? ⟨w.heap.size, 1, none⟩ = some (.int .u32 c1) := HP.out.cell rfl
      have k2 : wo.cell? ⟨w.heap.size, 2, none⟩ = some (.int .u32 c2) := HP.out.cell rfl
      have k3 : wo.cell? ⟨w.heap.size, 3, none⟩ = some (.int .u32 c3) := HP.out.cell rfl
      have k4 : wo.cell? ⟨w.heap.size, 4, none⟩ = some (.slice bv ts.length pv) := HP.out.cell rfl
      have k5 : wo.cell? ⟨w.heap.size, 5, none⟩ = some (.int .u32 sd) := HP.out.cell rfl
      go_wp2_with (refine wpList_store_row rfl 29 _ _ rfl R _ rfl rfl 29 _ HR.out (by kernel_rfl) rfl (by simp [Value.oneCell']) ?_)
      refine bodyPost_ret (v := envV (c0, c1, c2, c3) (.slice bv ts.length pv) sd) ?_ rfl ?_
      · exact results_cell_row Tryd.results28 _ _ R 29 _ (0, 0) _ rfl (setRow_heap _ _ _ _ _ _ HR.out) Tryd.underlying29 rfl (by kernel_rfl)
      · exact ⟨_, rfl, below_setRow HB.out (by omega) _, HT.out.far HR.out (by decide) (by decide) (by decide) (grownBy_setRow _ _ _)⟩
end Go.Proofs.YtilddlgcfbefiaaDoor

