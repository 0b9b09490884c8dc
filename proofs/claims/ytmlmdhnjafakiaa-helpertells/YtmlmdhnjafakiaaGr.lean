/-
  Texts that the law of this layer stands on, one behind the other.
-/
import Derived.Test.YtmlmdhnjafakiaaGf
import Derived.Test.YtmlmdhnjafakiaaTE
import Derived.Test.YtmlmdhnjafakiaaTW
import Derived.Deep.AppendLies
import Derived.Test.YtmlmdhnjafakiaaGg
/-
  Lists of tables in memory of the call's own, grown by append: one table more; a table put in another one's place.
-/
namespace Go.Proofs.Ytmlmdhnjafakiaa
open Go Go.RowKit
set_option linter.unusedVariables false
theorem EntsIn.lta {W : World} {A : Nat → Prop} {a : Option Addr} {len cap : Nat} {es : List Ent} (h : EntsIn W A a len cap es) : EntsIn W (fun n => A n ∧ n < W.heap.size) a len cap es := by
  obtain ⟨h1, h2, h3, h5⟩ := h
  refine ⟨h1, h2, h3, ?_⟩
  rcases h5 with h5 | ⟨y, e, hy, h6⟩
  · exact .inl h5
  · by_cases hl : len = 0
    · exact .inl hl
    · have c := lt_of_cell (h6 0 (by omega)).1
      rw [add_block] at c
      refine .inr ⟨y, e, ⟨hy, c⟩, fun k hk => ?_⟩
      obtain ⟨c0, hw, b, l, cc, c1, hc⟩ := h6 k hk
      refine ⟨c0, hw, b, l, cc, c1, hc.1, ?_⟩
      rcases hc.2 with h0 | ⟨z, ez, hz⟩
      · exact .inl h0
      · by_cases hl0 : l = 0
        · exact .inl hl0
        · obtain ⟨_, _, _, _, h5'⟩ := hc.1
          obtain ⟨z', ez', hz'⟩ := h5'.resolve_left hl0
          rw [ez] at ez'
          cases ez'
          have c2 := lt_of_cell (hz' 0 (by omega))
          rw [add_block] at c2
          exact .inr ⟨z, ez, hz, c2⟩
/- the six cells of the table k in a list of cells; its entries lie in blocks of which A holds -/
def TbIn (W : World) (A : Nat → Prop) (xs : List Value) (k : Nat) (t : Tb) : Prop :=
  xs[k * 6]? = some (.int .i64 t.1.1) ∧ xs[k * 6 + 1]? = some (.int .i64 t.1.2.1) ∧ xs[k * 6 + 2]? = some (.int .i64 t.1.2.2.1) ∧ xs[k * 6 + 3]? = some (.int .i64 t.1.2.2.2) ∧
  (∃ b l c, xs[k * 6 + 4]? = some (.slice b l c) ∧ EntsIn W A b l c t.2.1) ∧ xs[k * 6 + 5]? = some (.int .u32 t.2.2) ∧ isW t.2.2
theorem TbIn.map {W W' : World} {A A' : Nat → Prop} {xs : List Value} {k : Nat} {t : Tb} (h : TbIn W A xs k t) (hm : ∀ b l c, EntsIn W A b l c t.2.1 → EntsIn W' A' b l c t.2.1) : TbIn W' A' xs k t := by
  obtain ⟨c0, c1, c2, c3, ⟨b, l, c, c4, hE⟩, c5, hx⟩ := h
  exact ⟨c0, c1, c2, c3, ⟨b, l, c, c4, hm b l c hE⟩, c5, hx⟩
/- a row of tables grown by append; base: all blocks from there on -/
def RowT (W : World) (base : Nat) (v : Value) (ts : List Tb) : Prop :=
  ∃ xs, W.ownsRow base 44 6 v ts.length xs ∧ xs.length = ts.length * 6 ∧ ∀ k, k < ts.length → TbIn W (fun n => base ≤ n ∧ n < W.heap.size ∧ some n ≠ v.ownBlock) xs k (ts.getD k zeroT)
theorem RowT.nil (W : World) (base : Nat) : RowT W base (.slice none 0 0) [] := ⟨[], World.ownsRow_nil _ _ _ _, rfl, fun k hk => absurd hk (by simp)⟩
theorem RowT.below {W W' : World} {base : Nat} {v : Value} {ts : List Tb} (h : RowT W base v ts) (hb : Below W.heap.size W W') : RowT W' base v ts := by
  obtain ⟨xs, h1, h2, h3⟩ := h
  have hs := hb.size
  exact ⟨xs, ownsRow_below h1 hb, h2, fun k hk => (h3 k hk).map (fun b l c hE => (hE.below hb).mono (fun n hn => ⟨hn.1, by omega, hn.2.2⟩))⟩
theorem RowT.snoc {W W1 W2 : World} {base g cp H : Nat} {v : Value} {ts : List Tb} {t : Tb} {b : Option Addr} {l c : Nat} {xs : List Value} (h1 : W.ownsRow base 44 6 v ts.length xs) (h2 : xs.length = ts.length * 6)
    (h3 : ∀ k, k < ts.length → TbIn W (fun n => base ≤ n ∧ n < W.heap.size ∧ some n ≠ v.ownBlock) xs k (ts.getD k zeroT)) (hbs : base ≤ W.heap.size) (hb : Below W.heap.size W W1)
    (hE : EntsIn W1 (fun n => W.heap.size ≤ n) b l c t.2.1) (hx : isW t.2.2) (hown : W2.ownsRow base 44 6 (.slice (some ⟨g, 0, none⟩) (ts.length + 1) cp) (ts.length + 1) (xs ++ (tbA t.1 (.slice b l c) t.2.2).toList))
    (hgrow : W1.grownBy W2 v.ownBlock) (hat : v.ownBlock = some g ∨ g = H) (hH : W1.heap.size ≤ H) : RowT W2 base (.slice (some ⟨g, 0, none⟩) (ts.length + 1) cp) (ts ++ [t]) := by
  have hs := hb.size
  have hs2 := hgrow.size
  have hlt := h1.lt
  have hE' := (hE.lta).grown hgrow (fun n hn e => by have := (hlt n e.symm).2; omega)
  refine ⟨xs ++ (tbA t.1 (.slice b l c) t.2.2).toList, by simpa using hown, by simp [h2]; omega, fun k hk => ?_⟩
  have hob : (Value.slice (some ⟨g, 0, none⟩) (ts.length + 1) cp).ownBlock = some g := rfl
  rw [hob]
  by_cases hkl : k < ts.length
  · have hg : (ts ++ [t]).getD k zeroT = ts.getD k zeroT := by simp [List.getD_eq_getElem?_getD, List.getElem?_append_left hkl]
    rw [hg]
    obtain ⟨c0, c1, c2, c3, ⟨b', l', c', c4, hE1⟩, c5, hx'⟩ := h3 k hkl
    have ap : ∀ (j : Nat) (u : Value), j < 6 → xs[k * 6 + j]? = some u → (xs ++ (tbA t.1 (.slice b l c) t.2.2).toList)[k * 6 + j]? = some u := fun j u hj hu => by
      rw [List.getElem?_append_left (by omega)]; exact hu
    refine ⟨ap 0 _ (by omega) c0, ap 1 _ (by omega) c1, ap 2 _ (by omega) c2, ap 3 _ (by omega) c3, ⟨b', l', c', ap 4 _ (by omega) c4, ?_⟩, ap 5 _ (by omega) c5, hx'⟩
    refine ((hE1.below hb).grown hgrow (fun n hn => hn.2.2)).mono (fun n hn => ⟨hn.1, by omega, fun e => ?_⟩)
    have e' := Option.some.inj e
    subst e'
    rcases hat with hat | hat
    · exact hn.2.2 hat.symm
    · omega
  · have hk2 : k = ts.length := by simp at hk; omega
    subst hk2
    have hg : (ts ++ [t]).getD ts.length zeroT = t := by simp [List.getD_eq_getElem?_getD]
    rw [hg]
    have ap : ∀ (j : Nat), (xs ++ (tbA t.1 (.slice b l c) t.2.2).toList)[ts.length * 6 + j]? = (tbA t.1 (.slice b l c) t.2.2).toList[j]? := fun j => by
      rw [List.getElem?_append_right (by omega), h2, Nat.add_sub_cancel_left]
    refine ⟨(ap 0).trans rfl, (ap 1).trans rfl, (ap 2).trans rfl, (ap 3).trans rfl, ⟨b, l, c, (ap 4).trans rfl, ?_⟩, (ap 5).trans rfl, hx⟩
    refine hE'.mono (fun n hn => ⟨by omega, by omega, fun e => ?_⟩)
    have e' := Option.some.inj e
    subst e'
    rcases hat with hat | hat
    · have := (hlt _ hat).2
      omega
    · omega
/- a list of tables whose row, and entries, lie in blocks of which A holds, the entries elsewhere than the row -/
def TabsN (W : World) (A : Nat → Prop) (V : Value) (ts : List Tb) : Prop :=
  (V = .slice none 0 0 ∧ ts = []) ∨ ∃ g cap cs, V = .slice (some ⟨g, 0, none⟩) ts.length cap ∧ A g ∧ Box W g 44 cs ∧ ts.length ≤ cap ∧ cap ≤ maxLen ∧ ts.length * 6 ≤ cs.size ∧
    ∀ k, k < ts.length → isW (ts.getD k zeroT).2.2 ∧ ∃ b l c, tbCells cs k (ts.getD k zeroT) (.slice b l c) ∧ EntsIn W (fun n => A n ∧ n ≠ g) b l c (ts.getD k zeroT).2.1
theorem RowT.tabs {W : World} {base : Nat} {v : Value} {ts : List Tb} (h : RowT W base v ts) : TabsN W (fun n => base ≤ n ∧ n < W.heap.size) v ts := by
  obtain ⟨xs, h1, h2, h3⟩ := h
  have hlt := h1.lt
  obtain ⟨_, ⟨rfl, hn⟩ | ⟨g, cap, cur, rfl, hb, hh, hc, hm, hs, ht⟩⟩ := h1
  · exact .inl ⟨rfl, List.length_eq_zero_iff.1 hn⟩
  · refine .inr ⟨g, cap, cur, rfl, hlt g rfl, hh, hc, hm, ?_, fun k hk => ?_⟩
    · have : (cur.toList.take (ts.length * 6)).length = ts.length * 6 := by rw [ht, h2]
      rw [List.length_take] at this
      have e : cur.toList.length = cur.size := Array.length_toList
      omega
    · have hcell : ∀ j u, j < 6 → xs[k * 6 + j]? = some u → cur[k * 6 + j]? = some u := by
        intro j u hj hu
        have h2' : (cur.toList.take (ts.length * 6))[k * 6 + j]? = xs[k * 6 + j]? := by rw [ht]
        rw [List.getElem?_take, if_pos (by omega), Array.getElem?_toList] at h2'
        rw [h2']; exact hu
      obtain ⟨c0, c1, c2, c3, ⟨b, l, c, c4, hE⟩, c5, hx⟩ := h3 k hk
      exact ⟨hx, b, l, c, ⟨hcell 0 _ (by omega) c0, hcell 1 _ (by omega) c1, hcell 2 _ (by omega) c2, hcell 3 _ (by omega) c3, hcell 4 _ (by omega) c4, hcell 5 _ (by omega) c5⟩,
        hE.mono (fun n hn => ⟨⟨hn.1, hn.2.1⟩, fun e => hn.2.2 (by rw [e]; rfl)⟩)⟩
section
variable {W W' : World} {A : Nat → Prop} {V : Value} {ts : List Tb}
theorem TabsN.mono {A' : Nat → Prop} (h : TabsN W A V ts) (hA : ∀ n, A n → A' n) : TabsN W A' V ts := by
  refine h.imp id (fun ⟨g, cap, cs, e, hg, hB, h1, h2, h3, h4⟩ => ⟨g, cap, cs, e, hA _ hg, hB, h1, h2, h3, fun k hk => ?_⟩)
  obtain ⟨hx, b, l, c, hc, hE⟩ := h4 k hk
  exact ⟨hx, b, l, c, hc, hE.mono (fun n hn => ⟨hA _ hn.1, hn.2⟩)⟩
/- a change in a block of which A does not hold -/
theorem TabsN.grown {row : Option Nat} (h : TabsN W A V ts) (hg : W.grownBy W' row) (hr : ∀ n, A n → some n ≠ row) : TabsN W' A V ts := by
  refine h.imp id (fun ⟨g, cap, cs, e, hgA, hB, h1, h2, h3, h4⟩ => ⟨g, cap, cs, e, hgA, hB.grown hg (hr _ hgA), h1, h2, h3, fun k hk => ?_⟩)
  obtain ⟨hx, b, l, c, hc, hE⟩ := h4 k hk
  exact ⟨hx, b, l, c, hc, hE.grown hg (fun n hn => hr _ hn.1)⟩
theorem TabsN.below (h : TabsN W A V ts) (hb : Below W.heap.size W W') : TabsN W' A V ts := h.grown (grownBy_of_below hb none) (fun _ _ => by simp)
theorem TabsN.at (h : TabsN W A V ts) : ∃ b cc, V = .slice b ts.length cc ∧ TabsAt W b ts.length cc ts := by
  rcases h with ⟨rfl, rfl⟩ | ⟨g, cap, cs, rfl, hgA, hB, h1, h2, h3, h4⟩
  · exact ⟨none, 0, rfl, rfl, Nat.le_refl _, Nat.zero_le _, .inl rfl⟩
  · refine ⟨_, cap, rfl, rfl, h1, h2, .inr ⟨_, rfl, fun k hk => ?_⟩⟩
    obtain ⟨hx, b, l, c, ⟨c0, c1, c2, c3, c4, c5⟩, hE⟩ := h4 k hk
    have ea : (⟨g, 0, none⟩ : Addr).add (k * 6) = ⟨g, k * 6, none⟩ := addr_add g (k * 6)
    rw [ea]
    exact ⟨hB.cell c0, hB.cell c1, hB.cell c2, hB.cell c3, ⟨b, l, c, hB.cell c4, hE.at⟩, hB.cell c5, hx⟩
theorem TabsN.row (h : TabsN W A V ts) (hl : 0 < ts.length) : ∃ g cap, V = .slice (some ⟨g, 0, none⟩) ts.length cap ∧ A g ∧ (∀ j, W.frozen? ⟨g, j, none⟩ = false) ∧ ts.length ≤ cap := by
  rcases h with ⟨rfl, rfl⟩ | ⟨g, cap, cs, rfl, hgA, hB, h1, h2, h3, h4⟩
  · simp at hl
  · exact ⟨g, cap, rfl, hgA, fun j => hB.free j, h1⟩
theorem TabsN.put {g cap : Nat} (h : TabsN W A (.slice (some ⟨g, 0, none⟩) ts.length cap) ts) {k : Nat} (hk : k < ts.length) {t : Tb} {b : Option Addr} {l c : Nat} (hE : EntsIn W (fun n => A n ∧ n ≠ g) b l c t.2.1) (hx : isW t.2.2) :
    TabsN (set6 W g k t (.slice b l c)) A (.slice (some ⟨g, 0, none⟩) ts.length cap) (ts.set k t) := by
  rcases h with ⟨e, _⟩ | ⟨g', cap', cs, e, hgA, hB, h1, h2, h3, h4⟩
  · cases e
  simp only [Value.slice.injEq, Option.some.injEq, Addr.mk.injEq, and_true, true_and] at e
  obtain ⟨rfl, rfl⟩ := e
  have hg := grown6 W g k t (.slice b l c)
  refine .inr ⟨g, cap, _, by rw [List.length_set], hgA, (((((hB.set (k * 6) _).set (k * 6 + 1) _).set (k * 6 + 2) _).set (k * 6 + 3) _).set (k * 6 + 4) _).set (k * 6 + 5) _, by rw [List.length_set]; exact h1, h2, by simp [h3], fun j hj => ?_⟩
  rw [List.length_set] at hj
  have e6 : ∀ r, r < 6 → j * 6 + r < cs.size := fun r hr => by omega
  by_cases hjk : j = k
  · subst hjk
    have hgd : (ts.set j t).getD j zeroT = t := by simp [List.getD_eq_getElem?_getD, hj]
    rw [hgd]
    refine ⟨hx, b, l, c, ?_, hE.grown hg (fun n hn e => hn.2 (Option.some.inj e))⟩
    have q0 := e6 0 (by omega)
    have q1 := e6 1 (by omega)
    have q2 := e6 2 (by omega)
    have q3 := e6 3 (by omega)
    have q4 := e6 4 (by omega)
    have q5 := e6 5 (by omega)
    refine ⟨?_, ?_, ?_, ?_, ?_, ?_⟩ <;> simp [Array.getElem?_setIfInBounds] <;> omega
  · have hgd : (ts.set k t).getD j zeroT = ts.getD j zeroT := by simp [List.getD_eq_getElem?_getD, List.getElem?_set_ne (Ne.symm hjk)]
    rw [hgd]
    obtain ⟨k1, b', l', c', ⟨c0, c1, c2, c3, c4, c5⟩, k3⟩ := h4 j hj
    have far : ∀ (i : Nat) (u : Value), cs[i]? = some u → (∀ r, r < 6 → k * 6 + r ≠ i) → ((((((cs.setIfInBounds (k * 6) (.int .i64 t.1.1)).setIfInBounds (k * 6 + 1) (.int .i64 t.1.2.1)).setIfInBounds (k * 6 + 2) (.int .i64 t.1.2.2.1)).setIfInBounds (k * 6 + 3) (.int .i64 t.1.2.2.2)).setIfInBounds (k * 6 + 4) (.slice b l c)).setIfInBounds (k * 6 + 5) (.int .u32 t.2.2))[i]? = some u := by
      intro i u hu hne
      have n0 : k * 6 ≠ i := hne 0 (by omega)
      rw [Array.getElem?_setIfInBounds_ne (hne 5 (by omega)), Array.getElem?_setIfInBounds_ne (hne 4 (by omega)), Array.getElem?_setIfInBounds_ne (hne 3 (by omega)), Array.getElem?_setIfInBounds_ne (hne 2 (by omega)), Array.getElem?_setIfInBounds_ne (hne 1 (by omega)), Array.getElem?_setIfInBounds_ne n0]
      exact hu
    exact ⟨k1, b', l', c', ⟨far _ _ c0 (fun r hr => by omega), far _ _ c1 (fun r hr => by omega), far _ _ c2 (fun r hr => by omega), far _ _ c3 (fun r hr => by omega), far _ _ c4 (fun r hr => by omega), far _ _ c5 (fun r hr => by omega)⟩, k3.grown hg (fun n hn e => hn.2 (Option.some.inj e))⟩
end
end Go.Proofs.Ytmlmdhnjafakiaa

/-
  What the fifth reference's Each and the sixth one's Own return, as contracts over the translated program: the same tables, the same environment, in memory of their own.
-/
namespace Go.Proofs.Ytmlmdhnjafakiaa
open Go Go.RowKit
set_option linter.unusedVariables false
theorem take_tab (ts : List Tb) (k : Nat) (t : Tb) (h : k < ts.length) (hi : ts.getD k zeroT = t) : ts.take (k + 1) = ts.take k ++ [t] := by
  rw [take_getD ts k zeroT h, hi]
set_option maxRecDepth 100000 in
set_option maxHeartbeats 8000000 in
theorem each_any (a : Option Addr) (len cap : Nat) (ts : List Tb) (w : World) (h : TabsAt w a len cap ts) (hf : fewL ts) :
    Calls Try.prog 17 #[.slice a len cap] w fun e w' => ∃ V, e = .returned V ∧ Below w.heap.size w w' ∧ TabsN w' (fun n => w.heap.size ≤ n ∧ n < w'.heap.size) V ts := by
  obtain ⟨iT, hiT, hz0, hz1, hz2⟩ := info_parts infoT
  have hm := h.max
  have h40 : len ≤ 40 := by rw [← h.1]; exact hf.1
  have H1 := Lib.hid h.1
  have H5 := Lib.hid h.2.2.2
  have HF := Lib.hid hf.2
  clear h hf
  go_enter Try.func17, Try.ntmps17
  go_wp2_with fail
  go_loopw [3, 4] (fun o i wr => ∃ (k : Nat) (v : Value), k ≤ len ∧ i = .int .i64 k ∧ v = o ∧ Hid (Below w.heap.size w wr) ∧ Hid (RowT wr w.heap.size v (ts.take k))) (fun _ i _ => len - (intOf i).toNat)
  case atStart => exact ⟨0, .slice none 0 0, by omega, rfl, rfl, Lib.hid (Below.refl _ _), Lib.hid (RowT.nil _ _)⟩
  case round =>
    obtain ⟨k, v, hk, rfl, rfl, HB, HR⟩ := hrel
    by_cases hkl : k < len
    · have hkI : (k : Int) < (len : Int) := by omega
      obtain ⟨y, rfl, hy⟩ := H5.out.resolve_left (by omega)
      have t1 := (hy k hkl).below HB.out
      have hfw := HF.out _ (getD_mem ts k zeroT (by rw [H1.out]; exact hkl))
      rcases e1 : ts.getD k zeroT with ⟨⟨s0, s1, s2, s3⟩, es1, x1⟩
      rw [e1] at t1 hfw
      have HT := Lib.hid (take_tab ts k _ (by rw [H1.out]; exact hkl) e1)
      obtain ⟨p0, p1, p2, p3, ⟨b1, l1, cc1, p4, hE1⟩, p5, hx1⟩ := t1
      simp only at p0 p1 p2 p3 p4 p5 hE1 hx1 hfw
      have HX := Lib.hid hx1
      have c1 := own_any (s0, s1, s2, s3) b1 l1 cc1 x1 es1 wr hE1 hfw
      have HK : Hid ((ts.take k).length = k) := Lib.hid (by rw [List.length_take, H1.out]; omega)
      clear hy hfw e1 hE1 hx1
      go_wp2_with fail
      refine c1.mono ?_
      intro e w5 ho
      obtain ⟨b, n, c, rfl, hb5, hE5⟩ := own_in ho
      clear c1 ho p0 p1 p2 p3 p4 p5
      obtain ⟨xs, r1, r2, r3⟩ := HR.out
      have hb6 : Below wr.heap.size wr (w5.alloc (.cells #[.int .i64 s0, .int .i64 s1, .int .i64 s2, .int .i64 s3, .slice b n c, .int .u32 x1] 44)) := hb5.alloc hb5.size _
      have hO6 := ownsRow_below r1 hb6
      rw [HK.out] at hO6
      have hE6 := hE5.below ((Below.refl w5.heap.size w5).alloc (Nat.le_refl _) (.cells #[.int .i64 s0, .int .i64 s1, .int .i64 s2, .int .i64 s3, .slice b n c, .int .u32 x1] 44))
      have HNew := Lib.hid (Box.new w5 44 #[.int .i64 s0, .int .i64 s1, .int .i64 s2, .int .i64 s3, .slice b n c, .int .u32 x1])
      have HR3 := Lib.hid (And.intro r1 (And.intro r2 r3))
      have HE6 := Lib.hid hE6
      have HB6 := Lib.hid hb6
      have hs := HB.out.size
      have hs5 := hb5.size
      clear r1 r2 r3 hE5 hE6 hb6 hb5
      go_wp2_with (at_builtin; refine wpList_append_lies _ rfl _ _ _ rfl w.heap.size 44 iT _ 6 64 Try.underlying24 hiT hz0 hz1 hz2 rfl (by omega) v k xs rfl hO6 ⟨w5.heap.size, 0, none⟩ 1 1 [.int .i64 s0, .int .i64 s1, .int .i64 s2, .int .i64 s3, .slice b n c, .int .u32 x1] rfl rfl (World.news_of_block HNew.out) (by simp [Value.oneCell']) (by omega) (by unfold maxLen; omega) (by omega) (by simp; omega) (w5.heap.size + 1) (by simp) ?_)
      intro g6 cp6 w6 hown6 hgrow6 hat6 hlt6
      have hlt := HR3.out.1.lt
      have hb7 : Below w.heap.size w w6 := (HB.out.trans (HB6.out.mono hs)).grown hgrow6 (by simp; omega) (fun g hg => by have := (hlt g hg).1; omega)
      have hR7 : RowT w6 w.heap.size (.slice (some ⟨g6, 0, none⟩) (k + 1) cp6) (ts.take (k + 1)) := by
        rw [HT.out]
        have := RowT.snoc (W1 := w5.alloc (.cells #[.int .i64 s0, .int .i64 s1, .int .i64 s2, .int .i64 s3, .slice b n c, .int .u32 x1] 44)) (W2 := w6) (g := g6) (cp := cp6) (t := ((s0, s1, s2, s3), es1, x1)) HR3.out.1 HR3.out.2.1 HR3.out.2.2 hs HB6.out HE6.out HX.out (by rw [HK.out]; exact hown6) hgrow6 hat6 (by simp)
        rw [HK.out] at this
        exact this
      have HB7 := Lib.hid hb7
      have HR7 := Lib.hid hR7
      clear hown6 hgrow6 hat6 hlt6 hlt hb7 hR7 hO6 HR3 HB6 HE6
      go_wp2
      exact ⟨⟨k + 1, _, by omega, by go_num, rfl, HB7, HR7⟩, by simp [intOf]; omega⟩
    · have hkI : ¬ (k : Int) < (len : Int) := by omega
      have HE : Hid (ts.take k = ts) := Lib.hid (List.take_of_length_le (by rw [H1.out]; omega))
      rw [HE.out] at HR
      go_wp2
      go_ret
      exact ⟨_, rfl, HB.out, HR.out.tabs⟩
/- what Own leaves: an environment whose tables lie in memory of its own -/
def EOwn (c : Cx) (sd : Int) (ts : List Tb) (w : World) (e : Ending) (w' : World) : Prop :=
  ∃ V, e = .returned (envV c V sd) ∧ Below w.heap.size w w' ∧ TabsN w' (fun n => w.heap.size ≤ n ∧ n < w'.heap.size) V ts
set_option maxRecDepth 100000 in
set_option maxHeartbeats 8000000 in
theorem eown_any (c : Cx) (a : Option Addr) (len cap : Nat) (sd : Int) (ts : List Tb) (w : World) (h : TabsAt w a len cap ts) (hf : fewL ts) :
    Calls Try.prog 6 #[envV c (.slice a len cap) sd] w (EOwn c sd ts w) := by
  rcases c with ⟨c0, c1, c2, c3⟩
  have hbW : Below w.heap.size w (((w.alloc (.cells #[.int .u32 c0, .int .u32 c1, .int .u32 c2, .int .u32 c3, .slice a len cap, .int .u32 sd] 26)).alloc (.cells #[.int .u32 0, .int .u32 0, .int .u32 0, .int .u32 0, .slice none 0 0, .int .u32 0] 26)).alloc (.cells #[.int .u32 c0, .int .u32 c1, .int .u32 c2, .int .u32 c3, .slice a len cap, .int .u32 sd] 26)) := (((Below.refl _ _).alloc (Nat.le_refl _) _).alloc (by simp) _).alloc (by simp; omega) _
  have hBR := (Box.new (w.alloc (.cells #[.int .u32 c0, .int .u32 c1, .int .u32 c2, .int .u32 c3, .slice a len cap, .int .u32 sd] 26)) 26 #[.int .u32 0, .int .u32 0, .int .u32 0, .int .u32 0, .slice none 0 0, .int .u32 0]).alloc (.cells #[.int .u32 c0, .int .u32 c1, .int .u32 c2, .int .u32 c3, .slice a len cap, .int .u32 sd] 26)
  have hBO := Box.new ((w.alloc (.cells #[.int .u32 c0, .int .u32 c1, .int .u32 c2, .int .u32 c3, .slice a len cap, .int .u32 sd] 26)).alloc (.cells #[.int .u32 0, .int .u32 0, .int .u32 0, .int .u32 0, .slice none 0 0, .int .u32 0] 26)) 26 #[.int .u32 c0, .int .u32 c1, .int .u32 c2, .int .u32 c3, .slice a len cap, .int .u32 sd]
  rw [show (w.alloc (.cells #[.int .u32 c0, .int .u32 c1, .int .u32 c2, .int .u32 c3, .slice a len cap, .int .u32 sd] 26)).heap.size = w.heap.size + 1 by simp] at hBR
  rw [show ((w.alloc (.cells #[.int .u32 c0, .int .u32 c1, .int .u32 c2, .int .u32 c3, .slice a len cap, .int .u32 sd] 26)).alloc (.cells #[.int .u32 0, .int .u32 0, .int .u32 0, .int .u32 0, .slice none 0 0, .int .u32 0] 26)).heap.size = w.heap.size + 1 + 1 by simp] at hBO
  have hBP := ((Box.new w 26 #[.int .u32 c0, .int .u32 c1, .int .u32 c2, .int .u32 c3, .slice a len cap, .int .u32 sd]).alloc (.cells #[.int .u32 0, .int .u32 0, .int .u32 0, .int .u32 0, .slice none 0 0, .int .u32 0] 26)).alloc (.cells #[.int .u32 c0, .int .u32 c1, .int .u32 c2, .int .u32 c3, .slice a len cap, .int .u32 sd] 26)
  have hsz : (((w.alloc (.cells #[.int .u32 c0, .int .u32 c1, .int .u32 c2, .int .u32 c3, .slice a len cap, .int .u32 sd] 26)).alloc (.cells #[.int .u32 0, .int .u32 0, .int .u32 0, .int .u32 0, .slice none 0 0, .int .u32 0] 26)).alloc (.cells #[.int .u32 c0, .int .u32 c1, .int .u32 c2, .int .u32 c3, .slice a len cap, .int .u32 sd] 26)).heap.size = w.heap.size + 1 + 1 + 1 := by simp
  have hT := h.below hbW
  obtain ⟨W1, hW1⟩ : ∃ W1, ((w.alloc (.cells #[.int .u32 c0, .int .u32 c1, .int .u32 c2, .int .u32 c3, .slice a len cap, .int .u32 sd] 26)).alloc (.cells #[.int .u32 0, .int .u32 0, .int .u32 0, .int .u32 0, .slice none 0 0, .int .u32 0] 26)).alloc (.cells #[.int .u32 c0, .int .u32 c1, .int .u32 c2, .int .u32 c3, .slice a len cap, .int .u32 sd] 26) = W1 := ⟨_, rfl⟩
  rw [hW1] at hbW hBR hBO hsz hT hBP
  have HBW := Lib.hid hbW
  have HBR := Lib.hid hBR
  have HBO := Lib.hid hBO
  have HSZ := Lib.hid hsz
  have k1 := each_any a len cap ts W1 hT hf
  have x4 : W1.cell? ⟨w.heap.size, 4, none⟩ = some (.slice a len cap) := hBP.cell rfl
  clear hbW hBR hBO hsz hT h hf hBP
  go_enter Try.func6, Try.ntmps6
  go_wp2_with fail
  clear hW1 x4
  refine k1.mono ?_
  rintro e w5 ⟨V, rfl, hb5, hT5⟩
  clear k1
  obtain ⟨b, cc, rfl, hA5⟩ := hT5.at
  have hBO5 := HBO.out.later hb5
  have hBR5 := HBR.out.later hb5
  have f5 := hBO5.free 4
  have e5 : w5.cell? ⟨w.heap.size + 1 + 1, 4, none⟩ = some (.slice a len cap) := hBO5.cell rfl
  have hBO6 := hBO5.set 4 (.slice b ts.length cc)
  have d0 : (w5.setCell ⟨w.heap.size + 1 + 1, 4, none⟩ (.slice b ts.length cc)).cell? ⟨w.heap.size + 1 + 1, 0, none⟩ = some (.int .u32 c0) := hBO6.cell rfl
  have d1 : (w5.setCell ⟨w.heap.size + 1 + 1, 4, none⟩ (.slice b ts.length cc)).cell? ⟨w.heap.size + 1 + 1, 1, none⟩ = some (.int .u32 c1) := hBO6.cell rfl
  have d2 : (w5.setCell ⟨w.heap.size + 1 + 1, 4, none⟩ (.slice b ts.length cc)).cell? ⟨w.heap.size + 1 + 1, 2, none⟩ = some (.int .u32 c2) := hBO6.cell rfl
  have d3 : (w5.setCell ⟨w.heap.size + 1 + 1, 4, none⟩ (.slice b ts.length cc)).cell? ⟨w.heap.size + 1 + 1, 3, none⟩ = some (.int .u32 c3) := hBO6.cell rfl
  have d4 : (w5.setCell ⟨w.heap.size + 1 + 1, 4, none⟩ (.slice b ts.length cc)).cell? ⟨w.heap.size + 1 + 1, 4, none⟩ = some (.slice b ts.length cc) := hBO6.cell rfl
  have d5 : (w5.setCell ⟨w.heap.size + 1 + 1, 4, none⟩ (.slice b ts.length cc)).cell? ⟨w.heap.size + 1 + 1, 5, none⟩ = some (.int .u32 sd) := hBO6.cell rfl
  have hBR6 := hBR5.other (p := ⟨w.heap.size + 1 + 1, 4, none⟩) (by simp) (.slice b ts.length cc)
  have HBR6 := Lib.hid hBR6
  have HB5 := Lib.hid hb5
  have HT5 := Lib.hid hT5
  clear hBO5 hBR5 hBO6 hBR6 hb5 hT5 hA5
  go_wp2_with (refine wpList_store_row rfl 26 _ _ rfl (w.heap.size + 1) _ rfl rfl 26 _ HBR6.out (by kernel_rfl) rfl (by simp [Value.oneCell']) ?_)
  refine bodyPost_ret (v := envV (c0, c1, c2, c3) (.slice b ts.length cc) sd) ?_ rfl ?_
  · exact results_cell_row Try.results6 _ _ (w.heap.size + 1) 26 _ (0, 0) _ rfl (setRow_heap _ _ _ _ _ _ HBR6.out) Try.underlying26 rfl (by kernel_rfl)
  · have hs := HSZ.out
    have hs5 := HB5.out.size
    have hbw := HBW.out.trans (HB5.out.mono HBW.out.size)
    refine ⟨_, rfl, below_setRow (hbw.setCell (by show w.heap.size ≤ w.heap.size + 1 + 1; omega) _) (by omega) _, ?_⟩
    have hT6 := (HT5.out.grown (grownBy_setCell w5 ⟨w.heap.size + 1 + 1, 4, none⟩ (.slice b ts.length cc)) (fun n hn e => by have := Option.some.inj e; simp at this; omega)).grown (grownBy_setRow _ (w.heap.size + 1) (envA (c0, c1, c2, c3) (.slice b ts.length cc) sd)) (fun n hn e => by have := Option.some.inj e; omega)
    exact hT6.mono (fun n hn => ⟨by omega, by simpa [World.setCell] using hn.2⟩)
end Go.Proofs.Ytmlmdhnjafakiaa

/-
  A call of the sixth reference under way: the result's room, the variable that holds the environment, its tables.
-/
namespace Go.Proofs.Ytmlmdhnjafakiaa
open Go Go.RowKit
set_option linter.unusedVariables false
abbrev zeroEA : Array Value := #[.int .u32 0, .int .u32 0, .int .u32 0, .int .u32 0, .slice none 0 0, .int .u32 0]
def RcPost (r : Ev × Int × Int) (w : World) (e : Ending) (w' : World) : Prop :=
  ∃ V, e = .returned (.tuple #[envV r.1.1 V r.1.2.2, .int .u32 r.2.1, .int .i64 r.2.2]) ∧ Below w.heap.size w w' ∧ ∃ b cc, V = .slice b r.1.2.1.length cc ∧ TabsAt w' b r.1.2.1.length cc r.1.2.1
def Cr (w W : World) (R O : Nat) (c : Cx) (sd : Int) (ts : List Tb) (V : Value) : Prop :=
  Below w.heap.size w W ∧ Box W R 26 zeroEA ∧ Box W O 26 (envA c V sd) ∧ w.heap.size ≤ R ∧ R < O ∧ ∃ A : Nat → Prop, (∀ n, A n → R < n ∧ n ≠ O) ∧ TabsN W A V ts
theorem cell6_far2 {W : World} {g k : Nat} {t : Tb} {V u : Value} {p : Addr} (hp : W.cell? p = some u) (hne : p.block ≠ g) : (set6 W g k t V).cell? p = some u :=
  ((grown6 W g k t V).cell_far p (lt_of_cell hp) (fun e => hne (Option.some.inj e))).trans hp
theorem set_self (ts : List Tb) (i : Nat) (t : Tb) (h : ts.getD i zeroT = t) : ts.set i t = ts := by
  subst h
  apply List.ext_getElem (by simp)
  intro j h1 h2
  by_cases hj : i = j
  · subst hj
    simp [List.getD_eq_getElem?_getD, h2]
  · simp [List.getElem_set_ne hj]
section
variable {w W W' : World} {R O : Nat} {c : Cx} {sd : Int} {ts : List Tb} {V : Value}
theorem Cr.later (h : Cr w W R O c sd ts V) (hb : Below W.heap.size W W') : Cr w W' R O c sd ts V := by
  obtain ⟨h1, h2, h3, h4, h5, A, h6, h7⟩ := h
  exact ⟨h1.trans (hb.mono h1.size), h2.later hb, h3.later hb, h4, h5, A, h6, h7.below hb⟩
theorem Cr.new {m : World} (hb : Below w.heap.size w m) (hR : Box m R 26 zeroEA) (hw : w.heap.size ≤ R) {lo : Nat} (hlo : R < lo) (hT : TabsN m (fun n => lo ≤ n ∧ n < m.heap.size) V ts) :
    Cr w (m.alloc (.cells (envA c V sd) 26)) R m.heap.size c sd ts V := by
  have hm := hR.lt
  exact ⟨hb.alloc hb.size _, hR.alloc _, Box.new _ _ _, hw, hm, fun n => lo ≤ n ∧ n < m.heap.size, fun n hn => ⟨by omega, by omega⟩, hT.below ((Below.refl _ _).alloc (Nat.le_refl _) _)⟩
theorem Cr.cells (h : Cr w W R O c sd ts V) : W.cell? ⟨O, 0, none⟩ = some (.int .u32 c.1) ∧ W.cell? ⟨O, 1, none⟩ = some (.int .u32 c.2.1) ∧ W.cell? ⟨O, 2, none⟩ = some (.int .u32 c.2.2.1) ∧ W.cell? ⟨O, 3, none⟩ = some (.int .u32 c.2.2.2) ∧ W.cell? ⟨O, 4, none⟩ = some V ∧ W.cell? ⟨O, 5, none⟩ = some (.int .u32 sd) :=
  have b := h.2.2.1
  ⟨b.cell rfl, b.cell rfl, b.cell rfl, b.cell rfl, b.cell rfl, b.cell rfl⟩
theorem Cr.fin (h : Cr w W R O c sd ts V) (cs : Array Value) : Below w.heap.size w (W.setRow R cs) ∧ ∃ b cc, V = .slice b ts.length cc ∧ TabsAt (W.setRow R cs) b ts.length cc ts := by
  obtain ⟨h1, h2, h3, h4, h5, A, h6, h7⟩ := h
  exact ⟨below_setRow h1 h4 _, (h7.grown (grownBy_setRow W R cs) (fun n hn e => by have := Option.some.inj e; have := (h6 n hn).1; omega)).at⟩
theorem Cr.seed (h : Cr w W R O c sd ts V) (sd' : Int) : Cr w (W.setCell ⟨O, 5, none⟩ (.int .u32 sd')) R O c sd' ts V := by
  obtain ⟨h1, h2, h3, h4, h5, A, h6, h7⟩ := h
  exact ⟨h1.setCell (by show w.heap.size ≤ O; omega) _, h2.other (by show R ≠ O; omega) _, h3.set 5 _, h4, h5, A, h6, h7.grown (grownBy_setCell W ⟨O, 5, none⟩ _) (fun n hn e => (h6 n hn).2 (Option.some.inj e))⟩
theorem Cr.row (h : Cr w W R O c sd ts V) (hl : 0 < ts.length) : ∃ g cap, V = .slice (some ⟨g, 0, none⟩) ts.length cap ∧ (∀ j, W.frozen? ⟨g, j, none⟩ = false) ∧ ts.length ≤ cap ∧ R < g ∧ g ≠ O ∧ g < W.heap.size := by
  obtain ⟨h1, h2, h3, h4, h5, A, h6, h7⟩ := h
  rcases h7 with ⟨rfl, rfl⟩ | ⟨g, cap, cs, rfl, hgA, hB, e1, e2, e3, e4⟩
  · simp at hl
  · exact ⟨g, cap, rfl, fun j => hB.free j, e1, (h6 _ hgA).1, (h6 _ hgA).2, hB.lt⟩
theorem Cr.at_row {g cap : Nat} (h : Cr w W R O c sd ts (.slice (some ⟨g, 0, none⟩) ts.length cap)) (hl : 0 < ts.length) : (∀ j, W.frozen? ⟨g, j, none⟩ = false) ∧ ts.length ≤ cap ∧ R < g ∧ g ≠ O ∧ g < W.heap.size := by
  obtain ⟨g', cap', e, r⟩ := h.row hl
  simp only [Value.slice.injEq, Option.some.injEq, Addr.mk.injEq, and_true, true_and] at e
  obtain ⟨rfl, rfl⟩ := e
  exact r
theorem Cr.tabs (h : Cr w W R O c sd ts V) : ∃ b cc, V = .slice b ts.length cc ∧ TabsAt W b ts.length cc ts := by
  obtain ⟨h1, h2, h3, h4, h5, A, h6, h7⟩ := h
  exact h7.at
theorem Cr.olds {g cap k : Nat} (h : Cr w W R O c sd ts (.slice (some ⟨g, 0, none⟩) ts.length cap)) (hk : k < ts.length) :
    ∃ u0 u1 u2 u3 u4 u5, W.cell? ⟨g, k * 6, none⟩ = some u0 ∧ W.cell? ⟨g, k * 6 + 1, none⟩ = some u1 ∧ W.cell? ⟨g, k * 6 + 2, none⟩ = some u2 ∧ W.cell? ⟨g, k * 6 + 3, none⟩ = some u3 ∧ W.cell? ⟨g, k * 6 + 4, none⟩ = some u4 ∧ W.cell? ⟨g, k * 6 + 5, none⟩ = some u5 := by
  obtain ⟨h1, h2, h3, h4, h5, A, h6, h7⟩ := h
  rcases h7 with ⟨e, _⟩ | ⟨g', cap', cs, e, hgA, hB, e1, e2, e3, e4⟩
  · cases e
  simp only [Value.slice.injEq, Option.some.injEq, Addr.mk.injEq, and_true, true_and] at e
  obtain ⟨rfl, rfl⟩ := e
  obtain ⟨_, b, l, cc, ⟨c0, c1, c2, c3, c4, c5⟩, _⟩ := e4 k hk
  exact ⟨_, _, _, _, _, _, hB.cell c0, hB.cell c1, hB.cell c2, hB.cell c3, hB.cell c4, hB.cell c5⟩
/- a table that a call told, its entries in blocks from S on, put in another one's place -/
theorem Cr.put {g cap k S : Nat} (h : Cr w W R O c sd ts (.slice (some ⟨g, 0, none⟩) ts.length cap)) (hk : k < ts.length) {t : Tb} {b : Option Addr} {l cc : Nat} (hE : EntsIn W (fun n => S ≤ n) b l cc t.2.1) (hS : O < S) (hgS : g < S) (hx : isW t.2.2) :
    Cr w (set6 W g k t (.slice b l cc)) R O c sd (ts.set k t) (.slice (some ⟨g, 0, none⟩) ts.length cap) := by
  obtain ⟨g', cap', e, _, _, g1, g2, g3⟩ := h.row (by omega)
  simp only [Value.slice.injEq, Option.some.injEq, Addr.mk.injEq, and_true, true_and] at e
  obtain ⟨rfl, rfl⟩ := e
  obtain ⟨h1, h2, h3, h4, h5, A, h6, h7⟩ := h
  have hg := grown6 W g k t (.slice b l cc)
  have h7' : TabsN W (fun n => A n ∨ S ≤ n) (.slice (some ⟨g, 0, none⟩) ts.length cap) ts := h7.mono (fun n hn => .inl hn)
  exact ⟨h1.grown hg h1.size (fun g' e => by have := Option.some.inj e; omega), h2.grown hg (fun e => by have := Option.some.inj e; omega), h3.grown hg (fun e => by have := Option.some.inj e; omega), h4, h5, fun n => A n ∨ S ≤ n,
    fun n hn => hn.elim (h6 n) (fun hn => ⟨by omega, by omega⟩), h7'.put hk (hE.mono (fun n hn => ⟨.inr hn, by omega⟩)) hx⟩
end
end Go.Proofs.Ytmlmdhnjafakiaa

