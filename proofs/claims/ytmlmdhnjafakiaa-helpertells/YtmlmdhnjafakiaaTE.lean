/-
  The cells of a row of entries, whose words lie in blocks that are told: one entry more, one less; a table that a call returns.
-/
import Derived.Test.YtmlmdhnjafakiaaTW
namespace Go.Proofs.Ytmlmdhnjafakiaa
open Go Go.RowKit

/- the cells xs of a row of entries; their words lie in blocks of which A holds -/
def WordsIn (W : World) (A : Nat → Prop) (b : Option Addr) (l c : Nat) (ws : List Int) : Prop := WordsAt W b l c ws ∧ (l = 0 ∨ ∃ z, b = some z ∧ A z.block)
def Ents (W : World) (A : Nat → Prop) (xs : List Value) (es : List Ent) : Prop :=
  xs.length = es.length * 2 ∧ ∀ k, k < es.length → xs[k * 2]? = some (.int .u32 (es.getD k zeroE).1) ∧ isW (es.getD k zeroE).1 ∧ ∃ b l c, xs[k * 2 + 1]? = some (.slice b l c) ∧ WordsIn W A b l c (es.getD k zeroE).2
theorem WordsIn.mono {W : World} {A A' : Nat → Prop} {b : Option Addr} {l c : Nat} {ws : List Int} (h : WordsIn W A b l c ws) (hA : ∀ n, A n → A' n) : WordsIn W A' b l c ws :=
  ⟨h.1, h.2.imp id (fun ⟨z, e, h⟩ => ⟨z, e, hA _ h⟩)⟩
theorem WordsIn.grown {W W' : World} {A : Nat → Prop} {b : Option Addr} {l c : Nat} {ws : List Int} {row : Option Nat} (h : WordsIn W A b l c ws) (hg : W.grownBy W' row) (hA : ∀ n, A n → some n ≠ row) : WordsIn W' A b l c ws := by
  refine ⟨?_, h.2⟩
  obtain ⟨⟨h1, h2, h3, h4, h5⟩, h6⟩ := h
  refine ⟨h1, h2, h3, h4, ?_⟩
  rcases h5 with h5 | ⟨x, rfl, h7⟩
  · exact .inl h5
  · rcases h6 with h6 | ⟨z, e, hz⟩
    · exact .inl h6
    · cases e
      exact .inr ⟨x, rfl, fun i hi => (hg.cell_far _ (lt_of_cell (h7 i hi)) (by rw [add_block]; exact hA _ hz)).trans (h7 i hi)⟩
theorem Ents.mono {W : World} {A A' : Nat → Prop} {xs : List Value} {es : List Ent} (h : Ents W A xs es) (hA : ∀ n, A n → A' n) : Ents W A' xs es :=
  ⟨h.1, fun k hk => by
    obtain ⟨h1, h2, b, l, c, h3, h4⟩ := h.2 k hk
    exact ⟨h1, h2, b, l, c, h3, h4.mono hA⟩⟩
theorem Ents.grown {W W' : World} {A : Nat → Prop} {xs : List Value} {es : List Ent} {row : Option Nat} (h : Ents W A xs es) (hg : W.grownBy W' row) (hA : ∀ n, A n → some n ≠ row) : Ents W' A xs es :=
  ⟨h.1, fun k hk => by
    obtain ⟨h1, h2, b, l, c, h3, h4⟩ := h.2 k hk
    exact ⟨h1, h2, b, l, c, h3, h4.grown hg hA⟩⟩
theorem Ents.below {W W' : World} {A : Nat → Prop} {xs : List Value} {es : List Ent} (h : Ents W A xs es) (hb : Below W.heap.size W W') : Ents W' A xs es :=
  h.grown (grownBy_of_below hb none) (fun _ _ => by simp)
theorem Owned.ents {W : World} {base : Nat} {row : Option Nat} {xs : List Value} {es : List Ent} (h : Owned W base row xs es) : Ents W (fun n => base ≤ n ∧ n < W.heap.size ∧ some n ≠ row) xs es :=
  ⟨h.1, fun k hk => by
    obtain ⟨h1, cv, h2, h3, h4, h5⟩ := h.2.1 k hk
    obtain ⟨b, c, rfl, hW, hz⟩ := words_own rfl h4.2 h3
    refine ⟨h1, h4.1, b, _, c, h2, hW, ?_⟩
    cases b with
    | none =>
      rcases hW.2.2.2.2 with e | ⟨z, e, _⟩
      · exact .inl e
      · cases e
    | some z => exact .inr ⟨z, rfl, (hz z rfl).1, (hz z rfl).2.1, h5 z.block (hz z rfl).2.2⟩⟩
theorem Ents.snoc {W : World} {A : Nat → Prop} {xs : List Value} {es : List Ent} (h : Ents W A xs es) {key : Int} {b : Option Addr} {l c : Nat} {ws : List Int} (hk : isW key) (h1 : WordsIn W A b l c ws) :
    Ents W A (xs ++ [.int .u32 key, .slice b l c]) (es ++ [(key, ws)]) := by
  have hl := h.1
  refine ⟨by simp [hl]; omega, fun k hkl => ?_⟩
  by_cases hkn : k < es.length
  · have hg : (es ++ [(key, ws)]).getD k zeroE = es.getD k zeroE := by simp [List.getD_eq_getElem?_getD, List.getElem?_append_left hkn]
    rw [hg]
    obtain ⟨e1, e2, b', l', c', e3, e4⟩ := h.2 k hkn
    exact ⟨by rw [List.getElem?_append_left (by omega)]; exact e1, e2, b', l', c', by rw [List.getElem?_append_left (by omega)]; exact e3, e4⟩
  · have hk2 : k = es.length := by simp at hkl; omega
    subst hk2
    have hg : (es ++ [(key, ws)]).getD es.length zeroE = (key, ws) := by simp [List.getD_eq_getElem?_getD]
    rw [hg]
    refine ⟨?_, hk, b, l, c, ?_, h1⟩
    · rw [List.getElem?_append_right (by omega), hl]
      simp
    · rw [List.getElem?_append_right (by omega), hl]
      simp
theorem erase_at (es : List Ent) (i k : Nat) : (es.eraseIdx i).getD k zeroE = es.getD (if k < i then k else k + 1) zeroE := by
  simp only [List.getD_eq_getElem?_getD, List.getElem?_eraseIdx]
  split <;> rfl
theorem Ents.erase {W : World} {A : Nat → Prop} {xs : List Value} {es : List Ent} (h : Ents W A xs es) {i : Nat} (hi : i < es.length) : Ents W A (xs.take (i * 2) ++ xs.drop ((i + 1) * 2)) (es.eraseIdx i) := by
  have hl := h.1
  have hle : (es.eraseIdx i).length = es.length - 1 := by rw [List.length_eraseIdx, if_pos hi]
  have hx : ∀ k j, k < es.length - 1 → j < 2 → (xs.take (i * 2) ++ xs.drop ((i + 1) * 2))[k * 2 + j]? = xs[(if k < i then k else k + 1) * 2 + j]? := by
    intro k j hk hj
    by_cases hki : k < i
    · rw [if_pos hki, List.getElem?_append_left (by rw [List.length_take]; omega), List.getElem?_take, if_pos (by omega)]
    · rw [if_neg hki, List.getElem?_append_right (by rw [List.length_take]; omega), List.getElem?_drop, List.length_take]
      congr 1
      omega
  refine ⟨by rw [List.length_append, List.length_take, List.length_drop, hle]; omega, fun k hk => ?_⟩
  rw [hle] at hk
  rw [erase_at es i k]
  have hk' : (if k < i then k else k + 1) < es.length := by split <;> omega
  obtain ⟨e1, e2, b', l', c', e3, e4⟩ := h.2 _ hk'
  have x0 := hx k 0 hk (by omega)
  have x1 := hx k 1 hk (by omega)
  simp only [Nat.add_zero] at x0
  exact ⟨x0.trans e1, e2, b', l', c', x1.trans e3, e4⟩
/- a row of such entries that the call owns is a list of entries -/
theorem ents_row {w : World} {base : Nat} {t : TypeId} {A : Nat → Prop} {v : Value} {n : Nat} {xs : List Value} {es : List Ent} (hl : es.length = n) (hown : w.ownsRow base t 2 v n xs) (h : Ents w A xs es) :
    ∃ b cap, v = .slice b n cap ∧ EntsAt w b n cap es := by
  obtain ⟨_, ⟨rfl, rfl⟩ | ⟨g, cap, cur, rfl, hb, hh, hc, hm, hs, ht⟩⟩ := hown
  · exact ⟨none, 0, rfl, hl, Nat.le_refl _, Nat.zero_le _, .inl rfl⟩
  · refine ⟨some ⟨g, 0, none⟩, cap, rfl, hl, hc, hm, .inr ⟨_, rfl, fun k hk => ?_⟩⟩
    have hcell : ∀ j, j < 2 → w.cell? ⟨g, k * 2 + j, none⟩ = xs[k * 2 + j]? := by
      intro j hj
      have h2 : (cur.toList.take (n * 2))[k * 2 + j]? = xs[k * 2 + j]? := by rw [ht]
      rw [List.getElem?_take, if_pos (by omega)] at h2
      simp only [World.cell?, hh]
      rw [← h2]
      simp
    have ea : (⟨g, 0, none⟩ : Addr).add (k * 2) = ⟨g, k * 2, none⟩ := addr_add g (k * 2)
    rw [ea]
    obtain ⟨h1, h2, b, l, c, h3, h4⟩ := h.2 k (by omega)
    exact ⟨(hcell 0 (by omega)).trans h1, h2, b, l, c, (hcell 1 (by omega)).trans h3, h4.1⟩
/- a slice of entries that lie, with their words, in blocks of which A holds -/
def EntIn (W : World) (A : Nat → Prop) (a : Addr) (e : Ent) : Prop :=
  W.cell? a = some (.int .u32 e.1) ∧ isW e.1 ∧ ∃ b l c, W.cell? ⟨a.block, a.off + 1, none⟩ = some (.slice b l c) ∧ WordsIn W A b l c e.2
def EntsIn (W : World) (A : Nat → Prop) (a : Option Addr) (len cap : Nat) (es : List Ent) : Prop :=
  es.length = len ∧ len ≤ cap ∧ cap ≤ maxLen ∧ (len = 0 ∨ ∃ y, a = some y ∧ A y.block ∧ ∀ k, k < len → EntIn W A (y.add (k * 2)) (es.getD k zeroE))
theorem EntsIn.at {W : World} {A : Nat → Prop} {a : Option Addr} {len cap : Nat} {es : List Ent} (h : EntsIn W A a len cap es) : EntsAt W a len cap es := by
  obtain ⟨h1, h2, h3, h5⟩ := h
  refine ⟨h1, h2, h3, h5.imp id (fun ⟨y, e, _, h6⟩ => ⟨y, e, fun k hk => ?_⟩)⟩
  obtain ⟨c0, hw, b, l, c, c1, hc⟩ := h6 k hk
  exact ⟨c0, hw, b, l, c, c1, hc.1⟩
theorem EntsIn.mono {W : World} {A A' : Nat → Prop} {a : Option Addr} {len cap : Nat} {es : List Ent} (h : EntsIn W A a len cap es) (hA : ∀ n, A n → A' n) : EntsIn W A' a len cap es := by
  obtain ⟨h1, h2, h3, h5⟩ := h
  refine ⟨h1, h2, h3, h5.imp id (fun ⟨y, e, hy, h6⟩ => ⟨y, e, hA _ hy, fun k hk => ?_⟩)⟩
  obtain ⟨c0, hw, b, l, c, c1, hc⟩ := h6 k hk
  exact ⟨c0, hw, b, l, c, c1, hc.mono hA⟩
theorem EntsIn.grown {W W' : World} {A : Nat → Prop} {a : Option Addr} {len cap : Nat} {es : List Ent} {row : Option Nat} (h : EntsIn W A a len cap es) (hg : W.grownBy W' row) (hA : ∀ n, A n → some n ≠ row) : EntsIn W' A a len cap es := by
  obtain ⟨h1, h2, h3, h5⟩ := h
  refine ⟨h1, h2, h3, h5.imp id (fun ⟨y, e, hy, h6⟩ => ⟨y, e, hy, fun k hk => ?_⟩)⟩
  obtain ⟨c0, hw, b, l, c, c1, hc⟩ := h6 k hk
  have hb : some (y.add (k * 2)).block ≠ row := by rw [add_block]; exact hA _ hy
  exact ⟨(hg.cell_far _ (lt_of_cell c0) hb).trans c0, hw, b, l, c, (hg.cell_far ⟨(y.add (k * 2)).block, (y.add (k * 2)).off + 1, none⟩ (lt_of_cell c1) hb).trans c1, hc.grown hg hA⟩
theorem EntsIn.below {W W' : World} {A : Nat → Prop} {a : Option Addr} {len cap : Nat} {es : List Ent} (h : EntsIn W A a len cap es) (hb : Below W.heap.size W W') : EntsIn W' A a len cap es :=
  h.grown (grownBy_of_below hb none) (fun _ _ => by simp)
theorem rows_in {w : World} {base : Nat} {t : TypeId} {A : Nat → Prop} {v : Value} {n : Nat} {xs : List Value} {es : List Ent} (hl : es.length = n) (hown : w.ownsRow base t 2 v n xs) (h : Ents w A xs es) (hA : ∀ n, base ≤ n → A n) :
    ∃ b cap, v = .slice b n cap ∧ EntsIn w A b n cap es := by
  obtain ⟨b, cap, rfl, hE⟩ := ents_row hl hown h
  refine ⟨b, cap, rfl, hE.1, hE.2.1, hE.2.2.1, ?_⟩
  obtain ⟨_, ⟨hv, hn⟩ | ⟨g, cap', cur, hv, hb, hh, hc, hm, hs, ht⟩⟩ := hown
  · exact .inl hn
  · simp only [Value.slice.injEq, true_and] at hv
    obtain ⟨rfl, rfl⟩ := hv
    refine .inr ⟨_, rfl, hA g hb, fun k hk => ?_⟩
    have hcell : ∀ j, j < 2 → w.cell? ⟨g, k * 2 + j, none⟩ = xs[k * 2 + j]? := by
      intro j hj
      have h2 : (cur.toList.take (n * 2))[k * 2 + j]? = xs[k * 2 + j]? := by rw [ht]
      rw [List.getElem?_take, if_pos (by omega)] at h2
      simp only [World.cell?, hh]
      rw [← h2]
      simp
    have ea : (⟨g, 0, none⟩ : Addr).add (k * 2) = ⟨g, k * 2, none⟩ := addr_add g (k * 2)
    rw [ea]
    obtain ⟨h1, h2, b, l, c, h3, h4⟩ := h.2 k (by omega)
    exact ⟨(hcell 0 (by omega)).trans h1, h2, b, l, c, (hcell 1 (by omega)).trans h3, h4⟩
/- a table that a call returns: it lies in blocks of which A holds -/
def TabPost (t : Tb) (A : Nat → Prop) (w : World) (e : Ending) (w' : World) : Prop :=
  ∃ b n c, e = .returned (tbV t.1 (.slice b n c) t.2.2) ∧ Below w.heap.size w w' ∧ EntsIn w' A b n c t.2.1
/- what Own leaves, as such a table -/
theorem own_in {s : Sc} {x : Int} {es : List Ent} {w : World} {e : Ending} {w' : World} (h : OwnPost s x es w e w') : TabPost (s, es, x) (fun n => w.heap.size ≤ n) w e w' := by
  obtain ⟨v, xs, rfl, hb, hown, hOd⟩ := h
  obtain ⟨b, c, rfl, hE⟩ := rows_in rfl hown (hOd.ents.mono (A' := fun n => w.heap.size ≤ n) (fun n hn => by omega)) (fun n hn => by omega)
  exact ⟨b, _, c, rfl, hb, hE⟩
theorem own_prefix {w : World} {base g n cap i : Nat} {e : TypeId} {size : Nat} {xs : List Value} (h : w.ownsRow base e size (.slice (some ⟨g, 0, none⟩) n cap) n xs) (hi : i ≤ n) : w.ownsRow base e size (.slice (some ⟨g, 0, none⟩) i cap) i (xs.take (i * size)) := by
  obtain ⟨h1, ⟨h2, _⟩ | ⟨g', cap', cur, hv, hb, hh, hc, hm, hs, ht⟩⟩ := h
  · cases h2
  · simp only [Value.slice.injEq, Option.some.injEq, Addr.mk.injEq, and_true, true_and] at hv
    obtain ⟨rfl, rfl⟩ := hv
    refine ⟨?_, .inr ⟨g, cap, cur, rfl, hb, hh, by omega, hm, hs, ?_⟩⟩
    · have := Nat.mul_le_mul_right size hi
      rw [List.length_take, h1]
      omega
    · rw [← ht, List.take_take, Nat.min_eq_left (Nat.mul_le_mul_right size hi)]
theorem own_cells {w : World} {base g n cap : Nat} {e : TypeId} {size : Nat} {xs : List Value} (h : w.ownsRow base e size (.slice (some ⟨g, 0, none⟩) n cap) n xs) : ∀ j u, xs[j]? = some u → w.cell? ⟨g, j, none⟩ = some u := by
  obtain ⟨h1, ⟨h2, _⟩ | ⟨g', cap', cur, hv, hb, hh, hc, hm, hs, ht⟩⟩ := h
  · cases h2
  · simp only [Value.slice.injEq, Option.some.injEq, Addr.mk.injEq, and_true, true_and] at hv
    obtain ⟨rfl, rfl⟩ := hv
    intro j u hj
    rw [← ht, List.getElem?_take] at hj
    split at hj
    · simp only [World.cell?, hh]
      simpa using hj
    · cases hj
end Go.Proofs.Ytmlmdhnjafakiaa
