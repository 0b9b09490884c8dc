/-
  Tables in memory: slices of words, slices of entries; rows that the call itself makes.
-/
import Derived.Test.YtilddlgcfbefiaaDoorGpt
import Derived.Test.YtilddlgcfbefiaaDoorA4
namespace Go.Proofs.YtilddlgcfbefiaaDoor
set_option linter.unusedSimpArgs false
set_option linter.unusedVariables false
open Go.RowKit

/- the value of a table; its cells -/
abbrev tbA (s : Sc) (u : Value) (x : Int) : Array Value := #[.int .i64 s.1, .int .i64 s.2.1, .int .i64 s.2.2.1, .int .i64 s.2.2.2, u, .int .u32 x]
abbrev tbV (s : Sc) (u : Value) (x : Int) : Value := .agg #[.int .i64 s.1, .int .i64 s.2.1, .int .i64 s.2.2.1, .int .i64 s.2.2.2, u, .int .u32 x]
abbrev tbO (s : Sc) (u : Value) (x : Int) : Obj := .cells #[.int .i64 s.1, .int .i64 s.2.1, .int .i64 s.2.2.1, .int .i64 s.2.2.2, u, .int .u32 x] 42
theorem infoT : (Tryd.prog.info? 42).map (fun i => (i.zero, i.size, i.bytes)) = some (some (.agg #[.int .i64 0, .int .i64 0, .int .i64 0, .int .i64 0, .slice none 0 0, .int .u32 0]), 6, 64) := by kernel_rfl
theorem infoE : (Tryd.prog.info? 66).map (fun i => (i.zero, i.size, i.bytes)) = some (some (.agg #[.int .u32 0, .slice none 0 0]), 2, 32) := by kernel_rfl
theorem infoW : (Tryd.prog.info? 25).map (fun i => (i.zero, i.size, i.bytes)) = some (some (.int .u32 0), 1, 4) := by kernel_rfl

/- a slice of words -/
def WordsAt (w : World) (a : Option Addr) (len cap : Nat) (zs : List Int) : Prop :=
  zs.length = len ∧ len ≤ cap ∧ cap ≤ maxLen ∧ wordL zs ∧ (len = 0 ∨ ∃ x, a = some x ∧ ∀ i, i < len → w.cell? (x.add i) = some (.int .u32 (zs.getD i 0)))
theorem WordsAt.below {w w' : World} {a : Option Addr} {len cap : Nat} {zs : List Int} (h : WordsAt w a len cap zs) (hb : Below w.heap.size w w') : WordsAt w' a len cap zs := by
  obtain ⟨h1, h2, h3, h4, h5⟩ := h
  refine ⟨h1, h2, h3, h4, ?_⟩
  rcases h5 with h5 | ⟨x, h5, h6⟩
  · exact .inl h5
  · exact .inr ⟨x, h5, fun i hi => (hb.cell (lt_of_cell (h6 i hi))).trans (h6 i hi)⟩
theorem WordsAt.grown {W W' : World} {b : Option Addr} {l cap : Nat} {c : List Int} {row : Option Nat} (h : WordsAt W b l cap c) (hg : W.grownBy W' row) (hne : ∀ z, b = some z → some z.block ≠ row) : WordsAt W' b l cap c := by
  obtain ⟨h1, h2, h3, h4, h5⟩ := h
  refine ⟨h1, h2, h3, h4, ?_⟩
  rcases h5 with h5 | ⟨y, rfl, h6⟩
  · exact .inl h5
  · exact .inr ⟨y, rfl, fun k hk => (hg.cell_far _ (lt_of_cell (h6 k hk)) (by rw [add_block]; exact hne y rfl)).trans (h6 k hk)⟩
theorem words_nil (w : World) : WordsAt w none 0 0 [] := ⟨rfl, Nat.le_refl _, Nat.zero_le _, wordL_nil, .inl rfl⟩
theorem WordsAt.max {w : World} {a : Option Addr} {len cap : Nat} {zs : List Int} (h : WordsAt w a len cap zs) : len ≤ 9223372036854775807 := by
  have h1 := h.2.1
  have h2 := h.2.2.1
  unfold maxLen at h2
  omega
/- an entry's two cells from a on, and its words; a slice of entries -/
def EntHere (W : World) (a : Addr) (e : Ent) : Prop :=
  W.cell? a = some (.int .u32 e.1) ∧ isW e.1 ∧ ∃ b l c, W.cell? ⟨a.block, a.off + 1, none⟩ = some (.slice b l c) ∧ WordsAt W b l c e.2
theorem EntHere.below {W W' : World} {a : Addr} {e : Ent} (h : EntHere W a e) (hb : Below W.heap.size W W') : EntHere W' a e := by
  obtain ⟨c0, hk, b, l, c, c1, hc⟩ := h
  exact ⟨(hb.cell (lt_of_cell c0)).trans c0, hk, b, l, c, (hb.cell (lt_of_cell c1)).trans c1, hc.below hb⟩
theorem EntHere.ok {W : World} {a : Addr} {e : Ent} (h : EntHere W a e) : okE e := by
  obtain ⟨_, hk, b, l, c, _, hc⟩ := h
  exact ⟨hk, hc.2.2.2.1⟩
def EntsAt (W : World) (a : Option Addr) (len cap : Nat) (es : List Ent) : Prop :=
  es.length = len ∧ len ≤ cap ∧ cap ≤ maxLen ∧ (len = 0 ∨ ∃ y, a = some y ∧ ∀ k, k < len → EntHere W (y.add (k * 2)) (es.getD k zeroE))
theorem EntsAt.below {W W' : World} {a : Option Addr} {len cap : Nat} {es : List Ent} (h : EntsAt W a len cap es) (hb : Below W.heap.size W W') : EntsAt W' a len cap es := by
  obtain ⟨h1, h2, h3, h5⟩ := h
  refine ⟨h1, h2, h3, ?_⟩
  rcases h5 with h5 | ⟨y, h5, h6⟩
  · exact .inl h5
  · exact .inr ⟨y, h5, fun k hk => (h6 k hk).below hb⟩
theorem ents_nil (w : World) : EntsAt w none 0 0 [] := ⟨rfl, Nat.le_refl _, Nat.zero_le _, .inl rfl⟩
theorem EntsAt.max {w : World} {a : Option Addr} {len cap : Nat} {es : List Ent} (h : EntsAt w a len cap es) : len ≤ 9223372036854775807 := by
  have h1 := h.2.1
  have h2 := h.2.2.1
  unfold maxLen at h2
  omega
theorem EntsAt.ok {w : World} {a : Option Addr} {len cap : Nat} {es : List Ent} (h : EntsAt w a len cap es) : ∀ e ∈ es, okE e := by
  intro e he
  obtain ⟨k, hk, rfl⟩ := List.getElem_of_mem he
  obtain ⟨y, _, h6⟩ := h.2.2.2.resolve_left (by have := h.1; omega)
  have := (h6 k (by rw [← h.1]; exact hk)).ok
  rwa [List.getD_eq_getElem?_getD, List.getElem?_eq_getElem hk] at this

/- words as cells -/
def wordsV (zs : List Int) : List Value := zs.map (Value.int .u32)
theorem wordsV_len (zs : List Int) : (wordsV zs).length = zs.length := by simp [wordsV]
theorem wordsV_one (zs : List Int) : ∀ u ∈ wordsV zs, u.oneCell' = true := by
  intro u hu
  obtain ⟨a, _, rfl⟩ := List.mem_map.1 hu
  rfl
theorem wordsV_cells {w : World} {x : Addr} {len : Nat} {zs : List Int} (hl : zs.length = len) (h : ∀ i, i < len → w.cell? (x.add i) = some (.int .u32 (zs.getD i 0))) : ∀ j u, (wordsV zs)[j]? = some u → w.cell? (x.add j) = some u := by
  intro j u hj
  have hj2 : j < zs.length := by
    have := (List.getElem?_eq_some_iff.1 hj).1
    simpa [wordsV] using this
  have h := h j (by omega)
  rw [List.getD_eq_getElem?_getD, List.getElem?_eq_getElem hj2] at h
  unfold wordsV at hj
  rw [List.getElem?_map, List.getElem?_eq_getElem hj2] at hj
  simp at hj h
  rw [h, hj]
/- a row of words that the call owns -/
theorem words_own {w : World} {base : Nat} {t : TypeId} {v : Value} {n : Nat} {c : List Int} (hl : c.length = n) (hok : wordL c) (h : w.ownsRow base t 1 v n (wordsV c)) :
    ∃ b cap, v = .slice b n cap ∧ WordsAt w b n cap c ∧ ∀ z, b = some z → base ≤ z.block ∧ z.block < w.heap.size ∧ v.ownBlock = some z.block := by
  obtain ⟨_, ⟨rfl, rfl⟩ | ⟨g, cap, cur, rfl, hb, hh, hc, hm, hs, ht⟩⟩ := h
  · exact ⟨none, 0, rfl, ⟨hl, Nat.le_refl _, Nat.zero_le _, hok, .inl rfl⟩, fun z hz => by cases hz⟩
  · refine ⟨some ⟨g, 0, none⟩, cap, rfl, ⟨hl, hc, hm, hok, .inr ⟨_, rfl, fun k hk => ?_⟩⟩, fun z hz => ?_⟩
    · have h2 : (cur.toList.take (n * 1))[k]? = (wordsV c)[k]? := by rw [ht]
      rw [List.getElem?_take, if_pos (by omega)] at h2
      have ea : (⟨g, 0, none⟩ : Addr).add k = ⟨g, k, none⟩ := addr_add g k
      rw [ea]
      simp only [World.cell?, hh]
      simp only [Array.getElem?_toList] at h2
      rw [h2]
      simp [wordsV, List.getD_eq_getElem?_getD, List.getElem?_eq_getElem (show k < c.length by omega)]
    · cases hz
      exact ⟨hb, (Array.getElem?_eq_some_iff.1 hh).1, rfl⟩
theorem grownBy_refl (w : World) (row : Option Nat) : w.grownBy w row := ⟨rfl, rfl, rfl, Nat.le_refl _, fun _ _ _ => rfl⟩
theorem grownBy_of_below {w w' : World} (h : Below w.heap.size w w') (row : Option Nat) : w.grownBy w' row := ⟨h.os, h.tape, h.output, h.size, fun k hk _ => h.block k hk⟩
theorem grownBy_setCell (w : World) (a : Addr) (u : Value) : w.grownBy (w.setCell a u) (some a.block) := ⟨rfl, rfl, rfl, by simp [World.setCell], fun k _ hk => Below.heap_setCell w a u k (fun e => hk (by rw [e]))⟩
theorem grownBy_setRow (w : World) (g : Nat) (cs : Array Value) : w.grownBy (w.setRow g cs) (some g) := ⟨rfl, rfl, rfl, by simp, fun k _ hk => setRow_other w g k _ (fun e => hk (by rw [e]))⟩
theorem own_far {w w' : World} {base g : Nat} {e : TypeId} {size : Nat} {v : Value} {n : Nat} {xs : List Value} (h : w.ownsRow base e size v n xs) (hg : w.grownBy w' (some g)) (hlt : g < base) : w'.ownsRow base e size v n xs :=
  h.kept hg (.inr (fun e => by have := (h.lt g e).1; omega))
theorem own_base {w : World} {base base' : Nat} {e : TypeId} {size : Nat} {v : Value} {n : Nat} {xs : List Value} (h : w.ownsRow base e size v n xs) (hb : base' ≤ base) : w.ownsRow base' e size v n xs := by
  obtain ⟨h1, h2 | ⟨g, cap, cur, hv, hbg, r⟩⟩ := h
  · exact ⟨h1, .inl h2⟩
  · exact ⟨h1, .inr ⟨g, cap, cur, hv, Nat.le_trans hb hbg, r⟩⟩

/- the cells xs of a row of entries; their words lie each in a row of its own, elsewhere than the row -/
def Owned (W : World) (base : Nat) (row : Option Nat) (xs : List Value) (es : List Ent) : Prop :=
  xs.length = es.length * 2 ∧
  (∀ k, k < es.length → xs[k * 2]? = some (.int .u32 (es.getD k zeroE).1) ∧ ∃ cv, xs[k * 2 + 1]? = some cv ∧ W.ownsRow base 25 1 cv (es.getD k zeroE).2.length (wordsV (es.getD k zeroE).2) ∧ okE (es.getD k zeroE) ∧ ∀ g, cv.ownBlock = some g → some g ≠ row) ∧
  ∀ j k cv cv' g, j < es.length → k < es.length → j ≠ k → xs[j * 2 + 1]? = some cv → xs[k * 2 + 1]? = some cv' → cv.ownBlock = some g → cv'.ownBlock ≠ some g
theorem Owned.nil (W : World) (base : Nat) (row : Option Nat) : Owned W base row [] [] := ⟨rfl, fun k hk => by simp at hk, fun j k cv cv' g hj => by simp at hj⟩
theorem Owned.base {W : World} {base base' : Nat} {row : Option Nat} {xs : List Value} {es : List Ent} (h : Owned W base row xs es) (hb : base' ≤ base) : Owned W base' row xs es :=
  ⟨h.1, fun k hk => ⟨(h.2.1 k hk).1, by
    obtain ⟨cv, h1, h2, h3⟩ := (h.2.1 k hk).2
    exact ⟨cv, h1, own_base h2 hb, h3⟩⟩, h.2.2⟩
theorem Owned.grown {W W' : World} {base : Nat} {row row' row1 : Option Nat} {xs : List Value} {es : List Ent} (h : Owned W base row xs es) (hg : W.grownBy W' row1) (hr : row1 = row ∨ ∀ g, row1 = some g → g < base) (hr' : row' = row ∨ ∀ g, row' = some g → W.heap.size ≤ g) : Owned W' base row' xs es := by
  refine ⟨h.1, fun k hk => ⟨(h.2.1 k hk).1, ?_⟩, h.2.2⟩
  obtain ⟨cv, h1, h2, h3, h4⟩ := (h.2.1 k hk).2
  refine ⟨cv, h1, h2.kept hg ?_, h3, fun g hcv => ?_⟩
  · cases hcv : cv.ownBlock with
    | none => exact .inl rfl
    | some g =>
      right
      rcases hr with rfl | hr
      · exact h4 g hcv
      · intro e
        have := hr g e.symm
        have := (h2.lt g hcv).1
        omega
  · rcases hr' with rfl | hr'
    · exact h4 g hcv
    · intro e
      have := hr' g e.symm
      have := (h2.lt g hcv).2
      omega
theorem Owned.below {W W' : World} {base : Nat} {row : Option Nat} {xs : List Value} {es : List Ent} (h : Owned W base row xs es) (hb : Below W.heap.size W W') : Owned W' base row xs es :=
  h.grown (grownBy_of_below hb none) (.inr (fun g hg => by cases hg)) (.inl rfl)
theorem Owned.snoc {W : World} {base N : Nat} {row : Option Nat} {xs : List Value} {es : List Ent} (h : Owned W base row xs es) {key : Int} {cv : Value} {ws : List Int} (h1 : W.ownsRow base 25 1 cv ws.length (wordsV ws)) (h2 : okE (key, ws))
    (h3 : ∀ g, cv.ownBlock = some g → some g ≠ row ∧ N ≤ g) (hN : ∀ k cv g, k < es.length → xs[k * 2 + 1]? = some cv → cv.ownBlock = some g → g < N) : Owned W base row (xs ++ [.int .u32 key, cv]) (es ++ [(key, ws)]) := by
  have hl := h.1
  have hlast : (xs ++ [.int .u32 key, cv])[es.length * 2 + 1]? = some cv := by
    rw [List.getElem?_append_right (by omega), hl]
    simp
  refine ⟨by simp [h.1]; omega, fun k hk => ?_, ?_⟩
  · by_cases hkl : k < es.length
    · have hg : (es ++ [(key, ws)]).getD k zeroE = es.getD k zeroE := by
        simp [List.getD_eq_getElem?_getD, List.getElem?_append_left hkl]
      rw [hg]
      obtain ⟨e1, cv', e2, e3⟩ := h.2.1 k hkl
      exact ⟨by rw [List.getElem?_append_left (by omega)]; exact e1, cv', by rw [List.getElem?_append_left (by omega)]; exact e2, e3⟩
    · have hk2 : k = es.length := by simp at hk; omega
      subst hk2
      have hg : (es ++ [(key, ws)]).getD es.length zeroE = (key, ws) := by simp [List.getD_eq_getElem?_getD]
      rw [hg]
      refine ⟨?_, cv, hlast, h1, h2, fun g hcv => (h3 g hcv).1⟩
      rw [List.getElem?_append_right (by omega), hl]
      simp
  · intro j k cj ck g hj hk hne ej ek hcj hck
    simp only [List.length_append, List.length_cons, List.length_nil] at hj hk
    by_cases hjl : j < es.length
    · rw [List.getElem?_append_left (by omega)] at ej
      by_cases hkl : k < es.length
      · rw [List.getElem?_append_left (by omega)] at ek
        exact h.2.2 j k cj ck g hjl hkl hne ej ek hcj hck
      · have hk2 : k = es.length := by omega
        subst hk2
        rw [hlast] at ek
        obtain rfl := Option.some.inj ek
        have := hN j cj g hjl ej hcj
        have := (h3 g hck).2
        omega
    · have hj2 : j = es.length := by omega
      subst hj2
      rw [hlast] at ej
      obtain rfl := Option.some.inj ej
      rw [List.getElem?_append_left (by omega)] at ek
      have := hN k ck g (by omega) ek hck
      have := (h3 g hcj).2
      omega
theorem Owned.lt {W : World} {base : Nat} {row : Option Nat} {xs : List Value} {es : List Ent} (h : Owned W base row xs es) : ∀ k cv g, k < es.length → xs[k * 2 + 1]? = some cv → cv.ownBlock = some g → g < W.heap.size := by
  intro k cv g hk hx hg
  obtain ⟨cv', h1, h2, _⟩ := (h.2.1 k hk).2
  rw [h1] at hx
  obtain rfl := Option.some.inj hx
  exact (h2.lt g hg).2
theorem Owned.ok {W : World} {base : Nat} {row : Option Nat} {xs : List Value} {es : List Ent} (h : Owned W base row xs es) : ∀ e ∈ es, okE e := by
  intro e he
  obtain ⟨k, hk, rfl⟩ := List.getElem_of_mem he
  obtain ⟨_, cv, _, _, h3, _⟩ := h.2.1 k hk
  rwa [List.getD_eq_getElem?_getD, List.getElem?_eq_getElem hk] at h3
/- a row of entries that the call owns is a list of entries -/
theorem ents_own {w : World} {base : Nat} {t : TypeId} {v : Value} {n : Nat} {xs : List Value} {es : List Ent} (hl : es.length = n) (hown : w.ownsRow base t 2 v n xs) (h : Owned w base v.ownBlock xs es) :
    ∃ b cap, v = .slice b n cap ∧ EntsAt w b n cap es := by
  obtain ⟨_, ⟨rfl, rfl⟩ | ⟨g, cap, cur, rfl, hb, hh, hc, hm, hs, ht⟩⟩ := hown
  · exact ⟨none, 0, rfl, hl, Nat.le_refl _, Nat.zero_le _, .inl rfl⟩
  · refine ⟨some ⟨g, 0, none⟩, cap, rfl, hl, hc, hm, .inr ⟨_, rfl, fun k hk => ?_⟩⟩
    have hcell : ∀ j, j < 2 → w.cell? ⟨g, k * 2 + j, none⟩ = xs[k * 2 + j]? := by
      intro j hj
      have h2 : (cur.toList.take (n * 2))[k * 2 + j]? = xs[k * 2 + j]? := by rw [ht]
      rw [List.getElem?_take, if_pos (by omega)] at h2
      simp only [World.cell?, hh]
      rw [← h2]
      simp
    have ea : (⟨g, 0, none⟩ : Addr).add (k * 2) = ⟨g, k * 2, none⟩ := addr_add g (k * 2)
    rw [ea]
    obtain ⟨h1, cv, h2, h3, h4, _⟩ := h.2.1 k (by omega)
    obtain ⟨b, c, rfl, hW, _⟩ := words_own rfl h4.2 h3
    exact ⟨(hcell 0 (by omega)).trans h1, h4.1, b, _, c, (hcell 1 (by omega)).trans h2, hW⟩
/- a table's cells in block g -/
def TbAt (w : World) (g : Nat) (s : Sc) (u : Value) (x : Int) : Prop :=
  w.cell? ⟨g, 0, none⟩ = some (.int .i64 s.1) ∧ w.cell? ⟨g, 1, none⟩ = some (.int .i64 s.2.1) ∧ w.cell? ⟨g, 2, none⟩ = some (.int .i64 s.2.2.1) ∧ w.cell? ⟨g, 3, none⟩ = some (.int .i64 s.2.2.2) ∧ w.cell? ⟨g, 4, none⟩ = some u ∧ w.cell? ⟨g, 5, none⟩ = some (.int .u32 x)
theorem TbAt.later {w w' : World} {g : Nat} {s : Sc} {u : Value} {x : Int} (h : TbAt w g s u x) (hb : Below w.heap.size w w') : TbAt w' g s u x := by
  obtain ⟨c0, c1, c2, c3, c4, c5⟩ := h
  exact ⟨(hb.cell (lt_of_cell c0)).trans c0, (hb.cell (lt_of_cell c1)).trans c1, (hb.cell (lt_of_cell c2)).trans c2, (hb.cell (lt_of_cell c3)).trans c3, (hb.cell (lt_of_cell c4)).trans c4, (hb.cell (lt_of_cell c5)).trans c5⟩
theorem Box.tb {w : World} {g : Nat} {s : Sc} {u : Value} {x : Int} (h : Box w g 42 (tbA s u x)) : TbAt w g s u x := ⟨h.cell rfl, h.cell rfl, h.cell rfl, h.cell rfl, h.cell rfl, h.cell rfl⟩
theorem tbAt_new (w : World) (s : Sc) (u : Value) (x : Int) : TbAt (w.alloc (tbO s u x)) w.heap.size s u x := Box.tb (Box.new w 42 (tbA s u x))
end Go.Proofs.YtilddlgcfbefiaaDoor
