/-
  Programs in memory that the call itself makes, continued: rows of functions.
-/
import Derived.Test.YtlbhmopmfddhjaaDoorM2
namespace Go.Proofs.YtlbhmopmfddhjaaDoor
open Go.RowKit

theorem InstHere.grown {W W' : World} {a : Addr} {i : I} {row : Option Nat} (h : InstHere W a i) (hg : W.grownBy W' row) (hne : some a.block ≠ row) : InstHere W' a i := by
  obtain ⟨c0, c1, c2, c3, c4, c5, c6⟩ := h
  exact ⟨(hg.cell_far _ (lt_of_cell c0) hne).trans c0, (hg.cell_far _ (lt_of_cell c1) hne).trans c1, (hg.cell_far _ (lt_of_cell c2) hne).trans c2, (hg.cell_far _ (lt_of_cell c3) hne).trans c3, (hg.cell_far _ (lt_of_cell c4) hne).trans c4, (hg.cell_far _ (lt_of_cell c5) hne).trans c5, (hg.cell_far _ (lt_of_cell c6) hne).trans c6⟩
theorem CodeAt.grown {W W' : World} {b : Option Addr} {l cap : Nat} {c : List I} {row : Option Nat} (h : CodeAt W b l cap c) (hg : W.grownBy W' row) (hne : ∀ z, b = some z → some z.block ≠ row) : CodeAt W' b l cap c := by
  obtain ⟨h1, h2, h3, h4, h5⟩ := h
  refine ⟨h1, h2, h3, h4, ?_⟩
  rcases h5 with h5 | ⟨y, rfl, h6⟩
  · exact .inl h5
  · exact .inr ⟨y, rfl, fun k hk => (h6 k hk).grown hg (by rw [add_block]; exact hne y rfl)⟩

/- the cells of a row of functions, the codes being the call's own and lying elsewhere than the row -/
def OneFn (W : World) (base : Nat) (row : Option Nat) (cv : Value) (code : List I) : Prop :=
  ∃ b l c, cv = .slice b l c ∧ CodeAt W b l c code ∧ ∀ z, b = some z → base ≤ z.block ∧ z.block < W.heap.size ∧ some z.block ≠ row
def Codes (W : World) (base : Nat) (row : Option Nat) (xs : List Value) (fs : List Fun) : Prop :=
  xs.length = fs.length * 2 ∧ ∀ k, k < fs.length → xs[k * 2]? = some (.int .i64 (fs.getD k zeroF).1) ∧ ∃ cv, xs[k * 2 + 1]? = some cv ∧ OneFn W base row cv (fs.getD k zeroF).2
theorem OneFn.below {W W' : World} {base : Nat} {row : Option Nat} {cv : Value} {code : List I} (h : OneFn W base row cv code) (hb : Below W.heap.size W W') : OneFn W' base row cv code := by
  obtain ⟨b, l, c, e, h1, h2⟩ := h
  exact ⟨b, l, c, e, h1.below hb, fun z hz => ⟨(h2 z hz).1, Nat.lt_of_lt_of_le (h2 z hz).2.1 hb.size, (h2 z hz).2.2⟩⟩
theorem OneFn.grown {W W' : World} {base : Nat} {row row' : Option Nat} {cv : Value} {code : List I} (h : OneFn W base row cv code) (hg : W.grownBy W' row) (hr : row' = row ∨ ∃ H, row' = some H ∧ W.heap.size ≤ H) : OneFn W' base row' cv code := by
  obtain ⟨b, l, c, e, h1, h2⟩ := h
  refine ⟨b, l, c, e, h1.grown hg (fun z hz => (h2 z hz).2.2), fun z hz => ⟨(h2 z hz).1, Nat.lt_of_lt_of_le (h2 z hz).2.1 hg.size, ?_⟩⟩
  rcases hr with rfl | ⟨H, rfl, hH⟩
  · exact (h2 z hz).2.2
  · have := (h2 z hz).2.1
    simp
    omega
theorem Codes.nil (W : World) (base : Nat) (row : Option Nat) : Codes W base row [] [] := ⟨rfl, fun k hk => by simp at hk⟩
theorem Codes.below {W W' : World} {base : Nat} {row : Option Nat} {xs : List Value} {fs : List Fun} (h : Codes W base row xs fs) (hb : Below W.heap.size W W') : Codes W' base row xs fs :=
  ⟨h.1, fun k hk => ⟨(h.2 k hk).1, by
    obtain ⟨cv, h1, h2⟩ := (h.2 k hk).2
    exact ⟨cv, h1, h2.below hb⟩⟩⟩
theorem Codes.grown {W W' : World} {base : Nat} {row row' : Option Nat} {xs : List Value} {fs : List Fun} (h : Codes W base row xs fs) (hg : W.grownBy W' row) (hr : row' = row ∨ ∃ H, row' = some H ∧ W.heap.size ≤ H) : Codes W' base row' xs fs :=
  ⟨h.1, fun k hk => ⟨(h.2 k hk).1, by
    obtain ⟨cv, h1, h2⟩ := (h.2 k hk).2
    exact ⟨cv, h1, h2.grown hg hr⟩⟩⟩
theorem Codes.snoc {W : World} {base : Nat} {row : Option Nat} {xs : List Value} {fs : List Fun} (h : Codes W base row xs fs) {args : Int} {cv : Value} {code : List I} (h1 : OneFn W base row cv code) :
    Codes W base row (xs ++ [.int .i64 args, cv]) (fs ++ [(args, code)]) := by
  refine ⟨by simp [h.1]; omega, fun k hk => ?_⟩
  have hl := h.1
  by_cases hkl : k < fs.length
  · have hg : (fs ++ [(args, code)]).getD k zeroF = fs.getD k zeroF := by
      simp [List.getD_eq_getElem?_getD, List.getElem?_append_left hkl]
    rw [hg]
    obtain ⟨h2, cv', h3, h4⟩ := h.2 k hkl
    exact ⟨by rw [List.getElem?_append_left (by omega)]; exact h2, cv', by rw [List.getElem?_append_left (by omega)]; exact h3, h4⟩
  · have hk2 : k = fs.length := by simp at hk; omega
    subst hk2
    have hg : (fs ++ [(args, code)]).getD fs.length zeroF = (args, code) := by
      simp [List.getD_eq_getElem?_getD]
    rw [hg]
    refine ⟨?_, cv, ?_, h1⟩
    · rw [List.getElem?_append_right (by omega), hl]
      simp
    · rw [List.getElem?_append_right (by omega), hl]
      simp
/- a row of functions that the call owns is a list of functions -/
theorem fns_own {w : World} {base : Nat} {t : TypeId} {v : Value} {n : Nat} {xs : List Value} {fs : List Fun} (hl : fs.length = n) (hown : w.ownsRow base t 2 v n xs) (h : Codes w base v.ownBlock xs fs) :
    ∃ b cap, v = .slice b n cap ∧ FnsAt w b n cap fs := by
  obtain ⟨_, ⟨rfl, rfl⟩ | ⟨g, cap, cur, rfl, hb, hh, hc, hm, hs, ht⟩⟩ := hown
  · exact ⟨none, 0, rfl, hl, Nat.le_refl _, Nat.zero_le _, .inl rfl⟩
  · refine ⟨some ⟨g, 0, none⟩, cap, rfl, hl, hc, hm, .inr ⟨_, rfl, fun k hk => ?_⟩⟩
    have hcell : ∀ j, j < 2 → w.cell? ⟨g, k * 2 + j, none⟩ = xs[k * 2 + j]? := by
      intro j hj
      have h2 : (cur.toList.take (n * 2))[k * 2 + j]? = xs[k * 2 + j]? := by rw [ht]
      rw [List.getElem?_take, if_pos (by omega)] at h2
      simp only [World.cell?, hh]
      rw [← h2]
      simp
    have ea : (⟨g, 0, none⟩ : Addr).add (k * 2) = ⟨g, k * 2, none⟩ := addr_add g (k * 2)
    rw [ea]
    obtain ⟨h1, cv, h2, b, l, c, rfl, h3, _⟩ := h.2 k (by omega)
    exact ⟨(hcell 0 (by omega)).trans h1, b, l, c, (hcell 1 (by omega)).trans h2, h3⟩
end Go.Proofs.YtlbhmopmfddhjaaDoor
