/-
  A program with one function more behind, in plain lists and in memory.
-/
import Derived.Test.YtlbhmopmfddhjaaDoorZ8
import Derived.Test.YtlbhmopmfddhjaaDoorV5
namespace Go.Proofs.YtlbhmopmfddhjaaDoor
open Go.RowKit

theorem St2.grown {w W W' : World} {a b : Option Addr} {len cap l cc : Nat} {g : Int} {row : Option Nat} (h : St2 w W a len cap g b l cc) (hg : W.grownBy W' row) (hr : ∀ k, row = some k → w.heap.size + 1 < k) : St2 w W' a len cap g b l cc :=
  ⟨h.1.grown hg (by have := h.1.size; omega) (fun k hk => by have := hr k hk; omega), h.2.1, h.2.2.1.grown hg (fun e => by have := hr _ e.symm; omega), h.2.2.2.grown hg (fun e => by have := hr _ e.symm; omega)⟩
theorem run_mid3 (x : Addr) (len cap q j : Nat) (i h : Int) (hi : i = (q : Int)) (hh : h = (j : Int)) (hq : q < cap) (hj : q ≤ j) (hc : j ≤ cap) (w : World) :
    (Instr.sliceAt 25 (.slice (some x) len cap) (some (.int .i64 i)) (some (.int .i64 h)) none).run Tryd.prog w = .ok (.slice (some (x.add q)) (j - q) (cap - q)) w := by
  subst hi hh
  have ht : Tryd.prog.underlying 25 = some (.slice (Tryd.prog.elem 25)) := by kernel_rfl
  have he : Tryd.prog.elem 25 = 5 := by kernel_rfl
  have hcq : ¬ cap = q := by omega
  rw [run_sliceAt_slice w 25 _ _ _ _ ht, run_slice_lh w 25 (some x) len cap ht .i64 .i64 q j (by omega) (by omega) (by omega), he, sizeOf5]
  simp [Result.andThen, sliced, hcq]
theorem SliceB.mid {w : World} {x : Addr} {len cap : Nat} {zs : List Int} (h : SliceB w (some x) len cap zs) {q j : Nat} (hq : q ≤ j) (hj : j ≤ len) : SliceB w (some (x.add q)) (j - q) (cap - q) ((zs.drop q).take (j - q)) := by
  obtain ⟨h1, h2, h3, h4, h5⟩ := h
  refine ⟨by rw [List.length_take, List.length_drop]; omega, by omega, by omega, fun z hz => h4 z (List.mem_of_mem_drop (List.mem_of_mem_take hz)), ?_⟩
  by_cases h0 : j - q = 0
  · exact .inl h0
  · obtain ⟨y, hy, h6⟩ := h5.resolve_left (by omega)
    cases hy
    exact .inr ⟨_, rfl, bytesAt_take (bytesAt_drop h6 q (by omega)) _⟩
theorem mayP_snoc {fs : List Fun} {f : Fun} (h : mayP (fs ++ [f]) = true) (h0 : fs ≠ []) : mayP fs = true := by
  have hl := mayP_len h
  have hpos : 0 < fs.length := List.length_pos_iff.2 h0
  have h1 : ∀ j, j < fs.length → fnB j (fs.getD j zeroF) = true := by
    intro j hj
    have h2 := mayP_fn h j (by simp; omega)
    have e : (fs ++ [f]).getD j zeroF = fs.getD j zeroF := by simp [List.getD_eq_getElem?_getD, List.getElem?_append_left hj]
    rwa [e] at h2
  rw [mayP_end h1]
  simp at hl ⊢
  omega
theorem encFs_snoc (fs : List Fun) (f : Fun) : encFs (fs ++ [f]) = encFs fs ++ encF f := by simp [encFs]
theorem encP_drop3 (fs : List Fun) : (encP fs).drop 3 = encFs fs := rfl
theorem encP_length (fs : List Fun) : (encP fs).length = 3 + (encFs fs).length := by simp [encP]; omega
theorem parts_bytes (fs : List Fun) (f : Fun) : ((encP (fs ++ [f])).drop 3).take ((encP fs).length - 3) = (encP fs).drop 3 := by
  rw [encP_drop3, encP_drop3, encFs_snoc, encP_length, List.take_append_of_le_length (by omega), List.take_of_length_le (by omega)]
theorem parts_longer (fs : List Fun) (f : Fun) : (encP fs).length + 2 ≤ (encP (fs ++ [f])).length := by
  rw [encP_length, encP_length, encFs_snoc, List.length_append, encF_len]
  omega
theorem Codes.base {W : World} {base base' : Nat} {row : Option Nat} {xs : List Value} {fs : List Fun} (h : Codes W base row xs fs) (hb : base' ≤ base) : Codes W base' row xs fs :=
  ⟨h.1, fun k hk => ⟨(h.2 k hk).1, by
    obtain ⟨cv, h1, b, l, c, e, h2, h3⟩ := (h.2 k hk).2
    exact ⟨cv, h1, b, l, c, e, h2, fun z hz => ⟨Nat.le_trans hb (h3 z hz).1, (h3 z hz).2⟩⟩⟩⟩
theorem code_block_lt {W : World} {z : Addr} {l cap : Nat} {c : List I} (h : CodeAt W (some z) l cap c) (h0 : l ≠ 0) : z.block < W.heap.size := by
  obtain ⟨y, hy, h6⟩ := h.2.2.2.2.resolve_left h0
  cases hy
  have := lt_of_cell (h6 0 (by omega)).1
  rwa [add_block] at this
/- behind the append of one function, in the variable's block N the new slice is stored -/
theorem parts_at {w W5 W' W6 : World} {base N g6 cp6 len cpv l cc : Nat} {bv : Option Addr} {xs : List Value} {fs : List Fun} {g : Int} {b : Option Addr} {c : List I} (hl : fs.length = len) (hC : CodeAt w b l cc c) (hbw : Below w.heap.size w W6)
    (hOw : Owned W5 base (Value.slice bv len cpv).ownBlock xs fs) (h5 : Below W5.heap.size W5 W') (hN : Box W5 N 24 #[.slice bv len cpv])
    (hO5 : W5.ownsRow base 28 2 (.slice bv len cpv) len xs)
    (hown6 : W6.ownsRow base 28 2 (.slice (some ⟨g6, 0, none⟩) (len + 1) cp6) (len + 1) (xs ++ [.int .i64 g, .slice b l cc])) (hgrow : W'.grownBy W6 (Value.slice bv len cpv).ownBlock) (hat : (Value.slice bv len cpv).ownBlock = some g6 ∨ g6 = W'.heap.size) :
    FnsAt (W6.setCell ⟨N, 0, none⟩ (.slice (some ⟨g6, 0, none⟩) (len + 1) cp6)) (some ⟨g6, 0, none⟩) (len + 1) cp6 (fs ++ [(g, c)]) := by
  have hN5 : Box W' N 24 #[.slice bv len cpv] := hN.below h5 hN.lt
  have hvN : some N ≠ (Value.slice bv len cpv).ownBlock := by
    intro e
    rcases hO5.2 with ⟨h, _⟩ | ⟨gg, cap', cur, hv, _, hh, _⟩
    · rw [h] at e
      cases e
    · rw [hv] at e
      have e' : N = gg := Option.some.inj e
      subst e'
      have := hh.symm.trans hN
      simp at this
  have hN6 := hN5.grown hgrow hvN
  have hC1 : Codes W6 0 (some g6) xs fs := ((hOw.below h5).codes.base (Nat.zero_le _)).grown hgrow (by
    rcases hat with h | h
    · exact .inl h.symm
    · exact .inr ⟨g6, rfl, by omega⟩)
  have hC6 := hC.below hbw
  have hF6 : FnsAt W6 (some ⟨g6, 0, none⟩) (len + 1) cp6 (fs ++ [(g, c)]) := by
    obtain ⟨hlen, hn | ⟨gg, cap', cur, hv, _, hh, hc, hm, hs, ht⟩⟩ := hown6
    · cases hn.1
    · simp only [Value.slice.injEq, Option.some.injEq, Addr.mk.injEq, and_true, true_and] at hv
      obtain ⟨rfl, rfl⟩ := hv
      refine ⟨by simp [hl], hc, hm, .inr ⟨_, rfl, fun k hk => ?_⟩⟩
      have hcell : ∀ j, j < 2 → W6.cell? ⟨g6, k * 2 + j, none⟩ = (xs ++ [.int .i64 g, .slice b l cc])[k * 2 + j]? := by
        intro j hj
        have h2 : (cur.toList.take ((len + 1) * 2))[k * 2 + j]? = (xs ++ [.int .i64 g, .slice b l cc])[k * 2 + j]? := by rw [ht]
        rw [List.getElem?_take, if_pos (by omega)] at h2
        simp only [World.cell?, hh]
        rw [← h2]
        simp
      have ea : (⟨g6, 0, none⟩ : Addr).add (k * 2) = ⟨g6, k * 2, none⟩ := addr_add g6 (k * 2)
      rw [ea]
      have hxl : xs.length = len * 2 := by rw [hOw.1, hl]
      by_cases hkl : k < len
      · have hgd : (fs ++ [(g, c)]).getD k zeroF = fs.getD k zeroF := by simp [List.getD_eq_getElem?_getD, List.getElem?_append_left (show k < fs.length by omega)]
        rw [hgd]
        obtain ⟨e1, cv, e2, b', l', c', rfl, e3, _⟩ := hC1.2 k (by omega)
        refine ⟨(hcell 0 (by omega)).trans ?_, b', l', c', (hcell 1 (by omega)).trans ?_, e3⟩
        · rw [Nat.add_zero, List.getElem?_append_left (by omega)]
          exact e1
        · rw [List.getElem?_append_left (by omega)]
          exact e2
      · obtain rfl : k = len := by omega
        have hgd : (fs ++ [(g, c)]).getD k zeroF = (g, c) := by
          rw [← hl]
          simp [List.getD_eq_getElem?_getD]
        rw [hgd]
        refine ⟨(hcell 0 (by omega)).trans ?_, b, l, cc, (hcell 1 (by omega)).trans ?_, hC6⟩
        · rw [Nat.add_zero, List.getElem?_append_right (by omega), hxl]
          simp
        · rw [List.getElem?_append_right (by omega), hxl]
          simp
  exact hF6.set_box hN6
end Go.Proofs.YtlbhmopmfddhjaaDoor
