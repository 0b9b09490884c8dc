/-
  A row of functions whose codes are rows of the call's own too, each in a block of its own: one function more.
-/
import Derived.Test.YtlbhmopmfddhjaaDoorY8
namespace Go.Proofs.YtlbhmopmfddhjaaDoor
open Go.RowKit

/- the cells xs of a row of functions; their codes lie each in a row of its own, elsewhere than the row -/
def Owned (W : World) (base : Nat) (row : Option Nat) (xs : List Value) (fs : List Fun) : Prop :=
  xs.length = fs.length * 2 ∧
  (∀ k, k < fs.length → xs[k * 2]? = some (.int .i64 (fs.getD k zeroF).1) ∧ ∃ cv, xs[k * 2 + 1]? = some cv ∧ W.ownsRow base 46 7 cv (fs.getD k zeroF).2.length (codeV (fs.getD k zeroF).2) ∧ (∀ i ∈ (fs.getD k zeroF).2, okI i) ∧ ∀ g, cv.ownBlock = some g → some g ≠ row) ∧
  ∀ j k cv cv' g, j < fs.length → k < fs.length → j ≠ k → xs[j * 2 + 1]? = some cv → xs[k * 2 + 1]? = some cv' → cv.ownBlock = some g → cv'.ownBlock ≠ some g
theorem Owned.nil (W : World) (base : Nat) (row : Option Nat) : Owned W base row [] [] := ⟨rfl, fun k hk => by simp at hk, fun j k cv cv' g hj => by simp at hj⟩
theorem Owned.grown {W W' : World} {base : Nat} {row row' row1 : Option Nat} {xs : List Value} {fs : List Fun} (h : Owned W base row xs fs) (hg : W.grownBy W' row1) (hr : row1 = row ∨ ∀ g, row1 = some g → g < base) (hr' : row' = row ∨ ∀ g, row' = some g → W.heap.size ≤ g) : Owned W' base row' xs fs := by
  refine ⟨h.1, fun k hk => ⟨(h.2.1 k hk).1, ?_⟩, h.2.2⟩
  obtain ⟨cv, h1, h2, h3, h4⟩ := (h.2.1 k hk).2
  refine ⟨cv, h1, h2.kept hg ?_, h3, fun g hcv => ?_⟩
  · cases hcv : cv.ownBlock with
    | none => exact .inl rfl
    | some g =>
      right
      rcases hr with rfl | hr
      · exact h4 g hcv
      · intro e
        have := hr g e.symm
        have := (h2.lt g hcv).1
        omega
  · rcases hr' with rfl | hr'
    · exact h4 g hcv
    · intro e
      have := hr' g e.symm
      have := (h2.lt g hcv).2
      omega
theorem Owned.below {W W' : World} {base : Nat} {row : Option Nat} {xs : List Value} {fs : List Fun} (h : Owned W base row xs fs) (hb : Below W.heap.size W W') : Owned W' base row xs fs :=
  h.grown (grownBy_of_below hb none) (.inr (fun g hg => by cases hg)) (.inl rfl)
theorem Owned.snoc {W : World} {base N : Nat} {row : Option Nat} {xs : List Value} {fs : List Fun} (h : Owned W base row xs fs) {args : Int} {cv : Value} {code : List I} (h1 : W.ownsRow base 46 7 cv code.length (codeV code)) (h2 : ∀ i ∈ code, okI i)
    (h3 : ∀ g, cv.ownBlock = some g → some g ≠ row ∧ N ≤ g) (hN : ∀ k cv g, k < fs.length → xs[k * 2 + 1]? = some cv → cv.ownBlock = some g → g < N) : Owned W base row (xs ++ [.int .i64 args, cv]) (fs ++ [(args, code)]) := by
  have hl := h.1
  have hlast : (xs ++ [.int .i64 args, cv])[fs.length * 2 + 1]? = some cv := by
    rw [List.getElem?_append_right (by omega), hl]
    simp
  refine ⟨by simp [h.1]; omega, fun k hk => ?_, ?_⟩
  · by_cases hkl : k < fs.length
    · have hg : (fs ++ [(args, code)]).getD k zeroF = fs.getD k zeroF := by
        simp [List.getD_eq_getElem?_getD, List.getElem?_append_left hkl]
      rw [hg]
      obtain ⟨e1, cv', e2, e3⟩ := h.2.1 k hkl
      exact ⟨by rw [List.getElem?_append_left (by omega)]; exact e1, cv', by rw [List.getElem?_append_left (by omega)]; exact e2, e3⟩
    · have hk2 : k = fs.length := by simp at hk; omega
      subst hk2
      have hg : (fs ++ [(args, code)]).getD fs.length zeroF = (args, code) := by simp [List.getD_eq_getElem?_getD]
      rw [hg]
      refine ⟨?_, cv, hlast, h1, h2, fun g hcv => (h3 g hcv).1⟩
      rw [List.getElem?_append_right (by omega), hl]
      simp
  · intro j k cj ck g hj hk hne ej ek hcj hck
    simp only [List.length_append, List.length_cons, List.length_nil] at hj hk
    by_cases hjl : j < fs.length
    · rw [List.getElem?_append_left (by omega)] at ej
      by_cases hkl : k < fs.length
      · rw [List.getElem?_append_left (by omega)] at ek
        exact h.2.2 j k cj ck g hjl hkl hne ej ek hcj hck
      · have hk2 : k = fs.length := by omega
        subst hk2
        rw [hlast] at ek
        obtain rfl := Option.some.inj ek
        have := hN j cj g hjl ej hcj
        have := (h3 g hck).2
        omega
    · have hj2 : j = fs.length := by omega
      subst hj2
      rw [hlast] at ej
      obtain rfl := Option.some.inj ej
      rw [List.getElem?_append_left (by omega)] at ek
      have := hN k ck g (by omega) ek hck
      have := (h3 g hcj).2
      omega
theorem Owned.codes {W : World} {base : Nat} {row : Option Nat} {xs : List Value} {fs : List Fun} (h : Owned W base row xs fs) : Codes W base row xs fs := by
  refine ⟨h.1, fun k hk => ⟨(h.2.1 k hk).1, ?_⟩⟩
  obtain ⟨cv, h1, h2, h3, h4⟩ := (h.2.1 k hk).2
  obtain ⟨b, cap, rfl, hC, hz⟩ := code_own rfl h3 h2
  refine ⟨_, h1, b, _, cap, rfl, hC, fun z hz' => ⟨(hz z hz').1, (hz z hz').2.1, h4 z.block (hz z hz').2.2⟩⟩
theorem Owned.lt {W : World} {base : Nat} {row : Option Nat} {xs : List Value} {fs : List Fun} (h : Owned W base row xs fs) : ∀ k cv g, k < fs.length → xs[k * 2 + 1]? = some cv → cv.ownBlock = some g → g < W.heap.size := by
  intro k cv g hk hx hg
  obtain ⟨cv', h1, h2, _⟩ := (h.2.1 k hk).2
  rw [h1] at hx
  obtain rfl := Option.some.inj hx
  exact (h2.lt g hg).2

def Inv2 (w : World) (O R : Nat) (W : World) (k : Nat) (v : Value) (xs : List Value) (fs : List Fun) : Prop :=
  W.ownsRow (O + 1) 28 2 v k xs ∧ Owned W (O + 1) v.ownBlock xs fs ∧ Box W O 24 #[v] ∧ Box W R 24 #[.slice none 0 0] ∧ Below w.heap.size w W ∧ w.heap.size ≤ R ∧ R < O
theorem Inv2.inv {w W : World} {O R k : Nat} {v : Value} {xs : List Value} {fs : List Fun} (h : Inv2 w O R W k v xs fs) : Inv w O R W k v xs fs := ⟨h.1, h.2.1.codes, h.2.2.1, h.2.2.2.1, h.2.2.2.2.1, h.2.2.2.2.2.1, h.2.2.2.2.2.2⟩
theorem pushed2 {w W1 W4 W' W5 : World} {O R k : Nat} {v cv : Value} {xs : List Value} {fs : List Fun} {args : Int} {code : List I} {g cp H : Nat} (h : Inv2 w O R W1 k v xs fs) (h14 : Below W1.heap.size W1 W4)
    (hcv : W4.ownsRow (O + 1) 46 7 cv code.length (codeV code)) (hok : ∀ i ∈ code, okI i) (hnew : ∀ g, cv.ownBlock = some g → W1.heap.size ≤ g) (h4 : Below W4.heap.size W4 W')
    (hown : W5.ownsRow (O + 1) 28 2 (.slice (some ⟨g, 0, none⟩) (k + 1) cp) (k + 1) (xs ++ [.int .i64 args, cv])) (hgrow : W'.grownBy W5 v.ownBlock) (hat : v.ownBlock = some g ∨ g = H) (hH : W'.heap.size ≤ H) :
    Inv2 w O R (W5.setCell ⟨O, 0, none⟩ (.slice (some ⟨g, 0, none⟩) (k + 1) cp)) (k + 1) (.slice (some ⟨g, 0, none⟩) (k + 1) cp) (xs ++ [.int .i64 args, cv]) (fs ++ [(args, code)]) := by
  obtain ⟨hO, hCd, hBO, hBR, hb, hR1, hR2⟩ := h
  have hvB : ∀ g, v.ownBlock = some g → O + 1 ≤ g ∧ g < W1.heap.size := fun g hg => hO.lt g hg
  have h1 : Below W1.heap.size W1 W' := h14.trans (h4.mono h14.size)
  have hvF : some O ≠ v.ownBlock := fun e => by have := (hvB O e.symm).1; omega
  have hvR : some R ≠ v.ownBlock := fun e => by have := (hvB R e.symm).1; omega
  have hBO5 := (hBO.below h1 hBO.lt).grown hgrow hvF
  have hBR5 := (hBR.below h1 hBR.lt).grown hgrow hvR
  have hOl := hBO.lt
  have hs1 := h1.size
  have hs4 := h4.size
  have hs14 := h14.size
  have hsb := hb.size
  have hb5 : Below w.heap.size w W5 := (hb.trans (h1.mono hsb)).grown hgrow (by omega) (fun g hg => by have := (hvB g hg).1; omega)
  have hN := hCd.lt
  have hCd5 : Owned W5 (O + 1) (some g) xs fs := (hCd.below h1).grown hgrow (.inl rfl) (by
    rcases hat with h | h
    · exact .inl h.symm
    · exact .inr (fun g' hg' => by have := Option.some.inj hg'; omega))
  have hcv' := ownsRow_below hcv h4
  have hcv5 : W5.ownsRow (O + 1) 46 7 cv code.length (codeV code) := hcv'.kept hgrow (by
    cases hc : cv.ownBlock with
    | none => exact .inl rfl
    | some gc =>
      right
      intro e
      have := (hvB gc e.symm).2
      have := hnew gc hc
      omega)
  have hgs := grownBy_setCell W5 ⟨O, 0, none⟩ (.slice (some ⟨g, 0, none⟩) (k + 1) cp)
  have hCd6 : Owned W5 (O + 1) (some g) (xs ++ [.int .i64 args, cv]) (fs ++ [(args, code)]) := hCd5.snoc hcv5 hok (N := W1.heap.size) (fun gc hc => ⟨fun e => by
    have e' := Option.some.inj e
    subst e'
    have h1 := hnew _ hc
    rcases hat with h | h
    · have := (hvB _ h).2
      omega
    · have := (hcv'.lt _ hc).2
      omega, hnew gc hc⟩) hN
  exact ⟨own_far hown hgs (Nat.lt_succ_self O), hCd6.grown hgs (.inr (fun g' hg' => by have := Option.some.inj hg'; simp at this; omega)) (.inl rfl), hBO5.set 0 _, hBR5.other (by simp; omega) _, hb5.setCell (by simp; omega) _, hR1, hR2⟩

/- what Own leaves: a program in rows of its own -/
def OwnPost (fs : List Fun) (w : World) (e : Ending) (w' : World) : Prop :=
  ∃ v xs, e = .returned (.agg #[v]) ∧ Below w.heap.size w w' ∧ w'.ownsRow (w.heap.size + 1) 28 2 v fs.length xs ∧ Owned w' (w.heap.size + 1) v.ownBlock xs fs
end Go.Proofs.YtlbhmopmfddhjaaDoor
