/-
  Rows of entries of one's own, changed in place: entries that change their places, an entry put, its words written anew; 'make', 'copy' and 'clear' as laws of the walk.
-/
import Derived.Test.YtilddlgcfbefiaaDoorTY
import Derived.Test.YtilddlgcfbefiaaDoorGua
import Derived.Laws.CopyRow
import Derived.Laws.IdiomCopy
namespace Go.Proofs.YtilddlgcfbefiaaDoor
set_option linter.unusedSimpArgs false
set_option linter.unusedVariables false
open Go Go.RowKit

/- a row of entries that the call owns, whose words lie each in a row of its own -/
def Row (W : World) (base : Nat) (v : Value) (es : List Ent) : Prop := ∃ xs, W.ownsRow base 66 2 v es.length xs ∧ Owned W base v.ownBlock xs es
section
variable {W W' : World} {base base' : Nat} {v v' : Value} {es es' : List Ent} {row : Option Nat} {xs xs' : List Value}
theorem Row.lt (h : Row W base v es) : ∀ g, v.ownBlock = some g → base ≤ g ∧ g < W.heap.size := by
  obtain ⟨xs, h1, _⟩ := h
  exact h1.lt
theorem Row.low (h : Row W base v es) (hb : base' ≤ base) : Row W base' v es := by
  obtain ⟨xs, h1, h2⟩ := h
  exact ⟨xs, own_base h1 hb, h2.base hb⟩
theorem Row.below (h : Row W base v es) (hb : Below W.heap.size W W') : Row W' base v es := by
  obtain ⟨xs, h1, h2⟩ := h
  exact ⟨xs, ownsRow_below h1 hb, h2.below hb⟩
theorem Row.far (h : Row W base v es) {g : Nat} (hg : W.grownBy W' (some g)) (hlt : g < base) : Row W' base v es := by
  obtain ⟨xs, h1, h2⟩ := h
  exact ⟨xs, own_far h1 hg hlt, h2.grown hg (.inr (fun g' e => by have := Option.some.inj e; omega)) (.inl rfl)⟩
theorem Row.at (h : Row W base v es) : ∃ b cap, v = .slice b es.length cap ∧ EntsAt W b es.length cap es := by
  obtain ⟨xs, h1, h2⟩ := h
  exact ents_own rfl h1 h2
theorem Row.in (h : Row W base v es) {A : Nat → Prop} (hA : ∀ n, base ≤ n → A n) : ∃ b cap, v = .slice b es.length cap ∧ EntsIn W A b es.length cap es := by
  obtain ⟨xs, h1, h2⟩ := h
  exact rows_in rfl h1 (h2.ents.mono (A' := A) (fun n hn => hA n hn.1)) hA
theorem Row.nil (W : World) (base : Nat) : Row W base (.slice none 0 0) [] := ⟨[], World.ownsRow_nil _ _ _ _, Owned.nil _ _ _⟩
/- entries in other places, or fewer of them -/
theorem Owned.perm (h : Owned W base row xs es) (hg : W.grownBy W' row) (f : Nat → Nat) (hl : xs'.length = es'.length * 2)
    (hf : ∀ k, k < es'.length → f k < es.length ∧ es'.getD k zeroE = es.getD (f k) zeroE ∧ xs'[k * 2]? = xs[f k * 2]? ∧ xs'[k * 2 + 1]? = xs[f k * 2 + 1]?)
    (hi : ∀ j k, j < es'.length → k < es'.length → f j = f k → j = k) : Owned W' base row xs' es' := by
  have h' : Owned W' base row xs es := h.grown hg (.inl rfl) (.inl rfl)
  refine ⟨hl, fun k hk => ?_, fun j k cv cv' g hj hk hne e1 e2 e3 => ?_⟩
  · obtain ⟨f1, f2, f3, f4⟩ := hf k hk
    obtain ⟨h1, h2⟩ := h'.2.1 (f k) f1
    rw [f2, f3, f4]
    exact ⟨h1, h2⟩
  · obtain ⟨f1, _, _, f4⟩ := hf j hj
    obtain ⟨f1', _, _, f4'⟩ := hf k hk
    exact h'.2.2 (f j) (f k) cv cv' g f1 f1' (fun e => hne (hi j k hj hk e)) (f4.symm.trans e1) (f4'.symm.trans e2) e3
/- an entry put in another one's place, with words of its own that are new -/
theorem Owned.putNew (h : Owned W base row xs es) {k : Nat} (hk : k < es.length) {key : Int} {cv : Value} {ws : List Int} (h1 : W.ownsRow base 25 1 cv ws.length (wordsV ws)) (h2 : okE (key, ws))
    (h3 : ∀ g, cv.ownBlock = some g → some g ≠ row ∧ ∀ j cv', j < es.length → xs[j * 2 + 1]? = some cv' → cv'.ownBlock ≠ some g) : Owned W base row ((xs.set (k * 2) (.int .u32 key)).set (k * 2 + 1) cv) (es.set k (key, ws)) := by
  obtain ⟨e1, e2, e3⟩ := h
  have hcell : ∀ j, j < es.length → j ≠ k → ((xs.set (k * 2) (.int .u32 key)).set (k * 2 + 1) cv)[j * 2]? = xs[j * 2]? ∧ ((xs.set (k * 2) (.int .u32 key)).set (k * 2 + 1) cv)[j * 2 + 1]? = xs[j * 2 + 1]? := by
    intro j hj hne
    exact ⟨by rw [List.getElem?_set_ne (by omega), List.getElem?_set_ne (by omega)], by rw [List.getElem?_set_ne (by omega), List.getElem?_set_ne (by omega)]⟩
  have hme : ((xs.set (k * 2) (.int .u32 key)).set (k * 2 + 1) cv)[k * 2 + 1]? = some cv := by rw [List.getElem?_set_self (by rw [List.length_set, e1]; omega)]
  refine ⟨by rw [List.length_set, List.length_set, List.length_set]; exact e1, fun j hj => ?_, fun i j c c' g hi hj hne x1 x2 x3 => ?_⟩
  · rw [List.length_set] at hj
    by_cases hjk : j = k
    · subst hjk
      have hg : (es.set j (key, ws)).getD j zeroE = (key, ws) := by simp [List.getD_eq_getElem?_getD, hj]
      rw [hg]
      exact ⟨by rw [List.getElem?_set_ne (by omega), List.getElem?_set_self (by rw [e1]; omega)], cv, hme, h1, h2, fun g hcv => (h3 g hcv).1⟩
    · have hg : (es.set k (key, ws)).getD j zeroE = es.getD j zeroE := by simp [List.getD_eq_getElem?_getD, List.getElem?_set_ne (fun e => hjk e.symm)]
      rw [hg, (hcell j hj hjk).1, (hcell j hj hjk).2]
      exact e2 j hj
  · rw [List.length_set] at hi hj
    by_cases hik : i = k
    · subst hik
      rw [hme] at x1
      obtain rfl := Option.some.inj x1
      rw [(hcell j hj (fun e => hne e.symm)).2] at x2
      exact (h3 g x3).2 j c' hj x2
    · rw [(hcell i hi hik).2] at x1
      by_cases hjk : j = k
      · subst hjk
        rw [hme] at x2
        obtain rfl := Option.some.inj x2
        exact fun e => (h3 g e).2 i c hi x1 x3
      · rw [(hcell j hj hjk).2] at x2
        exact e3 i j c c' g hi hj hne x1 x2 x3
/- the words of an entry written anew, in place -/
theorem Owned.rewords (h : Owned W base row xs es) {k gv l c : Nat} {ws : List Int} (hk : k < es.length) (hx : xs[k * 2 + 1]? = some (.slice (some ⟨gv, 0, none⟩) l c)) (hg : W.grownBy W' (some gv))
    (hw : W'.ownsRow base 25 1 (.slice (some ⟨gv, 0, none⟩) l c) ws.length (wordsV ws)) (hok : wordL ws) : Owned W' base row xs (es.set k ((es.getD k zeroE).1, ws)) := by
  obtain ⟨h1, h2, h3⟩ := h
  refine ⟨by rw [List.length_set]; exact h1, fun j hj => ?_, fun a b cv cv' g ha hb => h3 a b cv cv' g (by rwa [List.length_set] at ha) (by rwa [List.length_set] at hb)⟩
  rw [List.length_set] at hj
  obtain ⟨e1, cv, e2, e3, e4, e5⟩ := h2 j hj
  by_cases hkj : k = j
  · subst hkj
    have hgd : (es.set k ((es.getD k zeroE).1, ws)).getD k zeroE = ((es.getD k zeroE).1, ws) := by simp [List.getD_eq_getElem?_getD, hk]
    rw [hgd]
    rw [hx] at e2
    obtain rfl := Option.some.inj e2
    exact ⟨e1, _, hx, hw, ⟨e4.1, hok⟩, e5⟩
  · have hgd : (es.set k ((es.getD k zeroE).1, ws)).getD j zeroE = es.getD j zeroE := by simp [List.getD_eq_getElem?_getD, List.getElem?_set_ne hkj]
    rw [hgd]
    refine ⟨e1, cv, e2, e3.kept hg ?_, e4, e5⟩
    cases hcv : cv.ownBlock with
    | none => exact .inl rfl
    | some g =>
      right
      intro e
      have e' : g = gv := Option.some.inj e
      subst e'
      exact h3 k j _ cv g hk hj hkj hx e2 rfl hcv
end
/- 'make([]api.Entry, n)' -/
theorem made_ents (n : Nat) : ∀ k, k < n → (madeCells (Value.agg #[.int .u32 0, .slice none 0 0]).cells (n * 2)).toList[k * 2]? = some (.int .u32 0) ∧ (madeCells (Value.agg #[.int .u32 0, .slice none 0 0]).cells (n * 2)).toList[k * 2 + 1]? = some (.slice none 0 0) := by
  intro k hk
  have hc : (Value.agg #[.int .u32 0, .slice none 0 0]).cells = #[.int .u32 0, .slice none 0 0] := rfl
  rw [hc]
  simp only [madeCells, Array.toList_map, Array.toList_range, List.getElem?_map]
  rw [List.getElem?_range (by omega), List.getElem?_range (by omega)]
  have m0 : k * 2 % 2 = 0 := by omega
  have m1 : (k * 2 + 1) % 2 = 1 := by omega
  constructor
  · simp [m0]
  · simp [m1]
theorem owned_zeros (W : World) (base n : Nat) (row : Option Nat) (xs : List Value) (hl : xs.length = n * 2) (h : ∀ k, k < n → xs[k * 2]? = some (.int .u32 0) ∧ xs[k * 2 + 1]? = some (.slice none 0 0)) : Owned W base row xs (List.replicate n zeroE) := by
  refine ⟨by rw [List.length_replicate]; exact hl, fun k hk => ?_, fun j k cv cv' g hj hk hne e1 e2 e3 => ?_⟩
  · rw [List.length_replicate] at hk
    have hg : (List.replicate n zeroE).getD k zeroE = zeroE := by simp [List.getD_eq_getElem?_getD, List.getElem?_replicate, hk]
    rw [hg]
    exact ⟨(h k hk).1, _, (h k hk).2, World.ownsRow_nil _ _ _ _, okE_zero, fun g e => by cases e⟩
  · rw [List.length_replicate] at hj
    rw [(h j hj).2] at e1
    obtain rfl := Option.some.inj e1
    cases e3
theorem wpList_makeE {ops : Array Oper} {rest : List Oper} {o : Oper} {a : Act} {Q : Exit → Act → World → Prop} (w : World) (hgd : o.guard = none) (l c : Operand) (ho : o.op = .makeSlice 40 l c)
    (base n : Nat) (L : Int) (hl : a.eval l = .int .i64 L) (hc : a.eval c = .int .i64 L) (hL : L = (n : Int)) (hn : n ≤ 1000) (hb : base ≤ w.heap.size) (H : Nat) (hH : w.heap.size = H)
    (h : ∀ w', Row w' base (.slice (some ⟨H, 0, none⟩) n n) (List.replicate n zeroE) → w.grownBy w' none → H < w'.heap.size → wpList Tryd.prog ops Q rest (a.put o.dst (.slice (some ⟨H, 0, none⟩) n n)) w') : wpList Tryd.prog ops Q (o :: rest) a w := by
  obtain ⟨jE, hiE, hy0, hy1, hy2⟩ := info_parts infoE
  subst hH
  refine wpList_make_full w hgd l c 40 ho base 66 jE _ 2 Tryd.underlying40 hiE hy0 hy1 .i64 .i64 L L n hl hc hL hL (by rw [hy2]; omega) (by unfold maxLen; omega) hb ?_
  intro w' r1 r2
  refine h w' ⟨_, ?_, owned_zeros w' base n _ _ (by simp [size_madeCells]) (made_ents n)⟩ r2 (r1.lt w.heap.size rfl).2
  rw [List.length_replicate]
  exact r1
/- 'copy(d, s)': words over a whole row of one's own -/
theorem step_copyR {ops : Array Oper} {o : Oper} {a : Act} {d : Tmp} {K : Act → World → Prop} {Q : Exit → Act → World → Prop} {E : Prop} (w : World) (hgd : o.guard = none) (x s : Operand)
    (ho : o.op = .call { callee := .builtin .copy, args := #[x, s], argTypes := #[52, 52] }) (hd : o.dst = some d) (base g l c : Nat) (zs : List Value) (hx : a.eval x = .slice (some ⟨g, 0, none⟩) l c) (hown : w.ownsRow base 25 1 (.slice (some ⟨g, 0, none⟩) l c) l zs)
    (b : Option Addr) (cc : Nat) (ws : List Int) (hs : a.eval s = .slice b l cc) (hC : WordsAt w b l cc ws)
    (h : ∀ w', w'.ownsRow base 25 1 (.slice (some ⟨g, 0, none⟩) l c) ws.length (wordsV ws) → w.grownBy w' (some g) → K (a.put (some d) (goInt l)) w') :
    if Region.wanted o (yielded ops a.tmps) = true then Oper.wp Tryd.prog o a w K Q else E := by
  have hw : Region.wanted o (yielded ops a.tmps) = true := by simp [Region.wanted, hgd]
  rw [if_pos hw]
  have hl := hC.1
  have hsz : (Tryd.prog.info? 25).map (·.size) = some 1 := by kernel_rfl
  obtain ⟨hzl, ⟨e, _⟩ | ⟨g', cap', cur, e, hb, hh, hc, hm, hcs, ht⟩⟩ := hown
  · cases e
  simp only [Value.slice.injEq, Option.some.injEq, Addr.mk.injEq, and_true, true_and] at e
  obtain ⟨rfl, rfl⟩ := e
  by_cases h0 : l = 0
  · subst h0
    have hws : ws = [] := List.length_eq_zero_iff.1 hl
    subst hws
    have hrun := run_copy_none (P := Tryd.prog) w 52 52 o.type 25 (some ⟨g, 0, none⟩) b 0 c 0 cc Tryd.underlying52 hsz rfl
    unfold Oper.wp
    simp [execOp, ho, resolve, invoke, builtin, hx, hs, hrun, Result.andThen, Oper.upon, hd]
    exact h w ⟨by simp [wordsV], .inr ⟨g, c, cur, rfl, hb, hh, hc, hm, hcs, by simp [wordsV]⟩⟩ (grownBy_refl _ _)
  · obtain ⟨y, rfl, hy⟩ := hC.2.2.2.2.resolve_left h0
    have hrun := run_copy_row (P := Tryd.prog) w 52 52 o.type 25 g 0 l c y l cc cur 25 (wordsV ws) Tryd.underlying52 hsz hh (by rw [wordsV_len, hl]; exact (Nat.min_self l).symm) (wordsV_cells hl hy) (by rw [wordsV_len, hl]; omega) (wordsV_one ws)
    unfold Oper.wp
    simp [execOp, ho, resolve, invoke, builtin, hx, hs, hrun, Result.andThen, Oper.upon, hd]
    rw [wordsV_len, hl]
    refine h _ ⟨by rw [wordsV_len]; omega, .inr ⟨g, c, _, by rw [hl], hb, setRow_heap w g _ _ _ _ hh, by omega, hm, ?_, ?_⟩⟩ (grownBy_setRow _ _ _)
    · simp [wordsV_len, hl]
      omega
    · have e1 : ws.length * 1 = (wordsV ws).length := by rw [wordsV_len]; omega
      rw [e1]
      simp
end Go.Proofs.YtilddlgcfbefiaaDoor
