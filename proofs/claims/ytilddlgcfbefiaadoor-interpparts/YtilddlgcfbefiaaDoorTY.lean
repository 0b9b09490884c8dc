/-
  A word stored into the words of an entry of one's own; make at the list of a plain region's operations.
-/
import Derived.Test.YtilddlgcfbefiaaDoorTD
namespace Go.Proofs.YtilddlgcfbefiaaDoor
set_option linter.unusedSimpArgs false
set_option linter.unusedVariables false
open Go Go.RowKit

theorem wordsV_set (ws : List Int) (f : Nat) (v : Int) : (wordsV ws).set f (.int .u32 v) = wordsV (ws.set f v) := by simp [wordsV, List.map_set]
theorem Owned.write {W : World} {base : Nat} {row : Option Nat} {xs : List Value} {es : List Ent} (h : Owned W base row xs es) {j gv l c f : Nat} {v : Int} (hj : j < es.length) (hx : xs[j * 2 + 1]? = some (.slice (some ⟨gv, 0, none⟩) l c)) (hv : isW v) :
    Owned (W.setCell ⟨gv, f, none⟩ (.int .u32 v)) base row xs (es.set j ((es.getD j zeroE).1, (es.getD j zeroE).2.set f v)) := by
  obtain ⟨h1, h2, h3⟩ := h
  refine ⟨by rw [List.length_set]; exact h1, fun k hk => ?_, fun a b cv cv' g ha hb => h3 a b cv cv' g (by rwa [List.length_set] at ha) (by rwa [List.length_set] at hb)⟩
  rw [List.length_set] at hk
  obtain ⟨e1, cv, e2, e3, e4, e5⟩ := h2 k hk
  by_cases hkj : j = k
  · subst hkj
    have hg : (es.set j ((es.getD j zeroE).1, (es.getD j zeroE).2.set f v)).getD j zeroE = ((es.getD j zeroE).1, (es.getD j zeroE).2.set f v) := by simp [List.getD_eq_getElem?_getD, hk]
    rw [hg]
    rw [hx] at e2
    obtain rfl := Option.some.inj e2
    obtain ⟨b', c', hv', _⟩ := words_own rfl e4.2 e3
    simp only [Value.slice.injEq] at hv'
    obtain ⟨_, rfl, _⟩ := hv'
    refine ⟨e1, _, hx, ?_, ⟨e4.1, wordL_set e4.2 hv f⟩, e5⟩
    have hs := (e3.stored f (.int .u32 v)).1
    rw [wordsV_set] at hs
    simpa using hs
  · have hg : (es.set j ((es.getD j zeroE).1, (es.getD j zeroE).2.set f v)).getD k zeroE = es.getD k zeroE := by simp [List.getD_eq_getElem?_getD, List.getElem?_set_ne hkj]
    rw [hg]
    refine ⟨e1, cv, e2, e3.kept (grownBy_setCell W ⟨gv, f, none⟩ _) ?_, e4, e5⟩
    cases hcv : cv.ownBlock with
    | none => exact .inl rfl
    | some g =>
      right
      intro e
      have e' : g = gv := Option.some.inj e
      subst e'
      exact h3 j k _ cv g hj hk hkj hx e2 rfl hcv
theorem wpList_makeW {ops : Array Oper} {rest : List Oper} {o : Oper} {a : Act} {Q : Exit → Act → World → Prop} (w : World) (hgd : o.guard = none) (l c : Operand) (ho : o.op = .makeSlice 52 l c)
    (base n : Nat) (L : Int) (hl : a.eval l = .int .i64 L) (hc : a.eval c = .int .i64 L) (hL : L = (n : Int)) (hn : n ≤ 1000) (hb : base ≤ w.heap.size) (H : Nat) (hH : w.heap.size = H)
    (h : ∀ w', w'.ownsRow base 25 1 (.slice (some ⟨H, 0, none⟩) n n) n (wordsV (List.replicate n 0)) → w.grownBy w' none → wpList Tryd.prog ops Q rest (a.put o.dst (.slice (some ⟨H, 0, none⟩) n n)) w') : wpList Tryd.prog ops Q (o :: rest) a w := by
  obtain ⟨jW, hiW, hy0, hy1, hy2⟩ := info_parts infoW
  subst hH
  refine wpList_make_full w hgd l c 52 ho base 25 jW _ 1 Tryd.underlying52 hiW hy0 hy1 .i64 .i64 L L n hl hc hL hL (by rw [hy2]; omega) (by unfold maxLen; omega) hb ?_
  intro w' r1 r2
  rw [made_words] at r1
  exact h w' r1 r2
theorem few_set {es : List Ent} (h : fewE es) (j : Nat) (k : Int) (f : Nat) (v : Int) : fewE (es.set j (k, (es.getD j zeroE).2.set f v)) := by
  refine ⟨by rw [List.length_set]; exact h.1, fun e he => ?_⟩
  rcases List.mem_or_eq_of_mem_set he with he | rfl
  · exact h.2 e he
  · simp only [List.length_set]
    by_cases hj : j < es.length
    · exact h.2 _ (getD_mem es j zeroE hj)
    · rw [List.getD_eq_getElem?_getD, List.getElem?_eq_none (by omega)]
      simp [zeroE]
theorem set_arg {t : Tb} {key f v : Int} (h : keyedB t f = false) : setT t key f v = (zeroT, 1) := by rw [setT, if_neg (by rw [h]; exact Bool.false_ne_true)]
theorem set_none {t : Tb} {key f v : Int} (h : keyedB t f = true) (hA : atE t.2.1 key = none) (h0 : t.1.1 = 0) : setT t key f v = (zeroT, 3) := by
  rw [setT, if_pos h, hA]
  simp [h0]
theorem set_full {t : Tb} {key f v : Int} (h : keyedB t f = true) (hA : atE t.2.1 key = none) (h1 : t.1.1 = 1) (hc : t.1.2.1 ≤ (t.2.1.length : Int)) : setT t key f v = (zeroT, 4) := by
  rw [setT, if_pos h, hA]
  simp [h1, hc]
theorem set_new {t : Tb} {key f v : Int} (h : keyedB t f = true) (hA : atE t.2.1 key = none) (h0 : ¬ t.1.1 = 0) (h1 : ¬ (t.1.1 = 1 ∧ t.1.2.1 ≤ (t.2.1.length : Int))) : setT t key f v = (behindT (if t.1.2.1 ≤ (t.2.1.length : Int) then withoutT t 0 else t) (key, (List.replicate t.1.2.2.1.toNat 0).set f.toNat v), 0) := by
  rw [setT, if_pos h, hA]
  simp only [if_neg h0, if_neg h1]
theorem set_lru {t : Tb} {key f v : Int} {j : Nat} (h : keyedB t f = true) (hA : atE t.2.1 key = some j) (h2 : t.1.1 = 2) : setT t key f v = (behindT (withoutT t j) (key, (t.2.1.getD j zeroE).2.set f.toNat v), 0) := by
  rw [setT, if_pos h, hA]
  simp [h2]
theorem set_old {t : Tb} {key f v : Int} {j : Nat} (h : keyedB t f = true) (hA : atE t.2.1 key = some j) (h2 : ¬ t.1.1 = 2) : setT t key f v = ((t.1, t.2.1.set j (key, (t.2.1.getD j zeroE).2.set f.toNat v), t.2.2), 0) := by
  rw [setT, if_pos h, hA]
  simp [h2]
end Go.Proofs.YtilddlgcfbefiaaDoor
