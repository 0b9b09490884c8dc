/-
  Rings that are pushed and popped, and Lrus whose keys are set, in plain numbers.
-/
import Derived.Test.YthpniennaaihgaaPL3
namespace Go.Proofs.Ythpniennaaihgaa
set_option linter.unusedVariables false
variable {t : Tb} {s : Sc} {key f v : Int} {cap : Int} {l : List Int}

/- the entries of a Ring into which l[a], .., l[n-1] were pushed -/
def ringE (l : List Int) (a n : Nat) : List Ent := (List.range (n - a)).map (fun (j : Nat) => (((a + j : Nat) : Int), [l.getD (a + j) 0]))
def ringT (cap : Int) (l : List Int) (a n : Nat) : Tb := ((3, cap, 1, 0), ringE l a n, (n : Int))
theorem ringE_len (l : List Int) (a n : Nat) : (ringE l a n).length = n - a := by simp [ringE]
theorem ringE_getD {l : List Int} {a n i : Nat} (hi : i < n - a) : (ringE l a n).getD i zeroE = (((a + i : Nat) : Int), [l.getD (a + i) 0]) := by
  simp [ringE, List.getD_eq_getElem?_getD, hi]
theorem ringE_snoc (l : List Int) (n : Nat) : ringE l 0 (n + 1) = ringE l 0 n ++ [((n : Int), [l.getD n 0])] := by simp [ringE, List.range_succ]
theorem ringE_tail {l : List Int} {a n : Nat} (h : a < n) : (ringE l a n).eraseIdx 0 = ringE l (a + 1) n := by
  apply List.ext_getElem?
  intro i
  simp only [List.getElem?_eraseIdx, ringE, List.getElem?_map]
  simp only [Nat.not_lt_zero, if_false]
  by_cases hi : i + 1 < n - a
  · rw [List.getElem?_range hi, List.getElem?_range (by omega)]
    simp only [Option.map_some, show a + (i + 1) = a + 1 + i by omega]
  · rw [List.getElem?_eq_none (by simp; omega), List.getElem?_eq_none (by simp; omega)]
    rfl
theorem ring_mayT (hm : mayT (3, cap, 1, 0) = true) : 1 ≤ cap ∧ cap ≤ 16 := by
  simp only [mayT, mayS_iff] at hm
  omega
theorem ring_mayT' (h1 : 1 ≤ cap) (h2 : cap ≤ 16) : mayT (3, cap, 1, 0) = true := by
  simp only [mayT, mayS_iff]
  refine ⟨by omega, by omega, h1, h2, by omega, by omega, fun _ => trivial, by omega, by omega⟩
theorem ring_at {a n i : Nat} (hi : i < n - a) : atE (ringE l a n) ((a + i : Nat) : Int) = some i := by
  refine atE_is (by rw [ringE_len]; exact hi) (by rw [ringE_getD hi]) (fun j hj => ?_)
  rw [ringE_getD (by omega)]
  simp only
  omega
theorem ring_may (hm : mayT (3, cap, 1, 0) = true) {a n : Nat} (han : a ≤ n) (hn : n ≤ 40) (hc : ((n - a : Nat) : Int) ≤ cap) : mayTb (ringT cap l a n) = true := by
  have h := ring_mayT hm
  simp only [mayTb, headB, ringT, Bool.and_eq_true, hm, decide_eq_true_iff, true_and, List.all_eq_true, List.mem_range, ringE_len]
  refine ⟨⟨by omega, by simp⟩, fun i hi => ?_⟩
  simp only [entB, ringE_getD hi, ring_at hi, ringE_len, List.length_singleton, Bool.and_eq_true, decide_eq_true_iff]
  refine ⟨by simp, by simp, by simp, ?_⟩
  simp only [ne_eq, not_true_eq_false, decide_false, Bool.false_or, decide_eq_true_iff]
  rw [show (((a + i : Nat) : Int) + (((n - a : Nat) : Int) - (i : Int))) = (n : Int) by omega]
  omega
theorem ring_push (hm : mayT (3, cap, 1, 0) = true) {n : Nat} (hc : (n : Int) < cap) : pushT (ringT cap l 0 n) (l.getD n 0) = (ringT cap l 0 (n + 1), 0) := by
  have h := ring_mayT hm
  have h1 := ring_may (l := l) hm (a := 0) (n := n) (by omega) (by omega) (by omega)
  rw [pushT, if_pos ⟨h1, rfl⟩]
  simp only [ringT, ringE_len]
  rw [if_neg (by omega), ringE_snoc, show (((n : Int) + 1) % 4294967296) = ((n + 1 : Nat) : Int) by omega]
theorem ring_full (hm : mayT (3, cap, 1, 0) = true) {n : Nat} (hc : (n : Int) = cap) (v : Int) : pushT (ringT cap l 0 n) v = (zeroT, 4) := by
  have h := ring_mayT hm
  have h1 := ring_may (l := l) hm (a := 0) (n := n) (by omega) (by omega) (by omega)
  rw [pushT, if_pos ⟨h1, rfl⟩]
  simp only [ringT, ringE_len]
  rw [if_pos (by omega)]
theorem ring_pop (hm : mayT (3, cap, 1, 0) = true) {a n : Nat} (han : a < n) (hn : n ≤ 40) (hc : (n : Int) ≤ cap) : popT (ringT cap l a n) = (ringT cap l (a + 1) n, l.getD a 0, true) := by
  have h1 := ring_may (l := l) hm (a := a) (n := n) (by omega) (by omega) (by omega)
  have h2 : ringE l a n ≠ [] := fun h => by
    have := ringE_len l a n
    rw [h] at this
    simp at this
    omega
  rw [popT, if_pos ⟨h1, rfl, h2⟩]
  simp only [ringT, withoutT, ringE_tail han, ringE_getD (show 0 < n - a by omega)]
  simp
theorem ring_empty (n : Nat) : popT (ringT cap l n n) = (ringT cap l n n, 0, false) := by
  rw [popT, if_neg]
  intro h
  exact h.2.2 (by simp [ringT, ringE])
theorem ring_set (a n : Nat) : setT (ringT cap l a n) key f v = (zeroT, 1) := by
  rw [setT, if_neg]
  simp [keyedB, ringT]
theorem ring_get (a n : Nat) : getT (ringT cap l a n) key f = (ringT cap l a n, 0, false) := get_ring rfl

/- the keys that an Lru has when one more is set -/
def leftL (want : List Int) (key : Int) : List Int := want.filter (fun k => decide (k ≠ key))
def wantL (cap : Int) (want : List Int) (key : Int) : List Int := if cap < (((leftL want key) ++ [key]).length : Int) then ((leftL want key) ++ [key]).tail else (leftL want key) ++ [key]
theorem leftL_none : ∀ {es : List Ent}, key ∉ keysOf es → leftL (keysOf es) key = keysOf es := fun {es} h => by
  rw [leftL, List.filter_eq_self]
  intro a ha
  simp only [decide_eq_true_iff]
  rintro rfl
  exact h ha
theorem leftL_some : ∀ {es : List Ent} {i : Nat}, (keysOf es).Nodup → atE es key = some i → leftL (keysOf es) key = keysOf (es.eraseIdx i)
  | [], i, hn, h => by simp [atE] at h
  | e :: es, i, hn, h => by
    rw [atE] at h
    simp only [keysOf, List.map_cons, List.nodup_cons] at hn
    split at h
    · rename_i he
      obtain rfl := Option.some.inj h
      have : leftL (keysOf es) key = keysOf es := leftL_none (by rw [← he]; exact hn.1)
      simpa [leftL, keysOf, he] using this
    · rename_i he
      obtain ⟨i', hi', rfl⟩ := Option.map_eq_some_iff.1 h
      have := leftL_some hn.2 hi'
      simp only [leftL, keysOf, List.map_cons, List.eraseIdx_cons_succ] at this ⊢
      rw [List.filter_cons_of_pos (by simpa using he), this]
theorem keys_len (es : List Ent) : (keysOf es).length = es.length := by simp [keysOf]
theorem keys_snoc (es : List Ent) (e : Ent) : keysOf (es ++ [e]) = keysOf es ++ [e.1] := by simp [keysOf]
theorem keys_drop (es : List Ent) : keysOf (es.eraseIdx 0) = (keysOf es).tail := by cases es <;> simp [keysOf]
theorem lru_set (h : VK t) (h2 : t.1.1 = 2) : (setT t key 0 v).2 = 0 ∧ keysOf (setT t key 0 v).1.2.1 = wantL t.1.2.1 (keysOf t.2.1) key := by
  have hs := h.sc
  have hk : keyedB t 0 = true := by rw [h.keyed]; simp; omega
  have hl := h.2.2.1
  have hn := h.2.2.2.2.1
  rw [setT, if_pos hk]
  rcases ha : atE t.2.1 key with _ | i
  · have hm := atE_isNone.1 ha
    simp only [h2]
    rw [if_neg (by omega), if_neg (by omega)]
    refine ⟨rfl, ?_⟩
    simp only [behindT, keys_snoc, wantL, leftL_none hm]
    by_cases hc : t.1.2.1 ≤ (t.2.1.length : Int)
    · rw [if_pos hc, if_pos (by simp [keys_len]; omega)]
      simp only [withoutT, keys_drop]
      rcases hq : keysOf t.2.1 with _ | ⟨x, xs⟩
      · have := keys_len t.2.1
        rw [hq] at this
        simp at this
        omega
      · simp
    · rw [if_neg hc, if_neg (by simp [keys_len]; omega)]
  · simp only [h2, if_true]
    refine ⟨trivial, ?_⟩
    obtain ⟨hi, _, _⟩ := atE_some ha
    have hx := leftL_some hn ha
    have hy : (keysOf (t.2.1.eraseIdx i)).length = t.2.1.length - 1 := by rw [keys_len, List.length_eraseIdx]; simp [hi]
    simp only [behindT, withoutT, keys_snoc, wantL, hx]
    rw [if_neg (by simp [hy]; omega)]
/- want, walked through from its beginning, without a key -/
theorem leftL_take {want : List Int} {key : Int} {k : Nat} (hk : k < want.length) : leftL (want.take (k + 1)) key = if want.getD k 0 = key then leftL (want.take k) key else leftL (want.take k) key ++ [want.getD k 0] := by
  rw [List.take_add_one, List.getElem?_eq_getElem hk]
  have hg : want.getD k 0 = want[k] := by simp [List.getD_eq_getElem?_getD, hk]
  rw [hg]
  simp only [leftL, Option.toList_some, List.filter_append]
  by_cases h : want[k] = key
  · simp [h]
  · simp [h]
theorem leftL_le (want : List Int) (key : Int) : (leftL want key).length ≤ want.length := List.length_filter_le _ _
theorem lru_mayT (hm : mayT (2, cap, 1, 0) = true) : 1 ≤ cap ∧ cap ≤ 16 := by
  simp only [mayT, mayS_iff] at hm
  omega
theorem lru_mayT' (h1 : 1 ≤ cap) (h2 : cap ≤ 16) : mayT (2, cap, 1, 0) = true := by
  simp only [mayT, mayS_iff]
  refine ⟨by omega, by omega, h1, h2, by omega, by omega, fun _ => trivial, by omega, by omega⟩
theorem wantL_len {want : List Int} (hc : 1 ≤ cap) (h : (want.length : Int) ≤ cap) : ((wantL cap want key).length : Int) ≤ cap := by
  have := leftL_le want key
  rw [wantL]
  split
  · simp
    omega
  · rename_i h9
    omega
end Go.Proofs.Ythpniennaaihgaa
