/-
  Plain facts of tables, as three of the laws say them: what Del leaves, what Get changes, what Set sets.
-/
import Derived.Test.YthpniennaaihgaaPL
namespace Go.Proofs.Ythpniennaaihgaa

section
variable {t : Tb} {key f v : Int} {i : Nat} {ws : List Int}
theorem may_few (h : mayTb t = true) : t.2.1.length ≤ 40 ∧ ∀ e ∈ t.2.1, e.2.length ≤ 40 := by
  have hh := mayTb_head h
  simp only [headB, Bool.and_eq_true, decide_eq_true_iff] at hh
  have hs := hh.1
  simp only [mayT, mayS_iff] at hs
  refine ⟨by omega, fun e hm => ?_⟩
  obtain ⟨j, hj, rfl⟩ := List.getElem_of_mem hm
  have he := mayTb_ent h hj
  simp only [entB, Bool.and_eq_true, decide_eq_true_iff] at he
  have := he.1
  rw [List.getD_eq_getElem?_getD, List.getElem?_eq_getElem hj] at this
  simp only [Option.getD_some] at this
  omega
theorem del_next : (delT t key).1.2.2 = t.2.2 := by
  rw [delT]
  split
  · rcases atE t.2.1 key with _ | i
    · rfl
    · simp only
      split <;> rfl
  · rfl
theorem get_next : (getT t key f).1.2.2 = t.2.2 := by
  rw [getT]
  split
  · rcases atE t.2.1 key with _ | i
    · rfl
    · simp only
      split <;> rfl
  · rfl
theorem del_law (hm : mayTb t = true) (key other : Int) :
    (delT t key).2 = (getT t key 0).2.2 ∧ mayTb (delT t key).1 = true ∧ ((delT t key).2 = false → (delT t key).1 = t) ∧
    ((delT t key).2 = true → (getT (delT t key).1 key 0).2.2 = (t.1.1 == 0) ∧ (getT (delT t key).1 key 0).2.1 = 0) ∧
    (other ≠ key → (getT (delT t key).1 other 0).2 = (getT t other 0).2) := by
  by_cases h3 : t.1.1 = 3
  · rw [del_ring h3, get_ring h3]
    refine ⟨rfl, hm, fun _ => rfl, (fun h => by cases h), fun _ => ?_⟩
    rw [get_ring h3]
  · have h := (vk_iff h3).1 hm
    have hs := h.sc
    have hd := del_vk (key := key) h
    have hw : (0 : Int) < t.1.2.2.1 := by omega
    refine ⟨?_, hd.may, del_same, fun hok => ?_, fun hne => ?_⟩
    · rw [del_ok h, get_val h, if_pos hw]
      cases valE t.2.1 key <;> rfl
    · rw [get_val hd, del_sc, if_pos hw, del_val h, if_pos rfl]
      rw [del_ok h] at hok
      obtain ⟨o, ho⟩ := Option.isSome_iff_exists.1 hok
      by_cases h0 : t.1.1 = 0
      · rw [if_pos h0, ho, h0]
        refine ⟨rfl, ?_⟩
        simp only [gotV, Option.map_some]
        cases hn : t.1.2.2.1.toNat with
        | zero => simp
        | succ n => simp [List.replicate_succ]
      · rw [if_neg h0]
        exact ⟨by simp [gotV, h0], rfl⟩
    · rw [get_val hd, get_val h, del_sc, del_val h, if_neg hne]
theorem atE_snoc {es : List Ent} (h : key ∉ keysOf es) : atE (es ++ [(key, ws)]) key = some es.length := by
  refine atE_is (by simp) ?_ (fun j hj e => ?_)
  · simp [List.getD_eq_getElem?_getD]
  · rw [List.getD_eq_getElem?_getD, List.getElem?_append_left hj, ← List.getD_eq_getElem?_getD] at e
    exact h (e ▸ List.mem_map.2 ⟨_, getD_mem es j zeroE hj, rfl⟩)
theorem get_twice (h : VK t) : getT (getT t key f).1 key f = getT t key f := by
  have hk : keyedB (getT t key f).1 f = keyedB t f := by rw [(get_vk h).keyed, h.keyed, get_sc]
  by_cases hf : keyedB t f = true
  · rcases ha : atE t.2.1 key with _ | i
    · have : getT t key f = (t, 0, false) := by rw [getT, if_pos hf, ha]
      rw [this]
      exact this
    · by_cases h2 : t.1.1 = 2
      · have hg : getT t key f = (behindT (withoutT t i) (key, (t.2.1.getD i zeroE).2), (t.2.1.getD i zeroE).2.getD f.toNat 0, true) := by
          rw [getT, if_pos hf, ha]
          simp only [h2, if_true]
          rw [← ent_eq ha]
        rw [hg] at hk ⊢
        have hat := atE_snoc (ws := (t.2.1.getD i zeroE).2) (not_mem_erase h ha)
        have he : (t.2.1.eraseIdx i ++ [(key, (t.2.1.getD i zeroE).2)]).eraseIdx (t.2.1.eraseIdx i).length = t.2.1.eraseIdx i := by
          rw [List.eraseIdx_append_of_length_le (Nat.le_refl _)]
          simp
        have hl : (t.2.1.eraseIdx i ++ [(key, (t.2.1.getD i zeroE).2)]).getD (t.2.1.eraseIdx i).length zeroE = (key, (t.2.1.getD i zeroE).2) := by simp [List.getD_eq_getElem?_getD]
        have hk' : keyedB (t.1, t.2.1.eraseIdx i ++ [(key, (t.2.1.getD i zeroE).2)], t.2.2) f = true := by
          rw [← hf]
          exact hk
        simp only [getT, hk', if_true, behindT, withoutT, hat, h2, he, hl]
      · have : getT t key f = (t, (t.2.1.getD i zeroE).2.getD f.toNat 0, true) := by
          rw [getT, if_pos hf, ha]
          simp only [h2, if_false]
        rw [this]
        exact this
  · have : getT t key f = (t, 0, false) := by rw [getT, if_neg hf]
    rw [this]
    exact this
theorem gets_law (hm : mayTb t = true) (key f : Int) :
    (getT t key f).2.2 = (decide (0 ≤ atI t.2.1 key) && (decide (t.1.1 ≠ 3) && decide (f < t.1.2.2.1))) ∧ getT (getT t key f).1 key f = getT t key f ∧ mayTb (getT t key f).1 = true ∧ (getT t key f).1.2.1.length = t.2.1.length ∧
    ((getT t key f).2.2 = false ∨ t.1.1 ≠ 2 → (getT t key f).1 = t) ∧ ((getT t key f).2.2 = false → (getT t key f).2.1 = 0) ∧
    ((getT t key f).2.2 = true → t.1.1 = 2 → 0 < t.2.1.length ∧ ((getT t key f).1.2.1.getD (t.2.1.length - 1) zeroE).1 = key) := by
  by_cases h3 : t.1.1 = 3
  · rw [get_ring h3]
    refine ⟨by simp [h3], get_ring h3, hm, rfl, fun _ => rfl, fun _ => rfl, fun h => by cases h⟩
  · have h := (vk_iff h3).1 hm
    have hk : keyedB t f = decide (f < t.1.2.2.1) := h.keyed
    refine ⟨?_, get_twice h, (get_vk h).may, ?_, ?_, ?_, ?_⟩
    · rw [getT, hk]
      by_cases hf : f < t.1.2.2.1
      · rcases ha : atE t.2.1 key with _ | i
        · simp [hf, atI_none ha]
        · simp [hf, atI_some ha, h3]
      · simp [hf]
    · rw [getT]
      split
      · rcases ha : atE t.2.1 key with _ | i
        · rfl
        · simp only
          have hi := (atE_some ha).1
          split
          · show (t.2.1.eraseIdx i ++ [_]).length = t.2.1.length
            rw [List.length_append, List.length_eraseIdx_of_lt hi]
            simp
            omega
          · rfl
      · rfl
    · intro ho
      rw [getT] at ho ⊢
      split at ho
      · rename_i hq
        rw [if_pos hq]
        rcases ha : atE t.2.1 key with _ | i
        · rfl
        · rw [ha] at ho
          simp only at ho ⊢
          rcases ho with ho | ho
          · cases ho
          · rw [if_neg ho]
      · rename_i hq
        rw [if_neg hq]
    · intro ho
      rw [getT] at ho ⊢
      split at ho
      · rename_i hq
        rw [if_pos hq]
        rcases ha : atE t.2.1 key with _ | i
        · rfl
        · rw [ha] at ho
          cases ho
      · rename_i hq
        rw [if_neg hq]
    · intro ho h2
      rw [getT] at ho ⊢
      split at ho
      · rename_i hq
        rw [if_pos hq]
        rcases ha : atE t.2.1 key with _ | i
        · rw [ha] at ho
          cases ho
        · have hi := (atE_some ha).1
          simp only [h2, if_true]
          refine ⟨by omega, ?_⟩
          rw [ent_eq ha]
          show ((t.2.1.eraseIdx i ++ [(key, (t.2.1.getD i zeroE).2)]).getD (t.2.1.length - 1) zeroE).1 = key
          have hl : (t.2.1.eraseIdx i).length = t.2.1.length - 1 := List.length_eraseIdx_of_lt hi
          rw [← hl]
          simp [List.getD_eq_getElem?_getD]
      · cases ho
theorem del_zero (hm : mayTb t = true) (key : Int) : (getT (delT t key).1 key 0).2.1 = 0 := by
  obtain ⟨d1, _, d3, d4, _⟩ := del_law hm key key
  rcases hok : (delT t key).2 with _ | _
  · rw [d3 hok]
    exact (gets_law hm key 0).2.2.2.2.2.1 (d1.symm.trans hok)
  · exact (d4 hok).2
/- what Set sets -/
theorem getD_set_self {ws : List Int} {n : Nat} (hn : n < ws.length) (v : Int) : (ws.set n v).getD n 0 = v := by
  rw [List.getD_eq_getElem?_getD, List.getElem?_set_self hn]
  rfl
theorem getD_set_ne {ws : List Int} {n m : Nat} (h : n ≠ m) (v : Int) : (ws.set n v).getD m 0 = ws.getD m 0 := by
  rw [List.getD_eq_getElem?_getD, List.getElem?_set_ne h, ← List.getD_eq_getElem?_getD]
def oldV (t : Tb) (key : Int) : List Int := (valE t.2.1 key).getD (List.replicate t.1.2.2.1.toNat 0)
theorem old_len (h : VK t) (key : Int) : ((oldV t key).length : Int) = t.1.2.2.1 := by
  unfold oldV
  rw [valE_at]
  rcases ha : atE t.2.1 key with _ | i
  · exact zeros_len h
  · exact h.val_len ha
theorem set_no (h : (setT t key f v).2 ≠ 0) : (setT t key f v).1 = zeroT := by
  revert h
  rw [setT]
  split
  · rcases atE t.2.1 key with _ | i
    · simp only
      split
      · exact fun _ => rfl
      · split
        · exact fun _ => rfl
        · exact fun h => absurd rfl h
    · exact fun h => absurd rfl h
  · exact fun _ => rfl
theorem set_yes (h : (setT t key f v).2 = 0) : VK t ∧ f < t.1.2.2.1 := by
  by_cases hk : keyedB t f = true
  · simp only [keyedB, Bool.and_eq_true, decide_eq_true_iff] at hk
    exact ⟨(vk_iff hk.2.1).1 hk.1, hk.2.2⟩
  · rw [setT, if_neg hk] at h
    cases h
theorem set_next (h : (setT t key f v).2 = 0) : (setT t key f v).1.2.2 = t.2.2 := by
  revert h
  rw [setT]
  split
  · rcases atE t.2.1 key with _ | i
    · simp only
      split
      · exact fun h => by cases h
      · split
        · exact fun h => by cases h
        · intro _
          show (if _ then withoutT t 0 else t).2.2 = _
          split <;> rfl
    · intro _
      simp only
      split <;> rfl
  · exact fun h => by cases h
/- without its first entry -/
theorem erase_first {es : List Ent} (hn : (keysOf es).Nodup) (k' : Int) : valE (es.eraseIdx 0) k' = valE es k' ∨ valE (es.eraseIdx 0) k' = none := by
  cases es with
  | nil => exact .inl rfl
  | cons e es =>
    simp only [keysOf, List.map_cons, List.nodup_cons] at hn
    simp only [List.eraseIdx_cons_zero, valE]
    split
    · rename_i he
      exact .inr (valE_none.2 (he ▸ hn.1))
    · exact .inl rfl
theorem keys_erase_sub {es : List Ent} {i : Nat} {k : Int} (h : k ∈ keysOf (es.eraseIdx i)) : k ∈ keysOf es := by
  obtain ⟨e, he, rfl⟩ := List.mem_map.1 h
  exact List.mem_map.2 ⟨e, List.mem_of_mem_eraseIdx he, rfl⟩
theorem set_law (h : (setT t key f v).2 = 0) (hf0 : 0 ≤ f) :
    (setT t key f v).1.1 = t.1 ∧ VK (setT t key f v).1 ∧ valE (setT t key f v).1.2.1 key = some ((oldV t key).set f.toNat v) ∧ (setT t key f v).1.2.1.length ≤ t.2.1.length + 1 ∧
    ∀ k', k' ≠ key → valE (setT t key f v).1.2.1 k' = valE t.2.1 k' ∨ (valE (setT t key f v).1.2.1 k' = none ∧ t.1.1 = 2 ∧ (t.2.1.length : Int) = t.1.2.1) := by
  obtain ⟨hv, hf⟩ := set_yes h
  have hs := hv.sc
  have hc := hv.2.2.1
  have hk : keyedB t f = true := by rw [hv.keyed]; exact decide_eq_true hf
  have hol := old_len hv key
  have hsl : ((((oldV t key).set f.toNat v).length : Nat) : Int) = t.1.2.2.1 := by rw [List.length_set]; exact hol
  revert h
  rw [setT, if_pos hk]
  rcases ha : atE t.2.1 key with _ | i
  · have hnm := atE_isNone.1 ha
    have ho : oldV t key = List.replicate t.1.2.2.1.toNat 0 := by unfold oldV; rw [valE_at, ha]; rfl
    rw [← ho]
    simp only
    by_cases h0 : t.1.1 = 0
    · rw [if_pos h0]
      exact fun h => by cases h
    rw [if_neg h0]
    by_cases h1 : t.1.1 = 1 ∧ t.1.2.1 ≤ (t.2.1.length : Int)
    · rw [if_pos h1]
      exact fun h => by cases h
    rw [if_neg h1]
    intro _
    by_cases hfull : t.1.2.1 ≤ (t.2.1.length : Int)
    · rw [if_pos hfull]
      have h2 : t.1.1 = 2 := by have := hv.2.1; omega
      have hlt : (t.2.1.eraseIdx 0).length = t.2.1.length - 1 := List.length_eraseIdx_of_lt (by omega)
      have hnm' : key ∉ keysOf (t.2.1.eraseIdx 0) := fun h => hnm (keys_erase_sub h)
      refine ⟨rfl, (hv.erase h0 0).snoc h0 ?_ hnm' hsl, ?_, ?_, fun k' hne => ?_⟩
      · show ((t.2.1.eraseIdx 0).length : Int) < t.1.2.1
        omega
      · show valE (t.2.1.eraseIdx 0 ++ [(key, _)]) key = _
        rw [valE_snoc _ _ _ _ hnm', if_pos rfl]
      · show (t.2.1.eraseIdx 0 ++ [(key, _)]).length ≤ _
        rw [List.length_append]
        simp <;> omega
      · show valE (t.2.1.eraseIdx 0 ++ [(key, _)]) k' = _ ∨ valE (t.2.1.eraseIdx 0 ++ [(key, _)]) k' = none ∧ _
        rw [valE_snoc _ _ _ _ hnm', if_neg hne]
        rcases erase_first hv.2.2.2.2.1 k' with e | e
        · exact .inl e
        · exact .inr ⟨e, h2, by omega⟩
    · rw [if_neg hfull]
      refine ⟨rfl, hv.snoc h0 (by omega) hnm hsl, ?_, ?_, fun k' hne => ?_⟩
      · show valE (t.2.1 ++ [(key, _)]) key = _
        rw [valE_snoc _ _ _ _ hnm, if_pos rfl]
      · show (t.2.1 ++ [(key, _)]).length ≤ _
        simp
      · show valE (t.2.1 ++ [(key, _)]) k' = _ ∨ _
        rw [valE_snoc _ _ _ _ hnm, if_neg hne]
        exact .inl rfl
  · have ho : oldV t key = (t.2.1.getD i zeroE).2 := by unfold oldV; rw [valE_at, ha]; rfl
    intro _
    simp only
    rw [← ho]
    have hi := (atE_some ha).1
    by_cases h2 : t.1.1 = 2
    · rw [if_pos h2]
      have hnm' := not_mem_erase hv ha
      refine ⟨rfl, hv.moved (by omega) ha hsl, ?_, ?_, fun k' hne => ?_⟩
      · show valE (t.2.1.eraseIdx i ++ [(key, _)]) key = _
        rw [valE_snoc _ _ _ _ hnm', if_pos rfl]
      · show (t.2.1.eraseIdx i ++ [(key, _)]).length ≤ _
        have := List.length_eraseIdx_le t.2.1 i
        simp
        omega
      · show valE (t.2.1.eraseIdx i ++ [(key, _)]) k' = _ ∨ _
        rw [valE_snoc _ _ _ _ hnm', if_neg hne, valE_erase _ _ _ _ hv.2.2.2.2.1 ha, if_neg hne]
        exact .inl rfl
    · rw [if_neg h2]
      refine ⟨rfl, hv.put ha hsl, ?_, ?_, fun k' hne => ?_⟩
      · show valE (t.2.1.set i (key, _)) key = _
        rw [valE_set _ _ _ _ _ ha, if_pos rfl]
      · show (t.2.1.set i (key, _)).length ≤ _
        simp
      · show valE (t.2.1.set i (key, _)) k' = _ ∨ _
        rw [valE_set _ _ _ _ _ ha, if_neg hne]
        exact .inl rfl
/- what the law of Set says -/
theorem back_law (h : (setT t key f v).2 = 0) (hf0 : 0 ≤ f) (other place : Int) (hp0 : 0 ≤ place) :
    (getT (setT t key f v).1 key f).2 = (v, true) ∧ mayTb (setT t key f v).1 = true ∧ ((setT t key f v).1.2.1.length : Int) ≤ t.1.2.1 ∧ (setT t key f v).1.2.1.length ≤ t.2.1.length + 1 ∧
    (other = key → (getT t other place).2.2 = true → (getT (setT t key f v).1 other place).2.2 = true ∧ (place = f ∨ (getT (setT t key f v).1 other place).2.1 = (getT t other place).2.1)) ∧
    (other ≠ key → (getT (setT t key f v).1 other place).2 = (getT t other place).2 ∨ ((getT (setT t key f v).1 other place).2.2 = false ∧ t.1.1 = 2 ∧ (t.2.1.length : Int) = t.1.2.1)) := by
  obtain ⟨hv, hf⟩ := set_yes h
  have hs := hv.sc
  obtain ⟨e1, h1, h2, h4, h5⟩ := set_law h hf0
  have hol := old_len hv key
  have hfn : f.toNat < (oldV t key).length := by omega
  refine ⟨?_, h1.may, ?_, h4, fun hok had => ?_, fun hne => ?_⟩
  · rw [get_val h1, e1, if_pos hf, h2]
    simp only [gotV, getD_set_self hfn]
  · have := h1.2.2.1
    rwa [e1] at this
  · subst hok
    rw [get_val hv] at had ⊢
    rw [get_val h1, e1]
    by_cases hp : place < t.1.2.2.1
    · rw [if_pos hp] at had ⊢
      rw [if_pos hp, h2]
      refine ⟨rfl, ?_⟩
      by_cases hpf : place = f
      · exact .inl hpf
      · refine .inr ?_
        rcases hval : valE t.2.1 other with _ | ws
        · rw [hval] at had
          cases had
        · have ho : oldV t other = ws := by unfold oldV; rw [hval]; rfl
          rw [ho]
          exact getD_set_ne (by omega) v
    · rw [if_neg hp] at had
      cases had
  · rw [get_val hv, get_val h1, e1]
    rcases h5 other hne with e | ⟨e, e2, e3⟩
    · rw [e]
      exact .inl rfl
    · rw [e]
      refine .inr ⟨?_, e2, e3⟩
      split <;> rfl
end
end Go.Proofs.Ythpniennaaihgaa
