/-
  Texts that the laws of this layer stand on, one behind the other.
-/
import Derived.Test.YtilddlgcfbefiaaDoorGpt
/-
  Plain facts of tables: keys apart, what a key's words are, which tables stay valid.
-/
namespace Go.Proofs.YtilddlgcfbefiaaDoor
set_option linter.unusedSimpArgs false
set_option linter.unusedVariables false

def keysOf (es : List Ent) : List Int := es.map (fun e => e.1)
/- the words of a key -/
def valE : List Ent → Int → Option (List Int)
  | [], _ => none
  | e :: es, key => if e.1 = key then some e.2 else valE es key
theorem valE_at : ∀ (es : List Ent) (key : Int), valE es key = (atE es key).map (fun i => (es.getD i zeroE).2)
  | [], _ => rfl
  | e :: es, key => by
    rw [valE, atE]
    split
    · simp
    · rw [valE_at es key]
      cases atE es key <;> simp
theorem valE_none : ∀ {es : List Ent} {key : Int}, valE es key = none ↔ key ∉ keysOf es
  | [], key => by simp [valE, keysOf]
  | e :: es, key => by
    rw [valE]
    split
    · rename_i he
      simp [keysOf, he]
    · rename_i he
      rw [valE_none (es := es)]
      simp only [keysOf, List.map_cons, List.mem_cons, not_or]
      exact ⟨fun h => ⟨fun e => he e.symm, h⟩, fun h => h.2⟩
theorem atE_isNone {es : List Ent} {key : Int} : atE es key = none ↔ key ∉ keysOf es := by
  rw [← valE_none, valE_at]
  cases atE es key <;> simp
theorem valE_set : ∀ (es : List Ent) (key : Int) (ws : List Int) (i : Nat) (k' : Int), atE es key = some i → valE (es.set i (key, ws)) k' = if k' = key then some ws else valE es k'
  | [], _, _, _, _, h => by simp [atE] at h
  | e :: es, key, ws, i, k', h => by
    rw [atE] at h
    split at h
    · rename_i he
      obtain rfl := Option.some.inj h
      simp only [List.set_cons_zero, valE]
      by_cases hk : k' = key
      · simp [hk]
      · have h1 : ¬ key = k' := fun e => hk e.symm
        have h2 : ¬ e.1 = k' := fun e2 => h1 (he.symm.trans e2)
        simp [hk, h1, h2]
    · rename_i he
      obtain ⟨j, hj, rfl⟩ := Option.map_eq_some_iff.1 h
      simp only [List.set_cons_succ, valE]
      rw [valE_set es key ws j k' hj]
      by_cases hk : k' = key
      · subst hk
        simp [he]
      · simp [hk]
theorem valE_erase : ∀ (es : List Ent) (key : Int) (i : Nat) (k' : Int), (keysOf es).Nodup → atE es key = some i → valE (es.eraseIdx i) k' = if k' = key then none else valE es k'
  | [], _, _, _, _, h => by simp [atE] at h
  | e :: es, key, i, k', hn, h => by
    simp only [keysOf, List.map_cons, List.nodup_cons] at hn
    rw [atE] at h
    split at h
    · rename_i he
      obtain rfl := Option.some.inj h
      simp only [List.eraseIdx_cons_zero, valE]
      by_cases hk : k' = key
      · subst hk
        rw [if_pos rfl, valE_none, ← he]
        exact hn.1
      · have h2 : ¬ e.1 = k' := fun e2 => hk (e2.symm.trans he)
        simp [hk, h2]
    · rename_i he
      obtain ⟨j, hj, rfl⟩ := Option.map_eq_some_iff.1 h
      simp only [List.eraseIdx_cons_succ, valE]
      rw [valE_erase es key j k' hn.2 hj]
      by_cases hk : k' = key
      · subst hk
        simp [he]
      · simp [hk]
theorem valE_snoc : ∀ (es : List Ent) (key : Int) (ws : List Int) (k' : Int), key ∉ keysOf es → valE (es ++ [(key, ws)]) k' = if k' = key then some ws else valE es k'
  | [], key, ws, k', _ => by
    by_cases hk : k' = key
    · simp [valE, hk]
    · have h1 : ¬ key = k' := fun e => hk e.symm
      simp [valE, hk, h1]
  | e :: es, key, ws, k', h => by
    simp only [keysOf, List.map_cons, List.mem_cons, not_or] at h
    simp only [List.cons_append, valE]
    rw [valE_snoc es key ws k' h.2]
    by_cases hk : k' = key
    · subst hk
      have h1 : ¬ e.1 = k' := fun e2 => h.1 e2.symm
      simp [h1]
    · simp [hk]
theorem keys_set : ∀ (es : List Ent) (key : Int) (ws : List Int) (i : Nat), atE es key = some i → keysOf (es.set i (key, ws)) = keysOf es
  | [], _, _, _, h => by simp [atE] at h
  | e :: es, key, ws, i, h => by
    rw [atE] at h
    split at h
    · rename_i he
      obtain rfl := Option.some.inj h
      simp [keysOf, he]
    · obtain ⟨j, hj, rfl⟩ := Option.map_eq_some_iff.1 h
      have := keys_set es key ws j hj
      simp only [keysOf] at this
      simp [keysOf, this]
theorem nodup_erase {es : List Ent} (h : (keysOf es).Nodup) (i : Nat) : (keysOf (es.eraseIdx i)).Nodup := List.Pairwise.sublist ((List.eraseIdx_sublist es i).map _) h
theorem nodup_snoc {es : List Ent} {key : Int} {ws : List Int} (h : (keysOf es).Nodup) (hk : key ∉ keysOf es) : (keysOf (es ++ [(key, ws)])).Nodup := by
  simp only [keysOf, List.map_append, List.map_cons, List.map_nil, List.nodup_append] at *
  refine ⟨h, by simp, fun a ha b hb => ?_⟩
  simp at hb
  subst hb
  exact fun e => hk (e ▸ ha)
theorem nodup_iff : ∀ {es : List Ent}, (∀ i, i < es.length → atE es (es.getD i zeroE).1 = some i) ↔ (keysOf es).Nodup
  | [] => by simp [keysOf]
  | e :: es => by
    simp only [keysOf, List.map_cons, List.nodup_cons]
    rw [show (List.map (fun e => e.1) es).Nodup = (keysOf es).Nodup from rfl, ← nodup_iff (es := es)]
    constructor
    · intro h
      have h' : ∀ j, j < es.length → e.1 ≠ (es.getD j zeroE).1 ∧ atE es (es.getD j zeroE).1 = some j := by
        intro j hj
        have := h (j + 1) (by simp; omega)
        rw [List.getD_cons_succ, atE] at this
        split at this
        · simp at this
        · rename_i hne
          obtain ⟨i, hi, e2⟩ := Option.map_eq_some_iff.1 this
          have e3 : i = j := by omega
          subst e3
          exact ⟨hne, hi⟩
      refine ⟨fun hm => ?_, fun j hj => (h' j hj).2⟩
      obtain ⟨e', he', e2⟩ := List.mem_map.1 hm
      obtain ⟨j, hj, rfl⟩ := List.getElem_of_mem he'
      have := (h' j hj).1
      rw [List.getD_eq_getElem?_getD, List.getElem?_eq_getElem hj] at this
      exact this e2.symm
    · rintro ⟨h1, h2⟩ i hi
      cases i with
      | zero => simp [atE]
      | succ j =>
        have hj : j < es.length := by simpa using hi
        rw [List.getD_cons_succ, atE]
        have : ¬ e.1 = (es.getD j zeroE).1 := fun e2 => h1 (e2 ▸ List.mem_map.2 ⟨_, getD_mem es j zeroE hj, rfl⟩)
        rw [if_neg this, h2 j hj]
        rfl
/- a valid table whose entries are found by their keys -/
def VK (t : Tb) : Prop := mayT t.1 = true ∧ t.1.1 ≠ 3 ∧ (t.2.1.length : Int) ≤ t.1.2.1 ∧ t.2.2 = 0 ∧ (keysOf t.2.1).Nodup ∧ (∀ e ∈ t.2.1, (e.2.length : Int) = t.1.2.2.1) ∧ (t.1.1 = 0 → t.1.2.1 ≤ (t.2.1.length : Int) ∧ ∀ i, i < t.2.1.length → (t.2.1.getD i zeroE).1 = (i : Int))
theorem vk_iff {t : Tb} (h3 : t.1.1 ≠ 3) : mayTb t = true ↔ VK t := by
  constructor
  · intro h
    have hh := mayTb_head h
    have he : ∀ i, i < t.2.1.length → entB t i = true := fun i hi => mayTb_ent h hi
    simp only [headB, Bool.and_eq_true, Bool.or_eq_true, decide_eq_true_iff] at hh
    simp only [entB, Bool.and_eq_true, Bool.or_eq_true, decide_eq_true_iff] at he
    refine ⟨hh.1, h3, hh.2.1, hh.2.2.1.resolve_left h3, nodup_iff.1 (fun i hi => (he i hi).2.1), fun e hm => ?_, fun h0 => ⟨hh.2.2.2.resolve_left (fun e => e h0), fun i hi => (he i hi).2.2.1.resolve_left (fun e => e h0)⟩⟩
    obtain ⟨j, hj, rfl⟩ := List.getElem_of_mem hm
    have := (he j hj).1
    rwa [List.getD_eq_getElem?_getD, List.getElem?_eq_getElem hj] at this
  · rintro ⟨h1, _, h2, h4, h5, h6, h7⟩
    refine mayTb_mk ?_ (fun i hi => ?_)
    · simp only [headB, Bool.and_eq_true, Bool.or_eq_true, decide_eq_true_iff]
      refine ⟨h1, h2, .inr h4, ?_⟩
      by_cases h0 : t.1.1 = 0
      · exact .inr (h7 h0).1
      · exact .inl h0
    · simp only [entB, Bool.and_eq_true, Bool.or_eq_true, decide_eq_true_iff]
      refine ⟨h6 _ (getD_mem _ i zeroE hi), nodup_iff.2 h5 i hi, ?_, .inl h3⟩
      by_cases h0 : t.1.1 = 0
      · exact .inr ((h7 h0).2 i hi)
      · exact .inl h0
section
variable {t : Tb} {key f v : Int} {i : Nat} {ws : List Int}
theorem VK.may (h : VK t) : mayTb t = true := (vk_iff h.2.1).2 h
theorem VK.sc (h : VK t) : 0 ≤ t.1.1 ∧ t.1.1 ≤ 3 ∧ 1 ≤ t.1.2.1 ∧ t.1.2.1 ≤ 16 ∧ 1 ≤ t.1.2.2.1 ∧ t.1.2.2.1 ≤ 4 := by
  have := h.1
  simp only [mayT, mayS_iff] at this
  omega
theorem VK.keyed (h : VK t) : keyedB t f = decide (f < t.1.2.2.1) := by simp [keyedB, h.may, h.2.1]
theorem VK.put (h : VK t) (ha : atE t.2.1 key = some i) (hl : (ws.length : Int) = t.1.2.2.1) : VK (t.1, t.2.1.set i (key, ws), t.2.2) := by
  obtain ⟨h1, h2, h3, h4, h5, h6, h7⟩ := h
  refine ⟨h1, h2, by simpa using h3, h4, by simpa only [keys_set _ _ ws _ ha] using h5, fun e he => ?_, fun h0 => ⟨by simpa using (h7 h0).1, fun j hj => ?_⟩⟩
  · rcases List.mem_or_eq_of_mem_set he with hm | rfl
    · exact h6 e hm
    · exact hl
  · have hj' : j < t.2.1.length := by simpa using hj
    have := (h7 h0).2 j hj'
    obtain ⟨hi, hk, _⟩ := atE_some ha
    by_cases e : i = j
    · subst e
      show ((t.2.1.set i (key, ws)).getD i zeroE).1 = (i : Int)
      rw [List.getD_eq_getElem?_getD, List.getElem?_set_self hi]
      exact hk.symm.trans this
    · show ((t.2.1.set i (key, ws)).getD j zeroE).1 = (j : Int)
      rw [List.getD_eq_getElem?_getD, List.getElem?_set_ne e, ← List.getD_eq_getElem?_getD]
      exact this
theorem VK.erase (h : VK t) (h0 : t.1.1 ≠ 0) (i : Nat) : VK (withoutT t i) := by
  obtain ⟨h1, h2, h3, h4, h5, h6, h7⟩ := h
  refine ⟨h1, h2, ?_, h4, nodup_erase h5 i, fun e he => h6 e (List.mem_of_mem_eraseIdx he), fun e => absurd e h0⟩
  have := List.length_eraseIdx_le t.2.1 i
  show ((t.2.1.eraseIdx i).length : Int) ≤ t.1.2.1
  omega
theorem VK.snoc (h : VK t) (h0 : t.1.1 ≠ 0) (hc : (t.2.1.length : Int) < t.1.2.1) (hk : key ∉ keysOf t.2.1) (hl : (ws.length : Int) = t.1.2.2.1) : VK (behindT t (key, ws)) := by
  obtain ⟨h1, h2, h3, h4, h5, h6, h7⟩ := h
  refine ⟨h1, h2, ?_, h4, nodup_snoc h5 hk, fun e he => ?_, fun e => absurd e h0⟩
  · show ((t.2.1 ++ [(key, ws)]).length : Int) ≤ t.1.2.1
    simp
    omega
  · rcases List.mem_append.1 he with hm | hm
    · exact h6 e hm
    · simp at hm
      subst hm
      exact hl
theorem not_mem_erase (h : VK t) (ha : atE t.2.1 key = some i) : key ∉ keysOf (t.2.1.eraseIdx i) := by
  rw [← valE_none, valE_erase _ _ _ _ h.2.2.2.2.1 ha, if_pos rfl]
theorem VK.moved (h : VK t) (h0 : t.1.1 ≠ 0) (ha : atE t.2.1 key = some i) (hl : (ws.length : Int) = t.1.2.2.1) : VK (behindT (withoutT t i) (key, ws)) := by
  refine (h.erase h0 i).snoc h0 ?_ (not_mem_erase h ha) hl
  have hi := (atE_some ha).1
  have := h.2.2.1
  show ((t.2.1.eraseIdx i).length : Int) < t.1.2.1
  rw [List.length_eraseIdx_of_lt hi]
  omega
theorem VK.val_len (h : VK t) (ha : atE t.2.1 key = some i) : ((t.2.1.getD i zeroE).2.length : Int) = t.1.2.2.1 := h.2.2.2.2.2.1 _ (getD_mem _ i zeroE (atE_some ha).1)
theorem ent_eq (ha : atE t.2.1 key = some i) : t.2.1.getD i zeroE = (key, (t.2.1.getD i zeroE).2) := Prod.ext (atE_some ha).2.1 rfl
/- what Get tells -/
def gotV (o : Option (List Int)) (f : Int) : Int × Bool := match o with
  | some ws => (ws.getD f.toNat 0, true)
  | none => (0, false)
theorem get_val (h : VK t) : (getT t key f).2 = if f < t.1.2.2.1 then gotV (valE t.2.1 key) f else (0, false) := by
  rw [getT, h.keyed, valE_at]
  by_cases hf : f < t.1.2.2.1
  · simp only [hf, decide_true, if_true]
    cases atE t.2.1 key <;> rfl
  · simp [hf]
theorem get_vk (h : VK t) : VK (getT t key f).1 := by
  rw [getT]
  split
  · rcases ha : atE t.2.1 key with _ | i
    · exact h
    · simp only
      split
      · rename_i h2
        rw [ent_eq ha]
        exact h.moved (by omega) ha (h.val_len ha)
      · exact h
  · exact h
theorem get_sc : (getT t key f).1.1 = t.1 := by
  rw [getT]
  split
  · rcases atE t.2.1 key with _ | i
    · rfl
    · simp only
      split <;> rfl
  · rfl
theorem get_ring (h : t.1.1 = 3) : getT t key f = (t, 0, false) := by simp [getT, keyedB, h]
/- what Del leaves -/
theorem del_sc : (delT t key).1.1 = t.1 := by
  rw [delT]
  split
  · rcases atE t.2.1 key with _ | i
    · rfl
    · simp only
      split <;> rfl
  · rfl
theorem del_ring (h : t.1.1 = 3) : delT t key = (t, false) := by simp [delT, keyedB, h]
theorem del_same (h : (delT t key).2 = false) : (delT t key).1 = t := by
  revert h
  rw [delT]
  split
  · rcases atE t.2.1 key with _ | i
    · exact fun _ => rfl
    · simp
  · exact fun _ => rfl
theorem VK.del (h : VK t) : delT t key = (match atE t.2.1 key with
     | some i => (if t.1.1 = 0 then (t.1, t.2.1.set i (key, List.replicate t.1.2.2.1.toNat 0), t.2.2) else withoutT t i, true)
     | none => (t, false)) := by
  have := h.sc
  rw [delT, h.keyed, decide_eq_true (show 0 < t.1.2.2.1 by omega), if_pos rfl]
  cases atE t.2.1 key <;> rfl
theorem zeros_len (h : VK t) : ((List.replicate t.1.2.2.1.toNat (0 : Int)).length : Int) = t.1.2.2.1 := by
  have := h.sc
  simp
  omega
theorem del_vk (h : VK t) : VK (delT t key).1 := by
  rw [h.del]
  rcases ha : atE t.2.1 key with _ | i
  · exact h
  · simp only
    split
    · exact h.put ha (zeros_len h)
    · rename_i h0
      exact h.erase h0 i
theorem del_ok (h : VK t) : (delT t key).2 = (valE t.2.1 key).isSome := by
  rw [h.del, valE_at]
  cases atE t.2.1 key <;> rfl
theorem del_val (h : VK t) (k' : Int) : valE (delT t key).1.2.1 k' = if k' = key then (if t.1.1 = 0 then (valE t.2.1 key).map (fun _ => List.replicate t.1.2.2.1.toNat 0) else none) else valE t.2.1 k' := by
  rw [h.del]
  rcases ha : atE t.2.1 key with _ | i
  · have hn : valE t.2.1 key = none := by rw [valE_at, ha]; rfl
    by_cases hk : k' = key
    · subst hk
      simp [hn]
    · simp [hk]
  · have hs : valE t.2.1 key = some (t.2.1.getD i zeroE).2 := by rw [valE_at, ha]; rfl
    by_cases h0 : t.1.1 = 0
    · simp only [h0, if_true, hs, Option.map_some]
      exact valE_set _ _ _ _ _ ha
    · simp only [h0, if_false]
      exact valE_erase _ _ _ _ h.2.2.2.2.1 ha
end
end Go.Proofs.YtilddlgcfbefiaaDoor

/-
  Plain facts of tables, as three of the laws say them: what Del leaves, what Get changes, what Set sets.
-/
namespace Go.Proofs.YtilddlgcfbefiaaDoor
set_option linter.unusedSimpArgs false
set_option linter.unusedVariables false

section
variable {t : Tb} {key f v : Int} {i : Nat} {ws : List Int}
theorem may_few (h : mayTb t = true) : t.2.1.length ≤ 40 ∧ ∀ e ∈ t.2.1, e.2.length ≤ 40 := by
  have hh := mayTb_head h
  simp only [headB, Bool.and_eq_true, decide_eq_true_iff] at hh
  have hs := hh.1
  simp only [mayT, mayS_iff] at hs
  refine ⟨by omega, fun e hm => ?_⟩
  obtain ⟨j, hj, rfl⟩ := List.getElem_of_mem hm
  have he := mayTb_ent h hj
  simp only [entB, Bool.and_eq_true, decide_eq_true_iff] at he
  have := he.1
  rw [List.getD_eq_getElem?_getD, List.getElem?_eq_getElem hj] at this
  simp only [Option.getD_some] at this
  omega
theorem del_next : (delT t key).1.2.2 = t.2.2 := by
  rw [delT]
  split
  · rcases atE t.2.1 key with _ | i
    · rfl
    · simp only
      split <;> rfl
  · rfl
theorem get_next : (getT t key f).1.2.2 = t.2.2 := by
  rw [getT]
  split
  · rcases atE t.2.1 key with _ | i
    · rfl
    · simp only
      split <;> rfl
  · rfl
theorem del_law (hm : mayTb t = true) (key other : Int) :
    (delT t key).2 = (getT t key 0).2.2 ∧ mayTb (delT t key).1 = true ∧ ((delT t key).2 = false → (delT t key).1 = t) ∧
    ((delT t key).2 = true → (getT (delT t key).1 key 0).2.2 = (t.1.1 == 0) ∧ (getT (delT t key).1 key 0).2.1 = 0) ∧
    (other ≠ key → (getT (delT t key).1 other 0).2 = (getT t other 0).2) := by
  by_cases h3 : t.1.1 = 3
  · rw [del_ring h3, get_ring h3]
    refine ⟨rfl, hm, fun _ => rfl, (fun h => by cases h), fun _ => ?_⟩
    rw [get_ring h3]
  · have h := (vk_iff h3).1 hm
    have hs := h.sc
    have hd := del_vk (key := key) h
    have hw : (0 : Int) < t.1.2.2.1 := by omega
    refine ⟨?_, hd.may, del_same, fun hok => ?_, fun hne => ?_⟩
    · rw [del_ok h, get_val h, if_pos hw]
      cases valE t.2.1 key <;> rfl
    · rw [get_val hd, del_sc, if_pos hw, del_val h, if_pos rfl]
      rw [del_ok h] at hok
      obtain ⟨o, ho⟩ := Option.isSome_iff_exists.1 hok
      by_cases h0 : t.1.1 = 0
      · rw [if_pos h0, ho, h0]
        refine ⟨rfl, ?_⟩
        simp only [gotV, Option.map_some]
        cases hn : t.1.2.2.1.toNat with
        | zero => simp
        | succ n => simp [List.replicate_succ]
      · rw [if_neg h0]
        exact ⟨by simp [gotV, h0], rfl⟩
    · rw [get_val hd, get_val h, del_sc, del_val h, if_neg hne]
theorem atE_snoc {es : List Ent} (h : key ∉ keysOf es) : atE (es ++ [(key, ws)]) key = some es.length := by
  refine atE_is (by simp) ?_ (fun j hj e => ?_)
  · simp [List.getD_eq_getElem?_getD]
  · rw [List.getD_eq_getElem?_getD, List.getElem?_append_left hj, ← List.getD_eq_getElem?_getD] at e
    exact h (e ▸ List.mem_map.2 ⟨_, getD_mem es j zeroE hj, rfl⟩)
theorem get_twice (h : VK t) : getT (getT t key f).1 key f = getT t key f := by
  have hk : keyedB (getT t key f).1 f = keyedB t f := by rw [(get_vk h).keyed, h.keyed, get_sc]
  by_cases hf : keyedB t f = true
  · rcases ha : atE t.2.1 key with _ | i
    · have : getT t key f = (t, 0, false) := by rw [getT, if_pos hf, ha]
      rw [this]
      exact this
    · by_cases h2 : t.1.1 = 2
      · have hg : getT t key f = (behindT (withoutT t i) (key, (t.2.1.getD i zeroE).2), (t.2.1.getD i zeroE).2.getD f.toNat 0, true) := by
          rw [getT, if_pos hf, ha]
          simp only [h2, if_true]
          rw [← ent_eq ha]
        rw [hg] at hk ⊢
        have hat := atE_snoc (ws := (t.2.1.getD i zeroE).2) (not_mem_erase h ha)
        have he : (t.2.1.eraseIdx i ++ [(key, (t.2.1.getD i zeroE).2)]).eraseIdx (t.2.1.eraseIdx i).length = t.2.1.eraseIdx i := by
          rw [List.eraseIdx_append_of_length_le (Nat.le_refl _)]
          simp
        have hl : (t.2.1.eraseIdx i ++ [(key, (t.2.1.getD i zeroE).2)]).getD (t.2.1.eraseIdx i).length zeroE = (key, (t.2.1.getD i zeroE).2) := by simp [List.getD_eq_getElem?_getD]
        have hk' : keyedB (t.1, t.2.1.eraseIdx i ++ [(key, (t.2.1.getD i zeroE).2)], t.2.2) f = true := by
          rw [← hf]
          exact hk
        simp only [getT, hk', if_true, behindT, withoutT, hat, h2, he, hl]
      · have : getT t key f = (t, (t.2.1.getD i zeroE).2.getD f.toNat 0, true) := by
          rw [getT, if_pos hf, ha]
          simp only [h2, if_false]
        rw [this]
        exact this
  · have : getT t key f = (t, 0, false) := by rw [getT, if_neg hf]
    rw [this]
    exact this
theorem gets_law (hm : mayTb t = true) (key f : Int) :
    (getT t key f).2.2 = (decide (0 ≤ atI t.2.1 key) && (decide (t.1.1 ≠ 3) && decide (f < t.1.2.2.1))) ∧ getT (getT t key f).1 key f = getT t key f ∧ mayTb (getT t key f).1 = true ∧ (getT t key f).1.2.1.length = t.2.1.length ∧
    ((getT t key f).2.2 = false ∨ t.1.1 ≠ 2 → (getT t key f).1 = t) ∧ ((getT t key f).2.2 = false → (getT t key f).2.1 = 0) ∧
    ((getT t key f).2.2 = true → t.1.1 = 2 → 0 < t.2.1.length ∧ ((getT t key f).1.2.1.getD (t.2.1.length - 1) zeroE).1 = key) := by
  by_cases h3 : t.1.1 = 3
  · rw [get_ring h3]
    refine ⟨by simp [h3], get_ring h3, hm, rfl, fun _ => rfl, fun _ => rfl, fun h => by cases h⟩
  · have h := (vk_iff h3).1 hm
    have hk : keyedB t f = decide (f < t.1.2.2.1) := h.keyed
    refine ⟨?_, get_twice h, (get_vk h).may, ?_, ?_, ?_, ?_⟩
    · rw [getT, hk]
      by_cases hf : f < t.1.2.2.1
      · rcases ha : atE t.2.1 key with _ | i
        · simp [hf, atI_none ha]
        · simp [hf, atI_some ha, h3]
      · simp [hf]
    · rw [getT]
      split
      · rcases ha : atE t.2.1 key with _ | i
        · rfl
        · simp only
          have hi := (atE_some ha).1
          split
          · show (t.2.1.eraseIdx i ++ [_]).length = t.2.1.length
            rw [List.length_append, List.length_eraseIdx_of_lt hi]
            simp
            omega
          · rfl
      · rfl
    · intro ho
      rw [getT] at ho ⊢
      split at ho
      · rename_i hq
        rw [if_pos hq]
        rcases ha : atE t.2.1 key with _ | i
        · rfl
        · rw [ha] at ho
          simp only at ho ⊢
          rcases ho with ho | ho
          · cases ho
          · rw [if_neg ho]
      · rename_i hq
        rw [if_neg hq]
    · intro ho
      rw [getT] at ho ⊢
      split at ho
      · rename_i hq
        rw [if_pos hq]
        rcases ha : atE t.2.1 key with _ | i
        · rfl
        · rw [ha] at ho
          cases ho
      · rename_i hq
        rw [if_neg hq]
    · intro ho h2
      rw [getT] at ho ⊢
      split at ho
      · rename_i hq
        rw [if_pos hq]
        rcases ha : atE t.2.1 key with _ | i
        · rw [ha] at ho
          cases ho
        · have hi := (atE_some ha).1
          simp only [h2, if_true]
          refine ⟨by omega, ?_⟩
          rw [ent_eq ha]
          show ((t.2.1.eraseIdx i ++ [(key, (t.2.1.getD i zeroE).2)]).getD (t.2.1.length - 1) zeroE).1 = key
          have hl : (t.2.1.eraseIdx i).length = t.2.1.length - 1 := List.length_eraseIdx_of_lt hi
          rw [← hl]
          simp [List.getD_eq_getElem?_getD]
      · cases ho
theorem del_zero (hm : mayTb t = true) (key : Int) : (getT (delT t key).1 key 0).2.1 = 0 := by
  obtain ⟨d1, _, d3, d4, _⟩ := del_law hm key key
  rcases hok : (delT t key).2 with _ | _
  · rw [d3 hok]
    exact (gets_law hm key 0).2.2.2.2.2.1 (d1.symm.trans hok)
  · exact (d4 hok).2
/- what Set sets -/
theorem getD_set_self {ws : List Int} {n : Nat} (hn : n < ws.length) (v : Int) : (ws.set n v).getD n 0 = v := by
  rw [List.getD_eq_getElem?_getD, List.getElem?_set_self hn]
  rfl
theorem getD_set_ne {ws : List Int} {n m : Nat} (h : n ≠ m) (v : Int) : (ws.set n v).getD m 0 = ws.getD m 0 := by
  rw [List.getD_eq_getElem?_getD, List.getElem?_set_ne h, ← List.getD_eq_getElem?_getD]
def oldV (t : Tb) (key : Int) : List Int := (valE t.2.1 key).getD (List.replicate t.1.2.2.1.toNat 0)
theorem old_len (h : VK t) (key : Int) : ((oldV t key).length : Int) = t.1.2.2.1 := by
  unfold oldV
  rw [valE_at]
  rcases ha : atE t.2.1 key with _ | i
  · exact zeros_len h
  · exact h.val_len ha
theorem set_no (h : (setT t key f v).2 ≠ 0) : (setT t key f v).1 = zeroT := by
  revert h
  rw [setT]
  split
  · rcases atE t.2.1 key with _ | i
    · simp only
      split
      · exact fun _ => rfl
      · split
        · exact fun _ => rfl
        · exact fun h => absurd rfl h
    · exact fun h => absurd rfl h
  · exact fun _ => rfl
theorem set_yes (h : (setT t key f v).2 = 0) : VK t ∧ f < t.1.2.2.1 := by
  by_cases hk : keyedB t f = true
  · simp only [keyedB, Bool.and_eq_true, decide_eq_true_iff] at hk
    exact ⟨(vk_iff hk.2.1).1 hk.1, hk.2.2⟩
  · rw [setT, if_neg hk] at h
    cases h
theorem set_next (h : (setT t key f v).2 = 0) : (setT t key f v).1.2.2 = t.2.2 := by
  revert h
  rw [setT]
  split
  · rcases atE t.2.1 key with _ | i
    · simp only
      split
      · exact fun h => by cases h
      · split
        · exact fun h => by cases h
        · intro _
          show (if _ then withoutT t 0 else t).2.2 = _
          split <;> rfl
    · intro _
      simp only
      split <;> rfl
  · exact fun h => by cases h
/- without its first entry -/
theorem erase_first {es : List Ent} (hn : (keysOf es).Nodup) (k' : Int) : valE (es.eraseIdx 0) k' = valE es k' ∨ valE (es.eraseIdx 0) k' = none := by
  cases es with
  | nil => exact .inl rfl
  | cons e es =>
    simp only [keysOf, List.map_cons, List.nodup_cons] at hn
    simp only [List.eraseIdx_cons_zero, valE]
    split
    · rename_i he
      exact .inr (valE_none.2 (he ▸ hn.1))
    · exact .inl rfl
theorem keys_erase_sub {es : List Ent} {i : Nat} {k : Int} (h : k ∈ keysOf (es.eraseIdx i)) : k ∈ keysOf es := by
  obtain ⟨e, he, rfl⟩ := List.mem_map.1 h
  exact List.mem_map.2 ⟨e, List.mem_of_mem_eraseIdx he, rfl⟩
theorem set_law (h : (setT t key f v).2 = 0) (hf0 : 0 ≤ f) :
    (setT t key f v).1.1 = t.1 ∧ VK (setT t key f v).1 ∧ valE (setT t key f v).1.2.1 key = some ((oldV t key).set f.toNat v) ∧ (setT t key f v).1.2.1.length ≤ t.2.1.length + 1 ∧
    ∀ k', k' ≠ key → valE (setT t key f v).1.2.1 k' = valE t.2.1 k' ∨ (valE (setT t key f v).1.2.1 k' = none ∧ t.1.1 = 2 ∧ (t.2.1.length : Int) = t.1.2.1) := by
  obtain ⟨hv, hf⟩ := set_yes h
  have hs := hv.sc
  have hc := hv.2.2.1
  have hk : keyedB t f = true := by rw [hv.keyed]; exact decide_eq_true hf
  have hol := old_len hv key
  have hsl : ((((oldV t key).set f.toNat v).length : Nat) : Int) = t.1.2.2.1 := by rw [List.length_set]; exact hol
  revert h
  rw [setT, if_pos hk]
  rcases ha : atE t.2.1 key with _ | i
  · have hnm := atE_isNone.1 ha
    have ho : oldV t key = List.replicate t.1.2.2.1.toNat 0 := by unfold oldV; rw [valE_at, ha]; rfl
    rw [← ho]
    simp only
    by_cases h0 : t.1.1 = 0
    · rw [if_pos h0]
      exact fun h => by cases h
    rw [if_neg h0]
    by_cases h1 : t.1.1 = 1 ∧ t.1.2.1 ≤ (t.2.1.length : Int)
    · rw [if_pos h1]
      exact fun h => by cases h
    rw [if_neg h1]
    intro _
    by_cases hfull : t.1.2.1 ≤ (t.2.1.length : Int)
    · rw [if_pos hfull]
      have h2 : t.1.1 = 2 := by have := hv.2.1; omega
      have hlt : (t.2.1.eraseIdx 0).length = t.2.1.length - 1 := List.length_eraseIdx_of_lt (by omega)
      have hnm' : key ∉ keysOf (t.2.1.eraseIdx 0) := fun h => hnm (keys_erase_sub h)
      refine ⟨rfl, (hv.erase h0 0).snoc h0 ?_ hnm' hsl, ?_, ?_, fun k' hne => ?_⟩
      · show ((t.2.1.eraseIdx 0).length : Int) < t.1.2.1
        omega
      · show valE (t.2.1.eraseIdx 0 ++ [(key, _)]) key = _
        rw [valE_snoc _ _ _ _ hnm', if_pos rfl]
      · show (t.2.1.eraseIdx 0 ++ [(key, _)]).length ≤ _
        rw [List.length_append]
        simp <;> omega
      · show valE (t.2.1.eraseIdx 0 ++ [(key, _)]) k' = _ ∨ valE (t.2.1.eraseIdx 0 ++ [(key, _)]) k' = none ∧ _
        rw [valE_snoc _ _ _ _ hnm', if_neg hne]
        rcases erase_first hv.2.2.2.2.1 k' with e | e
        · exact .inl e
        · exact .inr ⟨e, h2, by omega⟩
    · rw [if_neg hfull]
      refine ⟨rfl, hv.snoc h0 (by omega) hnm hsl, ?_, ?_, fun k' hne => ?_⟩
      · show valE (t.2.1 ++ [(key, _)]) key = _
        rw [valE_snoc _ _ _ _ hnm, if_pos rfl]
      · show (t.2.1 ++ [(key, _)]).length ≤ _
        simp
      · show valE (t.2.1 ++ [(key, _)]) k' = _ ∨ _
        rw [valE_snoc _ _ _ _ hnm, if_neg hne]
        exact .inl rfl
  · have ho : oldV t key = (t.2.1.getD i zeroE).2 := by unfold oldV; rw [valE_at, ha]; rfl
    intro _
    simp only
    rw [← ho]
    have hi := (atE_some ha).1
    by_cases h2 : t.1.1 = 2
    · rw [if_pos h2]
      have hnm' := not_mem_erase hv ha
      refine ⟨rfl, hv.moved (by omega) ha hsl, ?_, ?_, fun k' hne => ?_⟩
      · show valE (t.2.1.eraseIdx i ++ [(key, _)]) key = _
        rw [valE_snoc _ _ _ _ hnm', if_pos rfl]
      · show (t.2.1.eraseIdx i ++ [(key, _)]).length ≤ _
        have := List.length_eraseIdx_le t.2.1 i
        simp
        omega
      · show valE (t.2.1.eraseIdx i ++ [(key, _)]) k' = _ ∨ _
        rw [valE_snoc _ _ _ _ hnm', if_neg hne, valE_erase _ _ _ _ hv.2.2.2.2.1 ha, if_neg hne]
        exact .inl rfl
    · rw [if_neg h2]
      refine ⟨rfl, hv.put ha hsl, ?_, ?_, fun k' hne => ?_⟩
      · show valE (t.2.1.set i (key, _)) key = _
        rw [valE_set _ _ _ _ _ ha, if_pos rfl]
      · show (t.2.1.set i (key, _)).length ≤ _
        simp
      · show valE (t.2.1.set i (key, _)) k' = _ ∨ _
        rw [valE_set _ _ _ _ _ ha, if_neg hne]
        exact .inl rfl
/- what the law of Set says -/
theorem back_law (h : (setT t key f v).2 = 0) (hf0 : 0 ≤ f) (other place : Int) (hp0 : 0 ≤ place) :
    (getT (setT t key f v).1 key f).2 = (v, true) ∧ mayTb (setT t key f v).1 = true ∧ ((setT t key f v).1.2.1.length : Int) ≤ t.1.2.1 ∧ (setT t key f v).1.2.1.length ≤ t.2.1.length + 1 ∧
    (other = key → (getT t other place).2.2 = true → (getT (setT t key f v).1 other place).2.2 = true ∧ (place = f ∨ (getT (setT t key f v).1 other place).2.1 = (getT t other place).2.1)) ∧
    (other ≠ key → (getT (setT t key f v).1 other place).2 = (getT t other place).2 ∨ ((getT (setT t key f v).1 other place).2.2 = false ∧ t.1.1 = 2 ∧ (t.2.1.length : Int) = t.1.2.1)) := by
  obtain ⟨hv, hf⟩ := set_yes h
  have hs := hv.sc
  obtain ⟨e1, h1, h2, h4, h5⟩ := set_law h hf0
  have hol := old_len hv key
  have hfn : f.toNat < (oldV t key).length := by omega
  refine ⟨?_, h1.may, ?_, h4, fun hok had => ?_, fun hne => ?_⟩
  · rw [get_val h1, e1, if_pos hf, h2]
    simp only [gotV, getD_set_self hfn]
  · have := h1.2.2.1
    rwa [e1] at this
  · subst hok
    rw [get_val hv] at had ⊢
    rw [get_val h1, e1]
    by_cases hp : place < t.1.2.2.1
    · rw [if_pos hp] at had ⊢
      rw [if_pos hp, h2]
      refine ⟨rfl, ?_⟩
      by_cases hpf : place = f
      · exact .inl hpf
      · refine .inr ?_
        rcases hval : valE t.2.1 other with _ | ws
        · rw [hval] at had
          cases had
        · have ho : oldV t other = ws := by unfold oldV; rw [hval]; rfl
          rw [ho]
          exact getD_set_ne (by omega) v
    · rw [if_neg hp] at had
      cases had
  · rw [get_val hv, get_val h1, e1]
    rcases h5 other hne with e | ⟨e, e2, e3⟩
    · rw [e]
      exact .inl rfl
    · rw [e]
      refine .inr ⟨?_, e2, e3⟩
      split <;> rfl
end
end Go.Proofs.YtilddlgcfbefiaaDoor

/-
  Plain facts of tables: an Array has just the keys below Cap; a Hash that is full; what New makes.
-/
namespace Go.Proofs.YtilddlgcfbefiaaDoor
set_option linter.unusedSimpArgs false
set_option linter.unusedVariables false

section
variable {t : Tb} {s : Sc} {key f v : Int}
theorem new_vk (h : mayT s = true) (h3 : s.1 ≠ 3) : VK (newT s) := by
  have hs := h
  simp only [mayT, mayS_iff] at hs
  rw [newT, if_pos h]
  by_cases h0 : s.1 = 0
  · rw [if_pos h0]
    have hk : keysOf ((List.range s.2.1.toNat).map (fun (k : Nat) => ((k : Int), List.replicate s.2.2.1.toNat (0 : Int)))) = (List.range s.2.1.toNat).map (fun (k : Nat) => (k : Int)) := by
      simp [keysOf]
    refine ⟨h, h3, ?_, rfl, ?_, fun e he => ?_, fun _ => ⟨?_, fun i hi => ?_⟩⟩
    · simp
      omega
    · show (keysOf _).Nodup
      rw [hk]
      refine List.Pairwise.map _ (fun a b hab e => hab ?_) (List.nodup_range)
      exact Int.ofNat.inj e
    · obtain ⟨k, _, rfl⟩ := List.mem_map.1 he
      simp
      omega
    · simp
      omega
    · have hi' : i < s.2.1.toNat := by simpa using hi
      simp [List.getD_eq_getElem?_getD, hi']
  · rw [if_neg h0]
    exact ⟨h, h3, by simp; omega, rfl, by simp [keysOf], fun e he => by simp at he, fun e => absurd e h0⟩
theorem new_sc (h : mayT s = true) : (newT s).1 = s := by rw [newT, if_pos h]
theorem new_e (h : newE s = 0) : mayT s = true := by
  rcases hm : mayT s with _ | _
  · simp [newE, hm] at h
  · rfl
/- an Array's keys -/
theorem array_at (h : VK t) (h0 : t.1.1 = 0) (hk0 : 0 ≤ key) : atE t.2.1 key = if key < t.1.2.1 then some key.toNat else none := by
  obtain ⟨hc, hi⟩ := h.2.2.2.2.2.2 h0
  have hl := h.2.2.1
  split
  · rename_i hlt
    refine atE_is (by omega) ?_ (fun j hj => ?_)
    · rw [hi _ (by omega)]
      omega
    · rw [hi _ (by omega)]
      omega
  · refine atE_no (fun j hj => ?_)
    rw [hi j hj]
    omega
theorem array_set (h : VK t) (h0 : t.1.1 = 0) (hk0 : 0 ≤ key) : (setT t key 0 v).2 = if key < t.1.2.1 then 0 else 3 := by
  have hs := h.sc
  rw [setT, h.keyed, decide_eq_true (show 0 < t.1.2.2.1 by omega), if_pos rfl, array_at h h0 hk0]
  by_cases hlt : key < t.1.2.1
  · simp [hlt]
  · simp [hlt, h0]
theorem array_del (h : VK t) (h0 : t.1.1 = 0) (hk0 : 0 ≤ key) : (delT t key).2 = decide (key < t.1.2.1) := by
  rw [h.del, array_at h h0 hk0]
  by_cases hlt : key < t.1.2.1
  · simp [hlt]
  · simp [hlt]
theorem array_len (h : VK t) (h0 : t.1.1 = 0) : (t.2.1.length : Int) = t.1.2.1 := by
  have := (h.2.2.2.2.2.2 h0).1
  have := h.2.2.1
  omega
theorem array_new (h : mayT s = true) (h0 : s.1 = 0) (hk0 : 0 ≤ key) (hk : key < s.2.1) (hf0 : 0 ≤ f) (hf : f < s.2.2.1) : (getT (newT s) key f).2 = (0, true) := by
  have hv := new_vk h (by omega)
  have hsc := new_sc h
  have hat := array_at hv (by rw [hsc]; exact h0) hk0
  rw [hsc, if_pos hk] at hat
  rw [get_val hv, hsc, if_pos hf, valE_at, hat]
  have he : (newT s).2.1 = (List.range s.2.1.toNat).map (fun (k : Nat) => ((k : Int), List.replicate s.2.2.1.toNat (0 : Int))) := by rw [newT, if_pos h, if_pos h0]
  have hkn : key.toNat < s.2.1.toNat := by omega
  have hfn : f.toNat < s.2.2.1.toNat := by omega
  simp [gotV, he, List.getD_eq_getElem?_getD, hkn, hfn]
/- a Hash whose keys are one behind the other -/
def fullE (key : Int) (k : Nat) : List Ent := (List.range k).map (fun (j : Nat) => ((key + (j : Int)) % 4294967296, [(1 : Int)]))
theorem fullE_succ (key : Int) (k : Nat) : fullE key (k + 1) = fullE key k ++ [((key + (k : Int)) % 4294967296, [1])] := by simp [fullE, List.range_succ]
theorem fullE_len (key : Int) (k : Nat) : (fullE key k).length = k := by simp [fullE]
theorem fullE_mem {key x : Int} {k : Nat} : x ∈ keysOf (fullE key k) ↔ ∃ j : Nat, j < k ∧ (key + (j : Int)) % 4294967296 = x := by
  simp [keysOf, fullE]
theorem fullE_nodup (key : Int) : ∀ k : Nat, k ≤ 17 → (keysOf (fullE key k)).Nodup
  | 0, _ => by simp [keysOf, fullE]
  | k + 1, hk => by
    rw [fullE_succ]
    refine nodup_snoc (fullE_nodup key k (by omega)) (fun hm => ?_)
    obtain ⟨j, hj, e⟩ := fullE_mem.1 hm
    omega
def hashT (cap key : Int) (k : Nat) : Tb := ((1, cap, 1, 0), fullE key k, 0)
theorem hash_vk {cap : Int} (hm : mayT (1, cap, 1, 0) = true) {k : Nat} (hk : (k : Int) ≤ cap) : VK (hashT cap key k) := by
  have hs := hm
  simp only [mayT, mayS_iff] at hs
  refine ⟨hm, by show (1 : Int) ≠ 3; omega, ?_, rfl, fullE_nodup key k (by omega), fun e he => ?_, fun e => ?_⟩
  · show ((fullE key k).length : Int) ≤ cap
    rw [fullE_len]
    exact hk
  · obtain ⟨j, _, rfl⟩ := List.mem_map.1 he
    rfl
  · have e' : (1 : Int) = 0 := e
    omega
theorem hash_none {cap : Int} {k : Nat} (hk : k ≤ 16) : atE (hashT cap key k).2.1 ((key + (k : Int)) % 4294967296) = none := by
  refine atE_isNone.2 (fun hm => ?_)
  obtain ⟨j, hj, e⟩ := fullE_mem.1 hm
  omega
theorem hash_set {cap : Int} (hm : mayT (1, cap, 1, 0) = true) {k : Nat} (hk : (k : Int) < cap) : setT (hashT cap key k) ((key + (k : Int)) % 4294967296) 0 1 = (hashT cap key (k + 1), 0) := by
  have hs := hm
  simp only [mayT, mayS_iff] at hs
  have hv := hash_vk (key := key) hm (k := k) (by omega)
  rw [setT, hv.keyed, hash_none (by omega)]
  have hl : (hashT cap key k).2.1.length = k := fullE_len key k
  have e1 : ¬ ((hashT cap key k).1.1 = 1 ∧ (hashT cap key k).1.2.1 ≤ ((hashT cap key k).2.1.length : Int)) := by
    rw [hl]
    show ¬ (_ ∧ cap ≤ _)
    omega
  have e2 : ¬ (hashT cap key k).1.2.1 ≤ ((hashT cap key k).2.1.length : Int) := by
    rw [hl]
    show ¬ cap ≤ _
    omega
  have e0 : ¬ (hashT cap key k).1.1 = 0 := by show ¬ (1 : Int) = 0; omega
  rw [decide_eq_true (show (0 : Int) < (hashT cap key k).1.2.2.1 from by show (0 : Int) < 1; omega), if_pos rfl]
  simp only
  rw [if_neg e0, if_neg e1, if_neg e2]
  simp only [behindT, hashT, fullE_succ]
  rfl
theorem hash_full {cap : Int} (hm : mayT (1, cap, 1, 0) = true) {k : Nat} (hk : (k : Int) = cap) : (setT (hashT cap key k) ((key + (k : Int)) % 4294967296) 0 1).2 = 4 := by
  have hs := hm
  simp only [mayT, mayS_iff] at hs
  have hv := hash_vk (key := key) hm (k := k) (by omega)
  rw [setT, hv.keyed, hash_none (by omega)]
  have hl : (hashT cap key k).2.1.length = k := fullE_len key k
  have e1 : (hashT cap key k).1.1 = 1 ∧ (hashT cap key k).1.2.1 ≤ ((hashT cap key k).2.1.length : Int) := by
    rw [hl]
    refine ⟨rfl, ?_⟩
    show cap ≤ _
    omega
  have e0 : ¬ (hashT cap key k).1.1 = 0 := by show ¬ (1 : Int) = 0; omega
  rw [decide_eq_true (show (0 : Int) < (hashT cap key k).1.2.2.1 from by show (0 : Int) < 1; omega), if_pos rfl]
  simp only
  rw [if_neg e0, if_pos e1]
theorem hash_at {cap : Int} {k : Nat} (hk : 0 < k) (hkey : 0 ≤ key ∧ key ≤ 4294967295) : atE (hashT cap key k).2.1 key = some 0 := by
  refine atE_is ?_ ?_ (fun j hj => absurd hj (by omega))
  · show 0 < (fullE key k).length
    rw [fullE_len]
    exact hk
  · show ((fullE key k).getD 0 zeroE).1 = key
    simp [fullE, List.getD_eq_getElem?_getD, hk]
    omega
theorem hash_again {cap : Int} (hm : mayT (1, cap, 1, 0) = true) {k : Nat} (hk : (k : Int) = cap) (hkey : 0 ≤ key ∧ key ≤ 4294967295) : (setT (hashT cap key k) key 0 2).2 = 0 := by
  have hs := hm
  simp only [mayT, mayS_iff] at hs
  have hv := hash_vk (key := key) hm (k := k) (by omega)
  rw [setT, hv.keyed, hash_at (by omega) hkey, decide_eq_true (show (0 : Int) < (hashT cap key k).1.2.2.1 from by show (0 : Int) < 1; omega), if_pos rfl]
/- with one let go, and one more -/
theorem hash_more {cap : Int} (hm : mayT (1, cap, 1, 0) = true) {k : Nat} (hk : (k : Int) = cap) (hkey : 0 ≤ key ∧ key ≤ 4294967295) :
    (delT (hashT cap key k) key).2 = true ∧ VK (delT (hashT cap key k) key).1 ∧
    (setT (delT (hashT cap key k) key).1 ((key + (k : Int)) % 4294967296) 0 1).2 = 0 ∧
    mayTb (setT (delT (hashT cap key k) key).1 ((key + (k : Int)) % 4294967296) 0 1).1 = true ∧
    (getT (setT (delT (hashT cap key k) key).1 ((key + (k : Int)) % 4294967296) 0 1).1 key 0).2.2 = false ∧
    ((setT (delT (hashT cap key k) key).1 ((key + (k : Int)) % 4294967296) 0 1).1.2.1.length : Int) = cap := by
  have hs := hm
  simp only [mayT, mayS_iff] at hs
  have hv := hash_vk (key := key) hm (k := k) (by omega)
  have hd := del_vk (key := key) hv
  have hdel : delT (hashT cap key k) key = (withoutT (hashT cap key k) 0, true) := by
    rw [hv.del, hash_at (by omega) hkey]
    rfl
  rw [hdel] at hd ⊢
  simp only at hd ⊢
  have hlen : (withoutT (hashT cap key k) 0).2.1.length = k - 1 := by
    show ((fullE key k).eraseIdx 0).length = k - 1
    rw [List.length_eraseIdx_of_lt (by rw [fullE_len]; omega), fullE_len]
  have hnone : atE (withoutT (hashT cap key k) 0).2.1 ((key + (k : Int)) % 4294967296) = none := by
    refine atE_isNone.2 (fun h => ?_)
    have h2 : ((key + (k : Int)) % 4294967296) ∈ keysOf (fullE key k) := keys_erase_sub h
    obtain ⟨j, hj, e⟩ := fullE_mem.1 h2
    omega
  have hset : setT (withoutT (hashT cap key k) 0) ((key + (k : Int)) % 4294967296) 0 1 = (behindT (withoutT (hashT cap key k) 0) ((key + (k : Int)) % 4294967296, [1]), 0) := by
    have e1 : ¬ ((withoutT (hashT cap key k) 0).1.1 = 1 ∧ (withoutT (hashT cap key k) 0).1.2.1 ≤ ((withoutT (hashT cap key k) 0).2.1.length : Int)) := by
      rw [hlen]
      show ¬ (_ ∧ cap ≤ _)
      omega
    have e2 : ¬ (withoutT (hashT cap key k) 0).1.2.1 ≤ ((withoutT (hashT cap key k) 0).2.1.length : Int) := by
      rw [hlen]
      show ¬ cap ≤ _
      omega
    have e0 : ¬ (withoutT (hashT cap key k) 0).1.1 = 0 := by show ¬ (1 : Int) = 0; omega
    rw [setT, hd.keyed, hnone, decide_eq_true (show (0 : Int) < (withoutT (hashT cap key k) 0).1.2.2.1 from by show (0 : Int) < 1; omega), if_pos rfl]
    simp only
    rw [if_neg e0, if_neg e1, if_neg e2]
    rfl
  have hl0 : (setT (withoutT (hashT cap key k) 0) ((key + (k : Int)) % 4294967296) 0 1).2 = 0 := by rw [hset]
  obtain ⟨q1, q2, q3, q4, q5⟩ := set_law hl0 (by omega)
  have hne : key ≠ (key + (k : Int)) % 4294967296 := by omega
  refine ⟨trivial, hd, hl0, q2.may, ?_, ?_⟩
  · rw [get_val q2, q1]
    rcases q5 key hne with e | ⟨e, _⟩
    · have : valE (withoutT (hashT cap key k) 0).2.1 key = none := by
        show valE ((fullE key k).eraseIdx 0) key = none
        rw [valE_erase (fullE key k) key 0 key (fullE_nodup key k (by omega)) (hash_at (cap := cap) (by omega) hkey), if_pos rfl]
      rw [e, this]
      split <;> rfl
    · rw [e]
      split <;> rfl
  · rw [hset]
    show (((withoutT (hashT cap key k) 0).2.1 ++ [_]).length : Int) = cap
    rw [List.length_append, hlen]
    simp
    omega
end
end Go.Proofs.YtilddlgcfbefiaaDoor

/-
  Rings that are pushed and popped, and Lrus whose keys are set, in plain numbers.
-/
namespace Go.Proofs.YtilddlgcfbefiaaDoor
set_option linter.unusedSimpArgs false
set_option linter.unusedVariables false
variable {t : Tb} {s : Sc} {key f v : Int} {cap : Int} {l : List Int}

/- the entries of a Ring into which l[a], .., l[n-1] were pushed -/
def ringE (l : List Int) (a n : Nat) : List Ent := (List.range (n - a)).map (fun (j : Nat) => (((a + j : Nat) : Int), [l.getD (a + j) 0]))
def ringT (cap : Int) (l : List Int) (a n : Nat) : Tb := ((3, cap, 1, 0), ringE l a n, (n : Int))
theorem ringE_len (l : List Int) (a n : Nat) : (ringE l a n).length = n - a := by simp [ringE]
theorem ringE_getD {l : List Int} {a n i : Nat} (hi : i < n - a) : (ringE l a n).getD i zeroE = (((a + i : Nat) : Int), [l.getD (a + i) 0]) := by
  simp [ringE, List.getD_eq_getElem?_getD, hi]
theorem ringE_snoc (l : List Int) (n : Nat) : ringE l 0 (n + 1) = ringE l 0 n ++ [((n : Int), [l.getD n 0])] := by simp [ringE, List.range_succ]
theorem ringE_tail {l : List Int} {a n : Nat} (h : a < n) : (ringE l a n).eraseIdx 0 = ringE l (a + 1) n := by
  apply List.ext_getElem?
  intro i
  simp only [List.getElem?_eraseIdx, ringE, List.getElem?_map]
  simp only [Nat.not_lt_zero, if_false]
  by_cases hi : i + 1 < n - a
  · rw [List.getElem?_range hi, List.getElem?_range (by omega)]
    simp only [Option.map_some, show a + (i + 1) = a + 1 + i by omega]
  · rw [List.getElem?_eq_none (by simp; omega), List.getElem?_eq_none (by simp; omega)]
    rfl
theorem ring_mayT (hm : mayT (3, cap, 1, 0) = true) : 1 ≤ cap ∧ cap ≤ 16 := by
  simp only [mayT, mayS_iff] at hm
  omega
theorem ring_mayT' (h1 : 1 ≤ cap) (h2 : cap ≤ 16) : mayT (3, cap, 1, 0) = true := by
  simp only [mayT, mayS_iff]
  refine ⟨by omega, by omega, h1, h2, by omega, by omega, fun _ => trivial, by omega, by omega⟩
theorem ring_at {a n i : Nat} (hi : i < n - a) : atE (ringE l a n) ((a + i : Nat) : Int) = some i := by
  refine atE_is (by rw [ringE_len]; exact hi) (by rw [ringE_getD hi]) (fun j hj => ?_)
  rw [ringE_getD (by omega)]
  simp only
  omega
theorem ring_may (hm : mayT (3, cap, 1, 0) = true) {a n : Nat} (han : a ≤ n) (hn : n ≤ 40) (hc : ((n - a : Nat) : Int) ≤ cap) : mayTb (ringT cap l a n) = true := by
  have h := ring_mayT hm
  simp only [mayTb, headB, ringT, Bool.and_eq_true, hm, decide_eq_true_iff, true_and, List.all_eq_true, List.mem_range, ringE_len]
  refine ⟨⟨by omega, by simp⟩, fun i hi => ?_⟩
  simp only [entB, ringE_getD hi, ring_at hi, ringE_len, List.length_singleton, Bool.and_eq_true, decide_eq_true_iff]
  refine ⟨by simp, by simp, by simp, ?_⟩
  simp only [ne_eq, not_true_eq_false, decide_false, Bool.false_or, decide_eq_true_iff]
  rw [show (((a + i : Nat) : Int) + (((n - a : Nat) : Int) - (i : Int))) = (n : Int) by omega]
  omega
theorem ring_push (hm : mayT (3, cap, 1, 0) = true) {n : Nat} (hc : (n : Int) < cap) : pushT (ringT cap l 0 n) (l.getD n 0) = (ringT cap l 0 (n + 1), 0) := by
  have h := ring_mayT hm
  have h1 := ring_may (l := l) hm (a := 0) (n := n) (by omega) (by omega) (by omega)
  rw [pushT, if_pos ⟨h1, rfl⟩]
  simp only [ringT, ringE_len]
  rw [if_neg (by omega), ringE_snoc, show (((n : Int) + 1) % 4294967296) = ((n + 1 : Nat) : Int) by omega]
theorem ring_full (hm : mayT (3, cap, 1, 0) = true) {n : Nat} (hc : (n : Int) = cap) (v : Int) : pushT (ringT cap l 0 n) v = (zeroT, 4) := by
  have h := ring_mayT hm
  have h1 := ring_may (l := l) hm (a := 0) (n := n) (by omega) (by omega) (by omega)
  rw [pushT, if_pos ⟨h1, rfl⟩]
  simp only [ringT, ringE_len]
  rw [if_pos (by omega)]
theorem ring_pop (hm : mayT (3, cap, 1, 0) = true) {a n : Nat} (han : a < n) (hn : n ≤ 40) (hc : (n : Int) ≤ cap) : popT (ringT cap l a n) = (ringT cap l (a + 1) n, l.getD a 0, true) := by
  have h1 := ring_may (l := l) hm (a := a) (n := n) (by omega) (by omega) (by omega)
  have h2 : ringE l a n ≠ [] := fun h => by
    have := ringE_len l a n
    rw [h] at this
    simp at this
    omega
  rw [popT, if_pos ⟨h1, rfl, h2⟩]
  simp only [ringT, withoutT, ringE_tail han, ringE_getD (show 0 < n - a by omega)]
  simp
theorem ring_empty (n : Nat) : popT (ringT cap l n n) = (ringT cap l n n, 0, false) := by
  rw [popT, if_neg]
  intro h
  exact h.2.2 (by simp [ringT, ringE])
theorem ring_set (a n : Nat) : setT (ringT cap l a n) key f v = (zeroT, 1) := by
  rw [setT, if_neg]
  simp [keyedB, ringT]
theorem ring_get (a n : Nat) : getT (ringT cap l a n) key f = (ringT cap l a n, 0, false) := get_ring rfl

/- the keys that an Lru has when one more is set -/
def leftL (want : List Int) (key : Int) : List Int := want.filter (fun k => decide (k ≠ key))
def wantL (cap : Int) (want : List Int) (key : Int) : List Int := if cap < (((leftL want key) ++ [key]).length : Int) then ((leftL want key) ++ [key]).tail else (leftL want key) ++ [key]
theorem leftL_none : ∀ {es : List Ent}, key ∉ keysOf es → leftL (keysOf es) key = keysOf es := fun {es} h => by
  rw [leftL, List.filter_eq_self]
  intro a ha
  simp only [decide_eq_true_iff]
  rintro rfl
  exact h ha
theorem leftL_some : ∀ {es : List Ent} {i : Nat}, (keysOf es).Nodup → atE es key = some i → leftL (keysOf es) key = keysOf (es.eraseIdx i)
  | [], i, hn, h => by simp [atE] at h
  | e :: es, i, hn, h => by
    rw [atE] at h
    simp only [keysOf, List.map_cons, List.nodup_cons] at hn
    split at h
    · rename_i he
      obtain rfl := Option.some.inj h
      have : leftL (keysOf es) key = keysOf es := leftL_none (by rw [← he]; exact hn.1)
      simpa [leftL, keysOf, he] using this
    · rename_i he
      obtain ⟨i', hi', rfl⟩ := Option.map_eq_some_iff.1 h
      have := leftL_some hn.2 hi'
      simp only [leftL, keysOf, List.map_cons, List.eraseIdx_cons_succ] at this ⊢
      rw [List.filter_cons_of_pos (by simpa using he), this]
theorem keys_len (es : List Ent) : (keysOf es).length = es.length := by simp [keysOf]
theorem keys_snoc (es : List Ent) (e : Ent) : keysOf (es ++ [e]) = keysOf es ++ [e.1] := by simp [keysOf]
theorem keys_drop (es : List Ent) : keysOf (es.eraseIdx 0) = (keysOf es).tail := by cases es <;> simp [keysOf]
theorem lru_set (h : VK t) (h2 : t.1.1 = 2) : (setT t key 0 v).2 = 0 ∧ keysOf (setT t key 0 v).1.2.1 = wantL t.1.2.1 (keysOf t.2.1) key := by
  have hs := h.sc
  have hk : keyedB t 0 = true := by rw [h.keyed]; simp; omega
  have hl := h.2.2.1
  have hn := h.2.2.2.2.1
  rw [setT, if_pos hk]
  rcases ha : atE t.2.1 key with _ | i
  · have hm := atE_isNone.1 ha
    simp only [h2]
    rw [if_neg (by omega), if_neg (by omega)]
    refine ⟨rfl, ?_⟩
    simp only [behindT, keys_snoc, wantL, leftL_none hm]
    by_cases hc : t.1.2.1 ≤ (t.2.1.length : Int)
    · rw [if_pos hc, if_pos (by simp [keys_len]; omega)]
      simp only [withoutT, keys_drop]
      rcases hq : keysOf t.2.1 with _ | ⟨x, xs⟩
      · have := keys_len t.2.1
        rw [hq] at this
        simp at this
        omega
      · simp
    · rw [if_neg hc, if_neg (by simp [keys_len]; omega)]
  · simp only [h2, if_true]
    refine ⟨trivial, ?_⟩
    obtain ⟨hi, _, _⟩ := atE_some ha
    have hx := leftL_some hn ha
    have hy : (keysOf (t.2.1.eraseIdx i)).length = t.2.1.length - 1 := by rw [keys_len, List.length_eraseIdx]; simp [hi]
    simp only [behindT, withoutT, keys_snoc, wantL, hx]
    rw [if_neg (by simp [hy]; omega)]
/- want, walked through from its beginning, without a key -/
theorem leftL_take {want : List Int} {key : Int} {k : Nat} (hk : k < want.length) : leftL (want.take (k + 1)) key = if want.getD k 0 = key then leftL (want.take k) key else leftL (want.take k) key ++ [want.getD k 0] := by
  rw [List.take_add_one, List.getElem?_eq_getElem hk]
  have hg : want.getD k 0 = want[k] := by simp [List.getD_eq_getElem?_getD, hk]
  rw [hg]
  simp only [leftL, Option.toList_some, List.filter_append]
  by_cases h : want[k] = key
  · simp [h]
  · simp [h]
theorem leftL_le (want : List Int) (key : Int) : (leftL want key).length ≤ want.length := List.length_filter_le _ _
theorem lru_mayT (hm : mayT (2, cap, 1, 0) = true) : 1 ≤ cap ∧ cap ≤ 16 := by
  simp only [mayT, mayS_iff] at hm
  omega
theorem lru_mayT' (h1 : 1 ≤ cap) (h2 : cap ≤ 16) : mayT (2, cap, 1, 0) = true := by
  simp only [mayT, mayS_iff]
  refine ⟨by omega, by omega, h1, h2, by omega, by omega, fun _ => trivial, by omega, by omega⟩
theorem wantL_len {want : List Int} (hc : 1 ≤ cap) (h : (want.length : Int) ≤ cap) : ((wantL cap want key).length : Int) ≤ cap := by
  have := leftL_le want key
  rw [wantL]
  split
  · simp
    omega
  · rename_i h9
    omega
end Go.Proofs.YtilddlgcfbefiaaDoor

/-
  Environments in plain numbers: how many words a helper has, which schemas it fits, what it makes of an environment.
-/
namespace Go.Proofs.YtilddlgcfbefiaaDoor
set_option linter.unusedSimpArgs false
set_option linter.unusedVariables false
abbrev Ev : Type := (Int × Int × Int × Int) × List Tb × Int
def zeroEv : Ev := ((0, 0, 0, 0), [], 0)
def argsP (n : Int) : Int := if n = 4 then 0 else if n = 2 ∨ n = 3 ∨ n = 5 then 2 else if n = 0 then 3 else if n = 1 then 4 else -1
def fitsP (n : Int) (s : Sc) : Bool := mayT s && (if n = 0 ∨ n = 1 ∨ n = 2 ∨ n = 3 then decide (s.1 ≠ 3) else if n = 5 then decide (s.1 = 3) else false)
def drawP (seed : Int) : Int := (1664525 * seed + 1013904223) % 4294967296
def opP (n : Int) (t : Tb) (a : List Int) : Tb × Int :=
  if n = 0 then ((getT t (a.getD 1 0) (a.getD 2 0)).1, (getT t (a.getD 1 0) (a.getD 2 0)).2.1)
  else if n = 1 then (if (setT t (a.getD 1 0) (a.getD 2 0) (a.getD 3 0)).2 = 0 then (setT t (a.getD 1 0) (a.getD 2 0) (a.getD 3 0)).1 else t, (setT t (a.getD 1 0) (a.getD 2 0) (a.getD 3 0)).2)
  else if n = 2 then ((delT t (a.getD 1 0)).1, if (delT t (a.getD 1 0)).2 = true then 1 else 0)
  else if n = 3 then (t, if (getT t (a.getD 1 0) 0).2.2 = true then 1 else 0)
  else (if (pushT t (a.getD 1 0)).2 = 0 then (pushT t (a.getD 1 0)).1 else t, (pushT t (a.getD 1 0)).2)
def mayOp (n : Int) (ts : List Tb) (a : List Int) : Bool :=
  decide ((a.getD 0 0).toNat < ts.length) && (fitsP n (ts.getD (a.getD 0 0).toNat zeroT).1 && (mayTb (ts.getD (a.getD 0 0).toNat zeroT) && (decide (¬ (n = 0 ∨ n = 1)) || decide (a.getD 2 0 < (ts.getD (a.getD 0 0).toNat zeroT).1.2.2.1))))
def callP (n : Int) (e : Ev) (a : List Int) : Ev × Int × Int :=
  if (a.length : Int) ≠ argsP n then (zeroEv, 0, 1)
  else if n = 4 then ((e.1, e.2.1, drawP e.2.2), drawP e.2.2, 0)
  else if mayOp n e.2.1 a = true then ((e.1, e.2.1.set (a.getD 0 0).toNat (opP n (e.2.1.getD (a.getD 0 0).toNat zeroT) a).1, e.2.2), (opP n (e.2.1.getD (a.getD 0 0).toNat zeroT) a).2, 0)
  else (e, 0, 10)
end Go.Proofs.YtilddlgcfbefiaaDoor

