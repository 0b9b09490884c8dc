/-
  Plain facts of tables: keys apart, what a key's words are, which tables stay valid.
-/
import Derived.Test.YthpniennaaihgaaPT
namespace Go.Proofs.Ythpniennaaihgaa

def keysOf (es : List Ent) : List Int := es.map (fun e => e.1)
/- the words of a key -/
def valE : List Ent → Int → Option (List Int)
  | [], _ => none
  | e :: es, key => if e.1 = key then some e.2 else valE es key
theorem valE_at : ∀ (es : List Ent) (key : Int), valE es key = (atE es key).map (fun i => (es.getD i zeroE).2)
  | [], _ => rfl
  | e :: es, key => by
    rw [valE, atE]
    split
    · simp
    · rw [valE_at es key]
      cases atE es key <;> simp
theorem valE_none : ∀ {es : List Ent} {key : Int}, valE es key = none ↔ key ∉ keysOf es
  | [], key => by simp [valE, keysOf]
  | e :: es, key => by
    rw [valE]
    split
    · rename_i he
      simp [keysOf, he]
    · rename_i he
      rw [valE_none (es := es)]
      simp only [keysOf, List.map_cons, List.mem_cons, not_or]
      exact ⟨fun h => ⟨fun e => he e.symm, h⟩, fun h => h.2⟩
theorem atE_isNone {es : List Ent} {key : Int} : atE es key = none ↔ key ∉ keysOf es := by
  rw [← valE_none, valE_at]
  cases atE es key <;> simp
theorem valE_set : ∀ (es : List Ent) (key : Int) (ws : List Int) (i : Nat) (k' : Int), atE es key = some i → valE (es.set i (key, ws)) k' = if k' = key then some ws else valE es k'
  | [], _, _, _, _, h => by simp [atE] at h
  | e :: es, key, ws, i, k', h => by
    rw [atE] at h
    split at h
    · rename_i he
      obtain rfl := Option.some.inj h
      simp only [List.set_cons_zero, valE]
      by_cases hk : k' = key
      · simp [hk]
      · have h1 : ¬ key = k' := fun e => hk e.symm
        have h2 : ¬ e.1 = k' := fun e2 => h1 (he.symm.trans e2)
        simp [hk, h1, h2]
    · rename_i he
      obtain ⟨j, hj, rfl⟩ := Option.map_eq_some_iff.1 h
      simp only [List.set_cons_succ, valE]
      rw [valE_set es key ws j k' hj]
      by_cases hk : k' = key
      · subst hk
        simp [he]
      · simp [hk]
theorem valE_erase : ∀ (es : List Ent) (key : Int) (i : Nat) (k' : Int), (keysOf es).Nodup → atE es key = some i → valE (es.eraseIdx i) k' = if k' = key then none else valE es k'
  | [], _, _, _, _, h => by simp [atE] at h
  | e :: es, key, i, k', hn, h => by
    simp only [keysOf, List.map_cons, List.nodup_cons] at hn
    rw [atE] at h
    split at h
    · rename_i he
      obtain rfl := Option.some.inj h
      simp only [List.eraseIdx_cons_zero, valE]
      by_cases hk : k' = key
      · subst hk
        rw [if_pos rfl, valE_none, ← he]
        exact hn.1
      · have h2 : ¬ e.1 = k' := fun e2 => hk (e2.symm.trans he)
        simp [hk, h2]
    · rename_i he
      obtain ⟨j, hj, rfl⟩ := Option.map_eq_some_iff.1 h
      simp only [List.eraseIdx_cons_succ, valE]
      rw [valE_erase es key j k' hn.2 hj]
      by_cases hk : k' = key
      · subst hk
        simp [he]
      · simp [hk]
theorem valE_snoc : ∀ (es : List Ent) (key : Int) (ws : List Int) (k' : Int), key ∉ keysOf es → valE (es ++ [(key, ws)]) k' = if k' = key then some ws else valE es k'
  | [], key, ws, k', _ => by
    by_cases hk : k' = key
    · simp [valE, hk]
    · have h1 : ¬ key = k' := fun e => hk e.symm
      simp [valE, hk, h1]
  | e :: es, key, ws, k', h => by
    simp only [keysOf, List.map_cons, List.mem_cons, not_or] at h
    simp only [List.cons_append, valE]
    rw [valE_snoc es key ws k' h.2]
    by_cases hk : k' = key
    · subst hk
      have h1 : ¬ e.1 = k' := fun e2 => h.1 e2.symm
      simp [h1]
    · simp [hk]
theorem keys_set : ∀ (es : List Ent) (key : Int) (ws : List Int) (i : Nat), atE es key = some i → keysOf (es.set i (key, ws)) = keysOf es
  | [], _, _, _, h => by simp [atE] at h
  | e :: es, key, ws, i, h => by
    rw [atE] at h
    split at h
    · rename_i he
      obtain rfl := Option.some.inj h
      simp [keysOf, he]
    · obtain ⟨j, hj, rfl⟩ := Option.map_eq_some_iff.1 h
      have := keys_set es key ws j hj
      simp only [keysOf] at this
      simp [keysOf, this]
theorem nodup_erase {es : List Ent} (h : (keysOf es).Nodup) (i : Nat) : (keysOf (es.eraseIdx i)).Nodup := List.Pairwise.sublist ((List.eraseIdx_sublist es i).map _) h
theorem nodup_snoc {es : List Ent} {key : Int} {ws : List Int} (h : (keysOf es).Nodup) (hk : key ∉ keysOf es) : (keysOf (es ++ [(key, ws)])).Nodup := by
  simp only [keysOf, List.map_append, List.map_cons, List.map_nil, List.nodup_append] at *
  refine ⟨h, by simp, fun a ha b hb => ?_⟩
  simp at hb
  subst hb
  exact fun e => hk (e ▸ ha)
theorem nodup_iff : ∀ {es : List Ent}, (∀ i, i < es.length → atE es (es.getD i zeroE).1 = some i) ↔ (keysOf es).Nodup
  | [] => by simp [keysOf]
  | e :: es => by
    simp only [keysOf, List.map_cons, List.nodup_cons]
    rw [show (List.map (fun e => e.1) es).Nodup = (keysOf es).Nodup from rfl, ← nodup_iff (es := es)]
    constructor
    · intro h
      have h' : ∀ j, j < es.length → e.1 ≠ (es.getD j zeroE).1 ∧ atE es (es.getD j zeroE).1 = some j := by
        intro j hj
        have := h (j + 1) (by simp; omega)
        rw [List.getD_cons_succ, atE] at this
        split at this
        · simp at this
        · rename_i hne
          obtain ⟨i, hi, e2⟩ := Option.map_eq_some_iff.1 this
          have e3 : i = j := by omega
          subst e3
          exact ⟨hne, hi⟩
      refine ⟨fun hm => ?_, fun j hj => (h' j hj).2⟩
      obtain ⟨e', he', e2⟩ := List.mem_map.1 hm
      obtain ⟨j, hj, rfl⟩ := List.getElem_of_mem he'
      have := (h' j hj).1
      rw [List.getD_eq_getElem?_getD, List.getElem?_eq_getElem hj] at this
      exact this e2.symm
    · rintro ⟨h1, h2⟩ i hi
      cases i with
      | zero => simp [atE]
      | succ j =>
        have hj : j < es.length := by simpa using hi
        rw [List.getD_cons_succ, atE]
        have : ¬ e.1 = (es.getD j zeroE).1 := fun e2 => h1 (e2 ▸ List.mem_map.2 ⟨_, getD_mem es j zeroE hj, rfl⟩)
        rw [if_neg this, h2 j hj]
        rfl
/- a valid table whose entries are found by their keys -/
def VK (t : Tb) : Prop := mayT t.1 = true ∧ t.1.1 ≠ 3 ∧ (t.2.1.length : Int) ≤ t.1.2.1 ∧ t.2.2 = 0 ∧ (keysOf t.2.1).Nodup ∧ (∀ e ∈ t.2.1, (e.2.length : Int) = t.1.2.2.1) ∧ (t.1.1 = 0 → t.1.2.1 ≤ (t.2.1.length : Int) ∧ ∀ i, i < t.2.1.length → (t.2.1.getD i zeroE).1 = (i : Int))
theorem vk_iff {t : Tb} (h3 : t.1.1 ≠ 3) : mayTb t = true ↔ VK t := by
  constructor
  · intro h
    have hh := mayTb_head h
    have he : ∀ i, i < t.2.1.length → entB t i = true := fun i hi => mayTb_ent h hi
    simp only [headB, Bool.and_eq_true, Bool.or_eq_true, decide_eq_true_iff] at hh
    simp only [entB, Bool.and_eq_true, Bool.or_eq_true, decide_eq_true_iff] at he
    refine ⟨hh.1, h3, hh.2.1, hh.2.2.1.resolve_left h3, nodup_iff.1 (fun i hi => (he i hi).2.1), fun e hm => ?_, fun h0 => ⟨hh.2.2.2.resolve_left (fun e => e h0), fun i hi => (he i hi).2.2.1.resolve_left (fun e => e h0)⟩⟩
    obtain ⟨j, hj, rfl⟩ := List.getElem_of_mem hm
    have := (he j hj).1
    rwa [List.getD_eq_getElem?_getD, List.getElem?_eq_getElem hj] at this
  · rintro ⟨h1, _, h2, h4, h5, h6, h7⟩
    refine mayTb_mk ?_ (fun i hi => ?_)
    · simp only [headB, Bool.and_eq_true, Bool.or_eq_true, decide_eq_true_iff]
      refine ⟨h1, h2, .inr h4, ?_⟩
      by_cases h0 : t.1.1 = 0
      · exact .inr (h7 h0).1
      · exact .inl h0
    · simp only [entB, Bool.and_eq_true, Bool.or_eq_true, decide_eq_true_iff]
      refine ⟨h6 _ (getD_mem _ i zeroE hi), nodup_iff.2 h5 i hi, ?_, .inl h3⟩
      by_cases h0 : t.1.1 = 0
      · exact .inr ((h7 h0).2 i hi)
      · exact .inl h0
section
variable {t : Tb} {key f v : Int} {i : Nat} {ws : List Int}
theorem VK.may (h : VK t) : mayTb t = true := (vk_iff h.2.1).2 h
theorem VK.sc (h : VK t) : 0 ≤ t.1.1 ∧ t.1.1 ≤ 3 ∧ 1 ≤ t.1.2.1 ∧ t.1.2.1 ≤ 16 ∧ 1 ≤ t.1.2.2.1 ∧ t.1.2.2.1 ≤ 4 := by
  have := h.1
  simp only [mayT, mayS_iff] at this
  omega
theorem VK.keyed (h : VK t) : keyedB t f = decide (f < t.1.2.2.1) := by simp [keyedB, h.may, h.2.1]
theorem VK.put (h : VK t) (ha : atE t.2.1 key = some i) (hl : (ws.length : Int) = t.1.2.2.1) : VK (t.1, t.2.1.set i (key, ws), t.2.2) := by
  obtain ⟨h1, h2, h3, h4, h5, h6, h7⟩ := h
  refine ⟨h1, h2, by simpa using h3, h4, by simpa only [keys_set _ _ ws _ ha] using h5, fun e he => ?_, fun h0 => ⟨by simpa using (h7 h0).1, fun j hj => ?_⟩⟩
  · rcases List.mem_or_eq_of_mem_set he with hm | rfl
    · exact h6 e hm
    · exact hl
  · have hj' : j < t.2.1.length := by simpa using hj
    have := (h7 h0).2 j hj'
    obtain ⟨hi, hk, _⟩ := atE_some ha
    by_cases e : i = j
    · subst e
      show ((t.2.1.set i (key, ws)).getD i zeroE).1 = (i : Int)
      rw [List.getD_eq_getElem?_getD, List.getElem?_set_self hi]
      exact hk.symm.trans this
    · show ((t.2.1.set i (key, ws)).getD j zeroE).1 = (j : Int)
      rw [List.getD_eq_getElem?_getD, List.getElem?_set_ne e, ← List.getD_eq_getElem?_getD]
      exact this
theorem VK.erase (h : VK t) (h0 : t.1.1 ≠ 0) (i : Nat) : VK (withoutT t i) := by
  obtain ⟨h1, h2, h3, h4, h5, h6, h7⟩ := h
  refine ⟨h1, h2, ?_, h4, nodup_erase h5 i, fun e he => h6 e (List.mem_of_mem_eraseIdx he), fun e => absurd e h0⟩
  have := List.length_eraseIdx_le t.2.1 i
  show ((t.2.1.eraseIdx i).length : Int) ≤ t.1.2.1
  omega
theorem VK.snoc (h : VK t) (h0 : t.1.1 ≠ 0) (hc : (t.2.1.length : Int) < t.1.2.1) (hk : key ∉ keysOf t.2.1) (hl : (ws.length : Int) = t.1.2.2.1) : VK (behindT t (key, ws)) := by
  obtain ⟨h1, h2, h3, h4, h5, h6, h7⟩ := h
  refine ⟨h1, h2, ?_, h4, nodup_snoc h5 hk, fun e he => ?_, fun e => absurd e h0⟩
  · show ((t.2.1 ++ [(key, ws)]).length : Int) ≤ t.1.2.1
    simp
    omega
  · rcases List.mem_append.1 he with hm | hm
    · exact h6 e hm
    · simp at hm
      subst hm
      exact hl
theorem not_mem_erase (h : VK t) (ha : atE t.2.1 key = some i) : key ∉ keysOf (t.2.1.eraseIdx i) := by
  rw [← valE_none, valE_erase _ _ _ _ h.2.2.2.2.1 ha, if_pos rfl]
theorem VK.moved (h : VK t) (h0 : t.1.1 ≠ 0) (ha : atE t.2.1 key = some i) (hl : (ws.length : Int) = t.1.2.2.1) : VK (behindT (withoutT t i) (key, ws)) := by
  refine (h.erase h0 i).snoc h0 ?_ (not_mem_erase h ha) hl
  have hi := (atE_some ha).1
  have := h.2.2.1
  show ((t.2.1.eraseIdx i).length : Int) < t.1.2.1
  rw [List.length_eraseIdx_of_lt hi]
  omega
theorem VK.val_len (h : VK t) (ha : atE t.2.1 key = some i) : ((t.2.1.getD i zeroE).2.length : Int) = t.1.2.2.1 := h.2.2.2.2.2.1 _ (getD_mem _ i zeroE (atE_some ha).1)
theorem ent_eq (ha : atE t.2.1 key = some i) : t.2.1.getD i zeroE = (key, (t.2.1.getD i zeroE).2) := Prod.ext (atE_some ha).2.1 rfl
/- what Get tells -/
def gotV (o : Option (List Int)) (f : Int) : Int × Bool := match o with
  | some ws => (ws.getD f.toNat 0, true)
  | none => (0, false)
theorem get_val (h : VK t) : (getT t key f).2 = if f < t.1.2.2.1 then gotV (valE t.2.1 key) f else (0, false) := by
  rw [getT, h.keyed, valE_at]
  by_cases hf : f < t.1.2.2.1
  · simp only [hf, decide_true, if_true]
    cases atE t.2.1 key <;> rfl
  · simp [hf]
theorem get_vk (h : VK t) : VK (getT t key f).1 := by
  rw [getT]
  split
  · rcases ha : atE t.2.1 key with _ | i
    · exact h
    · simp only
      split
      · rename_i h2
        rw [ent_eq ha]
        exact h.moved (by omega) ha (h.val_len ha)
      · exact h
  · exact h
theorem get_sc : (getT t key f).1.1 = t.1 := by
  rw [getT]
  split
  · rcases atE t.2.1 key with _ | i
    · rfl
    · simp only
      split <;> rfl
  · rfl
theorem get_ring (h : t.1.1 = 3) : getT t key f = (t, 0, false) := by simp [getT, keyedB, h]
/- what Del leaves -/
theorem del_sc : (delT t key).1.1 = t.1 := by
  rw [delT]
  split
  · rcases atE t.2.1 key with _ | i
    · rfl
    · simp only
      split <;> rfl
  · rfl
theorem del_ring (h : t.1.1 = 3) : delT t key = (t, false) := by simp [delT, keyedB, h]
theorem del_same (h : (delT t key).2 = false) : (delT t key).1 = t := by
  revert h
  rw [delT]
  split
  · rcases atE t.2.1 key with _ | i
    · exact fun _ => rfl
    · simp
  · exact fun _ => rfl
theorem VK.del (h : VK t) : delT t key = (match atE t.2.1 key with
     | some i => (if t.1.1 = 0 then (t.1, t.2.1.set i (key, List.replicate t.1.2.2.1.toNat 0), t.2.2) else withoutT t i, true)
     | none => (t, false)) := by
  have := h.sc
  rw [delT, h.keyed, decide_eq_true (show 0 < t.1.2.2.1 by omega), if_pos rfl]
  cases atE t.2.1 key <;> rfl
theorem zeros_len (h : VK t) : ((List.replicate t.1.2.2.1.toNat (0 : Int)).length : Int) = t.1.2.2.1 := by
  have := h.sc
  simp
  omega
theorem del_vk (h : VK t) : VK (delT t key).1 := by
  rw [h.del]
  rcases ha : atE t.2.1 key with _ | i
  · exact h
  · simp only
    split
    · exact h.put ha (zeros_len h)
    · rename_i h0
      exact h.erase h0 i
theorem del_ok (h : VK t) : (delT t key).2 = (valE t.2.1 key).isSome := by
  rw [h.del, valE_at]
  cases atE t.2.1 key <;> rfl
theorem del_val (h : VK t) (k' : Int) : valE (delT t key).1.2.1 k' = if k' = key then (if t.1.1 = 0 then (valE t.2.1 key).map (fun _ => List.replicate t.1.2.2.1.toNat 0) else none) else valE t.2.1 k' := by
  rw [h.del]
  rcases ha : atE t.2.1 key with _ | i
  · have hn : valE t.2.1 key = none := by rw [valE_at, ha]; rfl
    by_cases hk : k' = key
    · subst hk
      simp [hn]
    · simp [hk]
  · have hs : valE t.2.1 key = some (t.2.1.getD i zeroE).2 := by rw [valE_at, ha]; rfl
    by_cases h0 : t.1.1 = 0
    · simp only [h0, if_true, hs, Option.map_some]
      exact valE_set _ _ _ _ _ ha
    · simp only [h0, if_false]
      exact valE_erase _ _ _ _ h.2.2.2.2.1 ha
end
end Go.Proofs.Ythpniennaaihgaa
