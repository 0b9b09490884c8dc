/-
  Plain facts of tables: an Array has just the keys below Cap; a Hash that is full; what New makes.
-/
import Derived.Test.YthpniennaaihgaaPL2
namespace Go.Proofs.Ythpniennaaihgaa

section
variable {t : Tb} {s : Sc} {key f v : Int}
theorem new_vk (h : mayT s = true) (h3 : s.1 ≠ 3) : VK (newT s) := by
  have hs := h
  simp only [mayT, mayS_iff] at hs
  rw [newT, if_pos h]
  by_cases h0 : s.1 = 0
  · rw [if_pos h0]
    have hk : keysOf ((List.range s.2.1.toNat).map (fun (k : Nat) => ((k : Int), List.replicate s.2.2.1.toNat (0 : Int)))) = (List.range s.2.1.toNat).map (fun (k : Nat) => (k : Int)) := by
      simp [keysOf]
    refine ⟨h, h3, ?_, rfl, ?_, fun e he => ?_, fun _ => ⟨?_, fun i hi => ?_⟩⟩
    · simp
      omega
    · show (keysOf _).Nodup
      rw [hk]
      refine List.Pairwise.map _ (fun a b hab e => hab ?_) (List.nodup_range)
      exact Int.ofNat.inj e
    · obtain ⟨k, _, rfl⟩ := List.mem_map.1 he
      simp
      omega
    · simp
      omega
    · have hi' : i < s.2.1.toNat := by simpa using hi
      simp [List.getD_eq_getElem?_getD, hi']
  · rw [if_neg h0]
    exact ⟨h, h3, by simp; omega, rfl, by simp [keysOf], fun e he => by simp at he, fun e => absurd e h0⟩
theorem new_sc (h : mayT s = true) : (newT s).1 = s := by rw [newT, if_pos h]
theorem new_e (h : newE s = 0) : mayT s = true := by
  rcases hm : mayT s with _ | _
  · simp [newE, hm] at h
  · rfl
/- an Array's keys -/
theorem array_at (h : VK t) (h0 : t.1.1 = 0) (hk0 : 0 ≤ key) : atE t.2.1 key = if key < t.1.2.1 then some key.toNat else none := by
  obtain ⟨hc, hi⟩ := h.2.2.2.2.2.2 h0
  have hl := h.2.2.1
  split
  · rename_i hlt
    refine atE_is (by omega) ?_ (fun j hj => ?_)
    · rw [hi _ (by omega)]
      omega
    · rw [hi _ (by omega)]
      omega
  · refine atE_no (fun j hj => ?_)
    rw [hi j hj]
    omega
theorem array_set (h : VK t) (h0 : t.1.1 = 0) (hk0 : 0 ≤ key) : (setT t key 0 v).2 = if key < t.1.2.1 then 0 else 3 := by
  have hs := h.sc
  rw [setT, h.keyed, decide_eq_true (show 0 < t.1.2.2.1 by omega), if_pos rfl, array_at h h0 hk0]
  by_cases hlt : key < t.1.2.1
  · simp [hlt]
  · simp [hlt, h0]
theorem array_del (h : VK t) (h0 : t.1.1 = 0) (hk0 : 0 ≤ key) : (delT t key).2 = decide (key < t.1.2.1) := by
  rw [h.del, array_at h h0 hk0]
  by_cases hlt : key < t.1.2.1
  · simp [hlt]
  · simp [hlt]
theorem array_len (h : VK t) (h0 : t.1.1 = 0) : (t.2.1.length : Int) = t.1.2.1 := by
  have := (h.2.2.2.2.2.2 h0).1
  have := h.2.2.1
  omega
theorem array_new (h : mayT s = true) (h0 : s.1 = 0) (hk0 : 0 ≤ key) (hk : key < s.2.1) (hf0 : 0 ≤ f) (hf : f < s.2.2.1) : (getT (newT s) key f).2 = (0, true) := by
  have hv := new_vk h (by omega)
  have hsc := new_sc h
  have hat := array_at hv (by rw [hsc]; exact h0) hk0
  rw [hsc, if_pos hk] at hat
  rw [get_val hv, hsc, if_pos hf, valE_at, hat]
  have he : (newT s).2.1 = (List.range s.2.1.toNat).map (fun (k : Nat) => ((k : Int), List.replicate s.2.2.1.toNat (0 : Int))) := by rw [newT, if_pos h, if_pos h0]
  have hkn : key.toNat < s.2.1.toNat := by omega
  have hfn : f.toNat < s.2.2.1.toNat := by omega
  simp [gotV, he, List.getD_eq_getElem?_getD, hkn, hfn]
/- a Hash whose keys are one behind the other -/
def fullE (key : Int) (k : Nat) : List Ent := (List.range k).map (fun (j : Nat) => ((key + (j : Int)) % 4294967296, [(1 : Int)]))
theorem fullE_succ (key : Int) (k : Nat) : fullE key (k + 1) = fullE key k ++ [((key + (k : Int)) % 4294967296, [1])] := by simp [fullE, List.range_succ]
theorem fullE_len (key : Int) (k : Nat) : (fullE key k).length = k := by simp [fullE]
theorem fullE_mem {key x : Int} {k : Nat} : x ∈ keysOf (fullE key k) ↔ ∃ j : Nat, j < k ∧ (key + (j : Int)) % 4294967296 = x := by
  simp [keysOf, fullE]
theorem fullE_nodup (key : Int) : ∀ k : Nat, k ≤ 17 → (keysOf (fullE key k)).Nodup
  | 0, _ => by simp [keysOf, fullE]
  | k + 1, hk => by
    rw [fullE_succ]
    refine nodup_snoc (fullE_nodup key k (by omega)) (fun hm => ?_)
    obtain ⟨j, hj, e⟩ := fullE_mem.1 hm
    omega
def hashT (cap key : Int) (k : Nat) : Tb := ((1, cap, 1, 0), fullE key k, 0)
theorem hash_vk {cap : Int} (hm : mayT (1, cap, 1, 0) = true) {k : Nat} (hk : (k : Int) ≤ cap) : VK (hashT cap key k) := by
  have hs := hm
  simp only [mayT, mayS_iff] at hs
  refine ⟨hm, by show (1 : Int) ≠ 3; omega, ?_, rfl, fullE_nodup key k (by omega), fun e he => ?_, fun e => ?_⟩
  · show ((fullE key k).length : Int) ≤ cap
    rw [fullE_len]
    exact hk
  · obtain ⟨j, _, rfl⟩ := List.mem_map.1 he
    rfl
  · have e' : (1 : Int) = 0 := e
    omega
theorem hash_none {cap : Int} {k : Nat} (hk : k ≤ 16) : atE (hashT cap key k).2.1 ((key + (k : Int)) % 4294967296) = none := by
  refine atE_isNone.2 (fun hm => ?_)
  obtain ⟨j, hj, e⟩ := fullE_mem.1 hm
  omega
theorem hash_set {cap : Int} (hm : mayT (1, cap, 1, 0) = true) {k : Nat} (hk : (k : Int) < cap) : setT (hashT cap key k) ((key + (k : Int)) % 4294967296) 0 1 = (hashT cap key (k + 1), 0) := by
  have hs := hm
  simp only [mayT, mayS_iff] at hs
  have hv := hash_vk (key := key) hm (k := k) (by omega)
  rw [setT, hv.keyed, hash_none (by omega)]
  have hl : (hashT cap key k).2.1.length = k := fullE_len key k
  have e1 : ¬ ((hashT cap key k).1.1 = 1 ∧ (hashT cap key k).1.2.1 ≤ ((hashT cap key k).2.1.length : Int)) := by
    rw [hl]
    show ¬ (_ ∧ cap ≤ _)
    omega
  have e2 : ¬ (hashT cap key k).1.2.1 ≤ ((hashT cap key k).2.1.length : Int) := by
    rw [hl]
    show ¬ cap ≤ _
    omega
  have e0 : ¬ (hashT cap key k).1.1 = 0 := by show ¬ (1 : Int) = 0; omega
  rw [decide_eq_true (show (0 : Int) < (hashT cap key k).1.2.2.1 from by show (0 : Int) < 1; omega), if_pos rfl]
  simp only
  rw [if_neg e0, if_neg e1, if_neg e2]
  simp only [behindT, hashT, fullE_succ]
  rfl
theorem hash_full {cap : Int} (hm : mayT (1, cap, 1, 0) = true) {k : Nat} (hk : (k : Int) = cap) : (setT (hashT cap key k) ((key + (k : Int)) % 4294967296) 0 1).2 = 4 := by
  have hs := hm
  simp only [mayT, mayS_iff] at hs
  have hv := hash_vk (key := key) hm (k := k) (by omega)
  rw [setT, hv.keyed, hash_none (by omega)]
  have hl : (hashT cap key k).2.1.length = k := fullE_len key k
  have e1 : (hashT cap key k).1.1 = 1 ∧ (hashT cap key k).1.2.1 ≤ ((hashT cap key k).2.1.length : Int) := by
    rw [hl]
    refine ⟨rfl, ?_⟩
    show cap ≤ _
    omega
  have e0 : ¬ (hashT cap key k).1.1 = 0 := by show ¬ (1 : Int) = 0; omega
  rw [decide_eq_true (show (0 : Int) < (hashT cap key k).1.2.2.1 from by show (0 : Int) < 1; omega), if_pos rfl]
  simp only
  rw [if_neg e0, if_pos e1]
theorem hash_at {cap : Int} {k : Nat} (hk : 0 < k) (hkey : 0 ≤ key ∧ key ≤ 4294967295) : atE (hashT cap key k).2.1 key = some 0 := by
  refine atE_is ?_ ?_ (fun j hj => absurd hj (by omega))
  · show 0 < (fullE key k).length
    rw [fullE_len]
    exact hk
  · show ((fullE key k).getD 0 zeroE).1 = key
    simp [fullE, List.getD_eq_getElem?_getD, hk]
    omega
theorem hash_again {cap : Int} (hm : mayT (1, cap, 1, 0) = true) {k : Nat} (hk : (k : Int) = cap) (hkey : 0 ≤ key ∧ key ≤ 4294967295) : (setT (hashT cap key k) key 0 2).2 = 0 := by
  have hs := hm
  simp only [mayT, mayS_iff] at hs
  have hv := hash_vk (key := key) hm (k := k) (by omega)
  rw [setT, hv.keyed, hash_at (by omega) hkey, decide_eq_true (show (0 : Int) < (hashT cap key k).1.2.2.1 from by show (0 : Int) < 1; omega), if_pos rfl]
/- with one let go, and one more -/
theorem hash_more {cap : Int} (hm : mayT (1, cap, 1, 0) = true) {k : Nat} (hk : (k : Int) = cap) (hkey : 0 ≤ key ∧ key ≤ 4294967295) :
    (delT (hashT cap key k) key).2 = true ∧ VK (delT (hashT cap key k) key).1 ∧
    (setT (delT (hashT cap key k) key).1 ((key + (k : Int)) % 4294967296) 0 1).2 = 0 ∧
    mayTb (setT (delT (hashT cap key k) key).1 ((key + (k : Int)) % 4294967296) 0 1).1 = true ∧
    (getT (setT (delT (hashT cap key k) key).1 ((key + (k : Int)) % 4294967296) 0 1).1 key 0).2.2 = false ∧
    ((setT (delT (hashT cap key k) key).1 ((key + (k : Int)) % 4294967296) 0 1).1.2.1.length : Int) = cap := by
  have hs := hm
  simp only [mayT, mayS_iff] at hs
  have hv := hash_vk (key := key) hm (k := k) (by omega)
  have hd := del_vk (key := key) hv
  have hdel : delT (hashT cap key k) key = (withoutT (hashT cap key k) 0, true) := by
    rw [hv.del, hash_at (by omega) hkey]
    rfl
  rw [hdel] at hd ⊢
  simp only at hd ⊢
  have hlen : (withoutT (hashT cap key k) 0).2.1.length = k - 1 := by
    show ((fullE key k).eraseIdx 0).length = k - 1
    rw [List.length_eraseIdx_of_lt (by rw [fullE_len]; omega), fullE_len]
  have hnone : atE (withoutT (hashT cap key k) 0).2.1 ((key + (k : Int)) % 4294967296) = none := by
    refine atE_isNone.2 (fun h => ?_)
    have h2 : ((key + (k : Int)) % 4294967296) ∈ keysOf (fullE key k) := keys_erase_sub h
    obtain ⟨j, hj, e⟩ := fullE_mem.1 h2
    omega
  have hset : setT (withoutT (hashT cap key k) 0) ((key + (k : Int)) % 4294967296) 0 1 = (behindT (withoutT (hashT cap key k) 0) ((key + (k : Int)) % 4294967296, [1]), 0) := by
    have e1 : ¬ ((withoutT (hashT cap key k) 0).1.1 = 1 ∧ (withoutT (hashT cap key k) 0).1.2.1 ≤ ((withoutT (hashT cap key k) 0).2.1.length : Int)) := by
      rw [hlen]
      show ¬ (_ ∧ cap ≤ _)
      omega
    have e2 : ¬ (withoutT (hashT cap key k) 0).1.2.1 ≤ ((withoutT (hashT cap key k) 0).2.1.length : Int) := by
      rw [hlen]
      show ¬ cap ≤ _
      omega
    have e0 : ¬ (withoutT (hashT cap key k) 0).1.1 = 0 := by show ¬ (1 : Int) = 0; omega
    rw [setT, hd.keyed, hnone, decide_eq_true (show (0 : Int) < (withoutT (hashT cap key k) 0).1.2.2.1 from by show (0 : Int) < 1; omega), if_pos rfl]
    simp only
    rw [if_neg e0, if_neg e1, if_neg e2]
    rfl
  have hl0 : (setT (withoutT (hashT cap key k) 0) ((key + (k : Int)) % 4294967296) 0 1).2 = 0 := by rw [hset]
  obtain ⟨q1, q2, q3, q4, q5⟩ := set_law hl0 (by omega)
  have hne : key ≠ (key + (k : Int)) % 4294967296 := by omega
  refine ⟨trivial, hd, hl0, q2.may, ?_, ?_⟩
  · rw [get_val q2, q1]
    rcases q5 key hne with e | ⟨e, _⟩
    · have : valE (withoutT (hashT cap key k) 0).2.1 key = none := by
        show valE ((fullE key k).eraseIdx 0) key = none
        rw [valE_erase (fullE key k) key 0 key (fullE_nodup key k (by omega)) (hash_at (cap := cap) (by omega) hkey), if_pos rfl]
      rw [e, this]
      split <;> rfl
    · rw [e]
      split <;> rfl
  · rw [hset]
    show (((withoutT (hashT cap key k) 0).2.1 ++ [_]).length : Int) = cap
    rw [List.length_append, hlen]
    simp
    omega
end
end Go.Proofs.Ythpniennaaihgaa
