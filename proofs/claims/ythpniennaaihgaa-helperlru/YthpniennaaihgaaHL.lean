/-
  An Lru whose keys 0, 1, .. are set one behind the other by a helper, in plain numbers.
-/
import Derived.Test.YthpniennaaihgaaHP
namespace Go.Proofs.Ythpniennaaihgaa
set_option linter.unusedVariables false
variable {cap : Int}
/- entries with the keys ks, each with the word 1 -/
def onesE (ks : List Int) : List Ent := ks.map (fun k => (k, [(1 : Int)]))
def lruT (cap : Int) (ks : List Int) : Tb := ((2, cap, 1, 0), onesE ks, 0)
theorem onesE_keys (ks : List Int) : keysOf (onesE ks) = ks := by simp [keysOf, onesE, Function.comp_def]
theorem onesE_len (ks : List Int) : (onesE ks).length = ks.length := by simp [onesE]
theorem onesE_snoc (ks : List Int) (k : Int) : onesE (ks ++ [k]) = onesE ks ++ [(k, [1])] := by simp [onesE]
theorem onesE_erase : ∀ (ks : List Int) (i : Nat), (onesE ks).eraseIdx i = onesE (ks.eraseIdx i)
  | [], i => rfl
  | k :: ks, 0 => rfl
  | k :: ks, i + 1 => by
    have := onesE_erase ks i
    simp only [onesE, List.map_cons, List.eraseIdx_cons_succ] at this ⊢
    rw [this]
theorem lruT_vk (h1 : 1 ≤ cap) (h2 : cap ≤ 16) {ks : List Int} (hn : ks.Nodup) (hl : (ks.length : Int) ≤ cap) : VK (lruT cap ks) := by
  refine ⟨lru_mayT' h1 h2, by show (2 : Int) ≠ 3; omega, by rw [lruT, onesE_len]; exact hl, rfl, by rw [lruT, onesE_keys]; exact hn, fun e he => ?_, fun h => absurd h (by show (2 : Int) ≠ 0; omega)⟩
  obtain ⟨k, _, rfl⟩ := List.mem_map.1 he
  rfl
theorem onesE_at_none {ks : List Int} {key : Int} (h : key ∉ ks) : atE (onesE ks) key = none := atE_isNone.2 (by rw [onesE_keys]; exact h)
theorem lru_fits (h1 : 1 ≤ cap) (h2 : cap ≤ 16) {n : Int} (hn : n = 0 ∨ n = 1 ∨ n = 2 ∨ n = 3) : fitsP n (2, cap, 1, 0) = true := by
  rw [fitsP, if_pos hn, lru_mayT' h1 h2]
  rfl
theorem lru_mayOp (h1 : 1 ≤ cap) (h2 : cap ≤ 16) {ks : List Int} (hd : ks.Nodup) (hl : (ks.length : Int) ≤ cap) {n : Int} (hn : n = 0 ∨ n = 1 ∨ n = 2 ∨ n = 3) {zs : List Int} (h0 : zs.getD 0 0 = 0) (hz2 : zs.getD 2 0 = 0) : mayOp n [lruT cap ks] zs = true := by
  have hv := (lruT_vk h1 h2 hd hl).may
  have hf := lru_fits h1 h2 hn
  simp only [mayOp, h0, hz2]
  simp [lruT] at hv ⊢
  exact ⟨hf, hv⟩
theorem lru_new {ks : List Int} {key : Int} (h1 : 1 ≤ cap) (h2 : cap ≤ 16) (hd : ks.Nodup) (hl : (ks.length : Int) ≤ cap) (hk : key ∉ ks) :
    setT (lruT cap ks) key 0 1 = (lruT cap ((if cap ≤ (ks.length : Int) then ks.eraseIdx 0 else ks) ++ [key]), 0) := by
  have hv := lruT_vk h1 h2 hd hl
  have hkd : keyedB (lruT cap ks) 0 = true := by rw [hv.keyed]; simp [lruT]
  rw [setT, if_pos hkd]
  have ha : atE (lruT cap ks).2.1 key = none := onesE_at_none hk
  rw [ha]
  simp only [lruT, onesE_len]
  rw [if_neg (by omega), if_neg (by omega), onesE_snoc]
  split
  · simp only [behindT, withoutT, onesE_erase]
    rfl
  · rfl
theorem valE_ones {ks : List Int} {key : Int} : valE (onesE ks) key = if key ∈ ks then some [1] else none := by
  induction ks with
  | nil => simp [onesE, valE]
  | cons k ks ih =>
    have e : onesE (k :: ks) = (k, [1]) :: onesE ks := rfl
    rw [e, valE]
    by_cases h : k = key
    · simp [h]
    · rw [if_neg h, ih]
      simp [Ne.symm h]
theorem lru_has (h1 : 1 ≤ cap) (h2 : cap ≤ 16) {ks : List Int} (hd : ks.Nodup) (hl : (ks.length : Int) ≤ cap) (key : Int) : (getT (lruT cap ks) key 0).2.2 = decide (key ∈ ks) := by
  have hv := lruT_vk h1 h2 hd hl
  rw [get_val hv, if_pos (by show (0 : Int) < 1; omega)]
  show (gotV (valE (onesE ks) key) 0).2 = decide (key ∈ ks)
  rw [valE_ones]
  by_cases h : key ∈ ks
  · simp [h, gotV]
  · simp [h, gotV]
theorem lru_first (h1 : 1 ≤ cap) (h2 : cap ≤ 16) {k : Int} {r : List Int} (hd : (k :: r).Nodup) (hl : ((k :: r).length : Int) ≤ cap) : getT (lruT cap (k :: r)) k 0 = (lruT cap (r ++ [k]), 1, true) := by
  have hv := lruT_vk h1 h2 hd hl
  have hkd : keyedB (lruT cap (k :: r)) 0 = true := by rw [hv.keyed]; simp [lruT]
  rw [getT, if_pos hkd]
  have ha : atE (lruT cap (k :: r)).2.1 k = some 0 := by
    show atE ((k, [1]) :: onesE r) k = some 0
    simp [atE]
  rw [ha]
  simp only [lruT, onesE_snoc]
  rfl
/- what the helpers come to -/
theorem lru_call (h1 : 1 ≤ cap) (h2 : cap ≤ 16) {ks : List Int} (hd : ks.Nodup) (hl : (ks.length : Int) ≤ cap) {n : Int} (hn : n = 0 ∨ n = 1 ∨ n = 2 ∨ n = 3) {zs : List Int} (h0 : zs.getD 0 0 = 0) (hz2 : zs.getD 2 0 = 0) (hlen : (zs.length : Int) = argsP n) (c : Int × Int × Int × Int) (sd : Int) :
    callP n (c, [lruT cap ks], sd) zs = ((c, [(opP n (lruT cap ks) zs).1], sd), (opP n (lruT cap ks) zs).2, 0) := by
  have hm := lru_mayOp h1 h2 hd hl hn h0 hz2
  rw [callP, if_neg (by omega), if_neg (by omega), if_pos hm, h0]
  rfl
def upTo (k : Nat) : List Int := (List.range k).map (fun (j : Nat) => (j : Int))
theorem upTo_len (k : Nat) : (upTo k).length = k := by simp [upTo]
theorem upTo_succ (k : Nat) : upTo (k + 1) = upTo k ++ [(k : Int)] := by simp [upTo, List.range_succ]
theorem upTo_mem {k : Nat} {x : Int} : x ∈ upTo k ↔ 0 ≤ x ∧ x < (k : Int) := by
  simp only [upTo, List.mem_map, List.mem_range]
  constructor
  · rintro ⟨j, hj, rfl⟩
    omega
  · intro h
    exact ⟨x.toNat, by omega, by omega⟩
theorem upTo_nodup : ∀ k, (upTo k).Nodup
  | 0 => by simp [upTo]
  | k + 1 => by
    rw [upTo_succ, List.nodup_append]
    refine ⟨upTo_nodup k, by simp, fun a ha b hb => ?_⟩
    have h1 := upTo_mem.1 ha
    have h2 : b = (k : Int) := by simpa using hb
    omega
theorem upTo_cons (k : Nat) : ∃ r, upTo (k + 1) = 0 :: r ∧ r.length = k ∧ r.Nodup ∧ ∀ x, x ∈ r ↔ 1 ≤ x ∧ x ≤ (k : Int) := by
  have hn := upTo_nodup (k + 1)
  have hl := upTo_len (k + 1)
  have hm := fun x => upTo_mem (k := k + 1) (x := x)
  rcases hq : upTo (k + 1) with _ | ⟨y, r⟩
  · rw [hq] at hl
    simp at hl
  · have hy : y = 0 := by
      have : upTo (k + 1) = 0 :: ((List.range k).map (fun (j : Nat) => ((j + 1 : Nat) : Int))) := by simp [upTo, List.range_succ_eq_map]
      rw [hq] at this
      exact (List.cons.inj this).1
    subst hy
    rw [hq] at hn hl hm
    simp only [List.nodup_cons] at hn
    refine ⟨r, rfl, by simpa using hl, hn.2, fun x => ?_⟩
    have h9 := hm x
    simp only [List.mem_cons] at h9
    constructor
    · intro hx
      have h8 := h9.1 (.inr hx)
      have : x ≠ 0 := fun e => hn.1 (e ▸ hx)
      omega
    · intro hx
      rcases h9.2 (by omega) with h7 | h7
      · omega
      · exact h7
theorem lru_set_call (h1 : 1 ≤ cap) (h2 : cap ≤ 16) {ks : List Int} (hd : ks.Nodup) (hl : (ks.length : Int) ≤ cap) {key : Int} (hk : key ∉ ks) (c : Int × Int × Int × Int) (sd : Int) :
    callP 1 (c, [lruT cap ks], sd) [0, key, 0, 1] = ((c, [lruT cap ((if cap ≤ (ks.length : Int) then ks.eraseIdx 0 else ks) ++ [key])], sd), 0, 0) := by
  rw [lru_call h1 h2 hd hl (.inr (.inl rfl)) rfl rfl (by rfl)]
  have e := lru_new h1 h2 hd hl hk
  have e2 : opP 1 (lruT cap ks) [0, key, 0, 1] = (lruT cap ((if cap ≤ (ks.length : Int) then ks.eraseIdx 0 else ks) ++ [key]), 0) := by
    rw [opP, if_neg (by omega), if_pos rfl]
    show (if (setT (lruT cap ks) key 0 1).2 = 0 then (setT (lruT cap ks) key 0 1).1 else lruT cap ks, (setT (lruT cap ks) key 0 1).2) = _
    rw [e]
    rfl
  rw [e2]
theorem lru_has_call (h1 : 1 ≤ cap) (h2 : cap ≤ 16) {ks : List Int} (hd : ks.Nodup) (hl : (ks.length : Int) ≤ cap) (key : Int) (c : Int × Int × Int × Int) (sd : Int) :
    callP 3 (c, [lruT cap ks], sd) [0, key] = ((c, [lruT cap ks], sd), (if key ∈ ks then 1 else 0), 0) := by
  rw [lru_call h1 h2 hd hl (.inr (.inr (.inr rfl))) rfl rfl (by rfl)]
  have e := lru_has h1 h2 hd hl key
  have e2 : opP 3 (lruT cap ks) [0, key] = (lruT cap ks, if key ∈ ks then 1 else 0) := by
    rw [opP, if_neg (by omega), if_neg (by omega), if_neg (by omega), if_pos rfl]
    show (lruT cap ks, if (getT (lruT cap ks) key 0).2.2 = true then (1 : Int) else 0) = _
    rw [e]
    simp
  rw [e2]
theorem lru_get_call (h1 : 1 ≤ cap) (h2 : cap ≤ 16) {k : Int} {r : List Int} (hd : (k :: r).Nodup) (hl : ((k :: r).length : Int) ≤ cap) (c : Int × Int × Int × Int) (sd : Int) :
    callP 0 (c, [lruT cap (k :: r)], sd) [0, k, 0] = ((c, [lruT cap (r ++ [k])], sd), 1, 0) := by
  rw [lru_call h1 h2 hd hl (.inl rfl) rfl rfl (by rfl)]
  have e := lru_first h1 h2 hd hl
  have e2 : opP 0 (lruT cap (k :: r)) [0, k, 0] = (lruT cap (r ++ [k]), 1) := by
    rw [opP, if_pos rfl]
    show ((getT (lruT cap (k :: r)) k 0).1, (getT (lruT cap (k :: r)) k 0).2.1) = _
    rw [e]
  rw [e2]
def from2 (k : Nat) : List Int := (List.range k).map (fun (j : Nat) => ((j + 2 : Nat) : Int))
theorem upTo_two (k : Nat) : upTo (k + 2) = 0 :: 1 :: from2 k := by
  simp [upTo, from2, List.range_succ_eq_map, Function.comp_def]
  omega
theorem from2_mem {k : Nat} {x : Int} (h : x ∈ from2 k) : 2 ≤ x ∧ x < (k : Int) + 2 := by
  simp only [from2, List.mem_map, List.mem_range] at h
  obtain ⟨j, hj, rfl⟩ := h
  omega
theorem from2_len (k : Nat) : (from2 k).length = k := by simp [from2]
theorem from2_nodup (k : Nat) : (from2 k).Nodup := by
  have := upTo_nodup (k + 2)
  rw [upTo_two] at this
  simp only [List.nodup_cons] at this
  exact this.2.2
end Go.Proofs.Ythpniennaaihgaa
