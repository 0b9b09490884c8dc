/-
  Texts that the laws of this layer stand on, one behind the other.
-/
import Derived.Test.YtilddlgcfbefiaaDoorGg
import Derived.Test.YtilddlgcfbefiaaDoorGa
/-
  What is set is got, and is there; what was let go is not there: in plain numbers.
-/
namespace Go.Proofs.YtilddlgcfbefiaaDoor
set_option linter.unusedSimpArgs false
set_option linter.unusedVariables false
theorem set_getD_self (ts : List Tb) (i : Nat) : ts.set i (ts.getD i zeroT) = ts := by
  apply List.ext_getElem (by simp)
  intro j h1 h2
  by_cases hij : i = j
  · subst hij
    simp [List.getD_eq_getElem?_getD, h2]
  · rw [List.getElem_set_ne hij]
theorem getD_set_at (ts : List Tb) {i : Nat} (hi : i < ts.length) (u : Tb) : (ts.set i u).getD i zeroT = u := by simp [List.getD_eq_getElem?_getD, hi]
theorem vk_fewE {t : Tb} (h : VK t) : fewE t.2.1 := may_few h.may
theorem fewL_set {ts : List Tb} {i : Nat} {u : Tb} (h : fewL ts) (hu : fewE u.2.1) : fewL (ts.set i u) :=
  ⟨by rw [List.length_set]; exact h.1, fun t ht => (List.mem_or_eq_of_mem_set ht).elim (h.2 t) (fun e => e ▸ hu)⟩
/- a call of a helper that has a map as its first argument -/
theorem callP_map {n : Int} {e : Ev} {m : Int} {rest : List Int} {i : Nat} {t : Tb} (hi : m = (i : Int)) (h : ((m :: rest).length : Int) = argsP n) (h4 : n ≠ 4) (hl : i < e.2.1.length) (ht : e.2.1.getD i zeroT = t)
    (hf : fitsP n t.1 = true) (hm : mayTb t = true) (hw : (n = 0 ∨ n = 1) → (m :: rest).getD 2 0 < t.1.2.2.1) :
    callP n e (m :: rest) = ((e.1, e.2.1.set i (opP n t (m :: rest)).1, e.2.2), (opP n t (m :: rest)).2, 0) := by
  have hg : (m :: rest).getD 0 0 = (i : Int) := hi
  have hmay : mayOp n e.2.1 (m :: rest) = true := by
    rw [mayOp_in hg hl ht, hf, hm]
    simp only [Bool.true_and, Bool.or_eq_true, decide_eq_true_iff]
    by_cases hn : n = 0 ∨ n = 1
    · exact .inr (hw hn)
    · exact .inl hn
  rw [callP_do h h4 hg hmay, ht]
theorem mayOp_parts {n : Int} {ts : List Tb} {zs : List Int} {i : Nat} (hi : zs.getD 0 0 = (i : Int)) (h : mayOp n ts zs = true) :
    i < ts.length ∧ fitsP n (ts.getD i zeroT).1 = true ∧ mayTb (ts.getD i zeroT) = true ∧ ((n = 0 ∨ n = 1) → zs.getD 2 0 < (ts.getD i zeroT).1.2.2.1) := by
  have hl := mayOp_lt hi h
  rw [mayOp_in hi hl rfl] at h
  simp only [Bool.and_eq_true, Bool.or_eq_true, decide_eq_true_iff] at h
  exact ⟨hl, h.1, h.2.1, fun hn => h.2.2.resolve_left (fun h => h hn)⟩
/- set, told as an error: nothing changes -/
theorem after_err {e : Ev} {m key f v : Int} {i : Nat} (hi : m = (i : Int)) (h : (callP 1 e [m, key, f, v]).2.2 ≠ 0 ∨ (callP 1 e [m, key, f, v]).2.1 ≠ 0) : (callP 1 e [m, key, f, v]).1 = e := by
  have hg : [m, key, f, v].getD 0 0 = (i : Int) := hi
  rcases hm : mayOp 1 e.2.1 [m, key, f, v] with _ | _
  · rw [callP_fault (by simp [argsP]) (by omega) hm]
  · rw [callP_do (by simp [argsP]) (by omega) hg hm] at h ⊢
    have hs : (setT (e.2.1.getD i zeroT) key f v).2 ≠ 0 := by
      rcases h with h | h
      · exact absurd rfl h
      · simpa [opP] using h
    have e1 : (opP 1 (e.2.1.getD i zeroT) [m, key, f, v]).1 = e.2.1.getD i zeroT := by
      show (if (setT (e.2.1.getD i zeroT) key f v).2 = 0 then (setT (e.2.1.getD i zeroT) key f v).1 else e.2.1.getD i zeroT) = _
      rw [if_neg hs]
    rw [e1, set_getD_self]
theorem after_told {e : Ev} {m key f v : Int} (h : (callP 1 e [m, key, f, v]).2.2 ≠ 0) : (callP 1 e [m, key, f, v]).2.1 = 0 := by
  rcases hm : mayOp 1 e.2.1 [m, key, f, v] with _ | _
  · rw [callP_fault (by simp [argsP]) (by omega) hm]
  · exfalso
    apply h
    rw [callP, if_neg (by simp [argsP]), if_neg (by omega), if_pos hm]
theorem fits_low {s : Sc} (n : Int) (h : fitsP 1 s = true) (hn : n = 0 ∨ n = 1 ∨ n = 2 ∨ n = 3) : fitsP n s = true := by
  simp only [fitsP] at h ⊢
  rw [if_pos hn]
  simpa using h
theorem after_ok {e : Ev} {m key f v : Int} {i : Nat} (hi : m = (i : Int)) (hf0 : 0 ≤ f) (hfew : fewL e.2.1) (h1 : (callP 1 e [m, key, f, v]).2.2 = 0) (h2 : (callP 1 e [m, key, f, v]).2.1 = 0) :
    ∃ u d : Tb, ∃ g : Ev, ∃ g' : Ev, (callP 1 e [m, key, f, v]) = ((e.1, e.2.1.set i u, e.2.2), 0, 0) ∧ fewL (e.2.1.set i u) ∧ fewL (e.2.1.set i d) ∧
      callP 0 (e.1, e.2.1.set i u, e.2.2) [m, key, f] = (g, v, 0) ∧ callP 3 (e.1, e.2.1.set i u, e.2.2) [m, key] = ((e.1, e.2.1.set i u, e.2.2), 1, 0) ∧
      callP 2 (e.1, e.2.1.set i u, e.2.2) [m, key] = ((e.1, e.2.1.set i d, e.2.2), 1, 0) ∧ callP 0 (e.1, e.2.1.set i d, e.2.2) [m, key, f] = (g', 0, 0) := by
  have hg : [m, key, f, v].getD 0 0 = (i : Int) := hi
  rcases hm : mayOp 1 e.2.1 [m, key, f, v] with _ | _
  · rw [callP_fault (by simp [argsP]) (by omega) hm] at h1
    simp at h1
  obtain ⟨hl, hft, hmt, hw⟩ := mayOp_parts hg hm
  have hw' : f < (e.2.1.getD i zeroT).1.2.2.1 := hw (.inr rfl)
  have hc := callP_do (e := e) (zs := [m, key, f, v]) (i := i) (by simp [argsP]) (by omega) hg hm
  generalize ht : e.2.1.getD i zeroT = t at *
  have hs : (setT t key f v).2 = 0 := by
    rw [hc] at h2
    exact h2
  have hop : opP 1 t [m, key, f, v] = ((setT t key f v).1, 0) := by
    show ((if (setT t key f v).2 = 0 then (setT t key f v).1 else t), (setT t key f v).2) = _
    rw [if_pos hs, hs]
  rw [hop] at hc
  obtain ⟨hvk, _⟩ := set_yes hs
  obtain ⟨s1, s2, s3, _, _⟩ := set_law hs hf0
  obtain ⟨b1, b2, _⟩ := back_law hs hf0 key f hf0
  generalize hu : (setT t key f v).1 = u at *
  have h3 : t.1.1 ≠ 3 := hvk.2.1
  have hd1 := del_ok (key := key) s2
  rw [s3] at hd1
  have hdt : (delT u key).2 = true := hd1
  have hdv := del_vk (key := key) s2
  have hds := del_sc (t := u) (key := key)
  have hdval := del_val s2 key (key := key)
  rw [if_pos rfl, s3] at hdval
  have hg3 := get_val (key := key) (f := 0) s2
  have hg9 := get_val (key := key) (f := f) hdv
  have hsc := hvk.sc
  generalize hd : (delT u key).1 = d at *
  have hds1 : d.1 = t.1 := by rw [hds, s1]
  have lu : (e.2.1.set i u).getD i zeroT = u := getD_set_at _ hl u
  have ld : (e.2.1.set i d).getD i zeroT = d := getD_set_at _ hl d
  have hlu : i < (e.2.1.set i u).length := by rw [List.length_set]; exact hl
  have hld : i < (e.2.1.set i d).length := by rw [List.length_set]; exact hl
  have hz : (getT d key f).2.1 = 0 := by
    rw [hg9, if_pos (by rw [hds1]; exact hw')]
    rw [hdval]
    split
    · show (List.replicate u.1.2.2.1.toNat (0 : Int)).getD f.toNat 0 = 0
      rw [List.getD_eq_getElem?_getD, List.getElem?_replicate]
      split <;> rfl
    · rfl
  have hh : (getT u key 0).2.2 = true := by
    rw [hg3, if_pos (by rw [s1]; omega), s3]
    rfl
  refine ⟨u, d, ((e.1, e.2.1.set i (getT u key f).1, e.2.2)), ((e.1, (e.2.1.set i d).set i (getT d key f).1, e.2.2)), hc, fewL_set hfew (vk_fewE s2), fewL_set hfew (vk_fewE hdv), ?_, ?_, ?_, ?_⟩
  · rw [callP_map (t := u) hi (by simp [argsP]) (by omega) hlu lu (fits_low 0 (by rw [s1]; exact hft) (.inl rfl)) s2.may (fun _ => by rw [s1]; exact hw')]
    show ((e.1, (e.2.1.set i u).set i (getT u key f).1, e.2.2), (getT u key f).2.1, (0 : Int)) = _
    rw [List.set_set, b1]
  · rw [callP_map (t := u) hi (by simp [argsP]) (by omega) hlu lu (fits_low 3 (by rw [s1]; exact hft) (by omega)) s2.may (fun h => by omega)]
    show ((e.1, (e.2.1.set i u).set i u, e.2.2), (if (getT u key 0).2.2 = true then (1 : Int) else 0), (0 : Int)) = _
    rw [List.set_set, if_pos hh]
  · rw [callP_map (t := u) hi (by simp [argsP]) (by omega) hlu lu (fits_low 2 (by rw [s1]; exact hft) (by omega)) s2.may (fun h => by omega)]
    show ((e.1, (e.2.1.set i u).set i (delT u key).1, e.2.2), (if (delT u key).2 = true then (1 : Int) else 0), (0 : Int)) = _
    rw [List.set_set, if_pos hdt, hd]
  · rw [callP_map (t := d) hi (by simp [argsP]) (by omega) hld ld (fits_low 0 (by rw [hds1]; exact hft) (.inl rfl)) hdv.may (fun _ => by rw [hds1]; exact hw')]
    show ((e.1, (e.2.1.set i d).set i (getT d key f).1, e.2.2), (getT d key f).2.1, (0 : Int)) = _
    rw [hz]
end Go.Proofs.YtilddlgcfbefiaaDoor

/-
  What a call of a helper keeps, in plain numbers.
-/
namespace Go.Proofs.YtilddlgcfbefiaaDoor
set_option linter.unusedSimpArgs false
set_option linter.unusedVariables false
theorem push_may {t : Tb} {v : Int} (h : mayTb t = true) (h3 : t.1.1 = 3) (hc : ¬ t.1.2.1 ≤ (t.2.1.length : Int)) : mayTb (t.1, t.2.1 ++ [(t.2.2, [v])], (t.2.2 + 1) % 4294967296) = true := by
  have hh := mayTb_head h
  have he := fun i hi => mayTb_ent (i := i) h hi
  rcases t with ⟨⟨s0, s1, s2, s3⟩, es, x⟩
  simp only [headB, entB, Bool.and_eq_true, Bool.or_eq_true, decide_eq_true_iff] at hh he h3 hc ⊢
  obtain ⟨hm, hl, hk, h0⟩ := hh
  have hs := hm
  simp only [mayT, mayS_iff] at hs
  have hx : ∀ i, i < es.length → ((es.getD i zeroE).1 + ((es.length : Int) - (i : Int))) % 4294967296 = x := fun i hi => (he i hi).2.2.2.resolve_left (by omega)
  refine mayTb_mk ?_ (fun i hi => ?_)
  · simp only [headB, Bool.and_eq_true, Bool.or_eq_true, decide_eq_true_iff, List.length_append, List.length_singleton]
    exact ⟨hm, by omega, .inl h3, .inl (by omega)⟩
  · simp only [List.length_append, List.length_singleton] at hi
    simp only [entB, Bool.and_eq_true, Bool.or_eq_true, decide_eq_true_iff, List.length_append, List.length_singleton]
    by_cases hil : i < es.length
    · have hg : (es ++ [(x, [v])]).getD i zeroE = es.getD i zeroE := by simp [List.getD_eq_getElem?_getD, List.getElem?_append_left hil]
      rw [hg]
      have h1 := he i hil
      have hxi := hx i hil
      refine ⟨h1.1, ?_, .inl (by omega), .inr (by push_cast; omega)⟩
      obtain ⟨a1, a2, a3⟩ := atE_some h1.2.1
      refine atE_is (by simp; omega) (by rw [hg]) (fun j hj => ?_)
      have hg2 : (es ++ [(x, [v])]).getD j zeroE = es.getD j zeroE := by simp [List.getD_eq_getElem?_getD, List.getElem?_append_left (show j < es.length by omega)]
      rw [hg2]
      exact a3 j hj
    · have hie : i = es.length := by omega
      have hg : (es ++ [(x, [v])]).getD i zeroE = (x, [v]) := by rw [hie]; simp [List.getD_eq_getElem?_getD]
      rw [hg]
      refine ⟨by simp; omega, ?_, .inl (by omega), .inr (by
        subst hie
        show (x + (((es.length + 1 : Nat) : Int) - (es.length : Int))) % 4294967296 = (x + 1) % 4294967296
        congr 1
        push_cast
        omega)⟩
      refine atE_is (by simp; omega) (by rw [hg]) (fun j hj => ?_)
      have hg2 : (es ++ [(x, [v])]).getD j zeroE = es.getD j zeroE := by simp [List.getD_eq_getElem?_getD, List.getElem?_append_left (show j < es.length by omega)]
      rw [hg2]
      have := hx j (by omega)
      show (es.getD j zeroE).1 ≠ x
      omega
theorem fits_kinds {n : Int} {s : Sc} (h : fitsP n s = true) : (n = 0 ∨ n = 1 ∨ n = 2 ∨ n = 3) ∧ s.1 ≠ 3 ∨ (n = 5 ∧ s.1 = 3) := by
  simp only [fitsP, Bool.and_eq_true] at h
  obtain ⟨_, h⟩ := h
  split at h
  · rename_i hn
    exact .inl ⟨hn, by simpa using h⟩
  · split at h
    · rename_i hn
      exact .inr ⟨hn, by simpa using h⟩
    · cases h
theorem op_keeps {n : Int} {t : Tb} {zs : List Int} (hz : wordL zs) (hm : mayTb t = true) (hf : fitsP n t.1 = true) : (opP n t zs).1.1 = t.1 ∧ mayTb (opP n t zs).1 = true := by
  rcases fits_kinds hf with ⟨hn, h3⟩ | ⟨rfl, h3⟩
  · have hv := (vk_iff h3).1 hm
    rcases hn with rfl | rfl | rfl | rfl
    · show (getT t (zs.getD 1 0) (zs.getD 2 0)).1.1 = t.1 ∧ mayTb (getT t (zs.getD 1 0) (zs.getD 2 0)).1 = true
      exact ⟨get_sc, (get_vk hv).may⟩
    · show (if (setT t (zs.getD 1 0) (zs.getD 2 0) (zs.getD 3 0)).2 = 0 then (setT t (zs.getD 1 0) (zs.getD 2 0) (zs.getD 3 0)).1 else t).1 = t.1 ∧ mayTb (if (setT t (zs.getD 1 0) (zs.getD 2 0) (zs.getD 3 0)).2 = 0 then (setT t (zs.getD 1 0) (zs.getD 2 0) (zs.getD 3 0)).1 else t) = true
      split
      · rename_i h0
        obtain ⟨h1, h2, _⟩ := set_law h0 (wordL_getD hz 2).1
        exact ⟨h1, h2.may⟩
      · exact ⟨rfl, hm⟩
    · show (delT t (zs.getD 1 0)).1.1 = t.1 ∧ mayTb (delT t (zs.getD 1 0)).1 = true
      exact ⟨del_sc, (del_vk hv).may⟩
    · exact ⟨rfl, hm⟩
  · show (if (pushT t (zs.getD 1 0)).2 = 0 then (pushT t (zs.getD 1 0)).1 else t).1 = t.1 ∧ mayTb (if (pushT t (zs.getD 1 0)).2 = 0 then (pushT t (zs.getD 1 0)).1 else t) = true
    split
    · rename_i h0
      by_cases hc : t.1.2.1 ≤ (t.2.1.length : Int)
      · rw [push_full ⟨hm, h3⟩ hc] at h0
        simp at h0
      · rw [push_yes ⟨hm, h3⟩ hc]
        exact ⟨rfl, push_may hm h3 hc⟩
    · exact ⟨rfl, hm⟩
theorem keeps_law {n : Int} {c : Cx} {ts : List Tb} {sd : Int} {zs : List Int} (hz : wordL zs) {c' : Cx} {us : List Tb} {sd' v f : Int} (hr : callP n (c, ts, sd) zs = ((c', us, sd'), v, f)) :
    (f = 1 ∧ us = []) ∨ ((f = 0 ∨ f = 10) ∧ us.length = ts.length ∧ c' = c ∧ (n ≠ 4 → sd' = sd) ∧
      ∀ k, k < ts.length → (us.getD k zeroT = ts.getD k zeroT ∨ (0 < zs.length ∧ zs.getD 0 0 = (k : Int) ∧ f = 0)) ∧ (mayTb (ts.getD k zeroT) = true → mayTb (us.getD k zeroT) = true) ∧ (us.getD k zeroT).1 = (ts.getD k zeroT).1) := by
  by_cases ha : (zs.length : Int) ≠ argsP n
  · rw [callP_arg ha] at hr
    simp only [zeroEv, Prod.mk.injEq] at hr
    exact .inl ⟨hr.2.2.symm, hr.1.2.1.symm⟩
  have ha' : (zs.length : Int) = argsP n := Decidable.not_not.1 ha
  right
  by_cases h4 : n = 4
  · subst h4
    rw [callP_draw ha'] at hr
    simp only [Prod.mk.injEq] at hr
    obtain ⟨⟨rfl, rfl, rfl⟩, rfl, rfl⟩ := hr
    exact ⟨.inl rfl, rfl, rfl, fun h => absurd rfl h, fun k hk => ⟨.inl rfl, id, rfl⟩⟩
  rcases hm : mayOp n ts zs with _ | _
  · rw [callP_fault ha' h4 hm] at hr
    simp only [Prod.mk.injEq] at hr
    obtain ⟨⟨rfl, rfl, rfl⟩, rfl, rfl⟩ := hr
    exact ⟨.inr rfl, rfl, rfl, fun _ => rfl, fun k hk => ⟨.inl rfl, id, rfl⟩⟩
  · have h0 : 0 < zs.length := by
      have := (argsP_n h4 (by omega)).1
      omega
    have hw0 := wordL_getD hz 0
    obtain ⟨i, hi⟩ : ∃ i : Nat, zs.getD 0 0 = (i : Int) := ⟨(zs.getD 0 0).toNat, by have := hw0.1; omega⟩
    obtain ⟨hl, hft, hmt, _⟩ := mayOp_parts hi hm
    rw [callP_do ha' h4 hi hm] at hr
    simp only [Prod.mk.injEq] at hr
    obtain ⟨⟨rfl, rfl, rfl⟩, rfl, rfl⟩ := hr
    have hop := op_keeps hz hmt hft
    refine ⟨.inl rfl, by rw [List.length_set], rfl, fun _ => rfl, fun k hk => ?_⟩
    by_cases hki : k = i
    · subst hki
      rw [getD_set_at ts hl]
      exact ⟨.inr ⟨h0, hi, rfl⟩, fun _ => hop.2, hop.1⟩
    · have hg : (ts.set i (opP n (ts.getD i zeroT) zs).1).getD k zeroT = ts.getD k zeroT := by
        simp [List.getD_eq_getElem?_getD, List.getElem?_set_ne (Ne.symm hki)]
      rw [hg]
      exact ⟨.inl rfl, id, rfl⟩
end Go.Proofs.YtilddlgcfbefiaaDoor

