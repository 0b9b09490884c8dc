/-
  What a call of a helper keeps, in plain numbers.
-/
import Derived.Test.YthpniennaaihgaaHX
namespace Go.Proofs.Ythpniennaaihgaa
set_option linter.unusedVariables false
theorem push_may {t : Tb} {v : Int} (h : mayTb t = true) (h3 : t.1.1 = 3) (hc : ¬ t.1.2.1 ≤ (t.2.1.length : Int)) : mayTb (t.1, t.2.1 ++ [(t.2.2, [v])], (t.2.2 + 1) % 4294967296) = true := by
  have hh := mayTb_head h
  have he := fun i hi => mayTb_ent (i := i) h hi
  rcases t with ⟨⟨s0, s1, s2, s3⟩, es, x⟩
  simp only [headB, entB, Bool.and_eq_true, Bool.or_eq_true, decide_eq_true_iff] at hh he h3 hc ⊢
  obtain ⟨hm, hl, hk, h0⟩ := hh
  have hs := hm
  simp only [mayT, mayS_iff] at hs
  have hx : ∀ i, i < es.length → ((es.getD i zeroE).1 + ((es.length : Int) - (i : Int))) % 4294967296 = x := fun i hi => (he i hi).2.2.2.resolve_left (by omega)
  refine mayTb_mk ?_ (fun i hi => ?_)
  · simp only [headB, Bool.and_eq_true, Bool.or_eq_true, decide_eq_true_iff, List.length_append, List.length_singleton]
    exact ⟨hm, by omega, .inl h3, .inl (by omega)⟩
  · simp only [List.length_append, List.length_singleton] at hi
    simp only [entB, Bool.and_eq_true, Bool.or_eq_true, decide_eq_true_iff, List.length_append, List.length_singleton]
    by_cases hil : i < es.length
    · have hg : (es ++ [(x, [v])]).getD i zeroE = es.getD i zeroE := by simp [List.getD_eq_getElem?_getD, List.getElem?_append_left hil]
      rw [hg]
      have h1 := he i hil
      have hxi := hx i hil
      refine ⟨h1.1, ?_, .inl (by omega), .inr (by push_cast; omega)⟩
      obtain ⟨a1, a2, a3⟩ := atE_some h1.2.1
      refine atE_is (by simp; omega) (by rw [hg]) (fun j hj => ?_)
      have hg2 : (es ++ [(x, [v])]).getD j zeroE = es.getD j zeroE := by simp [List.getD_eq_getElem?_getD, List.getElem?_append_left (show j < es.length by omega)]
      rw [hg2]
      exact a3 j hj
    · have hie : i = es.length := by omega
      have hg : (es ++ [(x, [v])]).getD i zeroE = (x, [v]) := by rw [hie]; simp [List.getD_eq_getElem?_getD]
      rw [hg]
      refine ⟨by simp; omega, ?_, .inl (by omega), .inr (by
        subst hie
        show (x + (((es.length + 1 : Nat) : Int) - (es.length : Int))) % 4294967296 = (x + 1) % 4294967296
        congr 1
        push_cast
        omega)⟩
      refine atE_is (by simp; omega) (by rw [hg]) (fun j hj => ?_)
      have hg2 : (es ++ [(x, [v])]).getD j zeroE = es.getD j zeroE := by simp [List.getD_eq_getElem?_getD, List.getElem?_append_left (show j < es.length by omega)]
      rw [hg2]
      have := hx j (by omega)
      show (es.getD j zeroE).1 ≠ x
      omega
theorem fits_kinds {n : Int} {s : Sc} (h : fitsP n s = true) : (n = 0 ∨ n = 1 ∨ n = 2 ∨ n = 3) ∧ s.1 ≠ 3 ∨ (n = 5 ∧ s.1 = 3) := by
  simp only [fitsP, Bool.and_eq_true] at h
  obtain ⟨_, h⟩ := h
  split at h
  · rename_i hn
    exact .inl ⟨hn, by simpa using h⟩
  · split at h
    · rename_i hn
      exact .inr ⟨hn, by simpa using h⟩
    · cases h
theorem op_keeps {n : Int} {t : Tb} {zs : List Int} (hz : wordL zs) (hm : mayTb t = true) (hf : fitsP n t.1 = true) : (opP n t zs).1.1 = t.1 ∧ mayTb (opP n t zs).1 = true := by
  rcases fits_kinds hf with ⟨hn, h3⟩ | ⟨rfl, h3⟩
  · have hv := (vk_iff h3).1 hm
    rcases hn with rfl | rfl | rfl | rfl
    · show (getT t (zs.getD 1 0) (zs.getD 2 0)).1.1 = t.1 ∧ mayTb (getT t (zs.getD 1 0) (zs.getD 2 0)).1 = true
      exact ⟨get_sc, (get_vk hv).may⟩
    · show (if (setT t (zs.getD 1 0) (zs.getD 2 0) (zs.getD 3 0)).2 = 0 then (setT t (zs.getD 1 0) (zs.getD 2 0) (zs.getD 3 0)).1 else t).1 = t.1 ∧ mayTb (if (setT t (zs.getD 1 0) (zs.getD 2 0) (zs.getD 3 0)).2 = 0 then (setT t (zs.getD 1 0) (zs.getD 2 0) (zs.getD 3 0)).1 else t) = true
      split
      · rename_i h0
        obtain ⟨h1, h2, _⟩ := set_law h0 (wordL_getD hz 2).1
        exact ⟨h1, h2.may⟩
      · exact ⟨rfl, hm⟩
    · show (delT t (zs.getD 1 0)).1.1 = t.1 ∧ mayTb (delT t (zs.getD 1 0)).1 = true
      exact ⟨del_sc, (del_vk hv).may⟩
    · exact ⟨rfl, hm⟩
  · show (if (pushT t (zs.getD 1 0)).2 = 0 then (pushT t (zs.getD 1 0)).1 else t).1 = t.1 ∧ mayTb (if (pushT t (zs.getD 1 0)).2 = 0 then (pushT t (zs.getD 1 0)).1 else t) = true
    split
    · rename_i h0
      by_cases hc : t.1.2.1 ≤ (t.2.1.length : Int)
      · rw [push_full ⟨hm, h3⟩ hc] at h0
        simp at h0
      · rw [push_yes ⟨hm, h3⟩ hc]
        exact ⟨rfl, push_may hm h3 hc⟩
    · exact ⟨rfl, hm⟩
theorem keeps_law {n : Int} {c : Cx} {ts : List Tb} {sd : Int} {zs : List Int} (hz : wordL zs) {c' : Cx} {us : List Tb} {sd' v f : Int} (hr : callP n (c, ts, sd) zs = ((c', us, sd'), v, f)) :
    (f = 1 ∧ us = []) ∨ ((f = 0 ∨ f = 10) ∧ us.length = ts.length ∧ c' = c ∧ (n ≠ 4 → sd' = sd) ∧
      ∀ k, k < ts.length → (us.getD k zeroT = ts.getD k zeroT ∨ (0 < zs.length ∧ zs.getD 0 0 = (k : Int) ∧ f = 0)) ∧ (mayTb (ts.getD k zeroT) = true → mayTb (us.getD k zeroT) = true) ∧ (us.getD k zeroT).1 = (ts.getD k zeroT).1) := by
  by_cases ha : (zs.length : Int) ≠ argsP n
  · rw [callP_arg ha] at hr
    simp only [zeroEv, Prod.mk.injEq] at hr
    exact .inl ⟨hr.2.2.symm, hr.1.2.1.symm⟩
  have ha' : (zs.length : Int) = argsP n := Decidable.not_not.1 ha
  right
  by_cases h4 : n = 4
  · subst h4
    rw [callP_draw ha'] at hr
    simp only [Prod.mk.injEq] at hr
    obtain ⟨⟨rfl, rfl, rfl⟩, rfl, rfl⟩ := hr
    exact ⟨.inl rfl, rfl, rfl, fun h => absurd rfl h, fun k hk => ⟨.inl rfl, id, rfl⟩⟩
  rcases hm : mayOp n ts zs with _ | _
  · rw [callP_fault ha' h4 hm] at hr
    simp only [Prod.mk.injEq] at hr
    obtain ⟨⟨rfl, rfl, rfl⟩, rfl, rfl⟩ := hr
    exact ⟨.inr rfl, rfl, rfl, fun _ => rfl, fun k hk => ⟨.inl rfl, id, rfl⟩⟩
  · have h0 : 0 < zs.length := by
      have := (argsP_n h4 (by omega)).1
      omega
    have hw0 := wordL_getD hz 0
    obtain ⟨i, hi⟩ : ∃ i : Nat, zs.getD 0 0 = (i : Int) := ⟨(zs.getD 0 0).toNat, by have := hw0.1; omega⟩
    obtain ⟨hl, hft, hmt, _⟩ := mayOp_parts hi hm
    rw [callP_do ha' h4 hi hm] at hr
    simp only [Prod.mk.injEq] at hr
    obtain ⟨⟨rfl, rfl, rfl⟩, rfl, rfl⟩ := hr
    have hop := op_keeps hz hmt hft
    refine ⟨.inl rfl, by rw [List.length_set], rfl, fun _ => rfl, fun k hk => ?_⟩
    by_cases hki : k = i
    · subst hki
      rw [getD_set_at ts hl]
      exact ⟨.inr ⟨h0, hi, rfl⟩, fun _ => hop.2, hop.1⟩
    · have hg : (ts.set i (opP n (ts.getD i zeroT) zs).1).getD k zeroT = ts.getD k zeroT := by
        simp [List.getD_eq_getElem?_getD, List.getElem?_set_ne (Ne.symm hki)]
      rw [hg]
      exact ⟨.inl rfl, id, rfl⟩
end Go.Proofs.Ythpniennaaihgaa
