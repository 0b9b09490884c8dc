/-
  What the eighth reference's Fine returns, as a contract over the translated program.
-/
import Derived.Test.YtdgfklmbglfbfaaDoorE2
namespace Go.Proofs.YtdgfklmbglfbfaaDoor
open Go Go.RowKit
set_option linter.unusedVariables false
theorem fineK_of {c : List I} {n k : Nat} : fineK c n k = true ↔ ∀ j, j < k → rch c j = true → ∀ t, t ∈ sucC c j → t < n := by
  simp only [fineK, List.all_eq_true, List.mem_range, Bool.or_eq_true, Bool.not_eq_true', decide_eq_true_eq]
  constructor
  · intro h j hj hr t ht
    rcases h j hj with h1 | h1
    · rw [hr] at h1; cases h1
    · exact h1 t ht
  · intro h j hj
    rcases hr : rch c j with _ | _
    · exact .inl rfl
    · exact .inr (h j hj hr)
set_option maxRecDepth 100000 in
set_option maxHeartbeats 8000000 in
theorem rfine_any (a : Option Addr) (len cap : Nat) (c : List I) (w : World) (h : CodeAt w a len cap c) :
    Calls Tryd.prog 20 #[.slice a len cap] w fun e w' => e = .returned (.bool (fineP c)) ∧ Below w.heap.size w w' := by
  have hm : len ≤ 9223372036854775807 := by have := h.2.1; have := h.2.2.1; unfold maxLen at this; omega
  have H := Lib.hid h
  have H1 := Lib.hid h.1
  obtain ⟨R, hR0⟩ : ∃ R, fineP c = R := ⟨_, rfl⟩
  rw [hR0]
  have HT := Lib.hid hR0
  have k1 := rreach_any a len cap c w h
  clear hR0 h
  go_enter Tryd.func20, Tryd.ntmps20
  go_wp2_with fail
  refine k1.mono ?_
  rintro e m1 ⟨b, l, cp, rfl, hb1, hbo, _⟩
  have HB := Lib.hid hb1
  have HBo := Lib.hid hbo
  have hlm := hbo.max
  have hl1 : (reachP c).length = l := hbo.1
  obtain ⟨Q, hQ⟩ : ∃ Q, codeB c = Q := ⟨_, rfl⟩
  have HQ := Lib.hid hQ
  have HL : Hid ((Q = true ∧ l = len ∧ 1 ≤ len) ∨ (Q = false ∧ l = 0)) := Lib.hid (by
    have h1 := H1.out
    cases Q
    · exact .inr ⟨rfl, by rw [← hl1, reachP, hQ]; simp⟩
    · exact .inl ⟨rfl, by rw [← hl1, reachP, hQ]; simpa using h1, by have := codeB_len hQ; omega⟩)
  have HG : Hid (∀ k, k < l → (reachP c).getD k false = rch c k) := Lib.hid (fun k hk => by
    have hq : codeB c = true := by
      rcases HL.out with ⟨h, _⟩ | ⟨_, h⟩
      · rw [hQ]; exact h
      · omega
    have h2 : k < c.length := by
      rw [reachP, hq] at hl1
      simp at hl1
      omega
    simp [reachP, hq, List.getD_eq_getElem?_getD, h2])
  clear k1 hb1 hbo hl1 hQ
  go_wp2_with fail
  go_loopw [4] (fun i wr => ∃ k : Nat, k ≤ l ∧ i = .int .i64 k ∧ Hid (Below w.heap.size w wr ∧ Below m1.heap.size m1 wr) ∧ Hid (fineK c len k = true)) (fun i _ => l - (intOf i).toNat)
  case atStart => exact ⟨0, by omega, rfl, Lib.hid ⟨HB.out, Below.refl _ _⟩, Lib.hid (by simp [fineK])⟩
  case round =>
    obtain ⟨k, hk, rfl, HW, HF⟩ := hrel
    have hk0 : (0 : Int) ≤ (k : Int) := Int.natCast_nonneg _
    by_cases hkl : k < l
    · have hkI : (k : Int) < (l : Int) := by omega
      have hqq : codeB c = true ∧ l = len := by
        rcases HL.out with ⟨h, h2, _⟩ | ⟨_, h⟩
        · exact ⟨by rw [HQ.out]; exact h, h2⟩
        · omega
      have k4 := rnext_any a len cap c (k : Int) wr (H.out.below HW.out.1)
      rw [show nextP c (k : Int) = castL (sucC c k) by rw [nextP, if_pos ⟨hqq.1, by omega, by rw [H1.out, ← hqq.2]; omega⟩]; rfl] at k4
      have HQ2 := Lib.hid hqq
      clear hqq
      go_wp2_with fail
      refine k4.mono ?_
      rintro e' m4 ⟨b4, l4, cp4, rfl, hb4, hI4, hlow⟩
      have HW4 : Hid (Below w.heap.size w m4 ∧ Below m1.heap.size m1 m4) := Lib.hid ⟨HW.out.1.trans (hb4.mono HW.out.1.size), HW.out.2.trans (hb4.mono HW.out.2.size)⟩
      have HN4 := Lib.hid hI4
      have HLs : Hid ((sucC c k).length = l4) := Lib.hid (by rw [← castL_len]; exact hI4.1)
      have hlm4 := hI4.max
      clear k4 hb4 hI4 hlow HW
      go_wp2_with fail
      go_loopw [6] (fun j wr3 => ∃ q : Nat, q ≤ l4 ∧ j = .int .i64 q ∧ Hid (Below w.heap.size w wr3 ∧ Below m1.heap.size m1 wr3) ∧ Hid (IntsAt wr3 b4 l4 cp4 (castL (sucC c k))) ∧ Hid (rch c k = true → ∀ t, t ∈ (sucC c k).take q → t < len)) (fun j _ => l4 - (intOf j).toNat)
      case atStart => exact ⟨0, by omega, rfl, HW4, HN4, Lib.hid (fun _ t ht => by simp at ht)⟩
      case round =>
        obtain ⟨q, hq, rfl, HW5, HN5, HS5⟩ := hrel
        clear HW4 HN4
        have hq0 : (0 : Int) ≤ (q : Int) := Int.natCast_nonneg _
        by_cases hql : q < l4
        · have hqI : (q : Int) < (l4 : Int) := by omega
          obtain ⟨y4, rfl, hy4⟩ := HN5.out.2.2.2.resolve_left (by omega)
          have hc4 := hy4 q hql
          rw [castL_getD] at hc4
          obtain ⟨t, ht⟩ : ∃ t, (sucC c k).getD q 0 = t := ⟨_, rfl⟩
          have hmem : t ∈ sucC c k := by rw [← ht]; exact getD_mem (sucC c k) q 0 (by rw [HLs.out]; exact hql)
          rw [ht] at hc4
          have HTq := Lib.hid ht
          have HMem := Lib.hid hmem
          have ht0 : (0 : Int) ≤ (t : Int) := Int.natCast_nonneg _
          clear hy4 ht hmem
          obtain ⟨y1, rfl, hy1⟩ := (HBo.out.below HW5.out.2).2.2.2.resolve_left (by omega)
          have hc1 := hy1 k hkl
          rw [HG.out k hkl] at hc1
          clear hy1
          obtain ⟨v, hv⟩ : ∃ v, rch c k = v := ⟨_, rfl⟩
          rw [hv] at hc1
          have HV := Lib.hid hv
          clear hv
          cases v
          · have HS6 : Hid (rch c k = true → ∀ t, t ∈ (sucC c k).take (q + 1) → t < len) := Lib.hid (fun h => by rw [HV.out] at h; cases h)
            go_wp2_with fail
            exact ⟨⟨q + 1, by omega, by go_num, HW5, HN5, HS6⟩, by simp [intOf]; omega⟩
          · by_cases htl : t < len
            · have htI : (t : Int) < (len : Int) := by omega
              have HS6 : Hid (rch c k = true → ∀ t, t ∈ (sucC c k).take (q + 1) → t < len) := Lib.hid (fun h x hx => by
                rw [take_getD (sucC c k) q 0 (by rw [HLs.out]; exact hql), HTq.out] at hx
                rcases List.mem_append.1 hx with hx | hx
                · exact HS5.out h x hx
                · obtain rfl : x = t := by simpa using hx
                  exact htl)
              go_wp2_with fail
              exact ⟨⟨q + 1, by omega, by go_num, HW5, HN5, HS6⟩, by simp [intOf]; omega⟩
            · have htI : ¬ (t : Int) < (len : Int) := by omega
              have hRf : Hid (R = false) := Lib.hid (by
                rw [← HT.out, fineP_eq H1.out, HQ2.out.1, Bool.true_and, Bool.eq_false_iff]
                intro h
                exact htl (fineK_of.1 h k (by rw [← HQ2.out.2]; exact hkl) HV.out t HMem.out))
              go_wp2_with fail
              go_ret
              exact ⟨by rw [hRf.out]; rfl, HW5.out.1⟩
        · have hqI : ¬ (q : Int) < (l4 : Int) := by omega
          have HF5 : Hid (fineK c len (k + 1) = true) := Lib.hid (fineK_of.2 (fun j hj hr t ht => by
            rcases Nat.lt_succ_iff_lt_or_eq.1 hj with hj | rfl
            · exact fineK_of.1 HF.out j hj hr t ht
            · exact HS5.out hr t (by rw [List.take_of_length_le (by rw [HLs.out]; omega)]; exact ht)))
          go_wp2_with fail
          exact ⟨⟨k + 1, by omega, by go_num, HW5, HF5⟩, by simp [intOf]; omega⟩
    · have hkI : ¬ (k : Int) < (l : Int) := by omega
      have hke : k = l := by omega
      have hRl : Hid (R = decide (0 < l)) := Lib.hid (by
        rw [← HT.out, fineP_eq H1.out, HQ.out]
        rcases HL.out with ⟨h, h2, h3⟩ | ⟨h, h2⟩
        · have hf := HF.out
          rw [hke, h2] at hf
          rw [h, h2, hf]
          simp
          omega
        · rw [h, h2]; simp)
      clear hke
      go_wp2_with fail
      go_ret
      exact ⟨by rw [hRl.out]; rfl, HW.out.1⟩
end Go.Proofs.YtdgfklmbglfbfaaDoor
