/-
  Which tables the package holds valid: its way to say it is that of the document.
-/
import Derived.Test.YtmlmdhnjafakiaaU2
namespace Go.Proofs.Ytmlmdhnjafakiaa
open Go Go.RowKit
set_option linter.unusedVariables false

def kindB (t : Tb) : Bool :=
  if t.1.1 = 0 then decide (t.2.2 = 0) && (decide ((t.2.1.length : Int) = t.1.2.1) && allB t.2.1 (consP t.2.1 0))
  else if t.1.1 = 3 then allB t.2.1 (consP t.2.1 ((t.2.2 - (t.2.1.length : Int)) % 4294967296))
  else decide (t.2.2 = 0) && allB t.2.1 (distP t.2.1)
def mayB (t : Tb) : Bool := mayT t.1 && (decide ((t.2.1.length : Int) ≤ t.1.2.1) && (haveB t.2.1 t.1.2.2.1 && kindB t))
theorem consP_iff {es : List Ent} {f : Int} {k : Nat} : consP es f k = true ↔ (es.getD k zeroE).1 = (f + (k : Int)) % 4294967296 := by simp [consP]
theorem distP_iff {es : List Ent} {k : Nat} : distP es k = true ↔ atE es (es.getD k zeroE).1 = some k := by simp [distP]
theorem allB_iff {es : List Ent} {p : Nat → Bool} : allB es p = true ↔ ∀ k, k < es.length → p k = true := ⟨fun h k hk => allB_at h hk, allB_yes⟩
theorem haveB_iff {es : List Ent} {n : Int} : haveB es n = true ↔ ∀ k, k < es.length → ((es.getD k zeroE).2.length : Int) = n := ⟨fun h k hk => haveB_at h hk, haveB_yes⟩
theorem mayTb_iff {t : Tb} : mayTb t = true ↔ headB t = true ∧ ∀ i, i < t.2.1.length → entB t i = true := ⟨fun h => ⟨mayTb_head h, fun _ hi => mayTb_ent h hi⟩, fun h => mayTb_mk h.1 h.2⟩
theorem mayB_eq {t : Tb} (hok : okT t) : mayB t = mayTb t := by
  rcases t with ⟨⟨k, c, n, v⟩, es, x⟩
  obtain ⟨hE, hX0, hX1⟩ := hok
  simp only at hE hX0 hX1
  rw [Bool.eq_iff_iff, mayTb_iff]
  simp only [mayB, Bool.and_eq_true, decide_eq_true_iff, haveB_iff, headB_iff, entB_iff]
  constructor
  · rintro ⟨h1, h2, h3, h4⟩
    have h1' := h1
    simp only [mayT] at h1'
    rw [mayS_iff] at h1'
    unfold kindB at h4
    simp only at h4
    by_cases hk0 : k = 0
    · rw [if_pos hk0] at h4
      simp only [Bool.and_eq_true, decide_eq_true_iff, allB_iff, consP_iff] at h4
      obtain ⟨h5, h6, h7⟩ := h4
      have h8 : ∀ i, i < es.length → (es.getD i zeroE).1 = (i : Int) := fun i hi => by rw [h7 i hi]; omega
      refine ⟨⟨h1, h2, .inr h5, .inr (by omega)⟩, fun i hi => ⟨h3 i hi, atE_is hi rfl (fun j hj => by rw [h8 j (by omega), h8 i hi]; omega), .inr (h8 i hi), .inl (by omega)⟩⟩
    · rw [if_neg hk0] at h4
      by_cases hk3 : k = 3
      · rw [if_pos hk3] at h4
        simp only [allB_iff, consP_iff] at h4
        refine ⟨⟨h1, h2, .inl hk3, .inl hk0⟩, fun i hi => ⟨h3 i hi, atE_is hi rfl (fun j hj => by rw [h4 j (by omega), h4 i hi]; omega), .inl hk0, .inr (by rw [h4 i hi]; omega)⟩⟩
      · rw [if_neg hk3] at h4
        simp only [Bool.and_eq_true, decide_eq_true_iff, allB_iff, distP_iff] at h4
        exact ⟨⟨h1, h2, .inr h4.1, .inl hk0⟩, fun i hi => ⟨h3 i hi, h4.2 i hi, .inl hk0, .inl hk3⟩⟩
  · rintro ⟨⟨h1, h2, h3, h4⟩, h5⟩
    have h1' := h1
    simp only [mayT] at h1'
    rw [mayS_iff] at h1'
    refine ⟨h1, h2, fun i hi => (h5 i hi).1, ?_⟩
    unfold kindB
    simp only
    by_cases hk0 : k = 0
    · rw [if_pos hk0]
      simp only [Bool.and_eq_true, decide_eq_true_iff, allB_iff, consP_iff]
      refine ⟨by omega, by omega, fun i hi => ?_⟩
      have := (h5 i hi).2.2.1
      omega
    · rw [if_neg hk0]
      by_cases hk3 : k = 3
      · rw [if_pos hk3]
        simp only [allB_iff, consP_iff]
        intro i hi
        have h6 := (h5 i hi).2.2.2
        have h7 := (okE_getD hE i).1
        unfold isW at h7
        omega
      · rw [if_neg hk3]
        simp only [Bool.and_eq_true, decide_eq_true_iff, allB_iff, distP_iff]
        exact ⟨by omega, fun i hi => (h5 i hi).2.1⟩
end Go.Proofs.Ytmlmdhnjafakiaa
