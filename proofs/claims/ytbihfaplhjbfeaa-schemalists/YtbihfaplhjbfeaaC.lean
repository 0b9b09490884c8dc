/-
  What package schema's Step and the reference's Step return, as contracts over the translated program.
-/
import Derived.Test.YtbihfaplhjbfeaaB
namespace Go.Proofs.Ytbihfaplhjbfeaa
open Go.RowKit

theorem step_other {k c n v k' c' n' v' : Int} (h : mayS k c n v = false ∨ mayS k' c' n' v' = false) : stepS k c n v k' c' n' v' = 2 := by
  rw [stepS, if_neg]
  rintro ⟨h1, h2⟩
  rcases h with h | h
  · rw [h] at h1
    cases h1
  · rw [h] at h2
    cases h2
theorem step_same {k c n v k' c' n' v' : Int} (h1 : mayS k c n v = true) (h2 : mayS k' c' n' v' = true) (h : scEq k c n v k' c' n' v' = true) : stepS k c n v k' c' n' v' = 0 := by
  rw [stepS, if_pos ⟨h1, h2⟩, if_pos h]
theorem step_grown {k c n v k' c' n' v' : Int} (h1 : mayS k c n v = true) (h2 : mayS k' c' n' v' = true) (h : scEq k c n v k' c' n' v' = false) (hk : k = k') (hv : v' = v + 1) : stepS k c n v k' c' n' v' = 1 := by
  rw [stepS, if_pos ⟨h1, h2⟩, if_neg (by rw [h]; exact Bool.false_ne_true), if_pos ⟨hk, hv⟩]
theorem step_kind {k c n v k' c' n' v' : Int} (h : scEq k c n v k' c' n' v' = false) (hk : ¬ (k = k' ∧ v' = v + 1)) : stepS k c n v k' c' n' v' = 2 := by
  rw [stepS, if_neg (c := scEq k c n v k' c' n' v' = true) (by rw [h]; exact Bool.false_ne_true), if_neg hk]
  split <;> rfl

set_option maxHeartbeats 2000000 in
theorem step_any (k c n v k' c' n' v' : Int) (w : World) :
    Calls Try.prog 20 #[scV k c n v, scV k' c' n' v'] w fun e w' => e = .returned (.int .i64 (stepS k c n v k' c' n' v')) ∧ Below w.heap.size w w' := by
  have hg : Below w.heap.size w ((w.alloc (scO k c n v)).alloc (scO k' c' n' v')) := box2 (Below.refl _ _) (Nat.le_refl _) _ _
  have HA := Lib.hid (scAt_old (scAt_new w k c n v) (scO k' c' n' v'))
  have HB := Lib.hid (scAt_two w k' c' n' v' (scO k c n v))
  go_enter Try.func20, Try.ntmps20
  go_wp2_with fail
  refine (may_any _ _ _ _ _).mono ?_
  rintro e w1 ⟨rfl, hg1⟩
  replace HA := Lib.hid (HA.out.later hg1)
  replace HB := Lib.hid (HB.out.later hg1)
  replace hg := hg.trans (hg1.mono hg.size)
  clear hg1
  obtain ⟨c0, c1, c2, c3⟩ := HB.out
  rcases hM : mayS k c n v with _ | _
  · have HR := Lib.hid (step_other (k' := k') (c' := c') (n' := n') (v' := v') (.inl hM))
    go_wp2
    go_ret
    exact ⟨by rw [HR.out]; rfl, hg⟩
  go_wp2_with fail
  refine (may_any _ _ _ _ _).mono ?_
  rintro e w2 ⟨rfl, hg1⟩
  replace HA := Lib.hid (HA.out.later hg1)
  replace HB := Lib.hid (HB.out.later hg1)
  replace hg := hg.trans (hg1.mono hg.size)
  clear hg1 c0 c1 c2 c3
  rcases hM' : mayS k' c' n' v' with _ | _
  · have HR := Lib.hid (step_other (k := k) (c := c) (n := n) (v := v) (.inr hM'))
    go_wp2
    go_ret
    exact ⟨by rw [HR.out]; rfl, hg⟩
  obtain ⟨c0, c1, c2, c3⟩ := HA.out
  obtain ⟨d0, d1, d2, d3⟩ := HB.out
  have heq := eql_sc k c n v k' c' n' v'
  have hgd := guardS
  have hP := mayS_iff.1 hM
  have hw := wI (v + 1) (by omega) (by omega)
  have hv0 : 0 ≤ v ∧ v ≤ 1000 := by omega
  clear hP
  rcases hE : scEq k c n v k' c' n' v' with _ | _
  · by_cases hk : k = k'
    · by_cases hv : v' = v + 1
      · have HR := Lib.hid (step_grown hM hM' hE hk hv)
        have hk1 : (k == k') = true := by simpa using hk
        have hv1 : (v' == v + 1) = true := by simpa using hv
        clear hk hv
        go_wp2
        go_ret
        exact ⟨by rw [HR.out]; rfl, hg⟩
      · have HR := Lib.hid (step_kind hE (fun h => hv h.2))
        have hk1 : (k == k') = true := by simpa using hk
        have hv1 : (v' == v + 1) = false := by simpa using hv
        clear hk hv
        go_wp2
        go_ret
        exact ⟨by rw [HR.out]; rfl, hg⟩
    · have HR := Lib.hid (step_kind hE (fun h => hk h.1))
      have hk1 : (k == k') = false := by simpa using hk
      clear hk
      go_wp2
      go_ret
      exact ⟨by rw [HR.out]; rfl, hg⟩
  · have HR := Lib.hid (step_same hM hM' hE)
    go_wp2
    go_ret
    exact ⟨by rw [HR.out]; rfl, hg⟩
set_option maxHeartbeats 2000000 in
theorem rstep_any (k c n v k' c' n' v' : Int) (w : World) :
    Calls Try.prog 21 #[scV k c n v, scV k' c' n' v'] w fun e w' => e = .returned (.int .i64 (stepS k c n v k' c' n' v')) ∧ Below w.heap.size w w' := by
  have hg : Below w.heap.size w ((w.alloc (scO k c n v)).alloc (scO k' c' n' v')) := box2 (Below.refl _ _) (Nat.le_refl _) _ _
  have HA := Lib.hid (scAt_old (scAt_new w k c n v) (scO k' c' n' v'))
  have HB := Lib.hid (scAt_two w k' c' n' v' (scO k c n v))
  go_enter Try.func21, Try.ntmps21
  go_wp2_with fail
  refine (rmay_any _ _ _ _ _).mono ?_
  rintro e w1 ⟨rfl, hg1⟩
  replace HA := Lib.hid (HA.out.later hg1)
  replace HB := Lib.hid (HB.out.later hg1)
  replace hg := hg.trans (hg1.mono hg.size)
  clear hg1
  obtain ⟨c0, c1, c2, c3⟩ := HB.out
  go_wp2_with fail
  refine (rmay_any _ _ _ _ _).mono ?_
  rintro e w2 ⟨rfl, hg1⟩
  replace HA := Lib.hid (HA.out.later hg1)
  replace HB := Lib.hid (HB.out.later hg1)
  replace hg := hg.trans (hg1.mono hg.size)
  clear hg1 c0 c1 c2 c3
  rcases hM : mayS k c n v with _ | _
  · have HR := Lib.hid (step_other (k' := k') (c' := c') (n' := n') (v' := v') (.inl hM))
    go_wp2
    go_ret
    exact ⟨by rw [HR.out]; rfl, hg⟩
  rcases hM' : mayS k' c' n' v' with _ | _
  · have HR := Lib.hid (step_other (k := k) (c := c) (n := n) (v := v) (.inr hM'))
    go_wp2
    go_ret
    exact ⟨by rw [HR.out]; rfl, hg⟩
  obtain ⟨c0, c1, c2, c3⟩ := HA.out
  obtain ⟨d0, d1, d2, d3⟩ := HB.out
  have heq := eql_sc k c n v k' c' n' v'
  have hgd := guardS
  have hP := mayS_iff.1 hM
  have hP' := mayS_iff.1 hM'
  have hw : IntKind.i64.wrap (v' - v) = v' - v := by simp [IntKind.wrap, IntKind.bits, IntKind.signed]; omega
  have hv0 : 0 ≤ v ∧ v ≤ 1000 ∧ 0 ≤ v' ∧ v' ≤ 1000 := by omega
  clear hP hP'
  rcases hE : scEq k c n v k' c' n' v' with _ | _
  · by_cases hk : k = k'
    · by_cases hv : v' = v + 1
      · have HR := Lib.hid (step_grown hM hM' hE hk hv)
        have hk1 : (k == k') = true := by simpa using hk
        have hv1 : (v' - v == 1) = true := by simp; omega
        clear hk hv
        go_wp2
        go_ret
        exact ⟨by rw [HR.out]; rfl, hg⟩
      · have HR := Lib.hid (step_kind hE (fun h => hv h.2))
        have hk1 : (k == k') = true := by simpa using hk
        have hv1 : (v' - v == 1) = false := by simp; omega
        clear hk hv
        go_wp2
        go_ret
        exact ⟨by rw [HR.out]; rfl, hg⟩
    · have HR := Lib.hid (step_kind hE (fun h => hk h.1))
      have hk1 : (k == k') = false := by simpa using hk
      clear hk
      go_wp2
      go_ret
      exact ⟨by rw [HR.out]; rfl, hg⟩
  · have HR := Lib.hid (step_same hM hM' hE)
    go_wp2
    go_ret
    exact ⟨by rw [HR.out]; rfl, hg⟩
end Go.Proofs.Ytbihfaplhjbfeaa
