/-
  Wider bounds come to no less; and bounds of one word alone. Nothing of the program is run here.
-/
import Derived.Test.YtngeadbdjkjpcaaPl
namespace Go.Proofs.Ytngeadbdjkjpcaa

theorem inB_of {x y v : Int} (h : In x y v) : inB x y v = true := by
  unfold inB; rw [decide_eq_true h.1, decide_eq_true h.2]; rfl
theorem bitsZ_mono {m n : Int} (h0 : 0 ≤ m) (h : m ≤ n) (h1 : n ≤ 4294967295) : bitsZ m ≤ bitsZ n := by
  have e1 := (bitLen_eq m.toNat (by omega)).2 (Lib.bitLen n.toNat) (by have := (bitLen_eq n.toNat (by omega)).1; omega)
  have e2 : 2 ^ Lib.bitLen m.toNat ≤ 2 ^ Lib.bitLen n.toNat := Nat.pow_le_pow_right (by omega) e1
  unfold bitsZ
  omega
/-- Wider bounds come to no less. -/
theorem alu_wide (k : Nat) (hk : k ≤ 8) (h5 : k ≠ 5) (a b c d a' b' c' d' : Int) (h : W a b) (h' : W c d) (k1 : W a' b') (k2 : W c' d')
    (e1 : a' ≤ a) (e2 : b ≤ b') (e3 : c' ≤ c) (e4 : d ≤ d') :
    In (aluL k a' b' c' d') (aluH k a' b' c' d') (aluL k a b c d) ∧ In (aluL k a' b' c' d') (aluH k a' b' c' d') (aluH k a b c d) := by
  obtain ⟨n1, n2, n3⟩ := W_alu k a b c d
  by_cases ok : okB (aluX k a' b' c' d') (aluY k a' b' c' d') = true
  · obtain ⟨w1, w2, w3⟩ := W_of ok
    obtain ⟨h1, h2, h3⟩ := h
    obtain ⟨h4, h5', h6⟩ := h'
    obtain ⟨p1, p2, p3⟩ := k1
    obtain ⟨p4, p5, p6⟩ := k2
    have key : 0 ≤ aluX k a b c d ∧ aluX k a b c d ≤ aluY k a b c d ∧ aluX k a' b' c' d' ≤ aluX k a b c d ∧ aluY k a b c d ≤ aluY k a' b' c' d' := by
      match k, hk, h5 with
      | 0, _, _ => simp only [aluX, aluY] at *; omega
      | 1, _, _ => simp only [aluX, aluY] at *; omega
      | 2, _, _ => simp only [aluX, aluY] at *; omega
      | 3, _, _ =>
        simp only [aluX, aluY] at *
        have q1 := mul_mono p1 p4 e1 e3
        have q2 := mul_mono h1 h4 h2 h5'
        have q3 := mul_mono (show 0 ≤ b by omega) (show 0 ≤ d by omega) e2 e4
        have q4 := Int.mul_nonneg h1 h4
        omega
      | 4, _, _ =>
        simp only [aluX, aluY] at *
        unfold divX divY
        by_cases hc : c = 0
        · have hc' : c' = 0 := by omega
          rw [if_pos hc, if_pos hc, if_pos hc', if_pos hc']; omega
        · rw [if_neg hc, if_neg hc, doI_div _ _ h1 (by omega), doI_div _ _ (by omega) h4]
          have q1 := div_nonneg' h1 (show 0 ≤ d by omega)
          have q2 := div_mono h1 h2 (show 0 < c by omega) h5'
          by_cases hc' : c' = 0
          · rw [if_pos hc', if_pos hc']
            have q3 := div_le_self' (show 0 ≤ b by omega) h4
            omega
          · rw [if_neg hc', if_neg hc', doI_div _ _ p1 (by omega), doI_div _ _ (by omega) p4]
            have q3 := div_mono p1 e1 (show 0 < d by omega) e4
            have q4 := div_mono (show 0 ≤ b by omega) e2 (show 0 < c' by omega) e3
            omega
      | 6, _, _ => simp only [aluX, aluY] at *; omega
      | 7, _, _ =>
        simp only [aluX, aluY] at *
        have q1 := bitsZ_mono (show 0 ≤ max b d by omega) (show max b d ≤ max b' d' by omega) (by omega)
        have q2 := bitsZ_word (max b d) (by omega) (by omega)
        omega
      | 8, _, _ =>
        simp only [aluX, aluY] at *
        have q1 := bitsZ_mono (show 0 ≤ max b d by omega) (show max b d ≤ max b' d' by omega) (by omega)
        have q2 := bitsZ_word (max b d) (by omega) (by omega)
        omega
    obtain ⟨r1, r2, r3, r4⟩ := key
    have ok2 : okB (aluX k a b c d) (aluY k a b c d) = true := okB_true r1 r2 (by omega)
    unfold In aluL aluH orX orY
    rw [ok, ok2]
    simp only [if_true]
    omega
  · have ok' : okB (aluX k a' b' c' d') (aluY k a' b' c' d') = false := by simpa using ok
    have u1 : aluL k a' b' c' d' = 0 := by unfold aluL orX; rw [ok']; rfl
    have u2 : aluH k a' b' c' d' = 4294967295 := by unfold aluH orY; rw [ok']; rfl
    unfold In
    rw [u1, u2]
    omega
/-- Bounds of one word alone, moved, shifted lower, or divided. -/
theorem one_exact (k : Nat) (x y : Int) (hx : 0 ≤ x) (hx1 : x ≤ 4294967295) (hy : 0 ≤ y) (hy1 : y ≤ 4294967295) (hk : k = 0 ∨ k = 10 ∨ (k = 4 ∧ 0 < y)) :
    aluL k x x y y = doI k x y ∧ aluH k x x y y = doI k x y := by
  have g0 := doI_ge k x y
  have g1 := doI_le k x y hx1 hy1
  have key : aluX k x x y y = doI k x y ∧ aluY k x x y y = doI k x y := by
    rcases hk with rfl | rfl | ⟨rfl, h⟩
    · obtain ⟨m, rfl⟩ := nat_of hx
      obtain ⟨n, rfl⟩ := nat_of hy
      simp only [aluX, aluY]
      rw [show ((0 : Nat) : Int) = 0 from rfl, doI0]; exact ⟨rfl, rfl⟩
    · obtain ⟨m, rfl⟩ := nat_of hx
      obtain ⟨n, rfl⟩ := nat_of hy
      simp only [aluX, aluY, shrX, shrY, if_true]
      have e : doI 4 (m : Int) (pwZ n) = doI ((10 : Nat) : Int) m n := by
        rw [show ((10 : Nat) : Int) = 10 from rfl, doI10]
        unfold pwZ
        rw [show ((n : Int)).toNat = n from rfl, doI4]
      rw [e]; exact ⟨rfl, rfl⟩
    · simp only [aluX, aluY, divX, divY, if_neg (show ¬ y = 0 by omega)]
      exact ⟨rfl, rfl⟩
  unfold aluL aluH orX orY
  rw [key.1, key.2, okB_true g0 (Int.le_refl _) g1]
  exact ⟨rfl, rfl⟩
theorem one_ne (x y : Int) (hx : 0 ≤ x) (hx1 : x ≤ 4294967295) : cutB 2 x x y y = decide (x ≠ y) := by
  show okB (neX x y y) (neY x x y y) = decide (x ≠ y)
  unfold neX neY
  by_cases h : y = x
  · subst h
    have : okB (y + 1) y = false := by simp [okB]; intros; omega
    simp [this]
  · rw [if_neg (fun q => h q.2), if_neg (fun q => h q.2.2), okB_true hx (Int.le_refl _) hx1]
    have : x ≠ y := fun e => h e.symm
    simp [this]
theorem one_eq (x y : Int) (hx : 0 ≤ x) (hx1 : x ≤ 4294967295) : cutB 1 x x y y = decide (x = y) := by
  show okB (max x y) (min x y) = decide (x = y)
  by_cases h : x = y
  · subst h
    rw [show max x x = x by omega, show min x x = x by omega, okB_true hx (Int.le_refl _) hx1, decide_eq_true rfl]
  · rw [decide_eq_false h]
    have : ¬ (max x y ≤ min x y) := by omega
    simp only [okB, decide_eq_false this, Bool.and_false]
theorem one_eqL (x : Int) (hx : 0 ≤ x) (hx1 : x ≤ 4294967295) : cutL 1 x x x x = x ∧ cutH 1 x x x x = x := by
  show orX (max x x) (min x x) = x ∧ orY (max x x) (min x x) = x
  unfold orX orY
  rw [show max x x = x by omega, show min x x = x by omega, okB_true hx (Int.le_refl _) hx1]
  exact ⟨rfl, rfl⟩
end Go.Proofs.Ytngeadbdjkjpcaa
