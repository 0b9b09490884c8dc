/-
  Bounds as pairs of integers, and what holds of them: what two words come to is within what their bounds come to, what is cut keeps the words that stand so, and wider bounds come to no less. Nothing of the program is run here.
-/
import Derived.Test.YtngeadbdjkjpcaaF
namespace Go.Proofs.Ytngeadbdjkjpcaa

def aluL (k : Nat) (a b c d : Int) : Int := orX (aluX k a b c d) (aluY k a b c d)
def aluH (k : Nat) (a b c d : Int) : Int := orY (aluX k a b c d) (aluY k a b c d)
theorem W_alu (k : Nat) (a b c d : Int) : W (aluL k a b c d) (aluH k a b c d) := W_or _ _
/-- A word that is within valid parts is within what 'orAll' makes of them; any word is within all. -/
theorem in_or {x y v : Int} (h0 : 0 ≤ v) (h1 : v ≤ 4294967295) (h : okB x y = true → x ≤ v ∧ v ≤ y) : orX x y ≤ v ∧ v ≤ orY x y := by
  unfold orX orY
  cases e : okB x y with
  | true => exact h e
  | false => exact ⟨h0, h1⟩
def In (x y v : Int) : Prop := x ≤ v ∧ v ≤ y
theorem nat_of {v : Int} (h : 0 ≤ v) : ∃ n : Nat, v = n := ⟨v.toNat, by omega⟩
theorem or_le_bits (m n : Nat) (b d : Nat) (hm : m ≤ b) (hn : n ≤ d) (hb : b < 4294967296) (hd : d < 4294967296) : m < 2 ^ Lib.bitLen (max b d) ∧ n < 2 ^ Lib.bitLen (max b d) := by
  have := (bitLen_eq (max b d) (by omega)).1
  omega
theorem bits_cast (b d : Nat) : bitsZ (max (b : Int) (d : Int)) = ((2 ^ Lib.bitLen (max b d) - 1 : Nat) : Int) := by
  unfold bitsZ
  have : (max (b : Int) (d : Int)).toNat = max b d := by omega
  rw [this]
theorem doI_div (x y : Int) (hx : 0 ≤ x) (hy : 0 ≤ y) : doI 4 x y = x / y := by
  obtain ⟨m, rfl⟩ := nat_of hx
  obtain ⟨n, rfl⟩ := nat_of hy
  rw [doI4]; exact Int.natCast_ediv m n
theorem div_mono {x y u v : Int} (hx : 0 ≤ x) (hxy : x ≤ y) (hu : 0 < u) (huv : u ≤ v) : x / v ≤ y / u := by
  have h1 : x / v ≤ y / v := Int.ediv_le_ediv (by omega) hxy
  have h2 : y / v ≤ y / u := by
    refine (Int.le_ediv_iff_mul_le hu).2 ?_
    have h3 : y / v * v ≤ y := Int.ediv_mul_le _ (by omega)
    have h4 : 0 ≤ y / v := Int.ediv_nonneg (by omega) (by omega)
    have h5 := Int.mul_le_mul_of_nonneg_left huv h4
    omega
  omega
theorem div_le_self' {x u : Int} (hx : 0 ≤ x) (hu : 0 ≤ u) : x / u ≤ x := by
  obtain ⟨m, rfl⟩ := nat_of hx
  obtain ⟨n, rfl⟩ := nat_of hu
  rw [← Int.natCast_ediv]
  have := Nat.div_le_self m n
  omega
theorem div_nonneg' {x u : Int} (hx : 0 ≤ x) (hu : 0 ≤ u) : 0 ≤ x / u := Int.ediv_nonneg hx hu
theorem mul_mono {a x c y : Int} (ha : 0 ≤ a) (hc : 0 ≤ c) (h1 : a ≤ x) (h2 : c ≤ y) : a * c ≤ x * y := Int.mul_le_mul h1 h2 hc (by omega)
/-- What two words come to is within what their bounds come to. -/
theorem alu_holds (k : Nat) (hk : k ≤ 10) (a b c d x y : Int) (h : W a b) (h' : W c d) (hx : In a b x) (hy : In c d y) : In (aluL k a b c d) (aluH k a b c d) (doI k x y) := by
  obtain ⟨h1, h2, h3⟩ := h
  obtain ⟨h4, h5, h6⟩ := h'
  obtain ⟨x1, x2⟩ := hx
  obtain ⟨y1, y2⟩ := hy
  have g0 := doI_ge k x y
  have g1 := doI_le k x y (by omega) (by omega)
  refine in_or g0 g1 (fun ok => ?_)
  obtain ⟨w1, w2, w3⟩ := W_of ok
  obtain ⟨m, rfl⟩ := nat_of (show 0 ≤ x by omega)
  obtain ⟨n, rfl⟩ := nat_of (show 0 ≤ y by omega)
  match k, hk with
  | 0, _ => simp only [aluX, aluY] at *; rw [show ((0 : Nat) : Int) = 0 from rfl, doI0]; omega
  | 1, _ =>
    simp only [aluX, aluY] at *; rw [show ((1 : Nat) : Int) = 1 from rfl, doI1]; omega
  | 2, _ =>
    simp only [aluX, aluY] at *; rw [show ((2 : Nat) : Int) = 2 from rfl, doI2]; omega
  | 3, _ =>
    simp only [aluX, aluY] at *; rw [show ((3 : Nat) : Int) = 3 from rfl, doI3]
    have e1 := mul_mono h1 h4 x1 y1
    have e2 := mul_mono (by omega) (by omega) x2 y2
    have e3 : ((m * n % 4294967296 : Nat) : Int) = (m : Int) * (n : Int) := by
      have : m * n < 4294967296 := by
        have : ((m * n : Nat) : Int) = (m : Int) * n := Int.natCast_mul m n
        omega
      rw [Nat.mod_eq_of_lt this]; exact Int.natCast_mul m n
    rw [e3]; omega
  | 4, _ =>
    simp only [aluX, aluY] at *; rw [show ((4 : Nat) : Int) = 4 from rfl, doI_div _ _ (by omega) (by omega)]
    unfold divX divY at *
    by_cases hc : c = 0
    · rw [if_pos hc, if_pos hc]
      exact ⟨div_nonneg' (by omega) (by omega), Int.le_trans (div_le_self' (by omega) (by omega)) x2⟩
    · rw [if_neg hc, if_neg hc, doI_div _ _ h1 (by omega), doI_div _ _ (by omega) h4]
      exact ⟨div_mono h1 x1 (by omega) y2, div_mono (by omega) x2 (by omega) y1⟩
  | 5, _ =>
    simp only [aluX, aluY] at *; rw [show ((5 : Nat) : Int) = 5 from rfl, doI5]
    unfold modX modY at *
    have e1 := Nat.mod_le m n
    by_cases hb : b < c
    · rw [if_pos hb, if_pos hb]
      rw [Nat.mod_eq_of_lt (by omega)]; omega
    · rw [if_neg hb, if_neg hb]
      by_cases hc : c = 0
      · rw [if_pos hc]; omega
      · rw [if_neg hc]
        have e2 := Nat.mod_lt m (show n > 0 by omega)
        omega
  | 6, _ =>
    simp only [aluX, aluY] at *; rw [show ((6 : Nat) : Int) = 6 from rfl, doI6]
    have e1 : m &&& n ≤ m := Nat.and_le_left
    have e2 : m &&& n ≤ n := Nat.and_le_right
    omega
  | 7, _ =>
    simp only [aluX, aluY] at *; rw [show ((7 : Nat) : Int) = 7 from rfl, doI7]
    obtain ⟨bb, rfl⟩ := nat_of (show 0 ≤ b by omega)
    obtain ⟨dd, rfl⟩ := nat_of (show 0 ≤ d by omega)
    have e1 : m ≤ m ||| n := Nat.left_le_or
    have e2 : n ≤ m ||| n := Nat.right_le_or
    obtain ⟨l1, l2⟩ := or_le_bits m n bb dd (by omega) (by omega) (by omega) (by omega)
    have e3 := Nat.or_lt_two_pow l1 l2
    rw [bits_cast]
    omega
  | 8, _ =>
    simp only [aluX, aluY] at *; rw [show ((8 : Nat) : Int) = 8 from rfl, doI8]
    obtain ⟨bb, rfl⟩ := nat_of (show 0 ≤ b by omega)
    obtain ⟨dd, rfl⟩ := nat_of (show 0 ≤ d by omega)
    obtain ⟨l1, l2⟩ := or_le_bits m n bb dd (by omega) (by omega) (by omega) (by omega)
    have e3 := Nat.xor_lt_two_pow l1 l2
    rw [bits_cast]
    omega
  | 9, _ =>
    simp only [aluX, aluY] at *; rw [show ((9 : Nat) : Int) = 9 from rfl, doI9]
    unfold shlX shlY at *
    by_cases hc : c = d
    · simp only [if_pos hc] at *
      have en : (n : Int) = c := by omega
      have ep : pwZ c = ((2 ^ (n % 32) : Nat) : Int) := by unfold pwZ; rw [← en]; rfl
      simp only [ep] at w1 w2 w3 ⊢
      have hp := Nat.two_pow_pos (n % 32)
      generalize 2 ^ (n % 32) = p at *
      have e1 := mul_mono h1 (show (0 : Int) ≤ p by omega) x1 (Int.le_refl _)
      have e2 := mul_mono (show (0 : Int) ≤ m by omega) (show (0 : Int) ≤ p by omega) x2 (Int.le_refl _)
      have e3 : ((m * p % 4294967296 : Nat) : Int) = (m : Int) * (p : Int) := by
        have : m * p < 4294967296 := by
          have : ((m * p : Nat) : Int) = (m : Int) * p := Int.natCast_mul m p
          omega
        rw [Nat.mod_eq_of_lt this]; exact Int.natCast_mul m p
      rw [e3]; exact ⟨e1, e2⟩
    · simp only [if_neg hc] at *
      omega
  | 10, _ =>
    simp only [aluX, aluY] at *; rw [show ((10 : Nat) : Int) = 10 from rfl, doI10]
    unfold shrX shrY at *
    have hp := Nat.two_pow_pos (n % 32)
    by_cases hc : c = d
    · rw [if_pos hc, if_pos hc]
      have en : (n : Int) = c := by omega
      have ep : pwZ c = ((2 ^ (n % 32) : Nat) : Int) := by unfold pwZ; rw [← en]; rfl
      rw [ep, doI_div _ _ h1 (by omega), doI_div _ _ (by omega) (by omega), Int.natCast_ediv]
      generalize 2 ^ (n % 32) = p at *
      exact ⟨div_mono h1 x1 (by omega) (Int.le_refl _), div_mono (by omega) x2 (by omega) (Int.le_refl _)⟩
    · rw [if_neg hc, if_neg hc]
      have e1 := Nat.div_le_self m (2 ^ (n % 32))
      generalize m / 2 ^ (n % 32) = q at *
      omega
def cutL (k : Nat) (a b c d : Int) : Int := orX (cutX k a b c d) (cutY k a b c d)
def cutH (k : Nat) (a b c d : Int) : Int := orY (cutX k a b c d) (cutY k a b c d)
def cutB (k : Nat) (a b c d : Int) : Bool := okB (cutX k a b c d) (cutY k a b c d)
theorem okB_true {x y : Int} (h0 : 0 ≤ x) (h1 : x ≤ y) (h2 : y ≤ 4294967295) : okB x y = true := okB_of ⟨h0, h1, h2⟩
/-- A word that stands so to another one is within what is cut, and some is. -/
theorem cut_holds (k : Nat) (hk : k ≤ 4) (a b c d x y : Int) (h : W a b) (h' : W c d) (hx : In a b x) (hy : In c d y) (is : holdsB k x y = true) :
    cutB k a b c d = true ∧ In (cutL k a b c d) (cutH k a b c d) x := by
  obtain ⟨h1, h2, h3⟩ := h
  obtain ⟨h4, h5, h6⟩ := h'
  obtain ⟨x1, x2⟩ := hx
  obtain ⟨y1, y2⟩ := hy
  have key : cutX k a b c d ≤ x ∧ x ≤ cutY k a b c d ∧ 0 ≤ cutX k a b c d ∧ cutY k a b c d ≤ 4294967295 := by
    match k, hk with
    | 0, _ => simp only [cutX, cutY]; omega
    | 1, _ => simp [holdsB] at is; simp only [cutX, cutY]; omega
    | 2, _ =>
      simp [holdsB] at is; simp only [cutX, cutY, neX, neY]
      refine ⟨?_, ?_, ?_, ?_⟩
      · split <;> omega
      · split <;> omega
      · split <;> omega
      · split <;> omega
    | 3, _ => simp [holdsB] at is; simp only [cutX, cutY]; omega
    | 4, _ => simp [holdsB] at is; simp only [cutX, cutY]; omega
  obtain ⟨k1, k2, k3, k4⟩ := key
  have ok : okB (cutX k a b c d) (cutY k a b c d) = true := okB_true k3 (by omega) k4
  refine ⟨ok, ?_⟩
  unfold In cutL cutH orX orY
  rw [ok]; exact ⟨k1, k2⟩
/-- What is cut is within the bounds. -/
theorem cut_within (k : Nat) (hk : k ≤ 4) (a b c d : Int) (h : W a b) (h' : W c d) (some : cutB k a b c d = true) : In a b (cutL k a b c d) ∧ In a b (cutH k a b c d) := by
  obtain ⟨h1, h2, h3⟩ := h
  obtain ⟨h4, h5, h6⟩ := h'
  obtain ⟨w1, w2, w3⟩ := W_of some
  have key : a ≤ cutX k a b c d ∧ cutY k a b c d ≤ b := by
    match k, hk with
    | 0, _ => simp only [cutX, cutY]; omega
    | 1, _ => simp only [cutX, cutY]; omega
    | 2, _ =>
      simp only [cutX, cutY, neX, neY]
      refine ⟨?_, ?_⟩
      · split <;> omega
      · split <;> omega
    | 3, _ => simp only [cutX, cutY]; omega
    | 4, _ => simp only [cutX, cutY]; omega
  unfold In cutL cutH orX orY
  unfold cutB at some
  rw [some]
  simp only [if_true]
  omega
end Go.Proofs.Ytngeadbdjkjpcaa
