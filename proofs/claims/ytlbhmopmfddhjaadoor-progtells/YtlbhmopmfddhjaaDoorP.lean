/-
  The encoding in plain numbers: different valid instructions have different bytes; an encoding is decoded to its instruction; what is decoded from bytes is encoded as these bytes.
-/
import Derived.Test.YtlbhmopmfddhjaaDoorC
namespace Go.Proofs.YtlbhmopmfddhjaaDoor

/- the second byte -/
def sec (d s : Int) (r : Bool) : Int := if r then 8 * d + s + 128 else 8 * d + s
theorem encL_sec (o f d s : Int) (r : Bool) (x m : Int) : encL o f d s r x m = [16 * o + f, sec d s r, x / 256, x % 256, m / 16777216, m / 65536 % 256, m / 256 % 256, m % 256] := rfl
theorem dec_enc {o f d s : Int} {r : Bool} {x m : Int} (h : refP o f d s r x m) :
    (16 * o + f) / 16 = o ∧ (16 * o + f) % 16 = f ∧ sec d s r % 128 / 8 = d ∧ sec d s r % 8 = s ∧ decide (128 ≤ sec d s r) = r ∧ x / 256 * 256 + x % 256 = x ∧
      ((m / 16777216 * 256 + m / 65536 % 256) * 256 + m / 256 % 256) * 256 + m % 256 = m := by
  obtain ⟨a0, a1, a2, a3, a4, a5, a6, a7, a8, a9, a10, a11, _⟩ := h
  unfold sec
  refine ⟨by omega, by omega, ?_, ?_, ?_, by omega, by omega⟩
  · cases r <;> simp <;> omega
  · cases r <;> simp <;> omega
  · cases r <;> simp <;> omega
theorem encL_inj {o f d s : Int} {r : Bool} {x m o' f' d' s' : Int} {r' : Bool} {x' m' : Int} (h : refP o f d s r x m) (h' : refP o' f' d' s' r' x' m')
    (he : encL o f d s r x m = encL o' f' d' s' r' x' m') : o = o' ∧ f = f' ∧ d = d' ∧ s = s' ∧ r = r' ∧ x = x' ∧ m = m' := by
  rw [encL_sec, encL_sec] at he
  simp only [List.cons.injEq, and_true] at he
  obtain ⟨e0, e1, e2, e3, e4, e5, e6, e7⟩ := he
  obtain ⟨p0, p1, p2, p3, p4, p5, p6⟩ := dec_enc h
  obtain ⟨q0, q1, q2, q3, q4, q5, q6⟩ := dec_enc h'
  refine ⟨?_, ?_, ?_, ?_, ?_, ?_, ?_⟩
  · rw [← p0, e0, q0]
  · rw [← p1, e0, q1]
  · rw [← p2, e1, q2]
  · rw [← p3, e1, q3]
  · rw [← p4, e1, q4]
  · rw [← p5, e2, e3, q5]
  · rw [← p6, e4, e5, e6, e7, q6]
theorem encL_eq_iff {o f d s : Int} {r : Bool} {x m o' f' d' s' : Int} {r' : Bool} {x' m' : Int} (h : refP o f d s r x m) (h' : refP o' f' d' s' r' x' m') :
    encL o f d s r x m = encL o' f' d' s' r' x' m' ↔ o = o' ∧ f = f' ∧ d = d' ∧ s = s' ∧ r = r' ∧ x = x' ∧ m = m' := by
  refine ⟨encL_inj h h', ?_⟩
  rintro ⟨rfl, rfl, rfl, rfl, rfl, rfl, rfl⟩
  rfl
theorem enc_bytes {o f d s : Int} {r : Bool} {x m : Int} (h : refP o f d s r x m) (m0 : 0 ≤ m) (m1 : m ≤ 4294967295) :
    ∀ i, i < 8 → 0 ≤ (encL o f d s r x m).getD i 0 ∧ (encL o f d s r x m).getD i 0 ≤ 255 := by
  obtain ⟨a0, a1, a2, a3, a4, a5, a6, a7, a8, a9, a10, a11, _⟩ := h
  intro i hi
  match i, hi with
  | 0, _ => simp [encL]; omega
  | 1, _ => cases r <;> simp [encL] <;> omega
  | 2, _ => simp [encL]; omega
  | 3, _ => simp [encL]; omega
  | 4, _ => simp [encL]; omega
  | 5, _ => simp [encL]; omega
  | 6, _ => simp [encL]; omega
  | 7, _ => simp [encL]; omega
theorem enc_dec {z0 z1 z2 z3 z4 z5 z6 z7 : Int} (hz : ∀ i, i < 8 → 0 ≤ [z0, z1, z2, z3, z4, z5, z6, z7].getD i 0 ∧ [z0, z1, z2, z3, z4, z5, z6, z7].getD i 0 ≤ 255) :
    encL (z0 / 16) (z0 % 16) (z1 % 128 / 8) (z1 % 8) (decide (128 ≤ z1)) (z2 * 256 + z3) (((z4 * 256 + z5) * 256 + z6) * 256 + z7) = [z0, z1, z2, z3, z4, z5, z6, z7] := by
  have b0 := hz 0 (by omega)
  have b1 := hz 1 (by omega)
  have b2 := hz 2 (by omega)
  have b3 := hz 3 (by omega)
  have b4 := hz 4 (by omega)
  have b5 := hz 5 (by omega)
  have b6 := hz 6 (by omega)
  have b7 := hz 7 (by omega)
  simp at b0 b1 b2 b3 b4 b5 b6 b7
  simp only [encL, List.cons.injEq, and_true]
  refine ⟨by omega, ?_, by omega, by omega, by omega, by omega, by omega, by omega⟩
  by_cases h : 128 ≤ z1
  · simp [h]; omega
  · simp [h]; omega
end Go.Proofs.YtlbhmopmfddhjaaDoor
