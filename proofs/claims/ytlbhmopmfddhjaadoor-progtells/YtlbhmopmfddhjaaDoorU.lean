/-
  A byte changed in an encoding, in plain numbers and in memory.
-/
import Derived.Test.YtlbhmopmfddhjaaDoorS
import Derived.Test.YtlbhmopmfddhjaaDoorQ
import Derived.Laws.AppendOwn
import Derived.Laws.BitsAllLaws
namespace Go.Proofs.YtlbhmopmfddhjaaDoor
open Go.RowKit

theorem list8 (l : List Int) (h : l.length = 8) : l = [l.getD 0 0, l.getD 1 0, l.getD 2 0, l.getD 3 0, l.getD 4 0, l.getD 5 0, l.getD 6 0, l.getD 7 0] := by
  match l, h with
  | [a, b, c, d, e, f, g, i], _ => rfl
theorem getD_set_self (l : List Int) (k : Nat) (y : Int) (h : k < l.length) : (l.set k y).getD k 0 = y := by
  simp [List.getD_eq_getElem?_getD, h]
theorem getD_set_other (l : List Int) (k j : Nat) (y : Int) (h : k ≠ j) : (l.set k y).getD j 0 = l.getD j 0 := by
  simp [List.getD_eq_getElem?_getD, h]

theorem addr_add (g i : Nat) : (⟨g, 0, none⟩ : Addr).add i = ⟨g, i, none⟩ := by
  unfold Addr.add
  split <;> simp_all
theorem own_bytes {w : World} {base : Nat} {v : Value} {zs : List Int} (hz : zs.length = 8) (h : w.ownsRow base 5 1 v 8 (zs.map (Value.int .u8))) :
    ∃ g cap, v = .slice (some ⟨g, 0, none⟩) 8 cap ∧ base ≤ g ∧ 8 ≤ cap ∧ cap ≤ maxLen ∧ BytesAt w ⟨g, 0, none⟩ zs ∧ (∀ i, w.frozen? ⟨g, i, none⟩ = false) := by
  obtain ⟨_, ⟨_, h0⟩ | ⟨g, cap, cur, rfl, hb, hh, hc, hm, hs, ht⟩⟩ := h
  · omega
  · refine ⟨g, cap, rfl, hb, by omega, hm, ?_, ?_⟩
    · intro i hi
      have e : (⟨g, 0, none⟩ : Addr).add i = ⟨g, i, none⟩ := addr_add g i
      rw [e]
      have h2 : (cur.toList.take 8)[i]? = (zs.map (Value.int .u8))[i]? := by
        have := congrArg (fun l => l[i]?) ht
        simpa using this
      rw [List.getElem?_take, if_pos (by omega)] at h2
      simp [World.cell?, hh]
      rw [← Array.getElem?_toList, h2]
      simp [hi]
    · intro i
      simp [World.frozen?, hh]
theorem bytes_set {w : World} {g k : Nat} {zs : List Int} {y : Int} (h : BytesAt w ⟨g, 0, none⟩ zs) (hk : k < zs.length) : BytesAt (w.setCell ⟨g, k, none⟩ (.int .u8 y)) ⟨g, 0, none⟩ (zs.set k y) := by
  intro i hi
  have hi' : i < zs.length := by simpa using hi
  have e : (⟨g, 0, none⟩ : Addr).add i = ⟨g, i, none⟩ := addr_add g i
  have hc := h i hi'
  rw [e] at hc ⊢
  by_cases hik : k = i
  · subst hik
    rw [World.cell?_setCell_same _ _ _ hc, getD_set_self zs k y hk]
  · rw [World.cell?_setCell_other _ _ _ _ (fun hh => hik (congrArg Addr.off hh)), getD_set_other zs k i y hik]
    exact hc

theorem xor_byte (a b : Int) (h1 : 0 ≤ a) (h2 : a ≤ 255) (h3 : 0 ≤ b) (h4 : b ≤ 255) (hb : b ≠ 0) : 0 ≤ bits .xor .u8 a b ∧ bits .xor .u8 a b ≤ 255 ∧ bits .xor .u8 a b ≠ a := by
  obtain ⟨a, rfl⟩ := Int.eq_ofNat_of_zero_le h1
  obtain ⟨b, rfl⟩ := Int.eq_ofNat_of_zero_le h3
  rw [u8_xor_nat a b (by omega) (by omega)]
  have hx : a ^^^ b < 2 ^ 8 := Nat.xor_lt_two_pow (by omega) (by omega)
  refine ⟨by omega, by omega, ?_⟩
  intro h
  have h' : a ^^^ b = a := by omega
  have h5 : a ^^^ (a ^^^ b) = b := by rw [← Nat.xor_assoc, Nat.xor_self, Nat.zero_xor]
  rw [h', Nat.xor_self] at h5
  omega

/- what the law asks of the changed bytes -/
theorem fields_facts {o f d s : Int} {r : Bool} {x m : Int} (hP : refP o f d s r x m) (m0 : 0 ≤ m) (m1 : m ≤ 4294967295) {k : Nat} (hk : k < 8) {y : Int} (y0 : 0 ≤ y) (y1 : y ≤ 255) (hy : y ≠ (encL o f d s r x m).getD k 0)
    {z0 z1 z2 z3 z4 z5 z6 z7 : Int} (hL : (encL o f d s r x m).set k y = [z0, z1, z2, z3, z4, z5, z6, z7]) :
    (∀ i, i < 8 → 0 ≤ [z0, z1, z2, z3, z4, z5, z6, z7].getD i 0 ∧ [z0, z1, z2, z3, z4, z5, z6, z7].getD i 0 ≤ 255) ∧
    instEq (z0 / 16) (z0 % 16) (z1 % 128 / 8) (z1 % 8) (decide (128 ≤ z1)) (z2 * 256 + z3) (((z4 * 256 + z5) * 256 + z6) * 256 + z7) o f d s r x m = false ∧
    ∃ p q t : Bool, decide ((k : Int) < 4) = p ∧ ((((z4 * 256 + z5) * 256 + z6) * 256 + z7) == m) = p ∧ ((k : Int) == 2) = q ∧ ((k : Int) == 3) = t ∧ ((z2 * 256 + z3) != x) = (q || t) := by
  have hB := enc_bytes hP m0 m1
  have hz : ∀ i, i < 8 → 0 ≤ [z0, z1, z2, z3, z4, z5, z6, z7].getD i 0 ∧ [z0, z1, z2, z3, z4, z5, z6, z7].getD i 0 ≤ 255 := by
    intro i hi
    rw [← hL]
    by_cases h : k = i
    · subst h
      rw [getD_set_self _ _ _ (by simp [encL]; omega)]
      exact ⟨y0, y1⟩
    · rw [getD_set_other _ _ _ _ h]
      exact hB i hi
  have hE := enc_dec hz
  obtain ⟨_, _, _, _, _, p5, p6⟩ := dec_enc hP
  refine ⟨hz, ?_, ?_⟩
  · rcases hq : instEq (z0 / 16) (z0 % 16) (z1 % 128 / 8) (z1 % 8) (decide (128 ≤ z1)) (z2 * 256 + z3) (((z4 * 256 + z5) * 256 + z6) * 256 + z7) o f d s r x m with _ | _
    · rfl
    · obtain ⟨e0, e1, e2, e3, e4, e5, e6⟩ := instEq_iff.1 hq
      rw [e0, e1, e2, e3, e4, e5, e6] at hE
      exfalso
      apply hy
      rw [hE, ← hL, getD_set_self _ _ _ (by simp [encL]; omega)]
  · refine ⟨_, _, _, rfl, ?_, rfl, rfl, ?_⟩
    · have b4 := hz 4 (by omega)
      have b5 := hz 5 (by omega)
      have b6 := hz 6 (by omega)
      have b7 := hz 7 (by omega)
      simp at b4 b5 b6 b7
      rw [Bool.eq_iff_iff, beq_iff_eq, decide_eq_true_iff]
      match k, hk with
      | 0, _ | 1, _ | 2, _ | 3, _ | 4, _ | 5, _ | 6, _ | 7, _ =>
        simp [encL] at hL hy ⊢
        omega
    · have b2 := hz 2 (by omega)
      have b3 := hz 3 (by omega)
      simp at b2 b3
      rw [Bool.eq_iff_iff]
      match k, hk with
      | 0, _ | 1, _ | 2, _ | 3, _ | 4, _ | 5, _ | 6, _ | 7, _ =>
        simp [encL] at hL hy ⊢
        try omega
end Go.Proofs.YtlbhmopmfddhjaaDoor
