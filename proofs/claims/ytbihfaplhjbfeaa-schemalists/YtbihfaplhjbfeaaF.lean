/-
  What the references' Bytes and Same return, as contracts over the translated program: whether two slices hold the same bytes, the same schemas.
-/
import Derived.Test.YtbihfaplhjbfeaaB
import Derived.Test.YtbihfaplhjbfeaaM
namespace Go.Proofs.Ytbihfaplhjbfeaa
open Go.RowKit

theorem bytes_lenQ (a b : Option Addr) (la ca lb cb : Nat) (w : World) (hl : la ≠ lb) (ha : la ≤ maxLen) (hb : lb ≤ maxLen) :
    Calls Try.prog 12 #[.slice a la ca, .slice b lb cb] w fun e w' => e = .returned (.bool false) ∧ ∃ n, w' = w.drewN n := by
  have ha' : la ≤ 9223372036854775807 := by unfold maxLen at ha; omega
  have hb' : lb ≤ 9223372036854775807 := by unfold maxLen at hb; omega
  have h8 : ¬ (la : Int) = (lb : Int) := by omega
  go_enter Try.func12, Try.ntmps12
  go_wp2
  go_ret
  exact ⟨rfl, 0, rfl⟩
theorem bytes_nilQ (a b : Option Addr) (ca cb : Nat) (w : World) :
    Calls Try.prog 12 #[.slice a 0 ca, .slice b 0 cb] w fun e w' => e = .returned (.bool true) ∧ ∃ n, w' = w.drewN n := by
  go_enter Try.func12, Try.ntmps12
  go_wp2
  go_loopw [5] (fun i wr => i = .int .i64 0 ∧ ∃ n, wr = w.drewN n) (fun _ _ => 0)
  case atStart => exact ⟨rfl, 0, rfl⟩
  case round =>
    obtain ⟨rfl, n, rfl⟩ := hrel
    go_wp2
    go_ret
    exact ⟨rfl, n, rfl⟩
theorem bytes_sameQ (x y : Addr) (len ca cb : Nat) (zs ys : List Int) (w : World) (hm : len ≤ maxLen) (hz : zs.length = len) (hy : ys.length = len) (hx1 : BytesAt w x zs) (hy1 : BytesAt w y ys) :
    Calls Try.prog 12 #[.slice (some x) len ca, .slice (some y) len cb] w fun e w' => e = .returned (.bool (decide (zs = ys))) ∧ ∃ n, w' = w.drewN n := by
  have hm' : len ≤ 9223372036854775807 := by unfold maxLen at hm; omega
  have HX := Lib.hid hx1
  have HY := Lib.hid hy1
  clear hx1 hy1
  go_enter Try.func12, Try.ntmps12
  go_wp2
  go_loopw [5] (fun i wr => ∃ k : Nat, k ≤ len ∧ i = .int .i64 k ∧ Hid (∀ j, j < k → zs.getD j 0 = ys.getD j 0) ∧ ∃ n, wr = w.drewN n) (fun i _ => len - (intOf i).toNat)
  case atStart => exact ⟨0, by omega, rfl, Lib.hid (fun j hj => absurd hj (by omega)), 0, rfl⟩
  case round =>
    obtain ⟨k, hk, rfl, HE, n, hn⟩ := hrel
    have HN := Lib.hid hn
    clear hn
    by_cases hlt : k < len
    · have c0 := BytesAt.below HX.out (below_of_quiet ⟨n, HN.out⟩) k (by omega)
      have c1 := BytesAt.below HY.out (below_of_quiet ⟨n, HN.out⟩) k (by omega)
      by_cases he : zs.getD k 0 = ys.getD k 0
      · have HK := Lib.hid he
        rw [← he] at c1
        generalize zs.getD k 0 = z at c0 c1
        clear he
        go_wp2
        go_quiet (fail)
        go_wp2
        refine ⟨⟨k + 1, by omega, by go_num, Lib.hid (fun j hj => ?_), n + nq, by rw [HN.out, World.drewN_drewN]⟩, by simp [intOf]; omega⟩
        rcases Nat.lt_succ_iff_lt_or_eq.1 hj with hj | rfl
        · exact HE.out j hj
        · exact HK.out
      · have HK := Lib.hid he
        generalize zs.getD k 0 = z at c0 he
        generalize ys.getD k 0 = y at c1 he
        go_wp2
        go_quiet (fail)
        go_wp2
        go_ret
        refine ⟨?_, n + nq, by rw [HN.out, World.drewN_drewN]⟩
        have hne : ¬ zs = ys := fun h => HK.out (by rw [h])
        simp [hne]
    · have HK := Lib.hid (show k = len by omega)
      go_wp2
      go_ret
      refine ⟨?_, n, HN.out⟩
      have heq : zs = ys := list_eq_getD 0 zs ys (by rw [hz, hy]) (fun j hj => HE.out j (by rw [HK.out, ← hz]; exact hj))
      simp [heq]
theorem bytes_len (a b : Option Addr) (la ca lb cb : Nat) (w : World) (hl : la ≠ lb) (ha : la ≤ maxLen) (hb : lb ≤ maxLen) :
    Calls Try.prog 12 #[.slice a la ca, .slice b lb cb] w fun e w' => e = .returned (.bool false) ∧ Below w.heap.size w w' :=
  (bytes_lenQ a b la ca lb cb w hl ha hb).mono fun _ _ h => ⟨h.1, below_of_quiet h.2⟩
theorem bytes_nil (a b : Option Addr) (ca cb : Nat) (w : World) :
    Calls Try.prog 12 #[.slice a 0 ca, .slice b 0 cb] w fun e w' => e = .returned (.bool true) ∧ Below w.heap.size w w' :=
  (bytes_nilQ a b ca cb w).mono fun _ _ h => ⟨h.1, below_of_quiet h.2⟩
theorem bytes_same (x y : Addr) (len ca cb : Nat) (zs ys : List Int) (w : World) (hm : len ≤ maxLen) (hz : zs.length = len) (hy : ys.length = len) (hx1 : BytesAt w x zs) (hy1 : BytesAt w y ys) :
    Calls Try.prog 12 #[.slice (some x) len ca, .slice (some y) len cb] w fun e w' => e = .returned (.bool (decide (zs = ys))) ∧ Below w.heap.size w w' :=
  (bytes_sameQ x y len ca cb zs ys w hm hz hy hx1 hy1).mono fun _ _ h => ⟨h.1, below_of_quiet h.2⟩
theorem bytesB_any (a b : Option Addr) (la ca lb cb : Nat) (zs ys : List Int) (w : World) (h1 : SliceB w a la ca zs) (h2 : SliceB w b lb cb ys) :
    Calls Try.prog 12 #[.slice a la ca, .slice b lb cb] w fun e w' => e = .returned (.bool (decide (zs = ys))) ∧ Below w.heap.size w w' := by
  by_cases hl : la = lb
  · subst hl
    by_cases h0 : la = 0
    · subst h0
      have e : decide (zs = ys) = true := by
        have e1 := List.length_eq_zero_iff.1 h1.1
        have e2 := List.length_eq_zero_iff.1 h2.1
        simp [e1, e2]
      rw [e]
      exact bytes_nil a b ca cb w
    · obtain ⟨x, rfl, hx⟩ := h1.2.2.2.2.resolve_left h0
      obtain ⟨y, rfl, hy⟩ := h2.2.2.2.2.resolve_left h0
      exact bytes_same x y la ca cb zs ys w (Nat.le_trans h1.2.1 h1.2.2.1) h1.1 h2.1 hx hy
  · have e : decide (zs = ys) = false := decide_eq_false (fun h => hl (by rw [← h1.1, ← h2.1, h]))
    rw [e]
    exact bytes_len a b la ca lb cb w hl (Nat.le_trans h1.2.1 h1.2.2.1) (Nat.le_trans h2.2.1 h2.2.2.1)

set_option maxHeartbeats 2000000 in
theorem same_any (a b : Option Addr) (la ca lb cb : Nat) (c d : List Sc) (w : World) (hp : ScsAt w a la ca c) (hq : ScsAt w b lb cb d) :
    Calls Try.prog 15 #[.slice a la ca, .slice b lb cb] w fun e w' => e = .returned (.bool (decide (c = d))) ∧ Below w.heap.size w w' := by
  have hlm := hp.max
  have hlm' := hq.max
  obtain ⟨d1, d2, d3, d5⟩ := hp
  obtain ⟨f1, f2, f3, f5⟩ := hq
  have D1 := Lib.hid d1
  have F1 := Lib.hid f1
  have H5 := Lib.hid d5
  have G5 := Lib.hid f5
  clear d1 f1 d5 f5 d3 f3
  by_cases hl : la = lb
  · subst hl
    go_enter Try.func15, Try.ntmps15
    go_wp2
    go_loopw [5] (fun i w2 => ∃ t : Nat, t ≤ la ∧ i = .int .i64 t ∧ Hid (∀ j, j < t → c.getD j zeroS = d.getD j zeroS) ∧ Below w.heap.size w w2) (fun i _ => la - (intOf i).toNat)
    case atStart => exact ⟨0, by omega, rfl, Lib.hid (fun j hj => absurd hj (by omega)), Below.refl _ _⟩
    case round =>
      obtain ⟨t, ht, rfl, HT, hb2⟩ := hrel
      by_cases htl : t < la
      · have htI : (t : Int) < (la : Int) := by omega
        obtain ⟨z, rfl, hz⟩ := H5.out.resolve_left (by omega)
        obtain ⟨z', rfl, hz'⟩ := G5.out.resolve_left (by omega)
        have hA := ScHere.below (hz t htl) hb2
        have hB := ScHere.below (hz' t htl) hb2
        rcases hi : c.getD t zeroS with ⟨k0, c0, n0, v0⟩
        rcases hj : d.getD t zeroS with ⟨k1, c1, n1, v1⟩
        rw [hi] at hA
        rw [hj] at hB
        have HI2 := Lib.hid hi
        have HJ2 := Lib.hid hj
        obtain ⟨p0, p1, p2, p3⟩ := hA
        obtain ⟨y0, y1, y2, y3⟩ := hB
        simp only at p0 p1 p2 p3 y0 y1 y2 y3
        clear hi hj hz hz'
        have hne := neq_sc k0 c0 n0 v0 k1 c1 n1 v1
        have hgd := guardS
        rcases hq : scEq k0 c0 n0 v0 k1 c1 n1 v1 with _ | _
        · have HN : Hid (c ≠ d) := Lib.hid (fun h => by
            have h3 := HI2.out
            rw [h, HJ2.out] at h3
            simp only [Prod.mk.injEq] at h3
            obtain ⟨rfl, rfl, rfl, rfl⟩ := h3
            rw [scEq_self] at hq
            cases hq)
          go_wp2
          go_quiet (fail)
          go_wp2
          go_ret
          exact ⟨by rw [decide_eq_false HN.out]; rfl, belowDrewN hb2 _⟩
        · have HE2 : Hid (c.getD t zeroS = d.getD t zeroS) := Lib.hid (by
            obtain ⟨rfl, rfl, rfl, rfl⟩ := scEq_iff.1 hq
            rw [HI2.out, HJ2.out])
          go_wp2
          go_quiet (fail)
          go_wp2
          refine ⟨⟨t + 1, by omega, by go_num, Lib.hid (fun j hj => ?_), belowDrewN hb2 _⟩, by simp [intOf]; omega⟩
          rcases Nat.lt_succ_iff_lt_or_eq.1 hj with hj | rfl
          · exact HT.out j hj
          · exact HE2.out
      · have HPC : Hid (c = d) := Lib.hid (list_eq_getD zeroS c d (by rw [D1.out, F1.out]) (fun j hj => HT.out j (by rw [D1.out] at hj; omega)))
        go_wp2
        go_ret
        exact ⟨by simp [HPC.out], hb2⟩
  · have hlI : ¬ (la : Int) = (lb : Int) := by omega
    have HN : Hid (c ≠ d) := Lib.hid (fun h => by
      apply hl
      rw [← D1.out, ← F1.out, h])
    go_enter Try.func15, Try.ntmps15
    go_wp2
    go_ret
    exact ⟨by rw [decide_eq_false HN.out]; rfl, Below.refl _ _⟩
end Go.Proofs.Ytbihfaplhjbfeaa
