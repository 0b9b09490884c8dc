/-
  What the reference's Bytes returns, as a contract over the translated program: whether two slices hold the same bytes.
-/
import Derived.Test.YtlbhmopmfddhjaaDoorE
import Derived.BigQuiet
namespace Go.Proofs.YtlbhmopmfddhjaaDoor
open Go.RowKit

theorem belowDrewN {B : Nat} {a w : World} (h : Below B a w) (n : Nat) : Below B a (w.drewN n) := by
  induction n with
  | zero => exact h
  | succ n ih => exact ih.drew
theorem list_eq_of_getD : ∀ (zs ys : List Int), zs.length = ys.length → (∀ j, j < zs.length → zs.getD j 0 = ys.getD j 0) → zs = ys
  | [], [], _, _ => rfl
  | z :: zs, y :: ys, h, hj => by
    have h0 : z = y := by simpa using hj 0 (by simp)
    have h1 : zs = ys := list_eq_of_getD zs ys (by simpa using h) (fun j hl => by simpa using hj (j + 1) (by simpa using hl))
    rw [h0, h1]
theorem below_of_quiet {w w' : World} (h : ∃ n, w' = w.drewN n) : Below w.heap.size w w' := by
  obtain ⟨n, rfl⟩ := h
  exact belowDrewN (Below.refl _ _) n
theorem bytes_lenQ (a b : Option Addr) (la ca lb cb : Nat) (w : World) (hl : la ≠ lb) (ha : la ≤ maxLen) (hb : lb ≤ maxLen) :
    Calls Tryd.prog 14 #[.slice a la ca, .slice b lb cb] w fun e w' => e = .returned (.bool false) ∧ ∃ n, w' = w.drewN n := by
  have ha' : la ≤ 9223372036854775807 := by unfold maxLen at ha; omega
  have hb' : lb ≤ 9223372036854775807 := by unfold maxLen at hb; omega
  have h8 : ¬ (la : Int) = (lb : Int) := by omega
  go_enter Tryd.func14, Tryd.ntmps14
  go_wp2
  go_ret
  exact ⟨rfl, 0, rfl⟩
theorem bytes_nilQ (a b : Option Addr) (ca cb : Nat) (w : World) :
    Calls Tryd.prog 14 #[.slice a 0 ca, .slice b 0 cb] w fun e w' => e = .returned (.bool true) ∧ ∃ n, w' = w.drewN n := by
  go_enter Tryd.func14, Tryd.ntmps14
  go_wp2
  go_loopw [5] (fun i wr => i = .int .i64 0 ∧ ∃ n, wr = w.drewN n) (fun _ _ => 0)
  case atStart => exact ⟨rfl, 0, rfl⟩
  case round =>
    obtain ⟨rfl, n, rfl⟩ := hrel
    go_wp2
    go_ret
    exact ⟨rfl, n, rfl⟩
theorem bytes_sameQ (x y : Addr) (len ca cb : Nat) (zs ys : List Int) (w : World) (hm : len ≤ maxLen) (hz : zs.length = len) (hy : ys.length = len) (hx1 : BytesAt w x zs) (hy1 : BytesAt w y ys) :
    Calls Tryd.prog 14 #[.slice (some x) len ca, .slice (some y) len cb] w fun e w' => e = .returned (.bool (decide (zs = ys))) ∧ ∃ n, w' = w.drewN n := by
  have hm' : len ≤ 9223372036854775807 := by unfold maxLen at hm; omega
  have HX := Lib.hid hx1
  have HY := Lib.hid hy1
  clear hx1 hy1
  go_enter Tryd.func14, Tryd.ntmps14
  go_wp2
  go_loopw [5] (fun i wr => ∃ k : Nat, k ≤ len ∧ i = .int .i64 k ∧ Hid (∀ j, j < k → zs.getD j 0 = ys.getD j 0) ∧ ∃ n, wr = w.drewN n) (fun i _ => len - (intOf i).toNat)
  case atStart => exact ⟨0, by omega, rfl, Lib.hid (fun j hj => absurd hj (by omega)), 0, rfl⟩
  case round =>
    obtain ⟨k, hk, rfl, HE, n, hn⟩ := hrel
    have HN := Lib.hid hn
    clear hn
    by_cases hlt : k < len
    · have c0 := BytesAt.below HX.out (below_of_quiet ⟨n, HN.out⟩) k (by omega)
      have c1 := BytesAt.below HY.out (below_of_quiet ⟨n, HN.out⟩) k (by omega)
      by_cases he : zs.getD k 0 = ys.getD k 0
      · have HK := Lib.hid he
        rw [← he] at c1
        generalize zs.getD k 0 = z at c0 c1
        clear he
        go_wp2
        go_quiet (fail)
        go_wp2
        refine ⟨⟨k + 1, by omega, by go_num, Lib.hid (fun j hj => ?_), n + nq, by rw [HN.out, World.drewN_drewN]⟩, by simp [intOf]; omega⟩
        rcases Nat.lt_succ_iff_lt_or_eq.1 hj with hj | rfl
        · exact HE.out j hj
        · exact HK.out
      · have HK := Lib.hid he
        generalize zs.getD k 0 = z at c0 he
        generalize ys.getD k 0 = y at c1 he
        go_wp2
        go_quiet (fail)
        go_wp2
        go_ret
        refine ⟨?_, n + nq, by rw [HN.out, World.drewN_drewN]⟩
        have hne : ¬ zs = ys := fun h => HK.out (by rw [h])
        simp [hne]
    · have HK := Lib.hid (show k = len by omega)
      go_wp2
      go_ret
      refine ⟨?_, n, HN.out⟩
      have heq : zs = ys := list_eq_of_getD zs ys (by rw [hz, hy]) (fun j hj => HE.out j (by rw [HK.out, ← hz]; exact hj))
      simp [heq]
theorem bytes_len (a b : Option Addr) (la ca lb cb : Nat) (w : World) (hl : la ≠ lb) (ha : la ≤ maxLen) (hb : lb ≤ maxLen) :
    Calls Tryd.prog 14 #[.slice a la ca, .slice b lb cb] w fun e w' => e = .returned (.bool false) ∧ Below w.heap.size w w' :=
  (bytes_lenQ a b la ca lb cb w hl ha hb).mono fun _ _ h => ⟨h.1, below_of_quiet h.2⟩
theorem bytes_nil (a b : Option Addr) (ca cb : Nat) (w : World) :
    Calls Tryd.prog 14 #[.slice a 0 ca, .slice b 0 cb] w fun e w' => e = .returned (.bool true) ∧ Below w.heap.size w w' :=
  (bytes_nilQ a b ca cb w).mono fun _ _ h => ⟨h.1, below_of_quiet h.2⟩
theorem bytes_same (x y : Addr) (len ca cb : Nat) (zs ys : List Int) (w : World) (hm : len ≤ maxLen) (hz : zs.length = len) (hy : ys.length = len) (hx1 : BytesAt w x zs) (hy1 : BytesAt w y ys) :
    Calls Tryd.prog 14 #[.slice (some x) len ca, .slice (some y) len cb] w fun e w' => e = .returned (.bool (decide (zs = ys))) ∧ Below w.heap.size w w' :=
  (bytes_sameQ x y len ca cb zs ys w hm hz hy hx1 hy1).mono fun _ _ h => ⟨h.1, below_of_quiet h.2⟩
end Go.Proofs.YtlbhmopmfddhjaaDoor
