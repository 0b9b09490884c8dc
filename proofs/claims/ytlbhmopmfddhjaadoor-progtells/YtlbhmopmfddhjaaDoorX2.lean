/-
  What the third reference's Same returns, as a contract over the translated program: whether two programs are the same.
-/
import Derived.Test.YtlbhmopmfddhjaaDoorM
import Derived.Test.YtlbhmopmfddhjaaDoorQ
import Derived.Test.YtlbhmopmfddhjaaDoorF
import Derived.BigQuiet
namespace Go.Proofs.YtlbhmopmfddhjaaDoor
open Go.RowKit

theorem list_eq_getD {α : Type} (z : α) : ∀ (as' bs : List α), as'.length = bs.length → (∀ j, j < as'.length → as'.getD j z = bs.getD j z) → as' = bs
  | [], [], _, _ => rfl
  | a :: as', b :: bs, h, hj => by
    have h0 : a = b := by simpa using hj 0 (by simp)
    have h1 : as' = bs := list_eq_getD z as' bs (by simpa using h) (fun j hl => by simpa using hj (j + 1) (by simpa using hl))
    rw [h0, h1]

theorem same_len (a b : Option Addr) (la ca lb cb : Nat) (w : World) (hl : la ≠ lb) (ha : la ≤ maxLen) (hb : lb ≤ maxLen) :
    Calls Tryd.prog 17 #[.agg #[.slice a la ca], .agg #[.slice b lb cb]] w fun e w' => e = .returned (.bool false) ∧ Below w.heap.size w w' := by
  have ha' : la ≤ 9223372036854775807 := by unfold maxLen at ha; omega
  have hb' : lb ≤ 9223372036854775807 := by unfold maxLen at hb; omega
  have h8 : ¬ (la : Int) = (lb : Int) := by omega
  go_enter Tryd.func17, Tryd.ntmps17
  go_wp2
  go_ret
  exact ⟨rfl, ((Below.refl _ _).alloc (Nat.le_refl _) _).alloc (by simp) _⟩
theorem same_nil (a b : Option Addr) (ca cb : Nat) (w : World) :
    Calls Tryd.prog 17 #[.agg #[.slice a 0 ca], .agg #[.slice b 0 cb]] w fun e w' => e = .returned (.bool true) ∧ Below w.heap.size w w' := by
  go_enter Tryd.func17, Tryd.ntmps17
  go_wp2
  go_loopw [5] (fun i wr => i = .int .i64 0 ∧ Below w.heap.size w wr ∧ wr.cell? ⟨w.heap.size, 0, none⟩ = some (.slice a 0 ca)) (fun _ _ => 0)
  case atStart => exact ⟨rfl, ((Below.refl _ _).alloc (Nat.le_refl _) _).alloc (by simp) _, by simp⟩
  case round =>
    obtain ⟨rfl, hb, c0⟩ := hrel
    go_wp2
    go_ret
    exact ⟨rfl, hb⟩
set_option maxHeartbeats 4000000 in
theorem same_some (x y : Addr) (len ca cb : Nat) (ps qs : List Fun) (w : World) (hp : FnsAt w (some x) len ca ps) (hq : FnsAt w (some y) len cb qs) (h0 : 0 < len) :
    Calls Tryd.prog 17 #[.agg #[.slice (some x) len ca], .agg #[.slice (some y) len cb]] w fun e w' => e = .returned (.bool (decide (ps = qs))) ∧ Below w.heap.size w w' := by
  obtain ⟨p1, p2, p3, p5⟩ := hp
  obtain ⟨q1, q2, q3, q5⟩ := hq
  have hm : len ≤ 9223372036854775807 := by unfold maxLen at p3; omega
  have P1 := Lib.hid p1
  have Q1 := Lib.hid q1
  have HP : Hid (∀ k, k < len → FnHere w (x.add (k * 2)) (ps.getD k zeroF)) := by
    rcases p5 with h | ⟨y', h, h6⟩
    · omega
    · cases h
      exact Lib.hid h6
  have HQ : Hid (∀ k, k < len → FnHere w (y.add (k * 2)) (qs.getD k zeroF)) := by
    rcases q5 with h | ⟨y', h, h6⟩
    · omega
    · cases h
      exact Lib.hid h6
  clear p1 q1 p5 q5
  go_enter Tryd.func17, Tryd.ntmps17
  go_wp2
  go_loopw [5] (fun i wr => ∃ k : Nat, k ≤ len ∧ i = .int .i64 k ∧ Hid (∀ j, j < k → ps.getD j zeroF = qs.getD j zeroF) ∧ Below w.heap.size w wr ∧ w.heap.size + 1 < wr.heap.size ∧
    wr.cell? ⟨w.heap.size, 0, none⟩ = some (.slice (some x) len ca) ∧ wr.cell? ⟨w.heap.size + 1, 0, none⟩ = some (.slice (some y) len cb)) (fun i _ => len - (intOf i).toNat)
  case atStart => exact ⟨0, by omega, rfl, Lib.hid (fun j hj => absurd hj (by omega)), ((Below.refl _ _).alloc (Nat.le_refl _) _).alloc (by simp) _, by simp, by simp, by simp⟩
  case round =>
    obtain ⟨k, hk, rfl, HE, hb, hlt, c0, c1⟩ := hrel
    by_cases hkl : k < len
    · have hkI : (k : Int) < (len : Int) := by omega
      rcases hi : ps.getD k zeroF with ⟨pa, pc⟩
      rcases hj : qs.getD k zeroF with ⟨qa, qc⟩
      have hI := FnHere.below (HP.out k hkl) hb
      have hJ := FnHere.below (HQ.out k hkl) hb
      rw [hi] at hI
      rw [hj] at hJ
      have HI := Lib.hid hi
      have HJ := Lib.hid hj
      obtain ⟨i0, b, l, cc, i1, hCode⟩ := hI
      obtain ⟨j0, b', l', cc', j1, hCode'⟩ := hJ
      simp only at i0 i1 hCode j0 j1 hCode'
      obtain ⟨d1, d2, d3, d4, d5⟩ := hCode
      obtain ⟨f1, f2, f3, f4, f5⟩ := hCode'
      have hlm : l ≤ 9223372036854775807 := by unfold maxLen at d3; omega
      have hlm' : l' ≤ 9223372036854775807 := by unfold maxLen at f3; omega
      have D1 := Lib.hid d1
      have F1 := Lib.hid f1
      clear hi hj d1 f1 d4 f4
      have H5 := Lib.hid d5
      have G5 := Lib.hid f5
      clear d5 f5
      have lx := lt_of_cell i0
      have ly := lt_of_cell j0
      have lx1 : (x.add (k * 2)).block < wr.heap.size + 1 := by omega
      have ly1 : (y.add (k * 2)).block < wr.heap.size + 1 := by omega
      by_cases ha : pa = qa
      · by_cases hl : l = l'
        · subst ha hl
          go_wp2
          go_loopw [8] (fun i w2 => ∃ t : Nat, t ≤ l ∧ i = .int .i64 t ∧ Hid (∀ j, j < t → pc.getD j zeroI = qc.getD j zeroI) ∧ Below wr.heap.size wr w2 ∧ wr.heap.size + 1 < w2.heap.size ∧
            w2.cell? ⟨wr.heap.size, 1, none⟩ = some (.slice b l cc) ∧ w2.cell? ⟨wr.heap.size + 1, 1, none⟩ = some (.slice b' l cc')) (fun i _ => l - (intOf i).toNat)
          case atStart => exact ⟨0, by omega, rfl, Lib.hid (fun j hj => absurd hj (by omega)), ((Below.refl _ _).alloc (Nat.le_refl _) _).alloc (by simp) _, by simp, by simp, by simp⟩
          case round =>
            obtain ⟨t, ht, rfl, HT, hb2, hlt2, e1, e2⟩ := hrel
            by_cases htl : t < l
            · have htI : (t : Int) < (l : Int) := by omega
              obtain ⟨z, rfl, hz⟩ := H5.out.resolve_left (by omega)
              obtain ⟨z', rfl, hz'⟩ := G5.out.resolve_left (by omega)
              have hA := InstHere.below (hz t htl) hb2
              have hB := InstHere.below (hz' t htl) hb2
              rcases hi : pc.getD t zeroI with ⟨o, f, d, s, r, xx, m⟩
              rcases hj : qc.getD t zeroI with ⟨o', f', d', s', r', xx', m'⟩
              rw [hi] at hA
              rw [hj] at hB
              have HI2 := Lib.hid hi
              have HJ2 := Lib.hid hj
              obtain ⟨v0, v1, v2, v3, v4, v5, v6⟩ := hA
              obtain ⟨y0, y1, y2, y3, y4, y5, y6⟩ := hB
              simp only at v0 v1 v2 v3 v4 v5 v6 y0 y1 y2 y3 y4 y5 y6
              clear hi hj hz hz' c0 c1 i0 i1 j0 j1 lx ly lx1 ly1
              have hne := neq_inst o f d s r xx m o' f' d' s' r' xx' m'
              have hgd := guard24
              rcases hq : instEq o f d s r xx m o' f' d' s' r' xx' m' with _ | _
              · have HN : Hid (ps ≠ qs) := Lib.hid (fun h => by
                  have h1 : pc = qc := by
                    have h2 := HI.out
                    rw [h, HJ.out] at h2
                    simpa using h2.symm
                  have h3 := HI2.out
                  rw [h1, HJ2.out] at h3
                  simp only [Prod.mk.injEq] at h3
                  obtain ⟨rfl, rfl, rfl, rfl, rfl, rfl, rfl⟩ := h3
                  rw [instEq_self] at hq
                  cases hq)
                go_wp2
                go_quiet (fail)
                go_wp2
                go_ret
                exact ⟨by rw [decide_eq_false HN.out]; rfl, belowDrewN (hb.trans (hb2.mono hb.size)) _⟩
              · have HE2 : Hid (pc.getD t zeroI = qc.getD t zeroI) := Lib.hid (by
                  obtain ⟨rfl, rfl, rfl, rfl, rfl, rfl, rfl⟩ := instEq_iff.1 hq
                  rw [HI2.out, HJ2.out])
                go_wp2
                go_quiet (fail)
                go_wp2
                refine ⟨⟨t + 1, by omega, by go_num, Lib.hid (fun j hj => ?_), belowDrewN hb2 _, hlt2, e1, e2⟩, by simp [intOf]; omega⟩
                rcases Nat.lt_succ_iff_lt_or_eq.1 hj with hj | rfl
                · exact HT.out j hj
                · exact HE2.out
            · have HPC : Hid (ps.getD k zeroF = qs.getD k zeroF) := Lib.hid (by
                rw [HI.out, HJ.out, list_eq_getD zeroI pc qc (by rw [D1.out, F1.out]) (fun j hj => HT.out j (by rw [D1.out] at hj; omega))])
              have k0 := (hb2.cell (p := ⟨w.heap.size, 0, none⟩) (by simp; omega)).trans c0
              have k1 := (hb2.cell (p := ⟨w.heap.size + 1, 0, none⟩) (by simp; omega)).trans c1
              clear c0 c1 i0 i1 j0 j1
              go_wp2
              go_roundw
              case rel =>
                refine ⟨k + 1, by omega, by go_num, Lib.hid (fun j hj => ?_), hb.trans (hb2.mono hb.size), by omega, k0, k1⟩
                rcases Nat.lt_succ_iff_lt_or_eq.1 hj with hj | rfl
                · exact HE.out j hj
                · exact HPC.out
              case measure => simp [intOf]; omega
        · have hlI : ¬ (l : Int) = (l' : Int) := by omega
          have HN : Hid (ps ≠ qs) := Lib.hid (fun h => by
            have h2 := HI.out
            rw [h, HJ.out] at h2
            simp only [Prod.mk.injEq] at h2
            apply hl
            rw [← D1.out, ← F1.out, h2.2])
          subst ha
          go_wp2
          go_ret
          exact ⟨by rw [decide_eq_false HN.out]; rfl, (hb.alloc hb.size _).alloc (by simp; have := hb.size; omega) _⟩
      · have HN : Hid (ps ≠ qs) := Lib.hid (fun h => by
          have h2 := HI.out
          rw [h, HJ.out] at h2
          simp only [Prod.mk.injEq] at h2
          exact ha h2.1.symm)
        go_wp2
        go_ret
        exact ⟨by rw [decide_eq_false HN.out]; rfl, (hb.alloc hb.size _).alloc (by simp; have := hb.size; omega) _⟩
    · have HD : Hid (ps = qs) := Lib.hid (list_eq_getD zeroF ps qs (by rw [P1.out, Q1.out]) (fun j hj => HE.out j (by rw [P1.out] at hj; omega)))
      go_wp2
      go_ret
      exact ⟨by simp [HD.out], hb⟩
end Go.Proofs.YtlbhmopmfddhjaaDoor
