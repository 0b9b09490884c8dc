/-
  What slices.Equal at instructions, and package prog's sameFn return, as contracts over the translated program.
-/
import Derived.Test.YtlbhmopmfddhjaaDoorX2
namespace Go.Proofs.YtlbhmopmfddhjaaDoor
open Go.RowKit

set_option maxHeartbeats 2000000 in
theorem eqCode_any (a b : Option Addr) (la ca lb cb : Nat) (c d : List I) (w : World) (hp : CodeAt w a la ca c) (hq : CodeAt w b lb cb d) :
    Calls Tryd.prog 36 #[.slice a la ca, .slice b lb cb] w fun e w' => e = .returned (.bool (decide (c = d))) ∧ Below w.heap.size w w' := by
  obtain ⟨d1, d2, d3, d4, d5⟩ := hp
  obtain ⟨f1, f2, f3, f4, f5⟩ := hq
  have hlm : la ≤ 9223372036854775807 := by unfold maxLen at d3; omega
  have hlm' : lb ≤ 9223372036854775807 := by unfold maxLen at f3; omega
  have D1 := Lib.hid d1
  have F1 := Lib.hid f1
  have H5 := Lib.hid d5
  have G5 := Lib.hid f5
  clear d1 f1 d4 f4 d5 f5 d3 f3
  by_cases hl : la = lb
  · subst hl
    go_enter Tryd.func36, Tryd.ntmps36
    go_wp2
    go_loopw [13] (fun i w2 => ∃ t : Nat, t ≤ la ∧ i = .int .i64 t ∧ Hid (∀ j, j < t → c.getD j zeroI = d.getD j zeroI) ∧ Below w.heap.size w w2) (fun i _ => la - (intOf i).toNat)
    case atStart => exact ⟨0, by omega, rfl, Lib.hid (fun j hj => absurd hj (by omega)), Below.refl _ _⟩
    case round =>
      obtain ⟨t, ht, rfl, HT, hb2⟩ := hrel
      by_cases htl : t < la
      · have htI : (t : Int) < (la : Int) := by omega
        obtain ⟨z, rfl, hz⟩ := H5.out.resolve_left (by omega)
        obtain ⟨z', rfl, hz'⟩ := G5.out.resolve_left (by omega)
        have hA := InstHere.below (hz t htl) hb2
        have hB := InstHere.below (hz' t htl) hb2
        rcases hi : c.getD t zeroI with ⟨o, f, dd, s, r, xx, m⟩
        rcases hj : d.getD t zeroI with ⟨o', f', dd', s', r', xx', m'⟩
        rw [hi] at hA
        rw [hj] at hB
        have HI2 := Lib.hid hi
        have HJ2 := Lib.hid hj
        obtain ⟨v0, v1, v2, v3, v4, v5, v6⟩ := hA
        obtain ⟨y0, y1, y2, y3, y4, y5, y6⟩ := hB
        simp only at v0 v1 v2 v3 v4 v5 v6 y0 y1 y2 y3 y4 y5 y6
        clear hi hj hz hz'
        have hne := neq_inst o f dd s r xx m o' f' dd' s' r' xx' m'
        have hgd := guard24
        rcases hq : instEq o f dd s r xx m o' f' dd' s' r' xx' m' with _ | _
        · have HN : Hid (c ≠ d) := Lib.hid (fun h => by
            have h3 := HI2.out
            rw [h, HJ2.out] at h3
            simp only [Prod.mk.injEq] at h3
            obtain ⟨rfl, rfl, rfl, rfl, rfl, rfl, rfl⟩ := h3
            rw [instEq_self] at hq
            cases hq)
          go_wp2
          go_quiet (fail)
          go_wp2
          go_ret
          exact ⟨by rw [decide_eq_false HN.out]; rfl, belowDrewN hb2 _⟩
        · have HE2 : Hid (c.getD t zeroI = d.getD t zeroI) := Lib.hid (by
            obtain ⟨rfl, rfl, rfl, rfl, rfl, rfl, rfl⟩ := instEq_iff.1 hq
            rw [HI2.out, HJ2.out])
          go_wp2
          go_quiet (fail)
          go_wp2
          refine ⟨⟨t + 1, by omega, by go_num, Lib.hid (fun j hj => ?_), belowDrewN hb2 _⟩, by simp [intOf]; omega⟩
          rcases Nat.lt_succ_iff_lt_or_eq.1 hj with hj | rfl
          · exact HT.out j hj
          · exact HE2.out
      · have HPC : Hid (c = d) := Lib.hid (list_eq_getD zeroI c d (by rw [D1.out, F1.out]) (fun j hj => HT.out j (by rw [D1.out] at hj; omega)))
        go_wp2
        go_ret
        exact ⟨by simp [HPC.out], hb2⟩
  · have hlI : ¬ (la : Int) = (lb : Int) := by omega
    have HN : Hid (c ≠ d) := Lib.hid (fun h => by
      apply hl
      rw [← D1.out, ← F1.out, h])
    go_enter Tryd.func36, Tryd.ntmps36
    go_wp2
    go_ret
    exact ⟨by rw [decide_eq_false HN.out]; rfl, Below.refl _ _⟩

set_option maxHeartbeats 1000000 in
theorem sameFn_any (pa qa : Int) (a b : Option Addr) (la ca lb cb : Nat) (c d : List I) (w : World) (hp : CodeAt w a la ca c) (hq : CodeAt w b lb cb d) :
    Calls Tryd.prog 31 #[.agg #[.int .i64 pa, .slice a la ca], .agg #[.int .i64 qa, .slice b lb cb]] w fun e w' => e = .returned (.bool (decide (((pa, c) : Fun) = (qa, d)))) ∧ Below w.heap.size w w' := by
  have hg : Below w.heap.size w ((w.alloc (.cells #[.int .i64 pa, .slice a la ca] 28)).alloc (.cells #[.int .i64 qa, .slice b lb cb] 28)) := ((Below.refl _ _).alloc (Nat.le_refl _) _).alloc (by simp) _
  have HP := Lib.hid (hp.below hg)
  have HQ := Lib.hid (hq.below hg)
  clear hp hq
  by_cases ha : pa = qa
  · subst ha
    have HD : Hid (decide (((pa, c) : Fun) = (pa, d)) = decide (c = d)) := Lib.hid (by
      rw [Bool.eq_iff_iff]
      simp)
    go_enter Tryd.func31, Tryd.ntmps31
    go_wp2_with fail
    refine (eqCode_any a b la ca lb cb c d _ HP.out HQ.out).mono ?_
    rintro e w' ⟨rfl, hg2⟩
    replace hg := hg.trans (hg2.mono hg.size)
    clear hg2
    go_wp2
    go_ret
    exact ⟨by rw [HD.out]; rfl, hg⟩
  · have HN : Hid (((pa, c) : Fun) ≠ (qa, d)) := Lib.hid (fun h => ha (congrArg Prod.fst h))
    have hab : (pa == qa) = false := by simpa using ha
    go_enter Tryd.func31, Tryd.ntmps31
    go_wp2
    go_ret
    exact ⟨by rw [decide_eq_false HN.out]; rfl, hg⟩

set_option maxHeartbeats 2000000 in
theorem eqFns_any (a b : Option Addr) (la ca lb cb : Nat) (ps qs : List Fun) (w : World) (hp : FnsAt w a la ca ps) (hq : FnsAt w b lb cb qs) :
    Calls Tryd.prog 30 #[.slice a la ca, .slice b lb cb, .func (.func 31) #[] #[]] w fun e w' => e = .returned (.bool (decide (ps = qs))) ∧ Below w.heap.size w w' := by
  obtain ⟨d1, d2, d3, d5⟩ := hp
  obtain ⟨f1, f2, f3, f5⟩ := hq
  have hlm : la ≤ 9223372036854775807 := by unfold maxLen at d3; omega
  have hlm' : lb ≤ 9223372036854775807 := by unfold maxLen at f3; omega
  have D1 := Lib.hid d1
  have F1 := Lib.hid f1
  have H5 := Lib.hid d5
  have G5 := Lib.hid f5
  clear d1 f1 d5 f5 d3 f3
  by_cases hl : la = lb
  · subst hl
    go_enter Tryd.func30, Tryd.ntmps30
    go_wp2
    go_loopw [17] (fun i w2 => ∃ t : Nat, t ≤ la ∧ i = .int .i64 t ∧ Hid (∀ j, j < t → ps.getD j zeroF = qs.getD j zeroF) ∧ Below w.heap.size w w2) (fun i _ => la - (intOf i).toNat)
    case atStart => exact ⟨0, by omega, rfl, Lib.hid (fun j hj => absurd hj (by omega)), Below.refl _ _⟩
    case round =>
      obtain ⟨t, ht, rfl, HT, hb⟩ := hrel
      by_cases htl : t < la
      · have htI : (t : Int) < (la : Int) := by omega
        obtain ⟨z, rfl, hz⟩ := H5.out.resolve_left (by omega)
        obtain ⟨z', rfl, hz'⟩ := G5.out.resolve_left (by omega)
        have hA := FnHere.below (hz t htl) hb
        have hB := FnHere.below (hz' t htl) hb
        rcases hi : ps.getD t zeroF with ⟨pa, pc⟩
        rcases hj : qs.getD t zeroF with ⟨qa, qc⟩
        rw [hi] at hA
        rw [hj] at hB
        have HI2 := Lib.hid hi
        have HJ2 := Lib.hid hj
        obtain ⟨i0, b0, l0, cc0, i1, hC⟩ := hA
        obtain ⟨j0, b1, l1, cc1, j1, hD⟩ := hB
        simp only at i0 i1 j0 j1 hC hD
        have lx := lt_of_cell j0
        have ly := lt_of_cell j1
        have hb2 : Below wr.heap.size wr ((wr.alloc (.cells #[.int .i64 pa, .slice b0 l0 cc0] 28)).alloc (.cells #[.int .i64 qa, .slice b1 l1 cc1] 28)) := ((Below.refl _ _).alloc (Nat.le_refl _) _).alloc (by simp) _
        have HC := Lib.hid (hC.below hb2)
        have HD := Lib.hid (hD.below hb2)
        replace hb := hb.trans (hb2.mono hb.size)
        clear hi hj hz hz' hC hD hb2
        go_wp2_with fail
        refine (sameFn_any pa qa b0 b1 l0 cc0 l1 cc1 pc qc _ HC.out HD.out).mono ?_
        rintro e w' ⟨rfl, hg3⟩
        replace hb := hb.trans (hg3.mono hb.size)
        clear i0 i1 j0 j1 lx ly hg3 HC HD
        rcases hq : decide (((pa, pc) : Fun) = (qa, qc)) with _ | _
        · have HN : Hid (ps ≠ qs) := Lib.hid (fun h => by
            have h3 := HI2.out
            rw [h, HJ2.out] at h3
            exact absurd h3.symm (of_decide_eq_false hq))
          go_wp2
          go_ret
          exact ⟨by rw [decide_eq_false HN.out]; rfl, hb⟩
        · have HE2 : Hid (ps.getD t zeroF = qs.getD t zeroF) := Lib.hid (by
            rw [HI2.out, HJ2.out]
            exact of_decide_eq_true hq)
          go_wp2
          go_roundw
          case rel =>
            refine ⟨t + 1, by omega, by go_num, Lib.hid (fun j hj => ?_), hb⟩
            rcases Nat.lt_succ_iff_lt_or_eq.1 hj with hj | rfl
            · exact HT.out j hj
            · exact HE2.out
          case measure => simp [intOf]; omega
      · have HPC : Hid (ps = qs) := Lib.hid (list_eq_getD zeroF ps qs (by rw [D1.out, F1.out]) (fun j hj => HT.out j (by rw [D1.out] at hj; omega)))
        go_wp2
        go_ret
        exact ⟨by simp [HPC.out], hb⟩
  · have hlI : ¬ (la : Int) = (lb : Int) := by omega
    have HN : Hid (ps ≠ qs) := Lib.hid (fun h => by
      apply hl
      rw [← D1.out, ← F1.out, h])
    go_enter Tryd.func30, Tryd.ntmps30
    go_wp2
    go_ret
    exact ⟨by rw [decide_eq_false HN.out]; rfl, Below.refl _ _⟩

theorem prSame_any (a b : Option Addr) (la ca lb cb : Nat) (ps qs : List Fun) (w : World) (hp : FnsAt w a la ca ps) (hq : FnsAt w b lb cb qs) :
    Calls Tryd.prog 22 #[.agg #[.slice a la ca], .agg #[.slice b lb cb]] w fun e w' => e = .returned (.bool (decide (ps = qs))) ∧ Below w.heap.size w w' := by
  have hg : Below w.heap.size w ((w.alloc (.cells #[.slice a la ca] 24)).alloc (.cells #[.slice b lb cb] 24)) := ((Below.refl _ _).alloc (Nat.le_refl _) _).alloc (by simp) _
  have HP := Lib.hid (hp.below hg)
  have HQ := Lib.hid (hq.below hg)
  clear hp hq
  go_enter Tryd.func22, Tryd.ntmps22
  go_wp2_with fail
  refine (eqFns_any a b la ca lb cb ps qs _ HP.out HQ.out).mono ?_
  rintro e w' ⟨rfl, hg2⟩
  replace hg := hg.trans (hg2.mono hg.size)
  clear hg2
  go_wp2
  go_ret
  exact ⟨rfl, hg⟩

/- the reference's Same, whatever the two programs are -/
theorem rSame_any (a b : Option Addr) (la ca lb cb : Nat) (ps qs : List Fun) (w : World) (hp : FnsAt w a la ca ps) (hq : FnsAt w b lb cb qs) :
    Calls Tryd.prog 17 #[.agg #[.slice a la ca], .agg #[.slice b lb cb]] w fun e w' => e = .returned (.bool (decide (ps = qs))) ∧ Below w.heap.size w w' := by
  by_cases hl : la = lb
  · subst hl
    by_cases h0 : la = 0
    · subst h0
      have e : decide (ps = qs) = true := by
        have h1 := List.length_eq_zero_iff.1 hp.1
        have h2 := List.length_eq_zero_iff.1 hq.1
        simp [h1, h2]
      rw [e]
      exact same_nil a b ca cb w
    · obtain ⟨x, rfl, _⟩ := hp.2.2.2.resolve_left h0
      obtain ⟨y, rfl, _⟩ := hq.2.2.2.resolve_left h0
      exact same_some x y la ca cb ps qs w hp hq (by omega)
  · have e : decide (ps = qs) = false := decide_eq_false (fun h => hl (by rw [← hp.1, ← hq.1, h]))
    rw [e]
    exact same_len a b la ca lb cb w hl (Nat.le_trans hp.2.1 hp.2.2.1) (Nat.le_trans hq.2.1 hq.2.2.1)
end Go.Proofs.YtlbhmopmfddhjaaDoor
