/-
  What the fifth reference's May and keyed return, as contracts over the translated program: whether a table is valid.
-/
import Derived.Test.YtilddlgcfbefiaaDoorGtb
import Derived.Test.YtilddlgcfbefiaaDoorGrg
import Derived.Deep.Cut
import Derived.Deep.CutRange
namespace Go.Proofs.YtilddlgcfbefiaaDoor
set_option linter.unusedSimpArgs false
set_option linter.unusedVariables false
open Go Go.RowKit

theorem headB_iff {t : Tb} : headB t = true ↔ mayT t.1 = true ∧ (t.2.1.length : Int) ≤ t.1.2.1 ∧ (t.1.1 = 3 ∨ t.2.2 = 0) ∧ (t.1.1 ≠ 0 ∨ t.1.2.1 ≤ (t.2.1.length : Int)) := by
  simp only [headB, Bool.and_eq_true, Bool.or_eq_true, decide_eq_true_iff]
theorem entB_iff {t : Tb} {i : Nat} : entB t i = true ↔ ((t.2.1.getD i zeroE).2.length : Int) = t.1.2.2.1 ∧ atE t.2.1 (t.2.1.getD i zeroE).1 = some i ∧ (t.1.1 ≠ 0 ∨ (t.2.1.getD i zeroE).1 = (i : Int)) ∧ (t.1.1 ≠ 3 ∨ ((t.2.1.getD i zeroE).1 + ((t.2.1.length : Int) - (i : Int))) % 4294967296 = t.2.2) := by
  simp only [entB, Bool.and_eq_true, Bool.or_eq_true, decide_eq_true_iff]
theorem bool_no {b : Bool} (h : ¬ b = true) : b = false := by simpa using h
theorem wW (n : Int) : IntKind.u32.wrap n = n % 4294967296 := by
  simp [IntKind.wrap, IntKind.bits, IntKind.signed]

theorem wI' (n : Int) (h0 : -9223372036854775808 ≤ n) (h1 : n < 9223372036854775808) : IntKind.i64.wrap n = n := by
  simp [IntKind.wrap, IntKind.bits, IntKind.signed]
  omega
set_option maxRecDepth 100000 in
set_option maxHeartbeats 20000000 in
theorem mayTb_any (s : Sc) (a : Option Addr) (len cap : Nat) (x : Int) (es : List Ent) (w : World) (h : EntsAt w a len cap es) :
    Calls Tryd.prog 84 #[tbV s (.slice a len cap) x] w fun e w' => e = .returned (.bool (mayTb (s, es, x))) ∧ Below w.heap.size w w' := by
  rcases s with ⟨s0, s1, s2, s3⟩
  have hm := h.max
  obtain ⟨W0, hW0⟩ : ∃ W0, w.alloc (.cells #[.int .i64 s0, .int .i64 s1, .int .i64 s2, .int .i64 s3, .slice a len cap, .int .u32 x] 42) = W0 := ⟨_, rfl⟩
  have hb0 : Below w.heap.size w W0 := by rw [← hW0]; exact (Below.refl _ _).alloc (Nat.le_refl _) _
  have HT : Hid (TbAt W0 w.heap.size (s0, s1, s2, s3) (.slice a len cap) x) := by rw [← hW0]; exact Lib.hid (tbAt_new w (s0, s1, s2, s3) (.slice a len cap) x)
  have HEs := Lib.hid (h.below hb0)
  have H1 := Lib.hid h.1
  obtain ⟨R, hR⟩ : ∃ R, mayTb ((s0, s1, s2, s3), es, x) = R := ⟨_, rfl⟩
  rw [hR]
  have HR := Lib.hid hR
  obtain ⟨d0, d1, d2, d3, d4, d5⟩ := HT.out
  simp only at d0 d1 d2 d3 d4 d5
  clear h hR
  go_enter Tryd.func84, Tryd.ntmps84
  go_wp2_with fail
  refine (rmay_any s0 s1 s2 s3 _).mono ?_
  rintro e w1 ⟨rfl, hg⟩
  clear d0 d1 d2 d3 d4 d5 hW0
  replace HT := Lib.hid (HT.out.later hg)
  replace HEs := Lib.hid (HEs.out.below hg)
  have hb1 := hb0.trans (hg.mono hb0.size)
  clear hg hb0
  obtain ⟨d0, d1, d2, d3, d4, d5⟩ := HT.out
  simp only at d0 d1 d2 d3 d4 d5
  have HNo : Hid (headB ((s0, s1, s2, s3), es, x) = false → R = false) := Lib.hid (fun h => by rw [← HR.out]; exact mayTb_no_head h)
  rcases hM : mayS s0 s1 s2 s3 with _ | _
  · have HF := Lib.hid (HNo.out (bool_no (fun h => by
      have := (headB_iff.1 h).1
      rw [show mayT (s0, s1, s2, s3) = mayS s0 s1 s2 s3 from rfl, hM] at this
      cases this)))
    go_wp2
    go_ret
    exact ⟨by rw [HF.out]; rfl, hb1⟩
  by_cases hc1 : s1 < (len : Int)
  · have HF := Lib.hid (HNo.out (bool_no (fun h => by
      have := (headB_iff.1 h).2.1
      rw [H1.out] at this
      simp only at this
      omega)))
    go_wp2
    go_ret
    exact ⟨by rw [HF.out]; rfl, hb1⟩
  by_cases hc2 : ¬ s0 = 3 ∧ ¬ x = 0
  · have HF := Lib.hid (HNo.out (bool_no (fun h => by
      have := (headB_iff.1 h).2.2.1
      simp only at this
      omega)))
    have q1 : (s0 != 3) = true := by simpa using hc2.1
    have q2 : (x != 0) = true := by simpa using hc2.2
    clear hc2
    go_wp2
    go_ret
    exact ⟨by rw [HF.out]; rfl, hb1⟩
  by_cases hc3 : s0 = 0 ∧ (len : Int) < s1
  · have HF := Lib.hid (HNo.out (bool_no (fun h => by
      have := (headB_iff.1 h).2.2.2
      rw [H1.out] at this
      simp only at this
      omega)))
    have q1 : (s0 != 3) = true := by simp; omega
    have q2 : (x != 0) = false := by simp; omega
    have q3 : (s0 == 0) = true := by simp; omega
    have q4 : (len : Int) < s1 := hc3.2
    clear hc3 hc2
    go_wp2
    go_ret
    exact ⟨by rw [HF.out]; rfl, hb1⟩
  have hP := mayS_iff.1 hM
  have HHead : Hid (headB ((s0, s1, s2, s3), es, x) = true) := Lib.hid (headB_iff.2 (by
    rw [show ((((s0, s1, s2, s3), es, x) : Tb).2.1.length : Int) = (len : Int) by rw [H1.out]]
    refine ⟨hM, by simp only; omega, by simp only; omega, by simp only; omega⟩))
  have h16 : len ≤ 16 := by omega
  have hc1I : decide (s1 < (len : Int)) = false := by simp; omega
  clear hc1
  go_upto_region 3 with fail
  go_cut [45] from 7 to 45 (fun c wc => c = .bool false ∧ w1 = wc)
  case first =>
    by_cases e3 : s0 = 3
    · have k3 : (s0 != 3) = false := by simpa using e3
      have k0 : (s0 == 0) = false := by simp; omega
      clear hc2 hc3 hP e3
      go_wp2
      go_meet
      exact ⟨rfl, rfl⟩
    have k3 : (s0 != 3) = true := by simpa using e3
    have kx : (x != 0) = false := by simp; omega
    by_cases e0 : s0 = 0
    · have k0 : (s0 == 0) = true := by simpa using e0
      have hcI : ¬ (len : Int) < s1 := by omega
      clear hc2 hc3 hP e3 e0
      go_wp2
      go_meet
      exact ⟨rfl, rfl⟩
    have k0 : (s0 == 0) = false := by simpa using e0
    clear hc2 hc3 hP e3 e0
    go_wp2
    go_meet
    exact ⟨rfl, rfl⟩
  case rest =>
    obtain ⟨rfl, rfl⟩ := hcut
    clear hc2 hc3 hP
    go_wp2_with fail
    go_loopw [5] (fun i wr => ∃ k : Nat, k ≤ len ∧ i = .int .i64 k ∧ Hid (∀ j, j < k → entB ((s0, s1, s2, s3), es, x) j = true) ∧ Below w1.heap.size w1 wr) (fun i _ => len - (intOf i).toNat)
    case atStart => exact ⟨0, by omega, rfl, Lib.hid (fun j hj => absurd hj (by omega)), Below.refl _ _⟩
    case round =>
      obtain ⟨k, hk, rfl, HF0, hq⟩ := hrel
      have hbr := hb1.trans (hq.mono hb1.size)
      clear d0 d1 d2 d3 d4 d5
      obtain ⟨d0, d1, d2, d3, d4, d5⟩ := HT.out.later hq
      simp only at d0 d1 d2 d3 d4 d5
      by_cases hkl : k < len
      · have hkI : (k : Int) < (len : Int) := by omega
        have hk0 : (0 : Int) ≤ (k : Int) := Int.natCast_nonneg _
        have HEr := Lib.hid (HEs.out.below hq)
        obtain ⟨y, rfl, hy⟩ := HEr.out.2.2.2.resolve_left (by omega)
        have hE := hy k hkl
        rcases hi : es.getD k zeroE with ⟨z, ws⟩
        rw [hi] at hE
        have HI := Lib.hid hi
        obtain ⟨c0, hz, p, lp, cp, c1, hW⟩ := hE
        simp only at c0 hz c1 hW
        have HLw := Lib.hid hW.1
        have hlm := hW.max
        have hz0 : 0 ≤ z ∧ z ≤ 4294967295 := hz
        have hzw := wI z (by omega) (by omega)
        have HK : Hid (∀ w', Below wr.heap.size wr w' → w'.cell? ⟨w.heap.size, 0, none⟩ = some (.int .i64 s0) ∧ w'.cell? ⟨w.heap.size, 1, none⟩ = some (.int .i64 s1) ∧ w'.cell? ⟨w.heap.size, 2, none⟩ = some (.int .i64 s2) ∧ w'.cell? ⟨w.heap.size, 3, none⟩ = some (.int .i64 s3) ∧ w'.cell? ⟨w.heap.size, 4, none⟩ = some (.slice (some y) len cap) ∧ w'.cell? ⟨w.heap.size, 5, none⟩ = some (.int .u32 x) ∧ w'.cell? ⟨(y.add (k * 2)).block, (y.add (k * 2)).off + 1, none⟩ = some (.slice p lp cp) ∧ Below wr.heap.size wr w') := Lib.hid (fun w' h => by
          obtain ⟨f0, f1, f2, f3, f4, f5⟩ := TbAt.later (s := (s0, s1, s2, s3)) ⟨d0, d1, d2, d3, d4, d5⟩ h
          exact ⟨f0, f1, f2, f3, f4, f5, (h.cell (lt_of_cell c1)).trans c1, h⟩)
        have hP0 : Below wr.heap.size wr wr.drew := (Below.refl _ _).drew
        clear hi hW hy hz
        by_cases hw : ¬ (lp : Int) = s2
        · have HF : Hid (R = false) := Lib.hid (by
            rw [← HR.out]
            refine mayTb_no_ent (i := k) (by simp only; rw [H1.out]; exact hkl) (bool_no (fun h => ?_))
            have h' := entB_iff.1 h
            rw [HI.out] at h'
            simp only at h'
            rw [HLw.out] at h'; exact hw h'.1)
          have hwI : ((lp : Int) != s2) = true := by simpa using hw
          clear hw
          go_wp2_with fail
          go_quiet (fail)
          go_wp2
          go_ret
          exact ⟨by rw [HF.out]; rfl, belowDrewN hbr _⟩
        replace hw := Decidable.not_not.1 hw
        have hwI : ((lp : Int) != s2) = false := by simpa using hw
        have HW2 := Lib.hid hw
        clear hw
        obtain ⟨az, haz⟩ : ∃ az, atI es z = az := ⟨_, rfl⟩
        have HAt := Lib.hid (at_any (s0, s1, s2, s3) (some y) len cap x z es wr.drew (HEr.out.below hP0))
        rw [haz] at HAt
        have HAz := Lib.hid haz
        clear haz
        go_wp2_with fail
        refine wp_region_held_drew (S := (fun w' => w'.cell? ⟨w.heap.size, 0, none⟩ = some (.int .i64 s0) ∧ w'.cell? ⟨w.heap.size, 1, none⟩ = some (.int .i64 s1) ∧ w'.cell? ⟨w.heap.size, 2, none⟩ = some (.int .i64 s2) ∧ w'.cell? ⟨w.heap.size, 3, none⟩ = some (.int .i64 s3) ∧ w'.cell? ⟨w.heap.size, 4, none⟩ = some (.slice (some y) len cap) ∧ w'.cell? ⟨w.heap.size, 5, none⟩ = some (.int .u32 x) ∧ w'.cell? ⟨(y.add (k * 2)).block, (y.add (k * 2)).off + 1, none⟩ = some (.slice p lp cp) ∧ Below wr.heap.size wr w')) (by kernel_rfl) (HK.out _ hP0) (fun hHeld => ?_)
        refine wpAnyH_yield (i := 0) (v := ?vt0) rfl rfl (by kernel_rfl) (by kernel_rfl) (by kernel_rfl) (fun _ _ _ h => h) (by rfl) ?hyt0 hHeld ?restt0
        case hyt0 =>
          intro w hSw
          (try dsimp only at hSw)
          go_simp
          try with_reducible rfl
        simp only [Act.put, List.setIfInBounds_toArray, List.set_cons_zero, List.set_cons_succ]
        refine wpAnyH_yield (i := 1) (v := ?vt1) rfl rfl (by kernel_rfl) (by kernel_rfl) (by kernel_rfl) (fun _ _ _ h => h) (by rfl) ?hyt1 hHeld ?restt1
        case hyt1 =>
          intro w hSw
          (try dsimp only at hSw)
          go_simp
          try with_reducible rfl
        simp only [Act.put, List.setIfInBounds_toArray, List.set_cons_zero, List.set_cons_succ]
        refine wpAnyH_yield (i := 2) (v := ?vt2) rfl rfl (by kernel_rfl) (by kernel_rfl) (by kernel_rfl) (fun _ _ _ h => h) (by rfl) ?hyt2 hHeld ?restt2
        case hyt2 =>
          intro w hSw
          (try dsimp only at hSw)
          go_simp
          try with_reducible rfl
        simp only [Act.put, List.setIfInBounds_toArray, List.set_cons_zero, List.set_cons_succ]
        refine wpAnyH_yield (i := 3) (v := ?vt3) rfl rfl (by kernel_rfl) (by kernel_rfl) (by kernel_rfl) (fun _ _ _ h => h) (by rfl) ?hyt3 hHeld ?restt3
        case hyt3 =>
          intro w hSw
          (try dsimp only at hSw)
          go_simp
          try with_reducible rfl
        simp only [Act.put, List.setIfInBounds_toArray, List.set_cons_zero, List.set_cons_succ]
        refine wpAnyH_yield (i := 4) (v := ?vt4) rfl rfl (by kernel_rfl) (by kernel_rfl) (by kernel_rfl) (fun _ _ _ h => h) (by rfl) ?hyt4 hHeld ?restt4
        case hyt4 =>
          intro w hSw
          (try dsimp only at hSw)
          go_simp
          try with_reducible rfl
        simp only [Act.put, List.setIfInBounds_toArray, List.set_cons_zero, List.set_cons_succ]
        refine wpAnyH_yield (i := 5) (v := ?vt5) rfl rfl (by kernel_rfl) (by kernel_rfl) (by kernel_rfl) (fun _ _ _ h => h) (by rfl) ?hyt5 hHeld ?restt5
        case hyt5 =>
          intro w hSw
          (try dsimp only at hSw)
          go_simp
          try with_reducible rfl
        simp only [Act.put, List.setIfInBounds_toArray, List.set_cons_zero, List.set_cons_succ]
        refine wpAnyH_yield (i := 6) (v := ?vt6) rfl rfl (by kernel_rfl) (by kernel_rfl) (by kernel_rfl) (fun _ _ _ h => h) (by rfl) ?hyt6 hHeld ?restt6
        case hyt6 =>
          intro w hSw
          (try dsimp only at hSw)
          go_simp
          try with_reducible rfl
        simp only [Act.put, List.setIfInBounds_toArray, List.set_cons_zero, List.set_cons_succ]
        refine wpAnyH_yield (i := 7) (v := ?vt7) rfl rfl (by kernel_rfl) (by kernel_rfl) (by kernel_rfl) (fun _ _ _ h => h) (by rfl) ?hyt7 hHeld ?restt7
        case hyt7 =>
          intro w hSw
          (try dsimp only at hSw)
          go_simp
          try with_reducible rfl
        simp only [Act.put, List.setIfInBounds_toArray, List.set_cons_zero, List.set_cons_succ]
        refine wpAnyH_yield (i := 8) (v := ?vt8) rfl rfl (by kernel_rfl) (by kernel_rfl) (by kernel_rfl) (fun _ _ _ h => h) (by rfl) ?hyt8 hHeld ?restt8
        case hyt8 =>
          intro w hSw
          (try dsimp only at hSw)
          go_simp
          try with_reducible rfl
        simp only [Act.put, List.setIfInBounds_toArray, List.set_cons_zero, List.set_cons_succ]
        refine wpAnyH_yield (i := 9) (v := ?vt9) rfl rfl (by kernel_rfl) (by kernel_rfl) (by kernel_rfl) (fun _ _ _ h => h) (by rfl) ?hyt9 hHeld ?restt9
        case hyt9 =>
          intro w hSw
          (try dsimp only at hSw)
          go_simp
          try with_reducible rfl
        simp only [Act.put, List.setIfInBounds_toArray, List.set_cons_zero, List.set_cons_succ]
        refine wpAnyH_yield (i := 10) (v := ?vt10) rfl rfl (by kernel_rfl) (by kernel_rfl) (by kernel_rfl) (fun _ _ _ h => h) (by rfl) ?hyt10 hHeld ?restt10
        case hyt10 =>
          intro w hSw
          (try dsimp only at hSw)
          go_simp
          try with_reducible rfl
        simp only [Act.put, List.setIfInBounds_toArray, List.set_cons_zero, List.set_cons_succ]
        refine wpAnyH_yield (i := 11) (v := ?vt11) rfl rfl (by kernel_rfl) (by kernel_rfl) (by kernel_rfl) (fun _ _ _ h => h) (by rfl) ?hyt11 hHeld ?restt11
        case hyt11 =>
          intro w hSw
          (try dsimp only at hSw)
          go_simp
          try with_reducible rfl
        simp only [Act.put, List.setIfInBounds_toArray, List.set_cons_zero, List.set_cons_succ]
        refine wpAnyH_yield (i := 12) (v := ?vt12) rfl rfl (by kernel_rfl) (by kernel_rfl) (by kernel_rfl) (fun _ _ _ h => h) (by rfl) ?hyt12 hHeld ?restt12
        case hyt12 =>
          intro w hSw
          (try dsimp only at hSw)
          go_simp
          try with_reducible rfl
        simp only [Act.put, List.setIfInBounds_toArray, List.set_cons_zero, List.set_cons_succ]
        refine wpAnyH_yield (i := 13) (v := ?vt13) rfl rfl (by kernel_rfl) (by kernel_rfl) (by kernel_rfl) (fun _ _ _ h => h) (by rfl) ?hyt13 hHeld ?restt13
        case hyt13 =>
          intro w hSw
          (try dsimp only at hSw)
          go_simp
          try with_reducible rfl
        simp only [Act.put, List.setIfInBounds_toArray, List.set_cons_zero, List.set_cons_succ]
        refine wpAnyH_yield (i := 15) (v := ?vt15) rfl rfl (by kernel_rfl) (by kernel_rfl) (by kernel_rfl) (fun _ _ _ h => h) (by rfl) ?hyt15 hHeld ?restt15
        case hyt15 =>
          intro w hSw
          (try dsimp only at hSw)
          go_simp
          try with_reducible rfl
        simp only [Act.put, List.setIfInBounds_toArray, List.set_cons_zero, List.set_cons_succ]
        refine wpAnyH_ready (rs := [14]) (by kernel_rfl) (by simp) ?_
        refine AllReadyH.cons rfl (fun K hK => ?_) AllReadyH.nil
        go_simp
        refine HAt.out.mono ?_
        rintro e w5 ⟨rfl, hg5⟩
        have hP5 := hP0.trans (hg5.mono hP0.size)
        go_wp2_with fail
        refine hK.out _ _ (HK.out _ hP5) (fun hHeld => ?_)
        clear hK K
        try simp only [Act.put, List.setIfInBounds_toArray, List.set_cons_zero, List.set_cons_succ]
        refine wpAnyH_yield (i := 16) (v := ?vt16) rfl rfl (by kernel_rfl) (by kernel_rfl) (by kernel_rfl) (fun _ _ _ h => h) (by rfl) ?hyt16 hHeld ?restt16
        case hyt16 =>
          intro w hSw
          (try dsimp only at hSw)
          go_simp
          try with_reducible rfl
        simp only [Act.put, List.setIfInBounds_toArray, List.set_cons_zero, List.set_cons_succ]
        refine wpAnyH_yield (i := 17) (v := ?vt17) rfl rfl (by kernel_rfl) (by kernel_rfl) (by kernel_rfl) (fun _ _ _ h => h) (by rfl) ?hyt17 hHeld ?restt17
        case hyt17 =>
          intro w hSw
          (try dsimp only at hSw)
          go_simp
          try with_reducible rfl
        simp only [Act.put, List.setIfInBounds_toArray, List.set_cons_zero, List.set_cons_succ]
        refine wpAnyH_done (by kernel_rfl) ?_ _
        clear hg5 hHeld
        obtain ⟨d0, d1, d2, d3, d4, d5⟩ := TbAt.later (s := (s0, s1, s2, s3)) ⟨d0, d1, d2, d3, d4, d5⟩ hP5
        simp only at d0 d1 d2 d3 d4 d5
        by_cases ha : ¬ az = (k : Int)
        · have HF : Hid (R = false) := Lib.hid (by
            rw [← HR.out]
            refine mayTb_no_ent (i := k) (by simp only; rw [H1.out]; exact hkl) (bool_no (fun h => ?_))
            have h' := entB_iff.1 h
            rw [HI.out] at h'
            simp only at h'
            rw [← HAz.out] at ha; exact ha (atI_iff.2 h'.2.1))
          have haI : (az != (k : Int)) = true := by simpa using ha
          clear ha
          go_wp2
          go_ret
          exact ⟨by rw [HF.out]; rfl, hbr.trans (hP5.mono hbr.size)⟩
        replace ha := Decidable.not_not.1 ha
        have haI : (az != (k : Int)) = false := by simpa using ha
        have HA2 := Lib.hid (HAz.out.trans ha)
        clear ha
        by_cases e3 : s0 = 3
        · have k3' : (s0 == 3) = true := by simpa using e3
          have k0 : (s0 == 0) = false := by simp; omega
          have hu1 : IntKind.u32.wrap ((len : Int) - (k : Int)) = (len : Int) - (k : Int) := by rw [wW]; omega
          have hu2 := wW (z + ((len : Int) - (k : Int)))
          have hu3 := wI' ((len : Int) - (k : Int)) (by omega) (by omega)
          by_cases hz : ¬ (z + ((len : Int) - (k : Int))) % 4294967296 = x
          · have HF : Hid (R = false) := Lib.hid (by
              rw [← HR.out]
              refine mayTb_no_ent (i := k) (by simp only; rw [H1.out]; exact hkl) (bool_no (fun h => ?_))
              have h' := entB_iff.1 h
              rw [HI.out] at h'
              simp only at h'
              rw [H1.out] at h'; exact hz (h'.2.2.2.resolve_left (by omega)))
            have hzI : ((z + ((len : Int) - (k : Int))) % 4294967296 != x) = true := by simpa using hz
            clear hz
            go_wp2
            go_ret
            exact ⟨by rw [HF.out]; rfl, hbr.trans (hP5.mono hbr.size)⟩
          · replace hz := Decidable.not_not.1 hz
            have hzI : ((z + ((len : Int) - (k : Int))) % 4294967296 != x) = false := by simpa using hz
            have HZ2 := Lib.hid hz
            clear hz
            go_wp2
            refine ⟨⟨k + 1, by omega, by go_num, Lib.hid (fun j hj => ?_), hq.trans (hP5.mono hq.size)⟩, by simp [intOf]; omega⟩
            rcases Nat.lt_succ_iff_lt_or_eq.1 hj with hj | rfl
            · exact HF0.out j hj
            · refine entB_iff.2 ?_
              rw [HI.out]
              simp only
              refine ⟨by rw [HLw.out]; exact HW2.out, atI_iff.1 HA2.out, .inl (by omega), .inr (by rw [H1.out]; exact HZ2.out)⟩
        have k3' : (s0 == 3) = false := by simpa using e3
        by_cases e0 : s0 = 0
        · have k0 : (s0 == 0) = true := by simpa using e0
          by_cases hz : ¬ z = (k : Int)
          · have HF : Hid (R = false) := Lib.hid (by
              rw [← HR.out]
              refine mayTb_no_ent (i := k) (by simp only; rw [H1.out]; exact hkl) (bool_no (fun h => ?_))
              have h' := entB_iff.1 h
              rw [HI.out] at h'
              simp only at h'
              omega)
            have hzI : (z != (k : Int)) = true := by simpa using hz
            clear hz
            go_wp2
            go_ret
            exact ⟨by rw [HF.out]; rfl, hbr.trans (hP5.mono hbr.size)⟩
          · replace hz := Decidable.not_not.1 hz
            have hzI : (z != (k : Int)) = false := by simpa using hz
            have HZ2 := Lib.hid hz
            clear hz
            go_wp2
            refine ⟨⟨k + 1, by omega, by go_num, Lib.hid (fun j hj => ?_), hq.trans (hP5.mono hq.size)⟩, by simp [intOf]; omega⟩
            rcases Nat.lt_succ_iff_lt_or_eq.1 hj with hj | rfl
            · exact HF0.out j hj
            · refine entB_iff.2 ?_
              rw [HI.out]
              simp only
              refine ⟨by rw [HLw.out]; exact HW2.out, atI_iff.1 HA2.out, .inr HZ2.out, .inl (by omega)⟩
        have k0 : (s0 == 0) = false := by simpa using e0
        go_wp2
        refine ⟨⟨k + 1, by omega, by go_num, Lib.hid (fun j hj => ?_), hq.trans (hP5.mono hq.size)⟩, by simp [intOf]; omega⟩
        rcases Nat.lt_succ_iff_lt_or_eq.1 hj with hj | rfl
        · exact HF0.out j hj
        · refine entB_iff.2 ?_
          rw [HI.out]
          simp only
          refine ⟨by rw [HLw.out]; exact HW2.out, atI_iff.1 HA2.out, .inl (by omega), .inl (by omega)⟩
      · have hkI : ¬ (k : Int) < (len : Int) := by omega
        have HF : Hid (R = true) := Lib.hid (by
          rw [← HR.out]
          exact mayTb_mk HHead.out (fun j hj => HF0.out j (by simp only at hj; rw [H1.out] at hj; omega)))
        go_wp2
        go_ret
        exact ⟨by rw [HF.out]; rfl, hbr⟩
end Go.Proofs.YtilddlgcfbefiaaDoor
