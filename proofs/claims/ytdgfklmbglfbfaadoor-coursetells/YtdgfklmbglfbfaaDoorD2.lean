/-
  What package course's Budget returns, as a contract over the translated program.
-/
import Derived.Test.YtdgfklmbglfbfaaDoorD1
import Derived.Test.YtdgfklmbglfbfaaDoorY1
namespace Go.Proofs.YtdgfklmbglfbfaaDoor
open Go Go.RowKit
set_option linter.unusedVariables false
theorem ints8 (W : World) : Vals (W.alloc (.cells #[.int .i64 0, .int .i64 0, .int .i64 0, .int .i64 0, .int .i64 0, .int .i64 0, .int .i64 0, .int .i64 0] 61)) W.heap.size 61 8 (fun _ => .int .i64 0) := by
  refine ⟨_, Box.new _ _ _, rfl, fun p hp => ?_⟩
  match p, hp with
  | 0, _ => rfl
  | 1, _ => rfl
  | 2, _ => rfl
  | 3, _ => rfl
  | 4, _ => rfl
  | 5, _ => rfl
  | 6, _ => rfl
  | 7, _ => rfl
  | p + 8, h => omega
theorem cstJ_le (fs : List Fun) : ∀ j p, 0 ≤ (cstJ fs j).getD p 0 ∧ (cstJ fs j).getD p 0 ≤ 1000000
  | 0, p => by
    rw [cstJ, List.getD_eq_getElem?_getD, List.getElem?_replicate]
    split <;> simp
  | j + 1, p => by
    have h1 := longP_le (cstJ fs j) (fs.getD (fs.length - 1 - j) zeroF).2
    have h2 := cstJ_le fs j p
    rw [cstJ, List.getD_eq_getElem?_getD, List.getElem?_set]
    split
    · split
      · exact h1
      · simp
    · rw [← List.getD_eq_getElem?_getD]
      exact h2
theorem cstJ_step (fs : List Fun) (j p : Nat) (hp : p < 8) : (cstJ fs (j + 1)).getD p 0 = if p = fs.length - 1 - j then longP (cstJ fs j) (fs.getD (fs.length - 1 - j) zeroF).2 else (cstJ fs j).getD p 0 := by
  rw [cstJ, List.getD_eq_getElem?_getD, List.getElem?_set]
  by_cases h : fs.length - 1 - j = p
  · rw [if_pos h, if_pos (by rw [cstJ_len]; omega), if_pos h.symm]
    rfl
  · rw [if_neg h, if_neg (fun e => h e.symm), ← List.getD_eq_getElem?_getD]
theorem mayP_len {fs : List Fun} (h : mayP fs = true) : 1 ≤ fs.length ∧ fs.length ≤ 8 := by
  simp only [mayP, Bool.and_eq_true, decide_eq_true_eq] at h
  exact h.2
set_option maxRecDepth 1000000 in
set_option maxHeartbeats 8000000 in
theorem budget_any (a : Option Addr) (len cap : Nat) (fs : List Fun) (w : World) (hR : RowsIn w) (h : FnsAt w a len cap fs) :
    Calls Tryd.prog 21 #[.agg #[.slice a len cap]] w fun e w' => e = .returned (.int .i64 (budP fs)) ∧ Below w.heap.size w w' := by
  have H := Lib.hid h
  have H1 := Lib.hid h.1
  have HRW := Lib.hid hR
  obtain ⟨R, hR0⟩ : ∃ R, budP fs = R := ⟨_, rfl⟩
  rw [hR0]
  have HT := Lib.hid hR0
  obtain ⟨P, hP⟩ : ∃ P, w.heap.size = P := ⟨_, rfl⟩
  have hba : Below w.heap.size w (w.alloc (.cells #[.slice a len cap] 26)) := (Below.refl _ _).alloc (Nat.le_refl _) _
  obtain ⟨W0, hW0⟩ : ∃ W0, w.alloc (.cells #[.slice a len cap] 26) = W0 := ⟨_, rfl⟩
  have hBx : Box W0 P 26 #[.slice a len cap] := by rw [← hW0, ← hP]; exact Box.new _ _ _
  rw [hW0] at hba
  have HB0 := Lib.hid hba
  have HBx := Lib.hid hBx
  have HPq := Lib.hid hP
  have c0 : W0.cell? ⟨P, 0, none⟩ = some (.slice a len cap) := hBx.cell rfl
  have k1 := prMay_any a len cap fs W0 (hR.later hba) (h.below hba)
  clear hR0 h hba hBx hR
  go_enter Tryd.func21, Tryd.ntmps21
  go_wp2_with fail
  clear c0 hW0 hP
  obtain ⟨Q, hQ⟩ : ∃ Q, mayP fs = Q := ⟨_, rfl⟩
  rw [hQ] at k1
  have HQ := Lib.hid hQ
  clear hQ
  refine k1.mono ?_
  rintro e m1 ⟨rfl, hb1⟩
  have HB := Lib.hid (HB0.out.trans (hb1.mono HB0.out.size))
  have HBx1 := Lib.hid (HBx.out.later hb1)
  clear k1 hb1 HB0 HBx
  cases Q
  · have hT : Hid (R = 0) := Lib.hid (by rw [← HT.out, budP, HQ.out]; simp)
    go_wp2_with fail
    go_ret
    exact ⟨by rw [hT.out]; rfl, HB.out⟩
  have hT : Hid (R = (cstJ fs len).getD 0 0) := Lib.hid (by rw [← HT.out, budP, HQ.out, H1.out]; simp)
  have hl8 : 1 ≤ len ∧ len ≤ 8 := by have := mayP_len HQ.out; have := H1.out; omega
  have hlm : len ≤ 9223372036854775807 := by omega
  obtain ⟨hl1, hl9⟩ := hl8
  have hb2 : Below m1.heap.size m1 (m1.alloc (.cells #[.int .i64 0, .int .i64 0, .int .i64 0, .int .i64 0, .int .i64 0, .int .i64 0, .int .i64 0, .int .i64 0] 61)) := (Below.refl _ _).alloc (Nat.le_refl _) _
  have HI0 : Hid (Vals (m1.alloc (.cells #[.int .i64 0, .int .i64 0, .int .i64 0, .int .i64 0, .int .i64 0, .int .i64 0, .int .i64 0, .int .i64 0] 61)) m1.heap.size 61 8 (fun p => .int .i64 ((cstJ fs 0).getD p 0)) ∧ Box (m1.alloc (.cells #[.int .i64 0, .int .i64 0, .int .i64 0, .int .i64 0, .int .i64 0, .int .i64 0, .int .i64 0, .int .i64 0] 61)) P 26 #[.slice a len cap] ∧ Below w.heap.size w (m1.alloc (.cells #[.int .i64 0, .int .i64 0, .int .i64 0, .int .i64 0, .int .i64 0, .int .i64 0, .int .i64 0, .int .i64 0] 61))) := Lib.hid ⟨(ints8 m1).same (fun p hp => by
    rw [cstJ, List.getD_eq_getElem?_getD, List.getElem?_replicate, if_pos hp]
    rfl), HBx1.out.later hb2, HB.out.trans (hb2.mono HB.out.size)⟩
  have HLt : Hid (P < m1.heap.size ∧ w.heap.size ≤ m1.heap.size) := Lib.hid ⟨HBx1.out.lt, HB.out.size⟩
  have c0 : (m1.alloc (.cells #[.int .i64 0, .int .i64 0, .int .i64 0, .int .i64 0, .int .i64 0, .int .i64 0, .int .i64 0, .int .i64 0] 61)).cell? ⟨P, 0, none⟩ = some (.slice a len cap) := HI0.out.2.1.cell rfl
  have c00 : m1.cell? ⟨P, 0, none⟩ = some (.slice a len cap) := HBx1.out.cell rfl
  clear hb2 HBx1 HB
  go_wp2_with fail
  clear c0 c00
  generalize hW2 : m1.alloc (.cells #[.int .i64 0, .int .i64 0, .int .i64 0, .int .i64 0, .int .i64 0, .int .i64 0, .int .i64 0, .int .i64 0] 61) = W2 at *
  generalize hBc : m1.heap.size = Bc at *
  clear hW2 hBc
  go_loopw [4] (fun i wr => ∃ j : Nat, j ≤ len ∧ i = .int .i64 ((len : Int) - 1 - (j : Int)) ∧ Hid (Vals wr Bc 61 8 (fun p => .int .i64 ((cstJ fs j).getD p 0)) ∧ Box wr P 26 #[.slice a len cap] ∧ Below w.heap.size w wr)) (fun i _ => (intOf i + 1).toNat)
  case atStart => exact ⟨0, by omega, by simp, HI0⟩
  case round =>
    obtain ⟨j, hj, rfl, HL1⟩ := hrel
    clear HI0
    have hj0 : (0 : Int) ≤ (j : Int) := Int.natCast_nonneg _
    by_cases hjl : j < len
    · obtain ⟨k, hk⟩ : ∃ k : Nat, (len : Int) - 1 - (j : Int) = (k : Int) := ⟨len - 1 - j, by omega⟩
      have hkN : len - 1 - j = k := by omega
      have HKq := Lib.hid hkN
      have hkI : (k : Int) < (len : Int) := by omega
      have hk0 : (0 : Int) ≤ (k : Int) := Int.natCast_nonneg _
      have hk8 : (k : Int) < 8 := by omega
      have hkl : k < len := by omega
      obtain ⟨y, rfl, hy⟩ := H.out.2.2.2.resolve_left (by omega)
      have hF := (hy k hkl).below HL1.out.2.2
      have HYl : Hid (y.block < w.heap.size) := Lib.hid (by have h := lt_of_cell (hy k hkl).1; rwa [add_block] at h)
      rcases hi : fs.getD k zeroF with ⟨args, code⟩
      rw [hi] at hF
      obtain ⟨i0, b, l, cc, i1, hCode⟩ := hF
      simp only at i0 i1 hCode
      have c0 : wr.cell? ⟨P, 0, none⟩ = some (.slice (some y) len cap) := HL1.out.2.1.cell rfl
      have HKp : Hid (∀ w', Below wr.heap.size wr w' → w'.cell? ⟨P, 0, none⟩ = some (.slice (some y) len cap) ∧ w'.cell? (y.add (k * 2)) = some (.int .i64 args) ∧ w'.cell? ⟨(y.add (k * 2)).block, (y.add (k * 2)).off + 1, none⟩ = some (.slice b l cc)) := Lib.hid (fun w' hb => ⟨(hb.cell (lt_of_cell c0)).trans c0, (hb.cell (lt_of_cell i0)).trans i0, (hb.cell (lt_of_cell i1)).trans i1⟩)
      have HRw := Lib.hid (HRW.out.later HL1.out.2.2)
      have HCode := Lib.hid hCode
      have HInts : Hid (IntsAt wr (some ⟨Bc, 0, none⟩) 8 8 (cstJ fs j)) := Lib.hid (Vals.ints HL1.out.1 (cstJ_len fs j) (by omega))
      obtain ⟨lo, hlo⟩ : ∃ lo, longP (cstJ fs j) code = lo := ⟨_, rfl⟩
      have HLo := Lib.hid hlo
      have HSt : Hid (∀ p, p < 8 → (cstJ fs (j + 1)).getD p 0 = if p = k then lo else (cstJ fs j).getD p 0) := Lib.hid (fun p hp => by
        rw [cstJ_step fs j p hp, H1.out, hkN, hi, ← hlo])
      clear hi hlo hCode hy i0 i1 c0
      rw [hk]
      go_wp2_with fail
      refine wp_region_held_drew (S := (fun w' => w'.cell? ⟨P, 0, none⟩ = some (.slice (some y) len cap) ∧ w'.cell? (y.add (k * 2)) = some (.int .i64 args) ∧ w'.cell? ⟨(y.add (k * 2)).block, (y.add (k * 2)).off + 1, none⟩ = some (.slice b l cc))) (by kernel_rfl) (HKp.out _ (Below.refl _ _).drew) (fun hHeld => ?_)
      refine wpAnyH_yield (i := 0) (v := ?v0) rfl rfl (by kernel_rfl) (by kernel_rfl) (by kernel_rfl) (fun _ _ _ h => h) (by rfl) ?hy0 hHeld ?rest0
      case hy0 =>
        intro w hSw
        (try dsimp only at hSw)
        go_simp
        try with_reducible rfl
      simp only [Act.put, List.setIfInBounds_toArray, List.set_cons_zero, List.set_cons_succ]
      refine wpAnyH_yield (i := 1) (v := ?v1) rfl rfl (by kernel_rfl) (by kernel_rfl) (by kernel_rfl) (fun _ _ _ h => h) (by rfl) ?hy1 hHeld ?rest1
      case hy1 =>
        intro w hSw
        (try dsimp only at hSw)
        go_simp
        try with_reducible rfl
      simp only [Act.put, List.setIfInBounds_toArray, List.set_cons_zero, List.set_cons_succ]
      refine wpAnyH_yield (i := 2) (v := ?v2) rfl rfl (by kernel_rfl) (by kernel_rfl) (by kernel_rfl) (fun _ _ _ h => h) (by rfl) ?hy2 hHeld ?rest2
      case hy2 =>
        intro w hSw
        (try dsimp only at hSw)
        go_simp
        try with_reducible rfl
      simp only [Act.put, List.setIfInBounds_toArray, List.set_cons_zero, List.set_cons_succ]
      refine wpAnyH_yield (i := 3) (v := ?v3) rfl rfl (by kernel_rfl) (by kernel_rfl) (by kernel_rfl) (fun _ _ _ h => h) (by rfl) ?hy3 hHeld ?rest3
      case hy3 =>
        intro w hSw
        (try dsimp only at hSw)
        go_simp
        try with_reducible rfl
      simp only [Act.put, List.setIfInBounds_toArray, List.set_cons_zero, List.set_cons_succ]
      refine wpAnyH_yield (i := 4) (v := ?v4) rfl rfl (by kernel_rfl) (by kernel_rfl) (by kernel_rfl) (fun _ _ _ h => h) (by rfl) ?hy4 hHeld ?rest4
      case hy4 =>
        intro w hSw
        (try dsimp only at hSw)
        go_simp
        try with_reducible rfl
      simp only [Act.put, List.setIfInBounds_toArray, List.set_cons_zero, List.set_cons_succ]
      refine wpAnyH_yield (i := 5) (v := ?v5) rfl rfl (by kernel_rfl) (by kernel_rfl) (by kernel_rfl) (fun _ _ _ h => h) (by rfl) ?hy5 hHeld ?rest5
      case hy5 =>
        intro w hSw
        (try dsimp only at hSw)
        go_simp
        try with_reducible rfl
      simp only [Act.put, List.setIfInBounds_toArray, List.set_cons_zero, List.set_cons_succ]
      refine wpAnyH_yield (i := 6) (v := ?v6) rfl rfl (by kernel_rfl) (by kernel_rfl) (by kernel_rfl) (fun _ _ _ h => h) (by rfl) ?hy6 hHeld ?rest6
      case hy6 =>
        intro w hSw
        (try dsimp only at hSw)
        go_simp
        try with_reducible rfl
      simp only [Act.put, List.setIfInBounds_toArray, List.set_cons_zero, List.set_cons_succ]
      refine wpAnyH_yield (i := 7) (v := ?v7) rfl rfl (by kernel_rfl) (by kernel_rfl) (by kernel_rfl) (fun _ _ _ h => h) (by rfl) ?hy7 hHeld ?rest7
      case hy7 =>
        intro w hSw
        (try dsimp only at hSw)
        go_simp
        try with_reducible rfl
      simp only [Act.put, List.setIfInBounds_toArray, List.set_cons_zero, List.set_cons_succ]
      refine wpAnyH_ready (rs := [8]) (by kernel_rfl) (by simp) ?_
      refine AllReadyH.cons rfl (fun K hK => ?_) AllReadyH.nil
      go_simp
      have c1 := long_any b l cc code (some ⟨Bc, 0, none⟩) 8 8 (cstJ fs j) wr.drew (HRw.out.later (Below.refl _ _).drew) (HCode.out.below (Below.refl _ _).drew) (HInts.out.below (Below.refl _ _).drew)
      rw [HLo.out] at c1
      refine c1.mono ?_
      rintro e m1 ⟨rfl, hb1⟩
      have HB1 : Hid (Below wr.heap.size wr m1) := Lib.hid ((Below.refl _ _).drew.trans hb1)
      clear c1 hb1
      go_wp2_with fail
      refine hK.out _ _ (HKp.out _ HB1.out) (fun hHeld => ?_)
      clear hK K
      try simp only [Act.put, List.setIfInBounds_toArray, List.set_cons_zero, List.set_cons_succ]
      refine wpAnyH_yield (i := 9) (v := ?v9) rfl rfl (by kernel_rfl) (by kernel_rfl) (by kernel_rfl) (fun _ _ _ h => h) (by rfl) ?hy9 hHeld ?rest9
      case hy9 =>
        intro w hSw
        (try dsimp only at hSw)
        go_simp
        try with_reducible rfl
      simp only [Act.put, List.setIfInBounds_toArray, List.set_cons_zero, List.set_cons_succ]
      have HB2 : Hid (Vals (m1.setCell ⟨Bc, k, none⟩ (.int .i64 lo)) Bc 61 8 (fun p => .int .i64 ((cstJ fs (j + 1)).getD p 0)) ∧ Box (m1.setCell ⟨Bc, k, none⟩ (.int .i64 lo)) P 26 #[.slice (some y) len cap] ∧ Below w.heap.size w (m1.setCell ⟨Bc, k, none⟩ (.int .i64 lo))) := Lib.hid
        ⟨((HL1.out.1.later HB1.out).put (t := k) (by omega) (.int .i64 lo)).same (fun p hp => by
          rw [HSt.out p hp]
          by_cases hpk : p = k
          · rw [if_pos hpk, if_pos hpk]
          · rw [if_neg hpk, if_neg hpk]), (HL1.out.2.1.later HB1.out).other (by have := HLt.out.1; show P ≠ Bc; omega) _, (HL1.out.2.2.trans (HB1.out.mono HL1.out.2.2.size)).setCell HLt.out.2 _⟩
      have c5 := (HL1.out.1.later HB1.out).cell (p := k) (by omega)
      have hfz := (HL1.out.1.later HB1.out).free k
      have HS5 : Hid ((fun w' => w'.cell? ⟨P, 0, none⟩ = some (.slice (some y) len cap) ∧ w'.cell? (y.add (k * 2)) = some (.int .i64 args) ∧ w'.cell? ⟨(y.add (k * 2)).block, (y.add (k * 2)).off + 1, none⟩ = some (.slice b l cc)) (m1.setCell ⟨Bc, k, none⟩ (.int .i64 lo))) := Lib.hid (by
        obtain ⟨q0, q1, q2⟩ := HKp.out _ HB1.out
        have hl := HLt.out
        have hyl := HYl.out
        have hab := add_block y (k * 2)
        have hg := grownBy_setCell m1 ⟨Bc, k, none⟩ (.int .i64 lo)
        have hn : ∀ x, x < Bc → (some x) ≠ (some Bc) := fun x hx e => by have := Option.some.inj e; omega
        exact ⟨(hg.cell_far _ (lt_of_cell q0) (hn _ hl.1)).trans q0, (hg.cell_far _ (lt_of_cell q1) (hn _ (by rw [hab]; omega))).trans q1, (hg.cell_far _ (lt_of_cell q2) (hn _ (by show (y.add (k * 2)).block < Bc; rw [hab]; omega))).trans q2⟩)
      refine wpAnyH_ready (rs := [10]) (by kernel_rfl) (by simp) ?_
      refine AllReadyH.cons rfl (fun K hK => ?_) AllReadyH.nil
      go_simp
      refine hK.out _ _ (HS5.out) (fun hHeld => ?_)
      clear hK K
      try simp only [Act.put, List.setIfInBounds_toArray, List.set_cons_zero, List.set_cons_succ]
      refine wpAnyH_done (by kernel_rfl) ?_ _
      clear hHeld c5 hfz
      go_wp2_with fail
      exact ⟨⟨j + 1, by omega, by congr 1; omega, HB2⟩, by simp [intOf] <;> omega⟩
    · have hm1 : (len : Int) - 1 - (j : Int) = -1 := by omega
      have hje : j = len := by omega
      rw [hje] at HL1
      have c0 := HL1.out.1.cell (p := 0) (by omega)
      rw [← hT.out] at c0
      rw [hm1]
      clear hje
      go_wp2_with fail
      go_ret
      exact ⟨rfl, HL1.out.2.2⟩
end Go.Proofs.YtdgfklmbglfbfaaDoor
