/-
  What the fifth reference's Pop returns, as a contract over the translated program.
-/
import Derived.Test.YtlbmgablkphioaaTR
namespace Go.Proofs.Ytlbmgablkphioaa
open Go Go.RowKit

theorem pop_no {t : Tb} (h : ¬ (mayTb t = true ∧ t.1.1 = 3 ∧ t.2.1 ≠ [])) : popT t = (t, 0, false) := by rw [popT, if_neg h]
theorem pop_yes {t : Tb} (h : mayTb t = true ∧ t.1.1 = 3 ∧ t.2.1 ≠ []) : popT t = (withoutT t 0, (t.2.1.getD 0 zeroE).2.getD 0 0, true) := by rw [popT, if_pos h]
set_option maxRecDepth 100000 in
set_option maxHeartbeats 8000000 in
theorem pop_any (s : Sc) (a : Option Addr) (len cap : Nat) (x : Int) (es : List Ent) (w : World) (h : EntsAt w a len cap es) (hf : fewE es) :
    Calls Try.prog 25 #[tbV s (.slice a len cap) x] w (TabPost3 (popT (s, es, x)).1 (fun n => w.heap.size ≤ n) (.int .u32 (popT (s, es, x)).2.1) (.bool (popT (s, es, x)).2.2) w) := by
  rcases s with ⟨s0, s1, s2, s3⟩
  have hm := h.max
  obtain ⟨W0, hW0⟩ : ∃ W0, (w.alloc (.cells #[.int .i64 s0, .int .i64 s1, .int .i64 s2, .int .i64 s3, .slice a len cap, .int .u32 x] 27)).alloc (.cells zeroTA 27) = W0 := ⟨_, rfl⟩
  have hs0 : W0.heap.size = w.heap.size + 1 + 1 := by rw [← hW0]; simp
  have hb0 : Below w.heap.size w W0 := by rw [← hW0]; exact box2 (Below.refl _ _) (Nat.le_refl _) _ _
  have HT : Hid (TbAt W0 w.heap.size (s0, s1, s2, s3) (.slice a len cap) x) := by rw [← hW0]; exact Lib.hid (tbAt_old (tbAt_new w (s0, s1, s2, s3) (.slice a len cap) x) _)
  have HR : Hid (Box W0 (w.heap.size + 1) 27 zeroTA) := by
    rw [← hW0]
    have := Box.new (w.alloc (.cells #[.int .i64 s0, .int .i64 s1, .int .i64 s2, .int .i64 s3, .slice a len cap, .int .u32 x] 27)) 27 zeroTA
    rw [show (w.alloc (.cells #[.int .i64 s0, .int .i64 s1, .int .i64 s2, .int .i64 s3, .slice a len cap, .int .u32 x] 27)).heap.size = w.heap.size + 1 by simp] at this
    exact Lib.hid this
  have HEs := Lib.hid (h.below hb0)
  have H1 := Lib.hid h.1
  have HLt : Hid (∀ y, a = some y → ¬ len = 0 → y.block < w.heap.size + 1) := Lib.hid (fun y e h0 => by
    obtain ⟨y', e', hy⟩ := h.2.2.2.resolve_left h0
    rw [e] at e'
    cases e'
    have := lt_of_cell (hy 0 (by omega)).1
    rw [add_block] at this
    omega)
  have HLw : Hid (∀ y, a = some y → ¬ len = 0 → ∀ (p : Addr) l c, W0.cell? ⟨y.block, y.off + 1, none⟩ = some (.slice (some p) l c) → ¬ l = 0 → p.block < w.heap.size + 1) := Lib.hid (fun y e h0 p l c hc hl => by
    obtain ⟨y', e', hy⟩ := h.2.2.2.resolve_left h0
    rw [e] at e'
    cases e'
    obtain ⟨_, _, b', l', c', c1, hW⟩ := hy 0 (by omega)
    rw [Nat.zero_mul, Addr.add_zero'] at c1
    have hc' := (hb0.cell (lt_of_cell c1)).trans c1
    rw [hc] at hc'
    simp only [Option.some.injEq, Value.slice.injEq] at hc'
    obtain ⟨rfl, rfl, rfl⟩ := hc'
    obtain ⟨z, e2, hz⟩ := hW.2.2.2.2.resolve_left hl
    cases e2
    have := lt_of_cell (hz 0 (by omega))
    rw [add_block] at this
    omega)
  have HF := Lib.hid hf
  replace hs0 : w.heap.size + 1 + 1 ≤ W0.heap.size := by omega
  obtain ⟨RR, hRR⟩ : ∃ RR, popT ((s0, s1, s2, s3), es, x) = RR := ⟨_, rfl⟩
  rw [hRR]
  have HRR := Lib.hid hRR
  obtain ⟨d0, d1, d2, d3, d4, d5⟩ := HT.out
  simp only at d0 d1 d2 d3 d4 d5
  clear h hf hRR
  go_enter Try.func25, Try.ntmps25
  go_wp2_with fail
  refine (mayTb_any (s0, s1, s2, s3) a len cap x es W0 HEs.out).mono ?_
  rintro e w1 ⟨rfl, hg⟩
  clear hW0
  clear d0 d1 d2 d3 d4 d5
  replace HT := Lib.hid (HT.out.later hg)
  replace HR := Lib.hid (HR.out.later hg)
  replace HEs := Lib.hid (HEs.out.below hg)
  replace HLw : Hid (∀ y, a = some y → ¬ len = 0 → ∀ (p : Addr) l c, w1.cell? ⟨y.block, y.off + 1, none⟩ = some (.slice (some p) l c) → ¬ l = 0 → p.block < w.heap.size + 1) := Lib.hid (fun y e h0 p l c hc hl => HLw.out y e h0 p l c (by rw [← hg.cell (p := ⟨y.block, y.off + 1, none⟩) (by show y.block < _; have := HLt.out y e h0; omega)]; exact hc) hl)
  replace hb0 := hb0.trans (hg.mono hb0.size)
  replace hs0 := Nat.le_trans hs0 hg.size
  clear hg
  obtain ⟨d0, d1, d2, d3, d4, d5⟩ := HT.out
  simp only at d0 d1 d2 d3 d4 d5
  have hbad : ∀ (P : Prop), (¬ (mayTb ((s0, s1, s2, s3), es, x) = true ∧ s0 = 3 ∧ es ≠ []) → P) → ¬ (mayTb ((s0, s1, s2, s3), es, x) = true ∧ s0 = 3 ∧ es ≠ []) → P := fun _ h => h
  clear hbad
  rcases hM : mayTb ((s0, s1, s2, s3), es, x) with _ | _
  · have HB : Hid (¬ (mayTb ((s0, s1, s2, s3), es, x) = true ∧ s0 = 3 ∧ es ≠ [])) := Lib.hid (fun h => by rw [hM] at h; cases h.1)
    clear hM
    go_wp2_with fail
    refine ((own_any (s0, s1, s2, s3) a len cap x es w1 HEs.out HF.out).mono fun _ _ => own_in).mono ?_
    rintro e w2 ⟨b, n, c, rfl, hg, hE⟩
    have HR2 := Lib.hid (HR.out.later hg)
    have HE2 := Lib.hid hE
    have hb2 := hb0.trans (hg.mono hb0.size)
    clear hg hE d0 d1 d2 d3 d4 d5
    go_wp2_with (refine wpList_store_row rfl 27 _ _ rfl (w.heap.size + 1) _ rfl rfl 27 _ HR2.out (by kernel_rfl) rfl (by simp [Value.oneCell']) ?_)
    refine bodyPost_ret (v := .tuple #[tbV (s0, s1, s2, s3) (.slice b n c) x, .int .u32 0, .bool false]) ?_ rfl ?_
    · exact results_tb_three Try.results25 _ _ (w.heap.size + 1) 27 _ _ _ rfl rfl rfl rfl (setRow_heap _ _ _ _ _ _ HR2.out)
    · have hgr := grownBy_setRow w2 (w.heap.size + 1) (tbA (s0, s1, s2, s3) (.slice b n c) x)
      have hbs := hb0.size
      rw [← HRR.out, pop_no HB.out]
      exact ⟨b, n, c, rfl, below_setRow hb2 (by omega) _, (HE2.out.grown hgr (fun m hm e => by have := Option.some.inj e; omega)).mono (fun m hm => by omega)⟩
  by_cases e3 : ¬ s0 = 3
  · have HB : Hid (¬ (mayTb ((s0, s1, s2, s3), es, x) = true ∧ s0 = 3 ∧ es ≠ [])) := Lib.hid (fun h => e3 h.2.1)
    have k3 : (s0 != 3) = true := by simpa using e3
    clear e3 hM
    go_wp2_with fail
    refine ((own_any (s0, s1, s2, s3) a len cap x es w1 HEs.out HF.out).mono fun _ _ => own_in).mono ?_
    rintro e w2 ⟨b, n, c, rfl, hg, hE⟩
    have HR2 := Lib.hid (HR.out.later hg)
    have HE2 := Lib.hid hE
    have hb2 := hb0.trans (hg.mono hb0.size)
    clear hg hE d0 d1 d2 d3 d4 d5
    go_wp2_with (refine wpList_store_row rfl 27 _ _ rfl (w.heap.size + 1) _ rfl rfl 27 _ HR2.out (by kernel_rfl) rfl (by simp [Value.oneCell']) ?_)
    refine bodyPost_ret (v := .tuple #[tbV (s0, s1, s2, s3) (.slice b n c) x, .int .u32 0, .bool false]) ?_ rfl ?_
    · exact results_tb_three Try.results25 _ _ (w.heap.size + 1) 27 _ _ _ rfl rfl rfl rfl (setRow_heap _ _ _ _ _ _ HR2.out)
    · have hgr := grownBy_setRow w2 (w.heap.size + 1) (tbA (s0, s1, s2, s3) (.slice b n c) x)
      have hbs := hb0.size
      rw [← HRR.out, pop_no HB.out]
      exact ⟨b, n, c, rfl, below_setRow hb2 (by omega) _, (HE2.out.grown hgr (fun m hm e => by have := Option.some.inj e; omega)).mono (fun m hm => by omega)⟩
  replace e3 := Decidable.not_not.1 e3
  have k3 : (s0 != 3) = false := by simpa using e3
  by_cases h0 : len = 0
  · have HB : Hid (¬ (mayTb ((s0, s1, s2, s3), es, x) = true ∧ s0 = 3 ∧ es ≠ [])) := Lib.hid (fun h => h.2.2 (List.length_eq_zero_iff.1 (by rw [H1.out]; exact h0)))
    have k0 : ((len : Int) == 0) = true := by simp; omega
    clear e3 hM h0
    go_wp2_with fail
    refine ((own_any (s0, s1, s2, s3) a len cap x es w1 HEs.out HF.out).mono fun _ _ => own_in).mono ?_
    rintro e w2 ⟨b, n, c, rfl, hg, hE⟩
    have HR2 := Lib.hid (HR.out.later hg)
    have HE2 := Lib.hid hE
    have hb2 := hb0.trans (hg.mono hb0.size)
    clear hg hE d0 d1 d2 d3 d4 d5
    go_wp2_with (refine wpList_store_row rfl 27 _ _ rfl (w.heap.size + 1) _ rfl rfl 27 _ HR2.out (by kernel_rfl) rfl (by simp [Value.oneCell']) ?_)
    refine bodyPost_ret (v := .tuple #[tbV (s0, s1, s2, s3) (.slice b n c) x, .int .u32 0, .bool false]) ?_ rfl ?_
    · exact results_tb_three Try.results25 _ _ (w.heap.size + 1) 27 _ _ _ rfl rfl rfl rfl (setRow_heap _ _ _ _ _ _ HR2.out)
    · have hgr := grownBy_setRow w2 (w.heap.size + 1) (tbA (s0, s1, s2, s3) (.slice b n c) x)
      have hbs := hb0.size
      rw [← HRR.out, pop_no HB.out]
      exact ⟨b, n, c, rfl, below_setRow hb2 (by omega) _, (HE2.out.grown hgr (fun m hm e => by have := Option.some.inj e; omega)).mono (fun m hm => by omega)⟩
  have k0 : ((len : Int) == 0) = false := by simp; omega
  have l0 : (0 : Int) < (len : Int) := by omega
  have hgood : mayTb ((s0, s1, s2, s3), es, x) = true ∧ s0 = 3 ∧ es ≠ [] := ⟨hM, e3, fun e => by rw [e] at H1; have := H1.out; simp at this; omega⟩
  have HG := Lib.hid hgood
  have hB := entB_iff.1 (mayTb_ent hM (i := 0) (by simp only; rw [H1.out]; omega))
  have hP := mayS_iff.1 (show mayS s0 s1 s2 s3 = true from (headB_iff.1 (mayTb_head hM)).1)
  obtain ⟨y, rfl, hy⟩ := HEs.out.2.2.2.resolve_left h0
  have hE := hy 0 (by omega)
  rw [Nat.zero_mul, Addr.add_zero'] at hE
  rcases hi : es.getD 0 zeroE with ⟨key, ws⟩
  rw [hi] at hE hB
  obtain ⟨c0, _, po, lp, cp, c1, hW⟩ := hE
  simp only at c0 c1 hW hB
  have hl1 : lp = 1 := by have := hW.1; have := hB.1; omega
  obtain ⟨p, rfl, hp⟩ := hW.2.2.2.2.resolve_left (by omega)
  have c2 := hp 0 (by omega)
  rw [Addr.add_zero'] at c2
  have HZ : Hid ((((es.getD 0 zeroE).2).getD 0 0) = ws.getD 0 0) := Lib.hid (by rw [hi])
  obtain ⟨z, hz⟩ : ∃ z, ws.getD 0 0 = z := ⟨_, rfl⟩
  rw [hz] at c2 HZ
  have l1 : 0 < lp := by omega
  have l0n : 0 < len := by omega
  have hlw := hW.max
  have hb00 := hb0.size
  have hyl : y.block < w.heap.size + 1 := HLt.out y rfl h0
  have HPl : Hid (p.block < w.heap.size + 1) := Lib.hid (HLw.out y rfl h0 p _ _ c1 (by omega))
  have HK : Hid (∀ w', Below (w.heap.size + 1) w1 w' → w'.cell? ⟨w.heap.size, 0, none⟩ = some (.int .i64 s0) ∧ w'.cell? ⟨w.heap.size, 1, none⟩ = some (.int .i64 s1) ∧ w'.cell? ⟨w.heap.size, 2, none⟩ = some (.int .i64 s2) ∧ w'.cell? ⟨w.heap.size, 3, none⟩ = some (.int .i64 s3) ∧ w'.cell? ⟨w.heap.size, 4, none⟩ = some (.slice (some y) len cap) ∧ w'.cell? ⟨w.heap.size, 5, none⟩ = some (.int .u32 x) ∧ w'.cell? ⟨y.block, y.off + 1, none⟩ = some (.slice (some p) lp cp) ∧ w'.cell? p = some (.int .u32 z) ∧ Below (w.heap.size + 1) w1 w') := Lib.hid (fun w' h => ⟨(h.cell (p := ⟨w.heap.size, 0, none⟩) (by simp)).trans d0, (h.cell (p := ⟨w.heap.size, 1, none⟩) (by simp)).trans d1, (h.cell (p := ⟨w.heap.size, 2, none⟩) (by simp)).trans d2, (h.cell (p := ⟨w.heap.size, 3, none⟩) (by simp)).trans d3, (h.cell (p := ⟨w.heap.size, 4, none⟩) (by simp)).trans d4, (h.cell (p := ⟨w.heap.size, 5, none⟩) (by simp)).trans d5, (h.cell (p := ⟨y.block, y.off + 1, none⟩) hyl).trans c1, (h.cell HPl.out).trans c2, h⟩)
  have hP0 : Below (w.heap.size + 1) w1 w1.drew := (Below.refl _ _).drew
  have HEd : Hid (EntsAt w1.drew (some y) len cap es) := Lib.hid (HEs.out.below ((Below.refl _ _).drew))
  clear hgood hB hP hy hi hW hp hz hM e3
  go_wp2_with fail
  refine wp_region_held_drew (S := (fun w' => w'.cell? ⟨w.heap.size, 0, none⟩ = some (.int .i64 s0) ∧ w'.cell? ⟨w.heap.size, 1, none⟩ = some (.int .i64 s1) ∧ w'.cell? ⟨w.heap.size, 2, none⟩ = some (.int .i64 s2) ∧ w'.cell? ⟨w.heap.size, 3, none⟩ = some (.int .i64 s3) ∧ w'.cell? ⟨w.heap.size, 4, none⟩ = some (.slice (some y) len cap) ∧ w'.cell? ⟨w.heap.size, 5, none⟩ = some (.int .u32 x) ∧ w'.cell? ⟨y.block, y.off + 1, none⟩ = some (.slice (some p) lp cp) ∧ w'.cell? p = some (.int .u32 z) ∧ Below (w.heap.size + 1) w1 w')) (by kernel_rfl) (HK.out _ hP0) (fun hHeld => ?_)
  refine wpAnyH_yield (i := 0) (v := ?v0) rfl rfl (by kernel_rfl) (by kernel_rfl) (by kernel_rfl) (fun _ _ _ h => h) (by rfl) ?hy0 hHeld ?rest0
  case hy0 =>
    intro w hSw
    (try dsimp only at hSw)
    go_simp
    try with_reducible rfl
  simp only [Act.put, List.setIfInBounds_toArray, List.set_cons_zero, List.set_cons_succ]
  refine wpAnyH_yield (i := 2) (v := ?v2) rfl rfl (by kernel_rfl) (by kernel_rfl) (by kernel_rfl) (fun _ _ _ h => h) (by rfl) ?hy2 hHeld ?rest2
  case hy2 =>
    intro w hSw
    (try dsimp only at hSw)
    go_simp
    try with_reducible rfl
  simp only [Act.put, List.setIfInBounds_toArray, List.set_cons_zero, List.set_cons_succ]
  refine wpAnyH_yield (i := 3) (v := ?v3) rfl rfl (by kernel_rfl) (by kernel_rfl) (by kernel_rfl) (fun _ _ _ h => h) (by rfl) ?hy3 hHeld ?rest3
  case hy3 =>
    intro w hSw
    (try dsimp only at hSw)
    go_simp
    try with_reducible rfl
  simp only [Act.put, List.setIfInBounds_toArray, List.set_cons_zero, List.set_cons_succ]
  refine wpAnyH_yield (i := 4) (v := ?v4) rfl rfl (by kernel_rfl) (by kernel_rfl) (by kernel_rfl) (fun _ _ _ h => h) (by rfl) ?hy4 hHeld ?rest4
  case hy4 =>
    intro w hSw
    (try dsimp only at hSw)
    go_simp
    try with_reducible rfl
  simp only [Act.put, List.setIfInBounds_toArray, List.set_cons_zero, List.set_cons_succ]
  refine wpAnyH_yield (i := 5) (v := ?v5) rfl rfl (by kernel_rfl) (by kernel_rfl) (by kernel_rfl) (fun _ _ _ h => h) (by rfl) ?hy5 hHeld ?rest5
  case hy5 =>
    intro w hSw
    (try dsimp only at hSw)
    go_simp
    try with_reducible rfl
  simp only [Act.put, List.setIfInBounds_toArray, List.set_cons_zero, List.set_cons_succ]
  refine wpAnyH_yield (i := 6) (v := ?v6) rfl rfl (by kernel_rfl) (by kernel_rfl) (by kernel_rfl) (fun _ _ _ h => h) (by rfl) ?hy6 hHeld ?rest6
  case hy6 =>
    intro w hSw
    (try dsimp only at hSw)
    go_simp
    try with_reducible rfl
  simp only [Act.put, List.setIfInBounds_toArray, List.set_cons_zero, List.set_cons_succ]
  refine wpAnyH_yield (i := 7) (v := ?v7) rfl rfl (by kernel_rfl) (by kernel_rfl) (by kernel_rfl) (fun _ _ _ h => h) (by rfl) ?hy7 hHeld ?rest7
  case hy7 =>
    intro w hSw
    (try dsimp only at hSw)
    go_simp
    try with_reducible rfl
  simp only [Act.put, List.setIfInBounds_toArray, List.set_cons_zero, List.set_cons_succ]
  refine wpAnyH_yield (i := 8) (v := ?v8) rfl rfl (by kernel_rfl) (by kernel_rfl) (by kernel_rfl) (fun _ _ _ h => h) (by rfl) ?hy8 hHeld ?rest8
  case hy8 =>
    intro w hSw
    (try dsimp only at hSw)
    go_simp
    try with_reducible rfl
  simp only [Act.put, List.setIfInBounds_toArray, List.set_cons_zero, List.set_cons_succ]
  refine wpAnyH_ready (rs := [1]) (by kernel_rfl) (by simp) ?_
  refine AllReadyH.cons rfl (fun K hK => ?_) AllReadyH.nil
  go_simp
  refine (withoutI_any (s0, s1, s2, s3) (some y) len cap x es 0 0 rfl w1.drew HEd.out HF.out (by rw [H1.out]; omega)).mono ?_
  rintro e w2 ⟨b, n, c, rfl, hg, hE⟩
  have hP2 : Below (w.heap.size + 1) w1 w2 := hP0.trans (hg.mono (by simp; omega))
  have HR2 := Lib.hid (Box.later (w := w1.drew) HR.out hg)
  have HE2 := Lib.hid hE
  have hb2 : Below w.heap.size w w2 := hb0.drew.trans (hg.mono (by simp; omega))
  have hP3 : Below (w.heap.size + 1) w1 (w2.setRow (w.heap.size + 1) (tbA (s0, s1, s2, s3) (.slice b n c) x)) := below_setRow hP2 (by omega) _
  go_wp2_with fail
  refine hK.out _ _ (HK.out _ hP2) (fun hHeld => ?_)
  clear hK K
  try simp only [Act.put, List.setIfInBounds_toArray, List.set_cons_zero, List.set_cons_succ]
  refine wpAnyH_ready (rs := [9]) (by kernel_rfl) (by simp) ?_
  refine AllReadyH.cons rfl (fun K hK => ?_) AllReadyH.nil
  refine step_row w2 (by rfl) 27 _ _ (by rfl) (by rfl) (w.heap.size + 1) (tbA (s0, s1, s2, s3) (.slice b n c) x) (by rfl) (by rfl) 27 _ HR2.out (by kernel_rfl) rfl (by simp [Value.oneCell']) ?_
  refine hK.out _ _ (HK.out _ hP3) (fun hHeld => ?_)
  clear hK K
  try simp only [Act.put, List.setIfInBounds_toArray, List.set_cons_zero, List.set_cons_succ]
  refine wpAnyH_yield (i := 10) (v := ?v10) rfl rfl (by kernel_rfl) (by kernel_rfl) (by kernel_rfl) (fun _ _ _ h => h) (by rfl) ?hy10 hHeld ?rest10
  case hy10 =>
    intro w hSw
    (try dsimp only at hSw)
    go_simp
    try with_reducible rfl
  simp only [Act.put, List.setIfInBounds_toArray, List.set_cons_zero, List.set_cons_succ]
  refine wpAnyH_yield (i := 11) (v := ?v11) rfl rfl (by kernel_rfl) (by kernel_rfl) (by kernel_rfl) (fun _ _ _ h => h) (by rfl) ?hy11 hHeld ?rest11
  case hy11 =>
    intro w hSw
    (try dsimp only at hSw)
    go_simp
    try with_reducible rfl
  simp only [Act.put, List.setIfInBounds_toArray, List.set_cons_zero, List.set_cons_succ]
  refine wpAnyH_done (by kernel_rfl) ?_ _
  clear hHeld d0 d1 d2 d3 d4 d5 c0 c1 c2 hg hE
  go_wp2_with fail
  refine bodyPost_ret (v := .tuple #[tbV (s0, s1, s2, s3) (.slice b n c) x, .int .u32 z, .bool true]) ?_ rfl ?_
  · exact results_tb_three Try.results25 _ _ (w.heap.size + 1) 27 _ _ _ rfl rfl rfl rfl (setRow_heap _ _ _ _ _ _ HR2.out)
  · have hgr := grownBy_setRow w2 (w.heap.size + 1) (tbA (s0, s1, s2, s3) (.slice b n c) x)
    rw [← HRR.out, pop_yes HG.out, HZ.out]
    exact ⟨b, n, c, rfl, below_setRow hb2 (by omega) _, (HE2.out.grown hgr (fun m hm e => by have := Option.some.inj e; simp at hm; omega)).mono (fun m hm => by simp at hm; omega)⟩
end Go.Proofs.Ytlbmgablkphioaa
