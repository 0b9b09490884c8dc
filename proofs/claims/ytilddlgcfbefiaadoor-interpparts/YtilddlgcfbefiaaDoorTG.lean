/-
  What the fifth reference's Get returns, as a contract over the translated program.
-/
import Derived.Test.YtilddlgcfbefiaaDoorTR
namespace Go.Proofs.YtilddlgcfbefiaaDoor
set_option linter.unusedSimpArgs false
set_option linter.unusedVariables false
open Go Go.RowKit

theorem get_no {t : Tb} {key f : Int} (h : keyedB t f = false ∨ atE t.2.1 key = none) : getT t key f = (t, 0, false) := by
  unfold getT
  rcases h with h | h
  · rw [if_neg (by rw [h]; exact Bool.false_ne_true)]
  · split
    · rw [h]
    · rfl
theorem get_lru {t : Tb} {key f : Int} {j : Nat} (h : keyedB t f = true) (hj : atE t.2.1 key = some j) (h2 : t.1.1 = 2) : getT t key f = (behindT (withoutT t j) (t.2.1.getD j zeroE), (t.2.1.getD j zeroE).2.getD f.toNat 0, true) := by
  rw [getT, if_pos h, hj]
  simp [h2]
theorem get_yes {t : Tb} {key f : Int} {j : Nat} (h : keyedB t f = true) (hj : atE t.2.1 key = some j) (h2 : ¬ t.1.1 = 2) : getT t key f = (t, (t.2.1.getD j zeroE).2.getD f.toNat 0, true) := by
  rw [getT, if_pos h, hj]
  simp [h2]
theorem keyed_iff {t : Tb} {f : Int} : keyedB t f = true ↔ mayTb t = true ∧ t.1.1 ≠ 3 ∧ f < t.1.2.2.1 := by
  simp only [keyedB, Bool.and_eq_true, decide_eq_true_iff]
theorem few_erase {es : List Ent} (h : fewE es) (j : Nat) : fewE (es.eraseIdx j) := ⟨Nat.le_trans (List.length_eraseIdx_le es j) h.1, fun e he => h.2 e (List.mem_of_mem_eraseIdx he)⟩
theorem EntsIn.lt {W : World} {A : Nat → Prop} {a : Option Addr} {len cap : Nat} {es : List Ent} (h : EntsIn W A a len cap es) : EntsIn W (fun n => A n ∧ n < W.heap.size) a len cap es := by
  obtain ⟨h1, h2, h3, h5⟩ := h
  refine ⟨h1, h2, h3, ?_⟩
  by_cases h0 : len = 0
  · exact .inl h0
  obtain ⟨y, e, hy, h6⟩ := h5.resolve_left h0
  refine .inr ⟨y, e, ⟨hy, ?_⟩, fun k hk => ?_⟩
  · have := lt_of_cell (h6 0 (by omega)).1
    rwa [add_block] at this
  · obtain ⟨c0, hw, b, l, c, c1, hc, hA⟩ := h6 k hk
    refine ⟨c0, hw, b, l, c, c1, hc, ?_⟩
    by_cases hl : l = 0
    · exact .inl hl
    obtain ⟨z, ez, hz⟩ := hA.resolve_left hl
    obtain ⟨z', ez', hz'⟩ := hc.2.2.2.2.resolve_left hl
    rw [ez] at ez'
    cases ez'
    refine .inr ⟨z, ez, hz, ?_⟩
    have := lt_of_cell (hz' 0 (by omega))
    rwa [add_block] at this
theorem grownBy_trans {w w1 w2 : World} {row : Option Nat} (h : w.grownBy w1 row) (h2 : w1.grownBy w2 row) : w.grownBy w2 row :=
  ⟨h2.os.trans h.os, h2.tape.trans h.tape, h2.output.trans h.output, Nat.le_trans h.size h2.size, fun k hk hne => (h2.block k (Nat.lt_of_lt_of_le hk h.size) hne).trans (h.block k hk hne)⟩
set_option maxRecDepth 100000 in
set_option maxHeartbeats 8000000 in
theorem get_any (s : Sc) (a : Option Addr) (len cap : Nat) (x : Int) (es : List Ent) (key f : Int) (w : World) (h : EntsAt w a len cap es) (hf : fewE es) (hfw : isW f) :
    Calls Tryd.prog 86 #[tbV s (.slice a len cap) x, .int .u32 key, .int .u32 f] w (TabPost3 (getT (s, es, x) key f).1 (fun n => w.heap.size ≤ n) (.int .u32 (getT (s, es, x) key f).2.1) (.bool (getT (s, es, x) key f).2.2) w) := by
  rcases s with ⟨s0, s1, s2, s3⟩
  have hm := h.max
  obtain ⟨W0, hW0⟩ : ∃ W0, (w.alloc (.cells #[.int .i64 s0, .int .i64 s1, .int .i64 s2, .int .i64 s3, .slice a len cap, .int .u32 x] 42)).alloc (.cells zeroTA 42) = W0 := ⟨_, rfl⟩
  have hs0 : W0.heap.size = w.heap.size + 1 + 1 := by rw [← hW0]; simp
  have hb0 : Below w.heap.size w W0 := by rw [← hW0]; exact box2 (Below.refl _ _) (Nat.le_refl _) _ _
  have HT : Hid (TbAt W0 w.heap.size (s0, s1, s2, s3) (.slice a len cap) x) := by rw [← hW0]; exact Lib.hid (tbAt_old (tbAt_new w (s0, s1, s2, s3) (.slice a len cap) x) _)
  have HR : Hid (Box W0 (w.heap.size + 1) 42 zeroTA) := by
    rw [← hW0]
    have := Box.new (w.alloc (.cells #[.int .i64 s0, .int .i64 s1, .int .i64 s2, .int .i64 s3, .slice a len cap, .int .u32 x] 42)) 42 zeroTA
    rw [show (w.alloc (.cells #[.int .i64 s0, .int .i64 s1, .int .i64 s2, .int .i64 s3, .slice a len cap, .int .u32 x] 42)).heap.size = w.heap.size + 1 by simp] at this
    exact Lib.hid this
  have HEs := Lib.hid (h.below hb0)
  have H1 := Lib.hid h.1
  have HF := Lib.hid hf
  have HFw := Lib.hid hfw
  replace hs0 : w.heap.size + 1 + 1 ≤ W0.heap.size := by omega
  obtain ⟨RR, hRR⟩ : ∃ RR, getT ((s0, s1, s2, s3), es, x) key f = RR := ⟨_, rfl⟩
  rw [hRR]
  have HRR := Lib.hid hRR
  obtain ⟨d0, d1, d2, d3, d4, d5⟩ := HT.out
  simp only at d0 d1 d2 d3 d4 d5
  clear h hf hRR hfw
  go_enter Tryd.func86, Tryd.ntmps86
  go_wp2_with fail
  refine ((own_any (s0, s1, s2, s3) a len cap x es W0 HEs.out HF.out).mono fun _ _ => own_in).mono ?_
  rintro e w1 ⟨b, n, c, he, hg, hE⟩
  replace he : e = .returned (tbV (s0, s1, s2, s3) (.slice b n c) x) := he
  subst he
  replace hE := hE.lt
  have hn : es.length = n := hE.1
  have hnl : n = len := by rw [← hn, H1.out]
  subst hnl
  clear d0 d1 d2 d3 d4 d5 hW0 hn
  obtain ⟨W1, hW1⟩ : ∃ W1, w1.alloc (.cells #[.int .i64 s0, .int .i64 s1, .int .i64 s2, .int .i64 s3, .slice b n c, .int .u32 x] 42) = W1 := ⟨_, rfl⟩
  have hg2 : Below w1.heap.size w1 W1 := by rw [← hW1]; exact (Below.refl _ _).alloc (Nat.le_refl _) _
  have hg1 : Below W0.heap.size W0 W1 := hg.trans (hg2.mono hg.size)
  have HO : Hid (Box W1 w1.heap.size 42 #[.int .i64 s0, .int .i64 s1, .int .i64 s2, .int .i64 s3, .slice b n c, .int .u32 x]) := by rw [← hW1]; exact Lib.hid (Box.new w1 42 _)
  have HE := Lib.hid (hE.below hg2)
  have hO1 : W0.heap.size ≤ w1.heap.size := hg.size
  obtain ⟨O, hO⟩ : ∃ O, w1.heap.size = O := ⟨_, rfl⟩
  rw [hO] at HO hO1 HE
  replace HT := Lib.hid (HT.out.later hg1)
  replace HR := Lib.hid (HR.out.later hg1)
  replace HEs := Lib.hid (HEs.out.below hg1)
  replace hb0 := hb0.trans (hg1.mono hb0.size)
  clear hg hE hg2 hg1
  obtain ⟨d0, d1, d2, d3, d4, d5⟩ := HT.out
  simp only at d0 d1 d2 d3 d4 d5
  go_wp2_with fail
  refine (at_any (s0, s1, s2, s3) a n cap x key es W1 HEs.out).mono ?_
  rintro e w2 ⟨rfl, hg⟩
  clear d0 d1 d2 d3 d4 d5 hW1
  replace HT := Lib.hid (HT.out.later hg)
  replace HR := Lib.hid (HR.out.later hg)
  replace HO := Lib.hid (HO.out.later hg)
  replace HE := Lib.hid (HE.out.below hg)
  replace HEs := Lib.hid (HEs.out.below hg)
  replace hb0 := hb0.trans (hg.mono hb0.size)
  clear hg
  obtain ⟨d0, d1, d2, d3, d4, d5⟩ := HT.out
  simp only at d0 d1 d2 d3 d4 d5
  go_wp2_with fail
  refine (keyed_any (s0, s1, s2, s3) a n cap x es f w2 HEs.out HFw.out).mono ?_
  rintro e w3 ⟨rfl, hg⟩
  clear d0 d1 d2 d3 d4 d5
  replace HT := Lib.hid (HT.out.later hg)
  replace HR := Lib.hid (HR.out.later hg)
  replace HO := Lib.hid (HO.out.later hg)
  replace HE := Lib.hid (HE.out.below hg)
  replace HEs := Lib.hid (HEs.out.below hg)
  replace hb0 := hb0.trans (hg.mono hb0.size)
  clear hg
  obtain ⟨d0, d1, d2, d3, d4, d5⟩ := HT.out
  simp only at d0 d1 d2 d3 d4 d5
  rcases hK : keyedB ((s0, s1, s2, s3), es, x) f with _ | _
  · have HB : Hid (keyedB ((s0, s1, s2, s3), es, x) f = false ∨ atE es key = none) := Lib.hid (.inl hK)
    generalize atI es key = ai
    clear hK
    obtain ⟨o0, o1, o2, o3, o4, o5⟩ := Box.tb (s := (s0, s1, s2, s3)) HO.out
    simp only at o0 o1 o2 o3 o4 o5
    go_wp2_with (refine wpList_store_row rfl 42 _ _ rfl (w.heap.size + 1) _ rfl rfl 42 _ HR.out (by kernel_rfl) rfl (by simp [Value.oneCell']) ?_)
    refine bodyPost_ret (v := .tuple #[tbV (s0, s1, s2, s3) (.slice b n c) x, .int .u32 0, .bool false]) ?_ rfl ?_
    · exact results_tb_three Tryd.results86 _ _ (w.heap.size + 1) 42 _ _ _ rfl rfl rfl rfl (setRow_heap _ _ _ _ _ _ HR.out)
    · have hgr := grownBy_setRow w3 (w.heap.size + 1) (tbA (s0, s1, s2, s3) (.slice b n c) x)
      rw [← HRR.out, get_no HB.out]
      exact ⟨b, n, c, rfl, below_setRow hb0 (by omega) _, (HE.out.grown hgr (fun m hm e => by have := Option.some.inj e; omega)).mono (fun m hm => by omega)⟩
  rcases hA : atE es key with _ | j
  · have HB : Hid (keyedB ((s0, s1, s2, s3), es, x) f = false ∨ atE es key = none) := Lib.hid (.inr hA)
    rw [atI_none hA]
    clear hK hA
    obtain ⟨o0, o1, o2, o3, o4, o5⟩ := Box.tb (s := (s0, s1, s2, s3)) HO.out
    simp only at o0 o1 o2 o3 o4 o5
    go_wp2_with (refine wpList_store_row rfl 42 _ _ rfl (w.heap.size + 1) _ rfl rfl 42 _ HR.out (by kernel_rfl) rfl (by simp [Value.oneCell']) ?_)
    refine bodyPost_ret (v := .tuple #[tbV (s0, s1, s2, s3) (.slice b n c) x, .int .u32 0, .bool false]) ?_ rfl ?_
    · exact results_tb_three Tryd.results86 _ _ (w.heap.size + 1) 42 _ _ _ rfl rfl rfl rfl (setRow_heap _ _ _ _ _ _ HR.out)
    · have hgr := grownBy_setRow w3 (w.heap.size + 1) (tbA (s0, s1, s2, s3) (.slice b n c) x)
      rw [← HRR.out, get_no HB.out]
      exact ⟨b, n, c, rfl, below_setRow hb0 (by omega) _, (HE.out.grown hgr (fun m hm e => by have := Option.some.inj e; omega)).mono (fun m hm => by omega)⟩
  rw [atI_some hA]
  obtain ⟨fn, hfn⟩ := Int.eq_ofNat_of_zero_le HFw.out.1
  subst hfn
  obtain ⟨hM, hk3, hfl⟩ := keyed_iff.1 hK
  simp only at hk3 hfl
  obtain ⟨hjl, hjk, _⟩ := atE_some hA
  have hB := entB_iff.1 (mayTb_ent hM (i := j) hjl)
  have HKy := Lib.hid hK
  have HAt := Lib.hid hA
  have HJl := Lib.hid hjl
  have hjn : j < n := by rw [H1.out] at hjl; exact hjl
  have hjI : (j : Int) < (n : Int) := by omega
  have hj0 : (0 : Int) ≤ (j : Int) := Int.natCast_nonneg _
  have hjI2 : ¬ (j : Int) < 0 := by omega
  obtain ⟨y, rfl, hyA, hy⟩ := HE.out.2.2.2.resolve_left (by omega)
  obtain ⟨c0, hw0, po, lp, cp, c1, hW⟩ := hy j hjn
  have hlp : (lp : Int) = s2 := by have := hW.1.1; have := hB.1; simp only at this; omega
  obtain ⟨p, rfl, hpA⟩ := hW.2.resolve_left (by have := HFw.out.1; omega)
  obtain ⟨p', hp', hpc⟩ := hW.1.2.2.2.2.resolve_left (by have := HFw.out.1; omega)
  cases hp'
  have hft : fn < lp := by omega
  have hfI0 : (fn : Int) < (lp : Int) := by omega
  have hfI1 : (0 : Int) ≤ (fn : Int) := Int.natCast_nonneg _
  have c2 := hpc fn hft
  have HWs := Lib.hid hW
  have HWk := Lib.hid hw0
  obtain ⟨z, hz⟩ : ∃ z, ((es.getD j zeroE).2).getD fn 0 = z := ⟨_, rfl⟩
  rw [hz] at c2
  have HZ : Hid (((es.getD j zeroE).2).getD ((fn : Int)).toNat 0 = z) := Lib.hid (by rw [Int.toNat_natCast]; exact hz)
  rcases hi : es.getD j zeroE with ⟨kz, ws⟩
  rw [hi] at c0 HWs HWk
  simp only at c0 HWs HWk
  have HI := Lib.hid hi
  clear hB hM hk3 hfl hK hA hjl hjk hi hy hW hpc hz hw0 hlp
  obtain ⟨o0, o1, o2, o3, o4, o5⟩ := Box.tb (s := (s0, s1, s2, s3)) HO.out
  simp only at o0 o1 o2 o3 o4 o5
  have h3s : O < w3.heap.size := lt_of_cell o0
  obtain ⟨EB, hEB⟩ : ∃ EB, w3.heap.size = EB := ⟨_, rfl⟩
  have hOR : some O ≠ some (w.heap.size + 1) := by simp; omega
  have hER : some EB ≠ some (w.heap.size + 1) := by simp; omega
  have hPR : some (p.add fn).block ≠ some (w.heap.size + 1) := by rw [add_block]; simp; omega
  obtain ⟨W4, hW4⟩ : ∃ W4, w3.alloc (.cells #[.int .u32 kz, .slice (some p) lp cp] 66) = W4 := ⟨_, rfl⟩
  have hg4 : Below w3.heap.size w3 W4 := by rw [← hW4]; exact (Below.refl _ _).alloc (Nat.le_refl _) _
  have HB4 : Hid (Box W4 EB 66 #[.int .u32 kz, .slice (some p) lp cp]) := by rw [← hW4, ← hEB]; exact Lib.hid (Box.new w3 66 _)
  have HT4 := Lib.hid (HT.out.later hg4)
  have HR4 := Lib.hid (HR.out.later hg4)
  have HO4 := Lib.hid (HO.out.later hg4)
  have HE4 := Lib.hid (HE.out.below hg4)
  have HEs4 := Lib.hid (HEs.out.below hg4)
  have HWs4 := Lib.hid (HWs.out.grown (grownBy_of_below hg4 none) (fun _ _ => by simp))
  have hb4 := hb0.trans (hg4.mono hb0.size)
  have c2' : W4.cell? (p.add fn) = some (.int .u32 z) := (hg4.cell (lt_of_cell c2)).trans c2
  have hEB4 : EB < W4.heap.size := HB4.out.lt
  clear d0 d1 d2 d3 d4 d5
  obtain ⟨d0, d1, d2, d3, d4, d5⟩ := HT4.out
  simp only at d0 d1 d2 d3 d4 d5
  by_cases e2 : ¬ s0 = 2
  · have k2 : (s0 == 2) = false := by simpa using e2
    have HG := Lib.hid (get_yes (t := ((s0, s1, s2, s3), es, x)) HKy.out HAt.out e2)
    have HRx := HR4
    have HOx := HO4
    have HBx := HB4
    have hbx := hb4
    have c2x := c2'
    clear e2
    go_wp2_with fail
    clear o0 o1 o2 o3 o4 o5
    obtain ⟨o0, o1, o2, o3, o4, o5⟩ := Box.tb (s := (s0, s1, s2, s3)) HOx.out
    simp only at o0 o1 o2 o3 o4 o5
    have v1 : W4.cell? ⟨EB, 1, none⟩ = some (.slice (some p) lp cp) := HBx.out.cell rfl
    have HK9 : Hid (∀ w', W4.grownBy w' (some (w.heap.size + 1)) → w'.cell? ⟨O, 0, none⟩ = some (.int .i64 s0) ∧ w'.cell? ⟨O, 1, none⟩ = some (.int .i64 s1) ∧ w'.cell? ⟨O, 2, none⟩ = some (.int .i64 s2) ∧ w'.cell? ⟨O, 3, none⟩ = some (.int .i64 s3) ∧ w'.cell? ⟨O, 4, none⟩ = some (.slice (some y) n c) ∧ w'.cell? ⟨O, 5, none⟩ = some (.int .u32 x) ∧ w'.cell? ⟨EB, 1, none⟩ = some (.slice (some p) lp cp) ∧ w'.cell? (p.add fn) = some (.int .u32 z)) := Lib.hid (fun w' h => ⟨(h.cell_far ⟨O, 0, none⟩ (lt_of_cell o0) hOR).trans o0, (h.cell_far ⟨O, 1, none⟩ (lt_of_cell o1) hOR).trans o1, (h.cell_far ⟨O, 2, none⟩ (lt_of_cell o2) hOR).trans o2, (h.cell_far ⟨O, 3, none⟩ (lt_of_cell o3) hOR).trans o3, (h.cell_far ⟨O, 4, none⟩ (lt_of_cell o4) hOR).trans o4, (h.cell_far ⟨O, 5, none⟩ (lt_of_cell o5) hOR).trans o5, (h.cell_far ⟨EB, 1, none⟩ (lt_of_cell v1) hER).trans v1, (h.cell_far (p.add fn) (lt_of_cell c2x) hPR).trans c2x⟩)
    have g0 : W4.grownBy W4.drew (some (w.heap.size + 1)) := grownBy_of_below ((Below.refl _ _).drew) _
    have g1 : W4.grownBy (W4.drew.setRow (w.heap.size + 1) (tbA (s0, s1, s2, s3) (.slice (some y) n c) x)) (some (w.heap.size + 1)) := grownBy_trans g0 (grownBy_setRow _ _ _)
    refine wp_region_held_drew (S := (fun w' => w'.cell? ⟨O, 0, none⟩ = some (.int .i64 s0) ∧ w'.cell? ⟨O, 1, none⟩ = some (.int .i64 s1) ∧ w'.cell? ⟨O, 2, none⟩ = some (.int .i64 s2) ∧ w'.cell? ⟨O, 3, none⟩ = some (.int .i64 s3) ∧ w'.cell? ⟨O, 4, none⟩ = some (.slice (some y) n c) ∧ w'.cell? ⟨O, 5, none⟩ = some (.int .u32 x) ∧ w'.cell? ⟨EB, 1, none⟩ = some (.slice (some p) lp cp) ∧ w'.cell? (p.add fn) = some (.int .u32 z))) (by kernel_rfl) (HK9.out _ g0) (fun hHeld => ?_)
    refine wpAnyH_yield (i := 0) (v := ?vN0) rfl rfl (by kernel_rfl) (by kernel_rfl) (by kernel_rfl) (fun _ _ _ h => h) (by rfl) ?hyN0 hHeld ?restN0
    case hyN0 =>
      intro w hSw
      (try dsimp only at hSw)
      go_simp
      try with_reducible rfl
    simp only [Act.put, List.setIfInBounds_toArray, List.set_cons_zero, List.set_cons_succ]
    refine wpAnyH_yield (i := 1) (v := ?vN1) rfl rfl (by kernel_rfl) (by kernel_rfl) (by kernel_rfl) (fun _ _ _ h => h) (by rfl) ?hyN1 hHeld ?restN1
    case hyN1 =>
      intro w hSw
      (try dsimp only at hSw)
      go_simp
      try with_reducible rfl
    simp only [Act.put, List.setIfInBounds_toArray, List.set_cons_zero, List.set_cons_succ]
    refine wpAnyH_yield (i := 2) (v := ?vN2) rfl rfl (by kernel_rfl) (by kernel_rfl) (by kernel_rfl) (fun _ _ _ h => h) (by rfl) ?hyN2 hHeld ?restN2
    case hyN2 =>
      intro w hSw
      (try dsimp only at hSw)
      go_simp
      try with_reducible rfl
    simp only [Act.put, List.setIfInBounds_toArray, List.set_cons_zero, List.set_cons_succ]
    refine wpAnyH_yield (i := 3) (v := ?vN3) rfl rfl (by kernel_rfl) (by kernel_rfl) (by kernel_rfl) (fun _ _ _ h => h) (by rfl) ?hyN3 hHeld ?restN3
    case hyN3 =>
      intro w hSw
      (try dsimp only at hSw)
      go_simp
      try with_reducible rfl
    simp only [Act.put, List.setIfInBounds_toArray, List.set_cons_zero, List.set_cons_succ]
    refine wpAnyH_yield (i := 4) (v := ?vN4) rfl rfl (by kernel_rfl) (by kernel_rfl) (by kernel_rfl) (fun _ _ _ h => h) (by rfl) ?hyN4 hHeld ?restN4
    case hyN4 =>
      intro w hSw
      (try dsimp only at hSw)
      go_simp
      try with_reducible rfl
    simp only [Act.put, List.setIfInBounds_toArray, List.set_cons_zero, List.set_cons_succ]
    refine wpAnyH_yield (i := 5) (v := ?vN5) rfl rfl (by kernel_rfl) (by kernel_rfl) (by kernel_rfl) (fun _ _ _ h => h) (by rfl) ?hyN5 hHeld ?restN5
    case hyN5 =>
      intro w hSw
      (try dsimp only at hSw)
      go_simp
      try with_reducible rfl
    simp only [Act.put, List.setIfInBounds_toArray, List.set_cons_zero, List.set_cons_succ]
    refine wpAnyH_ready (rs := [6]) (by kernel_rfl) (by simp) ?_
    refine AllReadyH.cons rfl (fun K hK => ?_) AllReadyH.nil
    refine step_row W4.drew (by rfl) 42 _ _ (by rfl) (by rfl) (w.heap.size + 1) (tbA (s0, s1, s2, s3) (.slice (some y) n c) x) (by rfl) (by rfl) 42 _ HRx.out (by kernel_rfl) rfl (by simp [Value.oneCell']) ?_
    refine hK.out _ _ (HK9.out _ g1) (fun hHeld => ?_)
    clear hK K
    try simp only [Act.put, List.setIfInBounds_toArray, List.set_cons_zero, List.set_cons_succ]
    refine wpAnyH_yield (i := 7) (v := ?vN7) rfl rfl (by kernel_rfl) (by kernel_rfl) (by kernel_rfl) (fun _ _ _ h => h) (by rfl) ?hyN7 hHeld ?restN7
    case hyN7 =>
      intro w hSw
      (try dsimp only at hSw)
      go_simp
      try with_reducible rfl
    simp only [Act.put, List.setIfInBounds_toArray, List.set_cons_zero, List.set_cons_succ]
    refine wpAnyH_yield (i := 8) (v := ?vN8) rfl rfl (by kernel_rfl) (by kernel_rfl) (by kernel_rfl) (fun _ _ _ h => h) (by rfl) ?hyN8 hHeld ?restN8
    case hyN8 =>
      intro w hSw
      (try dsimp only at hSw)
      go_simp
      try with_reducible rfl
    simp only [Act.put, List.setIfInBounds_toArray, List.set_cons_zero, List.set_cons_succ]
    refine wpAnyH_done (by kernel_rfl) ?_ _
    clear hHeld o0 o1 o2 o3 o4 o5 v1 c0 c1 c2x
    go_wp2_with fail
    refine bodyPost_ret (v := .tuple #[tbV (s0, s1, s2, s3) (.slice (some y) n c) x, .int .u32 z, .bool true]) ?_ rfl ?_
    · exact results_tb_three Tryd.results86 _ _ (w.heap.size + 1) 42 _ _ _ rfl rfl rfl rfl (setRow_heap _ _ _ _ _ _ HRx.out)
    · rw [← HRR.out, HG.out, HZ.out]
      exact ⟨_, _, _, rfl, below_setRow hbx.drew (by omega) _, ((HE4.out.grown (grownBy_trans (grownBy_of_below ((Below.refl _ _).drew) _) (grownBy_setRow W4.drew (w.heap.size + 1) _)) (fun m hm e => by have := Option.some.inj e; omega))).mono (fun m hm => by omega)⟩
  replace e2 := Decidable.not_not.1 e2
  have k2 : (s0 == 2) = true := by simpa using e2
  have HG := Lib.hid (get_lru (t := ((s0, s1, s2, s3), es, x)) HKy.out HAt.out e2)
  clear e2
  have v0 : W4.cell? ⟨EB, 0, none⟩ = some (.int .u32 kz) := HB4.out.cell rfl
  have v1 : W4.cell? ⟨EB, 1, none⟩ = some (.slice (some p) lp cp) := HB4.out.cell rfl
  have hPO : some w.heap.size ≠ some O := by simp; omega
  have hEO : some EB ≠ some O := by simp; omega
  have hpO : some (p.add fn).block ≠ some O := by rw [add_block]; simp; omega
  have HK8 : Hid (∀ w', W4.grownBy w' (some O) → w'.cell? ⟨w.heap.size, 0, none⟩ = some (.int .i64 s0) ∧ w'.cell? ⟨w.heap.size, 1, none⟩ = some (.int .i64 s1) ∧ w'.cell? ⟨w.heap.size, 2, none⟩ = some (.int .i64 s2) ∧ w'.cell? ⟨w.heap.size, 3, none⟩ = some (.int .i64 s3) ∧ w'.cell? ⟨w.heap.size, 4, none⟩ = some (.slice a n cap) ∧ w'.cell? ⟨w.heap.size, 5, none⟩ = some (.int .u32 x) ∧ w'.cell? ⟨EB, 0, none⟩ = some (.int .u32 kz) ∧ w'.cell? ⟨EB, 1, none⟩ = some (.slice (some p) lp cp)) := Lib.hid (fun w' h => ⟨(h.cell_far ⟨w.heap.size, 0, none⟩ (lt_of_cell d0) hPO).trans d0, (h.cell_far ⟨w.heap.size, 1, none⟩ (lt_of_cell d1) hPO).trans d1, (h.cell_far ⟨w.heap.size, 2, none⟩ (lt_of_cell d2) hPO).trans d2, (h.cell_far ⟨w.heap.size, 3, none⟩ (lt_of_cell d3) hPO).trans d3, (h.cell_far ⟨w.heap.size, 4, none⟩ (lt_of_cell d4) hPO).trans d4, (h.cell_far ⟨w.heap.size, 5, none⟩ (lt_of_cell d5) hPO).trans d5, (h.cell_far ⟨EB, 0, none⟩ (lt_of_cell v0) hEO).trans v0, (h.cell_far ⟨EB, 1, none⟩ (lt_of_cell v1) hEO).trans v1⟩)
  have g4 : W4.grownBy W4.drew (some O) := grownBy_of_below ((Below.refl _ _).drew) _
  have HEd : Hid (EntsAt W4.drew a n cap es) := Lib.hid (HEs4.out.below ((Below.refl _ _).drew))
  go_wp2_with fail
  clear o0 o1 o2 o3 o4 o5 hW4
  refine wp_region_held_drew (S := (fun w' => w'.cell? ⟨w.heap.size, 0, none⟩ = some (.int .i64 s0) ∧ w'.cell? ⟨w.heap.size, 1, none⟩ = some (.int .i64 s1) ∧ w'.cell? ⟨w.heap.size, 2, none⟩ = some (.int .i64 s2) ∧ w'.cell? ⟨w.heap.size, 3, none⟩ = some (.int .i64 s3) ∧ w'.cell? ⟨w.heap.size, 4, none⟩ = some (.slice a n cap) ∧ w'.cell? ⟨w.heap.size, 5, none⟩ = some (.int .u32 x) ∧ w'.cell? ⟨EB, 0, none⟩ = some (.int .u32 kz) ∧ w'.cell? ⟨EB, 1, none⟩ = some (.slice (some p) lp cp))) (by kernel_rfl) (HK8.out _ g4) (fun hHeld => ?_)
  refine wpAnyH_yield (i := 0) (v := ?vE0) rfl rfl (by kernel_rfl) (by kernel_rfl) (by kernel_rfl) (fun _ _ _ h => h) (by rfl) ?hyE0 hHeld ?restE0
  case hyE0 =>
    intro w hSw
    (try dsimp only at hSw)
    go_simp
    try with_reducible rfl
  simp only [Act.put, List.setIfInBounds_toArray, List.set_cons_zero, List.set_cons_succ]
  refine wpAnyH_yield (i := 1) (v := ?vE1) rfl rfl (by kernel_rfl) (by kernel_rfl) (by kernel_rfl) (fun _ _ _ h => h) (by rfl) ?hyE1 hHeld ?restE1
  case hyE1 =>
    intro w hSw
    (try dsimp only at hSw)
    go_simp
    try with_reducible rfl
  simp only [Act.put, List.setIfInBounds_toArray, List.set_cons_zero, List.set_cons_succ]
  refine wpAnyH_yield (i := 3) (v := ?vE3) rfl rfl (by kernel_rfl) (by kernel_rfl) (by kernel_rfl) (fun _ _ _ h => h) (by rfl) ?hyE3 hHeld ?restE3
  case hyE3 =>
    intro w hSw
    (try dsimp only at hSw)
    go_simp
    try with_reducible rfl
  simp only [Act.put, List.setIfInBounds_toArray, List.set_cons_zero, List.set_cons_succ]
  refine wpAnyH_ready (rs := [2]) (by kernel_rfl) (by simp) ?_
  refine AllReadyH.cons rfl (fun K hK => ?_) AllReadyH.nil
  go_simp
  refine (withoutI_any (s0, s1, s2, s3) a n cap x es j (j : Int) rfl W4.drew HEd.out HF.out HJl.out).mono ?_
  rintro e w5 ⟨b5, n5, c5, he, hg5, hE5⟩
  replace he : e = .returned (tbV (s0, s1, s2, s3) (.slice b5 n5 c5) x) := he
  subst he
  have hB5 : Below W4.heap.size W4 w5 := ((Below.refl _ _).drew).trans hg5
  have g5 : W4.grownBy w5 (some O) := grownBy_of_below hB5 _
  have HBeh := Lib.hid (behind_any (s0, s1, s2, s3) b5 n5 c5 x (es.eraseIdx j) kz (some p) lp cp ws (fun n => W0.heap.size ≤ n ∧ n < O) w5 hE5.at (few_erase HF.out j) HWk.out (HWs4.out.grown g5 (fun m hm e => by have := Option.some.inj e; omega)))
  go_wp2_with fail
  refine hK.out _ _ (HK8.out _ g5) (fun hHeld => ?_)
  clear hK K
  try simp only [Act.put, List.setIfInBounds_toArray, List.set_cons_zero, List.set_cons_succ]
  refine wpAnyH_ready (rs := [4]) (by kernel_rfl) (by simp) ?_
  refine AllReadyH.cons rfl (fun K hK => ?_) AllReadyH.nil
  go_simp
  refine HBeh.out.mono ?_
  rintro e w6 ⟨b6, n6, c6, he, hg6, hE6⟩
  replace he : e = .returned (tbV (s0, s1, s2, s3) (.slice b6 n6 c6) x) := he
  subst he
  have hB6 : Below W4.heap.size W4 w6 := hB5.trans (hg6.mono hB5.size)
  have g6 : W4.grownBy w6 (some O) := grownBy_of_below hB6 _
  have HO6 := Lib.hid (HO4.out.later hB6)
  have HR6 := Lib.hid (HR4.out.later hB6)
  have HB6 := Lib.hid (HB4.out.later hB6)
  have HE6 := Lib.hid hE6
  have hb6 := hb4.trans (hB6.mono hb4.size)
  have hs5 := hB5.size
  have g7 : W4.grownBy (w6.setRow O (tbA (s0, s1, s2, s3) (.slice b6 n6 c6) x)) (some O) := grownBy_trans g6 (grownBy_setRow _ _ _)
  go_wp2_with fail
  refine hK.out _ _ (HK8.out _ g6) (fun hHeld => ?_)
  clear hK K
  try simp only [Act.put, List.setIfInBounds_toArray, List.set_cons_zero, List.set_cons_succ]
  refine wpAnyH_ready (rs := [5]) (by kernel_rfl) (by simp) ?_
  refine AllReadyH.cons rfl (fun K hK => ?_) AllReadyH.nil
  refine step_row w6 (by rfl) 42 _ _ (by rfl) (by rfl) O (tbA (s0, s1, s2, s3) (.slice b6 n6 c6) x) (by rfl) (by rfl) 42 _ HO6.out (by kernel_rfl) rfl (by simp [Value.oneCell']) ?_
  refine hK.out _ _ (HK8.out _ g7) (fun hHeld => ?_)
  clear hK K
  try simp only [Act.put, List.setIfInBounds_toArray, List.set_cons_zero, List.set_cons_succ]
  refine wpAnyH_done (by kernel_rfl) ?_ _
  have c27 : (w6.setRow O (tbA (s0, s1, s2, s3) (.slice b6 n6 c6) x)).cell? (p.add fn) = some (.int .u32 z) := (g7.cell_far (p.add fn) (lt_of_cell c2') hpO).trans c2'
  obtain ⟨W7, hW7⟩ : ∃ W7, w6.setRow O (tbA (s0, s1, s2, s3) (.slice b6 n6 c6) x) = W7 := ⟨_, rfl⟩
  have HOx : Hid (Box W7 O 42 (tbA (s0, s1, s2, s3) (.slice b6 n6 c6) x)) := by rw [← hW7]; exact Lib.hid (setRow_heap _ _ _ _ _ _ HO6.out)
  have hgr6 : w6.grownBy W7 (some O) := by rw [← hW7]; exact grownBy_setRow _ _ _
  have HRx := Lib.hid (HR6.out.grown hgr6 (by simp; omega))
  have HBx := Lib.hid (HB6.out.grown hgr6 (by simp; omega))
  have HE7 := Lib.hid (HE6.out.grown hgr6 (fun m hm e => by have := Option.some.inj e; omega))
  have hbx : Below w.heap.size w W7 := by rw [← hW7]; exact below_setRow hb6 (by omega) _
  rw [hW7] at c27
  have c2x := c27
  have HG2 : Hid (getT ((s0, s1, s2, s3), es, x) key (fn : Int) = (behindT (withoutT ((s0, s1, s2, s3), es, x) j) (kz, ws), (es.getD j zeroE).2.getD ((fn : Int)).toNat 0, true)) := Lib.hid (by rw [HG.out, HI.out])
  clear hHeld d0 d1 d2 d3 d4 d5 v0 v1 hg5 hE5 hg6 hE6 g4 g5 g6 g7
  rw [hW7]
  go_wp2_with fail
  obtain ⟨o0, o1, o2, o3, o4, o5⟩ := Box.tb (s := (s0, s1, s2, s3)) HOx.out
  simp only at o0 o1 o2 o3 o4 o5
  have v1 : W7.cell? ⟨EB, 1, none⟩ = some (.slice (some p) lp cp) := HBx.out.cell rfl
  have HK9 : Hid (∀ w', W7.grownBy w' (some (w.heap.size + 1)) → w'.cell? ⟨O, 0, none⟩ = some (.int .i64 s0) ∧ w'.cell? ⟨O, 1, none⟩ = some (.int .i64 s1) ∧ w'.cell? ⟨O, 2, none⟩ = some (.int .i64 s2) ∧ w'.cell? ⟨O, 3, none⟩ = some (.int .i64 s3) ∧ w'.cell? ⟨O, 4, none⟩ = some (.slice b6 n6 c6) ∧ w'.cell? ⟨O, 5, none⟩ = some (.int .u32 x) ∧ w'.cell? ⟨EB, 1, none⟩ = some (.slice (some p) lp cp) ∧ w'.cell? (p.add fn) = some (.int .u32 z)) := Lib.hid (fun w' h => ⟨(h.cell_far ⟨O, 0, none⟩ (lt_of_cell o0) hOR).trans o0, (h.cell_far ⟨O, 1, none⟩ (lt_of_cell o1) hOR).trans o1, (h.cell_far ⟨O, 2, none⟩ (lt_of_cell o2) hOR).trans o2, (h.cell_far ⟨O, 3, none⟩ (lt_of_cell o3) hOR).trans o3, (h.cell_far ⟨O, 4, none⟩ (lt_of_cell o4) hOR).trans o4, (h.cell_far ⟨O, 5, none⟩ (lt_of_cell o5) hOR).trans o5, (h.cell_far ⟨EB, 1, none⟩ (lt_of_cell v1) hER).trans v1, (h.cell_far (p.add fn) (lt_of_cell c2x) hPR).trans c2x⟩)
  have g0 : W7.grownBy W7.drew (some (w.heap.size + 1)) := grownBy_of_below ((Below.refl _ _).drew) _
  have g1 : W7.grownBy (W7.drew.setRow (w.heap.size + 1) (tbA (s0, s1, s2, s3) (.slice b6 n6 c6) x)) (some (w.heap.size + 1)) := grownBy_trans g0 (grownBy_setRow _ _ _)
  refine wp_region_held_drew (S := (fun w' => w'.cell? ⟨O, 0, none⟩ = some (.int .i64 s0) ∧ w'.cell? ⟨O, 1, none⟩ = some (.int .i64 s1) ∧ w'.cell? ⟨O, 2, none⟩ = some (.int .i64 s2) ∧ w'.cell? ⟨O, 3, none⟩ = some (.int .i64 s3) ∧ w'.cell? ⟨O, 4, none⟩ = some (.slice b6 n6 c6) ∧ w'.cell? ⟨O, 5, none⟩ = some (.int .u32 x) ∧ w'.cell? ⟨EB, 1, none⟩ = some (.slice (some p) lp cp) ∧ w'.cell? (p.add fn) = some (.int .u32 z))) (by kernel_rfl) (HK9.out _ g0) (fun hHeld => ?_)
  refine wpAnyH_yield (i := 0) (v := ?vM0) rfl rfl (by kernel_rfl) (by kernel_rfl) (by kernel_rfl) (fun _ _ _ h => h) (by rfl) ?hyM0 hHeld ?restM0
  case hyM0 =>
    intro w hSw
    (try dsimp only at hSw)
    go_simp
    try with_reducible rfl
  simp only [Act.put, List.setIfInBounds_toArray, List.set_cons_zero, List.set_cons_succ]
  refine wpAnyH_yield (i := 1) (v := ?vM1) rfl rfl (by kernel_rfl) (by kernel_rfl) (by kernel_rfl) (fun _ _ _ h => h) (by rfl) ?hyM1 hHeld ?restM1
  case hyM1 =>
    intro w hSw
    (try dsimp only at hSw)
    go_simp
    try with_reducible rfl
  simp only [Act.put, List.setIfInBounds_toArray, List.set_cons_zero, List.set_cons_succ]
  refine wpAnyH_yield (i := 2) (v := ?vM2) rfl rfl (by kernel_rfl) (by kernel_rfl) (by kernel_rfl) (fun _ _ _ h => h) (by rfl) ?hyM2 hHeld ?restM2
  case hyM2 =>
    intro w hSw
    (try dsimp only at hSw)
    go_simp
    try with_reducible rfl
  simp only [Act.put, List.setIfInBounds_toArray, List.set_cons_zero, List.set_cons_succ]
  refine wpAnyH_yield (i := 3) (v := ?vM3) rfl rfl (by kernel_rfl) (by kernel_rfl) (by kernel_rfl) (fun _ _ _ h => h) (by rfl) ?hyM3 hHeld ?restM3
  case hyM3 =>
    intro w hSw
    (try dsimp only at hSw)
    go_simp
    try with_reducible rfl
  simp only [Act.put, List.setIfInBounds_toArray, List.set_cons_zero, List.set_cons_succ]
  refine wpAnyH_yield (i := 4) (v := ?vM4) rfl rfl (by kernel_rfl) (by kernel_rfl) (by kernel_rfl) (fun _ _ _ h => h) (by rfl) ?hyM4 hHeld ?restM4
  case hyM4 =>
    intro w hSw
    (try dsimp only at hSw)
    go_simp
    try with_reducible rfl
  simp only [Act.put, List.setIfInBounds_toArray, List.set_cons_zero, List.set_cons_succ]
  refine wpAnyH_yield (i := 5) (v := ?vM5) rfl rfl (by kernel_rfl) (by kernel_rfl) (by kernel_rfl) (fun _ _ _ h => h) (by rfl) ?hyM5 hHeld ?restM5
  case hyM5 =>
    intro w hSw
    (try dsimp only at hSw)
    go_simp
    try with_reducible rfl
  simp only [Act.put, List.setIfInBounds_toArray, List.set_cons_zero, List.set_cons_succ]
  refine wpAnyH_ready (rs := [6]) (by kernel_rfl) (by simp) ?_
  refine AllReadyH.cons rfl (fun K hK => ?_) AllReadyH.nil
  refine step_row W7.drew (by rfl) 42 _ _ (by rfl) (by rfl) (w.heap.size + 1) (tbA (s0, s1, s2, s3) (.slice b6 n6 c6) x) (by rfl) (by rfl) 42 _ HRx.out (by kernel_rfl) rfl (by simp [Value.oneCell']) ?_
  refine hK.out _ _ (HK9.out _ g1) (fun hHeld => ?_)
  clear hK K
  try simp only [Act.put, List.setIfInBounds_toArray, List.set_cons_zero, List.set_cons_succ]
  refine wpAnyH_yield (i := 7) (v := ?vM7) rfl rfl (by kernel_rfl) (by kernel_rfl) (by kernel_rfl) (fun _ _ _ h => h) (by rfl) ?hyM7 hHeld ?restM7
  case hyM7 =>
    intro w hSw
    (try dsimp only at hSw)
    go_simp
    try with_reducible rfl
  simp only [Act.put, List.setIfInBounds_toArray, List.set_cons_zero, List.set_cons_succ]
  refine wpAnyH_yield (i := 8) (v := ?vM8) rfl rfl (by kernel_rfl) (by kernel_rfl) (by kernel_rfl) (fun _ _ _ h => h) (by rfl) ?hyM8 hHeld ?restM8
  case hyM8 =>
    intro w hSw
    (try dsimp only at hSw)
    go_simp
    try with_reducible rfl
  simp only [Act.put, List.setIfInBounds_toArray, List.set_cons_zero, List.set_cons_succ]
  refine wpAnyH_done (by kernel_rfl) ?_ _
  clear hHeld o0 o1 o2 o3 o4 o5 v1 c0 c1 c2x
  go_wp2_with fail
  refine bodyPost_ret (v := .tuple #[tbV (s0, s1, s2, s3) (.slice b6 n6 c6) x, .int .u32 z, .bool true]) ?_ rfl ?_
  · exact results_tb_three Tryd.results86 _ _ (w.heap.size + 1) 42 _ _ _ rfl rfl rfl rfl (setRow_heap _ _ _ _ _ _ HRx.out)
  · rw [← HRR.out, HG2.out, HZ.out]
    exact ⟨_, _, _, rfl, below_setRow hbx.drew (by omega) _, ((HE7.out.grown (grownBy_trans (grownBy_of_below ((Below.refl _ _).drew) _) (grownBy_setRow W7.drew (w.heap.size + 1) _)) (fun m hm e => by have := Option.some.inj e; omega))).mono (fun m hm => by omega)⟩
end Go.Proofs.YtilddlgcfbefiaaDoor
