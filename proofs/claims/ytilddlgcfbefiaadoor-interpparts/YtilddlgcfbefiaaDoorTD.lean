/-
  What the fifth reference's Del returns, as a contract over the translated program.
-/
import Derived.Test.YtilddlgcfbefiaaDoorTV
import Derived.Test.YtilddlgcfbefiaaDoorTG
namespace Go.Proofs.YtilddlgcfbefiaaDoor
set_option linter.unusedSimpArgs false
set_option linter.unusedVariables false
open Go Go.RowKit

theorem del_no {t : Tb} {key : Int} (h : keyedB t 0 = false ∨ atE t.2.1 key = none) : delT t key = (t, false) := by
  unfold delT
  rcases h with h | h
  · rw [if_neg (by rw [h]; exact Bool.false_ne_true)]
  · split
    · rw [h]
    · rfl
theorem del_array {t : Tb} {key : Int} {j : Nat} (h : keyedB t 0 = true) (hj : atE t.2.1 key = some j) (h0 : t.1.1 = 0) : delT t key = ((t.1, t.2.1.set j (key, List.replicate t.1.2.2.1.toNat 0), t.2.2), true) := by
  rw [delT, if_pos h, hj]
  simp [h0]
theorem del_other {t : Tb} {key : Int} {j : Nat} (h : keyedB t 0 = true) (hj : atE t.2.1 key = some j) (h0 : ¬ t.1.1 = 0) : delT t key = (withoutT t j, true) := by
  rw [delT, if_pos h, hj]
  simp [h0]
theorem Ents.put {W : World} {A : Nat → Prop} {xs : List Value} {es : List Ent} (h : Ents W A xs es) {j : Nat} (hj : j < es.length) {b : Option Addr} {l c : Nat} {ws : List Int} (hw : WordsIn W A b l c ws) :
    Ents W A (xs.set (j * 2 + 1) (.slice b l c)) (es.set j ((es.getD j zeroE).1, ws)) := by
  have hl := h.1
  refine ⟨by simp [hl], fun k hk => ?_⟩
  rw [List.length_set] at hk
  obtain ⟨e1, e2, b', l', c', e3, e4⟩ := h.2 k hk
  by_cases hkj : j = k
  · subst hkj
    have hg : (es.set j ((es.getD j zeroE).1, ws)).getD j zeroE = ((es.getD j zeroE).1, ws) := by simp [List.getD_eq_getElem?_getD, hk]
    rw [hg]
    refine ⟨by rw [List.getElem?_set_ne (by omega)]; exact e1, e2, b, l, c, ?_, hw⟩
    rw [List.getElem?_set_self (by omega)]
  · have hg : (es.set j ((es.getD j zeroE).1, ws)).getD k zeroE = es.getD k zeroE := by simp [List.getD_eq_getElem?_getD, List.getElem?_set_ne hkj]
    rw [hg]
    exact ⟨by rw [List.getElem?_set_ne (by omega)]; exact e1, e2, b', l', c', by rw [List.getElem?_set_ne (by omega)]; exact e3, e4⟩
set_option maxRecDepth 100000 in
set_option maxHeartbeats 20000000 in
theorem del_any (s : Sc) (a : Option Addr) (len cap : Nat) (x : Int) (es : List Ent) (key : Int) (w : World) (h : EntsAt w a len cap es) (hf : fewE es) :
    Calls Tryd.prog 88 #[tbV s (.slice a len cap) x, .int .u32 key] w (TabPost2 (delT (s, es, x) key).1 (fun n => w.heap.size ≤ n) (.bool (delT (s, es, x) key).2) w) := by
  rcases s with ⟨s0, s1, s2, s3⟩
  have hm := h.max
  obtain ⟨W0, hW0⟩ : ∃ W0, (w.alloc (.cells #[.int .i64 s0, .int .i64 s1, .int .i64 s2, .int .i64 s3, .slice a len cap, .int .u32 x] 42)).alloc (.cells zeroTA 42) = W0 := ⟨_, rfl⟩
  have hs0 : W0.heap.size = w.heap.size + 1 + 1 := by rw [← hW0]; simp
  have hb0 : Below w.heap.size w W0 := by rw [← hW0]; exact box2 (Below.refl _ _) (Nat.le_refl _) _ _
  have HT : Hid (TbAt W0 w.heap.size (s0, s1, s2, s3) (.slice a len cap) x) := by rw [← hW0]; exact Lib.hid (tbAt_old (tbAt_new w (s0, s1, s2, s3) (.slice a len cap) x) _)
  have HR : Hid (Box W0 (w.heap.size + 1) 42 zeroTA) := by
    rw [← hW0]
    have := Box.new (w.alloc (.cells #[.int .i64 s0, .int .i64 s1, .int .i64 s2, .int .i64 s3, .slice a len cap, .int .u32 x] 42)) 42 zeroTA
    rw [show (w.alloc (.cells #[.int .i64 s0, .int .i64 s1, .int .i64 s2, .int .i64 s3, .slice a len cap, .int .u32 x] 42)).heap.size = w.heap.size + 1 by simp] at this
    exact Lib.hid this
  have HEs := Lib.hid (h.below hb0)
  have H1 := Lib.hid h.1
  have HF := Lib.hid hf
  replace hs0 : w.heap.size + 1 + 1 ≤ W0.heap.size := by omega
  obtain ⟨RR, hRR⟩ : ∃ RR, delT ((s0, s1, s2, s3), es, x) key = RR := ⟨_, rfl⟩
  rw [hRR]
  have HRR := Lib.hid hRR
  obtain ⟨d0, d1, d2, d3, d4, d5⟩ := HT.out
  simp only at d0 d1 d2 d3 d4 d5
  clear h hf hRR
  go_enter Tryd.func88, Tryd.ntmps88
  go_wp2_with fail
  refine (keyed_any (s0, s1, s2, s3) a len cap x es 0 W0 HEs.out isW_zero).mono ?_
  rintro e w1 ⟨rfl, hg⟩
  clear d0 d1 d2 d3 d4 d5 hW0
  replace HT := Lib.hid (HT.out.later hg)
  replace HR := Lib.hid (HR.out.later hg)
  replace HEs := Lib.hid (HEs.out.below hg)
  replace hb0 := hb0.trans (hg.mono hb0.size)
  replace hs0 := Nat.le_trans hs0 hg.size
  clear hg
  obtain ⟨d0, d1, d2, d3, d4, d5⟩ := HT.out
  simp only at d0 d1 d2 d3 d4 d5
  go_wp2_with fail
  refine (at_any (s0, s1, s2, s3) a len cap x key es w1 HEs.out).mono ?_
  rintro e w2 ⟨rfl, hg⟩
  clear d0 d1 d2 d3 d4 d5
  replace HT := Lib.hid (HT.out.later hg)
  replace HR := Lib.hid (HR.out.later hg)
  replace HEs := Lib.hid (HEs.out.below hg)
  replace hb0 := hb0.trans (hg.mono hb0.size)
  replace hs0 := Nat.le_trans hs0 hg.size
  clear hg
  obtain ⟨d0, d1, d2, d3, d4, d5⟩ := HT.out
  simp only at d0 d1 d2 d3 d4 d5
  rcases hK : keyedB ((s0, s1, s2, s3), es, x) 0 with _ | _
  · have HB : Hid (keyedB ((s0, s1, s2, s3), es, x) 0 = false ∨ atE es key = none) := Lib.hid (.inl hK)
    generalize atI es key = ai
    clear hK
    go_wp2_with fail
    refine ((own_any (s0, s1, s2, s3) a len cap x es w2 HEs.out HF.out).mono fun _ _ => own_in).mono ?_
    rintro e w3 ⟨b, n, c, he, hg, hE⟩
    replace he : e = .returned (tbV (s0, s1, s2, s3) (.slice b n c) x) := he
    subst he
    have HR3 := Lib.hid (HR.out.later hg)
    have HE3 := Lib.hid hE
    have hb3 := hb0.trans (hg.mono hb0.size)
    clear hg hE d0 d1 d2 d3 d4 d5
    go_wp2_with (refine wpList_store_row rfl 42 _ _ rfl (w.heap.size + 1) _ rfl rfl 42 _ HR3.out (by kernel_rfl) rfl (by simp [Value.oneCell']) ?_)
    refine bodyPost_ret (v := .tuple #[tbV (s0, s1, s2, s3) (.slice b n c) x, .bool false]) ?_ rfl ?_
    · exact results_tb_two Tryd.results88 _ _ (w.heap.size + 1) 42 _ _ rfl rfl rfl (setRow_heap _ _ _ _ _ _ HR3.out)
    · have hgr := grownBy_setRow w3 (w.heap.size + 1) (tbA (s0, s1, s2, s3) (.slice b n c) x)
      rw [← HRR.out, del_no HB.out]
      exact ⟨b, n, c, rfl, below_setRow hb3 (by omega) _, (HE3.out.grown hgr (fun m hm e => by have := Option.some.inj e; omega)).mono (fun m hm => by omega)⟩
  rcases hA : atE es key with _ | j
  · have HB : Hid (keyedB ((s0, s1, s2, s3), es, x) 0 = false ∨ atE es key = none) := Lib.hid (.inr hA)
    rw [atI_none hA]
    clear hK hA
    go_wp2_with fail
    refine ((own_any (s0, s1, s2, s3) a len cap x es w2 HEs.out HF.out).mono fun _ _ => own_in).mono ?_
    rintro e w3 ⟨b, n, c, he, hg, hE⟩
    replace he : e = .returned (tbV (s0, s1, s2, s3) (.slice b n c) x) := he
    subst he
    have HR3 := Lib.hid (HR.out.later hg)
    have HE3 := Lib.hid hE
    have hb3 := hb0.trans (hg.mono hb0.size)
    clear hg hE d0 d1 d2 d3 d4 d5
    go_wp2_with (refine wpList_store_row rfl 42 _ _ rfl (w.heap.size + 1) _ rfl rfl 42 _ HR3.out (by kernel_rfl) rfl (by simp [Value.oneCell']) ?_)
    refine bodyPost_ret (v := .tuple #[tbV (s0, s1, s2, s3) (.slice b n c) x, .bool false]) ?_ rfl ?_
    · exact results_tb_two Tryd.results88 _ _ (w.heap.size + 1) 42 _ _ rfl rfl rfl (setRow_heap _ _ _ _ _ _ HR3.out)
    · have hgr := grownBy_setRow w3 (w.heap.size + 1) (tbA (s0, s1, s2, s3) (.slice b n c) x)
      rw [← HRR.out, del_no HB.out]
      exact ⟨b, n, c, rfl, below_setRow hb3 (by omega) _, (HE3.out.grown hgr (fun m hm e => by have := Option.some.inj e; omega)).mono (fun m hm => by omega)⟩
  rw [atI_some hA]
  obtain ⟨hjl, hjk, _⟩ := atE_some hA
  have hjn : j < len := by rw [H1.out] at hjl; exact hjl
  have hj0 : (0 : Int) ≤ (j : Int) := Int.natCast_nonneg _
  have hjI : ¬ (j : Int) < 0 := by omega
  have HJl := Lib.hid hjl
  have HJk := Lib.hid hjk
  by_cases e0 : ¬ s0 = 0
  · have k0 : (s0 == 0) = false := by simpa using e0
    have HB := Lib.hid (del_other (t := ((s0, s1, s2, s3), es, x)) hK hA e0)
    clear e0 hK hA hjk
    go_wp2_with fail
    refine (withoutI_any (s0, s1, s2, s3) a len cap x es j (j : Int) rfl w2 HEs.out HF.out HJl.out).mono ?_
    rintro e w3 ⟨b, n, c, he, hg, hE⟩
    replace he : e = .returned (tbV (s0, s1, s2, s3) (.slice b n c) x) := he
    subst he
    have HR3 := Lib.hid (HR.out.later hg)
    have HE3 := Lib.hid hE
    have hb3 := hb0.trans (hg.mono hb0.size)
    clear hg hE d0 d1 d2 d3 d4 d5
    go_wp2_with (refine wpList_store_row rfl 42 _ _ rfl (w.heap.size + 1) _ rfl rfl 42 _ HR3.out (by kernel_rfl) rfl (by simp [Value.oneCell']) ?_)
    refine bodyPost_ret (v := .tuple #[tbV (s0, s1, s2, s3) (.slice b n c) x, .bool true]) ?_ rfl ?_
    · exact results_tb_two Tryd.results88 _ _ (w.heap.size + 1) 42 _ _ rfl rfl rfl (setRow_heap _ _ _ _ _ _ HR3.out)
    · have hgr := grownBy_setRow w3 (w.heap.size + 1) (tbA (s0, s1, s2, s3) (.slice b n c) x)
      rw [← HRR.out, HB.out]
      exact ⟨b, n, c, rfl, below_setRow hb3 (by omega) _, (HE3.out.grown hgr (fun m hm e => by have := Option.some.inj e; omega)).mono (fun m hm => by omega)⟩
  replace e0 := Decidable.not_not.1 e0
  have k0 : (s0 == 0) = true := by simpa using e0
  have HB := Lib.hid (del_array (t := ((s0, s1, s2, s3), es, x)) hK hA e0)
  have hM := (keyed_iff.1 hK).1
  have hP := mayS_iff.1 (show mayS s0 s1 s2 s3 = true from (headB_iff.1 (mayTb_head hM)).1)
  obtain ⟨nw, hnw⟩ := Int.eq_ofNat_of_zero_le (show 0 ≤ s2 by omega)
  have hnw4 : nw ≤ 4 := by omega
  have HNW := Lib.hid hnw
  clear e0 hK hA hM hP hnw hjk
  go_wp2_with fail
  refine (own_any (s0, s1, s2, s3) a len cap x es w2 HEs.out HF.out).mono ?_
  rintro e w3 ⟨v, xs, rfl, hg, hown, hOd⟩
  obtain ⟨g, cv, rfl, hgb, hgl⟩ := hown.form (by omega)
  obtain ⟨W3, hW3⟩ : ∃ W3, w3.alloc (.cells #[.int .i64 s0, .int .i64 s1, .int .i64 s2, .int .i64 s3, .slice (some ⟨g, 0, none⟩) es.length cv, .int .u32 x] 42) = W3 := ⟨_, rfl⟩
  have ha3 : Below w3.heap.size w3 W3 := by rw [← hW3]; exact (Below.refl _ _).alloc (Nat.le_refl _) _
  obtain ⟨O, hO⟩ : ∃ O, w3.heap.size = O := ⟨_, rfl⟩
  have HO3 : Hid (Box W3 O 42 #[.int .i64 s0, .int .i64 s1, .int .i64 s2, .int .i64 s3, .slice (some ⟨g, 0, none⟩) es.length cv, .int .u32 x]) := by rw [← hW3, ← hO]; exact Lib.hid (Box.new w3 42 _)
  have hs3 : W3.heap.size = O + 1 := by rw [← hW3, ← hO]; simp
  have h23 : w2.heap.size ≤ O := by rw [← hO]; exact hg.size
  have hg3 := hg.trans (ha3.mono hg.size)
  have HR3 := Lib.hid (HR.out.later hg3)
  have HT3 := Lib.hid (HT.out.later hg3)
  have hb3 := hb0.trans (hg3.mono hb0.size)
  have hown3 := ownsRow_below hown ha3
  have HA3 := Lib.hid (hOd.ents.below ha3)
  rw [hO] at HA3 hgl
  obtain ⟨y, hy⟩ : ∃ y, (⟨g, 0, none⟩ : Addr) = y := ⟨_, rfl⟩
  have hyj : (⟨(y.add (j * 2)).block, (y.add (j * 2)).off + 1, none⟩ : Addr) = ⟨g, j * 2 + 1, none⟩ := by rw [← hy, addr_add]
  obtain ⟨_, _, ob, ol, oc, hold, _⟩ := HA3.out.2 j hjl
  obtain ⟨d0', d1', d2', d3', d4', d5'⟩ := HT3.out
  simp only at d0' d1' d2' d3' d4' d5'
  obtain ⟨o0, o1, o2, o3, o4, o5⟩ := Box.tb (s := (s0, s1, s2, s3)) HO3.out
  simp only at o0 o1 o2 o3 o4 o5
  have o4y : W3.cell? ⟨O, 4, none⟩ = some (.slice (some y) es.length cv) := by rw [← hy]; exact o4
  have hgO : some O ≠ some g := by simp; omega
  have hgP : some w.heap.size ≠ some g := by simp; omega
  have HK : Hid (∀ w', W3.grownBy w' (some g) → w'.cell? ⟨O, 4, none⟩ = some (.slice (some y) es.length cv) ∧ w'.cell? ⟨w.heap.size, 2, none⟩ = some (.int .i64 s2)) := Lib.hid (fun w' h => ⟨(h.cell_far ⟨O, 4, none⟩ (lt_of_cell o4y) hgO).trans o4y, (h.cell_far ⟨w.heap.size, 2, none⟩ (lt_of_cell d2') hgP).trans d2'⟩)
  have g3 : W3.grownBy W3.drew (some g) := grownBy_of_below ((Below.refl _ _).drew) _
  have hjI2 : (j : Int) < (es.length : Int) := by omega
  have hmes : es.length ≤ 40 := HF.out.1
  have HYJ := Lib.hid hyj
  have HHold := Lib.hid hold
  clear hyj hold
  rw [hy] at hW3
  go_wp2_with fail
  clear d0 d1 d2 d3 d4 d5 hW3 hy
  refine wp_region_held_drew (S := (fun w' => w'.cell? ⟨O, 4, none⟩ = some (.slice (some y) es.length cv) ∧ w'.cell? ⟨w.heap.size, 2, none⟩ = some (.int .i64 s2))) (by kernel_rfl) (HK.out _ g3) (fun hHeld => ?_)
  refine wpAnyH_yield (i := 0) (v := ?v0) rfl rfl (by kernel_rfl) (by kernel_rfl) (by kernel_rfl) (fun _ _ _ h => h) (by rfl) ?hy0 hHeld ?rest0
  case hy0 =>
    intro w hSw
    (try dsimp only at hSw)
    go_simp
    try with_reducible rfl
  simp only [Act.put, List.setIfInBounds_toArray, List.set_cons_zero, List.set_cons_succ]
  refine wpAnyH_yield (i := 1) (v := ?v1) rfl rfl (by kernel_rfl) (by kernel_rfl) (by kernel_rfl) (fun _ _ _ h => h) (by rfl) ?hy1 hHeld ?rest1
  case hy1 =>
    intro w hSw
    (try dsimp only at hSw)
    go_simp
    try with_reducible rfl
  simp only [Act.put, List.setIfInBounds_toArray, List.set_cons_zero, List.set_cons_succ]
  refine wpAnyH_yield (i := 2) (v := ?v2) rfl rfl (by kernel_rfl) (by kernel_rfl) (by kernel_rfl) (fun _ _ _ h => h) (by rfl) ?hy2 hHeld ?rest2
  case hy2 =>
    intro w hSw
    (try dsimp only at hSw)
    go_simp
    try with_reducible rfl
  simp only [Act.put, List.setIfInBounds_toArray, List.set_cons_zero, List.set_cons_succ]
  refine wpAnyH_yield (i := 3) (v := ?v3) rfl rfl (by kernel_rfl) (by kernel_rfl) (by kernel_rfl) (fun _ _ _ h => h) (by rfl) ?hy3 hHeld ?rest3
  case hy3 =>
    intro w hSw
    (try dsimp only at hSw)
    go_simp
    try with_reducible rfl
  simp only [Act.put, List.setIfInBounds_toArray, List.set_cons_zero, List.set_cons_succ]
  refine wpAnyH_yield (i := 4) (v := ?v4) rfl rfl (by kernel_rfl) (by kernel_rfl) (by kernel_rfl) (fun _ _ _ h => h) (by rfl) ?hy4 hHeld ?rest4
  case hy4 =>
    intro w hSw
    (try dsimp only at hSw)
    go_simp
    try with_reducible rfl
  simp only [Act.put, List.setIfInBounds_toArray, List.set_cons_zero, List.set_cons_succ]
  refine wpAnyH_yield (i := 5) (v := ?v5) rfl rfl (by kernel_rfl) (by kernel_rfl) (by kernel_rfl) (fun _ _ _ h => h) (by rfl) ?hy5 hHeld ?rest5
  case hy5 =>
    intro w hSw
    (try dsimp only at hSw)
    go_simp
    try with_reducible rfl
  simp only [Act.put, List.setIfInBounds_toArray, List.set_cons_zero, List.set_cons_succ]
  refine wpAnyH_ready (rs := [6]) (by kernel_rfl) (by simp) ?_
  refine AllReadyH.cons rfl (fun K hK => ?_) AllReadyH.nil
  refine step_makeW W3.drew (by rfl) _ _ (by rfl) (by rfl) (w2.heap.size + 1) nw s2 (by rfl) (by rfl) HNW.out (by omega) (by simp; omega) (O + 1) hs3 ?_
  intro w4 hown4 hgrow4
  have hB4 : Below W3.heap.size W3 w4 := ⟨hgrow4.os, hgrow4.tape, hgrow4.output, hgrow4.size, fun k hk => hgrow4.block k hk (by simp)⟩
  have g4 : W3.grownBy w4 (some g) := grownBy_of_below hB4 _
  have hownR4 := ownsRow_below hown3 hB4
  have HC4 := Lib.hid (own_cells hownR4)
  have v4 : w4.cell? ⟨(y.add (j * 2)).block, (y.add (j * 2)).off + 1, none⟩ = some (.slice ob ol oc) := by
    rw [HYJ.out]
    exact HC4.out _ _ HHold.out
  have f4 : w4.frozen? ⟨(y.add (j * 2)).block, (y.add (j * 2)).off + 1, none⟩ = false := by
    rw [HYJ.out]
    obtain ⟨_, ⟨e, _⟩ | ⟨g', cap', cur, e, _, hh, _⟩⟩ := hownR4
    · cases e
    · simp only [Value.slice.injEq, Option.some.injEq, Addr.mk.injEq, and_true, true_and] at e
      obtain ⟨rfl, rfl⟩ := e
      simp [World.frozen?, hh]
  have HSt := Lib.hid (hownR4.stored (j * 2 + 1) (.slice (some ⟨O + 1, 0, none⟩) nw nw))
  have g5 : W3.grownBy (w4.setCell ⟨(y.add (j * 2)).block, (y.add (j * 2)).off + 1, none⟩ (.slice (some ⟨O + 1, 0, none⟩) nw nw)) (some g) := by
    rw [HYJ.out]
    exact grownBy_trans g4 HSt.out.2
  refine hK.out _ _ (HK.out _ g4) (fun hHeld => ?_)
  clear hK K
  try simp only [Act.put, List.setIfInBounds_toArray, List.set_cons_zero, List.set_cons_succ]
  refine wpAnyH_yield (i := 7) (v := ?v7) rfl rfl (by kernel_rfl) (by kernel_rfl) (by kernel_rfl) (fun _ _ _ h => h) (by rfl) ?hy7 hHeld ?rest7
  case hy7 =>
    intro w hSw
    (try dsimp only at hSw)
    go_simp
    try with_reducible rfl
  simp only [Act.put, List.setIfInBounds_toArray, List.set_cons_zero, List.set_cons_succ]
  refine wpAnyH_yield (i := 8) (v := ?v8) rfl rfl (by kernel_rfl) (by kernel_rfl) (by kernel_rfl) (fun _ _ _ h => h) (by rfl) ?hy8 hHeld ?rest8
  case hy8 =>
    intro w hSw
    (try dsimp only at hSw)
    go_simp
    try with_reducible rfl
  simp only [Act.put, List.setIfInBounds_toArray, List.set_cons_zero, List.set_cons_succ]
  refine wpAnyH_ready (rs := [9]) (by kernel_rfl) (by simp) ?_
  refine AllReadyH.cons rfl (fun K hK => ?_) AllReadyH.nil
  go_simp
  refine hK.out _ _ (HK.out _ g5) (fun hHeld => ?_)
  clear hK K
  try simp only [Act.put, List.setIfInBounds_toArray, List.set_cons_zero, List.set_cons_succ]
  refine wpAnyH_done (by kernel_rfl) ?_ _
  have hW4 := words_own (t := 25) (c := List.replicate nw 0) (by simp) (wordL_zeros nw) hown4
  obtain ⟨wb, wc, hwe, hWd, _⟩ := hW4
  simp only [Value.slice.injEq, true_and] at hwe
  obtain ⟨rfl, rfl⟩ := hwe
  obtain ⟨W5, hW5⟩ : ∃ W5, (w4.setCell ⟨(y.add (j * 2)).block, (y.add (j * 2)).off + 1, none⟩ (.slice (some ⟨O + 1, 0, none⟩) nw nw)) = W5 := ⟨_, rfl⟩
  rw [hW5] at g5
  have HO5 := Lib.hid (HO3.out.grown g5 hgO)
  have HR5 := Lib.hid (HR3.out.grown g5 (by simp; omega))
  have hb5 : Below w.heap.size w W5 := hb3.grown g5 (by omega) (fun k hk => by have := Option.some.inj hk; omega)
  have hown5 : W5.ownsRow (w2.heap.size + 1) 66 2 (.slice (some ⟨g, 0, none⟩) es.length cv) es.length (xs.set (j * 2 + 1) (.slice (some ⟨O + 1, 0, none⟩) nw nw)) := by
    rw [← hW5, HYJ.out]
    exact HSt.out.1
  have HA5 : Hid (Ents W5 (fun n => w.heap.size ≤ n ∧ n ≠ g ∧ n ≠ w.heap.size + 1) (xs.set (j * 2 + 1) (.slice (some ⟨O + 1, 0, none⟩) nw nw)) (es.set j ((es.getD j zeroE).1, List.replicate nw 0))) := Lib.hid (by
    have hst := HSt.out.2
    rw [← HYJ.out, hW5] at hst
    refine Ents.grown (Ents.put ((HA3.out.below hB4).mono (fun n hn => ?_)) hjl ⟨hWd, .inr ⟨_, rfl, ?_⟩⟩) hst (fun n hn e => hn.2.1 (Option.some.inj e))
    · have h3 : n ≠ g := fun e => hn.2.2 (by rw [e]; rfl)
      omega
    · show w.heap.size ≤ O + 1 ∧ O + 1 ≠ g ∧ O + 1 ≠ w.heap.size + 1
      omega)
  obtain ⟨q0, q1, q2, q3, q4, q5⟩ := Box.tb (s := (s0, s1, s2, s3)) HO5.out
  simp only at q0 q1 q2 q3 q4 q5
  have HOwn5 := Lib.hid hown5
  clear hHeld o0 o1 o2 o3 o4 o5 o4y d0' d1' d2' d3' d4' d5' g3 g4 g5 v4 f4 hown4 hgrow4 hown3 hown hOd hownR4 hown5 hWd HSt HC4 hB4
  rw [hW5]
  go_wp2_with (refine wpList_store_row rfl 42 _ _ rfl (w.heap.size + 1) _ rfl rfl 42 _ HR5.out (by kernel_rfl) rfl (by simp [Value.oneCell']) ?_)
  refine bodyPost_ret (v := .tuple #[tbV (s0, s1, s2, s3) (.slice (some ⟨g, 0, none⟩) es.length cv) x, .bool true]) ?_ rfl ?_
  · exact results_tb_two Tryd.results88 _ _ (w.heap.size + 1) 42 _ _ rfl rfl rfl (setRow_heap _ _ _ _ _ _ HR5.out)
  · have hgr := grownBy_setRow W5 (w.heap.size + 1) (tbA (s0, s1, s2, s3) (.slice (some ⟨g, 0, none⟩) es.length cv) x)
    have hbs := hb0.size
    obtain ⟨b8, c8, e8, hE8⟩ := rows_in (A := fun n => w.heap.size ≤ n) (by simp) (own_far HOwn5.out hgr (by omega)) ((HA5.out.grown hgr (fun n hn e => hn.2.2 (by simpa using e))).mono (fun n hn => hn.1)) (fun n hn => by omega)
    simp only [Value.slice.injEq, true_and] at e8
    obtain ⟨rfl, rfl⟩ := e8
    have hk8 : (((es.getD j zeroE).1, List.replicate nw 0) : Ent) = (key, List.replicate s2.toNat 0) := by rw [HJk.out, HNW.out]; rfl
    rw [hk8] at hE8
    rw [← HRR.out, HB.out]
    exact ⟨_, _, _, rfl, below_setRow hb5 (by omega) _, hE8⟩
end Go.Proofs.YtilddlgcfbefiaaDoor
