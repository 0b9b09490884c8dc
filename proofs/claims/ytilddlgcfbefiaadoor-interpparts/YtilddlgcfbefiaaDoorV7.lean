/-
  What the package's Set returns, as a contract over the translated program.
-/
import Derived.Test.YtilddlgcfbefiaaDoorV6
namespace Go.Proofs.YtilddlgcfbefiaaDoor
set_option linter.unusedSimpArgs false
set_option linter.unusedVariables false
open Go Go.RowKit

theorem set_last (es : List Ent) (e e' : Ent) : (es ++ [e]).set es.length e' = es ++ [e'] := by simp
theorem getD_last (es : List Ent) (e : Ent) : (es ++ [e]).getD es.length zeroE = e := by simp [List.getD_eq_getElem?_getD]
theorem erase_last (es : List Ent) (e : Ent) : (es ++ [e]).eraseIdx es.length ++ [(es ++ [e]).getD es.length zeroE] = es ++ [e] := by
  rw [getD_last, List.eraseIdx_append_of_length_le (Nat.le_refl _)]
  simp
theorem erase_set (es : List Ent) (j : Nat) (e : Ent) : (es.set j e).eraseIdx j = es.eraseIdx j := by
  apply List.ext_getElem?
  intro i
  simp only [List.getElem?_eraseIdx]
  split
  · rw [List.getElem?_set_ne (by omega)]
  · rw [List.getElem?_set_ne (by omega)]
theorem getD_set {es : List Ent} {j : Nat} (e : Ent) (h : j < es.length) : (es.set j e).getD j zeroE = e := by simp [List.getD_eq_getElem?_getD, h]
set_option maxRecDepth 100000 in
set_option maxHeartbeats 3000000 in
theorem tset_any (s : Sc) (a : Option Addr) (len cap : Nat) (x : Int) (es : List Ent) (key f v : Int) (w : World) (h : EntsAt w a len cap es) (hf : fewE es) (hx : isW x) (hkw : isW key) (hfw : isW f) (hvw : isW v) :
    Calls Tryd.prog 130 #[tbV s (.slice a len cap) x, .int .u32 key, .int .u32 f, .int .u32 v] w (Own2 (setT (s, es, x) key f v).1 (.int .i64 (setT (s, es, x) key f v).2) w) := by
  obtain ⟨iE, hiE, hz0, hz1, hz2⟩ := info_parts infoE
  rcases s with ⟨s0, s1, s2, s3⟩
  have HF := Lib.hid hf
  have HEn := Lib.hid h
  have hlm := h.max
  have H1 := Lib.hid h.1
  obtain ⟨W0, hW0⟩ : ∃ W0, (w.alloc (.cells #[.int .i64 s0, .int .i64 s1, .int .i64 s2, .int .i64 s3, .slice a len cap, .int .u32 x] 42)).alloc (.cells zeroTA 42) = W0 := ⟨_, rfl⟩
  have hs0 : W0.heap.size = w.heap.size + 2 := by rw [← hW0]; simp
  have hb0 : Below w.heap.size w W0 := by rw [← hW0]; exact box2 (Below.refl _ _) (Nat.le_refl _) _ _
  have HT : Hid (Box W0 w.heap.size 42 #[.int .i64 s0, .int .i64 s1, .int .i64 s2, .int .i64 s3, .slice a len cap, .int .u32 x]) := by rw [← hW0]; exact Lib.hid ((Box.new w 42 _).alloc _)
  have HR : Hid (Box W0 (w.heap.size + 1) 42 zeroTA) := by
    rw [← hW0]
    have := Box.new (w.alloc (.cells #[.int .i64 s0, .int .i64 s1, .int .i64 s2, .int .i64 s3, .slice a len cap, .int .u32 x] 42)) 42 zeroTA
    rw [show (w.alloc (.cells #[.int .i64 s0, .int .i64 s1, .int .i64 s2, .int .i64 s3, .slice a len cap, .int .u32 x] 42)).heap.size = w.heap.size + 1 by simp] at this
    exact Lib.hid this
  obtain ⟨d0, d1, d2, d3, d4, d5⟩ := Box.tb (s := (s0, s1, s2, s3)) HT.out
  simp only at d0 d1 d2 d3 d4 d5
  have HB0 := Lib.hid hb0
  clear h hf hb0
  have HX := Lib.hid hx
  have HVw := Lib.hid hvw
  have HKw := Lib.hid hkw
  obtain ⟨f, rfl⟩ := Int.eq_ofNat_of_zero_le hfw.1
  have hf0 := hfw.2
  clear hx hfw hkw hvw
  obtain ⟨RR, hRR⟩ : ∃ RR, setT ((s0, s1, s2, s3), es, x) key (f : Int) v = RR := ⟨_, rfl⟩
  rw [hRR]
  have HRR := Lib.hid hRR
  clear hRR
  go_enter Tryd.func130, Tryd.ntmps130
  go_wp2_with fail
  refine (tkeyed_any (s0, s1, s2, s3) a len cap x es W0 (HEn.out.below HB0.out) HX.out).mono ?_
  rintro e w1 ⟨rfl, hb1⟩
  clear d0 d1 d2 d3 d4 d5 hW0
  have hs1 : w.heap.size + 2 ≤ w1.heap.size := by have := hb1.size; omega
  replace HT := Lib.hid (HT.out.later hb1)
  replace HR := Lib.hid (HR.out.later hb1)
  replace HB0 := Lib.hid (HB0.out.trans (hb1.mono HB0.out.size))
  clear hb1 hs0
  obtain ⟨d0, d1, d2, d3, d4, d5⟩ := Box.tb (s := (s0, s1, s2, s3)) HT.out
  simp only at d0 d1 d2 d3 d4 d5
  rcases hM : mayTb ((s0, s1, s2, s3), es, x) with _ | _
  · have HN : Hid (keyedB ((s0, s1, s2, s3), es, x) (f : Int) = false) := Lib.hid (by simp [keyedB, hM])
    simp only [Bool.false_and]
    clear hM
    have HRx := Lib.hid HR.out
    go_wp2_with (refine wpList_store_row rfl 42 _ _ rfl (w.heap.size + 1) _ rfl rfl 42 _ HRx.out (by kernel_rfl) rfl (by simp [Value.oneCell']) ?_)
    refine bodyPost_ret (v := .tuple #[tbV zeroS (.slice none 0 0) 0, .int .i64 1]) ?_ rfl ?_
    · exact results_tb_two Tryd.results130 _ _ (w.heap.size + 1) 42 _ _ rfl rfl rfl (setRow_heap _ _ _ _ _ _ HRx.out)
    · rw [← HRR.out, set_arg HN.out]
      exact ⟨.slice none 0 0, rfl, below_setRow HB0.out (by omega) _, Row.nil _ _⟩
  by_cases h3 : s0 = 3
  · have HN : Hid (keyedB ((s0, s1, s2, s3), es, x) (f : Int) = false) := Lib.hid (by simp [keyedB, h3])
    have hd : (true && decide (s0 ≠ 3)) = false := by simp [h3]
    rw [hd]
    clear hM h3 hd
    have HRx := Lib.hid HR.out
    go_wp2_with (refine wpList_store_row rfl 42 _ _ rfl (w.heap.size + 1) _ rfl rfl 42 _ HRx.out (by kernel_rfl) rfl (by simp [Value.oneCell']) ?_)
    refine bodyPost_ret (v := .tuple #[tbV zeroS (.slice none 0 0) 0, .int .i64 1]) ?_ rfl ?_
    · exact results_tb_two Tryd.results130 _ _ (w.heap.size + 1) 42 _ _ rfl rfl rfl (setRow_heap _ _ _ _ _ _ HRx.out)
    · rw [← HRR.out, set_arg HN.out]
      exact ⟨.slice none 0 0, rfl, below_setRow HB0.out (by omega) _, Row.nil _ _⟩
  have hd : (true && decide (s0 ≠ 3)) = true := by simp [h3]
  rw [hd]
  have HM := Lib.hid hM
  have H3 := Lib.hid h3
  have HLe := Lib.hid (headB_iff.1 (mayTb_head hM)).2.1
  have hsc := valid_schema hM
  simp only [mayT] at hsc
  rw [mayS_iff] at hsc
  obtain ⟨hk0, hk3, hc1, hc16, hn1, hn4, _⟩ := hsc
  clear hM h3 hd
  go_wp2_with fail
  refine (hasField_any s0 s1 s2 s3 (f : Int) w1 ⟨by omega, hn4⟩).mono ?_
  rintro e w2 ⟨rfl, hb2⟩
  have hs2 : w.heap.size + 2 ≤ w2.heap.size := by have := hb2.size; omega
  clear d0 d1 d2 d3 d4 d5
  replace HT := Lib.hid (HT.out.later hb2)
  replace HR := Lib.hid (HR.out.later hb2)
  replace HB0 := Lib.hid (HB0.out.trans (hb2.mono HB0.out.size))
  clear hb2 hs1
  obtain ⟨d0, d1, d2, d3, d4, d5⟩ := Box.tb (s := (s0, s1, s2, s3)) HT.out
  simp only at d0 d1 d2 d3 d4 d5
  by_cases hfs : ¬ (f : Int) < s2
  · have HN : Hid (keyedB ((s0, s1, s2, s3), es, x) (f : Int) = false) := Lib.hid (by simp [keyedB]; intro _ _; omega)
    have hd : decide ((f : Int) < s2) = false := decide_eq_false hfs
    rw [hd]
    clear hd hfs
    have HRx := Lib.hid HR.out
    go_wp2_with (refine wpList_store_row rfl 42 _ _ rfl (w.heap.size + 1) _ rfl rfl 42 _ HRx.out (by kernel_rfl) rfl (by simp [Value.oneCell']) ?_)
    refine bodyPost_ret (v := .tuple #[tbV zeroS (.slice none 0 0) 0, .int .i64 1]) ?_ rfl ?_
    · exact results_tb_two Tryd.results130 _ _ (w.heap.size + 1) 42 _ _ rfl rfl rfl (setRow_heap _ _ _ _ _ _ HRx.out)
    · rw [← HRR.out, set_arg HN.out]
      exact ⟨.slice none 0 0, rfl, below_setRow HB0.out (by omega) _, Row.nil _ _⟩
  replace hfs := Decidable.not_not.1 hfs
  have hd : decide ((f : Int) < s2) = true := decide_eq_true hfs
  rw [hd]
  have HK : Hid (keyedB ((s0, s1, s2, s3), es, x) (f : Int) = true) := Lib.hid (keyed_iff.2 ⟨HM.out, H3.out, hfs⟩)
  clear hd
  obtain ⟨nw, hnw⟩ : ∃ nw : Nat, s2 = (nw : Int) := ⟨s2.toNat, by omega⟩
  have HNw := Lib.hid hnw
  clear hnw
  go_wp2_with fail
  refine (clone_any (s0, s1, s2, s3) a len cap x es w2 (HEn.out.below HB0.out) HF.out).mono ?_
  rintro e wc ⟨g, c, rfl, hbc, hrc⟩
  rw [H1.out] at hrc ⊢
  have HSt := Lib.hid (St.start (s := (s0, s1, s2, s3)) (x := x) (HB0.out.trans (hbc.mono HB0.out.size)) (HT.out.later hbc) (HR.out.later hbc) (hrc.low (base' := w.heap.size + 2) (by have := hbc.size; omega)))
  obtain ⟨U, hU⟩ : ∃ U, wc.heap.size = U := ⟨_, rfl⟩
  obtain ⟨W2, hW2⟩ : ∃ W2, wc.alloc (.cells #[.int .i64 s0, .int .i64 s1, .int .i64 s2, .int .i64 s3, .slice (some ⟨g, 0, none⟩) len c, .int .u32 x] 42) = W2 := ⟨_, rfl⟩
  rw [hU] at HSt
  rw [hW2] at HSt
  clear d0 d1 d2 d3 d4 d5 hbc hrc HT HR
  obtain ⟨d0, d1, d2, d3, d4, d5⟩ := HSt.out.box0
  simp only at d0 d1 d2 d3 d4 d5
  obtain ⟨k0, k1, k2, k3, k4, k5⟩ := HSt.out.boxU
  simp only at k0 k1 k2 k3 k4 k5
  have hj40 : len ≤ 40 := by rw [← H1.out]; exact HF.out.1
  have HEU : Hid (EntsAt W2 (some ⟨g, 0, none⟩) len c es) := Lib.hid (by
    obtain ⟨b, c', e, h⟩ := HSt.out.2.2.2.2.1.at
    simp only [Value.slice.injEq] at e
    obtain ⟨rfl, e2, rfl⟩ := e
    rw [e2]
    exact h)
  go_wp2_with fail
  clear hU hW2
  refine (find_any (some ⟨g, 0, none⟩) len c key es W2 HEU.out).mono ?_
  rintro e w5 ⟨rfl, rfl⟩
  rcases hA : atE es key with _ | j
  · rw [findI_none hA, H1.out]
    have HA := Lib.hid hA
    clear hA hfs
    go_wp2_with fail
    refine (mayAdd_any (s0, s1, s2, s3) (some ⟨g, 0, none⟩) len c x es w5 HEU.out).mono ?_
    rintro e wA ⟨rfl, hbA⟩
    replace HSt := Lib.hid (HSt.out.later hbA)
    clear hbA HEU
    clear d0 d1 d2 d3 d4 d5 k0 k1 k2 k3 k4 k5
    obtain ⟨d0, d1, d2, d3, d4, d5⟩ := HSt.out.box0
    simp only at d0 d1 d2 d3 d4 d5
    obtain ⟨k0, k1, k2, k3, k4, k5⟩ := HSt.out.boxU
    simp only at k0 k1 k2 k3 k4 k5
    by_cases h0 : s0 = 0
    · have hE : addE (s0, s1, s2, s3) len = 3 := by simp [addE, h0]
      rw [hE]
      have HR9 := Lib.hid HSt.out.2.2.1
      have HB9 := Lib.hid HSt.out.1
      have H0 := Lib.hid h0
      clear h0 hE
      have HRx := Lib.hid HR9.out
      go_wp2_with (refine wpList_store_row rfl 42 _ _ rfl (w.heap.size + 1) _ rfl rfl 42 _ HRx.out (by kernel_rfl) rfl (by simp [Value.oneCell']) ?_)
      refine bodyPost_ret (v := .tuple #[tbV zeroS (.slice none 0 0) 0, .int .i64 3]) ?_ rfl ?_
      · exact results_tb_two Tryd.results130 _ _ (w.heap.size + 1) 42 _ _ rfl rfl rfl (setRow_heap _ _ _ _ _ _ HRx.out)
      · rw [← HRR.out, set_none HK.out HA.out H0.out]
        exact ⟨.slice none 0 0, rfl, below_setRow HB9.out (by omega) _, Row.nil _ _⟩
    by_cases h1 : s0 = 1 ∧ (len : Int) = s1
    · have hE : addE (s0, s1, s2, s3) len = 4 := by simp [addE, h1.1, h1.2]
      rw [hE]
      have HR9 := Lib.hid HSt.out.2.2.1
      have HB9 := Lib.hid HSt.out.1
      have H0 : Hid (s0 = 1 ∧ s1 ≤ (es.length : Int)) := Lib.hid ⟨h1.1, by rw [H1.out]; omega⟩
      clear h0 h1 hE
      have HRx := Lib.hid HR9.out
      go_wp2_with (refine wpList_store_row rfl 42 _ _ rfl (w.heap.size + 1) _ rfl rfl 42 _ HRx.out (by kernel_rfl) rfl (by simp [Value.oneCell']) ?_)
      refine bodyPost_ret (v := .tuple #[tbV zeroS (.slice none 0 0) 0, .int .i64 4]) ?_ rfl ?_
      · exact results_tb_two Tryd.results130 _ _ (w.heap.size + 1) 42 _ _ rfl rfl rfl (setRow_heap _ _ _ _ _ _ HRx.out)
      · rw [← HRR.out, set_full HK.out HA.out H0.out.1 H0.out.2]
        exact ⟨.slice none 0 0, rfl, below_setRow HB9.out (by omega) _, Row.nil _ _⟩
    have hE : addE (s0, s1, s2, s3) len = 0 := by simp only [addE, if_neg h0, if_neg h1]
    rw [hE]
    have HG := Lib.hid (set_new (t := ((s0, s1, s2, s3), es, x)) (v := v) HK.out HA.out h0 (fun hh => h1 ⟨hh.1, by have h5 : (es.length : Int) ≤ s1 := HLe.out; have h6 : s1 ≤ (es.length : Int) := hh.2; rw [H1.out] at h5 h6; omega⟩))
    have HRoom : Hid ((if s1 ≤ (es.length : Int) then withoutT ((s0, s1, s2, s3), es, x) 0 else ((s0, s1, s2, s3), es, x)) = ((s0, s1, s2, s3), roomE (s0, s1, s2, s3) es, x)) := Lib.hid (by
      have h5 : (es.length : Int) ≤ s1 := HLe.out
      by_cases hr : (es.length : Int) = s1
      · rw [if_pos (by omega), roomE, if_pos hr]
        rfl
      · rw [if_neg (by rw [H1.out] at h5 hr ⊢; omega), roomE, if_neg hr])
    have hfn : f < nw := by have h7 : (f : Int) < s2 := (keyed_iff.1 HK.out).2.2; have := HNw.out; omega
    have hlr : (roomE (s0, s1, s2, s3) es).length ≤ 40 := by
      unfold roomE
      split
      · exact Nat.le_trans (List.length_eraseIdx_le _ _) (by rw [H1.out]; exact hj40)
      · rw [H1.out]
        exact hj40
    clear h0 h1 hE
    have HSd := Lib.hid (HSt.out.later (W' := wA.drew) (Below.refl _ _).drew)
    go_wp2_with fail
    refine wp_region_held_drew (S := (fun w' => w'.cell? ⟨U, 0, none⟩ = some (.int .i64 s0) ∧ w'.cell? ⟨U, 1, none⟩ = some (.int .i64 s1) ∧ w'.cell? ⟨U, 2, none⟩ = some (.int .i64 s2) ∧ w'.cell? ⟨U, 3, none⟩ = some (.int .i64 s3))) (by kernel_rfl) (⟨k0, k1, k2, k3⟩) (fun hHeld => ?_)
    refine wpAnyH_yield (i := 2) (v := ?v2) rfl rfl (by kernel_rfl) (by kernel_rfl) (by kernel_rfl) (fun _ _ _ h => h) (by rfl) ?hy2 hHeld ?rest2
    case hy2 =>
      intro w hSw
      (try dsimp only at hSw)
      go_simp
      try with_reducible rfl
    simp only [Act.put, List.setIfInBounds_toArray, List.set_cons_zero, List.set_cons_succ]
    refine wpAnyH_yield (i := 3) (v := ?v3) rfl rfl (by kernel_rfl) (by kernel_rfl) (by kernel_rfl) (fun _ _ _ h => h) (by rfl) ?hy3 hHeld ?rest3
    case hy3 =>
      intro w hSw
      (try dsimp only at hSw)
      go_simp
      try with_reducible rfl
    simp only [Act.put, List.setIfInBounds_toArray, List.set_cons_zero, List.set_cons_succ]
    refine wpAnyH_yield (i := 4) (v := ?v4) rfl rfl (by kernel_rfl) (by kernel_rfl) (by kernel_rfl) (fun _ _ _ h => h) (by rfl) ?hy4 hHeld ?rest4
    case hy4 =>
      intro w hSw
      (try dsimp only at hSw)
      go_simp
      try with_reducible rfl
    simp only [Act.put, List.setIfInBounds_toArray, List.set_cons_zero, List.set_cons_succ]
    refine wpAnyH_ready (rs := [0]) (by kernel_rfl) (by simp) ?_
    refine AllReadyH.cons rfl (fun K hK => ?_) AllReadyH.nil
    go_simp
    refine hK.out _ _ (⟨k0, k1, k2, k3⟩) (fun hHeld => ?_)
    clear hK K
    try simp only [Act.put, List.setIfInBounds_toArray, List.set_cons_zero, List.set_cons_succ]
    refine wpAnyH_ready (rs := [1]) (by kernel_rfl) (by simp) ?_
    refine AllReadyH.cons rfl (fun K hK => ?_) AllReadyH.nil
    go_simp
    refine (withRoom_any (s0, s1, s2, s3) g len c (w.heap.size + 2) x es wA.drew HSd.out.2.2.2.2.1 H1.out (by omega) hc1).mono ?_
    rintro e w6 ⟨rfl, hg6, hr6⟩
    have HB6 := Lib.hid (HSd.out.boxG hg6 rfl).tb
    have HG6 := Lib.hid hg6
    have HR6 := Lib.hid hr6
    clear hg6 hr6
    go_wp2_with fail
    refine hK.out _ _ (⟨HB6.out.1, HB6.out.2.1, HB6.out.2.2.1, HB6.out.2.2.2.1⟩) (fun hHeld => ?_)
    clear hK K
    try simp only [Act.put, List.setIfInBounds_toArray, List.set_cons_zero, List.set_cons_succ]
    refine wpAnyH_ready (rs := [5]) (by kernel_rfl) (by simp) ?_
    refine AllReadyH.cons rfl (fun K hK => ?_) AllReadyH.nil
    go_simp
    refine (zeros_any s0 s1 s2 s3 key nw w6 HNw.out (by have := HNw.out; omega)).mono ?_
    rintro e w7 ⟨gz, rfl, hb7, hown7⟩
    have HB7 := Lib.hid (HB6.out.later hb7)
    have Hb7 := Lib.hid hb7
    have HO7 := Lib.hid hown7
    clear hb7 hown7
    go_wp2_with fail
    refine hK.out _ _ (⟨HB7.out.1, HB7.out.2.1, HB7.out.2.2.1, HB7.out.2.2.2.1⟩) (fun hHeld => ?_)
    clear hK K
    try simp only [Act.put, List.setIfInBounds_toArray, List.set_cons_zero, List.set_cons_succ]
    have hba : Below w7.heap.size w7 (w7.alloc (.cells #[.int .u32 key, .slice (some ⟨gz, 0, none⟩) nw nw] 66)) := (Below.refl _ _).alloc (Nat.le_refl _) _
    have HB8 := Lib.hid (HB7.out.later hba)
    have HNew : Hid ((w7.alloc (.cells #[.int .u32 key, .slice (some ⟨gz, 0, none⟩) nw nw] 66)).heap[w7.heap.size]? = some (.cells #[.int .u32 key, .slice (some ⟨gz, 0, none⟩) nw nw] 66 (0, 0))) := Lib.hid (heap_alloc_new w7 _)
    have Hba := Lib.hid hba
    have hsa : (w7.alloc (.cells #[.int .u32 key, .slice (some ⟨gz, 0, none⟩) nw nw] 66)).heap.size = w7.heap.size + 1 := by simp
    clear hba
    refine wpAnyH_ready (rs := [6]) (by kernel_rfl) (by simp) ?_
    refine AllReadyH.cons rfl (fun K hK => ?_) AllReadyH.nil
    go_simp
    refine hK.out _ _ (⟨HB8.out.1, HB8.out.2.1, HB8.out.2.2.1, HB8.out.2.2.2.1⟩) (fun hHeld => ?_)
    clear hK K
    try simp only [Act.put, List.setIfInBounds_toArray, List.set_cons_zero, List.set_cons_succ]
    obtain ⟨W8, hW8⟩ : ∃ W8, w7.alloc (.cells #[.int .u32 key, .slice (some ⟨gz, 0, none⟩) nw nw] 66) = W8 := ⟨_, rfl⟩
    rw [hW8] at HB8 HNew Hba hsa ⊢
    clear hW8
    obtain ⟨xs, ho6, hod6⟩ := HR6.out
    have hbT : Below w6.heap.size w6 W8 := Hb7.out.trans (Hba.out.mono Hb7.out.size)
    have HO8 := Lib.hid (ownsRow_below ho6 hbT)
    have HOd := Lib.hid hod6
    have HbT := Lib.hid hbT
    have hge : w.heap.size + 2 ≤ w6.heap.size := by have := HG6.out.size; have := HSd.out.2.2.2.2.2.1; have := HSd.out.2.2.2.1.lt; omega
    have hg78 : w6.heap.size ≤ w7.heap.size := Hb7.out.size
    clear ho6 hod6 hbT
    refine wpAnyH_ready (rs := [7]) (by kernel_rfl) (by simp) ?_
    refine AllReadyH.cons rfl (fun K hK => ?_) AllReadyH.nil
    refine step_lies W8 (by rfl) _ _ _ (by rfl) (by rfl) (w.heap.size + 2) 66 iE _ 2 32 Tryd.underlying40 hiE hz0 hz1 hz2 rfl (by omega) (.slice (some ⟨g, 0, none⟩) (roomE (s0, s1, s2, s3) es).length c) (roomE (s0, s1, s2, s3) es).length xs (by rfl) HO8.out ⟨w7.heap.size, 0, none⟩ 1 1 [.int .u32 key, .slice (some ⟨gz, 0, none⟩) nw nw] (by rfl) (by rfl) (World.news_of_block HNew.out) (by simp [Value.oneCell']) (by omega) (by unfold maxLen; omega) (by omega) (by omega) (w7.heap.size + 1) hsa ?_
    intro g8 c8 w8 hown8 hgrow8 hat8 hlt8
    have hat8' : (Value.slice (some ⟨g8, 0, none⟩) ((roomE (s0, s1, s2, s3) es).length + 1) c8).ownBlock = (Value.slice (some ⟨g, 0, none⟩) (roomE (s0, s1, s2, s3) es).length c).ownBlock ∨ (Value.slice (some ⟨g8, 0, none⟩) ((roomE (s0, s1, s2, s3) es).length + 1) c8).ownBlock = some (w7.heap.size + 1) := by
      rcases hat8 with e | e
      · exact .inl e.symm
      · exact .inr (by rw [e]; rfl)
    have hr8 : Row w8 (w.heap.size + 2) (.slice (some ⟨g8, 0, none⟩) ((roomE (s0, s1, s2, s3) es).length + 1) c8) (roomE (s0, s1, s2, s3) es ++ [(key, List.replicate nw 0)]) := own_snoc HOd.out HbT.out (by rw [List.length_replicate]; exact own_base (ownsRow_below HO7.out Hba.out) hge) ⟨HKw.out, wordL_zeros nw⟩ (fun g' e => by have := (HO7.out.lt g' e).1; exact this) (fun g' e => (HR6.out.lt g' e).2) hgrow8 hat8' (by omega) hown8
    have hgT : wA.drew.grownBy w8 (some g) := grownBy_trans HG6.out (grownBy_trans (grownBy_of_below HbT.out _) hgrow8)
    have HB9 := Lib.hid (HSd.out.boxG hgT rfl)
    have HS9 := Lib.hid (HSd.out.swap hgT rfl hr8)
    have u4 : w8.cell? ⟨U, 4, none⟩ = some (.slice (some ⟨g, 0, none⟩) len c) := HB9.out.cell rfl
    have f4 : w8.frozen? ⟨U, 4, none⟩ = false := HB9.out.free 4
    clear hown8 hgrow8 hat8 hat8' hlt8 hr8 hgT
    refine hK.out _ _ (⟨HB9.out.tb.1, HB9.out.tb.2.1, HB9.out.tb.2.2.1, HB9.out.tb.2.2.2.1⟩) (fun hHeld => ?_)
    clear hK K
    try simp only [Act.put, List.setIfInBounds_toArray, List.set_cons_zero, List.set_cons_succ]
    refine wpAnyH_yield (i := 8) (v := ?v8) rfl rfl (by kernel_rfl) (by kernel_rfl) (by kernel_rfl) (fun _ _ _ h => h) (by rfl) ?hy8 hHeld ?rest8
    case hy8 =>
      intro w hSw
      (try dsimp only at hSw)
      go_simp
      try with_reducible rfl
    simp only [Act.put, List.setIfInBounds_toArray, List.set_cons_zero, List.set_cons_succ]
    refine wpAnyH_ready (rs := [9]) (by kernel_rfl) (by simp) ?_
    refine AllReadyH.cons rfl (fun K hK => ?_) AllReadyH.nil
    go_simp
    refine hK.out _ _ (⟨HS9.out.boxU.1, HS9.out.boxU.2.1, HS9.out.boxU.2.2.1, HS9.out.boxU.2.2.2.1⟩) (fun hHeld => ?_)
    clear hK K
    try simp only [Act.put, List.setIfInBounds_toArray, List.set_cons_zero, List.set_cons_succ]
    refine wpAnyH_done (by kernel_rfl) ?_ _
    clear hHeld d0 d1 d2 d3 d4 d5 k0 k1 k2 k3 k4 k5 u4 f4
    generalize hW9 : w8.setCell ⟨U, 4, none⟩ (.slice (some ⟨g8, 0, none⟩) ((roomE (s0, s1, s2, s3) es).length + 1) c8) = W9 at *
    clear hW9
    obtain ⟨k0, k1, k2, k3, k4, k5⟩ := HS9.out.boxU
    simp only at k0 k1 k2 k3 k4 k5
    obtain ⟨d0, d1, d2, d3, d4, d5⟩ := HS9.out.box0
    simp only at d0 d1 d2 d3 d4 d5
    obtain ⟨es1, hes1⟩ : ∃ es1, roomE (s0, s1, s2, s3) es = es1 := ⟨_, rfl⟩
    simp only [hes1] at HS9 HRoom k4 hlr ⊢
    obtain ⟨n1, hn1'⟩ : ∃ n1, es1.length = n1 := ⟨_, rfl⟩
    have HLn : Hid ((es1 ++ [(key, List.replicate nw 0)]).length = n1 + 1) := Lib.hid (by rw [List.length_append, hn1']; rfl)
    have HN1 := Lib.hid hn1'
    simp only [hn1'] at HS9 k4 hlr ⊢
    have hjn : n1 < n1 + 1 := by omega
    have HLast : Hid ((es1 ++ [(key, List.replicate nw (0 : Int))]).getD n1 zeroE = (key, List.replicate nw 0)) := Lib.hid (by rw [← hn1']; exact getD_last _ _)
    have HWd : Hid (((es1 ++ [(key, List.replicate nw (0 : Int))]).getD n1 zeroE).2.length = nw) := Lib.hid (by rw [HLast.out]; simp)
    obtain ⟨m, hm⟩ : ∃ m, n1 + m = n1 := ⟨0, rfl⟩
    have Hm := Lib.hid hm
    have HSame : Hid ((es1 ++ [(key, List.replicate nw (0 : Int))]).set n1 (((es1 ++ [(key, List.replicate nw (0 : Int))]).getD n1 zeroE).1, ((es1 ++ [(key, List.replicate nw (0 : Int))]).getD n1 zeroE).2.set f v) = es1 ++ [(key, (List.replicate nw 0).set f v)]) := Lib.hid (by rw [HLast.out, ← hn1']; exact set_last _ _ _)
    have HFin : Hid (RR = (((s0, s1, s2, s3), es1 ++ [(key, (List.replicate nw 0).set f v)], x), 0)) := Lib.hid (by
      rw [← HRR.out, HG.out]
      simp only [HRoom.out, behindT]
      rw [show s2.toNat = nw by have := HNw.out; omega, Int.toNat_natCast])
    have HEr : Hid ((es1 ++ [(key, (List.replicate nw (0 : Int)).set f v)]).eraseIdx n1 ++ [(es1 ++ [(key, (List.replicate nw (0 : Int)).set f v)]).getD n1 zeroE] = es1 ++ [(key, (List.replicate nw 0).set f v)]) := Lib.hid (by rw [← hn1']; exact erase_last _ _)
    clear hm hes1 hn1' HB6 HB7 HB8 HNew
    obtain ⟨gv, cw, c0, c1, hown, hwl, hgv⟩ := HS9.out.2.2.2.2.1.words HLn.out hjn (by rw [HWd.out]; omega)
    rw [HWd.out] at c1
    have c2 := own_cells hown f _ (wordsV_at (by rw [HWd.out]; omega))
    have z2 : W9.frozen? ⟨gv, f, none⟩ = false := by
      obtain ⟨_, ⟨e, _⟩ | ⟨g', cap', cur, e, _, hh, _⟩⟩ := hown
      · cases e
      · simp only [Value.slice.injEq, Option.some.injEq, Addr.mk.injEq, and_true, true_and] at e
        obtain ⟨rfl, _⟩ := e
        simp [World.frozen?, hh]
    obtain ⟨hst, hgs⟩ := hown.stored f (.int .u32 v)
    rw [wordsV_set] at hst
    have hst' : (W9.setCell ⟨gv, f, none⟩ (.int .u32 v)).ownsRow (w.heap.size + 2) 25 1 (.slice (some ⟨gv, 0, none⟩) nw cw) (((es1 ++ [(key, List.replicate nw (0 : Int))]).getD n1 zeroE).2.set f v).length (wordsV (((es1 ++ [(key, List.replicate nw (0 : Int))]).getD n1 zeroE).2.set f v)) := by
      rw [List.length_set, HWd.out]
      rw [HWd.out] at hst
      exact hst
    have hre := HS9.out.2.2.2.2.1.re HLn.out hjn c1 hgs hst' (wordL_set hwl HVw.out f)
    have HS5 := Lib.hid (HS9.out.inside hgs hgv (own_notBox hown (by decide) HS9.out.2.2.2.1) hre)
    generalize ((es1 ++ [(key, List.replicate nw (0 : Int))]).getD n1 zeroE).2.getD f 0 = oldw at c2
    generalize hkk : ((es1 ++ [(key, List.replicate nw (0 : Int))]).getD n1 zeroE).1 = kk at c0
    clear hst hst' hgs hre hown hwl hkk
    obtain ⟨W5, hW5⟩ : ∃ W5, W9.setCell ⟨gv, f, none⟩ (.int .u32 v) = W5 := ⟨_, rfl⟩
    rw [hW5] at HS5
    obtain ⟨j0, j1, j2, j3, j4, j5⟩ := HS5.out.boxU
    simp only at j0 j1 j2 j3 j4 j5
    have hjI : ((n1 : Int)) < (n1 : Int) + 1 := by omega
    have hfI : (f : Int) < (nw : Int) := by omega
    by_cases h2 : s0 = 2
    · have H2 := Lib.hid h2
      clear h2
      go_wp2_with fail
      refine (met_at (s0, s1, s2, s3) g8 n1 c8 n1 m (w.heap.size + 2) x _ W5 HS5.out.2.2.2.2.1 (by rw [List.length_set]; exact HLn.out) Hm.out (by omega) H2.out).mono ?_
      rintro e w6 ⟨rfl, hg6, hr6⟩
      have HS6 := Lib.hid (HS5.out.turned hg6 rfl hr6)
      clear hg6 hr6 c0 c1 c2 z2 hW5 d0 d1 d2 d3 d4 d5 k0 k1 k2 k3 k4 k5 j0 j1 j2 j3 j4 j5
      obtain ⟨k0, k1, k2, k3, k4, k5⟩ := HS6.out.boxU
      simp only at k0 k1 k2 k3 k4 k5
      have HRx := Lib.hid HS6.out.2.2.1
      go_wp2_with (refine wpList_store_row rfl 42 _ _ rfl (w.heap.size + 1) _ rfl rfl 42 _ HRx.out (by kernel_rfl) rfl (by simp [Value.oneCell']) ?_)
      refine bodyPost_ret (v := .tuple #[tbV (s0, s1, s2, s3) (.slice (some ⟨g8, 0, none⟩) (n1 + 1) c8) x, .int .i64 0]) ?_ rfl ?_
      · exact results_tb_two Tryd.results130 _ _ (w.heap.size + 1) 42 _ _ rfl rfl rfl (setRow_heap _ _ _ _ _ _ HRx.out)
      · rw [HFin.out, ← HEr.out, ← HSame.out]
        exact HS6.out.fin2 _
    have H2 := Lib.hid h2
    clear h2
    go_wp2_with fail
    refine (met_no (s0, s1, s2, s3) (.slice (some ⟨g8, 0, none⟩) (n1 + 1) c8) x (n1 : Int) W5 H2.out).mono ?_
    rintro e w6 ⟨rfl, hb6⟩
    have HS6 := Lib.hid (HS5.out.later hb6)
    clear hb6 c0 c1 c2 z2 hW5 d0 d1 d2 d3 d4 d5 k0 k1 k2 k3 k4 k5 j0 j1 j2 j3 j4 j5
    obtain ⟨k0, k1, k2, k3, k4, k5⟩ := HS6.out.boxU
    simp only at k0 k1 k2 k3 k4 k5
    have HRx := Lib.hid HS6.out.2.2.1
    go_wp2_with (refine wpList_store_row rfl 42 _ _ rfl (w.heap.size + 1) _ rfl rfl 42 _ HRx.out (by kernel_rfl) rfl (by simp [Value.oneCell']) ?_)
    refine bodyPost_ret (v := .tuple #[tbV (s0, s1, s2, s3) (.slice (some ⟨g8, 0, none⟩) (n1 + 1) c8) x, .int .i64 0]) ?_ rfl ?_
    · exact results_tb_two Tryd.results130 _ _ (w.heap.size + 1) 42 _ _ rfl rfl rfl (setRow_heap _ _ _ _ _ _ HRx.out)
    · rw [HFin.out, ← HSame.out]
      exact HS6.out.fin2 _
  rw [findI_some hA]
  have hjl : j < len := by rw [← H1.out]; exact (atE_some hA).1
  have HA := Lib.hid hA
  have HKy := Lib.hid (atE_some hA).2.1
  have HWd : Hid ((es.getD j zeroE).2.length = nw) := Lib.hid (by
    have := valid_words HM.out (j := j) (by show j < es.length; rw [H1.out]; exact hjl)
    have := HNw.out
    simp only at *
    omega)
  have hfn : f < nw := by have := HNw.out; omega
  clear hA hfs HEU
  have hqj : ((j : Int) == (len : Int)) = false := by simp; omega
  obtain ⟨n1, rfl⟩ : ∃ n1, len = n1 + 1 := ⟨len - 1, by omega⟩
  obtain ⟨m, hm⟩ : ∃ m, j + m = n1 := ⟨n1 - j, by omega⟩
  have Hm := Lib.hid hm
  have hjn := hjl
  have HLn := H1
  clear hm
  have HOld : Hid (¬ s0 = 2 → RR = (((s0, s1, s2, s3), es.set j ((es.getD j zeroE).1, (es.getD j zeroE).2.set f v), x), 0)) := Lib.hid (fun h2 => by
    rw [← HRR.out, set_old (t := ((s0, s1, s2, s3), es, x)) HK.out HA.out h2, HKy.out, Int.toNat_natCast])
  have HLru : Hid (s0 = 2 → RR = (((s0, s1, s2, s3), (es.set j ((es.getD j zeroE).1, (es.getD j zeroE).2.set f v)).eraseIdx j ++ [(es.set j ((es.getD j zeroE).1, (es.getD j zeroE).2.set f v)).getD j zeroE], x), 0)) := Lib.hid (fun h2 => by
    rw [← HRR.out, set_lru (t := ((s0, s1, s2, s3), es, x)) HK.out HA.out h2, erase_set, getD_set _ (by rw [H1.out]; exact hjn), HKy.out, Int.toNat_natCast]
    rfl)
  obtain ⟨gv, cw, c0, c1, hown, hwl, hgv⟩ := HSt.out.2.2.2.2.1.words HLn.out hjn (by rw [HWd.out]; omega)
  rw [HWd.out] at c1
  have c2 := own_cells hown f _ (wordsV_at (by rw [HWd.out]; omega))
  have z2 : w5.frozen? ⟨gv, f, none⟩ = false := by
    obtain ⟨_, ⟨e, _⟩ | ⟨g', cap', cur, e, _, hh, _⟩⟩ := hown
    · cases e
    · simp only [Value.slice.injEq, Option.some.injEq, Addr.mk.injEq, and_true, true_and] at e
      obtain ⟨rfl, _⟩ := e
      simp [World.frozen?, hh]
  obtain ⟨hst, hgs⟩ := hown.stored f (.int .u32 v)
  rw [wordsV_set] at hst
  have hst' : (w5.setCell ⟨gv, f, none⟩ (.int .u32 v)).ownsRow (w.heap.size + 2) 25 1 (.slice (some ⟨gv, 0, none⟩) nw cw) ((es.getD j zeroE).2.set f v).length (wordsV ((es.getD j zeroE).2.set f v)) := by
    rw [List.length_set, HWd.out]
    rw [HWd.out] at hst
    exact hst
  have hre := HSt.out.2.2.2.2.1.re HLn.out hjn c1 hgs hst' (wordL_set hwl HVw.out f)
  have HS5 := Lib.hid (HSt.out.inside hgs hgv (own_notBox hown (by decide) HSt.out.2.2.2.1) hre)
  generalize (es.getD j zeroE).2.getD f 0 = oldw at c2
  generalize hkk : (es.getD j zeroE).1 = kk at c0
  clear hst hst' hgs hre hown hwl hkk
  obtain ⟨W5, hW5⟩ : ∃ W5, w5.setCell ⟨gv, f, none⟩ (.int .u32 v) = W5 := ⟨_, rfl⟩
  rw [hW5] at HS5
  obtain ⟨j0, j1, j2, j3, j4, j5⟩ := HS5.out.boxU
  simp only at j0 j1 j2 j3 j4 j5
  have hjI : ((j : Int)) < (n1 : Int) + 1 := by omega
  have hfI : (f : Int) < (nw : Int) := by omega
  by_cases h2 : s0 = 2
  · have H2 := Lib.hid h2
    clear h2
    go_wp2_with fail
    refine (met_at (s0, s1, s2, s3) g n1 c j m (w.heap.size + 2) x _ W5 HS5.out.2.2.2.2.1 (by rw [List.length_set]; exact HLn.out) Hm.out (by omega) H2.out).mono ?_
    rintro e w6 ⟨rfl, hg6, hr6⟩
    have HS6 := Lib.hid (HS5.out.turned hg6 rfl hr6)
    clear hg6 hr6 c0 c1 c2 z2 hW5 d0 d1 d2 d3 d4 d5 k0 k1 k2 k3 k4 k5 j0 j1 j2 j3 j4 j5
    obtain ⟨k0, k1, k2, k3, k4, k5⟩ := HS6.out.boxU
    simp only at k0 k1 k2 k3 k4 k5
    have HRx := Lib.hid HS6.out.2.2.1
    go_wp2_with (refine wpList_store_row rfl 42 _ _ rfl (w.heap.size + 1) _ rfl rfl 42 _ HRx.out (by kernel_rfl) rfl (by simp [Value.oneCell']) ?_)
    refine bodyPost_ret (v := .tuple #[tbV (s0, s1, s2, s3) (.slice (some ⟨g, 0, none⟩) (n1 + 1) c) x, .int .i64 0]) ?_ rfl ?_
    · exact results_tb_two Tryd.results130 _ _ (w.heap.size + 1) 42 _ _ rfl rfl rfl (setRow_heap _ _ _ _ _ _ HRx.out)
    · rw [HLru.out H2.out]
      exact HS6.out.fin2 _
  have H2 := Lib.hid h2
  clear h2
  go_wp2_with fail
  refine (met_no (s0, s1, s2, s3) (.slice (some ⟨g, 0, none⟩) (n1 + 1) c) x (j : Int) W5 H2.out).mono ?_
  rintro e w6 ⟨rfl, hb6⟩
  have HS6 := Lib.hid (HS5.out.later hb6)
  clear hb6 c0 c1 c2 z2 hW5 d0 d1 d2 d3 d4 d5 k0 k1 k2 k3 k4 k5 j0 j1 j2 j3 j4 j5
  obtain ⟨k0, k1, k2, k3, k4, k5⟩ := HS6.out.boxU
  simp only at k0 k1 k2 k3 k4 k5
  have HRx := Lib.hid HS6.out.2.2.1
  go_wp2_with (refine wpList_store_row rfl 42 _ _ rfl (w.heap.size + 1) _ rfl rfl 42 _ HRx.out (by kernel_rfl) rfl (by simp [Value.oneCell']) ?_)
  refine bodyPost_ret (v := .tuple #[tbV (s0, s1, s2, s3) (.slice (some ⟨g, 0, none⟩) (n1 + 1) c) x, .int .i64 0]) ?_ rfl ?_
  · exact results_tb_two Tryd.results130 _ _ (w.heap.size + 1) 42 _ _ rfl rfl rfl (setRow_heap _ _ _ _ _ _ HRx.out)
  · rw [HOld.out H2.out]
    exact HS6.out.fin2 _
end Go.Proofs.YtilddlgcfbefiaaDoor
