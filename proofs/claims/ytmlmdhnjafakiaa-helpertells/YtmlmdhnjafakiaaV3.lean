/-
  What the package's Del returns, as a contract over the translated program.
-/
import Derived.Test.YtmlmdhnjafakiaaV2
namespace Go.Proofs.Ytmlmdhnjafakiaa
open Go Go.RowKit
set_option linter.unusedVariables false

theorem lay_zeros (ws : List Int) : layL (wordsV ws) 0 (List.replicate ws.length (.int .u32 0)) = wordsV (List.replicate ws.length 0) := by
  apply List.ext_getElem?
  intro j
  by_cases hj : j < ws.length
  · have := layL_in (List.replicate ws.length (.int .u32 0)) (wordsV ws) 0 j (by simpa using hj) (by rw [wordsV_len]; omega)
    rw [Nat.zero_add] at this
    rw [this]
    simp [wordsV, List.getElem?_replicate, hj]
  · rw [List.getElem?_eq_none (by rw [layL_len, wordsV_len]; omega), List.getElem?_eq_none (by rw [wordsV_len, List.length_replicate]; omega)]
theorem zeroW (w : World) : (zeroValue 22).run Try.prog w = .ok (.int .u32 0) w := by kernel_rfl
theorem clear_words {W : World} {base gv l c : Nat} {ws : List Int} (h : W.ownsRow base 22 1 (.slice (some ⟨gv, 0, none⟩) l c) l (wordsV ws)) (hl : ws.length = l) (h0 : 0 < l) :
    (∀ ty, (Builtin.clear_ #[27] ty #[.slice (some ⟨gv, 0, none⟩) l c]).run Try.prog W = .ok (.tuple #[]) (W.setCells gv 0 (List.replicate l (.int .u32 0)))) ∧
    (W.setCells gv 0 (List.replicate l (.int .u32 0))).ownsRow base 22 1 (.slice (some ⟨gv, 0, none⟩) l c) (List.replicate l (0 : Int)).length (wordsV (List.replicate l 0)) ∧ W.grownBy (W.setCells gv 0 (List.replicate l (.int .u32 0))) (some gv) := by
  obtain ⟨o1, g1⟩ := own_lay (List.replicate l (.int .u32 0)) W (wordsV ws) 0 h
  subst hl
  rw [lay_zeros] at o1
  refine ⟨fun ty => ?_, by rw [List.length_replicate]; exact o1, g1⟩
  refine Lib.run_clear_slice W 27 22 ty (.int .u32 0) Try.underlying27 zeroW rfl rfl gv 0 ws.length c h0 (fun j hj => ?_) (fun j hj => ?_)
  · rw [Nat.zero_add, own_cells h j _ (List.getElem?_eq_getElem (by rw [wordsV_len]; exact hj))]
    rfl
  · rw [Nat.zero_add]
    obtain ⟨_, ⟨e, _⟩ | ⟨g', cap', cur, e, _, hh, _⟩⟩ := h
    · cases e
    · simp only [Value.slice.injEq, Option.some.injEq, Addr.mk.injEq, and_true, true_and] at e
      obtain ⟨rfl, _⟩ := e
      simp [World.frozen?, hh]
set_option maxRecDepth 100000 in
set_option maxHeartbeats 1000000 in
theorem tdel_any (s : Sc) (a : Option Addr) (len cap : Nat) (x : Int) (es : List Ent) (key : Int) (w : World) (h : EntsAt w a len cap es) (hf : fewE es) (hx : isW x) :
    Calls Try.prog 59 #[tbV s (.slice a len cap) x, .int .u32 key] w (Own2 (delT (s, es, x) key).1 (.bool (delT (s, es, x) key).2) w) := by
  rcases s with ⟨s0, s1, s2, s3⟩
  have HF := Lib.hid hf
  have HEn := Lib.hid h
  have hlm := h.max
  have H1 := Lib.hid h.1
  obtain ⟨W0, hW0⟩ : ∃ W0, (w.alloc (.cells #[.int .i64 s0, .int .i64 s1, .int .i64 s2, .int .i64 s3, .slice a len cap, .int .u32 x] 44)).alloc (.cells zeroTA 44) = W0 := ⟨_, rfl⟩
  have hs0 : W0.heap.size = w.heap.size + 2 := by rw [← hW0]; simp
  have hb0 : Below w.heap.size w W0 := by rw [← hW0]; exact box2 (Below.refl _ _) (Nat.le_refl _) _ _
  have HT : Hid (Box W0 w.heap.size 44 #[.int .i64 s0, .int .i64 s1, .int .i64 s2, .int .i64 s3, .slice a len cap, .int .u32 x]) := by rw [← hW0]; exact Lib.hid ((Box.new w 44 _).alloc _)
  have HR : Hid (Box W0 (w.heap.size + 1) 44 zeroTA) := by
    rw [← hW0]
    have := Box.new (w.alloc (.cells #[.int .i64 s0, .int .i64 s1, .int .i64 s2, .int .i64 s3, .slice a len cap, .int .u32 x] 44)) 44 zeroTA
    rw [show (w.alloc (.cells #[.int .i64 s0, .int .i64 s1, .int .i64 s2, .int .i64 s3, .slice a len cap, .int .u32 x] 44)).heap.size = w.heap.size + 1 by simp] at this
    exact Lib.hid this
  obtain ⟨d0, d1, d2, d3, d4, d5⟩ := Box.tb (s := (s0, s1, s2, s3)) HT.out
  simp only at d0 d1 d2 d3 d4 d5
  have HB0 := Lib.hid hb0
  clear h hf hb0
  have HX := Lib.hid hx
  clear hx
  obtain ⟨RR, hRR⟩ : ∃ RR, delT ((s0, s1, s2, s3), es, x) key = RR := ⟨_, rfl⟩
  rw [hRR]
  have HRR := Lib.hid hRR
  clear hRR
  go_enter Try.func59, Try.ntmps59
  go_wp2_with fail
  refine (clone_any (s0, s1, s2, s3) a len cap x es W0 (HEn.out.below HB0.out) HF.out).mono ?_
  rintro e wc ⟨g, c, rfl, hbc, hrc⟩
  rw [H1.out] at hrc ⊢
  have HSt := Lib.hid (St.start (s := (s0, s1, s2, s3)) (x := x) (HB0.out.trans (hbc.mono HB0.out.size)) (HT.out.later hbc) (HR.out.later hbc) (hrc.low (base' := w.heap.size + 2) (by have := hbc.size; omega)))
  obtain ⟨U, hU⟩ : ∃ U, wc.heap.size = U := ⟨_, rfl⟩
  obtain ⟨W2, hW2⟩ : ∃ W2, wc.alloc (.cells #[.int .i64 s0, .int .i64 s1, .int .i64 s2, .int .i64 s3, .slice (some ⟨g, 0, none⟩) len c, .int .u32 x] 44) = W2 := ⟨_, rfl⟩
  rw [hU] at HSt
  rw [hW2] at HSt
  clear d0 d1 d2 d3 d4 d5 hbc hrc hW0 HT HR hs0
  obtain ⟨d0, d1, d2, d3, d4, d5⟩ := HSt.out.box0
  simp only at d0 d1 d2 d3 d4 d5
  obtain ⟨k0, k1, k2, k3, k4, k5⟩ := HSt.out.boxU
  simp only at k0 k1 k2 k3 k4 k5
  go_wp2_with fail
  clear hU hW2
  refine (tkeyed_any (s0, s1, s2, s3) a len cap x es W2 (HEn.out.below HSt.out.1) HX.out).mono ?_
  rintro e w3 ⟨rfl, hb3⟩
  replace HSt := Lib.hid (HSt.out.later hb3)
  clear hb3
  clear d0 d1 d2 d3 d4 d5 k0 k1 k2 k3 k4 k5
  obtain ⟨d0, d1, d2, d3, d4, d5⟩ := HSt.out.box0
  simp only at d0 d1 d2 d3 d4 d5
  obtain ⟨k0, k1, k2, k3, k4, k5⟩ := HSt.out.boxU
  simp only at k0 k1 k2 k3 k4 k5
  rcases hM : mayTb ((s0, s1, s2, s3), es, x) with _ | _
  · have HN : Hid (keyedB ((s0, s1, s2, s3), es, x) 0 = false ∨ atE es key = none) := Lib.hid (.inl (by simp [keyedB, hM]))
    simp only [Bool.false_and]
    clear hM
    have HRx := Lib.hid HSt.out.2.2.1
    go_wp2_with (refine wpList_store_row rfl 44 _ _ rfl (w.heap.size + 1) _ rfl rfl 44 _ HRx.out (by kernel_rfl) rfl (by simp [Value.oneCell']) ?_)
    refine bodyPost_ret (v := .tuple #[tbV (s0, s1, s2, s3) (.slice (some ⟨g, 0, none⟩) len c) x, .bool false]) ?_ rfl ?_
    · exact results_tb_two Try.results59 _ _ (w.heap.size + 1) 44 _ _ rfl rfl rfl (setRow_heap _ _ _ _ _ _ HRx.out)
    · rw [← HRR.out, del_no HN.out]
      exact HSt.out.fin2 _
  by_cases h3 : s0 = 3
  · have HN : Hid (keyedB ((s0, s1, s2, s3), es, x) 0 = false ∨ atE es key = none) := Lib.hid (.inl (by simp [keyedB, h3]))
    have hd : (true && decide (s0 ≠ 3)) = false := by simp [h3]
    rw [hd]
    clear hM h3 hd
    have HRx := Lib.hid HSt.out.2.2.1
    go_wp2_with (refine wpList_store_row rfl 44 _ _ rfl (w.heap.size + 1) _ rfl rfl 44 _ HRx.out (by kernel_rfl) rfl (by simp [Value.oneCell']) ?_)
    refine bodyPost_ret (v := .tuple #[tbV (s0, s1, s2, s3) (.slice (some ⟨g, 0, none⟩) len c) x, .bool false]) ?_ rfl ?_
    · exact results_tb_two Try.results59 _ _ (w.heap.size + 1) 44 _ _ rfl rfl rfl (setRow_heap _ _ _ _ _ _ HRx.out)
    · rw [← HRR.out, del_no HN.out]
      exact HSt.out.fin2 _
  have hd : (true && decide (s0 ≠ 3)) = true := by simp [h3]
  rw [hd]
  have HM := Lib.hid hM
  have H3 := Lib.hid h3
  have hsc := valid_schema hM
  simp only [mayT] at hsc
  rw [mayS_iff] at hsc
  obtain ⟨hk0, hk3, _, hc16, hn1, hn4, _⟩ := hsc
  have HK : Hid (keyedB ((s0, s1, s2, s3), es, x) 0 = true) := Lib.hid (keyed_iff.2 ⟨hM, h3, by show (0 : Int) < s2; omega⟩)
  clear hM h3 hd
  have HEU : Hid (EntsAt w3 (some ⟨g, 0, none⟩) len c es) := Lib.hid (by
    obtain ⟨b, c', e, h⟩ := HSt.out.2.2.2.2.1.at
    simp only [Value.slice.injEq] at e
    obtain ⟨rfl, e2, rfl⟩ := e
    rw [e2]
    exact h)
  go_wp2_with fail
  refine (find_any (some ⟨g, 0, none⟩) len c key es w3 HEU.out).mono ?_
  rintro e w5 ⟨rfl, rfl⟩
  rcases hA : atE es key with _ | j
  · rw [findI_none hA, H1.out]
    have HN : Hid (keyedB ((s0, s1, s2, s3), es, x) 0 = false ∨ atE es key = none) := Lib.hid (.inr hA)
    clear hA
    have HRx := Lib.hid HSt.out.2.2.1
    go_wp2_with (refine wpList_store_row rfl 44 _ _ rfl (w.heap.size + 1) _ rfl rfl 44 _ HRx.out (by kernel_rfl) rfl (by simp [Value.oneCell']) ?_)
    refine bodyPost_ret (v := .tuple #[tbV (s0, s1, s2, s3) (.slice (some ⟨g, 0, none⟩) len c) x, .bool false]) ?_ rfl ?_
    · exact results_tb_two Try.results59 _ _ (w.heap.size + 1) 44 _ _ rfl rfl rfl (setRow_heap _ _ _ _ _ _ HRx.out)
    · rw [← HRR.out, del_no HN.out]
      exact HSt.out.fin2 _
  rw [findI_some hA]
  have hjl : j < len := by rw [← H1.out]; exact (atE_some hA).1
  have hj40 : len ≤ 40 := by rw [← H1.out]; exact HF.out.1
  have HA := Lib.hid hA
  have HWl := Lib.hid (valid_words HM.out (j := j) (by show j < es.length; rw [H1.out]; exact hjl))
  obtain ⟨gv, cw, c0, c1, hown, hwl, hgv⟩ := HSt.out.2.2.2.2.1.words H1.out hjl (by have := HWl.out; simp only at this; omega)
  have HOwn := Lib.hid hown
  have hky := (atE_some hA).2.1
  rw [hky] at c0
  have HKy := Lib.hid hky
  clear hown hA hky
  have hqj : ((j : Int) == (len : Int)) = false := by simp; omega
  have hjI : (j : Int) < (len : Int) := by omega
  obtain ⟨n1, rfl⟩ : ∃ n1, len = n1 + 1 := ⟨len - 1, by omega⟩
  obtain ⟨m, hm⟩ : ∃ m, j + m = n1 := ⟨n1 - j, by omega⟩
  have Hm := Lib.hid hm
  clear hm
  by_cases h0 : s0 = 0
  · have HG := Lib.hid (del_array (t := ((s0, s1, s2, s3), es, x)) HK.out HA.out h0)
    have hq : (s0 == 0) = true := by simpa using h0
    clear h0
    obtain ⟨l, hl⟩ : ∃ l, (es.getD j zeroE).2.length = l := ⟨_, rfl⟩
    rw [hl] at c1 HOwn HWl
    obtain ⟨hcl, how, hgw⟩ := clear_words HOwn.out hl (by have := HWl.out; simp only at this; omega)
    have HRe := Lib.hid (HSt.out.2.2.2.2.1.re H1.out hjl c1 hgw how (wordL_zeros l))
    have HS6 := Lib.hid (HSt.out.inside hgw hgv (own_notBox HOwn.out (by decide) HSt.out.2.2.2.1) HRe.out)
    have HL2 : Hid (l = s2.toNat) := Lib.hid (by have := HWl.out; simp only at this; omega)
    clear how hgw hl
    obtain ⟨W6, hW6⟩ : ∃ W6, w5.setCells gv 0 (List.replicate l (.int .u32 0)) = W6 := ⟨_, rfl⟩
    rw [hW6] at HS6 hcl
    clear hW6 HRe
    obtain ⟨j0, j1, j2, j3, j4, j5⟩ := HS6.out.boxU
    simp only at j0 j1 j2 j3 j4 j5
    have HRx := Lib.hid HS6.out.2.2.1
    go_wp2_with (refine wpList_store_row rfl 44 _ _ rfl (w.heap.size + 1) _ rfl rfl 44 _ HRx.out (by kernel_rfl) rfl (by simp [Value.oneCell']) ?_)
    refine bodyPost_ret (v := .tuple #[tbV (s0, s1, s2, s3) (.slice (some ⟨g, 0, none⟩) (n1 + 1) c) x, .bool true]) ?_ rfl ?_
    · exact results_tb_two Try.results59 _ _ (w.heap.size + 1) 44 _ _ rfl rfl rfl (setRow_heap _ _ _ _ _ _ HRx.out)
    · rw [← HRR.out, HG.out]
      show Own2 ((s0, s1, s2, s3), es.set j (key, List.replicate s2.toNat 0), x) (.bool true) w _ _
      rw [← HL2.out, ← HKy.out]
      exact HS6.out.fin2 _
  have HG := Lib.hid (del_other (t := ((s0, s1, s2, s3), es, x)) HK.out HA.out h0)
  have hq : (s0 == 0) = false := by simpa using h0
  clear h0 c0 c1
  have hwj := wI ((j : Int) + 1) (by omega) (by omega)
  go_wp2_with fail
  refine (delete_at g n1 c j m (w.heap.size + 2) es w5 HSt.out.2.2.2.2.1 H1.out Hm.out (by omega)).mono ?_
  rintro e w6 ⟨rfl, hg6, hr6⟩
  have HB6 := Lib.hid (HSt.out.boxG hg6 rfl)
  have HS6 := Lib.hid (HSt.out.swap hg6 rfl hr6)
  clear hg6 hr6 d0 d1 d2 d3 d4 d5 k0 k1 k2 k3 k4 k5
  have u4 : w6.cell? ⟨U, 4, none⟩ = some (.slice (some ⟨g, 0, none⟩) (n1 + 1) c) := HB6.out.cell rfl
  have f4 : w6.frozen? ⟨U, 4, none⟩ = false := HB6.out.free 4
  obtain ⟨W7, hW7⟩ : ∃ W7, w6.setCell ⟨U, 4, none⟩ (.slice (some ⟨g, 0, none⟩) n1 c) = W7 := ⟨_, rfl⟩
  rw [hW7] at HS6
  obtain ⟨k0, k1, k2, k3, k4, k5⟩ := HS6.out.boxU
  simp only at k0 k1 k2 k3 k4 k5
  have HRx := Lib.hid HS6.out.2.2.1
  go_wp2_with (refine wpList_store_row rfl 44 _ _ rfl (w.heap.size + 1) _ rfl rfl 44 _ HRx.out (by kernel_rfl) rfl (by simp [Value.oneCell']) ?_)
  refine bodyPost_ret (v := .tuple #[tbV (s0, s1, s2, s3) (.slice (some ⟨g, 0, none⟩) n1 c) x, .bool true]) ?_ rfl ?_
  · exact results_tb_two Try.results59 _ _ (w.heap.size + 1) 44 _ _ rfl rfl rfl (setRow_heap _ _ _ _ _ _ HRx.out)
  · rw [← HRR.out, HG.out]
    exact HS6.out.fin2 _
end Go.Proofs.Ytmlmdhnjafakiaa
