/-
  What the package's Pop returns, as a contract over the translated program.
-/
import Derived.Test.YtlbmgablkphioaaV3
import Derived.Test.YtlbmgablkphioaaTP
namespace Go.Proofs.Ytlbmgablkphioaa
open Go Go.RowKit
set_option linter.unusedVariables false

theorem wordsV_at {ws : List Int} {f : Nat} (h : f < ws.length) : (wordsV ws)[f]? = some (.int .u32 (ws.getD f 0)) := by
  simp [wordsV, List.getD_eq_getElem?_getD, List.getElem?_eq_getElem h]
theorem delete_first (g n1 c base : Nat) (es : List Ent) (w : World) (h : Row w base (.slice (some ⟨g, 0, none⟩) (n1 + 1) c) es) (hn : es.length = n1 + 1) (h40 : n1 ≤ 1000) :
    Calls Try.prog 45 #[.slice (some ⟨g, 0, none⟩) (n1 + 1) c, .int .i64 0, .int .i64 1] w fun e w' => e = .returned (.slice (some ⟨g, 0, none⟩) n1 c) ∧ w.grownBy w' (some g) ∧ Row w' base (.slice (some ⟨g, 0, none⟩) n1 c) (es.eraseIdx 0) :=
  delete_at g n1 c 0 n1 base es w h hn (by omega) h40
set_option maxRecDepth 100000 in
set_option maxHeartbeats 1000000 in
theorem tpop_any (s : Sc) (a : Option Addr) (len cap : Nat) (x : Int) (es : List Ent) (w : World) (h : EntsAt w a len cap es) (hf : fewE es) (hx : isW x) :
    Calls Try.prog 24 #[tbV s (.slice a len cap) x] w (Own3 (popT (s, es, x)).1 (.int .u32 (popT (s, es, x)).2.1) (.bool (popT (s, es, x)).2.2) w) := by
  rcases s with ⟨s0, s1, s2, s3⟩
  have HF := Lib.hid hf
  have HEn := Lib.hid h
  have hlm := h.max
  have H1 := Lib.hid h.1
  obtain ⟨W0, hW0⟩ : ∃ W0, (w.alloc (.cells #[.int .i64 s0, .int .i64 s1, .int .i64 s2, .int .i64 s3, .slice a len cap, .int .u32 x] 27)).alloc (.cells zeroTA 27) = W0 := ⟨_, rfl⟩
  have hs0 : W0.heap.size = w.heap.size + 2 := by rw [← hW0]; simp
  have hb0 : Below w.heap.size w W0 := by rw [← hW0]; exact box2 (Below.refl _ _) (Nat.le_refl _) _ _
  have HT : Hid (Box W0 w.heap.size 27 #[.int .i64 s0, .int .i64 s1, .int .i64 s2, .int .i64 s3, .slice a len cap, .int .u32 x]) := by rw [← hW0]; exact Lib.hid ((Box.new w 27 _).alloc _)
  have HR : Hid (Box W0 (w.heap.size + 1) 27 zeroTA) := by
    rw [← hW0]
    have := Box.new (w.alloc (.cells #[.int .i64 s0, .int .i64 s1, .int .i64 s2, .int .i64 s3, .slice a len cap, .int .u32 x] 27)) 27 zeroTA
    rw [show (w.alloc (.cells #[.int .i64 s0, .int .i64 s1, .int .i64 s2, .int .i64 s3, .slice a len cap, .int .u32 x] 27)).heap.size = w.heap.size + 1 by simp] at this
    exact Lib.hid this
  obtain ⟨d0, d1, d2, d3, d4, d5⟩ := Box.tb (s := (s0, s1, s2, s3)) HT.out
  simp only at d0 d1 d2 d3 d4 d5
  have HB0 := Lib.hid hb0
  clear h hf hb0
  have HX := Lib.hid hx
  clear hx
  obtain ⟨RR, hRR⟩ : ∃ RR, popT ((s0, s1, s2, s3), es, x) = RR := ⟨_, rfl⟩
  rw [hRR]
  have HRR := Lib.hid hRR
  clear hRR
  go_enter Try.func24, Try.ntmps24
  go_wp2_with fail
  refine (clone_any (s0, s1, s2, s3) a len cap x es W0 (HEn.out.below HB0.out) HF.out).mono ?_
  rintro e wc ⟨g, c, rfl, hbc, hrc⟩
  rw [H1.out] at hrc ⊢
  have HSt := Lib.hid (St.start (s := (s0, s1, s2, s3)) (x := x) (HB0.out.trans (hbc.mono HB0.out.size)) (HT.out.later hbc) (HR.out.later hbc) (hrc.low (base' := w.heap.size + 2) (by have := hbc.size; omega)))
  obtain ⟨U, hU⟩ : ∃ U, wc.heap.size = U := ⟨_, rfl⟩
  obtain ⟨W2, hW2⟩ : ∃ W2, wc.alloc (.cells #[.int .i64 s0, .int .i64 s1, .int .i64 s2, .int .i64 s3, .slice (some ⟨g, 0, none⟩) len c, .int .u32 x] 27) = W2 := ⟨_, rfl⟩
  rw [hU] at HSt
  rw [hW2] at HSt
  clear d0 d1 d2 d3 d4 d5 hbc hrc hW0 HT HR hs0
  obtain ⟨d0, d1, d2, d3, d4, d5⟩ := HSt.out.box0
  simp only at d0 d1 d2 d3 d4 d5
  obtain ⟨k0, k1, k2, k3, k4, k5⟩ := HSt.out.boxU
  simp only at k0 k1 k2 k3 k4 k5
  go_wp2_with fail
  clear hU hW2
  refine (tqueued_any (s0, s1, s2, s3) a len cap x es W2 (HEn.out.below HSt.out.1) HX.out).mono ?_
  rintro e w3 ⟨rfl, hb3⟩
  replace HSt := Lib.hid (HSt.out.later hb3)
  clear hb3
  clear d0 d1 d2 d3 d4 d5 k0 k1 k2 k3 k4 k5
  obtain ⟨d0, d1, d2, d3, d4, d5⟩ := HSt.out.box0
  simp only at d0 d1 d2 d3 d4 d5
  obtain ⟨k0, k1, k2, k3, k4, k5⟩ := HSt.out.boxU
  simp only at k0 k1 k2 k3 k4 k5
  rcases hM : mayTb ((s0, s1, s2, s3), es, x) with _ | _
  · have HN : Hid (¬ (mayTb ((s0, s1, s2, s3), es, x) = true ∧ s0 = 3 ∧ es ≠ [])) := Lib.hid (by rw [hM]; simp)
    simp only [Bool.false_and]
    clear hM
    have HRx := Lib.hid HSt.out.2.2.1
    go_wp2_with (refine wpList_store_row rfl 27 _ _ rfl (w.heap.size + 1) _ rfl rfl 27 _ HRx.out (by kernel_rfl) rfl (by simp [Value.oneCell']) ?_)
    refine bodyPost_ret (v := .tuple #[tbV (s0, s1, s2, s3) (.slice (some ⟨g, 0, none⟩) len c) x, .int .u32 0, .bool false]) ?_ rfl ?_
    · exact results_tb_three Try.results24 _ _ (w.heap.size + 1) 27 _ _ _ rfl rfl rfl rfl (setRow_heap _ _ _ _ _ _ HRx.out)
    · rw [← HRR.out, pop_no HN.out]
      exact HSt.out.fin3 _ _
  by_cases h3 : ¬ s0 = 3
  · have HN : Hid (¬ (mayTb ((s0, s1, s2, s3), es, x) = true ∧ s0 = 3 ∧ es ≠ [])) := Lib.hid (fun h => h3 h.2.1)
    have hd : (true && decide (s0 = 3)) = false := by simp [h3]
    rw [hd]
    clear hM h3 hd
    have HRx := Lib.hid HSt.out.2.2.1
    go_wp2_with (refine wpList_store_row rfl 27 _ _ rfl (w.heap.size + 1) _ rfl rfl 27 _ HRx.out (by kernel_rfl) rfl (by simp [Value.oneCell']) ?_)
    refine bodyPost_ret (v := .tuple #[tbV (s0, s1, s2, s3) (.slice (some ⟨g, 0, none⟩) len c) x, .int .u32 0, .bool false]) ?_ rfl ?_
    · exact results_tb_three Try.results24 _ _ (w.heap.size + 1) 27 _ _ _ rfl rfl rfl rfl (setRow_heap _ _ _ _ _ _ HRx.out)
    · rw [← HRR.out, pop_no HN.out]
      exact HSt.out.fin3 _ _
  replace h3 := Decidable.not_not.1 h3
  have hd : (true && decide (s0 = 3)) = true := by simp [h3]
  rw [hd]
  have HM := Lib.hid hM
  have H3 := Lib.hid h3
  have hsc := valid_schema hM
  simp only [mayT] at hsc
  rw [mayS_iff] at hsc
  obtain ⟨hk0, hk3, _, hc16, hn1, hn4, _⟩ := hsc
  clear hM h3 hd
  by_cases hl0 : len = 0
  · have HN : Hid (¬ (mayTb ((s0, s1, s2, s3), es, x) = true ∧ s0 = 3 ∧ es ≠ [])) := Lib.hid (fun h => h.2.2 (List.eq_nil_of_length_eq_zero (by rw [H1.out]; exact hl0)))
    have hq : ((len : Int) == 0) = true := by simp; omega
    clear hl0
    have HRx := Lib.hid HSt.out.2.2.1
    go_wp2_with (refine wpList_store_row rfl 27 _ _ rfl (w.heap.size + 1) _ rfl rfl 27 _ HRx.out (by kernel_rfl) rfl (by simp [Value.oneCell']) ?_)
    refine bodyPost_ret (v := .tuple #[tbV (s0, s1, s2, s3) (.slice (some ⟨g, 0, none⟩) len c) x, .int .u32 0, .bool false]) ?_ rfl ?_
    · exact results_tb_three Try.results24 _ _ (w.heap.size + 1) 27 _ _ _ rfl rfl rfl rfl (setRow_heap _ _ _ _ _ _ HRx.out)
    · rw [← HRR.out, pop_no HN.out]
      exact HSt.out.fin3 _ _
  have hq : ((len : Int) == 0) = false := by simp; omega
  have HG := Lib.hid (pop_yes (t := ((s0, s1, s2, s3), es, x)) ⟨HM.out, H3.out, fun e => hl0 (by rw [← H1.out]; show es.length = 0; rw [show es = [] from e]; rfl)⟩)
  have hjl : 0 < len := by omega
  have hj40 : len ≤ 40 := by rw [← H1.out]; exact HF.out.1
  have HWl := Lib.hid (valid_words HM.out (j := 0) (by show 0 < es.length; rw [H1.out]; exact hjl))
  have hwp : 0 < (es.getD 0 zeroE).2.length := by have := HWl.out; simp only at this; omega
  obtain ⟨gv, cw, c0, c1, hown, hwl, hgv⟩ := HSt.out.2.2.2.2.1.words H1.out hjl hwp
  have c2 := own_cells hown 0 _ (wordsV_at hwp)
  simp only [Nat.zero_mul, Nat.zero_add] at c0 c1
  obtain ⟨vv, hvv⟩ : ∃ vv, (es.getD 0 zeroE).2.getD 0 0 = vv := ⟨_, rfl⟩
  rw [hvv] at c2
  have HV := Lib.hid hvv
  obtain ⟨l, hl⟩ : ∃ l, (es.getD 0 zeroE).2.length = l := ⟨_, rfl⟩
  rw [hl] at c1 hwp
  have hwI : (0 : Int) < (l : Int) := by omega
  have hlI : (0 : Int) < (len : Int) := by omega
  clear hown hvv hl hl0
  obtain ⟨n1, rfl⟩ : ∃ n1, len = n1 + 1 := ⟨len - 1, by omega⟩
  go_wp2_with fail
  refine (delete_first g n1 c (w.heap.size + 2) es w3 HSt.out.2.2.2.2.1 H1.out (by omega)).mono ?_
  rintro e w6 ⟨rfl, hg6, hr6⟩
  have HB6 := Lib.hid (HSt.out.boxG hg6 rfl)
  have HS6 := Lib.hid (HSt.out.swap hg6 rfl hr6)
  clear hg6 hr6 d0 d1 d2 d3 d4 d5 k0 k1 k2 k3 k4 k5 c0 c1 c2
  have u4 : w6.cell? ⟨U, 4, none⟩ = some (.slice (some ⟨g, 0, none⟩) (n1 + 1) c) := HB6.out.cell rfl
  have f4 : w6.frozen? ⟨U, 4, none⟩ = false := HB6.out.free 4
  obtain ⟨W7, hW7⟩ : ∃ W7, w6.setCell ⟨U, 4, none⟩ (.slice (some ⟨g, 0, none⟩) n1 c) = W7 := ⟨_, rfl⟩
  rw [hW7] at HS6
  obtain ⟨k0, k1, k2, k3, k4, k5⟩ := HS6.out.boxU
  simp only at k0 k1 k2 k3 k4 k5
  have HRx := Lib.hid HS6.out.2.2.1
  go_wp2_with (refine wpList_store_row rfl 27 _ _ rfl (w.heap.size + 1) _ rfl rfl 27 _ HRx.out (by kernel_rfl) rfl (by simp [Value.oneCell']) ?_)
  refine bodyPost_ret (v := .tuple #[tbV (s0, s1, s2, s3) (.slice (some ⟨g, 0, none⟩) n1 c) x, .int .u32 vv, .bool true]) ?_ rfl ?_
  · exact results_tb_three Try.results24 _ _ (w.heap.size + 1) 27 _ _ _ rfl rfl rfl rfl (setRow_heap _ _ _ _ _ _ HRx.out)
  · rw [← HRR.out, HG.out, ← HV.out]
    exact HS6.out.fin3 _ _
end Go.Proofs.Ytlbmgablkphioaa
