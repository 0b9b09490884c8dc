/-
  What the package's Push returns, as a contract over the translated program.
-/
import Derived.Test.YtilddlgcfbefiaaDoorGva
import Derived.Test.YtilddlgcfbefiaaDoorTQ
namespace Go.Proofs.YtilddlgcfbefiaaDoor
set_option linter.unusedSimpArgs false
set_option linter.unusedVariables false
open Go Go.RowKit

/- one entry more behind, its words in a row of its own -/
theorem own_snoc {W0 W W' : World} {base H : Nat} {V V' : Value} {xs : List Value} {es : List Ent} {key : Int} {cv : Value} {ws : List Int} (od : Owned W0 base V.ownBlock xs es) (hb : Below W0.heap.size W0 W) (hw : W.ownsRow base 25 1 cv ws.length (wordsV ws)) (hok : okE (key, ws))
    (hnew : ∀ g, cv.ownBlock = some g → W0.heap.size ≤ g) (hV : ∀ g, V.ownBlock = some g → g < W0.heap.size) (hg : W.grownBy W' V.ownBlock) (hat : V'.ownBlock = V.ownBlock ∨ V'.ownBlock = some H) (hH : W.heap.size ≤ H) (o' : W'.ownsRow base 66 2 V' (es.length + 1) (xs ++ [.int .u32 key, cv])) : Row W' base V' (es ++ [(key, ws)]) := by
  have od1 := (od.below hb).snoc (N := W0.heap.size) hw hok (fun g e => ⟨fun e2 => by have := hV g e2.symm; have := hnew g e; omega, hnew g e⟩) (fun k cv g hk hx e => od.lt k cv g hk hx e)
  refine ⟨_, by rw [List.length_append]; exact o', od1.grown hg (.inl rfl) ?_⟩
  rcases hat with e | e
  · exact .inl e
  · exact .inr (fun g e2 => by rw [e] at e2; have := Option.some.inj e2; omega)
theorem own_one (w : World) (base : Nat) (v : Int) (hb : base ≤ w.heap.size) : (w.alloc (.cells #[.int .u32 v] 25)).ownsRow base 25 1 (.slice (some ⟨w.heap.size, 0, none⟩) 1 1) 1 (wordsV [v]) :=
  ⟨rfl, .inr ⟨w.heap.size, 1, _, rfl, hb, heap_alloc_new w _, Nat.le_refl _, by unfold maxLen; omega, rfl, rfl⟩⟩
set_option maxRecDepth 100000 in
set_option maxHeartbeats 1000000 in
theorem tpush_any (s : Sc) (a : Option Addr) (len cap : Nat) (x : Int) (es : List Ent) (v : Int) (w : World) (h : EntsAt w a len cap es) (hf : fewE es) (hx : isW x) (hv : isW v) :
    Calls Tryd.prog 134 #[tbV s (.slice a len cap) x, .int .u32 v] w (Own2 (pushT (s, es, x) v).1 (.int .i64 (pushT (s, es, x) v).2) w) := by
  obtain ⟨iE, hiE, hz0, hz1, hz2⟩ := info_parts infoE
  rcases s with ⟨s0, s1, s2, s3⟩
  have HF := Lib.hid hf
  have HEn := Lib.hid h
  have hlm := h.max
  have H1 := Lib.hid h.1
  obtain ⟨W0, hW0⟩ : ∃ W0, (w.alloc (.cells #[.int .i64 s0, .int .i64 s1, .int .i64 s2, .int .i64 s3, .slice a len cap, .int .u32 x] 42)).alloc (.cells zeroTA 42) = W0 := ⟨_, rfl⟩
  have hs0 : W0.heap.size = w.heap.size + 2 := by rw [← hW0]; simp
  have hb0 : Below w.heap.size w W0 := by rw [← hW0]; exact box2 (Below.refl _ _) (Nat.le_refl _) _ _
  have HT : Hid (Box W0 w.heap.size 42 #[.int .i64 s0, .int .i64 s1, .int .i64 s2, .int .i64 s3, .slice a len cap, .int .u32 x]) := by rw [← hW0]; exact Lib.hid ((Box.new w 42 _).alloc _)
  have HR : Hid (Box W0 (w.heap.size + 1) 42 zeroTA) := by
    rw [← hW0]
    have := Box.new (w.alloc (.cells #[.int .i64 s0, .int .i64 s1, .int .i64 s2, .int .i64 s3, .slice a len cap, .int .u32 x] 42)) 42 zeroTA
    rw [show (w.alloc (.cells #[.int .i64 s0, .int .i64 s1, .int .i64 s2, .int .i64 s3, .slice a len cap, .int .u32 x] 42)).heap.size = w.heap.size + 1 by simp] at this
    exact Lib.hid this
  obtain ⟨d0, d1, d2, d3, d4, d5⟩ := Box.tb (s := (s0, s1, s2, s3)) HT.out
  simp only at d0 d1 d2 d3 d4 d5
  have HB0 := Lib.hid hb0
  clear h hf hb0
  have HX := Lib.hid hx
  have HVw := Lib.hid hv
  clear hx hv
  obtain ⟨RR, hRR⟩ : ∃ RR, pushT ((s0, s1, s2, s3), es, x) v = RR := ⟨_, rfl⟩
  rw [hRR]
  have HRR := Lib.hid hRR
  clear hRR
  go_enter Tryd.func134, Tryd.ntmps134
  go_wp2_with fail
  refine (tqueued_any (s0, s1, s2, s3) a len cap x es W0 (HEn.out.below HB0.out) HX.out).mono ?_
  rintro e w1 ⟨rfl, hb1⟩
  clear d0 d1 d2 d3 d4 d5 hW0
  have hs1 : w.heap.size + 2 ≤ w1.heap.size := by have := hb1.size; omega
  replace HT := Lib.hid (HT.out.later hb1)
  replace HR := Lib.hid (HR.out.later hb1)
  replace HB0 := Lib.hid (HB0.out.trans (hb1.mono HB0.out.size))
  clear hb1 hs0
  obtain ⟨d0, d1, d2, d3, d4, d5⟩ := Box.tb (s := (s0, s1, s2, s3)) HT.out
  simp only at d0 d1 d2 d3 d4 d5
  rcases hM : mayTb ((s0, s1, s2, s3), es, x) with _ | _
  · have HN : Hid (¬ (mayTb ((s0, s1, s2, s3), es, x) = true ∧ s0 = 3)) := Lib.hid (by rw [hM]; simp)
    simp only [Bool.false_and]
    clear hM
    have HRx := Lib.hid HR.out
    go_wp2_with (refine wpList_store_row rfl 42 _ _ rfl (w.heap.size + 1) _ rfl rfl 42 _ HRx.out (by kernel_rfl) rfl (by simp [Value.oneCell']) ?_)
    refine bodyPost_ret (v := .tuple #[tbV zeroS (.slice none 0 0) 0, .int .i64 1]) ?_ rfl ?_
    · exact results_tb_two Tryd.results134 _ _ (w.heap.size + 1) 42 _ _ rfl rfl rfl (setRow_heap _ _ _ _ _ _ HRx.out)
    · rw [← HRR.out, push_no HN.out]
      exact ⟨.slice none 0 0, rfl, below_setRow HB0.out (by omega) _, Row.nil _ _⟩
  by_cases h3 : ¬ s0 = 3
  · have HN : Hid (¬ (mayTb ((s0, s1, s2, s3), es, x) = true ∧ s0 = 3)) := Lib.hid (fun h => h3 h.2)
    have hd : (true && decide (s0 = 3)) = false := by simp [h3]
    rw [hd]
    clear hM h3 hd
    have HRx := Lib.hid HR.out
    go_wp2_with (refine wpList_store_row rfl 42 _ _ rfl (w.heap.size + 1) _ rfl rfl 42 _ HRx.out (by kernel_rfl) rfl (by simp [Value.oneCell']) ?_)
    refine bodyPost_ret (v := .tuple #[tbV zeroS (.slice none 0 0) 0, .int .i64 1]) ?_ rfl ?_
    · exact results_tb_two Tryd.results134 _ _ (w.heap.size + 1) 42 _ _ rfl rfl rfl (setRow_heap _ _ _ _ _ _ HRx.out)
    · rw [← HRR.out, push_no HN.out]
      exact ⟨.slice none 0 0, rfl, below_setRow HB0.out (by omega) _, Row.nil _ _⟩
  replace h3 := Decidable.not_not.1 h3
  have hd : (true && decide (s0 = 3)) = true := by simp [h3]
  rw [hd]
  have HM : Hid (mayTb ((s0, s1, s2, s3), es, x) = true ∧ s0 = 3) := Lib.hid ⟨hM, h3⟩
  have HLe := Lib.hid (headB_iff.1 (mayTb_head hM)).2.1
  clear hM h3 hd
  go_wp2_with fail
  refine (full_any (s0, s1, s2, s3) a len cap x w1).mono ?_
  rintro e w2 ⟨rfl, hb2⟩
  have hs2 : w.heap.size + 2 ≤ w2.heap.size := by have := hb2.size; omega
  clear d0 d1 d2 d3 d4 d5
  replace HT := Lib.hid (HT.out.later hb2)
  replace HR := Lib.hid (HR.out.later hb2)
  replace HB0 := Lib.hid (HB0.out.trans (hb2.mono HB0.out.size))
  clear hb2 hs1
  obtain ⟨d0, d1, d2, d3, d4, d5⟩ := Box.tb (s := (s0, s1, s2, s3)) HT.out
  simp only at d0 d1 d2 d3 d4 d5
  by_cases hfu : (len : Int) = s1
  · have HFu : Hid (s1 ≤ (es.length : Int)) := Lib.hid (by rw [H1.out]; omega)
    have hd : decide ((len : Int) = s1) = true := decide_eq_true hfu
    simp only [hd]
    clear hd hfu
    have HRx := Lib.hid HR.out
    go_wp2_with (refine wpList_store_row rfl 42 _ _ rfl (w.heap.size + 1) _ rfl rfl 42 _ HRx.out (by kernel_rfl) rfl (by simp [Value.oneCell']) ?_)
    refine bodyPost_ret (v := .tuple #[tbV zeroS (.slice none 0 0) 0, .int .i64 4]) ?_ rfl ?_
    · exact results_tb_two Tryd.results134 _ _ (w.heap.size + 1) 42 _ _ rfl rfl rfl (setRow_heap _ _ _ _ _ _ HRx.out)
    · rw [← HRR.out, push_full HM.out HFu.out]
      exact ⟨.slice none 0 0, rfl, below_setRow HB0.out (by omega) _, Row.nil _ _⟩
  have HFu : Hid (¬ s1 ≤ (es.length : Int)) := Lib.hid (by have := HLe.out; rw [H1.out] at this ⊢; omega)
  have hd : decide ((len : Int) = s1) = false := decide_eq_false hfu
  simp only [hd]
  clear hd hfu
  have HG := Lib.hid (push_yes (t := ((s0, s1, s2, s3), es, x)) (v := v) HM.out HFu.out)
  go_wp2_with fail
  refine (clone_any (s0, s1, s2, s3) a len cap x es w2 (HEn.out.below HB0.out) HF.out).mono ?_
  rintro e wc ⟨g, c, rfl, hbc, hrc⟩
  rw [H1.out] at hrc ⊢
  have HSt := Lib.hid (St.start (s := (s0, s1, s2, s3)) (x := x) (HB0.out.trans (hbc.mono HB0.out.size)) (HT.out.later hbc) (HR.out.later hbc) (hrc.low (base' := w.heap.size + 2) (by have := hbc.size; omega)))
  obtain ⟨U, hU⟩ : ∃ U, wc.heap.size = U := ⟨_, rfl⟩
  obtain ⟨W2, hW2⟩ : ∃ W2, wc.alloc (.cells #[.int .i64 s0, .int .i64 s1, .int .i64 s2, .int .i64 s3, .slice (some ⟨g, 0, none⟩) len c, .int .u32 x] 42) = W2 := ⟨_, rfl⟩
  rw [hU] at HSt
  rw [hW2] at HSt
  clear d0 d1 d2 d3 d4 d5 hbc hrc HT HR
  obtain ⟨d0, d1, d2, d3, d4, d5⟩ := HSt.out.box0
  simp only at d0 d1 d2 d3 d4 d5
  obtain ⟨k0, k1, k2, k3, k4, k5⟩ := HSt.out.boxU
  simp only at k0 k1 k2 k3 k4 k5
  have hj40 : len ≤ 40 := by rw [← H1.out]; exact HF.out.1
  obtain ⟨xs, hown, hod⟩ := HSt.out.2.2.2.2.1
  rw [H1.out] at hown
  have hsz2 : W2.heap.size = U + 1 := by rw [← hW2, ← hU]; simp
  have hUs := HSt.out.2.2.2.2.2.1
  obtain ⟨W3, hW3⟩ : ∃ W3, W2.alloc (.cells #[.int .u32 v] 25) = W3 := ⟨_, rfl⟩
  have hb3 : Below W2.heap.size W2 W3 := by rw [← hW3]; exact (Below.refl _ _).alloc (Nat.le_refl _) _
  have hsz3 : W3.heap.size = U + 1 + 1 := by rw [← hW3]; simp; omega
  have hone : W3.ownsRow (w.heap.size + 2) 25 1 (.slice (some ⟨U + 1, 0, none⟩) 1 1) 1 (wordsV [v]) := by rw [← hW3, ← hsz2]; exact own_one W2 _ v (by omega)
  obtain ⟨W4, hW4⟩ : ∃ W4, W3.alloc (.cells #[.int .u32 x, .slice (some ⟨U + 1, 0, none⟩) 1 1] 66) = W4 := ⟨_, rfl⟩
  have hb4 : Below W3.heap.size W3 W4 := by rw [← hW4]; exact (Below.refl _ _).alloc (Nat.le_refl _) _
  have hsz4 : W4.heap.size = U + 1 + 1 + 1 := by rw [← hW4]; simp; omega
  have HNew : Hid (W4.heap[U + 1 + 1]? = some (.cells #[.int .u32 x, .slice (some ⟨U + 1, 0, none⟩) 1 1] 66 (0, 0))) := by
    rw [← hW4, ← hsz3]
    exact Lib.hid (heap_alloc_new W3 _)
  have hb24 : Below W2.heap.size W2 W4 := hb3.trans (hb4.mono hb3.size)
  have HS4 := Lib.hid (HSt.out.later hb24)
  have HOwn4 := Lib.hid (ownsRow_below hown hb24)
  have HOne4 := Lib.hid (ownsRow_below hone hb4)
  have HB24 := Lib.hid hb24
  have HOd := Lib.hid hod
  have HVlt : Hid (∀ g', (Value.slice (some ⟨g, 0, none⟩) len c).ownBlock = some g' → g' < W2.heap.size) := Lib.hid (fun g' e => (HSt.out.2.2.2.2.1.lt g' e).2)
  clear hown hone hod hb3 hb4 hb24
  go_wp2_with (at_builtin; refine wpList_append_lies _ rfl _ _ _ rfl (w.heap.size + 2) 66 iE _ 2 32 Tryd.underlying40 hiE hz0 hz1 hz2 rfl (by omega) (.slice (some ⟨g, 0, none⟩) len c) len xs rfl HOwn4.out ⟨U + 1 + 1, 0, none⟩ 1 1 [.int .u32 x, .slice (some ⟨U + 1, 0, none⟩) 1 1] rfl rfl (World.news_of_block HNew.out) (by simp [Value.oneCell']) (by omega) (by unfold maxLen; omega) (by omega) (by omega) (U + 1 + 1 + 1) hsz4 ?_)
  intro g6 c6 w6 hown6 hgrow6 hat6 hlt6
  have hat6' : (Value.slice (some ⟨g6, 0, none⟩) (len + 1) c6).ownBlock = (Value.slice (some ⟨g, 0, none⟩) len c).ownBlock ∨ (Value.slice (some ⟨g6, 0, none⟩) (len + 1) c6).ownBlock = some (U + 1 + 1 + 1) := by
    rcases hat6 with e | e
    · exact .inl e.symm
    · exact .inr (by rw [e]; rfl)
  have hr6 : Row w6 (w.heap.size + 2) (.slice (some ⟨g6, 0, none⟩) (len + 1) c6) (es ++ [(x, [v])]) := own_snoc HOd.out HB24.out HOne4.out ⟨HX.out, fun z hz => by rw [List.mem_singleton.1 hz]; exact HVw.out⟩ (fun g' e => by have : U + 1 = g' := Option.some.inj e; omega) HVlt.out hgrow6 hat6' (by omega) (by rw [H1.out]; exact hown6)
  have HB6 := Lib.hid (HS4.out.boxG hgrow6 rfl)
  have HS7 := Lib.hid (HS4.out.swap hgrow6 rfl hr6)
  have HS8 := Lib.hid (HS7.out.next ((x + 1) % 4294967296))
  clear hown6 hgrow6 hat6 hat6' hlt6 hr6 d0 d1 d2 d3 d4 d5 k0 k1 k2 k3 k4 k5 hU hW2 hW3 hW4
  have u4 : w6.cell? ⟨U, 4, none⟩ = some (.slice (some ⟨g, 0, none⟩) len c) := HB6.out.cell rfl
  have f4 : w6.frozen? ⟨U, 4, none⟩ = false := HB6.out.free 4
  obtain ⟨W7, hW7⟩ : ∃ W7, w6.setCell ⟨U, 4, none⟩ (.slice (some ⟨g6, 0, none⟩) (len + 1) c6) = W7 := ⟨_, rfl⟩
  rw [hW7] at HS7 HS8
  have u5 : W7.cell? ⟨U, 5, none⟩ = some (.int .u32 x) := HS7.out.boxU.2.2.2.2.2
  have f5 : W7.frozen? ⟨U, 5, none⟩ = false := HS7.out.2.2.2.1.free 5
  obtain ⟨W8, hW8⟩ : ∃ W8, W7.setCell ⟨U, 5, none⟩ (.int .u32 ((x + 1) % 4294967296)) = W8 := ⟨_, rfl⟩
  rw [hW8] at HS8
  obtain ⟨k0, k1, k2, k3, k4, k5⟩ := HS8.out.boxU
  simp only at k0 k1 k2 k3 k4 k5
  have HRx := Lib.hid HS8.out.2.2.1
  go_wp2_with (refine wpList_store_row rfl 42 _ _ rfl (w.heap.size + 1) _ rfl rfl 42 _ HRx.out (by kernel_rfl) rfl (by simp [Value.oneCell']) ?_)
  refine bodyPost_ret (v := .tuple #[tbV (s0, s1, s2, s3) (.slice (some ⟨g6, 0, none⟩) (len + 1) c6) ((x + 1) % 4294967296), .int .i64 0]) ?_ rfl ?_
  · exact results_tb_two Tryd.results134 _ _ (w.heap.size + 1) 42 _ _ rfl rfl rfl (setRow_heap _ _ _ _ _ _ HRx.out)
  · rw [← HRR.out, HG.out]
    exact HS8.out.fin2 _
end Go.Proofs.YtilddlgcfbefiaaDoor
