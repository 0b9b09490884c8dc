/-
  What the fifth reference's Push returns, as a contract over the translated program.
-/
import Derived.Test.YtilddlgcfbefiaaDoorTR
namespace Go.Proofs.YtilddlgcfbefiaaDoor
set_option linter.unusedSimpArgs false
set_option linter.unusedVariables false
open Go Go.RowKit

theorem push_no {t : Tb} {v : Int} (h : ¬ (mayTb t = true ∧ t.1.1 = 3)) : pushT t v = (zeroT, 1) := by rw [pushT, if_neg h]
theorem push_full {t : Tb} {v : Int} (h : mayTb t = true ∧ t.1.1 = 3) (h2 : t.1.2.1 ≤ (t.2.1.length : Int)) : pushT t v = (zeroT, 4) := by rw [pushT, if_pos h, if_pos h2]
theorem push_yes {t : Tb} {v : Int} (h : mayTb t = true ∧ t.1.1 = 3) (h2 : ¬ t.1.2.1 ≤ (t.2.1.length : Int)) : pushT t v = ((t.1, t.2.1 ++ [(t.2.2, [v])], (t.2.2 + 1) % 4294967296), 0) := by rw [pushT, if_pos h, if_neg h2]
theorem ents_zero (w : World) (A : Nat → Prop) : EntsIn w A none 0 0 [] := ⟨rfl, Nat.le_refl _, Nat.zero_le _, .inl rfl⟩
set_option maxRecDepth 100000 in
set_option maxHeartbeats 8000000 in
theorem push_any (s : Sc) (a : Option Addr) (len cap : Nat) (x : Int) (es : List Ent) (v : Int) (w : World) (h : EntsAt w a len cap es) (hf : fewE es) (hx : isW x) (hv : isW v) :
    Calls Tryd.prog 90 #[tbV s (.slice a len cap) x, .int .u32 v] w (TabPost2 (pushT (s, es, x) v).1 (fun n => w.heap.size ≤ n) (.int .i64 (pushT (s, es, x) v).2) w) := by
  rcases s with ⟨s0, s1, s2, s3⟩
  have hm := h.max
  obtain ⟨W0, hW0⟩ : ∃ W0, (w.alloc (.cells #[.int .i64 s0, .int .i64 s1, .int .i64 s2, .int .i64 s3, .slice a len cap, .int .u32 x] 42)).alloc (.cells zeroTA 42) = W0 := ⟨_, rfl⟩
  have hs0 : W0.heap.size = w.heap.size + 1 + 1 := by rw [← hW0]; simp
  have hb0 : Below w.heap.size w W0 := by rw [← hW0]; exact box2 (Below.refl _ _) (Nat.le_refl _) _ _
  have HT : Hid (TbAt W0 w.heap.size (s0, s1, s2, s3) (.slice a len cap) x) := by rw [← hW0]; exact Lib.hid (tbAt_old (tbAt_new w (s0, s1, s2, s3) (.slice a len cap) x) _)
  have HR : Hid (Box W0 (w.heap.size + 1) 42 zeroTA) := by
    rw [← hW0]
    have := Box.new (w.alloc (.cells #[.int .i64 s0, .int .i64 s1, .int .i64 s2, .int .i64 s3, .slice a len cap, .int .u32 x] 42)) 42 zeroTA
    rw [show (w.alloc (.cells #[.int .i64 s0, .int .i64 s1, .int .i64 s2, .int .i64 s3, .slice a len cap, .int .u32 x] 42)).heap.size = w.heap.size + 1 by simp] at this
    exact Lib.hid this
  have HEs := Lib.hid (h.below hb0)
  have H1 := Lib.hid h.1
  have HF := Lib.hid hf
  have HX := Lib.hid hx
  have HV := Lib.hid hv
  replace hs0 : w.heap.size + 1 + 1 ≤ W0.heap.size := by omega
  obtain ⟨RR, hRR⟩ : ∃ RR, pushT ((s0, s1, s2, s3), es, x) v = RR := ⟨_, rfl⟩
  rw [hRR]
  have HRR := Lib.hid hRR
  obtain ⟨d0, d1, d2, d3, d4, d5⟩ := HT.out
  simp only at d0 d1 d2 d3 d4 d5
  clear h hf hRR hx hv
  go_enter Tryd.func90, Tryd.ntmps90
  go_wp2_with fail
  refine (mayTb_any (s0, s1, s2, s3) a len cap x es W0 HEs.out).mono ?_
  rintro e w1 ⟨rfl, hg⟩
  clear hW0
  clear d0 d1 d2 d3 d4 d5
  replace HT := Lib.hid (HT.out.later hg)
  replace HR := Lib.hid (HR.out.later hg)
  replace HEs := Lib.hid (HEs.out.below hg)
  replace hb0 := hb0.trans (hg.mono hb0.size)
  replace hs0 := Nat.le_trans hs0 hg.size
  clear hg
  obtain ⟨d0, d1, d2, d3, d4, d5⟩ := HT.out
  simp only at d0 d1 d2 d3 d4 d5
  rcases hM : mayTb ((s0, s1, s2, s3), es, x) with _ | _
  · have HB : Hid (¬ (mayTb ((s0, s1, s2, s3), es, x) = true ∧ s0 = 3)) := Lib.hid (fun h => by rw [hM] at h; cases h.1)
    clear hM
    go_wp2_with (refine wpList_store_row rfl 42 _ _ rfl (w.heap.size + 1) _ rfl rfl 42 _ HR.out (by kernel_rfl) rfl (by simp [Value.oneCell']) ?_)
    refine bodyPost_ret (v := .tuple #[tbV zeroS (.slice none 0 0) 0, .int .i64 1]) ?_ rfl ?_
    · exact results_tb_two Tryd.results90 _ _ (w.heap.size + 1) 42 _ _ rfl rfl rfl (setRow_heap _ _ _ _ _ _ HR.out)
    · rw [← HRR.out, push_no HB.out]
      exact ⟨none, 0, 0, rfl, below_setRow hb0 (by omega) _, ents_zero _ _⟩
  by_cases e3 : ¬ s0 = 3
  · have HB : Hid (¬ (mayTb ((s0, s1, s2, s3), es, x) = true ∧ s0 = 3)) := Lib.hid (fun h => e3 h.2)
    have k3 : (s0 != 3) = true := by simpa using e3
    clear e3 hM
    go_wp2_with (refine wpList_store_row rfl 42 _ _ rfl (w.heap.size + 1) _ rfl rfl 42 _ HR.out (by kernel_rfl) rfl (by simp [Value.oneCell']) ?_)
    refine bodyPost_ret (v := .tuple #[tbV zeroS (.slice none 0 0) 0, .int .i64 1]) ?_ rfl ?_
    · exact results_tb_two Tryd.results90 _ _ (w.heap.size + 1) 42 _ _ rfl rfl rfl (setRow_heap _ _ _ _ _ _ HR.out)
    · rw [← HRR.out, push_no HB.out]
      exact ⟨none, 0, 0, rfl, below_setRow hb0 (by omega) _, ents_zero _ _⟩
  replace e3 := Decidable.not_not.1 e3
  have k3 : (s0 != 3) = false := by simpa using e3
  have HG := Lib.hid (show mayTb ((s0, s1, s2, s3), es, x) = true ∧ s0 = 3 from ⟨hM, e3⟩)
  by_cases hc : s1 ≤ (len : Int)
  · have HC : Hid (s1 ≤ (es.length : Int)) := Lib.hid (by rw [H1.out]; exact hc)
    clear e3 hM
    go_wp2_with (refine wpList_store_row rfl 42 _ _ rfl (w.heap.size + 1) _ rfl rfl 42 _ HR.out (by kernel_rfl) rfl (by simp [Value.oneCell']) ?_)
    refine bodyPost_ret (v := .tuple #[tbV zeroS (.slice none 0 0) 0, .int .i64 4]) ?_ rfl ?_
    · exact results_tb_two Tryd.results90 _ _ (w.heap.size + 1) 42 _ _ rfl rfl rfl (setRow_heap _ _ _ _ _ _ HR.out)
    · rw [← HRR.out, push_full HG.out HC.out]
      exact ⟨none, 0, 0, rfl, below_setRow hb0 (by omega) _, ents_zero _ _⟩
  have HC : Hid (¬ s1 ≤ (es.length : Int)) := Lib.hid (by rw [H1.out]; exact hc)
  have hcI : decide (s1 ≤ (len : Int)) = false := by simp; omega
  have hb3 : Below w1.heap.size w1 (w1.alloc (.cells #[.int .u32 v] 25)) := (Below.refl _ _).alloc (Nat.le_refl _) _
  have HW3 : Hid (WordsIn (w1.alloc (.cells #[.int .u32 v] 25)) (fun n => n = w1.heap.size) (some ⟨w1.heap.size, 0, none⟩) 1 1 [v]) := Lib.hid ⟨⟨rfl, Nat.le_refl _, by decide, fun z hz => by rw [List.mem_singleton.1 hz]; exact HV.out, .inr ⟨_, rfl, fun i hi => by
    obtain rfl : i = 0 := by omega
    rw [Addr.add_zero']
    simp⟩⟩, .inr ⟨_, rfl, rfl⟩⟩
  have HE3 := Lib.hid (HEs.out.below hb3)
  have HR3 := Lib.hid (HR.out.later hb3)
  have HT3 := Lib.hid (HT.out.later hb3)
  have hb03 := hb0.trans (hb3.mono hb0.size)
  have hxw : IntKind.u32.wrap (x + 1) = (x + 1) % 4294967296 := wW (x + 1)
  have hs3 : (w1.alloc (.cells #[.int .u32 v] 25)).heap.size = w1.heap.size + 1 := by simp
  clear e3 hM hc
  go_wp2_with fail
  refine (behind_any (s0, s1, s2, s3) a len cap x es x (some ⟨w1.heap.size, 0, none⟩) 1 1 [v] (fun n => n = w1.heap.size) _ HE3.out HF.out HX.out HW3.out).mono ?_
  rintro e w4 ⟨b, n, c, he, hg, hE⟩
  replace he : e = .returned (tbV (s0, s1, s2, s3) (.slice b n c) x) := he
  subst he
  have HR4 := Lib.hid (HR3.out.later hg)
  have HE4 := Lib.hid hE
  have hb4 := hb03.trans (hg.mono hb03.size)
  clear d0 d1 d2 d3 d4 d5
  obtain ⟨d0, d1, d2, d3, d4, d5⟩ := HT3.out.later hg
  simp only at d0 d1 d2 d3 d4 d5
  have hsz4 := hg.size
  rw [hs3] at hsz4
  have hlt4 : w.heap.size < w4.heap.size := lt_of_cell d0
  clear hg hE hb3 hb03 HW3 HE3 HR3 HT3
  have hb5 : Below w4.heap.size w4 (w4.alloc (.cells #[.int .i64 s0, .int .i64 s1, .int .i64 s2, .int .i64 s3, .slice b n c, .int .u32 ((x + 1) % 4294967296)] 42)) := (Below.refl _ _).alloc (Nat.le_refl _) _
  have HR5 := Lib.hid (HR4.out.later hb5)
  have HE5 := Lib.hid (HE4.out.below hb5)
  have hb05 := hb4.trans (hb5.mono hb4.size)
  clear hb5 HR4 HE4
  go_wp2_with (refine wpList_store_row rfl 42 _ _ rfl (w.heap.size + 1) _ rfl rfl 42 _ HR5.out (by kernel_rfl) rfl (by simp [Value.oneCell']) ?_)
  refine bodyPost_ret (v := .tuple #[tbV (s0, s1, s2, s3) (.slice b n c) ((x + 1) % 4294967296), .int .i64 0]) ?_ rfl ?_
  · exact results_tb_two Tryd.results90 _ _ (w.heap.size + 1) 42 _ _ rfl rfl rfl (setRow_heap _ _ _ _ _ _ HR5.out)
  · have hgr := grownBy_setRow (w4.alloc (.cells #[.int .i64 s0, .int .i64 s1, .int .i64 s2, .int .i64 s3, .slice b n c, .int .u32 ((x + 1) % 4294967296)] 42)) (w.heap.size + 1) #[.int .i64 s0, .int .i64 s1, .int .i64 s2, .int .i64 s3, .slice b n c, .int .u32 ((x + 1) % 4294967296)]
    have hbs := hb0.size
    rw [← HRR.out, push_yes HG.out (by have := HC.out; show ¬ s1 ≤ (es.length : Int); omega)]
    exact ⟨b, n, c, rfl, below_setRow hb05 (by omega) _, (HE5.out.grown hgr (fun m hm e => by have := Option.some.inj e; rw [hs3] at hm; omega)).mono (fun m hm => by rw [hs3] at hm; omega)⟩
end Go.Proofs.YtilddlgcfbefiaaDoor
