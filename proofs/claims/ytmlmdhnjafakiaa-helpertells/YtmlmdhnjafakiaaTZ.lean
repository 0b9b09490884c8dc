/-
  What the fifth reference's Set returns, as a contract over the translated program.
-/
import Derived.Test.YtmlmdhnjafakiaaTY
namespace Go.Proofs.Ytmlmdhnjafakiaa
open Go Go.RowKit

theorem wordsV_getD {ws : List Int} {f : Nat} (h : f < ws.length) : (wordsV ws)[f]? = some (.int .u32 (ws.getD f 0)) := by
  rw [wordsV, List.getElem?_map, List.getElem?_eq_getElem h, List.getD_eq_getElem?_getD, List.getElem?_eq_getElem h]
  rfl
set_option maxRecDepth 100000 in
set_option maxHeartbeats 20000000 in
theorem set_any (s : Sc) (a : Option Addr) (len cap : Nat) (x : Int) (es : List Ent) (key f v : Int) (w : World) (h : EntsAt w a len cap es) (hf : fewE es) (hkw : isW key) (hfw : isW f) (hvw : isW v) :
    Calls Try.prog 23 #[tbV s (.slice a len cap) x, .int .u32 key, .int .u32 f, .int .u32 v] w (TabPost2 (setT (s, es, x) key f v).1 (fun n => w.heap.size ≤ n) (.int .i64 (setT (s, es, x) key f v).2) w) := by
  rcases s with ⟨s0, s1, s2, s3⟩
  have hm := h.max
  obtain ⟨W0, hW0⟩ : ∃ W0, (w.alloc (.cells #[.int .i64 s0, .int .i64 s1, .int .i64 s2, .int .i64 s3, .slice a len cap, .int .u32 x] 44)).alloc (.cells zeroTA 44) = W0 := ⟨_, rfl⟩
  have hs0 : W0.heap.size = w.heap.size + 1 + 1 := by rw [← hW0]; simp
  have hb0 : Below w.heap.size w W0 := by rw [← hW0]; exact box2 (Below.refl _ _) (Nat.le_refl _) _ _
  have HT : Hid (TbAt W0 w.heap.size (s0, s1, s2, s3) (.slice a len cap) x) := by rw [← hW0]; exact Lib.hid (tbAt_old (tbAt_new w (s0, s1, s2, s3) (.slice a len cap) x) _)
  have HR : Hid (Box W0 (w.heap.size + 1) 44 zeroTA) := by
    rw [← hW0]
    have := Box.new (w.alloc (.cells #[.int .i64 s0, .int .i64 s1, .int .i64 s2, .int .i64 s3, .slice a len cap, .int .u32 x] 44)) 44 zeroTA
    rw [show (w.alloc (.cells #[.int .i64 s0, .int .i64 s1, .int .i64 s2, .int .i64 s3, .slice a len cap, .int .u32 x] 44)).heap.size = w.heap.size + 1 by simp] at this
    exact Lib.hid this
  have HEs := Lib.hid (h.below hb0)
  have H1 := Lib.hid h.1
  have HF := Lib.hid hf
  have HKw := Lib.hid hkw
  have HFw := Lib.hid hfw
  have HVw := Lib.hid hvw
  replace hs0 : w.heap.size + 1 + 1 ≤ W0.heap.size := by omega
  obtain ⟨RR, hRR⟩ : ∃ RR, setT ((s0, s1, s2, s3), es, x) key f v = RR := ⟨_, rfl⟩
  rw [hRR]
  have HRR := Lib.hid hRR
  obtain ⟨d0, d1, d2, d3, d4, d5⟩ := HT.out
  simp only at d0 d1 d2 d3 d4 d5
  clear h hf hRR hkw hfw hvw
  go_enter Try.func23, Try.ntmps23
  go_wp2_with fail
  refine (keyed_any (s0, s1, s2, s3) a len cap x es f W0 HEs.out HFw.out).mono ?_
  rintro e w1 ⟨rfl, hg⟩
  clear hW0
  clear d0 d1 d2 d3 d4 d5
  replace HT := Lib.hid (HT.out.later hg)
  replace HR := Lib.hid (HR.out.later hg)
  replace HEs := Lib.hid (HEs.out.below hg)
  replace hb0 := hb0.trans (hg.mono hb0.size)
  replace hs0 := Nat.le_trans hs0 hg.size
  clear hg
  obtain ⟨d0, d1, d2, d3, d4, d5⟩ := HT.out
  simp only at d0 d1 d2 d3 d4 d5
  rcases hK : keyedB ((s0, s1, s2, s3), es, x) f with _ | _
  · have HB := Lib.hid (set_arg (key := key) (v := v) hK)
    clear hK
    go_wp2_with (refine wpList_store_row rfl 44 _ _ rfl (w.heap.size + 1) _ rfl rfl 44 _ HR.out (by kernel_rfl) rfl (by simp [Value.oneCell']) ?_)
    refine bodyPost_ret (v := .tuple #[tbV zeroS (.slice none 0 0) 0, .int .i64 1]) ?_ rfl ?_
    · exact results_tb_two Try.results23 _ _ (w.heap.size + 1) 44 _ _ rfl rfl rfl (setRow_heap _ _ _ _ _ _ HR.out)
    · rw [← HRR.out, HB.out]
      exact ⟨none, 0, 0, rfl, below_setRow hb0 (by omega) _, ⟨rfl, Nat.le_refl _, Nat.zero_le _, .inl rfl⟩⟩
  go_wp2_with fail
  refine (at_any (s0, s1, s2, s3) a len cap x key es w1 HEs.out).mono ?_
  rintro e w2 ⟨rfl, hg⟩
  clear d0 d1 d2 d3 d4 d5
  replace HT := Lib.hid (HT.out.later hg)
  replace HR := Lib.hid (HR.out.later hg)
  replace HEs := Lib.hid (HEs.out.below hg)
  replace hb0 := hb0.trans (hg.mono hb0.size)
  replace hs0 := Nat.le_trans hs0 hg.size
  clear hg
  obtain ⟨d0, d1, d2, d3, d4, d5⟩ := HT.out
  simp only at d0 d1 d2 d3 d4 d5
  rcases hA : atE es key with _ | j
  · rw [atI_none hA]
    have HKy := Lib.hid hK
    have HAt := Lib.hid hA
    obtain ⟨fn, hfn⟩ := Int.eq_ofNat_of_zero_le HFw.out.1
    subst hfn
    obtain ⟨hM, hk3, hfl⟩ := keyed_iff.1 hK
    simp only at hk3 hfl
    clear hK hA
    by_cases e0 : s0 = 0
    · have k0 : (s0 == 0) = true := by simpa using e0
      have HB := Lib.hid (set_none (t := ((s0, s1, s2, s3), es, x)) (f := (fn : Int)) (v := v) HKy.out HAt.out e0)
      clear e0
      go_wp2_with (refine wpList_store_row rfl 44 _ _ rfl (w.heap.size + 1) _ rfl rfl 44 _ HR.out (by kernel_rfl) rfl (by simp [Value.oneCell']) ?_)
      refine bodyPost_ret (v := .tuple #[tbV zeroS (.slice none 0 0) 0, .int .i64 3]) ?_ rfl ?_
      · exact results_tb_two Try.results23 _ _ (w.heap.size + 1) 44 _ _ rfl rfl rfl (setRow_heap _ _ _ _ _ _ HR.out)
      · rw [← HRR.out, HB.out]
        exact ⟨none, 0, 0, rfl, below_setRow hb0 (by omega) _, ⟨rfl, Nat.le_refl _, Nat.zero_le _, .inl rfl⟩⟩
    have k0 : (s0 == 0) = false := by simpa using e0
    have HE0 := Lib.hid e0
    by_cases hc : s1 ≤ (len : Int)
    · have HC : Hid (s1 ≤ (es.length : Int)) := Lib.hid (by rw [H1.out]; exact hc)
      by_cases e1 : s0 = 1
      · have k1 : (s0 == 1) = true := by simpa using e1
        have HB := Lib.hid (set_full (t := ((s0, s1, s2, s3), es, x)) (f := (fn : Int)) (v := v) HKy.out HAt.out e1 HC.out)
        clear e0 e1
        go_wp2_with (refine wpList_store_row rfl 44 _ _ rfl (w.heap.size + 1) _ rfl rfl 44 _ HR.out (by kernel_rfl) rfl (by simp [Value.oneCell']) ?_)
        refine bodyPost_ret (v := .tuple #[tbV zeroS (.slice none 0 0) 0, .int .i64 4]) ?_ rfl ?_
        · exact results_tb_two Try.results23 _ _ (w.heap.size + 1) 44 _ _ rfl rfl rfl (setRow_heap _ _ _ _ _ _ HR.out)
        · rw [← HRR.out, HB.out]
          exact ⟨none, 0, 0, rfl, below_setRow hb0 (by omega) _, ⟨rfl, Nat.le_refl _, Nat.zero_le _, .inl rfl⟩⟩
      have k1 : (s0 == 1) = false := by simpa using e1
      have HNw := Lib.hid (set_new (t := ((s0, s1, s2, s3), es, x)) (f := (fn : Int)) (v := v) HKy.out HAt.out e0 (fun h => e1 h.1))
      rw [if_pos HC.out] at HNw
      clear e0 e1
      go_wp2_with fail
      refine (own_any (s0, s1, s2, s3) a len cap x es w2 HEs.out HF.out).mono ?_
      rintro e w3 hpost
      obtain ⟨b3, n3, c3, he, hg, hE3⟩ := own_in hpost
      replace he : e = .returned (tbV (s0, s1, s2, s3) (.slice b3 n3 c3) x) := he
      subst he
      clear hpost
      obtain ⟨W3, hW3⟩ : ∃ W3, w3.alloc (.cells #[.int .i64 s0, .int .i64 s1, .int .i64 s2, .int .i64 s3, .slice b3 n3 c3, .int .u32 x] 44) = W3 := ⟨_, rfl⟩
      have ha3 : Below w3.heap.size w3 W3 := by rw [← hW3]; exact (Below.refl _ _).alloc (Nat.le_refl _) _
      obtain ⟨O, hO⟩ : ∃ O, w3.heap.size = O := ⟨_, rfl⟩
      have HO3 : Hid (Box W3 O 44 #[.int .i64 s0, .int .i64 s1, .int .i64 s2, .int .i64 s3, .slice b3 n3 c3, .int .u32 x]) := by rw [← hW3, ← hO]; exact Lib.hid (Box.new w3 44 _)
      have hs3 : O + 1 ≤ W3.heap.size := by rw [← hW3, ← hO]; simp
      have h23 : w2.heap.size ≤ O := by rw [← hO]; exact hg.size
      have hg3 := hg.trans (ha3.mono hg.size)
      have HR3 := Lib.hid (HR.out.later hg3)
      have HT3 := Lib.hid (HT.out.later hg3)
      have HEs3 := Lib.hid (HEs.out.below hg3)
      have hb3 := hb0.trans (hg3.mono hb0.size)
      have HE3 := Lib.hid (hE3.below ha3)
      clear hE3 hg hg3 ha3 d0 d1 d2 d3 d4 d5
      obtain ⟨d0, d1, d2, d3, d4, d5⟩ := HT3.out
      simp only at d0 d1 d2 d3 d4 d5
      go_wp2_with fail
      have h1e : 0 < es.length := by
        have hP := mayS_iff.1 (show mayS s0 s1 s2 s3 = true from (headB_iff.1 (mayTb_head hM)).1)
        have := HC.out
        omega
      refine (withoutI_any (s0, s1, s2, s3) a len cap x es 0 0 rfl W3 HEs3.out HF.out h1e).mono ?_
      rintro e w4 ⟨b4, n4, c4, he, hg, hE4⟩
      replace he : e = .returned (tbV (s0, s1, s2, s3) (.slice b4 n4 c4) x) := he
      subst he
      have HO4 := Lib.hid (HO3.out.later hg)
      obtain ⟨W4, hW4⟩ : ∃ W4, w4.setRow O (tbA (s0, s1, s2, s3) (.slice b4 n4 c4) x) = W4 := ⟨_, rfl⟩
      have HO5 : Hid (Box W4 O 44 (tbA (s0, s1, s2, s3) (.slice b4 n4 c4) x)) := by rw [← hW4]; exact Lib.hid (setRow_heap _ _ _ _ _ _ HO4.out)
      have hgr4 : w4.grownBy W4 (some O) := by rw [← hW4]; exact grownBy_setRow _ _ _
      have HR5 := Lib.hid ((HR3.out.later hg).grown hgr4 (by simp; omega))
      have HE5 := Lib.hid (hE4.grown hgr4 (fun m hm e => by have := Option.some.inj e; omega))
      have hb5 : Below w.heap.size w W4 := by rw [← hW4]; exact below_setRow (hb3.trans (hg.mono hb3.size)) (by omega) _
      have HT5 : Hid (TbAt W4 w.heap.size (s0, s1, s2, s3) (.slice a len cap) x) := Lib.hid (by
        obtain ⟨q0, q1, q2, q3, q4, q5⟩ := HT3.out.later hg
        have hne : some w.heap.size ≠ some O := by simp; omega
        exact ⟨(hgr4.cell_far ⟨w.heap.size, 0, none⟩ (lt_of_cell q0) hne).trans q0, (hgr4.cell_far ⟨w.heap.size, 1, none⟩ (lt_of_cell q1) hne).trans q1, (hgr4.cell_far ⟨w.heap.size, 2, none⟩ (lt_of_cell q2) hne).trans q2, (hgr4.cell_far ⟨w.heap.size, 3, none⟩ (lt_of_cell q3) hne).trans q3, (hgr4.cell_far ⟨w.heap.size, 4, none⟩ (lt_of_cell q4) hne).trans q4, (hgr4.cell_far ⟨w.heap.size, 5, none⟩ (lt_of_cell q5) hne).trans q5⟩)
      clear d0 d1 d2 d3 d4 d5 hE4 hg
      obtain ⟨d0, d1, d2, d3, d4, d5⟩ := HT5.out
      simp only at d0 d1 d2 d3 d4 d5
      obtain ⟨nw, hnw⟩ := Int.eq_ofNat_of_zero_le (show 0 ≤ s2 by omega)
      have HNW := Lib.hid hnw
      have hnw4 : nw ≤ 4 := by
        have hP := mayS_iff.1 (show mayS s0 s1 s2 s3 = true from (headB_iff.1 (mayTb_head hM)).1)
        omega
      have hfnw : fn < nw := by omega
      have hfI : (fn : Int) < (nw : Int) := by omega
      have hfI0 : (0 : Int) ≤ (fn : Int) := Int.natCast_nonneg _
      obtain ⟨HB, hHB⟩ : ∃ HB, W4.heap.size = HB := ⟨_, rfl⟩
      have hOB : O < HB := by rw [← hHB]; exact HO5.out.lt
      have hbase : w2.heap.size + 1 ≤ W4.heap.size := by omega
      clear hnw
      go_wp2_with (
        first
          | ((refine wpList_store_row rfl 44 _ _ rfl O _ rfl rfl 44 _ HO4.out (by kernel_rfl) rfl (by simp [Value.oneCell']) ?_)
             rw [show w4.setRow O #[.int .i64 s0, .int .i64 s1, .int .i64 s2, .int .i64 s3, .slice b4 n4 c4, .int .u32 x] = W4 from hW4])
          | (refine wpList_makeW W4 rfl _ _ rfl (w2.heap.size + 1) nw s2 rfl rfl HNW.out (by omega) hbase HB hHB ?_
             intro w5 hown5 hgrow5
             have hB5 : Below W4.heap.size W4 w5 := ⟨hgrow5.os, hgrow5.tape, hgrow5.output, hgrow5.size, fun k hk => hgrow5.block k hk (by simp)⟩
             have hHE : HB < w5.heap.size := lt_of_cell (own_cells hown5 fn _ (wordsV_getD (f := fn) (by simpa using hfnw)))
             obtain ⟨p, hp⟩ : ∃ p, (⟨HB, 0, none⟩ : Addr) = p := ⟨_, rfl⟩
             have HPF : Hid (p.add fn = ⟨HB, fn, none⟩) := Lib.hid (by rw [← hp, addr_add])
             obtain ⟨W6, hW6⟩ : ∃ W6, w5.alloc (.cells #[.int .u32 key, .slice (some p) nw nw] 48) = W6 := ⟨_, rfl⟩
             have hg6 : Below w5.heap.size w5 W6 := by rw [← hW6]; exact (Below.refl _ _).alloc (Nat.le_refl _) _
             obtain ⟨EB, hEB⟩ : ∃ EB, w5.heap.size = EB := ⟨_, rfl⟩
             have HB6 : Hid (Box W6 EB 48 #[.int .u32 key, .slice (some p) nw nw]) := by rw [← hW6, ← hEB]; exact Lib.hid (Box.new w5 48 _)
             have hHE6 : HB < EB := by rw [← hEB]; exact hHE
             have hown6 := ownsRow_below hown5 hg6
             have v2 : W6.cell? (p.add fn) = some (.int .u32 ((List.replicate nw (0 : Int)).getD fn 0)) := by
               rw [HPF.out]
               exact own_cells hown6 _ _ (wordsV_getD (by simpa using hfnw))
             have v3 : W6.frozen? (p.add fn) = false := by
               rw [HPF.out]
               obtain ⟨_, ⟨e, _⟩ | ⟨g', cap', cur, e, _, hh, _⟩⟩ := hown6
               · cases e
               · simp only [Value.slice.injEq, Option.some.injEq, Addr.mk.injEq, and_true, true_and] at e
                 obtain ⟨rfl, rfl⟩ := e
                 simp [World.frozen?, hh]
             obtain ⟨W7, hW7⟩ : ∃ W7, W6.setCell (p.add fn) (.int .u32 v) = W7 := ⟨_, rfl⟩
             have hs7 := (hown6.stored fn (.int .u32 v)).1
             rw [wordsV_set] at hs7
             have hB7 : Below W4.heap.size W4 W7 := by rw [← hW7]; exact (hB5.trans (hg6.mono hB5.size)).setCell (by rw [HPF.out]; show W4.heap.size ≤ HB; omega) _
             have HO7 := Lib.hid (HO5.out.later hB7)
             have HR7 := Lib.hid (HR5.out.later hB7)
             have HE7 := Lib.hid (HE5.out.below hB7)
             have hb7 := hb5.trans (hB7.mono hb5.size)
             have HB7 : Hid (Box W7 EB 48 #[.int .u32 key, .slice (some p) nw nw]) := by rw [← hW7]; exact Lib.hid (HB6.out.other (by rw [HPF.out]; show EB ≠ HB; omega) _)
             have HW7 : Hid (WordsIn W7 (fun n => n = HB) (some p) nw nw ((List.replicate nw (0 : Int)).set fn v)) := Lib.hid (by
               have hs8 : W7.ownsRow (w2.heap.size + 1) 22 1 (.slice (some ⟨HB, 0, none⟩) nw nw) nw (wordsV ((List.replicate nw (0 : Int)).set fn v)) := by
                 rw [← hW7, HPF.out]
                 simpa using hs7
               obtain ⟨b9, c9, e9, hW9, _⟩ := words_own (by simp) (wordL_set (wordL_zeros nw) HVw.out fn) hs8
               simp only [Value.slice.injEq, true_and] at e9
               obtain ⟨rfl, rfl⟩ := e9
               rw [hp] at hW9
               exact ⟨hW9, .inr ⟨_, rfl, by rw [← hp]⟩⟩)
             have b0 : W6.cell? ⟨EB, 0, none⟩ = some (.int .u32 key) := HB6.out.cell rfl
             have b1 : W6.cell? ⟨EB, 1, none⟩ = some (.slice (some p) nw nw) := HB6.out.cell rfl
             have z0 : W7.cell? ⟨EB, 0, none⟩ = some (.int .u32 key) := HB7.out.cell rfl
             have z1 : W7.cell? ⟨EB, 1, none⟩ = some (.slice (some p) nw nw) := HB7.out.cell rfl
             obtain ⟨q0, q1, q2, q3, q4, q5⟩ := Box.tb (s := (s0, s1, s2, s3)) HO7.out
             simp only at q0 q1 q2 q3 q4 q5
             have hB7s := hB7.size
             have HBeh := Lib.hid (behind_any (s0, s1, s2, s3) b4 n4 c4 x (es.eraseIdx 0) key (some p) nw nw ((List.replicate nw (0 : Int)).set fn v) (fun n => n = HB) W7 HE7.out.at (few_erase HF.out 0) HKw.out HW7.out)
             clear hg6 hs7 hown6 hown5 hB5 hgrow5 d0 d1 d2 d3 d4 d5 hB7
             rw [hp]
             clear hp)  )
      refine HBeh.out.mono ?_
      rintro e w8 ⟨b8, n8, c8, he, hg8, hE8⟩
      replace he : e = .returned (tbV (s0, s1, s2, s3) (.slice b8 n8 c8) x) := he
      subst he
      have HRx := Lib.hid (HR7.out.later hg8)
      have HE8 := Lib.hid hE8
      have hbx := hb7.trans (hg8.mono hb7.size)
      have hw2 := hb0.size
      have HZ : Hid ((fn : Int).toNat = fn ∧ s2.toNat = nw) := Lib.hid ⟨Int.toNat_natCast fn, by rw [HNW.out]; exact Int.toNat_natCast nw⟩
      have HNz : Hid (setT ((s0, s1, s2, s3), es, x) key (fn : Int) v = (behindT (withoutT ((s0, s1, s2, s3), es, x) 0) (key, (List.replicate nw (0 : Int)).set fn v), 0)) := Lib.hid (by
        have := HNw.out
        simp only [HZ.out.1, HZ.out.2] at this
        exact this)
      clear HBeh hE8 hg8 hW7 q0 q1 q2 q3 q4 q5 z0 z1 b0 b1 v2 v3
      go_wp2_with (refine wpList_store_row rfl 44 _ _ rfl (w.heap.size + 1) _ rfl rfl 44 _ HRx.out (by kernel_rfl) rfl (by simp [Value.oneCell']) ?_)
      refine bodyPost_ret (v := .tuple #[tbV (s0, s1, s2, s3) (.slice b8 n8 c8) x, .int .i64 0]) ?_ rfl ?_
      · exact results_tb_two Try.results23 _ _ (w.heap.size + 1) 44 _ _ rfl rfl rfl (setRow_heap _ _ _ _ _ _ HRx.out)
      · have hgr := grownBy_setRow w8 (w.heap.size + 1) (tbA (s0, s1, s2, s3) (.slice b8 n8 c8) x)
        rw [← HRR.out, HNz.out]
        exact ⟨_, _, _, rfl, below_setRow hbx (by omega) _, (HE8.out.grown hgr (fun m hm e => by have := Option.some.inj e; omega)).mono (fun m hm => by omega)⟩
    have HC : Hid (¬ s1 ≤ (es.length : Int)) := Lib.hid (by rw [H1.out]; exact hc)
    have hcI : decide (s1 ≤ (len : Int)) = false := by simp; omega
    by_cases e1 : s0 = 1
    · have k1 : (s0 == 1) = true := by simpa using e1
      have HNw := Lib.hid (set_new (t := ((s0, s1, s2, s3), es, x)) (f := (fn : Int)) (v := v) HKy.out HAt.out e0 (fun h => HC.out h.2))
      rw [if_neg HC.out] at HNw
      clear e0 e1
      go_wp2_with fail
      refine (own_any (s0, s1, s2, s3) a len cap x es w2 HEs.out HF.out).mono ?_
      rintro e w3 hpost
      obtain ⟨b3, n3, c3, he, hg, hE3⟩ := own_in hpost
      replace he : e = .returned (tbV (s0, s1, s2, s3) (.slice b3 n3 c3) x) := he
      subst he
      clear hpost
      obtain ⟨W3, hW3⟩ : ∃ W3, w3.alloc (.cells #[.int .i64 s0, .int .i64 s1, .int .i64 s2, .int .i64 s3, .slice b3 n3 c3, .int .u32 x] 44) = W3 := ⟨_, rfl⟩
      have ha3 : Below w3.heap.size w3 W3 := by rw [← hW3]; exact (Below.refl _ _).alloc (Nat.le_refl _) _
      obtain ⟨O, hO⟩ : ∃ O, w3.heap.size = O := ⟨_, rfl⟩
      have HO3 : Hid (Box W3 O 44 #[.int .i64 s0, .int .i64 s1, .int .i64 s2, .int .i64 s3, .slice b3 n3 c3, .int .u32 x]) := by rw [← hW3, ← hO]; exact Lib.hid (Box.new w3 44 _)
      have hs3 : O + 1 ≤ W3.heap.size := by rw [← hW3, ← hO]; simp
      have h23 : w2.heap.size ≤ O := by rw [← hO]; exact hg.size
      have hg3 := hg.trans (ha3.mono hg.size)
      have HR3 := Lib.hid (HR.out.later hg3)
      have HT3 := Lib.hid (HT.out.later hg3)
      have HEs3 := Lib.hid (HEs.out.below hg3)
      have hb3 := hb0.trans (hg3.mono hb0.size)
      have HE3 := Lib.hid (hE3.below ha3)
      clear hE3 hg hg3 ha3 d0 d1 d2 d3 d4 d5
      obtain ⟨d0, d1, d2, d3, d4, d5⟩ := HT3.out
      simp only at d0 d1 d2 d3 d4 d5
      obtain ⟨nw, hnw⟩ := Int.eq_ofNat_of_zero_le (show 0 ≤ s2 by omega)
      have HNW := Lib.hid hnw
      have hnw4 : nw ≤ 4 := by
        have hP := mayS_iff.1 (show mayS s0 s1 s2 s3 = true from (headB_iff.1 (mayTb_head hM)).1)
        omega
      have hfnw : fn < nw := by omega
      have hfI : (fn : Int) < (nw : Int) := by omega
      have hfI0 : (0 : Int) ≤ (fn : Int) := Int.natCast_nonneg _
      obtain ⟨HB, hHB⟩ : ∃ HB, W3.heap.size = HB := ⟨_, rfl⟩
      have hOB : O < HB := by rw [← hHB]; exact HO3.out.lt
      have hbase : w2.heap.size + 1 ≤ W3.heap.size := by omega
      clear hnw
      go_wp2_with (
        refine wpList_makeW W3 rfl _ _ rfl (w2.heap.size + 1) nw s2 rfl rfl HNW.out (by omega) hbase HB hHB ?_
        intro w5 hown5 hgrow5
        have hB5 : Below W3.heap.size W3 w5 := ⟨hgrow5.os, hgrow5.tape, hgrow5.output, hgrow5.size, fun k hk => hgrow5.block k hk (by simp)⟩
        have hHE : HB < w5.heap.size := lt_of_cell (own_cells hown5 fn _ (wordsV_getD (f := fn) (by simpa using hfnw)))
        obtain ⟨p, hp⟩ : ∃ p, (⟨HB, 0, none⟩ : Addr) = p := ⟨_, rfl⟩
        have HPF : Hid (p.add fn = ⟨HB, fn, none⟩) := Lib.hid (by rw [← hp, addr_add])
        obtain ⟨W6, hW6⟩ : ∃ W6, w5.alloc (.cells #[.int .u32 key, .slice (some p) nw nw] 48) = W6 := ⟨_, rfl⟩
        have hg6 : Below w5.heap.size w5 W6 := by rw [← hW6]; exact (Below.refl _ _).alloc (Nat.le_refl _) _
        obtain ⟨EB, hEB⟩ : ∃ EB, w5.heap.size = EB := ⟨_, rfl⟩
        have HB6 : Hid (Box W6 EB 48 #[.int .u32 key, .slice (some p) nw nw]) := by rw [← hW6, ← hEB]; exact Lib.hid (Box.new w5 48 _)
        have hHE6 : HB < EB := by rw [← hEB]; exact hHE
        have hown6 := ownsRow_below hown5 hg6
        have v2 : W6.cell? (p.add fn) = some (.int .u32 ((List.replicate nw (0 : Int)).getD fn 0)) := by
          rw [HPF.out]
          exact own_cells hown6 _ _ (wordsV_getD (by simpa using hfnw))
        have v3 : W6.frozen? (p.add fn) = false := by
          rw [HPF.out]
          obtain ⟨_, ⟨e, _⟩ | ⟨g', cap', cur, e, _, hh, _⟩⟩ := hown6
          · cases e
          · simp only [Value.slice.injEq, Option.some.injEq, Addr.mk.injEq, and_true, true_and] at e
            obtain ⟨rfl, rfl⟩ := e
            simp [World.frozen?, hh]
        obtain ⟨W7, hW7⟩ : ∃ W7, W6.setCell (p.add fn) (.int .u32 v) = W7 := ⟨_, rfl⟩
        have hs7 := (hown6.stored fn (.int .u32 v)).1
        rw [wordsV_set] at hs7
        have hB7 : Below W3.heap.size W3 W7 := by rw [← hW7]; exact (hB5.trans (hg6.mono hB5.size)).setCell (by rw [HPF.out]; show W3.heap.size ≤ HB; omega) _
        have HO7 := Lib.hid (HO3.out.later hB7)
        have HR7 := Lib.hid (HR3.out.later hB7)
        have HE7 := Lib.hid (HE3.out.below hB7)
        have hb7 := hb3.trans (hB7.mono hb3.size)
        have HB7 : Hid (Box W7 EB 48 #[.int .u32 key, .slice (some p) nw nw]) := by rw [← hW7]; exact Lib.hid (HB6.out.other (by rw [HPF.out]; show EB ≠ HB; omega) _)
        have HW7 : Hid (WordsIn W7 (fun n => n = HB) (some p) nw nw ((List.replicate nw (0 : Int)).set fn v)) := Lib.hid (by
          have hs8 : W7.ownsRow (w2.heap.size + 1) 22 1 (.slice (some ⟨HB, 0, none⟩) nw nw) nw (wordsV ((List.replicate nw (0 : Int)).set fn v)) := by
            rw [← hW7, HPF.out]
            simpa using hs7
          obtain ⟨b9, c9, e9, hW9, _⟩ := words_own (by simp) (wordL_set (wordL_zeros nw) HVw.out fn) hs8
          simp only [Value.slice.injEq, true_and] at e9
          obtain ⟨rfl, rfl⟩ := e9
          rw [hp] at hW9
          exact ⟨hW9, .inr ⟨_, rfl, by rw [← hp]⟩⟩)
        have b0 : W6.cell? ⟨EB, 0, none⟩ = some (.int .u32 key) := HB6.out.cell rfl
        have b1 : W6.cell? ⟨EB, 1, none⟩ = some (.slice (some p) nw nw) := HB6.out.cell rfl
        have z0 : W7.cell? ⟨EB, 0, none⟩ = some (.int .u32 key) := HB7.out.cell rfl
        have z1 : W7.cell? ⟨EB, 1, none⟩ = some (.slice (some p) nw nw) := HB7.out.cell rfl
        obtain ⟨q0, q1, q2, q3, q4, q5⟩ := Box.tb (s := (s0, s1, s2, s3)) HO7.out
        simp only at q0 q1 q2 q3 q4 q5
        have hB7s := hB7.size
        have HBeh := Lib.hid (behind_any (s0, s1, s2, s3) b3 n3 c3 x es key (some p) nw nw ((List.replicate nw (0 : Int)).set fn v) (fun n => n = HB) W7 HE7.out.at HF.out HKw.out HW7.out)
        clear hg6 hs7 hown6 hown5 hB5 hgrow5 d0 d1 d2 d3 d4 d5 hB7
        rw [hp]
        clear hp  )
      refine HBeh.out.mono ?_
      rintro e w8 ⟨b8, n8, c8, he, hg8, hE8⟩
      replace he : e = .returned (tbV (s0, s1, s2, s3) (.slice b8 n8 c8) x) := he
      subst he
      have HRx := Lib.hid (HR7.out.later hg8)
      have HE8 := Lib.hid hE8
      have hbx := hb7.trans (hg8.mono hb7.size)
      have hw2 := hb0.size
      have HZ : Hid ((fn : Int).toNat = fn ∧ s2.toNat = nw) := Lib.hid ⟨Int.toNat_natCast fn, by rw [HNW.out]; exact Int.toNat_natCast nw⟩
      have HNz : Hid (setT ((s0, s1, s2, s3), es, x) key (fn : Int) v = (behindT ((s0, s1, s2, s3), es, x) (key, (List.replicate nw (0 : Int)).set fn v), 0)) := Lib.hid (by
        have := HNw.out
        simp only [HZ.out.1, HZ.out.2] at this
        exact this)
      clear HBeh hE8 hg8 hW7 q0 q1 q2 q3 q4 q5 z0 z1 b0 b1 v2 v3
      go_wp2_with (refine wpList_store_row rfl 44 _ _ rfl (w.heap.size + 1) _ rfl rfl 44 _ HRx.out (by kernel_rfl) rfl (by simp [Value.oneCell']) ?_)
      refine bodyPost_ret (v := .tuple #[tbV (s0, s1, s2, s3) (.slice b8 n8 c8) x, .int .i64 0]) ?_ rfl ?_
      · exact results_tb_two Try.results23 _ _ (w.heap.size + 1) 44 _ _ rfl rfl rfl (setRow_heap _ _ _ _ _ _ HRx.out)
      · have hgr := grownBy_setRow w8 (w.heap.size + 1) (tbA (s0, s1, s2, s3) (.slice b8 n8 c8) x)
        rw [← HRR.out, HNz.out]
        exact ⟨_, _, _, rfl, below_setRow hbx (by omega) _, (HE8.out.grown hgr (fun m hm e => by have := Option.some.inj e; omega)).mono (fun m hm => by omega)⟩
    have k1 : (s0 == 1) = false := by simpa using e1
    have HNw := Lib.hid (set_new (t := ((s0, s1, s2, s3), es, x)) (f := (fn : Int)) (v := v) HKy.out HAt.out e0 (fun h => HC.out h.2))
    rw [if_neg HC.out] at HNw
    clear e0 e1
    go_wp2_with fail
    refine (own_any (s0, s1, s2, s3) a len cap x es w2 HEs.out HF.out).mono ?_
    rintro e w3 hpost
    obtain ⟨b3, n3, c3, he, hg, hE3⟩ := own_in hpost
    replace he : e = .returned (tbV (s0, s1, s2, s3) (.slice b3 n3 c3) x) := he
    subst he
    clear hpost
    obtain ⟨W3, hW3⟩ : ∃ W3, w3.alloc (.cells #[.int .i64 s0, .int .i64 s1, .int .i64 s2, .int .i64 s3, .slice b3 n3 c3, .int .u32 x] 44) = W3 := ⟨_, rfl⟩
    have ha3 : Below w3.heap.size w3 W3 := by rw [← hW3]; exact (Below.refl _ _).alloc (Nat.le_refl _) _
    obtain ⟨O, hO⟩ : ∃ O, w3.heap.size = O := ⟨_, rfl⟩
    have HO3 : Hid (Box W3 O 44 #[.int .i64 s0, .int .i64 s1, .int .i64 s2, .int .i64 s3, .slice b3 n3 c3, .int .u32 x]) := by rw [← hW3, ← hO]; exact Lib.hid (Box.new w3 44 _)
    have hs3 : O + 1 ≤ W3.heap.size := by rw [← hW3, ← hO]; simp
    have h23 : w2.heap.size ≤ O := by rw [← hO]; exact hg.size
    have hg3 := hg.trans (ha3.mono hg.size)
    have HR3 := Lib.hid (HR.out.later hg3)
    have HT3 := Lib.hid (HT.out.later hg3)
    have HEs3 := Lib.hid (HEs.out.below hg3)
    have hb3 := hb0.trans (hg3.mono hb0.size)
    have HE3 := Lib.hid (hE3.below ha3)
    clear hE3 hg hg3 ha3 d0 d1 d2 d3 d4 d5
    obtain ⟨d0, d1, d2, d3, d4, d5⟩ := HT3.out
    simp only at d0 d1 d2 d3 d4 d5
    obtain ⟨nw, hnw⟩ := Int.eq_ofNat_of_zero_le (show 0 ≤ s2 by omega)
    have HNW := Lib.hid hnw
    have hnw4 : nw ≤ 4 := by
      have hP := mayS_iff.1 (show mayS s0 s1 s2 s3 = true from (headB_iff.1 (mayTb_head hM)).1)
      omega
    have hfnw : fn < nw := by omega
    have hfI : (fn : Int) < (nw : Int) := by omega
    have hfI0 : (0 : Int) ≤ (fn : Int) := Int.natCast_nonneg _
    obtain ⟨HB, hHB⟩ : ∃ HB, W3.heap.size = HB := ⟨_, rfl⟩
    have hOB : O < HB := by rw [← hHB]; exact HO3.out.lt
    have hbase : w2.heap.size + 1 ≤ W3.heap.size := by omega
    clear hnw
    go_wp2_with (
      refine wpList_makeW W3 rfl _ _ rfl (w2.heap.size + 1) nw s2 rfl rfl HNW.out (by omega) hbase HB hHB ?_
      intro w5 hown5 hgrow5
      have hB5 : Below W3.heap.size W3 w5 := ⟨hgrow5.os, hgrow5.tape, hgrow5.output, hgrow5.size, fun k hk => hgrow5.block k hk (by simp)⟩
      have hHE : HB < w5.heap.size := lt_of_cell (own_cells hown5 fn _ (wordsV_getD (f := fn) (by simpa using hfnw)))
      obtain ⟨p, hp⟩ : ∃ p, (⟨HB, 0, none⟩ : Addr) = p := ⟨_, rfl⟩
      have HPF : Hid (p.add fn = ⟨HB, fn, none⟩) := Lib.hid (by rw [← hp, addr_add])
      obtain ⟨W6, hW6⟩ : ∃ W6, w5.alloc (.cells #[.int .u32 key, .slice (some p) nw nw] 48) = W6 := ⟨_, rfl⟩
      have hg6 : Below w5.heap.size w5 W6 := by rw [← hW6]; exact (Below.refl _ _).alloc (Nat.le_refl _) _
      obtain ⟨EB, hEB⟩ : ∃ EB, w5.heap.size = EB := ⟨_, rfl⟩
      have HB6 : Hid (Box W6 EB 48 #[.int .u32 key, .slice (some p) nw nw]) := by rw [← hW6, ← hEB]; exact Lib.hid (Box.new w5 48 _)
      have hHE6 : HB < EB := by rw [← hEB]; exact hHE
      have hown6 := ownsRow_below hown5 hg6
      have v2 : W6.cell? (p.add fn) = some (.int .u32 ((List.replicate nw (0 : Int)).getD fn 0)) := by
        rw [HPF.out]
        exact own_cells hown6 _ _ (wordsV_getD (by simpa using hfnw))
      have v3 : W6.frozen? (p.add fn) = false := by
        rw [HPF.out]
        obtain ⟨_, ⟨e, _⟩ | ⟨g', cap', cur, e, _, hh, _⟩⟩ := hown6
        · cases e
        · simp only [Value.slice.injEq, Option.some.injEq, Addr.mk.injEq, and_true, true_and] at e
          obtain ⟨rfl, rfl⟩ := e
          simp [World.frozen?, hh]
      obtain ⟨W7, hW7⟩ : ∃ W7, W6.setCell (p.add fn) (.int .u32 v) = W7 := ⟨_, rfl⟩
      have hs7 := (hown6.stored fn (.int .u32 v)).1
      rw [wordsV_set] at hs7
      have hB7 : Below W3.heap.size W3 W7 := by rw [← hW7]; exact (hB5.trans (hg6.mono hB5.size)).setCell (by rw [HPF.out]; show W3.heap.size ≤ HB; omega) _
      have HO7 := Lib.hid (HO3.out.later hB7)
      have HR7 := Lib.hid (HR3.out.later hB7)
      have HE7 := Lib.hid (HE3.out.below hB7)
      have hb7 := hb3.trans (hB7.mono hb3.size)
      have HB7 : Hid (Box W7 EB 48 #[.int .u32 key, .slice (some p) nw nw]) := by rw [← hW7]; exact Lib.hid (HB6.out.other (by rw [HPF.out]; show EB ≠ HB; omega) _)
      have HW7 : Hid (WordsIn W7 (fun n => n = HB) (some p) nw nw ((List.replicate nw (0 : Int)).set fn v)) := Lib.hid (by
        have hs8 : W7.ownsRow (w2.heap.size + 1) 22 1 (.slice (some ⟨HB, 0, none⟩) nw nw) nw (wordsV ((List.replicate nw (0 : Int)).set fn v)) := by
          rw [← hW7, HPF.out]
          simpa using hs7
        obtain ⟨b9, c9, e9, hW9, _⟩ := words_own (by simp) (wordL_set (wordL_zeros nw) HVw.out fn) hs8
        simp only [Value.slice.injEq, true_and] at e9
        obtain ⟨rfl, rfl⟩ := e9
        rw [hp] at hW9
        exact ⟨hW9, .inr ⟨_, rfl, by rw [← hp]⟩⟩)
      have b0 : W6.cell? ⟨EB, 0, none⟩ = some (.int .u32 key) := HB6.out.cell rfl
      have b1 : W6.cell? ⟨EB, 1, none⟩ = some (.slice (some p) nw nw) := HB6.out.cell rfl
      have z0 : W7.cell? ⟨EB, 0, none⟩ = some (.int .u32 key) := HB7.out.cell rfl
      have z1 : W7.cell? ⟨EB, 1, none⟩ = some (.slice (some p) nw nw) := HB7.out.cell rfl
      obtain ⟨q0, q1, q2, q3, q4, q5⟩ := Box.tb (s := (s0, s1, s2, s3)) HO7.out
      simp only at q0 q1 q2 q3 q4 q5
      have hB7s := hB7.size
      have HBeh := Lib.hid (behind_any (s0, s1, s2, s3) b3 n3 c3 x es key (some p) nw nw ((List.replicate nw (0 : Int)).set fn v) (fun n => n = HB) W7 HE7.out.at HF.out HKw.out HW7.out)
      clear hg6 hs7 hown6 hown5 hB5 hgrow5 d0 d1 d2 d3 d4 d5 hB7
      rw [hp]
      clear hp  )
    refine HBeh.out.mono ?_
    rintro e w8 ⟨b8, n8, c8, he, hg8, hE8⟩
    replace he : e = .returned (tbV (s0, s1, s2, s3) (.slice b8 n8 c8) x) := he
    subst he
    have HRx := Lib.hid (HR7.out.later hg8)
    have HE8 := Lib.hid hE8
    have hbx := hb7.trans (hg8.mono hb7.size)
    have hw2 := hb0.size
    have HZ : Hid ((fn : Int).toNat = fn ∧ s2.toNat = nw) := Lib.hid ⟨Int.toNat_natCast fn, by rw [HNW.out]; exact Int.toNat_natCast nw⟩
    have HNz : Hid (setT ((s0, s1, s2, s3), es, x) key (fn : Int) v = (behindT ((s0, s1, s2, s3), es, x) (key, (List.replicate nw (0 : Int)).set fn v), 0)) := Lib.hid (by
      have := HNw.out
      simp only [HZ.out.1, HZ.out.2] at this
      exact this)
    clear HBeh hE8 hg8 hW7 q0 q1 q2 q3 q4 q5 z0 z1 b0 b1 v2 v3
    go_wp2_with (refine wpList_store_row rfl 44 _ _ rfl (w.heap.size + 1) _ rfl rfl 44 _ HRx.out (by kernel_rfl) rfl (by simp [Value.oneCell']) ?_)
    refine bodyPost_ret (v := .tuple #[tbV (s0, s1, s2, s3) (.slice b8 n8 c8) x, .int .i64 0]) ?_ rfl ?_
    · exact results_tb_two Try.results23 _ _ (w.heap.size + 1) 44 _ _ rfl rfl rfl (setRow_heap _ _ _ _ _ _ HRx.out)
    · have hgr := grownBy_setRow w8 (w.heap.size + 1) (tbA (s0, s1, s2, s3) (.slice b8 n8 c8) x)
      rw [← HRR.out, HNz.out]
      exact ⟨_, _, _, rfl, below_setRow hbx (by omega) _, (HE8.out.grown hgr (fun m hm e => by have := Option.some.inj e; omega)).mono (fun m hm => by omega)⟩
  rw [atI_some hA]
  obtain ⟨fn, hfn⟩ := Int.eq_ofNat_of_zero_le HFw.out.1
  subst hfn
  obtain ⟨hM, hk3, hfl⟩ := keyed_iff.1 hK
  simp only at hk3 hfl
  obtain ⟨hjl, hjk, _⟩ := atE_some hA
  have hB := entB_iff.1 (mayTb_ent hM (i := j) hjl)
  have HKy := Lib.hid hK
  have HAt := Lib.hid hA
  have HJl := Lib.hid hjl
  have HJk := Lib.hid hjk
  have hj0 : (0 : Int) ≤ (j : Int) := Int.natCast_nonneg _
  have hjI : ¬ (j : Int) < 0 := by omega
  have hjD : decide ((j : Int) < 0) = false := by simp
  have hmes : es.length ≤ 40 := HF.out.1
  clear hK hA hjk
  go_wp2_with fail
  refine (own_any (s0, s1, s2, s3) a len cap x es w2 HEs.out HF.out).mono ?_
  rintro e w3 ⟨vv, xs, rfl, hg, hown, hOd⟩
  obtain ⟨g, cv, rfl, hgb, hgl⟩ := hown.form (by omega)
  obtain ⟨W3, hW3⟩ : ∃ W3, w3.alloc (.cells #[.int .i64 s0, .int .i64 s1, .int .i64 s2, .int .i64 s3, .slice (some ⟨g, 0, none⟩) es.length cv, .int .u32 x] 44) = W3 := ⟨_, rfl⟩
  have ha3 : Below w3.heap.size w3 W3 := by rw [← hW3]; exact (Below.refl _ _).alloc (Nat.le_refl _) _
  obtain ⟨O, hO⟩ : ∃ O, w3.heap.size = O := ⟨_, rfl⟩
  have HO3 : Hid (Box W3 O 44 #[.int .i64 s0, .int .i64 s1, .int .i64 s2, .int .i64 s3, .slice (some ⟨g, 0, none⟩) es.length cv, .int .u32 x]) := by rw [← hW3, ← hO]; exact Lib.hid (Box.new w3 44 _)
  have hs3 : O + 1 ≤ W3.heap.size := by rw [← hW3, ← hO]; simp
  have h23 : w2.heap.size ≤ O := by rw [← hO]; exact hg.size
  have hg3 := hg.trans (ha3.mono hg.size)
  have HR3 := Lib.hid (HR.out.later hg3)
  have HT3 := Lib.hid (HT.out.later hg3)
  have hb3 := hb0.trans (hg3.mono hb0.size)
  have hown3 := ownsRow_below hown ha3
  have hOd3 := hOd.below ha3
  rw [hO] at hgl
  obtain ⟨hx0, cw, hx1, hcw, hokj, hnr⟩ := hOd.2.1 j hjl
  obtain ⟨gv, cpv, rfl, hgvb, hgvl⟩ := hcw.form (by have := hB.1; (try simp only at this); omega)
  rw [hO] at hgvl
  have hfnl : fn < (es.getD j zeroE).2.length := by have := hB.1; (try simp only at this); omega
  obtain ⟨y, hy⟩ : ∃ y, (⟨g, 0, none⟩ : Addr) = y := ⟨_, rfl⟩
  obtain ⟨p, hp⟩ : ∃ p, (⟨gv, 0, none⟩ : Addr) = p := ⟨_, rfl⟩
  have HYJ : Hid ((⟨(y.add (j * 2)).block, (y.add (j * 2)).off + 1, none⟩ : Addr) = ⟨g, j * 2 + 1, none⟩ ∧ y.add (j * 2) = ⟨g, j * 2, none⟩) := Lib.hid (by rw [← hy, addr_add]; exact ⟨rfl, rfl⟩)
  have HPF : Hid (p.add fn = ⟨gv, fn, none⟩) := Lib.hid (by rw [← hp, addr_add])
  obtain ⟨lp, hlp⟩ : ∃ lp, (es.getD j zeroE).2.length = lp := ⟨_, rfl⟩
  have hcell := own_cells hown3
  have v0 : W3.cell? (y.add (j * 2)) = some (.int .u32 (es.getD j zeroE).1) := by rw [HYJ.out.2]; exact hcell _ _ hx0
  have v1 : W3.cell? ⟨(y.add (j * 2)).block, (y.add (j * 2)).off + 1, none⟩ = some (.slice (some p) lp cpv) := by rw [HYJ.out.1, ← hp, ← hlp]; exact hcell _ _ hx1
  have hcw3 := ownsRow_below hcw ha3
  have v2 : W3.cell? (p.add fn) = some (.int .u32 ((es.getD j zeroE).2.getD fn 0)) := by
    rw [HPF.out]
    exact own_cells hcw3 _ _ (wordsV_getD hfnl)
  have v3 : W3.frozen? (p.add fn) = false := by
    rw [HPF.out]
    obtain ⟨_, ⟨e, _⟩ | ⟨g', cap', cur, e, _, hh, _⟩⟩ := hcw3
    · cases e
    · simp only [Value.slice.injEq, Option.some.injEq, Addr.mk.injEq, and_true, true_and] at e
      obtain ⟨rfl, rfl⟩ := e
      simp [World.frozen?, hh]
  have hgg : gv ≠ g := fun e => hnr gv rfl (by rw [e]; rfl)
  have HOd5 : Hid (Owned (W3.setCell (p.add fn) (.int .u32 v)) (w2.heap.size + 1) (some g) xs (es.set j (key, (es.getD j zeroE).2.set fn v))) := Lib.hid (by
    rw [HPF.out]
    have := hOd3.write (f := fn) (v := v) hjl (by rw [hx1]) HVw.out
    rw [HJk.out] at this
    exact this)
  have hgs := grownBy_setCell W3 (p.add fn) (.int .u32 v)
  rw [HPF.out] at hgs
  have HOwn5 : Hid ((W3.setCell (p.add fn) (.int .u32 v)).ownsRow (w2.heap.size + 1) 48 2 (.slice (some ⟨g, 0, none⟩) es.length cv) es.length xs) := Lib.hid (by
    rw [HPF.out]
    exact hown3.kept hgs (.inr (fun e => hgg (Option.some.inj e).symm)))
  have HO5 : Hid (Box (W3.setCell (p.add fn) (.int .u32 v)) O 44 #[.int .i64 s0, .int .i64 s1, .int .i64 s2, .int .i64 s3, .slice (some ⟨g, 0, none⟩) es.length cv, .int .u32 x]) := Lib.hid (HO3.out.other (by rw [HPF.out]; show O ≠ gv; omega) _)
  have HR5 : Hid (Box (W3.setCell (p.add fn) (.int .u32 v)) (w.heap.size + 1) 44 zeroTA) := Lib.hid (HR3.out.other (by rw [HPF.out]; show w.heap.size + 1 ≠ gv; omega) _)
  have hb5 : Below w.heap.size w (W3.setCell (p.add fn) (.int .u32 v)) := hb3.setCell (by rw [HPF.out]; show w.heap.size ≤ gv; omega) _
  have HT5 : Hid (TbAt (W3.setCell (p.add fn) (.int .u32 v)) w.heap.size (s0, s1, s2, s3) (.slice a len cap) x) := Lib.hid (by
    obtain ⟨q0, q1, q2, q3, q4, q5⟩ := HT3.out
    have hne : some w.heap.size ≠ some gv := by simp; omega
    rw [HPF.out]
    exact ⟨(hgs.cell_far ⟨w.heap.size, 0, none⟩ (lt_of_cell q0) hne).trans q0, (hgs.cell_far ⟨w.heap.size, 1, none⟩ (lt_of_cell q1) hne).trans q1, (hgs.cell_far ⟨w.heap.size, 2, none⟩ (lt_of_cell q2) hne).trans q2, (hgs.cell_far ⟨w.heap.size, 3, none⟩ (lt_of_cell q3) hne).trans q3, (hgs.cell_far ⟨w.heap.size, 4, none⟩ (lt_of_cell q4) hne).trans q4, (hgs.cell_far ⟨w.heap.size, 5, none⟩ (lt_of_cell q5) hne).trans q5⟩)
  obtain ⟨o0, o1, o2, o3, o4, o5⟩ := Box.tb (s := (s0, s1, s2, s3)) HO3.out
  simp only at o0 o1 o2 o3 o4 o5
  have o4y : W3.cell? ⟨O, 4, none⟩ = some (.slice (some y) es.length cv) := by rw [← hy]; exact o4
  have hjI2 : (j : Int) < (es.length : Int) := by omega
  have hfI : (fn : Int) < (lp : Int) := by omega
  have hfI0 : (0 : Int) ≤ (fn : Int) := Int.natCast_nonneg _
  have HX1 := Lib.hid hx1
  have HPb : Hid ((⟨gv, 0, none⟩ : Addr) = p ∧ p.block = gv ∧ (es.getD j zeroE).2.length = lp) := Lib.hid ⟨hp, by rw [← hp], hlp⟩
  have hlpm : lp ≤ 4 := by
    have := hB.1
    have hP := mayS_iff.1 (show mayS s0 s1 s2 s3 = true from (headB_iff.1 (mayTb_head hM)).1)
    (try simp only at this)
    omega
  have HYy := Lib.hid hy
  rw [hy] at hW3
  clear hB hM hk3 hfl hOd hOd3 hown hown3 hcw hcw3 hcell hx0 hx1 hnr hokj hgs hg hg3 ha3 hlp
  obtain ⟨W5, hW5⟩ : ∃ W5, W3.setCell (p.add fn) (.int .u32 v) = W5 := ⟨_, rfl⟩
  rw [hW5] at HOd5 HOwn5 HO5 HR5 hb5 HT5
  rw [hy] at HO5 HOwn5
  obtain ⟨t0, t1, t2, t3, t4, t5⟩ := HT5.out
  simp only at t0 t1 t2 t3 t4 t5
  obtain ⟨q0, q1, q2, q3, q4, q5⟩ := Box.tb (s := (s0, s1, s2, s3)) HO5.out
  simp only at q0 q1 q2 q3 q4 q5
  by_cases e2 : ¬ s0 = 2
  · have k2 : (s0 == 2) = false := by simpa using e2
    have HG := Lib.hid (set_old (t := ((s0, s1, s2, s3), es, x)) (v := v) HKy.out HAt.out e2)
    have HRx := HR5
    have hbx := hb5
    have HEx : Hid (EntsIn W5 (fun n => w2.heap.size + 1 ≤ n) (some y) es.length cv (es.set j (key, (es.getD j zeroE).2.set fn v))) := Lib.hid (by
      obtain ⟨b8, c8, e8, hE8⟩ := rows_in (A := fun n => w2.heap.size + 1 ≤ n) (by simp) HOwn5.out (HOd5.out.ents.mono (fun n hn => hn.1)) (fun n hn => hn)
      simp only [Value.slice.injEq, true_and] at e8
      obtain ⟨rfl, rfl⟩ := e8
      exact hE8)
    have HZ : Hid (((fn : Int)).toNat = fn) := Lib.hid (Int.toNat_natCast fn)
    clear e2
    go_wp2_with (refine wpList_store_row rfl 44 _ _ rfl (w.heap.size + 1) _ rfl rfl 44 _ HRx.out (by kernel_rfl) rfl (by simp [Value.oneCell']) ?_)
    refine bodyPost_ret (v := .tuple #[tbV (s0, s1, s2, s3) (.slice (some y) es.length cv) x, .int .i64 0]) ?_ rfl ?_
    · exact results_tb_two Try.results23 _ _ (w.heap.size + 1) 44 _ _ rfl rfl rfl (setRow_heap _ _ _ _ _ _ HRx.out)
    · have hgr := grownBy_setRow W5 (w.heap.size + 1) (tbA (s0, s1, s2, s3) (.slice (some y) es.length cv) x)
      rw [← HRR.out, HG.out, HZ.out]
      exact ⟨_, _, _, rfl, below_setRow hbx (by omega) _, (HEx.out.grown hgr (fun m hm e => by have := Option.some.inj e; omega)).mono (fun m hm => by omega)⟩
  replace e2 := Decidable.not_not.1 e2
  have k2 : (s0 == 2) = true := by simpa using e2
  have HG := Lib.hid (set_lru (t := ((s0, s1, s2, s3), es, x)) (v := v) HKy.out HAt.out e2)
  have HEx : Hid (EntsIn W5 (fun n => w2.heap.size + 1 ≤ n) (some y) es.length cv (es.set j (key, (es.getD j zeroE).2.set fn v))) := Lib.hid (by
    obtain ⟨b8, c8, e8, hE8⟩ := rows_in (A := fun n => w2.heap.size + 1 ≤ n) (by simp) HOwn5.out (HOd5.out.ents.mono (fun n hn => hn.1)) (fun n hn => hn)
    simp only [Value.slice.injEq, true_and] at e8
    obtain ⟨rfl, rfl⟩ := e8
    exact hE8)
  have HWn : Hid (WordsIn W5 (fun n => n = gv) (some p) lp cpv ((es.getD j zeroE).2.set fn v)) := Lib.hid (by
    obtain ⟨z0, cz, z1, z2, z3, _⟩ := HOd5.out.2.1 j (by rw [List.length_set]; exact HJl.out)
    rw [HX1.out] at z1
    obtain rfl := Option.some.inj z1
    have hg : (es.set j (key, (es.getD j zeroE).2.set fn v)).getD j zeroE = (key, (es.getD j zeroE).2.set fn v) := by simp [List.getD_eq_getElem?_getD, HJl.out]
    rw [hg] at z2 z3
    obtain ⟨b9, c9, e9, hW9, _⟩ := words_own rfl z3.2 z2
    simp only [Value.slice.injEq] at e9
    obtain ⟨rfl, e10, rfl⟩ := e9
    rw [← e10, HPb.out.1, HPb.out.2.2] at hW9
    exact ⟨hW9, .inr ⟨_, rfl, HPb.out.2.1⟩⟩)
  have u0 : W5.cell? (y.add (j * 2)) = some (.int .u32 key) := by
    rw [← hW5, HYJ.out.2, HPF.out]
    rw [HYJ.out.2, HJk.out] at v0
    exact (World.cell?_setCell_far W3 ⟨gv, fn, none⟩ ⟨g, j * 2, none⟩ _ hgg).trans v0
  have u1 : W5.cell? ⟨(y.add (j * 2)).block, (y.add (j * 2)).off + 1, none⟩ = some (.slice (some p) lp cpv) := by
    rw [← hW5, HYJ.out.1, HPF.out]
    rw [HYJ.out.1] at v1
    exact (World.cell?_setCell_far W3 ⟨gv, fn, none⟩ ⟨g, j * 2 + 1, none⟩ _ hgg).trans v1
  have h5s : O < W5.heap.size := lt_of_cell q0
  have hgl5 : g < O := hgl
  obtain ⟨W6, hW6⟩ : ∃ W6, W5.alloc (.cells #[.int .u32 key, .slice (some p) lp cpv] 48) = W6 := ⟨_, rfl⟩
  have hg6 : Below W5.heap.size W5 W6 := by rw [← hW6]; exact (Below.refl _ _).alloc (Nat.le_refl _) _
  obtain ⟨EB, hEB⟩ : ∃ EB, W5.heap.size = EB := ⟨_, rfl⟩
  have HB6 : Hid (Box W6 EB 48 #[.int .u32 key, .slice (some p) lp cpv]) := by rw [← hW6, ← hEB]; exact Lib.hid (Box.new W5 48 _)
  have HO6 := Lib.hid (HO5.out.later hg6)
  have HR6 := Lib.hid (HR5.out.later hg6)
  have HE6 := Lib.hid (HEx.out.below hg6)
  have HW6 := Lib.hid (HWn.out.grown (grownBy_of_below hg6 none) (fun _ _ => by simp))
  have hb6 := hb5.trans (hg6.mono hb5.size)
  have hEB6 : EB < W6.heap.size := HB6.out.lt
  have hOE : O < EB := by rw [← hEB]; exact h5s
  clear e2
  go_wp2_with fail
  clear hW6 hEB q0 q1 q2 q3 q4 q5 u0 u1 v0 v1 v2 v3 o0 o1 o2 o3 o4 o5 o4y t0 t1 t2 t3 t4 t5 d0 d1 d2 d3 d4 d5
  obtain ⟨q0, q1, q2, q3, q4, q5⟩ := Box.tb (s := (s0, s1, s2, s3)) HO6.out
  simp only at q0 q1 q2 q3 q4 q5
  have b0 : W6.cell? ⟨EB, 0, none⟩ = some (.int .u32 key) := HB6.out.cell rfl
  have b1 : W6.cell? ⟨EB, 1, none⟩ = some (.slice (some p) lp cpv) := HB6.out.cell rfl
  have hEO : some EB ≠ some O := by simp; omega
  have HK8 : Hid (∀ w', W6.grownBy w' (some O) → w'.cell? ⟨EB, 0, none⟩ = some (.int .u32 key) ∧ w'.cell? ⟨EB, 1, none⟩ = some (.slice (some p) lp cpv)) := Lib.hid (fun w' h => ⟨(h.cell_far ⟨EB, 0, none⟩ (lt_of_cell b0) hEO).trans b0, (h.cell_far ⟨EB, 1, none⟩ (lt_of_cell b1) hEO).trans b1⟩)
  have g6 : W6.grownBy W6.drew (some O) := grownBy_of_below ((Below.refl _ _).drew) _
  have HEd : Hid (EntsAt W6.drew (some y) es.length cv (es.set j (key, (es.getD j zeroE).2.set fn v))) := Lib.hid ((HE6.out.below ((Below.refl _ _).drew)).at)
  refine wp_region_held_drew (S := (fun w' => w'.cell? ⟨EB, 0, none⟩ = some (.int .u32 key) ∧ w'.cell? ⟨EB, 1, none⟩ = some (.slice (some p) lp cpv))) (by kernel_rfl) (HK8.out _ g6) (fun hHeld => ?_)
  refine wpAnyH_yield (i := 1) (v := ?vE1) rfl rfl (by kernel_rfl) (by kernel_rfl) (by kernel_rfl) (fun _ _ _ h => h) (by rfl) ?hyE1 hHeld ?restE1
  case hyE1 =>
    intro w hSw
    (try dsimp only at hSw)
    go_simp
    try with_reducible rfl
  simp only [Act.put, List.setIfInBounds_toArray, List.set_cons_zero, List.set_cons_succ]
  refine wpAnyH_yield (i := 3) (v := ?vE3) rfl rfl (by kernel_rfl) (by kernel_rfl) (by kernel_rfl) (fun _ _ _ h => h) (by rfl) ?hyE3 hHeld ?restE3
  case hyE3 =>
    intro w hSw
    (try dsimp only at hSw)
    go_simp
    try with_reducible rfl
  simp only [Act.put, List.setIfInBounds_toArray, List.set_cons_zero, List.set_cons_succ]
  refine wpAnyH_ready (rs := [0]) (by kernel_rfl) (by simp) ?_
  refine AllReadyH.cons rfl (fun K hK => ?_) AllReadyH.nil
  go_simp
  refine hK.out _ _ (HK8.out _ g6) (fun hHeld => ?_)
  clear hK K
  try simp only [Act.put, List.setIfInBounds_toArray, List.set_cons_zero, List.set_cons_succ]
  refine wpAnyH_ready (rs := [2]) (by kernel_rfl) (by simp) ?_
  refine AllReadyH.cons rfl (fun K hK => ?_) AllReadyH.nil
  go_simp
  refine (withoutI_any (s0, s1, s2, s3) (some y) es.length cv x (es.set j (key, (es.getD j zeroE).2.set fn v)) j (j : Int) rfl W6.drew HEd.out (few_set HF.out j key fn v) (by rw [List.length_set]; exact HJl.out)).mono ?_
  rintro e w7 ⟨b7, n7, c7, he, hg7, hE7⟩
  replace he : e = .returned (tbV (s0, s1, s2, s3) (.slice b7 n7 c7) x) := he
  subst he
  have hB7 : Below W6.heap.size W6 w7 := ((Below.refl _ _).drew).trans hg7
  have g7 : W6.grownBy w7 (some O) := grownBy_of_below hB7 _
  have HBeh := Lib.hid (behind_any (s0, s1, s2, s3) b7 n7 c7 x ((es.set j (key, (es.getD j zeroE).2.set fn v)).eraseIdx j) key (some p) lp cpv ((es.getD j zeroE).2.set fn v) (fun n => n = gv) w7 hE7.at (few_erase (few_set HF.out j key fn v) j) HKw.out (HW6.out.grown g7 (fun m hm e => by have := Option.some.inj e; omega)))
  go_wp2_with fail
  refine hK.out _ _ (HK8.out _ g7) (fun hHeld => ?_)
  clear hK K
  try simp only [Act.put, List.setIfInBounds_toArray, List.set_cons_zero, List.set_cons_succ]
  refine wpAnyH_ready (rs := [4]) (by kernel_rfl) (by simp) ?_
  refine AllReadyH.cons rfl (fun K hK => ?_) AllReadyH.nil
  go_simp
  refine HBeh.out.mono ?_
  rintro e w8 ⟨b8, n8, c8, he, hg8, hE8⟩
  replace he : e = .returned (tbV (s0, s1, s2, s3) (.slice b8 n8 c8) x) := he
  subst he
  have hB8 : Below W6.heap.size W6 w8 := hB7.trans (hg8.mono hB7.size)
  have g8 : W6.grownBy w8 (some O) := grownBy_of_below hB8 _
  have HO8 := Lib.hid (HO6.out.later hB8)
  have HR8 := Lib.hid (HR6.out.later hB8)
  have HE8 := Lib.hid hE8
  have hb8 := hb6.trans (hB8.mono hb6.size)
  have hs7 := hB7.size
  have g9 : W6.grownBy (w8.setRow O (tbA (s0, s1, s2, s3) (.slice b8 n8 c8) x)) (some O) := grownBy_trans g8 (grownBy_setRow _ _ _)
  go_wp2_with fail
  refine hK.out _ _ (HK8.out _ g8) (fun hHeld => ?_)
  clear hK K
  try simp only [Act.put, List.setIfInBounds_toArray, List.set_cons_zero, List.set_cons_succ]
  refine wpAnyH_ready (rs := [5]) (by kernel_rfl) (by simp) ?_
  refine AllReadyH.cons rfl (fun K hK => ?_) AllReadyH.nil
  refine step_row w8 (by rfl) 44 _ _ (by rfl) (by rfl) O (tbA (s0, s1, s2, s3) (.slice b8 n8 c8) x) (by rfl) (by rfl) 44 _ HO8.out (by kernel_rfl) rfl (by simp [Value.oneCell']) ?_
  refine hK.out _ _ (HK8.out _ g9) (fun hHeld => ?_)
  clear hK K
  try simp only [Act.put, List.setIfInBounds_toArray, List.set_cons_zero, List.set_cons_succ]
  refine wpAnyH_done (by kernel_rfl) ?_ _
  obtain ⟨W9, hW9⟩ : ∃ W9, w8.setRow O (tbA (s0, s1, s2, s3) (.slice b8 n8 c8) x) = W9 := ⟨_, rfl⟩
  have HO9 : Hid (Box W9 O 44 (tbA (s0, s1, s2, s3) (.slice b8 n8 c8) x)) := by rw [← hW9]; exact Lib.hid (setRow_heap _ _ _ _ _ _ HO8.out)
  have hgr8 : w8.grownBy W9 (some O) := by rw [← hW9]; exact grownBy_setRow _ _ _
  have HRx := Lib.hid (HR8.out.grown hgr8 (by simp; omega))
  have HE9 := Lib.hid (HE8.out.grown hgr8 (fun m hm e => by have := Option.some.inj e; omega))
  have hbx : Below w.heap.size w W9 := by rw [← hW9]; exact below_setRow hb8 (by omega) _
  have HZ : Hid (((fn : Int)).toNat = fn) := Lib.hid (Int.toNat_natCast fn)
  have HG2 : Hid (setT ((s0, s1, s2, s3), es, x) key (fn : Int) v = (behindT (withoutT ((s0, s1, s2, s3), es.set j (key, (es.getD j zeroE).2.set fn v), x) j) (key, (es.getD j zeroE).2.set fn v), 0)) := Lib.hid (by
    rw [HG.out, HZ.out]
    simp only [withoutT, List.eraseIdx_set_eq])
  clear hHeld q0 q1 q2 q3 q4 q5 b0 b1 hg7 hE7 hg8 hE8 g6 g7 g8 g9 HBeh
  obtain ⟨q0, q1, q2, q3, q4, q5⟩ := Box.tb (s := (s0, s1, s2, s3)) HO9.out
  simp only at q0 q1 q2 q3 q4 q5
  rw [hW9]
  go_wp2_with (refine wpList_store_row rfl 44 _ _ rfl (w.heap.size + 1) _ rfl rfl 44 _ HRx.out (by kernel_rfl) rfl (by simp [Value.oneCell']) ?_)
  refine bodyPost_ret (v := .tuple #[tbV (s0, s1, s2, s3) (.slice b8 n8 c8) x, .int .i64 0]) ?_ rfl ?_
  · exact results_tb_two Try.results23 _ _ (w.heap.size + 1) 44 _ _ rfl rfl rfl (setRow_heap _ _ _ _ _ _ HRx.out)
  · have hgr := grownBy_setRow W9 (w.heap.size + 1) (tbA (s0, s1, s2, s3) (.slice b8 n8 c8) x)
    rw [← HRR.out, HG2.out]
    exact ⟨_, _, _, rfl, below_setRow hbx (by omega) _, (HE9.out.grown hgr (fun m hm e => by have := Option.some.inj e; omega)).mono (fun m hm => by omega)⟩
end Go.Proofs.Ytmlmdhnjafakiaa
