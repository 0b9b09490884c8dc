/-
  What the package's Get returns, as a contract over the translated program.
-/
import Derived.Test.YtmlmdhnjafakiaaV1
namespace Go.Proofs.Ytmlmdhnjafakiaa
open Go Go.RowKit
set_option linter.unusedVariables false

theorem EntsAt.word {w : World} {g len c : Nat} {es : List Ent} (h : EntsAt w (some ⟨g, 0, none⟩) len c es) {j f : Nat} (hj : j < len) (hf : f < (es.getD j zeroE).2.length) :
    ∃ key z l cc, w.cell? ⟨g, j * 2, none⟩ = some (.int .u32 key) ∧ w.cell? ⟨g, j * 2 + 1, none⟩ = some (.slice (some z) l cc) ∧ l = (es.getD j zeroE).2.length ∧ w.cell? (z.add f) = some (.int .u32 ((es.getD j zeroE).2.getD f 0)) := by
  obtain ⟨y, e, hy⟩ := h.2.2.2.resolve_left (by omega)
  obtain rfl := Option.some.inj e
  obtain ⟨c0, _, b, l, cc, c1, hw⟩ := hy j hj
  have ea : (⟨g, 0, none⟩ : Addr).add (j * 2) = ⟨g, j * 2, none⟩ := addr_add g (j * 2)
  rw [ea] at c0 c1
  obtain ⟨z, rfl, hz⟩ := hw.2.2.2.2.resolve_left (by have := hw.1; omega)
  exact ⟨_, z, l, cc, c0, c1, hw.1.symm, hz f (by have := hw.1; omega)⟩
theorem valid_words {t : Tb} (h : mayTb t = true) {j : Nat} (hj : j < t.2.1.length) : ((t.2.1.getD j zeroE).2.length : Int) = t.1.2.2.1 := (entB_iff.1 (mayTb_ent h hj)).1
theorem valid_schema {t : Tb} (h : mayTb t = true) : mayT t.1 = true := (headB_iff.1 (mayTb_head h)).1
theorem ret_len {b : Option Addr} {n m c : Nat} (h : n = m) : Value.slice b n c = Value.slice b m c := by rw [h]
set_option maxRecDepth 100000 in
set_option maxHeartbeats 1000000 in
theorem tget_any (s : Sc) (a : Option Addr) (len cap : Nat) (x : Int) (es : List Ent) (key f : Int) (w : World) (h : EntsAt w a len cap es) (hf : fewE es) (hx : isW x) (hfw : isW f) :
    Calls Try.prog 55 #[tbV s (.slice a len cap) x, .int .u32 key, .int .u32 f] w (Own3 (getT (s, es, x) key f).1 (.int .u32 (getT (s, es, x) key f).2.1) (.bool (getT (s, es, x) key f).2.2) w) := by
  rcases s with ⟨s0, s1, s2, s3⟩
  have HF := Lib.hid hf
  have HEn := Lib.hid h
  have hlm := h.max
  have H1 := Lib.hid h.1
  obtain ⟨W0, hW0⟩ : ∃ W0, (w.alloc (.cells #[.int .i64 s0, .int .i64 s1, .int .i64 s2, .int .i64 s3, .slice a len cap, .int .u32 x] 44)).alloc (.cells zeroTA 44) = W0 := ⟨_, rfl⟩
  have hs0 : W0.heap.size = w.heap.size + 2 := by rw [← hW0]; simp
  have hb0 : Below w.heap.size w W0 := by rw [← hW0]; exact box2 (Below.refl _ _) (Nat.le_refl _) _ _
  have HT : Hid (Box W0 w.heap.size 44 #[.int .i64 s0, .int .i64 s1, .int .i64 s2, .int .i64 s3, .slice a len cap, .int .u32 x]) := by rw [← hW0]; exact Lib.hid ((Box.new w 44 _).alloc _)
  have HR : Hid (Box W0 (w.heap.size + 1) 44 zeroTA) := by
    rw [← hW0]
    have := Box.new (w.alloc (.cells #[.int .i64 s0, .int .i64 s1, .int .i64 s2, .int .i64 s3, .slice a len cap, .int .u32 x] 44)) 44 zeroTA
    rw [show (w.alloc (.cells #[.int .i64 s0, .int .i64 s1, .int .i64 s2, .int .i64 s3, .slice a len cap, .int .u32 x] 44)).heap.size = w.heap.size + 1 by simp] at this
    exact Lib.hid this
  obtain ⟨d0, d1, d2, d3, d4, d5⟩ := Box.tb (s := (s0, s1, s2, s3)) HT.out
  simp only at d0 d1 d2 d3 d4 d5
  have HB0 := Lib.hid hb0
  clear h hf hb0
  have HX := Lib.hid hx
  obtain ⟨f, rfl⟩ := Int.eq_ofNat_of_zero_le hfw.1
  have hf0 := hfw.2
  clear hx hfw
  obtain ⟨RR, hRR⟩ : ∃ RR, getT ((s0, s1, s2, s3), es, x) key (f : Int) = RR := ⟨_, rfl⟩
  rw [hRR]
  have HRR := Lib.hid hRR
  clear hRR
  go_enter Try.func55, Try.ntmps55
  go_wp2_with fail
  refine (clone_any (s0, s1, s2, s3) a len cap x es W0 (HEn.out.below HB0.out) HF.out).mono ?_
  rintro e wc ⟨g, c, rfl, hbc, hrc⟩
  rw [H1.out] at hrc ⊢
  have HSt := Lib.hid (St.start (s := (s0, s1, s2, s3)) (x := x) (HB0.out.trans (hbc.mono HB0.out.size)) (HT.out.later hbc) (HR.out.later hbc) (hrc.low (base' := w.heap.size + 2) (by have := hbc.size; omega)))
  obtain ⟨U, hU⟩ : ∃ U, wc.heap.size = U := ⟨_, rfl⟩
  obtain ⟨W2, hW2⟩ : ∃ W2, wc.alloc (.cells #[.int .i64 s0, .int .i64 s1, .int .i64 s2, .int .i64 s3, .slice (some ⟨g, 0, none⟩) len c, .int .u32 x] 44) = W2 := ⟨_, rfl⟩
  rw [hU] at HSt
  rw [hW2] at HSt
  clear d0 d1 d2 d3 d4 d5 hbc hrc hW0 HT HR hs0
  obtain ⟨d0, d1, d2, d3, d4, d5⟩ := HSt.out.box0
  simp only at d0 d1 d2 d3 d4 d5
  obtain ⟨k0, k1, k2, k3, k4, k5⟩ := HSt.out.boxU
  simp only at k0 k1 k2 k3 k4 k5
  go_wp2_with fail
  clear hU hW2
  refine (tkeyed_any (s0, s1, s2, s3) a len cap x es W2 (HEn.out.below HSt.out.1) HX.out).mono ?_
  rintro e w3 ⟨rfl, hb3⟩
  replace HSt := Lib.hid (HSt.out.later hb3)
  clear hb3
  clear d0 d1 d2 d3 d4 d5 k0 k1 k2 k3 k4 k5
  obtain ⟨d0, d1, d2, d3, d4, d5⟩ := HSt.out.box0
  simp only at d0 d1 d2 d3 d4 d5
  obtain ⟨k0, k1, k2, k3, k4, k5⟩ := HSt.out.boxU
  simp only at k0 k1 k2 k3 k4 k5
  rcases hM : mayTb ((s0, s1, s2, s3), es, x) with _ | _
  · have HN : Hid (keyedB ((s0, s1, s2, s3), es, x) (f : Int) = false ∨ atE es key = none) := Lib.hid (.inl (by simp [keyedB, hM]))
    simp only [Bool.false_and]
    clear hM
    have HRx := Lib.hid HSt.out.2.2.1
    go_wp2_with (refine wpList_store_row rfl 44 _ _ rfl (w.heap.size + 1) _ rfl rfl 44 _ HRx.out (by kernel_rfl) rfl (by simp [Value.oneCell']) ?_)
    refine bodyPost_ret (v := .tuple #[tbV (s0, s1, s2, s3) (.slice (some ⟨g, 0, none⟩) len c) x, .int .u32 0, .bool false]) ?_ rfl ?_
    · exact results_tb_three Try.results55 _ _ (w.heap.size + 1) 44 _ _ _ rfl rfl rfl rfl (setRow_heap _ _ _ _ _ _ HRx.out)
    · rw [← HRR.out, get_no HN.out]
      exact HSt.out.fin3 _ _
  by_cases h3 : s0 = 3
  · have HN : Hid (keyedB ((s0, s1, s2, s3), es, x) (f : Int) = false ∨ atE es key = none) := Lib.hid (.inl (by simp [keyedB, h3]))
    have hd : (true && decide (s0 ≠ 3)) = false := by simp [h3]
    rw [hd]
    clear hM h3 hd
    have HRx := Lib.hid HSt.out.2.2.1
    go_wp2_with (refine wpList_store_row rfl 44 _ _ rfl (w.heap.size + 1) _ rfl rfl 44 _ HRx.out (by kernel_rfl) rfl (by simp [Value.oneCell']) ?_)
    refine bodyPost_ret (v := .tuple #[tbV (s0, s1, s2, s3) (.slice (some ⟨g, 0, none⟩) len c) x, .int .u32 0, .bool false]) ?_ rfl ?_
    · exact results_tb_three Try.results55 _ _ (w.heap.size + 1) 44 _ _ _ rfl rfl rfl rfl (setRow_heap _ _ _ _ _ _ HRx.out)
    · rw [← HRR.out, get_no HN.out]
      exact HSt.out.fin3 _ _
  have hd : (true && decide (s0 ≠ 3)) = true := by simp [h3]
  rw [hd]
  have HM := Lib.hid hM
  have H3 := Lib.hid h3
  have hsc := valid_schema hM
  simp only [mayT] at hsc
  rw [mayS_iff] at hsc
  obtain ⟨hk0, hk3, _, hc16, hn1, hn4, _⟩ := hsc
  clear hM h3 hd
  go_wp2_with fail
  refine (hasField_any s0 s1 s2 s3 (f : Int) w3 ⟨by omega, hn4⟩).mono ?_
  rintro e w4 ⟨rfl, hb4⟩
  replace HSt := Lib.hid (HSt.out.later hb4)
  clear hb4
  clear d0 d1 d2 d3 d4 d5 k0 k1 k2 k3 k4 k5
  obtain ⟨d0, d1, d2, d3, d4, d5⟩ := HSt.out.box0
  simp only at d0 d1 d2 d3 d4 d5
  obtain ⟨k0, k1, k2, k3, k4, k5⟩ := HSt.out.boxU
  simp only at k0 k1 k2 k3 k4 k5
  by_cases hfs : ¬ (f : Int) < s2
  · have HN : Hid (keyedB ((s0, s1, s2, s3), es, x) (f : Int) = false ∨ atE es key = none) := Lib.hid (.inl (by simp [keyedB]; intro _ _; omega))
    have hd : decide ((f : Int) < s2) = false := decide_eq_false hfs
    rw [hd]
    clear hd hfs
    have HRx := Lib.hid HSt.out.2.2.1
    go_wp2_with (refine wpList_store_row rfl 44 _ _ rfl (w.heap.size + 1) _ rfl rfl 44 _ HRx.out (by kernel_rfl) rfl (by simp [Value.oneCell']) ?_)
    refine bodyPost_ret (v := .tuple #[tbV (s0, s1, s2, s3) (.slice (some ⟨g, 0, none⟩) len c) x, .int .u32 0, .bool false]) ?_ rfl ?_
    · exact results_tb_three Try.results55 _ _ (w.heap.size + 1) 44 _ _ _ rfl rfl rfl rfl (setRow_heap _ _ _ _ _ _ HRx.out)
    · rw [← HRR.out, get_no HN.out]
      exact HSt.out.fin3 _ _
  replace hfs := Decidable.not_not.1 hfs
  have hd : decide ((f : Int) < s2) = true := decide_eq_true hfs
  rw [hd]
  have HK : Hid (keyedB ((s0, s1, s2, s3), es, x) (f : Int) = true) := Lib.hid (keyed_iff.2 ⟨HM.out, H3.out, hfs⟩)
  clear hd
  have HEU : Hid (EntsAt w4 (some ⟨g, 0, none⟩) len c es) := Lib.hid (by
    obtain ⟨b, c', e, h⟩ := HSt.out.2.2.2.2.1.at
    simp only [Value.slice.injEq] at e
    obtain ⟨rfl, e2, rfl⟩ := e
    rw [e2]
    exact h)
  go_wp2_with fail
  refine (find_any (some ⟨g, 0, none⟩) len c key es w4 HEU.out).mono ?_
  rintro e w5 ⟨rfl, rfl⟩
  rcases hA : atE es key with _ | j
  · rw [findI_none hA, H1.out]
    have HN : Hid (keyedB ((s0, s1, s2, s3), es, x) (f : Int) = false ∨ atE es key = none) := Lib.hid (.inr hA)
    clear hA
    have HRx := Lib.hid HSt.out.2.2.1
    go_wp2_with (refine wpList_store_row rfl 44 _ _ rfl (w.heap.size + 1) _ rfl rfl 44 _ HRx.out (by kernel_rfl) rfl (by simp [Value.oneCell']) ?_)
    refine bodyPost_ret (v := .tuple #[tbV (s0, s1, s2, s3) (.slice (some ⟨g, 0, none⟩) len c) x, .int .u32 0, .bool false]) ?_ rfl ?_
    · exact results_tb_three Try.results55 _ _ (w.heap.size + 1) 44 _ _ _ rfl rfl rfl rfl (setRow_heap _ _ _ _ _ _ HRx.out)
    · rw [← HRR.out, get_no HN.out]
      exact HSt.out.fin3 _ _
  rw [findI_some hA]
  have hjl : j < len := by rw [← H1.out]; exact (atE_some hA).1
  have hj40 : len ≤ 40 := by rw [← H1.out]; exact HF.out.1
  have HA := Lib.hid hA
  have HWl := Lib.hid (valid_words HM.out (j := j) (by show j < es.length; rw [H1.out]; exact hjl))
  obtain ⟨ky, z, l, cc, c0, c1, hl, c2⟩ := HEU.out.word (f := f) hjl (by have := HWl.out; simp only at this; omega)
  have hfl : (f : Int) < (l : Int) := by have := HWl.out; simp only at this; omega
  have hfl0 : f < l := by omega
  obtain ⟨vv, hvv⟩ : ∃ vv, (es.getD j zeroE).2.getD f 0 = vv := ⟨_, rfl⟩
  rw [hvv] at c2
  have HV := Lib.hid hvv
  clear hA hvv hl
  have hqj : ((j : Int) == (len : Int)) = false := by simp; omega
  have hjI : (j : Int) < (len : Int) := by omega
  obtain ⟨n1, rfl⟩ : ∃ n1, len = n1 + 1 := ⟨len - 1, by omega⟩
  obtain ⟨m, hm⟩ : ∃ m, j + m = n1 := ⟨n1 - j, by omega⟩
  have Hm := Lib.hid hm
  clear hm
  by_cases h2 : s0 = 2
  · have HG := Lib.hid (get_lru (t := ((s0, s1, s2, s3), es, x)) HK.out HA.out h2)
    have H2 := Lib.hid h2
    clear h2
    go_wp2_with fail
    refine (met_at (s0, s1, s2, s3) g n1 c j m (w.heap.size + 2) x es w5 HSt.out.2.2.2.2.1 H1.out Hm.out (by omega) H2.out).mono ?_
    rintro e w6 ⟨rfl, hg6, hr6⟩
    have HS6 := Lib.hid (HSt.out.turned hg6 rfl hr6)
    clear hg6 hr6 c0 c1 c2
    clear d0 d1 d2 d3 d4 d5 k0 k1 k2 k3 k4 k5
    obtain ⟨d0, d1, d2, d3, d4, d5⟩ := HS6.out.box0
    simp only at d0 d1 d2 d3 d4 d5
    obtain ⟨k0, k1, k2, k3, k4, k5⟩ := HS6.out.boxU
    simp only at k0 k1 k2 k3 k4 k5
    have HRx := Lib.hid HS6.out.2.2.1
    go_wp2_with (refine wpList_store_row rfl 44 _ _ rfl (w.heap.size + 1) _ rfl rfl 44 _ HRx.out (by kernel_rfl) rfl (by simp [Value.oneCell']) ?_)
    refine bodyPost_ret (v := .tuple #[tbV (s0, s1, s2, s3) (.slice (some ⟨g, 0, none⟩) (n1 + 1) c) x, .int .u32 vv, .bool true]) ?_ rfl ?_
    · exact results_tb_three Try.results55 _ _ (w.heap.size + 1) 44 _ _ _ rfl rfl rfl rfl (setRow_heap _ _ _ _ _ _ HRx.out)
    · rw [← HRR.out, HG.out, ← HV.out]
      exact HS6.out.fin3 _ _
  have HG := Lib.hid (get_yes (t := ((s0, s1, s2, s3), es, x)) HK.out HA.out h2)
  have H2 := Lib.hid h2
  clear h2
  go_wp2_with fail
  refine (met_no (s0, s1, s2, s3) (.slice (some ⟨g, 0, none⟩) (n1 + 1) c) x (j : Int) w5 H2.out).mono ?_
  rintro e w6 ⟨rfl, hb6⟩
  have HS6 := Lib.hid (HSt.out.later hb6)
  clear hb6 c0 c1 c2
  clear d0 d1 d2 d3 d4 d5 k0 k1 k2 k3 k4 k5
  obtain ⟨d0, d1, d2, d3, d4, d5⟩ := HS6.out.box0
  simp only at d0 d1 d2 d3 d4 d5
  obtain ⟨k0, k1, k2, k3, k4, k5⟩ := HS6.out.boxU
  simp only at k0 k1 k2 k3 k4 k5
  have HRx := Lib.hid HS6.out.2.2.1
  go_wp2_with (refine wpList_store_row rfl 44 _ _ rfl (w.heap.size + 1) _ rfl rfl 44 _ HRx.out (by kernel_rfl) rfl (by simp [Value.oneCell']) ?_)
  refine bodyPost_ret (v := .tuple #[tbV (s0, s1, s2, s3) (.slice (some ⟨g, 0, none⟩) (n1 + 1) c) x, .int .u32 vv, .bool true]) ?_ rfl ?_
  · exact results_tb_three Try.results55 _ _ (w.heap.size + 1) 44 _ _ _ rfl rfl rfl rfl (setRow_heap _ _ _ _ _ _ HRx.out)
  · rw [← HRR.out, HG.out, ← HV.out]
    exact HS6.out.fin3 _ _
end Go.Proofs.Ytmlmdhnjafakiaa
