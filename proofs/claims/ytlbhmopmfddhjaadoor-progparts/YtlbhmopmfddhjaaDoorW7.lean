/-
  The walk of law ProgParts: it returns true for every program and function.
-/
import Derived.Test.YtlbhmopmfddhjaaDoorV7
import Derived.Deep.RegionHeld3
import Derived.BigQuiet
namespace Go.Proofs.YtlbhmopmfddhjaaDoor
open Go.RowKit

theorem parts_keep {W9 W W' : World} {A B C D : Addr} {u v x y : Value} (h : W.cell? A = some u ∧ W.cell? B = some v ∧ W.cell? C = some x ∧ W.cell? D = some y ∧ Below W9.heap.size W9 W) (hb : Below W.heap.size W W') :
    W'.cell? A = some u ∧ W'.cell? B = some v ∧ W'.cell? C = some x ∧ W'.cell? D = some y ∧ Below W9.heap.size W9 W' :=
  ⟨(hb.cell (lt_of_cell h.1)).trans h.1, (hb.cell (lt_of_cell h.2.1)).trans h.2.1, (hb.cell (lt_of_cell h.2.2.1)).trans h.2.2.1, (hb.cell (lt_of_cell h.2.2.2.1)).trans h.2.2.2.1, h.2.2.2.2.trans (hb.mono h.2.2.2.2.size)⟩
set_option maxRecDepth 100000 in
set_option maxHeartbeats 20000000 in
theorem parts_walk (a : Option Addr) (len cap : Nat) (fs : List Fun) (g : Int) (b : Option Addr) (l cc : Nat) (c : List I) (w : World) (hR : RowsIn w) (h : FnsAt w a len cap fs) (hC : CodeAt w b l cc c) :
    Calls Tryd.prog 7 #[.agg #[.slice a len cap], .agg #[.int .i64 g, .slice b l cc]] w fun e w' => e = .returned (.bool true) ∧ Below w.heap.size w w' := by
  obtain ⟨i28, hi28, hy0, hy1, hy2⟩ := info_parts info28
  have HS := Lib.hid (St2.start (a := a) (len := len) (cap := cap) (g := g) (b := b) (l := l) (cc := cc) hR)
  have HF := Lib.hid h
  have HC := Lib.hid hC
  have H1 := Lib.hid h.1
  have hm : len ≤ 9223372036854775807 := by have := h.2.1; have := h.2.2.1; unfold maxLen at this; omega
  have hml : l ≤ 9223372036854775807 := by have := hC.2.1; have := hC.2.2.1; unfold maxLen at this; omega
  clear h hC
  go_enter Tryd.func7, Tryd.ntmps7
  go_wp2_with fail
  refine (awake_any _ HS.out.rows).mono ?_
  rintro e w1 ⟨rfl, hg⟩
  replace HS := Lib.hid (HS.out.later hg)
  have c0 := HS.out.c0
  clear hg
  go_wp2_with fail
  refine (few_any a len cap fs _ (HF.out.below HS.out.1)).mono ?_
  rintro e w2 ⟨rfl, hg⟩
  replace HS := Lib.hid (HS.out.later hg)
  clear hg c0
  rcases hfew : fewP fs with _ | _
  · go_wp2
    go_ret
    exact ⟨rfl, HS.out.1⟩
  have HFew := Lib.hid hfew
  have h12 : len ≤ 12 := by
    simp only [fewP, Bool.and_eq_true, decide_eq_true_eq] at hfew
    rw [← H1.out]
    exact hfew.1
  clear hfew
  have c0 := HS.out.c0
  have c1 := HS.out.c1
  have c2 := HS.out.c2
  by_cases h80 : 80 < l
  · have h80I : (80 : Int) < (l : Int) := by omega
    go_wp2
    go_ret
    exact ⟨rfl, HS.out.1⟩
  have h80I : ¬ (80 : Int) < (l : Int) := by omega
  have hw2 : w.heap.size + 1 < w2.heap.size := HS.out.2.2.2.lt
  go_wp2_with fail
  refine (own_any a len cap fs _ (HF.out.below HS.out.1) HFew.out).mono ?_
  rintro e w3 ⟨v, xs, rfl, hg, hO3, hOw3⟩
  obtain ⟨bv, cpv, hv, _⟩ := own_fns hO3 hOw3
  rw [H1.out] at hO3 hv
  subst hv
  have hb4 : Below w3.heap.size w3 (w3.alloc (.cells #[.slice bv len cpv] 24)) := (Below.refl _ _).alloc (Nat.le_refl _) _
  replace HS := Lib.hid ((HS.out.later hg).later hb4)
  have HQ := Lib.hid (Box.new w3 24 #[.slice bv len cpv])
  have HO4 := Lib.hid (ownsRow_below hO3 hb4)
  have HOw4 := Lib.hid (hOw3.below hb4)
  have hsz := hg.size
  have hs4 : w3.heap.size < (w3.alloc (.cells #[.slice bv len cpv] 24)).heap.size := by simp
  clear hg c0 c1 c2 hb4 hO3 hOw3
  have c0 := HS.out.c0
  have c1 := HS.out.c1
  have c2 := HS.out.c2
  have hF1 : w.heap.size + 1 < w3.heap.size := by omega
  go_wp2_with (at_builtin; refine wpList_append_lies _ rfl _ _ _ rfl (w2.heap.size + 1) 28 i28 _ 2 32 Tryd.underlying22 hi28 hy0 hy1 hy2 rfl (by omega) (.slice bv len cpv) len xs rfl (HO4.out.alloc _) ⟨w3.heap.size + 1, 0, none⟩ 1 1 [.int .i64 g, .slice b l cc] rfl rfl (World.news_of_block (cs := #[.int .i64 g, .slice b l cc]) (t := 28) (fr := (0, 0)) (by have := Box.new (w3.alloc (.cells #[.slice bv len cpv] 24)) 28 #[.int .i64 g, .slice b l cc]; rwa [show (w3.alloc (.cells #[.slice bv len cpv] 24)).heap.size = w3.heap.size + 1 by simp] at this)) (by simp [Value.oneCell']) (by omega) (by unfold maxLen; omega) (by omega) (by simp; omega) (w3.heap.size + 1 + 1) (by simp) ?_)
  intro g6 cp6 w6 hown6 hgrow6 hat6 hlt6
  have hb45 : Below (w3.alloc (.cells #[.slice bv len cpv] 24)).heap.size (w3.alloc (.cells #[.slice bv len cpv] 24)) ((w3.alloc (.cells #[.slice bv len cpv] 24)).alloc (.cells #[.int .i64 g, .slice b l cc] 28)) := (Below.refl _ _).alloc (Nat.le_refl _) _
  have hvB : ∀ k, (Value.slice bv len cpv).ownBlock = some k → w2.heap.size + 1 ≤ k := fun k hk => (HO4.out.lt k hk).1
  have hSt6 : St2 w w6 a len cap g b l cc := (HS.out.later hb45).grown hgrow6 (fun k hk => by have := hvB k hk; omega)
  have hvQ : some w3.heap.size ≠ (Value.slice bv len cpv).ownBlock := by
    intro e
    rcases HO4.out.2 with ⟨h, _⟩ | ⟨gg, cap', cur, hv, _, hh, _⟩
    · rw [h] at e
      cases e
    · rw [hv] at e
      have e' : w3.heap.size = gg := Option.some.inj e
      subst e'
      have := hh.symm.trans HQ.out
      simp at this
  have hQ6 := (HQ.out.below hb45 hs4).grown hgrow6 hvQ
  have hFq := parts_at H1.out HC.out hSt6.1 HOw4.out hb45 HQ.out HO4.out hown6 hgrow6 (by
    rcases hat6 with h | h
    · exact .inl h
    · exact .inr (by rw [h]; simp))
  have q6 : w6.cell? ⟨w3.heap.size, 0, none⟩ = some (.slice bv len cpv) := hQ6.cell rfl
  have fq6 : w6.frozen? ⟨w3.heap.size, 0, none⟩ = false := hQ6.free 0
  have HS7 : Hid (St2 w (w6.setCell ⟨w3.heap.size, 0, none⟩ (.slice (some ⟨g6, 0, none⟩) (len + 1) cp6)) a len cap g b l cc) := Lib.hid (hSt6.grown (grownBy_setCell w6 ⟨w3.heap.size, 0, none⟩ _) (fun k hk => by have := Option.some.inj hk; simp at this; omega))
  have HQ7 : Hid (Box (w6.setCell ⟨w3.heap.size, 0, none⟩ (.slice (some ⟨g6, 0, none⟩) (len + 1) cp6)) w3.heap.size 24 #[.slice (some ⟨g6, 0, none⟩) (len + 1) cp6]) := Lib.hid (hQ6.set 0 _)
  have HFq := Lib.hid hFq
  clear hb45 hvB hSt6 hvQ hQ6 hFq hown6 hgrow6 hat6 hlt6 HS HQ HO4 HOw4 hs4 c0 c1 c2
  have c0 := HS7.out.c0
  have hfl : (fs ++ [(g, c)]).length = len + 1 := by simp [H1.out]
  have HFl := Lib.hid hfl
  have HOk := Lib.hid (fns_ok HF.out)
  have HOkq := Lib.hid (fns_ok HFq.out)
  have HG : Hid (mayP (fs ++ [(g, c)]) = true → fs ≠ [] → mayP fs = true) := Lib.hid mayP_snoc
  have HBy := Lib.hid (parts_bytes fs (g, c))
  have hlong := parts_longer fs (g, c)
  have HNe : Hid (fs ≠ fs ++ [(g, c)]) := Lib.hid (fun e => by
    have := congrArg List.length e
    simp at this)
  have HG2 : Hid ((encP fs).getD 2 0 = (len : Int) ∧ (encP (fs ++ [(g, c)])).getD 2 0 = (len : Int) + 1) := Lib.hid ⟨by simp [encP, H1.out], by simp [encP, H1.out]⟩
  clear hfl
  rcases hM : mayP fs with _ | _
  · have HM := Lib.hid hM
    clear hM
    go_wp2_with fail
    generalize (w6.setCell ⟨w3.heap.size, 0, none⟩ (.slice (some ⟨g6, 0, none⟩) (len + 1) cp6)) = w7 at *
    generalize w3.heap.size = qb at *
    refine (prPut_no a len cap fs _ HS7.out.rows (HF.out.below HS7.out.1) HM.out).mono ?_
    rintro e w8 ⟨rfl, hg⟩
    replace HS7 := Lib.hid (HS7.out.later hg)
    replace HQ7 := Lib.hid (HQ7.out.below hg HQ7.out.lt)
    replace HFq := Lib.hid (HFq.out.below hg)
    clear hg c0 q6 fq6
    have q0 : w8.cell? ⟨qb, 0, none⟩ = some (.slice (some ⟨g6, 0, none⟩) (len + 1) cp6) := HQ7.out.cell rfl
    rcases hMq : mayP (fs ++ [(g, c)]) with _ | _
    · have HMq := Lib.hid hMq
      clear hMq
      go_wp2_with fail
      refine (prPut_no _ (len + 1) cp6 _ _ HS7.out.rows HFq.out HMq.out).mono ?_
      rintro e w9 ⟨rfl, hg⟩
      replace HS7 := Lib.hid (HS7.out.later hg)
      have c0 := HS7.out.c0
      clear hg q0
      rcases hl0 : ((len : Int) == 0) with _ | _
      · go_wp2
        go_ret
        exact ⟨rfl, HS7.out.1⟩
      · go_wp2
        go_ret
        exact ⟨rfl, HS7.out.1⟩
    · have hl0 : len = 0 := by
        rcases Nat.eq_zero_or_pos len with h0 | h0
        · exact h0
        · have := HG.out hMq (fun e => by rw [e] at H1; have := H1.out; simp at this; omega)
          rw [HM.out] at this
          cases this
      have hl0I : ((len : Int) == 0) = true := by simp [hl0]
      have HMq := Lib.hid hMq
      clear hMq hl0
      go_wp2_with fail
      refine (prPut_yes _ (len + 1) cp6 _ _ HS7.out.rows HFq.out HMq.out).mono ?_
      rintro e w9 ⟨gb, cb, rfl, hg, hgb, hc1, hc2, hB⟩
      replace HS7 := Lib.hid (HS7.out.later hg)
      have c0 := HS7.out.c0
      clear hg q0 hgb hc1 hc2 hB
      go_wp2
      go_ret
      exact ⟨rfl, HS7.out.1⟩
  · have HM := Lib.hid hM
    clear hM
    go_wp2_with fail
    generalize (w6.setCell ⟨w3.heap.size, 0, none⟩ (.slice (some ⟨g6, 0, none⟩) (len + 1) cp6)) = w7 at *
    generalize w3.heap.size = qb at *
    refine (prPut_yes a len cap fs _ HS7.out.rows (HF.out.below HS7.out.1) HM.out).mono ?_
    rintro e w8 ⟨ga, ca, rfl, hg, hga, ha1, ha2, hBa⟩
    have HA := Lib.hid (put_slice HOk.out HM.out ha1 ha2 hBa)
    replace HS7 := Lib.hid (HS7.out.later hg)
    replace HQ7 := Lib.hid (HQ7.out.below hg HQ7.out.lt)
    replace HFq := Lib.hid (HFq.out.below hg)
    clear hg c0 q6 fq6 hga ha2 hBa
    have q0 : w8.cell? ⟨qb, 0, none⟩ = some (.slice (some ⟨g6, 0, none⟩) (len + 1) cp6) := HQ7.out.cell rfl
    rcases hMq : mayP (fs ++ [(g, c)]) with _ | _
    · have HMq := Lib.hid hMq
      clear hMq
      go_wp2_with fail
      refine (prPut_no _ (len + 1) cp6 _ _ HS7.out.rows HFq.out HMq.out).mono ?_
      rintro e w9 ⟨rfl, hg⟩
      replace HS7 := Lib.hid (HS7.out.later hg)
      clear hg q0
      go_wp2
      go_ret
      exact ⟨rfl, HS7.out.1⟩
    · have HMq := Lib.hid hMq
      have hq8 : len + 1 ≤ 8 := by
        have := (mayP_len hMq).2
        rw [HFl.out] at this
        exact this
      clear hMq
      go_wp2_with fail
      refine (prPut_yes _ (len + 1) cp6 _ _ HS7.out.rows HFq.out HMq.out).mono ?_
      rintro e w9 ⟨gb, cb, rfl, hg, hgb, hb1, hb2, hBb⟩
      have HB := Lib.hid (put_slice HOkq.out HMq.out hb1 hb2 hBb)
      replace HA := Lib.hid (HA.out.below hg)
      replace HS7 := Lib.hid (HS7.out.later hg)
      replace HQ7 := Lib.hid (HQ7.out.below hg HQ7.out.lt)
      replace HFq := Lib.hid (HFq.out.below hg)
      have hL3 : 3 ≤ (encP fs).length := by simp [encP]
      have hL5 : (encP (fs ++ [(g, c)])).length ≤ 4115 := by
        have := headB_len HMq.out (fs ++ [(g, c)]).length (Nat.le_refl _)
        rwa [headB_end rfl] at this
      clear hg q0 hgb hb2 hBb
      generalize hLa : (encP fs).length = La at *
      generalize hLb : (encP (fs ++ [(g, c)])).length = Lb at *
      have HLa := Lib.hid hLa
      have HLb := Lib.hid hLb
      clear hLa hLb
      have hL3I : ¬ (La : Int) < 3 := by omega
      go_wp2_with fail
      have hBa : BytesAt w9 ⟨ga, 0, none⟩ (encP fs) := by
        rcases HA.out.2.2.2.2 with h0 | ⟨x, hx, hB⟩
        · omega
        · cases hx
          exact hB
      have hBb : BytesAt w9 ⟨gb, 0, none⟩ (encP (fs ++ [(g, c)])) := by
        rcases HB.out.2.2.2.2 with h0 | ⟨x, hx, hB⟩
        · omega
        · cases hx
          exact hB
      have a2 : w9.cell? ⟨ga, 2, none⟩ = some (.int .u8 len) := by
        have := hBa 2 (by rw [HLa.out]; omega)
        rwa [addr_add, HG2.out.1] at this
      have b2 : w9.cell? ⟨gb, 2, none⟩ = some (.int .u8 ((len : Int) + 1)) := by
        have := hBb 2 (by rw [HLb.out]; omega)
        rwa [addr_add, HG2.out.2] at this
      have q0 : w9.cell? ⟨qb, 0, none⟩ = some (.slice (some ⟨g6, 0, none⟩) (len + 1) cp6) := HQ7.out.cell rfl
      have c0 := HS7.out.c0
      have HSa : Hid (w9.drew.cell? ⟨qb, 0, none⟩ = some (.slice (some ⟨g6, 0, none⟩) (len + 1) cp6) ∧ w9.drew.cell? ⟨w.heap.size, 0, none⟩ = some (.slice a len cap) ∧ w9.drew.cell? ⟨ga, 2, none⟩ = some (.int .u8 len) ∧ w9.drew.cell? ⟨gb, 2, none⟩ = some (.int .u8 ((len : Int) + 1)) ∧ Below w9.heap.size w9 w9.drew) := Lib.hid ⟨q0, c0, a2, b2, (Below.refl _ _).drew⟩
      have hcut := run_cutI (some ⟨ga, 0, none⟩) La ca 3 3 rfl hL3
      have hmid := run_mid3 ⟨gb, 0, none⟩ Lb cb 3 La 3 La rfl rfl (by omega) (by omega) (by omega)
      have hbD : Below w9.heap.size w9 w9.drew := (Below.refl _ _).drew
      have HSa1 : Hid (SliceB w9.drew (cutB (some ⟨ga, 0, none⟩) ca 3) (La - 3) (ca - 3) ((encP fs).drop 3)) := Lib.hid ((HA.out.cut hL3).below hbD)
      have HSb1 : Hid (SliceB w9.drew (some ((⟨gb, 0, none⟩ : Addr).add 3)) (La - 3) (cb - 3) ((encP fs).drop 3)) := Lib.hid (by
        have := (HB.out.mid (q := 3) (j := La) (by omega) (by omega)).below hbD
        rwa [HBy.out] at this)
      have u1 : decide (len + 1 ≤ 8) = true := by simpa using hq8
      have u2 : decide ((len : Int) + 1 ≤ 8) = true := by simp; omega
      have u3 : decide (La < Lb) = true := by simp; omega
      have u4 := wI ((len : Int) + 1) (by omega) (by omega)
      have u5 := wI (len : Int) (by omega) (by omega)
      have u6 : decide (fs = fs ++ [(g, c)]) = false := decide_eq_false HNe.out
      have l2a : (2 : Int) < (La : Int) := by omega
      have l2b : (2 : Int) < (Lb : Int) := by omega
      have l3a : (3 : Int) ≤ (La : Int) := by omega
      generalize cutB (some ⟨ga, 0, none⟩) ca 3 = aa at *
      clear hBa hBb hbD
      go_region_held3 (fun w' => w'.cell? ⟨qb, 0, none⟩ = some (.slice (some ⟨g6, 0, none⟩) (len + 1) cp6) ∧ w'.cell? ⟨w.heap.size, 0, none⟩ = some (.slice a len cap) ∧ w'.cell? ⟨ga, 2, none⟩ = some (.int .u8 len) ∧ w'.cell? ⟨gb, 2, none⟩ = some (.int .u8 ((len : Int) + 1)) ∧ Below w9.heap.size w9 w')
        (first
          | exact HSa.out
          | exact hS10
          | exact hS11)
        (first
          | (go_at_call 14; refine (bytesB_any aa (some ((⟨gb, 0, none⟩ : Addr).add 3)) (La - 3) (ca - 3) (La - 3) (cb - 3) _ _ _ (by exact HSa1.out) (by exact HSb1.out)).mono ?_; rintro e w10 ⟨rfl, hg10⟩; have hS10 := parts_keep HSa.out hg10)
          | (go_at_call 22; refine (prSame_any a (some ⟨g6, 0, none⟩) len cap (len + 1) cp6 fs (fs ++ [(g, c)]) _ (by exact HF.out.below (HS7.out.1.trans (hS10.2.2.2.2.mono HS7.out.1.size))) (by exact HFq.out.below hS10.2.2.2.2)).mono ?_; rintro e w11 ⟨rfl, hg11⟩; have hS11 := parts_keep hS10 hg11))
      have hbe := HS7.out.1.trans (hS11.2.2.2.2.mono HS7.out.1.size)
      clear hS10 hS11 hg10 hg11 hcut hmid a2 b2 q0 c0
      go_wp2
      go_ret
      exact ⟨rfl, hbe⟩
end Go.Proofs.YtlbhmopmfddhjaaDoor
