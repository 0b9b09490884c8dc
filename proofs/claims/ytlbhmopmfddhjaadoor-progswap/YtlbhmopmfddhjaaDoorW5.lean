/-
  The walk of law ProgSwap: it returns true for every program, place and function.
-/
import Derived.Test.YtlbhmopmfddhjaaDoorV5
import Derived.Deep.RegionHeld3
import Derived.BigQuiet
namespace Go.Proofs.YtlbhmopmfddhjaaDoor
open Go.RowKit

set_option maxRecDepth 100000 in
set_option maxHeartbeats 20000000 in
theorem swap_walk (a : Option Addr) (len cap : Nat) (fs : List Fun) (i : Int) (g : Int) (b : Option Addr) (l cc : Nat) (c : List I) (w : World) (hR : RowsIn w) (h : FnsAt w a len cap fs) (hC : CodeAt w b l cc c) :
    Calls Tryd.prog 5 #[.agg #[.slice a len cap], .int .i64 i, .agg #[.int .i64 g, .slice b l cc]] w fun e w' => e = .returned (.bool true) ∧ Below w.heap.size w w' := by
  have HS := Lib.hid (St2.start (a := a) (len := len) (cap := cap) (g := g) (b := b) (l := l) (cc := cc) hR)
  have HF := Lib.hid h
  have HC := Lib.hid hC
  have H1 := Lib.hid h.1
  have hm : len ≤ 9223372036854775807 := by have := h.2.1; have := h.2.2.1; unfold maxLen at this; omega
  have hml : l ≤ 9223372036854775807 := by have := hC.2.1; have := hC.2.2.1; unfold maxLen at this; omega
  clear h hC
  go_enter Tryd.func5, Tryd.ntmps5
  go_wp2_with fail
  refine (awake_any _ HS.out.rows).mono ?_
  rintro e w1 ⟨rfl, hg⟩
  replace HS := Lib.hid (HS.out.later hg)
  have c0 := HS.out.c0
  clear hg
  go_wp2_with fail
  refine (few_any a len cap fs _ (HF.out.below HS.out.1)).mono ?_
  rintro e w2 ⟨rfl, hg⟩
  replace HS := Lib.hid (HS.out.later hg)
  clear hg c0
  rcases hfew : fewP fs with _ | _
  · go_wp2
    go_ret
    exact ⟨rfl, HS.out.1⟩
  clear hfew
  have c0 := HS.out.c0
  have c1 := HS.out.c1
  have c2 := HS.out.c2
  by_cases h80 : 80 < l
  · have h80I : (80 : Int) < (l : Int) := by omega
    go_wp2
    go_ret
    exact ⟨rfl, HS.out.1⟩
  have h80I : ¬ (80 : Int) < (l : Int) := by omega
  by_cases hE : swapE fs i g c = 0
  case neg =>
    have HE := Lib.hid hE
    clear hE
    go_wp2_with fail
    refine (swap_no a len cap fs i g b l cc c _ HS.out.rows (HF.out.below HS.out.1) (HC.out.below HS.out.1) _ rfl HE.out).mono ?_
    rintro e w3 ⟨rfl, hg⟩
    replace HS := Lib.hid (HS.out.later hg)
    have hb3 : Below w3.heap.size w3 (w3.alloc (.cells #[.slice none 0 0] 24)) := (Below.refl _ _).alloc (Nat.le_refl _) _
    have hbe := HS.out.1.trans (hb3.mono HS.out.1.size)
    have hne : (swapE fs i g c != 0) = true := by simpa using HE.out
    generalize swapE fs i g c = E at *
    clear hg c0 c1 c2 hb3 HE
    go_wp2
    go_ret
    exact ⟨rfl, hbe⟩
  obtain ⟨hM, hB, k, rfl, hk, d, hgk⟩ := swapE_zero hE
  rw [H1.out] at hk
  have HM := Lib.hid hM
  have HB := Lib.hid hB
  have HG := Lib.hid hgk
  obtain ⟨y, rfl, hy⟩ := HF.out.2.2.2.resolve_left (by omega)
  have HY := Lib.hid hy
  have hlen := mayP_len hM
  rw [H1.out] at hlen
  have hlen8 := hlen.2
  clear hE hM hB hgk hy hlen
  go_wp2_with fail
  refine (swap_yes (some y) len cap fs k g b l cc c d _ HS.out.rows (HF.out.below HS.out.1) (HC.out.below HS.out.1) HM.out HB.out hk HG.out).mono ?_
  rintro e w3 ⟨bq, cq, rfl, hg, hFq⟩
  have hb3 : Below w3.heap.size w3 (w3.alloc (.cells #[.slice bq len cq] 24)) := (Below.refl _ _).alloc (Nat.le_refl _) _
  replace HS := Lib.hid ((HS.out.later hg).later hb3)
  have HQ := Lib.hid (Box.new w3 24 #[.slice bq len cq])
  have HFq := Lib.hid (hFq.below hb3)
  clear hg c0 c1 c2 hb3 hFq
  have hI := FnHere.below (HY.out k hk) HS.out.1
  rw [HG.out] at hI
  obtain ⟨i0, bk, lk, ck, i1, hCk⟩ := hI
  simp only at i0 i1 hCk
  have HCk := Lib.hid hCk
  have c0 := HS.out.c0
  have c1 := HS.out.c1
  have c2 := HS.out.c2
  have cq0 := HQ.out.cell (i := 0) rfl
  have hkI : (k : Int) < (len : Int) := by omega
  have hkJ : (0 : Int) ≤ (k : Int) := by omega
  have g1 : decide ((k : Int) < 0) = false := by simp
  have g2 : decide (len ≤ k) = false := by simpa using hk
  clear hCk
  go_wp2_with fail
  generalize (w3.alloc (.cells #[.slice bq len cq] 24)) = w4 at *
  generalize w3.heap.size = qb at *
  go_quiet (fail)
  go_wp2_with fail
  have hS5 : St2 w (w4.drewN nq) (some y) len cap g b l cc := ⟨belowDrewN HS.out.1 nq, HS.out.2⟩
  have hb45 : Below w4.heap.size w4 (w4.drewN nq) := belowDrewN (Below.refl _ _) nq
  have HS5 := Lib.hid hS5
  have HQ5 := Lib.hid (HQ.out.below hb45 HQ.out.lt)
  have HFq5 := Lib.hid (HFq.out.below hb45)
  have HCk5 := Lib.hid (HCk.out.below hb45)
  replace i0 := (hb45.cell (lt_of_cell i0)).trans i0
  replace i1 := (hb45.cell (lt_of_cell i1)).trans i1
  clear HS HQ HFq HCk c0 c1 c2 cq0 hS5 hb45
  generalize w4.drewN nq = w5 at *
  have c0 := HS5.out.c0
  have cq0 : w5.cell? ⟨qb, 0, none⟩ = some (.slice bq len cq) := HQ5.out.cell rfl
  have hqb : qb < w5.heap.size := HQ5.out.lt
  have hPb : w.heap.size < w5.heap.size := lt_of_cell (x := ⟨w.heap.size, 0, none⟩) c0
  have hyb : (y.add (k * 2)).block < w5.heap.size := lt_of_cell i0
  have hS0 : S10 w5 w5.drew qb bq len cq w.heap.size y cap k g bk lk ck := ⟨cq0, c0, i0, i1, (Below.refl _ _).drew⟩
  have HMq := Lib.hid (swap_may HM.out HB.out HG.out (by rw [H1.out]; exact hk))
  have HBd : Hid (codeB d = true) := Lib.hid (by
    have := (fnB_facts (mayP_fn HM.out k (by rw [H1.out]; exact hk))).1
    rw [HG.out] at this
    exact this)
  have HGq := Lib.hid (set_getD_self fs k (g, c) (by rw [H1.out]; exact hk))
  have HBk := Lib.hid (set_set_back (f := (g, c)) (show k < fs.length by rw [H1.out]; exact hk) HG.out)
  go_region_held3 (fun w' => w'.cell? ⟨qb, 0, none⟩ = some (.slice bq len cq) ∧ w'.cell? ⟨w.heap.size, 0, none⟩ = some (.slice (some y) len cap) ∧ w'.cell? (y.add (k * 2)) = some (.int .i64 g) ∧ w'.cell? ⟨(y.add (k * 2)).block, (y.add (k * 2)).off + 1, none⟩ = some (.slice bk lk ck) ∧ Below w5.heap.size w5 w')
    (first
      | exact hS0
      | exact S10.alloc (by assumption) _
      | exact hS6
      | exact S10.set (by assumption) _ hqb hPb hyb (Nat.le_refl _)
      | exact S10.set (by assumption) _ (by omega) (by omega) (by omega) (by omega))
    (first
      | (go_at_call 18; refine (swap_back (w5 := w5) (qb := qb) (P := w.heap.size) (y := y) (cap := cap) (k := k) (fs := fs.set k (g, c)) HS5.out.rows HFq5.out HCk5.out HMq.out HBd.out hk HGq.out _ (by assumption)).mono ?_; rintro e w6 ⟨br, cr, rfl, hg6, hF6, hS6⟩; (try have hB6 := box_after hg6); (try have c6 := hB6.cell (i := 0) rfl); (try have f6 := hB6.free 0)))
  · have hbR : Below w5.heap.size w5 (w6.alloc (.cells #[.slice br len cr] 24)) := hS6.2.2.2.2.alloc hS6.2.2.2.2.size _
    have HRb := Lib.hid (Box.new w6 24 #[.slice br len cr])
    rw [HBk.out] at hF6
    have HFr := Lib.hid (hF6.below ((Below.refl _ _).alloc (Nat.le_refl _) (.cells #[.slice br len cr] 24)))
    clear hg6 hF6 hS6
    generalize w6.alloc (.cells #[.slice br len cr] 24) = wR at *
    generalize w6.heap.size = rb at *
    have HS6 := Lib.hid (HS5.out.later hbR)
    have HQ6 := Lib.hid (HQ5.out.below hbR HQ5.out.lt)
    have HFq6 := Lib.hid (HFq5.out.below hbR)
    clear HS5 HQ5 HFq5 HCk5 i0 i1 c0 cq0 hS0 hyb hqb hPb hbR
    have d0 : wR.cell? ⟨qb, 0, none⟩ = some (.slice bq len cq) := HQ6.out.cell rfl
    have d1 := HS6.out.c1
    have d2 := HS6.out.c2
    have hcq : len ≤ cq := HFq6.out.2.1
    have hone := run_oneF bq len cq k k (k + 1) rfl rfl (by omega)
    have hwk := wI ((k : Int) + 1) (by omega) (by omega)
    have hbA : Below wR.heap.size wR (wR.alloc (.cells #[.int .i64 g, .slice b l cc] 28)).drew := ((Below.refl _ _).alloc (Nat.le_refl _) _).drew
    have HSa : Hid (S3 wR wR.drew ⟨qb, 0, none⟩ ⟨w.heap.size + 1, 0, none⟩ ⟨w.heap.size + 1, 1, none⟩ (.slice bq len cq) (.int .i64 g) (.slice b l cc)) := Lib.hid ⟨d0, d1, d2, (Below.refl _ _).drew⟩
    have HSb : Hid (S3 wR (wR.alloc (.cells #[.int .i64 g, .slice b l cc] 28)).drew ⟨qb, 0, none⟩ ⟨w.heap.size + 1, 0, none⟩ ⟨w.heap.size + 1, 1, none⟩ (.slice bq len cq) (.int .i64 g) (.slice b l cc)) := Lib.hid (S3.later (W := wR) ⟨d0, d1, d2, Below.refl _ _⟩ hbA)
    have HOneF : Hid (FnsAt (wR.alloc (.cells #[.int .i64 g, .slice b l cc] 28)).drew (some ⟨wR.heap.size, 0, none⟩) 1 1 [(g, c)]) := Lib.hid (one_at (HC.out.below HS6.out.1))
    have HSubF : Hid (FnsAt (wR.alloc (.cells #[.int .i64 g, .slice b l cc] 28)).drew (cutF bq cq k) 1 (cq - k) [(g, c)]) := Lib.hid (by
      have h1 := ((HFq6.out.cut (k := k) (by omega)).head (k := 1) (by omega)).below hbA
      rwa [take_one (by rw [List.length_set, H1.out]; exact hk) HGq.out] at h1)
    clear hbA
    go_wp2_with fail
    go_region_held3 (fun w' => w'.cell? ⟨qb, 0, none⟩ = some (.slice bq len cq) ∧ w'.cell? ⟨w.heap.size + 1, 0, none⟩ = some (.int .i64 g) ∧ w'.cell? ⟨w.heap.size + 1, 1, none⟩ = some (.slice b l cc) ∧ Below wR.heap.size wR w')
      (first
        | exact HSa.out
        | exact HSb.out
        | exact hS7)
      (first
        | (go_at_call 17; refine (rSame_any (cutF bq cq k) (some ⟨wR.heap.size, 0, none⟩) 1 (cq - k) 1 1 [(g, c)] [(g, c)] _ (by exact HSubF.out) (by exact HOneF.out)).mono ?_; rintro e w7 ⟨rfl, hg7⟩; have hS7 := S3.later HSb.out hg7))
    have hb7 := hS7.2.2.2
    clear hg7 hS7 HSa HSb HOneF HSubF hone d0 d1 d2
    go_wp2_with fail
    have HS7 := Lib.hid (HS6.out.later hb7)
    have HQ7 := Lib.hid (HQ6.out.below hb7 HQ6.out.lt)
    have HFq7 := Lib.hid (HFq6.out.below hb7)
    have HR7 := Lib.hid (HRb.out.below hb7 HRb.out.lt)
    have HFr7 := Lib.hid (HFr.out.below hb7)
    clear hb7 HS6 HQ6 HFq6 HRb HFr
    have d0 : w7.cell? ⟨qb, 0, none⟩ = some (.slice bq len cq) := HQ7.out.cell rfl
    have d1 := HS7.out.c0
    have hcp : len ≤ cap := HF.out.2.1
    have hh1 := run_headF bq len cq k k rfl (by omega)
    have hh2 := run_headF (some y) len cap k k rfl (by omega)
    have HSa : Hid (S2 w7 w7.drew ⟨qb, 0, none⟩ ⟨w.heap.size, 0, none⟩ (.slice bq len cq) (.slice (some y) len cap)) := Lib.hid ⟨d0, d1, (Below.refl _ _).drew⟩
    have hbD : Below w7.heap.size w7 w7.drew := (Below.refl _ _).drew
    have HLq : Hid (FnsAt w7.drew bq k cq (fs.take k)) := Lib.hid (by
      have h1 := (HFq7.out.head (k := k) (by omega)).below hbD
      rwa [take_set] at h1)
    have HLp : Hid (FnsAt w7.drew (some y) k cap (fs.take k)) := Lib.hid (((HF.out.below HS7.out.1).head (k := k) (by omega)).below hbD)
    clear hbD
    go_region_held3 (fun w' => w'.cell? ⟨qb, 0, none⟩ = some (.slice bq len cq) ∧ w'.cell? ⟨w.heap.size, 0, none⟩ = some (.slice (some y) len cap) ∧ Below w7.heap.size w7 w')
      (first
        | exact HSa.out
        | exact hS8)
      (first
        | (go_at_call 17; refine (rSame_any bq (some y) k cq k cap (fs.take k) (fs.take k) _ (by exact HLq.out) (by exact HLp.out)).mono ?_; rintro e w8 ⟨rfl, hg8⟩; have hS8 := S2.later HSa.out hg8))
    have hb8 := hS8.2.2
    clear hg8 hS8 HSa HLq HLp hh1 hh2 d0 d1
    go_wp2_with fail
    have HS8 := Lib.hid (HS7.out.later hb8)
    have HQ8 := Lib.hid (HQ7.out.below hb8 HQ7.out.lt)
    have HFq8 := Lib.hid (HFq7.out.below hb8)
    have HR8 := Lib.hid (HR7.out.below hb8 HR7.out.lt)
    have HFr8 := Lib.hid (HFr7.out.below hb8)
    clear hb8 HS7 HQ7 HFq7 HR7 HFr7
    have d0 : w8.cell? ⟨qb, 0, none⟩ = some (.slice bq len cq) := HQ8.out.cell rfl
    have d1 := HS8.out.c0
    have hh1 := run_cutF bq len cq (k + 1) ((k : Int) + 1) rfl (by omega)
    have hh2 := run_cutF (some y) len cap (k + 1) ((k : Int) + 1) rfl (by omega)
    have HSa : Hid (S2 w8 w8.drew ⟨qb, 0, none⟩ ⟨w.heap.size, 0, none⟩ (.slice bq len cq) (.slice (some y) len cap)) := Lib.hid ⟨d0, d1, (Below.refl _ _).drew⟩
    have hbD : Below w8.heap.size w8 w8.drew := (Below.refl _ _).drew
    have HLq : Hid (FnsAt w8.drew (cutF bq cq (k + 1)) (len - (k + 1)) (cq - (k + 1)) (fs.drop (k + 1))) := Lib.hid (by
      have h1 := (HFq8.out.cut (k := k + 1) (by omega)).below hbD
      rwa [drop_set] at h1)
    have HLp : Hid (FnsAt w8.drew (cutF (some y) cap (k + 1)) (len - (k + 1)) (cap - (k + 1)) (fs.drop (k + 1))) := Lib.hid (((HF.out.below HS8.out.1).cut (k := k + 1) (by omega)).below hbD)
    clear hbD
    go_region_held3 (fun w' => w'.cell? ⟨qb, 0, none⟩ = some (.slice bq len cq) ∧ w'.cell? ⟨w.heap.size, 0, none⟩ = some (.slice (some y) len cap) ∧ Below w8.heap.size w8 w')
      (first
        | exact HSa.out
        | exact hS9)
      (first
        | (go_at_call 17; refine (rSame_any (cutF bq cq (k + 1)) (cutF (some y) cap (k + 1)) (len - (k + 1)) (cq - (k + 1)) (len - (k + 1)) (cap - (k + 1)) (fs.drop (k + 1)) (fs.drop (k + 1)) _ (by exact HLq.out) (by exact HLp.out)).mono ?_; rintro e w9 ⟨rfl, hg9⟩; have hS9 := S2.later HSa.out hg9))
    have hb9 := hS9.2.2
    clear hg9 hS9 HSa HLq HLp hh1 hh2 d0 d1
    have HS9 := Lib.hid (HS8.out.later hb9)
    have HQ9 := Lib.hid (HQ8.out.below hb9 HQ8.out.lt)
    have HFq9 := Lib.hid (HFq8.out.below hb9)
    have HR9 := Lib.hid (HR8.out.below hb9 HR8.out.lt)
    have HFr9 := Lib.hid (HFr8.out.below hb9)
    clear hb9 HS8 HQ8 HFq8 HR8 HFr8
    have d0 : w9.cell? ⟨rb, 0, none⟩ = some (.slice br len cr) := HR9.out.cell rfl
    have d1 := HS9.out.c0
    go_wp2_with fail
    refine (rSame_any br (some y) len cr len cap fs fs _ HFr9.out (HF.out.below HS9.out.1)).mono ?_
    rintro e w10 ⟨rfl, hg⟩
    rw [decide_eq_true (rfl : fs = fs)]
    replace HS9 := Lib.hid (HS9.out.later hg)
    replace HQ9 := Lib.hid (HQ9.out.below hg HQ9.out.lt)
    replace HFq9 := Lib.hid (HFq9.out.below hg)
    clear hg d0 d1
    have d0 : w10.cell? ⟨qb, 0, none⟩ = some (.slice bq len cq) := HQ9.out.cell rfl
    go_wp2_with fail
    refine (prMay_any bq len cq _ _ HS9.out.rows HFq9.out).mono ?_
    rintro e w11 ⟨rfl, hg⟩
    replace HS9 := Lib.hid (HS9.out.later hg)
    rw [HMq.out]
    clear hg d0
    go_wp2
    go_ret
    exact ⟨rfl, HS9.out.1⟩
  · have hB6' := box_after hg6
    have hbR : Below w5.heap.size w5 (w6.setCell ⟨w5.heap.size, 0, none⟩ (.slice br len cr)) := hS6.2.2.2.2.setCell (Nat.le_refl _) _
    have HRb : Hid (Box (w6.setCell ⟨w5.heap.size, 0, none⟩ (.slice br len cr)) w5.heap.size 24 #[.slice br len cr]) := Lib.hid (hB6'.set 0 _)
    rw [HBk.out] at hF6
    have HFr := Lib.hid (hF6.set_box (u := .slice br len cr) hB6')
    clear hg6 hF6 hS6 hB6' c6 f6 hB6
    generalize w6.setCell ⟨w5.heap.size, 0, none⟩ (.slice br len cr) = wR at *
    obtain ⟨rb, hrb⟩ : ∃ rb, w5.heap.size = rb := ⟨_, rfl⟩
    rw [hrb] at HRb ⊢
    clear hrb
    have HS6 := Lib.hid (HS5.out.later hbR)
    have HQ6 := Lib.hid (HQ5.out.below hbR HQ5.out.lt)
    have HFq6 := Lib.hid (HFq5.out.below hbR)
    clear HS5 HQ5 HFq5 HCk5 i0 i1 c0 cq0 hS0 hyb hqb hPb hbR
    have d0 : wR.cell? ⟨qb, 0, none⟩ = some (.slice bq len cq) := HQ6.out.cell rfl
    have d1 := HS6.out.c1
    have d2 := HS6.out.c2
    have hcq : len ≤ cq := HFq6.out.2.1
    have hone := run_oneF bq len cq k k (k + 1) rfl rfl (by omega)
    have hwk := wI ((k : Int) + 1) (by omega) (by omega)
    have hbA : Below wR.heap.size wR (wR.alloc (.cells #[.int .i64 g, .slice b l cc] 28)).drew := ((Below.refl _ _).alloc (Nat.le_refl _) _).drew
    have HSa : Hid (S3 wR wR.drew ⟨qb, 0, none⟩ ⟨w.heap.size + 1, 0, none⟩ ⟨w.heap.size + 1, 1, none⟩ (.slice bq len cq) (.int .i64 g) (.slice b l cc)) := Lib.hid ⟨d0, d1, d2, (Below.refl _ _).drew⟩
    have HSb : Hid (S3 wR (wR.alloc (.cells #[.int .i64 g, .slice b l cc] 28)).drew ⟨qb, 0, none⟩ ⟨w.heap.size + 1, 0, none⟩ ⟨w.heap.size + 1, 1, none⟩ (.slice bq len cq) (.int .i64 g) (.slice b l cc)) := Lib.hid (S3.later (W := wR) ⟨d0, d1, d2, Below.refl _ _⟩ hbA)
    have HOneF : Hid (FnsAt (wR.alloc (.cells #[.int .i64 g, .slice b l cc] 28)).drew (some ⟨wR.heap.size, 0, none⟩) 1 1 [(g, c)]) := Lib.hid (one_at (HC.out.below HS6.out.1))
    have HSubF : Hid (FnsAt (wR.alloc (.cells #[.int .i64 g, .slice b l cc] 28)).drew (cutF bq cq k) 1 (cq - k) [(g, c)]) := Lib.hid (by
      have h1 := ((HFq6.out.cut (k := k) (by omega)).head (k := 1) (by omega)).below hbA
      rwa [take_one (by rw [List.length_set, H1.out]; exact hk) HGq.out] at h1)
    clear hbA
    go_wp2_with fail
    go_region_held3 (fun w' => w'.cell? ⟨qb, 0, none⟩ = some (.slice bq len cq) ∧ w'.cell? ⟨w.heap.size + 1, 0, none⟩ = some (.int .i64 g) ∧ w'.cell? ⟨w.heap.size + 1, 1, none⟩ = some (.slice b l cc) ∧ Below wR.heap.size wR w')
      (first
        | exact HSa.out
        | exact HSb.out
        | exact hS7)
      (first
        | (go_at_call 17; refine (rSame_any (cutF bq cq k) (some ⟨wR.heap.size, 0, none⟩) 1 (cq - k) 1 1 [(g, c)] [(g, c)] _ (by exact HSubF.out) (by exact HOneF.out)).mono ?_; rintro e w7 ⟨rfl, hg7⟩; have hS7 := S3.later HSb.out hg7))
    have hb7 := hS7.2.2.2
    clear hg7 hS7 HSa HSb HOneF HSubF hone d0 d1 d2
    go_wp2_with fail
    have HS7 := Lib.hid (HS6.out.later hb7)
    have HQ7 := Lib.hid (HQ6.out.below hb7 HQ6.out.lt)
    have HFq7 := Lib.hid (HFq6.out.below hb7)
    have HR7 := Lib.hid (HRb.out.below hb7 HRb.out.lt)
    have HFr7 := Lib.hid (HFr.out.below hb7)
    clear hb7 HS6 HQ6 HFq6 HRb HFr
    have d0 : w7.cell? ⟨qb, 0, none⟩ = some (.slice bq len cq) := HQ7.out.cell rfl
    have d1 := HS7.out.c0
    have hcp : len ≤ cap := HF.out.2.1
    have hh1 := run_headF bq len cq k k rfl (by omega)
    have hh2 := run_headF (some y) len cap k k rfl (by omega)
    have HSa : Hid (S2 w7 w7.drew ⟨qb, 0, none⟩ ⟨w.heap.size, 0, none⟩ (.slice bq len cq) (.slice (some y) len cap)) := Lib.hid ⟨d0, d1, (Below.refl _ _).drew⟩
    have hbD : Below w7.heap.size w7 w7.drew := (Below.refl _ _).drew
    have HLq : Hid (FnsAt w7.drew bq k cq (fs.take k)) := Lib.hid (by
      have h1 := (HFq7.out.head (k := k) (by omega)).below hbD
      rwa [take_set] at h1)
    have HLp : Hid (FnsAt w7.drew (some y) k cap (fs.take k)) := Lib.hid (((HF.out.below HS7.out.1).head (k := k) (by omega)).below hbD)
    clear hbD
    go_region_held3 (fun w' => w'.cell? ⟨qb, 0, none⟩ = some (.slice bq len cq) ∧ w'.cell? ⟨w.heap.size, 0, none⟩ = some (.slice (some y) len cap) ∧ Below w7.heap.size w7 w')
      (first
        | exact HSa.out
        | exact hS8)
      (first
        | (go_at_call 17; refine (rSame_any bq (some y) k cq k cap (fs.take k) (fs.take k) _ (by exact HLq.out) (by exact HLp.out)).mono ?_; rintro e w8 ⟨rfl, hg8⟩; have hS8 := S2.later HSa.out hg8))
    have hb8 := hS8.2.2
    clear hg8 hS8 HSa HLq HLp hh1 hh2 d0 d1
    go_wp2_with fail
    have HS8 := Lib.hid (HS7.out.later hb8)
    have HQ8 := Lib.hid (HQ7.out.below hb8 HQ7.out.lt)
    have HFq8 := Lib.hid (HFq7.out.below hb8)
    have HR8 := Lib.hid (HR7.out.below hb8 HR7.out.lt)
    have HFr8 := Lib.hid (HFr7.out.below hb8)
    clear hb8 HS7 HQ7 HFq7 HR7 HFr7
    have d0 : w8.cell? ⟨qb, 0, none⟩ = some (.slice bq len cq) := HQ8.out.cell rfl
    have d1 := HS8.out.c0
    have hh1 := run_cutF bq len cq (k + 1) ((k : Int) + 1) rfl (by omega)
    have hh2 := run_cutF (some y) len cap (k + 1) ((k : Int) + 1) rfl (by omega)
    have HSa : Hid (S2 w8 w8.drew ⟨qb, 0, none⟩ ⟨w.heap.size, 0, none⟩ (.slice bq len cq) (.slice (some y) len cap)) := Lib.hid ⟨d0, d1, (Below.refl _ _).drew⟩
    have hbD : Below w8.heap.size w8 w8.drew := (Below.refl _ _).drew
    have HLq : Hid (FnsAt w8.drew (cutF bq cq (k + 1)) (len - (k + 1)) (cq - (k + 1)) (fs.drop (k + 1))) := Lib.hid (by
      have h1 := (HFq8.out.cut (k := k + 1) (by omega)).below hbD
      rwa [drop_set] at h1)
    have HLp : Hid (FnsAt w8.drew (cutF (some y) cap (k + 1)) (len - (k + 1)) (cap - (k + 1)) (fs.drop (k + 1))) := Lib.hid (((HF.out.below HS8.out.1).cut (k := k + 1) (by omega)).below hbD)
    clear hbD
    go_region_held3 (fun w' => w'.cell? ⟨qb, 0, none⟩ = some (.slice bq len cq) ∧ w'.cell? ⟨w.heap.size, 0, none⟩ = some (.slice (some y) len cap) ∧ Below w8.heap.size w8 w')
      (first
        | exact HSa.out
        | exact hS9)
      (first
        | (go_at_call 17; refine (rSame_any (cutF bq cq (k + 1)) (cutF (some y) cap (k + 1)) (len - (k + 1)) (cq - (k + 1)) (len - (k + 1)) (cap - (k + 1)) (fs.drop (k + 1)) (fs.drop (k + 1)) _ (by exact HLq.out) (by exact HLp.out)).mono ?_; rintro e w9 ⟨rfl, hg9⟩; have hS9 := S2.later HSa.out hg9))
    have hb9 := hS9.2.2
    clear hg9 hS9 HSa HLq HLp hh1 hh2 d0 d1
    have HS9 := Lib.hid (HS8.out.later hb9)
    have HQ9 := Lib.hid (HQ8.out.below hb9 HQ8.out.lt)
    have HFq9 := Lib.hid (HFq8.out.below hb9)
    have HR9 := Lib.hid (HR8.out.below hb9 HR8.out.lt)
    have HFr9 := Lib.hid (HFr8.out.below hb9)
    clear hb9 HS8 HQ8 HFq8 HR8 HFr8
    have d0 : w9.cell? ⟨rb, 0, none⟩ = some (.slice br len cr) := HR9.out.cell rfl
    have d1 := HS9.out.c0
    go_wp2_with fail
    refine (rSame_any br (some y) len cr len cap fs fs _ HFr9.out (HF.out.below HS9.out.1)).mono ?_
    rintro e w10 ⟨rfl, hg⟩
    rw [decide_eq_true (rfl : fs = fs)]
    replace HS9 := Lib.hid (HS9.out.later hg)
    replace HQ9 := Lib.hid (HQ9.out.below hg HQ9.out.lt)
    replace HFq9 := Lib.hid (HFq9.out.below hg)
    clear hg d0 d1
    have d0 : w10.cell? ⟨qb, 0, none⟩ = some (.slice bq len cq) := HQ9.out.cell rfl
    go_wp2_with fail
    refine (prMay_any bq len cq _ _ HS9.out.rows HFq9.out).mono ?_
    rintro e w11 ⟨rfl, hg⟩
    replace HS9 := Lib.hid (HS9.out.later hg)
    rw [HMq.out]
    clear hg d0
    go_wp2
    go_ret
    exact ⟨rfl, HS9.out.1⟩
end Go.Proofs.YtlbhmopmfddhjaaDoor
