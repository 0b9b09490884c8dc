/-
  The walk of law ProgTells: it returns true for every program, row of bytes, place and function.
-/
import Derived.Test.YtlbhmopmfddhjaaDoorV3
import Derived.Deep.RegionHeld3
import Derived.BigQuiet
namespace Go.Proofs.YtlbhmopmfddhjaaDoor
open Go.RowKit

theorem tells_keep {W9 W W' : World} {A B C : Addr} {u v x : Value} (h : W.cell? A = some u ∧ W.cell? B = some v ∧ W.cell? C = some x ∧ Below W9.heap.size W9 W) (hb : Below W.heap.size W W') :
    W'.cell? A = some u ∧ W'.cell? B = some v ∧ W'.cell? C = some x ∧ Below W9.heap.size W9 W' :=
  ⟨(hb.cell (lt_of_cell h.1)).trans h.1, (hb.cell (lt_of_cell h.2.1)).trans h.2.1, (hb.cell (lt_of_cell h.2.2.1)).trans h.2.2.1, h.2.2.2.trans (hb.mono h.2.2.2.size)⟩

set_option maxRecDepth 100000 in
set_option maxHeartbeats 20000000 in
theorem tells_walk (a : Option Addr) (len cap : Nat) (fs : List Fun) (b5 : Option Addr) (l5 c5 : Nat) (zs : List Int) (i : Int) (g : Int) (b : Option Addr) (l cc : Nat) (c : List I) (w : World) (hR : RowsIn w) (h : FnsAt w a len cap fs) (hz : SliceB w b5 l5 c5 zs) (hC : CodeAt w b l cc c) :
    Calls Tryd.prog 3 #[.agg #[.slice a len cap], .slice b5 l5 c5, .int .i64 i, .agg #[.int .i64 g, .slice b l cc]] w fun e w' => e = .returned (.bool true) ∧ Below w.heap.size w w' := by
  have HS := Lib.hid (St2.start (a := a) (len := len) (cap := cap) (g := g) (b := b) (l := l) (cc := cc) hR)
  have HF := Lib.hid h
  have HC := Lib.hid hC
  have HZ := Lib.hid hz
  have H1 := Lib.hid h.1
  have hm : len ≤ 9223372036854775807 := by have := h.2.1; have := h.2.2.1; unfold maxLen at this; omega
  have hml : l ≤ 9223372036854775807 := by have := hC.2.1; have := hC.2.2.1; unfold maxLen at this; omega
  have hm5 : l5 ≤ 9223372036854775807 := by have := hz.2.1; have := hz.2.2.1; unfold maxLen at this; omega
  clear h hC hz
  go_enter Tryd.func3, Tryd.ntmps3
  go_wp2_with fail
  refine (awake_any _ HS.out.rows).mono ?_
  rintro e w1 ⟨rfl, hg⟩
  replace HS := Lib.hid (HS.out.later hg)
  have c0 := HS.out.c0
  clear hg
  go_wp2_with fail
  refine (few_any a len cap fs _ (HF.out.below HS.out.1)).mono ?_
  rintro e w2 ⟨rfl, hg⟩
  replace HS := Lib.hid (HS.out.later hg)
  clear hg c0
  rcases hfew : fewP fs with _ | _
  · go_wp2
    go_ret
    exact ⟨rfl, HS.out.1⟩
  have HFew := Lib.hid hfew
  clear hfew
  have c0 := HS.out.c0
  have c1 := HS.out.c1
  have c2 := HS.out.c2
  by_cases h80 : 80 < l
  · have h80I : (80 : Int) < (l : Int) := by omega
    go_wp2
    go_ret
    exact ⟨rfl, HS.out.1⟩
  have h80I : ¬ (80 : Int) < (l : Int) := by omega
  by_cases h50 : 5000 < l5
  · have h50I : (5000 : Int) < (l5 : Int) := by omega
    go_wp2
    go_ret
    exact ⟨rfl, HS.out.1⟩
  have h50I : ¬ (5000 : Int) < (l5 : Int) := by omega
  go_wp2_with fail
  refine (own_any a len cap fs _ (HF.out.below HS.out.1) HFew.out).mono ?_
  rintro e w3 ⟨v, xs, rfl, hg, hO3, hOw3⟩
  obtain ⟨bv, cpv, hv, hFv⟩ := own_fns hO3 hOw3
  rw [H1.out] at hO3 hv hFv
  subst hv
  have hb4 : Below w3.heap.size w3 (w3.alloc (.cells #[.slice bv len cpv] 24)) := (Below.refl _ _).alloc (Nat.le_refl _) _
  replace HS := Lib.hid ((HS.out.later hg).later hb4)
  have HV := Lib.hid (Box.new w3 24 #[.slice bv len cpv])
  have HFv := Lib.hid (hFv.below hb4)
  clear hg c0 c1 c2 hb4 hO3 hOw3 hFv
  have c0 := HS.out.c0
  go_wp2_with fail
  generalize w3.alloc (.cells #[.slice bv len cpv] 24) = w4 at *
  generalize w3.heap.size = vb at *
  refine (prPut_u a len cap fs _ HS.out.rows (HF.out.below HS.out.1)).mono ?_
  rintro e w5 ⟨pa, pl, pc, rfl, hg, hP⟩
  replace HS := Lib.hid (HS.out.later hg)
  replace HV := Lib.hid (HV.out.below hg HV.out.lt)
  replace HFv := Lib.hid (HFv.out.below hg)
  have HP := Lib.hid hP
  clear hg c0 hP
  have c0 := HS.out.c0
  go_wp2_with fail
  refine (rPut_u a len cap fs _ (HF.out.below HS.out.1)).mono ?_
  rintro e w6 ⟨qa, ql, qc, rfl, hg, hQ⟩
  replace HS := Lib.hid (HS.out.later hg)
  replace HV := Lib.hid (HV.out.below hg HV.out.lt)
  replace HFv := Lib.hid (HFv.out.below hg)
  replace HP := Lib.hid (HP.out.below hg)
  have HQ := Lib.hid hQ
  clear hg c0 hQ
  go_wp2_with fail
  refine (bytesB_any _ _ _ _ _ _ _ _ _ HP.out HQ.out).mono ?_
  rintro e w7 ⟨rfl, hg⟩
  replace HS := Lib.hid (HS.out.later hg)
  replace HV := Lib.hid (HV.out.below hg HV.out.lt)
  replace HFv := Lib.hid (HFv.out.below hg)
  have u0 : decide (putZ fs = putZ fs) = true := by simp
  have u1 : (putE fs == putE fs) = true := by simp
  clear hg HP HQ
  go_wp2_with fail
  refine ((prGet_any b5 l5 c5 zs _ HS.out.rows (HZ.out.below HS.out.1)).mono fun _ _ => get_u).mono ?_
  rintro e w8 ⟨xa, xl, xc, rfl, hg, hX⟩
  have hb9 : Below w8.heap.size w8 (w8.alloc (.cells #[.slice xa xl xc] 24)) := (Below.refl _ _).alloc (Nat.le_refl _) _
  replace HS := Lib.hid ((HS.out.later hg).later hb9)
  replace HV := Lib.hid (HV.out.below hg HV.out.lt)
  replace HV := Lib.hid (HV.out.below hb9 HV.out.lt)
  replace HFv := Lib.hid ((HFv.out.below hg).below hb9)
  have HX := Lib.hid (Box.new w8 24 #[.slice xa xl xc])
  have HFx := Lib.hid (hX.below hb9)
  clear hg hX hb9
  go_wp2_with fail
  generalize w8.alloc (.cells #[.slice xa xl xc] 24) = w9 at *
  generalize w8.heap.size = xb at *
  refine ((rGet_any b5 l5 c5 zs _ (HZ.out.below HS.out.1) (by omega)).mono fun _ _ => get_u).mono ?_
  rintro e w10 ⟨ya, yl, yc, rfl, hg, hY⟩
  replace HS := Lib.hid (HS.out.later hg)
  replace HV := Lib.hid (HV.out.below hg HV.out.lt)
  replace HFv := Lib.hid (HFv.out.below hg)
  replace HX := Lib.hid (HX.out.below hg HX.out.lt)
  replace HFx := Lib.hid (HFx.out.below hg)
  have hb : Below w10.heap.size w10 (w10.alloc (.cells #[.slice ya yl yc] 24)) := (Below.refl _ _).alloc (Nat.le_refl _) _
  replace HS := Lib.hid (HS.out.later hb)
  replace HV := Lib.hid (HV.out.below hb HV.out.lt)
  replace HFv := Lib.hid (HFv.out.below hb)
  replace HX := Lib.hid (HX.out.below hb HX.out.lt)
  replace HFx := Lib.hid (HFx.out.below hb)
  have HY := Lib.hid (Box.new w10 24 #[.slice ya yl yc])
  have HFy := Lib.hid (hY.below hb)
  clear hg hb hY
  have x0 : (w10.alloc (.cells #[.slice ya yl yc] 24)).cell? ⟨xb, 0, none⟩ = some (.slice xa xl xc) := HX.out.cell rfl
  have y0 : (w10.alloc (.cells #[.slice ya yl yc] 24)).cell? ⟨w10.heap.size, 0, none⟩ = some (.slice ya yl yc) := HY.out.cell rfl
  go_wp2_with fail
  refine (rSame_any _ _ _ _ _ _ _ _ _ HFx.out HFy.out).mono ?_
  rintro e w11 ⟨rfl, hg⟩
  replace HS := Lib.hid (HS.out.later hg)
  replace HV := Lib.hid (HV.out.below hg HV.out.lt)
  replace HFv := Lib.hid (HFv.out.below hg)
  replace HX := Lib.hid (HX.out.below hg HX.out.lt)
  replace HFx := Lib.hid (HFx.out.below hg)
  have u2 : decide ((getP zs).getD [] = (getP zs).getD []) = true := by simp
  have u3 : (getE zs == getE zs) = true := by simp
  clear hg x0 y0 HY HFy
  generalize (getP zs).getD [] = xf at *
  have c0 := HS.out.c0
  have c1 := HS.out.c1
  have c2 := HS.out.c2
  go_wp2_with fail
  refine ((prSwap_any a len cap fs i g b l cc c _ HS.out.rows (HF.out.below HS.out.1) (HC.out.below HS.out.1)).mono fun _ _ => swap_u).mono ?_
  rintro e w12 ⟨sa, sl, sc, rfl, hg, hT⟩
  replace HS := Lib.hid (HS.out.later hg)
  replace HV := Lib.hid (HV.out.below hg HV.out.lt)
  replace HFv := Lib.hid (HFv.out.below hg)
  replace HX := Lib.hid (HX.out.below hg HX.out.lt)
  replace HFx := Lib.hid (HFx.out.below hg)
  have hb : Below w12.heap.size w12 (w12.alloc (.cells #[.slice sa sl sc] 24)) := (Below.refl _ _).alloc (Nat.le_refl _) _
  replace HS := Lib.hid (HS.out.later hb)
  replace HV := Lib.hid (HV.out.below hb HV.out.lt)
  replace HFv := Lib.hid (HFv.out.below hb)
  replace HX := Lib.hid (HX.out.below hb HX.out.lt)
  replace HFx := Lib.hid (HFx.out.below hb)
  have HB := Lib.hid (Box.new w12 24 #[.slice sa sl sc])
  have HFs := Lib.hid (hT.below hb)
  clear hg c0 c1 c2 hT hb
  have c0 := HS.out.c0
  have c1 := HS.out.c1
  have c2 := HS.out.c2
  go_wp2_with fail
  generalize w12.alloc (.cells #[.slice sa sl sc] 24) = w13 at *
  generalize w12.heap.size = sb at *
  refine ((rSwap_any a len cap fs i g b l cc c _ HS.out.rows (HF.out.below HS.out.1) (HC.out.below HS.out.1)).mono fun _ _ => swap_u).mono ?_
  rintro e w14 ⟨ta, tl, tc, rfl, hg, hT⟩
  replace HS := Lib.hid (HS.out.later hg)
  replace HV := Lib.hid (HV.out.below hg HV.out.lt)
  replace HFv := Lib.hid (HFv.out.below hg)
  replace HX := Lib.hid (HX.out.below hg HX.out.lt)
  replace HFx := Lib.hid (HFx.out.below hg)
  replace HB := Lib.hid (HB.out.below hg HB.out.lt)
  replace HFs := Lib.hid (HFs.out.below hg)
  have hb : Below w14.heap.size w14 (w14.alloc (.cells #[.slice ta tl tc] 24)) := (Below.refl _ _).alloc (Nat.le_refl _) _
  replace HS := Lib.hid (HS.out.later hb)
  replace HV := Lib.hid (HV.out.below hb HV.out.lt)
  replace HFv := Lib.hid (HFv.out.below hb)
  replace HX := Lib.hid (HX.out.below hb HX.out.lt)
  replace HFx := Lib.hid (HFx.out.below hb)
  replace HB := Lib.hid (HB.out.below hb HB.out.lt)
  replace HFs := Lib.hid (HFs.out.below hb)
  have HT := Lib.hid (Box.new w14 24 #[.slice ta tl tc])
  have HFt := Lib.hid (hT.below hb)
  clear hg c0 c1 c2 hT hb
  have s0 : (w14.alloc (.cells #[.slice ta tl tc] 24)).cell? ⟨sb, 0, none⟩ = some (.slice sa sl sc) := HB.out.cell rfl
  have t0 : (w14.alloc (.cells #[.slice ta tl tc] 24)).cell? ⟨w14.heap.size, 0, none⟩ = some (.slice ta tl tc) := HT.out.cell rfl
  go_wp2_with fail
  refine (rSame_any _ _ _ _ _ _ _ _ _ HFs.out HFt.out).mono ?_
  rintro e w15 ⟨rfl, hg⟩
  replace HS := Lib.hid (HS.out.later hg)
  replace HV := Lib.hid (HV.out.below hg HV.out.lt)
  replace HFv := Lib.hid (HFv.out.below hg)
  replace HX := Lib.hid (HX.out.below hg HX.out.lt)
  replace HFx := Lib.hid (HFx.out.below hg)
  have u4 : decide (swapF fs i g c = swapF fs i g c) = true := by simp
  have u5 : (swapE fs i g c == swapE fs i g c) = true := by simp
  clear hg s0 t0 HB HFs HT HFt
  generalize swapF fs i g c = sf at *
  generalize swapE fs i g c = sE at *
  generalize putE fs = pE at *
  generalize getE zs = gE at *
  have c0 := HS.out.c0
  have x0 : w15.cell? ⟨xb, 0, none⟩ = some (.slice xa xl xc) := HX.out.cell rfl
  have v0 : w15.cell? ⟨vb, 0, none⟩ = some (.slice bv len cpv) := HV.out.cell rfl
  have HSa : Hid (w15.drew.cell? ⟨w.heap.size, 0, none⟩ = some (.slice a len cap) ∧ w15.drew.cell? ⟨vb, 0, none⟩ = some (.slice bv len cpv) ∧ w15.drew.cell? ⟨xb, 0, none⟩ = some (.slice xa xl xc) ∧ Below w15.heap.size w15 w15.drew) := Lib.hid ⟨c0, v0, x0, (Below.refl _ _).drew⟩
  have HR := Lib.hid HS.out.rows
  go_wp2_with fail
  go_region_held3 (fun w' => w'.cell? ⟨w.heap.size, 0, none⟩ = some (.slice a len cap) ∧ w'.cell? ⟨vb, 0, none⟩ = some (.slice bv len cpv) ∧ w'.cell? ⟨xb, 0, none⟩ = some (.slice xa xl xc) ∧ Below w15.heap.size w15 w')
    (first
      | exact HSa.out
      | exact hS16
      | exact hS17
      | exact hS18
      | exact hS19
      | exact hS20)
    (first
      | (go_at_call 17; have hq := hS19; refine (rSame_any a xa len cap xl xc fs xf _ (by exact HF.out.below (HS.out.1.trans (hS19.2.2.2.mono HS.out.1.size))) (by exact HFx.out.below hS19.2.2.2)).mono ?_; rintro e w20 ⟨rfl, hg20⟩; have hS20 := tells_keep hS19 hg20)
      | (go_at_call 17; refine (rSame_any a bv len cap len cpv fs fs _ (by exact HF.out.below (HS.out.1.trans (HSa.out.2.2.2.mono HS.out.1.size))) (by exact HFv.out.below HSa.out.2.2.2)).mono ?_; rintro e w16 ⟨rfl, hg16⟩; have hS16 := tells_keep HSa.out hg16)
      | (go_at_call 20; refine (prMay_any a len cap fs _ (by exact HR.out.later hS16.2.2.2) (by exact HF.out.below (HS.out.1.trans (hS16.2.2.2.mono HS.out.1.size)))).mono ?_; rintro e w17 ⟨rfl, hg17⟩; have hS17 := tells_keep hS16 hg17)
      | (go_at_call 21; refine (pmay_any a len cap fs _ (by exact HF.out.below (HS.out.1.trans (hS17.2.2.2.mono HS.out.1.size)))).mono ?_; rintro e w18 ⟨rfl, hg18⟩; have hS18 := tells_keep hS17 hg18)
      | (go_at_call 22; refine (prSame_any a xa len cap xl xc fs xf _ (by exact HF.out.below (HS.out.1.trans (hS18.2.2.2.mono HS.out.1.size))) (by exact HFx.out.below hS18.2.2.2)).mono ?_; rintro e w19 ⟨rfl, hg19⟩; have hS19 := tells_keep hS18 hg19))
  have hbe := HS.out.1.trans (hS20.2.2.2.mono HS.out.1.size)
  clear hS16 hS17 hS18 hS19 hS20 hg16 hg17 hg18 hg19 hg20 c0 x0 v0
  go_wp2
  go_ret
  exact ⟨rfl, hbe⟩
end Go.Proofs.YtlbhmopmfddhjaaDoor
