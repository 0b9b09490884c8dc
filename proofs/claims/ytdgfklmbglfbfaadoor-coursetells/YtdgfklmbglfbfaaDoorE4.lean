/-
  What the eighth reference's Longest returns, as a contract over the translated program.
-/
import Derived.Test.YtdgfklmbglfbfaaDoorE2
import Derived.Test.YtdgfklmbglfbfaaDoorD1
import Derived.Deep.DeepCutAuto
namespace Go.Proofs.YtdgfklmbglfbfaaDoor
open Go Go.RowKit
set_option linter.unusedVariables false
theorem BoolsAt.set {W : World} {b : Option Addr} {l cp g : Nat} {zs : List Bool} (h : BoolsAt W b l cp zs) (hne : ∀ y, b = some y → y.block ≠ g) (i : Nat) (v : Value) : BoolsAt (W.setCell ⟨g, i, none⟩ v) b l cp zs := by
  obtain ⟨h1, h2, h3, h4⟩ := h
  refine ⟨h1, h2, h3, h4.imp id (fun ⟨y, e, h⟩ => ⟨y, e, fun j hj => ?_⟩)⟩
  exact ((grownBy_setCell W ⟨g, i, none⟩ v).cell_far _ (lt_of_cell (h j hj)) (by rw [add_block]; exact fun e' => hne y e (Option.some.inj e'))).trans (h j hj)
theorem cost_other {calls : List Int} {i : I} (h : i.1 ≠ 6) : costP calls i = 1 := by rw [costP, if_neg h]
theorem cost_call {calls : List Int} {i : I} {g : Nat} {z : Int} (h : i.1 = 6) (hm : i.2.2.2.2.2.2 = (g : Int)) (hz : calls.getD g 0 = z) : costP calls i = if 0 ≤ z ∧ z ≤ 1000000 then 1 + z else 1 := by
  rw [costP, if_pos h, calledP, hm]
  simp only [Int.toNat_natCast, hz]
  split <;> omega
/- what holds of the row and the marks -/
def LI (w : World) (G n : Nat) (f : Nat → Int) (b : Option Addr) (l cp : Nat) (zs : List Bool) (W : World) : Prop :=
  Below w.heap.size w W ∧ Vals W G 3 n (fun p => .int .i64 (f p)) ∧ BoolsAt W b l cp zs
theorem LI.later {w W W' : World} {G n l cp : Nat} {f : Nat → Int} {b : Option Addr} {zs : List Bool} (h : LI w G n f b l cp zs W) (hb : Below W.heap.size W W') : LI w G n f b l cp zs W' :=
  ⟨h.1.trans (hb.mono h.1.size), h.2.1.later hb, h.2.2.below hb⟩
theorem LI.same {w W : World} {G n l cp : Nat} {f f' : Nat → Int} {b : Option Addr} {zs : List Bool} (h : LI w G n f b l cp zs W) (he : ∀ p, p < n → f p = f' p) : LI w G n f' b l cp zs W :=
  ⟨h.1, h.2.1.same (fun p hp => by rw [he p hp]), h.2.2⟩
theorem LI.put {w W : World} {G n l cp t : Nat} {f : Nat → Int} {b : Option Addr} {zs : List Bool} (h : LI w G n f b l cp zs W) (hG : w.heap.size ≤ G) (ht : t < n) (hne : ∀ y, b = some y → y.block ≠ G) (z : Int) : LI w G n (fun p => if p = t then z else f p) b l cp zs (W.setCell ⟨G, t, none⟩ (.int .i64 z)) :=
  ⟨h.1.setCell hG _, (h.2.1.put ht (.int .i64 z)).same (fun p _ => by by_cases hp : p = t <;> simp [hp]), h.2.2.set hne t _⟩
set_option maxRecDepth 100000 in
set_option maxHeartbeats 16000000 in
theorem rlong_any (a : Option Addr) (len cap : Nat) (c : List I) (ca : Option Addr) (cn cc : Nat) (calls : List Int) (w : World) (h : CodeAt w a len cap c) (hcalls : IntsAt w ca cn cc calls) :
    Calls Tryd.prog 18 #[.slice a len cap, .slice ca cn cc] w fun e w' => e = .returned (.int .i64 (longP calls c)) ∧ Below w.heap.size w w' := by
  have hm : len ≤ 9223372036854775807 := by have := h.2.1; have := h.2.2.1; unfold maxLen at this; omega
  have hcm := hcalls.max
  have H := Lib.hid h
  have H1 := Lib.hid h.1
  have HCa := Lib.hid hcalls
  obtain ⟨R, hR0⟩ : ∃ R, longP calls c = R := ⟨_, rfl⟩
  rw [hR0]
  have HT := Lib.hid hR0
  have k1 := rmay_any a len cap c w h
  clear hR0 h hcalls
  go_enter Tryd.func18, Tryd.ntmps18
  go_wp2_with fail
  obtain ⟨Q, hQ⟩ : ∃ Q, codeB c = Q := ⟨_, rfl⟩
  rw [hQ] at k1
  have HQ := Lib.hid hQ
  clear hQ
  refine k1.mono ?_
  rintro e m1 ⟨rfl, hb1⟩
  have HB := Lib.hid hb1
  clear k1 hb1
  cases Q
  · have hT : Hid (R = 0) := Lib.hid (by rw [← HT.out, longP, HQ.out]; simp)
    go_wp2_with fail
    go_ret
    exact ⟨by rw [hT.out]; rfl, HB.out⟩
  have hT : Hid (R = min (bst calls c len len).2 1000000) := Lib.hid (by rw [← HT.out, longP, HQ.out, H1.out]; simp)
  have h64 : len ≤ 64 := by have := (codeB_len HQ.out).2; have := H1.out; omega
  go_wp2_with (refine wpList_makeV 23 3 Tryd.underlying23 (.int .i64 0) 8 (by omega) infoI rfl _ rfl _ _ rfl len _ rfl rfl rfl (by omega) _ rfl ?_; intro w1 hV1 hgr hlt)
  have hb1 : Below m1.heap.size m1 w1 := ⟨hgr.os, hgr.tape, hgr.output, hgr.size, fun j hj => hgr.block j hj (by simp)⟩
  obtain ⟨G, hG⟩ : ∃ G, m1.heap.size = G := ⟨_, rfl⟩
  rw [hG] at hV1 hlt ⊢
  have HG : Hid (w.heap.size ≤ G) := Lib.hid (by rw [← hG]; exact HB.out.size)
  have HB1 : Hid (Below w.heap.size w w1) := Lib.hid (HB.out.trans (hb1.mono HB.out.size))
  have HV1 := Lib.hid hV1
  have HLt := Lib.hid hlt
  have k2 := rreach_any a len cap c w1 (H.out.below HB1.out)
  clear hV1 hgr hlt hb1 hG
  go_wp2_with fail
  refine k2.mono ?_
  rintro e m2 ⟨b, l, cp, rfl, hb2, hbo, hlow⟩
  have hl1 : l = len := by rw [← hbo.1, reachP, HQ.out]; simpa using H1.out
  subst hl1
  have HNe : Hid (∀ y, b = some y → y.block ≠ G) := Lib.hid (fun y hy => by have h1 := hlow y hy; have h2 := HLt.out; omega)
  have HGet : Hid (∀ k, k < l → (reachP c).getD k false = rch c k) := Lib.hid (fun k hk => by
    have h2 : k < c.length := by rw [H1.out]; exact hk
    simp [reachP, HQ.out, List.getD_eq_getElem?_getD, h2])
  have HI0 : Hid (LI w G l (fun p => (bst calls c l 0).1 p) b l cp (reachP c) m2) := Lib.hid ⟨HB1.out.trans (hb2.mono HB1.out.size), (HV1.out.later hb2).same (fun p _ => rfl), hbo⟩
  clear k2 hb2 hbo hlow HV1 HB1 HLt
  go_wp2_with fail
  go_loopw [7, 9] (fun o i wr => ∃ k : Nat, k ≤ l ∧ o = .int .i64 (bst calls c l k).2 ∧ i = .int .i64 k ∧ Hid (LI w G l (fun p => (bst calls c l k).1 p) b l cp (reachP c) wr)) (fun _ i _ => l - (intOf i).toNat)
  case atStart => exact ⟨0, by omega, rfl, rfl, HI0⟩
  case round =>
    obtain ⟨k, hk, rfl, rfl, HI⟩ := hrel
    clear HI0
    have hk0 : (0 : Int) ≤ (k : Int) := Int.natCast_nonneg _
    have hbd := bst_64 calls c l (k := k) (by omega)
    by_cases hkl : k < l
    · have hkI : (k : Int) < (l : Int) := by omega
      obtain ⟨y1, rfl, hy1⟩ := HI.out.2.2.2.2.2.resolve_left (by omega)
      have hc1 := hy1 k hkl
      rw [HGet.out k hkl] at hc1
      clear hy1
      obtain ⟨v, hv⟩ : ∃ v, rch c k = v := ⟨_, rfl⟩
      rw [hv] at hc1
      have HV := Lib.hid hv
      clear hv
      cases v
      · have e := bst_no (calls := calls) (n := l) HV.out
        have HI2 : Hid (LI w G l (fun p => (bst calls c l (k + 1)).1 p) (some y1) l cp (reachP c) wr) := Lib.hid (by rw [e]; exact HI.out)
        have HE := Lib.hid e
        clear e
        obtain ⟨lg, hlg⟩ : ∃ lg, (bst calls c l k).2 = lg := ⟨_, rfl⟩
        rw [hlg]
        have HLg := Lib.hid hlg
        clear hlg hbd
        go_wp2_with fail
        exact ⟨⟨k + 1, by omega, by rw [HE.out, HLg.out], by go_num, HI2⟩, by simp [intOf]; omega⟩
      have HE := Lib.hid (bst_yes (calls := calls) (n := l) HV.out)
      have hbk := hbd.1 k
      have hbl := hbd.2
      have HBd := Lib.hid hbd.1
      clear hbd
      have hck : wr.cell? ⟨G, k, none⟩ = some (.int .i64 ((bst calls c l k).1 k)) := HI.out.2.1.cell hkl
      have eak : (⟨G, 0, none⟩ : Addr).add k = ⟨G, k, none⟩ := addr_add G k
      obtain ⟨lg, hlg⟩ : ∃ lg, (bst calls c l k).2 = lg := ⟨_, rfl⟩
      obtain ⟨fk, hfk⟩ : ∃ fk, (bst calls c l k).1 k = fk := ⟨_, rfl⟩
      obtain ⟨f, hf⟩ : ∃ f, (bst calls c l k).1 = f := ⟨_, rfl⟩
      rw [hlg] at hbl HE ⊢
      rw [hfk] at hck hbk HE
      rw [hf] at HI HE HBd
      have hco := costP_le calls (c.getD k zeroI)
      obtain ⟨co, hcq⟩ : ∃ co, costP calls (c.getD k zeroI) = co := ⟨_, rfl⟩
      rw [hcq] at HE hco
      have HCo := Lib.hid hcq
      have HFk := Lib.hid hfk
      clear hlg hfk hf hcq
      obtain ⟨hbk0, hbk9⟩ := hbk
      obtain ⟨hbl0, hbl9⟩ := hbl
      obtain ⟨hco0, hco9⟩ := hco
      go_upto_region 12 with fail
      go_cut [72] (fun s wc => (∃ t : Bool, s = .bool t ∧ (t = true → ∃ (g : Nat) (z : Int), (c.getD k zeroI).2.2.2.2.2.2 = (g : Int) ∧ g < cn ∧ calls.getD g 0 = z ∧ 0 ≤ z ∧ z ≤ 1000000 ∧ co = 1 + z) ∧ (t = false → co = 1)) ∧ wr = wc)
      case first =>
        obtain ⟨y, rfl, hy⟩ := H.out.2.2.2.2.resolve_left (by omega)
        have hI := (hy k hkl).below HI.out.1
        have hok := H.out.2.2.2.1 _ (getD_mem c k zeroI (by rw [H1.out]; exact hkl))
        obtain ⟨i0, _, _, _, _, _, i6⟩ := hI
        generalize c.getD k zeroI = ii at *
        obtain ⟨o, a2, a3, a4, a5, a6, m⟩ := ii
        obtain ⟨hm0, hm1⟩ := hok
        simp only at i0 i6 hm0 hm1
        clear hy
        by_cases h6 : o = 6
        · obtain ⟨g, rfl⟩ : ∃ g : Nat, m = (g : Int) := ⟨m.toNat, by omega⟩
          have h6b : (o == 6) = true := by simpa using h6
          have hw1 : IntKind.i64.wrap (g : Int) = (g : Int) := wI _ (by omega) (by omega)
          by_cases hgl : g < cn
          · have hgI : (g : Int) < (cn : Int) := by omega
            obtain ⟨y2, rfl, hy2⟩ := (HCa.out.below HI.out.1).2.2.2.resolve_left (by omega)
            have hc := hy2 g hgl
            obtain ⟨z, hz⟩ : ∃ z, calls.getD g 0 = z := ⟨_, rfl⟩
            have hCz := cost_call (i := (o, a2, a3, a4, a5, a6, (g : Int))) h6 rfl hz
            rw [HCo.out] at hCz
            rw [hz] at hc
            have HZ := Lib.hid hz
            clear hy2 hz h6
            by_cases hz0 : z < 0
            · rw [if_neg (by omega)] at hCz
              have HCz := Lib.hid hCz
              clear hCz
              go_wp2_with fail
              go_meet
              exact ⟨⟨_, rfl, fun h => (by cases h), fun _ => HCz.out⟩, rfl⟩
            · by_cases hz1 : 1000000 < z
              · rw [if_neg (by omega)] at hCz
                have HCz := Lib.hid hCz
                clear hCz
                go_wp2_with fail
                go_meet
                exact ⟨⟨_, rfl, fun h => (by simp at h; omega), fun _ => HCz.out⟩, rfl⟩
              · rw [if_pos (by omega)] at hCz
                have HCz := Lib.hid hCz
                clear hCz
                go_wp2_with fail
                go_meet
                exact ⟨⟨_, rfl, fun _ => ⟨g, z, rfl, hgl, HZ.out, by omega, by omega, HCz.out⟩, fun h => by cases h⟩, rfl⟩
          · have hgI : ¬ (g : Int) < (cn : Int) := by omega
            have hCz := cost_call (calls := calls) (i := (o, a2, a3, a4, a5, a6, (g : Int))) (z := 0) h6 rfl (by
              have h1 : calls.length ≤ g := by have := HCa.out.1; omega
              rw [List.getD_eq_getElem?_getD, List.getElem?_eq_none h1]
              rfl)
            rw [HCo.out, if_pos (by omega)] at hCz
            have HCz := Lib.hid hCz
            clear h6 hCz
            go_wp2_with fail
            go_meet
            exact ⟨⟨_, rfl, fun h => (by cases h), fun _ => HCz.out⟩, rfl⟩
        · have h6b : (o == 6) = false := by simpa using h6
          have hCz := cost_other (calls := calls) (i := (o, a2, a3, a4, a5, a6, m)) h6
          rw [HCo.out] at hCz
          have HCz := Lib.hid hCz
          clear h6 hCz
          go_wp2_with fail
          go_meet
          exact ⟨⟨_, rfl, fun h => (by cases h), fun _ => HCz.out⟩, rfl⟩
      case rest =>
       obtain ⟨⟨tt, rfl, ht1, ht0⟩, rfl⟩ := hcut
       have HT1 := Lib.hid ht1
       have HT0 := Lib.hid ht0
       clear ht1 ht0
       go_upto_if 72 with fail
       go_cut [10] (fun s wc => s = .int .i64 co ∧ wr = wc)
       case first =>
        cases tt
        · obtain rfl : co = 1 := HT0.out rfl
          go_wp2_with fail
          go_meet
          exact ⟨rfl, rfl⟩
        · obtain ⟨g, z, hm0, hgl, hz, hz0, hz1, hcz⟩ := HT1.out rfl
          have HCz := Lib.hid hcz
          obtain ⟨y, rfl, hy⟩ := H.out.2.2.2.2.resolve_left (by omega)
          have i6 := ((hy k hkl).below HI.out.1).2.2.2.2.2.2
          rw [hm0] at i6
          obtain ⟨y2, rfl, hy2⟩ := (HCa.out.below HI.out.1).2.2.2.resolve_left (by omega)
          have hc := hy2 g hgl
          rw [hz] at hc
          have hgI : (g : Int) < (cn : Int) := by omega
          have hg0 : (0 : Int) ≤ (g : Int) := Int.natCast_nonneg _
          have hw2 : IntKind.i64.wrap (1 + z) = 1 + z := wI _ (by omega) (by omega)
          clear hy hy2 hm0 hz hcz
          go_wp2_with fail
          go_meet
          exact ⟨by rw [HCz.out], rfl⟩
       case rest =>
        obtain ⟨rfl, rfl⟩ := hcut
        have hwr : IntKind.i64.wrap (fk + co) = fk + co := wI _ (by omega) (by omega)
        obtain ⟨mx, hmx⟩ : ∃ mx, max lg (fk + co) = mx := ⟨_, rfl⟩
        rw [hmx] at HE
        have HMx := Lib.hid hmx
        clear hmx
        go_upto_if 91 with fail
        go_cut [7] (fun s wc => s = .int .i64 mx ∧ wr = wc)
        case first =>
          by_cases hmz : lg < fk + co
          · obtain rfl : mx = fk + co := by have := HMx.out; omega
            go_wp2_with fail
            go_meet
            exact ⟨rfl, rfl⟩
          · obtain rfl : mx = lg := by have := HMx.out; omega
            go_wp2_with fail
            go_meet
            exact ⟨rfl, rfl⟩
        case rest =>
          obtain ⟨rfl, rfl⟩ := hcut
          have k4 := rnext_any a l cap c (k : Int) wr (H.out.below HI.out.1)
          rw [show nextP c (k : Int) = castL (sucC c k) by rw [nextP, if_pos ⟨HQ.out, by omega, by rw [H1.out]; omega⟩]; rfl] at k4
          go_wp2_with fail
          refine k4.mono ?_
          rintro e' m4 ⟨b4, l4, cp4, rfl, hb4, hI4, hlow⟩
          have HI4 : Hid (LI w G l (fun p => upd f ((sucC c k).take 0) l (fk + co) p) (some y1) l cp (reachP c) m4) := Lib.hid ((HI.out.later hb4).same (fun p _ => by simp [upd]))
          have HN4 := Lib.hid hI4
          have HLs : Hid ((sucC c k).length = l4) := Lib.hid (by rw [← castL_len]; exact hI4.1)
          have hlm4 := hI4.max
          have HLow : Hid (∀ y, b4 = some y → y.block ≠ G) := Lib.hid (fun y hy => by have h1 := hlow y hy; have h2 := HI.out.2.1.lt; omega)
          clear k4 hb4 hI4 hlow HI hck hc1
          go_wp2_with fail
          go_loopw [13] (fun j wr3 => ∃ q : Nat, q ≤ l4 ∧ j = .int .i64 q ∧ Hid (LI w G l (fun p => upd f ((sucC c k).take q) l (fk + co) p) (some y1) l cp (reachP c) wr3) ∧ Hid (IntsAt wr3 b4 l4 cp4 (castL (sucC c k)))) (fun j _ => l4 - (intOf j).toNat)
          case atStart => exact ⟨0, by omega, rfl, HI4, HN4⟩
          case round =>
            obtain ⟨q, hq, rfl, HI5, HN5⟩ := hrel
            clear HI4 HN4
            have hq0 : (0 : Int) ≤ (q : Int) := Int.natCast_nonneg _
            by_cases hql : q < l4
            · have hqI : (q : Int) < (l4 : Int) := by omega
              obtain ⟨y4, rfl, hy4⟩ := HN5.out.2.2.2.resolve_left (by omega)
              have hc4 := hy4 q hql
              rw [castL_getD] at hc4
              obtain ⟨t, ht⟩ : ∃ t, (sucC c k).getD q 0 = t := ⟨_, rfl⟩
              rw [ht] at hc4
              have HTq := Lib.hid ht
              have ht0 : (0 : Int) ≤ (t : Int) := Int.natCast_nonneg _
              clear hy4 ht
              by_cases htl : t < l
              · have htI : (t : Int) < (l : Int) := by omega
                have hct : wr.cell? ⟨G, t, none⟩ = some (.int .i64 (upd f ((sucC c k).take q) l (fk + co) t)) := HI5.out.2.1.cell htl
                have hfz := HI5.out.2.1.free t
                have eat : (⟨G, 0, none⟩ : Addr).add t = ⟨G, t, none⟩ := addr_add G t
                have HSt : Hid (∀ p, upd f ((sucC c k).take (q + 1)) l (fk + co) p = if p = t then max (upd f ((sucC c k).take q) l (fk + co) t) (fk + co) else upd f ((sucC c k).take q) l (fk + co) p) := Lib.hid (fun p => upd_take (by rw [HLs.out]; exact hql) HTq.out htl p)
                have hul := upd_le HBd.out (C := fk + co) (by omega) ((sucC c k).take q) l t
                obtain ⟨ft, hft⟩ : ∃ ft, upd f ((sucC c k).take q) l (fk + co) t = ft := ⟨_, rfl⟩
                rw [hft] at HSt hul hct
                have HFt := Lib.hid hft
                clear hft
                obtain ⟨hul0, hul9⟩ := hul
                by_cases hmz : ft < fk + co
                · have HI6 : Hid (LI w G l (fun p => upd f ((sucC c k).take (q + 1)) l (fk + co) p) (some y1) l cp (reachP c) (wr.setCell ⟨G, t, none⟩ (.int .i64 (fk + co)))) := Lib.hid ((HI5.out.put HG.out htl HNe.out (fk + co)).same (fun p _ => by
                    rw [HSt.out p]
                    by_cases hpt : p = t
                    · rw [if_pos hpt, if_pos hpt]; omega
                    · rw [if_neg hpt, if_neg hpt]))
                  have HN6 := Lib.hid (HN5.out.set HLow.out t (.int .i64 (fk + co)))
                  go_wp2_with fail
                  exact ⟨⟨q + 1, by omega, by go_num, HI6, HN6⟩, by simp [intOf]; omega⟩
                · have HI6 : Hid (LI w G l (fun p => upd f ((sucC c k).take (q + 1)) l (fk + co) p) (some y1) l cp (reachP c) wr) := Lib.hid (HI5.out.same (fun p _ => by
                    rw [HSt.out p]
                    by_cases hpt : p = t
                    · rw [if_pos hpt, hpt, HFt.out]; omega
                    · rw [if_neg hpt]))
                  go_wp2_with fail
                  exact ⟨⟨q + 1, by omega, by go_num, HI6, HN5⟩, by simp [intOf]; omega⟩
              · have htI : ¬ (t : Int) < (l : Int) := by omega
                have HI6 : Hid (LI w G l (fun p => upd f ((sucC c k).take (q + 1)) l (fk + co) p) (some y1) l cp (reachP c) wr) := Lib.hid (HI5.out.same (fun p _ => (upd_far (by rw [HLs.out]; exact hql) HTq.out htl p).symm))
                go_wp2_with fail
                exact ⟨⟨q + 1, by omega, by go_num, HI6, HN5⟩, by simp [intOf]; omega⟩
            · have hqI : ¬ (q : Int) < (l4 : Int) := by omega
              have HI6 : Hid (LI w G l (fun p => (bst calls c l (k + 1)).1 p) (some y1) l cp (reachP c) wr) := Lib.hid (by
                rw [HE.out]
                refine HI5.out.same (fun p _ => ?_)
                rw [List.take_of_length_le (by rw [HLs.out]; omega)]
                rfl)
              go_wp2_with fail
              exact ⟨⟨k + 1, by omega, by rw [HE.out], by go_num, HI6⟩, by simp [intOf]; omega⟩
    · have hkI : ¬ (k : Int) < (l : Int) := by omega
      have hke : k = l := by omega
      have hz0 := hbd.2
      obtain ⟨z, hz⟩ : ∃ z, (bst calls c l k).2 = z := ⟨_, rfl⟩
      have hT2 : Hid (R = min z 1000000) := Lib.hid (by rw [hT.out, ← hz, hke])
      rw [hz] at hz0 ⊢
      have HBl := Lib.hid HI.out.1
      clear hz hke hbd
      obtain ⟨hz0, hz9⟩ := hz0
      by_cases hmz : 1000000 < z
      · have hE : Hid (R = 1000000) := Lib.hid (by rw [hT2.out]; omega)
        go_wp2_with fail
        go_ret
        exact ⟨by rw [hE.out]; rfl, HBl.out⟩
      · have hE : Hid (R = z) := Lib.hid (by rw [hT2.out]; omega)
        go_wp2_with fail
        go_ret
        exact ⟨by rw [hE.out]; rfl, HBl.out⟩
end Go.Proofs.YtdgfklmbglfbfaaDoor
