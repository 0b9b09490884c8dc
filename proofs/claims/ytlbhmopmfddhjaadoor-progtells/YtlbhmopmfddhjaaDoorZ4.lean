/-
  What package prog's Swap returns, as a contract over the translated program: where it has no error.
-/
import Derived.Test.YtlbhmopmfddhjaaDoorZ2
import Derived.OwnWalk
import Derived.Deep.RegionLaw
import Derived.Deep.AppendLies
import Derived.Deep.DrawnRows
namespace Go.Proofs.YtlbhmopmfddhjaaDoor
open Go.RowKit

attribute [local go_sem ↓] Go.wp_at_zero Go.wp_at_succ

section
variable {w W : World} {a b : Option Addr} {len cap l cc : Nat} {g : Int}
theorem Sw.base (h : Sw w W a len cap g b l cc) : Below ((w.alloc (.cells #[.slice a len cap] 24)).alloc (.cells #[.int .i64 g, .slice b l cc] 28)).heap.size ((w.alloc (.cells #[.slice a len cap] 24)).alloc (.cells #[.int .i64 g, .slice b l cc] 28)) W := by
  have hs : ((w.alloc (.cells #[.slice a len cap] 24)).alloc (.cells #[.int .i64 g, .slice b l cc] 28)).heap.size = w.heap.size + 1 + 1 := by simp
  have hx : Below w.heap.size w ((w.alloc (.cells #[.slice a len cap] 24)).alloc (.cells #[.int .i64 g, .slice b l cc] 28)) := ((Below.refl _ _).alloc (Nat.le_refl _) _).alloc (by simp) _
  have h1 := Box.new (w.alloc (.cells #[.slice a len cap] 24)) 28 #[.int .i64 g, .slice b l cc]
  rw [show (w.alloc (.cells #[.slice a len cap] 24)).heap.size = w.heap.size + 1 by simp] at h1
  have h0 := (Box.new w 24 #[.slice a len cap]).alloc (.cells #[.int .i64 g, .slice b l cc] 28)
  refine ⟨h.1.os.trans hx.os.symm, h.1.tape.trans hx.tape.symm, h.1.output.trans hx.output.symm, ?_, fun k hk => ?_⟩
  · rw [hs]
    exact Nat.le_of_lt h.2.2.2.2.lt
  · rw [hs] at hk
    by_cases hk1 : k < w.heap.size
    · exact (h.1.block k hk1).trans (hx.block k hk1).symm
    · by_cases hk2 : k = w.heap.size
      · subst hk2
        exact Eq.trans h.2.2.1 h0.symm
      · obtain rfl : k = w.heap.size + 1 := by omega
        exact Eq.trans h.2.2.2.1 h1.symm
end
theorem set_getD_self (fs : List Fun) (k : Nat) (f : Fun) (h : k < fs.length) : (fs.set k f).getD k zeroF = f := by
  simp [List.getD_eq_getElem?_getD, h]
theorem set_getD_other (fs : List Fun) (k j : Nat) (f : Fun) (h : k ≠ j) : (fs.set k f).getD j zeroF = fs.getD j zeroF := by
  simp [List.getD_eq_getElem?_getD, h]
theorem take_succ_set (fs : List Fun) (k : Nat) (args : Int) (code : List I) (h : k < fs.length) (hi : fs.getD k zeroF = (args, code)) : fs.take (k + 1) = fs.take k ++ [(args, code)] := by
  rw [take_getD fs k zeroF h, hi]
theorem Inv.later {w W W' : World} {O R k : Nat} {v : Value} {xs : List Value} {fs : List Fun} (h : Inv w O R W k v xs fs) (hb : Below W.heap.size W W') : Inv w O R W' k v xs fs :=
  ⟨ownsRow_below h.1 hb, h.2.1.below hb, h.2.2.1.below hb h.2.2.1.lt, h.2.2.2.1.below hb h.2.2.2.1.lt, h.2.2.2.2.1.trans (hb.mono h.2.2.2.2.1.size), h.2.2.2.2.2⟩

set_option maxRecDepth 100000 in
set_option maxHeartbeats 20000000 in
theorem prSwap_ok (y : Addr) (len cap : Nat) (fs : List Fun) (k0 : Nat) (g : Int) (b : Option Addr) (l cc : Nat) (c d : List I) (w : World) (hR : RowsIn w) (h : FnsAt w (some y) len cap fs) (hC : CodeAt w b l cc c) (hM : mayP fs = true) (hB : codeB c = true) (hk0 : k0 < len) (hg : fs.getD k0 zeroF = (g, d)) :
    Calls Tryd.prog 18 #[.agg #[.slice (some y) len cap], .int .i64 k0, .agg #[.int .i64 g, .slice b l cc]] w (SwapPost fs k0 g c w) := by
  obtain ⟨i28, hi28, hz0, hz1, hz2⟩ := info_parts info28
  have HS := Lib.hid (Sw.start (a := some y) (len := len) (cap := cap) (g := g) (b := b) (l := l) (cc := cc) hR)
  have HF := Lib.hid h
  have HC := Lib.hid hC
  have H1 := Lib.hid h.1
  have HM := Lib.hid hM
  have HB := Lib.hid hB
  have HG := Lib.hid hg
  have hlen := mayP_len hM
  rw [h.1] at hlen
  obtain ⟨hlen1, hlen8⟩ := hlen
  have hm : len ≤ 9223372036854775807 := by omega
  have HY : Hid (∀ k, k < len → FnHere w (y.add (k * 2)) (fs.getD k zeroF)) := by
    rcases h.2.2.2 with h | ⟨y', h, h6⟩
    · omega
    · cases h
      exact Lib.hid h6
  clear h hC hM hB hg
  go_enter Tryd.func18, Tryd.ntmps18
  go_wp2_with fail
  refine (prMay_any (some y) len cap fs _ HS.out.rows (HF.out.below HS.out.1)).mono ?_
  rintro e w1 ⟨rfl, hg⟩
  replace HS := Lib.hid (HS.out.later hg)
  rw [HM.out]
  have c2 := HS.out.c2
  clear hg
  go_wp2_with fail
  refine (mayCode_any b l cc c _ HS.out.rows (HC.out.below HS.out.1)).mono ?_
  rintro e w2 ⟨rfl, hg⟩
  replace HS := Lib.hid (HS.out.later hg)
  rw [HB.out]
  clear hg c2
  have c0 := HS.out.c0
  have c1 := HS.out.c1
  have hkI : (k0 : Int) < (len : Int) := by omega
  have hkJ : (0 : Int) ≤ (k0 : Int) := by omega
  have i0 := (FnHere.below (HY.out k0 hk0) HS.out.1).1
  rw [HG.out] at i0
  simp only at i0
  have g1 : decide ((k0 : Int) < 0) = false := by simp
  have g2 : decide (len ≤ k0) = false := by simpa using hk0
  go_wp2_with fail
  go_quiet (fail)
  have hS' : Sw w (w2.drewN nq) (some y) len cap g b l cc := ⟨belowDrewN HS.out.1 nq, HS.out.2⟩
  have HS' := Lib.hid hS'
  clear c0 c1 i0 hS' HS
  generalize w2.drewN nq = w3 at *
  have c0 := HS'.out.c0
  have hl0 := lt_of_cell c0
  go_wp2
  have hInv : Inv ((w.alloc (.cells #[.slice (some y) len cap] 24)).alloc (.cells #[.int .i64 g, .slice b l cc] 28)) w3.heap.size (w.heap.size + 1 + 1) (w3.alloc (.cells #[.slice none 0 0] 24)) 0 (.slice none 0 0) [] [] :=
    ⟨World.ownsRow_nil _ _ _ _, Codes.nil _ _ _, Box.new w3 24 #[.slice none 0 0], HS'.out.2.2.2.2.alloc _, HS'.out.base.alloc HS'.out.base.size _, by simp, HS'.out.2.2.2.2.lt⟩
  have HInv := Lib.hid hInv
  have hRO : w.heap.size + 1 + 1 < w3.heap.size := HS'.out.2.2.2.2.lt
  obtain ⟨Wb, hWb⟩ : ∃ Wb, ((w.alloc (.cells #[.slice (some y) len cap] 24)).alloc (.cells #[.int .i64 g, .slice b l cc] 28)) = Wb := ⟨_, rfl⟩
  rw [hWb] at HInv
  have HBb : Hid (Below w.heap.size w Wb ∧ Wb.heap.size = w.heap.size + 1 + 1 ∧ Box Wb (w.heap.size + 1) 28 #[.int .i64 g, .slice b l cc]) := Lib.hid (by
    rw [← hWb]
    have h1 := Box.new (w.alloc (.cells #[.slice (some y) len cap] 24)) 28 #[.int .i64 g, .slice b l cc]
    rw [show (w.alloc (.cells #[.slice (some y) len cap] 24)).heap.size = w.heap.size + 1 by simp] at h1
    exact ⟨((Below.refl _ _).alloc (Nat.le_refl _) _).alloc (by simp) _, by simp, h1⟩)
  clear hInv hWb c0 HS' hl0 g1 g2
  generalize (w3.alloc (.cells #[.slice none 0 0] 24)) = W1 at *
  generalize w3.heap.size = O at *
  go_loopw [44] (fun i wr => ∃ (k : Nat) (v : Value) (xs : List Value), k ≤ len ∧ i = .int .i64 k ∧ Hid (Inv Wb O (w.heap.size + 1 + 1) wr k v xs ((fs.set k0 (g, c)).take k))) (fun i _ => len - (intOf i).toNat)
  case atStart => exact ⟨0, .slice none 0 0, [], by omega, rfl, HInv⟩
  case round =>
    obtain ⟨k, v, xs, hk, rfl, HI⟩ := hrel
    clear HInv
    have hb := HI.out.2.2.2.2.1
    have hbw := HBb.out.1.trans (hb.mono HBb.out.1.size)
    have hOl : O < wr.heap.size := HI.out.2.2.1.lt
    by_cases hkl : k < len
    · have hkI2 : (k : Int) < (len : Int) := by omega
      have hI := HY.out k hkl
      rcases hi : fs.getD k zeroF with ⟨args, code⟩
      rw [hi] at hI
      have HIk := Lib.hid hi
      have HBB := Lib.hid (fnB_facts (mayP_fn HM.out k (by rw [H1.out]; exact hkl)))
      rw [hi] at HBB
      obtain ⟨iw0, b', l', cc', iw1, hCode⟩ := hI
      simp only at iw0 iw1 hCode
      have i0' := (hbw.cell (lt_of_cell iw0)).trans iw0
      have i1 := (hbw.cell (lt_of_cell iw1)).trans iw1
      have hCw := hCode.below hbw
      have hl' : code.length = l' := hCode.1
      have hl64 : 1 ≤ l' ∧ l' ≤ 64 := by rw [← hl']; exact codeB_len HBB.out.1
      obtain ⟨hl1', hl64'⟩ := hl64
      obtain ⟨z, rfl, _⟩ := hCw.2.2.2.2.resolve_left (by omega)
      have HCw := Lib.hid hCw
      clear hi hCode iw0 iw1 hCw hl' hb
      by_cases hkk : k = k0
      · have hkkI : ((k : Int) == (k0 : Int)) = true := by rw [hkk]; simp
        have hcl := codeB_len HB.out
        have hcw := HC.out.below hbw
        rw [HC.out.1] at hcl
        obtain ⟨hcl1, hcl64⟩ := hcl
        obtain ⟨zc, rfl, _⟩ := hcw.2.2.2.2.resolve_left (by omega)
        have HTk : Hid ((fs.set k0 (g, c)).take (k + 1) = (fs.set k0 (g, c)).take k ++ [(g, c)]) := Lib.hid (take_succ_set _ k g c (by simp [H1.out]; exact hkl) (by rw [hkk]; exact set_getD_self fs k0 _ (by rw [H1.out]; exact hk0)))
        have hFb := HBb.out.2.2.below HI.out.2.2.2.2.1 HBb.out.2.2.lt
        have e0 : wr.cell? ⟨w.heap.size + 1, 0, none⟩ = some (.int .i64 g) := hFb.cell rfl
        have e1 : wr.cell? ⟨w.heap.size + 1, 1, none⟩ = some (.slice (some zc) l cc) := hFb.cell rfl
        have hFl : w.heap.size + 1 < wr.heap.size := hFb.lt
        have hlz : (y.add (k * 2)).block < wr.heap.size := lt_of_cell i0'
        have Hcw := Lib.hid hcw
        have hb' : Below wr.heap.size wr (wr.alloc (.cells #[.int .i64 g, .slice (some zc) l cc] 28)) := (Below.refl _ _).alloc (Nat.le_refl _) _
        have HI' := Lib.hid (HI.out.later hb')
        have HBox := Lib.hid (Box.new wr 28 #[.int .i64 g, .slice (some zc) l cc])
        have HCw' := Lib.hid (Hcw.out.below hb')
        clear hkk hcw hFb hb'
        go_wp2_with fail
        generalize (wr.alloc (.cells #[.int .i64 g, .slice (some zc) l cc] 28)) = W' at *
        have cO' : W'.cell? ⟨O, 0, none⟩ = some v := HI'.out.2.2.1.cell rfl
        have d0 : W'.cell? ⟨wr.heap.size, 0, none⟩ = some (.int .i64 g) := HBox.out.cell rfl
        have d1 : W'.cell? ⟨wr.heap.size, 1, none⟩ = some (.slice (some zc) l cc) := HBox.out.cell rfl
        clear i0' i1 e0 e1
        go_region_law
          ((first
            | (refine step_append_lies _ (by rfl) _ _ _ (by rfl) (O + 1) 28 i28 _ 2 32 Tryd.underlying22 hi28 hz0 hz1 hz2 rfl (by omega) v k xs (by rfl) (hOwn4.alloc _)
                ⟨w4.heap.size, 0, none⟩ 1 1 [.int .i64 g, .slice (some ⟨g4, 0, none⟩) l4 cp4] (by rfl) (by rfl) (World.news_of_block (cs := #[.int .i64 g, .slice (some ⟨g4, 0, none⟩) l4 cp4]) (t := 28) (fr := (0, 0)) (heap_alloc_new w4 _)) (by simp [Value.oneCell'])
                (by omega) (by unfold maxLen; omega) (by omega) (by simp; omega) (w4.heap.size + 1) (by simp) ?_
               intro g5 cp5 w5 hown5 hgrow5 hat5 hlt6
               obtain ⟨hO5, fO5⟩ := pushed_var HI'.out (HB14.out.trans (((Below.refl w4.heap.size w4).alloc (Nat.le_refl _) _).mono HB14.out.size)) hgrow5)
            | (go_simp; go_at_call 28; refine (clone_any zc l cc _ _ (by exact HCw'.out) (by omega) (by omega)).mono ?_
               rintro e w4 ⟨g4, l4, cp4, rfl, hb4, hone4⟩
               have HB14 := Lib.hid (show Below W'.heap.size W' w4 from ⟨hb4.os, hb4.tape, hb4.output, hb4.size, hb4.block⟩)
               have HOne4 := Lib.hid hone4
               have hOwn4 := ownsRow_below HI'.out.1 HB14.out
               have hc4 : w4.cell? ⟨O, 0, none⟩ = some v := (HI'.out.2.2.1.below HB14.out HI'.out.2.2.1.lt).cell rfl
               have hB40 : w4.cell? ⟨wr.heap.size, 0, none⟩ = some (.int .i64 g) := (HBox.out.below HB14.out HBox.out.lt).cell rfl
               have hlt4 : O < w4.heap.size := lt_of_cell hc4
               have hltb : wr.heap.size < w4.heap.size := lt_of_cell hB40
               have hle4 : O + 1 ≤ w4.heap.size := hlt4
               clear hb4 hone4)))
        all_goals
          have hInv5 := Lib.hid (pushed HI'.out HB14.out HOne4.out ((Below.refl w4.heap.size w4).alloc (Nat.le_refl _) _) hown5 hgrow5 hat5 (by simp))
          rw [← HTk.out] at hInv5
          clear hown5 hgrow5 hat5 hlt6 hO5 fO5 hOwn4 hc4 hB40 hlt4 hltb hle4 HB14 HOne4
          go_wp2
          exact ⟨⟨k + 1, _, _, by omega, by go_num, hInv5⟩, by simp [intOf]; omega⟩
      · have hkkI : ((k : Int) == (k0 : Int)) = false := beq_false_of_ne (by omega)
        have hb' : Below wr.heap.size wr (wr.alloc (.cells #[.int .i64 args, .slice (some z) l' cc'] 28)) := (Below.refl _ _).alloc (Nat.le_refl _) _
        have HI' := Lib.hid (HI.out.later hb')
        have HBox := Lib.hid (Box.new wr 28 #[.int .i64 args, .slice (some z) l' cc'])
        have HCw' := Lib.hid (HCw.out.below hb')
        have HBw' := Lib.hid hb'
        have HTk : Hid ((fs.set k0 (g, c)).take (k + 1) = (fs.set k0 (g, c)).take k ++ [(args, code)]) := Lib.hid (take_succ_set _ k args code (by simp [H1.out]; exact hkl) (by rw [set_getD_other fs k0 k _ (fun e => hkk e.symm)]; exact HIk.out))
        obtain ⟨W', hW'⟩ : ∃ W', wr.alloc (.cells #[.int .i64 args, .slice (some z) l' cc'] 28) = W' := ⟨_, rfl⟩
        rw [hW'] at HI' HBox HCw' HBw'
        have cO' : W'.cell? ⟨O, 0, none⟩ = some v := HI'.out.2.2.1.cell rfl
        have d0 : W'.cell? ⟨wr.heap.size, 0, none⟩ = some (.int .i64 args) := HBox.out.cell rfl
        have d1 : W'.cell? ⟨wr.heap.size, 1, none⟩ = some (.slice (some z) l' cc') := HBox.out.cell rfl
        have HWeq := Lib.hid hW'
        clear hb' hW' hkk
        go_wp2_with fail
        rw [HWeq.out]
        clear i0' i1
        go_wp2_with fail
        go_region_law
          ((first
            | (refine step_append_lies _ (by rfl) _ _ _ (by rfl) (O + 1) 28 i28 _ 2 32 Tryd.underlying22 hi28 hz0 hz1 hz2 rfl (by omega) v k xs (by rfl) (hOwn4.alloc _)
                ⟨w4.heap.size, 0, none⟩ 1 1 [.int .i64 args, .slice (some ⟨g4, 0, none⟩) l4 cp4] (by rfl) (by rfl) (World.news_of_block (cs := #[.int .i64 args, .slice (some ⟨g4, 0, none⟩) l4 cp4]) (t := 28) (fr := (0, 0)) (heap_alloc_new w4 _)) (by simp [Value.oneCell'])
                (by omega) (by unfold maxLen; omega) (by omega) (by simp; omega) (w4.heap.size + 1) (by simp) ?_
               intro g5 cp5 w5 hown5 hgrow5 hat5 hlt6
               obtain ⟨hO5, fO5⟩ := pushed_var HI'.out (HB14.out.trans (((Below.refl w4.heap.size w4).alloc (Nat.le_refl _) _).mono HB14.out.size)) hgrow5)
            | (go_simp; go_at_call 28; refine (clone_any z l' cc' _ _ (by exact HCw'.out) (by omega) (by omega)).mono ?_
               rintro e w4 ⟨g4, l4, cp4, rfl, hb4, hone4⟩
               have HB14 := Lib.hid (show Below W'.heap.size W' w4 from ⟨hb4.os, hb4.tape, hb4.output, hb4.size, hb4.block⟩)
               have HOne4 := Lib.hid hone4
               have hOwn4 := ownsRow_below HI'.out.1 HB14.out
               have hc4 : w4.cell? ⟨O, 0, none⟩ = some v := (HI'.out.2.2.1.below HB14.out HI'.out.2.2.1.lt).cell rfl
               have hB40 : w4.cell? ⟨wr.heap.size, 0, none⟩ = some (.int .i64 args) := (HBox.out.below HB14.out HBox.out.lt).cell rfl
               have hlt4 : O < w4.heap.size := lt_of_cell hc4
               have hltb : wr.heap.size < w4.heap.size := lt_of_cell hB40
               have hle4 : O + 1 ≤ w4.heap.size := hlt4
               clear hb4 hone4)))
        all_goals
          have hInv5 := Lib.hid (pushed HI'.out HB14.out HOne4.out ((Below.refl w4.heap.size w4).alloc (Nat.le_refl _) _) hown5 hgrow5 hat5 (by simp))
          rw [← HTk.out] at hInv5
          clear hown5 hgrow5 hat5 hlt6 hO5 fO5 hOwn4 hc4 hB40 hlt4 hltb hle4 HB14 HOne4
          go_wp2
          exact ⟨⟨k + 1, _, _, by omega, by go_num, hInv5⟩, by simp [intOf]; omega⟩
    · have hkI2 : ¬ (k : Int) < (len : Int) := by omega
      have hkn : k = len := by omega
      have HE : Hid ((fs.set k0 (g, c)).take k = fs.set k0 (g, c)) := Lib.hid (List.take_of_length_le (by rw [List.length_set, H1.out]; omega))
      rw [HE.out] at HI
      have HBR := Lib.hid HI.out.2.2.2.1
      obtain ⟨bv, cp, hv, hFns, hbe⟩ := HI.out.done (by rw [List.length_set, H1.out]; exact hkn.symm)
      subst hv
      have HFns := Lib.hid hFns
      have hbe2 := HBb.out.1.trans (hbe.mono HBb.out.1.size)
      have cO : wr.cell? ⟨O, 0, none⟩ = some (.slice bv k cp) := HI.out.2.2.1.cell rfl
      have HKN : Hid (fs.length = k) := Lib.hid (by rw [H1.out]; exact hkn.symm)
      clear hkn hFns hb hbe
      go_wp2_with (refine wpList_store_row rfl 24 _ _ rfl (w.heap.size + 1 + 1) _ rfl rfl 24 _ HBR.out (by kernel_rfl) rfl (by simp [Value.oneCell']) ?_)
      refine bodyPost_ret (v := .tuple #[.agg #[.slice bv k cp], .int .i64 0]) ?_ rfl ?_
      · exact results_prog_two Tryd.results18 _ _ (w.heap.size + 1 + 1) 24 _ _ rfl rfl rfl (setRow_heap _ _ _ _ _ _ HBR.out)
      · refine ⟨hbe2, .inr ⟨swapE_ok HM.out HB.out (by rw [H1.out]; exact hk0) HG.out, bv, cp, ?_, ?_⟩⟩
        · rw [HKN.out]
        · rw [HKN.out, Int.toNat_natCast]
          exact HFns.out
end Go.Proofs.YtlbhmopmfddhjaaDoor
