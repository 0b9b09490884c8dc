/-
  The walk of law ProgLong: it returns true for every program.
-/
import Derived.Test.YtlbhmopmfddhjaaDoorL0
namespace Go.Proofs.YtlbhmopmfddhjaaDoor
open Go.RowKit

set_option maxRecDepth 100000 in
set_option maxHeartbeats 8000000 in
theorem long_walk (a : Option Addr) (len cap : Nat) (fs : List Fun) (w : World) (hR : RowsIn w) (h : FnsAt w a len cap fs) :
    Calls Tryd.prog 6 #[.agg #[.slice a len cap]] w fun e w' => e = .returned (.bool true) ∧ Below w.heap.size w w' := by
  obtain ⟨i5, hi5, hz0, hz1, hz2⟩ := info_parts info5
  have HS := Lib.hid (St.start (a := a) (len := len) (cap := cap) hR)
  have HF := Lib.hid h
  have H1 := Lib.hid h.1
  have hm : len ≤ 9223372036854775807 := by have := h.2.1; have := h.2.2.1; unfold maxLen at this; omega
  have HOk := Lib.hid (fns_ok h)
  clear h
  go_enter Tryd.func6, Tryd.ntmps6
  go_wp2_with fail
  refine (awake_any _ HS.out.rows).mono ?_
  rintro e w1 ⟨rfl, hg⟩
  replace HS := Lib.hid (HS.out.later hg)
  have c := HS.out.cell
  clear hg
  go_wp2_with fail
  refine (few_any a len cap fs _ (HS.out.fns HF.out)).mono ?_
  rintro e w2 ⟨rfl, hg⟩
  replace HS := Lib.hid (HS.out.later hg)
  clear hg c
  rcases hfew : fewP fs with _ | _
  · go_wp2
    go_ret
    exact ⟨rfl, HS.out.1⟩
  have c := HS.out.cell
  clear hfew
  rcases hM : mayP fs with _ | _
  · have HM := Lib.hid hM
    clear hM
    go_wp2_with fail
    refine (prPut_no a len cap fs _ HS.out.rows (HS.out.fns HF.out) HM.out).mono ?_
    rintro e w3 ⟨rfl, hg⟩
    replace HS := Lib.hid (HS.out.later hg)
    clear hg c
    have c := HS.out.cell
    go_wp2_with fail
    refine (prMay_any a len cap fs _ HS.out.rows (HS.out.fns HF.out)).mono ?_
    rintro e w4 ⟨rfl, hg⟩
    replace HS := Lib.hid (HS.out.later hg)
    rw [HM.out]
    clear hg c
    go_wp2
    go_ret
    exact ⟨rfl, HS.out.1⟩
  have HM := Lib.hid hM
  have hlen := mayP_len hM
  rw [H1.out] at hlen
  clear hM
  go_wp2_with fail
  refine (prPut_yes a len cap fs _ HS.out.rows (HS.out.fns HF.out) HM.out).mono ?_
  rintro e w3 ⟨g, cp, rfl, hg, hgb, hc1, hc2, hB⟩
  replace HS := Lib.hid (HS.out.later hg)
  have HB := Lib.hid (put_slice HOk.out HM.out hc1 hc2 hB)
  have hL3 : 3 ≤ (encP fs).length := by simp [encP]
  have hL5 : (encP fs).length ≤ 4115 := by
    have := headB_len HM.out fs.length (Nat.le_refl _)
    rwa [headB_end rfl] at this
  have HE : Hid (headB fs len = encP fs) := Lib.hid (headB_end H1.out)
  generalize hL : (encP fs).length = L at *
  have HL := Lib.hid hL
  clear hg hgb hB c hL hc2
  obtain ⟨y, rfl, hy⟩ := HF.out.2.2.2.resolve_left (by omega)
  have HY := Lib.hid hy
  clear hy
  go_wp2_with fail
  go_loopw [7, 8] (fun n i wr => ∃ k q : Nat, k ≤ len ∧ i = .int .i64 k ∧ n = .int .i64 q ∧ Hid ((headB fs k).length = q) ∧ Hid (St w wr (some y) len cap) ∧ Hid (SliceB wr (some ⟨g, 0, none⟩) L cp (encP fs))) (fun _ i _ => len - (intOf i).toNat)
  case atStart => exact ⟨0, 3, by omega, rfl, rfl, Lib.hid (by simp [headB, encFs]), HS, HB⟩
  case round =>
    clear HS HB
    obtain ⟨k, q, hk, rfl, rfl, HQ, HS, HB⟩ := hrel
    have c := HS.out.cell
    have hq : q ≤ 4115 := by rw [← HQ.out]; exact headB_len HM.out k (by rw [H1.out]; exact hk)
    by_cases hkl : k < len
    · have hkI : (k : Int) < (len : Int) := by omega
      have hI := FnHere.below (HY.out k hkl) HS.out.1
      rcases hi : fs.getD k zeroF with ⟨args, code⟩
      rw [hi] at hI
      have HI := Lib.hid hi
      obtain ⟨i0, b, l, cc, i1, hCode⟩ := hI
      simp only at i0 i1 hCode
      have hl : code.length = l := hCode.1
      have hl64 : l ≤ 64 := by
        have hBB := fnB_facts (mayP_fn HM.out k (by rw [H1.out]; exact hkl))
        rw [hi] at hBB
        have := (codeB_len hBB.1).2
        simp only at this
        omega
      have HQ2 : Hid ((headB fs (k + 1)).length = q + 2 + 8 * l) := Lib.hid (by
        rw [headB_succ_len (by rw [H1.out]; exact hkl) HI.out, HQ.out, hl])
      clear hi hl hCode
      go_wp2
      go_roundw
      case rel => exact ⟨k + 1, q + 2 + 8 * l, by omega, by go_num, by go_num, HQ2, HS, HB⟩
      case measure => simp [intOf]; omega
    · have hkI : ¬ (k : Int) < (len : Int) := by omega
      obtain rfl : k = len := by omega
      have hqL : q = L := by rw [← HQ.out, HE.out, HL.out]
      subst hqL
      have HT : Hid (SliceB wr (some ⟨g, 0, none⟩) (q - 1) cp ((encP fs).take (q - 1))) := Lib.hid ⟨by rw [List.length_take, HL.out]; omega, by omega, HB.out.2.2.1, fun z hz => HB.out.2.2.2.1 z (List.mem_of_mem_take hz), .inr ⟨_, rfl, by
        rcases HB.out.2.2.2.2 with h0 | ⟨x, hx, hB⟩
        · omega
        · cases hx
          exact bytesAt_take hB _⟩⟩
      have HN1 := Lib.hid (getP_cut HOk.out HM.out (q - 1) (by rw [HL.out]; omega))
      have HN2 := Lib.hid (getP_more HOk.out HM.out)
      go_wp2_with fail
      refine (prGet_no _ (q - 1) cp _ wr HS.out.rows HT.out HN1.out).mono ?_
      rintro e w4 ⟨rfl, hg⟩
      replace HS := Lib.hid ((HS.out.later hg).alloc (.cells #[.slice none 0 0] 24))
      have hb4 := hg.trans (((Below.refl _ _).alloc (Nat.le_refl _) (.cells #[.slice none 0 0] 24)).mono hg.size)
      replace HB := Lib.hid (HB.out.below hb4)
      obtain ⟨x, hx, hBx⟩ := HB.out.2.2.2.2.resolve_left (by omega)
      cases hx
      have HBx := Lib.hid (bytesV_at hBx)
      have hsz := HS.out.1.size
      have hlx : (bytesV (encP fs)).length = q * 1 := by rw [bytesV_len, HL.out]; omega
      have HLX := Lib.hid hlx
      clear hg hb4 hBx hlx c HT HN1
      go_wp2_with (at_builtin; refine wpList_append_lies _ rfl _ _ _ rfl w.heap.size 5 i5 _ 1 1 Tryd.underlying25 hi5 hz0 hz1 hz2 rfl (by omega) (.slice none 0 0) 0 [] rfl (World.ownsRow_nil _ _ _ _) ⟨g, 0, none⟩ q cp (bytesV (encP fs)) rfl HLX.out HBx.out (bytesV_one _) (by omega) (by unfold maxLen; omega) (by omega) hsz _ rfl ?_)
      intro g5 cp5 w5 hown5 hgrow5 hat5 hlt5
      have hg5 : g5 = w4.heap.size + 1 := by
        rcases hat5 with h | h
        · cases h
        · exact h
      have hsA : (w4.alloc (.cells #[.slice none 0 0] 24)).heap.size = w4.heap.size + 1 := by simp
      have hb5 : Below (w4.heap.size + 1) (w4.alloc (.cells #[.slice none 0 0] 24)) w5 := (Below.refl _ _).grown hgrow5 (by omega) (fun k hk => by cases hk)
      have HB5 := Lib.hid hb5
      have HG5 := Lib.hid hg5
      have HSA := Lib.hid hsA
      have hs5 : w4.heap.size + 1 ≤ w5.heap.size := by have := hb5.size; omega
      have hsw : w.heap.size ≤ w5.heap.size := by omega
      clear hgrow5 hat5 hg5 hsA hb5
      go_wp2_with (at_builtin; refine wpList_append_lies _ rfl _ _ _ rfl w.heap.size 5 i5 _ 1 1 Tryd.underlying25 hi5 hz0 hz1 hz2 rfl (by omega) (.slice (some ⟨g5, 0, none⟩) q cp5) q (bytesV (encP fs)) rfl (hown5.alloc _) ⟨w5.heap.size, 0, none⟩ 1 1 [.int .u8 0] rfl rfl (World.news_of_block (cs := #[.int .u8 0]) (t := 5) (fr := (0, 0)) (heap_alloc_new w5 _)) (by simp [Value.oneCell']) (by omega) (by unfold maxLen; omega) (by omega) (by simp; omega) (w5.heap.size + 1) (by simp) ?_)
      intro g6 cp6 w6 hown6 hgrow6 hat6 hlt6
      have hb6 : Below (w4.alloc (.cells #[.slice none 0 0] 24)).heap.size (w4.alloc (.cells #[.slice none 0 0] 24)) w6 := by
        rw [HSA.out]
        exact (HB5.out.alloc (by omega) _).grown hgrow6 (by simp; omega) (fun k hk => by
          have := HG5.out
          simp [Value.ownBlock] at hk
          omega)
      replace HS := Lib.hid (HS.out.later hb6)
      have HB6 : Hid (SliceB w6 (some ⟨g6, 0, none⟩) (q + 1) cp6 (encP fs ++ [0])) := Lib.hid (by
        have hO : w6.ownsRow w.heap.size 5 1 (.slice (some ⟨g6, 0, none⟩) (q + 1) cp6) (q + 1) (bytesV (encP fs ++ [0])) := by
          rw [← bytesV_append]
          exact hown6
        obtain ⟨_, e1, e2, e3⟩ := bytesV_own hO (by simp [HL.out])
        refine ⟨by simp [HL.out], e1, e2, fun z hz => ?_, .inr ⟨_, rfl, e3⟩⟩
        rcases List.mem_append.1 hz with hz | hz
        · exact encP_byteL HOk.out HM.out z hz
        · rw [List.mem_singleton.1 hz]
          omega)
      clear hown5 hown6 hgrow6 hat6 hlt6 hb6 HB
      go_wp2_with fail
      refine (prGet_no _ (q + 1) cp6 _ w6 HS.out.rows HB6.out HN2.out).mono ?_
      rintro e w7 ⟨rfl, hg⟩
      replace HS := Lib.hid ((HS.out.later hg).alloc (.cells #[.slice none 0 0] 24))
      have c := HS.out.cell
      clear hg
      go_wp2_with fail
      refine (prSame_any (some y) (some y) k cap k cap fs fs _ (HS.out.fns HF.out) (HS.out.fns HF.out)).mono ?_
      rintro e w8 ⟨rfl, hg⟩
      replace HS := Lib.hid (HS.out.later hg)
      rw [decide_eq_true (rfl : fs = fs)]
      clear hg c
      go_wp2
      go_ret
      exact ⟨rfl, HS.out.1⟩
end Go.Proofs.YtlbhmopmfddhjaaDoor
