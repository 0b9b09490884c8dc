/-
  What the eighth reference's Budget returns, as a contract over the translated program.
-/
import Derived.Test.YtdgfklmbglfbfaaDoorE4
import Derived.Test.YtdgfklmbglfbfaaDoorD2
import Derived.Test.YtdgfklmbglfbfaaDoorW
namespace Go.Proofs.YtdgfklmbglfbfaaDoor
open Go Go.RowKit
set_option linter.unusedVariables false
theorem cstJ_zero (fs : List Fun) (h8 : fs.length ≤ 8) : ∀ j p, j ≤ fs.length → (p < fs.length - j ∨ fs.length ≤ p) → (cstJ fs j).getD p 0 = 0
  | 0, p, _, _ => by
    rw [cstJ, List.getD_eq_getElem?_getD, List.getElem?_replicate]
    split <;> rfl
  | j + 1, p, hj, hp => by
    have ih := cstJ_zero fs h8 j p (by omega) (by omega)
    rw [cstJ, List.getD_eq_getElem?_getD, List.getElem?_set_ne (by omega), ← List.getD_eq_getElem?_getD]
    exact ih
theorem cstJ_take (fs : List Fun) (h8 : fs.length ≤ 8) {j : Nat} (hj : j ≤ fs.length) (k : Nat) : ((cstJ fs j).take fs.length).getD k 0 = (cstJ fs j).getD k 0 := by
  by_cases hk : k < fs.length
  · rw [List.getD_eq_getElem?_getD, List.getElem?_take, if_pos hk, ← List.getD_eq_getElem?_getD]
  · rw [cstJ_zero fs h8 j k hj (.inr (by omega)), List.getD_eq_getElem?_getD, List.getElem?_take, if_neg hk]
    rfl
/- what is behind n, up to k -/
def bhd (zs : List Int) (n k p : Nat) : Int := if n < p ∧ p < k then zs.getD p 0 else 0
set_option maxRecDepth 100000 in
set_option maxHeartbeats 16000000 in
theorem rbudget_any (a : Option Addr) (len cap : Nat) (fs : List Fun) (w : World) (h : FnsAt w a len cap fs) :
    Calls Tryd.prog 22 #[.agg #[.slice a len cap]] w fun e w' => e = .returned (.int .i64 (budP fs)) ∧ Below w.heap.size w w' := by
  have hlm : len ≤ 9223372036854775807 := by have := h.2.1; have := h.2.2.1; unfold maxLen at this; omega
  have H := Lib.hid h
  have H1 := Lib.hid h.1
  obtain ⟨R, hR0⟩ : ∃ R, budP fs = R := ⟨_, rfl⟩
  rw [hR0]
  have HT := Lib.hid hR0
  obtain ⟨P, hP⟩ : ∃ P, w.heap.size = P := ⟨_, rfl⟩
  have hba : Below w.heap.size w (w.alloc (.cells #[.slice a len cap] 26)) := (Below.refl _ _).alloc (Nat.le_refl _) _
  obtain ⟨W0, hW0⟩ : ∃ W0, w.alloc (.cells #[.slice a len cap] 26) = W0 := ⟨_, rfl⟩
  have hBx : Box W0 P 26 #[.slice a len cap] := by rw [← hW0, ← hP]; exact Box.new _ _ _
  rw [hW0] at hba
  have HB0 := Lib.hid hba
  have HBx := Lib.hid hBx
  have HPq := Lib.hid hP
  have c0 : W0.cell? ⟨P, 0, none⟩ = some (.slice a len cap) := hBx.cell rfl
  have k1 := pmay_any a len cap fs W0 (h.below hba)
  clear hR0 h hba hBx
  go_enter Tryd.func22, Tryd.ntmps22
  go_wp2_with fail
  clear c0 hW0 hP
  obtain ⟨Q, hQ⟩ : ∃ Q, mayP fs = Q := ⟨_, rfl⟩
  rw [hQ] at k1
  have HQ := Lib.hid hQ
  clear hQ
  refine k1.mono ?_
  rintro e m1 ⟨rfl, hb1⟩
  have HB := Lib.hid (HB0.out.trans (hb1.mono HB0.out.size))
  have HBx1 := Lib.hid (HBx.out.later hb1)
  clear k1 hb1 HB0 HBx
  cases Q
  · have hT : Hid (R = 0) := Lib.hid (by rw [← HT.out, budP, HQ.out]; simp)
    go_wp2_with fail
    go_ret
    exact ⟨by rw [hT.out]; rfl, HB.out⟩
  have hT : Hid (R = (cstJ fs len).getD 0 0) := Lib.hid (by rw [← HT.out, budP, HQ.out, H1.out]; simp)
  have hl8 : 1 ≤ len ∧ len ≤ 8 := by have := mayP_len HQ.out; have := H1.out; omega
  obtain ⟨hl1, hl9⟩ := hl8
  have c0 : m1.cell? ⟨P, 0, none⟩ = some (.slice a len cap) := HBx1.out.cell rfl
  go_wp2_with (refine wpList_makeV 23 3 Tryd.underlying23 (.int .i64 0) 8 (by omega) infoI rfl _ rfl _ _ rfl len _ rfl rfl rfl (by omega) _ rfl ?_; intro w1 hV1 hgr hlt; have c01 : w1.cell? ⟨P, 0, none⟩ = some (.slice a len cap) := (HBx1.out.later ⟨hgr.os, hgr.tape, hgr.output, hgr.size, fun j hj => hgr.block j hj (by simp)⟩).cell rfl)
  have hb1 : Below m1.heap.size m1 w1 := ⟨hgr.os, hgr.tape, hgr.output, hgr.size, fun j hj => hgr.block j hj (by simp)⟩
  obtain ⟨G, hG⟩ : ∃ G, m1.heap.size = G := ⟨_, rfl⟩
  rw [hG] at hV1 hlt ⊢
  have HG : Hid (w.heap.size ≤ G) := Lib.hid (by rw [← hG]; exact HB.out.size)
  have HPG : Hid (P < G) := Lib.hid (by rw [← hG]; exact HBx1.out.lt)
  have HI0 : Hid (Box w1 P 26 #[.slice a len cap] ∧ Below w.heap.size w w1 ∧ Vals w1 G 3 len (fun p => .int .i64 ((cstJ fs 0).getD p 0))) := Lib.hid ⟨HBx1.out.later hb1, HB.out.trans (hb1.mono HB.out.size), hV1.same (fun p hp => by rw [cstJ_zero fs (by rw [H1.out]; exact hl9) 0 p (by omega) (.inl (by rw [H1.out]; omega))])⟩
  clear hV1 hgr hlt hb1 hG HBx1
  go_wp2_with fail
  clear c0 c01
  go_loopw [5] (fun i wr => ∃ j : Nat, j ≤ len ∧ i = .int .i64 ((len : Int) - 1 - (j : Int)) ∧ Hid (Box wr P 26 #[.slice a len cap] ∧ Below w.heap.size w wr ∧ Vals wr G 3 len (fun p => .int .i64 ((cstJ fs j).getD p 0)))) (fun i _ => (intOf i + 1).toNat)
  case atStart => exact ⟨0, by omega, by simp, HI0⟩
  case round =>
    obtain ⟨j, hj, rfl, HI⟩ := hrel
    clear HI0
    have hj0 : (0 : Int) ≤ (j : Int) := Int.natCast_nonneg _
    by_cases hjl : j < len
    · obtain ⟨k, hk⟩ : ∃ k : Nat, (len : Int) - 1 - (j : Int) = (k : Int) := ⟨len - 1 - j, by omega⟩
      have hkN : len - 1 - j = k := by omega
      have HKq := Lib.hid hkN
      have hkI : (k : Int) < (len : Int) := by omega
      have hk0 : (0 : Int) ≤ (k : Int) := Int.natCast_nonneg _
      have hkl : k < len := by omega
      rw [hk]
      have c0 : wr.cell? ⟨P, 0, none⟩ = some (.slice a len cap) := HI.out.1.cell rfl
      go_wp2_with (refine wpList_makeV 23 3 Tryd.underlying23 (.int .i64 0) 8 (by omega) infoI rfl _ rfl _ _ rfl len _ rfl rfl rfl (by omega) _ rfl ?_; intro w2 hV2 hgr2 hlt2; have c02 : w2.cell? ⟨P, 0, none⟩ = some (.slice a len cap) := (HI.out.1.later ⟨hgr2.os, hgr2.tape, hgr2.output, hgr2.size, fun j hj => hgr2.block j hj (by simp)⟩).cell rfl)
      have hb2 : Below wr.heap.size wr w2 := ⟨hgr2.os, hgr2.tape, hgr2.output, hgr2.size, fun j hj => hgr2.block j hj (by simp)⟩
      obtain ⟨G2, hG2⟩ : ∃ G2, wr.heap.size = G2 := ⟨_, rfl⟩
      rw [hG2] at hV2 hlt2 ⊢
      have HG2 : Hid (w.heap.size ≤ G2 ∧ G < G2) := Lib.hid (by rw [← hG2]; exact ⟨HI.out.2.1.size, HI.out.2.2.lt⟩)
      have HJ0 : Hid (Box w2 P 26 #[.slice a len cap] ∧ Below w.heap.size w w2 ∧ Vals w2 G 3 len (fun p => .int .i64 ((cstJ fs j).getD p 0)) ∧ Vals w2 G2 3 len (fun p => .int .i64 (bhd (cstJ fs j) k (k + 1) p))) := Lib.hid ⟨HI.out.1.later hb2, HI.out.2.1.trans (hb2.mono HI.out.2.1.size), HI.out.2.2.later hb2, hV2.same (fun p hp => by rw [bhd, if_neg (by omega)])⟩
      clear hV2 hgr2 hlt2 hb2 hG2 HI
      go_wp2_with fail
      clear c0 c02
      go_loopw [7] (fun i wr => ∃ q : Nat, k < q ∧ q ≤ len ∧ i = .int .i64 q ∧ Hid (Box wr P 26 #[.slice a len cap] ∧ Below w.heap.size w wr ∧ Vals wr G 3 len (fun p => .int .i64 ((cstJ fs j).getD p 0)) ∧ Vals wr G2 3 len (fun p => .int .i64 (bhd (cstJ fs j) k q p)))) (fun i _ => len - (intOf i).toNat)
      case atStart => exact ⟨k + 1, by omega, by omega, by go_num, HJ0⟩
      case round =>
        obtain ⟨q, hkq, hq, rfl, HJ⟩ := hrel
        clear HJ0
        have hq0 : (0 : Int) ≤ (q : Int) := Int.natCast_nonneg _
        have c0 : wr.cell? ⟨P, 0, none⟩ = some (.slice a len cap) := HJ.out.1.cell rfl
        by_cases hql : q < len
        · have hqI : (q : Int) < (len : Int) := by omega
          have hcq : wr.cell? ⟨G, q, none⟩ = some (.int .i64 ((cstJ fs j).getD q 0)) := HJ.out.2.2.1.cell hql
          have hcb : wr.cell? ⟨G2, q, none⟩ = some (.int .i64 (bhd (cstJ fs j) k q q)) := HJ.out.2.2.2.cell hql
          have hfz := HJ.out.2.2.2.free q
          have eaq : (⟨G, 0, none⟩ : Addr).add q = ⟨G, q, none⟩ := addr_add G q
          have eab : (⟨G2, 0, none⟩ : Addr).add q = ⟨G2, q, none⟩ := addr_add G2 q
          obtain ⟨z, hz⟩ : ∃ z, (cstJ fs j).getD q 0 = z := ⟨_, rfl⟩
          rw [hz] at hcq
          have HZ := Lib.hid hz
          clear hz
          have HJ2 : Hid (Box (wr.setCell ⟨G2, q, none⟩ (.int .i64 z)) P 26 #[.slice a len cap] ∧ Below w.heap.size w (wr.setCell ⟨G2, q, none⟩ (.int .i64 z)) ∧ Vals (wr.setCell ⟨G2, q, none⟩ (.int .i64 z)) G 3 len (fun p => .int .i64 ((cstJ fs j).getD p 0)) ∧ Vals (wr.setCell ⟨G2, q, none⟩ (.int .i64 z)) G2 3 len (fun p => .int .i64 (bhd (cstJ fs j) k (q + 1) p))) := Lib.hid
            ⟨HJ.out.1.other (by have := HG2.out.2; have := HPG.out; show P ≠ G2; omega) _, HJ.out.2.1.setCell HG2.out.1 _, HJ.out.2.2.1.other (by have := HG2.out.2; show G ≠ G2; omega) _, (HJ.out.2.2.2.put hql (.int .i64 z)).same (fun p hp => by
              unfold bhd
              by_cases hpq : p = q
              · rw [if_pos hpq, if_pos (by omega), hpq, HZ.out]
              · rw [if_neg hpq]
                by_cases hc : k < p ∧ p < q
                · rw [if_pos hc, if_pos (by omega)]
                · rw [if_neg hc, if_neg (by omega)])⟩
          go_wp2_with fail
          exact ⟨⟨q + 1, by omega, by omega, by go_num, HJ2⟩, by simp [intOf]; omega⟩
        · have hqI : ¬ (q : Int) < (len : Int) := by omega
          have hqe : q = len := by omega
          obtain ⟨y, rfl, hy⟩ := H.out.2.2.2.resolve_left (by omega)
          have hF := (hy k hkl).below HJ.out.2.1
          rcases hi : fs.getD k zeroF with ⟨args, code⟩
          rw [hi] at hF
          obtain ⟨i0, b, l, cc, i1, hCode⟩ := hF
          simp only at i0 i1 hCode
          have HInts : Hid (IntsAt wr (some ⟨G2, 0, none⟩) len len ((cstJ fs j).take len)) := Lib.hid (Vals.ints (HJ.out.2.2.2.same (fun p hp => by
            have h8 : fs.length ≤ 8 := by rw [H1.out]; exact hl9
            have e := cstJ_take fs h8 (j := j) (by rw [H1.out]; exact hj) p
            rw [H1.out] at e
            rw [e, bhd]
            by_cases hc : k < p ∧ p < q
            · rw [if_pos hc]
            · rw [if_neg hc, cstJ_zero fs h8 j p (by rw [H1.out]; exact hj) (.inl (by rw [H1.out]; omega))])) (by rw [List.length_take, cstJ_len]; omega) (by omega))
          obtain ⟨lo, hlo⟩ : ∃ lo, longP (cstJ fs j) code = lo := ⟨_, rfl⟩
          have k5 := rlong_any b l cc code (some ⟨G2, 0, none⟩) len len ((cstJ fs j).take len) wr hCode HInts.out
          have hLq : ∀ cd, longP ((cstJ fs j).take len) cd = longP (cstJ fs j) cd := fun cd => longP_ext (fun p => by
            have h8 : fs.length ≤ 8 := by rw [H1.out]; exact hl9
            have hj8 : j ≤ fs.length := by rw [H1.out]; exact hj
            have e := cstJ_take fs h8 hj8 p
            rw [H1.out] at e
            exact e) cd
          rw [hLq code, hlo] at k5
          clear hLq
          have HSt : Hid (∀ p, p < 8 → (cstJ fs (j + 1)).getD p 0 = if p = k then lo else (cstJ fs j).getD p 0) := Lib.hid (fun p hp => by
            rw [cstJ_step fs j p hp, H1.out, hkN, hi, ← hlo])
          have eak : (⟨G, 0, none⟩ : Addr).add k = ⟨G, k, none⟩ := addr_add G k
          clear hi hlo hCode hy hqe
          go_wp2_with fail
          refine k5.mono ?_
          rintro e' m5 ⟨rfl, hb5⟩
          have hck : m5.cell? ⟨G, k, none⟩ = some (.int .i64 ((cstJ fs j).getD k 0)) := (HJ.out.2.2.1.later hb5).cell hkl
          have hfz := (HJ.out.2.2.1.later hb5).free k
          have HI6 : Hid (Box (m5.setCell ⟨G, k, none⟩ (.int .i64 lo)) P 26 #[.slice (some y) len cap] ∧ Below w.heap.size w (m5.setCell ⟨G, k, none⟩ (.int .i64 lo)) ∧ Vals (m5.setCell ⟨G, k, none⟩ (.int .i64 lo)) G 3 len (fun p => .int .i64 ((cstJ fs (j + 1)).getD p 0))) := Lib.hid
            ⟨(HJ.out.1.later hb5).other (by have := HPG.out; show P ≠ G; omega) _, (HJ.out.2.1.trans (hb5.mono HJ.out.2.1.size)).setCell HG.out _, ((HJ.out.2.2.1.later hb5).put hkl (.int .i64 lo)).same (fun p hp => by
              rw [HSt.out p (by omega)]
              by_cases hpk : p = k
              · rw [if_pos hpk, if_pos hpk]
              · rw [if_neg hpk, if_neg hpk])⟩
          clear k5 hb5 HJ HInts c0 i0 i1
          go_wp2_with fail
          exact ⟨⟨j + 1, by omega, by congr 1; omega, HI6⟩, by simp [intOf] <;> omega⟩
    · have hm1 : (len : Int) - 1 - (j : Int) = -1 := by omega
      have hje : j = len := by omega
      rw [hje] at HI
      have c0 : wr.cell? ⟨G, 0, none⟩ = some (.int .i64 ((cstJ fs len).getD 0 0)) := HI.out.2.2.cell (p := 0) (by omega)
      have ea0 : (⟨G, 0, none⟩ : Addr).add 0 = ⟨G, 0, none⟩ := addr_add G 0
      have hlI : (0 : Int) < (len : Int) := by omega
      rw [← hT.out] at c0
      have cP : wr.cell? ⟨P, 0, none⟩ = some (.slice a len cap) := HI.out.1.cell rfl
      rw [hm1]
      clear hje
      go_wp2_with fail
      go_ret
      exact ⟨rfl, HI.out.2.1⟩
end Go.Proofs.YtdgfklmbglfbfaaDoor
