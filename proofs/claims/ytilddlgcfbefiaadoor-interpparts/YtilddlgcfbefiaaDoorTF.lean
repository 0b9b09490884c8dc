/-
  Lists of tables in memory; what the fifth reference's Few returns, as a contract over the translated program: whether tables are not too many, nor too great.
-/
import Derived.Test.YtilddlgcfbefiaaDoorTM
namespace Go.Proofs.YtilddlgcfbefiaaDoor
set_option linter.unusedSimpArgs false
set_option linter.unusedVariables false
open Go Go.RowKit

def fewT (t : Tb) : Bool := decide (t.2.1.length ≤ 20) && t.2.1.all (fun e => decide (e.2.length ≤ 6))
def fewTs (ts : List Tb) : Bool := decide (ts.length ≤ 6) && ts.all fewT
/- a table's six cells from a on, and its entries; a slice of tables -/
def TabHere (W : World) (a : Addr) (t : Tb) : Prop :=
  W.cell? a = some (.int .i64 t.1.1) ∧ W.cell? ⟨a.block, a.off + 1, none⟩ = some (.int .i64 t.1.2.1) ∧ W.cell? ⟨a.block, a.off + 2, none⟩ = some (.int .i64 t.1.2.2.1) ∧ W.cell? ⟨a.block, a.off + 3, none⟩ = some (.int .i64 t.1.2.2.2) ∧
  (∃ b l c, W.cell? ⟨a.block, a.off + 4, none⟩ = some (.slice b l c) ∧ EntsAt W b l c t.2.1) ∧ W.cell? ⟨a.block, a.off + 5, none⟩ = some (.int .u32 t.2.2) ∧ isW t.2.2
theorem TabHere.below {W W' : World} {a : Addr} {t : Tb} (h : TabHere W a t) (hb : Below W.heap.size W W') : TabHere W' a t := by
  obtain ⟨c0, c1, c2, c3, ⟨b, l, c, c4, hE⟩, c5, hx⟩ := h
  exact ⟨(hb.cell (lt_of_cell c0)).trans c0, (hb.cell (lt_of_cell c1)).trans c1, (hb.cell (lt_of_cell c2)).trans c2, (hb.cell (lt_of_cell c3)).trans c3, ⟨b, l, c, (hb.cell (lt_of_cell c4)).trans c4, hE.below hb⟩, (hb.cell (lt_of_cell c5)).trans c5, hx⟩
def TabsAt (W : World) (a : Option Addr) (len cap : Nat) (ts : List Tb) : Prop :=
  ts.length = len ∧ len ≤ cap ∧ cap ≤ maxLen ∧ (len = 0 ∨ ∃ y, a = some y ∧ ∀ k, k < len → TabHere W (y.add (k * 6)) (ts.getD k zeroT))
theorem TabsAt.below {W W' : World} {a : Option Addr} {len cap : Nat} {ts : List Tb} (h : TabsAt W a len cap ts) (hb : Below W.heap.size W W') : TabsAt W' a len cap ts := by
  obtain ⟨h1, h2, h3, h5⟩ := h
  exact ⟨h1, h2, h3, h5.imp id (fun ⟨y, e, h6⟩ => ⟨y, e, fun k hk => (h6 k hk).below hb⟩)⟩
theorem TabsAt.max {w : World} {a : Option Addr} {len cap : Nat} {ts : List Tb} (h : TabsAt w a len cap ts) : len ≤ 9223372036854775807 := by
  have h1 := h.2.1
  have h2 := h.2.2.1
  unfold maxLen at h2
  omega
/- how far it has come -/
def fewU (t : Tb) (k : Nat) : Bool := decide (t.2.1.length ≤ 20) && (t.2.1.take k).all (fun e => decide (e.2.length ≤ 6))
def fewUs (ts : List Tb) (k : Nat) : Bool := decide (ts.length ≤ 6) && (ts.take k).all fewT
theorem fewU_zero (t : Tb) : fewU t 0 = decide (t.2.1.length ≤ 20) := by simp [fewU]
theorem fewU_step {t : Tb} {k : Nat} (h : k < t.2.1.length) (hk : fewU t k = true) : fewU t (k + 1) = decide ((t.2.1.getD k zeroE).2.length ≤ 6) := by
  simp only [fewU, Bool.and_eq_true] at hk
  rw [fewU, take_getD _ k zeroE h, List.all_append, hk.1, hk.2]
  simp
theorem fewU_end {t : Tb} {k : Nat} (h : t.2.1.length ≤ k) : fewU t k = fewT t := by rw [fewU, List.take_of_length_le h, fewT]
theorem fewU_no {t : Tb} {k : Nat} (hk : fewU t k = false) : fewT t = false := by
  rcases hT : fewT t with _ | _
  · rfl
  · simp only [fewT, Bool.and_eq_true, List.all_eq_true] at hT
    simp only [fewU, hT.1, Bool.true_and] at hk
    rw [List.all_eq_true.2 (fun e he => hT.2 e (List.mem_of_mem_take he))] at hk
    cases hk
theorem fewUs_zero (ts : List Tb) : fewUs ts 0 = decide (ts.length ≤ 6) := by simp [fewUs]
theorem fewUs_step {ts : List Tb} {k : Nat} (h : k < ts.length) (hk : fewUs ts k = true) : fewUs ts (k + 1) = fewT (ts.getD k zeroT) := by
  simp only [fewUs, Bool.and_eq_true] at hk
  rw [fewUs, take_getD _ k zeroT h, List.all_append, hk.1, hk.2]
  simp
theorem fewUs_end {ts : List Tb} {k : Nat} (h : ts.length ≤ k) : fewUs ts k = fewTs ts := by rw [fewUs, List.take_of_length_le h, fewTs]
theorem fewUs_no {ts : List Tb} {k : Nat} (hk : fewUs ts k = false) : fewTs ts = false := by
  rcases hT : fewTs ts with _ | _
  · rfl
  · simp only [fewTs, Bool.and_eq_true, List.all_eq_true] at hT
    simp only [fewUs, hT.1, Bool.true_and] at hk
    rw [List.all_eq_true.2 (fun e he => hT.2 e (List.mem_of_mem_take he))] at hk
    cases hk

set_option maxRecDepth 100000 in
set_option maxHeartbeats 8000000 in
theorem few_any (a : Option Addr) (len cap : Nat) (ts : List Tb) (w : World) (h : TabsAt w a len cap ts) :
    Calls Tryd.prog 14 #[.slice a len cap] w fun e w' => e = .returned (.bool (fewTs ts)) ∧ w' = w := by
  have hm := h.max
  have H1 := Lib.hid h.1
  have H5 := Lib.hid h.2.2.2
  have hz : decide ((len : Int) ≤ 6) = fewUs ts 0 := by
    rw [fewUs_zero, H1.out]
    congr 1
    exact propext ⟨fun h => by omega, fun h => by omega⟩
  obtain ⟨R, hR⟩ : ∃ R, fewTs ts = R := ⟨_, rfl⟩
  rw [hR]
  have HR := Lib.hid hR
  clear h hR
  go_enter Tryd.func14, Tryd.ntmps14
  go_wp2_with fail
  go_loopw [3, 4] (fun o i wr => ∃ k : Nat, k ≤ len ∧ i = .int .i64 k ∧ o = .bool (fewUs ts k) ∧ w = wr) (fun _ i _ => len - (intOf i).toNat)
  case atStart => exact ⟨0, by omega, rfl, by rw [← hz], rfl⟩
  case round =>
    obtain ⟨k, hk, rfl, rfl, rfl⟩ := hrel
    clear hz
    by_cases hkl : k < len
    · have hkI : (k : Int) < (len : Int) := by omega
      have hk0 : (0 : Int) ≤ (k : Int) := Int.natCast_nonneg _
      rcases ho : fewUs ts k with _ | _
      · have HF : Hid (R = false) := Lib.hid (by rw [← HR.out]; exact fewUs_no ho)
        go_wp2
        go_ret
        exact ⟨by rw [HF.out]; rfl, rfl⟩
      · obtain ⟨y, rfl, hy⟩ := H5.out.resolve_left (by omega)
        have hst := fewUs_step (by rw [H1.out]; exact hkl) ho
        obtain ⟨_, _, _, _, ⟨b, l, c, c4, hE⟩, _, _⟩ := hy k hkl
        generalize ts.getD k zeroT = t at *
        have hml := hE.max
        have HL := Lib.hid hE.1
        have HE5 := Lib.hid hE.2.2.2
        have hz2 : decide ((l : Int) ≤ 20) = fewU t 0 := by
          rw [fewU_zero, HL.out]
          congr 1
          exact propext ⟨fun h => by omega, fun h => by omega⟩
        have HST := Lib.hid hst
        clear hE hy hst
        go_wp2_with fail
        go_loopw [3, 5] (fun o i wr => ∃ q : Nat, q ≤ l ∧ i = .int .i64 q ∧ o = .bool (fewU t q) ∧ w = wr) (fun _ i _ => l - (intOf i).toNat)
        case atStart => exact ⟨0, by omega, rfl, by rw [← hz2], rfl⟩
        case round =>
          obtain ⟨q, hq, rfl, rfl, rfl⟩ := hrel
          clear hz2
          by_cases hql : q < l
          · have hqI : (q : Int) < (l : Int) := by omega
            have hq0 : (0 : Int) ≤ (q : Int) := Int.natCast_nonneg _
            rcases ho2 : fewU t q with _ | _
            · have HF2 : Hid (fewUs ts (k + 1) = false) := Lib.hid (HST.out.trans (fewU_no ho2))
              go_wp2
              exact ⟨⟨k + 1, by omega, by go_num, by rw [HF2.out], by trivial⟩, by simp [intOf]; omega⟩
            · obtain ⟨y2, rfl, hy2⟩ := HE5.out.resolve_left (by omega)
              obtain ⟨_, _, b2, l2, cc2, v1, hW⟩ := hy2 q hql
              have hst2 := fewU_step (by rw [HL.out]; exact hql) ho2
              have hm2 := hW.max
              have HS2 : Hid (fewU t (q + 1) = decide ((l2 : Int) ≤ 6)) := Lib.hid (by
                rw [hst2, hW.1]
                congr 1
                exact propext ⟨fun h => by omega, fun h => by omega⟩)
              clear hy2 hW hst2
              go_wp2
              exact ⟨⟨q + 1, by omega, by go_num, by rw [HS2.out], by trivial⟩, by simp [intOf]; omega⟩
          · have hqI : ¬ (q : Int) < (l : Int) := by omega
            have HF2 : Hid (fewUs ts (k + 1) = fewU t q) := Lib.hid (HST.out.trans (fewU_end (by rw [HL.out]; omega)).symm)
            go_wp2
            exact ⟨⟨k + 1, by omega, by go_num, by rw [HF2.out], by trivial⟩, by simp [intOf]; omega⟩
    · have hkI : ¬ (k : Int) < (len : Int) := by omega
      have HF : Hid (R = fewUs ts k) := Lib.hid (by rw [← HR.out]; exact (fewUs_end (by rw [H1.out]; omega)).symm)
      go_wp2
      go_ret
      exact ⟨by rw [HF.out]; rfl, rfl⟩
end Go.Proofs.YtilddlgcfbefiaaDoor
