/-
  Rows of ints of the call's own.
-/
import Derived.Test.YtdgfklmbglfbfaaDoorD5
namespace Go.Proofs.YtdgfklmbglfbfaaDoor
open Go Go.RowKit
set_option linter.unusedVariables false
def valsI (zs : List Int) : List Value := zs.map (fun z => Value.int .i64 z)
theorem own_ints {W : World} {base n : Nat} {v : Value} {zs : List Int} (h : W.ownsRow base 3 1 v n (valsI zs)) : ∃ b cap, v = .slice b n cap ∧ IntsAt W b n cap zs := by
  obtain ⟨hl, ⟨rfl, rfl⟩ | ⟨g, cap, cur, rfl, hb, hh, hc, hm, hs, ht⟩⟩ := h
  · have hz : zs = [] := by simpa [valsI] using hl
    exact ⟨none, 0, rfl, by rw [hz]; exact ints_nil W⟩
  · have hz : zs.length = n := by simpa [valsI] using hl
    refine ⟨some ⟨g, 0, none⟩, cap, rfl, hz, hc, hm, .inr ⟨_, rfl, fun j hj => ?_⟩⟩
    rw [addr_add]
    refine (cell_of_row W g j cur 3 (0, 0) hh).trans ?_
    have h1 : (cur.toList.take (n * 1))[j]? = (valsI zs)[j]? := by rw [ht]
    rw [List.getElem?_take, if_pos (by omega)] at h1
    have h2 : cur[j]? = (valsI zs)[j]? := by simpa using h1
    rw [h2]
    simp [valsI, List.getD_eq_getElem?_getD, show j < zs.length by omega]
theorem valsI_step (zs : List Int) (m : Int) {k : Nat} (hk : k < zs.length) : valsI ((zs.take k).map (fun z => z + m)) ++ [.int .i64 (zs.getD k 0 + m)] = valsI ((zs.take (k + 1)).map (fun z => z + m)) := by
  rw [take_getD zs k 0 hk]
  simp [valsI]
theorem allP_le (calls : List Int) (c : List I) : ∀ k, 0 ≤ allP calls c k ∧ allP calls c k ≤ (k : Int) * 1000001
  | 0 => by simp [allP]
  | k + 1 => by
    have h := allP_le calls c k
    have hc := costP_le calls (c.getD k zeroI)
    rw [allP]
    push_cast
    omega
end Go.Proofs.YtdgfklmbglfbfaaDoor
