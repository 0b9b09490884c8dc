/-
  Programs in memory that the call itself makes: rows of instructions and of functions that are appended to.
-/
import Derived.Test.YtlbhmopmfddhjaaDoorM
import Derived.Test.YtlbhmopmfddhjaaDoorU
import Derived.Deep.AppendLies
namespace Go.Proofs.YtlbhmopmfddhjaaDoor
open Go.RowKit

/- an instruction's seven cells; a code's cells -/
def instC (i : I) : List Value := [.int .i64 i.1, .int .i64 i.2.1, .int .i64 i.2.2.1, .int .i64 i.2.2.2.1, .bool i.2.2.2.2.1, .int .i64 i.2.2.2.2.2.1, .int .u32 i.2.2.2.2.2.2]
def codeV (c : List I) : List Value := c.flatMap instC
theorem codeV_len : ∀ (c : List I), (codeV c).length = c.length * 7
  | [] => rfl
  | i :: c => by
    have h := codeV_len c
    simp only [codeV, List.flatMap_cons, List.length_append, List.length_cons] at h ⊢
    have : (instC i).length = 7 := rfl
    omega
theorem codeV_append (c d : List I) : codeV (c ++ d) = codeV c ++ codeV d := by simp [codeV]
theorem codeV_at : ∀ (c : List I) (k j : Nat), k < c.length → j < 7 → (codeV c)[k * 7 + j]? = (instC (c.getD k zeroI))[j]?
  | i :: c, 0, j, _, hj => by
    simp only [codeV, List.flatMap_cons, Nat.zero_mul, Nat.zero_add, List.getD_cons_zero]
    rw [List.getElem?_append_left]
    exact hj
  | i :: c, k + 1, j, hk, hj => by
    have h := codeV_at c k j (by simpa using hk) hj
    simp only [codeV, List.flatMap_cons, List.getD_cons_succ] at h ⊢
    rw [List.getElem?_append_right (by have : (instC i).length = 7 := rfl; omega)]
    have e : (k + 1) * 7 + j - (instC i).length = k * 7 + j := by
      have : (instC i).length = 7 := rfl
      omega
    rw [e]
    exact h
theorem codeV_one (c : List I) : ∀ u ∈ codeV c, u.oneCell' = true := by
  intro u hu
  obtain ⟨i, _, hi⟩ := List.mem_flatMap.1 hu
  simp only [instC, List.mem_cons, List.not_mem_nil, or_false] at hi
  rcases hi with rfl | rfl | rfl | rfl | rfl | rfl | rfl <;> rfl
theorem add_add_cell (a : Addr) (k : Nat) (h : 0 < k) : a.add k = ⟨a.block, a.off + k, none⟩ := by
  unfold Addr.add
  split
  · simp_all
  · rfl
/- a code that came in, as the cells that are copied -/
theorem codeV_cells {w : World} {y : Addr} {len : Nat} {c : List I} (hl : c.length = len) (h : ∀ k, k < len → InstHere w (y.add (k * 7)) (c.getD k zeroI)) :
    ∀ j u, (codeV c)[j]? = some u → w.cell? (y.add j) = some u := by
  intro j u hj
  have hjl : j < c.length * 7 := by
    have := (List.getElem?_eq_some_iff.1 hj).1
    rwa [codeV_len] at this
  have e : j = j / 7 * 7 + j % 7 := by omega
  have hk : j / 7 < c.length := by omega
  have hr : j % 7 < 7 := Nat.mod_lt _ (by omega)
  rw [e, codeV_at c (j / 7) (j % 7) hk hr] at hj
  have hI := h (j / 7) (by omega)
  have ea : y.add j = (y.add (j / 7 * 7)).add (j % 7) := by
    rw [Go.Deep.add_add, ← e]
  rw [ea]
  obtain ⟨c0, c1, c2, c3, c4, c5, c6⟩ := hI
  generalize j % 7 = r at *
  generalize c.getD (j / 7) zeroI = i at *
  generalize y.add (j / 7 * 7) = a at *
  match r, hr with
  | 0, _ => rw [Addr.add_zero']; simp [instC] at hj; rw [c0, hj]
  | 1, _ => rw [add_add_cell a 1 (by omega)]; simp [instC] at hj; rw [c1, hj]
  | 2, _ => rw [add_add_cell a 2 (by omega)]; simp [instC] at hj; rw [c2, hj]
  | 3, _ => rw [add_add_cell a 3 (by omega)]; simp [instC] at hj; rw [c3, hj]
  | 4, _ => rw [add_add_cell a 4 (by omega)]; simp [instC] at hj; rw [c4, hj]
  | 5, _ => rw [add_add_cell a 5 (by omega)]; simp [instC] at hj; rw [c5, hj]
  | 6, _ => rw [add_add_cell a 6 (by omega)]; simp [instC] at hj; rw [c6, hj]
/- a row of instructions that the call owns is a code -/
theorem code_own {w : World} {base : Nat} {t : TypeId} {v : Value} {n : Nat} {c : List I} (hl : c.length = n) (hok : ∀ i ∈ c, okI i) (h : w.ownsRow base t 7 v n (codeV c)) :
    ∃ b cap, v = .slice b n cap ∧ CodeAt w b n cap c ∧ ∀ z, b = some z → base ≤ z.block ∧ z.block < w.heap.size ∧ v.ownBlock = some z.block := by
  obtain ⟨_, ⟨rfl, rfl⟩ | ⟨g, cap, cur, rfl, hb, hh, hc, hm, hs, ht⟩⟩ := h
  · exact ⟨none, 0, rfl, ⟨hl, Nat.le_refl _, Nat.zero_le _, hok, .inl rfl⟩, fun z hz => by cases hz⟩
  · refine ⟨some ⟨g, 0, none⟩, cap, rfl, ⟨hl, hc, hm, hok, .inr ⟨_, rfl, fun k hk => ?_⟩⟩, fun z hz => ?_⟩
    · have hcell : ∀ j, j < 7 → w.cell? ⟨g, k * 7 + j, none⟩ = (instC (c.getD k zeroI))[j]? := by
        intro j hj
        have h2 : (cur.toList.take (n * 7))[k * 7 + j]? = (codeV c)[k * 7 + j]? := by rw [ht]
        rw [List.getElem?_take, if_pos (by omega), codeV_at c k j (by omega) hj] at h2
        simp only [World.cell?, hh]
        rw [← h2]
        simp
      have ea : (⟨g, 0, none⟩ : Addr).add (k * 7) = ⟨g, k * 7, none⟩ := addr_add g (k * 7)
      rw [ea]
      exact ⟨hcell 0 (by omega), hcell 1 (by omega), hcell 2 (by omega), hcell 3 (by omega), hcell 4 (by omega), hcell 5 (by omega), hcell 6 (by omega)⟩
    · cases hz
      exact ⟨hb, (Array.getElem?_eq_some_iff.1 hh).1, rfl⟩
end Go.Proofs.YtlbhmopmfddhjaaDoor
