/-
  Lists of schemas in memory: those that came in, and those that the call itself makes.
-/
import Derived.Test.YtbihfaplhjbfeaaPlain
namespace Go.Proofs.Ytbihfaplhjbfeaa
open Go.RowKit

/- the four cells of a schema from a on -/
def ScHere (W : World) (a : Addr) (s : Sc) : Prop :=
  W.cell? a = some (.int .i64 s.1) ∧ W.cell? ⟨a.block, a.off + 1, none⟩ = some (.int .i64 s.2.1) ∧ W.cell? ⟨a.block, a.off + 2, none⟩ = some (.int .i64 s.2.2.1) ∧ W.cell? ⟨a.block, a.off + 3, none⟩ = some (.int .i64 s.2.2.2)
theorem ScHere.below {W W' : World} {a : Addr} {s : Sc} (h : ScHere W a s) (hb : Below W.heap.size W W') : ScHere W' a s := by
  obtain ⟨c0, c1, c2, c3⟩ := h
  exact ⟨(hb.cell (lt_of_cell c0)).trans c0, (hb.cell (lt_of_cell c1)).trans c1, (hb.cell (lt_of_cell c2)).trans c2, (hb.cell (lt_of_cell c3)).trans c3⟩
/- a slice of schemas -/
def ScsAt (W : World) (a : Option Addr) (len cap : Nat) (ss : List Sc) : Prop :=
  ss.length = len ∧ len ≤ cap ∧ cap ≤ maxLen ∧ (len = 0 ∨ ∃ y, a = some y ∧ ∀ k, k < len → ScHere W (y.add (k * 4)) (ss.getD k zeroS))
theorem ScsAt.below {W W' : World} {a : Option Addr} {len cap : Nat} {ss : List Sc} (h : ScsAt W a len cap ss) (hb : Below W.heap.size W W') : ScsAt W' a len cap ss := by
  obtain ⟨h1, h2, h3, h5⟩ := h
  refine ⟨h1, h2, h3, ?_⟩
  rcases h5 with h5 | ⟨y, h5, h6⟩
  · exact .inl h5
  · exact .inr ⟨y, h5, fun k hk => (h6 k hk).below hb⟩
theorem scs_nil (w : World) : ScsAt w none 0 0 [] := ⟨rfl, Nat.le_refl _, Nat.zero_le _, .inl rfl⟩
theorem ScsAt.max {w : World} {a : Option Addr} {len cap : Nat} {ss : List Sc} (h : ScsAt w a len cap ss) : len ≤ 9223372036854775807 := by
  have h1 := h.2.1
  have h2 := h.2.2.1
  unfold maxLen at h2
  omega
/- a schema's cells; a list's cells -/
def scC (s : Sc) : List Value := [.int .i64 s.1, .int .i64 s.2.1, .int .i64 s.2.2.1, .int .i64 s.2.2.2]
def scsV (ss : List Sc) : List Value := ss.flatMap scC
theorem scsV_len : ∀ (ss : List Sc), (scsV ss).length = ss.length * 4
  | [] => rfl
  | s :: ss => by
    have h := scsV_len ss
    simp only [scsV, List.flatMap_cons, List.length_append, List.length_cons] at h ⊢
    have : (scC s).length = 4 := rfl
    omega
theorem scsV_append (c d : List Sc) : scsV (c ++ d) = scsV c ++ scsV d := by simp [scsV]
theorem scsV_at : ∀ (c : List Sc) (k j : Nat), k < c.length → j < 4 → (scsV c)[k * 4 + j]? = (scC (c.getD k zeroS))[j]?
  | i :: c, 0, j, _, hj => by
    simp only [scsV, List.flatMap_cons, Nat.zero_mul, Nat.zero_add, List.getD_cons_zero]
    rw [List.getElem?_append_left]
    exact hj
  | i :: c, k + 1, j, hk, hj => by
    have h := scsV_at c k j (by simpa using hk) hj
    simp only [scsV, List.flatMap_cons, List.getD_cons_succ] at h ⊢
    rw [List.getElem?_append_right (by have : (scC i).length = 4 := rfl; omega)]
    have e : (k + 1) * 4 + j - (scC i).length = k * 4 + j := by
      have : (scC i).length = 4 := rfl
      omega
    rw [e]
    exact h
theorem scsV_one (c : List Sc) : ∀ u ∈ scsV c, u.oneCell' = true := by
  intro u hu
  obtain ⟨i, _, hi⟩ := List.mem_flatMap.1 hu
  simp only [scC, List.mem_cons, List.not_mem_nil, or_false] at hi
  rcases hi with rfl | rfl | rfl | rfl <;> rfl
/- a list that came in, as the cells that are copied -/
theorem scsV_cells {w : World} {y : Addr} {len : Nat} {c : List Sc} (hl : c.length = len) (h : ∀ k, k < len → ScHere w (y.add (k * 4)) (c.getD k zeroS)) :
    ∀ j u, (scsV c)[j]? = some u → w.cell? (y.add j) = some u := by
  intro j u hj
  have hjl : j < c.length * 4 := by
    have := (List.getElem?_eq_some_iff.1 hj).1
    rwa [scsV_len] at this
  have e : j = j / 4 * 4 + j % 4 := by omega
  have hk : j / 4 < c.length := by omega
  have hr : j % 4 < 4 := Nat.mod_lt _ (by omega)
  rw [e, scsV_at c (j / 4) (j % 4) hk hr] at hj
  have hI := h (j / 4) (by omega)
  have ea : y.add j = (y.add (j / 4 * 4)).add (j % 4) := by
    rw [Go.Deep.add_add, ← e]
  rw [ea]
  obtain ⟨c0, c1, c2, c3⟩ := hI
  generalize j % 4 = r at *
  generalize c.getD (j / 4) zeroS = i at *
  generalize y.add (j / 4 * 4) = a at *
  match r, hr with
  | 0, _ => rw [Addr.add_zero']; simp [scC] at hj; rw [c0, hj]
  | 1, _ => rw [add_add_cell a 1 (by omega)]; simp [scC] at hj; rw [c1, hj]
  | 2, _ => rw [add_add_cell a 2 (by omega)]; simp [scC] at hj; rw [c2, hj]
  | 3, _ => rw [add_add_cell a 3 (by omega)]; simp [scC] at hj; rw [c3, hj]
/- a row of schemas that the call owns is a list -/
theorem scs_own {w : World} {base : Nat} {t : TypeId} {v : Value} {n : Nat} {c : List Sc} (hl : c.length = n) (h : w.ownsRow base t 4 v n (scsV c)) :
    ∃ b cap, v = .slice b n cap ∧ ScsAt w b n cap c := by
  obtain ⟨_, ⟨rfl, rfl⟩ | ⟨g, cap, cur, rfl, hb, hh, hc, hm, hs, ht⟩⟩ := h
  · exact ⟨none, 0, rfl, ⟨hl, Nat.le_refl _, Nat.zero_le _, .inl rfl⟩⟩
  · refine ⟨some ⟨g, 0, none⟩, cap, rfl, ⟨hl, hc, hm, .inr ⟨_, rfl, fun k hk => ?_⟩⟩⟩
    have hcell : ∀ j, j < 4 → w.cell? ⟨g, k * 4 + j, none⟩ = (scC (c.getD k zeroS))[j]? := by
      intro j hj
      have h2 : (cur.toList.take (n * 4))[k * 4 + j]? = (scsV c)[k * 4 + j]? := by rw [ht]
      rw [List.getElem?_take, if_pos (by omega), scsV_at c k j (by omega) hj] at h2
      simp only [World.cell?, hh]
      rw [← h2]
      simp
    have ea : (⟨g, 0, none⟩ : Addr).add (k * 4) = ⟨g, k * 4, none⟩ := addr_add g (k * 4)
    rw [ea]
    exact ⟨hcell 0 (by omega), hcell 1 (by omega), hcell 2 (by omega), hcell 3 (by omega)⟩
theorem infoS : (Try.prog.info? 25).map (fun i => (i.zero, i.size, i.bytes)) = some (some (.agg #[.int .i64 0, .int .i64 0, .int .i64 0, .int .i64 0]), 4, 32) := by kernel_rfl
end Go.Proofs.Ytbihfaplhjbfeaa
