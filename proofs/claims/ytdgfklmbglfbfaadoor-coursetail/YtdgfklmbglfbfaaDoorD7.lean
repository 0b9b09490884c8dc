/-
  A code behind another one: 'append(s, x...)'; what code that is fine is with something behind it, in plain numbers.
-/
import Derived.Test.YtdgfklmbglfbfaaDoorD6
import Derived.Deep.AppendLies
import Derived.Deep.AppendSrc
import Derived.Deep.Upon
namespace Go.Proofs.YtdgfklmbglfbfaaDoor
open Go Go.RowKit
set_option linter.unusedVariables false
theorem infoN : (Tryd.prog.info? 53).map (fun i => (i.zero, i.size, i.bytes)) = some (some (.agg #[.int .i64 0, .int .i64 0, .int .i64 0, .int .i64 0, .bool false, .int .i64 0, .int .u32 0]), 7, 56) := by kernel_rfl
def instC (i : I) : List Value := [.int .i64 i.1, .int .i64 i.2.1, .int .i64 i.2.2.1, .int .i64 i.2.2.2.1, .bool i.2.2.2.2.1, .int .i64 i.2.2.2.2.2.1, .int .u32 i.2.2.2.2.2.2]
def codeV (c : List I) : List Value := c.flatMap instC
theorem codeV_len : ∀ (c : List I), (codeV c).length = c.length * 7
  | [] => rfl
  | i :: c => by
    have h := codeV_len c
    simp only [codeV, List.flatMap_cons, List.length_append, List.length_cons] at h ⊢
    have : (instC i).length = 7 := rfl
    omega
theorem codeV_append (c d : List I) : codeV (c ++ d) = codeV c ++ codeV d := by simp [codeV]
theorem codeV_at : ∀ (c : List I) (k j : Nat), k < c.length → j < 7 → (codeV c)[k * 7 + j]? = (instC (c.getD k zeroI))[j]?
  | i :: c, 0, j, _, hj => by
    simp only [codeV, List.flatMap_cons, Nat.zero_mul, Nat.zero_add, List.getD_cons_zero]
    rw [List.getElem?_append_left]
    exact hj
  | i :: c, k + 1, j, hk, hj => by
    have h := codeV_at c k j (by simpa using hk) hj
    simp only [codeV, List.flatMap_cons, List.getD_cons_succ] at h ⊢
    rw [List.getElem?_append_right (by have : (instC i).length = 7 := rfl; omega)]
    have e : (k + 1) * 7 + j - (instC i).length = k * 7 + j := by
      have : (instC i).length = 7 := rfl
      omega
    rw [e]
    exact h
theorem codeV_one (c : List I) : ∀ u ∈ codeV c, u.oneCell' = true := by
  intro u hu
  obtain ⟨i, _, hi⟩ := List.mem_flatMap.1 hu
  simp only [instC, List.mem_cons, List.not_mem_nil, or_false] at hi
  rcases hi with rfl | rfl | rfl | rfl | rfl | rfl | rfl <;> rfl
theorem codeV_cells {w : World} {y : Addr} {len : Nat} {c : List I} (hl : c.length = len) (h : ∀ k, k < len → InstHere w (y.add (k * 7)) (c.getD k zeroI)) :
    ∀ j u, (codeV c)[j]? = some u → w.cell? (y.add j) = some u := by
  intro j u hj
  have hjl : j < c.length * 7 := by
    have := (List.getElem?_eq_some_iff.1 hj).1
    rwa [codeV_len] at this
  have e : j = j / 7 * 7 + j % 7 := by omega
  have hk : j / 7 < c.length := by omega
  have hr : j % 7 < 7 := Nat.mod_lt _ (by omega)
  rw [e, codeV_at c (j / 7) (j % 7) hk hr] at hj
  have hI := h (j / 7) (by omega)
  have ea : y.add j = (y.add (j / 7 * 7)).add (j % 7) := by
    rw [Go.Deep.add_add, ← e]
  rw [ea]
  obtain ⟨c0, c1, c2, c3, c4, c5, c6⟩ := hI
  generalize j % 7 = r at *
  generalize c.getD (j / 7) zeroI = i at *
  generalize y.add (j / 7 * 7) = a at *
  match r, hr with
  | 0, _ => rw [Addr.add_zero']; simp [instC] at hj; rw [c0, hj]
  | 1, _ => rw [add_add_cell a 1 (by omega)]; simp [instC] at hj; rw [c1, hj]
  | 2, _ => rw [add_add_cell a 2 (by omega)]; simp [instC] at hj; rw [c2, hj]
  | 3, _ => rw [add_add_cell a 3 (by omega)]; simp [instC] at hj; rw [c3, hj]
  | 4, _ => rw [add_add_cell a 4 (by omega)]; simp [instC] at hj; rw [c4, hj]
  | 5, _ => rw [add_add_cell a 5 (by omega)]; simp [instC] at hj; rw [c5, hj]
  | 6, _ => rw [add_add_cell a 6 (by omega)]; simp [instC] at hj; rw [c6, hj]
/- a row of instructions that the call owns is a code -/
theorem code_own {w : World} {base : Nat} {t : TypeId} {v : Value} {n : Nat} {c : List I} (hl : c.length = n) (hok : ∀ i ∈ c, okI i) (h : w.ownsRow base t 7 v n (codeV c)) :
    ∃ b cap, v = .slice b n cap ∧ CodeAt w b n cap c ∧ ∀ z, b = some z → base ≤ z.block ∧ z.block < w.heap.size ∧ v.ownBlock = some z.block := by
  obtain ⟨_, ⟨rfl, rfl⟩ | ⟨g, cap, cur, rfl, hb, hh, hc, hm, hs, ht⟩⟩ := h
  · exact ⟨none, 0, rfl, ⟨hl, Nat.le_refl _, Nat.zero_le _, hok, .inl rfl⟩, fun z hz => by cases hz⟩
  · refine ⟨some ⟨g, 0, none⟩, cap, rfl, ⟨hl, hc, hm, hok, .inr ⟨_, rfl, fun k hk => ?_⟩⟩, fun z hz => ?_⟩
    · have hcell : ∀ j, j < 7 → w.cell? ⟨g, k * 7 + j, none⟩ = (instC (c.getD k zeroI))[j]? := by
        intro j hj
        have h2 : (cur.toList.take (n * 7))[k * 7 + j]? = (codeV c)[k * 7 + j]? := by rw [ht]
        rw [List.getElem?_take, if_pos (by omega), codeV_at c k j (by omega) hj] at h2
        simp only [World.cell?, hh]
        rw [← h2]
        simp
      have ea : (⟨g, 0, none⟩ : Addr).add (k * 7) = ⟨g, k * 7, none⟩ := addr_add g (k * 7)
      rw [ea]
      exact ⟨hcell 0 (by omega), hcell 1 (by omega), hcell 2 (by omega), hcell 3 (by omega), hcell 4 (by omega), hcell 5 (by omega), hcell 6 (by omega)⟩
    · cases hz
      exact ⟨hb, (Array.getElem?_eq_some_iff.1 hh).1, rfl⟩
theorem append_none (v : Value) (n base : Nat) (xs : List Value) (w : World) (hown : w.ownsRow base 53 7 v n xs) (b : Option Addr) (cc : Nat) :
    (Builtin.append_ #[22, 22] 22 #[v, .slice b 0 cc]).run Tryd.prog w = .ok v w := by
  obtain ⟨jS, hiS, hy0, hy1, hy2⟩ := info_parts infoN
  have hs : Src Tryd.prog jS.size 22 (.slice b 0 cc) 0 [] w := by
    cases b with
    | none => exact Src.ofNil w Tryd.underlying22 cc
    | some ad => exact Src.ofSlice w Tryd.underlying22 ad 0 cc [] (by simp) (by simp) (by simp)
  obtain ⟨_, ⟨rfl, rfl⟩ | ⟨g, cap, cur, rfl, hb, hh, hc, hm, hs', ht⟩⟩ := hown
  · exact run_append_nothing w _ _ _ _ jS Tryd.underlying22 hiS none 0 0 (Nat.le_refl _) _ hs
  · exact run_append_nothing w _ _ _ _ jS Tryd.underlying22 hiS _ n cap hc _ hs
/- 'append(s, x...)' at the list of a plain region's operations: s is a row of one's own -/
theorem wpList_cat {ops : Array Oper} {rest : List Oper} {o : Oper} {a : Act} {Q : Exit → Act → World → Prop} (w : World) (hgd : o.guard = none) (s x : Operand)
    (ho : o.op = .call { callee := .builtin .append, args := #[s, x], argTypes := #[22, 22] }) (ht : o.type = 22)
    (base : Nat) (v : Value) (c d : List I) (b : Option Addr) (len cap : Nat) (hs : a.eval s = v) (hx : a.eval x = .slice b len cap) (hown : w.ownsRow base 53 7 v c.length (codeV c)) (hC : CodeAt w b len cap d)
    (h8 : c.length + len ≤ 100) (hbase : base ≤ w.heap.size) (B : Nat) (W : World) (hB : Below B W w) (hBb : B ≤ base)
    (h : ∀ v' w', w'.ownsRow base 53 7 v' (c ++ d).length (codeV (c ++ d)) → Below B W w' → base ≤ w'.heap.size → wpList Tryd.prog ops Q rest (a.put o.dst v') w') : wpList Tryd.prog ops Q (o :: rest) a w := by
  obtain ⟨jS, hiS, hy0, hy1, hy2⟩ := info_parts infoN
  have hd : d.length = len := hC.1
  by_cases hl : len = 0
  · subst hl
    have hd0 : d = [] := List.length_eq_zero_iff.1 hd
    subst hd0
    refine wpList_plain hgd fun K hK => ?_
    have hr := append_none v c.length base (codeV c) w hown b cap
    unfold Oper.wp execOp
    simp only [ho, ht, resolve, invoke, builtin, Sem.run_bind, Sem.run_pure, Result.andThen_ok, List.map_toArray, List.map_cons, List.map_nil, hs, hx, hr]
    exact hK _ _ (h v w (by simpa using hown) hB hbase)
  · obtain ⟨y, rfl, hy⟩ := hC.2.2.2.2.resolve_left hl
    refine wpList_append_lies w hgd s x 22 ho base 53 jS _ 7 56 Tryd.underlying22 hiS hy0 hy1 hy2 rfl (by omega) v c.length (codeV c) hs hown y len cap (codeV d) hx (by rw [codeV_len, hd]) (codeV_cells hd hy) (codeV_one d) (by omega) (by unfold maxLen; omega) (by omega) hbase w.heap.size rfl ?_
    intro g cp w' ho' hg' _ _
    refine h _ w' ?_ (hB.grown hg' (by omega) (fun k hk => by have := (hown.lt k hk).1; omega)) (Nat.le_trans hbase hg'.size)
    rw [List.length_append, hd, codeV_append]
    exact ho'

theorem suc_front {l m : List I} {k : Nat} (hk : k < l.length) : sucC (l ++ m) k = sucC l k := by
  unfold sucC
  rw [show (l ++ m).getD k zeroI = l.getD k zeroI by simp [List.getD_eq_getElem?_getD, List.getElem?_append_left hk]]
theorem rch_front {l m : List I} : ∀ k, k < l.length → rch (l ++ m) k = rch l k := by
  intro k
  induction k using Nat.strongRecOn with
  | _ k ih =>
    intro hk
    rw [Bool.eq_iff_iff, rch_iff, rch_iff]
    constructor
    · rintro (h | ⟨j, hj, hr, hs⟩)
      · exact .inl h
      · exact .inr ⟨j, hj, by rw [← ih j hj (by omega)]; exact hr, by rw [← suc_front (m := m) (by omega)]; exact hs⟩
    · rintro (h | ⟨j, hj, hr, hs⟩)
      · exact .inl h
      · exact .inr ⟨j, hj, by rw [ih j hj (by omega)]; exact hr, by rw [suc_front (by omega)]; exact hs⟩
theorem rch_behind {l m : List I} (h : fineP l = true) : ∀ k, l.length ≤ k → rch (l ++ m) k = false := by
  have hl := (codeB_len (fine_code h)).1
  intro k
  induction k using Nat.strongRecOn with
  | _ k ih =>
    intro hk
    rcases hr : rch (l ++ m) k with _ | _
    · rfl
    · exfalso
      rcases rch_iff.1 hr with h0 | ⟨j, hj, hrj, hs⟩
      · omega
      · by_cases hjl : j < l.length
        · rw [rch_front j hjl] at hrj
          rw [suc_front hjl] at hs
          have := fine_suc h hjl hrj hs
          omega
        · rw [ih j hj (by omega)] at hrj
          cases hrj
theorem tail_fine {l m : List I} (h : fineP l = true) (hc : codeB (l ++ m) = true) : fineP (l ++ m) = true := by
  simp only [fineP, hc, Bool.true_and, List.all_eq_true, List.mem_range, Bool.or_eq_true, Bool.not_eq_true', decide_eq_true_iff]
  intro k hk
  by_cases hkl : k < l.length
  · rcases hr : rch (l ++ m) k with _ | _
    · exact .inl rfl
    · right
      intro t ht
      rw [suc_front hkl] at ht
      rw [rch_front k hkl] at hr
      have := fine_suc h hkl hr ht
      rw [List.length_append]
      omega
  · exact .inl (rch_behind h k (by omega))
theorem tail_bst {calls : List Int} {l m : List I} (h : fineP l = true) : ∀ k, k ≤ l.length → bst calls (l ++ m) (l ++ m).length k = bst calls l l.length k
  | 0, _ => rfl
  | k + 1, hk => by
    have ih := tail_bst (calls := calls) (m := m) h k (by omega)
    have hg : (l ++ m).getD k zeroI = l.getD k zeroI := by simp [List.getD_eq_getElem?_getD, List.getElem?_append_left (show k < l.length by omega)]
    rcases hr : rch l k with _ | _
    · rw [bst_no hr, bst_no (by rw [rch_front k (by omega)]; exact hr), ih]
    · rw [bst_yes hr, bst_yes (by rw [rch_front k (by omega)]; exact hr), ih, hg, suc_front (by omega)]
      have he : ∀ p, (p ∈ sucC l k ∧ p < (l ++ m).length) ↔ (p ∈ sucC l k ∧ p < l.length) := fun p => ⟨fun ⟨h1, _⟩ => ⟨h1, fine_suc h (by omega) hr h1⟩, fun ⟨h1, h2⟩ => ⟨h1, by rw [List.length_append]; omega⟩⟩
      simp only [he]
theorem tail_rest {calls : List Int} {l m : List I} (h : fineP l = true) : ∀ d, bst calls (l ++ m) (l ++ m).length (l.length + d) = bst calls l l.length l.length
  | 0 => tail_bst h l.length (Nat.le_refl _)
  | d + 1 => by
    rw [← Nat.add_assoc, bst_no (rch_behind h _ (by omega))]
    exact tail_rest h d
theorem tail_long {calls : List Int} {l m : List I} (h : fineP l = true) (hc : codeB (l ++ m) = true) : longP calls (l ++ m) = longP calls l := by
  have h1 := tail_rest (calls := calls) (m := m) h m.length
  rw [longP, longP, hc, fine_code h, if_pos rfl, if_pos rfl]
  have : (l ++ m).length = l.length + m.length := List.length_append
  rw [show bst calls (l ++ m) (l ++ m).length (l ++ m).length = bst calls (l ++ m) (l ++ m).length (l.length + m.length) by rw [this]] 
  rw [h1]
end Go.Proofs.YtdgfklmbglfbfaaDoor
