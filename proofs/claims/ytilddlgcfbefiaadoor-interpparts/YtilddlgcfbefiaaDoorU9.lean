/-
  What the package's met does, as a contract over the translated program: an entry of an Lru becomes the last one, in place.
-/
import Derived.Test.YtilddlgcfbefiaaDoorU8
namespace Go.Proofs.YtilddlgcfbefiaaDoor
set_option linter.unusedSimpArgs false
set_option linter.unusedVariables false
open Go Go.RowKit

theorem step_copyE {ops : Array Oper} {o : Oper} {a : Act} {d : Tmp} {K : Act → World → Prop} {Q : Exit → Act → World → Prop} {E : Prop} (w : World) (hgd : o.guard = none) (x s : Operand)
    (ho : o.op = .call { callee := .builtin .copy, args := #[x, s], argTypes := #[40, 40] }) (hd : o.dst = some d) (g off dLen dCap : Nat) (hx : a.eval x = .slice (some ⟨g, off, none⟩) dLen dCap)
    (ad : Addr) (m c : Nat) (hs : a.eval s = .slice (some ad) m c) (hm : m ≤ dLen) (news : List Value) (hn : news.length = m * 2) (hc : ∀ j u, news[j]? = some u → w.cell? (ad.add j) = some u) (h1 : ∀ u ∈ news, u.oneCell' = true)
    (hsp : ∀ j, j < news.length → (w.cell? ⟨g, off + j, none⟩).isSome = true ∧ w.frozen? ⟨g, off + j, none⟩ = false) (h : K (a.put (some d) (goInt m)) (w.setCells g off news)) :
    if Region.wanted o (yielded ops a.tmps) = true then Oper.wp Tryd.prog o a w K Q else E := by
  have hw : Region.wanted o (yielded ops a.tmps) = true := by simp [Region.wanted, hgd]
  rw [if_pos hw]
  have hst := run_storeCells_cells (P := Tryd.prog) g off news 0 w (by simpa using fun j hj => (hsp j hj).1) (by simpa using fun j hj => (hsp j hj).2) h1
  simp only [Nat.add_zero] at hst
  have hld := run_loadCells_list (P := Tryd.prog) w ad news hc
  rw [hn] at hld
  have hmin : Nat.min m dLen = m := Nat.min_eq_left hm
  have hrun : (Builtin.copy_ #[40, 40] o.type #[.slice (some ⟨g, off, none⟩) dLen dCap, .slice (some ad) m c]).run Tryd.prog w = .ok (goInt m) (w.setCells g off news) := by
    simp [Builtin.copy_, run_underlying Tryd.underlying40, Builtin.lenOf, Builtin.firstCells, sizeOfE, hmin, hld, hst]
  unfold Oper.wp
  simp [execOp, ho, resolve, invoke, builtin, hx, hs, hrun, Result.andThen, Oper.upon, hd]
  exact h
theorem own_last {W : World} {base g n1 c i m : Nat} {xs : List Value} {es : List Ent} {u0 u1 : Value} (hm : i + m = n1) (o : W.ownsRow base 66 2 (.slice (some ⟨g, 0, none⟩) (n1 + 1) c) (n1 + 1) xs) (od : Owned W base (some g) xs es) (hn : es.length = n1 + 1) (h0 : xs[i * 2]? = some u0) (h1 : xs[i * 2 + 1]? = some u1) :
    Row (((W.setCells g (i * 2) (xs.drop ((i + 1) * 2))).setCell ⟨g, n1 * 2, none⟩ u0).setCell ⟨g, n1 * 2 + 1, none⟩ u1) base (.slice (some ⟨g, 0, none⟩) (n1 + 1) c) (es.eraseIdx i ++ [es.getD i zeroE]) ∧ W.grownBy (((W.setCells g (i * 2) (xs.drop ((i + 1) * 2))).setCell ⟨g, n1 * 2, none⟩ u0).setCell ⟨g, n1 * 2 + 1, none⟩ u1) (some g) := by
  obtain ⟨o1, g1⟩ := own_lay (xs.drop ((i + 1) * 2)) W xs (i * 2) o
  obtain ⟨o2, g2⟩ := o1.stored (n1 * 2) u0
  obtain ⟨o3, g3⟩ := o2.stored (n1 * 2 + 1) u1
  have hg := grownBy_trans (grownBy_trans g1 g2) g3
  have hxl := o.1
  have hl1 := layL_len (xs.drop ((i + 1) * 2)) xs (i * 2)
  have hle0 : (es.eraseIdx i).length = n1 := by rw [List.length_eraseIdx, if_pos (by omega)]; omega
  have hle : (es.eraseIdx i ++ [es.getD i zeroE]).length = n1 + 1 := by rw [List.length_append, hle0]; rfl
  refine ⟨⟨_, by rw [hle]; exact o3, od.perm hg (fun k => if k < i then k else if k < n1 then k + 1 else i) (by rw [o3.1, hle]) (fun k hk => ?_) (fun j k hj hk e => by rw [hle] at hj hk; split at e <;> split at e <;> (try split at e) <;> (try split at e) <;> omega)⟩, hg⟩
  rw [hle] at hk
  by_cases hkn : k < n1
  · have hx : ∀ j, j < 2 → (((layL xs (i * 2) (xs.drop ((i + 1) * 2))).set (n1 * 2) u0).set (n1 * 2 + 1) u1)[k * 2 + j]? = xs[(if k < i then k else if k < n1 then k + 1 else i) * 2 + j]? := by
      intro j hj
      rw [List.getElem?_set_ne (by omega), List.getElem?_set_ne (by omega)]
      by_cases hki : k < i
      · rw [if_pos hki, layL_out _ _ _ _ (by omega)]
      · rw [if_neg hki, if_pos hkn, show k * 2 + j = i * 2 + ((k - i) * 2 + j) by omega, layL_in _ _ _ _ (by rw [List.length_drop]; omega) (by omega), List.getElem?_drop]
        congr 1
        omega
    refine ⟨by split <;> (try split) <;> omega, ?_, ?_, ?_⟩
    · have e1 : (es.eraseIdx i ++ [es.getD i zeroE]).getD k zeroE = (es.eraseIdx i).getD k zeroE := by simp only [List.getD_eq_getElem?_getD, List.getElem?_append_left (show k < (es.eraseIdx i).length by omega)]
      rw [e1, erase_at es i k]
      by_cases hki : k < i
      · rw [if_pos hki, if_pos hki]
      · rw [if_neg hki, if_neg hki, if_pos hkn]
    · have := hx 0 (by omega)
      simpa using this
    · exact hx 1 (by omega)
  · obtain rfl : k = n1 := by omega
    have hki : ¬ k < i := by omega
    refine ⟨by split <;> (try split) <;> omega, ?_, ?_, ?_⟩
    · have e1 : (es.eraseIdx i ++ [es.getD i zeroE]).getD k zeroE = es.getD i zeroE := by
        rw [List.getD_eq_getElem?_getD, List.getElem?_append_right (by omega), hle0, Nat.sub_self]
        rfl
      rw [e1, if_neg hki, if_neg hkn]
    · rw [if_neg hki, if_neg hkn, h0, List.getElem?_set_ne (by omega), List.getElem?_set_self (by omega)]
    · rw [if_neg hki, if_neg hkn, h1, List.getElem?_set_self (by rw [List.length_set]; omega)]
theorem met_no (s : Sc) (v : Value) (x : Int) (i : Int) (w : World) (h2 : ¬ s.1 = 2) :
    Calls Tryd.prog 138 #[tbV s v x, .int .i64 i] w fun e w' => e = .returned (.tuple #[]) ∧ Below w.heap.size w w' := by
  rcases s with ⟨s0, s1, s2, s3⟩
  have hq : (s0 != 2) = true := by simpa using h2
  clear h2
  go_enter Tryd.func138, Tryd.ntmps138
  go_wp2
  refine bodyPost_ret (results_none rfl _ _ _) rfl ?_
  exact ⟨rfl, (Below.refl _ _).alloc (Nat.le_refl _) _⟩
set_option maxRecDepth 100000 in
set_option maxHeartbeats 8000000 in
theorem met_at (s : Sc) (g n1 c i m base : Nat) (x : Int) (es : List Ent) (w : World) (h : Row w base (.slice (some ⟨g, 0, none⟩) (n1 + 1) c) es) (hn : es.length = n1 + 1) (hm : i + m = n1) (h40 : n1 ≤ 1000) (h2 : s.1 = 2) :
    Calls Tryd.prog 138 #[tbV s (.slice (some ⟨g, 0, none⟩) (n1 + 1) c) x, .int .i64 (i : Int)] w fun e w' => e = .returned (.tuple #[]) ∧ w.grownBy w' (some g) ∧ Row w' base (.slice (some ⟨g, 0, none⟩) (n1 + 1) c) (es.eraseIdx i ++ [es.getD i zeroE]) := by
  rcases s with ⟨s0, s1, s2, s3⟩
  have hq : (s0 != 2) = false := by simpa using h2
  clear h2
  obtain ⟨xs, o, od⟩ := h
  have hrow : some g = (Value.slice (some ⟨g, 0, none⟩) (n1 + 1) c).ownBlock := rfl
  rw [← hrow] at od
  rw [hn] at o
  have hxl := o.1
  have hcap : n1 + 1 ≤ c := by
    obtain ⟨_, ⟨e, _⟩ | ⟨g', cap', cur, e, _, _, hc, _⟩⟩ := o
    · cases e
    · simp only [Value.slice.injEq, true_and] at e
      omega
  have hcm : c ≤ maxLen := by
    obtain ⟨_, ⟨e, _⟩ | ⟨g', cap', cur, e, _, _, _, hc, _⟩⟩ := o
    · cases e
    · simp only [Value.slice.injEq, true_and] at e
      omega
  unfold maxLen at hcm
  have hglt : g < w.heap.size := (o.lt g rfl).2
  obtain ⟨hu0, cv, hu1, hcw, hok, _⟩ := od.2.1 i (by omega)
  obtain ⟨b, cc, rfl, _, _⟩ := words_own rfl hok.2 hcw
  clear hcw hok
  generalize (es.getD i zeroE).1 = key at hu0
  generalize (es.getD i zeroE).2.length = l at hu1
  have c0 : w.cell? ⟨g, i * 2, none⟩ = some (.int .u32 key) := own_cells o _ _ hu0
  have c1 : w.cell? ⟨g, i * 2 + 1, none⟩ = some (.slice b l cc) := own_cells o _ _ hu1
  obtain ⟨W0, hW0⟩ : ∃ W0, w.alloc (.cells #[.int .i64 s0, .int .i64 s1, .int .i64 s2, .int .i64 s3, .slice (some ⟨g, 0, none⟩) (n1 + 1) c, .int .u32 x] 42) = W0 := ⟨_, rfl⟩
  have hb0 : Below w.heap.size w W0 := by rw [← hW0]; exact (Below.refl _ _).alloc (Nat.le_refl _) _
  have hs0 : W0.heap.size = w.heap.size + 1 := by rw [← hW0]; simp
  have hBP : Box W0 w.heap.size 42 #[.int .i64 s0, .int .i64 s1, .int .i64 s2, .int .i64 s3, .slice (some ⟨g, 0, none⟩) (n1 + 1) c, .int .u32 x] := by rw [← hW0]; exact Box.new w 42 _
  obtain ⟨W1, hW1⟩ : ∃ W1, W0.alloc (.cells #[.int .u32 key, .slice b l cc] 66) = W1 := ⟨_, rfl⟩
  have hb1 : Below W0.heap.size W0 W1 := by rw [← hW1]; exact (Below.refl _ _).alloc (Nat.le_refl _) _
  have hBE : Box W1 (w.heap.size + 1) 66 #[.int .u32 key, .slice b l cc] := by rw [← hW1, ← hs0]; exact Box.new W0 66 _
  have hbw : Below w.heap.size w W1 := hb0.trans (hb1.mono hb0.size)
  have HBP := Lib.hid (hBP.later hb1)
  have HBE := Lib.hid hBE
  have p0 : W0.cell? ⟨w.heap.size, 0, none⟩ = some (.int .i64 s0) := hBP.cell rfl
  have p4 : W0.cell? ⟨w.heap.size, 4, none⟩ = some (.slice (some ⟨g, 0, none⟩) (n1 + 1) c) := hBP.cell rfl
  have p4' : W1.cell? ⟨w.heap.size, 4, none⟩ = some (.slice (some ⟨g, 0, none⟩) (n1 + 1) c) := HBP.out.cell rfl
  replace c0 := (hb0.cell (lt_of_cell c0)).trans c0
  replace c1 := (hb0.cell (lt_of_cell c1)).trans c1
  have o1 := ownsRow_below o hbw
  have od1 := od.below hbw
  have HE := Lib.hid (own_last (W := W1.drew) (i := i) (m := m) hm o1.drew (od1.below (Below.refl _ _).drew) hn hu0 hu1)
  have HG : Hid (w.grownBy W1.drew (some g)) := Lib.hid (grownBy_of_below hbw.drew _)
  have HC : Hid (∀ j, j < (n1 + 1) * 2 → (W1.drew.cell? ⟨g, j, none⟩).isSome = true) := Lib.hid (fun j hj => by
    have hl : j < xs.length := by rw [o.1]; exact hj
    rw [own_cells o1.drew j xs[j] (List.getElem?_eq_getElem hl)]
    rfl)
  have HZ : Hid (∀ j, W1.drew.frozen? ⟨g, j, none⟩ = false) := Lib.hid (fun j => Row.free (n := n1 + 1) (c := c) (base := base) (es := es) ⟨xs, by rw [hn]; exact o1.drew, od1.below (Below.refl _ _).drew⟩ j)
  have HX : Hid (∀ j u, (xs.drop ((i + 1) * 2))[j]? = some u → W1.drew.cell? ⟨g, (i + 1) * 2 + j, none⟩ = some u) := Lib.hid (fun j u hj => by
    rw [List.getElem?_drop] at hj
    exact own_cells o1.drew _ _ hj)
  have HOne : Hid (∀ u ∈ xs, u.oneCell' = true) := Lib.hid od.ents.one
  have q3 := run_backE g (n1 + 1) c i (i : Int) rfl (by omega)
  rw [if_neg (by omega), show n1 + 1 - i = m + 1 by omega] at q3
  have q8 := run_backE g (n1 + 1) c (i + 1) ((i : Int) + 1) (by omega) (by omega)
  rw [show n1 + 1 - (i + 1) = m by omega] at q8
  obtain ⟨A8, hA8⟩ : ∃ A8 : Addr, (if c = i + 1 then some (⟨g, 0, none⟩ : Addr) else some ⟨g, (i + 1) * 2, none⟩) = some A8 := by
    split
    · exact ⟨_, rfl⟩
    · exact ⟨_, rfl⟩
  have HN : Hid (∀ j u, (xs.drop ((i + 1) * 2))[j]? = some u → W1.drew.cell? (A8.add j) = some u) := Lib.hid (fun j u hj => by
    by_cases h : c = i + 1
    · have : (xs.drop ((i + 1) * 2)).length = 0 := by rw [List.length_drop]; omega
      rw [List.length_eq_zero_iff.1 this] at hj
      simp at hj
    · rw [if_neg h] at hA8
      obtain rfl := Option.some.inj hA8
      have e : (⟨g, (i + 1) * 2, none⟩ : Addr).add j = ⟨g, (i + 1) * 2 + j, none⟩ := by
        unfold Addr.add
        split <;> simp_all
      rw [e]
      exact HX.out j u hj)
  rw [hA8] at q8
  obtain ⟨WA, hWA⟩ : ∃ WA, W1.drew.setCells g (i * 2) (xs.drop ((i + 1) * 2)) = WA := ⟨_, rfl⟩
  rw [hWA] at HE
  have oA := own_lay (xs.drop ((i + 1) * 2)) W1.drew xs (i * 2) o1.drew
  rw [hWA] at oA
  have HC1 : Hid (∀ j, j < 2 → (WA.cell? ⟨g, n1 * 2 + j, none⟩).isSome = true) := Lib.hid (fun j hj => by
    have hl : n1 * 2 + j < (layL xs (i * 2) (xs.drop ((i + 1) * 2))).length := by rw [oA.1.1]; omega
    rw [own_cells oA.1 _ _ (List.getElem?_eq_getElem hl)]
    rfl)
  obtain ⟨t0, ht0⟩ : ∃ t0, WA.cell? ⟨g, n1 * 2, none⟩ = some t0 := Option.isSome_iff_exists.1 (HC1.out 0 (by omega))
  obtain ⟨t1, ht1⟩ : ∃ t1, WA.cell? ⟨g, n1 * 2 + 1, none⟩ = some t1 := Option.isSome_iff_exists.1 (HC1.out 1 (by omega))
  have z0 : WA.frozen? ⟨g, n1 * 2, none⟩ = false := by rw [← hWA, World.frozen?_setCells]; exact HZ.out _
  have z1 : WA.frozen? ⟨g, n1 * 2 + 1, none⟩ = false := by rw [← hWA, World.frozen?_setCells]; exact HZ.out _
  have HP2 := Lib.hid (HBP.out.drewN 1)
  have r4 : WA.cell? ⟨w.heap.size, 4, none⟩ = some (.slice (some ⟨g, 0, none⟩) (n1 + 1) c) := (oA.2.cell_far ⟨w.heap.size, 4, none⟩ (lt_of_cell p4') (fun e => by have : w.heap.size = g := Option.some.inj e; omega)).trans p4'
  have e0' : W1.cell? ⟨w.heap.size + 1, 0, none⟩ = some (.int .u32 key) := HBE.out.cell rfl
  have e1' : W1.cell? ⟨w.heap.size + 1, 1, none⟩ = some (.slice b l cc) := HBE.out.cell rfl
  have e0 : WA.cell? ⟨w.heap.size + 1, 0, none⟩ = some (.int .u32 key) := (oA.2.cell_far ⟨w.heap.size + 1, 0, none⟩ (lt_of_cell e0') (fun e => by have : w.heap.size + 1 = g := Option.some.inj e; omega)).trans e0'
  have e1 : WA.cell? ⟨w.heap.size + 1, 1, none⟩ = some (.slice b l cc) := (oA.2.cell_far ⟨w.heap.size + 1, 1, none⟩ (lt_of_cell e1') (fun e => by have : w.heap.size + 1 = g := Option.some.inj e; omega)).trans e1'
  have hwi := wI ((i : Int) + 1) (by omega) (by omega)
  have l0 : (i : Int) < (n1 : Int) + 1 := by omega
  have l1 : (i : Int) + 1 ≤ (n1 : Int) + 1 := by omega
  have HWA := Lib.hid hWA
  have HL := Lib.hid hxl
  clear o od o1 od1 hA8 hWA hxl hb0 hb1 hbw hBP hBE e0' e1' oA hu0 hu1
  go_enter Tryd.func138, Tryd.ntmps138
  go_wp2_with fail
  refine wp_region_held_drew (S := (fun w' => w'.cell? ⟨w.heap.size, 4, none⟩ = some (.slice (some ⟨g, 0, none⟩) (n1 + 1) c))) (by kernel_rfl) (p4') (fun hHeld => ?_)
  refine wpAnyH_yield (i := 0) (v := ?v0) rfl rfl (by kernel_rfl) (by kernel_rfl) (by kernel_rfl) (fun _ _ _ h => h) (by rfl) ?hy0 hHeld ?rest0
  case hy0 =>
    intro w hSw
    (try dsimp only at hSw)
    go_simp
    try with_reducible rfl
  simp only [Act.put, List.setIfInBounds_toArray, List.set_cons_zero, List.set_cons_succ]
  refine wpAnyH_yield (i := 1) (v := ?v1) rfl rfl (by kernel_rfl) (by kernel_rfl) (by kernel_rfl) (fun _ _ _ h => h) (by rfl) ?hy1 hHeld ?rest1
  case hy1 =>
    intro w hSw
    (try dsimp only at hSw)
    go_simp
    try with_reducible rfl
  simp only [Act.put, List.setIfInBounds_toArray, List.set_cons_zero, List.set_cons_succ]
  refine wpAnyH_yield (i := 2) (v := ?v2) rfl rfl (by kernel_rfl) (by kernel_rfl) (by kernel_rfl) (fun _ _ _ h => h) (by rfl) ?hy2 hHeld ?rest2
  case hy2 =>
    intro w hSw
    (try dsimp only at hSw)
    go_simp
    try with_reducible rfl
  simp only [Act.put, List.setIfInBounds_toArray, List.set_cons_zero, List.set_cons_succ]
  refine wpAnyH_yield (i := 3) (v := ?v3) rfl rfl (by kernel_rfl) (by kernel_rfl) (by kernel_rfl) (fun _ _ _ h => h) (by rfl) ?hy3 hHeld ?rest3
  case hy3 =>
    intro w hSw
    (try dsimp only at hSw)
    go_simp
    try with_reducible rfl
  simp only [Act.put, List.setIfInBounds_toArray, List.set_cons_zero, List.set_cons_succ]
  refine wpAnyH_yield (i := 4) (v := ?v4) rfl rfl (by kernel_rfl) (by kernel_rfl) (by kernel_rfl) (fun _ _ _ h => h) (by rfl) ?hy4 hHeld ?rest4
  case hy4 =>
    intro w hSw
    (try dsimp only at hSw)
    go_simp
    try with_reducible rfl
  simp only [Act.put, List.setIfInBounds_toArray, List.set_cons_zero, List.set_cons_succ]
  refine wpAnyH_yield (i := 5) (v := ?v5) rfl rfl (by kernel_rfl) (by kernel_rfl) (by kernel_rfl) (fun _ _ _ h => h) (by rfl) ?hy5 hHeld ?rest5
  case hy5 =>
    intro w hSw
    (try dsimp only at hSw)
    go_simp
    try with_reducible rfl
  simp only [Act.put, List.setIfInBounds_toArray, List.set_cons_zero, List.set_cons_succ]
  refine wpAnyH_yield (i := 6) (v := ?v6) rfl rfl (by kernel_rfl) (by kernel_rfl) (by kernel_rfl) (fun _ _ _ h => h) (by rfl) ?hy6 hHeld ?rest6
  case hy6 =>
    intro w hSw
    (try dsimp only at hSw)
    go_simp
    try with_reducible rfl
  simp only [Act.put, List.setIfInBounds_toArray, List.set_cons_zero, List.set_cons_succ]
  refine wpAnyH_yield (i := 7) (v := ?v7) rfl rfl (by kernel_rfl) (by kernel_rfl) (by kernel_rfl) (fun _ _ _ h => h) (by rfl) ?hy7 hHeld ?rest7
  case hy7 =>
    intro w hSw
    (try dsimp only at hSw)
    go_simp
    try with_reducible rfl
  simp only [Act.put, List.setIfInBounds_toArray, List.set_cons_zero, List.set_cons_succ]
  refine wpAnyH_yield (i := 8) (v := ?v8) rfl rfl (by kernel_rfl) (by kernel_rfl) (by kernel_rfl) (fun _ _ _ h => h) (by rfl) ?hy8 hHeld ?rest8
  case hy8 =>
    intro w hSw
    (try dsimp only at hSw)
    go_simp
    try with_reducible rfl
  simp only [Act.put, List.setIfInBounds_toArray, List.set_cons_zero, List.set_cons_succ]
  refine wpAnyH_ready (rs := [9]) (by kernel_rfl) (by simp) ?_
  refine AllReadyH.cons rfl (fun K hK => ?_) AllReadyH.nil
  refine step_copyE W1.drew (by rfl) _ _ (by rfl) (by rfl) g (i * 2) (m + 1) (c - i) (by rfl) A8 m (c - (i + 1)) (by rfl) (by omega) (xs.drop ((i + 1) * 2)) (by have := HL.out; rw [List.length_drop]; omega) HN.out (fun u hu => HOne.out u (List.mem_of_mem_drop hu)) (fun j hj => by rw [List.length_drop, HL.out] at hj; exact ⟨HC.out _ (by omega), HZ.out _⟩) ?_
  rw [HWA.out]
  refine hK.out _ _ (r4) (fun hHeld => ?_)
  clear hK K
  try simp only [Act.put, List.setIfInBounds_toArray, List.set_cons_zero, List.set_cons_succ]
  refine wpAnyH_done (by kernel_rfl) ?_ _
  clear q3 q8 hHeld hW0 hW1 c0 c1 p0 p4 p4'
  go_wp2
  refine bodyPost_end (results_none rfl _ _ _) rfl ?_
  exact ⟨rfl, grownBy_trans HG.out HE.out.2, HE.out.1⟩
end Go.Proofs.YtilddlgcfbefiaaDoor
