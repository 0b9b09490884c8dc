/-
  What the fifth reference's without returns, as a contract over the translated program: the table without one entry.
-/
import Derived.Test.YtilddlgcfbefiaaDoorGta
import Derived.Deep.AppendSrc
import Derived.Deep.Upon
namespace Go.Proofs.YtilddlgcfbefiaaDoor
set_option linter.unusedSimpArgs false
set_option linter.unusedVariables false
open Go Go.RowKit

theorem Ents.one {W : World} {A : Nat → Prop} {xs : List Value} {es : List Ent} (h : Ents W A xs es) : ∀ u ∈ xs, u.oneCell' = true := by
  intro u hu
  obtain ⟨j, hj, rfl⟩ := List.getElem_of_mem hu
  have hl := h.1
  obtain ⟨e1, _, b, l, c, e2, _⟩ := h.2 (j / 2) (by omega)
  rcases Nat.mod_two_eq_zero_or_one j with hm | hm
  · have e : j / 2 * 2 = j := by omega
    rw [e, List.getElem?_eq_getElem hj] at e1
    rw [Option.some.inj e1]
    rfl
  · have e : j / 2 * 2 + 1 = j := by omega
    rw [e, List.getElem?_eq_getElem hj] at e2
    rw [Option.some.inj e2]
    rfl
theorem sizeOfE (w : World) : (sizeOf 66).run Tryd.prog w = .ok 2 w := by kernel_rfl
theorem run_frontE (a : Option Addr) (len cap k : Nat) (hk : k ≤ cap) (w : World) :
    (Instr.sliceAt 40 (.slice a len cap) none (some (.int .i64 (k : Int))) none).run Tryd.prog w = .ok (.slice a k cap) w := by
  have ht : Tryd.prog.underlying 40 = some (.slice (Tryd.prog.elem 40)) := by kernel_rfl
  have he : Tryd.prog.elem 40 = 66 := by kernel_rfl
  rw [run_sliceAt_slice w 40 _ _ _ _ ht, run_slice_h w 40 a len cap ht .i64 k (by omega) (by omega), he, sizeOfE]
  cases a <;> simp [Result.andThen, sliced, Addr.add_zero']
theorem run_backE (g len cap k : Nat) (i : Int) (hi : i = (k : Int)) (hk : k ≤ len) (w : World) :
    (Instr.sliceAt 40 (.slice (some ⟨g, 0, none⟩) len cap) (some (.int .i64 i)) none none).run Tryd.prog w = .ok (.slice (if cap = k then some ⟨g, 0, none⟩ else some ⟨g, k * 2, none⟩) (len - k) (cap - k)) w := by
  subst hi
  have ht : Tryd.prog.underlying 40 = some (.slice (Tryd.prog.elem 40)) := by kernel_rfl
  have he : Tryd.prog.elem 40 = 66 := by kernel_rfl
  rw [run_sliceAt_slice w 40 _ _ _ _ ht, run_slice_l w 40 _ len cap ht .i64 k (by omega) (by omega), he, sizeOfE]
  simp [Result.andThen, sliced, addr_add]
/- 'append(s, x...)', s a row of one's own, at a step of a region that draws its order -/
theorem step_catE {ops : Array Oper} {o : Oper} {a : Act} {d : Tmp} {K : Act → World → Prop} {Q : Exit → Act → World → Prop} {E : Prop} (w : World) (hgd : o.guard = none) (s x : Operand)
    (ho : o.op = .call { callee := .builtin .append, args := #[s, x], argTypes := #[40, 40] }) (ht : o.type = 40) (hd : o.dst = some d)
    (base : Nat) (v : Value) (n : Nat) (xs : List Value) (hs : a.eval s = v) (hown : w.ownsRow base 66 2 v n xs) (ad : Option Addr) (m c : Nat) (news : List Value) (hx : a.eval x = .slice ad m c) (hl : news.length = m * 2)
    (hnews : m = 0 ∨ ∃ y, ad = some y ∧ ∀ j u, news[j]? = some u → w.cell? (y.add j) = some u) (h1 : ∀ u ∈ news, u.oneCell' = true) (h80 : n + m ≤ 1000) (hbase : base ≤ w.heap.size)
    (h : ∀ v' w', w'.ownsRow base 66 2 v' (n + m) (xs ++ news) → w.grownBy w' v.ownBlock → (v'.ownBlock = v.ownBlock ∨ v'.ownBlock = some w.heap.size) → K (a.put (some d) v') w') :
    if Region.wanted o (yielded ops a.tmps) = true then Oper.wp Tryd.prog o a w K Q else E := by
  obtain ⟨iE, hiE, hz0, hz1, hz2⟩ := info_parts infoE
  by_cases hm : m = 0
  · subst hm
    have hw : Region.wanted o (yielded ops a.tmps) = true := by simp [Region.wanted, hgd]
    rw [if_pos hw]
    have hc : news = [] := List.length_eq_zero_iff.1 (by omega)
    subst hc
    have hsrc : Src Tryd.prog iE.size 40 (.slice ad 0 c) 0 [] w := by
      cases ad with
      | none => exact Src.ofNil w Tryd.underlying40 c
      | some y => exact Src.ofSlice w Tryd.underlying40 y 0 c [] (by simp) (by simp) (by simp)
    have hr : (Builtin.append_ #[40, 40] 40 #[v, .slice ad 0 c]).run Tryd.prog w = .ok v w := by
      obtain ⟨_, ⟨rfl, rfl⟩ | ⟨g, cap, cur, rfl, hb, hh, hc, hm, hs', ht'⟩⟩ := hown
      · exact run_append_nothing w _ _ _ _ iE Tryd.underlying40 hiE none 0 0 (Nat.le_refl _) _ hsrc
      · exact run_append_nothing w _ _ _ _ iE Tryd.underlying40 hiE _ n cap hc _ hsrc
    unfold Oper.wp execOp
    simp only [ho, ht, resolve, invoke, builtin, Sem.run_bind, Sem.run_pure, Result.andThen_ok, List.map_toArray, List.map_cons, List.map_nil, hs, hx, hr, Oper.upon, hd]
    exact h v w (by simpa using hown) (grownBy_refl _ _) (.inl rfl)
  · obtain ⟨y, rfl, hy⟩ := hnews.resolve_left hm
    refine step_lies w hgd s x 40 ho hd base 66 iE _ 2 32 Tryd.underlying40 hiE hz0 hz1 hz2 rfl (by omega) v n xs hs hown y m c news hx hl hy h1 (by omega) (by unfold maxLen; omega) (by omega) hbase w.heap.size rfl ?_
    intro g cp w' hown' hgrow hat _
    refine h _ w' hown' hgrow ?_
    rcases hat with e | e
    · exact .inl e.symm
    · exact .inr (by rw [e]; rfl)

set_option maxRecDepth 100000 in
set_option maxHeartbeats 8000000 in
theorem without_any (s : Sc) (a : Option Addr) (len cap : Nat) (x : Int) (es : List Ent) (j : Nat) (w : World) (h : EntsAt w a len cap es) (hf : fewE es) (hj : j < es.length) :
    Calls Tryd.prog 102 #[tbV s (.slice a len cap) x, .int .i64 (j : Int)] w (TabPost (withoutT (s, es, x) j) (fun n => w.heap.size ≤ n) w) := by
  rcases s with ⟨s0, s1, s2, s3⟩
  have h40 : es.length ≤ 40 := hf.1
  obtain ⟨W0, hW0⟩ : ∃ W0, (w.alloc (.cells #[.int .i64 s0, .int .i64 s1, .int .i64 s2, .int .i64 s3, .slice a len cap, .int .u32 x] 42)).alloc (.cells zeroTA 42) = W0 := ⟨_, rfl⟩
  have hs0 : W0.heap.size = w.heap.size + 1 + 1 := by rw [← hW0]; simp
  have hb0 : Below w.heap.size w W0 := by rw [← hW0]; exact box2 (Below.refl _ _) (Nat.le_refl _) _ _
  have HT : Hid (Box W0 w.heap.size 42 #[.int .i64 s0, .int .i64 s1, .int .i64 s2, .int .i64 s3, .slice a len cap, .int .u32 x]) := by rw [← hW0]; exact Lib.hid ((Box.new w 42 _).alloc _)
  have HR : Hid (Box W0 (w.heap.size + 1) 42 zeroTA) := by
    rw [← hW0]
    have := Box.new (w.alloc (.cells #[.int .i64 s0, .int .i64 s1, .int .i64 s2, .int .i64 s3, .slice a len cap, .int .u32 x] 42)) 42 zeroTA
    rw [show (w.alloc (.cells #[.int .i64 s0, .int .i64 s1, .int .i64 s2, .int .i64 s3, .slice a len cap, .int .u32 x] 42)).heap.size = w.heap.size + 1 by simp] at this
    exact Lib.hid this
  have HEs := Lib.hid (h.below hb0)
  have HF := Lib.hid hf
  obtain ⟨d0, d1, d2, d3, d4, d5⟩ := Box.tb (s := (s0, s1, s2, s3)) HT.out
  simp only at d0 d1 d2 d3 d4 d5
  clear h hf
  go_enter Tryd.func102, Tryd.ntmps102
  go_wp2_with fail
  refine (own_any (s0, s1, s2, s3) a len cap x es W0 HEs.out HF.out).mono ?_
  rintro e w1 ⟨v, xs, rfl, hg1, hown1, hOd1⟩
  obtain ⟨g, cv, rfl, _, _⟩ := hown1.form (by omega)
  have hs1 := hg1.size
  have HR1 := Lib.hid (HR.out.later hg1)
  have hvB := hown1.lt
  obtain ⟨W2, hW2⟩ : ∃ W2, w1.alloc (.cells #[.int .i64 s0, .int .i64 s1, .int .i64 s2, .int .i64 s3, .slice (some ⟨g, 0, none⟩) es.length cv, .int .u32 x] 42) = W2 := ⟨_, rfl⟩
  have ha2 : Below w1.heap.size w1 W2 := by rw [← hW2]; exact (Below.refl _ _).alloc (Nat.le_refl _) _
  have HO2 : Hid (Box W2 w1.heap.size 42 #[.int .i64 s0, .int .i64 s1, .int .i64 s2, .int .i64 s3, .slice (some ⟨g, 0, none⟩) es.length cv, .int .u32 x]) := by rw [← hW2]; exact Lib.hid (Box.new w1 42 _)
  have hs2 : W2.heap.size = w1.heap.size + 1 := by rw [← hW2]; simp
  have HR2 := Lib.hid (HR1.out.later ha2)
  have hown2 := ownsRow_below hown1 ha2
  have hb2 : Below w.heap.size w W2 := hb0.trans ((hg1.trans (ha2.mono hs1)).mono hb0.size)
  have HA2 := Lib.hid (hOd1.ents.below ha2)
  clear d0 d1 d2 d3 d4 d5 hW0 HT HEs HR HR1 hown1 hg1 hOd1 ha2
  obtain ⟨d0, d1, d2, d3, d4, d5⟩ := Box.tb (s := (s0, s1, s2, s3)) HO2.out
  simp only at d0 d1 d2 d3 d4 d5
  obtain ⟨O, hO⟩ : ∃ O, w1.heap.size = O := ⟨_, rfl⟩
  rw [hO] at d0 d1 d2 d3 d4 d5 hs2 HO2 hvB HA2
  have hgb : W0.heap.size + 1 ≤ g ∧ g < O := hvB g rfl
  have hcv : es.length ≤ cv := by
    obtain ⟨_, ⟨e, _⟩ | ⟨g', cap', cur, e, _, _, hc, _⟩⟩ := hown2
    · cases e
    · simp only [Value.slice.injEq, true_and] at e
      omega
  have q3 := run_frontE (some ⟨g, 0, none⟩) es.length cv j (by omega)
  have q8 := run_backE g es.length cv (j + 1) ((j : Int) + 1) (by omega) (by omega)
  obtain ⟨A8, hA8⟩ : ∃ A8, (if cv = j + 1 then some (⟨g, 0, none⟩ : Addr) else some ⟨g, (j + 1) * 2, none⟩) = A8 := ⟨_, rfl⟩
  rw [hA8] at q8
  have hwj := wI ((j : Int) + 1) (by omega) (by omega)
  have l0 : (j : Int) ≤ (cv : Int) := by omega
  have l1 : (j : Int) + 1 ≤ (es.length : Int) := by omega
  have HX2 := Lib.hid (own_prefix hown2 (i := j) (by omega))
  have HC2 := Lib.hid (own_cells hown2)
  have HL := Lib.hid HA2.out.1
  have HNews : Hid (es.length - (j + 1) = 0 ∨ ∃ y, A8 = some y ∧ ∀ i u, (xs.drop ((j + 1) * 2))[i]? = some u → W2.drew.cell? (y.add i) = some u) := Lib.hid (by
    by_cases h0 : es.length - (j + 1) = 0
    · exact .inl h0
    · right
      refine ⟨⟨g, (j + 1) * 2, none⟩, by rw [← hA8, if_neg (by omega)], fun i u hu => ?_⟩
      rw [List.getElem?_drop] at hu
      have e : (⟨g, (j + 1) * 2, none⟩ : Addr).add i = ⟨g, (j + 1) * 2 + i, none⟩ := by
        unfold Addr.add
        split <;> simp_all
      rw [e]
      exact HC2.out _ _ hu)
  clear hA8
  go_wp2_with fail
  clear hW2
  refine wp_region_any (by kernel_rfl) ?_
  (try (change wpAny _ _ _ _ _ _ _ (World.drew _)))
  refine wpAny_yield (i := 0) (v := ?v0) rfl rfl (by kernel_rfl) (by kernel_rfl) (by kernel_rfl) (fun _ _ _ h => h) (by rfl) ?hy0 ?rest0
  case hy0 =>
    intro w
    go_simp
    try with_reducible rfl
  simp only [Act.put, List.setIfInBounds_toArray, List.set_cons_zero, List.set_cons_succ]
  refine wpAny_yield (i := 2) (v := ?v2) rfl rfl (by kernel_rfl) (by kernel_rfl) (by kernel_rfl) (fun _ _ _ h => h) (by rfl) ?hy2 ?rest2
  case hy2 =>
    intro w
    go_simp
    try with_reducible rfl
  simp only [Act.put, List.setIfInBounds_toArray, List.set_cons_zero, List.set_cons_succ]
  refine wpAny_yield (i := 4) (v := ?v4) rfl rfl (by kernel_rfl) (by kernel_rfl) (by kernel_rfl) (fun _ _ _ h => h) (by rfl) ?hy4 ?rest4
  case hy4 =>
    intro w
    go_simp
    try with_reducible rfl
  simp only [Act.put, List.setIfInBounds_toArray, List.set_cons_zero, List.set_cons_succ]
  refine wpAny_yield (i := 6) (v := ?v6) rfl rfl (by kernel_rfl) (by kernel_rfl) (by kernel_rfl) (fun _ _ _ h => h) (by rfl) ?hy6 ?rest6
  case hy6 =>
    intro w
    go_simp
    try with_reducible rfl
  simp only [Act.put, List.setIfInBounds_toArray, List.set_cons_zero, List.set_cons_succ]
  refine wpAny_yield (i := 7) (v := ?v7) rfl rfl (by kernel_rfl) (by kernel_rfl) (by kernel_rfl) (fun _ _ _ h => h) (by rfl) ?hy7 ?rest7
  case hy7 =>
    intro w
    go_simp
    try with_reducible rfl
  simp only [Act.put, List.setIfInBounds_toArray, List.set_cons_zero, List.set_cons_succ]
  refine wpAny_ready (rs := [1, 5]) (by kernel_rfl) (by simp) ?_
  refine AllReady.cons rfl (fun K hK => ?_) ?_
  · go_simp
    refine hK _ _ ?_
    clear hK K
    refine wpAny_yield (i := 3) (v := ?va3) rfl rfl (by kernel_rfl) (by kernel_rfl) (by kernel_rfl) (fun _ _ _ h => h) (by rfl) ?hya3 ?resta3
    case hya3 =>
      intro w
      go_simp
      try with_reducible rfl
    simp only [Act.put, List.setIfInBounds_toArray, List.set_cons_zero, List.set_cons_succ]
    refine wpAny_ready (rs := [5]) (by kernel_rfl) (by simp) ?_
    refine AllReady.cons rfl (fun K hK => ?_) AllReady.nil
    go_simp
    refine hK _ _ ?_
    clear hK K
    refine wpAny_yield (i := 8) (v := ?va8) rfl rfl (by kernel_rfl) (by kernel_rfl) (by kernel_rfl) (fun _ _ _ h => h) (by rfl) ?hya8 ?resta8
    case hya8 =>
      intro w
      go_simp
      try with_reducible rfl
    simp only [Act.put, List.setIfInBounds_toArray, List.set_cons_zero, List.set_cons_succ]
    refine wpAny_ready (rs := [9]) (by kernel_rfl) (by simp) ?_
    refine AllReady.cons rfl (fun K hK => ?_) AllReady.nil
    refine step_catE W2.drew (by rfl) _ _ (by rfl) (by rfl) (by rfl) (W0.heap.size + 1) (.slice (some ⟨g, 0, none⟩) j cv) j (xs.take (j * 2)) (by rfl) HX2.out.drew A8 (es.length - (j + 1)) (cv - (j + 1)) (xs.drop ((j + 1) * 2)) (by rfl) (by have := HL.out; rw [List.length_drop]; omega) HNews.out (fun u hu => HA2.out.one u (List.mem_of_mem_drop hu)) (by omega) (by simp; omega) ?_
    intro v6 w6 hown6 hgrow6 hat6
    have HE6 := Lib.hid (HA2.out.erase hj)
    obtain ⟨b6, c6, hv6⟩ : ∃ b6 c6, v6 = (.slice b6 (j + (es.length - (j + 1))) c6) := by
      obtain ⟨_, ⟨e, e2⟩ | ⟨g', cap', cur, e, _⟩⟩ := hown6
      · exact ⟨none, 0, by rw [e, e2]⟩
      · exact ⟨_, _, e⟩
    subst hv6
    have hneO : some O ≠ (Value.slice (some ⟨g, 0, none⟩) j cv).ownBlock := fun e => by have : O = g := Option.some.inj e; omega
    have hneR : some (w.heap.size + 1) ≠ (Value.slice (some ⟨g, 0, none⟩) j cv).ownBlock := fun e => by have : w.heap.size + 1 = g := Option.some.inj e; omega
    have HO6 := Lib.hid (Box.grown (w := W2.drew) HO2.out hgrow6 hneO)
    have HR6 := Lib.hid (Box.grown (w := W2.drew) HR2.out hgrow6 hneR)
    have hb6 : Below w.heap.size w w6 := (hb2.drew).grown hgrow6 (by simp; omega) (fun g' hg => by have : g = g' := Option.some.inj hg; omega)
    have HA6 : Hid (Ents w6 (fun n => w.heap.size ≤ n ∧ n ≠ O ∧ n ≠ w.heap.size + 1) (xs.take (j * 2) ++ xs.drop ((j + 1) * 2)) (es.eraseIdx j)) := Lib.hid (((HE6.out.grown (W' := W2.drew) (grownBy_of_below ((Below.refl _ _).drew) none) (fun _ _ => by simp)).grown hgrow6 (fun n hn => hn.2.2)).mono (fun n hn => by omega))
    have c4 : w6.cell? ⟨O, 4, none⟩ = some (.slice (some ⟨g, 0, none⟩) es.length cv) := HO6.out.cell rfl
    have f4 : w6.frozen? ⟨O, 4, none⟩ = false := HO6.out.free 4
    have HG6 : Hid (((.slice b6 (j + (es.length - (j + 1))) c6) : Value).ownBlock ≠ some O ∧ ∀ k, ((.slice b6 (j + (es.length - (j + 1))) c6) : Value).ownBlock = some k → W0.heap.size + 1 ≤ k) := Lib.hid ⟨fun e => by
      rcases hat6 with h | h
      · rw [h] at e
        have : g = O := Option.some.inj e
        omega
      · rw [h] at e
        have : W2.heap.size = O := Option.some.inj e
        omega, fun k hk => (hown6.lt k hk).1⟩
    refine hK _ _ ?_
    clear hK K
    try simp only [Act.put, List.setIfInBounds_toArray, List.set_cons_zero, List.set_cons_succ]
    refine wpAny_yield (i := 10) (v := ?va10) rfl rfl (by kernel_rfl) (by kernel_rfl) (by kernel_rfl) (fun _ _ _ h => h) (by rfl) ?hya10 ?resta10
    case hya10 =>
      intro w
      go_simp
      try with_reducible rfl
    simp only [Act.put, List.setIfInBounds_toArray, List.set_cons_zero, List.set_cons_succ]
    refine wpAny_ready (rs := [11]) (by kernel_rfl) (by simp) ?_
    refine AllReady.cons rfl (fun K hK => ?_) AllReady.nil
    go_simp
    refine hK _ _ ?_
    clear hK K
    refine wpAny_done (by kernel_rfl) ?_ _
    clear d0 d1 d2 d3 d4 d5 q3 q8 HX2 HNews HC2
    have HO7 := Lib.hid (HO6.out.set 4 (.slice b6 (j + (es.length - (j + 1))) c6))
    have HR7 := Lib.hid (HR6.out.other (p := ⟨O, 4, none⟩) (by show w.heap.size + 1 ≠ O; omega) (.slice b6 (j + (es.length - (j + 1))) c6))
    have hgs := grownBy_setCell w6 ⟨O, 4, none⟩ (.slice b6 (j + (es.length - (j + 1))) c6)
    have HOwn7 := Lib.hid (hown6.kept hgs (.inr HG6.out.1))
    have HA7 := Lib.hid (HA6.out.grown hgs (fun n hn e => hn.2.1 (by simpa using e)))
    have hb7 : Below w.heap.size w (w6.setCell ⟨O, 4, none⟩ (.slice b6 (j + (es.length - (j + 1))) c6)) := hb6.setCell (by show w.heap.size ≤ O; omega) _
    obtain ⟨k0, k1, k2, k3, k4, k5⟩ := Box.tb (s := (s0, s1, s2, s3)) HO7.out
    simp only at k0 k1 k2 k3 k4 k5
    clear hown6 hgrow6 hat6 hgs c4 f4 HO6 HR6 HA6
    generalize hW7 : w6.setCell ⟨O, 4, none⟩ (.slice b6 (j + (es.length - (j + 1))) c6) = W7 at *
    go_wp2_with (refine wpList_store_row rfl 42 _ _ rfl (w.heap.size + 1) _ rfl rfl 42 _ HR7.out (by kernel_rfl) rfl (by simp [Value.oneCell']) ?_)
    refine bodyPost_ret (v := tbV (s0, s1, s2, s3) (.slice b6 (j + (es.length - (j + 1))) c6) x) ?_ rfl ?_
    · exact results_cell_row Tryd.results102 _ _ (w.heap.size + 1) 42 _ (0, 0) _ rfl (setRow_heap _ _ _ _ _ _ HR7.out) Tryd.underlying42 rfl (by kernel_rfl)
    · have hgr := grownBy_setRow W7 (w.heap.size + 1) #[.int .i64 s0, .int .i64 s1, .int .i64 s2, .int .i64 s3, .slice b6 (j + (es.length - (j + 1))) c6, .int .u32 x]
      obtain ⟨b8, c8, e8, hE8⟩ := rows_in (by rw [List.length_eraseIdx, if_pos hj]; omega) (own_far HOwn7.out hgr (by omega)) ((HA7.out.grown hgr (fun n hn e => hn.2.2 (by simpa using e))).mono (fun n hn => hn.1)) (fun n hn => by omega)
      simp only [Value.slice.injEq, true_and] at e8
      obtain ⟨rfl, rfl⟩ := e8
      exact ⟨_, _, _, rfl, below_setRow hb7 (by omega) _, hE8⟩
  · refine AllReady.cons rfl (fun K hK => ?_) AllReady.nil
    go_simp
    refine hK _ _ ?_
    clear hK K
    refine wpAny_yield (i := 8) (v := ?vb8) rfl rfl (by kernel_rfl) (by kernel_rfl) (by kernel_rfl) (fun _ _ _ h => h) (by rfl) ?hyb8 ?restb8
    case hyb8 =>
      intro w
      go_simp
      try with_reducible rfl
    simp only [Act.put, List.setIfInBounds_toArray, List.set_cons_zero, List.set_cons_succ]
    refine wpAny_ready (rs := [1]) (by kernel_rfl) (by simp) ?_
    refine AllReady.cons rfl (fun K hK => ?_) AllReady.nil
    go_simp
    refine hK _ _ ?_
    clear hK K
    refine wpAny_yield (i := 3) (v := ?vb3) rfl rfl (by kernel_rfl) (by kernel_rfl) (by kernel_rfl) (fun _ _ _ h => h) (by rfl) ?hyb3 ?restb3
    case hyb3 =>
      intro w
      go_simp
      try with_reducible rfl
    simp only [Act.put, List.setIfInBounds_toArray, List.set_cons_zero, List.set_cons_succ]
    refine wpAny_ready (rs := [9]) (by kernel_rfl) (by simp) ?_
    refine AllReady.cons rfl (fun K hK => ?_) AllReady.nil
    refine step_catE W2.drew (by rfl) _ _ (by rfl) (by rfl) (by rfl) (W0.heap.size + 1) (.slice (some ⟨g, 0, none⟩) j cv) j (xs.take (j * 2)) (by rfl) HX2.out.drew A8 (es.length - (j + 1)) (cv - (j + 1)) (xs.drop ((j + 1) * 2)) (by rfl) (by have := HL.out; rw [List.length_drop]; omega) HNews.out (fun u hu => HA2.out.one u (List.mem_of_mem_drop hu)) (by omega) (by simp; omega) ?_
    intro v6 w6 hown6 hgrow6 hat6
    have HE6 := Lib.hid (HA2.out.erase hj)
    obtain ⟨b6, c6, hv6⟩ : ∃ b6 c6, v6 = (.slice b6 (j + (es.length - (j + 1))) c6) := by
      obtain ⟨_, ⟨e, e2⟩ | ⟨g', cap', cur, e, _⟩⟩ := hown6
      · exact ⟨none, 0, by rw [e, e2]⟩
      · exact ⟨_, _, e⟩
    subst hv6
    have hneO : some O ≠ (Value.slice (some ⟨g, 0, none⟩) j cv).ownBlock := fun e => by have : O = g := Option.some.inj e; omega
    have hneR : some (w.heap.size + 1) ≠ (Value.slice (some ⟨g, 0, none⟩) j cv).ownBlock := fun e => by have : w.heap.size + 1 = g := Option.some.inj e; omega
    have HO6 := Lib.hid (Box.grown (w := W2.drew) HO2.out hgrow6 hneO)
    have HR6 := Lib.hid (Box.grown (w := W2.drew) HR2.out hgrow6 hneR)
    have hb6 : Below w.heap.size w w6 := (hb2.drew).grown hgrow6 (by simp; omega) (fun g' hg => by have : g = g' := Option.some.inj hg; omega)
    have HA6 : Hid (Ents w6 (fun n => w.heap.size ≤ n ∧ n ≠ O ∧ n ≠ w.heap.size + 1) (xs.take (j * 2) ++ xs.drop ((j + 1) * 2)) (es.eraseIdx j)) := Lib.hid (((HE6.out.grown (W' := W2.drew) (grownBy_of_below ((Below.refl _ _).drew) none) (fun _ _ => by simp)).grown hgrow6 (fun n hn => hn.2.2)).mono (fun n hn => by omega))
    have c4 : w6.cell? ⟨O, 4, none⟩ = some (.slice (some ⟨g, 0, none⟩) es.length cv) := HO6.out.cell rfl
    have f4 : w6.frozen? ⟨O, 4, none⟩ = false := HO6.out.free 4
    have HG6 : Hid (((.slice b6 (j + (es.length - (j + 1))) c6) : Value).ownBlock ≠ some O ∧ ∀ k, ((.slice b6 (j + (es.length - (j + 1))) c6) : Value).ownBlock = some k → W0.heap.size + 1 ≤ k) := Lib.hid ⟨fun e => by
      rcases hat6 with h | h
      · rw [h] at e
        have : g = O := Option.some.inj e
        omega
      · rw [h] at e
        have : W2.heap.size = O := Option.some.inj e
        omega, fun k hk => (hown6.lt k hk).1⟩
    refine hK _ _ ?_
    clear hK K
    try simp only [Act.put, List.setIfInBounds_toArray, List.set_cons_zero, List.set_cons_succ]
    refine wpAny_yield (i := 10) (v := ?vb10) rfl rfl (by kernel_rfl) (by kernel_rfl) (by kernel_rfl) (fun _ _ _ h => h) (by rfl) ?hyb10 ?restb10
    case hyb10 =>
      intro w
      go_simp
      try with_reducible rfl
    simp only [Act.put, List.setIfInBounds_toArray, List.set_cons_zero, List.set_cons_succ]
    refine wpAny_ready (rs := [11]) (by kernel_rfl) (by simp) ?_
    refine AllReady.cons rfl (fun K hK => ?_) AllReady.nil
    go_simp
    refine hK _ _ ?_
    clear hK K
    refine wpAny_done (by kernel_rfl) ?_ _
    clear d0 d1 d2 d3 d4 d5 q3 q8 HX2 HNews HC2
    have HO7 := Lib.hid (HO6.out.set 4 (.slice b6 (j + (es.length - (j + 1))) c6))
    have HR7 := Lib.hid (HR6.out.other (p := ⟨O, 4, none⟩) (by show w.heap.size + 1 ≠ O; omega) (.slice b6 (j + (es.length - (j + 1))) c6))
    have hgs := grownBy_setCell w6 ⟨O, 4, none⟩ (.slice b6 (j + (es.length - (j + 1))) c6)
    have HOwn7 := Lib.hid (hown6.kept hgs (.inr HG6.out.1))
    have HA7 := Lib.hid (HA6.out.grown hgs (fun n hn e => hn.2.1 (by simpa using e)))
    have hb7 : Below w.heap.size w (w6.setCell ⟨O, 4, none⟩ (.slice b6 (j + (es.length - (j + 1))) c6)) := hb6.setCell (by show w.heap.size ≤ O; omega) _
    obtain ⟨k0, k1, k2, k3, k4, k5⟩ := Box.tb (s := (s0, s1, s2, s3)) HO7.out
    simp only at k0 k1 k2 k3 k4 k5
    clear hown6 hgrow6 hat6 hgs c4 f4 HO6 HR6 HA6
    generalize hW7 : w6.setCell ⟨O, 4, none⟩ (.slice b6 (j + (es.length - (j + 1))) c6) = W7 at *
    go_wp2_with (refine wpList_store_row rfl 42 _ _ rfl (w.heap.size + 1) _ rfl rfl 42 _ HR7.out (by kernel_rfl) rfl (by simp [Value.oneCell']) ?_)
    refine bodyPost_ret (v := tbV (s0, s1, s2, s3) (.slice b6 (j + (es.length - (j + 1))) c6) x) ?_ rfl ?_
    · exact results_cell_row Tryd.results102 _ _ (w.heap.size + 1) 42 _ (0, 0) _ rfl (setRow_heap _ _ _ _ _ _ HR7.out) Tryd.underlying42 rfl (by kernel_rfl)
    · have hgr := grownBy_setRow W7 (w.heap.size + 1) #[.int .i64 s0, .int .i64 s1, .int .i64 s2, .int .i64 s3, .slice b6 (j + (es.length - (j + 1))) c6, .int .u32 x]
      obtain ⟨b8, c8, e8, hE8⟩ := rows_in (by rw [List.length_eraseIdx, if_pos hj]; omega) (own_far HOwn7.out hgr (by omega)) ((HA7.out.grown hgr (fun n hn e => hn.2.2 (by simpa using e))).mono (fun n hn => hn.1)) (fun n hn => by omega)
      simp only [Value.slice.injEq, true_and] at e8
      obtain ⟨rfl, rfl⟩ := e8
      exact ⟨_, _, _, rfl, below_setRow hb7 (by omega) _, hE8⟩
end Go.Proofs.YtilddlgcfbefiaaDoor
