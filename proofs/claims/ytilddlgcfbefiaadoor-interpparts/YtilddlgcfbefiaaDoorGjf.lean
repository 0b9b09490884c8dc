/-
  Texts that the laws of this layer stand on, one behind the other.
-/
import Derived.Test.YtilddlgcfbefiaaDoorGje
import Derived.Test.YtilddlgcfbefiaaDoorGhx
/-
  What a helper's call leaves of an environment: its tables are not too great, its seed and its context are words.
-/
namespace Go.Proofs.YtilddlgcfbefiaaDoor
set_option linter.unusedSimpArgs false
set_option linter.unusedVariables false
open Go Go.RowKit
theorem callP_few {n : Int} {e : Ev} {zs : List Int} (hz : wordL zs) (hw : fewL e.2.1) : fewL (callP n e zs).1.2.1 := by
  by_cases hl : (zs.length : Int) = argsP n
  · by_cases h4 : n = 4
    · subst h4
      rw [callP_draw hl]
      exact hw
    · rcases hm : mayOp n e.2.1 zs with _ | _
      · rw [callP_fault hl h4 hm]
        exact hw
      · obtain ⟨i, hi⟩ : ∃ i : Nat, zs.getD 0 0 = (i : Int) := by
          refine ⟨(zs.getD 0 0).toNat, ?_⟩
          rcases Nat.lt_or_ge 0 zs.length with h | h
          · have := (hz (zs.getD 0 0) (by rw [List.getD_eq_getElem?_getD, List.getElem?_eq_getElem h]; exact List.getElem_mem _)).1
            omega
          · rw [List.getD_eq_getElem?_getD, List.getElem?_eq_none h]
            rfl
        obtain ⟨h1, h2, h3, _⟩ := mayOp_parts hi hm
        rw [callP_do hl h4 hi hm]
        have hk := (op_keeps hz h3 h2).2
        refine ⟨by simpa using hw.1, fun t ht => ?_⟩
        rcases List.mem_or_eq_of_mem_set ht with h | h
        · exact hw.2 t h
        · rw [h]
          exact may_few hk
  · rw [callP_arg hl]
    exact ⟨by simp [zeroEv], fun t ht => by simp [zeroEv] at ht⟩
theorem callP_rest {n : Int} {e : Ev} {zs : List Int} (hs : isW e.2.2 ∧ isW e.1.1 ∧ isW e.1.2.1 ∧ isW e.1.2.2.1 ∧ isW e.1.2.2.2) : isW (callP n e zs).1.2.2 ∧ isW (callP n e zs).1.1.1 ∧ isW (callP n e zs).1.1.2.1 ∧ isW (callP n e zs).1.1.2.2.1 ∧ isW (callP n e zs).1.1.2.2.2 := by
  unfold callP
  split
  · exact ⟨isW_zero, isW_zero, isW_zero, isW_zero, isW_zero⟩
  · split
    · exact ⟨by show isW (drawP e.2.2); unfold drawP; exact ⟨by omega, by omega⟩, hs.2⟩
    · split
      · exact hs
      · exact hs
theorem callP_okEv {n : Int} {e : Ev} {zs : List Int} (hz : wordL zs) (h : okEv e) : okEv (callP n e zs).1 := ⟨callP_few hz h.1, callP_rest h.2⟩
end Go.Proofs.YtilddlgcfbefiaaDoor

/-
  A helper's word is a word, when the tables that lie in memory are handed to it.
-/
namespace Go.Proofs.YtilddlgcfbefiaaDoor
set_option linter.unusedSimpArgs false
set_option linter.unusedVariables false
open Go Go.RowKit
def wordTs (ts : List Tb) : Prop := ∀ k, k < ts.length → ∀ j, j < (ts.getD k zeroT).2.1.length → wordL ((ts.getD k zeroT).2.1.getD j zeroE).2
theorem TabsAt.words {W : World} {a : Option Addr} {len cap : Nat} {ts : List Tb} (h : TabsAt W a len cap ts) : wordTs ts := by
  obtain ⟨h1, _, _, h4⟩ := h
  intro k hk j hj
  rcases h4 with h4 | ⟨y, _, h5⟩
  · omega
  · obtain ⟨_, _, _, _, ⟨b, l, c, _, hE⟩, _⟩ := h5 k (by omega)
    obtain ⟨g1, _, _, g4⟩ := hE
    rcases g4 with g4 | ⟨z, _, g5⟩
    · omega
    · obtain ⟨_, _, b, l, c, _, hW⟩ := g5 j (by omega)
      exact hW.2.2.2.1
theorem getD_word {l : List Int} (h : wordL l) (k : Nat) : isW (l.getD k 0) := by
  rcases Nat.lt_or_ge k l.length with hk | hk
  · exact h _ (by rw [List.getD_eq_getElem?_getD, List.getElem?_eq_getElem hk]; exact List.getElem_mem _)
  · rw [List.getD_eq_getElem?_getD, List.getElem?_eq_none hk]
    exact isW_zero
theorem getT_word {t : Tb} (h : ∀ j, j < t.2.1.length → wordL (t.2.1.getD j zeroE).2) (key field : Int) : isW (getT t key field).2.1 := by
  unfold getT
  split
  · split
    · rename_i i _
      rcases Nat.lt_or_ge i t.2.1.length with hi | hi
      · exact getD_word (h i hi) _
      · show isW ((t.2.1.getD i zeroE).2.getD field.toNat 0)
        rw [show t.2.1.getD i zeroE = zeroE by rw [List.getD_eq_getElem?_getD, List.getElem?_eq_none hi]; rfl]
        exact getD_word (fun z hz => by simp [zeroE] at hz) _
    · exact isW_zero
  · exact isW_zero
theorem small_word {n : Int} (h : 0 ≤ n) (h' : n ≤ 1000) : isW n := ⟨h, by omega⟩
theorem setT_word (t : Tb) (key f v : Int) : isW (setT t key f v).2 := by
  unfold setT
  repeat' split
  all_goals first | exact isW_zero | exact small_word (n := 1) (by decide) (by decide) | exact small_word (n := 3) (by decide) (by decide) | exact small_word (n := 4) (by decide) (by decide)
theorem pushT_word (t : Tb) (v : Int) : isW (pushT t v).2 := by
  unfold pushT
  repeat' split
  all_goals first | exact isW_zero | exact small_word (n := 1) (by decide) (by decide) | exact small_word (n := 4) (by decide) (by decide)
theorem opP_word {n : Int} {t : Tb} {a : List Int} (h : ∀ j, j < t.2.1.length → wordL (t.2.1.getD j zeroE).2) : isW (opP n t a).2 := by
  unfold opP
  split
  · exact getT_word h _ _
  · split
    · exact setT_word _ _ _ _
    · split
      · show isW (if _ then 1 else 0)
        split <;> exact small_word (by decide) (by decide)
      · split
        · show isW (if _ then 1 else 0)
          split <;> exact small_word (by decide) (by decide)
        · exact pushT_word _ _
theorem callP_word {n : Int} {e : Ev} {zs : List Int} (h : wordTs e.2.1) : isW (callP n e zs).2.1 := by
  unfold callP
  split
  · exact isW_zero
  · split
    · show isW (drawP e.2.2)
      unfold drawP
      exact ⟨by omega, by omega⟩
    · split
      · rename_i hm
        have hlt : (zs.getD 0 0).toNat < e.2.1.length := by
          simp only [mayOp, Bool.and_eq_true, decide_eq_true_iff] at hm
          exact hm.1
        exact opP_word (h _ hlt)
      · exact isW_zero
end Go.Proofs.YtilddlgcfbefiaaDoor

/-
  What each kind of instruction does, by the table of kinds.
-/
namespace Go.Proofs.YtilddlgcfbefiaaDoor
set_option linter.unusedSimpArgs false
set_option linter.unusedVariables false
open Go Go.RowKit
theorem frame_post {F V : Value} {e : Ev} {f r base : Nat} {x x' : Fr} {fl us : Int} {W w' : World} (hrf : r ≠ f) (hok : okEv e) (h : FrAt W f r x) (hR : Box W r 68 (RunA F e V fl us)) (hT : TabsI W base V e.2.1) (hg : W.grownBy w' (some f)) (hF : FrAt w' f r x') :
    Two r f W w' ∧ FrAt w' f r x' ∧ okEv e ∧ ∃ V', Box w' r 68 (RunA F e V' fl us) ∧ TabsI w' base V' e.2.1 := by
  obtain ⟨cs, hbx, _⟩ := h
  exact ⟨.frame hg, hF, hok, V, hR.grown hg (fun ee => hrf (Option.some.inj ee)), hT.far hbx (by decide) (by decide) (by decide) hg⟩
theorem helpP_okEv {W : World} {f r : Nat} {x : Fr} {e : Ev} {m : Int} (h : FrAt W f r x) (hok : okEv e) : okEv (helpP x e m).2.2 := by
  unfold helpP
  split
  · split
    · exact callP_okEv (regsL_w h _) hok
    · exact hok
  · exact hok
theorem ctxE_w {e : Ev} (h : okEv e) (k : Nat) : isW (ctxE e k) := by
  unfold ctxE
  by_cases h0 : k = 0
  · rw [if_pos h0]; exact h.2.2.1
  · rw [if_neg h0]
    by_cases h1 : k = 1
    · rw [if_pos h1]; exact h.2.2.2.1
    · rw [if_neg h1]
      by_cases h2 : k = 2
      · rw [if_pos h2]; exact h.2.2.2.2.1
      · rw [if_neg h2]; exact h.2.2.2.2.2
set_option maxRecDepth 100000 in
set_option maxHeartbeats 20000000 in
theorem disp_any (ex : Exec) (G : Int) (w0 : World) (a : Option Addr) (len cap : Nat) (fs : List Fun) (hP : FnsAt w0 a len cap fs) (hAr : ∀ k, k < len → 0 ≤ (fs.getD k zeroF).1 ∧ (fs.getD k zeroF).1 ≤ 7)
    (f r base : Nat) (fl : Int) (hx : ExecOk ex G w0 (.slice a len cap) fs r base fl)
    (x : Fr) (V : Value) (e : Ev) (us : Int) (hrf : r ≠ f) (op fn d s : Int) (rg : Bool) (o m : Int) (hi : goodI (op, fn, d, s, rg, o, m)) (hok : okEv e)
    (hx0 : 0 ≤ x.1) (hx1 : x.1 ≤ 100) (ha0 : 0 ≤ x.2.1) (ha1 : x.2.1 ≤ 1000) (hG : fl - us < G) (hu0 : 0 ≤ us) (hu1 : us ≤ fl) :
    ∃ K, (∀ w, (Instr.index 113 kindsV (.int .i64 op)).run Tryd.prog w = .ok (.func (.func K) #[] #[]) w) ∧ (∀ (args : Array Value) (w : World), (callFunc K args).run Tryd.prog w = .ok (.enter K args) w) ∧
      ∀ W, FrAt W f r x → Box W r 68 (RunA (.slice a len cap) e V fl us) → TabsI W base V e.2.1 → base ≤ W.heap.size → Below w0.heap.size w0 W →
        Calls Tryd.prog K #[.pointer (some ⟨f, 0, none⟩), inV op fn d s rg o m] W (StepPost (doQ ex fs x e us (op, fn, d, s, rg, o, m)) (.slice a len cap) f r base fl W) := by
  obtain ⟨⟨h0, h7⟩, hfn, ⟨hd0, hd8⟩, ⟨hs0, hs8⟩, ⟨ho0, ho1⟩, hm⟩ := hi
  simp only at h0 h7 hfn hd0 hd8 hs0 hs8 ho0 ho1 hm
  obtain ⟨dn, rfl⟩ : ∃ dn : Nat, d = dn := ⟨d.toNat, by omega⟩
  have hdn : dn < 8 := by omega
  obtain ⟨k, rfl⟩ : ∃ k : Nat, op = k := ⟨op.toNat, by omega⟩
  have hk : k < 8 := by omega
  match k, hk with
  | 0, _ =>
    refine ⟨69, fun w => by kernel_rfl, fun args w => by kernel_rfl, fun W hF hR hT hb hB => ?_⟩
    refine (compute_any f r x 0 fn dn s rg o m hdn hs0 hs8 hm (hfn rfl).1 (hfn rfl).2 W hF).mono ?_
    rintro en w' ⟨rfl, hg, hF'⟩
    exact ⟨rfl, frame_post hrf hok hF hR hT hg hF'⟩
  | 1, _ =>
    refine ⟨70, fun w => by kernel_rfl, fun args w => by kernel_rfl, fun W hF hR hT hb hB => ?_⟩
    refine (jump_any f r x 1 fn dn s rg o m hdn hs0 hs8 hm ha0 ha1 ho0 ho1 W hF).mono ?_
    rintro en w' ⟨rfl, hg, hF'⟩
    exact ⟨rfl, frame_post hrf hok hF hR hT hg hF'⟩
  | 2, _ =>
    refine ⟨71, fun w => by kernel_rfl, fun args w => by kernel_rfl, fun W hF hR hT hb hB => ?_⟩
    refine (load_any f r x 2 fn dn s rg o m hdn hs0 hs8 hm (ctxE e) (.inl rfl) hrf (ctxE_w hok) W hF (fun j hj => by
      match j, hj with
      | 0, _ => exact hR.cell rfl
      | 1, _ => exact hR.cell rfl
      | 2, _ => exact hR.cell rfl
      | 3, _ => exact hR.cell rfl)).mono ?_
    rintro en w' ⟨rfl, hg, hF'⟩
    exact ⟨rfl, frame_post hrf hok hF hR hT hg hF'⟩
  | 3, _ =>
    refine ⟨71, fun w => by kernel_rfl, fun args w => by kernel_rfl, fun W hF hR hT hb hB => ?_⟩
    refine (load_any f r x 3 fn dn s rg o m hdn hs0 hs8 hm (ctxE e) (.inr rfl) hrf (ctxE_w hok) W hF (fun j hj => by
      match j, hj with
      | 0, _ => exact hR.cell rfl
      | 1, _ => exact hR.cell rfl
      | 2, _ => exact hR.cell rfl
      | 3, _ => exact hR.cell rfl)).mono ?_
    rintro en w' ⟨rfl, hg, hF'⟩
    exact ⟨rfl, frame_post hrf hok hF hR hT hg hF'⟩
  | 4, _ =>
    refine ⟨72, fun w => by kernel_rfl, fun args w => by kernel_rfl, fun W hF hR hT hb hB => ?_⟩
    refine (store_any f r x 4 fn dn s rg o m hdn hs0 hs8 hm W hF).mono ?_
    rintro en w' ⟨rfl, hg, hF'⟩
    exact ⟨rfl, frame_post hrf hok hF hR hT hg hF'⟩
  | 5, _ =>
    refine ⟨73, fun w => by kernel_rfl, fun args w => by kernel_rfl, fun W hF hR hT hb hB => ?_⟩
    obtain ⟨tb, tc, _, hTA⟩ := hT.at
    refine (help_any f r base x (.slice a len cap) V e fl us 5 fn dn s rg o m hm hrf W hF hR hT hok.1 hok.2.1 hb (callP_word hTA.words)).mono ?_
    rintro en w' ⟨rfl, hrest⟩
    exact ⟨rfl, hrest.1, hrest.2.1, helpP_okEv hF hok, hrest.2.2⟩
  | 6, _ =>
    refine ⟨74, fun w => by kernel_rfl, fun args w => by kernel_rfl, fun W hF hR hT hb hB => ?_⟩
    refine (icall_any ex G w0 a len cap fs hP hAr f r base fl hx x V e us 6 fn dn s rg o m hm hrf W hF hR hT hok hb hB hx0 hx1 hG hu0 hu1).mono ?_
    rintro en w' ⟨rfl, hrest⟩
    exact ⟨rfl, hrest⟩
  | 7, _ =>
    refine ⟨75, fun w => by kernel_rfl, fun args w => by kernel_rfl, fun W hF hR hT hb hB => ?_⟩
    refine (exit_any f r x 7 fn dn s rg o m W hF).mono ?_
    rintro en w' ⟨rfl, hg, hF'⟩
    exact ⟨rfl, frame_post hrf hok hF hR hT hg hF'⟩
end Go.Proofs.YtilddlgcfbefiaaDoor

/-
  One step of a frame.
-/
namespace Go.Proofs.YtilddlgcfbefiaaDoor
set_option linter.unusedSimpArgs false
set_option linter.unusedVariables false
open Go Go.RowKit
theorem le_1000 {ka lc : Nat} (h1 : ka < lc) (h2 : lc ≤ 100) : 0 ≤ (ka : Int) + 1 ∧ (ka : Int) + 1 ≤ 1000 := by omega
set_option maxRecDepth 100000 in
set_option maxHeartbeats 20000000 in
theorem step_any (ex : Exec) (G : Int) (w0 : World) (a : Option Addr) (len cap : Nat) (fs : List Fun) (hP : FnsAt w0 a len cap fs) (hAr : ∀ k, k < len → 0 ≤ (fs.getD k zeroF).1 ∧ (fs.getD k zeroF).1 ≤ 7) (hGd : ∀ k, k < len → (fs.getD k zeroF).2.length ≤ 100 ∧ ∀ i ∈ (fs.getD k zeroF).2, goodI i)
    (f r base : Nat) (fl : Int) (hx : ExecOk ex G w0 (.slice a len cap) fs r base fl) (hl0 : w0.heap.size ≤ r) (hl1 : w0.heap.size ≤ f)
    (x : Fr) (V : Value) (e : Ev) (us : Int) (hrf : r ≠ f) (W : World) (h : FrAt W f r x) (hR : Box W r 68 (RunA (.slice a len cap) e V fl us)) (hT : TabsI W base V e.2.1) (hok : okEv e) (hb : base ≤ W.heap.size) (hw0 : Below w0.heap.size w0 W)
    (kf : Nat) (hx0 : x.1 = kf) (hx1 : kf < len) (ka : Nat) (ha0 : x.2.1 = ka) (hl2 : len ≤ 100) (hu0 : 0 ≤ us) (hu1 : us ≤ fl) (hf1 : fl ≤ 1000000) (hG : fl - us ≤ G) :
    Calls Tryd.prog 48 #[.pointer (some ⟨f, 0, none⟩)] W (StepPost (stepQ ex fs fl x e us) (.slice a len cap) f r base fl W) := by
  have HXa : Hid (0 ≤ x.1 ∧ x.1 ≤ 100) := Lib.hid (by rw [hx0]; omega)
  have HUu : Hid (0 ≤ us + 1) := Lib.hid (by omega)
  have HGg : Hid (fl - (us + 1) < G) := Lib.hid (by omega)
  have r0 := h.run
  have q7 : W.cell? ⟨r, 7, none⟩ = some (.int .i64 fl) := hR.cell rfl
  have q8 : W.cell? ⟨r, 8, none⟩ = some (.int .i64 us) := hR.cell rfl
  by_cases hus : fl ≤ us
  · have HQ : Hid (stepQ ex fs fl x e us = (2, x, e, us)) := Lib.hid (if_pos hus)
    have HXX : Hid (∀ W1, Below W.heap.size W W1 → Two r f W W1 ∧ FrAt W1 f r x ∧ okEv e ∧ ∃ V', Box W1 r 68 (RunA (.slice a len cap) e V' fl us) ∧ TabsI W1 base V' e.2.1) := Lib.hid (fun W1 hb => ⟨.of_below hb, h.later hb, hok, V, hR.later hb, hT.below hb⟩)
    clear h hR hT hP hAr hGd hx hok hw0
    go_enter Tryd.func48, Tryd.ntmps48
    go_wp2_with fail
    go_quiet (fail)
    have hb1 : Below W.heap.size W (W.drewN nq) := below_of_quiet ⟨nq, rfl⟩
    have HB1 := Lib.hid hb1
    clear hb1 r0 q7 q8
    generalize W.drewN nq = W1 at HB1 ⊢
    go_wp2_with fail
    go_ret
    rw [HQ.out]
    exact ⟨rfl, HXX.out _ HB1.out⟩
  have HF0 := Lib.hid h
  have HR0 := Lib.hid hR
  have HT0 := Lib.hid hT
  have HB0 := Lib.hid hw0
  clear h hR hT hw0
  go_enter Tryd.func48, Tryd.ntmps48
  go_wp2_with fail
  go_quiet (fail)
  have hb1 : Below W.heap.size W (W.drewN nq) := below_of_quiet ⟨nq, rfl⟩
  have HBW := Lib.hid hb1
  clear hb1 r0 q7 q8
  generalize W.drewN nq = W1 at HBW ⊢
  have HF := Lib.hid (HF0.out.later HBW.out)
  have HR := Lib.hid (HR0.out.later HBW.out)
  have HT := Lib.hid (HT0.out.below HBW.out)
  have HB := Lib.hid (HB0.out.trans (HBW.out.mono HB0.out.size))
  clear HF0 HR0 HT0 HB0
  have r0 := HF.out.run
  have q0 : W1.cell? ⟨r, 0, none⟩ = some (.slice a len cap) := HR.out.cell rfl
  have q8 : W1.cell? ⟨r, 8, none⟩ = some (.int .i64 us) := HR.out.cell rfl
  have r8 := HR.out.free 8
  have huw : wrap64 (us + 1) = us + 1 := by unfold wrap64; omega
  have hg2 : W1.grownBy (W1.setCell ⟨r, 8, none⟩ (.int .i64 (us + 1))) (some r) := grownBy_setCell _ ⟨r, 8, none⟩ _
  have HG2 : Hid (W.grownBy (W1.setCell ⟨r, 8, none⟩ (.int .i64 (us + 1))) (some r)) := Lib.hid (grow_trans (grownBy_of_below HBW.out _) hg2)
  have HR2 : Hid (Box (W1.setCell ⟨r, 8, none⟩ (.int .i64 (us + 1))) r 68 (RunA (.slice a len cap) e V fl (us + 1))) := Lib.hid (by simpa [RunA] using HR.out.set 8 (.int .i64 (us + 1)))
  have HF2 := Lib.hid (HF.out.grown hg2 (fun ee => hrf (Option.some.inj ee).symm))
  have HT2 := Lib.hid (HT.out.far HR.out (by decide) (by decide) (by decide) hg2)
  have HB2 := Lib.hid (HB.out.grown hg2 HB.out.size (fun g hg => by cases hg; exact hl0))
  clear hg2 HF HR HT HB HBW
  go_wp2_with fail
  generalize W1.setCell ⟨r, 8, none⟩ (.int .i64 (us + 1)) = W2 at HG2 HR2 HF2 HT2 HB2 ⊢
  clear r0 q0 q8 r8
  have HP2 := Lib.hid (hP.below HB2.out)
  obtain ⟨y, rfl, hfns⟩ : ∃ y, a = some y ∧ ∀ j, j < len → FnHere W2 (y.add (j * 2)) (fs.getD j zeroF) := by
    rcases HP2.out.2.2.2 with h | h
    · omega
    · exact h
  obtain ⟨P, hPq⟩ : ∃ P, fs.getD kf zeroF = P := ⟨_, rfl⟩
  have hfk := hfns kf hx1
  have hgk := hGd kf hx1
  rw [hPq] at hfk hgk
  obtain ⟨c0, bc, lc, cc, c1, g1, g2, g3, g4, g5⟩ := hfk
  have hlm : len ≤ maxLen := Nat.le_trans hP.2.1 hP.2.2.1
  have hkI : (kf : Int) < (len : Int) := by omega
  have hxt : x.1.toNat = kf := by omega
  have HXt := Lib.hid hxt
  have HAr := Lib.hid hAr
  have HP0 := Lib.hid hP
  have HGd := Lib.hid hgk
  have HPq := Lib.hid hPq
  have HAt := Lib.hid ha0
  have HX := Lib.hid hx
  have HOK := Lib.hid hok
  have r0 := HF2.out.run
  have r1 := HF2.out.fn
  rw [hx0] at r1
  have q0 : W2.cell? ⟨r, 0, none⟩ = some (.slice (some y) len cap) := HR2.out.cell rfl
  clear hfns hxt hAr hGd hx hok c0 hP hgk hPq
  go_quiet (fail)
  have HBW3 : Hid (Below W2.heap.size W2 (W2.drewN nq)) := Lib.hid (below_of_quiet ⟨nq, rfl⟩)
  clear r0 r1 q0 c1
  generalize W2.drewN nq = W3 at HBW3 ⊢
  have HF3 := Lib.hid (HF2.out.later HBW3.out)
  have HR3 := Lib.hid (HR2.out.later HBW3.out)
  have HT3 := Lib.hid (HT2.out.below HBW3.out)
  have HB3 := Lib.hid (HB2.out.trans (HBW3.out.mono HB2.out.size))
  have HG3 := Lib.hid (grow_trans HG2.out (grownBy_of_below HBW3.out _))
  clear HF2 HR2 HT2 HB2 HG2
  have r2 := HF3.out.pos
  rw [ha0] at r2
  have hlc : lc ≤ maxLen := Nat.le_trans g2 g3
  by_cases hat : (lc : Int) ≤ (ka : Int)
  · have HQ := Lib.hid (stepQ_end (ex := ex) (e := e) (by omega : us < fl) HXt.out HPq.out HAt.out g1 (by omega))
    clear g5
    go_wp2_with fail
    go_ret
    rw [HQ.out]
    exact ⟨rfl, .run HG3.out, HF3.out, HOK.out, V, HR3.out, HT3.out⟩
  have hal : ka < lc := by omega
  have haI : (ka : Int) < (lc : Int) := by omega
  obtain ⟨z, rfl, hin⟩ : ∃ z, bc = some z ∧ ∀ j, j < lc → InstHere W2 (z.add (j * 7)) (P.2.getD j zeroI) := by
    rcases g5 with h | h
    · omega
    · exact h
  obtain ⟨k0, k1, k2, k3, k4, k5, k6⟩ := (hin ka hal).below HBW3.out
  have HGi : Hid (goodI (P.2.getD ka zeroI)) := Lib.hid (HGd.out.2 _ (by
    rw [List.getD_eq_getElem?_getD, List.getElem?_eq_getElem (by omega)]
    exact List.getElem_mem _))
  have HQ := Lib.hid (stepQ_do (ex := ex) (e := e) (by omega : us < fl) HXt.out HPq.out HAt.out g1 (by omega))
  generalize P.2.getD ka zeroI = i at k0 k1 k2 k3 k4 k5 k6 HGi HQ
  obtain ⟨op, fn, d, s, rg, o, m⟩ := i
  simp only at k0 k1 k2 k3 k4 k5 k6
  have haw : wrap64 ((ka : Int) + 1) = (ka : Int) + 1 := by have : lc ≤ maxLen := hlc; unfold maxLen at this; unfold wrap64; omega
  have hbA := belowA W3 (.cells #[.int .i64 op, .int .i64 fn, .int .i64 d, .int .i64 s, .bool rg, .int .i64 o, .int .u32 m] 50)
  have HF4 := Lib.hid (HF3.out.later hbA)
  have HR4 := Lib.hid (HR3.out.later hbA)
  have HT4 := Lib.hid (HT3.out.below hbA)
  have HB4 := Lib.hid (HB3.out.trans (hbA.mono HB3.out.size))
  have HG4 := Lib.hid (grow_trans HG3.out (grownBy_of_below hbA _))
  have s2 := HF4.out.pos
  rw [HAt.out] at s2
  have s2f := HF4.out.free 2
  clear hin g5 hbA
  go_wp2_with fail
  have hg5 : (W3.alloc (.cells #[.int .i64 op, .int .i64 fn, .int .i64 d, .int .i64 s, .bool rg, .int .i64 o, .int .u32 m] 50)).grownBy ((W3.alloc (.cells #[.int .i64 op, .int .i64 fn, .int .i64 d, .int .i64 s, .bool rg, .int .i64 o, .int .u32 m] 50)).setCell ⟨f, 2, none⟩ (.int .i64 ((ka : Int) + 1))) (some f) := grownBy_setCell _ ⟨f, 2, none⟩ _
  have HF5 := Lib.hid (HF4.out.go ((ka : Int) + 1))
  have HR5 := Lib.hid (HR4.out.grown hg5 (fun ee => hrf (Option.some.inj ee)))
  have HT5 : Hid (TabsI ((W3.alloc (.cells #[.int .i64 op, .int .i64 fn, .int .i64 d, .int .i64 s, .bool rg, .int .i64 o, .int .u32 m] 50)).setCell ⟨f, 2, none⟩ (.int .i64 ((ka : Int) + 1))) base V e.2.1) := Lib.hid (by
    obtain ⟨cs, hbx, _⟩ := HF4.out
    exact HT4.out.far hbx (by decide) (by decide) (by decide) hg5)
  have HB5 := Lib.hid (HB4.out.grown hg5 HB4.out.size (fun g hg => by cases hg; exact hl1))
  have HW5 : Hid (Two r f W ((W3.alloc (.cells #[.int .i64 op, .int .i64 fn, .int .i64 d, .int .i64 s, .bool rg, .int .i64 o, .int .u32 m] 50)).setCell ⟨f, 2, none⟩ (.int .i64 ((ka : Int) + 1)))) := Lib.hid ((Two.run HG4.out).trans (.frame hg5))
  have HI5 := Lib.hid ((Box.new W3 50 #[.int .i64 op, .int .i64 fn, .int .i64 d, .int .i64 s, .bool rg, .int .i64 o, .int .u32 m]).grown hg5 (fun ee => by have h1 := HF3.out.lt; have h2 : W3.heap.size = f := Option.some.inj ee; omega))
  have HTf : Hid (W3.heap.size ≠ f ∧ W3.heap.size ≠ r) := Lib.hid ⟨fun ee => by have h1 := HF3.out.lt; omega, fun ee => by have h1 := HR3.out.lt; omega⟩
  generalize (W3.alloc (.cells #[.int .i64 op, .int .i64 fn, .int .i64 d, .int .i64 s, .bool rg, .int .i64 o, .int .u32 m] 50)).setCell ⟨f, 2, none⟩ (.int .i64 ((ka : Int) + 1)) = W5 at HF5 HR5 HT5 HB5 HW5 HI5 ⊢
  have hl100 := HGd.out.1
  obtain ⟨KF, hidx, hen, hD⟩ := disp_any ex G w0 (some y) len cap fs HP0.out HAr.out f r base fl HX.out (atF x ((ka : Int) + 1)) V e (us + 1) hrf op fn d s rg o m HGi.out HOK.out HXa.out.1 HXa.out.2 (le_1000 hal (g1 ▸ hl100)).1 (le_1000 hal (g1 ▸ hl100)).2 HGg.out HUu.out (by omega)
  have HD := Lib.hid hD
  have i0 : W5.cell? ⟨W3.heap.size, 0, none⟩ = some (.int .i64 op) := HI5.out.cell rfl
  have i1 : W5.cell? ⟨W3.heap.size, 1, none⟩ = some (.int .i64 fn) := HI5.out.cell rfl
  have i2 : W5.cell? ⟨W3.heap.size, 2, none⟩ = some (.int .i64 d) := HI5.out.cell rfl
  have i3 : W5.cell? ⟨W3.heap.size, 3, none⟩ = some (.int .i64 s) := HI5.out.cell rfl
  have i4 : W5.cell? ⟨W3.heap.size, 4, none⟩ = some (.bool rg) := HI5.out.cell rfl
  have i5 : W5.cell? ⟨W3.heap.size, 5, none⟩ = some (.int .i64 o) := HI5.out.cell rfl
  have i6 : W5.cell? ⟨W3.heap.size, 6, none⟩ = some (.int .u32 m) := HI5.out.cell rfl
  have HS : Hid (∀ W', Two r f W5 W' → W'.cell? ⟨W3.heap.size, 0, none⟩ = some (.int .i64 op) ∧ W'.cell? ⟨W3.heap.size, 1, none⟩ = some (.int .i64 fn) ∧ W'.cell? ⟨W3.heap.size, 2, none⟩ = some (.int .i64 d) ∧ W'.cell? ⟨W3.heap.size, 3, none⟩ = some (.int .i64 s) ∧ W'.cell? ⟨W3.heap.size, 4, none⟩ = some (.bool rg) ∧ W'.cell? ⟨W3.heap.size, 5, none⟩ = some (.int .i64 o) ∧ W'.cell? ⟨W3.heap.size, 6, none⟩ = some (.int .u32 m)) := Lib.hid (fun W' ht => by
    have hbx : Box W' W3.heap.size 50 #[.int .i64 op, .int .i64 fn, .int .i64 d, .int .i64 s, .bool rg, .int .i64 o, .int .u32 m] := (ht.block _ HI5.out.lt HTf.out.2 HTf.out.1).trans HI5.out
    exact ⟨hbx.cell rfl, hbx.cell rfl, hbx.cell rfl, hbx.cell rfl, hbx.cell rfl, hbx.cell rfl, hbx.cell rfl⟩)
  clear hD hg5 k0 k1 k2 k3 k4 k5 k6 s2 s2f r2
  refine wp_region_held_drew (S := (fun W' => W'.cell? ⟨W3.heap.size, 0, none⟩ = some (.int .i64 op) ∧ W'.cell? ⟨W3.heap.size, 1, none⟩ = some (.int .i64 fn) ∧ W'.cell? ⟨W3.heap.size, 2, none⟩ = some (.int .i64 d) ∧ W'.cell? ⟨W3.heap.size, 3, none⟩ = some (.int .i64 s) ∧ W'.cell? ⟨W3.heap.size, 4, none⟩ = some (.bool rg) ∧ W'.cell? ⟨W3.heap.size, 5, none⟩ = some (.int .i64 o) ∧ W'.cell? ⟨W3.heap.size, 6, none⟩ = some (.int .u32 m))) (by kernel_rfl) (⟨i0, i1, i2, i3, i4, i5, i6⟩) (fun hHeld => ?_)
  refine wpAnyH_yield (i := 1) (v := ?vs1) rfl rfl (by kernel_rfl) (by kernel_rfl) (by kernel_rfl) (fun _ _ _ h => h) (by rfl) ?hys1 hHeld ?rests1
  case hys1 =>
    intro w hSw
    (try dsimp only at hSw)
    go_simp
    try with_reducible rfl
  simp only [Act.put, List.setIfInBounds_toArray, List.set_cons_zero, List.set_cons_succ]
  refine wpAnyH_yield (i := 2) (v := ?vs2) rfl rfl (by kernel_rfl) (by kernel_rfl) (by kernel_rfl) (fun _ _ _ h => h) (by rfl) ?hys2 hHeld ?rests2
  case hys2 =>
    intro w hSw
    (try dsimp only at hSw)
    go_simp
    try with_reducible rfl
  simp only [Act.put, List.setIfInBounds_toArray, List.set_cons_zero, List.set_cons_succ]
  refine wpAnyH_yield (i := 4) (v := ?vs4) rfl rfl (by kernel_rfl) (by kernel_rfl) (by kernel_rfl) (fun _ _ _ h => h) (by rfl) ?hys4 hHeld ?rests4
  case hys4 =>
    intro w hSw
    (try dsimp only at hSw)
    go_simp
    try with_reducible rfl
  simp only [Act.put, List.setIfInBounds_toArray, List.set_cons_zero, List.set_cons_succ]
  refine wpAnyH_yield (i := 5) (v := ?vs5) rfl rfl (by kernel_rfl) (by kernel_rfl) (by kernel_rfl) (fun _ _ _ h => h) (by rfl) ?hys5 hHeld ?rests5
  case hys5 =>
    intro w hSw
    (try dsimp only at hSw)
    go_simp
    try with_reducible rfl
  simp only [Act.put, List.setIfInBounds_toArray, List.set_cons_zero, List.set_cons_succ]
  refine wpAnyH_ready (rs := [0]) (by kernel_rfl) (by simp) ?_
  refine AllReadyH.cons rfl (fun K hK => ?_) AllReadyH.nil
  go_simp
  refine (kinds_any _).mono ?_
  rintro en6 m6 ⟨rfl, hb6⟩
  have HM6 : Hid (Below W5.heap.size W5 m6) := Lib.hid ((Below.refl _ _).drew.trans (hb6.mono (by simp)))
  clear hb6
  go_wp2_with fail
  refine hK.out _ _ (HS.out _ (.of_below HM6.out)) (fun hHeld => ?_)
  clear hK K
  try simp only [Act.put, List.setIfInBounds_toArray, List.set_cons_zero, List.set_cons_succ]
  refine wpAnyH_yield (i := 3) (v := ?vs3) rfl rfl (by kernel_rfl) (by kernel_rfl) (by kernel_rfl) (fun _ _ _ h => h) (by rfl) ?hys3 hHeld ?rests3
  case hys3 =>
    intro w hSw
    (try dsimp only at hSw)
    go_simp
    try with_reducible rfl
  simp only [Act.put, List.setIfInBounds_toArray, List.set_cons_zero, List.set_cons_succ]
  refine wpAnyH_ready (rs := [6]) (by kernel_rfl) (by simp) ?_
  refine AllReadyH.cons rfl (fun K hK => ?_) AllReadyH.nil
  go_simp
  refine (HD.out m6 (HF5.out.later HM6.out) (HR5.out.later HM6.out) (HT5.out.below HM6.out) ?_ (HB5.out.trans (HM6.out.mono HB5.out.size))).mono ?_
  · exact Nat.le_trans hb (Nat.le_trans HW5.out.size HM6.out.size)
  rintro en7 m7 ⟨rfl, ht7, hrest⟩
  have HW7 := Lib.hid (HW5.out.trans ((Two.of_below HM6.out).trans ht7))
  have HS7 := Lib.hid (HS.out _ ((Two.of_below HM6.out).trans ht7))
  have HRest := Lib.hid hrest
  clear ht7 hrest
  go_wp2_with fail
  refine hK.out _ _ HS7.out (fun hHeld => ?_)
  clear hK K
  try simp only [Act.put, List.setIfInBounds_toArray, List.set_cons_zero, List.set_cons_succ]
  refine wpAnyH_yield (i := 7) (v := ?vs7) rfl rfl (by kernel_rfl) (by kernel_rfl) (by kernel_rfl) (fun _ _ _ h => h) (by rfl) ?hys7 hHeld ?rests7
  case hys7 =>
    intro w hSw
    (try dsimp only at hSw)
    go_simp
    try with_reducible rfl
  simp only [Act.put, List.setIfInBounds_toArray, List.set_cons_zero, List.set_cons_succ]
  refine wpAnyH_done (by kernel_rfl) ?_ _
  go_wp2_with fail
  go_ret
  rw [HQ.out]
  exact ⟨rfl, HW7.out, HRest.out⟩
end Go.Proofs.YtilddlgcfbefiaaDoor

/-
  What the interpreter's execute does: a function in a frame of its own, by what fuel is left.
-/
namespace Go.Proofs.YtilddlgcfbefiaaDoor
set_option linter.unusedSimpArgs false
set_option linter.unusedVariables false
open Go Go.RowKit
theorem wrap_k {k n : Nat} (h : k ≤ n) (h7 : n ≤ 7) : wrap64 ((1 : Int) + (k : Int)) = 1 + (k : Int) ∧ wrap64 ((k : Int) + 1) = (k : Int) + 1 := by
  unfold wrap64
  omega
theorem two_new {r f : Nat} {W w w' : World} (h : W.grownBy w (some r)) (h' : Two r f w w') (hf : W.heap.size ≤ f) : W.grownBy w' (some r) :=
  ⟨h'.os.trans h.os, h'.tape.trans h.tape, h'.output.trans h.output, Nat.le_trans h.size h'.size, fun k hk hne => (h'.block k (Nat.lt_of_lt_of_le hk h.size) (fun e => hne (by rw [e])) (by omega)).trans (h.block k hk hne)⟩
/- the state of an execution at its loop -/
structure At (fs : List Fun) (fl : Int) (F : Value) (r base f fn g : Nat) (q : Int × Fr × Ev × Int) (W wr : World) (k : Nat) (x : Fr) (e : Ev) (us : Int) (V : Value) : Prop where
  same : q = loopQ fs fl (k + 1) x e us
  le : k ≤ g
  fn : x.1 = fn
  pos : 0 ≤ x.2.1
  ok : okEv e
  us0 : 0 ≤ us
  us1 : us ≤ fl
  gas : fl - us ≤ k
  grown : W.grownBy wr (some r)
  frame : FrAt wr f r x
  run : Box wr r 68 (RunA F e V fl us)
  tabs : TabsI wr base V e.2.1
theorem At.us8 {fs : List Fun} {fl : Int} {F : Value} {r base f fn g : Nat} {q : Int × Fr × Ev × Int} {W wr : World} {k : Nat} {x : Fr} {e : Ev} {us : Int} {V : Value} (h : At fs fl F r base f fn g q W wr k x e us V) : cellI wr ⟨r, 8, none⟩ = us := cellI_of (h.run.cell (i := 8) rfl)
theorem At.next {fs : List Fun} {fl : Int} {F : Value} {r base f fn g : Nat} {q : Int × Fr × Ev × Int} {W wr w' : World} {k : Nat} {x x2 : Fr} {e e2 : Ev} {us us2 : Int} {V V2 : Value} (h : At fs fl F r base f fn g q W wr k x e us V) (hf : W.heap.size ≤ f) (hG : ∀ i ∈ (fs.getD fn zeroF).2, goodI i)
    (hfin : x.fin = false) (hq : stepQ (execQ fs fl k) fs fl x e us = (0, x2, e2, us2)) (h2 : Two r f wr w') (hF : FrAt w' f r x2) (ho : okEv e2) (hR : Box w' r 68 (RunA F e2 V2 fl us2)) (hT : TabsI w' base V2 e2.2.1) :
    us < us2 ∧ us2 ≤ fl ∧ ∃ k2, At fs fl F r base f fn g q W w' k2 x2 e2 us2 V2 := by
  have hu := stepQ_used (execQ_used fs fl k) fs fl x e us (by rw [hq])
  have ht := stepQ_top (fun e us fn zs hu => execQ_top fs fl k e us fn zs hu) fs x e us h.us1
  have hfr := stepQ_frame (execQ fs fl k) fs fl x e us (by rw [h.fn]; exact hG) h.pos
  rw [hq] at hu ht hfr
  simp only at hu ht hfr
  have hg := h.gas
  have hl := h.le
  have h0 := h.us0
  obtain ⟨k', rfl⟩ : ∃ k', k = k' + 1 := ⟨k - 1, by omega⟩
  refine ⟨hu, ht, k', ?_, by omega, by rw [hfr.1]; exact h.fn, hfr.2, ho, by omega, ht, by omega, two_new h.grown h2 hf, hF, hR, hT⟩
  rw [h.same, loopQ_go hfin hq rfl]
theorem At.out {fs : List Fun} {fl : Int} {F : Value} {r base f fn g : Nat} {q : Int × Fr × Ev × Int} {W wr w' : World} {k : Nat} {x x2 : Fr} {e e2 : Ev} {us us2 er : Int} {V V2 : Value} (h : At fs fl F r base f fn g q W wr k x e us V) (hf : W.heap.size ≤ f)
    (hfin : x.fin = false) (her : er ≠ 0) (hq : stepQ (execQ fs fl k) fs fl x e us = (er, x2, e2, us2)) (h2 : Two r f wr w') (ho : okEv e2) (hR : Box w' r 68 (RunA F e2 V2 fl us2)) (hT : TabsI w' base V2 e2.2.1) :
    ExecPost (outQ q) F r base fl W (.returned (.tuple #[.int .u32 0, .int .i64 er])) w' := by
  have hs : q = (er, x2, e2, us2) := by rw [h.same, loopQ_end hfin hq her]
  rw [hs]
  unfold outQ
  rw [if_neg her]
  exact ⟨rfl, two_new h.grown h2 hf, isW_zero, ho, V2, hR, hT⟩
theorem At.fin {fs : List Fun} {fl : Int} {F : Value} {r base f fn g : Nat} {q : Int × Fr × Ev × Int} {W wr : World} {k : Nat} {x : Fr} {e : Ev} {us v : Int} {V : Value} (h : At fs fl F r base f fn g q W wr k x e us V) (hfin : x.fin = true) (hv : x.reg 0 = v) :
    ExecPost (outQ q) F r base fl W (.returned (.tuple #[.int .u32 v, .int .i64 0])) wr := by
  have hs : q = (0, x, e, us) := by rw [h.same, loopQ_fin hfin]
  rw [hs]
  unfold outQ
  rw [if_pos rfl]
  exact ⟨by rw [hv], h.grown, h.frame.isw 0, h.ok, V, h.run, h.tabs⟩
theorem zero_frame (fn : Int) (W : World) (r : Nat) (cs : Array Value) (h : Box W r 92 cs) (rr : Nat)
    (hc : cs = #[.pointer (some ⟨rr, 0, none⟩), .int .i64 fn, .int .i64 0, .int .u32 0, .bool false, .int .u32 0, .bool false, .int .u32 0, .bool false, .int .u32 0, .bool false, .int .u32 0, .bool false, .int .u32 0, .bool false, .int .u32 0, .bool false, .int .u32 0, .bool false, .int .u32 0, .int .u32 0, .int .u32 0, .int .u32 0, .int .u32 0, .int .u32 0, .int .u32 0, .int .u32 0, .int .u32 0, .int .u32 0, .int .u32 0, .int .u32 0, .int .u32 0, .int .u32 0, .int .u32 0, .int .u32 0, .bool false]) (zs : List Int) : FrAt W r rr (argF fn zs 0) := by
  subst hc
  refine ⟨_, h, rfl, rfl, rfl, rfl, fun k hk => ?_, fun k hk => ?_, rfl, fun k => ?_, fun k => ?_⟩
  · match k, hk with
    | 0, _ => exact ⟨rfl, rfl⟩
    | 1, _ => exact ⟨rfl, rfl⟩
    | 2, _ => exact ⟨rfl, rfl⟩
    | 3, _ => exact ⟨rfl, rfl⟩
    | 4, _ => exact ⟨rfl, rfl⟩
    | 5, _ => exact ⟨rfl, rfl⟩
    | 6, _ => exact ⟨rfl, rfl⟩
    | 7, _ => exact ⟨rfl, rfl⟩
  · match k, hk with
    | 0, _ => rfl
    | 1, _ => rfl
    | 2, _ => rfl
    | 3, _ => rfl
    | 4, _ => rfl
    | 5, _ => rfl
    | 6, _ => rfl
    | 7, _ => rfl
    | 8, _ => rfl
    | 9, _ => rfl
    | 10, _ => rfl
    | 11, _ => rfl
    | 12, _ => rfl
    | 13, _ => rfl
    | 14, _ => rfl
    | 15, _ => rfl
    | j + 16, hj => exact absurd hj (by omega)
  · show isW (if 1 ≤ k ∧ k ≤ 0 then zs.getD (k - 1) 0 else 0)
    rw [if_neg (by omega)]
    exact isW_zero
  · exact isW_zero
theorem new_frame (W : World) (r : Nat) (fn : Int) (zs : List Int) : ∃ W1, (W.alloc (.cells #[.pointer none, .int .i64 0, .int .i64 0, .int .u32 0, .bool false, .int .u32 0, .bool false, .int .u32 0, .bool false, .int .u32 0, .bool false, .int .u32 0, .bool false, .int .u32 0, .bool false, .int .u32 0, .bool false, .int .u32 0, .bool false, .int .u32 0, .int .u32 0, .int .u32 0, .int .u32 0, .int .u32 0, .int .u32 0, .int .u32 0, .int .u32 0, .int .u32 0, .int .u32 0, .int .u32 0, .int .u32 0, .int .u32 0, .int .u32 0, .int .u32 0, .int .u32 0, .bool false] 92)).setRow W.heap.size #[.pointer (some ⟨r, 0, none⟩), .int .i64 fn, .int .i64 0, .int .u32 0, .bool false, .int .u32 0, .bool false, .int .u32 0, .bool false, .int .u32 0, .bool false, .int .u32 0, .bool false, .int .u32 0, .bool false, .int .u32 0, .bool false, .int .u32 0, .bool false, .int .u32 0, .int .u32 0, .int .u32 0, .int .u32 0, .int .u32 0, .int .u32 0, .int .u32 0, .int .u32 0, .int .u32 0, .int .u32 0, .int .u32 0, .int .u32 0, .int .u32 0, .int .u32 0, .int .u32 0, .int .u32 0, .bool false] = W1 ∧ Below W.heap.size W W1 ∧ FrAt W1 W.heap.size r (argF fn zs 0) :=
  ⟨_, rfl, below_setRow ((Below.refl _ _).alloc (Nat.le_refl _) _) (Nat.le_refl _) _, zero_frame fn _ _ _ (setRow_heap _ _ _ _ _ _ (Box.new W _ _)) r rfl zs⟩
set_option maxRecDepth 100000 in
set_option maxHeartbeats 20000000 in
theorem execute_any (w0 : World) (a : Option Addr) (len cap : Nat) (fs : List Fun) (hP : FnsAt w0 a len cap fs) (hAr : ∀ k, k < len → 0 ≤ (fs.getD k zeroF).1 ∧ (fs.getD k zeroF).1 ≤ 7) (hGd : ∀ k, k < len → (fs.getD k zeroF).2.length ≤ 100 ∧ ∀ i ∈ (fs.getD k zeroF).2, goodI i) (hl2 : len ≤ 100)
    (r base : Nat) (fl : Int) (hl0 : w0.heap.size ≤ r) (hf1 : Hid (fl ≤ 1000000)) : ∀ g : Nat, ExecOk (execQ fs fl g) g w0 (.slice a len cap) fs r base fl := by
  intro g
  induction g using Nat.strongRecOn with
  | _ g ih =>
    intro fn b n c zs e V us W hfn hn hWd hB hR hT hok hb hG hu0 hu1
    obtain ⟨g', rfl⟩ : ∃ g', g = g' + 1 := ⟨g - 1, by omega⟩
    have HIH := Lib.hid ih
    have HP0 := Lib.hid hP
    have HAr := Lib.hid hAr
    have HGd := Lib.hid hGd
    have HB0 := Lib.hid hB
    have HR0 := Lib.hid hR
    have HT0 := Lib.hid hT
    have HW0 := Lib.hid hWd
    have HOK := Lib.hid hok
    have HFn := Lib.hid hfn
    have HLn : Hid (fs.length = len) := Lib.hid hP.1
    have HN := Lib.hid hn
    have HNum : Hid (fl - us < ((g' + 1 : Nat) : Int) ∧ 0 ≤ us ∧ us ≤ fl ∧ len ≤ 100 ∧ base ≤ W.heap.size ∧ w0.heap.size ≤ r) := Lib.hid ⟨hG, hu0, hu1, hl2, hb, hl0⟩
    have hn7 : n ≤ 7 := by
      have := (hAr fn (by rw [← hP.1]; exact hfn)).2
      omega
    clear ih hP hAr hGd hB hR hT hWd hok hfn hn hG hu0 hu1 hl2 hb hl0
    go_enter Tryd.func30, Tryd.ntmps30
    go_wp2_with (refine wpList_store_row rfl 92 _ _ rfl W.heap.size _ rfl rfl 92 _ (Box.new W 92 _) (by kernel_rfl) rfl (by simp [Value.oneCell']) ?_)
    obtain ⟨W1, hW1, hB1, hF1⟩ := new_frame W r fn zs
    rw [hW1]
    have HB1 := Lib.hid hB1
    have HF1 := Lib.hid hF1
    clear hW1 hB1 hF1
    go_loopw [17] (fun i wr => ∃ (k : Nat), k ≤ n ∧ i = .int .i64 k ∧ Hid (Below W.heap.size W wr) ∧ Hid (FrAt wr W.heap.size r (argF fn zs k))) (fun i _ => n - (intOf i).toNat)
    case atStart => exact ⟨0, by omega, rfl, HB1, HF1⟩
    case round =>
      obtain ⟨k, hk, rfl, HB, HF⟩ := hrel
      have hk0 : (0 : Int) ≤ (k : Int) := Int.natCast_nonneg _
      by_cases hkn : k < n
      · have hkI : (k : Int) < (n : Int) := by omega
        obtain ⟨hz1, hz2, hz3, hz4, hz5⟩ := HW0.out.below HB.out
        obtain ⟨y, rfl, hyc⟩ : ∃ y, b = some y ∧ ∀ j, j < n → wr.cell? (y.add j) = some (.int .u32 (zs.getD j 0)) := by
          rcases hz5 with h | h
          · omega
          · exact h
        have c0 := hyc k hkn
        obtain ⟨v, hv⟩ : ∃ v, zs.getD k 0 = v := ⟨_, rfl⟩
        have HV : Hid (isW v) := Lib.hid (by rw [← hv]; exact getD_word hz4 k)
        have HPut : Hid (putF (argF fn zs k) (k + 1) v = argF fn zs (k + 1)) := Lib.hid (by rw [← hv]; exact argF_put fn zs k)
        rw [hv] at c0
        have hcap : n ≤ maxLen := Nat.le_trans hz2 hz3
        have hw1 : wrap64 ((1 : Int) + (k : Int)) = 1 + (k : Int) := (wrap_k hk hn7).1
        have hw2 : wrap64 ((k : Int) + 1) = (k : Int) + 1 := (wrap_k hk hn7).2
        have cP : Calls Tryd.prog 47 #[.pointer (some ⟨W.heap.size, 0, none⟩), .int .i64 (1 + (k : Int)), .int .u32 v] wr fun e w' => e = .returned (.tuple #[]) ∧ wr.grownBy w' (some W.heap.size) ∧ FrAt w' W.heap.size r (putF (argF fn zs k) (k + 1) v) := by
          have := put_any W.heap.size r (argF fn zs k) (k + 1) (by omega) v HV.out wr HF.out
          rwa [show (((k + 1 : Nat)) : Int) = 1 + (k : Int) by omega] at this
        rw [HPut.out] at cP
        clear hz1 hz2 hz3 hz4 hz5 hyc hv
        go_wp2_with fail
        refine cP.mono ?_
        rintro en w4 ⟨rfl, hg4, hF4⟩
        have HB4 : Hid (Below W.heap.size W w4) := Lib.hid (HB.out.grown hg4 HB.out.size (fun g hg => by cases hg; exact Nat.le_refl _))
        have HF4 := Lib.hid hF4
        clear hg4 hF4 cP
        go_wp2
        exact ⟨⟨k + 1, by omega, by go_num, HB4, HF4⟩, by simp [intOf]; omega⟩
      · have hkI : ¬ (k : Int) < (n : Int) := by omega
        obtain rfl : k = n := by omega
        have hln : zs.length = k := HW0.out.1
        have HF2 : Hid (FrAt wr W.heap.size r (newF fn zs)) := Lib.hid (by rw [← argF_all (fn := (fn : Int)) hln]; exact HF.out)
        clear hln
        obtain ⟨q, hq⟩ : ∃ q, loopQ fs fl (g' + 1) (newF fn zs) e us = q := ⟨_, rfl⟩
        have HQ : Hid (execQ fs fl (g' + 1) e us fn zs = outQ q) := Lib.hid (congrArg outQ hq)
        have HSt : Hid (At fs fl (.slice a len cap) r base W.heap.size fn g' q W wr g' (newF fn zs) e us V) := Lib.hid ⟨hq.symm, Nat.le_refl _, rfl, Int.le_refl _, HOK.out, HNum.out.2.1, HNum.out.2.2.1, by have := HNum.out.1; omega, grownBy_of_below HB.out _, HF2.out, HR0.out.later HB.out, HT0.out.below HB.out⟩
        clear hq
        go_wp2_with fail
        go_loopw [] (fun wr => ∃ (gk : Nat) (x : Fr) (e' : Ev) (us' : Int) (V' : Value), Hid (At fs fl (.slice a len cap) r base W.heap.size fn g' q W wr gk x e' us' V')) (fun wr => (fl - cellI wr ⟨r, 8, none⟩).toNat)
        case atStart => exact ⟨_, _, _, _, _, HSt⟩
        case round =>
          obtain ⟨gk, x, e', us', V', HA⟩ := hrel
          obtain ⟨fb, hfb⟩ : ∃ fb, x.fin = fb := ⟨_, rfl⟩
          have c35 := HA.out.frame.fine
          rw [hfb] at c35
          have HFb := Lib.hid hfb
          clear hfb
          cases fb with
          | true =>
            obtain ⟨v, hv⟩ : ∃ v, x.reg 0 = v := ⟨_, rfl⟩
            obtain ⟨c0, _⟩ := HA.out.frame.word (k := 0) (by omega)
            rw [hv] at c0
            have HV := Lib.hid hv
            clear hv
            go_wp2_with fail
            go_ret2
            rw [HQ.out]
            exact HA.out.fin HFb.out HV.out
          | false =>
            obtain ⟨qs, hqs⟩ : ∃ qs, stepQ (execQ fs fl gk) fs fl x e' us' = qs := ⟨_, rfl⟩
            have cS := step_any (execQ fs fl gk) gk w0 a len cap fs HP0.out HAr.out HGd.out W.heap.size r base fl (HIH.out gk (Nat.lt_succ_of_le HA.out.le)) HNum.out.2.2.2.2.2 HB0.out.size x V' e' us' (fun ee => Nat.lt_irrefl _ (ee ▸ HR0.out.lt)) wr HA.out.frame HA.out.run HA.out.tabs HA.out.ok (Nat.le_trans HNum.out.2.2.2.2.1 HA.out.grown.size) (HB0.out.grown HA.out.grown HB0.out.size (fun g hg => by cases hg; exact HNum.out.2.2.2.2.2)) fn HA.out.fn (HLn.out ▸ HFn.out) x.2.1.toNat (Int.toNat_of_nonneg HA.out.pos).symm HNum.out.2.2.2.1 HA.out.us0 HA.out.us1 hf1.out HA.out.gas
            rw [hqs] at cS
            have HQs := Lib.hid hqs
            clear hqs
            go_wp2_with fail
            refine cS.mono ?_
            rintro en w4 ⟨rfl, h2, hF4, ho4, V4, hR4, hT4⟩
            obtain ⟨er, x2, e2, us2⟩ := qs
            by_cases her : er = 0
            · subst her
              obtain ⟨hn1, hn2, k2, hA2⟩ := HA.out.next (Nat.le_refl _) (HGd.out fn (HLn.out ▸ HFn.out)).2 HFb.out HQs.out h2 hF4 ho4 hR4 hT4
              have HA2 := Lib.hid hA2
              have HLt : Hid ((fl - cellI w4 ⟨r, 8, none⟩).toNat < (fl - cellI wr ⟨r, 8, none⟩).toNat) := Lib.hid (by rw [HA.out.us8, HA2.out.us8]; omega)
              clear hA2 h2 hF4 ho4 hR4 hT4 cS hn1 hn2
              go_wp2
              exact ⟨⟨_, _, _, _, _, HA2⟩, HLt.out⟩
            · have HPo := Lib.hid (HA.out.out (Nat.le_refl _) HFb.out her HQs.out h2 ho4 hR4 hT4)
              clear h2 hF4 ho4 hR4 hT4 cS
              go_wp2
              go_ret2
              rw [HQ.out]
              exact HPo.out

end Go.Proofs.YtilddlgcfbefiaaDoor

