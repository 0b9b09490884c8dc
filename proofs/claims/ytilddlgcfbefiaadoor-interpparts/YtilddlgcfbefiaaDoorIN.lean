/-
  Runs in plain: what a program keeps of the tables, and that the context does not matter to one that reads none of it.
-/
import Derived.Test.YtilddlgcfbefiaaDoorGip
import Derived.Test.YtilddlgcfbefiaaDoorGhx
import Derived.Test.YtilddlgcfbefiaaDoorGjf
namespace Go.Proofs.YtilddlgcfbefiaaDoor
set_option linter.unusedSimpArgs false
set_option linter.unusedVariables false
open Go Go.RowKit
/- tables whose words are words -/
def wL (t : Tb) : Prop := ∀ e ∈ t.2.1, wordL e.2
theorem wL_zero : wL zeroT := fun e he => by simp [zeroT] at he
theorem wL_at {t : Tb} (h : wL t) (i : Nat) : wordL (t.2.1.getD i zeroE).2 := by
  by_cases hi : i < t.2.1.length
  · exact h _ (getD_mem _ _ _ hi)
  · rw [List.getD_eq_getElem?_getD, List.getElem?_eq_none (by omega)]
    exact wordL_nil
theorem wL_without {t : Tb} (h : wL t) (i : Nat) : wL (withoutT t i) := fun e he => h e (List.mem_of_mem_eraseIdx he)
theorem wL_behind {t : Tb} (h : wL t) {e : Ent} (he : wordL e.2) : wL (behindT t e) := fun x hx => by
  rcases List.mem_append.1 hx with h1 | h1
  · exact h x h1
  · rw [List.mem_singleton.1 h1]; exact he
theorem wL_set {s : Sc} {es : List Ent} {x : Int} (h : ∀ e ∈ es, wordL e.2) {e : Ent} (he : wordL e.2) (i : Nat) : wL (s, es.set i e, x) := fun y hy => by
  rcases List.mem_or_eq_of_mem_set hy with h1 | h1
  · exact h y h1
  · rw [h1]; exact he
theorem getT_w {t : Tb} (h : wL t) (key field : Int) : wL (getT t key field).1 ∧ isW (getT t key field).2.1 := by
  unfold getT
  split
  · split
    · rename_i i _
      refine ⟨?_, getD_word (wL_at h i) _⟩
      show wL (if t.1.1 = 2 then behindT (withoutT t i) (t.2.1.getD i zeroE) else t)
      split
      · exact wL_behind (wL_without h i) (wL_at h i)
      · exact h
    · exact ⟨h, isW_zero⟩
  · exact ⟨h, isW_zero⟩
theorem setT_w {t : Tb} (h : wL t) (key field : Int) {v : Int} (hv : isW v) : wL (setT t key field v).1 := by
  unfold setT
  split
  · split
    · split
      · exact wL_zero
      · split
        · exact wL_zero
        · refine wL_behind ?_ (wordL_set (wordL_zeros _) hv _)
          split
          · exact wL_without h 0
          · exact h
    · rename_i i _
      show wL (if t.1.1 = 2 then behindT (withoutT t i) (key, ((t.2.1.getD i zeroE).2).set field.toNat v) else (t.1, t.2.1.set i (key, ((t.2.1.getD i zeroE).2).set field.toNat v), t.2.2))
      split
      · exact wL_behind (wL_without h i) (wordL_set (wL_at h i) hv _)
      · exact wL_set h (wordL_set (wL_at h i) hv _) i
  · exact wL_zero
theorem delT_w {t : Tb} (h : wL t) (key : Int) : wL (delT t key).1 := by
  unfold delT
  split
  · split
    · rename_i i _
      show wL (if t.1.1 = 0 then (t.1, t.2.1.set i (key, List.replicate t.1.2.2.1.toNat 0), t.2.2) else withoutT t i)
      split
      · exact wL_set h (wordL_zeros _) i
      · exact wL_without h i
    · exact h
  · exact h
theorem pushT_w {t : Tb} (h : wL t) {v : Int} (hv : isW v) : wL (pushT t v).1 := by
  unfold pushT
  split
  · split
    · exact wL_zero
    · exact wL_behind (t := t) h (e := (t.2.2, [v])) (fun z hz => by rw [List.mem_singleton.1 hz]; exact hv)
  · exact wL_zero
theorem opP_w {n : Int} {t : Tb} {a : List Int} (h : wL t) (ha : wordL a) : wL (opP n t a).1 ∧ isW (opP n t a).2 := by
  refine ⟨?_, opP_word (fun j hj => wL_at h j)⟩
  unfold opP
  split
  · exact (getT_w h _ _).1
  · split
    · show wL (if (setT t (a.getD 1 0) (a.getD 2 0) (a.getD 3 0)).2 = 0 then (setT t (a.getD 1 0) (a.getD 2 0) (a.getD 3 0)).1 else t)
      split
      · exact setT_w h _ _ (wordL_getD ha 3)
      · exact h
    · split
      · exact delT_w h _
      · split
        · exact h
        · show wL (if (pushT t (a.getD 1 0)).2 = 0 then (pushT t (a.getD 1 0)).1 else t)
          split
          · exact pushT_w h (wordL_getD ha 1)
          · exact h
def wTs (ts : List Tb) : Prop := ∀ t ∈ ts, wL t
theorem wTs_at {ts : List Tb} (h : wTs ts) (i : Nat) : wL (ts.getD i zeroT) := by
  by_cases hi : i < ts.length
  · exact h _ (getD_mem _ _ _ hi)
  · rw [List.getD_eq_getElem?_getD, List.getElem?_eq_none (by omega)]
    exact wL_zero
theorem callP_w {n : Int} {e : Ev} {zs : List Int} (h : wTs e.2.1) (hz : wordL zs) : wTs (callP n e zs).1.2.1 ∧ isW (callP n e zs).2.1 := by
  unfold callP
  split
  · exact ⟨fun t ht => by simp [zeroEv] at ht, isW_zero⟩
  · split
    · refine ⟨h, ?_⟩
      show isW (drawP e.2.2)
      unfold drawP
      exact ⟨by omega, by omega⟩
    · split
      · have ho := opP_w (n := n) (wTs_at h (zs.getD 0 0).toNat) hz
        refine ⟨fun t ht => ?_, ho.2⟩
        rcases List.mem_or_eq_of_mem_set ht with h1 | h1
        · exact h t h1
        · rw [h1]; exact ho.1
      · exact ⟨h, isW_zero⟩
/- a frame whose words are words -/
def wF (x : Fr) : Prop := (∀ k, isW (x.reg k)) ∧ ∀ k, isW (x.stk k)
theorem wF_new {fn : Int} {zs : List Int} (h : wordL zs) : wF (newF fn zs) := by
  refine ⟨fun k => ?_, fun k => isW_zero⟩
  show isW (if 1 ≤ k ∧ k ≤ zs.length then zs.getD (k - 1) 0 else 0)
  split
  · exact wordL_getD h _
  · exact isW_zero
theorem wF_put {x : Fr} (h : wF x) (k : Nat) {v : Int} (hv : isW v) : wF (putF x k v) := by
  refine ⟨fun j => ?_, h.2⟩
  show isW (if j = k then v else x.reg j)
  split
  · exact hv
  · exact h.1 j
theorem wF_store {x : Fr} (h : wF x) (k : Nat) {v : Int} (hv : isW v) : wF (storeF x k v) := by
  refine ⟨h.1, fun j => ?_⟩
  show isW (if j = k then v else x.stk j)
  split
  · exact hv
  · exact h.2 j
theorem wF_clr {x : Fr} (h : wF x) (k : Nat) : wF (clr1 x k) := by
  refine ⟨fun j => ?_, h.2⟩
  show isW (if j = k then 0 else x.reg j)
  split
  · exact isW_zero
  · exact h.1 j
theorem wF_back {x : Fr} (h : wF x) {v : Int} (hv : isW v) : wF (backF x v) := wF_put (wF_clr (wF_clr (wF_clr (wF_clr (wF_clr h 1) 2) 3) 4) 5) 0 hv
theorem wF_regs {x : Fr} (h : wF x) (n : Nat) : wordL (regsL x n) := fun z hz => by
  obtain ⟨k, _, rfl⟩ := List.mem_map.1 hz
  exact h.1 _
/- what an environment keeps -/
structure Kp (e e' : Ev) : Prop where
  ctx : e'.1 = e.1
  len : e'.2.1.length = e.2.1.length
  tab : ∀ k, k < e.2.1.length → (e'.2.1.getD k zeroT).1 = (e.2.1.getD k zeroT).1 ∧ (mayTb (e.2.1.getD k zeroT) = true → mayTb (e'.2.1.getD k zeroT) = true)
theorem Kp.refl (e : Ev) : Kp e e := ⟨rfl, rfl, fun k hk => ⟨rfl, id⟩⟩
theorem Kp.trans {e e' e'' : Ev} (h : Kp e e') (h' : Kp e' e'') : Kp e e'' := ⟨h'.ctx.trans h.ctx, h'.len.trans h.len, fun k hk => ⟨((h'.tab k (by rw [h.len]; exact hk)).1).trans (h.tab k hk).1, fun hm => (h'.tab k (by rw [h.len]; exact hk)).2 ((h.tab k hk).2 hm)⟩⟩
/- environments as runs leave them -/
def Wk (e0 e : Ev) : Prop := Kp e0 e ∧ wTs e.2.1 ∧ isW e0.1.1 ∧ isW e0.1.2.1 ∧ isW e0.1.2.2.1 ∧ isW e0.1.2.2.2
theorem Wk.ctxE {e0 e : Ev} (h : Wk e0 e) (k : Nat) : isW (ctxE e k) := by
  obtain ⟨h1, _, a, b, c, d⟩ := h
  show isW (if k = 0 then e.1.1 else if k = 1 then e.1.2.1 else if k = 2 then e.1.2.2.1 else e.1.2.2.2)
  rw [h1.ctx]
  split
  · exact a
  · split
    · exact b
    · split
      · exact c
      · exact d
def XW (e0 : Ev) (ex : Exec) : Prop := ∀ e us fn zs, Wk e0 e → wordL zs → Wk e0 (ex e us fn zs).2.2.1 ∧ isW (ex e us fn zs).2.1
theorem doI_w {f a b : Int} (ha : isW a) (hb : isW b) : isW (doI f a b) := by
  have h := doI_le f a b (by have := ha.2; omega) (by have := hb.2; omega)
  exact ⟨doI_ge _ _ _, by omega⟩
theorem doQ_w {e0 : Ev} {ex : Exec} (hx : XW e0 ex) {fs : List Fun} {x : Fr} {e : Ev} {us : Int} {i : I} (hF : wF x) (hE : Wk e0 e) (hi : goodI i) : wF (doQ ex fs x e us i).2.1 ∧ Wk e0 (doQ ex fs x e us i).2.2.1 := by
  have ho : isW (opW x i.2.2.2.2.1 i.2.2.2.1 i.2.2.2.2.2.2) := by
    unfold opW
    split
    · exact hF.1 _
    · exact hi.2.2.2.2.2
  unfold doQ
  simp only
  split
  · refine ⟨?_, hE⟩
    unfold compP
    split
    · exact wF_put hF _ (doI_w (hF.1 _) ho)
    · exact hF
  split
  · refine ⟨?_, hE⟩
    unfold jumpP
    repeat' split
    all_goals exact hF
  split
  · refine ⟨?_, hE⟩
    unfold loadP
    repeat' split
    · exact wF_put hF _ (hE.ctxE _)
    · exact hF
    · exact wF_put hF _ (hF.2 _)
    · exact hF
  split
  · refine ⟨?_, hE⟩
    unfold storeP
    split
    · exact wF_store hF _ (hF.1 _)
    · exact hF
  split
  · unfold helpP
    split
    · split
      · rename_i h0
        have hz := wF_regs hF (argsP i.2.2.2.2.2.2).toNat
        have hw := callP_w (n := i.2.2.2.2.2.2) hE.2.1 hz
        refine ⟨wF_back hF hw.2, ?_, hw.1, hE.2.2⟩
        refine hE.1.trans ?_
        obtain ⟨c, ts, sd⟩ := e
        rcases hr : callP i.2.2.2.2.2.2 (c, ts, sd) (regsL x (argsP i.2.2.2.2.2.2).toNat) with ⟨⟨c', us', sd'⟩, v, f⟩
        rw [hr] at h0
        simp only at h0
        rcases keeps_law hz hr with ⟨h1, _⟩ | ⟨_, h2, h3, _, h5⟩
        · omega
        · exact ⟨h3, h2, fun k hk => ⟨(h5 k hk).2.2, (h5 k hk).2.1⟩⟩
      · exact ⟨hF, hE⟩
    · exact ⟨hF, hE⟩
  split
  · unfold callQ
    split
    · exact ⟨hF, hE⟩
    · split
      · have hz := wF_regs hF (fs.getD (i.2.2.2.2.2.2).toNat zeroF).1.toNat
        obtain ⟨h1, h2⟩ := hx e us i.2.2.2.2.2.2 _ hE hz
        split
        · exact ⟨wF_back hF h2, h1⟩
        · exact ⟨hF, h1⟩
      · exact ⟨hF, hE⟩
  · refine ⟨?_, hE⟩
    show wF (if x.isSet 0 = true then endF x else x)
    split <;> exact hF
theorem loopQ_w (e0 : Ev) (fs : List Fun) (fl : Int) (hG : ∀ k, k < fs.length → ∀ i ∈ (fs.getD k zeroF).2, goodI i) : ∀ (g : Nat) (x : Fr) (e : Ev) (us : Int), wF x → Wk e0 e → wF (loopQ fs fl g x e us).2.1 ∧ Wk e0 (loopQ fs fl g x e us).2.2.1
  | 0, x, e, us, hF, hE => ⟨hF, hE⟩
  | g + 1, x, e, us, hF, hE => by
    have hx : XW e0 (execQ fs fl g) := fun e us fn zs hE hz => by
      obtain ⟨h1, h2⟩ := loopQ_w e0 fs fl hG g (newF fn zs) e us (wF_new hz) hE
      show Wk e0 (outQ _).2.2.1 ∧ isW (outQ _).2.1
      unfold outQ
      split
      · exact ⟨h2, h1.1 0⟩
      · exact ⟨h2, isW_zero⟩
    rcases hf : x.fin with _ | _
    · have hs : wF (stepQ (execQ fs fl g) fs fl x e us).2.1 ∧ Wk e0 (stepQ (execQ fs fl g) fs fl x e us).2.2.1 := by
        unfold stepQ
        split
        · exact ⟨hF, hE⟩
        · split
          · exact ⟨hF, hE⟩
          · rename_i hp
            refine doQ_w hx hF hE ?_
            by_cases hk : x.1.toNat < fs.length
            · by_cases hpp : x.2.1.toNat < (fs.getD x.1.toNat zeroF).2.length
              · exact hG _ hk _ (getD_mem _ _ _ hpp)
              · rw [List.getD_eq_getElem?_getD, List.getElem?_eq_none (by omega)]
                exact ⟨⟨by decide, by decide⟩, fun _ => ⟨by decide, by decide⟩, ⟨by decide, by decide⟩, ⟨by decide, by decide⟩, ⟨by decide, by decide⟩, by decide, by decide⟩
            · have hz : fs.getD x.1.toNat zeroF = zeroF := by rw [List.getD_eq_getElem?_getD, List.getElem?_eq_none (by omega)]; rfl
              rw [hz]
              show goodI (([] : List I).getD _ zeroI)
              rw [List.getD_eq_getElem?_getD, List.getElem?_eq_none (by simp)]
              exact ⟨⟨by decide, by decide⟩, fun _ => ⟨by decide, by decide⟩, ⟨by decide, by decide⟩, ⟨by decide, by decide⟩, ⟨by decide, by decide⟩, by decide, by decide⟩
      by_cases h0 : (stepQ (execQ fs fl g) fs fl x e us).1 = 0
      · rw [loopQ_go hf rfl h0]
        exact loopQ_w e0 fs fl hG g _ _ _ hs.1 hs.2
      · rw [loopQ_end hf rfl h0]
        exact hs
    · rw [loopQ_fin hf]
      exact ⟨hF, hE⟩
theorem fns_goodI {fs : List Fun} {b : Option Addr} {l cp : Nat} {w : World} (hP : FnsAt w b l cp fs) (hm : mayP fs = true) : ∀ k, k < fs.length → (fs.getD k zeroF).2.length ≤ 64 ∧ ∀ i ∈ (fs.getD k zeroF).2, goodI i := fun k hk => by
  obtain ⟨hP1, hP2, hP3, hP4⟩ := hP
  obtain ⟨_, _, _, _, a3, a4⟩ := (mayP_parts hm).2.2 k hk
  refine ⟨a3, fun i hi => mayI_good (a4 i hi) ?_⟩
  rcases hP4 with h4 | ⟨y, _, hy⟩
  · omega
  · obtain ⟨_, b', l', c', _, hc⟩ := hy k (by omega)
    exact hc.2.2.2.1 i hi
theorem tabs_w {w : World} {a : Option Addr} {len cap : Nat} {ts : List Tb} (h : TabsAt w a len cap ts) : wTs ts := fun t ht => by
  obtain ⟨k, hk, rfl⟩ := List.getElem_of_mem ht
  intro e he
  obtain ⟨j, hj, rfl⟩ := List.getElem_of_mem he
  have hg : ts.getD k zeroT = ts[k] := by rw [List.getD_eq_getElem?_getD, List.getElem?_eq_getElem hk]; rfl
  have := h.words k hk j (by rw [hg]; exact hj)
  rw [hg, List.getD_eq_getElem?_getD, List.getElem?_eq_getElem hj] at this
  exact this
theorem callI_keeps {fs : List Fun} {b : Option Addr} {l cp : Nat} {w : World} (hP : FnsAt w b l cp fs) {a : Option Addr} {len cap : Nat} {e : Ev} (hT : TabsAt w a len cap e.2.1) (hc : isW e.1.1 ∧ isW e.1.2.1 ∧ isW e.1.2.2.1 ∧ isW e.1.2.2.2) (fl fn : Int) {zs : List Int} (hz : wordL zs) : Kp e (callI fs fn e fl zs).2.1 := by
  unfold callI
  split
  · exact Kp.refl e
  · rename_i hn
    split
    · exact Kp.refl e
    · have hm : mayP fs = true := by
        rcases hb : mayP fs with _ | _
        · exact absurd (.inl hb) hn
        · rfl
      have h := (loopQ_w e fs fl (fun k hk => (fns_goodI hP hm k hk).2) (fl.toNat + 1) (newF fn zs) e 0 (wF_new hz) ⟨Kp.refl e, tabs_w hT, hc⟩).2.1
      show Kp e (outQ _).2.2.1
      unfold outQ
      split <;> exact h
end Go.Proofs.YtilddlgcfbefiaaDoor
