/-
  Texts that the laws of this layer stand on, one behind the other.
-/
import Derived.Test.YtilddlgcfbefiaaDoorGjd
import Derived.Test.YtilddlgcfbefiaaDoorGjc
import Derived.Test.YtilddlgcfbefiaaDoorJ5
/-
  The interpreter's table of kinds; one step of a frame.
-/
namespace Go.Proofs.YtilddlgcfbefiaaDoor
set_option linter.unusedSimpArgs false
set_option linter.unusedVariables false
open Go Go.RowKit
def kindsV : Value := .agg #[.func (.func 69) #[] #[], .func (.func 70) #[] #[], .func (.func 71) #[] #[], .func (.func 71) #[] #[], .func (.func 72) #[] #[], .func (.func 73) #[] #[], .func (.func 74) #[] #[], .func (.func 75) #[] #[]]
set_option maxRecDepth 100000 in
set_option maxHeartbeats 20000000 in
theorem kinds_any (w : World) : Calls Tryd.prog 58 #[] w fun e w' => e = .returned kindsV ∧ Below w.heap.size w w' := by
  go_enter Tryd.func58, Tryd.ntmps58
  go_wp2
  refine bodyPost_ret (v := kindsV) (by simp [results, Tryd.results58, go_sem, kindsV]) rfl ⟨rfl, ?_⟩
  exact (Below.refl _ _).alloc (Nat.le_refl _) _
def goodI (i : I) : Prop := (0 ≤ i.1 ∧ i.1 ≤ 7) ∧ (i.1 = 0 → 0 ≤ i.2.1 ∧ i.2.1 ≤ 10) ∧ (0 ≤ i.2.2.1 ∧ i.2.2.1 < 8) ∧ (0 ≤ i.2.2.2.1 ∧ i.2.2.2.1 < 8) ∧ (0 ≤ i.2.2.2.2.2.1 ∧ i.2.2.2.2.2.1 ≤ 65535) ∧ isW i.2.2.2.2.2.2
def ctxE (e : Ev) (k : Nat) : Int := if k = 0 then e.1.1 else if k = 1 then e.1.2.1 else if k = 2 then e.1.2.2.1 else e.1.2.2.2
def doQ (ex : Exec) (fs : List Fun) (x : Fr) (e : Ev) (us : Int) (i : I) : Int × Fr × Ev × Int :=
  let ov := opW x i.2.2.2.2.1 i.2.2.2.1 i.2.2.2.2.2.2
  let ob := opS x i.2.2.2.2.1 i.2.2.2.1
  let d := i.2.2.1.toNat
  if i.1 = 0 then ((compP x i.2.1 d ov ob).1, (compP x i.2.1 d ov ob).2, e, us)
  else if i.1 = 1 then ((jumpP x i.2.1 d i.2.2.2.2.2.1 ov ob).1, (jumpP x i.2.1 d i.2.2.2.2.2.1 ov ob).2, e, us)
  else if i.1 = 2 ∨ i.1 = 3 then ((loadP x i.1 d (ctxE e) ov ob).1, (loadP x i.1 d (ctxE e) ov ob).2, e, us)
  else if i.1 = 4 then ((storeP x d ov ob).1, (storeP x d ov ob).2, e, us)
  else if i.1 = 5 then ((helpP x e i.2.2.2.2.2.2).1, (helpP x e i.2.2.2.2.2.2).2.1, (helpP x e i.2.2.2.2.2.2).2.2, us)
  else if i.1 = 6 then callQ ex fs x e us i.2.2.2.2.2.2
  else (if x.isSet 0 then 0 else 10, if x.isSet 0 then endF x else x, e, us)
def stepQ (ex : Exec) (fs : List Fun) (fl : Int) (x : Fr) (e : Ev) (us : Int) : Int × Fr × Ev × Int :=
  if fl ≤ us then (2, x, e, us)
  else if ((fs.getD x.1.toNat zeroF).2.length : Int) ≤ x.2.1 then (10, x, e, us + 1)
  else doQ ex fs (atF x (x.2.1 + 1)) e (us + 1) ((fs.getD x.1.toNat zeroF).2.getD x.2.1.toNat zeroI)
theorem stepQ_end {ex : Exec} {fs : List Fun} {fl : Int} {x : Fr} {e : Ev} {us : Int} {kf ka lc : Nat} {P : Fun} (hus : us < fl) (hx : x.1.toNat = kf) (hp : fs.getD kf zeroF = P) (ha : x.2.1 = ka) (hl : P.2.length = lc) (h : lc ≤ ka) : stepQ ex fs fl x e us = (10, x, e, us + 1) := by
  subst hx
  subst hp
  unfold stepQ
  rw [if_neg (by omega), if_pos (by omega)]
theorem stepQ_do {ex : Exec} {fs : List Fun} {fl : Int} {x : Fr} {e : Ev} {us : Int} {kf ka lc : Nat} {P : Fun} (hus : us < fl) (hx : x.1.toNat = kf) (hp : fs.getD kf zeroF = P) (ha : x.2.1 = ka) (hl : P.2.length = lc) (h : ¬ lc ≤ ka) : stepQ ex fs fl x e us = doQ ex fs (atF x ((ka : Int) + 1)) e (us + 1) (P.2.getD ka zeroI) := by
  subst hx
  subst hp
  unfold stepQ
  rw [if_neg (by omega), if_neg (by omega), ha, Int.toNat_natCast]
def StepPost (q : Int × Fr × Ev × Int) (F : Value) (f r base : Nat) (fl : Int) (W : World) (en : Ending) (w' : World) : Prop :=
  en = .returned (.int .i64 q.1) ∧ Two r f W w' ∧ FrAt w' f r q.2.1 ∧ okEv q.2.2.1 ∧ ∃ V', Box w' r 68 (RunA F q.2.2.1 V' fl q.2.2.2) ∧ TabsI w' base V' q.2.2.1.2.1
end Go.Proofs.YtilddlgcfbefiaaDoor

/-
  An execution in plain: the loop of a frame by what fuel is left, and what executing a function comes to.
-/
namespace Go.Proofs.YtilddlgcfbefiaaDoor
set_option linter.unusedSimpArgs false
set_option linter.unusedVariables false
open Go Go.RowKit
def newF (fn : Int) (zs : List Int) : Fr := (fn, 0, fun k => if 1 ≤ k ∧ k ≤ zs.length then zs.getD (k - 1) 0 else 0, fun k => decide (1 ≤ k ∧ k ≤ zs.length), fun _ => 0, false)
def outQ (p : Int × Fr × Ev × Int) : Int × Int × Ev × Int := if p.1 = 0 then (0, p.2.1.reg 0, p.2.2.1, p.2.2.2) else (p.1, 0, p.2.2.1, p.2.2.2)
def loopQ (fs : List Fun) (fl : Int) : Nat → Fr → Ev → Int → Int × Fr × Ev × Int
  | 0, x, e, us => (2, x, e, us)
  | g + 1, x, e, us =>
    if x.fin = true then (0, x, e, us)
    else
      let q := stepQ (fun e us fn zs => outQ (loopQ fs fl g (newF fn zs) e us)) fs fl x e us
      if q.1 = 0 then loopQ fs fl g q.2.1 q.2.2.1 q.2.2.2 else q
def execQ (fs : List Fun) (fl : Int) (g : Nat) : Exec := fun e us fn zs => outQ (loopQ fs fl g (newF fn zs) e us)
theorem loopQ_fin {fs : List Fun} {fl : Int} {g : Nat} {x : Fr} {e : Ev} {us : Int} (h : x.fin = true) : loopQ fs fl (g + 1) x e us = (0, x, e, us) := by
  rw [loopQ, if_pos h]
theorem loopQ_go {fs : List Fun} {fl : Int} {g : Nat} {x : Fr} {e : Ev} {us : Int} {q : Int × Fr × Ev × Int} (h : x.fin = false) (hq : stepQ (execQ fs fl g) fs fl x e us = q) (h0 : q.1 = 0) : loopQ fs fl (g + 1) x e us = loopQ fs fl g q.2.1 q.2.2.1 q.2.2.2 := by
  subst hq
  rw [loopQ, if_neg (by rw [h]; simp)]
  exact if_pos h0
theorem loopQ_end {fs : List Fun} {fl : Int} {g : Nat} {x : Fr} {e : Ev} {us : Int} {q : Int × Fr × Ev × Int} (h : x.fin = false) (hq : stepQ (execQ fs fl g) fs fl x e us = q) (h0 : q.1 ≠ 0) : loopQ fs fl (g + 1) x e us = q := by
  subst hq
  rw [loopQ, if_neg (by rw [h]; simp)]
  exact if_neg h0
/- what a step adds to what has been executed -/
theorem helpP_frame (x : Fr) (e : Ev) (m : Int) : (helpP x e m).2.1.1 = x.1 ∧ (helpP x e m).2.1.2.1 = x.2.1 := by
  unfold helpP
  split
  · split
    · exact ⟨rfl, rfl⟩
    · exact ⟨rfl, rfl⟩
  · exact ⟨rfl, rfl⟩
theorem doQ_used {ex : Exec} (hex : ∀ e us fn zs, us ≤ (ex e us fn zs).2.2.2) (fs : List Fun) (x : Fr) (e : Ev) (us : Int) (i : I) : us ≤ (doQ ex fs x e us i).2.2.2 := by
  unfold doQ
  simp only
  repeat' split
  all_goals first
    | exact Int.le_refl _
    | (unfold callQ
       split
       · exact Int.le_refl _
       · split
         · split
           · exact hex _ _ _ _
           · exact hex _ _ _ _
         · exact Int.le_refl _)
theorem stepQ_used {ex : Exec} (hex : ∀ e us fn zs, us ≤ (ex e us fn zs).2.2.2) (fs : List Fun) (fl : Int) (x : Fr) (e : Ev) (us : Int) (h0 : (stepQ ex fs fl x e us).1 = 0) : us < (stepQ ex fs fl x e us).2.2.2 := by
  unfold stepQ at h0 ⊢
  split
  · rename_i h
    rw [if_pos h] at h0
    cases h0
  · split
    · show us < us + 1
      omega
    · have := doQ_used hex fs (atF x (x.2.1 + 1)) e (us + 1) ((fs.getD x.1.toNat zeroF).2.getD x.2.1.toNat zeroI)
      omega
theorem stepQ_le {ex : Exec} (hex : ∀ e us fn zs, us ≤ (ex e us fn zs).2.2.2) (fs : List Fun) (fl : Int) (x : Fr) (e : Ev) (us : Int) : us ≤ (stepQ ex fs fl x e us).2.2.2 := by
  unfold stepQ
  split
  · exact Int.le_refl _
  · split
    · show us ≤ us + 1
      omega
    · have := doQ_used hex fs (atF x (x.2.1 + 1)) e (us + 1) ((fs.getD x.1.toNat zeroF).2.getD x.2.1.toNat zeroI)
      omega
theorem outQ_used (p : Int × Fr × Ev × Int) : (outQ p).2.2.2 = p.2.2.2 := by
  unfold outQ
  split <;> rfl
theorem loopQ_used (fs : List Fun) (fl : Int) : ∀ (g : Nat) (x : Fr) (e : Ev) (us : Int), us ≤ (loopQ fs fl g x e us).2.2.2
  | 0, x, e, us => Int.le_refl _
  | g + 1, x, e, us => by
    have hex : ∀ e us fn zs, us ≤ (execQ fs fl g e us fn zs).2.2.2 := fun e us fn zs => by
      show us ≤ (outQ _).2.2.2
      rw [outQ_used]
      exact loopQ_used fs fl g _ _ _
    rcases hf : x.fin with _ | _
    · have hs := stepQ_le hex fs fl x e us
      by_cases h0 : (stepQ (execQ fs fl g) fs fl x e us).1 = 0
      · rw [loopQ_go hf rfl h0]
        exact Int.le_trans hs (loopQ_used fs fl g _ _ _)
      · rw [loopQ_end hf rfl h0]
        exact hs
    · rw [loopQ_fin hf]
      exact Int.le_refl _
end Go.Proofs.YtilddlgcfbefiaaDoor

/-
  An execution in plain: what a step leaves of a frame's function and position, and of the fuel.
-/
namespace Go.Proofs.YtilddlgcfbefiaaDoor
set_option linter.unusedSimpArgs false
set_option linter.unusedVariables false
open Go Go.RowKit
theorem compP_frame (x : Fr) (fn : Int) (d : Nat) (ov : Int) (ob : Bool) : (compP x fn d ov ob).2.1 = x.1 ∧ (compP x fn d ov ob).2.2.1 = x.2.1 := by
  unfold compP
  split <;> exact ⟨rfl, rfl⟩
theorem loadP_frame (x : Fr) (op : Int) (d : Nat) (c : Nat → Int) (ov : Int) (ob : Bool) : (loadP x op d c ov ob).2.1 = x.1 ∧ (loadP x op d c ov ob).2.2.1 = x.2.1 := by
  unfold loadP
  repeat' split
  all_goals exact ⟨rfl, rfl⟩
theorem storeP_frame (x : Fr) (d : Nat) (ov : Int) (ob : Bool) : (storeP x d ov ob).2.1 = x.1 ∧ (storeP x d ov ob).2.2.1 = x.2.1 := by
  unfold storeP
  split <;> exact ⟨rfl, rfl⟩
theorem jumpP_frame (x : Fr) (fn : Int) (d : Nat) (o ov : Int) (ob : Bool) (ho : 0 ≤ o) (hx : 0 ≤ x.2.1) : (jumpP x fn d o ov ob).2.1 = x.1 ∧ 0 ≤ (jumpP x fn d o ov ob).2.2.1 := by
  unfold jumpP
  repeat' split
  · exact ⟨rfl, by show 0 ≤ x.2.1 + o; omega⟩
  · exact ⟨rfl, hx⟩
  · exact ⟨rfl, hx⟩
theorem callQ_frame (ex : Exec) (fs : List Fun) (x : Fr) (e : Ev) (us m : Int) : (callQ ex fs x e us m).2.1.1 = x.1 ∧ (callQ ex fs x e us m).2.1.2.1 = x.2.1 := by
  unfold callQ
  repeat' split
  all_goals exact ⟨rfl, rfl⟩
theorem doQ_frame (ex : Exec) (fs : List Fun) (x : Fr) (e : Ev) (us : Int) (i : I) (hi : goodI i) (hx : 0 ≤ x.2.1) : (doQ ex fs x e us i).2.1.1 = x.1 ∧ 0 ≤ (doQ ex fs x e us i).2.1.2.1 := by
  unfold doQ
  simp only
  split
  · exact ⟨(compP_frame ..).1, by rw [(compP_frame ..).2]; exact hx⟩
  split
  · exact jumpP_frame _ _ _ _ _ _ hi.2.2.2.2.1.1 hx
  split
  · exact ⟨(loadP_frame ..).1, by rw [(loadP_frame ..).2]; exact hx⟩
  split
  · exact ⟨(storeP_frame ..).1, by rw [(storeP_frame ..).2]; exact hx⟩
  split
  · exact ⟨(helpP_frame ..).1, by rw [(helpP_frame ..).2]; exact hx⟩
  split
  · exact ⟨(callQ_frame ..).1, by rw [(callQ_frame ..).2]; exact hx⟩
  · split <;> exact ⟨rfl, hx⟩
theorem stepQ_frame (ex : Exec) (fs : List Fun) (fl : Int) (x : Fr) (e : Ev) (us : Int) (hG : ∀ i ∈ (fs.getD x.1.toNat zeroF).2, goodI i) (hx : 0 ≤ x.2.1) : (stepQ ex fs fl x e us).2.1.1 = x.1 ∧ 0 ≤ (stepQ ex fs fl x e us).2.1.2.1 := by
  unfold stepQ
  split
  · exact ⟨rfl, hx⟩
  · split
    · exact ⟨rfl, hx⟩
    · rename_i h
      refine doQ_frame ex fs (atF x (x.2.1 + 1)) e (us + 1) _ (hG _ (getD_mem _ _ _ (by omega))) ?_
      show 0 ≤ x.2.1 + 1
      omega
/- no more is executed than there is fuel for -/
theorem doQ_top {ex : Exec} {fl : Int} (hex : ∀ e us fn zs, us ≤ fl → (ex e us fn zs).2.2.2 ≤ fl) (fs : List Fun) (x : Fr) (e : Ev) (us : Int) (i : I) (hu : us ≤ fl) : (doQ ex fs x e us i).2.2.2 ≤ fl := by
  unfold doQ
  simp only
  repeat' split
  all_goals first
    | exact hu
    | (unfold callQ
       split
       · exact hu
       · split
         · split
           · exact hex _ _ _ _ hu
           · exact hex _ _ _ _ hu
         · exact hu)
theorem stepQ_top {ex : Exec} {fl : Int} (hex : ∀ e us fn zs, us ≤ fl → (ex e us fn zs).2.2.2 ≤ fl) (fs : List Fun) (x : Fr) (e : Ev) (us : Int) (hu : us ≤ fl) : (stepQ ex fs fl x e us).2.2.2 ≤ fl := by
  unfold stepQ
  split
  · exact hu
  · split
    · show us + 1 ≤ fl
      omega
    · exact doQ_top hex fs _ _ _ _ (by omega)
theorem loopQ_top (fs : List Fun) (fl : Int) : ∀ (g : Nat) (x : Fr) (e : Ev) (us : Int), us ≤ fl → (loopQ fs fl g x e us).2.2.2 ≤ fl
  | 0, x, e, us, hu => hu
  | g + 1, x, e, us, hu => by
    have hex : ∀ e us fn zs, us ≤ fl → (execQ fs fl g e us fn zs).2.2.2 ≤ fl := fun e us fn zs hu => by
      show (outQ _).2.2.2 ≤ fl
      rw [outQ_used]
      exact loopQ_top fs fl g _ _ _ hu
    rcases hf : x.fin with _ | _
    · have hs := stepQ_top hex fs x e us hu
      by_cases h0 : (stepQ (execQ fs fl g) fs fl x e us).1 = 0
      · rw [loopQ_go hf rfl h0]
        exact loopQ_top fs fl g _ _ _ hs
      · rw [loopQ_end hf rfl h0]
        exact hs
    · rw [loopQ_fin hf]
      exact hu
theorem execQ_top (fs : List Fun) (fl : Int) (g : Nat) (e : Ev) (us fn : Int) (zs : List Int) (hu : us ≤ fl) : (execQ fs fl g e us fn zs).2.2.2 ≤ fl := by
  show (outQ _).2.2.2 ≤ fl
  rw [outQ_used]
  exact loopQ_top fs fl g _ _ _ hu
theorem execQ_used (fs : List Fun) (fl : Int) (g : Nat) (e : Ev) (us fn : Int) (zs : List Int) : us ≤ (execQ fs fl g e us fn zs).2.2.2 := by
  show us ≤ (outQ _).2.2.2
  rw [outQ_used]
  exact loopQ_used fs fl g _ _ _
/- a frame with its first words put -/
def argF (fn : Int) (zs : List Int) (k : Nat) : Fr := (fn, 0, fun j => if 1 ≤ j ∧ j ≤ k then zs.getD (j - 1) 0 else 0, fun j => decide (1 ≤ j ∧ j ≤ k), fun _ => 0, false)
theorem argF_all {fn : Int} {zs : List Int} {n : Nat} (h : zs.length = n) : argF fn zs n = newF fn zs := by
  subst h
  rfl
theorem argF_put (fn : Int) (zs : List Int) (k : Nat) : putF (argF fn zs k) (k + 1) (zs.getD k 0) = argF fn zs (k + 1) := by
  unfold putF argF
  refine congrArg (Prod.mk _) (congrArg (Prod.mk _) ?_)
  refine Prod.ext (funext fun j => ?_) (Prod.ext (funext fun j => ?_) rfl)
  · show (if j = k + 1 then zs.getD k 0 else if 1 ≤ j ∧ j ≤ k then zs.getD (j - 1) 0 else 0) = if 1 ≤ j ∧ j ≤ k + 1 then zs.getD (j - 1) 0 else 0
    by_cases h : j = k + 1
    · subst h
      rw [if_pos rfl, if_pos (by omega)]
      rfl
    · rw [if_neg h]
      by_cases h2 : 1 ≤ j ∧ j ≤ k
      · rw [if_pos h2, if_pos (by omega)]
      · rw [if_neg h2, if_neg (by omega)]
  · show (if j = k + 1 then true else decide (1 ≤ j ∧ j ≤ k)) = decide (1 ≤ j ∧ j ≤ k + 1)
    by_cases h : j = k + 1
    · subst h
      rw [if_pos rfl]
      exact (decide_eq_true (by omega)).symm
    · rw [if_neg h]
      exact decide_eq_decide.2 (by omega)
def cellI (w : World) (a : Addr) : Int := match w.cell? a with | some (.int _ n) => n | _ => 0
theorem cellI_of {w : World} {a : Addr} {k : IntKind} {n : Int} (h : w.cell? a = some (.int k n)) : cellI w a = n := by
  unfold cellI
  rw [h]
end Go.Proofs.YtilddlgcfbefiaaDoor

