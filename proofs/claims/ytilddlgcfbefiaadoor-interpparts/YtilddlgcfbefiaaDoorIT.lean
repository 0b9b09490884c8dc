/-
  Runs in plain: a function that is called tells what it tells when it is run alone.
-/
import Derived.Test.YtilddlgcfbefiaaDoorGip
import Derived.Test.YtilddlgcfbefiaaDoorIN
namespace Go.Proofs.YtilddlgcfbefiaaDoor
set_option linter.unusedSimpArgs false
set_option linter.unusedVariables false
open Go Go.RowKit
/- begun later, with as much fuel -/
def laterQ (d : Int) (q : Int × Fr × Ev × Int) : Int × Fr × Ev × Int := (q.1, q.2.1, q.2.2.1, q.2.2.2 + d)
def laterX (d : Int) (q : Int × Int × Ev × Int) : Int × Int × Ev × Int := (q.1, q.2.1, q.2.2.1, q.2.2.2 + d)
theorem outQ_later (d : Int) (q : Int × Fr × Ev × Int) : outQ (laterQ d q) = laterX d (outQ q) := by
  unfold outQ
  show (if q.1 = 0 then (0, q.2.1.reg 0, q.2.2.1, q.2.2.2 + d) else (q.1, 0, q.2.2.1, q.2.2.2 + d)) = laterX d (if q.1 = 0 then (0, q.2.1.reg 0, q.2.2.1, q.2.2.2) else (q.1, 0, q.2.2.1, q.2.2.2))
  split <;> rfl
theorem callQ_later {ex ex2 : Exec} {d us : Int} {e : Ev} (h : ∀ fn zs, ex2 e (us + d) fn zs = laterX d (ex e us fn zs)) (fs : List Fun) (x : Fr) (m : Int) : callQ ex2 fs x e (us + d) m = laterQ d (callQ ex fs x e us m) := by
  unfold callQ
  split
  · rfl
  · split
    · rw [h]
      show (if (ex e us m _).1 = 0 then _ else _) = laterQ d (if (ex e us m _).1 = 0 then _ else _)
      split <;> rfl
    · rfl
theorem doQ_later {ex ex2 : Exec} {d us : Int} {e : Ev} (h : ∀ fn zs, ex2 e (us + d) fn zs = laterX d (ex e us fn zs)) (fs : List Fun) (x : Fr) (i : I) : doQ ex2 fs x e (us + d) i = laterQ d (doQ ex fs x e us i) := by
  unfold doQ
  simp only
  by_cases h0 : i.1 = 0
  · rw [if_pos h0, if_pos h0]; rfl
  rw [if_neg h0, if_neg h0]
  by_cases h1 : i.1 = 1
  · rw [if_pos h1, if_pos h1]; rfl
  rw [if_neg h1, if_neg h1]
  by_cases h2 : i.1 = 2 ∨ i.1 = 3
  · rw [if_pos h2, if_pos h2]; rfl
  rw [if_neg h2, if_neg h2]
  by_cases h4 : i.1 = 4
  · rw [if_pos h4, if_pos h4]; rfl
  rw [if_neg h4, if_neg h4]
  by_cases h5 : i.1 = 5
  · rw [if_pos h5, if_pos h5]; rfl
  rw [if_neg h5, if_neg h5]
  by_cases h6 : i.1 = 6
  · rw [if_pos h6, if_pos h6]
    exact callQ_later h fs x _
  rw [if_neg h6, if_neg h6]
  rfl
theorem loopQ_later (d : Int) (fs : List Fun) (fl : Int) : ∀ (g : Nat) (x : Fr) (e : Ev) (us : Int), loopQ fs (fl + d) g x e (us + d) = laterQ d (loopQ fs fl g x e us)
  | 0, x, e, us => rfl
  | g + 1, x, e, us => by
    have hx : ∀ e us fn zs, execQ fs (fl + d) g e (us + d) fn zs = laterX d (execQ fs fl g e us fn zs) := fun e us fn zs => by
      show outQ _ = laterX d (outQ _)
      rw [loopQ_later d fs fl g (newF fn zs) e us, outQ_later]
    rcases hf : x.fin with _ | _
    · have hs : stepQ (execQ fs (fl + d) g) fs (fl + d) x e (us + d) = laterQ d (stepQ (execQ fs fl g) fs fl x e us) := by
        unfold stepQ
        by_cases hl : fl ≤ us
        · rw [if_pos (show fl + d ≤ us + d by omega), if_pos hl]; rfl
        rw [if_neg (show ¬ fl + d ≤ us + d by omega), if_neg hl]
        by_cases hp : ((fs.getD x.1.toNat zeroF).2.length : Int) ≤ x.2.1
        · rw [if_pos hp, if_pos hp]
          show ((10 : Int), x, e, us + d + 1) = (10, x, e, us + 1 + d)
          rw [show us + d + 1 = us + 1 + d by omega]
        rw [if_neg hp, if_neg hp, show us + d + 1 = us + 1 + d by omega]
        exact doQ_later (fun fn zs => hx e (us + 1) fn zs) fs _ _
      by_cases h0 : (stepQ (execQ fs fl g) fs fl x e us).1 = 0
      · rw [loopQ_go hf hs h0, loopQ_go hf rfl h0]
        exact loopQ_later d fs fl g _ _ _
      · rw [loopQ_end hf hs h0, loopQ_end hf rfl h0]
    · rw [loopQ_fin hf, loopQ_fin hf]
      rfl
/- the steps that the caller takes -/
theorem step_at {ex : Exec} {fs : List Fun} {fl us : Int} {x : Fr} {e : Ev} {k p : Nat} {c : List I} {i : I} (hx : x.1 = (k : Int)) (hp : x.2.1 = (p : Int)) (hc : (fs.getD k zeroF).2 = c) (hi : c[p]? = some i) (hu : us < fl) :
    stepQ ex fs fl x e us = doQ ex fs (atF x ((p : Int) + 1)) e (us + 1) i := by
  have hl : p < c.length := (List.getElem?_eq_some_iff.1 hi).1
  have hg : c.getD p zeroI = i := by rw [List.getD_eq_getElem?_getD, hi]; rfl
  unfold stepQ
  rw [if_neg (by omega), hx, hp, Int.toNat_natCast, Int.toNat_natCast, hc, if_neg (by omega), hg]
theorem compP_mov (x : Fr) (d : Nat) (m : Int) (hm : 0 ≤ m) : compP x 0 d m true = (0, putF x d m) := by
  unfold compP
  rw [if_pos (by simp)]
  rw [show doI 0 (x.reg d) m = m by unfold doI; show ((m.toNat : Nat) : Int) = m; omega]
theorem step_mov {ex : Exec} {fs : List Fun} {fl us : Int} {x : Fr} {e : Ev} {k p : Nat} {c : List I} {d m : Int} (hx : x.1 = (k : Int)) (hp : x.2.1 = (p : Int)) (hc : (fs.getD k zeroF).2 = c) (hi : c[p]? = some (0, 0, d, 0, false, 0, m)) (hu : us < fl) (hm : 0 ≤ m) :
    stepQ ex fs fl x e us = (0, putF (atF x ((p : Int) + 1)) d.toNat m, e, us + 1) := by
  rw [step_at hx hp hc hi hu]
  show ((compP (atF x ((p : Int) + 1)) 0 d.toNat m true).1, (compP (atF x ((p : Int) + 1)) 0 d.toNat m true).2, e, us + 1) = _
  rw [compP_mov _ _ _ hm]
/- the frame behind the first i of the words that are handed over -/
def pF (keep : Int) (zs : List Int) (i : Nat) : Fr := (0, (i : Int) + 1, fun j => if j = 6 then keep else if 1 ≤ j ∧ j ≤ i then zs.getD (j - 1) 0 else 0, fun j => if j = 6 then true else decide (1 ≤ j ∧ j ≤ i), fun _ => 0, false)
theorem pF_zero (keep : Int) (zs : List Int) : putF (atF (newF 0 []) ((0 : Nat) + 1)) 6 keep = pF keep zs 0 := by
  unfold putF atF newF pF
  refine congrArg (Prod.mk _) (congrArg (Prod.mk _) (Prod.ext (funext fun j => ?_) (Prod.ext (funext fun j => ?_) rfl)))
  · show (if j = 6 then keep else if 1 ≤ j ∧ j ≤ 0 then _ else 0) = if j = 6 then keep else if 1 ≤ j ∧ j ≤ 0 then zs.getD (j - 1) 0 else 0
    by_cases h : j = 6
    · rw [if_pos h, if_pos h]
    · rw [if_neg h, if_neg h, if_neg (by omega), if_neg (by omega)]
  · show (if j = 6 then true else decide (1 ≤ j ∧ j ≤ 0)) = if j = 6 then true else decide (1 ≤ j ∧ j ≤ 0)
    rfl
theorem pF_put (keep : Int) (zs : List Int) {i : Nat} (hi : i < 5) : putF (atF (pF keep zs i) (((i + 1 : Nat) : Int) + 1)) (i + 1) (zs.getD i 0) = pF keep zs (i + 1) := by
  unfold putF atF pF
  refine congrArg (Prod.mk _) (congrArg (Prod.mk _) (Prod.ext (funext fun j => ?_) (Prod.ext (funext fun j => ?_) rfl)))
  · show (if j = i + 1 then zs.getD i 0 else if j = 6 then keep else if 1 ≤ j ∧ j ≤ i then zs.getD (j - 1) 0 else 0) = if j = 6 then keep else if 1 ≤ j ∧ j ≤ i + 1 then zs.getD (j - 1) 0 else 0
    by_cases h : j = i + 1
    · subst h
      rw [if_pos rfl, if_neg (by omega), if_pos (by omega)]
      rfl
    · rw [if_neg h]
      by_cases h6 : j = 6
      · rw [if_pos h6, if_pos h6]
      · rw [if_neg h6, if_neg h6]
        by_cases h2 : 1 ≤ j ∧ j ≤ i
        · rw [if_pos h2, if_pos (by omega)]
        · rw [if_neg h2, if_neg (by omega)]
  · show (if j = i + 1 then true else if j = 6 then true else decide (1 ≤ j ∧ j ≤ i)) = if j = 6 then true else decide (1 ≤ j ∧ j ≤ i + 1)
    by_cases h : j = i + 1
    · subst h
      rw [if_pos rfl, if_neg (by omega)]
      exact (decide_eq_true (by omega)).symm
    · rw [if_neg h]
      by_cases h6 : j = 6
      · rw [if_pos h6, if_pos h6]
      · rw [if_neg h6, if_neg h6]
        exact decide_eq_decide.2 (by omega)
/- the code that calls function 1 with the words zs, and adds what it kept -/
def movs (zs : List Int) : List I := (List.range zs.length).map (fun (i : Nat) => (0, 0, (i : Int) + 1, 0, false, 0, zs.getD i 0))
def callC (keep : Int) (zs : List Int) : List I := (0, 0, 6, 0, false, 0, keep) :: (movs zs ++ [(6, 0, 0, 0, false, 0, 1), (0, 1, 0, 6, true, 0, 0), (7, 0, 0, 0, false, 0, 0)])
theorem movs_len (zs : List Int) : (movs zs).length = zs.length := by simp [movs]
theorem callC_mov (keep : Int) (zs : List Int) {i : Nat} (hi : i < zs.length) : (callC keep zs)[i + 1]? = some (0, 0, (i : Int) + 1, 0, false, 0, zs.getD i 0) := by
  unfold callC
  rw [List.getElem?_cons_succ, List.getElem?_append_left (by rw [movs_len]; exact hi)]
  simp [movs, hi]
theorem callC_tail (keep : Int) (zs : List Int) (r : Nat) : (callC keep zs)[zs.length + 1 + r]? = ([(6, 0, 0, 0, false, 0, 1), (0, 1, 0, 6, true, 0, 0), (7, 0, 0, 0, false, 0, 0)] : List I)[r]? := by
  unfold callC
  rw [show zs.length + 1 + r = (zs.length + r) + 1 by omega, List.getElem?_cons_succ, List.getElem?_append_right (by rw [movs_len]; omega), movs_len]
  congr 1
  omega
theorem callC_len (keep : Int) (zs : List Int) : (callC keep zs).length = zs.length + 4 := by
  simp [callC, movs_len]
/- the caller, behind all its words -/
theorem parts_begin (fs : List Fun) (keep : Int) (zs : List Int) (hk : 0 ≤ keep) (hz : wordL zs) (h4 : zs.length ≤ 4) (hc : (fs.getD 0 zeroF).2 = callC keep zs) (fl : Int) (g : Nat) (e : Ev) (hfl : 10 ≤ fl) :
    ∀ i, i ≤ zs.length → loopQ fs fl (g + 1 + i) (newF 0 []) e 0 = loopQ fs fl g (pF keep zs i) e ((i : Int) + 1)
  | 0, _ => by
    have hs := step_mov (ex := execQ fs fl g) (fs := fs) (fl := fl) (us := 0) (x := newF 0 []) (e := e) (k := 0) (p := 0) (c := callC keep zs) (d := 6) (m := keep) rfl rfl hc rfl (by omega) hk
    rw [show g + 1 + 0 = g + 1 by omega, loopQ_go rfl hs rfl]
    show loopQ fs fl g (putF (atF (newF 0 []) ((0 : Nat) + 1)) 6 keep) e (0 + 1) = _
    rw [pF_zero keep zs]
    rfl
  | i + 1, hi => by
    have ih := parts_begin fs keep zs hk hz h4 hc fl (g + 1) e hfl i (by omega)
    rw [show g + 1 + (i + 1) = g + 1 + 1 + i by omega, ih]
    have hs := step_mov (ex := execQ fs fl g) (fs := fs) (fl := fl) (us := (i : Int) + 1) (x := pF keep zs i) (e := e) (k := 0) (p := i + 1) (c := callC keep zs) (d := (i : Int) + 1) (m := zs.getD i 0) rfl rfl hc (callC_mov keep zs (by omega)) (by omega) (wordL_getD hz i).1
    rw [loopQ_go rfl hs rfl]
    show loopQ fs fl g (putF (atF (pF keep zs i) (((i + 1 : Nat) : Int) + 1)) ((i : Int) + 1).toNat (zs.getD i 0)) e ((i : Int) + 1 + 1) = _
    rw [show ((i : Int) + 1).toNat = i + 1 by omega, pF_put keep zs (by omega)]
    rfl
theorem pF_regs (keep : Int) (zs : List Int) (h4 : zs.length ≤ 4) : regsL (pF keep zs zs.length) zs.length = zs ∧ allSet (pF keep zs zs.length) zs.length = true := by
  refine ⟨?_, ?_⟩
  · refine List.ext_getElem (by rw [regsL_len]) (fun k h1 h2 => ?_)
    simp only [regsL, List.getElem_map, List.getElem_range]
    show (if k + 1 = 6 then keep else if 1 ≤ k + 1 ∧ k + 1 ≤ zs.length then zs.getD (k + 1 - 1) 0 else 0) = zs[k]
    rw [if_neg (by omega), if_pos (by omega), Nat.add_sub_cancel, List.getD_eq_getElem?_getD, List.getElem?_eq_getElem h2]
    rfl
  · unfold allSet
    rw [List.all_eq_true]
    intro k hk
    rw [List.mem_range] at hk
    show (if k + 1 = 6 then true else decide (1 ≤ k + 1 ∧ k + 1 ≤ zs.length)) = true
    rw [if_neg (by omega)]
    exact decide_eq_true (by omega)
/- what a function tells, called, and run alone -/
theorem parts_law (fs : List Fun) (keep : Int) (zs : List Int) (code : List I) (e : Ev) (hk : isW keep) (hz : wordL zs) (h4 : zs.length ≤ 4) (hfs : fs = [(0, callC keep zs), ((zs.length : Int), code)]) (hw : isW (callI fs 1 e 200 zs).1) :
    ((callI fs 1 e 200 zs).2.2.2 ≠ 0 → (callI fs 0 e 300 []).2.2.2 = (callI fs 1 e 200 zs).2.2.2 ∨ (callI fs 1 e 200 zs).2.2.2 = 2) ∧
    ((callI fs 1 e 200 zs).2.2.2 = 0 → callI fs 0 e 300 [] = (((callI fs 1 e 200 zs).1 + keep) % 4294967296, (callI fs 1 e 200 zs).2.1, (callI fs 1 e 200 zs).2.2.1 + (zs.length : Int) + 4, 0)) := by
  by_cases hm : mayP fs = false
  · rw [callI_arg (.inl hm), callI_arg (.inl hm)]
    exact ⟨fun _ => .inl rfl, fun h => absurd h (by show (1 : Int) ≠ 0; decide)⟩
  have n1 : ¬ (mayP fs = false ∨ (200 : Int) < 0 ∨ (100000 : Int) < 200) := by
    rintro (h | h | h)
    · exact hm h
    · omega
    · omega
  have n2 : ¬ (mayP fs = false ∨ (300 : Int) < 0 ∨ (100000 : Int) < 300) := by
    rintro (h | h | h)
    · exact hm h
    · omega
    · omega
  have f0 : fs.getD 0 zeroF = (0, callC keep zs) := by rw [hfs]; rfl
  have f1 : fs.getD 1 zeroF = ((zs.length : Int), code) := by rw [hfs]; rfl
  have fl : fs.length = 2 := by rw [hfs]; rfl
  have a1 : ¬ ((1 : Int) < 0 ∨ (fs.length : Int) ≤ 1 ∨ (zs.length : Int) ≠ (fs.getD (1 : Int).toNat zeroF).1) := by
    rw [show (1 : Int).toNat = 1 from rfl, f1, fl]
    simp
  have a0 : ¬ ((0 : Int) < 0 ∨ (fs.length : Int) ≤ 0 ∨ (([] : List Int).length : Int) ≠ (fs.getD (0 : Int).toNat zeroF).1) := by
    rw [show (0 : Int).toNat = 0 from rfl, f0, fl]
    simp
  rw [callI_do n1 a1 rfl rfl] at hw ⊢
  rw [callI_do n2 a0 rfl rfl]
  obtain ⟨r, hr⟩ : ∃ r, execQ fs 200 ((200 : Int).toNat + 1) e 0 1 zs = r := ⟨_, rfl⟩
  have hlen : (zs.length : Int) ≤ 4 := by omega
  have hcall : ∀ g : Nat, 300 - ((zs.length : Int) + 2) < g → MoX 200 r (laterX (-((zs.length : Int) + 2)) (execQ fs 300 g e ((zs.length : Int) + 2) 1 zs)) := fun g hg => by
    have hm := (loopQ_mo fs (show (200 : Int) ≤ 300 - ((zs.length : Int) + 2) by omega) ((200 : Int).toNat + 1) (newF 1 zs) e 0 g (by omega) (by omega) (by omega)).out
    have hl := loopQ_later ((zs.length : Int) + 2) fs (300 - ((zs.length : Int) + 2)) g (newF 1 zs) e 0
    rw [show (300 : Int) - ((zs.length : Int) + 2) + ((zs.length : Int) + 2) = 300 by omega, show (0 : Int) + ((zs.length : Int) + 2) = (zs.length : Int) + 2 by omega] at hl
    have he : laterX (-((zs.length : Int) + 2)) (execQ fs 300 g e ((zs.length : Int) + 2) 1 zs) = outQ (loopQ fs (300 - ((zs.length : Int) + 2)) g (newF 1 zs) e 0) := by
      show laterX _ (outQ (loopQ fs 300 g (newF 1 zs) e ((zs.length : Int) + 2))) = _
      rw [hl, outQ_later]
      unfold laterX
      rw [show (outQ (loopQ fs (300 - ((zs.length : Int) + 2)) g (newF 1 zs) e 0)).2.2.2 + ((zs.length : Int) + 2) + -((zs.length : Int) + 2) = (outQ (loopQ fs (300 - ((zs.length : Int) + 2)) g (newF 1 zs) e 0)).2.2.2 by omega]
    rw [he, ← hr]
    exact hm
  rw [hr] at hw ⊢
  have hru : r.2.2.2 ≤ 200 := by rw [← hr]; exact execQ_top fs 200 _ e 0 1 zs (by omega)
  obtain ⟨g', hg'⟩ : ∃ g' : Nat, (300 : Int).toNat + 1 = (g' + 4) + 1 + zs.length := ⟨296 - zs.length, by omega⟩
  have hb := parts_begin fs keep zs hk.1 hz h4 (by rw [f0]) 300 (g' + 4) e (by omega) zs.length (Nat.le_refl _)
  have h0 : execQ fs 300 ((300 : Int).toNat + 1) e 0 0 [] = outQ (loopQ fs 300 (g' + 4) (pF keep zs zs.length) e ((zs.length : Int) + 1)) := by
    rw [hg', ← hb]
    rfl
  rw [h0]
  obtain ⟨hrg, hst⟩ := pF_regs keep zs h4
  obtain ⟨s, hs⟩ : ∃ s, execQ fs 300 (g' + 3) e ((zs.length : Int) + 2) 1 zs = s := ⟨_, rfl⟩
  have hC := hcall (g' + 3) (by omega)
  rw [hs] at hC
  have hstep : stepQ (execQ fs 300 (g' + 3)) fs 300 (pF keep zs zs.length) e ((zs.length : Int) + 1) = if s.1 = 0 then (0, backF (atF (pF keep zs zs.length) ((zs.length : Int) + 2)) s.2.1, s.2.2.1, s.2.2.2) else (s.1, atF (pF keep zs zs.length) ((zs.length : Int) + 2), s.2.2.1, s.2.2.2) := by
    rw [step_at (k := 0) (p := zs.length + 1) (c := callC keep zs) (i := (6, 0, 0, 0, false, 0, 1)) rfl rfl (by rw [f0]) (callC_tail keep zs 0) (by omega)]
    show callQ (execQ fs 300 (g' + 3)) fs (atF (pF keep zs zs.length) (((zs.length + 1 : Nat) : Int) + 1)) e ((zs.length : Int) + 1 + 1) 1 = _
    rw [show (((zs.length + 1 : Nat) : Int) + 1) = (zs.length : Int) + 2 by omega, show (zs.length : Int) + 1 + 1 = (zs.length : Int) + 2 by omega]
    unfold callQ
    rw [if_neg (by rw [fl]; show ¬ ((1 : Int) ≤ 0 ∨ ((2 : Nat) : Int) ≤ 1); omega), show (1 : Int).toNat = 1 from rfl, f1]
    have hst' : allSet (atF (pF keep zs zs.length) ((zs.length : Int) + 2)) zs.length = true := hst
    have hrg' : regsL (atF (pF keep zs zs.length) ((zs.length : Int) + 2)) zs.length = zs := hrg
    simp only [Int.toNat_natCast]
    rw [if_pos hst', hrg', hs]
  rcases hC with ⟨c1, c2⟩ | ⟨c1, c2, c3⟩
  · have e1 : s.1 = r.1 := congrArg (·.1) c2
    have e2 : s.2.1 = r.2.1 := congrArg (·.2.1) c2
    have e3 : s.2.2.1 = r.2.2.1 := congrArg (·.2.2.1) c2
    have e4 : s.2.2.2 + -((zs.length : Int) + 2) = r.2.2.2 := congrArg (·.2.2.2) c2
    refine ⟨fun hne => .inl ?_, fun hz0 => ?_⟩
    · have hne' : s.1 ≠ 0 := by rw [e1]; exact hne
      rw [if_neg hne'] at hstep
      rw [loopQ_end rfl hstep hne']
      show (outQ _).1 = r.1
      unfold outQ
      rw [if_neg (show ¬ (s.1, atF (pF keep zs zs.length) ((zs.length : Int) + 2), s.2.2.1, s.2.2.2).1 = 0 from hne')]
      exact e1
    · have hz1 : s.1 = 0 := by rw [e1]; exact hz0
      rw [if_pos hz1] at hstep
      rw [loopQ_go rfl hstep rfl]
      obtain ⟨x2, hx2⟩ : ∃ x2, backF (atF (pF keep zs zs.length) ((zs.length : Int) + 2)) s.2.1 = x2 := ⟨_, rfl⟩
      have y1 : x2.1 = ((0 : Nat) : Int) := by rw [← hx2]; rfl
      have y2 : x2.2.1 = ((zs.length + 2 : Nat) : Int) := by rw [← hx2]; show (zs.length : Int) + 2 = _; omega
      have y3 : x2.reg 0 = s.2.1 := by rw [← hx2]; rfl
      have y4 : x2.reg 6 = keep := by rw [← hx2]; rfl
      have y5 : x2.isSet 0 = true := by rw [← hx2]; rfl
      have y6 : x2.isSet 6 = true := by rw [← hx2]; rfl
      have y7 : x2.fin = false := by rw [← hx2]; rfl
      show (_, _, _, _) = _
      simp only
      rw [hx2]
      clear hstep hx2
      have hdo : doI 1 s.2.1 keep = (s.2.1 + keep) % 4294967296 := by
        have w0 := hw.1
        have w1 := hk.1
        rw [← e2] at w0
        unfold doI
        show (((s.2.1.toNat + keep.toNat) % 4294967296 : Nat) : Int) = _
        omega
      have st3 : stepQ (execQ fs 300 (g' + 2)) fs 300 x2 s.2.2.1 s.2.2.2 = (0, putF (atF x2 ((zs.length : Int) + 3)) 0 ((s.2.1 + keep) % 4294967296), s.2.2.1, s.2.2.2 + 1) := by
        rw [step_at (k := 0) (p := zs.length + 2) (c := callC keep zs) (i := (0, 1, 0, 6, true, 0, 0)) y1 y2 (by rw [f0]) (callC_tail keep zs 1) (by omega)]
        show ((compP (atF x2 (((zs.length + 2 : Nat) : Int) + 1)) 1 0 (x2.reg 6) (x2.isSet 6)).1, (compP (atF x2 (((zs.length + 2 : Nat) : Int) + 1)) 1 0 (x2.reg 6) (x2.isSet 6)).2, s.2.2.1, s.2.2.2 + 1) = _
        have hcp : compP (atF x2 (((zs.length + 2 : Nat) : Int) + 1)) 1 0 (x2.reg 6) (x2.isSet 6) = (0, putF (atF x2 (((zs.length + 2 : Nat) : Int) + 1)) 0 (doI 1 (x2.reg 0) (x2.reg 6))) := by
          unfold compP
          rw [if_pos (by show (x2.isSet 6 && (x2.isSet 0 || (1 : Int) == 0)) = true; rw [y5, y6]; rfl)]
          rfl
        rw [hcp, y3, y4, hdo, show (((zs.length + 2 : Nat) : Int) + 1) = (zs.length : Int) + 3 by omega]
      rw [loopQ_go y7 st3 rfl]
      obtain ⟨x3, hx3⟩ : ∃ x3, putF (atF x2 ((zs.length : Int) + 3)) 0 ((s.2.1 + keep) % 4294967296) = x3 := ⟨_, rfl⟩
      have z1 : x3.1 = ((0 : Nat) : Int) := by rw [← hx3]; exact y1
      have z2 : x3.2.1 = ((zs.length + 3 : Nat) : Int) := by rw [← hx3]; show (zs.length : Int) + 3 = _; omega
      have z3 : x3.reg 0 = (s.2.1 + keep) % 4294967296 := by rw [← hx3]; rfl
      have z5 : x3.isSet 0 = true := by rw [← hx3]; rfl
      have z7 : x3.fin = false := by rw [← hx3]; exact y7
      simp only
      rw [hx3]
      clear hx3
      have st4 : stepQ (execQ fs 300 (g' + 1)) fs 300 x3 s.2.2.1 (s.2.2.2 + 1) = (0, endF (atF x3 ((zs.length : Int) + 4)), s.2.2.1, s.2.2.2 + 1 + 1) := by
        rw [step_at (k := 0) (p := zs.length + 3) (c := callC keep zs) (i := (7, 0, 0, 0, false, 0, 0)) z1 z2 (by rw [f0]) (callC_tail keep zs 2) (by omega)]
        show ((if x3.isSet 0 = true then (0 : Int) else 10), (if x3.isSet 0 = true then endF (atF x3 (((zs.length + 3 : Nat) : Int) + 1)) else atF x3 (((zs.length + 3 : Nat) : Int) + 1)), s.2.2.1, s.2.2.2 + 1 + 1) = _
        rw [if_pos z5, if_pos z5, show (((zs.length + 3 : Nat) : Int) + 1) = (zs.length : Int) + 4 by omega]
      rw [loopQ_go z7 st4 rfl, loopQ_fin rfl]
      show ((outQ (0, endF (atF x3 ((zs.length : Int) + 4)), s.2.2.1, s.2.2.2 + 1 + 1)).2.1, _, _, _) = _
      show (x3.reg 0, s.2.2.1, s.2.2.2 + 1 + 1, (0 : Int)) = _
      rw [z3, e2, e3, show s.2.2.2 + 1 + 1 = r.2.2.2 + (zs.length : Int) + 4 by omega]
  · exact ⟨fun _ => .inr c1, fun h => absurd (h.symm.trans c1) (by decide)⟩
end Go.Proofs.YtilddlgcfbefiaaDoor
