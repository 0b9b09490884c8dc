/-
  Texts that the laws of this layer stand on, one behind the other.
-/
import Derived.Test.YtilddlgcfbefiaaDoorGje
import Derived.Test.YtilddlgcfbefiaaDoorGcb
/-
  The interpreter's Call and Run in plain.
-/
namespace Go.Proofs.YtilddlgcfbefiaaDoor
set_option linter.unusedSimpArgs false
set_option linter.unusedVariables false
open Go Go.RowKit
/- what a call comes to: a word, an environment, how many instructions, an error -/
abbrev Rn : Type := Int × Ev × Int × Int
def callI (fs : List Fun) (fn : Int) (e : Ev) (fl : Int) (zs : List Int) : Rn :=
  if mayP fs = false ∨ fl < 0 ∨ 100000 < fl then (0, e, 0, 1)
  else if fn < 0 ∨ (fs.length : Int) ≤ fn ∨ (zs.length : Int) ≠ (fs.getD fn.toNat zeroF).1 then (0, e, 0, 3)
  else ((execQ fs fl (fl.toNat + 1) e 0 fn zs).2.1, (execQ fs fl (fl.toNat + 1) e 0 fn zs).2.2.1, (execQ fs fl (fl.toNat + 1) e 0 fn zs).2.2.2, (execQ fs fl (fl.toNat + 1) e 0 fn zs).1)
theorem callI_arg {fs : List Fun} {fn : Int} {e : Ev} {fl : Int} {zs : List Int} (h : mayP fs = false ∨ fl < 0 ∨ 100000 < fl) : callI fs fn e fl zs = (0, e, 0, 1) := if_pos h
theorem callI_none {fs : List Fun} {fn : Int} {e : Ev} {fl : Int} {zs : List Int} (h : ¬ (mayP fs = false ∨ fl < 0 ∨ 100000 < fl)) (h2 : fn < 0 ∨ (fs.length : Int) ≤ fn ∨ (zs.length : Int) ≠ (fs.getD fn.toNat zeroF).1) : callI fs fn e fl zs = (0, e, 0, 3) := by
  unfold callI
  rw [if_neg h, if_pos h2]
theorem callI_do {fs : List Fun} {fn : Int} {e : Ev} {fl : Int} {zs : List Int} {g : Nat} {q : Int × Int × Ev × Int} (h : ¬ (mayP fs = false ∨ fl < 0 ∨ 100000 < fl)) (h2 : ¬ (fn < 0 ∨ (fs.length : Int) ≤ fn ∨ (zs.length : Int) ≠ (fs.getD fn.toNat zeroF).1)) (hg : fl.toNat + 1 = g) (hq : execQ fs fl g e 0 fn zs = q) : callI fs fn e fl zs = (q.2.1, q.2.2.1, q.2.2.2, q.1) := by
  subst hg
  subst hq
  unfold callI
  rw [if_neg h, if_neg h2]
theorem mayI_good {i : I} (h : mayI i = true) (ho : okI i) : goodI i := by
  obtain ⟨op, fn, d, s, rg, o, m⟩ := i
  simp only [mayI, pmayB, List.any_eq_true, List.mem_range] at h
  obtain ⟨k, hk, h⟩ := h
  have hr := alwK_ref hk ho.1 h
  unfold refP at hr
  obtain ⟨h1, h2, h3, h4, h5, h6, h7, h8, h9, h10, _⟩ := hr
  exact ⟨⟨h1, h2⟩, fun h0 => ⟨h7, h10 h0⟩, ⟨h3, by show d < 8; omega⟩, ⟨h5, by show s < 8; omega⟩, ⟨h8, h9⟩, ⟨ho.1, by have := ho.2; omega⟩⟩
theorem mayP_parts {fs : List Fun} (h : mayP fs = true) : 1 ≤ fs.length ∧ fs.length ≤ 8 ∧ ∀ k, k < fs.length → 0 ≤ (fs.getD k zeroF).1 ∧ (fs.getD k zeroF).1 ≤ 4 ∧ (k = 0 → (fs.getD k zeroF).1 = 0) ∧ 1 ≤ (fs.getD k zeroF).2.length ∧ (fs.getD k zeroF).2.length ≤ 64 ∧ ∀ i ∈ (fs.getD k zeroF).2, mayI i = true := by
  simp only [mayP, Bool.and_eq_true, decide_eq_true_iff] at h
  refine ⟨h.2.1, h.2.2, fun k hk => ?_⟩
  have hf := fnsB_at fs 0 k hk h.1
  rw [Nat.zero_add] at hf
  simp only [fnB, codeB, Bool.and_eq_true, Bool.or_eq_true, decide_eq_true_iff, List.all_eq_true, beq_iff_eq] at hf
  obtain ⟨⟨h1, h2, h3⟩, h4, h5, h6⟩ := hf
  exact ⟨h4, h5, fun e => h6.resolve_left (fun hn => hn e), h2, h3, h1⟩
end Go.Proofs.YtilddlgcfbefiaaDoor

/-
  Runs in plain: more fuel, and how much is enough.
-/
namespace Go.Proofs.YtilddlgcfbefiaaDoor
set_option linter.unusedSimpArgs false
set_option linter.unusedVariables false
open Go Go.RowKit
/- one more of fuel: the same, unless it was too long -/
def Mo (fl : Int) (a b : Int × Fr × Ev × Int) : Prop := (a.1 ≠ 2 ∧ b = a) ∨ (a.1 = 2 ∧ a.2.2.2 = fl ∧ fl ≤ b.2.2.2)
def MoX (fl : Int) (a b : Int × Int × Ev × Int) : Prop := (a.1 ≠ 2 ∧ b = a) ∨ (a.1 = 2 ∧ a.2.2.2 = fl ∧ fl ≤ b.2.2.2)
theorem n02 : (0 : Int) ≠ 2 := by decide
theorem n102 : (10 : Int) ≠ 2 := by decide
theorem n20 : (2 : Int) ≠ 0 := by decide
theorem Mo.out {fl : Int} {a b : Int × Fr × Ev × Int} (h : Mo fl a b) : MoX fl (outQ a) (outQ b) := by
  rcases h with ⟨h1, rfl⟩ | ⟨h1, h2, h3⟩
  · refine .inl ⟨?_, rfl⟩
    unfold outQ
    split
    · exact n02
    · exact h1
  · refine .inr ⟨?_, ?_, ?_⟩
    · unfold outQ
      rw [if_neg (by rw [h1]; decide)]
      exact h1
    · rw [outQ_used]; exact h2
    · rw [outQ_used]; exact h3
theorem same_mo {fl : Int} {a : Int × Fr × Ev × Int} (h : a.1 ≠ 2) : Mo fl a a := .inl ⟨h, rfl⟩
theorem callQ_mo {ex ex2 : Exec} {fl us : Int} {e : Ev} (h : ∀ fn zs, MoX fl (ex e us fn zs) (ex2 e us fn zs)) (fs : List Fun) (x : Fr) (m : Int) : Mo fl (callQ ex fs x e us m) (callQ ex2 fs x e us m) := by
  unfold callQ
  split
  · exact same_mo n102
  · split
    · rcases h m (regsL x (fs.getD m.toNat zeroF).1.toNat) with ⟨h1, h2⟩ | ⟨h1, h2, h3⟩
      · rw [h2]
        split
        · exact same_mo n02
        · exact same_mo h1
      · rw [if_neg (by rw [h1]; decide)]
        refine .inr ⟨h1, h2, ?_⟩
        split <;> exact h3
    · exact same_mo n102
theorem compP_no (x : Fr) (fn : Int) (d : Nat) (ov : Int) (ob : Bool) : (compP x fn d ov ob).1 = 0 ∨ (compP x fn d ov ob).1 = 10 := by
  unfold compP
  split <;> simp
theorem jumpP_no (x : Fr) (fn : Int) (d : Nat) (o ov : Int) (ob : Bool) : (jumpP x fn d o ov ob).1 = 0 ∨ (jumpP x fn d o ov ob).1 = 10 := by
  unfold jumpP
  split <;> simp
theorem loadP_no (x : Fr) (op : Int) (d : Nat) (c : Nat → Int) (ov : Int) (ob : Bool) : (loadP x op d c ov ob).1 = 0 ∨ (loadP x op d c ov ob).1 = 10 := by
  unfold loadP
  repeat' split
  all_goals simp
theorem storeP_no (x : Fr) (d : Nat) (ov : Int) (ob : Bool) : (storeP x d ov ob).1 = 0 ∨ (storeP x d ov ob).1 = 10 := by
  unfold storeP
  split <;> simp
theorem helpP_no2 (x : Fr) (e : Ev) (m : Int) : (helpP x e m).1 = 0 ∨ (helpP x e m).1 = 10 := by
  unfold helpP
  repeat' split
  all_goals simp
theorem ne_two {a : Int} (h : a = 0 ∨ a = 10) : a ≠ 2 := by omega
theorem doQ_mo {ex ex2 : Exec} {fl us : Int} {e : Ev} (h : ∀ fn zs, MoX fl (ex e us fn zs) (ex2 e us fn zs)) (fs : List Fun) (x : Fr) (i : I) : Mo fl (doQ ex fs x e us i) (doQ ex2 fs x e us i) := by
  unfold doQ
  simp only
  split
  · exact same_mo (ne_two (compP_no ..))
  split
  · exact same_mo (ne_two (jumpP_no ..))
  split
  · exact same_mo (ne_two (loadP_no ..))
  split
  · exact same_mo (ne_two (storeP_no ..))
  split
  · exact same_mo (ne_two (helpP_no2 ..))
  split
  · exact callQ_mo h fs x _
  · refine same_mo ?_
    show (if x.isSet 0 = true then (0 : Int) else 10) ≠ 2
    split <;> decide
theorem loopQ_mo (fs : List Fun) {fl fl2 : Int} (hfl : fl ≤ fl2) : ∀ (g : Nat) (x : Fr) (e : Ev) (us : Int) (g2 : Nat), us ≤ fl → fl - us < g → fl2 - us < g2 → Mo fl (loopQ fs fl g x e us) (loopQ fs fl2 g2 x e us)
  | 0, x, e, us, g2, hu, hg, hg2 => absurd hg (by omega)
  | g + 1, x, e, us, 0, hu, hg, hg2 => absurd hg2 (by omega)
  | g + 1, x, e, us, g2 + 1, hu, hg, hg2 => by
    rcases hf : x.fin with _ | _
    · have hs : Mo fl (stepQ (execQ fs fl g) fs fl x e us) (stepQ (execQ fs fl2 g2) fs fl2 x e us) ∨ (fl ≤ us) := by
        by_cases hl : fl ≤ us
        · exact .inr hl
        · left
          unfold stepQ
          rw [if_neg hl, if_neg (show ¬ fl2 ≤ us by omega)]
          split
          · exact same_mo n102
          · refine doQ_mo (fun fn zs => ?_) fs _ _
            exact (loopQ_mo fs hfl g (newF fn zs) e (us + 1) g2 (by omega) (by omega) (by omega)).out
      rcases hs with hs | hl
      · by_cases h0 : (stepQ (execQ fs fl g) fs fl x e us).1 = 0
        · rcases hs with ⟨h1, h2⟩ | ⟨h1, _⟩
          · have hu1 := stepQ_used (execQ_used fs fl g) fs fl x e us h0
            have ht := stepQ_top (fun e us fn zs hu => execQ_top fs fl g e us fn zs hu) fs x e us hu
            rw [loopQ_go hf rfl h0, loopQ_go hf h2 h0]
            exact loopQ_mo fs hfl g _ _ _ g2 ht (by omega) (by omega)
          · rw [h0] at h1; cases h1
        · rw [loopQ_end hf rfl h0]
          rcases hs with ⟨h1, h2⟩ | ⟨h1, h2, h3⟩
          · rw [loopQ_end hf h2 h0]
            exact same_mo h1
          · refine .inr ⟨h1, h2, ?_⟩
            by_cases h0' : (stepQ (execQ fs fl2 g2) fs fl2 x e us).1 = 0
            · rw [loopQ_go hf rfl h0']
              exact Int.le_trans h3 (loopQ_used fs fl2 g2 _ _ _)
            · rw [loopQ_end hf rfl h0']
              exact h3
      · have hq : stepQ (execQ fs fl g) fs fl x e us = (2, x, e, us) := if_pos hl
        rw [loopQ_end hf hq n20]
        exact .inr ⟨rfl, by show us = fl; omega, Int.le_trans hl (loopQ_used fs fl2 (g2 + 1) x e us)⟩
    · rw [loopQ_fin hf, loopQ_fin hf]
      exact same_mo n02
theorem callI_bounds (fs : List Fun) (e : Ev) {fl : Int} (h0 : 0 ≤ fl) (zs : List Int) (fn : Int) : 0 ≤ (callI fs fn e fl zs).2.2.1 ∧ (callI fs fn e fl zs).2.2.1 ≤ fl ∧ ((callI fs fn e fl zs).2.2.2 ≠ 0 → (callI fs fn e fl zs).1 = 0) := by
  unfold callI
  split
  · exact ⟨Int.le_refl _, h0, fun _ => rfl⟩
  · split
    · exact ⟨Int.le_refl _, h0, fun _ => rfl⟩
    · refine ⟨execQ_used fs fl _ e 0 fn zs, execQ_top fs fl _ e 0 fn zs h0, fun h => ?_⟩
      show (outQ _).2.1 = 0
      have h' : (outQ (loopQ fs fl (fl.toNat + 1) (newF fn zs) e 0)).1 ≠ 0 := h
      unfold outQ at h' ⊢
      split
      · rename_i hh
        rw [if_pos hh] at h'
        exact absurd rfl h'
      · rfl
theorem callI_more (fs : List Fun) (e : Ev) {fl mo : Int} (h0 : 0 ≤ fl) (h1 : 0 ≤ mo) (h2 : fl + mo ≤ 100000) (zs : List Int) (fn : Int) :
    ((callI fs fn e fl zs).2.2.2 ≠ 2 ∧ callI fs fn e (fl + mo) zs = callI fs fn e fl zs) ∨ ((callI fs fn e fl zs).2.2.2 = 2 ∧ (callI fs fn e fl zs).2.2.1 = fl ∧ fl ≤ (callI fs fn e (fl + mo) zs).2.2.1) := by
  by_cases hm : mayP fs = false
  · rw [callI_arg (.inl hm), callI_arg (.inl hm)]
    exact .inl ⟨by show (_ : Int) ≠ 2; simp, rfl⟩
  have n1 : ¬ (mayP fs = false ∨ fl < 0 ∨ 100000 < fl) := by
    rintro (h | h | h)
    · exact hm h
    · omega
    · omega
  have n2 : ¬ (mayP fs = false ∨ fl + mo < 0 ∨ 100000 < fl + mo) := by
    rintro (h | h | h)
    · exact hm h
    · omega
    · omega
  by_cases hn : fn < 0 ∨ (fs.length : Int) ≤ fn ∨ (zs.length : Int) ≠ (fs.getD fn.toNat zeroF).1
  · rw [callI_none n1 hn, callI_none n2 hn]
    exact .inl ⟨by show (_ : Int) ≠ 2; simp, rfl⟩
  rw [callI_do n1 hn rfl rfl, callI_do n2 hn rfl rfl]
  have := (loopQ_mo fs (show fl ≤ fl + mo by omega) (fl.toNat + 1) (newF fn zs) e 0 ((fl + mo).toNat + 1) h0 (by omega) (by omega)).out
  rcases this with ⟨g1, g2⟩ | ⟨g1, g2, g3⟩
  · refine .inl ⟨g1, ?_⟩
    have g2' : execQ fs (fl + mo) ((fl + mo).toNat + 1) e 0 fn zs = execQ fs fl (fl.toNat + 1) e 0 fn zs := g2
    rw [g2']
  · exact .inr ⟨g1, g2, g3⟩
/- how many instructions functions take at most, d of them calling on -/
def topN : Nat → Int
  | 0 => 0
  | d + 1 => 64 * (1 + topN d) + 1
theorem topN_pos : ∀ d, 0 ≤ topN d
  | 0 => Int.le_refl _
  | d + 1 => by have := topN_pos d; show 0 ≤ 64 * (1 + topN d) + 1; omega
theorem topN_mono {d d' : Nat} (h : d ≤ d') : topN d ≤ topN d' := by
  induction h with
  | refl => exact Int.le_refl _
  | step h ih =>
    rename_i m
    refine Int.le_trans ih ?_
    have := topN_pos m
    show topN m ≤ 64 * (1 + topN m) + 1
    omega
theorem need_step {p p' E us u2 : Int} (h0 : 0 ≤ p) (h64 : p < 64) (hp : p + 1 ≤ p') (hE : 0 ≤ E) (hu : u2 ≤ us + 1 + E) : u2 + (max 0 (64 - p') * (1 + E) + 1) ≤ us + (max 0 (64 - p) * (1 + E) + 1) := by
  have h1 : max 0 (64 - p') ≤ 63 - p := by omega
  have h2 : max 0 (64 - p') * (1 + E) ≤ (63 - p) * (1 + E) := Int.mul_le_mul_of_nonneg_right h1 (by omega)
  have h3 : max 0 (64 - p) = 64 - p := by omega
  rw [h3]
  have h4 : (64 - p) * (1 + E) = (63 - p) * (1 + E) + (1 + E) := by
    rw [show (64 : Int) - p = (63 - p) + 1 by omega, Int.add_mul, Int.one_mul]
  omega
end Go.Proofs.YtilddlgcfbefiaaDoor

/-
  Runs in plain: with fuel for all ways there are a program is never too long.
-/
namespace Go.Proofs.YtilddlgcfbefiaaDoor
set_option linter.unusedSimpArgs false
set_option linter.unusedVariables false
open Go Go.RowKit
theorem jumpP_pos (x : Fr) (fn : Int) (d : Nat) (o ov : Int) (ob : Bool) (ho : 0 ≤ o) : x.2.1 ≤ (jumpP x fn d o ov ob).2.2.1 := by
  unfold jumpP
  repeat' split
  · show x.2.1 ≤ x.2.1 + o; omega
  · exact Int.le_refl _
  · exact Int.le_refl _
theorem doQ_pos (ex : Exec) (fs : List Fun) (x : Fr) (e : Ev) (us : Int) (i : I) (hi : goodI i) : x.2.1 ≤ (doQ ex fs x e us i).2.1.2.1 := by
  unfold doQ
  simp only
  split
  · rw [(compP_frame ..).2]; exact Int.le_refl _
  split
  · exact jumpP_pos _ _ _ _ _ _ hi.2.2.2.2.1.1
  split
  · rw [(loadP_frame ..).2]; exact Int.le_refl _
  split
  · rw [(storeP_frame ..).2]; exact Int.le_refl _
  split
  · rw [(helpP_frame ..).2]; exact Int.le_refl _
  split
  · rw [(callQ_frame ..).2]; exact Int.le_refl _
  · split <;> exact Int.le_refl _
/- what a step may take, when each call takes at most T -/
theorem doQ_need {ex : Exec} {T us : Int} {e : Ev} {fs : List Fun} {x : Fr} (hT : 0 ≤ T) (h : ∀ m zs, x.1 < m → m < (fs.length : Int) → (ex e us m zs).1 ≠ 2 ∧ (ex e us m zs).2.2.2 ≤ us + T) (i : I) : (doQ ex fs x e us i).1 ≠ 2 ∧ (doQ ex fs x e us i).2.2.2 ≤ us + T := by
  have hu : us ≤ us + T := by omega
  unfold doQ
  simp only
  split
  · exact ⟨ne_two (compP_no ..), hu⟩
  split
  · exact ⟨ne_two (jumpP_no ..), hu⟩
  split
  · exact ⟨ne_two (loadP_no ..), hu⟩
  split
  · exact ⟨ne_two (storeP_no ..), hu⟩
  split
  · exact ⟨ne_two (helpP_no2 ..), hu⟩
  split
  · unfold callQ
    split
    · exact ⟨n102, hu⟩
    · rename_i hm
      split
      · obtain ⟨h1, h2⟩ := h i.2.2.2.2.2.2 (regsL x (fs.getD (i.2.2.2.2.2.2).toNat zeroF).1.toNat) (by omega) (by omega)
        split
        · exact ⟨n02, h2⟩
        · exact ⟨h1, h2⟩
      · exact ⟨n102, hu⟩
  · refine ⟨?_, hu⟩
    show (if x.isSet 0 = true then (0 : Int) else 10) ≠ 2
    split <;> decide
def needN (fs : List Fun) (x : Fr) : Int := max 0 (64 - x.2.1) * (1 + topN (fs.length - 1 - x.1.toNat)) + 1
theorem needN_pos (fs : List Fun) (x : Fr) : 1 ≤ needN fs x := by
  unfold needN
  have h1 := topN_pos (fs.length - 1 - x.1.toNat)
  have h2 : 0 ≤ max 0 (64 - x.2.1) * (1 + topN (fs.length - 1 - x.1.toNat)) := Int.mul_nonneg (by omega) (by omega)
  omega
theorem loopQ_need (fs : List Fun) (fl : Int) (hG : ∀ k, k < fs.length → (fs.getD k zeroF).2.length ≤ 64 ∧ ∀ i ∈ (fs.getD k zeroF).2, goodI i) : ∀ (g : Nat) (x : Fr) (e : Ev) (us : Int), fl - us < g → 0 ≤ x.1 → x.1 < (fs.length : Int) → 0 ≤ x.2.1 → us + needN fs x ≤ fl →
    (loopQ fs fl g x e us).1 ≠ 2 ∧ (loopQ fs fl g x e us).2.2.2 ≤ us + needN fs x
  | 0, x, e, us, hg, hx0, hx1, hp, hn => absurd hg (by have := needN_pos fs x; omega)
  | g + 1, x, e, us, hg, hx0, hx1, hp, hn => by
    have hnp := needN_pos fs x
    rcases hf : x.fin with _ | _
    · have hl : ¬ fl ≤ us := by omega
      obtain ⟨hl64, hgd⟩ := hG x.1.toNat (by omega)
      by_cases hpos : ((fs.getD x.1.toNat zeroF).2.length : Int) ≤ x.2.1
      · have hq : stepQ (execQ fs fl g) fs fl x e us = (10, x, e, us + 1) := by
          unfold stepQ
          rw [if_neg hl, if_pos hpos]
        rw [loopQ_end hf hq (by show (10 : Int) ≠ 0; decide)]
        exact ⟨n102, by show us + 1 ≤ us + needN fs x; omega⟩
      · have hq : stepQ (execQ fs fl g) fs fl x e us = doQ (execQ fs fl g) fs (atF x (x.2.1 + 1)) e (us + 1) ((fs.getD x.1.toNat zeroF).2.getD x.2.1.toNat zeroI) := by
          unfold stepQ
          rw [if_neg hl, if_neg hpos]
        have hi := hgd _ (getD_mem (fs.getD x.1.toNat zeroF).2 x.2.1.toNat zeroI (by omega))
        obtain ⟨i, hie⟩ : ∃ i, (fs.getD x.1.toNat zeroF).2.getD x.2.1.toNat zeroI = i := ⟨_, rfl⟩
        rw [hie] at hq hi
        have hT := topN_pos (fs.length - 1 - x.1.toNat)
        have h64 : x.2.1 < 64 := by omega
        have hnd : 2 + topN (fs.length - 1 - x.1.toNat) ≤ needN fs x := by
          unfold needN
          have h1 : 1 ≤ max 0 (64 - x.2.1) := by omega
          have h2 : 1 * (1 + topN (fs.length - 1 - x.1.toNat)) ≤ max 0 (64 - x.2.1) * (1 + topN (fs.length - 1 - x.1.toNat)) := Int.mul_le_mul_of_nonneg_right h1 (by omega)
          omega
        have hcall : ∀ m zs, x.1 < m → m < (fs.length : Int) → (execQ fs fl g e (us + 1) m zs).1 ≠ 2 ∧ (execQ fs fl g e (us + 1) m zs).2.2.2 ≤ us + 1 + topN (fs.length - 1 - x.1.toNat) := fun m zs hm hml => by
          have hle : topN (fs.length - m.toNat) ≤ topN (fs.length - 1 - x.1.toNat) := topN_mono (by omega)
          have hnf : needN fs (newF m zs) = topN (fs.length - m.toNat) := by
            have e1 : fs.length - m.toNat = (fs.length - 1 - m.toNat) + 1 := by omega
            rw [e1]
            rfl
          obtain ⟨h1, h2⟩ := loopQ_need fs fl hG g (newF m zs) e (us + 1) (by omega) (by show 0 ≤ m; omega) (by show m < (fs.length : Int); exact hml) (Int.le_refl _) (by rw [hnf]; omega)
          rw [hnf] at h2
          refine ⟨?_, ?_⟩
          · show (outQ _).1 ≠ 2
            unfold outQ
            split
            · exact n02
            · exact h1
          · show (outQ _).2.2.2 ≤ _
            rw [outQ_used]
            omega
        obtain ⟨d1, d2⟩ := doQ_need (ex := execQ fs fl g) (x := atF x (x.2.1 + 1)) hT hcall i
        by_cases h0 : (stepQ (execQ fs fl g) fs fl x e us).1 = 0
        · have hu1 := stepQ_used (execQ_used fs fl g) fs fl x e us h0
          have hfr := doQ_frame (execQ fs fl g) fs (atF x (x.2.1 + 1)) e (us + 1) i hi (by show 0 ≤ x.2.1 + 1; omega)
          have hps := doQ_pos (execQ fs fl g) fs (atF x (x.2.1 + 1)) e (us + 1) i hi
          rw [loopQ_go hf rfl h0]
          rw [hq] at hu1 ⊢
          generalize doQ (execQ fs fl g) fs (atF x (x.2.1 + 1)) e (us + 1) i = q at d1 d2 hu1 hfr hps ⊢
          have f1 : q.2.1.1 = x.1 := hfr.1
          have f2 : x.2.1 + 1 ≤ q.2.1.2.1 := hps
          have hst : q.2.2.2 + needN fs q.2.1 ≤ us + needN fs x := by
            unfold needN
            rw [f1]
            exact need_step hp h64 f2 hT d2
          obtain ⟨r1, r2⟩ := loopQ_need fs fl hG g q.2.1 q.2.2.1 q.2.2.2 (by omega) (by rw [f1]; exact hx0) (by rw [f1]; exact hx1) (by omega) (by omega)
          exact ⟨r1, by omega⟩
        · rw [loopQ_end hf rfl h0, hq]
          exact ⟨d1, by omega⟩
    · rw [loopQ_fin hf]
      exact ⟨n02, by show us ≤ _; omega⟩
theorem callI_ends (fs : List Fun) (b : Option Addr) (l cp : Nat) (w : World) (hP : FnsAt w b l cp fs) (h2 : fs.length ≤ 2) (e : Ev) (zs : List Int) : (callI fs 0 e 4225 zs).2.2.2 ≠ 2 := by
  by_cases hm : mayP fs = false
  · rw [callI_arg (.inl hm)]
    show (1 : Int) ≠ 2
    decide
  have hm' : mayP fs = true := by simpa using hm
  have n1 : ¬ (mayP fs = false ∨ (4225 : Int) < 0 ∨ (100000 : Int) < 4225) := by
    rintro (h | h | h)
    · exact hm h
    · omega
    · omega
  by_cases hn : (0 : Int) < 0 ∨ (fs.length : Int) ≤ 0 ∨ (zs.length : Int) ≠ (fs.getD (0 : Int).toNat zeroF).1
  · rw [callI_none n1 hn]
    show (3 : Int) ≠ 2
    decide
  rw [callI_do n1 hn rfl rfl]
  obtain ⟨g1, g2, g3⟩ := mayP_parts hm'
  obtain ⟨hP1, hP2, hP3, hP4⟩ := hP
  have hG : ∀ k, k < fs.length → (fs.getD k zeroF).2.length ≤ 64 ∧ ∀ i ∈ (fs.getD k zeroF).2, goodI i := fun k hk => by
    obtain ⟨_, _, _, _, a3, a4⟩ := g3 k hk
    refine ⟨a3, fun i hi => mayI_good (a4 i hi) ?_⟩
    rcases hP4 with h4 | ⟨y, _, hy⟩
    · omega
    · obtain ⟨_, b', l', c', _, hc⟩ := hy k (by omega)
      exact hc.2.2.2.1 i hi
  have hnf : needN fs (newF 0 zs) ≤ 4225 := by
    have e1 : needN fs (newF 0 zs) = topN fs.length := by
      obtain ⟨m, hm⟩ : ∃ m, fs.length = m + 1 := ⟨fs.length - 1, by omega⟩
      unfold needN
      rw [hm]
      rfl
    rw [e1]
    have := topN_mono h2
    have h3 : topN 2 = 4225 := by decide
    omega
  have := (loopQ_need fs 4225 hG ((4225 : Int).toNat + 1) (newF 0 zs) e 0 (by omega) (Int.le_refl _) (by show (0 : Int) < (fs.length : Int); omega) (Int.le_refl _) (by omega)).1
  show (outQ _).1 ≠ 2
  unfold outQ
  split
  · exact n02
  · exact this
end Go.Proofs.YtilddlgcfbefiaaDoor

