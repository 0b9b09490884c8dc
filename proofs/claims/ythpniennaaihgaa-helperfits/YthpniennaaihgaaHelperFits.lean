/-
  A helper fits just what it can be called with: of a map of a schema that fits, with as many words, and a field that is below its Words, it never fails; of one that does not fit it does.
  Conditions: none.
-/
import Derived.Test.YthpniennaaihgaaRows
import Derived.Test.YthpniennaaihgaaHY
import Derived.Test.YthpniennaaihgaaHX
import Derived.Test.YthpniennaaihgaaGh
import Derived.WalkKit
import Derived.ProofKit
import Derived.OpenShut
import Derived.ChangeOld
import Derived.Below
namespace Go.Proofs.Ythpniennaaihgaa.helperFits
open Go.ChangeShapes Go.WideShapes Go.ChangeAt Go.RowKit
set_option linter.unusedVariables false

def Fs (w : World) (B1 : Nat) (W : World) (P Q T : Nat) (s : Sc) (q : Cx) (t : Tb) (V : Value) : Prop :=
  Below w.heap.size w W ∧ Box W P 29 #[.int .i64 s.1, .int .i64 s.2.1, .int .i64 s.2.2.1, .int .i64 s.2.2.2] ∧ Box W Q 23 #[.int .u32 q.1, .int .u32 q.2.1, .int .u32 q.2.2.1, .int .u32 q.2.2.2] ∧ Box W T 45 (tbA t.1 V t.2.2) ∧ Row W B1 V t.2.1 ∧ (w.heap.size ≤ Q ∧ Q < B1 ∧ P ≠ Q ∧ Q ≠ T ∧ w.heap.size ≤ B1)
section
variable {w W W' : World} {B1 P Q T : Nat} {s : Sc} {q : Cx} {t : Tb} {V : Value}
theorem Fs.later (h : Fs w B1 W P Q T s q t V) (hb : Below W.heap.size W W') : Fs w B1 W' P Q T s q t V :=
  ⟨h.1.trans (hb.mono h.1.size), h.2.1.later hb, h.2.2.1.later hb, h.2.2.2.1.later hb, h.2.2.2.2.1.below hb, h.2.2.2.2.2⟩
theorem Fs.zero (h : Fs w B1 W P Q T s q t V) : Fs w B1 (W.setCell ⟨Q, 0, none⟩ (.int .u32 0)) P Q T s (0, q.2) t V := by
  obtain ⟨h1, h2, h3, h4, h5, h6, h7, h8, h9, h10⟩ := h
  exact ⟨h1.setCell h6 _, h2.other (by show P ≠ Q; exact h8) _, h3.set 0 _, h4.other (by show T ≠ Q; exact h9.symm) _, h5.far (grownBy_setCell W ⟨Q, 0, none⟩ _) h7, h6, h7, h8, h9, h10⟩
theorem Fs.cells (h : Fs w B1 W P Q T s q t V) : W.cell? ⟨T, 0, none⟩ = some (.int .i64 t.1.1) ∧ W.cell? ⟨T, 1, none⟩ = some (.int .i64 t.1.2.1) ∧ W.cell? ⟨T, 2, none⟩ = some (.int .i64 t.1.2.2.1) ∧ W.cell? ⟨T, 3, none⟩ = some (.int .i64 t.1.2.2.2) ∧ W.cell? ⟨T, 4, none⟩ = some V ∧ W.cell? ⟨T, 5, none⟩ = some (.int .u32 t.2.2) :=
  ⟨h.2.2.2.1.cell rfl, h.2.2.2.1.cell rfl, h.2.2.2.1.cell rfl, h.2.2.2.1.cell rfl, h.2.2.2.1.cell rfl, h.2.2.2.1.cell rfl⟩
theorem box_ne {g U : Nat} {t t' : TypeId} {cs cs' : Array Value} (h : Box W g t cs) (h' : Box W U t' cs') (hne : t ≠ t') : g ≠ U := fun e => by
  subst e
  have h1 : W.heap[g]? = some (.cells cs t (0, 0)) := h
  have h2 : W.heap[g]? = some (.cells cs' t' (0, 0)) := h'
  rw [h1] at h2
  simp only [Option.some.injEq, Obj.cells.injEq] at h2
  exact hne h2.2.1
theorem fs_store {U : Nat} {cs cs' : Array Value} (h : Fs w B1 W P Q T s q t V) (hB : Box W U 26 cs) (hU : w.heap.size ≤ U) :
    Below w.heap.size w (W.setRow U cs') ∧ Box (W.setRow U cs') P 29 #[.int .i64 s.1, .int .i64 s.2.1, .int .i64 s.2.2.1, .int .i64 s.2.2.2] ∧ Box (W.setRow U cs') Q 23 #[.int .u32 q.1, .int .u32 q.2.1, .int .u32 q.2.2.1, .int .u32 q.2.2.2] ∧ Box (W.setRow U cs') T 45 (tbA t.1 V t.2.2) := by
  obtain ⟨h1, h2, h3, h4, h5, h6⟩ := h
  have hg := grownBy_setRow W U cs'
  exact ⟨below_setRow h1 hU _, h2.grown hg (fun e => box_ne h2 hB (by decide) (Option.some.inj e)), h3.grown hg (fun e => box_ne h3 hB (by decide) (Option.some.inj e)), h4.grown hg (fun e => box_ne h4 hB (by decide) (Option.some.inj e))⟩
end
set_option maxRecDepth 100000 in
set_option maxHeartbeats 16000000 in
theorem walk (a0 : Int) (w0 : (Lit.int .i64 a0).wf = true) (k1 c1 n1 v1 : Int) (g2 : Cx) (w2 : isW g2.1 ∧ isW g2.2.1 ∧ isW g2.2.2.1 ∧ isW g2.2.2.2) (w : World) :
    Calls Try.prog 8 #[.int .i64 a0, scV k1 c1 n1 v1, .agg #[.int .u32 g2.1, .int .u32 g2.2.1, .int .u32 g2.2.2.1, .int .u32 g2.2.2.2]] w fun e w' => e = .returned (.bool true) ∧ Below w.heap.size w w' := by
  rcases g2 with ⟨e0, e1, e2, e3⟩
  obtain ⟨hw0, hw1, hw2, hw3⟩ := w2
  simp only at hw0 hw1 hw2 hw3
  have hba := box2 (Below.refl w.heap.size w) (Nat.le_refl _) (.cells #[.int .i64 k1, .int .i64 c1, .int .i64 n1, .int .i64 v1] 29) (.cells #[.int .u32 e0, .int .u32 e1, .int .u32 e2, .int .u32 e3] 23)
  have hB1 := (Box.new w 29 #[.int .i64 k1, .int .i64 c1, .int .i64 n1, .int .i64 v1]).alloc (.cells #[.int .u32 e0, .int .u32 e1, .int .u32 e2, .int .u32 e3] 23)
  have hB2 := Box.new (w.alloc (.cells #[.int .i64 k1, .int .i64 c1, .int .i64 n1, .int .i64 v1] 29)) 23 #[.int .u32 e0, .int .u32 e1, .int .u32 e2, .int .u32 e3]
  rw [show (w.alloc (.cells #[.int .i64 k1, .int .i64 c1, .int .i64 n1, .int .i64 v1] 29)).heap.size = w.heap.size + 1 by simp] at hB2
  obtain ⟨W0, hW0⟩ : ∃ W0, (w.alloc (.cells #[.int .i64 k1, .int .i64 c1, .int .i64 n1, .int .i64 v1] 29)).alloc (.cells #[.int .u32 e0, .int .u32 e1, .int .u32 e2, .int .u32 e3] 23) = W0 := ⟨_, rfl⟩
  rw [hW0] at hba hB1 hB2
  obtain ⟨P, hP⟩ : ∃ P, w.heap.size = P := ⟨_, rfl⟩
  obtain ⟨Q, hQ⟩ : ∃ Q, P + 1 = Q := ⟨_, rfl⟩
  have HPQ : Hid (w.heap.size = P ∧ P + 1 = Q) := Lib.hid ⟨hP, hQ⟩
  have HB := Lib.hid hba
  have HBP : Hid (Box W0 P 29 #[.int .i64 k1, .int .i64 c1, .int .i64 n1, .int .i64 v1]) := Lib.hid (by rw [← hP]; exact hB1)
  have HBQ : Hid (Box W0 Q 23 #[.int .u32 e0, .int .u32 e1, .int .u32 e2, .int .u32 e3]) := Lib.hid (by rw [← hQ, ← hP]; exact hB2)
  clear hba hB1 hB2 w0
  go_enter Try.func8, Try.ntmps8
  go_wp2_with fail
  clear hW0 hP hQ
  refine (awake_any W0).mono ?_
  rintro e m1 ⟨rfl, hb⟩
  replace HB := Lib.hid (HB.out.trans (hb.mono HB.out.size))
  replace HBP := Lib.hid (HBP.out.later hb)
  replace HBQ := Lib.hid (HBQ.out.later hb)
  clear hb
  have y0 : m1.cell? ⟨P, 0, none⟩ = some (.int .i64 k1) := HBP.out.cell rfl
  have y1 : m1.cell? ⟨P, 1, none⟩ = some (.int .i64 c1) := HBP.out.cell rfl
  have y2 : m1.cell? ⟨P, 2, none⟩ = some (.int .i64 n1) := HBP.out.cell rfl
  have y3 : m1.cell? ⟨P, 3, none⟩ = some (.int .i64 v1) := HBP.out.cell rfl
  go_wp2_with fail
  clear y0 y1 y2 y3
  have c2 := tnew_any k1 c1 n1 v1 m1
  rcases hnt : newT (k1, c1, n1, v1) with ⟨⟨t0, t1, t2, t3⟩, es, x⟩
  obtain ⟨ne, hne⟩ : ∃ ne, newE (k1, c1, n1, v1) = ne := ⟨_, rfl⟩
  rw [hnt, hne] at c2
  have HNt := Lib.hid hnt
  have HNe := Lib.hid hne
  clear hnt hne
  refine c2.mono ?_
  rintro e m2 ⟨u, rfl, hb2, hr2⟩
  clear c2
  obtain ⟨b1, p1, hu, _⟩ := hr2.at
  subst hu
  have HF1 : Hid (Fs w m1.heap.size (m2.alloc (.cells #[.int .i64 t0, .int .i64 t1, .int .i64 t2, .int .i64 t3, .slice b1 es.length p1, .int .u32 x] 45)) P Q m2.heap.size (k1, c1, n1, v1) (e0, e1, e2, e3) ((t0, t1, t2, t3), es, x) (.slice b1 es.length p1)) := Lib.hid (by
    have hs := HB.out.size
    have hs2 := hb2.size
    have hq := HBQ.out.lt
    have hpq := HPQ.out
    have hbA := belowA m2 (.cells #[.int .i64 t0, .int .i64 t1, .int .i64 t2, .int .i64 t3, .slice b1 es.length p1, .int .u32 x] 45)
    exact ⟨(HB.out.trans (hb2.mono hs)).trans (hbA.mono (Nat.le_trans hs hs2)), (HBP.out.later hb2).later hbA, (HBQ.out.later hb2).later hbA, Box.new _ _ _, hr2.below hbA, by omega, hq, by omega, by omega, hs⟩)
  clear hb2 hr2 HB HBP HBQ
  go_wp2_with fail
  generalize hW2 : m2.alloc (.cells #[.int .i64 t0, .int .i64 t1, .int .i64 t2, .int .i64 t3, .slice b1 es.length p1, .int .u32 x] 45) = W2 at *
  generalize hT : m2.heap.size = T at *
  generalize hB1 : m1.heap.size = B1 at *
  clear hW2 hT hB1
  have c3 := args_any a0 W2
  obtain ⟨many, hmany⟩ : ∃ many, argsP a0 = many := ⟨_, rfl⟩
  rw [hmany] at c3
  have HMy := Lib.hid hmany
  refine c3.mono ?_
  rintro e m3 ⟨rfl, hm3⟩
  subst m3
  clear c3 hmany
  by_cases hne : ne = 0
  · have hm4 : many ≤ 4 := by rw [← HMy.out]; exact args_le a0
    have hma : Hid (mayT (k1, c1, n1, v1) = true) := Lib.hid (new_e (HNe.out.trans hne))
    by_cases hlow : many < 1
    · have hneb : (ne == 0) = true := by simpa using hne
      have hnen : (ne != 0) = false := by simpa using hne
      have y0 : W2.cell? ⟨P, 0, none⟩ = some (.int .i64 k1) := HF1.out.2.1.cell rfl
      have y1 : W2.cell? ⟨P, 1, none⟩ = some (.int .i64 c1) := HF1.out.2.1.cell rfl
      have y2 : W2.cell? ⟨P, 2, none⟩ = some (.int .i64 n1) := HF1.out.2.1.cell rfl
      have y3 : W2.cell? ⟨P, 3, none⟩ = some (.int .i64 v1) := HF1.out.2.1.cell rfl
      have c4 := fits_any a0 k1 c1 n1 v1 W2
      rw [fits_args (by rw [HMy.out]; exact hlow)] at c4
      clear hne
      go_wp2_with fail
      refine c4.mono ?_
      rintro e m4 ⟨rfl, hb4⟩
      have HF4 := Lib.hid (HF1.out.1.trans (hb4.mono HF1.out.1.size))
      clear c4 hb4 y0 y1 y2 y3
      go_wp2_with fail
      go_ret
      exact ⟨rfl, HF4.out⟩
    · have hnen : (ne != 0) = false := by simpa using hne
      have hlowI : ¬ many < 1 := hlow
      have hhi : ¬ 4 < many := by omega
      obtain ⟨mn, hmn⟩ : ∃ mn : Nat, many = (mn : Int) := ⟨many.toNat, by omega⟩
      have hmn1 : 1 ≤ mn := by omega
      have hmn4 : mn ≤ 4 := by omega
      have HMn : Hid (argsP a0 = (mn : Int)) := Lib.hid (HMy.out.trans hmn)
      have hz0 : W2.cell? ⟨Q, 0, none⟩ = some (.int .u32 e0) := HF1.out.2.2.1.cell rfl
      have hfz := HF1.out.2.2.1.free 0
      have HF3 := Lib.hid HF1.out.zero
      have HMa := Lib.hid hma.out
      subst hmn
      obtain ⟨W3, hW3⟩ : ∃ W3, W2.setCell ⟨Q, 0, none⟩ (.int .u32 0) = W3 := ⟨_, rfl⟩
      rw [hW3] at HF3
      have HKp : Hid (∀ w', Fs w B1 w' P Q T (k1, c1, n1, v1) (0, e1, e2, e3) ((t0, t1, t2, t3), es, x) (.slice b1 es.length p1) → w'.cell? ⟨T, 0, none⟩ = some (.int .i64 t0) ∧ w'.cell? ⟨T, 1, none⟩ = some (.int .i64 t1) ∧ w'.cell? ⟨T, 2, none⟩ = some (.int .i64 t2) ∧ w'.cell? ⟨T, 3, none⟩ = some (.int .i64 t3) ∧ w'.cell? ⟨T, 4, none⟩ = some (.slice b1 es.length p1) ∧ w'.cell? ⟨T, 5, none⟩ = some (.int .u32 x)) := Lib.hid (fun w' h => h.cells)
      have HF4 := Lib.hid (HF3.out.later (Below.refl W3.heap.size W3).drew)
      have hmn0 : (0 : Int) ≤ (mn : Int) := Int.natCast_nonneg _
      have hmnI : (mn : Int) ≤ 4 := by omega
      rcases hcl : callP a0 ((0, 0, 0, 0), [((t0, t1, t2, t3), es, x)], 0) ([0, e1, e2, e3].take mn) with ⟨⟨⟨r0, r1, r2, r3⟩, rs, rd⟩, rv, rf⟩
      have HCall := Lib.hid hcl
      have HRf : Hid ((if (fitsP a0 (k1, c1, n1, v1) && fieldP a0 (k1, c1, n1, v1) e2) = true then (0 : Int) else 10) = rf) := Lib.hid (by
        have h := fits_law (a1 := e1) (a3 := e3) (a2 := e2) HMa.out (by rw [HMn.out]; omega) (by rw [HMn.out]; omega)
        rw [HNt.out, HMn.out, Int.toNat_natCast, hcl] at h
        exact h.symm)
      have HFew : Hid (fewL [((t0, t1, t2, t3), es, x)]) := Lib.hid (few_one (may_few (t := ((t0, t1, t2, t3), es, x)) (by rw [← HNt.out]; exact new_mayTb HMa.out)))
      have HXw : Hid (isW x) := Lib.hid (by
        have h : (newT (k1, c1, n1, v1)).2.2 = 0 := by rw [newT, if_pos HMa.out]
        rw [HNt.out] at h
        simp only at h
        rw [h]
        exact isW_zero)
      have HWd : Hid (∀ W', Fs w B1 W' P Q T (k1, c1, n1, v1) (0, e1, e2, e3) ((t0, t1, t2, t3), es, x) (.slice b1 es.length p1) → WordsAt W' (some ⟨Q, 0, none⟩) mn 4 ([0, e1, e2, e3].take mn)) := Lib.hid (fun W' h => by
        refine ⟨by rw [List.length_take]; simp; omega, hmn4, by unfold maxLen; omega, ?_, .inr ⟨_, rfl, fun i hi => ?_⟩⟩
        · intro z hz
          have hz' := List.mem_of_mem_take hz
          simp only [List.mem_cons, List.not_mem_nil, or_false] at hz'
          rcases hz' with rfl | rfl | rfl | rfl
          · exact isW_zero
          · exact hw1
          · exact hw2
          · exact hw3
        · rw [addr_add, List.getD_eq_getElem?_getD, List.getElem?_take, if_pos hi]
          have hi4 : i < 4 := by omega
          match i, hi4 with
          | 0, _ => exact h.2.2.1.cell rfl
          | 1, _ => exact h.2.2.1.cell rfl
          | 2, _ => exact h.2.2.1.cell rfl
          | 3, _ => exact h.2.2.1.cell rfl)
      clear hcl hma
      go_wp2_with fail
      clear hW3 hz0 hfz
      refine wp_region_held_drew (S := (fun w' => w'.cell? ⟨T, 0, none⟩ = some (.int .i64 t0) ∧ w'.cell? ⟨T, 1, none⟩ = some (.int .i64 t1) ∧ w'.cell? ⟨T, 2, none⟩ = some (.int .i64 t2) ∧ w'.cell? ⟨T, 3, none⟩ = some (.int .i64 t3) ∧ w'.cell? ⟨T, 4, none⟩ = some (.slice b1 es.length p1) ∧ w'.cell? ⟨T, 5, none⟩ = some (.int .u32 x))) (by kernel_rfl) (HKp.out _ HF4.out) (fun hHeld => ?_)
      refine wpAnyH_yield (i := 0) (v := ?v0) rfl rfl (by kernel_rfl) (by kernel_rfl) (by kernel_rfl) (fun _ _ _ h => h) (by rfl) ?hy0 hHeld ?rest0
      case hy0 =>
        intro w hSw
        (try dsimp only at hSw)
        go_simp
        try with_reducible rfl
      simp only [Act.put, List.setIfInBounds_toArray, List.set_cons_zero, List.set_cons_succ]
      refine wpAnyH_yield (i := 1) (v := ?v1) rfl rfl (by kernel_rfl) (by kernel_rfl) (by kernel_rfl) (fun _ _ _ h => h) (by rfl) ?hy1 hHeld ?rest1
      case hy1 =>
        intro w hSw
        (try dsimp only at hSw)
        go_simp
        try with_reducible rfl
      simp only [Act.put, List.setIfInBounds_toArray, List.set_cons_zero, List.set_cons_succ]
      refine wpAnyH_yield (i := 4) (v := ?v4) rfl rfl (by kernel_rfl) (by kernel_rfl) (by kernel_rfl) (fun _ _ _ h => h) (by rfl) ?hy4 hHeld ?rest4
      case hy4 =>
        intro w hSw
        (try dsimp only at hSw)
        go_simp
        try with_reducible rfl
      simp only [Act.put, List.setIfInBounds_toArray, List.set_cons_zero, List.set_cons_succ]
      refine wpAnyH_yield (i := 5) (v := ?v5) rfl rfl (by kernel_rfl) (by kernel_rfl) (by kernel_rfl) (fun _ _ _ h => h) (by rfl) ?hy5 hHeld ?rest5
      case hy5 =>
        intro w hSw
        (try dsimp only at hSw)
        go_simp
        try with_reducible rfl
      simp only [Act.put, List.setIfInBounds_toArray, List.set_cons_zero, List.set_cons_succ]
      refine wpAnyH_ready (rs := [2, 11]) (by kernel_rfl) (by simp) ?_
      refine AllReadyH.cons rfl (fun K hK => ?_) ?_
      · have HFaa := Lib.hid (HF4.out.later (belowA W3.drew (.cells #[.int .i64 t0, .int .i64 t1, .int .i64 t2, .int .i64 t3, .slice b1 es.length p1, .int .u32 x] 45)))
        have HTaa : Hid (Box (W3.drew.alloc (.cells #[.int .i64 t0, .int .i64 t1, .int .i64 t2, .int .i64 t3, .slice b1 es.length p1, .int .u32 x] 45)) (W3.heap.size) 45 #[.int .i64 t0, .int .i64 t1, .int .i64 t2, .int .i64 t3, .slice b1 es.length p1, .int .u32 x]) := Lib.hid (by have h := Box.new (W3.drew) 45 #[.int .i64 t0, .int .i64 t1, .int .i64 t2, .int .i64 t3, .slice b1 es.length p1, .int .u32 x]; rwa [show (W3.drew).heap.size = W3.heap.size by simp] at h)
        have HNaa : Hid (w.heap.size ≤ W3.heap.size) := Lib.hid (by have h1 := HF4.out.1.size; have h2 : (W3.drew).heap.size = W3.heap.size := (by simp); omega)
        go_simp
        refine hK.out _ _ (HKp.out _ HFaa.out) (fun hHeld => ?_)
        clear hK K
        try simp only [Act.put, List.setIfInBounds_toArray, List.set_cons_zero, List.set_cons_succ]
        refine wpAnyH_yield (i := 3) (v := ?vaa3) rfl rfl (by kernel_rfl) (by kernel_rfl) (by kernel_rfl) (fun _ _ _ h => h) (by rfl) ?hyaa3 hHeld ?restaa3
        case hyaa3 =>
          intro w hSw
          (try dsimp only at hSw)
          go_simp
          try with_reducible rfl
        simp only [Act.put, List.setIfInBounds_toArray, List.set_cons_zero, List.set_cons_succ]
        refine wpAnyH_ready (rs := [6, 11]) (by kernel_rfl) (by simp) ?_
        refine AllReadyH.cons rfl (fun K hK => ?_) ?_
        · go_simp
          have hrca : TabsR ((W3.drew.alloc (.cells #[.int .i64 t0, .int .i64 t1, .int .i64 t2, .int .i64 t3, .slice b1 es.length p1, .int .u32 x] 45))) w.heap.size (.slice (some ⟨W3.heap.size, 0, none⟩) 1 1) [((t0, t1, t2, t3), es, x)] := tabs_one (s := (t0, t1, t2, t3)) HNaa.out HTaa.out (HFaa.out.2.2.2.2.1.low HFaa.out.2.2.2.2.2.2.2.2.2) HXw.out
          obtain ⟨bq, ccq, hqq, hTq⟩ := hrca.at
          simp only [List.length_singleton, Value.slice.injEq] at hqq hTq
          obtain ⟨rfl, _, rfl⟩ := hqq
          have cca := call_any a0 (0, 0, 0, 0) (some ⟨W3.heap.size, 0, none⟩) 1 1 0 [((t0, t1, t2, t3), es, x)] (some ⟨Q, 0, none⟩) mn 4 ([0, e1, e2, e3].take mn) ((W3.drew.alloc (.cells #[.int .i64 t0, .int .i64 t1, .int .i64 t2, .int .i64 t3, .slice b1 es.length p1, .int .u32 x] 45))) hTq HFew.out isW_zero (HWd.out _ HFaa.out)
          rw [HCall.out] at cca
          refine cca.mono ?_
          rintro e mca ⟨Vca, rfl, hbca, hvca⟩
          clear cca hTq hrca
          have HFca := Lib.hid (HFaa.out.later hbca)
          obtain ⟨dca, ppca, hu, _⟩ := hvca.at
          subst hu
          clear hbca hvca
          go_wp2_with fail
          refine hK.out _ _ (HKp.out _ HFca.out) (fun hHeld => ?_)
          clear hK K
          try simp only [Act.put, List.setIfInBounds_toArray, List.set_cons_zero, List.set_cons_succ]
          refine wpAnyH_yield (i := 7) (v := ?vca7) rfl rfl (by kernel_rfl) (by kernel_rfl) (by kernel_rfl) (fun _ _ _ h => h) (by rfl) ?hyca7 hHeld ?restca7
          case hyca7 =>
            intro w hSw
            (try dsimp only at hSw)
            go_simp
            try with_reducible rfl
          simp only [Act.put, List.setIfInBounds_toArray, List.set_cons_zero, List.set_cons_succ]
          refine wpAnyH_yield (i := 8) (v := ?vca8) rfl rfl (by kernel_rfl) (by kernel_rfl) (by kernel_rfl) (fun _ _ _ h => h) (by rfl) ?hyca8 hHeld ?restca8
          case hyca8 =>
            intro w hSw
            (try dsimp only at hSw)
            go_simp
            try with_reducible rfl
          simp only [Act.put, List.setIfInBounds_toArray, List.set_cons_zero, List.set_cons_succ]
          refine wpAnyH_yield (i := 9) (v := ?vca9) rfl rfl (by kernel_rfl) (by kernel_rfl) (by kernel_rfl) (fun _ _ _ h => h) (by rfl) ?hyca9 hHeld ?restca9
          case hyca9 =>
            intro w hSw
            (try dsimp only at hSw)
            go_simp
            try with_reducible rfl
          simp only [Act.put, List.setIfInBounds_toArray, List.set_cons_zero, List.set_cons_succ]
          refine wpAnyH_yield (i := 10) (v := ?vca10) rfl rfl (by kernel_rfl) (by kernel_rfl) (by kernel_rfl) (fun _ _ _ h => h) (by rfl) ?hyca10 hHeld ?restca10
          case hyca10 =>
            intro w hSw
            (try dsimp only at hSw)
            go_simp
            try with_reducible rfl
          simp only [Act.put, List.setIfInBounds_toArray, List.set_cons_zero, List.set_cons_succ]
          have HFba := Lib.hid (HFca.out.later (belowA mca (.cells #[.int .u32 0, .int .u32 0, .int .u32 0, .int .u32 0, .slice none 0 0, .int .u32 0] 26)))
          have HXba : Hid (Box (mca.alloc (.cells #[.int .u32 0, .int .u32 0, .int .u32 0, .int .u32 0, .slice none 0 0, .int .u32 0] 26)) (mca.heap.size) 26 #[.int .u32 0, .int .u32 0, .int .u32 0, .int .u32 0, .slice none 0 0, .int .u32 0]) := Lib.hid (by have h := Box.new (mca) 26 #[.int .u32 0, .int .u32 0, .int .u32 0, .int .u32 0, .slice none 0 0, .int .u32 0]; rwa [show (mca).heap.size = mca.heap.size by simp] at h)
          have HYba : Hid (w.heap.size ≤ mca.heap.size) := Lib.hid (by have h1 := HFca.out.1.size; have h2 : (mca).heap.size = mca.heap.size := (by simp); omega)
          refine wpAnyH_ready (rs := [11]) (by kernel_rfl) (by simp) ?_
          refine AllReadyH.cons rfl (fun K hK => ?_) AllReadyH.nil
          go_simp
          refine hK.out _ _ (HKp.out _ HFba.out) (fun hHeld => ?_)
          clear hK K
          try simp only [Act.put, List.setIfInBounds_toArray, List.set_cons_zero, List.set_cons_succ]
          refine wpAnyH_ready (rs := [12]) (by kernel_rfl) (by simp) ?_
          refine AllReadyH.cons rfl (fun K hK => ?_) AllReadyH.nil
          refine step_row _ (by rfl) 26 _ _ (by rfl) (by rfl) (mca.heap.size) #[.int .u32 r0, .int .u32 r1, .int .u32 r2, .int .u32 r3, .slice dca rs.length ppca, .int .u32 rd] (by rfl) (by rfl) 26 _ HXba.out (by kernel_rfl) rfl (by simp [Value.oneCell']) ?_
          have HFx := Lib.hid (fs_store (cs' := #[.int .u32 r0, .int .u32 r1, .int .u32 r2, .int .u32 r3, .slice dca rs.length ppca, .int .u32 rd]) HFba.out HXba.out HYba.out)
          refine hK.out _ _ (⟨HFx.out.2.2.2.cell rfl, HFx.out.2.2.2.cell rfl, HFx.out.2.2.2.cell rfl, HFx.out.2.2.2.cell rfl, HFx.out.2.2.2.cell rfl, HFx.out.2.2.2.cell rfl⟩) (fun hHeld => ?_)
          clear hK K
          try simp only [Act.put, List.setIfInBounds_toArray, List.set_cons_zero, List.set_cons_succ]
          refine wpAnyH_yield (i := 13) (v := ?vsa13) rfl rfl (by kernel_rfl) (by kernel_rfl) (by kernel_rfl) (fun _ _ _ h => h) (by rfl) ?hysa13 hHeld ?restsa13
          case hysa13 =>
            intro w hSw
            (try dsimp only at hSw)
            go_simp
            try with_reducible rfl
          simp only [Act.put, List.setIfInBounds_toArray, List.set_cons_zero, List.set_cons_succ]
          refine wpAnyH_yield (i := 14) (v := ?vsa14) rfl rfl (by kernel_rfl) (by kernel_rfl) (by kernel_rfl) (fun _ _ _ h => h) (by rfl) ?hysa14 hHeld ?restsa14
          case hysa14 =>
            intro w hSw
            (try dsimp only at hSw)
            go_simp
            try with_reducible rfl
          simp only [Act.put, List.setIfInBounds_toArray, List.set_cons_zero, List.set_cons_succ]
          refine wpAnyH_done (by kernel_rfl) ?_ _
          generalize hXX : World.setRow ((mca.alloc (.cells #[.int .u32 0, .int .u32 0, .int .u32 0, .int .u32 0, .slice none 0 0, .int .u32 0] 26))) (mca.heap.size) #[.int .u32 r0, .int .u32 r1, .int .u32 r2, .int .u32 r3, .slice dca rs.length ppca, .int .u32 rd] = X at *
          clear hXX hHeld
          have z0 : X.cell? ⟨Q, 2, none⟩ = some (.int .u32 e2) := HFx.out.2.2.1.cell rfl
          have y0 : X.cell? ⟨P, 0, none⟩ = some (.int .i64 k1) := HFx.out.2.1.cell rfl
          have y1 : X.cell? ⟨P, 1, none⟩ = some (.int .i64 c1) := HFx.out.2.1.cell rfl
          have y2 : X.cell? ⟨P, 2, none⟩ = some (.int .i64 n1) := HFx.out.2.1.cell rfl
          have y3 : X.cell? ⟨P, 3, none⟩ = some (.int .i64 v1) := HFx.out.2.1.cell rfl
          have hwI : IntKind.i64.wrap e2 = e2 := wI e2 hw2.1 (by have := hw2.2; omega)
          have c9 := fits_any a0 k1 c1 n1 v1 X
          rcases hft : fitsP a0 (k1, c1, n1, v1) with _ | _
          · rw [hft] at c9
            by_cases hn : a0 = 0 ∨ a0 = 1
            · by_cases hf : e2 < n1
              · have hrb : (rf == 0) = false := by (have h : rf = 10 := (by rw [← HRf.out, hft]; rfl)); rw [h]; rfl
                rcases hn with h0 | h0
                · have hb0 : (a0 != 0) = false := by simpa using h0
                  clear h0
                  go_wp2_with fail
                  refine c9.mono ?_
                  rintro e m9 ⟨rfl, hb9⟩
                  have HF9 := Lib.hid (HFx.out.1.trans (hb9.mono HFx.out.1.size))
                  clear c9 hb9
                  go_wp2_with fail
                  go_ret
                  exact ⟨rfl, HF9.out⟩
                · have hb0 : (a0 != 0) = true := by rw [h0]; rfl
                  have hb1 : (a0 != 1) = false := by simpa using h0
                  clear h0
                  go_wp2_with fail
                  refine c9.mono ?_
                  rintro e m9 ⟨rfl, hb9⟩
                  have HF9 := Lib.hid (HFx.out.1.trans (hb9.mono HFx.out.1.size))
                  clear c9 hb9
                  go_wp2_with fail
                  go_ret
                  exact ⟨rfl, HF9.out⟩
              · have hrb : (rf == 0) = false := by (have h : rf = 10 := (by rw [← HRf.out, hft]; rfl)); rw [h]; rfl
                rcases hn with h0 | h0
                · have hb0 : (a0 != 0) = false := by simpa using h0
                  clear h0
                  go_wp2_with fail
                  refine c9.mono ?_
                  rintro e m9 ⟨rfl, hb9⟩
                  have HF9 := Lib.hid (HFx.out.1.trans (hb9.mono HFx.out.1.size))
                  clear c9 hb9
                  go_wp2_with fail
                  go_ret
                  exact ⟨rfl, HF9.out⟩
                · have hb0 : (a0 != 0) = true := by rw [h0]; rfl
                  have hb1 : (a0 != 1) = false := by simpa using h0
                  clear h0
                  go_wp2_with fail
                  refine c9.mono ?_
                  rintro e m9 ⟨rfl, hb9⟩
                  have HF9 := Lib.hid (HFx.out.1.trans (hb9.mono HFx.out.1.size))
                  clear c9 hb9
                  go_wp2_with fail
                  go_ret
                  exact ⟨rfl, HF9.out⟩
            · have hrb : (rf == 0) = false := by (have h : rf = 10 := (by rw [← HRf.out, hft]; rfl)); rw [h]; rfl
              have hb0 : (a0 != 0) = true := by simpa using fun h => hn (.inl h)
              have hb1 : (a0 != 1) = true := by simpa using fun h => hn (.inr h)
              go_wp2_with fail
              refine c9.mono ?_
              rintro e m9 ⟨rfl, hb9⟩
              have HF9 := Lib.hid (HFx.out.1.trans (hb9.mono HFx.out.1.size))
              clear c9 hb9
              go_wp2_with fail
              go_ret
              exact ⟨rfl, HF9.out⟩
          · rw [hft] at c9
            by_cases hn : a0 = 0 ∨ a0 = 1
            · by_cases hf : e2 < n1
              · have hrb : (rf == 0) = true := by (have h : rf = 0 := (by rw [← HRf.out, hft, show fieldP a0 (k1, c1, n1, v1) e2 = true from by simp [fieldP, hf]]; rfl)); rw [h]; rfl
                rcases hn with h0 | h0
                · have hb0 : (a0 != 0) = false := by simpa using h0
                  clear h0
                  go_wp2_with fail
                  refine c9.mono ?_
                  rintro e m9 ⟨rfl, hb9⟩
                  have HF9 := Lib.hid (HFx.out.1.trans (hb9.mono HFx.out.1.size))
                  clear c9 hb9
                  go_wp2_with fail
                  go_ret
                  exact ⟨rfl, HF9.out⟩
                · have hb0 : (a0 != 0) = true := by rw [h0]; rfl
                  have hb1 : (a0 != 1) = false := by simpa using h0
                  clear h0
                  go_wp2_with fail
                  refine c9.mono ?_
                  rintro e m9 ⟨rfl, hb9⟩
                  have HF9 := Lib.hid (HFx.out.1.trans (hb9.mono HFx.out.1.size))
                  clear c9 hb9
                  go_wp2_with fail
                  go_ret
                  exact ⟨rfl, HF9.out⟩
              · have hrb : (rf == 0) = false := by (have h : rf = 10 := (by rw [← HRf.out, hft, show fieldP a0 (k1, c1, n1, v1) e2 = false from by simp [fieldP, hf, hn]]; rfl)); rw [h]; rfl
                rcases hn with h0 | h0
                · have hb0 : (a0 != 0) = false := by simpa using h0
                  clear h0
                  go_wp2_with fail
                  refine c9.mono ?_
                  rintro e m9 ⟨rfl, hb9⟩
                  have HF9 := Lib.hid (HFx.out.1.trans (hb9.mono HFx.out.1.size))
                  clear c9 hb9
                  go_wp2_with fail
                  go_ret
                  exact ⟨rfl, HF9.out⟩
                · have hb0 : (a0 != 0) = true := by rw [h0]; rfl
                  have hb1 : (a0 != 1) = false := by simpa using h0
                  clear h0
                  go_wp2_with fail
                  refine c9.mono ?_
                  rintro e m9 ⟨rfl, hb9⟩
                  have HF9 := Lib.hid (HFx.out.1.trans (hb9.mono HFx.out.1.size))
                  clear c9 hb9
                  go_wp2_with fail
                  go_ret
                  exact ⟨rfl, HF9.out⟩
            · have hrb : (rf == 0) = true := by (have h : rf = 0 := (by rw [← HRf.out, hft, show fieldP a0 (k1, c1, n1, v1) e2 = true from by simp [fieldP, hn]]; rfl)); rw [h]; rfl
              have hb0 : (a0 != 0) = true := by simpa using fun h => hn (.inl h)
              have hb1 : (a0 != 1) = true := by simpa using fun h => hn (.inr h)
              go_wp2_with fail
              refine c9.mono ?_
              rintro e m9 ⟨rfl, hb9⟩
              have HF9 := Lib.hid (HFx.out.1.trans (hb9.mono HFx.out.1.size))
              clear c9 hb9
              go_wp2_with fail
              go_ret
              exact ⟨rfl, HF9.out⟩
        have HFbb := Lib.hid (HFaa.out.later (belowA (W3.drew.alloc (.cells #[.int .i64 t0, .int .i64 t1, .int .i64 t2, .int .i64 t3, .slice b1 es.length p1, .int .u32 x] 45)) (.cells #[.int .u32 0, .int .u32 0, .int .u32 0, .int .u32 0, .slice none 0 0, .int .u32 0] 26)))
        have HXbb : Hid (Box ((W3.drew.alloc (.cells #[.int .i64 t0, .int .i64 t1, .int .i64 t2, .int .i64 t3, .slice b1 es.length p1, .int .u32 x] 45)).alloc (.cells #[.int .u32 0, .int .u32 0, .int .u32 0, .int .u32 0, .slice none 0 0, .int .u32 0] 26)) (W3.heap.size + 1) 26 #[.int .u32 0, .int .u32 0, .int .u32 0, .int .u32 0, .slice none 0 0, .int .u32 0]) := Lib.hid (by have h := Box.new ((W3.drew.alloc (.cells #[.int .i64 t0, .int .i64 t1, .int .i64 t2, .int .i64 t3, .slice b1 es.length p1, .int .u32 x] 45))) 26 #[.int .u32 0, .int .u32 0, .int .u32 0, .int .u32 0, .slice none 0 0, .int .u32 0]; rwa [show ((W3.drew.alloc (.cells #[.int .i64 t0, .int .i64 t1, .int .i64 t2, .int .i64 t3, .slice b1 es.length p1, .int .u32 x] 45))).heap.size = W3.heap.size + 1 by simp] at h)
        have HYbb : Hid (w.heap.size ≤ W3.heap.size + 1) := Lib.hid (by have h1 := HFaa.out.1.size; have h2 : ((W3.drew.alloc (.cells #[.int .i64 t0, .int .i64 t1, .int .i64 t2, .int .i64 t3, .slice b1 es.length p1, .int .u32 x] 45))).heap.size = W3.heap.size + 1 := (by simp); omega)
        have HTbb := Lib.hid (HTaa.out.later (belowA (W3.drew.alloc (.cells #[.int .i64 t0, .int .i64 t1, .int .i64 t2, .int .i64 t3, .slice b1 es.length p1, .int .u32 x] 45)) (.cells #[.int .u32 0, .int .u32 0, .int .u32 0, .int .u32 0, .slice none 0 0, .int .u32 0] 26)))
        refine AllReadyH.cons rfl (fun K hK => ?_) AllReadyH.nil
        go_simp
        refine hK.out _ _ (HKp.out _ HFbb.out) (fun hHeld => ?_)
        clear hK K
        try simp only [Act.put, List.setIfInBounds_toArray, List.set_cons_zero, List.set_cons_succ]
        refine wpAnyH_ready (rs := [6]) (by kernel_rfl) (by simp) ?_
        refine AllReadyH.cons rfl (fun K hK => ?_) AllReadyH.nil
        go_simp
        have hrcb : TabsR (((W3.drew.alloc (.cells #[.int .i64 t0, .int .i64 t1, .int .i64 t2, .int .i64 t3, .slice b1 es.length p1, .int .u32 x] 45)).alloc (.cells #[.int .u32 0, .int .u32 0, .int .u32 0, .int .u32 0, .slice none 0 0, .int .u32 0] 26))) w.heap.size (.slice (some ⟨W3.heap.size, 0, none⟩) 1 1) [((t0, t1, t2, t3), es, x)] := tabs_one (s := (t0, t1, t2, t3)) HNaa.out HTbb.out (HFbb.out.2.2.2.2.1.low HFbb.out.2.2.2.2.2.2.2.2.2) HXw.out
        obtain ⟨bq, ccq, hqq, hTq⟩ := hrcb.at
        simp only [List.length_singleton, Value.slice.injEq] at hqq hTq
        obtain ⟨rfl, _, rfl⟩ := hqq
        have ccb := call_any a0 (0, 0, 0, 0) (some ⟨W3.heap.size, 0, none⟩) 1 1 0 [((t0, t1, t2, t3), es, x)] (some ⟨Q, 0, none⟩) mn 4 ([0, e1, e2, e3].take mn) (((W3.drew.alloc (.cells #[.int .i64 t0, .int .i64 t1, .int .i64 t2, .int .i64 t3, .slice b1 es.length p1, .int .u32 x] 45)).alloc (.cells #[.int .u32 0, .int .u32 0, .int .u32 0, .int .u32 0, .slice none 0 0, .int .u32 0] 26))) hTq HFew.out isW_zero (HWd.out _ HFbb.out)
        rw [HCall.out] at ccb
        refine ccb.mono ?_
        rintro e mcb ⟨Vcb, rfl, hbcb, hvcb⟩
        clear ccb hTq hrcb
        have HFcb := Lib.hid (HFbb.out.later hbcb)
        have HXcb := Lib.hid (HXbb.out.later hbcb)
        have HZcb : Hid (W3.heap.size + 1 < (((W3.drew.alloc (.cells #[.int .i64 t0, .int .i64 t1, .int .i64 t2, .int .i64 t3, .slice b1 es.length p1, .int .u32 x] 45)).alloc (.cells #[.int .u32 0, .int .u32 0, .int .u32 0, .int .u32 0, .slice none 0 0, .int .u32 0] 26))).heap.size) := Lib.hid HXbb.out.lt
        obtain ⟨dcb, ppcb, hu, _⟩ := hvcb.at
        subst hu
        clear hbcb hvcb
        go_wp2_with fail
        refine hK.out _ _ (HKp.out _ HFcb.out) (fun hHeld => ?_)
        clear hK K
        try simp only [Act.put, List.setIfInBounds_toArray, List.set_cons_zero, List.set_cons_succ]
        refine wpAnyH_yield (i := 7) (v := ?vcb7) rfl rfl (by kernel_rfl) (by kernel_rfl) (by kernel_rfl) (fun _ _ _ h => h) (by rfl) ?hycb7 hHeld ?restcb7
        case hycb7 =>
          intro w hSw
          (try dsimp only at hSw)
          go_simp
          try with_reducible rfl
        simp only [Act.put, List.setIfInBounds_toArray, List.set_cons_zero, List.set_cons_succ]
        refine wpAnyH_yield (i := 8) (v := ?vcb8) rfl rfl (by kernel_rfl) (by kernel_rfl) (by kernel_rfl) (fun _ _ _ h => h) (by rfl) ?hycb8 hHeld ?restcb8
        case hycb8 =>
          intro w hSw
          (try dsimp only at hSw)
          go_simp
          try with_reducible rfl
        simp only [Act.put, List.setIfInBounds_toArray, List.set_cons_zero, List.set_cons_succ]
        refine wpAnyH_yield (i := 9) (v := ?vcb9) rfl rfl (by kernel_rfl) (by kernel_rfl) (by kernel_rfl) (fun _ _ _ h => h) (by rfl) ?hycb9 hHeld ?restcb9
        case hycb9 =>
          intro w hSw
          (try dsimp only at hSw)
          go_simp
          try with_reducible rfl
        simp only [Act.put, List.setIfInBounds_toArray, List.set_cons_zero, List.set_cons_succ]
        refine wpAnyH_yield (i := 10) (v := ?vcb10) rfl rfl (by kernel_rfl) (by kernel_rfl) (by kernel_rfl) (fun _ _ _ h => h) (by rfl) ?hycb10 hHeld ?restcb10
        case hycb10 =>
          intro w hSw
          (try dsimp only at hSw)
          go_simp
          try with_reducible rfl
        simp only [Act.put, List.setIfInBounds_toArray, List.set_cons_zero, List.set_cons_succ]
        refine wpAnyH_ready (rs := [12]) (by kernel_rfl) (by simp) ?_
        refine AllReadyH.cons rfl (fun K hK => ?_) AllReadyH.nil
        refine step_row _ (by rfl) 26 _ _ (by rfl) (by rfl) (W3.heap.size + 1) #[.int .u32 r0, .int .u32 r1, .int .u32 r2, .int .u32 r3, .slice dcb rs.length ppcb, .int .u32 rd] (by rfl) (by rfl) 26 _ HXcb.out (by kernel_rfl) rfl (by simp [Value.oneCell']) ?_
        have HFx := Lib.hid (fs_store (cs' := #[.int .u32 r0, .int .u32 r1, .int .u32 r2, .int .u32 r3, .slice dcb rs.length ppcb, .int .u32 rd]) HFcb.out HXcb.out HYbb.out)
        refine hK.out _ _ (⟨HFx.out.2.2.2.cell rfl, HFx.out.2.2.2.cell rfl, HFx.out.2.2.2.cell rfl, HFx.out.2.2.2.cell rfl, HFx.out.2.2.2.cell rfl, HFx.out.2.2.2.cell rfl⟩) (fun hHeld => ?_)
        clear hK K
        try simp only [Act.put, List.setIfInBounds_toArray, List.set_cons_zero, List.set_cons_succ]
        refine wpAnyH_yield (i := 13) (v := ?vsb13) rfl rfl (by kernel_rfl) (by kernel_rfl) (by kernel_rfl) (fun _ _ _ h => h) (by rfl) ?hysb13 hHeld ?restsb13
        case hysb13 =>
          intro w hSw
          (try dsimp only at hSw)
          go_simp
          try with_reducible rfl
        simp only [Act.put, List.setIfInBounds_toArray, List.set_cons_zero, List.set_cons_succ]
        refine wpAnyH_yield (i := 14) (v := ?vsb14) rfl rfl (by kernel_rfl) (by kernel_rfl) (by kernel_rfl) (fun _ _ _ h => h) (by rfl) ?hysb14 hHeld ?restsb14
        case hysb14 =>
          intro w hSw
          (try dsimp only at hSw)
          go_simp
          try with_reducible rfl
        simp only [Act.put, List.setIfInBounds_toArray, List.set_cons_zero, List.set_cons_succ]
        refine wpAnyH_done (by kernel_rfl) ?_ _
        generalize hXX : World.setRow (mcb) (W3.heap.size + 1) #[.int .u32 r0, .int .u32 r1, .int .u32 r2, .int .u32 r3, .slice dcb rs.length ppcb, .int .u32 rd] = X at *
        clear hXX hHeld
        have z0 : X.cell? ⟨Q, 2, none⟩ = some (.int .u32 e2) := HFx.out.2.2.1.cell rfl
        have y0 : X.cell? ⟨P, 0, none⟩ = some (.int .i64 k1) := HFx.out.2.1.cell rfl
        have y1 : X.cell? ⟨P, 1, none⟩ = some (.int .i64 c1) := HFx.out.2.1.cell rfl
        have y2 : X.cell? ⟨P, 2, none⟩ = some (.int .i64 n1) := HFx.out.2.1.cell rfl
        have y3 : X.cell? ⟨P, 3, none⟩ = some (.int .i64 v1) := HFx.out.2.1.cell rfl
        have hwI : IntKind.i64.wrap e2 = e2 := wI e2 hw2.1 (by have := hw2.2; omega)
        have c9 := fits_any a0 k1 c1 n1 v1 X
        rcases hft : fitsP a0 (k1, c1, n1, v1) with _ | _
        · rw [hft] at c9
          by_cases hn : a0 = 0 ∨ a0 = 1
          · by_cases hf : e2 < n1
            · have hrb : (rf == 0) = false := by (have h : rf = 10 := (by rw [← HRf.out, hft]; rfl)); rw [h]; rfl
              rcases hn with h0 | h0
              · have hb0 : (a0 != 0) = false := by simpa using h0
                clear h0
                go_wp2_with fail
                refine c9.mono ?_
                rintro e m9 ⟨rfl, hb9⟩
                have HF9 := Lib.hid (HFx.out.1.trans (hb9.mono HFx.out.1.size))
                clear c9 hb9
                go_wp2_with fail
                go_ret
                exact ⟨rfl, HF9.out⟩
              · have hb0 : (a0 != 0) = true := by rw [h0]; rfl
                have hb1 : (a0 != 1) = false := by simpa using h0
                clear h0
                go_wp2_with fail
                refine c9.mono ?_
                rintro e m9 ⟨rfl, hb9⟩
                have HF9 := Lib.hid (HFx.out.1.trans (hb9.mono HFx.out.1.size))
                clear c9 hb9
                go_wp2_with fail
                go_ret
                exact ⟨rfl, HF9.out⟩
            · have hrb : (rf == 0) = false := by (have h : rf = 10 := (by rw [← HRf.out, hft]; rfl)); rw [h]; rfl
              rcases hn with h0 | h0
              · have hb0 : (a0 != 0) = false := by simpa using h0
                clear h0
                go_wp2_with fail
                refine c9.mono ?_
                rintro e m9 ⟨rfl, hb9⟩
                have HF9 := Lib.hid (HFx.out.1.trans (hb9.mono HFx.out.1.size))
                clear c9 hb9
                go_wp2_with fail
                go_ret
                exact ⟨rfl, HF9.out⟩
              · have hb0 : (a0 != 0) = true := by rw [h0]; rfl
                have hb1 : (a0 != 1) = false := by simpa using h0
                clear h0
                go_wp2_with fail
                refine c9.mono ?_
                rintro e m9 ⟨rfl, hb9⟩
                have HF9 := Lib.hid (HFx.out.1.trans (hb9.mono HFx.out.1.size))
                clear c9 hb9
                go_wp2_with fail
                go_ret
                exact ⟨rfl, HF9.out⟩
          · have hrb : (rf == 0) = false := by (have h : rf = 10 := (by rw [← HRf.out, hft]; rfl)); rw [h]; rfl
            have hb0 : (a0 != 0) = true := by simpa using fun h => hn (.inl h)
            have hb1 : (a0 != 1) = true := by simpa using fun h => hn (.inr h)
            go_wp2_with fail
            refine c9.mono ?_
            rintro e m9 ⟨rfl, hb9⟩
            have HF9 := Lib.hid (HFx.out.1.trans (hb9.mono HFx.out.1.size))
            clear c9 hb9
            go_wp2_with fail
            go_ret
            exact ⟨rfl, HF9.out⟩
        · rw [hft] at c9
          by_cases hn : a0 = 0 ∨ a0 = 1
          · by_cases hf : e2 < n1
            · have hrb : (rf == 0) = true := by (have h : rf = 0 := (by rw [← HRf.out, hft, show fieldP a0 (k1, c1, n1, v1) e2 = true from by simp [fieldP, hf]]; rfl)); rw [h]; rfl
              rcases hn with h0 | h0
              · have hb0 : (a0 != 0) = false := by simpa using h0
                clear h0
                go_wp2_with fail
                refine c9.mono ?_
                rintro e m9 ⟨rfl, hb9⟩
                have HF9 := Lib.hid (HFx.out.1.trans (hb9.mono HFx.out.1.size))
                clear c9 hb9
                go_wp2_with fail
                go_ret
                exact ⟨rfl, HF9.out⟩
              · have hb0 : (a0 != 0) = true := by rw [h0]; rfl
                have hb1 : (a0 != 1) = false := by simpa using h0
                clear h0
                go_wp2_with fail
                refine c9.mono ?_
                rintro e m9 ⟨rfl, hb9⟩
                have HF9 := Lib.hid (HFx.out.1.trans (hb9.mono HFx.out.1.size))
                clear c9 hb9
                go_wp2_with fail
                go_ret
                exact ⟨rfl, HF9.out⟩
            · have hrb : (rf == 0) = false := by (have h : rf = 10 := (by rw [← HRf.out, hft, show fieldP a0 (k1, c1, n1, v1) e2 = false from by simp [fieldP, hf, hn]]; rfl)); rw [h]; rfl
              rcases hn with h0 | h0
              · have hb0 : (a0 != 0) = false := by simpa using h0
                clear h0
                go_wp2_with fail
                refine c9.mono ?_
                rintro e m9 ⟨rfl, hb9⟩
                have HF9 := Lib.hid (HFx.out.1.trans (hb9.mono HFx.out.1.size))
                clear c9 hb9
                go_wp2_with fail
                go_ret
                exact ⟨rfl, HF9.out⟩
              · have hb0 : (a0 != 0) = true := by rw [h0]; rfl
                have hb1 : (a0 != 1) = false := by simpa using h0
                clear h0
                go_wp2_with fail
                refine c9.mono ?_
                rintro e m9 ⟨rfl, hb9⟩
                have HF9 := Lib.hid (HFx.out.1.trans (hb9.mono HFx.out.1.size))
                clear c9 hb9
                go_wp2_with fail
                go_ret
                exact ⟨rfl, HF9.out⟩
          · have hrb : (rf == 0) = true := by (have h : rf = 0 := (by rw [← HRf.out, hft, show fieldP a0 (k1, c1, n1, v1) e2 = true from by simp [fieldP, hn]]; rfl)); rw [h]; rfl
            have hb0 : (a0 != 0) = true := by simpa using fun h => hn (.inl h)
            have hb1 : (a0 != 1) = true := by simpa using fun h => hn (.inr h)
            go_wp2_with fail
            refine c9.mono ?_
            rintro e m9 ⟨rfl, hb9⟩
            have HF9 := Lib.hid (HFx.out.1.trans (hb9.mono HFx.out.1.size))
            clear c9 hb9
            go_wp2_with fail
            go_ret
            exact ⟨rfl, HF9.out⟩
      have HFbc := Lib.hid (HF4.out.later (belowA W3.drew (.cells #[.int .u32 0, .int .u32 0, .int .u32 0, .int .u32 0, .slice none 0 0, .int .u32 0] 26)))
      have HXbc : Hid (Box (W3.drew.alloc (.cells #[.int .u32 0, .int .u32 0, .int .u32 0, .int .u32 0, .slice none 0 0, .int .u32 0] 26)) (W3.heap.size) 26 #[.int .u32 0, .int .u32 0, .int .u32 0, .int .u32 0, .slice none 0 0, .int .u32 0]) := Lib.hid (by have h := Box.new (W3.drew) 26 #[.int .u32 0, .int .u32 0, .int .u32 0, .int .u32 0, .slice none 0 0, .int .u32 0]; rwa [show (W3.drew).heap.size = W3.heap.size by simp] at h)
      have HYbc : Hid (w.heap.size ≤ W3.heap.size) := Lib.hid (by have h1 := HF4.out.1.size; have h2 : (W3.drew).heap.size = W3.heap.size := (by simp); omega)
      refine AllReadyH.cons rfl (fun K hK => ?_) AllReadyH.nil
      go_simp
      refine hK.out _ _ (HKp.out _ HFbc.out) (fun hHeld => ?_)
      clear hK K
      try simp only [Act.put, List.setIfInBounds_toArray, List.set_cons_zero, List.set_cons_succ]
      have HFac := Lib.hid (HFbc.out.later (belowA (W3.drew.alloc (.cells #[.int .u32 0, .int .u32 0, .int .u32 0, .int .u32 0, .slice none 0 0, .int .u32 0] 26)) (.cells #[.int .i64 t0, .int .i64 t1, .int .i64 t2, .int .i64 t3, .slice b1 es.length p1, .int .u32 x] 45)))
      have HTac : Hid (Box ((W3.drew.alloc (.cells #[.int .u32 0, .int .u32 0, .int .u32 0, .int .u32 0, .slice none 0 0, .int .u32 0] 26)).alloc (.cells #[.int .i64 t0, .int .i64 t1, .int .i64 t2, .int .i64 t3, .slice b1 es.length p1, .int .u32 x] 45)) (W3.heap.size + 1) 45 #[.int .i64 t0, .int .i64 t1, .int .i64 t2, .int .i64 t3, .slice b1 es.length p1, .int .u32 x]) := Lib.hid (by have h := Box.new ((W3.drew.alloc (.cells #[.int .u32 0, .int .u32 0, .int .u32 0, .int .u32 0, .slice none 0 0, .int .u32 0] 26))) 45 #[.int .i64 t0, .int .i64 t1, .int .i64 t2, .int .i64 t3, .slice b1 es.length p1, .int .u32 x]; rwa [show ((W3.drew.alloc (.cells #[.int .u32 0, .int .u32 0, .int .u32 0, .int .u32 0, .slice none 0 0, .int .u32 0] 26))).heap.size = W3.heap.size + 1 by simp] at h)
      have HNac : Hid (w.heap.size ≤ W3.heap.size + 1) := Lib.hid (by have h1 := HFbc.out.1.size; have h2 : ((W3.drew.alloc (.cells #[.int .u32 0, .int .u32 0, .int .u32 0, .int .u32 0, .slice none 0 0, .int .u32 0] 26))).heap.size = W3.heap.size + 1 := (by simp); omega)
      have HXac := Lib.hid (HXbc.out.later (belowA (W3.drew.alloc (.cells #[.int .u32 0, .int .u32 0, .int .u32 0, .int .u32 0, .slice none 0 0, .int .u32 0] 26)) (.cells #[.int .i64 t0, .int .i64 t1, .int .i64 t2, .int .i64 t3, .slice b1 es.length p1, .int .u32 x] 45)))
      refine wpAnyH_ready (rs := [2]) (by kernel_rfl) (by simp) ?_
      refine AllReadyH.cons rfl (fun K hK => ?_) AllReadyH.nil
      go_simp
      refine hK.out _ _ (HKp.out _ HFac.out) (fun hHeld => ?_)
      clear hK K
      try simp only [Act.put, List.setIfInBounds_toArray, List.set_cons_zero, List.set_cons_succ]
      refine wpAnyH_yield (i := 3) (v := ?vac3) rfl rfl (by kernel_rfl) (by kernel_rfl) (by kernel_rfl) (fun _ _ _ h => h) (by rfl) ?hyac3 hHeld ?restac3
      case hyac3 =>
        intro w hSw
        (try dsimp only at hSw)
        go_simp
        try with_reducible rfl
      simp only [Act.put, List.setIfInBounds_toArray, List.set_cons_zero, List.set_cons_succ]
      refine wpAnyH_ready (rs := [6]) (by kernel_rfl) (by simp) ?_
      refine AllReadyH.cons rfl (fun K hK => ?_) AllReadyH.nil
      go_simp
      have hrcc : TabsR (((W3.drew.alloc (.cells #[.int .u32 0, .int .u32 0, .int .u32 0, .int .u32 0, .slice none 0 0, .int .u32 0] 26)).alloc (.cells #[.int .i64 t0, .int .i64 t1, .int .i64 t2, .int .i64 t3, .slice b1 es.length p1, .int .u32 x] 45))) w.heap.size (.slice (some ⟨W3.heap.size + 1, 0, none⟩) 1 1) [((t0, t1, t2, t3), es, x)] := tabs_one (s := (t0, t1, t2, t3)) HNac.out HTac.out (HFac.out.2.2.2.2.1.low HFac.out.2.2.2.2.2.2.2.2.2) HXw.out
      obtain ⟨bq, ccq, hqq, hTq⟩ := hrcc.at
      simp only [List.length_singleton, Value.slice.injEq] at hqq hTq
      obtain ⟨rfl, _, rfl⟩ := hqq
      have ccc := call_any a0 (0, 0, 0, 0) (some ⟨W3.heap.size + 1, 0, none⟩) 1 1 0 [((t0, t1, t2, t3), es, x)] (some ⟨Q, 0, none⟩) mn 4 ([0, e1, e2, e3].take mn) (((W3.drew.alloc (.cells #[.int .u32 0, .int .u32 0, .int .u32 0, .int .u32 0, .slice none 0 0, .int .u32 0] 26)).alloc (.cells #[.int .i64 t0, .int .i64 t1, .int .i64 t2, .int .i64 t3, .slice b1 es.length p1, .int .u32 x] 45))) hTq HFew.out isW_zero (HWd.out _ HFac.out)
      rw [HCall.out] at ccc
      refine ccc.mono ?_
      rintro e mcc ⟨Vcc, rfl, hbcc, hvcc⟩
      clear ccc hTq hrcc
      have HFcc := Lib.hid (HFac.out.later hbcc)
      have HXcc := Lib.hid (HXac.out.later hbcc)
      have HZcc : Hid (W3.heap.size < (((W3.drew.alloc (.cells #[.int .u32 0, .int .u32 0, .int .u32 0, .int .u32 0, .slice none 0 0, .int .u32 0] 26)).alloc (.cells #[.int .i64 t0, .int .i64 t1, .int .i64 t2, .int .i64 t3, .slice b1 es.length p1, .int .u32 x] 45))).heap.size) := Lib.hid HXac.out.lt
      obtain ⟨dcc, ppcc, hu, _⟩ := hvcc.at
      subst hu
      clear hbcc hvcc
      go_wp2_with fail
      refine hK.out _ _ (HKp.out _ HFcc.out) (fun hHeld => ?_)
      clear hK K
      try simp only [Act.put, List.setIfInBounds_toArray, List.set_cons_zero, List.set_cons_succ]
      refine wpAnyH_yield (i := 7) (v := ?vcc7) rfl rfl (by kernel_rfl) (by kernel_rfl) (by kernel_rfl) (fun _ _ _ h => h) (by rfl) ?hycc7 hHeld ?restcc7
      case hycc7 =>
        intro w hSw
        (try dsimp only at hSw)
        go_simp
        try with_reducible rfl
      simp only [Act.put, List.setIfInBounds_toArray, List.set_cons_zero, List.set_cons_succ]
      refine wpAnyH_yield (i := 8) (v := ?vcc8) rfl rfl (by kernel_rfl) (by kernel_rfl) (by kernel_rfl) (fun _ _ _ h => h) (by rfl) ?hycc8 hHeld ?restcc8
      case hycc8 =>
        intro w hSw
        (try dsimp only at hSw)
        go_simp
        try with_reducible rfl
      simp only [Act.put, List.setIfInBounds_toArray, List.set_cons_zero, List.set_cons_succ]
      refine wpAnyH_yield (i := 9) (v := ?vcc9) rfl rfl (by kernel_rfl) (by kernel_rfl) (by kernel_rfl) (fun _ _ _ h => h) (by rfl) ?hycc9 hHeld ?restcc9
      case hycc9 =>
        intro w hSw
        (try dsimp only at hSw)
        go_simp
        try with_reducible rfl
      simp only [Act.put, List.setIfInBounds_toArray, List.set_cons_zero, List.set_cons_succ]
      refine wpAnyH_yield (i := 10) (v := ?vcc10) rfl rfl (by kernel_rfl) (by kernel_rfl) (by kernel_rfl) (fun _ _ _ h => h) (by rfl) ?hycc10 hHeld ?restcc10
      case hycc10 =>
        intro w hSw
        (try dsimp only at hSw)
        go_simp
        try with_reducible rfl
      simp only [Act.put, List.setIfInBounds_toArray, List.set_cons_zero, List.set_cons_succ]
      refine wpAnyH_ready (rs := [12]) (by kernel_rfl) (by simp) ?_
      refine AllReadyH.cons rfl (fun K hK => ?_) AllReadyH.nil
      refine step_row _ (by rfl) 26 _ _ (by rfl) (by rfl) (W3.heap.size) #[.int .u32 r0, .int .u32 r1, .int .u32 r2, .int .u32 r3, .slice dcc rs.length ppcc, .int .u32 rd] (by rfl) (by rfl) 26 _ HXcc.out (by kernel_rfl) rfl (by simp [Value.oneCell']) ?_
      have HFx := Lib.hid (fs_store (cs' := #[.int .u32 r0, .int .u32 r1, .int .u32 r2, .int .u32 r3, .slice dcc rs.length ppcc, .int .u32 rd]) HFcc.out HXcc.out HYbc.out)
      refine hK.out _ _ (⟨HFx.out.2.2.2.cell rfl, HFx.out.2.2.2.cell rfl, HFx.out.2.2.2.cell rfl, HFx.out.2.2.2.cell rfl, HFx.out.2.2.2.cell rfl, HFx.out.2.2.2.cell rfl⟩) (fun hHeld => ?_)
      clear hK K
      try simp only [Act.put, List.setIfInBounds_toArray, List.set_cons_zero, List.set_cons_succ]
      refine wpAnyH_yield (i := 13) (v := ?vsc13) rfl rfl (by kernel_rfl) (by kernel_rfl) (by kernel_rfl) (fun _ _ _ h => h) (by rfl) ?hysc13 hHeld ?restsc13
      case hysc13 =>
        intro w hSw
        (try dsimp only at hSw)
        go_simp
        try with_reducible rfl
      simp only [Act.put, List.setIfInBounds_toArray, List.set_cons_zero, List.set_cons_succ]
      refine wpAnyH_yield (i := 14) (v := ?vsc14) rfl rfl (by kernel_rfl) (by kernel_rfl) (by kernel_rfl) (fun _ _ _ h => h) (by rfl) ?hysc14 hHeld ?restsc14
      case hysc14 =>
        intro w hSw
        (try dsimp only at hSw)
        go_simp
        try with_reducible rfl
      simp only [Act.put, List.setIfInBounds_toArray, List.set_cons_zero, List.set_cons_succ]
      refine wpAnyH_done (by kernel_rfl) ?_ _
      generalize hXX : World.setRow (mcc) (W3.heap.size) #[.int .u32 r0, .int .u32 r1, .int .u32 r2, .int .u32 r3, .slice dcc rs.length ppcc, .int .u32 rd] = X at *
      clear hXX hHeld
      have z0 : X.cell? ⟨Q, 2, none⟩ = some (.int .u32 e2) := HFx.out.2.2.1.cell rfl
      have y0 : X.cell? ⟨P, 0, none⟩ = some (.int .i64 k1) := HFx.out.2.1.cell rfl
      have y1 : X.cell? ⟨P, 1, none⟩ = some (.int .i64 c1) := HFx.out.2.1.cell rfl
      have y2 : X.cell? ⟨P, 2, none⟩ = some (.int .i64 n1) := HFx.out.2.1.cell rfl
      have y3 : X.cell? ⟨P, 3, none⟩ = some (.int .i64 v1) := HFx.out.2.1.cell rfl
      have hwI : IntKind.i64.wrap e2 = e2 := wI e2 hw2.1 (by have := hw2.2; omega)
      have c9 := fits_any a0 k1 c1 n1 v1 X
      rcases hft : fitsP a0 (k1, c1, n1, v1) with _ | _
      · rw [hft] at c9
        by_cases hn : a0 = 0 ∨ a0 = 1
        · by_cases hf : e2 < n1
          · have hrb : (rf == 0) = false := by (have h : rf = 10 := (by rw [← HRf.out, hft]; rfl)); rw [h]; rfl
            rcases hn with h0 | h0
            · have hb0 : (a0 != 0) = false := by simpa using h0
              clear h0
              go_wp2_with fail
              refine c9.mono ?_
              rintro e m9 ⟨rfl, hb9⟩
              have HF9 := Lib.hid (HFx.out.1.trans (hb9.mono HFx.out.1.size))
              clear c9 hb9
              go_wp2_with fail
              go_ret
              exact ⟨rfl, HF9.out⟩
            · have hb0 : (a0 != 0) = true := by rw [h0]; rfl
              have hb1 : (a0 != 1) = false := by simpa using h0
              clear h0
              go_wp2_with fail
              refine c9.mono ?_
              rintro e m9 ⟨rfl, hb9⟩
              have HF9 := Lib.hid (HFx.out.1.trans (hb9.mono HFx.out.1.size))
              clear c9 hb9
              go_wp2_with fail
              go_ret
              exact ⟨rfl, HF9.out⟩
          · have hrb : (rf == 0) = false := by (have h : rf = 10 := (by rw [← HRf.out, hft]; rfl)); rw [h]; rfl
            rcases hn with h0 | h0
            · have hb0 : (a0 != 0) = false := by simpa using h0
              clear h0
              go_wp2_with fail
              refine c9.mono ?_
              rintro e m9 ⟨rfl, hb9⟩
              have HF9 := Lib.hid (HFx.out.1.trans (hb9.mono HFx.out.1.size))
              clear c9 hb9
              go_wp2_with fail
              go_ret
              exact ⟨rfl, HF9.out⟩
            · have hb0 : (a0 != 0) = true := by rw [h0]; rfl
              have hb1 : (a0 != 1) = false := by simpa using h0
              clear h0
              go_wp2_with fail
              refine c9.mono ?_
              rintro e m9 ⟨rfl, hb9⟩
              have HF9 := Lib.hid (HFx.out.1.trans (hb9.mono HFx.out.1.size))
              clear c9 hb9
              go_wp2_with fail
              go_ret
              exact ⟨rfl, HF9.out⟩
        · have hrb : (rf == 0) = false := by (have h : rf = 10 := (by rw [← HRf.out, hft]; rfl)); rw [h]; rfl
          have hb0 : (a0 != 0) = true := by simpa using fun h => hn (.inl h)
          have hb1 : (a0 != 1) = true := by simpa using fun h => hn (.inr h)
          go_wp2_with fail
          refine c9.mono ?_
          rintro e m9 ⟨rfl, hb9⟩
          have HF9 := Lib.hid (HFx.out.1.trans (hb9.mono HFx.out.1.size))
          clear c9 hb9
          go_wp2_with fail
          go_ret
          exact ⟨rfl, HF9.out⟩
      · rw [hft] at c9
        by_cases hn : a0 = 0 ∨ a0 = 1
        · by_cases hf : e2 < n1
          · have hrb : (rf == 0) = true := by (have h : rf = 0 := (by rw [← HRf.out, hft, show fieldP a0 (k1, c1, n1, v1) e2 = true from by simp [fieldP, hf]]; rfl)); rw [h]; rfl
            rcases hn with h0 | h0
            · have hb0 : (a0 != 0) = false := by simpa using h0
              clear h0
              go_wp2_with fail
              refine c9.mono ?_
              rintro e m9 ⟨rfl, hb9⟩
              have HF9 := Lib.hid (HFx.out.1.trans (hb9.mono HFx.out.1.size))
              clear c9 hb9
              go_wp2_with fail
              go_ret
              exact ⟨rfl, HF9.out⟩
            · have hb0 : (a0 != 0) = true := by rw [h0]; rfl
              have hb1 : (a0 != 1) = false := by simpa using h0
              clear h0
              go_wp2_with fail
              refine c9.mono ?_
              rintro e m9 ⟨rfl, hb9⟩
              have HF9 := Lib.hid (HFx.out.1.trans (hb9.mono HFx.out.1.size))
              clear c9 hb9
              go_wp2_with fail
              go_ret
              exact ⟨rfl, HF9.out⟩
          · have hrb : (rf == 0) = false := by (have h : rf = 10 := (by rw [← HRf.out, hft, show fieldP a0 (k1, c1, n1, v1) e2 = false from by simp [fieldP, hf, hn]]; rfl)); rw [h]; rfl
            rcases hn with h0 | h0
            · have hb0 : (a0 != 0) = false := by simpa using h0
              clear h0
              go_wp2_with fail
              refine c9.mono ?_
              rintro e m9 ⟨rfl, hb9⟩
              have HF9 := Lib.hid (HFx.out.1.trans (hb9.mono HFx.out.1.size))
              clear c9 hb9
              go_wp2_with fail
              go_ret
              exact ⟨rfl, HF9.out⟩
            · have hb0 : (a0 != 0) = true := by rw [h0]; rfl
              have hb1 : (a0 != 1) = false := by simpa using h0
              clear h0
              go_wp2_with fail
              refine c9.mono ?_
              rintro e m9 ⟨rfl, hb9⟩
              have HF9 := Lib.hid (HFx.out.1.trans (hb9.mono HFx.out.1.size))
              clear c9 hb9
              go_wp2_with fail
              go_ret
              exact ⟨rfl, HF9.out⟩
        · have hrb : (rf == 0) = true := by (have h : rf = 0 := (by rw [← HRf.out, hft, show fieldP a0 (k1, c1, n1, v1) e2 = true from by simp [fieldP, hn]]; rfl)); rw [h]; rfl
          have hb0 : (a0 != 0) = true := by simpa using fun h => hn (.inl h)
          have hb1 : (a0 != 1) = true := by simpa using fun h => hn (.inr h)
          go_wp2_with fail
          refine c9.mono ?_
          rintro e m9 ⟨rfl, hb9⟩
          have HF9 := Lib.hid (HFx.out.1.trans (hb9.mono HFx.out.1.size))
          clear c9 hb9
          go_wp2_with fail
          go_ret
          exact ⟨rfl, HF9.out⟩
  · have hneb : (ne == 0) = false := by simpa using hne
    have hnen : (ne != 0) = true := by simpa using hne
    clear hne
    go_wp2_with fail
    go_ret
    exact ⟨rfl, HF1.out.1⟩


theorem own : ownKnob Try.prog.godebug = none := by kernel_rfl
theorem laidOut : laidOutB Try.prog = true := by kernel_rfl
set_option maxRecDepth 100000 in
theorem lifted (os : Os) (started : os.Started) (H : Type) (enc : TypeId × Value → H) :
    ReturnsInHanded {} Try.checked os 8 .any (Rows.helperFitsSpec.pre6 enc Try.prog Try.f8 Rows.helperFitsRow.domain false) (Rows.helperFitsSpec.post enc Try.prog Try.f8 false true false false) := by
  refine returnsInHanded_of_change (C := Try.checked) own started (by kernel_rfl) Try.func8
    (ChangeSpec.witness6 (enc := enc) (C := Try.checked) false ⟨#[], #[.int .i64 0, .agg #[.int .i64 0, .int .i64 0, .int .i64 0, .int .i64 0], .agg #[.int .u32 0, .int .u32 0, .int .u32 0, .int .u32 0]], []⟩ 8 (by kernel_rfl) (by kernel_rfl) (by kernel_rfl) (by kernel_rfl)) ?_
  intro W base args ds gs before hval0 hW hcnd _
  have hval : ∀ (j : Nat) t v, Try.f8.params[j]? = some t → args[j]? = some v → Value.okWide Try.prog W .any base t v := hval0
  have hW' := hW
  obtain ⟨p, q, hA0, hV, rfl, hfz, hnd⟩ := hW
  have hA : DataW.TrodAll enc Try.prog W 0 (fun _ => true) true Try.f8.params.toList args.toList ds p := hA0
  rw [Try.params8] at hA hval
  obtain ⟨u0, vs0, e0, ds0, p0, q0, hargs, rfl, rfl, h0, t0⟩ := trodAll_cons hA
  obtain ⟨u1, vs1, e1, ds1, p1, q1, rfl, rfl, rfl, h1, t1⟩ := trodAll_cons t0
  obtain ⟨u2, vs2, e2, ds2, p2, q2, rfl, rfl, rfl, h2, t2⟩ := trodAll_cons t1
  obtain ⟨rfl, rfl, rfl⟩ := trodAll_nil t2
  obtain rfl : args = #[u0, u1, u2] := by cases args; simp_all
  obtain ⟨rfl, rfl⟩ := trodVars_none hV
  have y0 := h0
  have lt0 : ∀ x ∈ p0, x.block < W.heap.size := by obtain ⟨m, hm⟩ := y0; exact DataW.trod_lt m _ _ _ hm
  have y1 := h1
  have lt1 : ∀ x ∈ p1, x.block < W.heap.size := by obtain ⟨m, hm⟩ := y1; exact DataW.trod_lt m _ _ _ hm
  have y2 := h2
  have lt2 : ∀ x ∈ p2, x.block < W.heap.size := by obtain ⟨m, hm⟩ := y2; exact DataW.trod_lt m _ _ _ hm
  obtain ⟨a0, rfl, _, _, w0⟩ := open_int Try.underlying3 (hval 0 3 u0 rfl rfl) h0
  obtain ⟨k1, c1, n1, v1, rfl⟩ := open_sc (hval 1 29 u1 rfl rfl) h1
  obtain ⟨g2, rfl, w2⟩ := open_cx (hval 2 23 u2 rfl rfl) h2
  clear hA0 hval0
  refine (walk a0 w0 k1 c1 n1 v1 g2 w2 W).mono fun e W' ⟨he, bel⟩ => ?_
  subst he
  exact ⟨_, rfl, _, _, _, [], _, [], hW', trodAll_mk1 (shut_bool Try.underlying4 _), (trodAll_cons_mk (Below.trod laidOut (by kernel_rfl) (of_decide_eq_true (by kernel_rfl)) y0 bel lt0) (trodAll_cons_mk (Below.trod laidOut (by kernel_rfl) (of_decide_eq_true (by kernel_rfl)) y1 bel lt1) (trodAll_cons_mk (Below.trod laidOut (by kernel_rfl) (of_decide_eq_true (by kernel_rfl)) y2 bel lt2) trodAll_mk0))), rfl, bel.frame _, fun h => by cases h⟩

theorem over : Rows.helperFitsRow.holds Try.pinned (OpenSpec.ofChange Rows.helperFitsSpec) :=
  OpenClaim.holds_of_wide 8 Try.f8 rfl rfl rfl rfl rfl rfl rfl ⟨rfl, rfl, rfl, rfl, rfl⟩ rfl rfl rfl rfl rfl (by kernel_rfl) Try.func8 (by kernel_rfl)
    (of_decide_eq_true (by kernel_rfl)) (by unfold Func.isWrapper; first | (rw [if_pos (by decide +kernel)]; kernel_rfl) | (rw [if_neg (by decide +kernel)]; exact ⟨rfl, rfl⟩))
    (fun os started H enc _ => lifted os started H enc)

theorem proved : Rows.HelperFitsSaid := over
#print axioms proved
end Go.Proofs.Ythpniennaaihgaa.helperFits
