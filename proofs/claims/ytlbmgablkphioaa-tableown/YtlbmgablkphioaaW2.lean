/-
  Whether two rows of entries, two tables, are the same; whether a table is not too great: contracts over the translated program.
-/
import Derived.Test.YtlbmgablkphioaaW1
import Derived.Test.YtlbmgablkphioaaTF
namespace Go.Proofs.Ytlbmgablkphioaa
open Go Go.RowKit
set_option linter.unusedVariables false

set_option maxRecDepth 100000 in
set_option maxHeartbeats 3000000 in
theorem eqf_same (a b : Option Addr) (len ca cb : Nat) (es es' : List Ent) (w : World) (h : EntsAt w a len ca es) (h' : EntsAt w b len cb es') :
    Calls Try.prog 53 #[.slice a len ca, .slice b len cb, .func (.func 54) #[] #[]] w fun e w' => e = .returned (.bool (decide (es = es'))) ∧ Below w.heap.size w w' := by
  have hm := h.max
  have H1 := Lib.hid h.1
  have H1' := Lib.hid h'.1
  have HE := Lib.hid h
  have HE' := Lib.hid h'
  clear h h'
  obtain ⟨R, hR⟩ : ∃ R, decide (es = es') = R := ⟨_, rfl⟩
  rw [hR]
  have HR := Lib.hid hR
  clear hR
  go_enter Try.func53, Try.ntmps53
  go_wp2
  go_loopw [17] (fun i wr => ∃ k : Nat, k ≤ len ∧ i = .int .i64 k ∧ Hid (∀ j, j < k → es.getD j zeroE = es'.getD j zeroE) ∧ Hid (Below w.heap.size w wr)) (fun i _ => len - (intOf i).toNat)
  case atStart => exact ⟨0, by omega, rfl, Lib.hid (fun j hj => absurd hj (by omega)), Lib.hid (Below.refl _ _)⟩
  case round =>
    obtain ⟨k, hk, rfl, HF, HB⟩ := hrel
    have hsz := HB.out.size
    by_cases hkl : k < len
    · have hkI : (k : Int) < (len : Int) := by omega
      obtain ⟨y, rfl, hy⟩ := (HE.out.below HB.out).2.2.2.resolve_left (by omega)
      obtain ⟨y', rfl, hy'⟩ := (HE'.out.below HB.out).2.2.2.resolve_left (by omega)
      obtain ⟨c0, _, p, lp, cp, c1, hV⟩ := hy k hkl
      obtain ⟨e0, _, q, lq, cq, e1, hV'⟩ := hy' k hkl
      have HEQ : Hid (es.getD k zeroE = es'.getD k zeroE ↔ (es.getD k zeroE).1 = (es'.getD k zeroE).1 ∧ (es.getD k zeroE).2 = (es'.getD k zeroE).2) := Lib.hid Prod.ext_iff
      clear hy hy'
      generalize (es.getD k zeroE).1 = z at *
      generalize (es.getD k zeroE).2 = zs at *
      generalize (es'.getD k zeroE).1 = z' at *
      generalize (es'.getD k zeroE).2 = zs' at *
      have hba : Below wr.heap.size wr (wr.alloc (.cells #[.int .u32 z, .slice p lp cp] 48)) := (Below.refl _ _).alloc (Nat.le_refl _) _
      have g0 : (wr.alloc (.cells #[.int .u32 z, .slice p lp cp] 48)).cell? (y'.add (k * 2)) = some (.int .u32 z') := (hba.cell (lt_of_cell e0)).trans e0
      have g1 : (wr.alloc (.cells #[.int .u32 z, .slice p lp cp] 48)).cell? ⟨(y'.add (k * 2)).block, (y'.add (k * 2)).off + 1, none⟩ = some (.slice q lq cq) := (hba.cell (lt_of_cell e1)).trans e1
      obtain ⟨W2, hW2⟩ : ∃ W2, (wr.alloc (.cells #[.int .u32 z, .slice p lp cp] 48)).alloc (.cells #[.int .u32 z', .slice q lq cq] 48) = W2 := ⟨_, rfl⟩
      have hb2 : Below wr.heap.size wr W2 := by rw [← hW2]; exact box2 (Below.refl _ _) (Nat.le_refl _) _ _
      have hB : Box W2 wr.heap.size 48 #[.int .u32 z, .slice p lp cp] := by rw [← hW2]; exact (Box.new wr 48 _).alloc _
      have hB' : Box W2 (wr.heap.size + 1) 48 #[.int .u32 z', .slice q lq cq] := by
        rw [← hW2]
        have := Box.new (wr.alloc (.cells #[.int .u32 z, .slice p lp cp] 48)) 48 #[.int .u32 z', .slice q lq cq]
        rwa [show (wr.alloc (.cells #[.int .u32 z, .slice p lp cp] 48)).heap.size = wr.heap.size + 1 by simp] at this
      have k0 : W2.cell? ⟨wr.heap.size, 0, none⟩ = some (.int .u32 z) := hB.cell rfl
      have k1 : W2.cell? ⟨wr.heap.size, 1, none⟩ = some (.slice p lp cp) := hB.cell rfl
      have k2 : W2.cell? ⟨wr.heap.size + 1, 0, none⟩ = some (.int .u32 z') := hB'.cell rfl
      have k3 : W2.cell? ⟨wr.heap.size + 1, 1, none⟩ = some (.slice q lq cq) := hB'.cell rfl
      have HV := Lib.hid (hV.below hb2)
      have HV' := Lib.hid (hV'.below hb2)
      have HB2 := Lib.hid (HB.out.trans (hb2.mono HB.out.size))
      clear hba hV hV' hB hB' hb2
      go_wp2_with fail
      refine (sameEntry_any z p lp cp zs z' q lq cq zs' W2 HV.out HV'.out).mono ?_
      rintro e w1 ⟨rfl, hb1⟩
      have HB3 := Lib.hid (HB2.out.trans (hb1.mono HB2.out.size))
      clear hb1 c0 c1 e0 e1 g0 g1 k0 k1 k2 k3 hW2
      rcases hrk : decide (((z, zs) : Ent) = (z', zs')) with _ | _
      · have HN : Hid (R = false) := Lib.hid (by
          rw [← HR.out]
          have h9 := of_decide_eq_false hrk
          exact decide_eq_false (fun e => h9 (Prod.ext_iff.2 (HEQ.out.1 (by rw [e])))))
        clear hrk
        go_wp2
        go_ret
        exact ⟨by rw [HN.out]; rfl, HB3.out⟩
      · have HRK := Lib.hid (HEQ.out.2 (Prod.ext_iff.1 (of_decide_eq_true hrk)))
        clear hrk
        go_wp2
        refine ⟨⟨k + 1, by omega, by go_num, Lib.hid (fun j hj => ?_), HB3⟩, by simp [intOf]; omega⟩
        rcases Nat.lt_succ_iff_lt_or_eq.1 hj with hj | rfl
        · exact HF.out j hj
        · exact HRK.out
    · have hkI : ¬ (k : Int) < (len : Int) := by omega
      have HN : Hid (R = true) := Lib.hid (by
        rw [← HR.out]
        exact decide_eq_true (list_eq_getD zeroE es es' (by rw [H1.out, H1'.out]) (fun j hj => HF.out j (by rw [H1.out] at hj; omega))))
      go_wp2
      go_ret
      exact ⟨by rw [HN.out]; rfl, HB.out⟩
theorem eqf_len (a b : Option Addr) (la ca lb cb : Nat) (f : Value) (w : World) (hl : la ≠ lb) (_ha : la ≤ 9223372036854775807) (_hb : lb ≤ 9223372036854775807) :
    Calls Try.prog 53 #[.slice a la ca, .slice b lb cb, f] w fun e w' => e = .returned (.bool false) ∧ Below w.heap.size w w' := by
  have h8 : ¬ (la : Int) = (lb : Int) := by omega
  go_enter Try.func53, Try.ntmps53
  go_wp2
  go_ret
  exact ⟨rfl, Below.refl _ _⟩
theorem eqf_any (a b : Option Addr) (la ca lb cb : Nat) (es es' : List Ent) (w : World) (h : EntsAt w a la ca es) (h' : EntsAt w b lb cb es') :
    Calls Try.prog 53 #[.slice a la ca, .slice b lb cb, .func (.func 54) #[] #[]] w fun e w' => e = .returned (.bool (decide (es = es'))) ∧ Below w.heap.size w w' := by
  by_cases hl : la = lb
  · subst hl
    exact eqf_same a b la ca cb es es' w h h'
  · have e : decide (es = es') = false := decide_eq_false (fun e => hl (by rw [← h.1, ← h'.1, e]))
    rw [e]
    exact eqf_len a b la ca lb cb _ w hl h.max h'.max

set_option maxRecDepth 100000 in
set_option maxHeartbeats 3000000 in
theorem tsame_any (s : Sc) (a : Option Addr) (la ca : Nat) (x : Int) (es : List Ent) (s' : Sc) (b : Option Addr) (lb cb : Nat) (x' : Int) (es' : List Ent) (w : World) (h : EntsAt w a la ca es) (h' : EntsAt w b lb cb es') :
    Calls Try.prog 30 #[tbV s (.slice a la ca) x, tbV s' (.slice b lb cb) x'] w fun e w' => e = .returned (.bool (decide (((s, es, x) : Tb) = (s', es', x')))) ∧ Below w.heap.size w w' := by
  have hb : Below w.heap.size w ((w.alloc (tbO s (.slice a la ca) x)).alloc (tbO s' (.slice b lb cb) x')) := box2 (Below.refl _ _) (Nat.le_refl _) _ _
  have HT := Lib.hid (tbAt_old (tbAt_new w s (.slice a la ca) x) (tbO s' (.slice b lb cb) x'))
  have HT' := Lib.hid (tbAt_two w s' (.slice b lb cb) x' (tbO s (.slice a la ca) x))
  rcases s with ⟨s0, s1, s2, s3⟩
  rcases s' with ⟨t0, t1, t2, t3⟩
  obtain ⟨R, hR⟩ : ∃ R, decide ((((s0, s1, s2, s3), es, x) : Tb) = ((t0, t1, t2, t3), es', x')) = R := ⟨_, rfl⟩
  rw [hR]
  have HR := Lib.hid hR
  clear hR
  obtain ⟨W, hW⟩ : ∃ W, ((w.alloc (.cells #[.int .i64 s0, .int .i64 s1, .int .i64 s2, .int .i64 s3, .slice a la ca, .int .u32 x] 27)).alloc (.cells #[.int .i64 t0, .int .i64 t1, .int .i64 t2, .int .i64 t3, .slice b lb cb, .int .u32 x'] 27)) = W := ⟨_, rfl⟩
  have HT2 : Hid (TbAt W w.heap.size (s0, s1, s2, s3) (.slice a la ca) x) := by rw [← hW]; exact HT
  have HT2' : Hid (TbAt W (w.heap.size + 1) (t0, t1, t2, t3) (.slice b lb cb) x') := by rw [← hW]; exact HT'
  have hb2 : Below w.heap.size w W := by rw [← hW]; exact hb
  have HE := Lib.hid (h.below hb2)
  have HE' := Lib.hid (h'.below hb2)
  have HB := Lib.hid hb2
  clear HT HT' hb hb2 h h'
  obtain ⟨d0, d1, d2, d3, d4, d5⟩ := HT2.out
  obtain ⟨f0, f1, f2, f3, f4, f5⟩ := HT2'.out
  simp only at d0 d1 d2 d3 d4 d5 f0 f1 f2 f3 f4 f5
  have hne := eql_sc s0 s1 s2 s3 t0 t1 t2 t3
  have hgd := guardS
  rcases hq : scEq s0 s1 s2 s3 t0 t1 t2 t3 with _ | _
  · have HN : Hid (R = false) := Lib.hid (HR.out.symm.trans (decide_eq_false (fun e => by
      simp only [Prod.mk.injEq] at e
      rw [scEq_iff.2 e.1] at hq
      cases hq)))
    go_enter Try.func30, Try.ntmps30
    go_wp2_with fail
    go_ret
    exact ⟨by rw [HN.out]; rfl, HB.out⟩
  have HSC := Lib.hid (scEq_iff.1 hq)
  by_cases hx : x = x'
  · have hxI : (x == x') = true := by simpa using hx
    have HX := Lib.hid hx
    clear hx
    go_enter Try.func30, Try.ntmps30
    go_wp2_with fail
    refine (eqf_any a b la ca lb cb es es' W HE.out HE'.out).mono ?_
    rintro e w1 ⟨rfl, hb1⟩
    have HB1 := Lib.hid (HB.out.trans (hb1.mono HB.out.size))
    have HZ : Hid (R = decide (es = es')) := Lib.hid (by
      obtain ⟨e0, e1, e2, e3⟩ := HSC.out
      rw [← HR.out, HX.out, e0, e1, e2, e3]
      simp)
    clear hb1
    generalize decide (es = es') = q at *
    go_wp2_with fail
    go_ret
    exact ⟨by rw [HZ.out]; rfl, HB1.out⟩
  · have hxI : (x == x') = false := by simpa using hx
    have HN : Hid (R = false) := Lib.hid (HR.out.symm.trans (decide_eq_false (fun e => by
      simp only [Prod.mk.injEq] at e
      exact hx e.2.2)))
    clear hx
    go_enter Try.func30, Try.ntmps30
    go_wp2_with fail
    go_ret
    exact ⟨by rw [HN.out]; rfl, HB.out⟩
end Go.Proofs.Ytlbmgablkphioaa
