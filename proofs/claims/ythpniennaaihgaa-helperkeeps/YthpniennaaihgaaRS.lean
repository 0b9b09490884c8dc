/-
  Whether two environments are the same, as a contract over the translated program.
-/
import Derived.Test.YthpniennaaihgaaGh
import Derived.Test.YthpniennaaihgaaGf
import Derived.ChangeKeysEq
namespace Go.Proofs.Ythpniennaaihgaa
open Go Go.RowKit
set_option linter.unusedVariables false
theorem cpart0 (k c n v : Int) (w : World) : (part 22 #[.int .u32 k, .int .u32 c, .int .u32 n, .int .u32 v] 0).run Try.prog w = .ok (.int .u32 k) w := by kernel_rfl
theorem cpart1 (k c n v : Int) (w : World) : (part 22 #[.int .u32 k, .int .u32 c, .int .u32 n, .int .u32 v] 1).run Try.prog w = .ok (.int .u32 c) w := by kernel_rfl
theorem cpart2 (k c n v : Int) (w : World) : (part 22 #[.int .u32 k, .int .u32 c, .int .u32 n, .int .u32 v] 2).run Try.prog w = .ok (.int .u32 n) w := by kernel_rfl
theorem cpart3 (k c n v : Int) (w : World) : (part 22 #[.int .u32 k, .int .u32 c, .int .u32 n, .int .u32 v] 3).run Try.prog w = .ok (.int .u32 v) w := by kernel_rfl
theorem eqW3 (a b : Int) (w : World) : (Op.equalIn 9999 22 (.int .u32 a) (.int .u32 b)).run Try.prog w = .ok (a == b) w := run_equalIn_int w 9998 22 _ _ a b Try.underlying22
theorem equal_cx (k c n v k' c' n' v' : Int) (w : World) :
    (Op.equalIn 10000 23 (.agg #[.int .u32 k, .int .u32 c, .int .u32 n, .int .u32 v]) (.agg #[.int .u32 k', .int .u32 c', .int .u32 n', .int .u32 v'])).run Try.prog w = .ok (scEq k c n v k' c' n' v') w := by
  obtain ⟨jW, hiW, _⟩ := info_parts infoW
  rw [run_equalIn_array w 9999 _ _ Try.underlying23 hiW, cellsW]
  show (Op.eqItems 9999 22 1 _ _ [0, 1, 2, 3]).run Try.prog w = _
  simp only [Op.eqItems, scEq]
  rcases h0 : (k == k') <;> rcases h1 : (c == c') <;> rcases h2 : (n == n') <;> rcases h3 : (v == v') <;>
    simp [Sem.run_bind, cpart0, cpart1, cpart2, cpart3, eqW3, h0, h1, h2, h3]
theorem eql_cx (k c n v k' c' n' v' : Int) (w : World) :
    (binOp .eql 23 (.agg #[.int .u32 k, .int .u32 c, .int .u32 n, .int .u32 v]) (.agg #[.int .u32 k', .int .u32 c', .int .u32 n', .int .u32 v'])).run Try.prog w = .ok (.bool (scEq k c n v k' c' n' v')) w := by
  rw [run_eql_struct, equal_cx]
  rfl
theorem neq_cx (k c n v k' c' n' v' : Int) (w : World) :
    (binOp .neq 23 (.agg #[.int .u32 k, .int .u32 c, .int .u32 n, .int .u32 v]) (.agg #[.int .u32 k', .int .u32 c', .int .u32 n', .int .u32 v'])).run Try.prog w = .ok (.bool (!scEq k c n v k' c' n' v')) w := by
  rw [run_neq_struct, equal_cx]
  rfl
instance instDecEvT : DecidableEq (List Tb × Int) := fun a b => @instDecidableEqProd (List Tb) Int (fun x y => inferInstance) inferInstance a b
instance instDecEv : DecidableEq Ev := fun a b => @instDecidableEqProd (Int × Int × Int × Int) (List Tb × Int) inferInstance instDecEvT a b
theorem guardC : Try.prog.eqGuardType Try.prog.depth 23 = false := by kernel_rfl
theorem env_cells6 {W : World} {T : Nat} {c0 c1 c2 c3 sd : Int} {V : Value} (h : Box W T 26 #[.int .u32 c0, .int .u32 c1, .int .u32 c2, .int .u32 c3, V, .int .u32 sd]) :
    W.cell? ⟨T, 0, none⟩ = some (.int .u32 c0) ∧ W.cell? ⟨T, 1, none⟩ = some (.int .u32 c1) ∧ W.cell? ⟨T, 2, none⟩ = some (.int .u32 c2) ∧ W.cell? ⟨T, 3, none⟩ = some (.int .u32 c3) ∧ W.cell? ⟨T, 4, none⟩ = some V ∧ W.cell? ⟨T, 5, none⟩ = some (.int .u32 sd) :=
  ⟨h.cell rfl, h.cell rfl, h.cell rfl, h.cell rfl, h.cell rfl, h.cell rfl⟩
set_option maxRecDepth 100000 in
set_option maxHeartbeats 4000000 in
theorem esame_any (c : Cx) (a : Option Addr) (la ca : Nat) (sd : Int) (ts : List Tb) (c' : Cx) (b : Option Addr) (lb cb : Nat) (sd' : Int) (us : List Tb) (w : World) (h : TabsAt w a la ca ts) (h' : TabsAt w b lb cb us) :
    Calls Try.prog 14 #[envV c (.slice a la ca) sd, envV c' (.slice b lb cb) sd'] w fun e w' => e = .returned (.bool (decide (((c, ts, sd) : Ev) = (c', us, sd')))) ∧ Below w.heap.size w w' := by
  rcases c with ⟨c0, c1, c2, c3⟩
  rcases c' with ⟨e0, e1, e2, e3⟩
  have hb := box2 (Below.refl w.heap.size w) (Nat.le_refl _) (.cells #[.int .u32 c0, .int .u32 c1, .int .u32 c2, .int .u32 c3, .slice a la ca, .int .u32 sd] 26) (.cells #[.int .u32 e0, .int .u32 e1, .int .u32 e2, .int .u32 e3, .slice b lb cb, .int .u32 sd'] 26)
  have hB1 := (Box.new w 26 #[.int .u32 c0, .int .u32 c1, .int .u32 c2, .int .u32 c3, .slice a la ca, .int .u32 sd]).alloc (.cells #[.int .u32 e0, .int .u32 e1, .int .u32 e2, .int .u32 e3, .slice b lb cb, .int .u32 sd'] 26)
  have hB2 := Box.new (w.alloc (.cells #[.int .u32 c0, .int .u32 c1, .int .u32 c2, .int .u32 c3, .slice a la ca, .int .u32 sd] 26)) 26 #[.int .u32 e0, .int .u32 e1, .int .u32 e2, .int .u32 e3, .slice b lb cb, .int .u32 sd']
  rw [show (w.alloc (.cells #[.int .u32 c0, .int .u32 c1, .int .u32 c2, .int .u32 c3, .slice a la ca, .int .u32 sd] 26)).heap.size = w.heap.size + 1 by simp] at hB2
  have hT := h.below hb
  have hU := h'.below hb
  obtain ⟨R, hR⟩ : ∃ R, decide ((((c0, c1, c2, c3), ts, sd) : Ev) = ((e0, e1, e2, e3), us, sd')) = R := ⟨_, rfl⟩
  rw [hR]
  have HR := Lib.hid hR
  clear hR h h'
  obtain ⟨W, hW⟩ : ∃ W, ((w.alloc (.cells #[.int .u32 c0, .int .u32 c1, .int .u32 c2, .int .u32 c3, .slice a la ca, .int .u32 sd] 26)).alloc (.cells #[.int .u32 e0, .int .u32 e1, .int .u32 e2, .int .u32 e3, .slice b lb cb, .int .u32 sd'] 26)) = W := ⟨_, rfl⟩
  rw [hW] at hb hB1 hB2 hT hU
  have HB := Lib.hid hb
  have HB1 := Lib.hid hB1
  have HB2 := Lib.hid hB2
  have HT := Lib.hid hT
  have HU := Lib.hid hU
  obtain ⟨p0, p1, p2, p3, p4, p5⟩ := env_cells6 hB1
  obtain ⟨q0, q1, q2, q3, q4, q5⟩ := env_cells6 hB2
  clear hb hB1 hB2 hT hU
  go_enter Try.func14, Try.ntmps14
  go_wp2_with fail
  clear hW p0 p1 p2 p3 p4 p5 q0 q1 q2 q3 q4 q5
  have k1 := all_any a la ca ts b lb cb us W HT.out HU.out
  obtain ⟨Q, hQ⟩ : ∃ Q, decide (ts = us) = Q := ⟨_, rfl⟩
  rw [hQ] at k1
  have HQ := Lib.hid hQ
  clear hQ
  refine k1.mono ?_
  rintro e m1 ⟨rfl, hb1⟩
  clear k1
  have HB' := Lib.hid (HB.out.trans (hb1.mono HB.out.size))
  obtain ⟨p0, p1, p2, p3, p4, p5⟩ := env_cells6 (HB1.out.later hb1)
  obtain ⟨q0, q1, q2, q3, q4, q5⟩ := env_cells6 (HB2.out.later hb1)
  clear hb1
  have hne := eql_cx c0 c1 c2 c3 e0 e1 e2 e3
  have hgd := guardC
  cases Q
  · have HN : Hid (R = false) := Lib.hid (by
      rw [← HR.out]
      refine decide_eq_false (fun e => ?_)
      simp only [Prod.mk.injEq] at e
      exact of_decide_eq_false HQ.out e.2.1)
    go_wp2
    go_ret
    exact ⟨by rw [HN.out]; rfl, HB'.out⟩
  rcases hq : scEq c0 c1 c2 c3 e0 e1 e2 e3 with _ | _
  · have HN : Hid (R = false) := Lib.hid (by
      rw [← HR.out]
      refine decide_eq_false (fun e => ?_)
      simp only [Prod.mk.injEq] at e
      rw [scEq_iff.2 e.1] at hq
      cases hq)
    go_wp2
    go_ret
    exact ⟨by rw [HN.out]; rfl, HB'.out⟩
  rcases hs : (sd == sd') with _ | _
  · have HN : Hid (R = false) := Lib.hid (by
      rw [← HR.out]
      refine decide_eq_false (fun e => ?_)
      simp only [Prod.mk.injEq] at e
      rw [e.2.2] at hs
      simp at hs)
    go_wp2
    go_ret
    exact ⟨by rw [HN.out]; rfl, HB'.out⟩
  have HN : Hid (R = true) := Lib.hid (by
    rw [← HR.out]
    obtain ⟨h0, h1, h2, h3⟩ := scEq_iff.1 hq
    have h4 : sd = sd' := by simpa using hs
    have h5 := of_decide_eq_true HQ.out
    exact decide_eq_true (by rw [h0, h1, h2, h3, h4, h5]))
  go_wp2
  go_ret
  exact ⟨by rw [HN.out]; rfl, HB'.out⟩
end Go.Proofs.Ythpniennaaihgaa
