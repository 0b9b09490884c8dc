/-
  What the fifth reference's Same returns, as a contract over the translated program: whether two tables are the same.
-/
import Derived.Test.YtmlmdhnjafakiaaTA
import Derived.Test.YtmlmdhnjafakiaaBS
namespace Go.Proofs.Ytmlmdhnjafakiaa
open Go.RowKit

theorem WordsAt.drewN {w : World} {a : Option Addr} {len cap : Nat} {zs : List Int} (h : WordsAt w a len cap zs) (n : Nat) : WordsAt (w.drewN n) a len cap zs := h.below (belowDrewN (Below.refl _ _) n)
theorem ents_eq {c d : List Ent} (hl : c.length = d.length) (h : ∀ j, j < c.length → c.getD j zeroE = d.getD j zeroE) : c = d := list_eq_getD zeroE c d hl h
theorem tbAt_old {w : World} {g : Nat} {s : Sc} {u : Value} {x : Int} (h : TbAt w g s u x) (o : Obj) : TbAt (w.alloc o) g s u x := h.later ((Below.refl _ _).alloc (Nat.le_refl _) _)
theorem tbAt_two (w : World) (s : Sc) (u : Value) (x : Int) (o : Obj) : TbAt ((w.alloc o).alloc (tbO s u x)) (w.heap.size + 1) s u x := by
  have := tbAt_new (w.alloc o) s u x
  rwa [show (w.alloc o).heap.size = w.heap.size + 1 by simp] at this

set_option maxRecDepth 100000 in
set_option maxHeartbeats 4000000 in
theorem same_any (s : Sc) (a : Option Addr) (la ca : Nat) (x : Int) (es : List Ent) (s' : Sc) (b : Option Addr) (lb cb : Nat) (x' : Int) (es' : List Ent) (w : World) (h : EntsAt w a la ca es) (h' : EntsAt w b lb cb es') :
    Calls Try.prog 45 #[tbV s (.slice a la ca) x, tbV s' (.slice b lb cb) x'] w fun e w' => e = .returned (.bool (decide (((s, es, x) : Tb) = (s', es', x')))) ∧ Below w.heap.size w w' := by
  have hm := h.max
  have hm' := h'.max
  have hb : Below w.heap.size w ((w.alloc (tbO s (.slice a la ca) x)).alloc (tbO s' (.slice b lb cb) x')) := box2 (Below.refl _ _) (Nat.le_refl _) _ _
  have H1 := Lib.hid h.1
  have H1' := Lib.hid h'.1
  have HE := Lib.hid (h.below hb).2.2.2
  have HE' := Lib.hid (h'.below hb).2.2.2
  have HT := Lib.hid (tbAt_old (tbAt_new w s (.slice a la ca) x) (tbO s' (.slice b lb cb) x'))
  have HT' := Lib.hid (tbAt_two w s' (.slice b lb cb) x' (tbO s (.slice a la ca) x))
  clear h h'
  rcases s with ⟨s0, s1, s2, s3⟩
  rcases s' with ⟨t0, t1, t2, t3⟩
  obtain ⟨R, hR⟩ : ∃ R, decide ((((s0, s1, s2, s3), es, x) : Tb) = ((t0, t1, t2, t3), es', x')) = R := ⟨_, rfl⟩
  rw [hR]
  have HR := Lib.hid hR
  clear hR
  obtain ⟨W, hW⟩ : ∃ W, ((w.alloc (.cells #[.int .i64 s0, .int .i64 s1, .int .i64 s2, .int .i64 s3, .slice a la ca, .int .u32 x] 44)).alloc (.cells #[.int .i64 t0, .int .i64 t1, .int .i64 t2, .int .i64 t3, .slice b lb cb, .int .u32 x'] 44)) = W := ⟨_, rfl⟩
  have HT2 : Hid (TbAt W w.heap.size (s0, s1, s2, s3) (.slice a la ca) x) := by rw [← hW]; exact HT
  have HT2' : Hid (TbAt W (w.heap.size + 1) (t0, t1, t2, t3) (.slice b lb cb) x') := by rw [← hW]; exact HT'
  have HE2 : Hid (la = 0 ∨ ∃ y, a = some y ∧ ∀ k, k < la → EntHere W (y.add (k * 2)) (es.getD k zeroE)) := by rw [← hW]; exact HE
  have HE2' : Hid (lb = 0 ∨ ∃ y, b = some y ∧ ∀ k, k < lb → EntHere W (y.add (k * 2)) (es'.getD k zeroE)) := by rw [← hW]; exact HE'
  have hb2 : Below w.heap.size w W := by rw [← hW]; exact hb
  clear HT HT' HE HE' hb
  obtain ⟨d0, d1, d2, d3, d4, d5⟩ := HT2.out
  obtain ⟨f0, f1, f2, f3, f4, f5⟩ := HT2'.out
  simp only at d0 d1 d2 d3 d4 d5 f0 f1 f2 f3 f4 f5
  have hne := neq_sc s0 s1 s2 s3 t0 t1 t2 t3
  have hgd := guardS
  rcases hq : scEq s0 s1 s2 s3 t0 t1 t2 t3 with _ | _
  · have HN : Hid (¬ (((s0, s1, s2, s3), es, x) : Tb) = ((t0, t1, t2, t3), es', x')) := Lib.hid (fun e => by
      simp only [Prod.mk.injEq] at e
      rw [scEq_iff.2 e.1] at hq
      cases hq)
    go_enter Try.func45, Try.ntmps45
    go_wp2
    go_ret
    exact ⟨by rw [show R = false from HR.out.symm.trans (decide_eq_false HN.out)]; rfl, hb2⟩
  obtain ⟨rfl, rfl, rfl, rfl⟩ := scEq_iff.1 hq
  by_cases hx : ¬ x = x'
  · have HN : Hid (¬ (((s0, s1, s2, s3), es, x) : Tb) = ((s0, s1, s2, s3), es', x')) := Lib.hid (fun e => by
      simp only [Prod.mk.injEq] at e
      exact hx e.2.2)
    have hxI : (x != x') = true := by simpa using hx
    go_enter Try.func45, Try.ntmps45
    go_wp2
    go_ret
    exact ⟨by rw [show R = false from HR.out.symm.trans (decide_eq_false HN.out)]; rfl, hb2⟩
  obtain rfl : x = x' := Decidable.not_not.1 hx
  by_cases hl : ¬ la = lb
  · have HN : Hid (¬ (((s0, s1, s2, s3), es, x) : Tb) = ((s0, s1, s2, s3), es', x)) := Lib.hid (fun e => by
      simp only [Prod.mk.injEq] at e
      exact hl (by rw [← H1.out, ← H1'.out, e.2.1]))
    have hlI : ¬ (la : Int) = (lb : Int) := by omega
    have hxI : (x != x) = false := by simp
    go_enter Try.func45, Try.ntmps45
    go_wp2
    go_ret
    exact ⟨by rw [show R = false from HR.out.symm.trans (decide_eq_false HN.out)]; rfl, hb2⟩
  obtain rfl : la = lb := Decidable.not_not.1 hl
  have hlI : ((la : Int) != (la : Int)) = false := by simp
  have hxI : (x != x) = false := by simp
  go_enter Try.func45, Try.ntmps45
  go_wp2_with fail
  clear hW hne
  go_loopw [5] (fun i wr => ∃ k : Nat, k ≤ la ∧ i = .int .i64 k ∧ Hid (∀ j, j < k → es.getD j zeroE = es'.getD j zeroE) ∧ Below W.heap.size W wr) (fun i _ => la - (intOf i).toNat)
  case atStart => exact ⟨0, by omega, rfl, Lib.hid (fun j hj => absurd hj (by omega)), Below.refl _ _⟩
  case round =>
    obtain ⟨k, hk, rfl, HF, hq⟩ := hrel
    have hbr := hb2.trans (hq.mono hb2.size)
    clear d0 d1 d2 d3 d4 d5 f0 f1 f2 f3 f4 f5
    obtain ⟨d0, d1, d2, d3, d4, d5⟩ := HT2.out.later hq
    obtain ⟨f0, f1, f2, f3, f4, f5⟩ := HT2'.out.later hq
    simp only at d0 d1 d2 d3 d4 d5 f0 f1 f2 f3 f4 f5
    by_cases hkl : k < la
    · have hkI : (k : Int) < (la : Int) := by omega
      have hk0 : (0 : Int) ≤ (k : Int) := Int.natCast_nonneg _
      obtain ⟨y, rfl, hy⟩ := HE2.out.resolve_left (by omega)
      obtain ⟨y', rfl, hy'⟩ := HE2'.out.resolve_left (by omega)
      obtain ⟨c0, _, p, lp, cp, c1, hV⟩ := (hy k hkl).below hq
      obtain ⟨e0, _, q, lq, cq, e1, hV'⟩ := (hy' k hkl).below hq
      have HV := Lib.hid hV
      have HV' := Lib.hid hV'
      have HEQ : Hid (es.getD k zeroE = es'.getD k zeroE ↔ (es.getD k zeroE).2 = (es'.getD k zeroE).2 ∧ (es.getD k zeroE).1 = (es'.getD k zeroE).1) := Lib.hid (by rw [Prod.ext_iff, and_comm])
      have HNE : Hid (¬ es.getD k zeroE = es'.getD k zeroE → ¬ (((s0, s1, s2, s3), es, x) : Tb) = ((s0, s1, s2, s3), es', x)) := Lib.hid (fun h e => by
        simp only [Prod.mk.injEq] at e
        exact h (by rw [e.2.1]))
      clear hy hy' hV hV'
      generalize (es.getD k zeroE).1 = z at *
      generalize (es.getD k zeroE).2 = zs at *
      generalize (es'.getD k zeroE).1 = z' at *
      generalize (es'.getD k zeroE).2 = zs' at *
      go_wp2_with fail
      go_quiet (first | (go_at_call 62; refine Calls.quiet_of (words_Q p q lp cp lq cq zs zs' _ ?_ ?_); exact HV.out.drewN _; exact HV'.out.drewN _))
      rcases hd : decide (zs = zs') with _ | _
      · have HN := Lib.hid (HNE.out (fun e => by
          have := (HEQ.out.1 e).1
          simp [this] at hd))
        go_wp2_with fail
        go_quiet (fail)
        go_wp2
        go_ret
        exact ⟨by rw [show R = false from HR.out.symm.trans (decide_eq_false HN.out)]; rfl, belowDrewN (belowDrewN hbr _) _⟩
      · by_cases hz : z = z'
        · have HK := Lib.hid (HEQ.out.2 ⟨of_decide_eq_true hd, hz⟩)
          have hzI : (z != z') = false := by simpa using hz
          clear hz
          go_wp2_with fail
          go_quiet (fail)
          go_wp2
          refine ⟨⟨k + 1, by omega, by go_num, Lib.hid (fun j hj => ?_), belowDrewN hq _⟩, by simp [intOf]; omega⟩
          rcases Nat.lt_succ_iff_lt_or_eq.1 hj with hj | rfl
          · exact HF.out j hj
          · exact HK.out
        · have HN := Lib.hid (HNE.out (fun e => hz (HEQ.out.1 e).2))
          have hzI : (z != z') = true := by simpa using hz
          clear hz
          go_wp2_with fail
          go_quiet (fail)
          go_wp2
          go_ret
          exact ⟨by rw [show R = false from HR.out.symm.trans (decide_eq_false HN.out)]; rfl, belowDrewN (belowDrewN hbr _) _⟩
    · have hkI : ¬ (k : Int) < (la : Int) := by omega
      have HP : Hid (es = es') := Lib.hid (ents_eq (by rw [H1.out, H1'.out]) (fun j hj => HF.out j (by rw [H1.out] at hj; omega)))
      go_wp2
      go_ret
      exact ⟨by rw [show R = true from HR.out.symm.trans (decide_eq_true (by rw [HP.out]))]; rfl, hbr⟩
end Go.Proofs.Ytmlmdhnjafakiaa
