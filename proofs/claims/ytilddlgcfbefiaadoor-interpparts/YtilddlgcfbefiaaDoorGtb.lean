/-
  Texts that the laws of this layer stand on, one behind the other.
-/
import Derived.Test.YtilddlgcfbefiaaDoorTM
import Derived.Test.YtilddlgcfbefiaaDoorA4
/-
  What the references' Words, At and Same return, as contracts over the translated program: whether two rows of words are the same, where a key is, whether two tables are the same.
-/
namespace Go.Proofs.YtilddlgcfbefiaaDoor
set_option linter.unusedSimpArgs false
set_option linter.unusedVariables false
open Go.RowKit

theorem words_lenQ (a b : Option Addr) (la ca lb cb : Nat) (w : World) (hl : la ≠ lb) (_ha : la ≤ 9223372036854775807) (_hb : lb ≤ 9223372036854775807) :
    Calls Tryd.prog 59 #[.slice a la ca, .slice b lb cb] w fun e w' => e = .returned (.bool false) ∧ ∃ n, w' = w.drewN n := by
  have h8 : ¬ (la : Int) = (lb : Int) := by omega
  go_enter Tryd.func59, Tryd.ntmps59
  go_wp2
  go_ret
  exact ⟨rfl, 0, rfl⟩
theorem words_sameQ (a b : Option Addr) (len ca cb : Nat) (zs ys : List Int) (w : World) (h1 : WordsAt w a len ca zs) (h2 : WordsAt w b len cb ys) :
    Calls Tryd.prog 59 #[.slice a len ca, .slice b len cb] w fun e w' => e = .returned (.bool (decide (zs = ys))) ∧ ∃ n, w' = w.drewN n := by
  have hm' := h1.max
  have hz := h1.1
  have hy := h2.1
  have HX := Lib.hid h1.2.2.2.2
  have HY := Lib.hid h2.2.2.2.2
  clear h1 h2
  go_enter Tryd.func59, Tryd.ntmps59
  go_wp2
  go_loopw [5] (fun i wr => ∃ k : Nat, k ≤ len ∧ i = .int .i64 k ∧ Hid (∀ j, j < k → zs.getD j 0 = ys.getD j 0) ∧ ∃ n, wr = w.drewN n) (fun i _ => len - (intOf i).toNat)
  case atStart => exact ⟨0, by omega, rfl, Lib.hid (fun j hj => absurd hj (by omega)), 0, rfl⟩
  case round =>
    obtain ⟨k, hk, rfl, HE, n, hn⟩ := hrel
    have HN := Lib.hid hn
    clear hn
    by_cases hlt : k < len
    · obtain ⟨x, rfl, hx1⟩ := HX.out.resolve_left (by omega)
      obtain ⟨y, rfl, hy1⟩ := HY.out.resolve_left (by omega)
      have c0 : wr.cell? (x.add k) = some (.int .u32 (zs.getD k 0)) := ((below_of_quiet ⟨n, HN.out⟩).cell (lt_of_cell (hx1 k hlt))).trans (hx1 k hlt)
      have c1 : wr.cell? (y.add k) = some (.int .u32 (ys.getD k 0)) := ((below_of_quiet ⟨n, HN.out⟩).cell (lt_of_cell (hy1 k hlt))).trans (hy1 k hlt)
      clear hx1 hy1
      by_cases he : zs.getD k 0 = ys.getD k 0
      · have HK := Lib.hid he
        rw [← he] at c1
        generalize zs.getD k 0 = z at c0 c1
        clear he
        go_wp2
        go_quiet (fail)
        go_wp2
        refine ⟨⟨k + 1, by omega, by go_num, Lib.hid (fun j hj => ?_), n + nq, by rw [HN.out, World.drewN_drewN]⟩, by simp [intOf]; omega⟩
        rcases Nat.lt_succ_iff_lt_or_eq.1 hj with hj | rfl
        · exact HE.out j hj
        · exact HK.out
      · have HK := Lib.hid he
        generalize zs.getD k 0 = z at c0 he
        generalize ys.getD k 0 = y at c1 he
        go_wp2
        go_quiet (fail)
        go_wp2
        go_ret
        refine ⟨?_, n + nq, by rw [HN.out, World.drewN_drewN]⟩
        have hne : ¬ zs = ys := fun h => HK.out (by rw [h])
        simp [hne]
    · have HK := Lib.hid (show k = len by omega)
      go_wp2
      go_ret
      refine ⟨?_, n, HN.out⟩
      have heq : zs = ys := list_eq_getD 0 zs ys (by rw [hz, hy]) (fun j hj => HE.out j (by rw [HK.out, ← hz]; exact hj))
      simp [heq]
theorem words_Q (a b : Option Addr) (la ca lb cb : Nat) (zs ys : List Int) (w : World) (h1 : WordsAt w a la ca zs) (h2 : WordsAt w b lb cb ys) :
    Calls Tryd.prog 59 #[.slice a la ca, .slice b lb cb] w fun e w' => e = .returned (.bool (decide (zs = ys))) ∧ ∃ n, w' = w.drewN n := by
  by_cases hl : la = lb
  · subst hl
    exact words_sameQ a b la ca cb zs ys w h1 h2
  · have e : decide (zs = ys) = false := decide_eq_false (fun h => hl (by rw [← h1.1, ← h2.1, h]))
    rw [e]
    exact words_lenQ a b la ca lb cb w hl h1.max h2.max
theorem words_any (a b : Option Addr) (la ca lb cb : Nat) (zs ys : List Int) (w : World) (h1 : WordsAt w a la ca zs) (h2 : WordsAt w b lb cb ys) :
    Calls Tryd.prog 59 #[.slice a la ca, .slice b lb cb] w fun e w' => e = .returned (.bool (decide (zs = ys))) ∧ Below w.heap.size w w' := by
  by_cases hl : la = lb
  · subst hl
    exact (words_sameQ a b la ca cb zs ys w h1 h2).mono fun _ _ h => ⟨h.1, below_of_quiet h.2⟩
  · have e : decide (zs = ys) = false := decide_eq_false (fun h => hl (by rw [← h1.1, ← h2.1, h]))
    rw [e]
    exact (words_lenQ a b la ca lb cb w hl h1.max h2.max).mono fun _ _ h => ⟨h.1, below_of_quiet h.2⟩

set_option maxHeartbeats 2000000 in
theorem at_any (s : Sc) (a : Option Addr) (len cap : Nat) (x key : Int) (es : List Ent) (w : World) (h : EntsAt w a len cap es) :
    Calls Tryd.prog 89 #[tbV s (.slice a len cap) x, .int .u32 key] w fun e w' => e = .returned (.int .i64 (atI es key)) ∧ Below w.heap.size w w' := by
  have hm := h.max
  have hb : Below w.heap.size w (w.alloc (tbO s (.slice a len cap) x)) := (Below.refl _ _).alloc (Nat.le_refl _) _
  have H1 := Lib.hid h.1
  have HE := Lib.hid (h.below hb).2.2.2
  have HT := Lib.hid (tbAt_new w s (.slice a len cap) x)
  clear h
  rcases s with ⟨s0, s1, s2, s3⟩
  go_enter Tryd.func89, Tryd.ntmps89
  go_wp2
  generalize hW : w.alloc (.cells #[.int .i64 s0, .int .i64 s1, .int .i64 s2, .int .i64 s3, .slice a len cap, .int .u32 x] 42) = W at *
  clear hW
  go_loopw [5] (fun i wr => ∃ k : Nat, k ≤ len ∧ i = .int .i64 k ∧ Hid (∀ j, j < k → (es.getD j zeroE).1 ≠ key) ∧ wr = W) (fun i _ => len - (intOf i).toNat)
  case atStart => exact ⟨0, by omega, rfl, Lib.hid (fun j hj => absurd hj (by omega)), rfl⟩
  case round =>
    obtain ⟨k, hk, rfl, HF, rfl⟩ := hrel
    obtain ⟨d0, d1, d2, d3, d4, d5⟩ := HT.out
    simp only at d0 d1 d2 d3 d4 d5
    by_cases hkl : k < len
    · have hkI : (k : Int) < (len : Int) := by omega
      obtain ⟨y, rfl, hy⟩ := HE.out.resolve_left (by omega)
      obtain ⟨c0, _, _⟩ := hy k hkl
      clear hy
      by_cases he : (es.getD k zeroE).1 = key
      · have HR := Lib.hid (atI_some (atE_is (by rw [H1.out]; exact hkl) he HF.out))
        have hq : ((es.getD k zeroE).1 == key) = true := by simpa using he
        generalize (es.getD k zeroE).1 = z at c0 hq
        clear he
        go_wp2
        go_ret
        exact ⟨by rw [HR.out]; rfl, hb⟩
      · have HK := Lib.hid he
        have hq : ((es.getD k zeroE).1 == key) = false := by simpa using he
        generalize (es.getD k zeroE).1 = z at c0 hq
        clear he
        go_wp2
        refine ⟨⟨k + 1, by omega, by go_num, Lib.hid (fun j hj => ?_), by trivial⟩, by simp [intOf]; omega⟩
        rcases Nat.lt_succ_iff_lt_or_eq.1 hj with hj | rfl
        · exact HF.out j hj
        · exact HK.out
    · have hkI : ¬ (k : Int) < (len : Int) := by omega
      have HR := Lib.hid (atI_none (atE_no (es := es) (key := key) (fun j hj => HF.out j (by rw [H1.out] at hj; omega))))
      go_wp2
      go_ret
      exact ⟨by rw [HR.out]; rfl, hb⟩
end Go.Proofs.YtilddlgcfbefiaaDoor

/-
  '==' on schemas.
-/
namespace Go.Proofs.YtilddlgcfbefiaaDoor
set_option linter.unusedSimpArgs false
set_option linter.unusedVariables false
open Go.RowKit

theorem fieldsS : (Tryd.prog.fieldsOf 39).toList = [⟨"Kind", 3, 0, false, "", "", 0⟩, ⟨"Cap", 3, 1, false, "", "", 8⟩, ⟨"Words", 3, 2, false, "", "", 16⟩, ⟨"Ver", 3, 3, false, "", "", 24⟩] := by kernel_rfl
theorem part0 (k c n v : Int) (w : World) : (part 3 (scA k c n v) 0).run Tryd.prog w = .ok (.int .i64 k) w := by kernel_rfl
theorem part1 (k c n v : Int) (w : World) : (part 3 (scA k c n v) 1).run Tryd.prog w = .ok (.int .i64 c) w := by kernel_rfl
theorem part2 (k c n v : Int) (w : World) : (part 3 (scA k c n v) 2).run Tryd.prog w = .ok (.int .i64 n) w := by kernel_rfl
theorem part3 (k c n v : Int) (w : World) : (part 3 (scA k c n v) 3).run Tryd.prog w = .ok (.int .i64 v) w := by kernel_rfl
theorem eqI3 (a b : Int) (w : World) : (Op.equalIn 9999 3 (.int .i64 a) (.int .i64 b)).run Tryd.prog w = .ok (a == b) w := run_equalIn_int w 9998 3 _ _ a b Tryd.underlying3
theorem equal_sc (k c n v k' c' n' v' : Int) (w : World) :
    (Op.equalIn 10000 39 (scV k c n v) (scV k' c' n' v')).run Tryd.prog w = .ok (scEq k c n v k' c' n' v') w := by
  rw [run_equalIn_agg w 9999 39 _ _ (by kernel_rfl) (by kernel_rfl), fieldsS]
  simp only [Op.eqFields, scEq]
  rcases h0 : (k == k') <;> rcases h1 : (c == c') <;> rcases h2 : (n == n') <;> rcases h3 : (v == v') <;>
    simp [part0, part1, part2, part3, eqI3, h0, h1, h2, h3]
theorem eql_sc (k c n v k' c' n' v' : Int) (w : World) :
    (binOp .eql 39 (scV k c n v) (scV k' c' n' v')).run Tryd.prog w = .ok (.bool (scEq k c n v k' c' n' v')) w := by
  rw [run_eql_struct, equal_sc]
  rfl
theorem neq_sc (k c n v k' c' n' v' : Int) (w : World) :
    (binOp .neq 39 (scV k c n v) (scV k' c' n' v')).run Tryd.prog w = .ok (.bool (!scEq k c n v k' c' n' v')) w := by
  rw [run_neq_struct, equal_sc]
  rfl
theorem guardS : Tryd.prog.eqGuardType Tryd.prog.depth 39 = false := by kernel_rfl

end Go.Proofs.YtilddlgcfbefiaaDoor

/-
  What the fifth reference's Same returns, as a contract over the translated program: whether two tables are the same.
-/
namespace Go.Proofs.YtilddlgcfbefiaaDoor
set_option linter.unusedSimpArgs false
set_option linter.unusedVariables false
open Go.RowKit

theorem WordsAt.drewN {w : World} {a : Option Addr} {len cap : Nat} {zs : List Int} (h : WordsAt w a len cap zs) (n : Nat) : WordsAt (w.drewN n) a len cap zs := h.below (belowDrewN (Below.refl _ _) n)
theorem ents_eq {c d : List Ent} (hl : c.length = d.length) (h : ∀ j, j < c.length → c.getD j zeroE = d.getD j zeroE) : c = d := list_eq_getD zeroE c d hl h
theorem tbAt_old {w : World} {g : Nat} {s : Sc} {u : Value} {x : Int} (h : TbAt w g s u x) (o : Obj) : TbAt (w.alloc o) g s u x := h.later ((Below.refl _ _).alloc (Nat.le_refl _) _)
theorem tbAt_two (w : World) (s : Sc) (u : Value) (x : Int) (o : Obj) : TbAt ((w.alloc o).alloc (tbO s u x)) (w.heap.size + 1) s u x := by
  have := tbAt_new (w.alloc o) s u x
  rwa [show (w.alloc o).heap.size = w.heap.size + 1 by simp] at this

set_option maxRecDepth 100000 in
set_option maxHeartbeats 4000000 in
theorem same_any (s : Sc) (a : Option Addr) (la ca : Nat) (x : Int) (es : List Ent) (s' : Sc) (b : Option Addr) (lb cb : Nat) (x' : Int) (es' : List Ent) (w : World) (h : EntsAt w a la ca es) (h' : EntsAt w b lb cb es') :
    Calls Tryd.prog 49 #[tbV s (.slice a la ca) x, tbV s' (.slice b lb cb) x'] w fun e w' => e = .returned (.bool (decide (((s, es, x) : Tb) = (s', es', x')))) ∧ Below w.heap.size w w' := by
  have hm := h.max
  have hm' := h'.max
  have hb : Below w.heap.size w ((w.alloc (tbO s (.slice a la ca) x)).alloc (tbO s' (.slice b lb cb) x')) := box2 (Below.refl _ _) (Nat.le_refl _) _ _
  have H1 := Lib.hid h.1
  have H1' := Lib.hid h'.1
  have HE := Lib.hid (h.below hb).2.2.2
  have HE' := Lib.hid (h'.below hb).2.2.2
  have HT := Lib.hid (tbAt_old (tbAt_new w s (.slice a la ca) x) (tbO s' (.slice b lb cb) x'))
  have HT' := Lib.hid (tbAt_two w s' (.slice b lb cb) x' (tbO s (.slice a la ca) x))
  clear h h'
  rcases s with ⟨s0, s1, s2, s3⟩
  rcases s' with ⟨t0, t1, t2, t3⟩
  obtain ⟨R, hR⟩ : ∃ R, decide ((((s0, s1, s2, s3), es, x) : Tb) = ((t0, t1, t2, t3), es', x')) = R := ⟨_, rfl⟩
  rw [hR]
  have HR := Lib.hid hR
  clear hR
  obtain ⟨W, hW⟩ : ∃ W, ((w.alloc (.cells #[.int .i64 s0, .int .i64 s1, .int .i64 s2, .int .i64 s3, .slice a la ca, .int .u32 x] 42)).alloc (.cells #[.int .i64 t0, .int .i64 t1, .int .i64 t2, .int .i64 t3, .slice b lb cb, .int .u32 x'] 42)) = W := ⟨_, rfl⟩
  have HT2 : Hid (TbAt W w.heap.size (s0, s1, s2, s3) (.slice a la ca) x) := by rw [← hW]; exact HT
  have HT2' : Hid (TbAt W (w.heap.size + 1) (t0, t1, t2, t3) (.slice b lb cb) x') := by rw [← hW]; exact HT'
  have HE2 : Hid (la = 0 ∨ ∃ y, a = some y ∧ ∀ k, k < la → EntHere W (y.add (k * 2)) (es.getD k zeroE)) := by rw [← hW]; exact HE
  have HE2' : Hid (lb = 0 ∨ ∃ y, b = some y ∧ ∀ k, k < lb → EntHere W (y.add (k * 2)) (es'.getD k zeroE)) := by rw [← hW]; exact HE'
  have hb2 : Below w.heap.size w W := by rw [← hW]; exact hb
  clear HT HT' HE HE' hb
  obtain ⟨d0, d1, d2, d3, d4, d5⟩ := HT2.out
  obtain ⟨f0, f1, f2, f3, f4, f5⟩ := HT2'.out
  simp only at d0 d1 d2 d3 d4 d5 f0 f1 f2 f3 f4 f5
  have hne := neq_sc s0 s1 s2 s3 t0 t1 t2 t3
  have hgd := guardS
  rcases hq : scEq s0 s1 s2 s3 t0 t1 t2 t3 with _ | _
  · have HN : Hid (¬ (((s0, s1, s2, s3), es, x) : Tb) = ((t0, t1, t2, t3), es', x')) := Lib.hid (fun e => by
      simp only [Prod.mk.injEq] at e
      rw [scEq_iff.2 e.1] at hq
      cases hq)
    go_enter Tryd.func49, Tryd.ntmps49
    go_wp2
    go_ret
    exact ⟨by rw [show R = false from HR.out.symm.trans (decide_eq_false HN.out)]; rfl, hb2⟩
  obtain ⟨rfl, rfl, rfl, rfl⟩ := scEq_iff.1 hq
  by_cases hx : ¬ x = x'
  · have HN : Hid (¬ (((s0, s1, s2, s3), es, x) : Tb) = ((s0, s1, s2, s3), es', x')) := Lib.hid (fun e => by
      simp only [Prod.mk.injEq] at e
      exact hx e.2.2)
    have hxI : (x != x') = true := by simpa using hx
    go_enter Tryd.func49, Tryd.ntmps49
    go_wp2
    go_ret
    exact ⟨by rw [show R = false from HR.out.symm.trans (decide_eq_false HN.out)]; rfl, hb2⟩
  obtain rfl : x = x' := Decidable.not_not.1 hx
  by_cases hl : ¬ la = lb
  · have HN : Hid (¬ (((s0, s1, s2, s3), es, x) : Tb) = ((s0, s1, s2, s3), es', x)) := Lib.hid (fun e => by
      simp only [Prod.mk.injEq] at e
      exact hl (by rw [← H1.out, ← H1'.out, e.2.1]))
    have hlI : ¬ (la : Int) = (lb : Int) := by omega
    have hxI : (x != x) = false := by simp
    go_enter Tryd.func49, Tryd.ntmps49
    go_wp2
    go_ret
    exact ⟨by rw [show R = false from HR.out.symm.trans (decide_eq_false HN.out)]; rfl, hb2⟩
  obtain rfl : la = lb := Decidable.not_not.1 hl
  have hlI : ((la : Int) != (la : Int)) = false := by simp
  have hxI : (x != x) = false := by simp
  go_enter Tryd.func49, Tryd.ntmps49
  go_wp2_with fail
  clear hW hne
  go_loopw [5] (fun i wr => ∃ k : Nat, k ≤ la ∧ i = .int .i64 k ∧ Hid (∀ j, j < k → es.getD j zeroE = es'.getD j zeroE) ∧ Below W.heap.size W wr) (fun i _ => la - (intOf i).toNat)
  case atStart => exact ⟨0, by omega, rfl, Lib.hid (fun j hj => absurd hj (by omega)), Below.refl _ _⟩
  case round =>
    obtain ⟨k, hk, rfl, HF, hq⟩ := hrel
    have hbr := hb2.trans (hq.mono hb2.size)
    clear d0 d1 d2 d3 d4 d5 f0 f1 f2 f3 f4 f5
    obtain ⟨d0, d1, d2, d3, d4, d5⟩ := HT2.out.later hq
    obtain ⟨f0, f1, f2, f3, f4, f5⟩ := HT2'.out.later hq
    simp only at d0 d1 d2 d3 d4 d5 f0 f1 f2 f3 f4 f5
    by_cases hkl : k < la
    · have hkI : (k : Int) < (la : Int) := by omega
      have hk0 : (0 : Int) ≤ (k : Int) := Int.natCast_nonneg _
      obtain ⟨y, rfl, hy⟩ := HE2.out.resolve_left (by omega)
      obtain ⟨y', rfl, hy'⟩ := HE2'.out.resolve_left (by omega)
      obtain ⟨c0, _, p, lp, cp, c1, hV⟩ := (hy k hkl).below hq
      obtain ⟨e0, _, q, lq, cq, e1, hV'⟩ := (hy' k hkl).below hq
      have HV := Lib.hid hV
      have HV' := Lib.hid hV'
      have HEQ : Hid (es.getD k zeroE = es'.getD k zeroE ↔ (es.getD k zeroE).2 = (es'.getD k zeroE).2 ∧ (es.getD k zeroE).1 = (es'.getD k zeroE).1) := Lib.hid (by rw [Prod.ext_iff, and_comm])
      have HNE : Hid (¬ es.getD k zeroE = es'.getD k zeroE → ¬ (((s0, s1, s2, s3), es, x) : Tb) = ((s0, s1, s2, s3), es', x)) := Lib.hid (fun h e => by
        simp only [Prod.mk.injEq] at e
        exact h (by rw [e.2.1]))
      clear hy hy' hV hV'
      generalize (es.getD k zeroE).1 = z at *
      generalize (es.getD k zeroE).2 = zs at *
      generalize (es'.getD k zeroE).1 = z' at *
      generalize (es'.getD k zeroE).2 = zs' at *
      go_wp2_with fail
      go_quiet (first | (go_at_call 59; refine Calls.quiet_of (words_Q p q lp cp lq cq zs zs' _ ?_ ?_); exact HV.out.drewN _; exact HV'.out.drewN _))
      rcases hd : decide (zs = zs') with _ | _
      · have HN := Lib.hid (HNE.out (fun e => by
          have := (HEQ.out.1 e).1
          simp [this] at hd))
        go_wp2_with fail
        go_quiet (fail)
        go_wp2
        go_ret
        exact ⟨by rw [show R = false from HR.out.symm.trans (decide_eq_false HN.out)]; rfl, belowDrewN (belowDrewN hbr _) _⟩
      · by_cases hz : z = z'
        · have HK := Lib.hid (HEQ.out.2 ⟨of_decide_eq_true hd, hz⟩)
          have hzI : (z != z') = false := by simpa using hz
          clear hz
          go_wp2_with fail
          go_quiet (fail)
          go_wp2
          refine ⟨⟨k + 1, by omega, by go_num, Lib.hid (fun j hj => ?_), belowDrewN hq _⟩, by simp [intOf]; omega⟩
          rcases Nat.lt_succ_iff_lt_or_eq.1 hj with hj | rfl
          · exact HF.out j hj
          · exact HK.out
        · have HN := Lib.hid (HNE.out (fun e => hz (HEQ.out.1 e).2))
          have hzI : (z != z') = true := by simpa using hz
          clear hz
          go_wp2_with fail
          go_quiet (fail)
          go_wp2
          go_ret
          exact ⟨by rw [show R = false from HR.out.symm.trans (decide_eq_false HN.out)]; rfl, belowDrewN (belowDrewN hbr _) _⟩
    · have hkI : ¬ (k : Int) < (la : Int) := by omega
      have HP : Hid (es = es') := Lib.hid (ents_eq (by rw [H1.out, H1'.out]) (fun j hj => HF.out j (by rw [H1.out] at hj; omega)))
      go_wp2
      go_ret
      exact ⟨by rw [show R = true from HR.out.symm.trans (decide_eq_true (by rw [HP.out]))]; rfl, hbr⟩
end Go.Proofs.YtilddlgcfbefiaaDoor

