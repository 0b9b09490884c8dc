/-
  The walk of law ProgSame: it returns true for every program, two places and an instruction.
-/
import Derived.Test.YtlbhmopmfddhjaaDoorV8
import Derived.Deep.RegionHeld3
import Derived.BigQuiet
namespace Go.Proofs.YtlbhmopmfddhjaaDoor
open Go.RowKit

set_option maxRecDepth 100000 in
set_option maxHeartbeats 20000000 in
theorem same_walk (a : Option Addr) (len cap : Nat) (fs : List Fun) (i k : Int) (o f d s : Int) (r : Bool) (x m : Int) (lo : 0 ≤ m) (hi : m ≤ 4294967295) (w : World) (hR : RowsIn w) (h : FnsAt w a len cap fs) :
    Calls Tryd.prog 8 #[.agg #[.slice a len cap], .int .i64 i, .int .i64 k, instV o f d s r x m] w fun e w' => e = .returned (.bool true) ∧ Below w.heap.size w w' := by
  have HS := Lib.hid (St8.start (a := a) (len := len) (cap := cap) (o := o) (f := f) (d := d) (s := s) (r := r) (x := x) (m := m) hR)
  have HF := Lib.hid h
  have H1 := Lib.hid h.1
  have hm : len ≤ 9223372036854775807 := by have := h.2.1; have := h.2.2.1; unfold maxLen at this; omega
  have HOk := Lib.hid (fns_ok h)
  clear h
  go_enter Tryd.func8, Tryd.ntmps8
  go_wp2_with fail
  refine (awake_any _ HS.out.rows).mono ?_
  rintro e w1 ⟨rfl, hg⟩
  replace HS := Lib.hid (HS.out.later hg)
  have c0 := HS.out.c0
  clear hg
  go_wp2_with fail
  refine (few_any a len cap fs _ (HF.out.below HS.out.1)).mono ?_
  rintro e w2 ⟨rfl, hg⟩
  replace HS := Lib.hid (HS.out.later hg)
  clear hg c0
  rcases hfew : fewP fs with _ | _
  · go_wp2_with fail
    go_quiet (fail)
    have hbe := belowDrewN HS.out.1 nq
    go_wp2
    go_ret
    exact ⟨rfl, hbe⟩
  have HFew := Lib.hid hfew
  clear hfew
  by_cases hi0 : i < 0
  · have g0 : decide (i < 0) = true := by simpa using hi0
    go_wp2_with fail
    go_quiet (fail)
    have hbe := belowDrewN HS.out.1 nq
    go_wp2
    go_ret
    exact ⟨rfl, hbe⟩
  obtain ⟨i, rfl⟩ := Int.eq_ofNat_of_zero_le (show 0 ≤ i by omega)
  clear hi0
  have c0 := HS.out.c0
  have g0 : decide ((i : Int) < 0) = false := by simp
  by_cases hil : len ≤ i
  · have g1 : decide (len ≤ i) = true := by simpa using hil
    go_wp2_with fail
    go_quiet (fail)
    have hbe := belowDrewN HS.out.1 nq
    go_wp2
    go_ret
    exact ⟨rfl, hbe⟩
  have g1 : decide (len ≤ i) = false := by simpa using hil
  by_cases hk0 : k < 0
  · have g2 : decide (k < 0) = true := by simpa using hk0
    go_wp2_with fail
    go_quiet (fail)
    have hbe := belowDrewN HS.out.1 nq
    go_wp2
    go_ret
    exact ⟨rfl, hbe⟩
  obtain ⟨k, rfl⟩ := Int.eq_ofNat_of_zero_le (show 0 ≤ k by omega)
  clear hk0
  have g2 : decide ((k : Int) < 0) = false := by simp
  obtain ⟨y, rfl, hy⟩ := HF.out.2.2.2.resolve_left (by omega)
  have hiI : (i : Int) < (len : Int) := by omega
  have hI := FnHere.below (hy i (by omega)) HS.out.1
  rcases hfi : fs.getD i zeroF with ⟨args, code⟩
  rw [hfi] at hI
  have HFi := Lib.hid hfi
  obtain ⟨i0, b, l, cc, i1, hCode⟩ := hI
  simp only at i0 i1 hCode
  have hl : code.length = l := hCode.1
  have HL := Lib.hid hl
  have hml : l ≤ 9223372036854775807 := by have := hCode.2.1; have := hCode.2.2.1; unfold maxLen at this; omega
  clear hfi hy hl i0
  by_cases hkl : l ≤ k
  · have g3 : decide (l ≤ k) = true := by simpa using hkl
    go_wp2_with fail
    go_quiet (fail)
    have hbe := belowDrewN HS.out.1 nq
    go_wp2
    go_ret
    exact ⟨rfl, hbe⟩
  have g3 : decide (l ≤ k) = false := by simpa using hkl
  have hkI : (k : Int) < (l : Int) := by omega
  obtain ⟨z, rfl, hz⟩ := hCode.2.2.2.2.resolve_left (by omega)
  have hA := hz k (by omega)
  rcases hck : code.getD k zeroI with ⟨o', f', d', s', r', x', m'⟩
  rw [hck] at hA
  have HCk := Lib.hid hck
  obtain ⟨v0, v1, v2, v3, v4, v5, v6⟩ := hA
  simp only at v0 v1 v2 v3 v4 v5 v6
  obtain ⟨x0, x1, x2, x3, x4, x5, x6⟩ := HS.out.x0
  have hee := eql_inst o' f' d' s' r' x' m' o f d s r x m
  have hgd := guard24
  clear hck hz hCode
  rcases hq : instEq o' f' d' s' r' x' m' o f d s r x m with _ | _
  case true =>
    go_wp2_with fail
    go_quiet (fail)
    have hbe := belowDrewN HS.out.1 nq
    go_wp2
    go_ret
    exact ⟨rfl, hbe⟩
  have HNe : Hid (code.getD k zeroI ≠ (o, f, d, s, r, x, m)) := Lib.hid (fun e => by
    rw [HCk.out] at e
    simp only [Prod.mk.injEq] at e
    obtain ⟨rfl, rfl, rfl, rfl, rfl, rfl, rfl⟩ := e
    rw [instEq_self] at hq
    cases hq)
  go_wp2_with fail
  go_quiet (fail)
  have hS3 : St8 w (w2.drewN nq) (some y) len cap o f d s r x m := ⟨belowDrewN HS.out.1 nq, HS.out.2⟩
  have HS3 := Lib.hid hS3
  clear HS c0 i1 v0 v1 v2 v3 v4 v5 v6 x0 x1 x2 x3 x4 x5 x6 hee hgd hq hS3
  generalize w2.drewN nq = w3 at *
  have c0 := HS3.out.c0
  have hw3 : w.heap.size + 1 < w3.heap.size := HS3.out.2.2.2.lt
  go_wp2_with fail
  refine (own_any (some y) len cap fs _ (HF.out.below HS3.out.1) HFew.out).mono ?_
  rintro e w4 ⟨v, xs, rfl, hg, hO4, hOw4⟩
  rw [H1.out] at hO4
  obtain ⟨gv, cpv, rfl, hgv, hgl⟩ := hO4.form (by omega)
  obtain ⟨hxa, cv, hxb, hoc, hokc, hnec⟩ := hOw4.2.1 i (by rw [H1.out]; omega)
  rw [HFi.out] at hoc
  simp only at hoc
  obtain ⟨gc, cpc, hcv, hgcb, hgcl⟩ := hoc.form (by rw [HL.out]; omega)
  subst hcv
  rw [HL.out] at hxb
  have hb5 : Below w4.heap.size w4 (w4.alloc (.cells #[.slice (some ⟨gv, 0, none⟩) len cpv] 24)) := (Below.refl _ _).alloc (Nat.le_refl _) _
  have hgcv : gc ≠ gv := fun e => hnec gc rfl (by rw [e]; rfl)
  replace HS3 := Lib.hid ((HS3.out.later hg).later hb5)
  have HQ := Lib.hid (Box.new w4 24 #[.slice (some ⟨gv, 0, none⟩) len cpv])
  have HO5 := Lib.hid (ownsRow_below hO4 hb5)
  have HOw5 := Lib.hid (hOw4.below hb5)
  have HOc5 := Lib.hid (ownsRow_below hoc hb5)
  have HXb := Lib.hid hxb
  clear hg hO4 hOw4 hxa hxb hoc hokc hnec hb5 c0
  go_wp2_with fail
  generalize w4.alloc (.cells #[.slice (some ⟨gv, 0, none⟩) len cpv] 24) = w5 at *
  generalize w4.heap.size = qb at *
  obtain ⟨cur, hcur, hct⟩ : ∃ cur : Array Value, Box w5 gv 28 cur ∧ cur.toList.take (len * 2) = xs := by
    rcases HO5.out.2 with ⟨h, _⟩ | ⟨g', cap', cur, hv, _, hh, _, _, hs, ht⟩
    · cases h
    · simp only [Value.slice.injEq, Option.some.injEq, Addr.mk.injEq, and_true, true_and] at hv
      obtain ⟨rfl, rfl⟩ := hv
      exact ⟨cur, hh, ht⟩
  have hr1 : w5.cell? ⟨gv, i * 2 + 1, none⟩ = some (.slice (some ⟨gc, 0, none⟩) l cpc) := hcur.cell (by
    rw [← HXb.out, ← hct, List.getElem?_take, if_pos (by omega)]
    simp)
  obtain ⟨curc, hcurc, hctc, hcsc⟩ : ∃ cur : Array Value, Box w5 gc 46 cur ∧ cur.toList.take (code.length * 7) = codeV code ∧ cpc * 7 = cur.size := by
    rcases HOc5.out.2 with ⟨h, _⟩ | ⟨g', cap', cur, hv, _, hh, _, _, hs, ht⟩
    · cases h
    · simp only [Value.slice.injEq, Option.some.injEq, Addr.mk.injEq, and_true, true_and] at hv
      obtain ⟨rfl, rfl⟩ := hv
      exact ⟨cur, hh, ht, hs.symm⟩
  have hcc : ∀ j, j < 7 → curc[k * 7 + j]? = (instC (code.getD k zeroI))[j]? := fun j hj => by
    have h2 : (curc.toList.take (code.length * 7))[k * 7 + j]? = (codeV code)[k * 7 + j]? := by rw [hctc]
    have hkc : k < code.length := by rw [HL.out]; omega
    rw [List.getElem?_take, if_pos (by omega), codeV_at code k j hkc hj] at h2
    rw [← h2]
    simp
  rw [HCk.out] at hcc
  have s0 : w5.cell? ⟨gc, k * 7, none⟩ = some (.int .i64 o') := hcurc.cell (hcc 0 (by omega))
  have s1 : w5.cell? ⟨gc, k * 7 + 1, none⟩ = some (.int .i64 f') := hcurc.cell (hcc 1 (by omega))
  have s2 : w5.cell? ⟨gc, k * 7 + 2, none⟩ = some (.int .i64 d') := hcurc.cell (hcc 2 (by omega))
  have s3 : w5.cell? ⟨gc, k * 7 + 3, none⟩ = some (.int .i64 s') := hcurc.cell (hcc 3 (by omega))
  have s4 : w5.cell? ⟨gc, k * 7 + 4, none⟩ = some (.bool r') := hcurc.cell (hcc 4 (by omega))
  have s5 : w5.cell? ⟨gc, k * 7 + 5, none⟩ = some (.int .i64 x') := hcurc.cell (hcc 5 (by omega))
  have s6 : w5.cell? ⟨gc, k * 7 + 6, none⟩ = some (.int .u32 m') := hcurc.cell (hcc 6 (by omega))
  have t0 := hcurc.free (k * 7)
  have t1 := hcurc.free (k * 7 + 1)
  have t2 := hcurc.free (k * 7 + 2)
  have t3 := hcurc.free (k * 7 + 3)
  have t4 := hcurc.free (k * 7 + 4)
  have t5 := hcurc.free (k * 7 + 5)
  have t6 := hcurc.free (k * 7 + 6)
  have q0 : w5.cell? ⟨qb, 0, none⟩ = some (.slice (some ⟨gv, 0, none⟩) len cpv) := HQ.out.cell rfl
  obtain ⟨x0, x1, x2, x3, x4, x5, x6⟩ := HS3.out.x0
  clear hcur hct hcurc hctc hcsc hcc
  have hgx : ¬ gc = w.heap.size + 1 := by omega
  have hgq : ¬ gc = qb := by omega
  have hxg : ¬ w.heap.size + 1 = gc := by omega
  have hqg : ¬ qb = gc := by omega
  have hvg : ¬ gv = gc := fun e => hgcv e.symm
  have hiJ : (0 : Int) ≤ (i : Int) := by omega
  have hkJ : (0 : Int) ≤ (k : Int) := by omega
  go_region
  have hil' : i < fs.length := by rw [H1.out]; omega
  have hkl' : k < code.length := by rw [HL.out]; omega
  obtain ⟨hCo, hgr, _, _, _⟩ := changed HOw5.out hil' HFi.out hkl' HXb.out o f d s r x m ⟨lo, hi⟩
  have hO6 := HO5.out.kept hgr (.inr (fun e => hvg (Option.some.inj e)))
  have hLq : (fs.set i (args, code.set k (o, f, d, s, r, x, m))).length = len := by rw [List.length_set]; exact H1.out
  obtain ⟨b6, cp6, hv6, hFq⟩ := fns_own hLq hO6 hCo
  simp only [Value.slice.injEq, true_and] at hv6
  obtain ⟨rfl, rfl⟩ := hv6
  have hbd : Below (set7 w5 gc (k * 7) o f d s r x m).heap.size (set7 w5 gc (k * 7) o f d s r x m) (set7 w5 gc (k * 7) o f d s r x m).drew := (Below.refl _ _).drew
  have hS6 := (HS3.out.grown hgr (fun z hz => by cases hz; omega)).later hbd
  have hQ6 := HQ.out.grown hgr (fun e => hqg (Option.some.inj e))
  have HS6 : Hid (St8 w (((((((w5.setCell ⟨gc, k * 7, none⟩ (.int .i64 o)).setCell ⟨gc, k * 7 + 1, none⟩ (.int .i64 f)).setCell ⟨gc, k * 7 + 2, none⟩ (.int .i64 d)).setCell ⟨gc, k * 7 + 3, none⟩ (.int .i64 s)).setCell ⟨gc, k * 7 + 4, none⟩ (.bool r)).setCell ⟨gc, k * 7 + 5, none⟩ (.int .i64 x)).setCell ⟨gc, k * 7 + 6, none⟩ (.int .u32 m)).drew (some y) len cap o f d s r x m) := Lib.hid hS6
  have HQ6 : Hid (Box (((((((w5.setCell ⟨gc, k * 7, none⟩ (.int .i64 o)).setCell ⟨gc, k * 7 + 1, none⟩ (.int .i64 f)).setCell ⟨gc, k * 7 + 2, none⟩ (.int .i64 d)).setCell ⟨gc, k * 7 + 3, none⟩ (.int .i64 s)).setCell ⟨gc, k * 7 + 4, none⟩ (.bool r)).setCell ⟨gc, k * 7 + 5, none⟩ (.int .i64 x)).setCell ⟨gc, k * 7 + 6, none⟩ (.int .u32 m)).drew qb 24 #[.slice (some ⟨gv, 0, none⟩) len cpv]) := Lib.hid (hQ6.below hbd hQ6.lt)
  have HFq : Hid (FnsAt (((((((w5.setCell ⟨gc, k * 7, none⟩ (.int .i64 o)).setCell ⟨gc, k * 7 + 1, none⟩ (.int .i64 f)).setCell ⟨gc, k * 7 + 2, none⟩ (.int .i64 d)).setCell ⟨gc, k * 7 + 3, none⟩ (.int .i64 s)).setCell ⟨gc, k * 7 + 4, none⟩ (.bool r)).setCell ⟨gc, k * 7 + 5, none⟩ (.int .i64 x)).setCell ⟨gc, k * 7 + 6, none⟩ (.int .u32 m)).drew (some ⟨gv, 0, none⟩) len cpv (fs.set i (args, code.set k (o, f, d, s, r, x, m)))) := Lib.hid (hFq.below hbd)
  have HNq := Lib.hid (changed_ne hil' HFi.out hkl' HNe.out)
  have HEq := Lib.hid (changed_len (k := k) hil' HFi.out (o, f, d, s, r, x, m))
  clear hCo hgr hO6 hLq hFq hbd hS6 hQ6 s0 s1 s2 s3 s4 s5 s6 t0 t1 t2 t3 t4 t5 t6 q0 x0 x1 x2 x3 x4 x5 x6 hr1 HS3 HQ HO5 HOw5 HOc5 HXb hgcv HNe
  generalize (((((((w5.setCell ⟨gc, k * 7, none⟩ (.int .i64 o)).setCell ⟨gc, k * 7 + 1, none⟩ (.int .i64 f)).setCell ⟨gc, k * 7 + 2, none⟩ (.int .i64 d)).setCell ⟨gc, k * 7 + 3, none⟩ (.int .i64 s)).setCell ⟨gc, k * 7 + 4, none⟩ (.bool r)).setCell ⟨gc, k * 7 + 5, none⟩ (.int .i64 x)).setCell ⟨gc, k * 7 + 6, none⟩ (.int .u32 m)).drew = w6 at *
  generalize fs.set i (args, code.set k (o, f, d, s, r, x, m)) = qs at *
  have HOkq := Lib.hid (fns_ok HFq.out)
  have c0 := HS6.out.c0
  rcases hM : mayP fs with _ | _
  · have HM := Lib.hid hM
    clear hM
    go_wp2_with fail
    refine (prPut_no (some y) len cap fs _ HS6.out.rows (HF.out.below HS6.out.1) HM.out).mono ?_
    rintro e w8 ⟨rfl, hg⟩
    replace HS6 := Lib.hid (HS6.out.later hg)
    replace HQ6 := Lib.hid (HQ6.out.below hg HQ6.out.lt)
    replace HFq := Lib.hid (HFq.out.below hg)
    clear hg c0
    have q0 : w8.cell? ⟨qb, 0, none⟩ = some (.slice (some ⟨gv, 0, none⟩) len cpv) := HQ6.out.cell rfl
    rcases hMq : mayP qs with _ | _
    · have HMq := Lib.hid hMq
      clear hMq
      go_wp2_with fail
      refine (prPut_no _ len cpv _ _ HS6.out.rows HFq.out HMq.out).mono ?_
      rintro e w9 ⟨rfl, hg⟩
      replace HS6 := Lib.hid (HS6.out.later hg)
      replace HQ6 := Lib.hid (HQ6.out.below hg HQ6.out.lt)
      replace HFq := Lib.hid (HFq.out.below hg)
      clear hg q0
      have q0 : w9.cell? ⟨qb, 0, none⟩ = some (.slice (some ⟨gv, 0, none⟩) len cpv) := HQ6.out.cell rfl
      have c0 := HS6.out.c0
      go_wp2_with fail
      refine (prSame_any (some y) (some y) len cap len cap fs fs _ (HF.out.below HS6.out.1) (HF.out.below HS6.out.1)).mono ?_
      rintro e w10 ⟨rfl, hg⟩
      replace HS6 := Lib.hid (HS6.out.later hg)
      replace HQ6 := Lib.hid (HQ6.out.below hg HQ6.out.lt)
      replace HFq := Lib.hid (HFq.out.below hg)
      clear hg q0 c0
      have q0 : w10.cell? ⟨qb, 0, none⟩ = some (.slice (some ⟨gv, 0, none⟩) len cpv) := HQ6.out.cell rfl
      have c0 := HS6.out.c0
      have u1 : decide (fs = fs) = true := by simp
      go_wp2_with fail
      refine (prSame_any (some y) _ len cap len cpv fs qs _ (HF.out.below HS6.out.1) HFq.out).mono ?_
      rintro e w11 ⟨rfl, hg⟩
      replace HS6 := Lib.hid (HS6.out.later hg)
      replace HQ6 := Lib.hid (HQ6.out.below hg HQ6.out.lt)
      replace HFq := Lib.hid (HFq.out.below hg)
      clear hg q0 c0
      have q0 : w11.cell? ⟨qb, 0, none⟩ = some (.slice (some ⟨gv, 0, none⟩) len cpv) := HQ6.out.cell rfl
      have c0 := HS6.out.c0
      have u2 : decide (fs = qs) = false := decide_eq_false HNq.out
      go_wp2_with fail
      refine (prSame_any _ (some y) len cpv len cap qs fs _ HFq.out (HF.out.below HS6.out.1)).mono ?_
      rintro e w12 ⟨rfl, hg⟩
      have hbe := (HS6.out.later hg).1
      clear hg q0 c0
      have u3 : decide (qs = fs) = false := decide_eq_false (fun e => HNq.out e.symm)
      go_wp2
      go_ret
      exact ⟨rfl, hbe⟩
    · have HMq := Lib.hid hMq
      clear hMq
      go_wp2_with fail
      refine (prPut_yes _ len cpv _ _ HS6.out.rows HFq.out HMq.out).mono ?_
      rintro e w9 ⟨gb, cb, rfl, hg, hgb, hb1, hb2, hBb⟩
      replace HS6 := Lib.hid (HS6.out.later hg)
      replace HQ6 := Lib.hid (HQ6.out.below hg HQ6.out.lt)
      replace HFq := Lib.hid (HFq.out.below hg)
      clear hg q0 hgb hb1 hb2 hBb
      have q0 : w9.cell? ⟨qb, 0, none⟩ = some (.slice (some ⟨gv, 0, none⟩) len cpv) := HQ6.out.cell rfl
      have c0 := HS6.out.c0
      go_wp2_with fail
      refine (prSame_any (some y) (some y) len cap len cap fs fs _ (HF.out.below HS6.out.1) (HF.out.below HS6.out.1)).mono ?_
      rintro e w10 ⟨rfl, hg⟩
      replace HS6 := Lib.hid (HS6.out.later hg)
      replace HQ6 := Lib.hid (HQ6.out.below hg HQ6.out.lt)
      replace HFq := Lib.hid (HFq.out.below hg)
      clear hg q0 c0
      have q0 : w10.cell? ⟨qb, 0, none⟩ = some (.slice (some ⟨gv, 0, none⟩) len cpv) := HQ6.out.cell rfl
      have c0 := HS6.out.c0
      have u1 : decide (fs = fs) = true := by simp
      go_wp2_with fail
      refine (prSame_any (some y) _ len cap len cpv fs qs _ (HF.out.below HS6.out.1) HFq.out).mono ?_
      rintro e w11 ⟨rfl, hg⟩
      replace HS6 := Lib.hid (HS6.out.later hg)
      replace HQ6 := Lib.hid (HQ6.out.below hg HQ6.out.lt)
      replace HFq := Lib.hid (HFq.out.below hg)
      clear hg q0 c0
      have q0 : w11.cell? ⟨qb, 0, none⟩ = some (.slice (some ⟨gv, 0, none⟩) len cpv) := HQ6.out.cell rfl
      have c0 := HS6.out.c0
      have u2 : decide (fs = qs) = false := decide_eq_false HNq.out
      go_wp2_with fail
      refine (prSame_any _ (some y) len cpv len cap qs fs _ HFq.out (HF.out.below HS6.out.1)).mono ?_
      rintro e w12 ⟨rfl, hg⟩
      have hbe := (HS6.out.later hg).1
      clear hg q0 c0
      have u3 : decide (qs = fs) = false := decide_eq_false (fun e => HNq.out e.symm)
      go_wp2
      go_ret
      exact ⟨rfl, hbe⟩
  · have HM := Lib.hid hM
    clear hM
    go_wp2_with fail
    refine (prPut_yes (some y) len cap fs _ HS6.out.rows (HF.out.below HS6.out.1) HM.out).mono ?_
    rintro e w8 ⟨ga, ca, rfl, hg, hga, ha1, ha2, hBa⟩
    have HA := Lib.hid (put_slice HOk.out HM.out ha1 ha2 hBa)
    replace HS6 := Lib.hid (HS6.out.later hg)
    replace HQ6 := Lib.hid (HQ6.out.below hg HQ6.out.lt)
    replace HFq := Lib.hid (HFq.out.below hg)
    clear hg c0 hga ha1 ha2 hBa
    have q0 : w8.cell? ⟨qb, 0, none⟩ = some (.slice (some ⟨gv, 0, none⟩) len cpv) := HQ6.out.cell rfl
    rcases hMq : mayP qs with _ | _
    · have HMq := Lib.hid hMq
      clear hMq
      go_wp2_with fail
      refine (prPut_no _ len cpv _ _ HS6.out.rows HFq.out HMq.out).mono ?_
      rintro e w9 ⟨rfl, hg⟩
      replace HS6 := Lib.hid (HS6.out.later hg)
      replace HQ6 := Lib.hid (HQ6.out.below hg HQ6.out.lt)
      replace HFq := Lib.hid (HFq.out.below hg)
      clear hg q0
      have q0 : w9.cell? ⟨qb, 0, none⟩ = some (.slice (some ⟨gv, 0, none⟩) len cpv) := HQ6.out.cell rfl
      have c0 := HS6.out.c0
      go_wp2_with fail
      refine (prSame_any (some y) (some y) len cap len cap fs fs _ (HF.out.below HS6.out.1) (HF.out.below HS6.out.1)).mono ?_
      rintro e w10 ⟨rfl, hg⟩
      replace HS6 := Lib.hid (HS6.out.later hg)
      replace HQ6 := Lib.hid (HQ6.out.below hg HQ6.out.lt)
      replace HFq := Lib.hid (HFq.out.below hg)
      clear hg q0 c0
      have q0 : w10.cell? ⟨qb, 0, none⟩ = some (.slice (some ⟨gv, 0, none⟩) len cpv) := HQ6.out.cell rfl
      have c0 := HS6.out.c0
      have u1 : decide (fs = fs) = true := by simp
      go_wp2_with fail
      refine (prSame_any (some y) _ len cap len cpv fs qs _ (HF.out.below HS6.out.1) HFq.out).mono ?_
      rintro e w11 ⟨rfl, hg⟩
      replace HS6 := Lib.hid (HS6.out.later hg)
      replace HQ6 := Lib.hid (HQ6.out.below hg HQ6.out.lt)
      replace HFq := Lib.hid (HFq.out.below hg)
      clear hg q0 c0
      have q0 : w11.cell? ⟨qb, 0, none⟩ = some (.slice (some ⟨gv, 0, none⟩) len cpv) := HQ6.out.cell rfl
      have c0 := HS6.out.c0
      have u2 : decide (fs = qs) = false := decide_eq_false HNq.out
      go_wp2_with fail
      refine (prSame_any _ (some y) len cpv len cap qs fs _ HFq.out (HF.out.below HS6.out.1)).mono ?_
      rintro e w12 ⟨rfl, hg⟩
      have hbe := (HS6.out.later hg).1
      clear hg q0 c0
      have u3 : decide (qs = fs) = false := decide_eq_false (fun e => HNq.out e.symm)
      go_wp2
      go_ret
      exact ⟨rfl, hbe⟩
    · have HMq := Lib.hid hMq
      clear hMq
      go_wp2_with fail
      refine (prPut_yes _ len cpv _ _ HS6.out.rows HFq.out HMq.out).mono ?_
      rintro e w9 ⟨gb, cb, rfl, hg, hgb, hb1, hb2, hBb⟩
      have HB := Lib.hid (put_slice HOkq.out HMq.out hb1 hb2 hBb)
      replace HA := Lib.hid (HA.out.below hg)
      replace HS6 := Lib.hid (HS6.out.later hg)
      replace HQ6 := Lib.hid (HQ6.out.below hg HQ6.out.lt)
      replace HFq := Lib.hid (HFq.out.below hg)
      clear hg q0 hgb hb1 hb2 hBb
      have HEn : Hid (encP fs ≠ encP qs) := Lib.hid (fun e => HNq.out (encP_prefix (r := []) HOk.out HOkq.out HM.out HMq.out (by rw [List.append_nil]; exact e)).2)
      have q0 : w9.cell? ⟨qb, 0, none⟩ = some (.slice (some ⟨gv, 0, none⟩) len cpv) := HQ6.out.cell rfl
      have c0 := HS6.out.c0
      have HL6 := Lib.hid HEq.out
      generalize hLa : (encP fs).length = La at *
      generalize hLb : (encP qs).length = Lb at *
      obtain rfl : Lb = La := HL6.out
      go_wp2_with fail
      refine (bytesB_any _ _ Lb ca Lb cb _ _ _ HA.out HB.out).mono ?_
      rintro e w9' ⟨rfl, hg⟩
      replace HS6 := Lib.hid (HS6.out.later hg)
      replace HQ6 := Lib.hid (HQ6.out.below hg HQ6.out.lt)
      replace HFq := Lib.hid (HFq.out.below hg)
      clear hg q0 c0 hLa hLb
      have q0 : w9'.cell? ⟨qb, 0, none⟩ = some (.slice (some ⟨gv, 0, none⟩) len cpv) := HQ6.out.cell rfl
      have c0 := HS6.out.c0
      have u0 : decide (encP fs = encP qs) = false := decide_eq_false HEn.out
      go_wp2_with fail
      refine (prSame_any (some y) (some y) len cap len cap fs fs _ (HF.out.below HS6.out.1) (HF.out.below HS6.out.1)).mono ?_
      rintro e w10 ⟨rfl, hg⟩
      replace HS6 := Lib.hid (HS6.out.later hg)
      replace HQ6 := Lib.hid (HQ6.out.below hg HQ6.out.lt)
      replace HFq := Lib.hid (HFq.out.below hg)
      clear hg q0 c0
      have q0 : w10.cell? ⟨qb, 0, none⟩ = some (.slice (some ⟨gv, 0, none⟩) len cpv) := HQ6.out.cell rfl
      have c0 := HS6.out.c0
      have u1 : decide (fs = fs) = true := by simp
      go_wp2_with fail
      refine (prSame_any (some y) _ len cap len cpv fs qs _ (HF.out.below HS6.out.1) HFq.out).mono ?_
      rintro e w11 ⟨rfl, hg⟩
      replace HS6 := Lib.hid (HS6.out.later hg)
      replace HQ6 := Lib.hid (HQ6.out.below hg HQ6.out.lt)
      replace HFq := Lib.hid (HFq.out.below hg)
      clear hg q0 c0
      have q0 : w11.cell? ⟨qb, 0, none⟩ = some (.slice (some ⟨gv, 0, none⟩) len cpv) := HQ6.out.cell rfl
      have c0 := HS6.out.c0
      have u2 : decide (fs = qs) = false := decide_eq_false HNq.out
      go_wp2_with fail
      refine (prSame_any _ (some y) len cpv len cap qs fs _ HFq.out (HF.out.below HS6.out.1)).mono ?_
      rintro e w12 ⟨rfl, hg⟩
      have hbe := (HS6.out.later hg).1
      clear hg q0 c0
      have u3 : decide (qs = fs) = false := decide_eq_false (fun e => HNq.out e.symm)
      go_wp2
      go_ret
      exact ⟨rfl, hbe⟩
end Go.Proofs.YtlbhmopmfddhjaaDoor
