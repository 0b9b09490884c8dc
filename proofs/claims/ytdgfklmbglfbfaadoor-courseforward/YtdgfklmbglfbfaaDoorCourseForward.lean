/-
  What is next is further on, at most two places; what is reached is the beginning, or next of what is: law CourseForward returns true for every code.
  Conditions: none; the package variable that the law reads starts as its initialiser lays it (the card ties it).
-/
import Derived.Test.YtdgfklmbglfbfaaDoorRows
import Derived.Test.YtdgfklmbglfbfaaDoorCards
import Derived.Test.YtdgfklmbglfbfaaDoorTie
import Derived.Test.YtdgfklmbglfbfaaDoorD4
import Derived.WalkKit
import Derived.ProofKit
import Derived.OpenShut
import Derived.ChangeOld
import Derived.Below
import Derived.SevenTiedAt
namespace Go.Proofs.YtdgfklmbglfbfaaDoor.courseForward
open Go.ChangeShapes Go.WideShapes Go.ChangeAt Go.RowKit
set_option linter.unusedVariables false

def fromP (c : List I) (k q : Nat) : Bool := decide (k = 0) || (List.range q).any (fun j => rch c j && decide (k ∈ sucC c j))
def fromJ (c : List I) (k q j : Nat) : Bool := fromP c k q || (rch c q && decide (k ∈ (sucC c q).take j))
theorem zero_eqB (k : Nat) : ((k : Int) == 0) = decide (k = 0) := by
  rw [Bool.eq_iff_iff]
  simp
theorem fromP_zero (c : List I) (k : Nat) : fromP c k 0 = decide (k = 0) := by simp [fromP]
theorem fromP_end (c : List I) (k : Nat) : fromP c k k = rch c k := (rch_eq c k).symm
theorem fromJ_zero (c : List I) (k q : Nat) : fromJ c k q 0 = fromP c k q := by simp [fromJ]
theorem fromJ_end (c : List I) (k q : Nat) : fromJ c k q (sucC c q).length = fromP c k (q + 1) := by
  rw [fromJ, List.take_of_length_le (Nat.le_refl _), fromP, fromP, List.range_succ, List.any_append]
  simp [Bool.or_assoc]
theorem fromJ_step {c : List I} {k q j t : Nat} (hj : j < (sucC c q).length) (ht : (sucC c q).getD j 0 = t) : fromJ c k q (j + 1) = (fromJ c k q j || (rch c q && decide (t = k))) := by
  rw [fromJ, fromJ, take_getD _ j 0 hj, ht]
  simp only [List.mem_append, List.mem_singleton, Bool.decide_or]
  have e : decide (k = t) = decide (t = k) := by congr 1; exact propext ⟨Eq.symm, Eq.symm⟩
  rw [e]
  cases fromP c k q <;> cases rch c q <;> cases decide (k ∈ List.take j (sucC c q)) <;> cases decide (t = k) <;> rfl
theorem bools_at {W : World} {y : Addr} {l cp : Nat} {c : List I} (h : BoolsAt W (some y) l cp ((List.range l).map (rch c))) {q : Nat} (hq : q < l) : W.cell? (y.add q) = some (.bool (rch c q)) := by
  obtain ⟨y', e, h1⟩ := h.2.2.2.resolve_left (by omega)
  obtain rfl := Option.some.inj e
  rw [h1 q hq]
  simp [List.getD_eq_getElem?_getD, hq]
set_option maxRecDepth 100000 in
set_option maxHeartbeats 16000000 in
theorem walk (a0 : Option Addr) (len0 cap0 : Nat) (c0 : List I) (w : World) (hR : RowsIn w) (w0 : CodeAt w a0 len0 cap0 c0) :
    Calls Tryd.prog 4 #[.slice a0 len0 cap0] w fun e w' => e = .returned (.bool true) ∧ Below w.heap.size w w' := by
  have hmx := code_max w0
  have H := Lib.hid w0
  have H1 := Lib.hid w0.1
  have HR0 := Lib.hid hR
  clear w0
  go_enter Tryd.func4, Tryd.ntmps4
  go_wp2_with fail
  refine (awake_any _ HR0.out).mono ?_
  rintro e m1 ⟨rfl, hb1⟩
  have HB1 := Lib.hid hb1
  have HR1 := Lib.hid (HR0.out.later hb1)
  clear hb1 hR
  by_cases h80 : 80 < len0
  · have h80I : (80 : Int) < (len0 : Int) := by omega
    go_wp2
    go_ret
    exact ⟨rfl, HB1.out⟩
  have h80I : ¬ (80 : Int) < (len0 : Int) := by omega
  go_wp2_with fail
  have k2 := reach_any a0 len0 cap0 c0 m1 HR1.out (H.out.below HB1.out)
  obtain ⟨TS, hTS⟩ : ∃ TS, reachP c0 = TS := ⟨_, rfl⟩
  rw [hTS] at k2
  have HTS := Lib.hid hTS
  clear hTS
  refine k2.mono ?_
  rintro e m3 ⟨b, l, cp, rfl, hb3, hB3⟩
  have HB3 := Lib.hid (HB1.out.trans (hb3.mono HB1.out.size))
  have HR3 := Lib.hid (HR1.out.later hb3)
  have HRe := Lib.hid hB3
  have hlm := hB3.max
  clear k2 hb3 HB1 HR1 hB3
  rcases hQ : codeB c0 with _ | _
  · have HQ := Lib.hid hQ
    have HT : Hid (TS = []) := Lib.hid (by rw [← HTS.out, reachP, hQ]; simp)
    have hl0 : l = 0 := by have := HRe.out.1; rw [HT.out] at this; simpa using this.symm
    subst hl0
    have HNx : Hid (∀ z, nextP c0 z = []) := Lib.hid (fun z => by rw [nextP, HQ.out]; simp)
    clear hQ
    go_wp2_with fail
    go_loopw [5] (fun i wr => i = .int .i64 0 ∧ wr = m3) (fun _ _ => 0)
    case atStart => exact ⟨rfl, rfl⟩
    case round =>
      obtain ⟨rfl, rfl⟩ := hrel
      go_wp2_with fail
      have n1 := next_any a0 len0 cap0 c0 (-1) wr HR3.out (H.out.below HB3.out)
      rw [HNx.out] at n1
      refine n1.mono ?_
      rintro e p1 ⟨b5, l5, cp5, rfl, hb5, hI5, _⟩
      obtain rfl : l5 = 0 := by have := hI5.1; simpa using this.symm
      have HB5 := Lib.hid (HB3.out.trans (hb5.mono HB3.out.size))
      have HR5 := Lib.hid (HR3.out.later hb5)
      clear n1 hb5 hI5
      go_wp2_with fail
      have n2 := next_any a0 len0 cap0 c0 (len0 : Int) p1 HR5.out (H.out.below HB5.out)
      rw [HNx.out] at n2
      refine n2.mono ?_
      rintro e p2 ⟨b6, l6, cp6, rfl, hb6, hI6, _⟩
      obtain rfl : l6 = 0 := by have := hI6.1; simpa using this.symm
      have HB6 := Lib.hid (HB5.out.trans (hb6.mono HB5.out.size))
      clear n2 hb6 hI6
      go_wp2_with fail
      go_ret
      exact ⟨rfl, HB6.out⟩
  · have HQ := Lib.hid hQ
    have HT : Hid (TS = (List.range len0).map (rch c0)) := Lib.hid (by rw [← HTS.out, reachP, hQ, H1.out]; simp)
    obtain rfl : l = len0 := by have := HRe.out.1; rw [HT.out] at this; simpa using this.symm
    have hl1 : 0 < l := by have := (codeB_len hQ).1; have := H1.out; omega
    have HNx : Hid (∀ z, (z < 0 ∨ (l : Int) ≤ z) → nextP c0 z = []) := Lib.hid (fun z hz => by rw [nextP, H1.out, if_neg (by omega)])
    obtain ⟨y0, rfl, hy0⟩ := HRe.out.2.2.2.resolve_left (by omega)
    have hc0 := hy0 0 hl1
    rw [HT.out] at hc0
    rw [show ((List.range l).map (rch c0)).getD 0 false = true by rw [← rch_zero c0]; simp [List.getD_eq_getElem?_getD, hl1], Addr.add_zero'] at hc0
    have hll : ((l : Int) != (l : Int)) = false := by simp
    have hl1I : (0 : Int) < (l : Int) := by omega
    clear hQ hy0
    go_wp2_with fail
    clear hc0
    go_loopw [5] (fun i wr => ∃ k : Nat, k ≤ l ∧ i = .int .i64 k ∧ Hid (Below w.heap.size w wr ∧ RowsIn wr ∧ BoolsAt wr (some y0) l cp TS)) (fun i _ => l - (intOf i).toNat)
    case atStart => exact ⟨0, by omega, rfl, Lib.hid ⟨HB3.out, HR3.out, HRe.out⟩⟩
    case round =>
      obtain ⟨k, hk, rfl, HS⟩ := hrel
      clear HB3 HR3 HRe
      have hk0 : (0 : Int) ≤ (k : Int) := Int.natCast_nonneg _
      by_cases hkl : k < l
      · have hkI : (k : Int) < (l : Int) := by omega
        have k4 := next_any a0 l cap0 c0 (k : Int) wr HS.out.2.1 (H.out.below HS.out.1)
        rw [show nextP c0 (k : Int) = castL (sucC c0 k) by rw [nextP, if_pos ⟨HQ.out, by omega, by rw [H1.out]; omega⟩]; rfl] at k4
        go_wp2_with fail
        refine k4.mono ?_
        rintro e' m4 ⟨b4, l4, cp4, rfl, hb4, hI4, _⟩
        have HS4 : Hid (Below w.heap.size w m4 ∧ RowsIn m4 ∧ BoolsAt m4 (some y0) l cp TS) := Lib.hid ⟨HS.out.1.trans (hb4.mono HS.out.1.size), HS.out.2.1.later hb4, HS.out.2.2.below hb4⟩
        have HI4 := Lib.hid hI4
        have hls : (sucC c0 k).length = l4 := by rw [← castL_len]; exact hI4.1
        have HLs := Lib.hid hls
        have hl42 : l4 ≤ 2 := by rw [← hls]; exact sucP_len _ _
        have hre := (hI4.2.2.2)
        clear k4 hb4 hI4 HS
        -- the test of what is next
        have HSt : Hid (∀ W : World, True) := Lib.hid (fun _ => trivial)
        rcases (show l4 = 0 ∨ l4 = 1 ∨ l4 = 2 by omega) with h4 | h4 | h4
        · subst h4
          clear hre hls
          go_wp2_with fail
          go_quiet (fail)
          have hbq : Below m4.heap.size m4 (m4.drewN nq) := below_of_quiet ⟨nq, rfl⟩
          have HS5 : Hid (Below w.heap.size w (m4.drewN nq) ∧ RowsIn (m4.drewN nq) ∧ BoolsAt (m4.drewN nq) (some y0) l cp TS) := Lib.hid ⟨HS4.out.1.trans (hbq.mono HS4.out.1.size), HS4.out.2.1.later hbq, HS4.out.2.2.below hbq⟩
          generalize hm5 : m4.drewN nq = m5 at *
          clear hm5 hbq HI4
          go_wp2_with fail
          go_loopw [7, 8] (fun f i2 wr => ∃ q : Nat, q ≤ k ∧ f = .bool (fromP c0 k q) ∧ i2 = .int .i64 q ∧ Hid (Below w.heap.size w wr ∧ RowsIn wr ∧ BoolsAt wr (some y0) l cp TS)) (fun _ i2 _ => k - (intOf i2).toNat)
          case atStart => exact ⟨0, by omega, by rw [fromP_zero, ← zero_eqB], rfl, HS5⟩
          case round =>
            obtain ⟨q, hq, rfl, rfl, HS6⟩ := hrel
            have hq0 : (0 : Int) ≤ (q : Int) := Int.natCast_nonneg _
            by_cases hqk : q < k
            · have hqI : (q : Int) < (k : Int) := by omega
              have k6 := next_any a0 l cap0 c0 (q : Int) wr HS6.out.2.1 (H.out.below HS6.out.1)
              rw [show nextP c0 (q : Int) = castL (sucC c0 q) by rw [nextP, if_pos ⟨HQ.out, by omega, by rw [H1.out]; omega⟩]; rfl] at k6
              go_wp2_with fail
              refine k6.mono ?_
              rintro e' m6 ⟨b6, l6, cp6, rfl, hb6, hI6, _⟩
              have HS7 : Hid (Below w.heap.size w m6 ∧ RowsIn m6 ∧ BoolsAt m6 (some y0) l cp TS) := Lib.hid ⟨HS6.out.1.trans (hb6.mono HS6.out.1.size), HS6.out.2.1.later hb6, HS6.out.2.2.below hb6⟩
              have HI6 := Lib.hid hI6
              have HL6 : Hid ((sucC c0 q).length = l6) := Lib.hid (by rw [← castL_len]; exact hI6.1)
              have hlm6 := hI6.max
              clear k6 hb6 hI6 HS6
              obtain ⟨v, hv⟩ : ∃ v, rch c0 q = v := ⟨_, rfl⟩
              have HV := Lib.hid hv
              have hcq := bools_at (c := c0) (W := m6) (y := y0) (l := l) (cp := cp) (by rw [← HT.out]; exact HS7.out.2.2) (q := q) (by omega)
              rw [hv] at hcq
              have hql : (q : Int) < (l : Int) := by omega
              clear hv
              go_wp2_with fail
              go_loopw [7, 10] (fun f i3 wr2 => ∃ j : Nat, j ≤ l6 ∧ f = .bool (fromJ c0 k q j) ∧ i3 = .int .i64 j ∧ wr2 = m6) (fun _ i3 _ => l6 - (intOf i3).toNat)
              case atStart => exact ⟨0, by omega, by rw [fromJ_zero], rfl, rfl⟩
              case round =>
                obtain ⟨j, hj, rfl, rfl, rfl⟩ := hrel
                have hj0 : (0 : Int) ≤ (j : Int) := Int.natCast_nonneg _
                by_cases hjl : j < l6
                · have hjI : (j : Int) < (l6 : Int) := by omega
                  obtain ⟨y6, rfl, hy6⟩ := HI6.out.2.2.2.resolve_left (by omega)
                  have hc6 := hy6 j hjl
                  rw [castL_getD] at hc6
                  obtain ⟨t, ht⟩ : ∃ t, (sucC c0 q).getD j 0 = t := ⟨_, rfl⟩
                  rw [ht] at hc6
                  have HStp : Hid (fromJ c0 k q (j + 1) = (fromJ c0 k q j || (v && decide (t = k)))) := Lib.hid (by rw [← HV.out]; exact fromJ_step (by rw [HL6.out]; exact hjl) ht)
                  obtain ⟨u, hu⟩ : ∃ u, fromJ c0 k q j = u := ⟨_, rfl⟩
                  rw [hu] at HStp
                  rw [hu]
                  clear ht hy6 hu
                  cases u
                  · cases v
                    · go_wp2_with fail
                      exact ⟨⟨j + 1, by omega, by rw [HStp.out]; rfl, by go_num, by trivial⟩, by simp [intOf]; omega⟩
                    · by_cases htk : t = k
                      · have htb : ((t : Int) == (k : Int)) = true := by simp; omega
                        have HE9 : Hid (fromJ c0 k q (j + 1) = true) := Lib.hid (by rw [HStp.out]; simp [htk])
                        clear htk HStp
                        go_wp2_with fail
                        exact ⟨⟨j + 1, by omega, by rw [HE9.out], by go_num, by trivial⟩, by simp [intOf]; omega⟩
                      · have htb : ((t : Int) == (k : Int)) = false := by simp; omega
                        have HE9 : Hid (fromJ c0 k q (j + 1) = false) := Lib.hid (by rw [HStp.out]; simp [htk])
                        go_wp2_with fail
                        exact ⟨⟨j + 1, by omega, by rw [HE9.out], by go_num, by trivial⟩, by simp [intOf]; omega⟩
                  · go_wp2_with fail
                    exact ⟨⟨j + 1, by omega, by rw [HStp.out]; rfl, by go_num, by trivial⟩, by simp [intOf]; omega⟩
                · have hjI : ¬ (j : Int) < (l6 : Int) := by omega
                  have hje : j = (sucC c0 q).length := by rw [HL6.out]; omega
                  have HEn : Hid (fromJ c0 k q j = fromP c0 k (q + 1)) := Lib.hid (by rw [hje]; exact fromJ_end c0 k q)
                  clear hje
                  go_wp2_with fail
                  exact ⟨⟨q + 1, by omega, by rw [HEn.out], by go_num, HS7⟩, by simp [intOf]; omega⟩
            · have hqI : ¬ (q : Int) < (k : Int) := by omega
              have hqe : q = k := by omega
              have HEn : Hid (fromP c0 k q = rch c0 k) := Lib.hid (by rw [hqe]; exact fromP_end c0 k)
              have hck := bools_at (c := c0) (W := wr) (y := y0) (l := l) (cp := cp) (by rw [← HT.out]; exact HS6.out.2.2) (q := k) hkl
              rw [HEn.out]
              clear hqe
              obtain ⟨v, hv⟩ : ∃ v, rch c0 k = v := ⟨_, rfl⟩
              rw [hv] at hck ⊢
              clear hv
              have hvv : (v != v) = false := by simp
              go_wp2_with fail
              exact ⟨⟨k + 1, by omega, by go_num, HS6⟩, by simp [intOf]; omega⟩
        · subst h4
          obtain ⟨y4, rfl, hy4⟩ := hre.resolve_left (by omega)
          have e0 := hy4 0 (by omega)
          rw [castL_getD, Addr.add_zero'] at e0
          obtain ⟨t0, ht0⟩ : ∃ t0, (sucC c0 k).getD 0 0 = t0 := ⟨_, rfl⟩
          have hlt : k < t0 := by rw [← ht0]; exact sucP_lt (getD_mem' (ts := sucC c0 k) (by omega))
          rw [ht0] at e0
          have htL : decide (t0 ≤ k) = false := decide_eq_false (by omega)
          clear hy4 hls ht0 hlt
          go_wp2_with fail
          go_quiet (fail)
          have hbq : Below m4.heap.size m4 (m4.drewN nq) := below_of_quiet ⟨nq, rfl⟩
          have HS5 : Hid (Below w.heap.size w (m4.drewN nq) ∧ RowsIn (m4.drewN nq) ∧ BoolsAt (m4.drewN nq) (some y0) l cp TS) := Lib.hid ⟨HS4.out.1.trans (hbq.mono HS4.out.1.size), HS4.out.2.1.later hbq, HS4.out.2.2.below hbq⟩
          generalize hm5 : m4.drewN nq = m5 at *
          clear hm5 hbq HI4
          go_wp2_with fail
          go_loopw [7, 8] (fun f i2 wr => ∃ q : Nat, q ≤ k ∧ f = .bool (fromP c0 k q) ∧ i2 = .int .i64 q ∧ Hid (Below w.heap.size w wr ∧ RowsIn wr ∧ BoolsAt wr (some y0) l cp TS)) (fun _ i2 _ => k - (intOf i2).toNat)
          case atStart => exact ⟨0, by omega, by rw [fromP_zero, ← zero_eqB], rfl, HS5⟩
          case round =>
            obtain ⟨q, hq, rfl, rfl, HS6⟩ := hrel
            have hq0 : (0 : Int) ≤ (q : Int) := Int.natCast_nonneg _
            by_cases hqk : q < k
            · have hqI : (q : Int) < (k : Int) := by omega
              have k6 := next_any a0 l cap0 c0 (q : Int) wr HS6.out.2.1 (H.out.below HS6.out.1)
              rw [show nextP c0 (q : Int) = castL (sucC c0 q) by rw [nextP, if_pos ⟨HQ.out, by omega, by rw [H1.out]; omega⟩]; rfl] at k6
              go_wp2_with fail
              refine k6.mono ?_
              rintro e' m6 ⟨b6, l6, cp6, rfl, hb6, hI6, _⟩
              have HS7 : Hid (Below w.heap.size w m6 ∧ RowsIn m6 ∧ BoolsAt m6 (some y0) l cp TS) := Lib.hid ⟨HS6.out.1.trans (hb6.mono HS6.out.1.size), HS6.out.2.1.later hb6, HS6.out.2.2.below hb6⟩
              have HI6 := Lib.hid hI6
              have HL6 : Hid ((sucC c0 q).length = l6) := Lib.hid (by rw [← castL_len]; exact hI6.1)
              have hlm6 := hI6.max
              clear k6 hb6 hI6 HS6
              obtain ⟨v, hv⟩ : ∃ v, rch c0 q = v := ⟨_, rfl⟩
              have HV := Lib.hid hv
              have hcq := bools_at (c := c0) (W := m6) (y := y0) (l := l) (cp := cp) (by rw [← HT.out]; exact HS7.out.2.2) (q := q) (by omega)
              rw [hv] at hcq
              have hql : (q : Int) < (l : Int) := by omega
              clear hv
              go_wp2_with fail
              go_loopw [7, 10] (fun f i3 wr2 => ∃ j : Nat, j ≤ l6 ∧ f = .bool (fromJ c0 k q j) ∧ i3 = .int .i64 j ∧ wr2 = m6) (fun _ i3 _ => l6 - (intOf i3).toNat)
              case atStart => exact ⟨0, by omega, by rw [fromJ_zero], rfl, rfl⟩
              case round =>
                obtain ⟨j, hj, rfl, rfl, rfl⟩ := hrel
                have hj0 : (0 : Int) ≤ (j : Int) := Int.natCast_nonneg _
                by_cases hjl : j < l6
                · have hjI : (j : Int) < (l6 : Int) := by omega
                  obtain ⟨y6, rfl, hy6⟩ := HI6.out.2.2.2.resolve_left (by omega)
                  have hc6 := hy6 j hjl
                  rw [castL_getD] at hc6
                  obtain ⟨t, ht⟩ : ∃ t, (sucC c0 q).getD j 0 = t := ⟨_, rfl⟩
                  rw [ht] at hc6
                  have HStp : Hid (fromJ c0 k q (j + 1) = (fromJ c0 k q j || (v && decide (t = k)))) := Lib.hid (by rw [← HV.out]; exact fromJ_step (by rw [HL6.out]; exact hjl) ht)
                  obtain ⟨u, hu⟩ : ∃ u, fromJ c0 k q j = u := ⟨_, rfl⟩
                  rw [hu] at HStp
                  rw [hu]
                  clear ht hy6 hu
                  cases u
                  · cases v
                    · go_wp2_with fail
                      exact ⟨⟨j + 1, by omega, by rw [HStp.out]; rfl, by go_num, by trivial⟩, by simp [intOf]; omega⟩
                    · by_cases htk : t = k
                      · have htb : ((t : Int) == (k : Int)) = true := by simp; omega
                        have HE9 : Hid (fromJ c0 k q (j + 1) = true) := Lib.hid (by rw [HStp.out]; simp [htk])
                        clear htk HStp
                        go_wp2_with fail
                        exact ⟨⟨j + 1, by omega, by rw [HE9.out], by go_num, by trivial⟩, by simp [intOf]; omega⟩
                      · have htb : ((t : Int) == (k : Int)) = false := by simp; omega
                        have HE9 : Hid (fromJ c0 k q (j + 1) = false) := Lib.hid (by rw [HStp.out]; simp [htk])
                        go_wp2_with fail
                        exact ⟨⟨j + 1, by omega, by rw [HE9.out], by go_num, by trivial⟩, by simp [intOf]; omega⟩
                  · go_wp2_with fail
                    exact ⟨⟨j + 1, by omega, by rw [HStp.out]; rfl, by go_num, by trivial⟩, by simp [intOf]; omega⟩
                · have hjI : ¬ (j : Int) < (l6 : Int) := by omega
                  have hje : j = (sucC c0 q).length := by rw [HL6.out]; omega
                  have HEn : Hid (fromJ c0 k q j = fromP c0 k (q + 1)) := Lib.hid (by rw [hje]; exact fromJ_end c0 k q)
                  clear hje
                  go_wp2_with fail
                  exact ⟨⟨q + 1, by omega, by rw [HEn.out], by go_num, HS7⟩, by simp [intOf]; omega⟩
            · have hqI : ¬ (q : Int) < (k : Int) := by omega
              have hqe : q = k := by omega
              have HEn : Hid (fromP c0 k q = rch c0 k) := Lib.hid (by rw [hqe]; exact fromP_end c0 k)
              have hck := bools_at (c := c0) (W := wr) (y := y0) (l := l) (cp := cp) (by rw [← HT.out]; exact HS6.out.2.2) (q := k) hkl
              rw [HEn.out]
              clear hqe
              obtain ⟨v, hv⟩ : ∃ v, rch c0 k = v := ⟨_, rfl⟩
              rw [hv] at hck ⊢
              clear hv
              have hvv : (v != v) = false := by simp
              go_wp2_with fail
              exact ⟨⟨k + 1, by omega, by go_num, HS6⟩, by simp [intOf]; omega⟩
        · subst h4
          obtain ⟨y4, rfl, hy4⟩ := hre.resolve_left (by omega)
          have e0 := hy4 0 (by omega)
          have e1 := hy4 1 (by omega)
          rw [castL_getD, Addr.add_zero'] at e0
          rw [castL_getD, add_add_cell _ 1 (by omega)] at e1
          obtain ⟨t0, ht0⟩ : ∃ t0, (sucC c0 k).getD 0 0 = t0 := ⟨_, rfl⟩
          obtain ⟨t1, ht1⟩ : ∃ t1, (sucC c0 k).getD 1 0 = t1 := ⟨_, rfl⟩
          have hlt : k < t0 := by rw [← ht0]; exact sucP_lt (getD_mem' (ts := sucC c0 k) (by omega))
          have hinc : t0 < t1 := by rw [← ht0, ← ht1]; exact sucP_inc hls
          rw [ht0] at e0
          rw [ht1] at e1
          have htK : decide (t1 ≤ t0) = false := decide_eq_false (by omega)
          have htL : decide (t0 ≤ k) = false := decide_eq_false (by omega)
          clear hy4 hls ht0 ht1 hlt hinc
          go_wp2_with fail
          go_quiet (fail)
          have hbq : Below m4.heap.size m4 (m4.drewN nq) := below_of_quiet ⟨nq, rfl⟩
          have HS5 : Hid (Below w.heap.size w (m4.drewN nq) ∧ RowsIn (m4.drewN nq) ∧ BoolsAt (m4.drewN nq) (some y0) l cp TS) := Lib.hid ⟨HS4.out.1.trans (hbq.mono HS4.out.1.size), HS4.out.2.1.later hbq, HS4.out.2.2.below hbq⟩
          generalize hm5 : m4.drewN nq = m5 at *
          clear hm5 hbq HI4
          go_wp2_with fail
          go_loopw [7, 8] (fun f i2 wr => ∃ q : Nat, q ≤ k ∧ f = .bool (fromP c0 k q) ∧ i2 = .int .i64 q ∧ Hid (Below w.heap.size w wr ∧ RowsIn wr ∧ BoolsAt wr (some y0) l cp TS)) (fun _ i2 _ => k - (intOf i2).toNat)
          case atStart => exact ⟨0, by omega, by rw [fromP_zero, ← zero_eqB], rfl, HS5⟩
          case round =>
            obtain ⟨q, hq, rfl, rfl, HS6⟩ := hrel
            have hq0 : (0 : Int) ≤ (q : Int) := Int.natCast_nonneg _
            by_cases hqk : q < k
            · have hqI : (q : Int) < (k : Int) := by omega
              have k6 := next_any a0 l cap0 c0 (q : Int) wr HS6.out.2.1 (H.out.below HS6.out.1)
              rw [show nextP c0 (q : Int) = castL (sucC c0 q) by rw [nextP, if_pos ⟨HQ.out, by omega, by rw [H1.out]; omega⟩]; rfl] at k6
              go_wp2_with fail
              refine k6.mono ?_
              rintro e' m6 ⟨b6, l6, cp6, rfl, hb6, hI6, _⟩
              have HS7 : Hid (Below w.heap.size w m6 ∧ RowsIn m6 ∧ BoolsAt m6 (some y0) l cp TS) := Lib.hid ⟨HS6.out.1.trans (hb6.mono HS6.out.1.size), HS6.out.2.1.later hb6, HS6.out.2.2.below hb6⟩
              have HI6 := Lib.hid hI6
              have HL6 : Hid ((sucC c0 q).length = l6) := Lib.hid (by rw [← castL_len]; exact hI6.1)
              have hlm6 := hI6.max
              clear k6 hb6 hI6 HS6
              obtain ⟨v, hv⟩ : ∃ v, rch c0 q = v := ⟨_, rfl⟩
              have HV := Lib.hid hv
              have hcq := bools_at (c := c0) (W := m6) (y := y0) (l := l) (cp := cp) (by rw [← HT.out]; exact HS7.out.2.2) (q := q) (by omega)
              rw [hv] at hcq
              have hql : (q : Int) < (l : Int) := by omega
              clear hv
              go_wp2_with fail
              go_loopw [7, 10] (fun f i3 wr2 => ∃ j : Nat, j ≤ l6 ∧ f = .bool (fromJ c0 k q j) ∧ i3 = .int .i64 j ∧ wr2 = m6) (fun _ i3 _ => l6 - (intOf i3).toNat)
              case atStart => exact ⟨0, by omega, by rw [fromJ_zero], rfl, rfl⟩
              case round =>
                obtain ⟨j, hj, rfl, rfl, rfl⟩ := hrel
                have hj0 : (0 : Int) ≤ (j : Int) := Int.natCast_nonneg _
                by_cases hjl : j < l6
                · have hjI : (j : Int) < (l6 : Int) := by omega
                  obtain ⟨y6, rfl, hy6⟩ := HI6.out.2.2.2.resolve_left (by omega)
                  have hc6 := hy6 j hjl
                  rw [castL_getD] at hc6
                  obtain ⟨t, ht⟩ : ∃ t, (sucC c0 q).getD j 0 = t := ⟨_, rfl⟩
                  rw [ht] at hc6
                  have HStp : Hid (fromJ c0 k q (j + 1) = (fromJ c0 k q j || (v && decide (t = k)))) := Lib.hid (by rw [← HV.out]; exact fromJ_step (by rw [HL6.out]; exact hjl) ht)
                  obtain ⟨u, hu⟩ : ∃ u, fromJ c0 k q j = u := ⟨_, rfl⟩
                  rw [hu] at HStp
                  rw [hu]
                  clear ht hy6 hu
                  cases u
                  · cases v
                    · go_wp2_with fail
                      exact ⟨⟨j + 1, by omega, by rw [HStp.out]; rfl, by go_num, by trivial⟩, by simp [intOf]; omega⟩
                    · by_cases htk : t = k
                      · have htb : ((t : Int) == (k : Int)) = true := by simp; omega
                        have HE9 : Hid (fromJ c0 k q (j + 1) = true) := Lib.hid (by rw [HStp.out]; simp [htk])
                        clear htk HStp
                        go_wp2_with fail
                        exact ⟨⟨j + 1, by omega, by rw [HE9.out], by go_num, by trivial⟩, by simp [intOf]; omega⟩
                      · have htb : ((t : Int) == (k : Int)) = false := by simp; omega
                        have HE9 : Hid (fromJ c0 k q (j + 1) = false) := Lib.hid (by rw [HStp.out]; simp [htk])
                        go_wp2_with fail
                        exact ⟨⟨j + 1, by omega, by rw [HE9.out], by go_num, by trivial⟩, by simp [intOf]; omega⟩
                  · go_wp2_with fail
                    exact ⟨⟨j + 1, by omega, by rw [HStp.out]; rfl, by go_num, by trivial⟩, by simp [intOf]; omega⟩
                · have hjI : ¬ (j : Int) < (l6 : Int) := by omega
                  have hje : j = (sucC c0 q).length := by rw [HL6.out]; omega
                  have HEn : Hid (fromJ c0 k q j = fromP c0 k (q + 1)) := Lib.hid (by rw [hje]; exact fromJ_end c0 k q)
                  clear hje
                  go_wp2_with fail
                  exact ⟨⟨q + 1, by omega, by rw [HEn.out], by go_num, HS7⟩, by simp [intOf]; omega⟩
            · have hqI : ¬ (q : Int) < (k : Int) := by omega
              have hqe : q = k := by omega
              have HEn : Hid (fromP c0 k q = rch c0 k) := Lib.hid (by rw [hqe]; exact fromP_end c0 k)
              have hck := bools_at (c := c0) (W := wr) (y := y0) (l := l) (cp := cp) (by rw [← HT.out]; exact HS6.out.2.2) (q := k) hkl
              rw [HEn.out]
              clear hqe
              obtain ⟨v, hv⟩ : ∃ v, rch c0 k = v := ⟨_, rfl⟩
              rw [hv] at hck ⊢
              clear hv
              have hvv : (v != v) = false := by simp
              go_wp2_with fail
              exact ⟨⟨k + 1, by omega, by go_num, HS6⟩, by simp [intOf]; omega⟩
      · have hkI : ¬ (k : Int) < (l : Int) := by omega
        go_wp2_with fail
        have n1 := next_any a0 l cap0 c0 (-1) wr HS.out.2.1 (H.out.below HS.out.1)
        rw [HNx.out (-1) (.inl (by omega))] at n1
        refine n1.mono ?_
        rintro e p1 ⟨b5, l5, cp5, rfl, hb5, hI5, _⟩
        obtain rfl : l5 = 0 := by have := hI5.1; simpa using this.symm
        have HB5 := Lib.hid (HS.out.1.trans (hb5.mono HS.out.1.size))
        have HR5 := Lib.hid (HS.out.2.1.later hb5)
        clear n1 hb5 hI5
        go_wp2_with fail
        have n2 := next_any a0 l cap0 c0 (l : Int) p1 HR5.out (H.out.below HB5.out)
        rw [HNx.out (l : Int) (.inr (by omega))] at n2
        refine n2.mono ?_
        rintro e p2 ⟨b6, l6, cp6, rfl, hb6, hI6, _⟩
        obtain rfl : l6 = 0 := by have := hI6.1; simpa using this.symm
        have HB6 := Lib.hid (HB5.out.trans (hb6.mono HB5.out.size))
        clear n2 hb6 hI6
        go_wp2_with fail
        go_ret
        exact ⟨rfl, HB6.out⟩


theorem own : ownKnob Tryd.prog.godebug = none := by kernel_rfl
theorem laidOut : laidOutB Tryd.prog = true := by kernel_rfl
theorem door_met (os : Os) (args : Array Value) : laidMetH Tryd.prog laidL ((World.doorLaid Tryd.prog 400 os).forCall (fun _ _ => 0) ⟨#[], args, []⟩).memory :=
  laidMetH_of_parts3 (fuel := 8) (laidMet_of_run' 8 (by kernel_rfl) (by kernel_rfl)) (by kernel_rfl) (by kernel_rfl)
set_option maxRecDepth 100000 in
theorem lifted (os : Os) (started : os.Started) (H : Type) (enc : TypeId × Value → H) :
    ReturnsInHanded {} Tryd.checked os 4 .any (fun w args => (Rows.courseForwardSpec.pre enc Tryd.prog Tryd.f4 [] false w args ∧ laidMetH Tryd.prog laidL w) ∧ sizedMet enc Tryd.prog Tryd.f4 (OpenSpec.ofChange Rows.courseForwardSpec) false w args)
      (Rows.courseForwardSpec.post enc Tryd.prog Tryd.f4 false true false false) := by
  refine returnsInHanded_of_change_and (C := Tryd.checked) (X := fun w _ => laidMetH Tryd.prog laidL w) (fun _ _ _ hh h => h.of_heap hh) own started (by kernel_rfl) Tryd.func4
    (ChangeSpec.witness_shaped (enc := enc) (C := Tryd.checked) (os := os) (X := fun w _ => laidMetH Tryd.prog laidL w) false (World.doorLaid Tryd.prog 400 os) #[.slice none 0 0] 8 rfl (World.shaped_of_RefB (by kernel_rfl) (by kernel_rfl)) (by kernel_rfl) (by kernel_rfl) (by kernel_rfl) (door_met os _)) ?_
  intro W base args ds gs before hval0 hW _ _ hL _
  have hval : ∀ (j : Nat) t v, Tryd.f4.params[j]? = some t → args[j]? = some v → Value.okWide Tryd.prog W .any base t v := hval0
  have hW' := hW
  obtain ⟨p, q, hA0, hV, rfl, hfz, hnd⟩ := hW
  have hA : DataW.TrodAll enc Tryd.prog W 0 (fun _ => true) true Tryd.f4.params.toList args.toList ds p := hA0
  rw [Tryd.params4] at hA hval
  obtain ⟨v0, vs0, e0, ds0, p0, q0, hargs, rfl, rfl, h0, t0⟩ := trodAll_cons hA
  obtain ⟨rfl, rfl, rfl⟩ := trodAll_nil t0
  obtain rfl : args = #[v0] := by cases args; simp_all
  obtain ⟨rfl, rfl⟩ := trodVars_none hV
  have k0 := h0
  have lt0 : ∀ x ∈ p0, x.block < W.heap.size := by obtain ⟨m, hm⟩ := k0; exact DataW.trod_lt m _ _ _ hm
  obtain ⟨a0, len0, cap0, c0, rfl, w0⟩ := open_code (hval 0 22 v0 rfl rfl) h0
  clear hA0 hval0
  refine (walk a0 len0 cap0 c0 W (rows_of_laid hL) w0).mono fun e W' ⟨he, bel⟩ => ?_
  subst he
  exact ⟨_, rfl, _, _, _, [], _, [], hW', trodAll_mk1 (shut_bool Tryd.underlying4 _), (trodAll_cons_mk (Below.trod laidOut (by kernel_rfl) (of_decide_eq_true (by kernel_rfl)) k0 bel lt0) trodAll_mk0), rfl, bel.frame _, fun h => by cases h⟩

theorem over : Rows.courseForwardRow.holds Tryd.pinned (OpenSpec.ofChange Rows.courseForwardSpec) :=
  OpenClaim.holds_of_wide 4 Tryd.f4 rfl rfl rfl rfl rfl rfl rfl ⟨rfl, rfl, rfl, rfl, rfl⟩ rfl rfl rfl rfl rfl (by kernel_rfl) Tryd.func4 (by kernel_rfl)
    (of_decide_eq_true (by kernel_rfl)) (by unfold Func.isWrapper; first | (rw [if_pos (by decide +kernel)]; kernel_rfl) | (rw [if_neg (by decide +kernel)]; exact ⟨rfl, rfl⟩))
    (fun os started H enc _ => lifted os started H enc)

theorem proved : Rows.CourseForwardCardSaid :=
  Claim7.holds_tied_plain_at .later [] [.data] true (true, "7d0a0e285f706a861ae4768e5e684a9390231320807c5470609f1b673339f244") false
    over (fun _ h => by cases h) (by kernel_rfl) (fun _ h => by cases h) courseForward_row_tie rfl ⟨rfl, rfl⟩ (by kernel_rfl) rfl
    (fun f fn hf hfn => by
      obtain rfl : f = 4 := Option.some.inj ((show Tryd.prog.funcNamed "drydock/drydocklaw08.CourseForward" = some 4 by kernel_rfl).symm.trans hf) |>.symm
      obtain rfl : fn = Tryd.f4 := (Option.some.inj (Tryd.func4.symm.trans hfn)).symm
      exact ⟨by kernel_rfl, fun j t ht => by
        rw [Tryd.params4] at ht
        match j, ht with
        | 0, ht => obtain rfl : t = 22 := by simpa using ht.symm
                   exact (show Tryd.prog.wantsStandIn 22 = false by kernel_rfl)
        | j + 1, ht => simp at ht⟩)
    (by kernel_rfl)
#print axioms proved
end Go.Proofs.YtdgfklmbglfbfaaDoor.courseForward
