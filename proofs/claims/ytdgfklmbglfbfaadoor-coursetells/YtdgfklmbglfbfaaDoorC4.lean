/-
  What package course's Next and instCost return, as contracts over the translated program.
-/
import Derived.Test.YtdgfklmbglfbfaaDoorC3
namespace Go.Proofs.YtdgfklmbglfbfaaDoor
open Go Go.RowKit
set_option linter.unusedVariables false
theorem mayI_off {i : I} (hok : okI i) (h : mayI i = true) : 0 ≤ i.2.2.2.2.2.1 ∧ i.2.2.2.2.2.1 ≤ 65535 := by
  have := (mayB_iff hok.1 hok.2).1 h
  unfold refP at this
  omega
theorem codeB_at {c : List I} (h : codeB c = true) {k : Nat} (hk : k < c.length) : mayI (c.getD k zeroI) = true := by
  simp only [codeB, Bool.and_eq_true, List.all_eq_true] at h
  exact h.1 _ (getD_mem c k zeroI hk)
theorem codeB_len {c : List I} (h : codeB c = true) : 1 ≤ c.length ∧ c.length ≤ 64 := by
  simp only [codeB, Bool.and_eq_true, decide_eq_true_iff] at h
  exact h.2
theorem u64w {z : Int} (h0 : 0 ≤ z) (h1 : z ≤ 9223372036854775807) : IntKind.u64.wrap z = z := by
  simp [IntKind.wrap, IntKind.bits, IntKind.signed]
  omega
set_option maxRecDepth 100000 in
set_option maxHeartbeats 4000000 in
theorem next_any (a : Option Addr) (len cap : Nat) (c : List I) (at' : Int) (w : World) (hR : RowsIn w) (h : CodeAt w a len cap c) :
    Calls Tryd.prog 12 #[.slice a len cap, .int .i64 at'] w (SucPost (nextP c at') w) := by
  have hm : len ≤ 9223372036854775807 := by have := h.2.1; have := h.2.2.1; unfold maxLen at this; omega
  have H := Lib.hid h
  have H1 := Lib.hid h.1
  obtain ⟨TS, hTS⟩ : ∃ TS, nextP c at' = TS := ⟨_, rfl⟩
  rw [hTS]
  have HT := Lib.hid hTS
  have k1 := cmay_any a len cap c w hR h
  clear hTS h
  go_enter Tryd.func12, Tryd.ntmps12
  go_wp2_with fail
  obtain ⟨Q, hQ⟩ : ∃ Q, codeB c = Q := ⟨_, rfl⟩
  rw [hQ] at k1
  have HQ := Lib.hid hQ
  clear hQ
  refine k1.mono ?_
  rintro e m1 ⟨rfl, hb1⟩
  have HB := Lib.hid hb1
  clear k1 hb1
  cases Q
  · have hT : Hid (TS = []) := Lib.hid (by rw [← HT.out, nextP, HQ.out]; simp)
    go_wp2_with fail
    go_ret
    exact ⟨none, 0, 0, rfl, HB.out, by rw [hT.out]; exact ints_nil _, fun y hy => by cases hy⟩
  by_cases h0 : at' < 0
  · have hT : Hid (TS = []) := Lib.hid (by rw [← HT.out, nextP, if_neg (by omega)])
    go_wp2_with fail
    go_ret
    exact ⟨none, 0, 0, rfl, HB.out, by rw [hT.out]; exact ints_nil _, fun y hy => by cases hy⟩
  by_cases hl : (len : Int) ≤ at'
  · have hT : Hid (TS = []) := Lib.hid (by rw [← HT.out, nextP, H1.out, if_neg (by omega)])
    go_wp2_with fail
    go_ret
    exact ⟨none, 0, 0, rfl, HB.out, by rw [hT.out]; exact ints_nil _, fun y hy => by cases hy⟩
  obtain ⟨k, rfl⟩ : ∃ k : Nat, at' = (k : Int) := ⟨at'.toNat, by omega⟩
  have hkl : k < len := by omega
  obtain ⟨y, rfl, hy⟩ := H.out.2.2.2.2.resolve_left (by omega)
  have hI := (hy k hkl).below HB.out
  have hok := H.out.2.2.2.1 _ (getD_mem c k zeroI (by rw [H1.out]; exact hkl))
  have hmay := codeB_at HQ.out (k := k) (by rw [H1.out]; exact hkl)
  have hoff := mayI_off hok hmay
  have hT : Hid (TS = castL (sucP (c.getD k zeroI) k)) := Lib.hid (by
    rw [← HT.out, nextP, HQ.out, H1.out, if_pos ⟨rfl, by omega, by omega⟩]
    rfl)
  have hk64 : k ≤ 64 := by have := (codeB_len HQ.out).2; have := H1.out; omega
  rcases hi : c.getD k zeroI with ⟨o, f, d, s, r, x, m⟩
  rw [hi] at hI hoff hT
  obtain ⟨i0, i1, i2, i3, i4, i5, i6⟩ := hI
  simp only at i0 i1 i2 i3 i4 i5 i6 hoff
  obtain ⟨q, rfl⟩ : ∃ q : Nat, x = (q : Int) := ⟨x.toNat, by omega⟩
  have hq : q ≤ 65535 := by omega
  clear hy hok hmay hoff hi
  go_wp2_with fail
  clear i0 i1 i2 i3 i4 i5 i6
  refine (suc_any o f d s r q m k m1 hk64 hq).mono ?_
  rintro e m2 ⟨b, l, cp, rfl, hb2, hI2, hlow⟩
  go_wp2_with fail
  go_ret
  exact ⟨b, l, cp, rfl, HB.out.trans (hb2.mono HB.out.size), by rw [hT.out]; exact hI2, fun y hy => Nat.le_trans HB.out.size (hlow y hy)⟩
set_option maxRecDepth 100000 in
set_option maxHeartbeats 4000000 in
theorem cost_any (o f d s : Int) (r : Bool) (x m : Int) (a : Option Addr) (len cap : Nat) (calls : List Int) (w : World) (hm0 : 0 ≤ m) (hm1 : m ≤ 4294967295) (h : IntsAt w a len cap calls) :
    Calls Tryd.prog 31 #[instV o f d s r x m, .slice a len cap] w fun e w' => e = .returned (.int .i64 (costP calls (o, f, d, s, r, x, m))) ∧ Below w.heap.size w w' := by
  have hg : Below w.heap.size w (w.alloc (.cells #[.int .i64 o, .int .i64 f, .int .i64 d, .int .i64 s, .bool r, .int .i64 x, .int .u32 m] 53)) := (Below.refl _ _).alloc (Nat.le_refl _) _
  have HG := Lib.hid hg
  have hm := h.max
  have H1 := Lib.hid h.1
  have H := Lib.hid (h.below hg)
  obtain ⟨R, hR⟩ : ∃ R, costP calls (o, f, d, s, r, x, m) = R := ⟨_, rfl⟩
  rw [hR]
  have HR := Lib.hid hR
  clear hR h hg
  by_cases ho : o = 6
  · have hob : (o != 6) = false := by simpa using ho
    have HO := Lib.hid ho
    clear ho
    obtain ⟨g, rfl⟩ : ∃ g : Nat, m = (g : Int) := ⟨m.toNat, by omega⟩
    have hw1 : IntKind.u64.wrap (g : Int) = (g : Int) := u64w hm0 (by omega)
    have hw2 : IntKind.u64.wrap (len : Int) = (len : Int) := u64w (by omega) (by omega)
    by_cases hl : (len : Int) ≤ (g : Int)
    · have hT : Hid (R = 1) := Lib.hid (by
        have h1 := H1.out
        rw [← HR.out, costP, if_pos HO.out, calledP]
        simp only [Int.toNat_natCast]
        rw [List.getD_eq_getElem?_getD, List.getElem?_eq_none (by omega)]
        simp)
      go_enter Tryd.func31, Tryd.ntmps31
      go_wp2
      go_ret
      exact ⟨by rw [hT.out]; rfl, HG.out⟩
    obtain ⟨y, rfl, hy⟩ := H.out.2.2.2.resolve_left (by omega)
    have hc := hy g (by omega)
    obtain ⟨z, hz⟩ : ∃ z, calls.getD g 0 = z := ⟨_, rfl⟩
    have HZ : Hid (costP calls (o, f, d, s, r, x, (g : Int)) = if 0 ≤ z ∧ z ≤ 1000000 then 1 + z else 1) := Lib.hid (by
      rw [costP, if_pos HO.out, calledP]
      simp only [Int.toNat_natCast, hz]
      split <;> omega)
    rw [hz] at hc
    clear hy hz
    by_cases hz0 : z < 0
    · have hT : Hid (R = 1) := Lib.hid (by rw [← HR.out, HZ.out, if_neg (by omega)])
      go_enter Tryd.func31, Tryd.ntmps31
      go_wp2
      go_ret
      exact ⟨by rw [hT.out]; rfl, HG.out⟩
    by_cases hz1 : 1000000 < z
    · have hT : Hid (R = 1) := Lib.hid (by rw [← HR.out, HZ.out, if_neg (by omega)])
      go_enter Tryd.func31, Tryd.ntmps31
      go_wp2
      go_ret
      exact ⟨by rw [hT.out]; rfl, HG.out⟩
    have hT : Hid (R = 1 + z) := Lib.hid (by rw [← HR.out, HZ.out, if_pos (by omega)])
    go_enter Tryd.func31, Tryd.ntmps31
    go_wp2
    go_ret
    exact ⟨by rw [hT.out]; rfl, HG.out⟩
  · have hob : (o != 6) = true := by simpa using ho
    have hT : Hid (R = 1) := Lib.hid (by rw [← HR.out, costP, if_neg ho])
    go_enter Tryd.func31, Tryd.ntmps31
    go_wp2
    go_ret
    exact ⟨by rw [hT.out]; rfl, HG.out⟩
end Go.Proofs.YtdgfklmbglfbfaaDoor
