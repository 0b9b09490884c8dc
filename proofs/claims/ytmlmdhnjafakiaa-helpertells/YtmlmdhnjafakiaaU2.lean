/-
  What the package's consecutive, distinct, full and hasField return, as contracts over the translated program.
-/
import Derived.Test.YtmlmdhnjafakiaaU1
namespace Go.Proofs.Ytmlmdhnjafakiaa
open Go Go.RowKit
set_option linter.unusedVariables false

def allB (es : List Ent) (p : Nat → Bool) : Bool := (List.range es.length).all p
theorem allB_at {es : List Ent} {p : Nat → Bool} (h : allB es p = true) {k : Nat} (hk : k < es.length) : p k = true := by
  simp only [allB, List.all_eq_true, List.mem_range] at h
  exact h k hk
theorem allB_yes {es : List Ent} {p : Nat → Bool} (h : ∀ j, j < es.length → p j = true) : allB es p = true := by
  simp only [allB, List.all_eq_true, List.mem_range]
  exact h
theorem allB_no {es : List Ent} {p : Nat → Bool} {k : Nat} (hk : k < es.length) (h : p k = false) : allB es p = false := by
  rcases hM : allB es p with _ | _
  · rfl
  · rw [allB_at hM hk] at h
    cases h
def consP (es : List Ent) (first : Int) (k : Nat) : Bool := decide ((es.getD k zeroE).1 = (first + (k : Int)) % 4294967296)
def distP (es : List Ent) (k : Nat) : Bool := decide (atE es (es.getD k zeroE).1 = some k)
set_option maxHeartbeats 2000000 in
theorem consecutive_any (a : Option Addr) (len cap : Nat) (first : Int) (es : List Ent) (w : World) (h : EntsAt w a len cap es) :
    Calls Try.prog 53 #[.slice a len cap, .int .u32 first] w fun e w' => e = .returned (.bool (allB es (consP es first))) ∧ Below w.heap.size w w' := by
  have hm := h.max
  have H1 := Lib.hid h.1
  have HE := Lib.hid h
  clear h
  go_enter Try.func53, Try.ntmps53
  go_wp2
  go_loopw [9] (fun i wr => ∃ k : Nat, k ≤ len ∧ i = .int .i64 k ∧ Hid (∀ j, j < k → consP es first j = true) ∧ Hid (Below w.heap.size w wr)) (fun i _ => len - (intOf i).toNat)
  case atStart => exact ⟨0, by omega, rfl, Lib.hid (fun j hj => absurd hj (by omega)), Lib.hid (Below.refl _ _)⟩
  case round =>
    obtain ⟨k, hk, rfl, HF, HB⟩ := hrel
    have hB : Below w.heap.size w wr := HB.out
    have hsz := hB.size
    by_cases hkl : k < len
    · have hkI : (k : Int) < (len : Int) := by omega
      obtain ⟨y, rfl, hy⟩ := (HE.out.below hB).2.2.2.resolve_left (by omega)
      obtain ⟨c0, _, b, l, c, c1, hW⟩ := hy k hkl
      clear hy hW hB
      obtain ⟨key, hkey⟩ : ∃ key, (es.getD k zeroE).1 = key := ⟨_, rfl⟩
      rw [hkey] at c0
      have HK := Lib.hid hkey
      clear hkey
      by_cases he : key = (first + (k : Int)) % 4294967296
      · have HQ := Lib.hid he
        have hq : (key != (first + (k : Int)) % 4294967296) = false := by simpa using he
        clear he
        go_wp2
        refine ⟨⟨k + 1, by omega, by go_num, Lib.hid (fun j hj => ?_), Lib.hid (HB.out.alloc hsz _)⟩, by simp [intOf]; omega⟩
        rcases Nat.lt_succ_iff_lt_or_eq.1 hj with hj | rfl
        · exact HF.out j hj
        · simp only [consP, HK.out, decide_eq_true_iff]
          exact HQ.out
      · have HR := Lib.hid (allB_no (es := es) (p := consP es first) (k := k) (by rw [H1.out]; exact hkl) (by simp only [consP, HK.out, decide_eq_false_iff_not]; exact he))
        have hq : (key != (first + (k : Int)) % 4294967296) = true := by simpa using he
        clear he
        go_wp2
        go_ret
        exact ⟨congrArg (fun b => Ending.returned (Value.bool b)) HR.out.symm, HB.out.alloc hsz _⟩
    · have hkI : ¬ (k : Int) < (len : Int) := by omega
      have HR := Lib.hid (allB_yes (es := es) (p := consP es first) (fun j hj => HF.out j (by rw [H1.out] at hj; omega)))
      clear hB
      go_wp2
      go_ret
      exact ⟨congrArg (fun b => Ending.returned (Value.bool b)) HR.out.symm, HB.out⟩
set_option maxHeartbeats 2000000 in
theorem distinct_any (a : Option Addr) (len cap : Nat) (es : List Ent) (w : World) (h : EntsAt w a len cap es) :
    Calls Try.prog 54 #[.slice a len cap] w fun e w' => e = .returned (.bool (allB es (distP es))) ∧ Below w.heap.size w w' := by
  have hm := h.max
  have H1 := Lib.hid h.1
  have HE := Lib.hid h
  clear h
  go_enter Try.func54, Try.ntmps54
  go_wp2
  go_loopw [7] (fun i wr => ∃ k : Nat, k ≤ len ∧ i = .int .i64 k ∧ Hid (∀ j, j < k → distP es j = true) ∧ Hid (Below w.heap.size w wr)) (fun i _ => len - (intOf i).toNat)
  case atStart => exact ⟨0, by omega, rfl, Lib.hid (fun j hj => absurd hj (by omega)), Lib.hid (Below.refl _ _)⟩
  case round =>
    obtain ⟨k, hk, rfl, HF, HB⟩ := hrel
    have hB : Below w.heap.size w wr := HB.out
    have hsz := hB.size
    by_cases hkl : k < len
    · have hkI : (k : Int) < (len : Int) := by omega
      have HA := Lib.hid (HE.out.below hB)
      have HA2 : ∀ o, Hid (EntsAt (wr.alloc o) a len cap es) := fun o => Lib.hid (HA.out.below ((Below.refl _ _).alloc (Nat.le_refl _) _))
      obtain ⟨y, rfl, hy⟩ := (HE.out.below hB).2.2.2.resolve_left (by omega)
      obtain ⟨c0, _, b, l, c, c1, hW⟩ := hy k hkl
      clear hy hW hB
      obtain ⟨key, hkey⟩ : ∃ key, (es.getD k zeroE).1 = key := ⟨_, rfl⟩
      rw [hkey] at c0
      have HK := Lib.hid hkey
      clear hkey
      obtain ⟨r, hr⟩ : ∃ r, findI es key = r := ⟨_, rfl⟩
      have HQ := Lib.hid hr
      go_wp2_with fail
      refine (find_any (some y) len cap key es _ (HA2 _).out).mono ?_
      rintro e w2 ⟨rfl, rfl⟩
      rw [hr]
      clear hr
      by_cases he : r = (k : Int)
      · have hq : (r != (k : Int)) = false := by simpa using he
        have HD := Lib.hid he
        clear he
        go_wp2
        refine ⟨⟨k + 1, by omega, by go_num, Lib.hid (fun j hj => ?_), Lib.hid (HB.out.alloc hsz _)⟩, by simp [intOf]; omega⟩
        rcases Nat.lt_succ_iff_lt_or_eq.1 hj with hj | rfl
        · exact HF.out j hj
        · simp only [distP, HK.out, decide_eq_true_iff]
          exact (findI_iff (by rw [H1.out]; exact hkl)).1 (HQ.out.trans HD.out)
      · have HR := Lib.hid (allB_no (es := es) (p := distP es) (k := k) (by rw [H1.out]; exact hkl) (by simp only [distP, HK.out, decide_eq_false_iff_not]; exact fun h => he (HQ.out.symm.trans ((findI_iff (by rw [H1.out]; exact hkl)).2 h))))
        have hq : (r != (k : Int)) = true := by simpa using he
        clear he
        go_wp2
        go_ret
        exact ⟨congrArg (fun b => Ending.returned (Value.bool b)) HR.out.symm, HB.out.alloc hsz _⟩
    · have hkI : ¬ (k : Int) < (len : Int) := by omega
      have HR := Lib.hid (allB_yes (es := es) (p := distP es) (fun j hj => HF.out j (by rw [H1.out] at hj; omega)))
      clear hB
      go_wp2
      go_ret
      exact ⟨congrArg (fun b => Ending.returned (Value.bool b)) HR.out.symm, HB.out⟩
theorem full_any (s : Sc) (a : Option Addr) (len cap : Nat) (x : Int) (w : World) :
    Calls Try.prog 72 #[tbV s (.slice a len cap) x] w fun e w' => e = .returned (.bool (decide ((len : Int) = s.2.1))) ∧ Below w.heap.size w w' := by
  rcases s with ⟨s0, s1, s2, s3⟩
  go_enter Try.func72, Try.ntmps72
  go_wp2
  go_ret
  refine ⟨?_, (Below.refl _ _).alloc (Nat.le_refl _) _⟩
  congr 2
theorem hasField_any (s0 s1 s2 s3 f : Int) (w : World) (h2 : 0 ≤ s2 ∧ s2 ≤ 4) :
    Calls Try.prog 66 #[scV s0 s1 s2 s3, .int .u32 f] w fun e w' => e = .returned (.bool (decide (f < s2))) ∧ Below w.heap.size w w' := by
  have hw : IntKind.u32.wrap s2 = s2 := by rw [wW]; omega
  go_enter Try.func66, Try.ntmps66
  go_wp2
  go_ret
  exact ⟨by simp, (Below.refl _ _).alloc (Nat.le_refl _) _⟩
end Go.Proofs.Ytmlmdhnjafakiaa
