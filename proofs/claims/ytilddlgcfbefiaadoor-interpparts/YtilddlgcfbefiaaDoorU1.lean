/-
  What the package's find, haveWords, consecutive and distinct return, as contracts over the translated program.
-/
import Derived.Test.YtilddlgcfbefiaaDoorTN
import Derived.WalkMore
namespace Go.Proofs.YtilddlgcfbefiaaDoor
set_option linter.unusedSimpArgs false
set_option linter.unusedVariables false
open Go Go.RowKit

def findI (es : List Ent) (key : Int) : Int := match atE es key with
  | some i => (i : Int)
  | none => (es.length : Int)
theorem findI_some {es : List Ent} {key : Int} {i : Nat} (h : atE es key = some i) : findI es key = (i : Int) := by simp [findI, h]
theorem findI_none {es : List Ent} {key : Int} (h : atE es key = none) : findI es key = (es.length : Int) := by simp [findI, h]
theorem findI_iff {es : List Ent} {key : Int} {i : Nat} (hi : i < es.length) : findI es key = (i : Int) ↔ atE es key = some i := by
  rcases h : atE es key with _ | j
  · rw [findI_none h]
    simp
    omega
  · rw [findI_some h]
    simp
    omega
set_option maxHeartbeats 2000000 in
theorem find_any (a : Option Addr) (len cap : Nat) (key : Int) (es : List Ent) (w : World) (h : EntsAt w a len cap es) :
    Calls Tryd.prog 42 #[.slice a len cap, .int .u32 key] w fun e w' => e = .returned (.int .i64 (findI es key)) ∧ w' = w := by
  have hm := h.max
  have H1 := Lib.hid h.1
  have HE := Lib.hid h.2.2.2
  clear h
  go_enter Tryd.func42, Tryd.ntmps42
  go_wp2
  go_step3
  go_wp2
  go_step3
  go_wp2
  go_loopw [5] (fun i wr => ∃ k : Nat, k ≤ len ∧ i = .int .i64 k ∧ Hid (∀ j, j < k → (es.getD j zeroE).1 ≠ key) ∧ wr = w) (fun i _ => len - (intOf i).toNat)
  case atStart => exact ⟨0, by omega, rfl, Lib.hid (fun j hj => absurd hj (by omega)), rfl⟩
  case round =>
    obtain ⟨k, hk, rfl, HF, rfl⟩ := hrel
    by_cases hkl : k < len
    · have hkI : (k : Int) < (len : Int) := by omega
      obtain ⟨y, rfl, hy⟩ := HE.out.resolve_left (by omega)
      obtain ⟨c0, _, _⟩ := hy k hkl
      clear hy
      by_cases he : (es.getD k zeroE).1 = key
      · have HR := Lib.hid (findI_some (atE_is (by rw [H1.out]; exact hkl) he HF.out))
        have hq : ((es.getD k zeroE).1 == key) = true := by simpa using he
        generalize (es.getD k zeroE).1 = z at c0 hq
        clear he
        go_wp2
        rw [Exit.noGoto_ret]
        go_ret
        exact ⟨by rw [HR.out]; rfl, rfl⟩
      · have HK := Lib.hid he
        have hq : ((es.getD k zeroE).1 == key) = false := by simpa using he
        generalize (es.getD k zeroE).1 = z at c0 hq
        clear he
        go_wp2
        refine ⟨⟨k + 1, by omega, by go_num, Lib.hid (fun j hj => ?_), by trivial⟩, by simp [intOf]; omega⟩
        rcases Nat.lt_succ_iff_lt_or_eq.1 hj with hj | rfl
        · exact HF.out j hj
        · exact HK.out
    · have hkI : ¬ (k : Int) < (len : Int) := by omega
      have HR := Lib.hid (findI_none (atE_no (es := es) (key := key) (fun j hj => HF.out j (by rw [H1.out] at hj; omega))))
      have HL := Lib.hid (show k = len by omega)
      go_wp2
      go_ret
      exact ⟨by rw [HR.out, H1.out, HL.out]; rfl, rfl⟩

def haveB (es : List Ent) (n : Int) : Bool := es.all (fun e => decide ((e.2.length : Int) = n))
theorem haveB_yes {es : List Ent} {n : Int} (h : ∀ j, j < es.length → ((es.getD j zeroE).2.length : Int) = n) : haveB es n = true := by
  simp only [haveB, List.all_eq_true, decide_eq_true_iff]
  intro e he
  obtain ⟨k, hk, rfl⟩ := List.getElem_of_mem he
  have := h k hk
  rwa [List.getD_eq_getElem?_getD, List.getElem?_eq_getElem hk] at this
theorem haveB_at {es : List Ent} {n : Int} (h : haveB es n = true) {k : Nat} (hk : k < es.length) : ((es.getD k zeroE).2.length : Int) = n := by
  simp only [haveB, List.all_eq_true, decide_eq_true_iff] at h
  exact h _ (getD_mem es k zeroE hk)
theorem haveB_no {es : List Ent} {n : Int} {k : Nat} (hk : k < es.length) (h : ((es.getD k zeroE).2.length : Int) ≠ n) : haveB es n = false := by
  rcases hM : haveB es n with _ | _
  · rfl
  · exact absurd (haveB_at hM hk) h
set_option maxHeartbeats 2000000 in
theorem haveWords_any (a : Option Addr) (len cap : Nat) (n : Int) (es : List Ent) (w : World) (h : EntsAt w a len cap es) :
    Calls Tryd.prog 25 #[.slice a len cap, .int .i64 n] w fun e w' => e = .returned (.bool (haveB es n)) ∧ Below w.heap.size w w' := by
  have hm := h.max
  have H1 := Lib.hid h.1
  have HE := Lib.hid h
  clear h
  go_enter Tryd.func25, Tryd.ntmps25
  go_wp2
  go_loopw [9] (fun i wr => ∃ k : Nat, k ≤ len ∧ i = .int .i64 k ∧ Hid (∀ j, j < k → ((es.getD j zeroE).2.length : Int) = n) ∧ Hid (Below w.heap.size w wr)) (fun i _ => len - (intOf i).toNat)
  case atStart => exact ⟨0, by omega, rfl, Lib.hid (fun j hj => absurd hj (by omega)), Lib.hid (Below.refl _ _)⟩
  case round =>
    obtain ⟨k, hk, rfl, HF, HB⟩ := hrel
    have hB : Below w.heap.size w wr := HB.out
    have hsz := hB.size
    by_cases hkl : k < len
    · have hkI : (k : Int) < (len : Int) := by omega
      obtain ⟨y, rfl, hy⟩ := (HE.out.below hB).2.2.2.resolve_left (by omega)
      obtain ⟨c0, _, b, l, c, c1, hW⟩ := hy k hkl
      have hlm := hW.max
      have HL := Lib.hid hW.1
      clear hy hW
      generalize hkey : (es.getD k zeroE).1 = key at c0
      clear hkey
      by_cases he : (l : Int) = n
      · have HK := Lib.hid he
        have hq : ((l : Int) != n) = false := by simpa using he
        clear he
        clear hB
        go_wp2
        refine ⟨⟨k + 1, by omega, by go_num, Lib.hid (fun j hj => ?_), Lib.hid (HB.out.alloc hsz _)⟩, by simp [intOf]; omega⟩
        rcases Nat.lt_succ_iff_lt_or_eq.1 hj with hj | rfl
        · exact HF.out j hj
        · rw [HL.out]; exact HK.out
      · have HR := Lib.hid (haveB_no (es := es) (n := n) (k := k) (by rw [H1.out]; exact hkl) (by rw [HL.out]; exact he))
        have hq : ((l : Int) != n) = true := by simpa using he
        clear hB
        go_wp2
        go_ret
        exact ⟨congrArg (fun b => Ending.returned (Value.bool b)) HR.out.symm, HB.out.alloc hsz _⟩
    · have hkI : ¬ (k : Int) < (len : Int) := by omega
      have HR := Lib.hid (haveB_yes (es := es) (n := n) (fun j hj => HF.out j (by rw [H1.out] at hj; omega)))
      clear hB
      go_wp2
      go_ret
      exact ⟨congrArg (fun b => Ending.returned (Value.bool b)) HR.out.symm, HB.out⟩
end Go.Proofs.YtilddlgcfbefiaaDoor
