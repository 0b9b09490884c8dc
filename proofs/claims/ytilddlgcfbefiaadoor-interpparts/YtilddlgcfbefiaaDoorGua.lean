/-
  Texts that the laws of this layer stand on, one behind the other.
-/
import Derived.Test.YtilddlgcfbefiaaDoorU1
import Derived.Test.YtilddlgcfbefiaaDoorA4
/-
  What the package's consecutive, distinct, full and hasField return, as contracts over the translated program.
-/
namespace Go.Proofs.YtilddlgcfbefiaaDoor
set_option linter.unusedSimpArgs false
set_option linter.unusedVariables false
open Go Go.RowKit

def allB (es : List Ent) (p : Nat → Bool) : Bool := (List.range es.length).all p
theorem allB_at {es : List Ent} {p : Nat → Bool} (h : allB es p = true) {k : Nat} (hk : k < es.length) : p k = true := by
  simp only [allB, List.all_eq_true, List.mem_range] at h
  exact h k hk
theorem allB_yes {es : List Ent} {p : Nat → Bool} (h : ∀ j, j < es.length → p j = true) : allB es p = true := by
  simp only [allB, List.all_eq_true, List.mem_range]
  exact h
theorem allB_no {es : List Ent} {p : Nat → Bool} {k : Nat} (hk : k < es.length) (h : p k = false) : allB es p = false := by
  rcases hM : allB es p with _ | _
  · rfl
  · rw [allB_at hM hk] at h
    cases h
def consP (es : List Ent) (first : Int) (k : Nat) : Bool := decide ((es.getD k zeroE).1 = (first + (k : Int)) % 4294967296)
def distP (es : List Ent) (k : Nat) : Bool := decide (atE es (es.getD k zeroE).1 = some k)
set_option maxHeartbeats 2000000 in
theorem consecutive_any (a : Option Addr) (len cap : Nat) (first : Int) (es : List Ent) (w : World) (h : EntsAt w a len cap es) :
    Calls Tryd.prog 26 #[.slice a len cap, .int .u32 first] w fun e w' => e = .returned (.bool (allB es (consP es first))) ∧ Below w.heap.size w w' := by
  have hm := h.max
  have H1 := Lib.hid h.1
  have HE := Lib.hid h
  clear h
  go_enter Tryd.func26, Tryd.ntmps26
  go_wp2
  go_loopw [9] (fun i wr => ∃ k : Nat, k ≤ len ∧ i = .int .i64 k ∧ Hid (∀ j, j < k → consP es first j = true) ∧ Hid (Below w.heap.size w wr)) (fun i _ => len - (intOf i).toNat)
  case atStart => exact ⟨0, by omega, rfl, Lib.hid (fun j hj => absurd hj (by omega)), Lib.hid (Below.refl _ _)⟩
  case round =>
    obtain ⟨k, hk, rfl, HF, HB⟩ := hrel
    have hB : Below w.heap.size w wr := HB.out
    have hsz := hB.size
    by_cases hkl : k < len
    · have hkI : (k : Int) < (len : Int) := by omega
      obtain ⟨y, rfl, hy⟩ := (HE.out.below hB).2.2.2.resolve_left (by omega)
      obtain ⟨c0, _, b, l, c, c1, hW⟩ := hy k hkl
      clear hy hW hB
      obtain ⟨key, hkey⟩ : ∃ key, (es.getD k zeroE).1 = key := ⟨_, rfl⟩
      rw [hkey] at c0
      have HK := Lib.hid hkey
      clear hkey
      by_cases he : key = (first + (k : Int)) % 4294967296
      · have HQ := Lib.hid he
        have hq : (key != (first + (k : Int)) % 4294967296) = false := by simpa using he
        clear he
        go_wp2
        refine ⟨⟨k + 1, by omega, by go_num, Lib.hid (fun j hj => ?_), Lib.hid (HB.out.alloc hsz _)⟩, by simp [intOf]; omega⟩
        rcases Nat.lt_succ_iff_lt_or_eq.1 hj with hj | rfl
        · exact HF.out j hj
        · simp only [consP, HK.out, decide_eq_true_iff]
          exact HQ.out
      · have HR := Lib.hid (allB_no (es := es) (p := consP es first) (k := k) (by rw [H1.out]; exact hkl) (by simp only [consP, HK.out, decide_eq_false_iff_not]; exact he))
        have hq : (key != (first + (k : Int)) % 4294967296) = true := by simpa using he
        clear he
        go_wp2
        go_ret
        exact ⟨congrArg (fun b => Ending.returned (Value.bool b)) HR.out.symm, HB.out.alloc hsz _⟩
    · have hkI : ¬ (k : Int) < (len : Int) := by omega
      have HR := Lib.hid (allB_yes (es := es) (p := consP es first) (fun j hj => HF.out j (by rw [H1.out] at hj; omega)))
      clear hB
      go_wp2
      go_ret
      exact ⟨congrArg (fun b => Ending.returned (Value.bool b)) HR.out.symm, HB.out⟩
set_option maxHeartbeats 2000000 in
theorem distinct_any (a : Option Addr) (len cap : Nat) (es : List Ent) (w : World) (h : EntsAt w a len cap es) :
    Calls Tryd.prog 27 #[.slice a len cap] w fun e w' => e = .returned (.bool (allB es (distP es))) ∧ Below w.heap.size w w' := by
  have hm := h.max
  have H1 := Lib.hid h.1
  have HE := Lib.hid h
  clear h
  go_enter Tryd.func27, Tryd.ntmps27
  go_wp2
  go_loopw [7] (fun i wr => ∃ k : Nat, k ≤ len ∧ i = .int .i64 k ∧ Hid (∀ j, j < k → distP es j = true) ∧ Hid (Below w.heap.size w wr)) (fun i _ => len - (intOf i).toNat)
  case atStart => exact ⟨0, by omega, rfl, Lib.hid (fun j hj => absurd hj (by omega)), Lib.hid (Below.refl _ _)⟩
  case round =>
    obtain ⟨k, hk, rfl, HF, HB⟩ := hrel
    have hB : Below w.heap.size w wr := HB.out
    have hsz := hB.size
    by_cases hkl : k < len
    · have hkI : (k : Int) < (len : Int) := by omega
      have HA := Lib.hid (HE.out.below hB)
      have HA2 : ∀ o, Hid (EntsAt (wr.alloc o) a len cap es) := fun o => Lib.hid (HA.out.below ((Below.refl _ _).alloc (Nat.le_refl _) _))
      obtain ⟨y, rfl, hy⟩ := (HE.out.below hB).2.2.2.resolve_left (by omega)
      obtain ⟨c0, _, b, l, c, c1, hW⟩ := hy k hkl
      clear hy hW hB
      obtain ⟨key, hkey⟩ : ∃ key, (es.getD k zeroE).1 = key := ⟨_, rfl⟩
      rw [hkey] at c0
      have HK := Lib.hid hkey
      clear hkey
      obtain ⟨r, hr⟩ : ∃ r, findI es key = r := ⟨_, rfl⟩
      have HQ := Lib.hid hr
      go_wp2_with fail
      refine (find_any (some y) len cap key es _ (HA2 _).out).mono ?_
      rintro e w2 ⟨rfl, rfl⟩
      rw [hr]
      clear hr
      by_cases he : r = (k : Int)
      · have hq : (r != (k : Int)) = false := by simpa using he
        have HD := Lib.hid he
        clear he
        go_wp2
        refine ⟨⟨k + 1, by omega, by go_num, Lib.hid (fun j hj => ?_), Lib.hid (HB.out.alloc hsz _)⟩, by simp [intOf]; omega⟩
        rcases Nat.lt_succ_iff_lt_or_eq.1 hj with hj | rfl
        · exact HF.out j hj
        · simp only [distP, HK.out, decide_eq_true_iff]
          exact (findI_iff (by rw [H1.out]; exact hkl)).1 (HQ.out.trans HD.out)
      · have HR := Lib.hid (allB_no (es := es) (p := distP es) (k := k) (by rw [H1.out]; exact hkl) (by simp only [distP, HK.out, decide_eq_false_iff_not]; exact fun h => he (HQ.out.symm.trans ((findI_iff (by rw [H1.out]; exact hkl)).2 h))))
        have hq : (r != (k : Int)) = true := by simpa using he
        clear he
        go_wp2
        go_ret
        exact ⟨congrArg (fun b => Ending.returned (Value.bool b)) HR.out.symm, HB.out.alloc hsz _⟩
    · have hkI : ¬ (k : Int) < (len : Int) := by omega
      have HR := Lib.hid (allB_yes (es := es) (p := distP es) (fun j hj => HF.out j (by rw [H1.out] at hj; omega)))
      clear hB
      go_wp2
      go_ret
      exact ⟨congrArg (fun b => Ending.returned (Value.bool b)) HR.out.symm, HB.out⟩
theorem full_any (s : Sc) (a : Option Addr) (len cap : Nat) (x : Int) (w : World) :
    Calls Tryd.prog 144 #[tbV s (.slice a len cap) x] w fun e w' => e = .returned (.bool (decide ((len : Int) = s.2.1))) ∧ Below w.heap.size w w' := by
  rcases s with ⟨s0, s1, s2, s3⟩
  go_enter Tryd.func144, Tryd.ntmps144
  go_wp2
  go_ret
  refine ⟨?_, (Below.refl _ _).alloc (Nat.le_refl _) _⟩
  congr 2
theorem hasField_any (s0 s1 s2 s3 f : Int) (w : World) (h2 : 0 ≤ s2 ∧ s2 ≤ 4) :
    Calls Tryd.prog 137 #[scV s0 s1 s2 s3, .int .u32 f] w fun e w' => e = .returned (.bool (decide (f < s2))) ∧ Below w.heap.size w w' := by
  have hw : IntKind.u32.wrap s2 = s2 := by rw [wW]; omega
  go_enter Tryd.func137, Tryd.ntmps137
  go_wp2
  go_ret
  exact ⟨by simp, (Below.refl _ _).alloc (Nat.le_refl _) _⟩
end Go.Proofs.YtilddlgcfbefiaaDoor

/-
  Which tables the package holds valid: its way to say it is that of the document.
-/
namespace Go.Proofs.YtilddlgcfbefiaaDoor
set_option linter.unusedSimpArgs false
set_option linter.unusedVariables false
open Go Go.RowKit

def kindB (t : Tb) : Bool :=
  if t.1.1 = 0 then decide (t.2.2 = 0) && (decide ((t.2.1.length : Int) = t.1.2.1) && allB t.2.1 (consP t.2.1 0))
  else if t.1.1 = 3 then allB t.2.1 (consP t.2.1 ((t.2.2 - (t.2.1.length : Int)) % 4294967296))
  else decide (t.2.2 = 0) && allB t.2.1 (distP t.2.1)
def mayB (t : Tb) : Bool := mayT t.1 && (decide ((t.2.1.length : Int) ≤ t.1.2.1) && (haveB t.2.1 t.1.2.2.1 && kindB t))
theorem consP_iff {es : List Ent} {f : Int} {k : Nat} : consP es f k = true ↔ (es.getD k zeroE).1 = (f + (k : Int)) % 4294967296 := by simp [consP]
theorem distP_iff {es : List Ent} {k : Nat} : distP es k = true ↔ atE es (es.getD k zeroE).1 = some k := by simp [distP]
theorem allB_iff {es : List Ent} {p : Nat → Bool} : allB es p = true ↔ ∀ k, k < es.length → p k = true := ⟨fun h k hk => allB_at h hk, allB_yes⟩
theorem haveB_iff {es : List Ent} {n : Int} : haveB es n = true ↔ ∀ k, k < es.length → ((es.getD k zeroE).2.length : Int) = n := ⟨fun h k hk => haveB_at h hk, haveB_yes⟩
theorem mayTb_iff {t : Tb} : mayTb t = true ↔ headB t = true ∧ ∀ i, i < t.2.1.length → entB t i = true := ⟨fun h => ⟨mayTb_head h, fun _ hi => mayTb_ent h hi⟩, fun h => mayTb_mk h.1 h.2⟩
theorem mayB_eq {t : Tb} (hok : okT t) : mayB t = mayTb t := by
  rcases t with ⟨⟨k, c, n, v⟩, es, x⟩
  obtain ⟨hE, hX0, hX1⟩ := hok
  simp only at hE hX0 hX1
  rw [Bool.eq_iff_iff, mayTb_iff]
  simp only [mayB, Bool.and_eq_true, decide_eq_true_iff, haveB_iff, headB_iff, entB_iff]
  constructor
  · rintro ⟨h1, h2, h3, h4⟩
    have h1' := h1
    simp only [mayT] at h1'
    rw [mayS_iff] at h1'
    unfold kindB at h4
    simp only at h4
    by_cases hk0 : k = 0
    · rw [if_pos hk0] at h4
      simp only [Bool.and_eq_true, decide_eq_true_iff, allB_iff, consP_iff] at h4
      obtain ⟨h5, h6, h7⟩ := h4
      have h8 : ∀ i, i < es.length → (es.getD i zeroE).1 = (i : Int) := fun i hi => by rw [h7 i hi]; omega
      refine ⟨⟨h1, h2, .inr h5, .inr (by omega)⟩, fun i hi => ⟨h3 i hi, atE_is hi rfl (fun j hj => by rw [h8 j (by omega), h8 i hi]; omega), .inr (h8 i hi), .inl (by omega)⟩⟩
    · rw [if_neg hk0] at h4
      by_cases hk3 : k = 3
      · rw [if_pos hk3] at h4
        simp only [allB_iff, consP_iff] at h4
        refine ⟨⟨h1, h2, .inl hk3, .inl hk0⟩, fun i hi => ⟨h3 i hi, atE_is hi rfl (fun j hj => by rw [h4 j (by omega), h4 i hi]; omega), .inl hk0, .inr (by rw [h4 i hi]; omega)⟩⟩
      · rw [if_neg hk3] at h4
        simp only [Bool.and_eq_true, decide_eq_true_iff, allB_iff, distP_iff] at h4
        exact ⟨⟨h1, h2, .inr h4.1, .inl hk0⟩, fun i hi => ⟨h3 i hi, h4.2 i hi, .inl hk0, .inl hk3⟩⟩
  · rintro ⟨⟨h1, h2, h3, h4⟩, h5⟩
    have h1' := h1
    simp only [mayT] at h1'
    rw [mayS_iff] at h1'
    refine ⟨h1, h2, fun i hi => (h5 i hi).1, ?_⟩
    unfold kindB
    simp only
    by_cases hk0 : k = 0
    · rw [if_pos hk0]
      simp only [Bool.and_eq_true, decide_eq_true_iff, allB_iff, consP_iff]
      refine ⟨by omega, by omega, fun i hi => ?_⟩
      have := (h5 i hi).2.2.1
      omega
    · rw [if_neg hk0]
      by_cases hk3 : k = 3
      · rw [if_pos hk3]
        simp only [allB_iff, consP_iff]
        intro i hi
        have h6 := (h5 i hi).2.2.2
        have h7 := (okE_getD hE i).1
        unfold isW at h7
        omega
      · rw [if_neg hk3]
        simp only [Bool.and_eq_true, decide_eq_true_iff, allB_iff, distP_iff]
        exact ⟨by omega, fun i hi => (h5 i hi).2.1⟩
end Go.Proofs.YtilddlgcfbefiaaDoor

/-
  What package schema's within, maxWords and May return, as contracts over the translated program.
-/
namespace Go.Proofs.YtilddlgcfbefiaaDoor
set_option linter.unusedSimpArgs false
set_option linter.unusedVariables false
open Go.RowKit

theorem within_any (n lo hi : Int) (w : World) : Calls Tryd.prog 40 #[.int .i64 n, .int .i64 lo, .int .i64 hi] w fun e w' => e = .returned (.bool (wthn n lo hi)) ∧ w' = w := by
  by_cases h : lo ≤ n
  · go_enter Tryd.func40, Tryd.ntmps40
    go_wp2
    go_ret
    exact ⟨by simp [wthn, h], rfl⟩
  · go_enter Tryd.func40, Tryd.ntmps40
    go_wp2
    go_ret
    exact ⟨by simp [wthn]; omega, rfl⟩
theorem maxW_any (k : Int) (w : World) : Calls Tryd.prog 41 #[.int .i64 k] w fun e w' => e = .returned (.int .i64 (maxW k)) ∧ w' = w := by
  by_cases h : k = 3
  · have HM : Hid (maxW k = 1) := Lib.hid (by simp [maxW, h])
    have h1 : (k == 3) = true := by simpa using h
    go_enter Tryd.func41, Tryd.ntmps41
    go_wp2
    go_ret
    exact ⟨by rw [HM.out]; rfl, rfl⟩
  · have HM : Hid (maxW k = 4) := Lib.hid (by simp [maxW, h])
    have h1 : (k == 3) = false := by simpa using h
    go_enter Tryd.func41, Tryd.ntmps41
    go_wp2
    go_ret
    exact ⟨by rw [HM.out]; rfl, rfl⟩

theorem within_is (n lo hi : Int) (w : World) (b : Bool) (h : wthn n lo hi = b) : Calls Tryd.prog 40 #[.int .i64 n, .int .i64 lo, .int .i64 hi] w fun e w' => e = .returned (.bool b) ∧ w' = w := by
  subst h
  exact within_any n lo hi w
set_option maxHeartbeats 1000000 in
theorem may_any (k c n v : Int) (w : World) :
    Calls Tryd.prog 24 #[scV k c n v] w fun e w' => e = .returned (.bool (mayS k c n v)) ∧ Below w.heap.size w w' := by
  have hg : Below w.heap.size w (w.alloc (scO k c n v)) := (Below.refl _ _).alloc (Nat.le_refl _) _
  rcases h1 : wthn k 0 3 with _ | _
  · go_enter Tryd.func24, Tryd.ntmps24
    go_wp2
    go_quiet (first | (go_at_call 40; exact Calls.quiet_of_same (within_is _ _ _ _ _ h1)) | (go_at_call 41; exact Calls.quiet_of_same (maxW_any _ _)))
    go_wp2
    go_ret
    exact ⟨by simp [mayS, h1], belowDrewN hg _⟩
  rcases h2 : wthn c 1 16 with _ | _
  · go_enter Tryd.func24, Tryd.ntmps24
    go_wp2
    go_quiet (first | (go_at_call 40; exact Calls.quiet_of_same (within_is _ _ _ _ _ h1)) | (go_at_call 40; exact Calls.quiet_of_same (within_is _ _ _ _ _ h2)) | (go_at_call 41; exact Calls.quiet_of_same (maxW_any _ _)))
    go_wp2
    go_ret
    exact ⟨by simp [mayS, h2], belowDrewN hg _⟩
  rcases h3 : wthn n 1 (maxW k) with _ | _
  · go_enter Tryd.func24, Tryd.ntmps24
    go_wp2
    go_quiet (first | (go_at_call 40; exact Calls.quiet_of_same (within_is _ _ _ _ _ h1)) | (go_at_call 40; exact Calls.quiet_of_same (within_is _ _ _ _ _ h2)) | (go_at_call 40; exact Calls.quiet_of_same (within_is _ _ _ _ _ h3)) | (go_at_call 41; exact Calls.quiet_of_same (maxW_any _ _)))
    go_wp2
    go_ret
    exact ⟨by simp [mayS, h3], belowDrewN hg _⟩
  rcases h4 : wthn v 0 1000 with _ | _
  · go_enter Tryd.func24, Tryd.ntmps24
    go_wp2
    go_quiet (first | (go_at_call 40; exact Calls.quiet_of_same (within_is _ _ _ _ _ h1)) | (go_at_call 40; exact Calls.quiet_of_same (within_is _ _ _ _ _ h2)) | (go_at_call 40; exact Calls.quiet_of_same (within_is _ _ _ _ _ h3)) | (go_at_call 40; exact Calls.quiet_of_same (within_is _ _ _ _ _ h4)) | (go_at_call 41; exact Calls.quiet_of_same (maxW_any _ _)))
    go_wp2
    go_ret
    exact ⟨by simp [mayS, h4], belowDrewN hg _⟩
  · go_enter Tryd.func24, Tryd.ntmps24
    go_wp2
    go_quiet (first | (go_at_call 40; exact Calls.quiet_of_same (within_is _ _ _ _ _ h1)) | (go_at_call 40; exact Calls.quiet_of_same (within_is _ _ _ _ _ h2)) | (go_at_call 40; exact Calls.quiet_of_same (within_is _ _ _ _ _ h3)) | (go_at_call 40; exact Calls.quiet_of_same (within_is _ _ _ _ _ h4)) | (go_at_call 41; exact Calls.quiet_of_same (maxW_any _ _)))
    go_wp2
    go_ret
    exact ⟨by simp [mayS, h1, h2, h3, h4], belowDrewN hg _⟩
end Go.Proofs.YtilddlgcfbefiaaDoor

/-
  What the package's May, keyed and queued return, as contracts over the translated program: whether a table is valid.
-/
namespace Go.Proofs.YtilddlgcfbefiaaDoor
set_option linter.unusedSimpArgs false
set_option linter.unusedVariables false
open Go Go.RowKit

theorem ret_bool {b b' : Bool} (h : b' = b) : Ending.returned (Value.bool b) = Ending.returned (Value.bool b') := by rw [h]
set_option maxRecDepth 100000 in
set_option maxHeartbeats 8000000 in
theorem tmay_any (s : Sc) (a : Option Addr) (len cap : Nat) (x : Int) (es : List Ent) (w : World) (h : EntsAt w a len cap es) (hx : isW x) :
    Calls Tryd.prog 13 #[tbV s (.slice a len cap) x] w fun e w' => e = .returned (.bool (mayTb (s, es, x))) ∧ Below w.heap.size w w' := by
  rw [← mayB_eq (t := (s, es, x)) ⟨h.ok, hx⟩]
  have hm := h.max
  have H1 := Lib.hid h.1
  rcases s with ⟨s0, s1, s2, s3⟩
  obtain ⟨W0, hW0⟩ : ∃ W0, w.alloc (.cells #[.int .i64 s0, .int .i64 s1, .int .i64 s2, .int .i64 s3, .slice a len cap, .int .u32 x] 42) = W0 := ⟨_, rfl⟩
  have hbw : Below w.heap.size w W0 := by rw [← hW0]; exact (Below.refl _ _).alloc (Nat.le_refl _) _
  have HT : Hid (TbAt W0 w.heap.size (s0, s1, s2, s3) (.slice a len cap) x) := by rw [← hW0]; exact Lib.hid (tbAt_new w (s0, s1, s2, s3) (.slice a len cap) x)
  have HE := Lib.hid (h.below hbw)
  have HB := Lib.hid hbw
  clear h hbw
  obtain ⟨R, hR⟩ : ∃ R, mayB ((s0, s1, s2, s3), es, x) = R := ⟨_, rfl⟩
  rw [hR]
  have HR := Lib.hid hR
  clear hR
  obtain ⟨d0, d1, d2, d3, d4, d5⟩ := HT.out
  simp only at d0 d1 d2 d3 d4 d5
  go_enter Tryd.func13, Tryd.ntmps13
  go_wp2_with fail
  refine (may_any s0 s1 s2 s3 _).mono ?_
  rintro e w1 ⟨rfl, hB1⟩
  have HT1 := Lib.hid (HT.out.later hB1)
  have HE1 := Lib.hid (HE.out.below hB1)
  have HB1 := Lib.hid (HB.out.trans (hB1.mono HB.out.size))
  clear d0 d1 d2 d3 d4 d5 hB1 HT HE HB hW0
  rcases hM : mayS s0 s1 s2 s3 with _ | _
  · have HQ : Hid (R = false) := Lib.hid (by rw [← HR.out]; simp [mayB, mayT, hM])
    go_wp2
    go_ret
    exact ⟨ret_bool HQ.out, HB1.out⟩
  have HM := Lib.hid hM
  have HMi := Lib.hid (mayS_iff.1 hM)
  clear hM
  obtain ⟨d0, d1, d2, d3, d4, d5⟩ := HT1.out
  simp only at d0 d1 d2 d3 d4 d5
  by_cases hc : (len : Int) ≤ s1
  · have hcI : ¬ s1 < (len : Int) := by omega
    have HC := Lib.hid hc
    clear hc
    go_wp2_with fail
    refine (haveWords_any a len cap s2 es _ HE1.out).mono ?_
    rintro e w2 ⟨rfl, hB2⟩
    have HT2 := Lib.hid (HT1.out.later hB2)
    have HE2 := Lib.hid (HE1.out.below hB2)
    have HB2 := Lib.hid (HB1.out.trans (hB2.mono HB1.out.size))
    clear d0 d1 d2 d3 d4 d5 hB2 HT1 HE1 HB1
    rcases hH : haveB es s2 with _ | _
    · have HQ : Hid (R = false) := Lib.hid (by rw [← HR.out]; simp [mayB, hH])
      go_wp2
      go_ret
      exact ⟨ret_bool HQ.out, HB2.out⟩
    have HQ : Hid (R = kindB ((s0, s1, s2, s3), es, x)) := Lib.hid (by rw [← HR.out]; simp [mayB, mayT, HM.out, hH, H1.out, HC.out])
    clear hH HR
    obtain ⟨d0, d1, d2, d3, d4, d5⟩ := HT2.out
    simp only at d0 d1 d2 d3 d4 d5
    by_cases hk0 : s0 = 0
    · have hq0 : (s0 == 0) = true := by simpa using hk0
      have HK0 := Lib.hid hk0
      clear hk0
      by_cases hx0 : x = 0
      · have hqx : (x == 0) = true := by simpa using hx0
        have HX0 := Lib.hid hx0
        clear hx0
        by_cases hl : (len : Int) = s1
        · have hql : ((len : Int) == s1) = true := by simpa using hl
          have HL := Lib.hid hl
          clear hl
          go_wp2_with fail
          refine (consecutive_any a len cap 0 es _ HE2.out).mono ?_
          rintro e w3 ⟨rfl, hB3⟩
          have HB3 := Lib.hid (HB2.out.trans (hB3.mono HB2.out.size))
          clear d0 d1 d2 d3 d4 d5 hB3
          obtain ⟨r, hr⟩ : ∃ r, allB es (consP es 0) = r := ⟨_, rfl⟩
          have HG : Hid (R = r) := Lib.hid (by rw [HQ.out, ← hr]; simp [kindB, HK0.out, HX0.out, H1.out, HL.out])
          rw [hr]
          clear hr
          go_wp2
          all_goals (go_ret; exact ⟨ret_bool HG.out, HB3.out⟩)
        · have hql : ((len : Int) == s1) = false := by simpa using hl
          have HG : Hid (R = false) := Lib.hid (by rw [HQ.out]; simp [kindB, HK0.out, H1.out, hl])
          clear hl
          go_wp2
          go_ret
          exact ⟨ret_bool HG.out, HB2.out⟩
      · have hqx : (x == 0) = false := by simpa using hx0
        have HG : Hid (R = false) := Lib.hid (by rw [HQ.out]; simp [kindB, HK0.out, hx0])
        clear hx0
        go_wp2
        go_ret
        exact ⟨ret_bool HG.out, HB2.out⟩
    · have hq0 : (s0 == 0) = false := by simpa using hk0
      have HK0 := Lib.hid hk0
      clear hk0
      by_cases hk3 : s0 = 3
      · have hq3 : (s0 == 3) = true := by simpa using hk3
        have HK3 := Lib.hid hk3
        clear hk3
        go_wp2_with fail
        refine (consecutive_any a len cap ((x - (len : Int)) % 4294967296) es _ HE2.out).mono ?_
        rintro e w3 ⟨rfl, hB3⟩
        have HB3 := Lib.hid (HB2.out.trans (hB3.mono HB2.out.size))
        clear d0 d1 d2 d3 d4 d5 hB3
        obtain ⟨r, hr⟩ : ∃ r, allB es (consP es ((x - (len : Int)) % 4294967296)) = r := ⟨_, rfl⟩
        have HG : Hid (R = r) := Lib.hid (by rw [HQ.out, ← hr, ← H1.out]; simp only [kindB]; rw [if_neg HK0.out, if_pos HK3.out])
        rw [hr]
        clear hr
        go_wp2
        all_goals (go_ret; exact ⟨ret_bool HG.out, HB3.out⟩)
      · have hq3 : (s0 == 3) = false := by simpa using hk3
        have HK3 := Lib.hid hk3
        clear hk3
        by_cases hx0 : x = 0
        · have hqx : (x == 0) = true := by simpa using hx0
          have HX0 := Lib.hid hx0
          clear hx0
          go_wp2_with fail
          refine (distinct_any a len cap es _ HE2.out).mono ?_
          rintro e w3 ⟨rfl, hB3⟩
          have HB3 := Lib.hid (HB2.out.trans (hB3.mono HB2.out.size))
          clear d0 d1 d2 d3 d4 d5 hB3
          obtain ⟨r, hr⟩ : ∃ r, allB es (distP es) = r := ⟨_, rfl⟩
          have HG : Hid (R = r) := Lib.hid (by rw [HQ.out, ← hr]; simp [kindB, HK0.out, HK3.out, HX0.out])
          rw [hr]
          clear hr
          go_wp2
          all_goals (go_ret; exact ⟨ret_bool HG.out, HB3.out⟩)
        · have hqx : (x == 0) = false := by simpa using hx0
          have HG : Hid (R = false) := Lib.hid (by rw [HQ.out]; simp [kindB, HK0.out, HK3.out, hx0])
          clear hx0
          go_wp2
          go_ret
          exact ⟨ret_bool HG.out, HB2.out⟩
  · have hcI : s1 < (len : Int) := by omega
    have HQ : Hid (R = false) := Lib.hid (by rw [← HR.out]; simp [mayB, H1.out, hc])
    clear hc
    go_wp2
    go_ret
    exact ⟨ret_bool HQ.out, HB1.out⟩
end Go.Proofs.YtilddlgcfbefiaaDoor

/-
  What the package's keyed, queued and mayAdd return, as contracts over the translated program.
-/
namespace Go.Proofs.YtilddlgcfbefiaaDoor
set_option linter.unusedSimpArgs false
set_option linter.unusedVariables false
open Go Go.RowKit

set_option maxRecDepth 100000 in
set_option maxHeartbeats 4000000 in
theorem tkeyed_any (s : Sc) (a : Option Addr) (len cap : Nat) (x : Int) (es : List Ent) (w : World) (h : EntsAt w a len cap es) (hx : isW x) :
    Calls Tryd.prog 136 #[tbV s (.slice a len cap) x] w fun e w' => e = .returned (.bool (mayTb (s, es, x) && decide (s.1 ≠ 3))) ∧ Below w.heap.size w w' := by
  have hm := h.max
  rcases s with ⟨s0, s1, s2, s3⟩
  obtain ⟨W0, hW0⟩ : ∃ W0, w.alloc (.cells #[.int .i64 s0, .int .i64 s1, .int .i64 s2, .int .i64 s3, .slice a len cap, .int .u32 x] 42) = W0 := ⟨_, rfl⟩
  have hbw : Below w.heap.size w W0 := by rw [← hW0]; exact (Below.refl _ _).alloc (Nat.le_refl _) _
  have HT : Hid (TbAt W0 w.heap.size (s0, s1, s2, s3) (.slice a len cap) x) := by rw [← hW0]; exact Lib.hid (tbAt_new w (s0, s1, s2, s3) (.slice a len cap) x)
  have HE := Lib.hid (h.below hbw)
  have HB := Lib.hid hbw
  clear h hbw
  obtain ⟨d0, d1, d2, d3, d4, d5⟩ := HT.out
  simp only at d0 d1 d2 d3 d4 d5
  go_enter Tryd.func136, Tryd.ntmps136
  go_wp2_with fail
  refine (tmay_any (s0, s1, s2, s3) a len cap x es _ HE.out hx).mono ?_
  rintro e w1 ⟨rfl, hB1⟩
  have HT1 := Lib.hid (HT.out.later hB1)
  have HB1 := Lib.hid (HB.out.trans (hB1.mono HB.out.size))
  clear d0 d1 d2 d3 d4 d5 hB1 HT HE HB hW0
  obtain ⟨d0, d1, d2, d3, d4, d5⟩ := HT1.out
  simp only at d0 d1 d2 d3 d4 d5
  rcases hM : mayTb ((s0, s1, s2, s3), es, x) with _ | _
  · go_wp2
    go_ret
    exact ⟨ret_bool (by rw [hM]; simp), HB1.out⟩
  · by_cases h3 : s0 = 3
    · have hq : (s0 != 3) = false := by simpa using h3
      go_wp2
      go_ret
      exact ⟨ret_bool (by rw [hM]; simp [h3]), HB1.out⟩
    · have hq : (s0 != 3) = true := by simpa using h3
      go_wp2
      go_ret
      exact ⟨ret_bool (by rw [hM]; simp [h3]), HB1.out⟩
set_option maxRecDepth 100000 in
set_option maxHeartbeats 4000000 in
theorem tqueued_any (s : Sc) (a : Option Addr) (len cap : Nat) (x : Int) (es : List Ent) (w : World) (h : EntsAt w a len cap es) (hx : isW x) :
    Calls Tryd.prog 143 #[tbV s (.slice a len cap) x] w fun e w' => e = .returned (.bool (mayTb (s, es, x) && decide (s.1 = 3))) ∧ Below w.heap.size w w' := by
  have hm := h.max
  rcases s with ⟨s0, s1, s2, s3⟩
  obtain ⟨W0, hW0⟩ : ∃ W0, w.alloc (.cells #[.int .i64 s0, .int .i64 s1, .int .i64 s2, .int .i64 s3, .slice a len cap, .int .u32 x] 42) = W0 := ⟨_, rfl⟩
  have hbw : Below w.heap.size w W0 := by rw [← hW0]; exact (Below.refl _ _).alloc (Nat.le_refl _) _
  have HT : Hid (TbAt W0 w.heap.size (s0, s1, s2, s3) (.slice a len cap) x) := by rw [← hW0]; exact Lib.hid (tbAt_new w (s0, s1, s2, s3) (.slice a len cap) x)
  have HE := Lib.hid (h.below hbw)
  have HB := Lib.hid hbw
  clear h hbw
  obtain ⟨d0, d1, d2, d3, d4, d5⟩ := HT.out
  simp only at d0 d1 d2 d3 d4 d5
  go_enter Tryd.func143, Tryd.ntmps143
  go_wp2_with fail
  refine (tmay_any (s0, s1, s2, s3) a len cap x es _ HE.out hx).mono ?_
  rintro e w1 ⟨rfl, hB1⟩
  have HT1 := Lib.hid (HT.out.later hB1)
  have HB1 := Lib.hid (HB.out.trans (hB1.mono HB.out.size))
  clear d0 d1 d2 d3 d4 d5 hB1 HT HE HB hW0
  obtain ⟨d0, d1, d2, d3, d4, d5⟩ := HT1.out
  simp only at d0 d1 d2 d3 d4 d5
  rcases hM : mayTb ((s0, s1, s2, s3), es, x) with _ | _
  · go_wp2
    go_ret
    exact ⟨ret_bool (by rw [hM]; simp), HB1.out⟩
  · by_cases h3 : s0 = 3
    · have hq : (s0 == 3) = true := by simpa using h3
      go_wp2
      go_ret
      exact ⟨ret_bool (by rw [hM]; simp [h3]), HB1.out⟩
    · have hq : (s0 == 3) = false := by simpa using h3
      go_wp2
      go_ret
      exact ⟨ret_bool (by rw [hM]; simp [h3]), HB1.out⟩
def addE (s : Sc) (len : Nat) : Int := if s.1 = 0 then 3 else if s.1 = 1 ∧ (len : Int) = s.2.1 then 4 else 0
set_option maxHeartbeats 4000000 in
theorem mayAdd_any (s : Sc) (a : Option Addr) (len cap : Nat) (x : Int) (es : List Ent) (w : World) (h : EntsAt w a len cap es) :
    Calls Tryd.prog 139 #[tbV s (.slice a len cap) x] w fun e w' => e = .returned (.int .i64 (addE s len)) ∧ Below w.heap.size w w' := by
  have hm := h.max
  rcases s with ⟨s0, s1, s2, s3⟩
  obtain ⟨W0, hW0⟩ : ∃ W0, w.alloc (.cells #[.int .i64 s0, .int .i64 s1, .int .i64 s2, .int .i64 s3, .slice a len cap, .int .u32 x] 42) = W0 := ⟨_, rfl⟩
  have hbw : Below w.heap.size w W0 := by rw [← hW0]; exact (Below.refl _ _).alloc (Nat.le_refl _) _
  have HT : Hid (TbAt W0 w.heap.size (s0, s1, s2, s3) (.slice a len cap) x) := by rw [← hW0]; exact Lib.hid (tbAt_new w (s0, s1, s2, s3) (.slice a len cap) x)
  have HE := Lib.hid (h.below hbw)
  have HB := Lib.hid hbw
  clear h hbw
  obtain ⟨d0, d1, d2, d3, d4, d5⟩ := HT.out
  simp only at d0 d1 d2 d3 d4 d5
  by_cases h0 : s0 = 0
  · have hq : (s0 == 0) = true := by simpa using h0
    have HR : Hid (addE (s0, s1, s2, s3) len = 3) := Lib.hid (by simp [addE, h0])
    clear h0
    go_enter Tryd.func139, Tryd.ntmps139
    go_wp2
    go_ret
    exact ⟨by rw [HR.out]; rfl, HB.out⟩
  · have hq : (s0 == 0) = false := by simpa using h0
    by_cases h1 : s0 = 1
    · have hq1 : (s0 == 1) = true := by simpa using h1
      have HK := Lib.hid h1
      have HN := Lib.hid h0
      clear h0 h1
      go_enter Tryd.func139, Tryd.ntmps139
      go_wp2_with fail
      refine (full_any (s0, s1, s2, s3) a len cap x _).mono ?_
      rintro e w1 ⟨rfl, hB1⟩
      have HB1 := Lib.hid (HB.out.trans (hB1.mono HB.out.size))
      clear d0 d1 d2 d3 d4 d5 hB1 HT HE HB hW0
      by_cases hl : (len : Int) = s1
      · have HR : Hid (addE (s0, s1, s2, s3) len = 4) := Lib.hid (by simp [addE, HK.out, hl])
        have hd : decide ((len : Int) = s1) = true := decide_eq_true hl
        simp only [hd]
        clear hl hd
        go_wp2
        go_ret
        exact ⟨by rw [HR.out]; rfl, HB1.out⟩
      · have HR : Hid (addE (s0, s1, s2, s3) len = 0) := Lib.hid (by simp [addE, HK.out, hl])
        have hd : decide ((len : Int) = s1) = false := decide_eq_false hl
        simp only [hd]
        clear hl hd
        go_wp2
        go_ret
        exact ⟨by rw [HR.out]; rfl, HB1.out⟩
    · have hq1 : (s0 == 1) = false := by simpa using h1
      have HR : Hid (addE (s0, s1, s2, s3) len = 0) := Lib.hid (by simp [addE, h0, h1])
      clear h0 h1
      go_enter Tryd.func139, Tryd.ntmps139
      go_wp2
      go_ret
      exact ⟨by rw [HR.out]; rfl, HB.out⟩
end Go.Proofs.YtilddlgcfbefiaaDoor

