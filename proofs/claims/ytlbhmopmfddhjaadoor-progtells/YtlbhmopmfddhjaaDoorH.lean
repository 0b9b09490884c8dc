/-
  The law file's awake, as a contract over the translated program: it returns true. The reference's Bytes at slices of bytes.
-/
import Derived.Test.YtlbhmopmfddhjaaDoorY7
import Derived.Test.YtlbhmopmfddhjaaDoorY4
import Derived.Test.YtlbhmopmfddhjaaDoorY2
namespace Go.Proofs.YtlbhmopmfddhjaaDoor
open Go.RowKit

theorem bytesB_any (a b : Option Addr) (la ca lb cb : Nat) (zs ys : List Int) (w : World) (h1 : SliceB w a la ca zs) (h2 : SliceB w b lb cb ys) :
    Calls Tryd.prog 14 #[.slice a la ca, .slice b lb cb] w fun e w' => e = .returned (.bool (decide (zs = ys))) ∧ Below w.heap.size w w' := by
  by_cases hl : la = lb
  · subst hl
    by_cases h0 : la = 0
    · subst h0
      have e : decide (zs = ys) = true := by
        have e1 := List.length_eq_zero_iff.1 h1.1
        have e2 := List.length_eq_zero_iff.1 h2.1
        simp [e1, e2]
      rw [e]
      exact bytes_nil a b ca cb w
    · obtain ⟨x, rfl, hx⟩ := h1.2.2.2.2.resolve_left h0
      obtain ⟨y, rfl, hy⟩ := h2.2.2.2.2.resolve_left h0
      exact bytes_same x y la ca cb zs ys w (Nat.le_trans h1.2.1 h1.2.2.1) h1.1 h2.1 hx hy
  · have e : decide (zs = ys) = false := decide_eq_false (fun h => hl (by rw [← h1.1, ← h2.1, h]))
    rw [e]
    exact bytes_len a b la ca lb cb w hl (Nat.le_trans h1.2.1 h1.2.2.1) (Nat.le_trans h2.2.1 h2.2.2.1)
/- the bytes of valid programs are bytes -/
theorem encI_byteL {i : I} (hok : okI i) (hm : mayI i = true) : byteL (encI i) := by
  obtain ⟨o, f, d, s, r, x, m⟩ := i
  have hP := (mayB_iff hok.1 hok.2).1 hm
  have hE : ∀ i, i < 8 → 0 ≤ (encI (o, f, d, s, r, x, m)).getD i 0 ∧ (encI (o, f, d, s, r, x, m)).getD i 0 ≤ 255 := enc_bytes hP hok.1 hok.2
  intro z hz
  obtain ⟨j, hj, rfl⟩ := List.getElem_of_mem hz
  have := hE j hj
  rwa [List.getD_eq_getElem?_getD, List.getElem?_eq_getElem hj] at this
theorem encP_byteL {fs : List Fun} (hok : ∀ f ∈ fs, ∀ i ∈ f.2, okI i) (h : mayP fs = true) : byteL (encP fs) := by
  have hi := mayP_insts hok h
  intro z hz
  simp only [encP, List.mem_cons] at hz
  have hl := mayP_len h
  rcases hz with rfl | rfl | rfl | hz
  · omega
  · omega
  · omega
  · obtain ⟨f, hf, hz⟩ := List.mem_flatMap.1 hz
    obtain ⟨k, hk, rfl⟩ := List.getElem_of_mem hf
    have hB := fnB_facts (mayP_fn h k hk)
    rw [List.getD_eq_getElem?_getD, List.getElem?_eq_getElem hk] at hB
    simp only [Option.getD_some] at hB
    have hc := codeB_len hB.1
    simp only [encF, List.mem_cons] at hz
    rcases hz with rfl | rfl | hz
    · omega
    · omega
    · obtain ⟨i, hi1, hz⟩ := List.mem_flatMap.1 hz
      exact encI_byteL (hi _ (List.getElem_mem hk) i hi1).1 (hi _ (List.getElem_mem hk) i hi1).2 z hz
theorem fns_ok {w : World} {a : Option Addr} {len cap : Nat} {fs : List Fun} (h : FnsAt w a len cap fs) : ∀ f ∈ fs, ∀ i ∈ f.2, okI i := by
  intro f hf
  obtain ⟨k, hk, rfl⟩ := List.getElem_of_mem hf
  obtain ⟨y, _, h6⟩ := h.2.2.2.resolve_left (by have := h.1; omega)
  obtain ⟨_, b, l, c, _, hc⟩ := h6 k (by rw [← h.1]; exact hk)
  rw [List.getD_eq_getElem?_getD, List.getElem?_eq_getElem hk] at hc
  exact hc.2.2.2.1
/- what Put returned, as a slice of bytes -/
theorem put_slice {fs : List Fun} {w' : World} {g cp : Nat} (hok : ∀ f ∈ fs, ∀ i ∈ f.2, okI i) (hM : mayP fs = true) (h1 : (encP fs).length ≤ cp) (h2 : cp ≤ maxLen) (h3 : BytesAt w' ⟨g, 0, none⟩ (encP fs)) : SliceB w' (some ⟨g, 0, none⟩) (encP fs).length cp (encP fs) :=
  ⟨rfl, h1, h2, encP_byteL hok hM, .inr ⟨_, rfl, h3⟩⟩

def wakeP : List Fun := [(0, [(7, 0, 0, 0, false, 0, 0)])]
theorem wake_may : mayP wakeP = true := by decide
theorem wake_enc : encP wakeP = [88, 86, 1, 0, 1, 112, 0, 0, 0, 0, 0, 0, 0] := by decide
theorem wake_ok : ∀ f ∈ wakeP, ∀ i ∈ f.2, okI i := by
  intro f hf i hi
  obtain rfl := List.mem_singleton.1 hf
  obtain rfl := List.mem_singleton.1 hi
  exact ⟨by decide, by decide⟩
theorem wake_get : getP [88, 86, 1, 0, 1, 112, 0, 0, 0, 0, 0, 0, 0] = some wakeP := by
  rw [← wake_enc]
  exact getP_enc wake_ok wake_may
theorem wake_at (w : World) : FnsAt ((w.alloc (.cells #[.int .i64 7, .int .i64 0, .int .i64 0, .int .i64 0, .bool false, .int .i64 0, .int .u32 0] 46)).alloc (.cells #[.int .i64 0, .slice (some ⟨w.heap.size, 0, none⟩) 1 1] 28)) (some ⟨w.heap.size + 1, 0, none⟩) 1 1 wakeP := by
  refine ⟨rfl, Nat.le_refl _, by decide, .inr ⟨_, rfl, fun k hk => ?_⟩⟩
  obtain rfl : k = 0 := by omega
  rw [Nat.zero_mul, Addr.add_zero']
  refine ⟨by simp [wakeP], some ⟨w.heap.size, 0, none⟩, 1, 1, by simp, rfl, Nat.le_refl _, by decide, ?_, .inr ⟨⟨w.heap.size, 0, none⟩, rfl, fun j hj => ?_⟩⟩
  · intro i hi
    exact wake_ok _ (List.mem_cons_self) i hi
  · obtain rfl : j = 0 := by omega
    rw [Nat.zero_mul, Addr.add_zero']
    refine ⟨?_, ?_, ?_, ?_, ?_, ?_, ?_⟩ <;> simp [wakeP]

set_option maxHeartbeats 2000000 in
theorem awake_any (w : World) (hR : RowsIn w) :
    Calls Tryd.prog 9 #[] w fun e w' => e = .returned (.bool true) ∧ Below w.heap.size w w' := by
  have hg : Below w.heap.size w ((w.alloc (.cells #[.int .i64 7, .int .i64 0, .int .i64 0, .int .i64 0, .bool false, .int .i64 0, .int .u32 0] 46)).alloc (.cells #[.int .i64 0, .slice (some ⟨w.heap.size, 0, none⟩) 1 1] 28)) := ((Below.refl _ _).alloc (Nat.le_refl _) _).alloc (by simp) _
  have hR1 := hR.later hg
  have HW := Lib.hid (wake_at w)
  go_enter Tryd.func9, Tryd.ntmps9
  go_wp2_with fail
  refine (prPut_yes _ 1 1 wakeP _ hR1 HW.out wake_may).mono ?_
  rintro e w1 ⟨g, cp, rfl, hg1, hgb, hc1, hc2, hB1⟩
  rw [wake_enc] at hc1 hB1
  have hE : (encP wakeP).length = 13 := by rw [wake_enc]; rfl
  rw [hE]
  have HB1 := Lib.hid hB1
  have hS1 : SliceB w1 (some ⟨g, 0, none⟩) 13 cp [88, 86, 1, 0, 1, 112, 0, 0, 0, 0, 0, 0, 0] := by
    have := put_slice wake_ok wake_may (by rw [wake_enc]; exact hc1) hc2 (by rw [wake_enc]; exact hB1)
    rw [wake_enc] at this
    exact this
  have HS1 := Lib.hid hS1
  replace hg := hg.trans (hg1.mono hg.size)
  have hR2 := hR.later hg
  clear hg1 hc1 hc2 hB1 hE hS1 hR1 hgb HW HB1
  go_wp2_with fail
  refine (prGet_any _ 13 cp _ w1 hR2 HS1.out).mono ?_
  rintro e w2 ⟨hg2, ⟨hn, _⟩ | ⟨fs, b, l, c, hs, rfl, hF⟩⟩
  · rw [wake_get] at hn
    cases hn
  · rw [wake_get] at hs
    obtain rfl := Option.some.inj hs
    have hl : wakeP.length = l := hF.1
    obtain rfl : l = 1 := hl.symm
    replace hg := hg.trans (hg2.mono hg.size)
    have HS2 := Lib.hid (HS1.out.below hg2)
    have HF := Lib.hid hF
    clear hs hF hl hg2 HS1 hR2
    go_wp2_with fail
    have hb3 : Below w2.heap.size w2 ((w2.alloc (.cells #[.slice b 1 c] 24)).alloc (.cells #[.int .u8 88, .int .u8 86, .int .u8 1, .int .u8 0, .int .u8 1, .int .u8 112, .int .u8 0, .int .u8 0, .int .u8 0, .int .u8 0, .int .u8 0, .int .u8 0, .int .u8 0] 5)) := ((Below.refl _ _).alloc (Nat.le_refl _) _).alloc (by simp) _
    have hy : BytesAt ((w2.alloc (.cells #[.slice b 1 c] 24)).alloc (.cells #[.int .u8 88, .int .u8 86, .int .u8 1, .int .u8 0, .int .u8 1, .int .u8 112, .int .u8 0, .int .u8 0, .int .u8 0, .int .u8 0, .int .u8 0, .int .u8 0, .int .u8 0] 5)) ⟨w2.heap.size + 1, 0, none⟩ [88, 86, 1, 0, 1, 112, 0, 0, 0, 0, 0, 0, 0] := by
      intro i hi
      rw [addr_add]
      match i, hi with
      | 0, _ | 1, _ | 2, _ | 3, _ | 4, _ | 5, _ | 6, _ | 7, _ | 8, _ | 9, _ | 10, _ | 11, _ | 12, _ => simp
    have hSy : SliceB ((w2.alloc (.cells #[.slice b 1 c] 24)).alloc (.cells #[.int .u8 88, .int .u8 86, .int .u8 1, .int .u8 0, .int .u8 1, .int .u8 112, .int .u8 0, .int .u8 0, .int .u8 0, .int .u8 0, .int .u8 0, .int .u8 0, .int .u8 0] 5)) (some ⟨w2.heap.size + 1, 0, none⟩) 13 13 [88, 86, 1, 0, 1, 112, 0, 0, 0, 0, 0, 0, 0] :=
      ⟨rfl, Nat.le_refl _, by decide, by unfold byteL; decide, .inr ⟨_, rfl, hy⟩⟩
    refine (bytesB_any _ _ 13 cp 13 13 _ _ _ (HS2.out.below hb3) hSy).mono ?_
    rintro e w3 ⟨rfl, hg3⟩
    have c3 : w3.cell? ⟨w2.heap.size, 0, none⟩ = some (.slice b 1 c) := (hg3.cell (p := ⟨w2.heap.size, 0, none⟩) (by simp; omega)).trans (by simp)
    have hb4 : Below w2.heap.size w2 w3 := hb3.trans (hg3.mono hb3.size)
    have HF4 := Lib.hid (HF.out.below hb4)
    replace hg := hg.trans (hb4.mono hg.size)
    have hR4 := hR.later hg
    have hde : decide (([88, 86, 1, 0, 1, 112, 0, 0, 0, 0, 0, 0, 0] : List Int) = [88, 86, 1, 0, 1, 112, 0, 0, 0, 0, 0, 0, 0]) = true := by decide
    rw [hde]
    clear hb3 hy hSy hg3 hb4 HS2 HF hde
    go_wp2_with fail
    refine (prMay_any b 1 c wakeP w3 hR4 HF4.out).mono ?_
    rintro e w5 ⟨rfl, hg5⟩
    have hM := wake_may
    go_wp2
    go_ret
    exact ⟨rfl, hg.trans (hg5.mono hg.size)⟩
end Go.Proofs.YtlbhmopmfddhjaaDoor
