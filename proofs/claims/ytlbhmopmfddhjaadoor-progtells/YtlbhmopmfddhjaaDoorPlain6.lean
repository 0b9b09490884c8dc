/-
  The program that bytes are, as a plain function on lists, and that it undoes the encoding.
-/
import Derived.Test.YtlbhmopmfddhjaaDoorPlain5
namespace Go.Proofs.YtlbhmopmfddhjaaDoor

def byteL (zs : List Int) : Prop := ∀ z ∈ zs, 0 ≤ z ∧ z ≤ 255
def decI (zs : List Int) : Option I :=
  match zs with
  | [z0, z1, z2, z3, z4, z5, z6, z7] =>
    if mayB (z0 / 16) (z0 % 16) (z1 % 128 / 8) (z1 % 8) (decide (128 ≤ z1)) (z2 * 256 + z3) (((z4 * 256 + z5) * 256 + z6) * 256 + z7) then
      some (z0 / 16, z0 % 16, z1 % 128 / 8, z1 % 8, decide (128 ≤ z1), z2 * 256 + z3, ((z4 * 256 + z5) * 256 + z6) * 256 + z7)
    else none
  | _ => none
def parseC : Nat → List Int → Option (List I × List Int)
  | 0, zs => some ([], zs)
  | n + 1, zs =>
    match decI (zs.take 8) with
    | none => none
    | some i =>
      match parseC n (zs.drop 8) with
      | none => none
      | some (c, r) => some (i :: c, r)
def parseF : Nat → List Int → Option (List Fun × List Int)
  | 0, zs => some ([], zs)
  | n + 1, a :: l :: zs =>
    match parseC l.toNat zs with
    | none => none
    | some (c, r) =>
      match parseF n r with
      | none => none
      | some (fs, r') => some ((a, c) :: fs, r')
  | _ + 1, _ => none
def getP (zs : List Int) : Option (List Fun) :=
  match zs with
  | z0 :: z1 :: n :: r =>
    if z0 = 88 ∧ z1 = 86 then
      match parseF n.toNat r with
      | some (fs, []) => if mayP fs then some fs else none
      | _ => none
    else none
  | _ => none

theorem bytes8 {z0 z1 z2 z3 z4 z5 z6 z7 : Int} (h : byteL [z0, z1, z2, z3, z4, z5, z6, z7]) :
    ∀ i, i < 8 → 0 ≤ [z0, z1, z2, z3, z4, z5, z6, z7].getD i 0 ∧ [z0, z1, z2, z3, z4, z5, z6, z7].getD i 0 ≤ 255 := fun i hi => h _ (getD_mem _ i 0 hi)
theorem decI_enc {i : I} (hok : okI i) (hm : mayI i = true) : decI (encI i) = some i := by
  obtain ⟨o, f, d, s, r, x, m⟩ := i
  have hP := (mayB_iff hok.1 hok.2).1 hm
  obtain ⟨p0, p1, p2, p3, p4, p5, p6⟩ := dec_enc hP
  have hm' : mayB o f d s r x m = true := hm
  show decI (encL o f d s r x m) = _
  rw [encL_sec]
  simp only [decI, p0, p1, p2, p3, p4, p5, p6, hm', if_true]
theorem decI_some {zs : List Int} {i : I} (hb : byteL zs) (h : decI zs = some i) : encI i = zs ∧ mayI i = true ∧ okI i := by
  match zs, h with
  | [z0, z1, z2, z3, z4, z5, z6, z7], h =>
    simp only [decI] at h
    split at h
    · rename_i hm
      obtain rfl := Option.some.inj h
      have b4 := hb z4 (by simp)
      have b5 := hb z5 (by simp)
      have b6 := hb z6 (by simp)
      have b7 := hb z7 (by simp)
      refine ⟨enc_dec (bytes8 hb), hm, ?_⟩
      simp only [okI]
      omega
    · cases h
theorem parseC_enc : ∀ (c : List I) (r : List Int), (∀ i ∈ c, okI i ∧ mayI i = true) → parseC c.length (encC c ++ r) = some (c, r)
  | [], _, _ => rfl
  | i :: c, r, h => by
    have hi := h i (by simp)
    have e : encC (i :: c) ++ r = encI i ++ (encC c ++ r) := by simp [encC]
    have e8 : (encI i).length = 8 := rfl
    simp only [List.length_cons, parseC, e]
    rw [List.take_append_of_le_length (by omega), List.take_of_length_le (by omega), decI_enc hi.1 hi.2, List.drop_append_of_le_length (by omega), List.drop_of_length_le (by omega), List.nil_append, parseC_enc c r (fun j hj => h j (by simp [hj]))]
theorem parseC_some : ∀ (n : Nat) (zs : List Int) (c : List I) (r : List Int), byteL zs → parseC n zs = some (c, r) → zs = encC c ++ r ∧ c.length = n ∧ ∀ i ∈ c, okI i ∧ mayI i = true
  | 0, zs, c, r, _, h => by
    simp only [parseC, Option.some.injEq, Prod.mk.injEq] at h
    obtain ⟨rfl, rfl⟩ := h
    exact ⟨rfl, rfl, fun i hi => by simp at hi⟩
  | n + 1, zs, c, r, hb, h => by
    simp only [parseC] at h
    split at h
    · cases h
    · rename_i i hi
      split at h
      · cases h
      · rename_i c' r' hc
        simp only [Option.some.injEq, Prod.mk.injEq] at h
        obtain ⟨rfl, rfl⟩ := h
        obtain ⟨h1, h2, h3⟩ := decI_some (fun z hz => hb z (List.mem_of_mem_take hz)) hi
        obtain ⟨h4, h5, h6⟩ := parseC_some n (zs.drop 8) c' r' (fun z hz => hb z (List.mem_of_mem_drop hz)) hc
        refine ⟨?_, by simp [h5], fun j hj => ?_⟩
        · rw [← List.take_append_drop 8 zs, h4, ← h1]
          simp [encC]
        · rcases List.mem_cons.1 hj with rfl | hj
          · exact ⟨h3, h2⟩
          · exact h6 j hj
theorem parseF_enc : ∀ (fs : List Fun) (r : List Int), (∀ f ∈ fs, ∀ i ∈ f.2, okI i ∧ mayI i = true) → parseF fs.length (encFs fs ++ r) = some (fs, r)
  | [], _, _ => rfl
  | (a, c) :: fs, r, h => by
    have hc := parseC_enc c (encFs fs ++ r) (h (a, c) (by simp))
    have hf := parseF_enc fs r (fun f hf => h f (by simp [hf]))
    have e : encFs ((a, c) :: fs) ++ r = a :: (c.length : Int) :: (encC c ++ (encFs fs ++ r)) := by simp [encFs, encF]
    simp only [List.length_cons, e, parseF, Int.toNat_natCast, hc, hf]
theorem parseF_some : ∀ (n : Nat) (zs : List Int) (fs : List Fun) (r : List Int), byteL zs → parseF n zs = some (fs, r) → zs = encFs fs ++ r ∧ fs.length = n ∧ ∀ f ∈ fs, ∀ i ∈ f.2, okI i ∧ mayI i = true
  | 0, zs, fs, r, _, h => by
    simp only [parseF, Option.some.injEq, Prod.mk.injEq] at h
    obtain ⟨rfl, rfl⟩ := h
    exact ⟨rfl, rfl, fun f hf => by simp at hf⟩
  | n + 1, [], _, _, _, h => by simp [parseF] at h
  | n + 1, [_], _, _, _, h => by simp [parseF] at h
  | n + 1, a :: l :: zs, fs, r, hb, h => by
    simp only [parseF] at h
    split at h
    · cases h
    · rename_i c r1 hc
      split at h
      · cases h
      · rename_i fs' r' hf
        simp only [Option.some.injEq, Prod.mk.injEq] at h
        obtain ⟨rfl, rfl⟩ := h
        obtain ⟨h1, h2, h3⟩ := parseC_some l.toNat zs c r1 (fun z hz => hb z (by simp [hz])) hc
        obtain ⟨h4, h5, h6⟩ := parseF_some n r1 fs' r' (fun z hz => hb z (by simp [h1, hz])) hf
        have hl := hb l (by simp)
        refine ⟨?_, by simp [h5], fun f hf' => ?_⟩
        · have e : ((c.length : Nat) : Int) = l := by rw [h2]; omega
          rw [h1, h4]
          simp [encFs, encF, e]
        · rcases List.mem_cons.1 hf' with rfl | hf'
          · exact h3
          · exact h6 f hf'
theorem mayP_insts {fs : List Fun} (hok : ∀ f ∈ fs, ∀ i ∈ f.2, okI i) (h : mayP fs = true) : ∀ f ∈ fs, ∀ i ∈ f.2, okI i ∧ mayI i = true := by
  intro f hf i hi
  refine ⟨hok f hf i hi, ?_⟩
  obtain ⟨k, hk, rfl⟩ := List.getElem_of_mem hf
  have h1 := (fnB_facts (mayP_fn h k hk)).1
  rw [List.getD_eq_getElem?_getD, List.getElem?_eq_getElem hk] at h1
  simp only [codeB, Bool.and_eq_true] at h1
  exact List.all_eq_true.1 h1.1 i hi
theorem getP_enc {fs : List Fun} (hok : ∀ f ∈ fs, ∀ i ∈ f.2, okI i) (h : mayP fs = true) : getP (encP fs) = some fs := by
  have h1 := parseF_enc fs [] (mayP_insts hok h)
  rw [List.append_nil] at h1
  simp only [getP, encP, and_self, if_true, Int.toNat_natCast, h1, h]
theorem getP_some {zs : List Int} {fs : List Fun} (hb : byteL zs) (h : getP zs = some fs) : encP fs = zs ∧ mayP fs = true ∧ ∀ f ∈ fs, ∀ i ∈ f.2, okI i := by
  match zs, h with
  | z0 :: z1 :: n :: r, h =>
    simp only [getP] at h
    split at h
    · rename_i hz
      obtain ⟨rfl, rfl⟩ := hz
      split at h
      · rename_i fs' hp
        split at h
        · rename_i hm
          obtain rfl := Option.some.inj h
          obtain ⟨h1, h2, h3⟩ := parseF_some n.toNat r fs' [] (fun z hz => hb z (by simp [hz])) hp
          have hn := hb n (by simp)
          refine ⟨?_, hm, fun f hf i hi => (h3 f hf i hi).1⟩
          have e : ((fs'.length : Nat) : Int) = n := by rw [h2]; omega
          rw [List.append_nil] at h1
          simp only [encP, e, h1]
        · cases h
      · cases h
    · cases h
end Go.Proofs.YtlbhmopmfddhjaaDoor
