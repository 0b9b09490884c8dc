/-
  Schemas in plain numbers: which are valid, their room, how one follows another, their bytes, and what bytes are read as.
-/
import Derived.Test.YtbihfaplhjbfeaaKit
namespace Go.Proofs.Ytbihfaplhjbfeaa

/- a schema: Kind, Cap, Words, Ver -/
abbrev Sc : Type := Int × Int × Int × Int
def zeroS : Sc := (0, 0, 0, 0)
def wthn (n lo hi : Int) : Bool := decide (lo ≤ n) && decide (n ≤ hi)
def maxW (k : Int) : Int := if k = 3 then 1 else 4
def mayS (k c n v : Int) : Bool := wthn k 0 3 && (wthn c 1 16 && (wthn n 1 (maxW k) && wthn v 0 1000))
theorem mayS_iff {k c n v : Int} : mayS k c n v = true ↔ 0 ≤ k ∧ k ≤ 3 ∧ 1 ≤ c ∧ c ≤ 16 ∧ 1 ≤ n ∧ n ≤ 4 ∧ (k = 3 → n = 1) ∧ 0 ≤ v ∧ v ≤ 1000 := by
  by_cases h : k = 3
  · simp only [mayS, wthn, maxW, if_pos h, Bool.and_eq_true, decide_eq_true_iff]
    omega
  · simp only [mayS, wthn, maxW, if_neg h, Bool.and_eq_true, decide_eq_true_iff]
    omega
def mayT (s : Sc) : Bool := mayS s.1 s.2.1 s.2.2.1 s.2.2.2
def mayL (ss : List Sc) : Bool := decide (ss.length ≤ 4) && ss.all mayT
theorem mayL_len {ss : List Sc} (h : mayL ss = true) : ss.length ≤ 4 := by
  simp only [mayL, Bool.and_eq_true, decide_eq_true_iff] at h
  exact h.1
theorem mayL_mem {ss : List Sc} (h : mayL ss = true) : ∀ s ∈ ss, mayT s = true := by
  simp only [mayL, Bool.and_eq_true, List.all_eq_true] at h
  exact h.2
theorem mayL_at {ss : List Sc} (h : mayL ss = true) (k : Nat) (hk : k < ss.length) : mayT (ss.getD k zeroS) = true := mayL_mem h _ (getD_mem ss k zeroS hk)
theorem mayL_end {ss : List Sc} (hl : ss.length ≤ 4) (h : ∀ j, j < ss.length → mayT (ss.getD j zeroS) = true) : mayL ss = true := by
  simp only [mayL, Bool.and_eq_true, decide_eq_true_iff, List.all_eq_true]
  refine ⟨hl, fun s hs => ?_⟩
  obtain ⟨j, hj, rfl⟩ := List.getElem_of_mem hs
  have := h j hj
  rwa [List.getD_eq_getElem?_getD, List.getElem?_eq_getElem hj] at this
theorem mayL_false {ss : List Sc} {k : Nat} (hk : k < ss.length) (h : mayT (ss.getD k zeroS) = false) : mayL ss = false := by
  rcases hM : mayL ss with _ | _
  · rfl
  · rw [mayL_at hM k hk] at h
    cases h
theorem mayL_long {ss : List Sc} (h : 4 < ss.length) : mayL ss = false := by
  simp only [mayL, Bool.and_eq_false_iff, decide_eq_false_iff_not]
  left
  omega
theorem mayL_append {a b : List Sc} (hl : (a ++ b).length ≤ 4) : mayL (a ++ b) = (mayL a && mayL b) := by
  have ha : a.length ≤ 4 := by rw [List.length_append] at hl; omega
  have hb : b.length ≤ 4 := by rw [List.length_append] at hl; omega
  simp [mayL, ha, hb, -List.length_append, hl]

/- room -/
def roomS (k c n v : Int) : Int := if mayS k c n v = true then c * (n + 1) else 0
/- how one follows another -/
def scEq (k c n v k' c' n' v' : Int) : Bool := (k == k') && ((c == c') && ((n == n') && (v == v')))
theorem scEq_self (k c n v : Int) : scEq k c n v k c n v = true := by simp [scEq]
theorem scEq_iff {k c n v k' c' n' v' : Int} : scEq k c n v k' c' n' v' = true ↔ k = k' ∧ c = c' ∧ n = n' ∧ v = v' := by simp [scEq]
def stepS (k c n v k' c' n' v' : Int) : Int :=
  if mayS k c n v = true ∧ mayS k' c' n' v' = true then (if scEq k c n v k' c' n' v' = true then 0 else if k = k' ∧ v' = v + 1 then 1 else 2) else 2

/- bytes -/
def encT (s : Sc) : List Int := [s.1, s.2.1, s.2.2.1, s.2.2.2 / 256, s.2.2.2 % 256]
def encB (ss : List Sc) : List Int := ss.flatMap encT
def encS (ss : List Sc) : List Int := (ss.length : Int) :: encB ss
theorem encT_len (s : Sc) : (encT s).length = 5 := rfl
theorem encB_len : ∀ ss : List Sc, (encB ss).length = 5 * ss.length
  | [] => rfl
  | s :: ss => by
    have h := encB_len ss
    simp only [encB, List.flatMap_cons, List.length_append, List.length_cons, encT_len] at h ⊢
    omega
theorem encB_append (a b : List Sc) : encB (a ++ b) = encB a ++ encB b := by simp [encB]
theorem encS_len (ss : List Sc) : (encS ss).length = 1 + 5 * ss.length := by
  simp only [encS, List.length_cons, encB_len]
  omega
theorem encT_byte {s : Sc} (h : mayT s = true) : byteL (encT s) := by
  obtain ⟨k, c, n, v⟩ := s
  have h1 : mayS k c n v = true := h
  have h := mayS_iff.1 h1
  intro z hz
  simp only [encT, List.mem_cons, List.not_mem_nil, or_false] at hz
  omega
theorem encB_byte {ss : List Sc} (h : ∀ s ∈ ss, mayT s = true) : byteL (encB ss) := by
  intro z hz
  obtain ⟨s, hs, hz⟩ := List.mem_flatMap.1 hz
  exact encT_byte (h s hs) z hz
theorem encS_byte {ss : List Sc} (h : mayL ss = true) : byteL (encS ss) := by
  intro z hz
  have hl := mayL_len h
  simp only [encS, List.mem_cons] at hz
  rcases hz with rfl | hz
  · omega
  · exact encB_byte (mayL_mem h) z hz
/- the schema of five bytes; the schemas of bytes -/
def decT (zs : List Int) : Sc := (zs.getD 0 0, zs.getD 1 0, zs.getD 2 0, zs.getD 3 0 * 256 + zs.getD 4 0)
def dec : List Int → List Sc
  | z0 :: z1 :: z2 :: z3 :: z4 :: r => (z0, z1, z2, z3 * 256 + z4) :: dec r
  | _ => []
theorem dec_enc : ∀ {ss : List Sc}, dec (encB ss) = ss
  | [] => rfl
  | (k, c, n, v) :: ss => by
    have h := dec_enc (ss := ss)
    have e : encB ((k, c, n, v) :: ss) = k :: c :: n :: v / 256 :: v % 256 :: encB ss := by simp [encB, encT]
    rw [e, dec, h]
    congr 2
    congr 2
    omega
theorem dec_len : ∀ (n : Nat) (zs : List Int), zs.length = 5 * n → (dec zs).length = n
  | 0, [], _ => rfl
  | n + 1, z0 :: z1 :: z2 :: z3 :: z4 :: r, h => by
    have := dec_len n r (by simp only [List.length_cons] at h; omega)
    simp [dec, this]
  | 0, _ :: _, h => by simp at h
  | n + 1, [], h => by simp at h
  | n + 1, [_], h => by simp at h; omega
  | n + 1, [_, _], h => by simp at h; omega
  | n + 1, [_, _, _], h => by simp at h; omega
  | n + 1, [_, _, _, _], h => by simp at h; omega
theorem enc_dec : ∀ (n : Nat) (zs : List Int), zs.length = 5 * n → byteL zs → encB (dec zs) = zs
  | 0, [], _, _ => rfl
  | n + 1, z0 :: z1 :: z2 :: z3 :: z4 :: r, h, hb => by
    have := enc_dec n r (by simp only [List.length_cons] at h; omega) (fun z hz => hb z (by simp [hz]))
    have h3 := hb z3 (by simp)
    have h4 := hb z4 (by simp)
    have e : encB (dec (z0 :: z1 :: z2 :: z3 :: z4 :: r)) = z0 :: z1 :: z2 :: (z3 * 256 + z4) / 256 :: (z3 * 256 + z4) % 256 :: encB (dec r) := by simp [encB, encT, dec]
    rw [e, this]
    have e1 : (z3 * 256 + z4) / 256 = z3 := by omega
    have e2 : (z3 * 256 + z4) % 256 = z4 := by omega
    rw [e1, e2]
  | 0, _ :: _, h, _ => by simp at h
  | n + 1, [], h, _ => by simp at h
  | n + 1, [_], h, _ => by simp at h; omega
  | n + 1, [_, _], h, _ => by simp at h; omega
  | n + 1, [_, _, _], h, _ => by simp at h; omega
  | n + 1, [_, _, _, _], h, _ => by simp at h; omega
theorem dec_step {zs : List Int} (h : 5 ≤ zs.length) : dec zs = decT zs :: dec (zs.drop 5) := by
  match zs, h with
  | z0 :: z1 :: z2 :: z3 :: z4 :: r, _ => simp [dec, decT]
/- what bytes are -/
def getS (zs : List Int) : Option (List Sc) :=
  match zs with
  | [] => none
  | z :: r => if (r.length : Int) = 5 * z ∧ mayL (dec r) = true then some (dec r) else none
theorem getS_enc {ss : List Sc} (h : mayL ss = true) : getS (encS ss) = some ss := by
  have hl := encB_len ss
  rw [encS, getS, dec_enc, if_pos]
  exact ⟨by omega, h⟩
theorem getS_some {zs : List Int} {ss : List Sc} (hb : byteL zs) (h : getS zs = some ss) : mayL ss = true ∧ encS ss = zs := by
  match zs, h with
  | z :: r, h =>
    rw [getS] at h
    split at h
    · rename_i hc
      have hz := hb z (by simp)
      obtain rfl := Option.some.inj h
      refine ⟨hc.2, ?_⟩
      obtain ⟨n, rfl⟩ := Int.eq_ofNat_of_zero_le hz.1
      have hr : r.length = 5 * n := by have := hc.1; omega
      rw [encS, dec_len n r hr, enc_dec n r hr (fun z hz => hb z (by simp [hz]))]
    · cases h
theorem getS_none_len {z : Int} {r : List Int} (h : ¬ (r.length : Int) = 5 * z) : getS (z :: r) = none := by
  rw [getS, if_neg]
  exact fun hc => h hc.1
theorem getS_none_may {z : Int} {r : List Int} (h : mayL (dec r) = false) : getS (z :: r) = none := by
  rw [getS, if_neg]
  intro hc
  rw [h] at hc
  cases hc.2
theorem getS_yes {z : Int} {r : List Int} (h : (r.length : Int) = 5 * z) (hm : mayL (dec r) = true) : getS (z :: r) = some (dec r) := by
  rw [getS, if_pos ⟨h, hm⟩]
/- in one form for every input -/
def putE (ss : List Sc) : Int := if mayL ss = true then 0 else 1
def putZ (ss : List Sc) : List Int := if mayL ss = true then encS ss else []
def getE (zs : List Int) : Int := if (getS zs).isSome then 0 else 7
def getL (zs : List Int) : List Sc := (getS zs).getD []
theorem putE_yes {ss : List Sc} (h : mayL ss = true) : putE ss = 0 := by simp [putE, h]
theorem putE_no {ss : List Sc} (h : mayL ss = false) : putE ss = 1 := by simp [putE, h]
theorem putZ_yes {ss : List Sc} (h : mayL ss = true) : putZ ss = encS ss := by simp [putZ, h]
theorem putZ_no {ss : List Sc} (h : mayL ss = false) : putZ ss = [] := by simp [putZ, h]
theorem getE_some {zs : List Int} {ss : List Sc} (h : getS zs = some ss) : getE zs = 0 := by simp [getE, h]
theorem getE_none {zs : List Int} (h : getS zs = none) : getE zs = 7 := by simp [getE, h]
theorem getL_some {zs : List Int} {ss : List Sc} (h : getS zs = some ss) : getL zs = ss := by simp [getL, h]
theorem getL_none {zs : List Int} (h : getS zs = none) : getL zs = [] := by simp [getL, h]
end Go.Proofs.Ytbihfaplhjbfeaa
