/-
  Texts that the laws of this layer stand on, one behind the other.
-/
import Derived.Test.YtilddlgcfbefiaaDoorKitG
/-
  Schemas in plain numbers: which are valid, their room, how one follows another.
-/
namespace Go.Proofs.YtilddlgcfbefiaaDoor
set_option linter.unusedSimpArgs false
set_option linter.unusedVariables false

/- a schema: Kind, Cap, Words, Ver -/
abbrev Sc : Type := Int × Int × Int × Int
def zeroS : Sc := (0, 0, 0, 0)
def wthn (n lo hi : Int) : Bool := decide (lo ≤ n) && decide (n ≤ hi)
def maxW (k : Int) : Int := if k = 3 then 1 else 4
def mayS (k c n v : Int) : Bool := wthn k 0 3 && (wthn c 1 16 && (wthn n 1 (maxW k) && wthn v 0 1000))
theorem mayS_iff {k c n v : Int} : mayS k c n v = true ↔ 0 ≤ k ∧ k ≤ 3 ∧ 1 ≤ c ∧ c ≤ 16 ∧ 1 ≤ n ∧ n ≤ 4 ∧ (k = 3 → n = 1) ∧ 0 ≤ v ∧ v ≤ 1000 := by
  by_cases h : k = 3
  · simp only [mayS, wthn, maxW, if_pos h, Bool.and_eq_true, decide_eq_true_iff]
    omega
  · simp only [mayS, wthn, maxW, if_neg h, Bool.and_eq_true, decide_eq_true_iff]
    omega
def mayT (s : Sc) : Bool := mayS s.1 s.2.1 s.2.2.1 s.2.2.2
def mayL (ss : List Sc) : Bool := decide (ss.length ≤ 4) && ss.all mayT
theorem mayL_len {ss : List Sc} (h : mayL ss = true) : ss.length ≤ 4 := by
  simp only [mayL, Bool.and_eq_true, decide_eq_true_iff] at h
  exact h.1
theorem mayL_mem {ss : List Sc} (h : mayL ss = true) : ∀ s ∈ ss, mayT s = true := by
  simp only [mayL, Bool.and_eq_true, List.all_eq_true] at h
  exact h.2
theorem mayL_at {ss : List Sc} (h : mayL ss = true) (k : Nat) (hk : k < ss.length) : mayT (ss.getD k zeroS) = true := mayL_mem h _ (getD_mem ss k zeroS hk)
theorem mayL_end {ss : List Sc} (hl : ss.length ≤ 4) (h : ∀ j, j < ss.length → mayT (ss.getD j zeroS) = true) : mayL ss = true := by
  simp only [mayL, Bool.and_eq_true, decide_eq_true_iff, List.all_eq_true]
  refine ⟨hl, fun s hs => ?_⟩
  obtain ⟨j, hj, rfl⟩ := List.getElem_of_mem hs
  have := h j hj
  rwa [List.getD_eq_getElem?_getD, List.getElem?_eq_getElem hj] at this
theorem mayL_false {ss : List Sc} {k : Nat} (hk : k < ss.length) (h : mayT (ss.getD k zeroS) = false) : mayL ss = false := by
  rcases hM : mayL ss with _ | _
  · rfl
  · rw [mayL_at hM k hk] at h
    cases h
theorem mayL_long {ss : List Sc} (h : 4 < ss.length) : mayL ss = false := by
  simp only [mayL, Bool.and_eq_false_iff, decide_eq_false_iff_not]
  left
  omega
theorem mayL_append {a b : List Sc} (hl : (a ++ b).length ≤ 4) : mayL (a ++ b) = (mayL a && mayL b) := by
  have ha : a.length ≤ 4 := by rw [List.length_append] at hl; omega
  have hb : b.length ≤ 4 := by rw [List.length_append] at hl; omega
  simp [mayL, ha, hb, -List.length_append, hl]

/- room -/
def roomS (k c n v : Int) : Int := if mayS k c n v = true then c * (n + 1) else 0
/- how one follows another -/
def scEq (k c n v k' c' n' v' : Int) : Bool := (k == k') && ((c == c') && ((n == n') && (v == v')))
theorem scEq_self (k c n v : Int) : scEq k c n v k c n v = true := by simp [scEq]
theorem scEq_iff {k c n v k' c' n' v' : Int} : scEq k c n v k' c' n' v' = true ↔ k = k' ∧ c = c' ∧ n = n' ∧ v = v' := by simp [scEq]
def stepS (k c n v k' c' n' v' : Int) : Int :=
  if mayS k c n v = true ∧ mayS k' c' n' v' = true then (if scEq k c n v k' c' n' v' = true then 0 else if k = k' ∧ v' = v + 1 then 1 else 2) else 2

end Go.Proofs.YtilddlgcfbefiaaDoor

/-
  Tables in plain numbers: where a key is, which tables are valid, and what New, Get, Set, Del, Push and Pop make of them.
-/
namespace Go.Proofs.YtilddlgcfbefiaaDoor
set_option linter.unusedSimpArgs false
set_option linter.unusedVariables false

/- an entry: its key, its words; a table: its schema, its entries, the next key -/
abbrev Ent : Type := Int × List Int
abbrev Tb : Type := Sc × List Ent × Int
def zeroE : Ent := (0, [])
def zeroT : Tb := (zeroS, [], 0)
def isW (n : Int) : Prop := 0 ≤ n ∧ n ≤ 4294967295
def wordL (zs : List Int) : Prop := ∀ z ∈ zs, isW z
def okE (e : Ent) : Prop := isW e.1 ∧ wordL e.2
def okT (t : Tb) : Prop := (∀ e ∈ t.2.1, okE e) ∧ isW t.2.2
theorem isW_zero : isW 0 := ⟨by omega, by omega⟩
theorem wordL_nil : wordL [] := fun z hz => by simp at hz
theorem okE_zero : okE zeroE := ⟨isW_zero, wordL_nil⟩
theorem okE_getD {es : List Ent} (h : ∀ e ∈ es, okE e) (k : Nat) : okE (es.getD k zeroE) := by
  by_cases hk : k < es.length
  · exact h _ (getD_mem es k zeroE hk)
  · rw [List.getD_eq_getElem?_getD, List.getElem?_eq_none (by omega)]
    exact okE_zero
theorem wordL_getD {zs : List Int} (h : wordL zs) (k : Nat) : isW (zs.getD k 0) := by
  by_cases hk : k < zs.length
  · exact h _ (getD_mem zs k 0 hk)
  · rw [List.getD_eq_getElem?_getD, List.getElem?_eq_none (by omega)]
    exact isW_zero
theorem wordL_append {a b : List Int} (ha : wordL a) (hb : wordL b) : wordL (a ++ b) := fun z hz => (List.mem_append.1 hz).elim (ha z) (hb z)
theorem wordL_set {a : List Int} (ha : wordL a) {v : Int} (hv : isW v) (k : Nat) : wordL (a.set k v) := fun z hz => (List.mem_or_eq_of_mem_set hz).elim (ha z) (fun e => e ▸ hv)
theorem wordL_zeros (n : Nat) : wordL (List.replicate n 0) := fun z hz => by
  rw [(List.mem_replicate.1 hz).2]
  exact isW_zero

/- where a key is -/
def atE : List Ent → Int → Option Nat
  | [], _ => none
  | e :: es, key => if e.1 = key then some 0 else (atE es key).map (· + 1)
def atI (es : List Ent) (key : Int) : Int := match atE es key with
  | some i => (i : Int)
  | none => -1
theorem atE_some : ∀ {es : List Ent} {key : Int} {i : Nat}, atE es key = some i → i < es.length ∧ (es.getD i zeroE).1 = key ∧ ∀ j, j < i → (es.getD j zeroE).1 ≠ key
  | [], key, i, h => by simp [atE] at h
  | e :: es, key, i, h => by
    rw [atE] at h
    split at h
    · rename_i he
      obtain rfl := Option.some.inj h
      exact ⟨by simp, by simpa using he, fun j hj => by omega⟩
    · rename_i he
      obtain ⟨i', hi', rfl⟩ := Option.map_eq_some_iff.1 h
      obtain ⟨h1, h2, h3⟩ := atE_some hi'
      refine ⟨by simpa using h1, by simpa using h2, fun j hj => ?_⟩
      cases j with
      | zero => simpa using he
      | succ j => simpa using h3 j (by omega)
theorem atE_none : ∀ {es : List Ent} {key : Int}, atE es key = none → ∀ j, j < es.length → (es.getD j zeroE).1 ≠ key
  | [], key, h, j, hj => by simp at hj
  | e :: es, key, h, j, hj => by
    rw [atE] at h
    split at h
    · cases h
    · rename_i he
      have h' := atE_none (Option.map_eq_none_iff.1 h)
      cases j with
      | zero => simpa using he
      | succ j => simpa using h' j (by simpa using hj)
theorem atE_is {es : List Ent} {key : Int} {i : Nat} (hi : i < es.length) (hk : (es.getD i zeroE).1 = key) (hj : ∀ j, j < i → (es.getD j zeroE).1 ≠ key) : atE es key = some i := by
  rcases h : atE es key with _ | i'
  · exact absurd hk (atE_none h i hi)
  · obtain ⟨h1, h2, h3⟩ := atE_some h
    rcases Nat.lt_trichotomy i i' with h4 | h4 | h4
    · exact absurd hk (h3 i h4)
    · rw [h4]
    · exact absurd h2 (hj i' h4)
theorem atE_no {es : List Ent} {key : Int} (hj : ∀ j, j < es.length → (es.getD j zeroE).1 ≠ key) : atE es key = none := by
  rcases h : atE es key with _ | i'
  · rfl
  · obtain ⟨h1, h2, _⟩ := atE_some h
    exact absurd h2 (hj i' h1)
theorem atI_some {es : List Ent} {key : Int} {i : Nat} (h : atE es key = some i) : atI es key = (i : Int) := by simp [atI, h]
theorem atI_none {es : List Ent} {key : Int} (h : atE es key = none) : atI es key = -1 := by simp [atI, h]
theorem atI_iff {es : List Ent} {key : Int} {i : Nat} : atI es key = (i : Int) ↔ atE es key = some i := by
  rcases h : atE es key with _ | j
  · rw [atI_none h]
    simp
  · rw [atI_some h]
    simp
    omega

/- which tables are valid -/
def headB (t : Tb) : Bool := mayT t.1 && (decide ((t.2.1.length : Int) ≤ t.1.2.1) && ((decide (t.1.1 = 3) || decide (t.2.2 = 0)) && (decide (t.1.1 ≠ 0) || decide (t.1.2.1 ≤ (t.2.1.length : Int)))))
def entB (t : Tb) (i : Nat) : Bool :=
  decide (((t.2.1.getD i zeroE).2.length : Int) = t.1.2.2.1) && (decide (atE t.2.1 (t.2.1.getD i zeroE).1 = some i) && ((decide (t.1.1 ≠ 0) || decide ((t.2.1.getD i zeroE).1 = (i : Int))) && (decide (t.1.1 ≠ 3) || decide (((t.2.1.getD i zeroE).1 + ((t.2.1.length : Int) - (i : Int))) % 4294967296 = t.2.2))))
def mayTb (t : Tb) : Bool := headB t && (List.range t.2.1.length).all (entB t)
theorem mayTb_head {t : Tb} (h : mayTb t = true) : headB t = true := by
  simp only [mayTb, Bool.and_eq_true] at h
  exact h.1
theorem mayTb_ent {t : Tb} (h : mayTb t = true) {i : Nat} (hi : i < t.2.1.length) : entB t i = true := by
  simp only [mayTb, Bool.and_eq_true, List.all_eq_true, List.mem_range] at h
  exact h.2 i hi
theorem mayTb_mk {t : Tb} (h : headB t = true) (he : ∀ i, i < t.2.1.length → entB t i = true) : mayTb t = true := by
  simp only [mayTb, Bool.and_eq_true, List.all_eq_true, List.mem_range]
  exact ⟨h, he⟩
theorem mayTb_no_head {t : Tb} (h : headB t = false) : mayTb t = false := by simp [mayTb, h]
theorem mayTb_no_ent {t : Tb} {i : Nat} (hi : i < t.2.1.length) (h : entB t i = false) : mayTb t = false := by
  rcases hM : mayTb t with _ | _
  · rfl
  · rw [mayTb_ent hM hi] at h
    cases h
def keyedB (t : Tb) (field : Int) : Bool := mayTb t && (decide (t.1.1 ≠ 3) && decide (field < t.1.2.2.1))

/- what the calls return -/
def newT (s : Sc) : Tb := if mayT s = true then (s, if s.1 = 0 then (List.range s.2.1.toNat).map (fun (k : Nat) => ((k : Int), List.replicate s.2.2.1.toNat 0)) else [], 0) else zeroT
def newE (s : Sc) : Int := if mayT s = true then 0 else 1
def withoutT (t : Tb) (i : Nat) : Tb := (t.1, t.2.1.eraseIdx i, t.2.2)
def behindT (t : Tb) (e : Ent) : Tb := (t.1, t.2.1 ++ [e], t.2.2)
def getT (t : Tb) (key field : Int) : Tb × Int × Bool :=
  if keyedB t field = true then
    (match atE t.2.1 key with
     | some i => (if t.1.1 = 2 then behindT (withoutT t i) (t.2.1.getD i zeroE) else t, (t.2.1.getD i zeroE).2.getD field.toNat 0, true)
     | none => (t, 0, false))
  else (t, 0, false)
def setT (t : Tb) (key field v : Int) : Tb × Int :=
  if keyedB t field = true then
    (match atE t.2.1 key with
     | none => if t.1.1 = 0 then (zeroT, 3) else if t.1.1 = 1 ∧ t.1.2.1 ≤ (t.2.1.length : Int) then (zeroT, 4)
        else (behindT (if t.1.2.1 ≤ (t.2.1.length : Int) then withoutT t 0 else t) (key, (List.replicate t.1.2.2.1.toNat 0).set field.toNat v), 0)
     | some i => (if t.1.1 = 2 then behindT (withoutT t i) (key, ((t.2.1.getD i zeroE).2).set field.toNat v) else (t.1, t.2.1.set i (key, ((t.2.1.getD i zeroE).2).set field.toNat v), t.2.2), 0))
  else (zeroT, 1)
def delT (t : Tb) (key : Int) : Tb × Bool :=
  if keyedB t 0 = true then
    (match atE t.2.1 key with
     | some i => (if t.1.1 = 0 then (t.1, t.2.1.set i (key, List.replicate t.1.2.2.1.toNat 0), t.2.2) else withoutT t i, true)
     | none => (t, false))
  else (t, false)
def pushT (t : Tb) (v : Int) : Tb × Int :=
  if mayTb t = true ∧ t.1.1 = 3 then (if t.1.2.1 ≤ (t.2.1.length : Int) then (zeroT, 4) else ((t.1, t.2.1 ++ [(t.2.2, [v])], (t.2.2 + 1) % 4294967296), 0)) else (zeroT, 1)
def popT (t : Tb) : Tb × Int × Bool :=
  if mayTb t = true ∧ t.1.1 = 3 ∧ t.2.1 ≠ [] then (withoutT t 0, (t.2.1.getD 0 zeroE).2.getD 0 0, true) else (t, 0, false)
end Go.Proofs.YtilddlgcfbefiaaDoor

