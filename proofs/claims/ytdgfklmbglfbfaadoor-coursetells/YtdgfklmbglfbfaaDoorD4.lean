/-
  Code and ints that came in, opened; what the laws of this layer ask of plain codes.
-/
import Derived.Test.YtdgfklmbglfbfaaDoorD3
import Derived.Test.YtdgfklmbglfbfaaDoorO
namespace Go.Proofs.YtdgfklmbglfbfaaDoor
open Go.ChangeShapes Go.WideShapes Go.ChangeAt Go.RowKit Go.Deep
set_option linter.unusedVariables false
section
variable {H : Type} {enc : TypeId × Value → H} {w : World} {base : Nat} {spare : Nat → Bool} {held : Bool}
set_option maxRecDepth 100000 in
theorem ints_here {fuel : Nat} {v : Value} {x : DataW H × List MemPlace} (h : DataW.trod enc Tryd.prog w base spare held fuel 23 [v] = some x) : ∃ a len cap zs, v = .slice a len cap ∧ IntsAt w a len cap zs := by
  rcases open_slice Tryd.underlying23 h with ⟨hcs, _⟩ | ⟨a, len, cap, m, n, D, Pl, hcs, _, hl, hm, hmm, _, hx⟩
  · simp at hcs
    exact ⟨none, 0, 0, [], hcs, ints_nil w⟩
  · simp at hcs
    have hml : len ≤ m := by rw [hmm]; split <;> omega
    obtain ⟨zs, hcl, hc⟩ := exists_list (0 : Int) (fun k (z : Int) => w.cell? (a.add k) = some (.int .i64 z)) len (fun k hk => by
      obtain ⟨cs', h1, h2⟩ := hx k (by omega)
      rw [cells3] at h1
      obtain ⟨z, e, _, hwf⟩ := DataW.trod_int Tryd.underlying3 h2
      subst e
      obtain ⟨_, _, hat⟩ := World.cells?_some h1
      have k0 := hat 0 (by omega)
      rw [Addr.add_zero', Nat.mul_one] at k0
      exact ⟨z, k0⟩)
    exact ⟨some a, len, cap, zs, hcs, hcl, hl, hm, .inr ⟨a, rfl, hc⟩⟩
set_option maxRecDepth 100000 in
theorem open_intl {r0 : Reach} {b0 : Nat} {v : Value} {dd : DataW H} {p : List MemPlace} (hv : Value.okWide Tryd.prog w r0 b0 23 v) (h : DataW.Trod enc Tryd.prog w base spare held 23 v dd p) :
    ∃ a len cap zs, v = .slice a len cap ∧ IntsAt w a len cap zs := by
  obtain ⟨a0, len0, cap0, rfl⟩ := okWide_slice Tryd.underlying23 hv
  obtain ⟨fuel, hf⟩ := h
  exact ints_here hf
set_option maxRecDepth 100000 in
theorem open_code {r0 : Reach} {b0 : Nat} {v : Value} {dd : DataW H} {p : List MemPlace} (hv : Value.okWide Tryd.prog w r0 b0 22 v) (h : DataW.Trod enc Tryd.prog w base spare held 22 v dd p) :
    ∃ a len cap c, v = .slice a len cap ∧ CodeAt w a len cap c := by
  obtain ⟨a0, len0, cap0, rfl⟩ := okWide_slice Tryd.underlying22 hv
  obtain ⟨fuel, hf⟩ := h
  exact code_here hf
end
theorem code_max {W : World} {a : Option Addr} {len cap : Nat} {c : List I} (h : CodeAt W a len cap c) : len ≤ 9223372036854775807 := by
  have h1 := h.2.1
  have h2 := h.2.2.1
  unfold maxLen at h2
  omega
/- what is fine -/
theorem fine_suc {c : List I} (h : fineP c = true) {k t : Nat} (hk : k < c.length) (hr : rch c k = true) (ht : t ∈ sucC c k) : t < c.length := by
  simp only [fineP, Bool.and_eq_true, List.all_eq_true, List.mem_range, Bool.or_eq_true, Bool.not_eq_true', decide_eq_true_iff] at h
  rcases h.2 k hk with h1 | h1
  · rw [hr] at h1
    cases h1
  · exact h1 t ht
theorem fine_code {c : List I} (h : fineP c = true) : codeB c = true := by
  simp only [fineP, Bool.and_eq_true] at h
  exact h.1
theorem fine_end {c : List I} (h : fineP c = true) : ∃ i, i < c.length ∧ rch c i = true ∧ (c.getD i zeroI).1 = 7 := by
  have hl := (codeB_len (fine_code h)).1
  have key : ∀ d i, i < c.length → rch c i = true → c.length - i ≤ d → ∃ i, i < c.length ∧ rch c i = true ∧ (c.getD i zeroI).1 = 7 := by
    intro d
    induction d with
    | zero => intro i hi _ hd; omega
    | succ d ih =>
      intro i hi hr hd
      rcases hs : sucC c i with _ | ⟨t, ts⟩
      · exact ⟨i, hi, hr, sucP_nil.1 hs⟩
      · have ht : t ∈ sucC c i := by rw [hs]; simp
        have h1 := fine_suc h hi hr ht
        have h2 := sucP_lt ht
        exact ih t h1 (rch_next hr ht) (by omega)
  exact key c.length 0 (by omega) (rch_zero c) (by omega)
theorem ends_no {c : List I} {k : Nat} (h : ¬ (rch c k = true ∧ (c.getD k zeroI).1 = 7)) : (∃ i, i < k + 1 ∧ rch c i = true ∧ (c.getD i zeroI).1 = 7) ↔ ∃ i, i < k ∧ rch c i = true ∧ (c.getD i zeroI).1 = 7 := by
  constructor
  · rintro ⟨i, h1, h2, h3⟩
    rcases Nat.lt_succ_iff_lt_or_eq.1 h1 with h9 | rfl
    · exact ⟨i, h9, h2, h3⟩
    · exact absurd ⟨h2, h3⟩ h
  · rintro ⟨i, h1, h2⟩
    exact ⟨i, by omega, h2⟩
theorem getD_mem' {ts : List Nat} {j : Nat} (h : j < ts.length) : ts.getD j 0 ∈ ts := getD_mem ts j 0 h
end Go.Proofs.YtdgfklmbglfbfaaDoor
