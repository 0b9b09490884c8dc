/-
  What holds of the memory while a law runs: the law's own variable for its first argument, the table of rows, all that was there before. Programs' bytes and what is no program's bytes.
-/
import Derived.Test.YtlbhmopmfddhjaaDoorH
import Derived.Test.YtlbhmopmfddhjaaDoorO
import Derived.Test.YtlbhmopmfddhjaaDoorX1
namespace Go.Proofs.YtlbhmopmfddhjaaDoor
open Go.RowKit

def St (w W : World) (a : Option Addr) (len cap : Nat) : Prop := Below w.heap.size w W ∧ RowsIn w ∧ Box W w.heap.size 24 #[.slice a len cap]
section
variable {w W W' : World} {a : Option Addr} {len cap : Nat}
theorem St.start (hR : RowsIn w) : St w (w.alloc (.cells #[.slice a len cap] 24)) a len cap := ⟨(Below.refl _ _).alloc (Nat.le_refl _) _, hR, Box.new w 24 _⟩
theorem St.later (h : St w W a len cap) (hb : Below W.heap.size W W') : St w W' a len cap := ⟨h.1.trans (hb.mono h.1.size), h.2.1, h.2.2.below hb h.2.2.lt⟩
theorem St.alloc (h : St w W a len cap) (o : Obj) : St w (W.alloc o) a len cap := h.later ((Below.refl _ _).alloc (Nat.le_refl _) o)
theorem St.rows (h : St w W a len cap) : RowsIn W := h.2.1.later h.1
theorem St.cell (h : St w W a len cap) : W.cell? ⟨w.heap.size, 0, none⟩ = some (.slice a len cap) := h.2.2.cell rfl
theorem St.fns (h : St w W a len cap) {a' : Option Addr} {len' cap' : Nat} {fs : List Fun} (hF : FnsAt w a' len' cap' fs) : FnsAt W a' len' cap' fs := hF.below h.1
theorem St.lt (h : St w W a len cap) : w.heap.size < W.heap.size := h.2.2.lt
end

theorem prGet_no (a : Option Addr) (len cap : Nat) (zs : List Int) (w : World) (hR : RowsIn w) (h : SliceB w a len cap zs) (hn : getP zs = none) :
    Calls Tryd.prog 15 #[.slice a len cap] w fun e w' => e = .returned (.tuple #[.agg #[.slice none 0 0], .int .i64 7]) ∧ Below w.heap.size w w' :=
  (prGet_any a len cap zs w hR h).mono fun e w' hP => by
    rcases hP with ⟨hb, ⟨_, he⟩ | ⟨fs, b, l, c, hs, _⟩⟩
    · exact ⟨he, hb⟩
    · rw [hn] at hs
      cases hs
theorem prGet_yes (a : Option Addr) (len cap : Nat) (zs : List Int) (fs : List Fun) (w : World) (hR : RowsIn w) (h : SliceB w a len cap zs) (hn : getP zs = some fs) :
    Calls Tryd.prog 15 #[.slice a len cap] w fun e w' => ∃ b c, e = .returned (.tuple #[.agg #[.slice b fs.length c], .int .i64 0]) ∧ Below w.heap.size w w' ∧ FnsAt w' b fs.length c fs :=
  (prGet_any a len cap zs w hR h).mono fun e w' hP => by
    rcases hP with ⟨hb, ⟨hs, _⟩ | ⟨gs, b, l, c, hs, he, hF⟩⟩
    · rw [hn] at hs
      cases hs
    · rw [hn] at hs
      obtain rfl := Option.some.inj hs
      have hl := hF.1
      subst hl
      exact ⟨b, c, he, hb, hF⟩

theorem encP_prefix {fs gs : List Fun} {r : List Int} (hf : ∀ f ∈ fs, ∀ i ∈ f.2, okI i) (hg : ∀ f ∈ gs, ∀ i ∈ f.2, okI i) (mf : mayP fs = true) (mg : mayP gs = true) (h : encP fs = encP gs ++ r) : r = [] ∧ fs = gs := by
  simp only [encP, List.cons_append, List.cons.injEq, true_and] at h
  obtain ⟨h1, h2⟩ := h
  have h3 := parseF_enc fs [] (mayP_insts hf mf)
  have h4 := parseF_enc gs r (mayP_insts hg mg)
  rw [List.append_nil, h2] at h3
  rw [show gs.length = fs.length by omega, h3] at h4
  simp only [Option.some.injEq, Prod.mk.injEq] at h4
  exact ⟨h4.2.symm, h4.1⟩
theorem getP_cut {fs : List Fun} (hf : ∀ f ∈ fs, ∀ i ∈ f.2, okI i) (mf : mayP fs = true) (n : Nat) (hn : n < (encP fs).length) : getP ((encP fs).take n) = none := by
  rcases hg : getP ((encP fs).take n) with _ | gs
  · rfl
  · obtain ⟨h1, h2, h3⟩ := getP_some (fun z hz => encP_byteL hf mf z (List.mem_of_mem_take hz)) hg
    have h4 := (encP_prefix hf h3 mf h2 (r := (encP fs).drop n) (by rw [h1, List.take_append_drop])).1
    have h5 := congrArg List.length h4
    rw [List.length_drop] at h5
    simp at h5
    omega
theorem getP_more {fs : List Fun} (hf : ∀ f ∈ fs, ∀ i ∈ f.2, okI i) (mf : mayP fs = true) : getP (encP fs ++ [0]) = none := by
  rcases hg : getP (encP fs ++ [0]) with _ | gs
  · rfl
  · obtain ⟨h1, h2, h3⟩ := getP_some (fun z hz => by
      rcases List.mem_append.1 hz with hz | hz
      · exact encP_byteL hf mf z hz
      · rw [List.mem_singleton.1 hz]
        omega) hg
    have h4 := (encP_prefix h3 hf h2 mf h1).1
    cases h4
theorem headB_succ_len {fs : List Fun} {k : Nat} {args : Int} {code : List I} (hk : k < fs.length) (h : fs.getD k zeroF = (args, code)) : (headB fs (k + 1)).length = (headB fs k).length + 2 + 8 * code.length := by
  rw [headB_step hk h]
  simp only [List.length_append, List.length_cons, List.length_nil, encC_len]
  omega
end Go.Proofs.YtlbhmopmfddhjaaDoor
