/-
  A row of functions that a call makes: one function more. What slices.Clone returns at instructions.
-/
import Derived.Test.YtlbhmopmfddhjaaDoorY6
import Derived.Test.YtlbhmopmfddhjaaDoorY1
namespace Go.Proofs.YtlbhmopmfddhjaaDoor
open Go.RowKit

/- the variable in block O holds a row of functions of the call's own; the variable in block R, the result's, holds none; all that was there before is as it was -/
def Inv (w : World) (O R : Nat) (W : World) (k : Nat) (v : Value) (xs : List Value) (fs : List Fun) : Prop :=
  W.ownsRow (O + 1) 28 2 v k xs ∧ Codes W (O + 1) v.ownBlock xs fs ∧ Box W O 24 #[v] ∧ Box W R 24 #[.slice none 0 0] ∧ Below w.heap.size w W ∧ w.heap.size ≤ R ∧ R < O
theorem pushed {w W1 W4 W' W5 : World} {O R k : Nat} {v cv : Value} {xs : List Value} {fs : List Fun} {args : Int} {code : List I} {g cp H : Nat} (h : Inv w O R W1 k v xs fs) (h14 : Below W1.heap.size W1 W4) (hone : OneFn W4 W1.heap.size none cv code) (h4 : Below W4.heap.size W4 W')
    (hown : W5.ownsRow (O + 1) 28 2 (.slice (some ⟨g, 0, none⟩) (k + 1) cp) (k + 1) (xs ++ [.int .i64 args, cv])) (hgrow : W'.grownBy W5 v.ownBlock) (hat : v.ownBlock = some g ∨ g = H) (hH : W'.heap.size ≤ H) :
    Inv w O R (W5.setCell ⟨O, 0, none⟩ (.slice (some ⟨g, 0, none⟩) (k + 1) cp)) (k + 1) (.slice (some ⟨g, 0, none⟩) (k + 1) cp) (xs ++ [.int .i64 args, cv]) (fs ++ [(args, code)]) := by
  obtain ⟨hO, hCd, hBO, hBR, hb, hR1, hR2⟩ := h
  have hvB : ∀ g, v.ownBlock = some g → O + 1 ≤ g ∧ g < W1.heap.size := fun g hg => hO.lt g hg
  have h1 : Below W1.heap.size W1 W' := h14.trans (h4.mono h14.size)
  have hvF : some O ≠ v.ownBlock := fun e => by have := (hvB O e.symm).1; omega
  have hvR : some R ≠ v.ownBlock := fun e => by have := (hvB R e.symm).1; omega
  have hBO5 := (hBO.below h1 hBO.lt).grown hgrow hvF
  have hBR5 := (hBR.below h1 hBR.lt).grown hgrow hvR
  have hOl := hBO.lt
  have hs1 := h1.size
  have hs4 := h4.size
  have hs14 := h14.size
  have hsb := hb.size
  have hb5 : Below w.heap.size w W5 := (hb.trans (h1.mono hsb)).grown hgrow (by omega) (fun g hg => by have := (hvB g hg).1; omega)
  have hg1 : O + 1 ≤ g := by
    rcases hat with h | h
    · exact (hvB g h).1
    · omega
  have hCd5 : Codes W5 (O + 1) (some g) xs fs := (hCd.below h1).grown hgrow (by
    rcases hat with h | h
    · exact .inl h.symm
    · exact .inr ⟨g, rfl, by omega⟩)
  have hOne5 : OneFn W5 (O + 1) (some g) cv code := (hone.below h4).fresh hgrow (by omega) (fun g hg => (hvB g hg).2) (fun g' hg => by
    have := Option.some.inj hg
    subst this
    rcases hat with h | h
    · exact .inl (hvB _ h).2
    · exact .inr (by omega))
  have hgs := grownBy_setCell W5 ⟨O, 0, none⟩ (.slice (some ⟨g, 0, none⟩) (k + 1) cp)
  refine ⟨own_far hown hgs (Nat.lt_succ_self O), (hCd5.snoc hOne5).far hgs (Nat.lt_succ_self O), hBO5.set 0 _, hBR5.other (by simp; omega) _, hb5.setCell (by simp; omega) _, hR1, hR2⟩
/- in the world behind the append, ahead of the store -/
theorem pushed_var {w W1 W' W5 : World} {O R k : Nat} {v : Value} {xs : List Value} {fs : List Fun} (h : Inv w O R W1 k v xs fs) (h1 : Below W1.heap.size W1 W') (hgrow : W'.grownBy W5 v.ownBlock) : W5.cell? ⟨O, 0, none⟩ = some v ∧ W5.frozen? ⟨O, 0, none⟩ = false := by
  have hvF : some O ≠ v.ownBlock := fun e => by have := (h.1.lt O e.symm).1; omega
  have hB := (h.2.2.1.below h1 h.2.2.1.lt).grown hgrow hvF
  exact ⟨hB.cell rfl, hB.free 0⟩
theorem below_of_grown_none {w w' : World} (h : w.grownBy w' none) : Below w.heap.size w w' := ⟨h.os, h.tape, h.output, h.size, fun k hk => h.block k hk (by simp)⟩
/- a copy of a code -/
theorem code_copied {W : World} {base : Nat} {g l cp : Nat} {code : List I} (hl : code.length = l) (hok : ∀ i ∈ code, okI i) (h : W.ownsRow base 46 7 (.slice (some ⟨g, 0, none⟩) l cp) l (codeV code)) : OneFn W base none (.slice (some ⟨g, 0, none⟩) l cp) code := by
  obtain ⟨b, cap, hv, hC, hz⟩ := code_own hl hok h
  simp only [Value.slice.injEq, true_and] at hv
  obtain ⟨rfl, rfl⟩ := hv
  exact ⟨_, l, cp, rfl, hC, fun z hz' => ⟨(hz z hz').1, (hz z hz').2.1, by simp⟩⟩
/- what is left behind the loop, when the result has been stored -/
theorem Inv.done {w W : World} {O R k : Nat} {v : Value} {xs : List Value} {fs : List Fun} (h : Inv w O R W k v xs fs) (hl : fs.length = k) : ∃ b cp, v = .slice b k cp ∧ FnsAt (W.setRow R #[.slice b k cp]) b k cp fs ∧ Below w.heap.size w (W.setRow R #[.slice b k cp]) := by
  obtain ⟨hO, hCd, hBO, hBR, hb, hR1, hR2⟩ := h
  obtain ⟨b, cp, rfl, _⟩ := fns_own hl hO hCd
  have hgr := grownBy_setRow W R #[.slice b k cp]
  obtain ⟨b', cp', hv', hFns'⟩ := fns_own hl (own_far hO hgr (by omega)) (hCd.far hgr (by omega))
  simp only [Value.slice.injEq, true_and] at hv'
  obtain ⟨rfl, rfl⟩ := hv'
  exact ⟨b, cp, rfl, hFns', below_setRow hb hR1 _⟩

def ClonePost (w : World) (code : List I) (e : Ending) (w' : World) : Prop := ∃ g l cp, e = .returned (.slice (some ⟨g, 0, none⟩) l cp) ∧ Below w.heap.size w w' ∧ OneFn w' w.heap.size none (.slice (some ⟨g, 0, none⟩) l cp) code

theorem eql_nil (a : Option Addr) (n c : Nat) (w : World) : (binOp .eql 26 (.slice a n c) (.slice none 0 0)).run Tryd.prog w = .ok (.bool a.isNone) w := by
  cases a <;> kernel_rfl
set_option maxHeartbeats 2000000 in
theorem clone_any (z : Addr) (l cc : Nat) (code : List I) (w : World) (h : CodeAt w (some z) l cc code) (h0 : 0 < l) (h80 : l ≤ 80) :
    Calls Tryd.prog 28 #[.slice (some z) l cc] w (ClonePost w code) := by
  obtain ⟨i46, hi46, hy0, hy1, hy2⟩ := info_parts info46
  have hg : Below w.heap.size w (w.alloc (.cells #[] 46)) := (Below.refl _ _).alloc (Nat.le_refl _) _
  have hC := h.below hg
  have hl : code.length = l := h.1
  have hok := h.2.2.2.1
  have hz : ∀ k, k < l → InstHere (w.alloc (.cells #[] 46)) (z.add (k * 7)) (code.getD k zeroI) := by
    rcases hC.2.2.2.2 with h' | ⟨z', h', h6⟩
    · omega
    · cases h'
      exact h6
  have HL := Lib.hid hl
  have HOk := Lib.hid hok
  have HZ := Lib.hid (codeV_cells hl hz)
  have hq := eql_nil (some z) l cc
  have hs : (w.alloc (.cells #[] 46)).heap.size = w.heap.size + 1 := by simp
  have HSz := Lib.hid hs
  clear h hC hl hok hz hs
  go_enter Tryd.func28, Tryd.ntmps28
  go_wp2_with (at_builtin; refine wpList_append_lies _ rfl _ _ _ rfl w.heap.size 46 i46 _ 7 56 Tryd.underlying26 hi46 hy0 hy1 hy2 rfl (by omega) (.slice (some ⟨w.heap.size, 0, none⟩) 0 0) 0 [] rfl (World.ownsRow_made w #[] 0 (Nat.le_refl _) (Nat.zero_le _) rfl) z l cc (codeV code) rfl (by rw [codeV_len, HL.out]) HZ.out (codeV_one code) h0 (by unfold maxLen; omega) (by omega) hg.size (w.heap.size + 1) (by simp) ?_)
  intro g4 cp4 w4 hown4 hgrow4 hat4 hlt4
  have hb4 : Below w.heap.size w w4 := hg.grown hgrow4 hg.size (fun k hk => by simp [Value.ownBlock] at hk; omega)
  have HOne : Hid (OneFn w4 w.heap.size none (.slice (some ⟨g4, 0, none⟩) l cp4) code) := Lib.hid (code_copied HL.out HOk.out (by simpa using hown4))
  clear hown4 hgrow4 hat4 hlt4 hq
  go_wp2
  go_ret
  exact ⟨g4, l, cp4, rfl, hb4, HOne.out⟩
end Go.Proofs.YtlbhmopmfddhjaaDoor
