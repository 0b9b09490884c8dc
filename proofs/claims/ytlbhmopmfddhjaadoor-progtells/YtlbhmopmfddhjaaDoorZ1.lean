/-
  A code copied into a row of its own, at a step of a region that draws its order; a round of the reference's Own.
-/
import Derived.Test.YtlbhmopmfddhjaaDoorY9
import Derived.OwnWalk
import Derived.Deep.RegionLaw
import Derived.Deep.AppendLies
namespace Go.Proofs.YtlbhmopmfddhjaaDoor
open Go.RowKit

theorem own_base {w : World} {base base' : Nat} {e : TypeId} {size : Nat} {v : Value} {n : Nat} {xs : List Value} (h : w.ownsRow base e size v n xs) (hb : base' ≤ base) : w.ownsRow base' e size v n xs := by
  obtain ⟨h1, h2 | ⟨g, cap, cur, hv, hbg, r⟩⟩ := h
  · exact ⟨h1, .inl h2⟩
  · exact ⟨h1, .inr ⟨g, cap, cur, hv, Nat.le_trans hb hbg, r⟩⟩
theorem Owned.base {W : World} {base base' : Nat} {row : Option Nat} {xs : List Value} {fs : List Fun} (h : Owned W base row xs fs) (hb : base' ≤ base) : Owned W base' row xs fs :=
  ⟨h.1, fun k hk => ⟨(h.2.1 k hk).1, by
    obtain ⟨cv, h1, h2, h3⟩ := (h.2.1 k hk).2
    exact ⟨cv, h1, own_base h2 hb, h3⟩⟩, h.2.2⟩
theorem append_empty (b : Option Addr) (cc : Nat) (w : World) : (Builtin.append_ #[26, 26] 26 #[.slice none 0 0, .slice b 0 cc]).run Tryd.prog w = .ok (.slice none 0 0) w := by
  cases b <;> kernel_rfl
theorem take_succ_getD (fs : List Fun) (k : Nat) (args : Int) (code : List I) (h : k < fs.length) (hi : fs.getD k zeroF = (args, code)) : fs.take (k + 1) = fs.take k ++ [(args, code)] := by
  rw [take_getD fs k zeroF h, hi]

/- 'append(nil, code...)': nil where there is no instruction, else a new row -/
theorem step_copy {ops : Array Oper} {o : Oper} {a : Act} {K : Act → World → Prop} {Q : Exit → Act → World → Prop} {E : Prop} (w : World) (hgd : o.guard = none) (s x : Operand)
    (ho : o.op = .call { callee := .builtin .append, args := #[s, x], argTypes := #[26, 26] }) (ht : o.type = 26) (hs : a.eval s = .slice none 0 0) (b : Option Addr) (l cc : Nat) (code : List I) (hx : a.eval x = .slice b l cc) (hC : CodeAt w b l cc code) (h80 : l ≤ 80) (base : Nat) (hbase : base ≤ w.heap.size) (H : Nat) (hH : w.heap.size = H)
    (h : ∀ b' cp w', w'.ownsRow base 46 7 (.slice b' l cp) l (codeV code) → w.grownBy w' none → (∀ z, b' = some z → z.block = H) → K (a.put o.dst (.slice b' l cp)) w') :
    if Region.wanted o (yielded ops a.tmps) = true then Oper.wp Tryd.prog o a w K Q else E := by
  obtain ⟨i46, hi46, hy0, hy1, hy2⟩ := info_parts info46
  by_cases hl : l = 0
  · subst hl
    have hw : Region.wanted o (yielded ops a.tmps) = true := by simp [Region.wanted, hgd]
    rw [if_pos hw]
    have hc : code = [] := List.length_eq_zero_iff.1 hC.1
    subst hc
    have hr := append_empty b cc w
    unfold Oper.wp execOp
    simp only [ho, ht, resolve, invoke, builtin, Sem.run_bind, Sem.run_pure, Result.andThen_ok, List.map_toArray, List.map_cons, List.map_nil, hs, hx, hr]
    exact h none 0 w (World.ownsRow_nil _ _ _ _) (grownBy_refl _ _) (fun z hz => by cases hz)
  · obtain ⟨z, rfl, hz⟩ := hC.2.2.2.2.resolve_left hl
    refine step_append_lies w hgd s x 26 ho base 46 i46 _ 7 56 Tryd.underlying26 hi46 hy0 hy1 hy2 rfl (by omega) (.slice none 0 0) 0 [] hs (World.ownsRow_nil _ _ _ _) z l cc (codeV code) hx (by rw [codeV_len, hC.1]) (codeV_cells hC.1 hz) (codeV_one code) (by omega) (by unfold maxLen; omega) (by omega) hbase H hH ?_
    intro g cp w' hown hgrow hat _
    rw [Nat.zero_add] at hown ⊢
    refine h _ cp w' hown hgrow (fun z' hz' => ?_)
    cases hz'
    rcases hat with h | h
    · cases h
    · exact h
theorem own_close {w0 wr w4 w5 : World} {O R k : Nat} {v : Value} {xs : List Value} {fs : List Fun} {args : Int} {code : List I} {l : Nat} {b' : Option Addr} {cp4 g5 cp5 : Nat} (h : Inv2 w0 O R wr k v xs (fs.take k)) (hl : code.length = l) (hok : ∀ i ∈ code, okI i) (htk : fs.take (k + 1) = fs.take k ++ [(args, code)])
    (hown4 : w4.ownsRow (O + 1) 46 7 (.slice b' l cp4) l (codeV code)) (hgrow4 : wr.drew.grownBy w4 none) (hat4 : ∀ z, b' = some z → z.block = wr.heap.size)
    (hown5 : w5.ownsRow (O + 1) 28 2 (.slice (some ⟨g5, 0, none⟩) (k + 1) cp5) (k + 1) (xs ++ [.int .i64 args, .slice b' l cp4])) (hgrow5 : (w4.alloc (.cells #[.int .i64 args, .slice b' l cp4] 28)).grownBy w5 v.ownBlock) (hat5 : v.ownBlock = some g5 ∨ g5 = w4.heap.size + 1) :
    Hid (Inv2 w0 O R (w5.setCell ⟨O, 0, none⟩ (.slice (some ⟨g5, 0, none⟩) (k + 1) cp5)) (k + 1) (.slice (some ⟨g5, 0, none⟩) (k + 1) cp5) (xs ++ [.int .i64 args, .slice b' l cp4]) (fs.take (k + 1))) := by
  have hB14 : Below wr.heap.size wr w4 := ⟨hgrow4.os, hgrow4.tape, hgrow4.output, hgrow4.size, fun j hj => hgrow4.block j hj (by simp)⟩
  rw [htk]
  refine Lib.hid (pushed2 h hB14 (by rw [hl]; exact hown4) hok (fun g hg => ?_) ((Below.refl w4.heap.size w4).alloc (Nat.le_refl _) _) hown5 hgrow5 hat5 (by simp))
  cases b' with
  | none => cases hg
  | some z =>
    have e := hat4 z rfl
    have e2 : z.block = g := by simpa [Value.ownBlock] using hg
    omega
end Go.Proofs.YtlbhmopmfddhjaaDoor
