/-
  A row of entries whose words are rows of the call's own too, each in a block of its own: one entry more; words copied into a row of their own, at a step of a region that draws its order.
-/
import Derived.Test.YtmlmdhnjafakiaaTM
import Derived.Test.YtmlmdhnjafakiaaReg2
namespace Go.Proofs.Ytmlmdhnjafakiaa
open Go Go.RowKit

abbrev zeroTA : Array Value := #[.int .i64 0, .int .i64 0, .int .i64 0, .int .i64 0, .slice none 0 0, .int .u32 0]
/- the variable in block O holds a table whose entries are a row of the call's own; the variable in block R, the result's, holds none; all that was there before is as it was -/
def Inv5 (w : World) (O R : Nat) (s : Sc) (x : Int) (W : World) (k : Nat) (v : Value) (xs : List Value) (es : List Ent) : Prop :=
  W.ownsRow (O + 1) 48 2 v k xs ∧ Owned W (O + 1) v.ownBlock xs es ∧ Box W O 44 (tbA s v x) ∧ Box W R 44 zeroTA ∧ Below w.heap.size w W ∧ w.heap.size ≤ R ∧ R < O
theorem pushed5 {w W1 W4 W' W5 : World} {O R k : Nat} {s : Sc} {x : Int} {v cv : Value} {xs : List Value} {es : List Ent} {key : Int} {ws : List Int} {g cp H : Nat} (h : Inv5 w O R s x W1 k v xs es) (h14 : Below W1.heap.size W1 W4)
    (hcv : W4.ownsRow (O + 1) 22 1 cv ws.length (wordsV ws)) (hok : okE (key, ws)) (hnew : ∀ g, cv.ownBlock = some g → W1.heap.size ≤ g) (h4 : Below W4.heap.size W4 W')
    (hown : W5.ownsRow (O + 1) 48 2 (.slice (some ⟨g, 0, none⟩) (k + 1) cp) (k + 1) (xs ++ [.int .u32 key, cv])) (hgrow : W'.grownBy W5 v.ownBlock) (hat : v.ownBlock = some g ∨ g = H) (hH : W'.heap.size ≤ H) :
    Inv5 w O R s x (W5.setCell ⟨O, 4, none⟩ (.slice (some ⟨g, 0, none⟩) (k + 1) cp)) (k + 1) (.slice (some ⟨g, 0, none⟩) (k + 1) cp) (xs ++ [.int .u32 key, cv]) (es ++ [(key, ws)]) := by
  obtain ⟨hO, hCd, hBO, hBR, hb, hR1, hR2⟩ := h
  have hvB : ∀ g, v.ownBlock = some g → O + 1 ≤ g ∧ g < W1.heap.size := fun g hg => hO.lt g hg
  have h1 : Below W1.heap.size W1 W' := h14.trans (h4.mono h14.size)
  have hvF : some O ≠ v.ownBlock := fun e => by have := (hvB O e.symm).1; omega
  have hvR : some R ≠ v.ownBlock := fun e => by have := (hvB R e.symm).1; omega
  have hBO5 := (hBO.below h1 hBO.lt).grown hgrow hvF
  have hBR5 := (hBR.below h1 hBR.lt).grown hgrow hvR
  have hOl := hBO.lt
  have hs1 := h1.size
  have hs4 := h4.size
  have hs14 := h14.size
  have hsb := hb.size
  have hb5 : Below w.heap.size w W5 := (hb.trans (h1.mono hsb)).grown hgrow (by omega) (fun g hg => by have := (hvB g hg).1; omega)
  have hN := hCd.lt
  have hCd5 : Owned W5 (O + 1) (some g) xs es := (hCd.below h1).grown hgrow (.inl rfl) (by
    rcases hat with h | h
    · exact .inl h.symm
    · exact .inr (fun g' hg' => by have := Option.some.inj hg'; omega))
  have hcv' := ownsRow_below hcv h4
  have hcv5 : W5.ownsRow (O + 1) 22 1 cv ws.length (wordsV ws) := hcv'.kept hgrow (by
    cases hc : cv.ownBlock with
    | none => exact .inl rfl
    | some gc =>
      right
      intro e
      have := (hvB gc e.symm).2
      have := hnew gc hc
      omega)
  have hgs := grownBy_setCell W5 ⟨O, 4, none⟩ (.slice (some ⟨g, 0, none⟩) (k + 1) cp)
  have hCd6 : Owned W5 (O + 1) (some g) (xs ++ [.int .u32 key, cv]) (es ++ [(key, ws)]) := hCd5.snoc hcv5 hok (N := W1.heap.size) (fun gc hc => ⟨fun e => by
    have e' := Option.some.inj e
    subst e'
    have h1 := hnew _ hc
    rcases hat with h | h
    · have := (hvB _ h).2
      omega
    · have := (hcv'.lt _ hc).2
      omega, hnew gc hc⟩) hN
  exact ⟨own_far hown hgs (Nat.lt_succ_self O), hCd6.grown hgs (.inr (fun g' hg' => by have := Option.some.inj hg'; simp at this; omega)) (.inl rfl), hBO5.set 4 _, hBR5.other (by simp; omega) _, hb5.setCell (by simp; omega) _, hR1, hR2⟩

theorem append_noneW (b : Option Addr) (cc : Nat) (w : World) : (Builtin.append_ #[27, 27] 27 #[.slice none 0 0, .slice b 0 cc]).run Try.prog w = .ok (.slice none 0 0) w := by
  cases b <;> kernel_rfl
/- 'append(nil, words...)': nil where there is none, else a new row -/
theorem step_copyW {ops : Array Oper} {o : Oper} {a : Act} {d : Tmp} {K : Act → World → Prop} {Q : Exit → Act → World → Prop} {E : Prop} (w : World) (hgd : o.guard = none) (s x : Operand)
    (ho : o.op = .call { callee := .builtin .append, args := #[s, x], argTypes := #[27, 27] }) (ht : o.type = 27) (hd : o.dst = some d) (hs : a.eval s = .slice none 0 0) (b : Option Addr) (l cc : Nat) (ws : List Int) (hx : a.eval x = .slice b l cc) (hC : WordsAt w b l cc ws) (h80 : l ≤ 1000) (base : Nat) (hbase : base ≤ w.heap.size) (H : Nat) (hH : w.heap.size = H)
    (h : ∀ b' cp w', w'.ownsRow base 22 1 (.slice b' l cp) l (wordsV ws) → w.grownBy w' none → (∀ z, b' = some z → z.block = H) → K (a.put (some d) (.slice b' l cp)) w') :
    if Region.wanted o (yielded ops a.tmps) = true then Oper.wp Try.prog o a w K Q else E := by
  obtain ⟨jW, hiW, hy0, hy1, hy2⟩ := info_parts infoW
  by_cases hl : l = 0
  · subst hl
    have hw : Region.wanted o (yielded ops a.tmps) = true := by simp [Region.wanted, hgd]
    rw [if_pos hw]
    have hc : ws = [] := List.length_eq_zero_iff.1 hC.1
    subst hc
    have hr := append_noneW b cc w
    unfold Oper.wp execOp
    simp only [ho, ht, resolve, invoke, builtin, Sem.run_bind, Sem.run_pure, Result.andThen_ok, List.map_toArray, List.map_cons, List.map_nil, hs, hx, hr, Oper.upon, hd]
    exact h none 0 w (World.ownsRow_nil _ _ _ _) (grownBy_refl _ _) (fun z hz => by cases hz)
  · obtain ⟨z, rfl, hz⟩ := hC.2.2.2.2.resolve_left hl
    refine step_lies w hgd s x 27 ho hd base 22 jW _ 1 4 Try.underlying27 hiW hy0 hy1 hy2 rfl (by omega) (.slice none 0 0) 0 [] hs (World.ownsRow_nil _ _ _ _) z l cc (wordsV ws) hx (by rw [wordsV_len, hC.1, Nat.mul_one]) (wordsV_cells hC.1 hz) (wordsV_one ws) (by omega) (by unfold maxLen; omega) (by omega) hbase H hH ?_
    intro g cp w' hown hgrow hat _
    rw [Nat.zero_add] at hown ⊢
    refine h _ cp w' hown hgrow (fun z' hz' => ?_)
    cases hz'
    rcases hat with h | h
    · cases h
    · exact h
end Go.Proofs.Ytmlmdhnjafakiaa
