/-
  Texts that the laws of this layer stand on, one behind the other.
-/
import Derived.Test.YtilddlgcfbefiaaDoorTM
import Derived.Test.YtilddlgcfbefiaaDoorGrg
/-
  A row of entries whose words are rows of the call's own too, each in a block of its own: one entry more; words copied into a row of their own, at a step of a region that draws its order.
-/
namespace Go.Proofs.YtilddlgcfbefiaaDoor
set_option linter.unusedSimpArgs false
set_option linter.unusedVariables false
open Go Go.RowKit

abbrev zeroTA : Array Value := #[.int .i64 0, .int .i64 0, .int .i64 0, .int .i64 0, .slice none 0 0, .int .u32 0]
/- the variable in block O holds a table whose entries are a row of the call's own; the variable in block R, the result's, holds none; all that was there before is as it was -/
def Inv5 (w : World) (O R : Nat) (s : Sc) (x : Int) (W : World) (k : Nat) (v : Value) (xs : List Value) (es : List Ent) : Prop :=
  W.ownsRow (O + 1) 66 2 v k xs ∧ Owned W (O + 1) v.ownBlock xs es ∧ Box W O 42 (tbA s v x) ∧ Box W R 42 zeroTA ∧ Below w.heap.size w W ∧ w.heap.size ≤ R ∧ R < O
theorem pushed5 {w W1 W4 W' W5 : World} {O R k : Nat} {s : Sc} {x : Int} {v cv : Value} {xs : List Value} {es : List Ent} {key : Int} {ws : List Int} {g cp H : Nat} (h : Inv5 w O R s x W1 k v xs es) (h14 : Below W1.heap.size W1 W4)
    (hcv : W4.ownsRow (O + 1) 25 1 cv ws.length (wordsV ws)) (hok : okE (key, ws)) (hnew : ∀ g, cv.ownBlock = some g → W1.heap.size ≤ g) (h4 : Below W4.heap.size W4 W')
    (hown : W5.ownsRow (O + 1) 66 2 (.slice (some ⟨g, 0, none⟩) (k + 1) cp) (k + 1) (xs ++ [.int .u32 key, cv])) (hgrow : W'.grownBy W5 v.ownBlock) (hat : v.ownBlock = some g ∨ g = H) (hH : W'.heap.size ≤ H) :
    Inv5 w O R s x (W5.setCell ⟨O, 4, none⟩ (.slice (some ⟨g, 0, none⟩) (k + 1) cp)) (k + 1) (.slice (some ⟨g, 0, none⟩) (k + 1) cp) (xs ++ [.int .u32 key, cv]) (es ++ [(key, ws)]) := by
  obtain ⟨hO, hCd, hBO, hBR, hb, hR1, hR2⟩ := h
  have hvB : ∀ g, v.ownBlock = some g → O + 1 ≤ g ∧ g < W1.heap.size := fun g hg => hO.lt g hg
  have h1 : Below W1.heap.size W1 W' := h14.trans (h4.mono h14.size)
  have hvF : some O ≠ v.ownBlock := fun e => by have := (hvB O e.symm).1; omega
  have hvR : some R ≠ v.ownBlock := fun e => by have := (hvB R e.symm).1; omega
  have hBO5 := (hBO.below h1 hBO.lt).grown hgrow hvF
  have hBR5 := (hBR.below h1 hBR.lt).grown hgrow hvR
  have hOl := hBO.lt
  have hs1 := h1.size
  have hs4 := h4.size
  have hs14 := h14.size
  have hsb := hb.size
  have hb5 : Below w.heap.size w W5 := (hb.trans (h1.mono hsb)).grown hgrow (by omega) (fun g hg => by have := (hvB g hg).1; omega)
  have hN := hCd.lt
  have hCd5 : Owned W5 (O + 1) (some g) xs es := (hCd.below h1).grown hgrow (.inl rfl) (by
    rcases hat with h | h
    · exact .inl h.symm
    · exact .inr (fun g' hg' => by have := Option.some.inj hg'; omega))
  have hcv' := ownsRow_below hcv h4
  have hcv5 : W5.ownsRow (O + 1) 25 1 cv ws.length (wordsV ws) := hcv'.kept hgrow (by
    cases hc : cv.ownBlock with
    | none => exact .inl rfl
    | some gc =>
      right
      intro e
      have := (hvB gc e.symm).2
      have := hnew gc hc
      omega)
  have hgs := grownBy_setCell W5 ⟨O, 4, none⟩ (.slice (some ⟨g, 0, none⟩) (k + 1) cp)
  have hCd6 : Owned W5 (O + 1) (some g) (xs ++ [.int .u32 key, cv]) (es ++ [(key, ws)]) := hCd5.snoc hcv5 hok (N := W1.heap.size) (fun gc hc => ⟨fun e => by
    have e' := Option.some.inj e
    subst e'
    have h1 := hnew _ hc
    rcases hat with h | h
    · have := (hvB _ h).2
      omega
    · have := (hcv'.lt _ hc).2
      omega, hnew gc hc⟩) hN
  exact ⟨own_far hown hgs (Nat.lt_succ_self O), hCd6.grown hgs (.inr (fun g' hg' => by have := Option.some.inj hg'; simp at this; omega)) (.inl rfl), hBO5.set 4 _, hBR5.other (by simp; omega) _, hb5.setCell (by simp; omega) _, hR1, hR2⟩

theorem append_noneW (b : Option Addr) (cc : Nat) (w : World) : (Builtin.append_ #[52, 52] 52 #[.slice none 0 0, .slice b 0 cc]).run Tryd.prog w = .ok (.slice none 0 0) w := by
  cases b <;> kernel_rfl
/- 'append(nil, words...)': nil where there is none, else a new row -/
theorem step_copyW {ops : Array Oper} {o : Oper} {a : Act} {d : Tmp} {K : Act → World → Prop} {Q : Exit → Act → World → Prop} {E : Prop} (w : World) (hgd : o.guard = none) (s x : Operand)
    (ho : o.op = .call { callee := .builtin .append, args := #[s, x], argTypes := #[52, 52] }) (ht : o.type = 52) (hd : o.dst = some d) (hs : a.eval s = .slice none 0 0) (b : Option Addr) (l cc : Nat) (ws : List Int) (hx : a.eval x = .slice b l cc) (hC : WordsAt w b l cc ws) (h80 : l ≤ 1000) (base : Nat) (hbase : base ≤ w.heap.size) (H : Nat) (hH : w.heap.size = H)
    (h : ∀ b' cp w', w'.ownsRow base 25 1 (.slice b' l cp) l (wordsV ws) → w.grownBy w' none → (∀ z, b' = some z → z.block = H) → K (a.put (some d) (.slice b' l cp)) w') :
    if Region.wanted o (yielded ops a.tmps) = true then Oper.wp Tryd.prog o a w K Q else E := by
  obtain ⟨jW, hiW, hy0, hy1, hy2⟩ := info_parts infoW
  by_cases hl : l = 0
  · subst hl
    have hw : Region.wanted o (yielded ops a.tmps) = true := by simp [Region.wanted, hgd]
    rw [if_pos hw]
    have hc : ws = [] := List.length_eq_zero_iff.1 hC.1
    subst hc
    have hr := append_noneW b cc w
    unfold Oper.wp execOp
    simp only [ho, ht, resolve, invoke, builtin, Sem.run_bind, Sem.run_pure, Result.andThen_ok, List.map_toArray, List.map_cons, List.map_nil, hs, hx, hr, Oper.upon, hd]
    exact h none 0 w (World.ownsRow_nil _ _ _ _) (grownBy_refl _ _) (fun z hz => by cases hz)
  · obtain ⟨z, rfl, hz⟩ := hC.2.2.2.2.resolve_left hl
    refine step_lies w hgd s x 52 ho hd base 25 jW _ 1 4 Tryd.underlying52 hiW hy0 hy1 hy2 rfl (by omega) (.slice none 0 0) 0 [] hs (World.ownsRow_nil _ _ _ _) z l cc (wordsV ws) hx (by rw [wordsV_len, hC.1, Nat.mul_one]) (wordsV_cells hC.1 hz) (wordsV_one ws) (by omega) (by unfold maxLen; omega) (by omega) hbase H hH ?_
    intro g cp w' hown hgrow hat _
    rw [Nat.zero_add] at hown ⊢
    refine h _ cp w' hown hgrow (fun z' hz' => ?_)
    cases hz'
    rcases hat with h | h
    · cases h
    · exact h
end Go.Proofs.YtilddlgcfbefiaaDoor

/-
  What the fifth reference's Own returns, as a contract over the translated program: the same table, in memory of its own.
-/
namespace Go.Proofs.YtilddlgcfbefiaaDoor
set_option linter.unusedSimpArgs false
set_option linter.unusedVariables false
open Go Go.RowKit

/- not too many entries, nor too many words -/
def fewE (es : List Ent) : Prop := es.length ≤ 40 ∧ ∀ e ∈ es, e.2.length ≤ 40
/- what Own leaves: a table in rows of its own -/
def OwnPost (s : Sc) (x : Int) (es : List Ent) (w : World) (e : Ending) (w' : World) : Prop :=
  ∃ v xs, e = .returned (tbV s v x) ∧ Below w.heap.size w w' ∧ w'.ownsRow (w.heap.size + 1) 66 2 v es.length xs ∧ Owned w' (w.heap.size + 1) v.ownBlock xs es
theorem own_start (w : World) (s : Sc) (u : Value) (x : Int) : Inv5 (w.alloc (tbO s u x)) (w.heap.size + 1 + 1) (w.heap.size + 1) s x (((w.alloc (tbO s u x)).alloc (.cells zeroTA 42)).alloc (tbO s (.slice none 0 0) x)) 0 (.slice none 0 0) [] [] := by
  have hR := Box.new (w.alloc (tbO s u x)) 42 zeroTA
  have hO := Box.new ((w.alloc (tbO s u x)).alloc (.cells zeroTA 42)) 42 (tbA s (.slice none 0 0) x)
  rw [show ((w.alloc (tbO s u x)).alloc (.cells zeroTA 42)).heap.size = w.heap.size + 1 + 1 by simp] at hO
  rw [show (w.alloc (tbO s u x)).heap.size = w.heap.size + 1 by simp] at hR
  exact ⟨World.ownsRow_nil _ _ _ _, Owned.nil _ _ _, hO, hR.alloc _, ((Below.refl _ _).alloc (Nat.le_refl _) _).alloc (by simp) _, by simp, by omega⟩
theorem take_ent (es : List Ent) (k : Nat) (key : Int) (ws : List Int) (h : k < es.length) (hi : es.getD k zeroE = (key, ws)) : es.take (k + 1) = es.take k ++ [(key, ws)] := by
  rw [take_getD es k zeroE h, hi]

theorem own_new {b : Option Addr} {l cp H : Nat} (h : ∀ z, b = some z → z.block = H) {g : Nat} (hg : (Value.slice b l cp).ownBlock = some g) : H ≤ g := by
  cases b with
  | none => cases hg
  | some z =>
    have e := h z rfl
    have e2 : z.block = g := by simpa [Value.ownBlock] using hg
    omega
set_option maxRecDepth 100000 in
set_option maxHeartbeats 40000000 in
theorem own_any (s : Sc) (a : Option Addr) (len cap : Nat) (x : Int) (es : List Ent) (w : World) (h : EntsAt w a len cap es) (hf : fewE es) :
    Calls Tryd.prog 50 #[tbV s (.slice a len cap) x] w (OwnPost s x es w) := by
  obtain ⟨iE, hiE, hz0, hz1, hz2⟩ := info_parts infoE
  have hm := h.max
  have hbw : Below w.heap.size w (w.alloc (tbO s (.slice a len cap) x)) := (Below.refl _ _).alloc (Nat.le_refl _) _
  obtain ⟨h1, h2, h3, h5⟩ := h
  have H1 := Lib.hid h1
  have H5 := Lib.hid h5
  have h40 : len ≤ 40 := by rw [← h1]; exact hf.1
  have HF := Lib.hid hf.2
  have HInv := Lib.hid (own_start w s (.slice a len cap) x)
  have HP0 := Lib.hid (Box.new w 42 (tbA s (.slice a len cap) x))
  have HS0 : Hid ((w.alloc (tbO s (.slice a len cap) x)).heap.size = w.heap.size + 1) := Lib.hid (by simp)
  have HBW := Lib.hid hbw
  clear h1 h5 hf hbw h3
  rcases s with ⟨s0, s1, s2, s3⟩
  go_enter Tryd.func50, Tryd.ntmps50
  go_wp2_with fail
  obtain ⟨W0, hW0⟩ : ∃ W0, w.alloc (.cells #[.int .i64 s0, .int .i64 s1, .int .i64 s2, .int .i64 s3, .slice a len cap, .int .u32 x] 42) = W0 := ⟨_, rfl⟩
  obtain ⟨W1, hW1⟩ : ∃ W1, (W0.alloc (.cells zeroTA 42)).alloc (.cells #[.int .i64 s0, .int .i64 s1, .int .i64 s2, .int .i64 s3, .slice none 0 0, .int .u32 x] 42) = W1 := ⟨_, rfl⟩
  have HInv1 : Hid (Inv5 W0 (w.heap.size + 1 + 1) (w.heap.size + 1) (s0, s1, s2, s3) x W1 0 (.slice none 0 0) [] []) := by rw [← hW1, ← hW0]; exact HInv
  have HP1 : Hid (Box W0 w.heap.size 42 #[.int .i64 s0, .int .i64 s1, .int .i64 s2, .int .i64 s3, .slice a len cap, .int .u32 x]) := by rw [← hW0]; exact HP0
  have HS1 : Hid (W0.heap.size = w.heap.size + 1) := by rw [← hW0]; exact HS0
  have HBW1 : Hid (Below w.heap.size w W0) := by rw [← hW0]; exact HBW
  clear HInv HP0 HS0 HBW
  rw [hW0, hW1]
  clear hW0 hW1
  obtain ⟨O, hO⟩ : ∃ O, w.heap.size + 1 + 1 = O := ⟨_, rfl⟩
  rw [hO] at HInv1 ⊢
  obtain ⟨R, hR⟩ : ∃ R, w.heap.size + 1 = R := ⟨_, rfl⟩
  rw [hR] at HInv1 ⊢
  have hPO : w.heap.size + 1 < O := by omega
  have hPR : w.heap.size < R := by omega
  have hRO : R < O := by omega
  have HRw : Hid (w.heap.size + 1 = R) := Lib.hid hR
  clear hO hR
  go_loopw [4] (fun i wr => ∃ (k : Nat) (v : Value) (xs : List Value), k ≤ len ∧ i = .int .i64 k ∧ Hid (Inv5 W0 O R (s0, s1, s2, s3) x wr k v xs (es.take k))) (fun i _ => len - (intOf i).toNat)
  case atStart => exact ⟨0, .slice none 0 0, [], by omega, rfl, HInv1⟩
  case round =>
    obtain ⟨k, v, xs, hk, rfl, HI⟩ := hrel
    clear HInv1
    have hb := HI.out.2.2.2.2.1
    have hbw := HBW1.out.trans (hb.mono HBW1.out.size)
    have cb : wr.cell? ⟨w.heap.size, 4, none⟩ = some (.slice a len cap) := (HP1.out.below hb HP1.out.lt).cell rfl
    have HBO := Lib.hid HI.out.2.2.1
    have cO : wr.cell? ⟨O, 4, none⟩ = some v := HBO.out.cell rfl
    have hlt : O < wr.heap.size := HBO.out.lt
    by_cases hkl : k < len
    · have hkI : (k : Int) < (len : Int) := by omega
      have hk0 : (0 : Int) ≤ (k : Int) := Int.natCast_nonneg _
      obtain ⟨y, rfl, hy⟩ := H5.out.resolve_left (by omega)
      have hI := hy k hkl
      have hyb := lt_of_cell hI.1
      have hl40 := HF.out _ (getD_mem es k zeroE (by rw [H1.out]; exact hkl))
      rcases hi : es.getD k zeroE with ⟨key, ws⟩
      rw [hi] at hI hl40
      have HIk := Lib.hid (take_ent es k key ws (by rw [H1.out]; exact hkl) hi)
      have HOk := Lib.hid hI.ok
      obtain ⟨iw0, _, b, l, cc, iw1, hWs⟩ := hI
      simp only at iw0 iw1 hWs hl40
      have HWs : Hid (WordsAt wr.drew b l cc ws) := Lib.hid (hWs.below (hbw.drew))
      have hl : ws.length = l := hWs.1
      rw [hl] at hl40
      have HL := Lib.hid hl
      have HK : Hid (∀ w', Below (w.heap.size + 1) wr w' → w'.cell? ⟨w.heap.size, 4, none⟩ = some (.slice (some y) len cap) ∧ w'.cell? (y.add (k * 2)) = some (.int .u32 key) ∧ w'.cell? ⟨(y.add (k * 2)).block, (y.add (k * 2)).off + 1, none⟩ = some (.slice b l cc) ∧ Below (w.heap.size + 1) wr w') := Lib.hid (fun w' h => ⟨(h.cell (p := ⟨w.heap.size, 4, none⟩) (by simp)).trans cb, (h.cell (by omega)).trans ((hbw.cell (lt_of_cell iw0)).trans iw0), (h.cell (p := ⟨(y.add (k * 2)).block, (y.add (k * 2)).off + 1, none⟩) (by show (y.add (k * 2)).block < _; omega)).trans ((hbw.cell (lt_of_cell iw1)).trans iw1), h⟩)
      have hP0 : Below (w.heap.size + 1) wr wr.drew := (Below.refl _ _).drew
      have hOwn := HI.out.1
      have hnv : v.ownBlock = none ∨ v.ownBlock ≠ none := by
        cases hv : v.ownBlock
        · exact .inl rfl
        · exact .inr (by simp)
      have hvB : ∀ g, v.ownBlock = some g → O + 1 ≤ g := fun g hg => (HI.out.1.lt g hg).1
      have hne2 : some O ≠ v.ownBlock := fun h => by have := hvB _ h.symm; omega
      clear hi hl iw0 iw1 hb hbw hWs hy
      go_wp2_with fail
      refine wp_region_held_drew (S := (fun w' => w'.cell? ⟨w.heap.size, 4, none⟩ = some (.slice (some y) len cap) ∧ w'.cell? (y.add (k * 2)) = some (.int .u32 key) ∧ w'.cell? ⟨(y.add (k * 2)).block, (y.add (k * 2)).off + 1, none⟩ = some (.slice b l cc) ∧ Below (w.heap.size + 1) wr w')) (by kernel_rfl) (HK.out _ hP0) (fun hHeld => ?_)
      refine wpAnyH_yield (i := 0) (v := ?v0) rfl rfl (by kernel_rfl) (by kernel_rfl) (by kernel_rfl) (fun _ _ _ h => h) (by rfl) ?hy0 hHeld ?rest0
      case hy0 =>
        intro w hSw
        (try dsimp only at hSw)
        go_simp
        try with_reducible rfl
      simp only [Act.put, List.setIfInBounds_toArray, List.set_cons_zero, List.set_cons_succ]
      refine wpAnyH_yield (i := 2) (v := ?v2) rfl rfl (by kernel_rfl) (by kernel_rfl) (by kernel_rfl) (fun _ _ _ h => h) (by rfl) ?hy2 hHeld ?rest2
      case hy2 =>
        intro w hSw
        (try dsimp only at hSw)
        go_simp
        try with_reducible rfl
      simp only [Act.put, List.setIfInBounds_toArray, List.set_cons_zero, List.set_cons_succ]
      refine wpAnyH_yield (i := 3) (v := ?v3) rfl rfl (by kernel_rfl) (by kernel_rfl) (by kernel_rfl) (fun _ _ _ h => h) (by rfl) ?hy3 hHeld ?rest3
      case hy3 =>
        intro w hSw
        (try dsimp only at hSw)
        go_simp
        try with_reducible rfl
      simp only [Act.put, List.setIfInBounds_toArray, List.set_cons_zero, List.set_cons_succ]
      refine wpAnyH_yield (i := 4) (v := ?v4) rfl rfl (by kernel_rfl) (by kernel_rfl) (by kernel_rfl) (fun _ _ _ h => h) (by rfl) ?hy4 hHeld ?rest4
      case hy4 =>
        intro w hSw
        (try dsimp only at hSw)
        go_simp
        try with_reducible rfl
      simp only [Act.put, List.setIfInBounds_toArray, List.set_cons_zero, List.set_cons_succ]
      refine wpAnyH_yield (i := 5) (v := ?v5) rfl rfl (by kernel_rfl) (by kernel_rfl) (by kernel_rfl) (fun _ _ _ h => h) (by rfl) ?hy5 hHeld ?rest5
      case hy5 =>
        intro w hSw
        (try dsimp only at hSw)
        go_simp
        try with_reducible rfl
      simp only [Act.put, List.setIfInBounds_toArray, List.set_cons_zero, List.set_cons_succ]
      refine wpAnyH_yield (i := 6) (v := ?v6) rfl rfl (by kernel_rfl) (by kernel_rfl) (by kernel_rfl) (fun _ _ _ h => h) (by rfl) ?hy6 hHeld ?rest6
      case hy6 =>
        intro w hSw
        (try dsimp only at hSw)
        go_simp
        try with_reducible rfl
      simp only [Act.put, List.setIfInBounds_toArray, List.set_cons_zero, List.set_cons_succ]
      refine wpAnyH_yield (i := 7) (v := ?v7) rfl rfl (by kernel_rfl) (by kernel_rfl) (by kernel_rfl) (fun _ _ _ h => h) (by rfl) ?hy7 hHeld ?rest7
      case hy7 =>
        intro w hSw
        (try dsimp only at hSw)
        go_simp
        try with_reducible rfl
      simp only [Act.put, List.setIfInBounds_toArray, List.set_cons_zero, List.set_cons_succ]
      refine wpAnyH_yield (i := 8) (v := ?v8) rfl rfl (by kernel_rfl) (by kernel_rfl) (by kernel_rfl) (fun _ _ _ h => h) (by rfl) ?hy8 hHeld ?rest8
      case hy8 =>
        intro w hSw
        (try dsimp only at hSw)
        go_simp
        try with_reducible rfl
      simp only [Act.put, List.setIfInBounds_toArray, List.set_cons_zero, List.set_cons_succ]
      refine wpAnyH_yield (i := 9) (v := ?v9) rfl rfl (by kernel_rfl) (by kernel_rfl) (by kernel_rfl) (fun _ _ _ h => h) (by rfl) ?hy9 hHeld ?rest9
      case hy9 =>
        intro w hSw
        (try dsimp only at hSw)
        go_simp
        try with_reducible rfl
      simp only [Act.put, List.setIfInBounds_toArray, List.set_cons_zero, List.set_cons_succ]
      refine wpAnyH_yield (i := 10) (v := ?v10) rfl rfl (by kernel_rfl) (by kernel_rfl) (by kernel_rfl) (fun _ _ _ h => h) (by rfl) ?hy10 hHeld ?rest10
      case hy10 =>
        intro w hSw
        (try dsimp only at hSw)
        go_simp
        try with_reducible rfl
      simp only [Act.put, List.setIfInBounds_toArray, List.set_cons_zero, List.set_cons_succ]
      refine wpAnyH_yield (i := 11) (v := ?v11) rfl rfl (by kernel_rfl) (by kernel_rfl) (by kernel_rfl) (fun _ _ _ h => h) (by rfl) ?hy11 hHeld ?rest11
      case hy11 =>
        intro w hSw
        (try dsimp only at hSw)
        go_simp
        try with_reducible rfl
      simp only [Act.put, List.setIfInBounds_toArray, List.set_cons_zero, List.set_cons_succ]
      refine wpAnyH_yield (i := 12) (v := ?v12) rfl rfl (by kernel_rfl) (by kernel_rfl) (by kernel_rfl) (fun _ _ _ h => h) (by rfl) ?hy12 hHeld ?rest12
      case hy12 =>
        intro w hSw
        (try dsimp only at hSw)
        go_simp
        try with_reducible rfl
      simp only [Act.put, List.setIfInBounds_toArray, List.set_cons_zero, List.set_cons_succ]
      refine wpAnyH_yield (i := 13) (v := ?v13) rfl rfl (by kernel_rfl) (by kernel_rfl) (by kernel_rfl) (fun _ _ _ h => h) (by rfl) ?hy13 hHeld ?rest13
      case hy13 =>
        intro w hSw
        (try dsimp only at hSw)
        go_simp
        try with_reducible rfl
      simp only [Act.put, List.setIfInBounds_toArray, List.set_cons_zero, List.set_cons_succ]
      refine wpAnyH_ready (rs := [1, 14]) (by kernel_rfl) (by simp) ?_
      refine AllReadyH.cons rfl (fun K hK => ?_) ?_
      · go_simp
        refine hK.out _ _ (HK.out _ hP0) (fun hHeld => ?_)
        clear hK K
        try simp only [Act.put, List.setIfInBounds_toArray, List.set_cons_zero, List.set_cons_succ]
        refine wpAnyH_ready (rs := [14]) (by kernel_rfl) (by simp) ?_
        refine AllReadyH.cons rfl (fun K hK => ?_) AllReadyH.nil
        refine step_copyW wr.drew (by rfl) _ _ (by rfl) (by rfl) (by rfl) (by rfl) b l cc ws (by rfl) HWs.out (by omega) (O + 1) (by simp; omega) wr.heap.size (by simp) ?_
        intro b4 cp4 w4 hown4 hgrow4 hat4
        have hB4 : Below wr.heap.size wr w4 := ⟨hgrow4.os, hgrow4.tape, hgrow4.output, hgrow4.size, fun j hj => hgrow4.block j hj (by simp)⟩
        have hP4 : Below (w.heap.size + 1) wr w4 := hB4.mono (by omega)
        have HX4 := Lib.hid (HBO.out.below hB4 HBO.out.lt)
        have cO4 : w4.cell? ⟨O, 4, none⟩ = some v := HX4.out.cell rfl
        have hlt4 : O < w4.heap.size := HX4.out.lt
        refine hK.out _ _ (HK.out _ hP4) (fun hHeld => ?_)
        clear hK K
        try simp only [Act.put, List.setIfInBounds_toArray, List.set_cons_zero, List.set_cons_succ]
        refine wpAnyH_yield (i := 15) (v := ?va15) rfl rfl (by kernel_rfl) (by kernel_rfl) (by kernel_rfl) (fun _ _ _ h => h) (by rfl) ?hya15 hHeld ?resta15
        case hya15 =>
          intro w hSw
          (try dsimp only at hSw)
          go_simp
          try with_reducible rfl
        simp only [Act.put, List.setIfInBounds_toArray, List.set_cons_zero, List.set_cons_succ]
        have hP5 : Below (w.heap.size + 1) wr (w4.alloc (.cells #[.int .u32 key, .slice b4 l cp4] 66)) := hP4.alloc (by omega) _
        have cO5 : (w4.alloc (.cells #[.int .u32 key, .slice b4 l cp4] 66)).cell? ⟨O, 4, none⟩ = some v := (HX4.out.alloc _).cell rfl
        refine wpAnyH_ready (rs := [16]) (by kernel_rfl) (by simp) ?_
        refine AllReadyH.cons rfl (fun K hK => ?_) AllReadyH.nil
        go_simp
        refine hK.out _ _ (HK.out _ hP5) (fun hHeld => ?_)
        clear hK K
        try simp only [Act.put, List.setIfInBounds_toArray, List.set_cons_zero, List.set_cons_succ]
        refine wpAnyH_ready (rs := [17]) (by kernel_rfl) (by simp) ?_
        refine AllReadyH.cons rfl (fun K hK => ?_) AllReadyH.nil
        refine step_lies (w4.alloc (.cells #[.int .u32 key, .slice b4 l cp4] 66)) (by rfl) _ _ _ (by rfl) (by rfl) (O + 1) 66 iE _ 2 32 Tryd.underlying40 hiE hz0 hz1 hz2 rfl (by omega) v k xs (by rfl) ((hOwn.drew.kept hgrow4 hnv).alloc _) ⟨w4.heap.size, 0, none⟩ 1 1 [.int .u32 key, .slice b4 l cp4] (by rfl) (by rfl) (World.news_of_block (cs := #[.int .u32 key, .slice b4 l cp4]) (t := 66) (fr := (0, 0)) (heap_alloc_new w4 _)) (by simp [Value.oneCell']) (by omega) (by unfold maxLen; omega) (by omega) (by simp; omega) (w4.heap.size + 1) (by simp) ?_
        intro g6 cp6 w6 hown6 hgrow6 hat6 hlt6
        have HX6 := Lib.hid ((HX4.out.alloc (.cells #[.int .u32 key, .slice b4 l cp4] 66)).grown hgrow6 hne2)
        have hP6 : Below (w.heap.size + 1) wr w6 := hP5.grown hgrow6 (by simp; omega) (fun g hg => by have := hvB g hg; omega)
        have cO6 : w6.cell? ⟨O, 4, none⟩ = some v := HX6.out.cell rfl
        have fO6 : w6.frozen? ⟨O, 4, none⟩ = false := HX6.out.free 4
        have hP7 : Below (w.heap.size + 1) wr (w6.setCell ⟨O, 4, none⟩ (.slice (some ⟨g6, 0, none⟩) (k + 1) cp6)) := hP6.setCell (by simp; omega) _
        have HInv6 := Lib.hid (pushed5 HI.out hB4 (by rw [HL.out]; exact hown4) HOk.out (fun g hg => own_new hat4 hg) ((Below.refl w4.heap.size w4).alloc (Nat.le_refl _) (.cells #[.int .u32 key, .slice b4 l cp4] 66)) hown6 hgrow6 hat6 (by simp))
        rw [← HIk.out] at HInv6
        refine hK.out _ _ (HK.out _ hP6) (fun hHeld => ?_)
        clear hK K
        try simp only [Act.put, List.setIfInBounds_toArray, List.set_cons_zero, List.set_cons_succ]
        refine wpAnyH_yield (i := 18) (v := ?va18) rfl rfl (by kernel_rfl) (by kernel_rfl) (by kernel_rfl) (fun _ _ _ h => h) (by rfl) ?hya18 hHeld ?resta18
        case hya18 =>
          intro w hSw
          (try dsimp only at hSw)
          go_simp
          try with_reducible rfl
        simp only [Act.put, List.setIfInBounds_toArray, List.set_cons_zero, List.set_cons_succ]
        refine wpAnyH_ready (rs := [19]) (by kernel_rfl) (by simp) ?_
        refine AllReadyH.cons rfl (fun K hK => ?_) AllReadyH.nil
        go_simp
        refine hK.out _ _ (HK.out _ hP7) (fun hHeld => ?_)
        clear hK K
        try simp only [Act.put, List.setIfInBounds_toArray, List.set_cons_zero, List.set_cons_succ]
        refine wpAnyH_done (by kernel_rfl) ?_ _
        clear hown4 hgrow4 hat4 hB4 hP4 hP5 cO4 cO5 hown6 hgrow6 hat6 hlt6 hP6 hP7 cO6 fO6 HX4 HX6 hHeld
        go_wp2
        exact ⟨⟨k + 1, _, _, by omega, by go_num, HInv6⟩, by simp [intOf]; omega⟩
      refine AllReadyH.cons rfl (fun K hK => ?_) AllReadyH.nil
      refine step_copyW wr.drew (by rfl) _ _ (by rfl) (by rfl) (by rfl) (by rfl) b l cc ws (by rfl) HWs.out (by omega) (O + 1) (by simp; omega) wr.heap.size (by simp) ?_
      intro b4 cp4 w4 hown4 hgrow4 hat4
      have hB4 : Below wr.heap.size wr w4 := ⟨hgrow4.os, hgrow4.tape, hgrow4.output, hgrow4.size, fun j hj => hgrow4.block j hj (by simp)⟩
      have hP4 : Below (w.heap.size + 1) wr w4 := hB4.mono (by omega)
      have HX4 := Lib.hid (HBO.out.below hB4 HBO.out.lt)
      have cO4 : w4.cell? ⟨O, 4, none⟩ = some v := HX4.out.cell rfl
      have hlt4 : O < w4.heap.size := HX4.out.lt
      refine hK.out _ _ (HK.out _ hP4) (fun hHeld => ?_)
      clear hK K
      try simp only [Act.put, List.setIfInBounds_toArray, List.set_cons_zero, List.set_cons_succ]
      refine wpAnyH_yield (i := 15) (v := ?vb15) rfl rfl (by kernel_rfl) (by kernel_rfl) (by kernel_rfl) (fun _ _ _ h => h) (by rfl) ?hyb15 hHeld ?restb15
      case hyb15 =>
        intro w hSw
        (try dsimp only at hSw)
        go_simp
        try with_reducible rfl
      simp only [Act.put, List.setIfInBounds_toArray, List.set_cons_zero, List.set_cons_succ]
      have hP5 : Below (w.heap.size + 1) wr (w4.alloc (.cells #[.int .u32 key, .slice b4 l cp4] 66)) := hP4.alloc (by omega) _
      have cO5 : (w4.alloc (.cells #[.int .u32 key, .slice b4 l cp4] 66)).cell? ⟨O, 4, none⟩ = some v := (HX4.out.alloc _).cell rfl
      refine wpAnyH_ready (rs := [1, 16]) (by kernel_rfl) (by simp) ?_
      refine AllReadyH.cons rfl (fun K hK => ?_) ?_
      · go_simp
        refine hK.out _ _ (HK.out _ hP4) (fun hHeld => ?_)
        clear hK K
        try simp only [Act.put, List.setIfInBounds_toArray, List.set_cons_zero, List.set_cons_succ]
        refine wpAnyH_ready (rs := [16]) (by kernel_rfl) (by simp) ?_
        refine AllReadyH.cons rfl (fun K hK => ?_) AllReadyH.nil
        go_simp
        refine hK.out _ _ (HK.out _ hP5) (fun hHeld => ?_)
        clear hK K
        try simp only [Act.put, List.setIfInBounds_toArray, List.set_cons_zero, List.set_cons_succ]
        refine wpAnyH_ready (rs := [17]) (by kernel_rfl) (by simp) ?_
        refine AllReadyH.cons rfl (fun K hK => ?_) AllReadyH.nil
        refine step_lies (w4.alloc (.cells #[.int .u32 key, .slice b4 l cp4] 66)) (by rfl) _ _ _ (by rfl) (by rfl) (O + 1) 66 iE _ 2 32 Tryd.underlying40 hiE hz0 hz1 hz2 rfl (by omega) v k xs (by rfl) ((hOwn.drew.kept hgrow4 hnv).alloc _) ⟨w4.heap.size, 0, none⟩ 1 1 [.int .u32 key, .slice b4 l cp4] (by rfl) (by rfl) (World.news_of_block (cs := #[.int .u32 key, .slice b4 l cp4]) (t := 66) (fr := (0, 0)) (heap_alloc_new w4 _)) (by simp [Value.oneCell']) (by omega) (by unfold maxLen; omega) (by omega) (by simp; omega) (w4.heap.size + 1) (by simp) ?_
        intro g6 cp6 w6 hown6 hgrow6 hat6 hlt6
        have HX6 := Lib.hid ((HX4.out.alloc (.cells #[.int .u32 key, .slice b4 l cp4] 66)).grown hgrow6 hne2)
        have hP6 : Below (w.heap.size + 1) wr w6 := hP5.grown hgrow6 (by simp; omega) (fun g hg => by have := hvB g hg; omega)
        have cO6 : w6.cell? ⟨O, 4, none⟩ = some v := HX6.out.cell rfl
        have fO6 : w6.frozen? ⟨O, 4, none⟩ = false := HX6.out.free 4
        have hP7 : Below (w.heap.size + 1) wr (w6.setCell ⟨O, 4, none⟩ (.slice (some ⟨g6, 0, none⟩) (k + 1) cp6)) := hP6.setCell (by simp; omega) _
        have HInv6 := Lib.hid (pushed5 HI.out hB4 (by rw [HL.out]; exact hown4) HOk.out (fun g hg => own_new hat4 hg) ((Below.refl w4.heap.size w4).alloc (Nat.le_refl _) (.cells #[.int .u32 key, .slice b4 l cp4] 66)) hown6 hgrow6 hat6 (by simp))
        rw [← HIk.out] at HInv6
        refine hK.out _ _ (HK.out _ hP6) (fun hHeld => ?_)
        clear hK K
        try simp only [Act.put, List.setIfInBounds_toArray, List.set_cons_zero, List.set_cons_succ]
        refine wpAnyH_yield (i := 18) (v := ?vb18) rfl rfl (by kernel_rfl) (by kernel_rfl) (by kernel_rfl) (fun _ _ _ h => h) (by rfl) ?hyb18 hHeld ?restb18
        case hyb18 =>
          intro w hSw
          (try dsimp only at hSw)
          go_simp
          try with_reducible rfl
        simp only [Act.put, List.setIfInBounds_toArray, List.set_cons_zero, List.set_cons_succ]
        refine wpAnyH_ready (rs := [19]) (by kernel_rfl) (by simp) ?_
        refine AllReadyH.cons rfl (fun K hK => ?_) AllReadyH.nil
        go_simp
        refine hK.out _ _ (HK.out _ hP7) (fun hHeld => ?_)
        clear hK K
        try simp only [Act.put, List.setIfInBounds_toArray, List.set_cons_zero, List.set_cons_succ]
        refine wpAnyH_done (by kernel_rfl) ?_ _
        clear hown4 hgrow4 hat4 hB4 hP4 hP5 cO4 cO5 hown6 hgrow6 hat6 hlt6 hP6 hP7 cO6 fO6 HX4 HX6 hHeld
        go_wp2
        exact ⟨⟨k + 1, _, _, by omega, by go_num, HInv6⟩, by simp [intOf]; omega⟩
      refine AllReadyH.cons rfl (fun K hK => ?_) AllReadyH.nil
      go_simp
      refine hK.out _ _ (HK.out _ hP5) (fun hHeld => ?_)
      clear hK K
      try simp only [Act.put, List.setIfInBounds_toArray, List.set_cons_zero, List.set_cons_succ]
      refine wpAnyH_ready (rs := [1]) (by kernel_rfl) (by simp) ?_
      refine AllReadyH.cons rfl (fun K hK => ?_) AllReadyH.nil
      go_simp
      refine hK.out _ _ (HK.out _ hP5) (fun hHeld => ?_)
      clear hK K
      try simp only [Act.put, List.setIfInBounds_toArray, List.set_cons_zero, List.set_cons_succ]
      refine wpAnyH_ready (rs := [17]) (by kernel_rfl) (by simp) ?_
      refine AllReadyH.cons rfl (fun K hK => ?_) AllReadyH.nil
      refine step_lies (w4.alloc (.cells #[.int .u32 key, .slice b4 l cp4] 66)) (by rfl) _ _ _ (by rfl) (by rfl) (O + 1) 66 iE _ 2 32 Tryd.underlying40 hiE hz0 hz1 hz2 rfl (by omega) v k xs (by rfl) ((hOwn.drew.kept hgrow4 hnv).alloc _) ⟨w4.heap.size, 0, none⟩ 1 1 [.int .u32 key, .slice b4 l cp4] (by rfl) (by rfl) (World.news_of_block (cs := #[.int .u32 key, .slice b4 l cp4]) (t := 66) (fr := (0, 0)) (heap_alloc_new w4 _)) (by simp [Value.oneCell']) (by omega) (by unfold maxLen; omega) (by omega) (by simp; omega) (w4.heap.size + 1) (by simp) ?_
      intro g6 cp6 w6 hown6 hgrow6 hat6 hlt6
      have HX6 := Lib.hid ((HX4.out.alloc (.cells #[.int .u32 key, .slice b4 l cp4] 66)).grown hgrow6 hne2)
      have hP6 : Below (w.heap.size + 1) wr w6 := hP5.grown hgrow6 (by simp; omega) (fun g hg => by have := hvB g hg; omega)
      have cO6 : w6.cell? ⟨O, 4, none⟩ = some v := HX6.out.cell rfl
      have fO6 : w6.frozen? ⟨O, 4, none⟩ = false := HX6.out.free 4
      have hP7 : Below (w.heap.size + 1) wr (w6.setCell ⟨O, 4, none⟩ (.slice (some ⟨g6, 0, none⟩) (k + 1) cp6)) := hP6.setCell (by simp; omega) _
      have HInv6 := Lib.hid (pushed5 HI.out hB4 (by rw [HL.out]; exact hown4) HOk.out (fun g hg => own_new hat4 hg) ((Below.refl w4.heap.size w4).alloc (Nat.le_refl _) (.cells #[.int .u32 key, .slice b4 l cp4] 66)) hown6 hgrow6 hat6 (by simp))
      rw [← HIk.out] at HInv6
      refine hK.out _ _ (HK.out _ hP6) (fun hHeld => ?_)
      clear hK K
      try simp only [Act.put, List.setIfInBounds_toArray, List.set_cons_zero, List.set_cons_succ]
      refine wpAnyH_yield (i := 18) (v := ?vc18) rfl rfl (by kernel_rfl) (by kernel_rfl) (by kernel_rfl) (fun _ _ _ h => h) (by rfl) ?hyc18 hHeld ?restc18
      case hyc18 =>
        intro w hSw
        (try dsimp only at hSw)
        go_simp
        try with_reducible rfl
      simp only [Act.put, List.setIfInBounds_toArray, List.set_cons_zero, List.set_cons_succ]
      refine wpAnyH_ready (rs := [19]) (by kernel_rfl) (by simp) ?_
      refine AllReadyH.cons rfl (fun K hK => ?_) AllReadyH.nil
      go_simp
      refine hK.out _ _ (HK.out _ hP7) (fun hHeld => ?_)
      clear hK K
      try simp only [Act.put, List.setIfInBounds_toArray, List.set_cons_zero, List.set_cons_succ]
      refine wpAnyH_done (by kernel_rfl) ?_ _
      clear hown4 hgrow4 hat4 hB4 hP4 hP5 cO4 cO5 hown6 hgrow6 hat6 hlt6 hP6 hP7 cO6 fO6 HX4 HX6 hHeld
      go_wp2
      exact ⟨⟨k + 1, _, _, by omega, by go_num, HInv6⟩, by simp [intOf]; omega⟩
    · have hkI : ¬ (k : Int) < (len : Int) := by omega
      have hkn : k = len := by omega
      have HE : Hid (es.take k = es) := Lib.hid (List.take_of_length_le (by rw [H1.out]; omega))
      rw [HE.out] at HI
      have HKN := Lib.hid hkn
      have HBR := Lib.hid HI.out.2.2.2.1
      obtain ⟨b, cp, hv, _⟩ := ents_own (by rw [H1.out]; exact hkn.symm) HI.out.1 HI.out.2.1
      subst hv
      obtain ⟨d0, d1, d2, d3, d4, d5⟩ := HBO.out.tb
      simp only at d0 d1 d2 d3 d4 d5
      clear hkn
      go_wp2_with (refine wpList_store_row rfl 42 _ _ rfl R _ rfl rfl 42 _ HBR.out (by kernel_rfl) rfl (by simp [Value.oneCell']) ?_)
      refine bodyPost_ret (v := tbV (s0, s1, s2, s3) (.slice b k cp) x) ?_ rfl ?_
      · exact results_cell_row Tryd.results50 _ _ R 42 _ (0, 0) _ rfl (setRow_heap _ _ _ _ _ _ HBR.out) Tryd.underlying42 rfl (by kernel_rfl)
      · obtain ⟨hO, hCd, hBO, hBR', hb', hR1, hR2⟩ := HI.out
        have hgr := grownBy_setRow wr R (tbA (s0, s1, s2, s3) (.slice b k cp) x)
        have hlk : es.length = k := by rw [H1.out, HKN.out]
        refine ⟨_, xs, rfl, HBW1.out.trans ((below_setRow hb' hR1 _).mono HBW1.out.size), ?_, ?_⟩
        · rw [hlk]
          exact own_base (own_far hO hgr (by omega)) (by omega)
        · exact (hCd.grown hgr (.inr (fun g hg => by have := Option.some.inj hg; omega)) (.inl rfl)).base (by omega)
end Go.Proofs.YtilddlgcfbefiaaDoor

/-
  The cells of a row of entries, whose words lie in blocks that are told: one entry more, one less; a table that a call returns.
-/
namespace Go.Proofs.YtilddlgcfbefiaaDoor
set_option linter.unusedSimpArgs false
set_option linter.unusedVariables false
open Go Go.RowKit

/- the cells xs of a row of entries; their words lie in blocks of which A holds -/
def WordsIn (W : World) (A : Nat → Prop) (b : Option Addr) (l c : Nat) (ws : List Int) : Prop := WordsAt W b l c ws ∧ (l = 0 ∨ ∃ z, b = some z ∧ A z.block)
def Ents (W : World) (A : Nat → Prop) (xs : List Value) (es : List Ent) : Prop :=
  xs.length = es.length * 2 ∧ ∀ k, k < es.length → xs[k * 2]? = some (.int .u32 (es.getD k zeroE).1) ∧ isW (es.getD k zeroE).1 ∧ ∃ b l c, xs[k * 2 + 1]? = some (.slice b l c) ∧ WordsIn W A b l c (es.getD k zeroE).2
theorem WordsIn.mono {W : World} {A A' : Nat → Prop} {b : Option Addr} {l c : Nat} {ws : List Int} (h : WordsIn W A b l c ws) (hA : ∀ n, A n → A' n) : WordsIn W A' b l c ws :=
  ⟨h.1, h.2.imp id (fun ⟨z, e, h⟩ => ⟨z, e, hA _ h⟩)⟩
theorem WordsIn.grown {W W' : World} {A : Nat → Prop} {b : Option Addr} {l c : Nat} {ws : List Int} {row : Option Nat} (h : WordsIn W A b l c ws) (hg : W.grownBy W' row) (hA : ∀ n, A n → some n ≠ row) : WordsIn W' A b l c ws := by
  refine ⟨?_, h.2⟩
  obtain ⟨⟨h1, h2, h3, h4, h5⟩, h6⟩ := h
  refine ⟨h1, h2, h3, h4, ?_⟩
  rcases h5 with h5 | ⟨x, rfl, h7⟩
  · exact .inl h5
  · rcases h6 with h6 | ⟨z, e, hz⟩
    · exact .inl h6
    · cases e
      exact .inr ⟨x, rfl, fun i hi => (hg.cell_far _ (lt_of_cell (h7 i hi)) (by rw [add_block]; exact hA _ hz)).trans (h7 i hi)⟩
theorem Ents.mono {W : World} {A A' : Nat → Prop} {xs : List Value} {es : List Ent} (h : Ents W A xs es) (hA : ∀ n, A n → A' n) : Ents W A' xs es :=
  ⟨h.1, fun k hk => by
    obtain ⟨h1, h2, b, l, c, h3, h4⟩ := h.2 k hk
    exact ⟨h1, h2, b, l, c, h3, h4.mono hA⟩⟩
theorem Ents.grown {W W' : World} {A : Nat → Prop} {xs : List Value} {es : List Ent} {row : Option Nat} (h : Ents W A xs es) (hg : W.grownBy W' row) (hA : ∀ n, A n → some n ≠ row) : Ents W' A xs es :=
  ⟨h.1, fun k hk => by
    obtain ⟨h1, h2, b, l, c, h3, h4⟩ := h.2 k hk
    exact ⟨h1, h2, b, l, c, h3, h4.grown hg hA⟩⟩
theorem Ents.below {W W' : World} {A : Nat → Prop} {xs : List Value} {es : List Ent} (h : Ents W A xs es) (hb : Below W.heap.size W W') : Ents W' A xs es :=
  h.grown (grownBy_of_below hb none) (fun _ _ => by simp)
theorem Owned.ents {W : World} {base : Nat} {row : Option Nat} {xs : List Value} {es : List Ent} (h : Owned W base row xs es) : Ents W (fun n => base ≤ n ∧ n < W.heap.size ∧ some n ≠ row) xs es :=
  ⟨h.1, fun k hk => by
    obtain ⟨h1, cv, h2, h3, h4, h5⟩ := h.2.1 k hk
    obtain ⟨b, c, rfl, hW, hz⟩ := words_own rfl h4.2 h3
    refine ⟨h1, h4.1, b, _, c, h2, hW, ?_⟩
    cases b with
    | none =>
      rcases hW.2.2.2.2 with e | ⟨z, e, _⟩
      · exact .inl e
      · cases e
    | some z => exact .inr ⟨z, rfl, (hz z rfl).1, (hz z rfl).2.1, h5 z.block (hz z rfl).2.2⟩⟩
theorem Ents.snoc {W : World} {A : Nat → Prop} {xs : List Value} {es : List Ent} (h : Ents W A xs es) {key : Int} {b : Option Addr} {l c : Nat} {ws : List Int} (hk : isW key) (h1 : WordsIn W A b l c ws) :
    Ents W A (xs ++ [.int .u32 key, .slice b l c]) (es ++ [(key, ws)]) := by
  have hl := h.1
  refine ⟨by simp [hl]; omega, fun k hkl => ?_⟩
  by_cases hkn : k < es.length
  · have hg : (es ++ [(key, ws)]).getD k zeroE = es.getD k zeroE := by simp [List.getD_eq_getElem?_getD, List.getElem?_append_left hkn]
    rw [hg]
    obtain ⟨e1, e2, b', l', c', e3, e4⟩ := h.2 k hkn
    exact ⟨by rw [List.getElem?_append_left (by omega)]; exact e1, e2, b', l', c', by rw [List.getElem?_append_left (by omega)]; exact e3, e4⟩
  · have hk2 : k = es.length := by simp at hkl; omega
    subst hk2
    have hg : (es ++ [(key, ws)]).getD es.length zeroE = (key, ws) := by simp [List.getD_eq_getElem?_getD]
    rw [hg]
    refine ⟨?_, hk, b, l, c, ?_, h1⟩
    · rw [List.getElem?_append_right (by omega), hl]
      simp
    · rw [List.getElem?_append_right (by omega), hl]
      simp
theorem erase_at (es : List Ent) (i k : Nat) : (es.eraseIdx i).getD k zeroE = es.getD (if k < i then k else k + 1) zeroE := by
  simp only [List.getD_eq_getElem?_getD, List.getElem?_eraseIdx]
  split <;> rfl
theorem Ents.erase {W : World} {A : Nat → Prop} {xs : List Value} {es : List Ent} (h : Ents W A xs es) {i : Nat} (hi : i < es.length) : Ents W A (xs.take (i * 2) ++ xs.drop ((i + 1) * 2)) (es.eraseIdx i) := by
  have hl := h.1
  have hle : (es.eraseIdx i).length = es.length - 1 := by rw [List.length_eraseIdx, if_pos hi]
  have hx : ∀ k j, k < es.length - 1 → j < 2 → (xs.take (i * 2) ++ xs.drop ((i + 1) * 2))[k * 2 + j]? = xs[(if k < i then k else k + 1) * 2 + j]? := by
    intro k j hk hj
    by_cases hki : k < i
    · rw [if_pos hki, List.getElem?_append_left (by rw [List.length_take]; omega), List.getElem?_take, if_pos (by omega)]
    · rw [if_neg hki, List.getElem?_append_right (by rw [List.length_take]; omega), List.getElem?_drop, List.length_take]
      congr 1
      omega
  refine ⟨by rw [List.length_append, List.length_take, List.length_drop, hle]; omega, fun k hk => ?_⟩
  rw [hle] at hk
  rw [erase_at es i k]
  have hk' : (if k < i then k else k + 1) < es.length := by split <;> omega
  obtain ⟨e1, e2, b', l', c', e3, e4⟩ := h.2 _ hk'
  have x0 := hx k 0 hk (by omega)
  have x1 := hx k 1 hk (by omega)
  simp only [Nat.add_zero] at x0
  exact ⟨x0.trans e1, e2, b', l', c', x1.trans e3, e4⟩
/- a row of such entries that the call owns is a list of entries -/
theorem ents_row {w : World} {base : Nat} {t : TypeId} {A : Nat → Prop} {v : Value} {n : Nat} {xs : List Value} {es : List Ent} (hl : es.length = n) (hown : w.ownsRow base t 2 v n xs) (h : Ents w A xs es) :
    ∃ b cap, v = .slice b n cap ∧ EntsAt w b n cap es := by
  obtain ⟨_, ⟨rfl, rfl⟩ | ⟨g, cap, cur, rfl, hb, hh, hc, hm, hs, ht⟩⟩ := hown
  · exact ⟨none, 0, rfl, hl, Nat.le_refl _, Nat.zero_le _, .inl rfl⟩
  · refine ⟨some ⟨g, 0, none⟩, cap, rfl, hl, hc, hm, .inr ⟨_, rfl, fun k hk => ?_⟩⟩
    have hcell : ∀ j, j < 2 → w.cell? ⟨g, k * 2 + j, none⟩ = xs[k * 2 + j]? := by
      intro j hj
      have h2 : (cur.toList.take (n * 2))[k * 2 + j]? = xs[k * 2 + j]? := by rw [ht]
      rw [List.getElem?_take, if_pos (by omega)] at h2
      simp only [World.cell?, hh]
      rw [← h2]
      simp
    have ea : (⟨g, 0, none⟩ : Addr).add (k * 2) = ⟨g, k * 2, none⟩ := addr_add g (k * 2)
    rw [ea]
    obtain ⟨h1, h2, b, l, c, h3, h4⟩ := h.2 k (by omega)
    exact ⟨(hcell 0 (by omega)).trans h1, h2, b, l, c, (hcell 1 (by omega)).trans h3, h4.1⟩
/- a slice of entries that lie, with their words, in blocks of which A holds -/
def EntIn (W : World) (A : Nat → Prop) (a : Addr) (e : Ent) : Prop :=
  W.cell? a = some (.int .u32 e.1) ∧ isW e.1 ∧ ∃ b l c, W.cell? ⟨a.block, a.off + 1, none⟩ = some (.slice b l c) ∧ WordsIn W A b l c e.2
def EntsIn (W : World) (A : Nat → Prop) (a : Option Addr) (len cap : Nat) (es : List Ent) : Prop :=
  es.length = len ∧ len ≤ cap ∧ cap ≤ maxLen ∧ (len = 0 ∨ ∃ y, a = some y ∧ A y.block ∧ ∀ k, k < len → EntIn W A (y.add (k * 2)) (es.getD k zeroE))
theorem EntsIn.at {W : World} {A : Nat → Prop} {a : Option Addr} {len cap : Nat} {es : List Ent} (h : EntsIn W A a len cap es) : EntsAt W a len cap es := by
  obtain ⟨h1, h2, h3, h5⟩ := h
  refine ⟨h1, h2, h3, h5.imp id (fun ⟨y, e, _, h6⟩ => ⟨y, e, fun k hk => ?_⟩)⟩
  obtain ⟨c0, hw, b, l, c, c1, hc⟩ := h6 k hk
  exact ⟨c0, hw, b, l, c, c1, hc.1⟩
theorem EntsIn.mono {W : World} {A A' : Nat → Prop} {a : Option Addr} {len cap : Nat} {es : List Ent} (h : EntsIn W A a len cap es) (hA : ∀ n, A n → A' n) : EntsIn W A' a len cap es := by
  obtain ⟨h1, h2, h3, h5⟩ := h
  refine ⟨h1, h2, h3, h5.imp id (fun ⟨y, e, hy, h6⟩ => ⟨y, e, hA _ hy, fun k hk => ?_⟩)⟩
  obtain ⟨c0, hw, b, l, c, c1, hc⟩ := h6 k hk
  exact ⟨c0, hw, b, l, c, c1, hc.mono hA⟩
theorem EntsIn.grown {W W' : World} {A : Nat → Prop} {a : Option Addr} {len cap : Nat} {es : List Ent} {row : Option Nat} (h : EntsIn W A a len cap es) (hg : W.grownBy W' row) (hA : ∀ n, A n → some n ≠ row) : EntsIn W' A a len cap es := by
  obtain ⟨h1, h2, h3, h5⟩ := h
  refine ⟨h1, h2, h3, h5.imp id (fun ⟨y, e, hy, h6⟩ => ⟨y, e, hy, fun k hk => ?_⟩)⟩
  obtain ⟨c0, hw, b, l, c, c1, hc⟩ := h6 k hk
  have hb : some (y.add (k * 2)).block ≠ row := by rw [add_block]; exact hA _ hy
  exact ⟨(hg.cell_far _ (lt_of_cell c0) hb).trans c0, hw, b, l, c, (hg.cell_far ⟨(y.add (k * 2)).block, (y.add (k * 2)).off + 1, none⟩ (lt_of_cell c1) hb).trans c1, hc.grown hg hA⟩
theorem EntsIn.below {W W' : World} {A : Nat → Prop} {a : Option Addr} {len cap : Nat} {es : List Ent} (h : EntsIn W A a len cap es) (hb : Below W.heap.size W W') : EntsIn W' A a len cap es :=
  h.grown (grownBy_of_below hb none) (fun _ _ => by simp)
theorem rows_in {w : World} {base : Nat} {t : TypeId} {A : Nat → Prop} {v : Value} {n : Nat} {xs : List Value} {es : List Ent} (hl : es.length = n) (hown : w.ownsRow base t 2 v n xs) (h : Ents w A xs es) (hA : ∀ n, base ≤ n → A n) :
    ∃ b cap, v = .slice b n cap ∧ EntsIn w A b n cap es := by
  obtain ⟨b, cap, rfl, hE⟩ := ents_row hl hown h
  refine ⟨b, cap, rfl, hE.1, hE.2.1, hE.2.2.1, ?_⟩
  obtain ⟨_, ⟨hv, hn⟩ | ⟨g, cap', cur, hv, hb, hh, hc, hm, hs, ht⟩⟩ := hown
  · exact .inl hn
  · simp only [Value.slice.injEq, true_and] at hv
    obtain ⟨rfl, rfl⟩ := hv
    refine .inr ⟨_, rfl, hA g hb, fun k hk => ?_⟩
    have hcell : ∀ j, j < 2 → w.cell? ⟨g, k * 2 + j, none⟩ = xs[k * 2 + j]? := by
      intro j hj
      have h2 : (cur.toList.take (n * 2))[k * 2 + j]? = xs[k * 2 + j]? := by rw [ht]
      rw [List.getElem?_take, if_pos (by omega)] at h2
      simp only [World.cell?, hh]
      rw [← h2]
      simp
    have ea : (⟨g, 0, none⟩ : Addr).add (k * 2) = ⟨g, k * 2, none⟩ := addr_add g (k * 2)
    rw [ea]
    obtain ⟨h1, h2, b, l, c, h3, h4⟩ := h.2 k (by omega)
    exact ⟨(hcell 0 (by omega)).trans h1, h2, b, l, c, (hcell 1 (by omega)).trans h3, h4⟩
/- a table that a call returns: it lies in blocks of which A holds -/
def TabPost (t : Tb) (A : Nat → Prop) (w : World) (e : Ending) (w' : World) : Prop :=
  ∃ b n c, e = .returned (tbV t.1 (.slice b n c) t.2.2) ∧ Below w.heap.size w w' ∧ EntsIn w' A b n c t.2.1
/- what Own leaves, as such a table -/
theorem own_in {s : Sc} {x : Int} {es : List Ent} {w : World} {e : Ending} {w' : World} (h : OwnPost s x es w e w') : TabPost (s, es, x) (fun n => w.heap.size ≤ n) w e w' := by
  obtain ⟨v, xs, rfl, hb, hown, hOd⟩ := h
  obtain ⟨b, c, rfl, hE⟩ := rows_in rfl hown (hOd.ents.mono (A' := fun n => w.heap.size ≤ n) (fun n hn => by omega)) (fun n hn => by omega)
  exact ⟨b, _, c, rfl, hb, hE⟩
theorem own_prefix {w : World} {base g n cap i : Nat} {e : TypeId} {size : Nat} {xs : List Value} (h : w.ownsRow base e size (.slice (some ⟨g, 0, none⟩) n cap) n xs) (hi : i ≤ n) : w.ownsRow base e size (.slice (some ⟨g, 0, none⟩) i cap) i (xs.take (i * size)) := by
  obtain ⟨h1, ⟨h2, _⟩ | ⟨g', cap', cur, hv, hb, hh, hc, hm, hs, ht⟩⟩ := h
  · cases h2
  · simp only [Value.slice.injEq, Option.some.injEq, Addr.mk.injEq, and_true, true_and] at hv
    obtain ⟨rfl, rfl⟩ := hv
    refine ⟨?_, .inr ⟨g, cap, cur, rfl, hb, hh, by omega, hm, hs, ?_⟩⟩
    · have := Nat.mul_le_mul_right size hi
      rw [List.length_take, h1]
      omega
    · rw [← ht, List.take_take, Nat.min_eq_left (Nat.mul_le_mul_right size hi)]
theorem own_cells {w : World} {base g n cap : Nat} {e : TypeId} {size : Nat} {xs : List Value} (h : w.ownsRow base e size (.slice (some ⟨g, 0, none⟩) n cap) n xs) : ∀ j u, xs[j]? = some u → w.cell? ⟨g, j, none⟩ = some u := by
  obtain ⟨h1, ⟨h2, _⟩ | ⟨g', cap', cur, hv, hb, hh, hc, hm, hs, ht⟩⟩ := h
  · cases h2
  · simp only [Value.slice.injEq, Option.some.injEq, Addr.mk.injEq, and_true, true_and] at hv
    obtain ⟨rfl, rfl⟩ := hv
    intro j u hj
    rw [← ht, List.getElem?_take] at hj
    split at hj
    · simp only [World.cell?, hh]
      simpa using hj
    · cases hj
end Go.Proofs.YtilddlgcfbefiaaDoor

/-
  What the fifth reference's behind returns, as a contract over the translated program: the table with one entry more.
-/
namespace Go.Proofs.YtilddlgcfbefiaaDoor
set_option linter.unusedSimpArgs false
set_option linter.unusedVariables false
open Go Go.RowKit

abbrev enA (key : Int) (u : Value) : Array Value := #[.int .u32 key, u]
theorem enAt_new (w : World) (key : Int) (u : Value) : Box (w.alloc (.cells (enA key u) 66)) w.heap.size 66 (enA key u) := Box.new w 66 (enA key u)

set_option maxRecDepth 100000 in
set_option maxHeartbeats 4000000 in
theorem behind_any (s : Sc) (a : Option Addr) (len cap : Nat) (x : Int) (es : List Ent) (key : Int) (p : Option Addr) (lp cp : Nat) (ws : List Int) (A0 : Nat → Prop) (w : World) (h : EntsAt w a len cap es) (hf : fewE es) (hk : isW key) (hV0 : WordsIn w A0 p lp cp ws) :
    Calls Tryd.prog 101 #[tbV s (.slice a len cap) x, .agg #[.int .u32 key, .slice p lp cp]] w (TabPost (behindT (s, es, x) (key, ws)) (fun n => w.heap.size ≤ n ∨ A0 n) w) := by
  have hV := hV0.1
  obtain ⟨iE, hiE, hz0, hz1, hz2⟩ := info_parts infoE
  rcases s with ⟨s0, s1, s2, s3⟩
  have h40 : es.length ≤ 40 := hf.1
  obtain ⟨W0, hW0⟩ : ∃ W0, ((w.alloc (.cells #[.int .i64 s0, .int .i64 s1, .int .i64 s2, .int .i64 s3, .slice a len cap, .int .u32 x] 42)).alloc (.cells #[.int .u32 key, .slice p lp cp] 66)).alloc (.cells zeroTA 42) = W0 := ⟨_, rfl⟩
  have hs0 : W0.heap.size = w.heap.size + 1 + 1 + 1 := by rw [← hW0]; simp
  have hb0 : Below w.heap.size w W0 := by rw [← hW0]; exact (((Below.refl _ _).alloc (Nat.le_refl _) _).alloc (by simp) _).alloc (by simp; omega) _
  have HT : Hid (Box W0 w.heap.size 42 #[.int .i64 s0, .int .i64 s1, .int .i64 s2, .int .i64 s3, .slice a len cap, .int .u32 x]) := by rw [← hW0]; exact Lib.hid (((Box.new w 42 _).alloc _).alloc _)
  have HE : Hid (Box W0 (w.heap.size + 1) 66 #[.int .u32 key, .slice p lp cp]) := by
    rw [← hW0]
    have := Box.new (w.alloc (.cells #[.int .i64 s0, .int .i64 s1, .int .i64 s2, .int .i64 s3, .slice a len cap, .int .u32 x] 42)) 66 #[.int .u32 key, .slice p lp cp]
    rw [show (w.alloc (.cells #[.int .i64 s0, .int .i64 s1, .int .i64 s2, .int .i64 s3, .slice a len cap, .int .u32 x] 42)).heap.size = w.heap.size + 1 by simp] at this
    exact Lib.hid (this.alloc _)
  have HR : Hid (Box W0 (w.heap.size + 1 + 1) 42 zeroTA) := by
    rw [← hW0]
    have := Box.new ((w.alloc (.cells #[.int .i64 s0, .int .i64 s1, .int .i64 s2, .int .i64 s3, .slice a len cap, .int .u32 x] 42)).alloc (.cells #[.int .u32 key, .slice p lp cp] 66)) 42 zeroTA
    rw [show ((w.alloc (.cells #[.int .i64 s0, .int .i64 s1, .int .i64 s2, .int .i64 s3, .slice a len cap, .int .u32 x] 42)).alloc (.cells #[.int .u32 key, .slice p lp cp] 66)).heap.size = w.heap.size + 1 + 1 by simp] at this
    exact Lib.hid this
  have HIn : Hid (WordsIn W0 (fun n => n < w.heap.size ∧ A0 n) p lp cp ws) := Lib.hid ⟨hV.below hb0, by
    rcases hV.2.2.2.2 with e | ⟨z, e, hz⟩
    · exact .inl e
    · by_cases h0 : lp = 0
      · exact .inl h0
      · obtain ⟨z', e', hz'⟩ := hV0.2.resolve_left h0
        rw [e] at e'
        cases e'
        refine .inr ⟨z, e, ?_, hz'⟩
        have := lt_of_cell (hz 0 (by omega))
        rwa [add_block] at this⟩
  have HEs := Lib.hid (h.below hb0)
  have HF := Lib.hid hf
  have HK := Lib.hid hk
  obtain ⟨d0, d1, d2, d3, d4, d5⟩ := Box.tb (s := (s0, s1, s2, s3)) HT.out
  simp only at d0 d1 d2 d3 d4 d5
  clear h hf hV hk hV0
  go_enter Tryd.func101, Tryd.ntmps101
  go_wp2_with fail
  refine (own_any (s0, s1, s2, s3) a len cap x es W0 HEs.out HF.out).mono ?_
  rintro e w1 ⟨v, xs, rfl, hg1, hown1, hOd1⟩
  obtain ⟨bv, cv, rfl, _⟩ := ents_own rfl hown1 hOd1
  have hs1 := hg1.size
  have HE1 := Lib.hid (HE.out.later hg1)
  have HR1 := Lib.hid (HR.out.later hg1)
  have HIn1 := Lib.hid (HIn.out.grown (grownBy_of_below hg1 none) (fun _ _ => by simp))
  have hvB := hown1.lt
  obtain ⟨W2, hW2⟩ : ∃ W2, w1.alloc (.cells #[.int .i64 s0, .int .i64 s1, .int .i64 s2, .int .i64 s3, .slice bv es.length cv, .int .u32 x] 42) = W2 := ⟨_, rfl⟩
  have ha2 : Below w1.heap.size w1 W2 := by rw [← hW2]; exact (Below.refl _ _).alloc (Nat.le_refl _) _
  have HO2 : Hid (Box W2 w1.heap.size 42 #[.int .i64 s0, .int .i64 s1, .int .i64 s2, .int .i64 s3, .slice bv es.length cv, .int .u32 x]) := by rw [← hW2]; exact Lib.hid (Box.new w1 42 #[.int .i64 s0, .int .i64 s1, .int .i64 s2, .int .i64 s3, .slice bv es.length cv, .int .u32 x])
  have hs2 : W2.heap.size = w1.heap.size + 1 := by rw [← hW2]; simp
  have HE2 := Lib.hid (HE1.out.later ha2)
  have HR2 := Lib.hid (HR1.out.later ha2)
  have hown2 := ownsRow_below hown1 ha2
  have HOd1 := Lib.hid hOd1.ents
  have HIn2 := Lib.hid (HIn1.out.grown (grownBy_of_below ha2 none) (fun _ _ => by simp))
  have hb2 : Below w.heap.size w W2 := hb0.trans ((hg1.trans (ha2.mono hs1)).mono hb0.size)
  clear d0 d1 d2 d3 d4 d5 hW0 HT HEs HE HE1 HR HR1 HIn HIn1 hown1 hg1 hOd1
  obtain ⟨d0, d1, d2, d3, d4, d5⟩ := Box.tb (s := (s0, s1, s2, s3)) HO2.out
  simp only at d0 d1 d2 d3 d4 d5
  have e0 : W2.cell? ⟨w.heap.size + 1, 0, none⟩ = some (.int .u32 key) := HE2.out.cell rfl
  have e1 : W2.cell? ⟨w.heap.size + 1, 1, none⟩ = some (.slice p lp cp) := HE2.out.cell rfl
  obtain ⟨O, hO⟩ : ∃ O, w1.heap.size = O := ⟨_, rfl⟩
  rw [hO] at d0 d1 d2 d3 d4 d5 hs2 HO2 hvB
  have HA2 := Lib.hid (HOd1.out.below ha2)
  rw [hO] at HA2
  have HNew : Hid (Box (W2.alloc (.cells #[.int .u32 key, .slice p lp cp] 66)) (O + 1) 66 #[.int .u32 key, .slice p lp cp]) := by
    have := Box.new W2 66 #[.int .u32 key, .slice p lp cp]
    rw [hs2] at this
    exact Lib.hid this
  go_wp2_with (at_builtin; refine wpList_append_lies _ rfl _ _ _ rfl (W0.heap.size + 1) 66 iE _ 2 32 Tryd.underlying40 hiE hz0 hz1 hz2 rfl (by omega) (.slice bv es.length cv) es.length xs rfl (hown2.alloc (.cells #[.int .u32 key, .slice p lp cp] 66)) ⟨O + 1, 0, none⟩ 1 1 [.int .u32 key, .slice p lp cp] rfl rfl (World.news_of_block HNew.out) (by simp [Value.oneCell']) (by omega) (by unfold maxLen; omega) (by omega) (by simp; omega) (O + 1 + 1) (by simp [hs2]) ?_)
  intro g6 cp6 w6 hown6 hgrow6 hat6 hlt6
  have hR0 : w.heap.size + 1 + 1 < W0.heap.size := by omega
  have hneO : some O ≠ (Value.slice bv es.length cv).ownBlock := fun e => by have := hvB _ e.symm; omega
  have hneR : some (w.heap.size + 1 + 1) ≠ (Value.slice bv es.length cv).ownBlock := fun e => by have := hvB _ e.symm; omega
  have HO6 := Lib.hid ((HO2.out.alloc (.cells #[.int .u32 key, .slice p lp cp] 66)).grown hgrow6 hneO)
  have HR6 := Lib.hid ((HR2.out.alloc (.cells #[.int .u32 key, .slice p lp cp] 66)).grown hgrow6 hneR)
  have hg6 : W0.heap.size + 1 ≤ g6 ∧ g6 ≠ O := by
    rcases hat6 with h | h
    · have := hvB _ h
      omega
    · omega
  have hb6 : Below w.heap.size w w6 := (hb2.alloc (by omega) (.cells #[.int .u32 key, .slice p lp cp] 66)).grown hgrow6 (by simp; omega) (fun g hg => by have := hvB _ hg; omega)
  have HA6 : Hid (Ents w6 (fun n => (w.heap.size ≤ n ∨ A0 n) ∧ n ≠ O ∧ n ≠ w.heap.size + 1 + 1) (xs ++ [.int .u32 key, .slice p lp cp]) (es ++ [(key, ws)])) := Lib.hid (Ents.snoc
    (((HA2.out.below ((Below.refl _ _).alloc (Nat.le_refl _) (.cells #[.int .u32 key, .slice p lp cp] 66))).grown hgrow6 (fun n hn => hn.2.2)).mono (fun n hn => ⟨.inl (by omega), by omega, by omega⟩)) HK.out
    (((HIn2.out.grown (grownBy_of_below ((Below.refl _ _).alloc (Nat.le_refl _) (.cells #[.int .u32 key, .slice p lp cp] 66)) none) (fun _ _ => by simp)).grown hgrow6 (fun n hn e => by have := hvB _ e.symm; omega)).mono (fun n hn => ⟨.inr hn.2, by omega, by omega⟩)))
  have c4 : w6.cell? ⟨O, 4, none⟩ = some (.slice bv es.length cv) := HO6.out.cell rfl
  have f4 : w6.frozen? ⟨O, 4, none⟩ = false := HO6.out.free 4
  have HO7 := Lib.hid (HO6.out.set 4 (.slice (some ⟨g6, 0, none⟩) (es.length + 1) cp6))
  have HR7 := Lib.hid (HR6.out.other (p := ⟨O, 4, none⟩) (by show w.heap.size + 1 + 1 ≠ O; omega) (.slice (some ⟨g6, 0, none⟩) (es.length + 1) cp6))
  have hgs := grownBy_setCell w6 ⟨O, 4, none⟩ (.slice (some ⟨g6, 0, none⟩) (es.length + 1) cp6)
  have hown7 := hown6.kept hgs (.inr (fun e => hg6.2 (by simpa [Value.ownBlock] using e)))
  have HA7 := Lib.hid (HA6.out.grown hgs (fun n hn e => hn.2.1 (by simpa using e)))
  have hb7 : Below w.heap.size w (w6.setCell ⟨O, 4, none⟩ (.slice (some ⟨g6, 0, none⟩) (es.length + 1) cp6)) := hb6.setCell (by show w.heap.size ≤ O; omega) _
  have k0 : (w6.setCell ⟨O, 4, none⟩ (.slice (some ⟨g6, 0, none⟩) (es.length + 1) cp6)).cell? ⟨O, 0, none⟩ = some (.int .i64 s0) := HO7.out.cell rfl
  have k1 : (w6.setCell ⟨O, 4, none⟩ (.slice (some ⟨g6, 0, none⟩) (es.length + 1) cp6)).cell? ⟨O, 1, none⟩ = some (.int .i64 s1) := HO7.out.cell rfl
  have k2 : (w6.setCell ⟨O, 4, none⟩ (.slice (some ⟨g6, 0, none⟩) (es.length + 1) cp6)).cell? ⟨O, 2, none⟩ = some (.int .i64 s2) := HO7.out.cell rfl
  have k3 : (w6.setCell ⟨O, 4, none⟩ (.slice (some ⟨g6, 0, none⟩) (es.length + 1) cp6)).cell? ⟨O, 3, none⟩ = some (.int .i64 s3) := HO7.out.cell rfl
  have k4 : (w6.setCell ⟨O, 4, none⟩ (.slice (some ⟨g6, 0, none⟩) (es.length + 1) cp6)).cell? ⟨O, 4, none⟩ = some (.slice (some ⟨g6, 0, none⟩) (es.length + 1) cp6) := HO7.out.cell rfl
  have k5 : (w6.setCell ⟨O, 4, none⟩ (.slice (some ⟨g6, 0, none⟩) (es.length + 1) cp6)).cell? ⟨O, 5, none⟩ = some (.int .u32 x) := HO7.out.cell rfl
  have HOwn7 := Lib.hid hown7
  clear hown6 hgrow6 hat6 hown2 hown7 hgs d0 d1 d2 d3 d4 d5 e0 e1 ha2 HO2 HR2 HE2 HIn2 HA2 HNew HA6 HO6 HR6
  generalize hW7 : w6.setCell ⟨O, 4, none⟩ (.slice (some ⟨g6, 0, none⟩) (es.length + 1) cp6) = W7 at *
  go_wp2_with (refine wpList_store_row rfl 42 _ _ rfl (w.heap.size + 1 + 1) _ rfl rfl 42 _ HR7.out (by kernel_rfl) rfl (by simp [Value.oneCell']) ?_)
  refine bodyPost_ret (v := tbV (s0, s1, s2, s3) (.slice (some ⟨g6, 0, none⟩) (es.length + 1) cp6) x) ?_ rfl ?_
  · exact results_cell_row Tryd.results101 _ _ (w.heap.size + 1 + 1) 42 _ (0, 0) _ rfl (setRow_heap _ _ _ _ _ _ HR7.out) Tryd.underlying42 rfl (by kernel_rfl)
  · have hgr := grownBy_setRow W7 (w.heap.size + 1 + 1) #[.int .i64 s0, .int .i64 s1, .int .i64 s2, .int .i64 s3, .slice (some ⟨g6, 0, none⟩) (es.length + 1) cp6, .int .u32 x]
    obtain ⟨b8, c8, e8, hE8⟩ := rows_in (n := es.length + 1) (by simp) (own_far HOwn7.out hgr (by omega)) ((HA7.out.grown hgr (fun n hn e => hn.2.2 (by simpa using e))).mono (fun n hn => hn.1)) (fun n hn => .inl (by omega))
    simp only [Value.slice.injEq, true_and] at e8
    obtain ⟨rfl, rfl⟩ := e8
    exact ⟨_, _, _, rfl, below_setRow hb7 (by omega) _, hE8⟩
end Go.Proofs.YtilddlgcfbefiaaDoor

