/-
  What package course's walk does, as a contract over the translated program: it hands each reached position, in order, with what follows it, to the function that it was handed.
-/
import Derived.Test.YtdgfklmbglfbfaaDoorC4
import Derived.WalkMore
import Derived.ScopeJumps
namespace Go.Proofs.YtdgfklmbglfbfaaDoor
open Go Go.RowKit
set_option linter.unusedVariables false
theorem wp_scope_back {P : Program} {a : Act} {w : World} {Q : Exit → Act → World → Prop} {c rest : Code} (l : Nat) (J : Act → World → Prop) (μ : Act → World → Nat) (hf : findLabel c l = some (Code.skip.seq rest))
    (first : (∀ a w, J a w → rest.wp P (Exit.jump l J Q) a w) → c.wp P (Exit.jump l J Q) a w)
    (pass : ∀ a w, J a w → rest.wp P (Exit.jump l (fun a' w' => J a' w' ∧ μ a' w' < μ a w) Q) a w) : (Code.scope c).wp P Q a w :=
  wp_scope_jumps l J μ hf (first (fun a w hJ => wp_mono (pass a w hJ) (fun e a' w' h => by
    cases e
    case goto l' => exact ⟨h.1, h.2.1⟩
    all_goals exact h))) (fun a w hJ => wp_seq (wp_skip (pass a w hJ)))
/- block g is an array of 64 bools -/
def Marks (W : World) (g : Nat) (m : Nat → Bool) : Prop := ∃ cs : Array Value, Box W g 73 cs ∧ cs.size = 64 ∧ ∀ p, p < 64 → cs[p]? = some (.bool (m p))
section
variable {W W' : World} {g : Nat} {m m' : Nat → Bool}
theorem Marks.later (h : Marks W g m) (hb : Below W.heap.size W W') : Marks W' g m := by
  obtain ⟨cs, h1, h2, h3⟩ := h
  exact ⟨cs, h1.later hb, h2, h3⟩
theorem Marks.kept (h : Marks W g m) (hb : W'.heap[g]? = W.heap[g]?) : Marks W' g m := by
  obtain ⟨cs, h1, h2, h3⟩ := h
  exact ⟨cs, hb.trans h1, h2, h3⟩
theorem Marks.cell (h : Marks W g m) {p : Nat} (hp : p < 64) : W.cell? ⟨g, p, none⟩ = some (.bool (m p)) := by
  obtain ⟨cs, h1, h2, h3⟩ := h
  exact h1.cell (h3 p hp)
theorem Marks.free (h : Marks W g m) (p : Nat) : W.frozen? ⟨g, p, none⟩ = false := by
  obtain ⟨cs, h1, _⟩ := h
  exact h1.free p
theorem Marks.lt (h : Marks W g m) : g < W.heap.size := by
  obtain ⟨cs, h1, _⟩ := h
  exact h1.lt
theorem Marks.same (h : Marks W g m) (he : ∀ p, p < 64 → m p = m' p) : Marks W g m' := by
  obtain ⟨cs, h1, h2, h3⟩ := h
  exact ⟨cs, h1, h2, fun p hp => by rw [← he p hp]; exact h3 p hp⟩
theorem Marks.put (h : Marks W g m) {t : Nat} (ht : t < 64) (b : Bool) : Marks (W.setCell ⟨g, t, none⟩ (.bool b)) g (fun p => if p = t then b else m p) := by
  obtain ⟨cs, h1, h2, h3⟩ := h
  refine ⟨_, h1.set t (.bool b), by simp [h2], fun p hp => ?_⟩
  by_cases hpt : p = t
  · subst hpt
    simp [h2, hp]
  · show (cs.setIfInBounds t (.bool b))[p]? = some (.bool (if p = t then b else m p))
    rw [if_neg hpt, Array.getElem?_setIfInBounds_ne (Ne.symm hpt)]
    exact h3 p hp
theorem marks_new (W : World) : Marks (W.alloc (.cells (#[.bool true, .bool false, .bool false, .bool false, .bool false, .bool false, .bool false, .bool false, .bool false, .bool false, .bool false, .bool false, .bool false, .bool false, .bool false, .bool false, .bool false, .bool false, .bool false, .bool false, .bool false, .bool false, .bool false, .bool false, .bool false, .bool false, .bool false, .bool false, .bool false, .bool false, .bool false, .bool false, .bool false, .bool false, .bool false, .bool false, .bool false, .bool false, .bool false, .bool false, .bool false, .bool false, .bool false, .bool false, .bool false, .bool false, .bool false, .bool false, .bool false, .bool false, .bool false, .bool false, .bool false, .bool false, .bool false, .bool false, .bool false, .bool false, .bool false, .bool false, .bool false, .bool false, .bool false, .bool false]) 73)) W.heap.size (fun p => decide (p = 0)) := by
  refine ⟨_, Box.new _ _ _, rfl, fun p hp => ?_⟩
  match p, hp with
    | 0, _ => rfl
    | 1, _ => rfl
    | 2, _ => rfl
    | 3, _ => rfl
    | 4, _ => rfl
    | 5, _ => rfl
    | 6, _ => rfl
    | 7, _ => rfl
    | 8, _ => rfl
    | 9, _ => rfl
    | 10, _ => rfl
    | 11, _ => rfl
    | 12, _ => rfl
    | 13, _ => rfl
    | 14, _ => rfl
    | 15, _ => rfl
    | 16, _ => rfl
    | 17, _ => rfl
    | 18, _ => rfl
    | 19, _ => rfl
    | 20, _ => rfl
    | 21, _ => rfl
    | 22, _ => rfl
    | 23, _ => rfl
    | 24, _ => rfl
    | 25, _ => rfl
    | 26, _ => rfl
    | 27, _ => rfl
    | 28, _ => rfl
    | 29, _ => rfl
    | 30, _ => rfl
    | 31, _ => rfl
    | 32, _ => rfl
    | 33, _ => rfl
    | 34, _ => rfl
    | 35, _ => rfl
    | 36, _ => rfl
    | 37, _ => rfl
    | 38, _ => rfl
    | 39, _ => rfl
    | 40, _ => rfl
    | 41, _ => rfl
    | 42, _ => rfl
    | 43, _ => rfl
    | 44, _ => rfl
    | 45, _ => rfl
    | 46, _ => rfl
    | 47, _ => rfl
    | 48, _ => rfl
    | 49, _ => rfl
    | 50, _ => rfl
    | 51, _ => rfl
    | 52, _ => rfl
    | 53, _ => rfl
    | 54, _ => rfl
    | 55, _ => rfl
    | 56, _ => rfl
    | 57, _ => rfl
    | 58, _ => rfl
    | 59, _ => rfl
    | 60, _ => rfl
    | 61, _ => rfl
    | 62, _ => rfl
    | 63, _ => rfl
    | p + 64, h => omega
end
/- all blocks below B are as they were -/
def KeptTo (B : Nat) (W W' : World) : Prop := ∀ j, j < B → W'.heap[j]? = W.heap[j]?
theorem keptTo_below {B : Nat} {W W' : World} (h : Below B W W') : KeptTo B W W' := fun j hj => h.block j hj
theorem keptTo_set {B g : Nat} {W : World} (hg : B ≤ g) (i : Nat) (v : Value) : KeptTo B W (W.setCell ⟨g, i, none⟩ v) := fun j hj => Below.heap_setCell _ _ _ _ (by show j ≠ g; omega)
def mkj (c : List I) (n k : Nat) (ts : List Nat) (p : Nat) : Bool := mkd c n k p || (decide (p ∈ ts) && decide (p < n))
theorem mkj_nil (c : List I) (n k p : Nat) : mkd c n k p = mkj c n k [] p := by simp [mkj]
theorem mkj_end {c : List I} {k : Nat} (h : rch c k = true) (n p : Nat) : mkj c n k (sucC c k) p = mkd c n (k + 1) p := by rw [mkd_succ, mkj, h, Bool.true_and]
theorem mkj_step {c : List I} {n k : Nat} {ts : List Nat} {j : Nat} (hj : j < ts.length) (p : Nat) : mkj c n k (ts.take (j + 1)) p = (mkj c n k (ts.take j) p || (decide (p = ts.getD j 0) && decide (p < n))) := by
  rw [take_getD ts j 0 hj, mkj, mkj]
  simp only [List.mem_append, List.mem_singleton, Bool.decide_or]
  cases mkd c n k p <;> cases decide (p ∈ List.take j ts) <;> cases decide (p = ts.getD j 0) <;> cases decide (p < n) <;> rfl
set_option maxRecDepth 1000000 in
set_option maxHeartbeats 8000000 in
theorem walk_any (f : Nat) (caps : Array Value) (Inv : Nat → World → Prop) (c : List I) (a : Option Addr) (len cap : Nat) (w0 w : World) (hC : CodeAt w0 a len cap c) (hcode : codeB c = true) (hb : Below w0.heap.size w0 w)
    (hen : ∀ (args : Array Value) (w : World), (callFunc f args).run Tryd.prog w = .ok (.enter f args) w)
    (hkeep : ∀ k W W', Inv k W → KeptTo w.heap.size W W' → Inv k W') (hskip : ∀ k W, k < len → rch c k = false → Inv k W → Inv (k + 1) W)
    (hvisit : ∀ k W b l cp, k < len → rch c k = true → Below w0.heap.size w0 W → w.heap.size ≤ W.heap.size → Inv k W → IntsAt W b l cp (castL (sucC c k)) → (∀ y, b = some y → w.heap.size ≤ y.block) →
      Calls Tryd.prog f (#[.int .i64 (k : Int), .slice b l cp] ++ caps) W fun e W' => e = .returned (.tuple #[]) ∧ Inv (k + 1) W' ∧ Below w0.heap.size W W' ∧ ∀ j, w.heap.size ≤ j → j < W.heap.size → W'.heap[j]? = W.heap[j]?)
    (h0 : Inv 0 w) :
    Calls Tryd.prog 28 #[.slice a len cap, .func (.func f) #[] caps] w fun e W' => e = .returned (.tuple #[]) ∧ Inv len W' ∧ Below w0.heap.size w0 W' := by
  have hcl := codeB_len hcode
  have hlen := hC.1
  have h64 : len ≤ 64 := by omega
  have h1l : 1 ≤ len := by omega
  have HC := Lib.hid hC
  have HCo := Lib.hid hcode
  have HKp := Lib.hid hkeep
  have HEn := Lib.hid hen
  have HSk := Lib.hid hskip
  have HVi := Lib.hid hvisit
  have HL := Lib.hid hlen
  have hw0 := Lib.hid hb.size
  have HI0 : Hid (Below w0.heap.size w0 (w.alloc (.cells #[.bool true, .bool false, .bool false, .bool false, .bool false, .bool false, .bool false, .bool false, .bool false, .bool false, .bool false, .bool false, .bool false, .bool false, .bool false, .bool false, .bool false, .bool false, .bool false, .bool false, .bool false, .bool false, .bool false, .bool false, .bool false, .bool false, .bool false, .bool false, .bool false, .bool false, .bool false, .bool false, .bool false, .bool false, .bool false, .bool false, .bool false, .bool false, .bool false, .bool false, .bool false, .bool false, .bool false, .bool false, .bool false, .bool false, .bool false, .bool false, .bool false, .bool false, .bool false, .bool false, .bool false, .bool false, .bool false, .bool false, .bool false, .bool false, .bool false, .bool false, .bool false, .bool false, .bool false, .bool false] 73)) ∧ Marks (w.alloc (.cells #[.bool true, .bool false, .bool false, .bool false, .bool false, .bool false, .bool false, .bool false, .bool false, .bool false, .bool false, .bool false, .bool false, .bool false, .bool false, .bool false, .bool false, .bool false, .bool false, .bool false, .bool false, .bool false, .bool false, .bool false, .bool false, .bool false, .bool false, .bool false, .bool false, .bool false, .bool false, .bool false, .bool false, .bool false, .bool false, .bool false, .bool false, .bool false, .bool false, .bool false, .bool false, .bool false, .bool false, .bool false, .bool false, .bool false, .bool false, .bool false, .bool false, .bool false, .bool false, .bool false, .bool false, .bool false, .bool false, .bool false, .bool false, .bool false, .bool false, .bool false, .bool false, .bool false, .bool false, .bool false] 73)) w.heap.size (mkd c len 0) ∧ Inv 0 (w.alloc (.cells #[.bool true, .bool false, .bool false, .bool false, .bool false, .bool false, .bool false, .bool false, .bool false, .bool false, .bool false, .bool false, .bool false, .bool false, .bool false, .bool false, .bool false, .bool false, .bool false, .bool false, .bool false, .bool false, .bool false, .bool false, .bool false, .bool false, .bool false, .bool false, .bool false, .bool false, .bool false, .bool false, .bool false, .bool false, .bool false, .bool false, .bool false, .bool false, .bool false, .bool false, .bool false, .bool false, .bool false, .bool false, .bool false, .bool false, .bool false, .bool false, .bool false, .bool false, .bool false, .bool false, .bool false, .bool false, .bool false, .bool false, .bool false, .bool false, .bool false, .bool false, .bool false, .bool false, .bool false, .bool false] 73))) :=
    Lib.hid ⟨hb.trans (((Below.refl _ _).alloc (Nat.le_refl _) _).mono hb.size), (marks_new w).same (fun p _ => (mkd_zero c len p).symm), hkeep _ _ _ h0 (keptTo_below ((Below.refl _ _).alloc (Nat.le_refl _) _))⟩
  clear hC hcode hen hkeep hskip hvisit hlen hb h0 hcl
  go_enter Tryd.func28, Tryd.ntmps28
  go_wp2
  refine wp_scope_back 0 (fun a' W => ∃ (k : Nat) (u2 u3 u6 u7 u8 u9 u10 u11 u12 u13 u14 u15 u16 u17 u18 u19 u20 u21 u22 u23 u24 u25 u26 u27 u28 u29 u30 u31 u32 u33 u34 u35 u36 u37 u38 u39 u40 u41 : Value), k < len ∧ a' = { tmps := #[.slice a len cap, .func (.func f) #[] caps, u2, u3, .pointer (some ⟨w.heap.size, 0, none⟩), .int .i64 (k : Int), u6, u7, u8, u9, u10, u11, u12, u13, u14, u15, u16, u17, u18, u19, u20, u21, u22, u23, u24, u25, u26, u27, u28, u29, u30, u31, u32, u33, u34, u35, u36, u37, u38, u39, u40, u41], defers := [] } ∧ Hid (Below w0.heap.size w0 W ∧ Marks W w.heap.size (mkd c len k) ∧ Inv k W)) (fun a' _ => 64 - (intOf (a'.tmps.getD 5 undef)).toNat) rfl ?_ ?_
  · intro hrest
    go_wp2
    go_step3
    rename_i hK
    apply hK
    apply hrest
    exact ⟨0, _, _, _, _, _, _, _, _, _, _, _, _, _, _, _, _, _, _, _, _, _, _, _, _, _, _, _, _, _, _, _, _, _, _, _, _, _, _, by omega, rfl, HI0⟩
  · rintro a' W ⟨k, u2, u3, u6, u7, u8, u9, u10, u11, u12, u13, u14, u15, u16, u17, u18, u19, u20, u21, u22, u23, u24, u25, u26, u27, u28, u29, u30, u31, u32, u33, u34, u35, u36, u37, u38, u39, u40, u41, hkl, rfl, HS⟩
    clear HI0
    have hk64 : k ≤ 64 := by omega
    have hkI : (k : Int) < (len : Int) := by omega
    have hkJ : (k : Int) < 64 := by omega
    have hk0 : (0 : Int) ≤ (k : Int) := Int.natCast_nonneg _
    have hlI : (len : Int) ≤ 64 := by omega
    obtain ⟨R, hR⟩ : ∃ R, rch c k = R := ⟨_, rfl⟩
    have hc0 := HS.out.2.1.cell (p := k) (by omega)
    rw [mkd_at hkl, hR] at hc0
    have HR := Lib.hid hR
    clear hR
    cases R
    · have HS2 : Hid (Below w0.heap.size w0 W ∧ Marks W w.heap.size (mkd c len (k + 1)) ∧ Inv (k + 1) W) := Lib.hid ⟨HS.out.1, HS.out.2.1.same (fun p _ => by rw [mkd_succ, HR.out]; simp), HSk.out k W hkl HR.out HS.out.2.2⟩
      by_cases hn : k + 1 < len
      · have hnI : (k : Int) + 1 < (len : Int) := by omega
        go_wp2_with fail
        go_step3
        exact ⟨rfl, ⟨k + 1, _, _, _, _, _, _, _, _, _, _, _, _, _, _, _, _, _, _, _, _, _, _, _, _, _, _, _, _, _, _, _, _, _, _, _, _, _, _, hn, by push_cast; rfl, HS2⟩, by simp [intOf]; omega⟩
      · have hnI : ¬ (k : Int) + 1 < (len : Int) := by omega
        have hke : k + 1 = len := by omega
        rw [hke] at HS2
        go_wp2_with fail
        simp only [Exit.jump]
        refine bodyPost_end (results_none rfl _ _ _) rfl ?_
        exact ⟨rfl, HS2.out.2.2, HS2.out.1⟩
    · obtain ⟨y, rfl, hy⟩ := HC.out.2.2.2.2.resolve_left (by omega)
      have hIn := (hy k hkl).below HS.out.1
      have hok := HC.out.2.2.2.1 _ (getD_mem c k zeroI (by rw [HL.out]; exact hkl))
      have hmay := codeB_at HCo.out (k := k) (by rw [HL.out]; exact hkl)
      have hoff := mayI_off hok hmay
      have HSc : Hid (sucC c k = sucP (c.getD k zeroI) k) := Lib.hid rfl
      rcases hi : c.getD k zeroI with ⟨o, fn, d, s, r, x, m⟩
      rw [hi] at hIn hoff HSc
      obtain ⟨i0, i1, i2, i3, i4, i5, i6⟩ := hIn
      simp only at i0 i1 i2 i3 i4 i5 i6 hoff
      obtain ⟨q, rfl⟩ : ∃ q : Nat, x = (q : Int) := ⟨x.toNat, by omega⟩
      have hq : q ≤ 65535 := by omega
      clear hy hok hmay hoff hi
      go_wp2_with fail
      clear i0 i1 i2 i3 i4 i5 i6 hc0
      refine (suc_any o fn d s r q m k W hk64 hq).mono ?_
      rintro e m1 ⟨b, l, cp, rfl, hb1, hI1, hlow⟩
      rw [← HSc.out] at hI1
      have hsz : w.heap.size < W.heap.size := HS.out.2.1.lt
      have HM1 := Lib.hid (HS.out.2.1.later hb1)
      have HB1 := Lib.hid (HS.out.1.trans (hb1.mono HS.out.1.size))
      have HI1 := Lib.hid (HKp.out _ _ _ HS.out.2.2 (keptTo_below (hb1.mono (Nat.le_of_lt hsz))))
      have HN := Lib.hid hI1
      have HLow : Hid (∀ y, b = some y → y.block ≠ w.heap.size) := Lib.hid (fun y hy => by have := hlow y hy; omega)
      have HLow2 : Hid (∀ y, b = some y → w.heap.size ≤ y.block) := Lib.hid (fun y hy => by have := hlow y hy; omega)
      have HSz : Hid (w.heap.size ≤ m1.heap.size) := Lib.hid (Nat.le_trans (Nat.le_of_lt hsz) hb1.size)
      have hlm := hI1.max
      have HLl : Hid ((sucC c k).length = l) := Lib.hid (by rw [← castL_len]; exact hI1.1)
      clear hb1 hI1 hlow hsz HSc
      go_wp2_with fail
      go_loopw [21] (fun i wr => ∃ j : Nat, j ≤ l ∧ i = .int .i64 j ∧ Hid (Below w0.heap.size w0 wr ∧ Marks wr w.heap.size (mkj c len k ((sucC c k).take j)) ∧ Inv k wr ∧ IntsAt wr b l cp (castL (sucC c k)))) (fun i _ => l - (intOf i).toNat)
      case atStart => exact ⟨0, by omega, rfl, Lib.hid ⟨HB1.out, HM1.out.same (fun p _ => by rw [List.take_zero]; exact mkj_nil c len k p), HI1.out, HN.out⟩⟩
      case round =>
        obtain ⟨j, hj, rfl, HL1⟩ := hrel
        clear HN HM1 HB1 HI1
        have hj0 : (0 : Int) ≤ (j : Int) := Int.natCast_nonneg _
        by_cases hjl : j < l
        · have hjI : (j : Int) < (l : Int) := by omega
          obtain ⟨y2, rfl, hy2⟩ := HL1.out.2.2.2.2.2.2.resolve_left (by omega)
          have hc2 := hy2 j hjl
          rw [castL_getD] at hc2
          obtain ⟨t, ht⟩ : ∃ t, (sucC c k).getD j 0 = t := ⟨_, rfl⟩
          rw [ht] at hc2
          have HTs := Lib.hid ht
          clear hy2 ht
          have ht0 : (0 : Int) ≤ (t : Int) := Int.natCast_nonneg _
          by_cases htl : t < len
          · have htI : (t : Int) < (len : Int) := by omega
            have htJ : (t : Int) < 64 := by omega
            have hfz := HL1.out.2.1.free t
            have hct := HL1.out.2.1.cell (p := t) (by omega)
            have HL2 : Hid (Below w0.heap.size w0 (wr.setCell ⟨w.heap.size, t, none⟩ (.bool true)) ∧ Marks (wr.setCell ⟨w.heap.size, t, none⟩ (.bool true)) w.heap.size (mkj c len k ((sucC c k).take (j + 1))) ∧ Inv k (wr.setCell ⟨w.heap.size, t, none⟩ (.bool true)) ∧ IntsAt (wr.setCell ⟨w.heap.size, t, none⟩ (.bool true)) (some y2) l cp (castL (sucC c k))) := Lib.hid
              ⟨HL1.out.1.setCell hw0.out _, (HL1.out.2.1.put (t := t) (by omega) true).same (fun p _ => by
                rw [mkj_step (by rw [HLl.out]; exact hjl), HTs.out]
                by_cases hpt : p = t
                · subst hpt
                  simp [htl]
                · simp [hpt]), HKp.out _ _ _ HL1.out.2.2.1 (keptTo_set (Nat.le_refl _) t _), HL1.out.2.2.2.set HLow.out t _⟩
            go_wp2_with fail
            exact ⟨⟨j + 1, by omega, by go_num, HL2⟩, by simp [intOf]; omega⟩
          · have htI : ¬ (t : Int) < (len : Int) := by omega
            have HL2 : Hid (Below w0.heap.size w0 wr ∧ Marks wr w.heap.size (mkj c len k ((sucC c k).take (j + 1))) ∧ Inv k wr ∧ IntsAt wr (some y2) l cp (castL (sucC c k))) := Lib.hid
              ⟨HL1.out.1, HL1.out.2.1.same (fun p _ => by
                rw [mkj_step (by rw [HLl.out]; exact hjl), HTs.out]
                by_cases hpt : p = t
                · subst hpt
                  simp [htl]
                · simp [hpt]), HL1.out.2.2.1, HL1.out.2.2.2⟩
            go_wp2_with fail
            exact ⟨⟨j + 1, by omega, by go_num, HL2⟩, by simp [intOf]; omega⟩
        · have hjI : ¬ (j : Int) < (l : Int) := by omega
          have hje : j = l := by omega
          have HM2 : Hid (Marks wr w.heap.size (mkd c len (k + 1))) := Lib.hid (HL1.out.2.1.same (fun p _ => by
            rw [hje, List.take_of_length_le (by rw [HLl.out]; exact Nat.le_refl _)]
            exact mkj_end HR.out len p))
          have c3 := HVi.out k wr b l cp hkl HR.out HL1.out.1 (Nat.le_of_lt HM2.out.lt) HL1.out.2.2.1 HL1.out.2.2.2 HLow2.out
          clear hje
          go_wp2_with fail
          rw [HEn.out, Oper.upon_enter]
          refine c3.mono ?_
          rintro e m3 ⟨rfl, hi3, hb3, hk3⟩
          have HS2 : Hid (Below w0.heap.size w0 m3 ∧ Marks m3 w.heap.size (mkd c len (k + 1)) ∧ Inv (k + 1) m3) := Lib.hid ⟨HL1.out.1.trans hb3, HM2.out.kept (hk3 _ (Nat.le_refl _) HM2.out.lt), hi3⟩
          clear c3 hi3 hb3 hk3 HL1 HM2
          by_cases hn : k + 1 < len
          · have hnI : (k : Int) + 1 < (len : Int) := by omega
            go_wp2_with fail
            go_step3
            exact ⟨rfl, ⟨k + 1, _, _, _, _, _, _, _, _, _, _, _, _, _, _, _, _, _, _, _, _, _, _, _, _, _, _, _, _, _, _, _, _, _, _, _, _, _, _, hn, by push_cast; rfl, HS2⟩, by simp [intOf]; omega⟩
          · have hnI : ¬ (k : Int) + 1 < (len : Int) := by omega
            have hke : k + 1 = len := by omega
            rw [hke] at HS2
            go_wp2_with fail
            simp only [Exit.jump]
            refine bodyPost_end (results_none rfl _ _ _) rfl ?_
            exact ⟨rfl, HS2.out.2.2, HS2.out.1⟩
end Go.Proofs.YtdgfklmbglfbfaaDoor
