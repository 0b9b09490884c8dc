/-
  What package course's Longest returns, as a contract over the translated program.
-/
import Derived.Test.YtdgfklmbglfbfaaDoorC8
import Derived.Test.YtdgfklmbglfbfaaDoorReg2
namespace Go.Proofs.YtdgfklmbglfbfaaDoor
open Go Go.RowKit
set_option linter.unusedVariables false
/- all but blocks p and q is as it was -/
def Kept2 (W W' : World) (p q : Nat) : Prop := (∀ B, B ≤ p → B ≤ q → B ≤ W.heap.size → Below B W W') ∧ W.heap.size ≤ W'.heap.size ∧ ∀ j, j ≠ p → j ≠ q → j < W.heap.size → W'.heap[j]? = W.heap[j]?
section
variable {W W' W'' : World} {p q : Nat}
theorem Kept2.refl : Kept2 W W p q := ⟨fun _ _ _ _ => Below.refl _ _, Nat.le_refl _, fun _ _ _ _ => rfl⟩
theorem Kept2.of (h : Below W.heap.size W W') : Kept2 W W' p q := ⟨fun _ _ _ hB => h.mono hB, h.size, fun j _ _ hj => h.block j hj⟩
theorem Kept2.trans (h : Kept2 W W' p q) (h' : Kept2 W' W'' p q) : Kept2 W W'' p q :=
  ⟨fun B h1 h2 h3 => (h.1 B h1 h2 h3).trans (h'.1 B h1 h2 (Nat.le_trans h3 h.2.1)), Nat.le_trans h.2.1 h'.2.1, fun j h1 h2 h3 => (h'.2.2 j h1 h2 (Nat.lt_of_lt_of_le h3 h.2.1)).trans (h.2.2 j h1 h2 h3)⟩
theorem Kept2.setp (h : Kept2 W W' p q) (i : Nat) (v : Value) : Kept2 W (W'.setCell ⟨p, i, none⟩ v) p q :=
  h.trans ⟨fun B h1 _ _ => (Below.refl _ _).setCell h1 _, by simp [World.setCell], fun j h1 _ _ => Below.heap_setCell _ _ _ _ h1⟩
theorem Kept2.setq (h : Kept2 W W' p q) (i : Nat) (v : Value) : Kept2 W (W'.setCell ⟨q, i, none⟩ v) p q :=
  h.trans ⟨fun B _ h2 _ => (Below.refl _ _).setCell h2 _, by simp [World.setCell], fun j _ h2 _ => Below.heap_setCell _ _ _ _ h2⟩
end
theorem ints_keep {W W' : World} {b : Option Addr} {l cp : Nat} {zs : List Int} {p q : Nat} (h : IntsAt W b l cp zs) (hk : Kept2 W W' p q) (hne : ∀ y, b = some y → y.block ≠ p ∧ y.block ≠ q) : IntsAt W' b l cp zs := by
  obtain ⟨h1, h2, h3, h4⟩ := h
  refine ⟨h1, h2, h3, h4.imp id (fun ⟨y, e, h⟩ => ⟨y, e, fun j hj => ?_⟩)⟩
  have hlt := lt_of_cell (h j hj)
  have e1 : (y.add j).block = y.block := add_block y j
  have hn := hne y e
  have := hk.2.2 (y.add j).block (by rw [e1]; exact hn.1) (by rw [e1]; exact hn.2) hlt
  rw [← h j hj]
  unfold World.cell?
  rw [this]
def upd (f : Nat → Int) (ts : List Nat) (len : Nat) (C : Int) (p : Nat) : Int := if p ∈ ts ∧ p < len then max (f p) C else f p
theorem upd_take {f : Nat → Int} {ts : List Nat} {len j t : Nat} {C : Int} (hj : j < ts.length) (ht : ts.getD j 0 = t) (htl : t < len) (p : Nat) : upd f (ts.take (j + 1)) len C p = if p = t then max (upd f (ts.take j) len C t) C else upd f (ts.take j) len C p := by
  unfold upd
  rw [take_getD ts j 0 hj, ht]
  by_cases hpt : p = t
  · subst hpt
    rw [if_pos rfl, if_pos ⟨by simp, htl⟩]
    split <;> omega
  · simp [hpt]
theorem upd_far {f : Nat → Int} {ts : List Nat} {len j t : Nat} {C : Int} (hj : j < ts.length) (ht : ts.getD j 0 = t) (htl : ¬ t < len) (p : Nat) : upd f (ts.take (j + 1)) len C p = upd f (ts.take j) len C p := by
  unfold upd
  rw [take_getD ts j 0 hj, ht]
  by_cases hpt : p = t
  · subst hpt
    simp [htl]
  · simp [hpt]
theorem upd_le {f : Nat → Int} {C : Int} (hf : ∀ p, 0 ≤ f p ∧ f p ≤ 64000064) (hC : 0 ≤ C ∧ C ≤ 65000065) (ts : List Nat) (len p : Nat) : 0 ≤ upd f ts len C p ∧ upd f ts len C p ≤ 65000065 := by
  have := hf p
  unfold upd
  split <;> omega
set_option maxRecDepth 100000 in
set_option maxHeartbeats 8000000 in
theorem long1_any (k Bf L Cb Lg : Nat) (b : Option Addr) (l cp : Nat) (ts : List Nat) (f : Nat → Int) (lg : Int) (c : List I) (a : Option Addr) (len cap : Nat) (ca : Option Addr) (cn cc : Nat) (calls : List Int) (W : World)
    (hk : k < len) (hlen : len ≤ 64) (hap : L ≠ Bf ∧ L ≠ Lg ∧ Cb ≠ Bf ∧ Cb ≠ Lg ∧ Lg ≠ Bf) (hb : ∀ y, b = some y → y.block ≠ Bf ∧ y.block ≠ Lg) (hI : IntsAt W b l cp (castL ts))
    (hB : Vals W Bf 59 64 (fun p => .int .i64 (f p))) (hL : Box W L 22 #[.slice a len cap]) (hC : Box W Cb 23 #[.slice ca cn cc]) (hLg : Box W Lg 3 #[.int .i64 lg])
    (hCode : CodeAt W a len cap c) (hcalls : IntsAt W ca cn cc calls) (hf : ∀ p, 0 ≤ f p ∧ f p ≤ 64000064) (hl0 : 0 ≤ lg ∧ lg ≤ 64000064) :
    Calls Tryd.prog 30 #[.int .i64 (k : Int), .slice b l cp, .pointer (some ⟨Bf, 0, none⟩), .pointer (some ⟨L, 0, none⟩), .pointer (some ⟨Cb, 0, none⟩), .pointer (some ⟨Lg, 0, none⟩)] W
      fun e W' => e = .returned (.tuple #[]) ∧ Vals W' Bf 59 64 (fun p => .int .i64 (upd f ts len (f k + costP calls (c.getD k zeroI)) p)) ∧ Box W' Lg 3 #[.int .i64 (max lg (f k + costP calls (c.getD k zeroI)))] ∧ Kept2 W W' Bf Lg := by
  have hlm := hI.max
  have HLl : Hid (ts.length = l) := Lib.hid (by rw [← castL_len]; exact hI.1)
  have HAp := Lib.hid hap
  have HNe := Lib.hid hb
  have HI := Lib.hid hI
  have HB := Lib.hid hB
  have HL := Lib.hid hL
  have HC := Lib.hid hC
  have HLg := Lib.hid hLg
  have HCalls := Lib.hid hcalls
  have HF := Lib.hid hf
  have hfk := hf k
  have hcost := costP_le calls (c.getD k zeroI)
  have hkI : (k : Int) < (len : Int) := by omega
  have hkJ : (k : Int) < 64 := by omega
  have hk0 : (0 : Int) ≤ (k : Int) := Int.natCast_nonneg _
  obtain ⟨y, rfl, hy⟩ := hCode.2.2.2.2.resolve_left (by omega)
  have hIn := hy k hk
  have hok := hCode.2.2.2.1 _ (getD_mem c k zeroI (by rw [hCode.1]; exact hk))
  have c0 := hB.cell (p := k) (by omega)
  have c1 : W.cell? ⟨L, 0, none⟩ = some (.slice (some y) len cap) := hL.cell rfl
  have c2 : W.cell? ⟨Cb, 0, none⟩ = some (.slice ca cn cc) := hC.cell rfl
  obtain ⟨fk, hfk2⟩ : ∃ fk, f k = fk := ⟨_, rfl⟩
  rw [hfk2] at c0 hfk ⊢
  rcases hi : c.getD k zeroI with ⟨o, fn, d, s, r, x, m⟩
  rw [hi] at hIn hok hcost
  obtain ⟨i0, i1, i2, i3, i4, i5, i6⟩ := hIn
  obtain ⟨hm0, hm1⟩ := hok
  simp only at i0 i1 i2 i3 i4 i5 i6 hm0 hm1
  obtain ⟨co, hco⟩ : ∃ co, costP calls (o, fn, d, s, r, x, m) = co := ⟨_, rfl⟩
  rw [hco] at hcost ⊢
  have HCo := Lib.hid hco
  have HKp : Hid (∀ w', Below W.heap.size W w' → w'.cell? ⟨Bf, k, none⟩ = some (.int .i64 fk) ∧ w'.cell? ⟨L, 0, none⟩ = some (.slice (some y) len cap) ∧ w'.cell? (y.add (k * 7)) = some (.int .i64 o) ∧ w'.cell? ⟨(y.add (k * 7)).block, (y.add (k * 7)).off + 1, none⟩ = some (.int .i64 fn) ∧ w'.cell? ⟨(y.add (k * 7)).block, (y.add (k * 7)).off + 2, none⟩ = some (.int .i64 d) ∧ w'.cell? ⟨(y.add (k * 7)).block, (y.add (k * 7)).off + 3, none⟩ = some (.int .i64 s) ∧ w'.cell? ⟨(y.add (k * 7)).block, (y.add (k * 7)).off + 4, none⟩ = some (.bool r) ∧ w'.cell? ⟨(y.add (k * 7)).block, (y.add (k * 7)).off + 5, none⟩ = some (.int .i64 x) ∧ w'.cell? ⟨(y.add (k * 7)).block, (y.add (k * 7)).off + 6, none⟩ = some (.int .u32 m) ∧ w'.cell? ⟨Cb, 0, none⟩ = some (.slice ca cn cc)) := Lib.hid (fun w' hb => ⟨(hb.cell (lt_of_cell c0)).trans c0, (hb.cell (lt_of_cell c1)).trans c1, (hb.cell (lt_of_cell i0)).trans i0, (hb.cell (lt_of_cell i1)).trans i1, (hb.cell (lt_of_cell i2)).trans i2, (hb.cell (lt_of_cell i3)).trans i3, (hb.cell (lt_of_cell i4)).trans i4, (hb.cell (lt_of_cell i5)).trans i5, (hb.cell (lt_of_cell i6)).trans i6, (hb.cell (lt_of_cell c2)).trans c2⟩)
  clear hy hCode hI hB hL hC hLg hcalls hf hb hap hi hco i0 i1 i2 i3 i4 i5 i6 c0 c1 c2 hfk2
  obtain ⟨hfk0, hfk9⟩ := hfk
  obtain ⟨hco0, hco9⟩ := hcost
  obtain ⟨hlg0, hlg9⟩ := hl0
  go_enter Tryd.func30, Tryd.ntmps30
  go_wp2_with fail
  refine wp_region_held_drew (S := (fun w' => w'.cell? ⟨Bf, k, none⟩ = some (.int .i64 fk) ∧ w'.cell? ⟨L, 0, none⟩ = some (.slice (some y) len cap) ∧ w'.cell? (y.add (k * 7)) = some (.int .i64 o) ∧ w'.cell? ⟨(y.add (k * 7)).block, (y.add (k * 7)).off + 1, none⟩ = some (.int .i64 fn) ∧ w'.cell? ⟨(y.add (k * 7)).block, (y.add (k * 7)).off + 2, none⟩ = some (.int .i64 d) ∧ w'.cell? ⟨(y.add (k * 7)).block, (y.add (k * 7)).off + 3, none⟩ = some (.int .i64 s) ∧ w'.cell? ⟨(y.add (k * 7)).block, (y.add (k * 7)).off + 4, none⟩ = some (.bool r) ∧ w'.cell? ⟨(y.add (k * 7)).block, (y.add (k * 7)).off + 5, none⟩ = some (.int .i64 x) ∧ w'.cell? ⟨(y.add (k * 7)).block, (y.add (k * 7)).off + 6, none⟩ = some (.int .u32 m) ∧ w'.cell? ⟨Cb, 0, none⟩ = some (.slice ca cn cc))) (by kernel_rfl) (HKp.out _ (Below.refl _ _).drew) (fun hHeld => ?_)
  refine wpAnyH_yield (i := 0) (v := ?v0) rfl rfl (by kernel_rfl) (by kernel_rfl) (by kernel_rfl) (fun _ _ _ h => h) (by rfl) ?hy0 hHeld ?rest0
  case hy0 =>
    intro w hSw
    (try dsimp only at hSw)
    go_simp
    try with_reducible rfl
  simp only [Act.put, List.setIfInBounds_toArray, List.set_cons_zero, List.set_cons_succ]
  refine wpAnyH_yield (i := 1) (v := ?v1) rfl rfl (by kernel_rfl) (by kernel_rfl) (by kernel_rfl) (fun _ _ _ h => h) (by rfl) ?hy1 hHeld ?rest1
  case hy1 =>
    intro w hSw
    (try dsimp only at hSw)
    go_simp
    try with_reducible rfl
  simp only [Act.put, List.setIfInBounds_toArray, List.set_cons_zero, List.set_cons_succ]
  refine wpAnyH_yield (i := 2) (v := ?v2) rfl rfl (by kernel_rfl) (by kernel_rfl) (by kernel_rfl) (fun _ _ _ h => h) (by rfl) ?hy2 hHeld ?rest2
  case hy2 =>
    intro w hSw
    (try dsimp only at hSw)
    go_simp
    try with_reducible rfl
  simp only [Act.put, List.setIfInBounds_toArray, List.set_cons_zero, List.set_cons_succ]
  refine wpAnyH_yield (i := 3) (v := ?v3) rfl rfl (by kernel_rfl) (by kernel_rfl) (by kernel_rfl) (fun _ _ _ h => h) (by rfl) ?hy3 hHeld ?rest3
  case hy3 =>
    intro w hSw
    (try dsimp only at hSw)
    go_simp
    try with_reducible rfl
  simp only [Act.put, List.setIfInBounds_toArray, List.set_cons_zero, List.set_cons_succ]
  refine wpAnyH_yield (i := 4) (v := ?v4) rfl rfl (by kernel_rfl) (by kernel_rfl) (by kernel_rfl) (fun _ _ _ h => h) (by rfl) ?hy4 hHeld ?rest4
  case hy4 =>
    intro w hSw
    (try dsimp only at hSw)
    go_simp
    try with_reducible rfl
  simp only [Act.put, List.setIfInBounds_toArray, List.set_cons_zero, List.set_cons_succ]
  refine wpAnyH_yield (i := 5) (v := ?v5) rfl rfl (by kernel_rfl) (by kernel_rfl) (by kernel_rfl) (fun _ _ _ h => h) (by rfl) ?hy5 hHeld ?rest5
  case hy5 =>
    intro w hSw
    (try dsimp only at hSw)
    go_simp
    try with_reducible rfl
  simp only [Act.put, List.setIfInBounds_toArray, List.set_cons_zero, List.set_cons_succ]
  refine wpAnyH_yield (i := 6) (v := ?v6) rfl rfl (by kernel_rfl) (by kernel_rfl) (by kernel_rfl) (fun _ _ _ h => h) (by rfl) ?hy6 hHeld ?rest6
  case hy6 =>
    intro w hSw
    (try dsimp only at hSw)
    go_simp
    try with_reducible rfl
  simp only [Act.put, List.setIfInBounds_toArray, List.set_cons_zero, List.set_cons_succ]
  refine wpAnyH_yield (i := 7) (v := ?v7) rfl rfl (by kernel_rfl) (by kernel_rfl) (by kernel_rfl) (fun _ _ _ h => h) (by rfl) ?hy7 hHeld ?rest7
  case hy7 =>
    intro w hSw
    (try dsimp only at hSw)
    go_simp
    try with_reducible rfl
  simp only [Act.put, List.setIfInBounds_toArray, List.set_cons_zero, List.set_cons_succ]
  refine wpAnyH_ready (rs := [8]) (by kernel_rfl) (by simp) ?_
  refine AllReadyH.cons rfl (fun K hK => ?_) AllReadyH.nil
  go_simp
  have c1 := cost_any o fn d s r x m ca cn cc calls W.drew hm0 hm1 (HCalls.out.below (Below.refl _ _).drew)
  rw [HCo.out] at c1
  refine c1.mono ?_
  rintro e m1 ⟨rfl, hb1⟩
  have HB1 : Hid (Below W.heap.size W m1) := Lib.hid ((Below.refl _ _).drew.trans hb1)
  clear c1 hb1
  go_wp2_with fail
  refine hK.out _ _ (HKp.out _ HB1.out) (fun hHeld => ?_)
  clear hK K
  try simp only [Act.put, List.setIfInBounds_toArray, List.set_cons_zero, List.set_cons_succ]
  refine wpAnyH_yield (i := 9) (v := ?v9) rfl rfl (by kernel_rfl) (by kernel_rfl) (by kernel_rfl) (fun _ _ _ h => h) (by rfl) ?hy9 hHeld ?rest9
  case hy9 =>
    intro w hSw
    (try dsimp only at hSw)
    go_simp
    try with_reducible rfl
  simp only [Act.put, List.setIfInBounds_toArray, List.set_cons_zero, List.set_cons_succ]
  refine wpAnyH_yield (i := 10) (v := ?v10) rfl rfl (by kernel_rfl) (by kernel_rfl) (by kernel_rfl) (fun _ _ _ h => h) (by rfl) ?hy10 hHeld ?rest10
  case hy10 =>
    intro w hSw
    (try dsimp only at hSw)
    go_simp
    try with_reducible rfl
  simp only [Act.put, List.setIfInBounds_toArray, List.set_cons_zero, List.set_cons_succ]
  refine wpAnyH_done (by kernel_rfl) ?_ _
  clear hHeld
  have HLg1 := Lib.hid (HLg.out.later HB1.out)
  have c3 : m1.cell? ⟨Lg, 0, none⟩ = some (.int .i64 lg) := HLg1.out.cell rfl
  have hfz := HLg1.out.free 0
  have hwr : IntKind.i64.wrap (fk + co) = fk + co := wI _ (by omega) (by omega)
  by_cases hmx : lg < fk + co
  · have HB2 : Hid (Vals (m1.setCell ⟨Lg, 0, none⟩ (.int .i64 (fk + co))) Bf 59 64 (fun p => .int .i64 (f p)) ∧ Box (m1.setCell ⟨Lg, 0, none⟩ (.int .i64 (fk + co))) Lg 3 #[.int .i64 (fk + co)] ∧ Kept2 W (m1.setCell ⟨Lg, 0, none⟩ (.int .i64 (fk + co))) Bf Lg) := Lib.hid ⟨(HB.out.later HB1.out).other (by have := HAp.out; show Bf ≠ Lg; omega) _, HLg1.out.set 0 (.int .i64 (fk + co)), (Kept2.of HB1.out).setq 0 _⟩
    have hmxE : Hid (max lg (fk + co) = (fk + co)) := Lib.hid (by omega)
    go_wp2_with fail
    clear c3 hfz
    go_loopw [26] (fun i wr => ∃ j : Nat, j ≤ l ∧ i = .int .i64 j ∧ Hid (Vals wr Bf 59 64 (fun p => .int .i64 (upd f (ts.take j) len (fk + co) p)) ∧ Box wr Lg 3 #[.int .i64 (fk + co)] ∧ Kept2 W wr Bf Lg)) (fun i _ => l - (intOf i).toNat)
    case atStart => exact ⟨0, by omega, rfl, Lib.hid ⟨HB2.out.1.same (fun p _ => by simp [upd]), HB2.out.2⟩⟩
    case round =>
      obtain ⟨j, hj, rfl, HL1⟩ := hrel
      clear HB2
      have hj0 : (0 : Int) ≤ (j : Int) := Int.natCast_nonneg _
      by_cases hjl : j < l
      · have hjI : (j : Int) < (l : Int) := by omega
        have HIr := Lib.hid (ints_keep HI.out HL1.out.2.2 HNe.out)
        obtain ⟨y2, rfl, hy2⟩ := HIr.out.2.2.2.resolve_left (by omega)
        have hc2 := hy2 j hjl
        rw [castL_getD] at hc2
        obtain ⟨t, ht⟩ : ∃ t, ts.getD j 0 = t := ⟨_, rfl⟩
        rw [ht] at hc2
        have HTs := Lib.hid ht
        have c1 : wr.cell? ⟨L, 0, none⟩ = some (.slice (some y) len cap) := (HL.out.kept (HL1.out.2.2.2.2 L HAp.out.1 HAp.out.2.1 HL.out.lt)).cell rfl
        clear hy2 ht
        have ht0 : (0 : Int) ≤ (t : Int) := Int.natCast_nonneg _
        by_cases htl : t < len
        · have htI : (t : Int) < (len : Int) := by omega
          have htJ : (t : Int) < 64 := by omega
          have hct := HL1.out.1.cell (p := t) (by omega)
          have hfz := HL1.out.1.free t
          have hul := upd_le HF.out (C := fk + co) (by omega) (ts.take j) len t
          have HSt : Hid (∀ p, upd f (ts.take (j + 1)) len (fk + co) p = if p = t then max (upd f (ts.take j) len (fk + co) t) (fk + co) else upd f (ts.take j) len (fk + co) p) := Lib.hid (fun p => upd_take (by rw [HLl.out]; exact hjl) HTs.out htl p)
          obtain ⟨ft, hft⟩ : ∃ ft, upd f (ts.take j) len (fk + co) t = ft := ⟨_, rfl⟩
          rw [hft] at HSt hul
          rw [hft] at hct
          have HFt := Lib.hid hft
          clear hft
          obtain ⟨hul0, hul9⟩ := hul
          have HNx : ∀ z : Int, max ft (fk + co) = z → Hid (Vals (wr.setCell ⟨Bf, t, none⟩ (.int .i64 z)) Bf 59 64 (fun p => .int .i64 (upd f (ts.take (j + 1)) len (fk + co) p)) ∧ Box (wr.setCell ⟨Bf, t, none⟩ (.int .i64 z)) Lg 3 #[.int .i64 (fk + co)] ∧ Kept2 W (wr.setCell ⟨Bf, t, none⟩ (.int .i64 z)) Bf Lg) := fun z hz => Lib.hid
            ⟨(HL1.out.1.put (t := t) (by omega) (.int .i64 z)).same (fun p _ => by
              rw [HSt.out p]
              by_cases hpt : p = t
              · rw [if_pos hpt, if_pos hpt, hz]
              · rw [if_neg hpt, if_neg hpt]), HL1.out.2.1.other (by have := HAp.out; show Lg ≠ Bf; omega) _, HL1.out.2.2.setp t _⟩
          by_cases hmz : ft < fk + co
          · have HN := HNx (fk + co) (by omega)
            clear HNx
            go_wp2_with fail
            exact ⟨⟨j + 1, by omega, by go_num, HN⟩, by simp [intOf]; omega⟩
          · have HN := HNx ft (by omega)
            clear HNx
            go_wp2_with fail
            exact ⟨⟨j + 1, by omega, by go_num, HN⟩, by simp [intOf]; omega⟩
        · have htI : ¬ (t : Int) < (len : Int) := by omega
          have HN : Hid (Vals wr Bf 59 64 (fun p => .int .i64 (upd f (ts.take (j + 1)) len (fk + co) p)) ∧ Box wr Lg 3 #[.int .i64 (fk + co)] ∧ Kept2 W wr Bf Lg) := Lib.hid
            ⟨HL1.out.1.same (fun p _ => by rw [upd_far (by rw [HLl.out]; exact hjl) HTs.out htl p]), HL1.out.2⟩
          go_wp2_with fail
          exact ⟨⟨j + 1, by omega, by go_num, HN⟩, by simp [intOf]; omega⟩
      · have hjI : ¬ (j : Int) < (l : Int) := by omega
        have HN : Hid (Vals wr Bf 59 64 (fun p => .int .i64 (upd f ts len (fk + co) p)) ∧ Box wr Lg 3 #[.int .i64 (fk + co)] ∧ Kept2 W wr Bf Lg) := Lib.hid (by
          have h := HL1.out
          rwa [List.take_of_length_le (by rw [HLl.out]; omega)] at h)
        go_wp2_with fail
        refine bodyPost_end (results_none rfl _ _ _) rfl ?_
        rw [hmxE.out]
        exact ⟨rfl, HN.out⟩
  · have HB2 : Hid (Vals (m1.setCell ⟨Lg, 0, none⟩ (.int .i64 lg)) Bf 59 64 (fun p => .int .i64 (f p)) ∧ Box (m1.setCell ⟨Lg, 0, none⟩ (.int .i64 lg)) Lg 3 #[.int .i64 lg] ∧ Kept2 W (m1.setCell ⟨Lg, 0, none⟩ (.int .i64 lg)) Bf Lg) := Lib.hid ⟨(HB.out.later HB1.out).other (by have := HAp.out; show Bf ≠ Lg; omega) _, HLg1.out.set 0 (.int .i64 lg), (Kept2.of HB1.out).setq 0 _⟩
    have hmxE : Hid (max lg (fk + co) = lg) := Lib.hid (by omega)
    go_wp2_with fail
    clear c3 hfz
    go_loopw [26] (fun i wr => ∃ j : Nat, j ≤ l ∧ i = .int .i64 j ∧ Hid (Vals wr Bf 59 64 (fun p => .int .i64 (upd f (ts.take j) len (fk + co) p)) ∧ Box wr Lg 3 #[.int .i64 lg] ∧ Kept2 W wr Bf Lg)) (fun i _ => l - (intOf i).toNat)
    case atStart => exact ⟨0, by omega, rfl, Lib.hid ⟨HB2.out.1.same (fun p _ => by simp [upd]), HB2.out.2⟩⟩
    case round =>
      obtain ⟨j, hj, rfl, HL1⟩ := hrel
      clear HB2
      have hj0 : (0 : Int) ≤ (j : Int) := Int.natCast_nonneg _
      by_cases hjl : j < l
      · have hjI : (j : Int) < (l : Int) := by omega
        have HIr := Lib.hid (ints_keep HI.out HL1.out.2.2 HNe.out)
        obtain ⟨y2, rfl, hy2⟩ := HIr.out.2.2.2.resolve_left (by omega)
        have hc2 := hy2 j hjl
        rw [castL_getD] at hc2
        obtain ⟨t, ht⟩ : ∃ t, ts.getD j 0 = t := ⟨_, rfl⟩
        rw [ht] at hc2
        have HTs := Lib.hid ht
        have c1 : wr.cell? ⟨L, 0, none⟩ = some (.slice (some y) len cap) := (HL.out.kept (HL1.out.2.2.2.2 L HAp.out.1 HAp.out.2.1 HL.out.lt)).cell rfl
        clear hy2 ht
        have ht0 : (0 : Int) ≤ (t : Int) := Int.natCast_nonneg _
        by_cases htl : t < len
        · have htI : (t : Int) < (len : Int) := by omega
          have htJ : (t : Int) < 64 := by omega
          have hct := HL1.out.1.cell (p := t) (by omega)
          have hfz := HL1.out.1.free t
          have hul := upd_le HF.out (C := fk + co) (by omega) (ts.take j) len t
          have HSt : Hid (∀ p, upd f (ts.take (j + 1)) len (fk + co) p = if p = t then max (upd f (ts.take j) len (fk + co) t) (fk + co) else upd f (ts.take j) len (fk + co) p) := Lib.hid (fun p => upd_take (by rw [HLl.out]; exact hjl) HTs.out htl p)
          obtain ⟨ft, hft⟩ : ∃ ft, upd f (ts.take j) len (fk + co) t = ft := ⟨_, rfl⟩
          rw [hft] at HSt hul
          rw [hft] at hct
          have HFt := Lib.hid hft
          clear hft
          obtain ⟨hul0, hul9⟩ := hul
          have HNx : ∀ z : Int, max ft (fk + co) = z → Hid (Vals (wr.setCell ⟨Bf, t, none⟩ (.int .i64 z)) Bf 59 64 (fun p => .int .i64 (upd f (ts.take (j + 1)) len (fk + co) p)) ∧ Box (wr.setCell ⟨Bf, t, none⟩ (.int .i64 z)) Lg 3 #[.int .i64 lg] ∧ Kept2 W (wr.setCell ⟨Bf, t, none⟩ (.int .i64 z)) Bf Lg) := fun z hz => Lib.hid
            ⟨(HL1.out.1.put (t := t) (by omega) (.int .i64 z)).same (fun p _ => by
              rw [HSt.out p]
              by_cases hpt : p = t
              · rw [if_pos hpt, if_pos hpt, hz]
              · rw [if_neg hpt, if_neg hpt]), HL1.out.2.1.other (by have := HAp.out; show Lg ≠ Bf; omega) _, HL1.out.2.2.setp t _⟩
          by_cases hmz : ft < fk + co
          · have HN := HNx (fk + co) (by omega)
            clear HNx
            go_wp2_with fail
            exact ⟨⟨j + 1, by omega, by go_num, HN⟩, by simp [intOf]; omega⟩
          · have HN := HNx ft (by omega)
            clear HNx
            go_wp2_with fail
            exact ⟨⟨j + 1, by omega, by go_num, HN⟩, by simp [intOf]; omega⟩
        · have htI : ¬ (t : Int) < (len : Int) := by omega
          have HN : Hid (Vals wr Bf 59 64 (fun p => .int .i64 (upd f (ts.take (j + 1)) len (fk + co) p)) ∧ Box wr Lg 3 #[.int .i64 lg] ∧ Kept2 W wr Bf Lg) := Lib.hid
            ⟨HL1.out.1.same (fun p _ => by rw [upd_far (by rw [HLl.out]; exact hjl) HTs.out htl p]), HL1.out.2⟩
          go_wp2_with fail
          exact ⟨⟨j + 1, by omega, by go_num, HN⟩, by simp [intOf]; omega⟩
      · have hjI : ¬ (j : Int) < (l : Int) := by omega
        have HN : Hid (Vals wr Bf 59 64 (fun p => .int .i64 (upd f ts len (fk + co) p)) ∧ Box wr Lg 3 #[.int .i64 lg] ∧ Kept2 W wr Bf Lg) := Lib.hid (by
          have h := HL1.out
          rwa [List.take_of_length_le (by rw [HLl.out]; omega)] at h)
        go_wp2_with fail
        refine bodyPost_end (results_none rfl _ _ _) rfl ?_
        rw [hmxE.out]
        exact ⟨rfl, HN.out⟩
end Go.Proofs.YtdgfklmbglfbfaaDoor
