/-
  What the package's clone returns, as a contract over the translated program: the same table in memory of its own.
-/
import Derived.Test.YtilddlgcfbefiaaDoorU6
import Derived.Test.YtilddlgcfbefiaaDoorGrg
import Derived.Test.YtilddlgcfbefiaaDoorTG
namespace Go.Proofs.YtilddlgcfbefiaaDoor
set_option linter.unusedSimpArgs false
set_option linter.unusedVariables false
open Go Go.RowKit

section
variable {W W' W0 : World} {base L n c : Nat} {es : List Ent}
theorem cell_set_far (w : World) (p q : Addr) (u : Value) (h : q.block ≠ p.block) : (w.setCell p u).cell? q = w.cell? q := by
  simp only [World.cell?, Below.heap_setCell w p u q.block h]
theorem own_cell {xs : List Value} {e : TypeId} {size : Nat} (h : W.ownsRow base e size (.slice (some ⟨L, 0, none⟩) n c) n xs) {j : Nat} {u : Value} (hj : j < n * size) (hc : W.cell? ⟨L, j, none⟩ = some u) : xs[j]? = some u := by
  have hl : j < xs.length := by rw [h.1]; exact hj
  have := own_cells h j xs[j] (List.getElem?_eq_getElem hl)
  rw [hc] at this
  rw [List.getElem?_eq_getElem hl, Option.some.inj this]
theorem Row.has (h : Row W base (.slice (some ⟨L, 0, none⟩) n c) es) (hn : es.length = n) {j : Nat} (hj : j < n * 2) : ∃ u, W.cell? ⟨L, j, none⟩ = some u := by
  obtain ⟨xs, o, _⟩ := h
  rw [hn] at o
  have hl : j < xs.length := by rw [o.1]; exact hj
  exact ⟨xs[j], own_cells o j _ (List.getElem?_eq_getElem hl)⟩
theorem Row.free (h : Row W base (.slice (some ⟨L, 0, none⟩) n c) es) (j : Nat) : W.frozen? ⟨L, j, none⟩ = false := by
  obtain ⟨xs, ⟨_, ⟨e, _⟩ | ⟨g', cap', cur, e, _, hh, _⟩⟩, _⟩ := h
  · cases e
  · simp only [Value.slice.injEq, Option.some.injEq, Addr.mk.injEq, and_true, true_and] at e
    obtain ⟨rfl, _⟩ := e
    simp [World.frozen?, hh]
theorem Row.put (h : Row W0 base (.slice (some ⟨L, 0, none⟩) n c) es) (hb : Below W0.heap.size W0 W) (hn : es.length = n) {k : Nat} (hk : k < n) {key : Int} {cv : Value} {ws : List Int} (h1 : W.ownsRow base 25 1 cv ws.length (wordsV ws)) (h2 : okE (key, ws))
    (h3 : ∀ g, cv.ownBlock = some g → W0.heap.size ≤ g) : Row ((W.setCell ⟨L, k * 2, none⟩ (.int .u32 key)).setCell ⟨L, k * 2 + 1, none⟩ cv) base (.slice (some ⟨L, 0, none⟩) n c) (es.set k (key, ws)) := by
  obtain ⟨xs, o, od⟩ := h
  have hL : L < W0.heap.size := (o.lt L rfl).2
  rw [hn] at o
  have o1 := ownsRow_below o hb
  have od1 := od.below hb
  obtain ⟨o2, g2⟩ := o1.stored (k * 2) (.int .u32 key)
  obtain ⟨o3, g3⟩ := o2.stored (k * 2 + 1) cv
  have hf : ∀ g, cv.ownBlock = some g → some g ≠ (Value.slice (some ⟨L, 0, none⟩) n c).ownBlock ∧ ∀ j cv', j < es.length → xs[j * 2 + 1]? = some cv' → cv'.ownBlock ≠ some g := by
    intro g hg
    have := h3 g hg
    refine ⟨fun e => ?_, fun j cv' hj hx e => ?_⟩
    · have : g = L := Option.some.inj e
      omega
    · have := od.lt j cv' g hj hx e
      omega
  have od2 := od1.putNew (k := k) (by omega) h1 h2 hf
  have od3 := (od2.grown g2 (.inl rfl) (.inl rfl)).grown g3 (.inl rfl) (.inl rfl)
  exact ⟨_, by rw [List.length_set, hn]; exact o3, od3⟩
theorem Row.re (h : Row W base (.slice (some ⟨L, 0, none⟩) n c) es) (hn : es.length = n) {k gv l c' : Nat} (hk : k < n) (hc : W.cell? ⟨L, k * 2 + 1, none⟩ = some (.slice (some ⟨gv, 0, none⟩) l c')) (hg : W.grownBy W' (some gv)) {ws : List Int}
    (hw : W'.ownsRow base 25 1 (.slice (some ⟨gv, 0, none⟩) l c') ws.length (wordsV ws)) (hok : wordL ws) : Row W' base (.slice (some ⟨L, 0, none⟩) n c) (es.set k ((es.getD k zeroE).1, ws)) := by
  obtain ⟨xs, o, od⟩ := h
  rw [hn] at o
  have hx := own_cell o (by omega) hc
  obtain ⟨_, cv, e2, _, _, e5⟩ := od.2.1 k (by omega)
  rw [hx] at e2
  obtain rfl := Option.some.inj e2
  have hne := e5 gv rfl
  exact ⟨xs, by rw [List.length_set, hn]; exact o.kept hg (.inr (fun e => hne e.symm)), od.rewords (by omega) hx hg hw hok⟩
end
def fillE (es : List Ent) (k : Nat) : List Ent := es.take k ++ List.replicate (es.length - k) zeroE
theorem fillE_len {es : List Ent} {k : Nat} (h : k ≤ es.length) : (fillE es k).length = es.length := by simp [fillE]; omega
theorem fillE_zero (es : List Ent) : fillE es 0 = List.replicate es.length zeroE := by simp [fillE]
theorem fillE_end {es : List Ent} {k : Nat} (h : es.length ≤ k) : fillE es k = es := by
  have : es.length - k = 0 := by omega
  simp [fillE, this, List.take_of_length_le h]
theorem fillE_step {es : List Ent} {k : Nat} {key : Int} {ws zs : List Int} (hk : k < es.length) (hi : es.getD k zeroE = (key, ws)) : ((fillE es k).set k (key, zs)).set k ((((fillE es k).set k (key, zs)).getD k zeroE).1, ws) = fillE es (k + 1) := by
  have hl := fillE_len (es := es) (k := k) (by omega)
  have h1 : ((fillE es k).set k (key, zs)).getD k zeroE = (key, zs) := by simp [List.getD_eq_getElem?_getD, hl, hk]
  rw [h1, List.set_set]
  have h2 : es.length - k = (es.length - (k + 1)) + 1 := by omega
  have h3 : (es.take k).length = k := by simp; omega
  unfold fillE
  rw [h2, List.replicate_succ, List.set_append_right k _ (by omega), h3, Nat.sub_self, List.set_cons_zero, take_ent es k key ws hk hi, List.append_assoc]
  rfl
/- a table that a call returns, in memory of its own -/
def RowPost (s : Sc) (x : Int) (es : List Ent) (w : World) (e : Ending) (w' : World) : Prop :=
  ∃ g c, e = .returned (tbV s (.slice (some ⟨g, 0, none⟩) es.length c) x) ∧ Below w.heap.size w w' ∧ Row w' w.heap.size (.slice (some ⟨g, 0, none⟩) es.length c) es
set_option maxRecDepth 100000 in
set_option maxHeartbeats 20000000 in
theorem clone_any (s : Sc) (a : Option Addr) (len cap : Nat) (x : Int) (es : List Ent) (w : World) (h : EntsAt w a len cap es) (hf : fewE es) :
    Calls Tryd.prog 135 #[tbV s (.slice a len cap) x] w (RowPost s x es w) := by
  have hm := h.max
  have H1 := Lib.hid h.1
  have h40 : len ≤ 40 := by rw [← h.1]; exact hf.1
  have HF := Lib.hid hf.2
  have HE := Lib.hid h
  rcases s with ⟨s0, s1, s2, s3⟩
  obtain ⟨W0, hW0⟩ : ∃ W0, (w.alloc (.cells #[.int .i64 s0, .int .i64 s1, .int .i64 s2, .int .i64 s3, .slice a len cap, .int .u32 x] 42)).alloc (.cells zeroTA 42) = W0 := ⟨_, rfl⟩
  have hs0 : W0.heap.size = w.heap.size + 1 + 1 := by rw [← hW0]; simp
  have hb0 : Below w.heap.size w W0 := by rw [← hW0]; exact box2 (Below.refl _ _) (Nat.le_refl _) _ _
  have HT : Hid (Box W0 w.heap.size 42 #[.int .i64 s0, .int .i64 s1, .int .i64 s2, .int .i64 s3, .slice a len cap, .int .u32 x]) := by rw [← hW0]; exact Lib.hid ((Box.new w 42 _).alloc _)
  have HR : Hid (Box W0 (w.heap.size + 1) 42 zeroTA) := by
    rw [← hW0]
    have := Box.new (w.alloc (.cells #[.int .i64 s0, .int .i64 s1, .int .i64 s2, .int .i64 s3, .slice a len cap, .int .u32 x] 42)) 42 zeroTA
    rw [show (w.alloc (.cells #[.int .i64 s0, .int .i64 s1, .int .i64 s2, .int .i64 s3, .slice a len cap, .int .u32 x] 42)).heap.size = w.heap.size + 1 by simp] at this
    exact Lib.hid this
  obtain ⟨d0, d1, d2, d3, d4, d5⟩ := Box.tb (s := (s0, s1, s2, s3)) HT.out
  simp only at d0 d1 d2 d3 d4 d5
  clear h hf
  go_enter Tryd.func135, Tryd.ntmps135
  go_wp2_with (refine wpList_makeE W0 rfl _ _ rfl (w.heap.size + 1 + 1) len _ rfl rfl rfl (by omega) (by omega) (w.heap.size + 1 + 1) hs0 ?_)
  intro w1 hRow1 hgrow1 hlt1
  have hB1 : Below W0.heap.size W0 w1 := ⟨hgrow1.os, hgrow1.tape, hgrow1.output, hgrow1.size, fun j hj => hgrow1.block j hj (by simp)⟩
  have HT1 := Lib.hid (HT.out.later hB1)
  have HR1 := Lib.hid (HR.out.later hB1)
  have HB1 := Lib.hid (hb0.trans (hB1.mono hb0.size))
  have HRow1 := Lib.hid hRow1
  clear d0 d1 d2 d3 d4 d5 hW0 HT HR hRow1 hgrow1 hB1 hb0 hs0
  obtain ⟨d0, d1, d2, d3, d4, d5⟩ := Box.tb (s := (s0, s1, s2, s3)) HT1.out
  simp only at d0 d1 d2 d3 d4 d5
  go_wp2
  obtain ⟨L, hL⟩ : ∃ L, w.heap.size + 1 + 1 = L := ⟨_, rfl⟩
  rw [hL] at HRow1 hlt1
  obtain ⟨R, hR⟩ : ∃ R, w.heap.size + 1 = R := ⟨_, rfl⟩
  rw [hR] at HR1
  simp only [hL]
  simp only [hR]
  have hPR : w.heap.size < R := by omega
  have hRL : R < L := by omega
  have HRL : Hid (L = R + 1) := Lib.hid (by omega)
  clear hL hR d0 d1 d2 d3 d4 d5
  go_loopw [13] (fun i wr => ∃ (k : Nat), k ≤ len ∧ i = .int .i64 k ∧ Hid (Row wr L (.slice (some ⟨L, 0, none⟩) len len) (fillE es k)) ∧ Hid (Box wr w.heap.size 42 #[.int .i64 s0, .int .i64 s1, .int .i64 s2, .int .i64 s3, .slice a len cap, .int .u32 x]) ∧ Hid (Box wr R 42 zeroTA) ∧ Hid (Below w.heap.size w wr)) (fun i _ => len - (intOf i).toNat)
  case atStart => exact ⟨0, by omega, rfl, Lib.hid (by rw [fillE_zero, H1.out]; exact HRow1.out), HT1, HR1, HB1⟩
  case round =>
    obtain ⟨k, hk, rfl, HRow, HT, HR, HB⟩ := hrel
    clear HRow1 HT1 HR1 HB1 hlt1
    obtain ⟨B, hB⟩ : ∃ B, L = B := ⟨_, rfl⟩
    have hBL : B = L := hB.symm
    clear hB
    have hltL : L < wr.heap.size := (HRow.out.lt L rfl).2
    by_cases hkl : k < len
    · have hkI : (k : Int) < (len : Int) := by omega
      have hk0 : (0 : Int) ≤ (k : Int) := Int.natCast_nonneg _
      obtain ⟨y, rfl, hy⟩ := HE.out.2.2.2.resolve_left (by omega)
      have hI := hy k hkl
      have hl40 := HF.out _ (getD_mem es k zeroE (by rw [H1.out]; exact hkl))
      rcases hi : es.getD k zeroE with ⟨key, ws⟩
      rw [hi] at hI hl40
      have HIk := Lib.hid hi
      obtain ⟨iw0, hkey, b, l, cc, iw1, hWs⟩ := hI
      simp only at iw0 iw1 hWs hl40 hkey
      replace iw0 := (HB.out.cell (lt_of_cell iw0)).trans iw0
      replace iw1 := (HB.out.cell (lt_of_cell iw1)).trans iw1
      have HKey := Lib.hid hkey
      have HWok := Lib.hid hWs.2.2.2.1
      have HL := Lib.hid hWs.1
      have hl : l ≤ 40 := by rw [← hWs.1]; exact hl40
      obtain ⟨E, hE⟩ : ∃ E, wr.heap.size = E := ⟨_, rfl⟩
      obtain ⟨WE, hWE⟩ : ∃ WE, wr.alloc (.cells #[.int .u32 key, .slice b l cc] 66) = WE := ⟨_, rfl⟩
      have hBE : Below wr.heap.size wr WE := by rw [← hWE]; exact (Below.refl _ _).alloc (Nat.le_refl _) _
      have hBox : Box WE E 66 #[.int .u32 key, .slice b l cc] := by rw [← hWE, ← hE]; exact Box.new wr 66 _
      have e0 : WE.cell? ⟨E, 0, none⟩ = some (.int .u32 key) := hBox.cell rfl
      have e1 : WE.cell? ⟨E, 1, none⟩ = some (.slice b l cc) := hBox.cell rfl
      obtain ⟨H, hH⟩ : ∃ H, E + 1 = H := ⟨_, rfl⟩
      have hHd : WE.drew.heap.size = H := by rw [← hWE, ← hH, ← hE]; simp
      have hHd' : WE.heap.size = H := hHd
      have HRowE := Lib.hid ((HRow.out.below hBE).low (base' := B) (by omega))
      have HLen : Hid ((fillE es k).length = len) := Lib.hid (by rw [fillE_len (by rw [H1.out]; omega)]; exact H1.out)
      obtain ⟨u0, l0⟩ := HRowE.out.has HLen.out (j := k * 2) (by omega)
      obtain ⟨u1, l1⟩ := HRowE.out.has HLen.out (j := k * 2 + 1) (by omega)
      have HZ : Hid (∀ w', Below WE.heap.size WE w' → ∀ j, w'.frozen? ⟨L, j, none⟩ = false) := Lib.hid (fun w' hb j => (HRowE.out.below hb).free j)
      have HWs := Lib.hid hWs
      clear hi hWs hy hl40 hkey hBox
      rw [hE] at hltL
      go_wp2_with fail
      refine wp_region_held_drew (S := (fun w' => w'.cell? ⟨E, 0, none⟩ = some (.int .u32 key) ∧ w'.cell? ⟨E, 1, none⟩ = some (.slice b l cc))) (by kernel_rfl) (⟨e0, e1⟩) (fun hHeld => ?_)
      refine wpAnyH_yield (i := 0) (v := ?v0) rfl rfl (by kernel_rfl) (by kernel_rfl) (by kernel_rfl) (fun _ _ _ h => h) (by rfl) ?hy0 hHeld ?rest0
      case hy0 =>
        intro w hSw
        (try dsimp only at hSw)
        go_simp
        try with_reducible rfl
      simp only [Act.put, List.setIfInBounds_toArray, List.set_cons_zero, List.set_cons_succ]
      refine wpAnyH_yield (i := 1) (v := ?v1) rfl rfl (by kernel_rfl) (by kernel_rfl) (by kernel_rfl) (fun _ _ _ h => h) (by rfl) ?hy1 hHeld ?rest1
      case hy1 =>
        intro w hSw
        (try dsimp only at hSw)
        go_simp
        try with_reducible rfl
      simp only [Act.put, List.setIfInBounds_toArray, List.set_cons_zero, List.set_cons_succ]
      refine wpAnyH_yield (i := 2) (v := ?v2) rfl rfl (by kernel_rfl) (by kernel_rfl) (by kernel_rfl) (fun _ _ _ h => h) (by rfl) ?hy2 hHeld ?rest2
      case hy2 =>
        intro w hSw
        (try dsimp only at hSw)
        go_simp
        try with_reducible rfl
      simp only [Act.put, List.setIfInBounds_toArray, List.set_cons_zero, List.set_cons_succ]
      refine wpAnyH_yield (i := 3) (v := ?v3) rfl rfl (by kernel_rfl) (by kernel_rfl) (by kernel_rfl) (fun _ _ _ h => h) (by rfl) ?hy3 hHeld ?rest3
      case hy3 =>
        intro w hSw
        (try dsimp only at hSw)
        go_simp
        try with_reducible rfl
      simp only [Act.put, List.setIfInBounds_toArray, List.set_cons_zero, List.set_cons_succ]
      refine wpAnyH_yield (i := 4) (v := ?v4) rfl rfl (by kernel_rfl) (by kernel_rfl) (by kernel_rfl) (fun _ _ _ h => h) (by rfl) ?hy4 hHeld ?rest4
      case hy4 =>
        intro w hSw
        (try dsimp only at hSw)
        go_simp
        try with_reducible rfl
      simp only [Act.put, List.setIfInBounds_toArray, List.set_cons_zero, List.set_cons_succ]
      refine wpAnyH_yield (i := 5) (v := ?v5) rfl rfl (by kernel_rfl) (by kernel_rfl) (by kernel_rfl) (fun _ _ _ h => h) (by rfl) ?hy5 hHeld ?rest5
      case hy5 =>
        intro w hSw
        (try dsimp only at hSw)
        go_simp
        try with_reducible rfl
      simp only [Act.put, List.setIfInBounds_toArray, List.set_cons_zero, List.set_cons_succ]
      refine wpAnyH_yield (i := 6) (v := ?v6) rfl rfl (by kernel_rfl) (by kernel_rfl) (by kernel_rfl) (fun _ _ _ h => h) (by rfl) ?hy6 hHeld ?rest6
      case hy6 =>
        intro w hSw
        (try dsimp only at hSw)
        go_simp
        try with_reducible rfl
      simp only [Act.put, List.setIfInBounds_toArray, List.set_cons_zero, List.set_cons_succ]
      refine wpAnyH_ready (rs := [7]) (by kernel_rfl) (by simp) ?_
      refine AllReadyH.cons rfl (fun K hK => ?_) AllReadyH.nil
      refine step_makeW WE.drew (by rfl) _ _ (by rfl) (by rfl) B l (l : Int) (by rfl) (by rfl) rfl (by omega) (by simp; omega) H hHd ?_
      intro w4 hown4 hgrow4
      have hB4 : Below WE.heap.size WE w4 := ⟨hgrow4.os, hgrow4.tape, hgrow4.output, hgrow4.size, fun j hj => hgrow4.block j hj (by simp)⟩
      have f0 : w4.cell? ⟨E, 0, none⟩ = some (.int .u32 key) := (hB4.cell (lt_of_cell e0)).trans e0
      have f1 : w4.cell? ⟨E, 1, none⟩ = some (.slice b l cc) := (hB4.cell (lt_of_cell e1)).trans e1
      have g0 : w4.cell? ⟨L, k * 2, none⟩ = some u0 := (hB4.cell (lt_of_cell l0)).trans l0
      have g1 : w4.cell? ⟨L, k * 2 + 1, none⟩ = some u1 := (hB4.cell (lt_of_cell l1)).trans l1
      have z0 : w4.frozen? ⟨L, k * 2, none⟩ = false := HZ.out w4 hB4 _
      have z1 : w4.frozen? ⟨L, k * 2 + 1, none⟩ = false := HZ.out w4 hB4 _
      have HPut := Lib.hid (HRowE.out.put hB4 HLen.out hkl (by rw [List.length_replicate]; exact hown4) ⟨HKey.out, wordL_zeros l⟩ (fun g hg => by have : H = g := Option.some.inj hg; omega))
      have n0 : E ≠ L := by omega
      have n1 : L ≠ E := by omega
      refine hK.out _ _ (⟨f0, f1⟩) (fun hHeld => ?_)
      clear hK K
      try simp only [Act.put, List.setIfInBounds_toArray, List.set_cons_zero, List.set_cons_succ]
      refine wpAnyH_yield (i := 8) (v := ?v8) rfl rfl (by kernel_rfl) (by kernel_rfl) (by kernel_rfl) (fun _ _ _ h => h) (by rfl) ?hy8 hHeld ?rest8
      case hy8 =>
        intro w hSw
        (try dsimp only at hSw)
        go_simp
        try with_reducible rfl
      simp only [Act.put, List.setIfInBounds_toArray, List.set_cons_zero, List.set_cons_succ]
      refine wpAnyH_yield (i := 9) (v := ?v9) rfl rfl (by kernel_rfl) (by kernel_rfl) (by kernel_rfl) (fun _ _ _ h => h) (by rfl) ?hy9 hHeld ?rest9
      case hy9 =>
        intro w hSw
        (try dsimp only at hSw)
        go_simp
        try with_reducible rfl
      simp only [Act.put, List.setIfInBounds_toArray, List.set_cons_zero, List.set_cons_succ]
      refine wpAnyH_ready (rs := [10]) (by kernel_rfl) (by simp) ?_
      refine AllReadyH.cons rfl (fun K hK => ?_) AllReadyH.nil
      go_simp
      have k0 : ((w4.setCell ⟨L, k * 2, none⟩ (.int .u32 key)).setCell ⟨L, k * 2 + 1, none⟩ (.slice (some ⟨H, 0, none⟩) l l)).cell? ⟨E, 0, none⟩ = some (.int .u32 key) := by rw [cell_set_far _ _ _ _ (by exact n0), cell_set_far _ _ _ _ (by exact n0)]; exact f0
      have k1 : ((w4.setCell ⟨L, k * 2, none⟩ (.int .u32 key)).setCell ⟨L, k * 2 + 1, none⟩ (.slice (some ⟨H, 0, none⟩) l l)).cell? ⟨E, 1, none⟩ = some (.slice b l cc) := by rw [cell_set_far _ _ _ _ (by exact n0), cell_set_far _ _ _ _ (by exact n0)]; exact f1
      refine hK.out _ _ (⟨k0, k1⟩) (fun hHeld => ?_)
      clear hK K
      try simp only [Act.put, List.setIfInBounds_toArray, List.set_cons_zero, List.set_cons_succ]
      refine wpAnyH_done (by kernel_rfl) ?_ _
      have hq1 := grownBy_setCell w4 ⟨L, k * 2, none⟩ (.int .u32 key)
      have hq2 := grownBy_setCell (w4.setCell ⟨L, k * 2, none⟩ (.int .u32 key)) ⟨L, k * 2 + 1, none⟩ (.slice (some ⟨H, 0, none⟩) l l)
      have hq := grownBy_trans hq1 hq2
      have HOwn5 := Lib.hid (hown4.kept hq (.inr (fun e => by have : H = L := Option.some.inj e; omega)))
      have hb4 : Below w.heap.size w w4 := HB.out.trans ((hBE.trans (hB4.mono (by omega))).mono HB.out.size)
      have HB5 := Lib.hid ((hb4.setCell (p := ⟨L, k * 2, none⟩) (by show w.heap.size ≤ L; omega) (.int .u32 key)).setCell (p := ⟨L, k * 2 + 1, none⟩) (by show w.heap.size ≤ L; omega) (.slice (some ⟨H, 0, none⟩) l l))
      have HT5 := Lib.hid ((((HT.out.later hBE).later hB4).other (p := ⟨L, k * 2, none⟩) (by show w.heap.size ≠ L; omega) (.int .u32 key)).other (p := ⟨L, k * 2 + 1, none⟩) (by show w.heap.size ≠ L; omega) (.slice (some ⟨H, 0, none⟩) l l))
      have HR5 := Lib.hid ((((HR.out.later hBE).later hB4).other (p := ⟨L, k * 2, none⟩) (by show R ≠ L; omega) (.int .u32 key)).other (p := ⟨L, k * 2 + 1, none⟩) (by show R ≠ L; omega) (.slice (some ⟨H, 0, none⟩) l l))
      have k2 : ((w4.setCell ⟨L, k * 2, none⟩ (.int .u32 key)).setCell ⟨L, k * 2 + 1, none⟩ (.slice (some ⟨H, 0, none⟩) l l)).cell? ⟨L, k * 2 + 1, none⟩ = some (.slice (some ⟨H, 0, none⟩) l l) := by
        obtain ⟨xs, o, _⟩ := HRowE.out.below hB4
        rw [HLen.out] at o
        have o2 := ((o.stored (k * 2) (.int .u32 key)).1.stored (k * 2 + 1) (.slice (some ⟨H, 0, none⟩) l l)).1
        exact own_cells o2 _ _ (by rw [List.getElem?_set_self (by rw [List.length_set, o.1]; omega)])
      clear hHeld hq hq1 hq2 hb4 hown4 hgrow4 f0 f1 g0 g1 z0 z1 HRowE l0 l1 e0 e1 HZ hB4
      generalize hW5 : (w4.setCell ⟨L, k * 2, none⟩ (.int .u32 key)).setCell ⟨L, k * 2 + 1, none⟩ (.slice (some ⟨H, 0, none⟩) l l) = W5 at *
      clear hW5
      go_wp2_with fail
      refine wp_region_held_drew (S := (fun w' => w'.cell? ⟨L, k * 2 + 1, none⟩ = some (.slice (some ⟨H, 0, none⟩) l l) ∧ w'.cell? ⟨E, 1, none⟩ = some (.slice b l cc))) (by kernel_rfl) (⟨k2, k1⟩) (fun hHeld => ?_)
      refine wpAnyH_yield (i := 0) (v := ?vc0) rfl rfl (by kernel_rfl) (by kernel_rfl) (by kernel_rfl) (fun _ _ _ h => h) (by rfl) ?hyc0 hHeld ?restc0
      case hyc0 =>
        intro w hSw
        (try dsimp only at hSw)
        go_simp
        try with_reducible rfl
      simp only [Act.put, List.setIfInBounds_toArray, List.set_cons_zero, List.set_cons_succ]
      refine wpAnyH_yield (i := 1) (v := ?vc1) rfl rfl (by kernel_rfl) (by kernel_rfl) (by kernel_rfl) (fun _ _ _ h => h) (by rfl) ?hyc1 hHeld ?restc1
      case hyc1 =>
        intro w hSw
        (try dsimp only at hSw)
        go_simp
        try with_reducible rfl
      simp only [Act.put, List.setIfInBounds_toArray, List.set_cons_zero, List.set_cons_succ]
      refine wpAnyH_yield (i := 2) (v := ?vc2) rfl rfl (by kernel_rfl) (by kernel_rfl) (by kernel_rfl) (fun _ _ _ h => h) (by rfl) ?hyc2 hHeld ?restc2
      case hyc2 =>
        intro w hSw
        (try dsimp only at hSw)
        go_simp
        try with_reducible rfl
      simp only [Act.put, List.setIfInBounds_toArray, List.set_cons_zero, List.set_cons_succ]
      refine wpAnyH_yield (i := 3) (v := ?vc3) rfl rfl (by kernel_rfl) (by kernel_rfl) (by kernel_rfl) (fun _ _ _ h => h) (by rfl) ?hyc3 hHeld ?restc3
      case hyc3 =>
        intro w hSw
        (try dsimp only at hSw)
        go_simp
        try with_reducible rfl
      simp only [Act.put, List.setIfInBounds_toArray, List.set_cons_zero, List.set_cons_succ]
      refine wpAnyH_yield (i := 4) (v := ?vc4) rfl rfl (by kernel_rfl) (by kernel_rfl) (by kernel_rfl) (fun _ _ _ h => h) (by rfl) ?hyc4 hHeld ?restc4
      case hyc4 =>
        intro w hSw
        (try dsimp only at hSw)
        go_simp
        try with_reducible rfl
      simp only [Act.put, List.setIfInBounds_toArray, List.set_cons_zero, List.set_cons_succ]
      refine wpAnyH_yield (i := 5) (v := ?vc5) rfl rfl (by kernel_rfl) (by kernel_rfl) (by kernel_rfl) (fun _ _ _ h => h) (by rfl) ?hyc5 hHeld ?restc5
      case hyc5 =>
        intro w hSw
        (try dsimp only at hSw)
        go_simp
        try with_reducible rfl
      simp only [Act.put, List.setIfInBounds_toArray, List.set_cons_zero, List.set_cons_succ]
      refine wpAnyH_yield (i := 6) (v := ?vc6) rfl rfl (by kernel_rfl) (by kernel_rfl) (by kernel_rfl) (fun _ _ _ h => h) (by rfl) ?hyc6 hHeld ?restc6
      case hyc6 =>
        intro w hSw
        (try dsimp only at hSw)
        go_simp
        try with_reducible rfl
      simp only [Act.put, List.setIfInBounds_toArray, List.set_cons_zero, List.set_cons_succ]
      refine wpAnyH_ready (rs := [7]) (by kernel_rfl) (by simp) ?_
      refine AllReadyH.cons rfl (fun K hK => ?_) AllReadyH.nil
      refine step_copyR W5.drew (by rfl) _ _ (by rfl) (by rfl) B H l l (wordsV (List.replicate l 0)) (by rfl) HOwn5.out.drew b cc ws (by rfl) (HWs.out.below (HB5.out.drew)) ?_
      intro w6 hown6 hgrow6
      have HRow6 := Lib.hid (((HPut.out.below (W' := W5.drew) ((Below.refl _ _).drew)).re (by rw [List.length_set]; exact HLen.out) hkl k2 hgrow6 hown6 HWok.out).low (base' := L) (by omega))
      rw [fillE_step (by rw [H1.out]; exact hkl) HIk.out] at HRow6
      have HT6 := Lib.hid (Box.grown (w := W5.drew) HT5.out hgrow6 (fun e => by have : w.heap.size = H := Option.some.inj e; omega))
      have HR6 := Lib.hid (Box.grown (w := W5.drew) HR5.out hgrow6 (fun e => by have : R = H := Option.some.inj e; omega))
      have HB6 := Lib.hid (HB5.out.drew.grown hgrow6 HB5.out.size (fun g hg => by have : H = g := Option.some.inj hg; omega))
      have c2 : w6.cell? ⟨L, k * 2 + 1, none⟩ = some (.slice (some ⟨H, 0, none⟩) l l) := (hgrow6.cell_far ⟨L, k * 2 + 1, none⟩ (lt_of_cell k2) (fun e => by have : L = H := Option.some.inj e; omega)).trans k2
      have c1 : w6.cell? ⟨E, 1, none⟩ = some (.slice b l cc) := (hgrow6.cell_far ⟨E, 1, none⟩ (lt_of_cell k1) (fun e => by have : E = H := Option.some.inj e; omega)).trans k1
      refine hK.out _ _ (⟨c2, c1⟩) (fun hHeld => ?_)
      clear hK K
      try simp only [Act.put, List.setIfInBounds_toArray, List.set_cons_zero, List.set_cons_succ]
      refine wpAnyH_done (by kernel_rfl) ?_ _
      clear hHeld hown6 hgrow6 c1 c2 k0 k1 k2 HRow HT HR HB HB5 HT5 HR5 HOwn5
      go_wp2
      exact ⟨⟨k + 1, by omega, by go_num, HRow6, HT6, HR6, HB6⟩, by simp [intOf]; omega⟩
    · have hkI : ¬ (k : Int) < (len : Int) := by omega
      have hkn : k = len := by omega
      subst hkn
      rw [fillE_end (by rw [H1.out]; omega)] at HRow
      obtain ⟨d0, d1, d2, d3, d4, d5⟩ := Box.tb (s := (s0, s1, s2, s3)) HT.out
      simp only at d0 d1 d2 d3 d4 d5
      have z4 : wr.frozen? ⟨w.heap.size, 4, none⟩ = false := HT.out.free 4
      have HT2 := Lib.hid (HT.out.set 4 (.slice (some ⟨L, 0, none⟩) k k))
      have HR2 := Lib.hid (HR.out.other (p := ⟨w.heap.size, 4, none⟩) (by show R ≠ w.heap.size; omega) (.slice (some ⟨L, 0, none⟩) k k))
      have HB2 := Lib.hid (HB.out.setCell (p := ⟨w.heap.size, 4, none⟩) (by show w.heap.size ≤ w.heap.size; omega) (.slice (some ⟨L, 0, none⟩) k k))
      have HRow2 := Lib.hid (HRow.out.far (grownBy_setCell wr ⟨w.heap.size, 4, none⟩ (.slice (some ⟨L, 0, none⟩) k k)) (by show w.heap.size < L; omega))
      obtain ⟨W2, hW2⟩ : ∃ W2, wr.setCell ⟨w.heap.size, 4, none⟩ (.slice (some ⟨L, 0, none⟩) k k) = W2 := ⟨_, rfl⟩
      rw [hW2] at HT2 HR2 HB2 HRow2
      obtain ⟨k0, k1, k2, k3, k4, k5⟩ := Box.tb (s := (s0, s1, s2, s3)) HT2.out
      simp only at k0 k1 k2 k3 k4 k5
      go_wp2_with (refine wpList_store_row rfl 42 _ _ rfl R _ rfl rfl 42 _ HR2.out (by kernel_rfl) rfl (by simp [Value.oneCell']) ?_)
      refine bodyPost_ret (v := tbV (s0, s1, s2, s3) (.slice (some ⟨L, 0, none⟩) k k) x) ?_ rfl ?_
      · exact results_cell_row Tryd.results135 _ _ R 42 _ (0, 0) _ rfl (setRow_heap _ _ _ _ _ _ HR2.out) Tryd.underlying42 rfl (by kernel_rfl)
      · have hlk : es.length = k := H1.out
        refine ⟨L, k, by rw [hlk], below_setRow HB2.out (by omega) _, ?_⟩
        rw [hlk]
        exact (HRow2.out.far (grownBy_setRow _ _ _) (by omega)).low (by omega)
end Go.Proofs.YtilddlgcfbefiaaDoor
