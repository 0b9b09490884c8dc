/-
  Texts that the laws of this layer stand on, one behind the other.
-/
import Derived.Test.YtilddlgcfbefiaaDoorU7
import Derived.Test.YtilddlgcfbefiaaDoorGa
import Derived.Test.YtilddlgcfbefiaaDoorTF
import Derived.Test.YtilddlgcfbefiaaDoorGva
import Derived.Test.YtilddlgcfbefiaaDoorGua
import Derived.Test.YtilddlgcfbefiaaDoorV6
import Derived.Test.YtilddlgcfbefiaaDoorTV
import Derived.Maps.Own
import Derived.Test.YtilddlgcfbefiaaDoorGrg
import Derived.BigRegion
import Derived.Test.YtilddlgcfbefiaaDoorV7
import Derived.Test.YtilddlgcfbefiaaDoorV5
/-
  What cloneEntries of package helper returns, as a contract over the translated program: the same entries in memory of their own.
-/
namespace Go.Proofs.YtilddlgcfbefiaaDoor
set_option linter.unusedSimpArgs false
set_option linter.unusedVariables false
open Go Go.RowKit
/- entries that a call returns, in memory of their own -/
def RowsPost (es : List Ent) (w : World) (e : Ending) (w' : World) : Prop :=
  ∃ g c, e = .returned (.slice (some ⟨g, 0, none⟩) es.length c) ∧ Below w.heap.size w w' ∧ Row w' w.heap.size (.slice (some ⟨g, 0, none⟩) es.length c) es
set_option maxRecDepth 100000 in
set_option maxHeartbeats 20000000 in
theorem cloneE_any (a : Option Addr) (len cap : Nat) (es : List Ent) (w : World) (h : EntsAt w a len cap es) (hf : fewE es) :
    Calls Tryd.prog 118 #[.slice a len cap] w (RowsPost es w) := by
  have hm := h.max
  have H1 := Lib.hid h.1
  have h40 : len ≤ 40 := by rw [← h.1]; exact hf.1
  have HF := Lib.hid hf.2
  have HE := Lib.hid h
  clear h hf
  go_enter Tryd.func118, Tryd.ntmps118
  go_wp2_with (refine wpList_makeE w rfl _ _ rfl w.heap.size len _ rfl rfl rfl (by omega) (by omega) w.heap.size rfl ?_)
  intro w1 hRow1 hgrow1 hlt1
  have hB1 : Below w.heap.size w w1 := ⟨hgrow1.os, hgrow1.tape, hgrow1.output, hgrow1.size, fun j hj => hgrow1.block j hj (by simp)⟩
  have HB1 := Lib.hid hB1
  have HRow1 := Lib.hid hRow1
  clear hRow1 hgrow1 hB1
  go_wp2
  obtain ⟨L, hL⟩ : ∃ L, w.heap.size = L := ⟨_, rfl⟩
  rw [hL] at HRow1 hlt1
  simp only [hL]
  have HWL := Lib.hid hL
  have hPL : w.heap.size ≤ L := by omega
  clear hL
  go_loopw [11] (fun i wr => ∃ (k : Nat), k ≤ len ∧ i = .int .i64 k ∧ Hid (Row wr L (.slice (some ⟨L, 0, none⟩) len len) (fillE es k)) ∧ Hid (Below w.heap.size w wr)) (fun i _ => len - (intOf i).toNat)
  case atStart => exact ⟨0, by omega, rfl, Lib.hid (by rw [fillE_zero, H1.out]; exact HRow1.out), HB1⟩
  case round =>
    obtain ⟨k, hk, rfl, HRow, HB⟩ := hrel
    clear HRow1 HB1 hlt1
    obtain ⟨B, hB⟩ : ∃ B, L = B := ⟨_, rfl⟩
    have hBL : B = L := hB.symm
    clear hB
    have hltL : L < wr.heap.size := (HRow.out.lt L rfl).2
    by_cases hkl : k < len
    · have hkI : (k : Int) < (len : Int) := by omega
      have hk0 : (0 : Int) ≤ (k : Int) := Int.natCast_nonneg _
      obtain ⟨y, rfl, hy⟩ := HE.out.2.2.2.resolve_left (by omega)
      have hI := hy k hkl
      have hl40 := HF.out _ (getD_mem es k zeroE (by rw [H1.out]; exact hkl))
      rcases hi : es.getD k zeroE with ⟨key, ws⟩
      rw [hi] at hI hl40
      have HIk := Lib.hid hi
      obtain ⟨iw0, hkey, b, l, cc, iw1, hWs⟩ := hI
      simp only at iw0 iw1 hWs hl40 hkey
      replace iw0 := (HB.out.cell (lt_of_cell iw0)).trans iw0
      replace iw1 := (HB.out.cell (lt_of_cell iw1)).trans iw1
      have HKey := Lib.hid hkey
      have HWok := Lib.hid hWs.2.2.2.1
      have HL := Lib.hid hWs.1
      have hl : l ≤ 40 := by rw [← hWs.1]; exact hl40
      obtain ⟨E, hE⟩ : ∃ E, wr.heap.size = E := ⟨_, rfl⟩
      obtain ⟨WE, hWE⟩ : ∃ WE, wr.alloc (.cells #[.int .u32 key, .slice b l cc] 66) = WE := ⟨_, rfl⟩
      have hBE : Below wr.heap.size wr WE := by rw [← hWE]; exact (Below.refl _ _).alloc (Nat.le_refl _) _
      have hBox : Box WE E 66 #[.int .u32 key, .slice b l cc] := by rw [← hWE, ← hE]; exact Box.new wr 66 _
      have e0 : WE.cell? ⟨E, 0, none⟩ = some (.int .u32 key) := hBox.cell rfl
      have e1 : WE.cell? ⟨E, 1, none⟩ = some (.slice b l cc) := hBox.cell rfl
      obtain ⟨H, hH⟩ : ∃ H, E + 1 = H := ⟨_, rfl⟩
      have hHd : WE.drew.heap.size = H := by rw [← hWE, ← hH, ← hE]; simp
      have hHd' : WE.heap.size = H := hHd
      have HRowE := Lib.hid ((HRow.out.below hBE).low (base' := B) (by omega))
      have HLen : Hid ((fillE es k).length = len) := Lib.hid (by rw [fillE_len (by rw [H1.out]; omega)]; exact H1.out)
      obtain ⟨u0, l0⟩ := HRowE.out.has HLen.out (j := k * 2) (by omega)
      obtain ⟨u1, l1⟩ := HRowE.out.has HLen.out (j := k * 2 + 1) (by omega)
      have HZ : Hid (∀ w', Below WE.heap.size WE w' → ∀ j, w'.frozen? ⟨L, j, none⟩ = false) := Lib.hid (fun w' hb j => (HRowE.out.below hb).free j)
      have HWs := Lib.hid hWs
      clear hi hWs hy hl40 hkey hBox
      rw [hE] at hltL
      go_wp2_with fail
      refine wp_region_held_drew (S := (fun w' => w'.cell? ⟨E, 0, none⟩ = some (.int .u32 key) ∧ w'.cell? ⟨E, 1, none⟩ = some (.slice b l cc))) (by kernel_rfl) (⟨e0, e1⟩) (fun hHeld => ?_)
      refine wpAnyH_yield (i := 0) (v := ?v0) rfl rfl (by kernel_rfl) (by kernel_rfl) (by kernel_rfl) (fun _ _ _ h => h) (by rfl) ?hy0 hHeld ?rest0
      case hy0 =>
        intro w hSw
        (try dsimp only at hSw)
        go_simp
        try with_reducible rfl
      simp only [Act.put, List.setIfInBounds_toArray, List.set_cons_zero, List.set_cons_succ]
      refine wpAnyH_yield (i := 1) (v := ?v1) rfl rfl (by kernel_rfl) (by kernel_rfl) (by kernel_rfl) (fun _ _ _ h => h) (by rfl) ?hy1 hHeld ?rest1
      case hy1 =>
        intro w hSw
        (try dsimp only at hSw)
        go_simp
        try with_reducible rfl
      simp only [Act.put, List.setIfInBounds_toArray, List.set_cons_zero, List.set_cons_succ]
      refine wpAnyH_yield (i := 2) (v := ?v2) rfl rfl (by kernel_rfl) (by kernel_rfl) (by kernel_rfl) (fun _ _ _ h => h) (by rfl) ?hy2 hHeld ?rest2
      case hy2 =>
        intro w hSw
        (try dsimp only at hSw)
        go_simp
        try with_reducible rfl
      simp only [Act.put, List.setIfInBounds_toArray, List.set_cons_zero, List.set_cons_succ]
      refine wpAnyH_yield (i := 3) (v := ?v3) rfl rfl (by kernel_rfl) (by kernel_rfl) (by kernel_rfl) (fun _ _ _ h => h) (by rfl) ?hy3 hHeld ?rest3
      case hy3 =>
        intro w hSw
        (try dsimp only at hSw)
        go_simp
        try with_reducible rfl
      simp only [Act.put, List.setIfInBounds_toArray, List.set_cons_zero, List.set_cons_succ]
      refine wpAnyH_yield (i := 4) (v := ?v4) rfl rfl (by kernel_rfl) (by kernel_rfl) (by kernel_rfl) (fun _ _ _ h => h) (by rfl) ?hy4 hHeld ?rest4
      case hy4 =>
        intro w hSw
        (try dsimp only at hSw)
        go_simp
        try with_reducible rfl
      simp only [Act.put, List.setIfInBounds_toArray, List.set_cons_zero, List.set_cons_succ]
      refine wpAnyH_yield (i := 5) (v := ?v5) rfl rfl (by kernel_rfl) (by kernel_rfl) (by kernel_rfl) (fun _ _ _ h => h) (by rfl) ?hy5 hHeld ?rest5
      case hy5 =>
        intro w hSw
        (try dsimp only at hSw)
        go_simp
        try with_reducible rfl
      simp only [Act.put, List.setIfInBounds_toArray, List.set_cons_zero, List.set_cons_succ]
      refine wpAnyH_yield (i := 6) (v := ?v6) rfl rfl (by kernel_rfl) (by kernel_rfl) (by kernel_rfl) (fun _ _ _ h => h) (by rfl) ?hy6 hHeld ?rest6
      case hy6 =>
        intro w hSw
        (try dsimp only at hSw)
        go_simp
        try with_reducible rfl
      simp only [Act.put, List.setIfInBounds_toArray, List.set_cons_zero, List.set_cons_succ]
      refine wpAnyH_ready (rs := [7]) (by kernel_rfl) (by simp) ?_
      refine AllReadyH.cons rfl (fun K hK => ?_) AllReadyH.nil
      refine step_makeW WE.drew (by rfl) _ _ (by rfl) (by rfl) B l (l : Int) (by rfl) (by rfl) rfl (by omega) (by simp; omega) H hHd ?_
      intro w4 hown4 hgrow4
      have hB4 : Below WE.heap.size WE w4 := ⟨hgrow4.os, hgrow4.tape, hgrow4.output, hgrow4.size, fun j hj => hgrow4.block j hj (by simp)⟩
      have f0 : w4.cell? ⟨E, 0, none⟩ = some (.int .u32 key) := (hB4.cell (lt_of_cell e0)).trans e0
      have f1 : w4.cell? ⟨E, 1, none⟩ = some (.slice b l cc) := (hB4.cell (lt_of_cell e1)).trans e1
      have g0 : w4.cell? ⟨L, k * 2, none⟩ = some u0 := (hB4.cell (lt_of_cell l0)).trans l0
      have g1 : w4.cell? ⟨L, k * 2 + 1, none⟩ = some u1 := (hB4.cell (lt_of_cell l1)).trans l1
      have z0 : w4.frozen? ⟨L, k * 2, none⟩ = false := HZ.out w4 hB4 _
      have z1 : w4.frozen? ⟨L, k * 2 + 1, none⟩ = false := HZ.out w4 hB4 _
      have HPut := Lib.hid (HRowE.out.put hB4 HLen.out hkl (by rw [List.length_replicate]; exact hown4) ⟨HKey.out, wordL_zeros l⟩ (fun g hg => by have : H = g := Option.some.inj hg; omega))
      have n0 : E ≠ L := by omega
      have n1 : L ≠ E := by omega
      refine hK.out _ _ (⟨f0, f1⟩) (fun hHeld => ?_)
      clear hK K
      try simp only [Act.put, List.setIfInBounds_toArray, List.set_cons_zero, List.set_cons_succ]
      refine wpAnyH_yield (i := 8) (v := ?v8) rfl rfl (by kernel_rfl) (by kernel_rfl) (by kernel_rfl) (fun _ _ _ h => h) (by rfl) ?hy8 hHeld ?rest8
      case hy8 =>
        intro w hSw
        (try dsimp only at hSw)
        go_simp
        try with_reducible rfl
      simp only [Act.put, List.setIfInBounds_toArray, List.set_cons_zero, List.set_cons_succ]
      refine wpAnyH_yield (i := 9) (v := ?v9) rfl rfl (by kernel_rfl) (by kernel_rfl) (by kernel_rfl) (fun _ _ _ h => h) (by rfl) ?hy9 hHeld ?rest9
      case hy9 =>
        intro w hSw
        (try dsimp only at hSw)
        go_simp
        try with_reducible rfl
      simp only [Act.put, List.setIfInBounds_toArray, List.set_cons_zero, List.set_cons_succ]
      refine wpAnyH_ready (rs := [10]) (by kernel_rfl) (by simp) ?_
      refine AllReadyH.cons rfl (fun K hK => ?_) AllReadyH.nil
      go_simp
      have k0 : ((w4.setCell ⟨L, k * 2, none⟩ (.int .u32 key)).setCell ⟨L, k * 2 + 1, none⟩ (.slice (some ⟨H, 0, none⟩) l l)).cell? ⟨E, 0, none⟩ = some (.int .u32 key) := by rw [cell_set_far _ _ _ _ (by exact n0), cell_set_far _ _ _ _ (by exact n0)]; exact f0
      have k1 : ((w4.setCell ⟨L, k * 2, none⟩ (.int .u32 key)).setCell ⟨L, k * 2 + 1, none⟩ (.slice (some ⟨H, 0, none⟩) l l)).cell? ⟨E, 1, none⟩ = some (.slice b l cc) := by rw [cell_set_far _ _ _ _ (by exact n0), cell_set_far _ _ _ _ (by exact n0)]; exact f1
      refine hK.out _ _ (⟨k0, k1⟩) (fun hHeld => ?_)
      clear hK K
      try simp only [Act.put, List.setIfInBounds_toArray, List.set_cons_zero, List.set_cons_succ]
      refine wpAnyH_done (by kernel_rfl) ?_ _
      have hq1 := grownBy_setCell w4 ⟨L, k * 2, none⟩ (.int .u32 key)
      have hq2 := grownBy_setCell (w4.setCell ⟨L, k * 2, none⟩ (.int .u32 key)) ⟨L, k * 2 + 1, none⟩ (.slice (some ⟨H, 0, none⟩) l l)
      have hq := grownBy_trans hq1 hq2
      have HOwn5 := Lib.hid (hown4.kept hq (.inr (fun e => by have : H = L := Option.some.inj e; omega)))
      have hb4 : Below w.heap.size w w4 := HB.out.trans ((hBE.trans (hB4.mono (by omega))).mono HB.out.size)
      have HB5 := Lib.hid ((hb4.setCell (p := ⟨L, k * 2, none⟩) (by show w.heap.size ≤ L; omega) (.int .u32 key)).setCell (p := ⟨L, k * 2 + 1, none⟩) (by show w.heap.size ≤ L; omega) (.slice (some ⟨H, 0, none⟩) l l))
      have k2 : ((w4.setCell ⟨L, k * 2, none⟩ (.int .u32 key)).setCell ⟨L, k * 2 + 1, none⟩ (.slice (some ⟨H, 0, none⟩) l l)).cell? ⟨L, k * 2 + 1, none⟩ = some (.slice (some ⟨H, 0, none⟩) l l) := by
        obtain ⟨xs, o, _⟩ := HRowE.out.below hB4
        rw [HLen.out] at o
        have o2 := ((o.stored (k * 2) (.int .u32 key)).1.stored (k * 2 + 1) (.slice (some ⟨H, 0, none⟩) l l)).1
        exact own_cells o2 _ _ (by rw [List.getElem?_set_self (by rw [List.length_set, o.1]; omega)])
      clear hHeld hq hq1 hq2 hb4 hown4 hgrow4 f0 f1 g0 g1 z0 z1 HRowE l0 l1 e0 e1 HZ hB4
      generalize hW5 : (w4.setCell ⟨L, k * 2, none⟩ (.int .u32 key)).setCell ⟨L, k * 2 + 1, none⟩ (.slice (some ⟨H, 0, none⟩) l l) = W5 at *
      clear hW5
      go_wp2_with fail
      refine wp_region_held_drew (S := (fun w' => w'.cell? ⟨L, k * 2 + 1, none⟩ = some (.slice (some ⟨H, 0, none⟩) l l) ∧ w'.cell? ⟨E, 1, none⟩ = some (.slice b l cc))) (by kernel_rfl) (⟨k2, k1⟩) (fun hHeld => ?_)
      refine wpAnyH_yield (i := 0) (v := ?vc0) rfl rfl (by kernel_rfl) (by kernel_rfl) (by kernel_rfl) (fun _ _ _ h => h) (by rfl) ?hyc0 hHeld ?restc0
      case hyc0 =>
        intro w hSw
        (try dsimp only at hSw)
        go_simp
        try with_reducible rfl
      simp only [Act.put, List.setIfInBounds_toArray, List.set_cons_zero, List.set_cons_succ]
      refine wpAnyH_yield (i := 1) (v := ?vc1) rfl rfl (by kernel_rfl) (by kernel_rfl) (by kernel_rfl) (fun _ _ _ h => h) (by rfl) ?hyc1 hHeld ?restc1
      case hyc1 =>
        intro w hSw
        (try dsimp only at hSw)
        go_simp
        try with_reducible rfl
      simp only [Act.put, List.setIfInBounds_toArray, List.set_cons_zero, List.set_cons_succ]
      refine wpAnyH_yield (i := 2) (v := ?vc2) rfl rfl (by kernel_rfl) (by kernel_rfl) (by kernel_rfl) (fun _ _ _ h => h) (by rfl) ?hyc2 hHeld ?restc2
      case hyc2 =>
        intro w hSw
        (try dsimp only at hSw)
        go_simp
        try with_reducible rfl
      simp only [Act.put, List.setIfInBounds_toArray, List.set_cons_zero, List.set_cons_succ]
      refine wpAnyH_yield (i := 3) (v := ?vc3) rfl rfl (by kernel_rfl) (by kernel_rfl) (by kernel_rfl) (fun _ _ _ h => h) (by rfl) ?hyc3 hHeld ?restc3
      case hyc3 =>
        intro w hSw
        (try dsimp only at hSw)
        go_simp
        try with_reducible rfl
      simp only [Act.put, List.setIfInBounds_toArray, List.set_cons_zero, List.set_cons_succ]
      refine wpAnyH_yield (i := 4) (v := ?vc4) rfl rfl (by kernel_rfl) (by kernel_rfl) (by kernel_rfl) (fun _ _ _ h => h) (by rfl) ?hyc4 hHeld ?restc4
      case hyc4 =>
        intro w hSw
        (try dsimp only at hSw)
        go_simp
        try with_reducible rfl
      simp only [Act.put, List.setIfInBounds_toArray, List.set_cons_zero, List.set_cons_succ]
      refine wpAnyH_yield (i := 5) (v := ?vc5) rfl rfl (by kernel_rfl) (by kernel_rfl) (by kernel_rfl) (fun _ _ _ h => h) (by rfl) ?hyc5 hHeld ?restc5
      case hyc5 =>
        intro w hSw
        (try dsimp only at hSw)
        go_simp
        try with_reducible rfl
      simp only [Act.put, List.setIfInBounds_toArray, List.set_cons_zero, List.set_cons_succ]
      refine wpAnyH_yield (i := 6) (v := ?vc6) rfl rfl (by kernel_rfl) (by kernel_rfl) (by kernel_rfl) (fun _ _ _ h => h) (by rfl) ?hyc6 hHeld ?restc6
      case hyc6 =>
        intro w hSw
        (try dsimp only at hSw)
        go_simp
        try with_reducible rfl
      simp only [Act.put, List.setIfInBounds_toArray, List.set_cons_zero, List.set_cons_succ]
      refine wpAnyH_ready (rs := [7]) (by kernel_rfl) (by simp) ?_
      refine AllReadyH.cons rfl (fun K hK => ?_) AllReadyH.nil
      refine step_copyR W5.drew (by rfl) _ _ (by rfl) (by rfl) B H l l (wordsV (List.replicate l 0)) (by rfl) HOwn5.out.drew b cc ws (by rfl) (HWs.out.below (HB5.out.drew)) ?_
      intro w6 hown6 hgrow6
      have HRow6 := Lib.hid (((HPut.out.below (W' := W5.drew) ((Below.refl _ _).drew)).re (by rw [List.length_set]; exact HLen.out) hkl k2 hgrow6 hown6 HWok.out).low (base' := L) (by omega))
      rw [fillE_step (by rw [H1.out]; exact hkl) HIk.out] at HRow6
      have HB6 := Lib.hid (HB5.out.drew.grown hgrow6 HB5.out.size (fun g hg => by have : H = g := Option.some.inj hg; omega))
      have c2 : w6.cell? ⟨L, k * 2 + 1, none⟩ = some (.slice (some ⟨H, 0, none⟩) l l) := (hgrow6.cell_far ⟨L, k * 2 + 1, none⟩ (lt_of_cell k2) (fun e => by have : L = H := Option.some.inj e; omega)).trans k2
      have c1 : w6.cell? ⟨E, 1, none⟩ = some (.slice b l cc) := (hgrow6.cell_far ⟨E, 1, none⟩ (lt_of_cell k1) (fun e => by have : E = H := Option.some.inj e; omega)).trans k1
      refine hK.out _ _ (⟨c2, c1⟩) (fun hHeld => ?_)
      clear hK K
      try simp only [Act.put, List.setIfInBounds_toArray, List.set_cons_zero, List.set_cons_succ]
      refine wpAnyH_done (by kernel_rfl) ?_ _
      clear hHeld hown6 hgrow6 c1 c2 k0 k1 k2 HRow HB HB5 HOwn5
      go_wp2
      exact ⟨⟨k + 1, by omega, by go_num, HRow6, HB6⟩, by simp [intOf]; omega⟩
    · have hkI : ¬ (k : Int) < (len : Int) := by omega
      have hkn : k = len := by omega
      subst hkn
      rw [fillE_end (by rw [H1.out]; omega)] at HRow
      go_wp2
      go_ret
      have hlk : es.length = k := H1.out
      refine ⟨L, k, by rw [hlk]; rfl, HB.out, ?_⟩
      rw [hlk]
      exact HRow.out.low (by omega)
end Go.Proofs.YtilddlgcfbefiaaDoor

/-
  Environments in memory: tables in a row of one's own, each with entries of its own.
-/
namespace Go.Proofs.YtilddlgcfbefiaaDoor
set_option linter.unusedSimpArgs false
set_option linter.unusedVariables false
open Go Go.RowKit
abbrev Cx : Type := Int × Int × Int × Int
abbrev envA (c : Cx) (V : Value) (s : Int) : Array Value := #[.int .u32 c.1, .int .u32 c.2.1, .int .u32 c.2.2.1, .int .u32 c.2.2.2, V, .int .u32 s]
abbrev envV (c : Cx) (V : Value) (s : Int) : Value := .agg #[.int .u32 c.1, .int .u32 c.2.1, .int .u32 c.2.2.1, .int .u32 c.2.2.2, V, .int .u32 s]
/- cells of the table k in a row of tables -/
def tbCells (cs : Array Value) (k : Nat) (t : Tb) (V : Value) : Prop :=
  cs[k * 6]? = some (.int .i64 t.1.1) ∧ cs[k * 6 + 1]? = some (.int .i64 t.1.2.1) ∧ cs[k * 6 + 2]? = some (.int .i64 t.1.2.2.1) ∧ cs[k * 6 + 3]? = some (.int .i64 t.1.2.2.2) ∧ cs[k * 6 + 4]? = some V ∧ cs[k * 6 + 5]? = some (.int .u32 t.2.2)
/- block g is a row of tables of one's own -/
def TabsO (W : World) (base g : Nat) (ts : List Tb) : Prop :=
  base ≤ g ∧ ∃ cs : Array Value, Box W g 42 cs ∧ cs.size = ts.length * 6 ∧ ∀ k, k < ts.length → isW (ts.getD k zeroT).2.2 ∧ ∃ V, tbCells cs k (ts.getD k zeroT) V ∧ Row W base V (ts.getD k zeroT).2.1
def set6 (W : World) (g k : Nat) (t : Tb) (V : Value) : World :=
  (((((W.setCell ⟨g, k * 6, none⟩ (.int .i64 t.1.1)).setCell ⟨g, k * 6 + 1, none⟩ (.int .i64 t.1.2.1)).setCell ⟨g, k * 6 + 2, none⟩ (.int .i64 t.1.2.2.1)).setCell ⟨g, k * 6 + 3, none⟩ (.int .i64 t.1.2.2.2)).setCell ⟨g, k * 6 + 4, none⟩ V).setCell ⟨g, k * 6 + 5, none⟩ (.int .u32 t.2.2)
theorem gBy_trans {a b c : World} {row : Option Nat} (h : a.grownBy b row) (h' : b.grownBy c row) : a.grownBy c row := ⟨h'.os.trans h.os, h'.tape.trans h.tape, h'.output.trans h.output, Nat.le_trans h.size h'.size, fun k hk hne => (h'.block k (Nat.lt_of_lt_of_le hk h.size) hne).trans (h.block k hk hne)⟩
section
variable {W W' : World} {base g : Nat} {ts : List Tb}
theorem grown6 (W : World) (g k : Nat) (t : Tb) (V : Value) : W.grownBy (set6 W g k t V) (some g) :=
  gBy_trans (gBy_trans (gBy_trans (gBy_trans (gBy_trans (grownBy_setCell _ ⟨g, k * 6, none⟩ _) (grownBy_setCell _ ⟨g, k * 6 + 1, none⟩ _)) (grownBy_setCell _ ⟨g, k * 6 + 2, none⟩ _)) (grownBy_setCell _ ⟨g, k * 6 + 3, none⟩ _)) (grownBy_setCell _ ⟨g, k * 6 + 4, none⟩ _)) (grownBy_setCell _ ⟨g, k * 6 + 5, none⟩ _)
theorem cell_drew (w : World) (p : Addr) : w.drew.cell? p = w.cell? p := rfl
theorem cell6_far {k : Nat} {t : Tb} {V u : Value} {p : Addr} (hp : W.cell? p = some u) (hne : p.block ≠ g) : (set6 W g k t V).drew.cell? p = some u := by
  rw [cell_drew]
  exact ((grown6 W g k t V).cell_far p (lt_of_cell hp) (fun e => hne (Option.some.inj e))).trans hp
theorem TabsO.below (h : TabsO W base g ts) (hb : Below W.heap.size W W') : TabsO W' base g ts := by
  obtain ⟨h1, cs, h2, h3, h4⟩ := h
  refine ⟨h1, cs, h2.later hb, h3, fun k hk => ?_⟩
  obtain ⟨k1, V, k2, k3⟩ := h4 k hk
  exact ⟨k1, V, k2, k3.below hb⟩
theorem TabsO.low {base' : Nat} (h : TabsO W base g ts) (hb : base' ≤ base) : TabsO W base' g ts := by
  obtain ⟨h1, cs, h2, h3, h4⟩ := h
  refine ⟨by omega, cs, h2, h3, fun k hk => ?_⟩
  obtain ⟨k1, V, k2, k3⟩ := h4 k hk
  exact ⟨k1, V, k2, k3.low hb⟩
theorem TabsO.lt (h : TabsO W base g ts) : g < W.heap.size := by
  obtain ⟨h1, cs, h2, _⟩ := h
  exact h2.lt
/- a change in a block that holds cells of another type, which no table's entries have -/
theorem TabsO.apart {U : Nat} {ty : TypeId} {cs' : Array Value} (h : TabsO W base g ts) (hB : Box W U ty cs') (h1 : ty ≠ 42) (h2 : ty ≠ 66) (h3 : ty ≠ 25) (hg : W.grownBy W' (some U)) : TabsO W' base g ts := by
  obtain ⟨b1, cs, b2, b3, b4⟩ := h
  have hB' : W.heap[U]? = some (.cells cs' ty (0, 0)) := hB
  have b2' : W.heap[g]? = some (.cells cs 42 (0, 0)) := b2
  have hne : g ≠ U := fun e => by
    subst e
    rw [b2'] at hB'
    simp only [Option.some.injEq, Obj.cells.injEq] at hB'
    exact h1 hB'.2.1.symm
  have own : ∀ {e : TypeId} {size n : Nat} {v : Value} {xs : List Value}, e ≠ ty → W.ownsRow base e size v n xs → W'.ownsRow base e size v n xs := by
    intro e size n v xs he ho
    refine ho.kept hg (.inr (fun e' => ?_))
    obtain ⟨_, ⟨rfl, _⟩ | ⟨g', cap, cur, rfl, _, hh, _⟩⟩ := ho
    · cases e'
    · have e2 : g' = U := Option.some.inj e'
      subst e2
      rw [hh] at hB'
      simp only [Option.some.injEq, Obj.cells.injEq] at hB'
      exact he hB'.2.1
  refine ⟨b1, cs, b2.grown hg (fun e => hne (Option.some.inj e)), b3, fun k hk => ?_⟩
  obtain ⟨k1, V, k2, xs, o, od⟩ := b4 k hk
  refine ⟨k1, V, k2, xs, own (Ne.symm h2) o, od.1, fun j hj => ?_, od.2.2⟩
  obtain ⟨e1, cv, e2, e3, e4, e5⟩ := od.2.1 j hj
  exact ⟨e1, cv, e2, own (Ne.symm h3) e3, e4, e5⟩
theorem TabsO.here (h : TabsO W base g ts) {k : Nat} (hk : k < ts.length) : ∃ V, W.cell? ⟨g, k * 6, none⟩ = some (.int .i64 (ts.getD k zeroT).1.1) ∧ W.cell? ⟨g, k * 6 + 1, none⟩ = some (.int .i64 (ts.getD k zeroT).1.2.1) ∧ W.cell? ⟨g, k * 6 + 2, none⟩ = some (.int .i64 (ts.getD k zeroT).1.2.2.1) ∧
    W.cell? ⟨g, k * 6 + 3, none⟩ = some (.int .i64 (ts.getD k zeroT).1.2.2.2) ∧ W.cell? ⟨g, k * 6 + 4, none⟩ = some V ∧ W.cell? ⟨g, k * 6 + 5, none⟩ = some (.int .u32 (ts.getD k zeroT).2.2) ∧ isW (ts.getD k zeroT).2.2 ∧ Row W base V (ts.getD k zeroT).2.1 := by
  obtain ⟨h1, cs, h2, h3, h4⟩ := h
  obtain ⟨k1, V, ⟨c0, c1, c2, c3, c4, c5⟩, k3⟩ := h4 k hk
  exact ⟨V, h2.cell c0, h2.cell c1, h2.cell c2, h2.cell c3, h2.cell c4, h2.cell c5, k1, k3⟩
theorem TabsO.free (h : TabsO W base g ts) (j : Nat) : W.frozen? ⟨g, j, none⟩ = false := by
  obtain ⟨h1, cs, h2, _⟩ := h
  exact h2.free j
theorem TabsO.at (h : TabsO W base g ts) (hl : ts.length ≤ 1000) : TabsAt W (some ⟨g, 0, none⟩) ts.length ts.length ts := by
  refine ⟨rfl, Nat.le_refl _, by unfold maxLen; omega, .inr ⟨_, rfl, fun k hk => ?_⟩⟩
  obtain ⟨V, c0, c1, c2, c3, c4, c5, hx, hr⟩ := h.here hk
  obtain ⟨b, cap, rfl, hE⟩ := hr.at
  have ea : (⟨g, 0, none⟩ : Addr).add (k * 6) = ⟨g, k * 6, none⟩ := addr_add g (k * 6)
  rw [ea]
  exact ⟨c0, c1, c2, c3, ⟨b, _, cap, c4, hE⟩, c5, hx⟩
theorem TabsO.put (h : TabsO W base g ts) {k : Nat} (hk : k < ts.length) {t : Tb} {V : Value} (hr : Row W base V t.2.1) (hx : isW t.2.2) : TabsO (set6 W g k t V) base g (ts.set k t) := by
  obtain ⟨h1, cs, h2, h3, h4⟩ := h
  have hg := grown6 W g k t V
  refine ⟨h1, _, (((((h2.set (k * 6) _).set (k * 6 + 1) _).set (k * 6 + 2) _).set (k * 6 + 3) _).set (k * 6 + 4) _).set (k * 6 + 5) _, by simp [h3], fun j hj => ?_⟩
  rw [List.length_set] at hj
  have e6 : ∀ r, r < 6 → j * 6 + r < cs.size := fun r hr => by omega
  by_cases hjk : j = k
  · subst hjk
    have hgd : (ts.set j t).getD j zeroT = t := by simp [List.getD_eq_getElem?_getD, hj]
    rw [hgd]
    refine ⟨hx, V, ?_, hr.apart h2 hg⟩
    have q0 := e6 0 (by omega)
    have q1 := e6 1 (by omega)
    have q2 := e6 2 (by omega)
    have q3 := e6 3 (by omega)
    have q4 := e6 4 (by omega)
    have q5 := e6 5 (by omega)
    refine ⟨?_, ?_, ?_, ?_, ?_, ?_⟩ <;> simp [Array.getElem?_setIfInBounds] <;> omega
  · have hgd : (ts.set k t).getD j zeroT = ts.getD j zeroT := by simp [List.getD_eq_getElem?_getD, List.getElem?_set_ne (Ne.symm hjk)]
    rw [hgd]
    obtain ⟨k1, U, ⟨c0, c1, c2, c3, c4, c5⟩, k3⟩ := h4 j hj
    have far : ∀ (i : Nat) (u : Value), cs[i]? = some u → (∀ r, r < 6 → k * 6 + r ≠ i) → ((((((cs.setIfInBounds (k * 6) (.int .i64 t.1.1)).setIfInBounds (k * 6 + 1) (.int .i64 t.1.2.1)).setIfInBounds (k * 6 + 2) (.int .i64 t.1.2.2.1)).setIfInBounds (k * 6 + 3) (.int .i64 t.1.2.2.2)).setIfInBounds (k * 6 + 4) V).setIfInBounds (k * 6 + 5) (.int .u32 t.2.2))[i]? = some u := by
      intro i u hu hne
      have n0 : k * 6 ≠ i := hne 0 (by omega)
      rw [Array.getElem?_setIfInBounds_ne (hne 5 (by omega)), Array.getElem?_setIfInBounds_ne (hne 4 (by omega)), Array.getElem?_setIfInBounds_ne (hne 3 (by omega)), Array.getElem?_setIfInBounds_ne (hne 2 (by omega)), Array.getElem?_setIfInBounds_ne (hne 1 (by omega)), Array.getElem?_setIfInBounds_ne n0]
      exact hu
    exact ⟨k1, U, ⟨far _ _ c0 (fun r hr => by omega), far _ _ c1 (fun r hr => by omega), far _ _ c2 (fun r hr => by omega), far _ _ c3 (fun r hr => by omega), far _ _ c4 (fun r hr => by omega), far _ _ c5 (fun r hr => by omega)⟩, k3.apart h2 hg⟩
end
/- 'make([]api.Table, n)' -/
theorem made_tabs (n : Nat) : ∀ k, k < n → tbCells (madeCells zeroTA (n * 6)) k zeroT (.slice none 0 0) := by
  intro k hk
  have hm : ∀ r, r < 6 → (k * 6 + r) % 6 = r := fun r hr => by omega
  have m0 : k * 6 % 6 = 0 := by omega
  have m1 := hm 1 (by omega)
  have m2 := hm 2 (by omega)
  have m3 := hm 3 (by omega)
  have m4 := hm 4 (by omega)
  have m5 := hm 5 (by omega)
  have l0 : k * 6 < n * 6 := by omega
  have l1 : k * 6 + 1 < n * 6 := by omega
  have l2 : k * 6 + 2 < n * 6 := by omega
  have l3 : k * 6 + 3 < n * 6 := by omega
  have l4 : k * 6 + 4 < n * 6 := by omega
  have l5 : k * 6 + 5 < n * 6 := by omega
  refine ⟨?_, ?_, ?_, ?_, ?_, ?_⟩ <;> simp [madeCells, zeroTA, zeroT, zeroS, m0, m1, m2, m3, m4, m5, l0, l1, l2, l3, l4, l5]
theorem wpList_makeT {ops : Array Oper} {rest : List Oper} {o : Oper} {a : Act} {Q : Exit → Act → World → Prop} (w : World) (hgd : o.guard = none) (l c : Operand) (ho : o.op = .makeSlice 27 l c)
    (base n : Nat) (L : Int) (hl : a.eval l = .int .i64 L) (hc : a.eval c = .int .i64 L) (hL : L = (n : Int)) (hn : n ≤ 1000) (hb : base ≤ w.heap.size) (H : Nat) (hH : w.heap.size = H)
    (h : ∀ w', TabsO w' base H (List.replicate n zeroT) → w.grownBy w' none → H < w'.heap.size → wpList Tryd.prog ops Q rest (a.put o.dst (.slice (some ⟨H, 0, none⟩) n n)) w') : wpList Tryd.prog ops Q (o :: rest) a w := by
  obtain ⟨jT, hiT, hy0, hy1, hy2⟩ := info_parts infoT
  subst hH
  refine wpList_make_full w hgd l c 27 ho base 42 jT _ 6 Tryd.underlying27 hiT hy0 hy1 .i64 .i64 L L n hl hc hL hL (by rw [hy2]; omega) (by unfold maxLen; omega) hb ?_
  intro w' r1 r2
  have hlt := (r1.lt w.heap.size rfl).2
  refine h w' ?_ r2 hlt
  obtain ⟨hl1, ⟨e, _⟩ | ⟨g', cap', cur, e, hbg, hh, hc', hm, hcs, ht⟩⟩ := r1
  · cases e
  simp only [Value.slice.injEq, Option.some.injEq, Addr.mk.injEq, and_true, true_and] at e
  obtain ⟨rfl, rfl⟩ := e
  have hcur : cur.toList = (madeCells (Value.agg zeroTA).cells (n * 6)).toList := by
    rw [← ht, List.take_of_length_le (by simp [hcs])]
  have hcur2 : cur = madeCells zeroTA (n * 6) := Array.toList_inj.1 hcur
  subst hcur2
  refine ⟨hbg, _, hh, by rw [List.length_replicate]; exact hcs, fun k hk => ?_⟩
  rw [List.length_replicate] at hk
  have hg : (List.replicate n zeroT).getD k zeroT = zeroT := by simp [List.getD_eq_getElem?_getD, hk]
  rw [hg]
  exact ⟨isW_zero, _, made_tabs n k hk, Row.nil _ _⟩
def fillT (ts : List Tb) (k : Nat) : List Tb := ts.take k ++ List.replicate (ts.length - k) zeroT
theorem fillT_len {ts : List Tb} {k : Nat} (h : k ≤ ts.length) : (fillT ts k).length = ts.length := by simp [fillT]; omega
theorem fillT_zero (ts : List Tb) : fillT ts 0 = List.replicate ts.length zeroT := by simp [fillT]
theorem fillT_end {ts : List Tb} {k : Nat} (h : ts.length ≤ k) : fillT ts k = ts := by
  have : ts.length - k = 0 := by omega
  simp [fillT, this, List.take_of_length_le h]
theorem fillT_step {ts : List Tb} {k : Nat} (hk : k < ts.length) : (fillT ts k).set k (ts.getD k zeroT) = fillT ts (k + 1) := by
  have h2 : ts.length - k = (ts.length - (k + 1)) + 1 := by omega
  have h3 : (ts.take k).length = k := by simp; omega
  unfold fillT
  rw [h2, List.replicate_succ, List.set_append_right k _ (by omega), h3, Nat.sub_self, List.set_cons_zero, take_getD ts k zeroT hk, List.append_assoc]
  rfl
end Go.Proofs.YtilddlgcfbefiaaDoor

/-
  What Args, Draw, truth and Fits of package helper return: contracts over the translated program.
-/
namespace Go.Proofs.YtilddlgcfbefiaaDoor
set_option linter.unusedSimpArgs false
set_option linter.unusedVariables false
open Go Go.RowKit
set_option maxHeartbeats 2000000 in
theorem args_any (n : Int) (w : World) : Calls Tryd.prog 96 #[.int .i64 n] w fun e w' => e = .returned (.int .i64 (argsP n)) ∧ w' = w := by
  unfold argsP
  by_cases h4 : n = 4
  · subst h4
    go_enter Tryd.func96, Tryd.ntmps96
    go_wp2
    go_ret
    exact ⟨rfl, rfl⟩
  by_cases h2 : n = 2
  · subst h2
    go_enter Tryd.func96, Tryd.ntmps96
    go_wp2
    go_ret
    exact ⟨rfl, rfl⟩
  by_cases h3 : n = 3
  · subst h3
    go_enter Tryd.func96, Tryd.ntmps96
    go_wp2
    go_ret
    exact ⟨rfl, rfl⟩
  by_cases h5 : n = 5
  · subst h5
    go_enter Tryd.func96, Tryd.ntmps96
    go_wp2
    go_ret
    exact ⟨rfl, rfl⟩
  by_cases h0 : n = 0
  · subst h0
    go_enter Tryd.func96, Tryd.ntmps96
    go_wp2
    go_ret
    exact ⟨rfl, rfl⟩
  by_cases h1 : n = 1
  · subst h1
    go_enter Tryd.func96, Tryd.ntmps96
    go_wp2
    go_ret
    exact ⟨rfl, rfl⟩
  rw [if_neg h4, if_neg (by omega), if_neg h0, if_neg h1]
  have e4 : (n == 4) = false := by simpa using h4
  have e2 : (n == 2) = false := by simpa using h2
  have e3 : (n == 3) = false := by simpa using h3
  have e5 : (n == 5) = false := by simpa using h5
  have e0 : (n == 0) = false := by simpa using h0
  have e1 : (n == 1) = false := by simpa using h1
  clear h4 h2 h3 h5 h0 h1
  go_enter Tryd.func96, Tryd.ntmps96
  go_wp2
  go_ret
  exact ⟨rfl, rfl⟩
theorem truth_any (b : Bool) (w : World) : Calls Tryd.prog 132 #[.bool b] w fun e w' => e = .returned (.int .u32 (if b = true then 1 else 0)) ∧ w' = w := by
  cases b
  · go_enter Tryd.func132, Tryd.ntmps132
    go_wp2
    go_ret
    exact ⟨rfl, rfl⟩
  · go_enter Tryd.func132, Tryd.ntmps132
    go_wp2
    go_ret
    exact ⟨rfl, rfl⟩
theorem draw_any (s : Int) (w : World) : Calls Tryd.prog 133 #[.int .u32 s] w fun e w' => e = .returned (.int .u32 (drawP s)) ∧ w' = w := by
  have h1 : (1664525 * s % 4294967296 + 1013904223) % 4294967296 = drawP s := by rw [drawP]; omega
  go_enter Tryd.func133, Tryd.ntmps133
  go_wp2
  go_ret
  exact ⟨congrArg (fun z => Ending.returned (Value.int IntKind.u32 z)) h1, rfl⟩
set_option maxHeartbeats 4000000 in
theorem fits_any (n k c m v : Int) (w : World) : Calls Tryd.prog 120 #[.int .i64 n, scV k c m v] w fun e w' => e = .returned (.bool (fitsP n (k, c, m, v))) ∧ Below w.heap.size w w' := by
  unfold fitsP
  simp only [mayT]
  obtain ⟨W0, hW0⟩ : ∃ W0, w.alloc (.cells #[.int .i64 k, .int .i64 c, .int .i64 m, .int .i64 v] 39) = W0 := ⟨_, rfl⟩
  have hg : Below w.heap.size w W0 := by rw [← hW0]; exact (Below.refl _ _).alloc (Nat.le_refl _) _
  have HSc : Hid (W0.cell? ⟨w.heap.size, 0, none⟩ = some (.int .i64 k) ∧ W0.cell? ⟨w.heap.size, 1, none⟩ = some (.int .i64 c) ∧ W0.cell? ⟨w.heap.size, 2, none⟩ = some (.int .i64 m) ∧ W0.cell? ⟨w.heap.size, 3, none⟩ = some (.int .i64 v)) := Lib.hid (by
    have hB : Box W0 w.heap.size 39 #[.int .i64 k, .int .i64 c, .int .i64 m, .int .i64 v] := by rw [← hW0]; exact Box.new _ _ _
    exact ⟨hB.cell rfl, hB.cell rfl, hB.cell rfl, hB.cell rfl⟩)
  by_cases h0 : n = 0
  · subst h0
    simp only [true_or, if_true]
    obtain ⟨c0, c1, c2, c3⟩ := HSc.out
    rcases hm : mayS k c m v with _ | _
    · go_enter Tryd.func120, Tryd.ntmps120
      go_wp2_with fail
      refine (may_any k c m v W0).mono ?_
      rintro e w1 ⟨rfl, hb1⟩
      rw [hm]
      have HB1 := Lib.hid (hg.trans (hb1.mono hg.size))
      clear hb1 c0 c1 c2 c3
      go_wp2_with fail
      go_ret
      exact ⟨by simp, HB1.out⟩
    · go_enter Tryd.func120, Tryd.ntmps120
      go_wp2_with fail
      refine (may_any k c m v W0).mono ?_
      rintro e w1 ⟨rfl, hb1⟩
      rw [hm]
      have HB1 := Lib.hid (hg.trans (hb1.mono hg.size))
      have d0 := (hb1.cell (lt_of_cell c0)).trans c0
      clear hb1 c0 c1 c2 c3
      go_wp2_with fail
      go_ret
      exact ⟨by simp [bne, BEq.beq], HB1.out⟩
  by_cases h1 : n = 1
  · subst h1
    simp only [true_or, or_true, if_true]
    obtain ⟨c0, c1, c2, c3⟩ := HSc.out
    rcases hm : mayS k c m v with _ | _
    · go_enter Tryd.func120, Tryd.ntmps120
      go_wp2_with fail
      refine (may_any k c m v W0).mono ?_
      rintro e w1 ⟨rfl, hb1⟩
      rw [hm]
      have HB1 := Lib.hid (hg.trans (hb1.mono hg.size))
      clear hb1 c0 c1 c2 c3
      go_wp2_with fail
      go_ret
      exact ⟨by simp, HB1.out⟩
    · go_enter Tryd.func120, Tryd.ntmps120
      go_wp2_with fail
      refine (may_any k c m v W0).mono ?_
      rintro e w1 ⟨rfl, hb1⟩
      rw [hm]
      have HB1 := Lib.hid (hg.trans (hb1.mono hg.size))
      have d0 := (hb1.cell (lt_of_cell c0)).trans c0
      clear hb1 c0 c1 c2 c3
      go_wp2_with fail
      go_ret
      exact ⟨by simp [bne, BEq.beq], HB1.out⟩
  by_cases h2 : n = 2
  · subst h2
    simp only [true_or, or_true, if_true]
    obtain ⟨c0, c1, c2, c3⟩ := HSc.out
    rcases hm : mayS k c m v with _ | _
    · go_enter Tryd.func120, Tryd.ntmps120
      go_wp2_with fail
      refine (may_any k c m v W0).mono ?_
      rintro e w1 ⟨rfl, hb1⟩
      rw [hm]
      have HB1 := Lib.hid (hg.trans (hb1.mono hg.size))
      clear hb1 c0 c1 c2 c3
      go_wp2_with fail
      go_ret
      exact ⟨by simp, HB1.out⟩
    · go_enter Tryd.func120, Tryd.ntmps120
      go_wp2_with fail
      refine (may_any k c m v W0).mono ?_
      rintro e w1 ⟨rfl, hb1⟩
      rw [hm]
      have HB1 := Lib.hid (hg.trans (hb1.mono hg.size))
      have d0 := (hb1.cell (lt_of_cell c0)).trans c0
      clear hb1 c0 c1 c2 c3
      go_wp2_with fail
      go_ret
      exact ⟨by simp [bne, BEq.beq], HB1.out⟩
  by_cases h3 : n = 3
  · subst h3
    simp only [or_true, if_true]
    obtain ⟨c0, c1, c2, c3⟩ := HSc.out
    rcases hm : mayS k c m v with _ | _
    · go_enter Tryd.func120, Tryd.ntmps120
      go_wp2_with fail
      refine (may_any k c m v W0).mono ?_
      rintro e w1 ⟨rfl, hb1⟩
      rw [hm]
      have HB1 := Lib.hid (hg.trans (hb1.mono hg.size))
      clear hb1 c0 c1 c2 c3
      go_wp2_with fail
      go_ret
      exact ⟨by simp, HB1.out⟩
    · go_enter Tryd.func120, Tryd.ntmps120
      go_wp2_with fail
      refine (may_any k c m v W0).mono ?_
      rintro e w1 ⟨rfl, hb1⟩
      rw [hm]
      have HB1 := Lib.hid (hg.trans (hb1.mono hg.size))
      have d0 := (hb1.cell (lt_of_cell c0)).trans c0
      clear hb1 c0 c1 c2 c3
      go_wp2_with fail
      go_ret
      exact ⟨by simp [bne, BEq.beq], HB1.out⟩
  by_cases h5 : n = 5
  · subst h5
    rw [if_neg (by omega), if_pos rfl]
    obtain ⟨c0, c1, c2, c3⟩ := HSc.out
    rcases hm : mayS k c m v with _ | _
    · go_enter Tryd.func120, Tryd.ntmps120
      go_wp2_with fail
      refine (may_any k c m v W0).mono ?_
      rintro e w1 ⟨rfl, hb1⟩
      rw [hm]
      have HB1 := Lib.hid (hg.trans (hb1.mono hg.size))
      clear hb1 c0 c1 c2 c3
      go_wp2_with fail
      go_ret
      exact ⟨by simp, HB1.out⟩
    · go_enter Tryd.func120, Tryd.ntmps120
      go_wp2_with fail
      refine (may_any k c m v W0).mono ?_
      rintro e w1 ⟨rfl, hb1⟩
      rw [hm]
      have HB1 := Lib.hid (hg.trans (hb1.mono hg.size))
      have d0 := (hb1.cell (lt_of_cell c0)).trans c0
      clear hb1 c0 c1 c2 c3
      go_wp2_with fail
      go_ret
      exact ⟨by simp [BEq.beq], HB1.out⟩
  rw [if_neg (by omega), if_neg h5]
  have e0 : (n == 0) = false := by simpa using h0
  have e1 : (n == 1) = false := by simpa using h1
  have e2 : (n == 2) = false := by simpa using h2
  have e3 : (n == 3) = false := by simpa using h3
  have e5 : (n == 5) = false := by simpa using h5
  clear h0 h1 h2 h3 h5
  go_enter Tryd.func120, Tryd.ntmps120
  go_wp2_with fail
  go_ret
  exact ⟨by simp, hg⟩
end Go.Proofs.YtilddlgcfbefiaaDoor

/-
  The table of the helpers, a map of functions: contracts over the translated program.
-/
namespace Go.Proofs.YtilddlgcfbefiaaDoor
set_option linter.unusedSimpArgs false
set_option linter.unusedVariables false
open Go Go.RowKit Go.MapKept Go.ChangeMaps Go.Maps
def fnV (k : Nat) (C : Nat) : Value := .func (Fn.func k) #[.pointer (some ⟨C, 0, none⟩)] #[]
theorem run_insert {w : World} {b : Nat} {es : Array MapEntry} {clock : Nat} {n : Int} {v : Value} (hb : w.heap[b]? = some (.map es clock)) (hw : (Lit.int .i64 n).wf = true) (hf : Instr.findNow (.int .i64) (.int .i64 n) es.toList 0 = some none) :
    (Instr.mapUpdate 161 (.map (some b)) (.int .i64 n) v).run Tryd.prog w = .ok () (setBlock w b (.map (es.push { key := .int .i64 n, val := v, born := clock }) (clock + 1))) := by
  have hc : (Instr.checkKey false 10000 3 (.int .i64 n)).run Tryd.prog w = .ok () w := by
    exact (Maps.int_keyed Tryd.underlying3).check w _ (keyOf_int_mk Tryd.underlying3 hw)
  have hfk : (Instr.findKey 3 (.int .i64 n) es.toList).run Tryd.prog w = .ok none w := by
    simp [Instr.findKey, run_underlying Tryd.underlying3, hf, Result.andThen]
  simp [Instr.mapUpdate, run_underlying Tryd.underlying161, MapKept.run_getObj_map hb, hc, hfk, MapKept.run_setObj_map _ hb, Result.andThen, setBlock]
theorem run_look {w : World} {b : Nat} {es : Array MapEntry} {clock : Nat} {n : Int} {v : Value} {i : Nat} (hb : w.heap[b]? = some (.map es clock)) (hw : (Lit.int .i64 n).wf = true) (hf : Instr.findNow (.int .i64) (.int .i64 n) es.toList 0 = some (some (i, v))) :
    (Instr.lookup 161 (.map (some b)) (.int .i64 n) false).run Tryd.prog w = .ok v w := by
  have hc : (Instr.checkKey es.isEmpty 10000 3 (.int .i64 n)).run Tryd.prog w = .ok () w := by
    exact (Maps.int_keyed Tryd.underlying3).check w _ (keyOf_int_mk Tryd.underlying3 hw)
  have hfk : (Instr.findKey 3 (.int .i64 n) es.toList).run Tryd.prog w = .ok (some (i, v)) w := by
    simp [Instr.findKey, run_underlying Tryd.underlying3, hf, Result.andThen]
  simp [Instr.lookup, run_underlying Tryd.underlying161, MapKept.run_getObj_map hb, hc, hfk, Result.andThen]
theorem ins_any {w : World} {b : Nat} {es : Array MapEntry} {clock : Nat} (n : Int) (v : Value) (hb : w.heap[b]? = some (.map es clock)) (hw : (Lit.int .i64 n).wf = true) (hf : Instr.findNow (.int .i64) (.int .i64 n) es.toList 0 = some none) :
    ∃ w', (Instr.mapUpdate 161 (.map (some b)) (.int .i64 n) v).run Tryd.prog w = .ok () w' ∧ w'.heap[b]? = some (.map (es.push { key := .int .i64 n, val := v, born := clock }) (clock + 1)) ∧ w.grownBy w' (some b) :=
  ⟨_, run_insert hb hw hf, heap_setBlock_same hb _, ⟨rfl, rfl, rfl, by simp [setBlock], fun i _ hi => heap_setBlock_other hb _ (fun e => hi (by rw [e]))⟩⟩
def helpE (C : Nat) : Array MapEntry := #[{ key := .int .i64 0, val := fnV 121 C, born := 0 }, { key := .int .i64 1, val := fnV 122 C, born := 1 }, { key := .int .i64 2, val := fnV 123 C, born := 2 }, { key := .int .i64 3, val := fnV 124 C, born := 3 }, { key := .int .i64 4, val := fnV 125 C, born := 4 }, { key := .int .i64 5, val := fnV 126 C, born := 5 }]
set_option maxRecDepth 100000 in
set_option maxHeartbeats 4000000 in
theorem helpers_any (C : Nat) (w : World) : Calls Tryd.prog 106 #[.pointer (some ⟨C, 0, none⟩)] w fun e w' => e = .returned (.map (some w.heap.size)) ∧ w'.heap[w.heap.size]? = some (.map (helpE C) 6) ∧ Below w.heap.size w w' := by
  have hmm := @run_makeMap Tryd.prog
  have hmf : ∀ (fn : Fn) (first cap : Array Value) (w : World), (Instr.makeFunc fn first cap).run Tryd.prog w = .ok (.func fn first cap) w := fun _ _ _ _ => rfl
  have HB : Hid (Below w.heap.size w (w.alloc (.map #[] 0))) := Lib.hid ((Below.refl _ _).alloc (Nat.le_refl _) _)
  have HM : Hid ((w.alloc (.map #[] 0)).heap[w.heap.size]? = some (.map #[] 0)) := Lib.hid (MapKept.heap_alloc w _).1
  obtain ⟨w0, r0, hm0, hg0⟩ := ins_any 0 (fnV 121 C) HM.out (by decide) (by rfl)
  replace HB := Lib.hid (HB.out.grown hg0 HB.out.size (fun j hj => by cases hj; exact Nat.le_refl _))
  replace HM := Lib.hid hm0
  clear hm0 hg0
  obtain ⟨w1, r1, hm1, hg1⟩ := ins_any 1 (fnV 122 C) HM.out (by decide) (by rfl)
  replace HB := Lib.hid (HB.out.grown hg1 HB.out.size (fun j hj => by cases hj; exact Nat.le_refl _))
  replace HM := Lib.hid hm1
  clear hm1 hg1
  obtain ⟨w2, r2, hm2, hg2⟩ := ins_any 2 (fnV 123 C) HM.out (by decide) (by rfl)
  replace HB := Lib.hid (HB.out.grown hg2 HB.out.size (fun j hj => by cases hj; exact Nat.le_refl _))
  replace HM := Lib.hid hm2
  clear hm2 hg2
  obtain ⟨w3, r3, hm3, hg3⟩ := ins_any 3 (fnV 124 C) HM.out (by decide) (by rfl)
  replace HB := Lib.hid (HB.out.grown hg3 HB.out.size (fun j hj => by cases hj; exact Nat.le_refl _))
  replace HM := Lib.hid hm3
  clear hm3 hg3
  obtain ⟨w4, r4, hm4, hg4⟩ := ins_any 4 (fnV 125 C) HM.out (by decide) (by rfl)
  replace HB := Lib.hid (HB.out.grown hg4 HB.out.size (fun j hj => by cases hj; exact Nat.le_refl _))
  replace HM := Lib.hid hm4
  clear hm4 hg4
  obtain ⟨w5, r5, hm5, hg5⟩ := ins_any 5 (fnV 126 C) HM.out (by decide) (by rfl)
  replace HB := Lib.hid (HB.out.grown hg5 HB.out.size (fun j hj => by cases hj; exact Nat.le_refl _))
  replace HM := Lib.hid hm5
  clear hm5 hg5
  simp only [fnV] at r0 r1 r2 r3 r4 r5
  go_enter Tryd.func106, Tryd.ntmps106
  go_wp2_with fail
  go_ret
  exact ⟨rfl, HM.out, HB.out⟩
end Go.Proofs.YtilddlgcfbefiaaDoor

/-
  What clone of package helper returns, as a contract over the translated program: the same environment, its tables in memory of their own.
-/
namespace Go.Proofs.YtilddlgcfbefiaaDoor
set_option linter.unusedSimpArgs false
set_option linter.unusedVariables false
open Go Go.RowKit
/- tables of at most 40 entries of at most 40 words -/
def fewL (ts : List Tb) : Prop := ts.length ≤ 40 ∧ ∀ t ∈ ts, fewE t.2.1
def EnvPost (c : Cx) (sd : Int) (ts : List Tb) (w : World) (e : Ending) (w' : World) : Prop :=
  ∃ g, e = .returned (envV c (.slice (some ⟨g, 0, none⟩) ts.length ts.length) sd) ∧ Below w.heap.size w w' ∧ TabsO w' w.heap.size g ts
set_option maxRecDepth 100000 in
set_option maxHeartbeats 20000000 in
theorem cloneV_any (c : Cx) (a : Option Addr) (len cap : Nat) (sd : Int) (ts : List Tb) (w : World) (h : TabsAt w a len cap ts) (hf : fewL ts) :
    Calls Tryd.prog 104 #[envV c (.slice a len cap) sd] w (EnvPost c sd ts w) := by
  rcases c with ⟨c0, c1, c2, c3⟩
  have hm := h.max
  have H1 := Lib.hid h.1
  have h40 : len ≤ 40 := by rw [← h.1]; exact hf.1
  have HF := Lib.hid hf.2
  have HE := Lib.hid h
  obtain ⟨W0, hW0⟩ : ∃ W0, (w.alloc (.cells #[.int .u32 c0, .int .u32 c1, .int .u32 c2, .int .u32 c3, .slice a len cap, .int .u32 sd] 29)).alloc (.cells #[.int .u32 0, .int .u32 0, .int .u32 0, .int .u32 0, .slice none 0 0, .int .u32 0] 29) = W0 := ⟨_, rfl⟩
  have hs0 : W0.heap.size = w.heap.size + 1 + 1 := by rw [← hW0]; simp
  have hb0 : Below w.heap.size w W0 := by rw [← hW0]; exact box2 (Below.refl _ _) (Nat.le_refl _) _ _
  have HP : Hid (Box W0 w.heap.size 29 #[.int .u32 c0, .int .u32 c1, .int .u32 c2, .int .u32 c3, .slice a len cap, .int .u32 sd]) := by rw [← hW0]; exact Lib.hid ((Box.new w 29 _).alloc _)
  have HR : Hid (Box W0 (w.heap.size + 1) 29 #[.int .u32 0, .int .u32 0, .int .u32 0, .int .u32 0, .slice none 0 0, .int .u32 0]) := by
    rw [← hW0]
    have := Box.new (w.alloc (.cells #[.int .u32 c0, .int .u32 c1, .int .u32 c2, .int .u32 c3, .slice a len cap, .int .u32 sd] 29)) 29 #[.int .u32 0, .int .u32 0, .int .u32 0, .int .u32 0, .slice none 0 0, .int .u32 0]
    rw [show (w.alloc (.cells #[.int .u32 c0, .int .u32 c1, .int .u32 c2, .int .u32 c3, .slice a len cap, .int .u32 sd] 29)).heap.size = w.heap.size + 1 by simp] at this
    exact Lib.hid this
  have d4 : W0.cell? ⟨w.heap.size, 4, none⟩ = some (.slice a len cap) := HP.out.cell rfl
  clear h hf
  go_enter Tryd.func104, Tryd.ntmps104
  go_wp2_with (refine wpList_makeT W0 rfl _ _ rfl (w.heap.size + 1 + 1) len _ rfl rfl rfl (by omega) (by omega) (w.heap.size + 1 + 1) hs0 ?_)
  intro w1 hTs1 hgrow1 hlt1
  have hB1 : Below W0.heap.size W0 w1 := ⟨hgrow1.os, hgrow1.tape, hgrow1.output, hgrow1.size, fun j hj => hgrow1.block j hj (by simp)⟩
  have HP1 := Lib.hid (HP.out.later hB1)
  have HR1 := Lib.hid (HR.out.later hB1)
  have HB1 := Lib.hid (hb0.trans (hB1.mono hb0.size))
  have HTs1 := Lib.hid hTs1
  clear d4 hW0 HP HR hTs1 hgrow1 hB1 hb0 hs0
  have d4 : w1.cell? ⟨w.heap.size, 4, none⟩ = some (.slice a len cap) := HP1.out.cell rfl
  go_wp2
  obtain ⟨L, hL⟩ : ∃ L, w.heap.size + 1 + 1 = L := ⟨_, rfl⟩
  rw [hL] at HTs1 hlt1
  obtain ⟨R, hR⟩ : ∃ R, w.heap.size + 1 = R := ⟨_, rfl⟩
  rw [hR] at HR1
  simp only [hL]
  simp only [hR]
  have hPR : w.heap.size < R := by omega
  have hRL : R < L := by omega
  clear hL hR d4
  go_loopw [13] (fun i wr => ∃ (k : Nat), k ≤ len ∧ i = .int .i64 k ∧ Hid (TabsO wr L L (fillT ts k)) ∧ Hid (Box wr w.heap.size 29 #[.int .u32 c0, .int .u32 c1, .int .u32 c2, .int .u32 c3, .slice a len cap, .int .u32 sd]) ∧ Hid (Box wr R 29 #[.int .u32 0, .int .u32 0, .int .u32 0, .int .u32 0, .slice none 0 0, .int .u32 0]) ∧ Hid (Below w.heap.size w wr)) (fun i _ => len - (intOf i).toNat)
  case atStart => exact ⟨0, by omega, rfl, Lib.hid (by rw [fillT_zero, H1.out]; exact HTs1.out), HP1, HR1, HB1⟩
  case round =>
    obtain ⟨k, hk, rfl, HTs, HP, HR, HB⟩ := hrel
    clear HTs1 HP1 HR1 HB1 hlt1
    obtain ⟨H, hH⟩ : ∃ H, L = H := ⟨_, rfl⟩
    have hHL : H = L := hH.symm
    clear hH
    have hltL : L < wr.heap.size := HTs.out.lt
    replace HTs : Hid (TabsO wr H L (fillT ts k)) := by rw [hHL]; exact HTs
    by_cases hkl : k < len
    · have hkI : (k : Int) < (len : Int) := by omega
      have hk0 : (0 : Int) ≤ (k : Int) := Int.natCast_nonneg _
      obtain ⟨y, rfl, hy⟩ := HE.out.2.2.2.resolve_left (by omega)
      have hI := (hy k hkl)
      have hfe := HF.out _ (getD_mem ts k zeroT (by rw [H1.out]; exact hkl))
      rcases hi : ts.getD k zeroT with ⟨⟨s0, s1, s2, s3⟩, es, x⟩
      rw [hi] at hI hfe
      have HIk := Lib.hid hi
      obtain ⟨iw0, iw1, iw2, iw3, ⟨b, l, cc, iw4, hEs⟩, iw5, hx⟩ := hI
      simp only at iw0 iw1 iw2 iw3 iw4 iw5 hEs hx hfe
      replace iw0 := (HB.out.cell (lt_of_cell iw0)).trans iw0
      replace iw1 := (HB.out.cell (lt_of_cell iw1)).trans iw1
      replace iw2 := (HB.out.cell (lt_of_cell iw2)).trans iw2
      replace iw3 := (HB.out.cell (lt_of_cell iw3)).trans iw3
      replace iw4 := (HB.out.cell (lt_of_cell iw4)).trans iw4
      replace iw5 := (HB.out.cell (lt_of_cell iw5)).trans iw5
      have HX := Lib.hid hx
      have HFe := Lib.hid hfe
      obtain ⟨E, hE⟩ : ∃ E, wr.heap.size = E := ⟨_, rfl⟩
      obtain ⟨WE, hWE⟩ : ∃ WE, wr.alloc (.cells #[.int .i64 s0, .int .i64 s1, .int .i64 s2, .int .i64 s3, .slice b l cc, .int .u32 x] 42) = WE := ⟨_, rfl⟩
      have hBE : Below wr.heap.size wr WE := by rw [← hWE]; exact (Below.refl _ _).alloc (Nat.le_refl _) _
      have hBox : Box WE E 42 #[.int .i64 s0, .int .i64 s1, .int .i64 s2, .int .i64 s3, .slice b l cc, .int .u32 x] := by rw [← hWE, ← hE]; exact Box.new wr 42 _
      have e0 : WE.cell? ⟨E, 0, none⟩ = some (.int .i64 s0) := hBox.cell rfl
      have e1 : WE.cell? ⟨E, 1, none⟩ = some (.int .i64 s1) := hBox.cell rfl
      have e2 : WE.cell? ⟨E, 2, none⟩ = some (.int .i64 s2) := hBox.cell rfl
      have e3 : WE.cell? ⟨E, 3, none⟩ = some (.int .i64 s3) := hBox.cell rfl
      have e4 : WE.cell? ⟨E, 4, none⟩ = some (.slice b l cc) := hBox.cell rfl
      have e5 : WE.cell? ⟨E, 5, none⟩ = some (.int .u32 x) := hBox.cell rfl
      have hHd' : E < WE.heap.size := by rw [← hWE, ← hE]; simp
      have HEs : Hid (EntsAt WE.drew b l cc es) := Lib.hid ((hEs.below HB.out).below (hBE.drew))
      clear hi hEs hy hx hfe hBox
      rw [hE] at hltL
      go_wp2_with fail
      clear hWE
      refine wp_region_held_drew (S := (fun w' => w'.cell? ⟨E, 0, none⟩ = some (.int .i64 s0) ∧ w'.cell? ⟨E, 1, none⟩ = some (.int .i64 s1) ∧ w'.cell? ⟨E, 2, none⟩ = some (.int .i64 s2) ∧ w'.cell? ⟨E, 3, none⟩ = some (.int .i64 s3) ∧ w'.cell? ⟨E, 4, none⟩ = some (.slice b l cc) ∧ w'.cell? ⟨E, 5, none⟩ = some (.int .u32 x))) (by kernel_rfl) (⟨e0, e1, e2, e3, e4, e5⟩) (fun hHeld => ?_)
      refine wpAnyH_yield (i := 0) (v := ?v0) rfl rfl (by kernel_rfl) (by kernel_rfl) (by kernel_rfl) (fun _ _ _ h => h) (by rfl) ?hy0 hHeld ?rest0
      case hy0 =>
        intro w hSw
        (try dsimp only at hSw)
        go_simp
        try with_reducible rfl
      simp only [Act.put, List.setIfInBounds_toArray, List.set_cons_zero, List.set_cons_succ]
      refine wpAnyH_yield (i := 1) (v := ?v1) rfl rfl (by kernel_rfl) (by kernel_rfl) (by kernel_rfl) (fun _ _ _ h => h) (by rfl) ?hy1 hHeld ?rest1
      case hy1 =>
        intro w hSw
        (try dsimp only at hSw)
        go_simp
        try with_reducible rfl
      simp only [Act.put, List.setIfInBounds_toArray, List.set_cons_zero, List.set_cons_succ]
      refine wpAnyH_yield (i := 2) (v := ?v2) rfl rfl (by kernel_rfl) (by kernel_rfl) (by kernel_rfl) (fun _ _ _ h => h) (by rfl) ?hy2 hHeld ?rest2
      case hy2 =>
        intro w hSw
        (try dsimp only at hSw)
        go_simp
        try with_reducible rfl
      simp only [Act.put, List.setIfInBounds_toArray, List.set_cons_zero, List.set_cons_succ]
      refine wpAnyH_yield (i := 3) (v := ?v3) rfl rfl (by kernel_rfl) (by kernel_rfl) (by kernel_rfl) (fun _ _ _ h => h) (by rfl) ?hy3 hHeld ?rest3
      case hy3 =>
        intro w hSw
        (try dsimp only at hSw)
        go_simp
        try with_reducible rfl
      simp only [Act.put, List.setIfInBounds_toArray, List.set_cons_zero, List.set_cons_succ]
      refine wpAnyH_yield (i := 4) (v := ?v4) rfl rfl (by kernel_rfl) (by kernel_rfl) (by kernel_rfl) (fun _ _ _ h => h) (by rfl) ?hy4 hHeld ?rest4
      case hy4 =>
        intro w hSw
        (try dsimp only at hSw)
        go_simp
        try with_reducible rfl
      simp only [Act.put, List.setIfInBounds_toArray, List.set_cons_zero, List.set_cons_succ]
      refine wpAnyH_yield (i := 5) (v := ?v5) rfl rfl (by kernel_rfl) (by kernel_rfl) (by kernel_rfl) (fun _ _ _ h => h) (by rfl) ?hy5 hHeld ?rest5
      case hy5 =>
        intro w hSw
        (try dsimp only at hSw)
        go_simp
        try with_reducible rfl
      simp only [Act.put, List.setIfInBounds_toArray, List.set_cons_zero, List.set_cons_succ]
      refine wpAnyH_yield (i := 7) (v := ?v7) rfl rfl (by kernel_rfl) (by kernel_rfl) (by kernel_rfl) (fun _ _ _ h => h) (by rfl) ?hy7 hHeld ?rest7
      case hy7 =>
        intro w hSw
        (try dsimp only at hSw)
        go_simp
        try with_reducible rfl
      simp only [Act.put, List.setIfInBounds_toArray, List.set_cons_zero, List.set_cons_succ]
      refine wpAnyH_yield (i := 8) (v := ?v8) rfl rfl (by kernel_rfl) (by kernel_rfl) (by kernel_rfl) (fun _ _ _ h => h) (by rfl) ?hy8 hHeld ?rest8
      case hy8 =>
        intro w hSw
        (try dsimp only at hSw)
        go_simp
        try with_reducible rfl
      simp only [Act.put, List.setIfInBounds_toArray, List.set_cons_zero, List.set_cons_succ]
      refine wpAnyH_ready (rs := [6]) (by kernel_rfl) (by simp) ?_
      refine AllReadyH.cons rfl (fun K hK => ?_) AllReadyH.nil
      go_simp
      refine (cloneE_any b l cc es WE.drew HEs.out HFe.out).mono ?_
      rintro e w4 ⟨g4, p4, rfl, hb4, hr4⟩
      have hB4 : Below WE.heap.size WE w4 := ((Below.refl WE.heap.size WE).drew).trans hb4
      have HB4 := Lib.hid hB4
      have HR4 : Hid (Row w4 H (.slice (some ⟨g4, 0, none⟩) es.length p4) es) := Lib.hid (hr4.low (by show H ≤ WE.heap.size; omega))
      clear hb4 hr4
      have f0 : w4.cell? ⟨E, 0, none⟩ = some (.int .i64 s0) := (hB4.cell (lt_of_cell e0)).trans e0
      have f1 : w4.cell? ⟨E, 1, none⟩ = some (.int .i64 s1) := (hB4.cell (lt_of_cell e1)).trans e1
      have f2 : w4.cell? ⟨E, 2, none⟩ = some (.int .i64 s2) := (hB4.cell (lt_of_cell e2)).trans e2
      have f3 : w4.cell? ⟨E, 3, none⟩ = some (.int .i64 s3) := (hB4.cell (lt_of_cell e3)).trans e3
      have f4 : w4.cell? ⟨E, 4, none⟩ = some (.slice b l cc) := (hB4.cell (lt_of_cell e4)).trans e4
      have f5 : w4.cell? ⟨E, 5, none⟩ = some (.int .u32 x) := (hB4.cell (lt_of_cell e5)).trans e5
      have HTs4 := Lib.hid (HTs.out.below (hBE.trans (hB4.mono hBE.size)))
      have HLen : Hid ((fillT ts k).length = len) := Lib.hid (by rw [fillT_len (by rw [H1.out]; omega)]; exact H1.out)
      obtain ⟨V9, g0, g1, g2, g3, g4', g5, _, _⟩ := HTs4.out.here (k := k) (by rw [HLen.out]; exact hkl)
      have z0 := HTs4.out.free (k * 6)
      have z1 := HTs4.out.free (k * 6 + 1)
      have z2 := HTs4.out.free (k * 6 + 2)
      have z3 := HTs4.out.free (k * 6 + 3)
      have z4 := HTs4.out.free (k * 6 + 4)
      have z5 := HTs4.out.free (k * 6 + 5)
      clear hB4
      go_wp2_with fail
      refine hK.out _ _ (⟨f0, f1, f2, f3, f4, f5⟩) (fun hHeld => ?_)
      clear hK K
      try simp only [Act.put, List.setIfInBounds_toArray, List.set_cons_zero, List.set_cons_succ]
      refine wpAnyH_yield (i := 9) (v := ?v9) rfl rfl (by kernel_rfl) (by kernel_rfl) (by kernel_rfl) (fun _ _ _ h => h) (by rfl) ?hy9 hHeld ?rest9
      case hy9 =>
        intro w hSw
        (try dsimp only at hSw)
        go_simp
        try with_reducible rfl
      simp only [Act.put, List.setIfInBounds_toArray, List.set_cons_zero, List.set_cons_succ]
      refine wpAnyH_yield (i := 10) (v := ?v10) rfl rfl (by kernel_rfl) (by kernel_rfl) (by kernel_rfl) (fun _ _ _ h => h) (by rfl) ?hy10 hHeld ?rest10
      case hy10 =>
        intro w hSw
        (try dsimp only at hSw)
        go_simp
        try with_reducible rfl
      simp only [Act.put, List.setIfInBounds_toArray, List.set_cons_zero, List.set_cons_succ]
      refine wpAnyH_ready (rs := [11]) (by kernel_rfl) (by simp) ?_
      refine AllReadyH.cons rfl (fun K hK => ?_) AllReadyH.nil
      go_simp
      have hN : ((((((w4.setCell ⟨L, k * 6, none⟩ (.int .i64 s0)).setCell ⟨L, k * 6 + 1, none⟩ (.int .i64 s1)).setCell ⟨L, k * 6 + 2, none⟩ (.int .i64 s2)).setCell ⟨L, k * 6 + 3, none⟩ (.int .i64 s3)).setCell ⟨L, k * 6 + 4, none⟩ (.slice (some ⟨g4, 0, none⟩) es.length p4)).setCell ⟨L, k * 6 + 5, none⟩ (.int .u32 x)) = set6 w4 L k ((s0, s1, s2, s3), es, x) (.slice (some ⟨g4, 0, none⟩) es.length p4) := rfl
      rw [hN]
      have hg6 := grown6 w4 L k ((s0, s1, s2, s3), es, x) (.slice (some ⟨g4, 0, none⟩) es.length p4)
      have HTs6 := Lib.hid (HTs4.out.put (k := k) (by rw [HLen.out]; exact hkl) (t := ((s0, s1, s2, s3), es, x)) HR4.out HX.out)
      have HP6 := Lib.hid (((HP.out.later hBE).later HB4.out).grown hg6 (fun e => by have : w.heap.size = L := Option.some.inj e; omega))
      have HR6 := Lib.hid (((HR.out.later hBE).later HB4.out).grown hg6 (fun e => by have : R = L := Option.some.inj e; omega))
      have HB6 := Lib.hid ((HB.out.trans ((hBE.trans (HB4.out.mono hBE.size)).mono HB.out.size)).grown hg6 (by have h1 := HB.out.size; have h2 := hBE.size; have h3 := HB4.out.size; omega) (fun j hj => by have : L = j := Option.some.inj hj; omega))
      have hne6 : ∀ j, (set6 w4 L k ((s0, s1, s2, s3), es, x) (.slice (some ⟨g4, 0, none⟩) es.length p4)).cell? ⟨E, j, none⟩ = w4.cell? ⟨E, j, none⟩ := fun j => by
        have h1 := hg6.block E (by have := lt_of_cell f0; exact this) (fun e => by have : E = L := Option.some.inj e; omega)
        simp only [World.cell?, h1]
      refine hK.out _ _ (⟨(hne6 0).trans f0, (hne6 1).trans f1, (hne6 2).trans f2, (hne6 3).trans f3, (hne6 4).trans f4, (hne6 5).trans f5⟩) (fun hHeld => ?_)
      clear hK K
      try simp only [Act.put, List.setIfInBounds_toArray, List.set_cons_zero, List.set_cons_succ]
      refine wpAnyH_done (by kernel_rfl) ?_ _
      have e9 : (fillT ts k).set k ((s0, s1, s2, s3), es, x) = fillT ts (k + 1) := by rw [← HIk.out]; exact fillT_step (by rw [H1.out]; exact hkl)
      rw [e9, hHL] at HTs6
      clear e9
      generalize hW6 : set6 w4 L k ((s0, s1, s2, s3), es, x) (.slice (some ⟨g4, 0, none⟩) es.length p4) = W6 at *
      clear hW6 hN hg6 hne6 f0 f1 f2 f3 f4 f5 g0 g1 g2 g3 g4' g5 z0 z1 z2 z3 z4 z5 e0 e1 e2 e3 e4 e5 hHeld
      go_wp2
      exact ⟨⟨k + 1, by omega, by go_num, HTs6, HP6, HR6, HB6⟩, by simp [intOf]; omega⟩
    · have hkI : ¬ (k : Int) < (len : Int) := by omega
      have hkn : k = len := by omega
      subst hkn
      rw [fillT_end (by rw [H1.out]; omega)] at HTs
      have z4 : wr.frozen? ⟨w.heap.size, 4, none⟩ = false := HP.out.free 4
      have d4 : wr.cell? ⟨w.heap.size, 4, none⟩ = some (.slice a k cap) := HP.out.cell rfl
      have HP2 := Lib.hid (HP.out.set 4 (.slice (some ⟨L, 0, none⟩) k k))
      have HR2 := Lib.hid (HR.out.other (p := ⟨w.heap.size, 4, none⟩) (by show R ≠ w.heap.size; omega) (.slice (some ⟨L, 0, none⟩) k k))
      have HB2 := Lib.hid (HB.out.setCell (p := ⟨w.heap.size, 4, none⟩) (by show w.heap.size ≤ w.heap.size; omega) (.slice (some ⟨L, 0, none⟩) k k))
      have HTs2 := Lib.hid (HTs.out.apart HP.out (by decide) (by decide) (by decide) (grownBy_setCell wr ⟨w.heap.size, 4, none⟩ (.slice (some ⟨L, 0, none⟩) k k)))
      obtain ⟨W2, hW2⟩ : ∃ W2, wr.setCell ⟨w.heap.size, 4, none⟩ (.slice (some ⟨L, 0, none⟩) k k) = W2 := ⟨_, rfl⟩
      rw [hW2] at HP2 HR2 HB2 HTs2
      have k0 : W2.cell? ⟨w.heap.size, 0, none⟩ = some (.int .u32 c0) := HP2.out.cell rfl
      have k1 : W2.cell? ⟨w.heap.size, 1, none⟩ = some (.int .u32 c1) := HP2.out.cell rfl
      have k2 : W2.cell? ⟨w.heap.size, 2, none⟩ = some (.int .u32 c2) := HP2.out.cell rfl
      have k3 : W2.cell? ⟨w.heap.size, 3, none⟩ = some (.int .u32 c3) := HP2.out.cell rfl
      have k4 : W2.cell? ⟨w.heap.size, 4, none⟩ = some (.slice (some ⟨L, 0, none⟩) k k) := HP2.out.cell rfl
      have k5 : W2.cell? ⟨w.heap.size, 5, none⟩ = some (.int .u32 sd) := HP2.out.cell rfl
      go_wp2_with (refine wpList_store_row rfl 29 _ _ rfl R _ rfl rfl 29 _ HR2.out (by kernel_rfl) rfl (by simp [Value.oneCell']) ?_)
      refine bodyPost_ret (v := envV (c0, c1, c2, c3) (.slice (some ⟨L, 0, none⟩) k k) sd) ?_ rfl ?_
      · exact results_cell_row Tryd.results104 _ _ R 29 _ (0, 0) _ rfl (setRow_heap _ _ _ _ _ _ HR2.out) Tryd.underlying29 rfl (by kernel_rfl)
      · have hlk : ts.length = k := H1.out
        refine ⟨L, by rw [hlk], below_setRow HB2.out (by omega) _, ?_⟩
        exact (HTs2.out.apart HR2.out (by decide) (by decide) (by decide) (grownBy_setRow _ _ _)).low (by omega)
end Go.Proofs.YtilddlgcfbefiaaDoor

/-
  What named, replace and replaceUnless of package helper do, zs contracts over the translated program.
-/
namespace Go.Proofs.YtilddlgcfbefiaaDoor
set_option linter.unusedSimpArgs false
set_option linter.unusedVariables false
open Go Go.RowKit
/- a call of a helper under way: its variable in block C, its tables in block g, its words -/
def Cs (w W : World) (C g : Nat) (c : Cx) (sd : Int) (ts : List Tb) (ab : Option Addr) (an ap : Nat) (zs : List Int) : Prop :=
  Below w.heap.size w W ∧ Box W C 158 #[.int .u32 c.1, .int .u32 c.2.1, .int .u32 c.2.2.1, .int .u32 c.2.2.2, .slice (some ⟨g, 0, none⟩) ts.length ts.length, .int .u32 sd, .slice ab an ap] ∧ w.heap.size ≤ C ∧ TabsO W w.heap.size g ts ∧ WordsAt w ab an ap zs
section
variable {w W W' : World} {C g : Nat} {c : Cx} {sd : Int} {ts : List Tb} {ab : Option Addr} {an ap : Nat} {zs : List Int}
theorem Cs.later (h : Cs w W C g c sd ts ab an ap zs) (hb : Below W.heap.size W W') : Cs w W' C g c sd ts ab an ap zs :=
  ⟨h.1.trans (hb.mono h.1.size), h.2.1.later hb, h.2.2.1, h.2.2.2.1.below hb, h.2.2.2.2⟩
theorem Cs.word (h : Cs w W C g c sd ts ab an ap zs) {j : Nat} (hj : j < an) : ∃ y, ab = some y ∧ W.cell? (y.add j) = some (.int .u32 (zs.getD j 0)) := by
  obtain ⟨y, hy, hc⟩ := h.2.2.2.2.2.2.2.2.resolve_left (by omega)
  exact ⟨y, hy, (h.1.cell (lt_of_cell (hc j hj))).trans (hc j hj)⟩
theorem Cs.put (h : Cs w W C g c sd ts ab an ap zs) {k : Nat} (hk : k < ts.length) {t : Tb} {V : Value} (hr : Row W w.heap.size V t.2.1) (hx : isW t.2.2) : Cs w (set6 W g k t V) C g c sd (ts.set k t) ab an ap zs := by
  obtain ⟨h1, h2, h3, h4, h5⟩ := h
  have hg := grown6 W g k t V
  have hgc : C ≠ g := fun e => by
    obtain ⟨_, cs, hb, _⟩ := h4
    have hb' : W.heap[g]? = some (.cells cs 42 (0, 0)) := hb
    have h2' : W.heap[C]? = _ := h2
    rw [e, hb'] at h2'
    simp at h2'
  refine ⟨h1.grown hg h1.size (fun j hj => by have : g = j := Option.some.inj hj; have := h4.1; omega), ?_, h3, h4.put hk hr hx, h5⟩
  rw [List.length_set]
  exact h2.grown hg (fun e => hgc (Option.some.inj e))
end
def NamedPost (t : Tb) (w : World) (e : Ending) (w' : World) : Prop := ∃ b l cc, e = .returned (tbV t.1 (.slice b l cc) t.2.2) ∧ Below w.heap.size w w' ∧ EntsAt w' b l cc t.2.1
set_option maxRecDepth 100000 in
set_option maxHeartbeats 8000000 in
theorem named_any (w0 w : World) (C g : Nat) (c : Cx) (sd : Int) (ts : List Tb) (ab : Option Addr) (an ap : Nat) (zs : List Int) (i : Nat) (h : Cs w0 w C g c sd ts ab an ap zs) (h0 : 0 < an) (hi : zs.getD 0 0 = (i : Int)) (hl : i < ts.length) (h40 : ts.length ≤ 40) :
    Calls Tryd.prog 119 #[.pointer (some ⟨C, 0, none⟩)] w (NamedPost (ts.getD i zeroT) w) := by
  rcases c with ⟨c0, c1, c2, c3⟩
  obtain ⟨y, rfl, hc⟩ := h.word h0
  rw [hi] at hc
  replace hc : w.cell? y = some (.int .u32 (i : Int)) := hc
  obtain ⟨n, hn⟩ : ∃ n, ts.length = n := ⟨_, rfl⟩
  rw [hn] at hl h40
  have HH := Lib.hid h
  have hB := h.2.1
  rw [hn] at hB
  rcases hti : ts.getD i zeroT with ⟨⟨s0, s1, s2, s3⟩, es, x⟩
  obtain ⟨V, t0, t1, t2, t3, t4, t5, _, hr⟩ := h.2.2.2.1.here (k := i) (by rw [hn]; exact hl)
  rw [hti] at t0 t1 t2 t3 t5 hr
  simp only at t0 t1 t2 t3 t5 hr
  obtain ⟨b, cc, rfl, hE⟩ := hr.at
  obtain ⟨l, hll⟩ : ∃ l, es.length = l := ⟨_, rfl⟩
  rw [hll] at t4 hE
  have HE := Lib.hid hE
  obtain ⟨W0, hW0⟩ : ∃ W0, w.alloc (.cells zeroTA 42) = W0 := ⟨_, rfl⟩
  obtain ⟨R, hR⟩ : ∃ R, w.heap.size = R := ⟨_, rfl⟩
  have hb0 : Below w.heap.size w W0 := by rw [← hW0]; exact (Below.refl _ _).alloc (Nat.le_refl _) _
  have hB0 : Box W0 R 42 zeroTA := by rw [← hW0, ← hR]; exact Box.new _ _ _
  have HB0 := Lib.hid hB0
  have Hb0 := Lib.hid hb0
  have HKp : Hid (∀ w', Below w.heap.size w w' → w'.cell? ⟨C, 4, none⟩ = some (.slice (some ⟨g, 0, none⟩) n n) ∧ w'.cell? ⟨C, 6, none⟩ = some (.slice (some y) an ap) ∧ w'.cell? y = some (.int .u32 (i : Int)) ∧ w'.cell? ⟨g, i * 6, none⟩ = some (.int .i64 s0) ∧ w'.cell? ⟨g, i * 6 + 1, none⟩ = some (.int .i64 s1) ∧ w'.cell? ⟨g, i * 6 + 2, none⟩ = some (.int .i64 s2) ∧ w'.cell? ⟨g, i * 6 + 3, none⟩ = some (.int .i64 s3) ∧ w'.cell? ⟨g, i * 6 + 4, none⟩ = some (.slice b l cc) ∧ w'.cell? ⟨g, i * 6 + 5, none⟩ = some (.int .u32 x)) := Lib.hid (fun w' hb => ⟨(hB.later hb).cell rfl, (hB.later hb).cell rfl, (hb.cell (lt_of_cell hc)).trans hc, (hb.cell (lt_of_cell t0)).trans t0, (hb.cell (lt_of_cell t1)).trans t1, (hb.cell (lt_of_cell t2)).trans t2, (hb.cell (lt_of_cell t3)).trans t3, (hb.cell (lt_of_cell t4)).trans t4, (hb.cell (lt_of_cell t5)).trans t5⟩)
  have hiI : (i : Int) < (n : Int) := by omega
  have hanI : (0 : Int) < (an : Int) := by omega
  clear hB t0 t1 t2 t3 t4 t5 hc hr hE h hti hb0 hB0
  go_enter Tryd.func119, Tryd.ntmps119
  go_wp2_with fail
  refine wp_region_held_drew (S := (fun w' => w'.cell? ⟨C, 4, none⟩ = some (.slice (some ⟨g, 0, none⟩) n n) ∧ w'.cell? ⟨C, 6, none⟩ = some (.slice (some y) an ap) ∧ w'.cell? y = some (.int .u32 (i : Int)) ∧ w'.cell? ⟨g, i * 6, none⟩ = some (.int .i64 s0) ∧ w'.cell? ⟨g, i * 6 + 1, none⟩ = some (.int .i64 s1) ∧ w'.cell? ⟨g, i * 6 + 2, none⟩ = some (.int .i64 s2) ∧ w'.cell? ⟨g, i * 6 + 3, none⟩ = some (.int .i64 s3) ∧ w'.cell? ⟨g, i * 6 + 4, none⟩ = some (.slice b l cc) ∧ w'.cell? ⟨g, i * 6 + 5, none⟩ = some (.int .u32 x))) (by kernel_rfl) (HKp.out _ Hb0.out.drew) (fun hHeld => ?_)
  refine wpAnyH_yield (i := 0) (v := ?v0) rfl rfl (by kernel_rfl) (by kernel_rfl) (by kernel_rfl) (fun _ _ _ h => h) (by rfl) ?hy0 hHeld ?rest0
  case hy0 =>
    intro w hSw
    (try dsimp only at hSw)
    go_simp
    try with_reducible rfl
  simp only [Act.put, List.setIfInBounds_toArray, List.set_cons_zero, List.set_cons_succ]
  refine wpAnyH_yield (i := 1) (v := ?v1) rfl rfl (by kernel_rfl) (by kernel_rfl) (by kernel_rfl) (fun _ _ _ h => h) (by rfl) ?hy1 hHeld ?rest1
  case hy1 =>
    intro w hSw
    (try dsimp only at hSw)
    go_simp
    try with_reducible rfl
  simp only [Act.put, List.setIfInBounds_toArray, List.set_cons_zero, List.set_cons_succ]
  refine wpAnyH_yield (i := 2) (v := ?v2) rfl rfl (by kernel_rfl) (by kernel_rfl) (by kernel_rfl) (fun _ _ _ h => h) (by rfl) ?hy2 hHeld ?rest2
  case hy2 =>
    intro w hSw
    (try dsimp only at hSw)
    go_simp
    try with_reducible rfl
  simp only [Act.put, List.setIfInBounds_toArray, List.set_cons_zero, List.set_cons_succ]
  refine wpAnyH_yield (i := 3) (v := ?v3) rfl rfl (by kernel_rfl) (by kernel_rfl) (by kernel_rfl) (fun _ _ _ h => h) (by rfl) ?hy3 hHeld ?rest3
  case hy3 =>
    intro w hSw
    (try dsimp only at hSw)
    go_simp
    try with_reducible rfl
  simp only [Act.put, List.setIfInBounds_toArray, List.set_cons_zero, List.set_cons_succ]
  refine wpAnyH_yield (i := 4) (v := ?v4) rfl rfl (by kernel_rfl) (by kernel_rfl) (by kernel_rfl) (fun _ _ _ h => h) (by rfl) ?hy4 hHeld ?rest4
  case hy4 =>
    intro w hSw
    (try dsimp only at hSw)
    go_simp
    try with_reducible rfl
  simp only [Act.put, List.setIfInBounds_toArray, List.set_cons_zero, List.set_cons_succ]
  refine wpAnyH_yield (i := 5) (v := ?v5) rfl rfl (by kernel_rfl) (by kernel_rfl) (by kernel_rfl) (fun _ _ _ h => h) (by rfl) ?hy5 hHeld ?rest5
  case hy5 =>
    intro w hSw
    (try dsimp only at hSw)
    go_simp
    try with_reducible rfl
  simp only [Act.put, List.setIfInBounds_toArray, List.set_cons_zero, List.set_cons_succ]
  refine wpAnyH_yield (i := 6) (v := ?v6) rfl rfl (by kernel_rfl) (by kernel_rfl) (by kernel_rfl) (fun _ _ _ h => h) (by rfl) ?hy6 hHeld ?rest6
  case hy6 =>
    intro w hSw
    (try dsimp only at hSw)
    go_simp
    try with_reducible rfl
  simp only [Act.put, List.setIfInBounds_toArray, List.set_cons_zero, List.set_cons_succ]
  refine wpAnyH_yield (i := 7) (v := ?v7) rfl rfl (by kernel_rfl) (by kernel_rfl) (by kernel_rfl) (fun _ _ _ h => h) (by rfl) ?hy7 hHeld ?rest7
  case hy7 =>
    intro w hSw
    (try dsimp only at hSw)
    go_simp
    try with_reducible rfl
  simp only [Act.put, List.setIfInBounds_toArray, List.set_cons_zero, List.set_cons_succ]
  refine wpAnyH_yield (i := 8) (v := ?v8) rfl rfl (by kernel_rfl) (by kernel_rfl) (by kernel_rfl) (fun _ _ _ h => h) (by rfl) ?hy8 hHeld ?rest8
  case hy8 =>
    intro w hSw
    (try dsimp only at hSw)
    go_simp
    try with_reducible rfl
  simp only [Act.put, List.setIfInBounds_toArray, List.set_cons_zero, List.set_cons_succ]
  refine wpAnyH_yield (i := 9) (v := ?v9) rfl rfl (by kernel_rfl) (by kernel_rfl) (by kernel_rfl) (fun _ _ _ h => h) (by rfl) ?hy9 hHeld ?rest9
  case hy9 =>
    intro w hSw
    (try dsimp only at hSw)
    go_simp
    try with_reducible rfl
  simp only [Act.put, List.setIfInBounds_toArray, List.set_cons_zero, List.set_cons_succ]
  refine wpAnyH_yield (i := 10) (v := ?v10) rfl rfl (by kernel_rfl) (by kernel_rfl) (by kernel_rfl) (fun _ _ _ h => h) (by rfl) ?hy10 hHeld ?rest10
  case hy10 =>
    intro w hSw
    (try dsimp only at hSw)
    go_simp
    try with_reducible rfl
  simp only [Act.put, List.setIfInBounds_toArray, List.set_cons_zero, List.set_cons_succ]
  refine wpAnyH_yield (i := 11) (v := ?v11) rfl rfl (by kernel_rfl) (by kernel_rfl) (by kernel_rfl) (fun _ _ _ h => h) (by rfl) ?hy11 hHeld ?rest11
  case hy11 =>
    intro w hSw
    (try dsimp only at hSw)
    go_simp
    try with_reducible rfl
  simp only [Act.put, List.setIfInBounds_toArray, List.set_cons_zero, List.set_cons_succ]
  refine wpAnyH_yield (i := 12) (v := ?v12) rfl rfl (by kernel_rfl) (by kernel_rfl) (by kernel_rfl) (fun _ _ _ h => h) (by rfl) ?hy12 hHeld ?rest12
  case hy12 =>
    intro w hSw
    (try dsimp only at hSw)
    go_simp
    try with_reducible rfl
  simp only [Act.put, List.setIfInBounds_toArray, List.set_cons_zero, List.set_cons_succ]
  refine wpAnyH_ready (rs := [13]) (by kernel_rfl) (by simp) ?_
  refine AllReadyH.cons rfl (fun K hK => ?_) AllReadyH.nil
  refine step_row _ (by rfl) 42 _ _ (by rfl) (by rfl) R #[.int .i64 s0, .int .i64 s1, .int .i64 s2, .int .i64 s3, .slice b l cc, .int .u32 x] (by rfl) (by rfl) 42 _ HB0.out (by kernel_rfl) rfl (by simp [Value.oneCell']) ?_
  have hbR : Below w.heap.size w (W0.drew.setRow R #[.int .i64 s0, .int .i64 s1, .int .i64 s2, .int .i64 s3, .slice b l cc, .int .u32 x]) := below_setRow Hb0.out.drew (by omega) _
  refine hK.out _ _ (HKp.out _ hbR) (fun hHeld => ?_)
  clear hK K
  try simp only [Act.put, List.setIfInBounds_toArray, List.set_cons_zero, List.set_cons_succ]
  refine wpAnyH_done (by kernel_rfl) ?_ _
  go_wp2_with fail
  refine bodyPost_ret (v := tbV (s0, s1, s2, s3) (.slice b l cc) x) ?_ rfl ?_
  · exact results_cell_row Tryd.results119 _ _ R 42 _ (0, 0) _ rfl (setRow_heap _ _ _ _ _ _ HB0.out) Tryd.underlying42 rfl (by kernel_rfl)
  · exact ⟨b, l, cc, rfl, hbR, HE.out.below hbR⟩
set_option maxRecDepth 100000 in
set_option maxHeartbeats 8000000 in
theorem replace_any (w0 w : World) (C g : Nat) (c : Cx) (sd : Int) (ts : List Tb) (ab : Option Addr) (an ap : Nat) (zs : List Int) (i : Nat) (h : Cs w0 w C g c sd ts ab an ap zs) (h0 : 0 < an) (hi : zs.getD 0 0 = (i : Int)) (hl : i < ts.length) (h40 : ts.length ≤ 40)
    (s : Sc) (b : Option Addr) (l cc : Nat) (es : List Ent) (x : Int) (hr : Row w w0.heap.size (.slice b l cc) es) (hx : isW x) :
    Calls Tryd.prog 128 #[.pointer (some ⟨C, 0, none⟩), tbV s (.slice b l cc) x] w fun e w' => e = .returned (.tuple #[]) ∧ Cs w0 w' C g c sd (ts.set i (s, es, x)) ab an ap zs := by
  rcases c with ⟨c0, c1, c2, c3⟩
  rcases s with ⟨s0, s1, s2, s3⟩
  obtain ⟨y, rfl, hc⟩ := h.word h0
  rw [hi] at hc
  replace hc : w.cell? y = some (.int .u32 (i : Int)) := hc
  obtain ⟨n, hn⟩ : ∃ n, ts.length = n := ⟨_, rfl⟩
  rw [hn] at hl h40
  have HNn := Lib.hid hn
  obtain ⟨W0, hW0⟩ : ∃ W0, w.alloc (.cells #[.int .i64 s0, .int .i64 s1, .int .i64 s2, .int .i64 s3, .slice b l cc, .int .u32 x] 42) = W0 := ⟨_, rfl⟩
  obtain ⟨P, hP⟩ : ∃ P, w.heap.size = P := ⟨_, rfl⟩
  have hb0 : Below w.heap.size w W0 := by rw [← hW0]; exact (Below.refl _ _).alloc (Nat.le_refl _) _
  have hB0 : Box W0 P 42 #[.int .i64 s0, .int .i64 s1, .int .i64 s2, .int .i64 s3, .slice b l cc, .int .u32 x] := by rw [← hW0, ← hP]; exact Box.new _ _ _
  have HC0 := Lib.hid (h.later hb0)
  have HRo := Lib.hid (hr.below hb0)
  have HX := Lib.hid hx
  have hB := HC0.out.2.1
  rw [hn] at hB
  have hcy := (hb0.cell (lt_of_cell hc)).trans hc
  have HKp : Hid (∀ w', Below W0.heap.size W0 w' → w'.cell? ⟨C, 4, none⟩ = some (.slice (some ⟨g, 0, none⟩) n n) ∧ w'.cell? ⟨C, 6, none⟩ = some (.slice (some y) an ap) ∧ w'.cell? y = some (.int .u32 (i : Int)) ∧ w'.cell? ⟨P, 0, none⟩ = some (.int .i64 s0) ∧ w'.cell? ⟨P, 1, none⟩ = some (.int .i64 s1) ∧ w'.cell? ⟨P, 2, none⟩ = some (.int .i64 s2) ∧ w'.cell? ⟨P, 3, none⟩ = some (.int .i64 s3) ∧ w'.cell? ⟨P, 4, none⟩ = some (.slice b l cc) ∧ w'.cell? ⟨P, 5, none⟩ = some (.int .u32 x)) := Lib.hid (fun w' hb => ⟨(hB.later hb).cell rfl, (hB.later hb).cell rfl, (hb.cell (lt_of_cell hcy)).trans hcy, (hB0.later hb).cell rfl, (hB0.later hb).cell rfl, (hB0.later hb).cell rfl, (hB0.later hb).cell rfl, (hB0.later hb).cell rfl, (hB0.later hb).cell rfl⟩)
  have hgl : g < P := by rw [← hP]; exact h.2.2.2.1.lt
  have hnP : P ≠ g := by omega
  have hnC : C ≠ g := fun e => by
    obtain ⟨_, cs, hb, _⟩ := HC0.out.2.2.2.1
    have hb' : W0.heap[g]? = some (.cells cs 42 (0, 0)) := hb
    have h2' : W0.heap[C]? = _ := HC0.out.2.1
    rw [e, hb'] at h2'
    simp at h2'
  have hnY : y.block ≠ g := by
    have h1 := h.2.2.2.2.2.2.2.2.resolve_left (by omega)
    obtain ⟨y', hy', hc'⟩ := h1
    obtain rfl := Option.some.inj hy'
    have h2 : y.block < w0.heap.size := lt_of_cell (hc' 0 h0)
    have h3 := h.2.2.2.1.1
    omega
  obtain ⟨V9, g0, g1, g2, g3, g4, g5, _, _⟩ := HC0.out.2.2.2.1.here (k := i) (by rw [hn]; exact hl)
  have z0 := HC0.out.2.2.2.1.free (i * 6)
  have z1 := HC0.out.2.2.2.1.free (i * 6 + 1)
  have z2 := HC0.out.2.2.2.1.free (i * 6 + 2)
  have z3 := HC0.out.2.2.2.1.free (i * 6 + 3)
  have z4 := HC0.out.2.2.2.1.free (i * 6 + 4)
  have z5 := HC0.out.2.2.2.1.free (i * 6 + 5)
  have hiI : (i : Int) < (n : Int) := by omega
  have hanI : (0 : Int) < (an : Int) := by omega
  clear hB hc hcy hr h hb0 hB0 hi hx hn
  go_enter Tryd.func128, Tryd.ntmps128
  go_wp2_with fail
  refine wp_region_held_drew (S := (fun w' => w'.cell? ⟨C, 4, none⟩ = some (.slice (some ⟨g, 0, none⟩) n n) ∧ w'.cell? ⟨C, 6, none⟩ = some (.slice (some y) an ap) ∧ w'.cell? y = some (.int .u32 (i : Int)) ∧ w'.cell? ⟨P, 0, none⟩ = some (.int .i64 s0) ∧ w'.cell? ⟨P, 1, none⟩ = some (.int .i64 s1) ∧ w'.cell? ⟨P, 2, none⟩ = some (.int .i64 s2) ∧ w'.cell? ⟨P, 3, none⟩ = some (.int .i64 s3) ∧ w'.cell? ⟨P, 4, none⟩ = some (.slice b l cc) ∧ w'.cell? ⟨P, 5, none⟩ = some (.int .u32 x))) (by kernel_rfl) (HKp.out _ (Below.refl _ _).drew) (fun hHeld => ?_)
  refine wpAnyH_yield (i := 0) (v := ?v0) rfl rfl (by kernel_rfl) (by kernel_rfl) (by kernel_rfl) (fun _ _ _ h => h) (by rfl) ?hy0 hHeld ?rest0
  case hy0 =>
    intro w hSw
    (try dsimp only at hSw)
    go_simp
    try with_reducible rfl
  simp only [Act.put, List.setIfInBounds_toArray, List.set_cons_zero, List.set_cons_succ]
  refine wpAnyH_yield (i := 1) (v := ?v1) rfl rfl (by kernel_rfl) (by kernel_rfl) (by kernel_rfl) (fun _ _ _ h => h) (by rfl) ?hy1 hHeld ?rest1
  case hy1 =>
    intro w hSw
    (try dsimp only at hSw)
    go_simp
    try with_reducible rfl
  simp only [Act.put, List.setIfInBounds_toArray, List.set_cons_zero, List.set_cons_succ]
  refine wpAnyH_yield (i := 2) (v := ?v2) rfl rfl (by kernel_rfl) (by kernel_rfl) (by kernel_rfl) (fun _ _ _ h => h) (by rfl) ?hy2 hHeld ?rest2
  case hy2 =>
    intro w hSw
    (try dsimp only at hSw)
    go_simp
    try with_reducible rfl
  simp only [Act.put, List.setIfInBounds_toArray, List.set_cons_zero, List.set_cons_succ]
  refine wpAnyH_yield (i := 3) (v := ?v3) rfl rfl (by kernel_rfl) (by kernel_rfl) (by kernel_rfl) (fun _ _ _ h => h) (by rfl) ?hy3 hHeld ?rest3
  case hy3 =>
    intro w hSw
    (try dsimp only at hSw)
    go_simp
    try with_reducible rfl
  simp only [Act.put, List.setIfInBounds_toArray, List.set_cons_zero, List.set_cons_succ]
  refine wpAnyH_yield (i := 4) (v := ?v4) rfl rfl (by kernel_rfl) (by kernel_rfl) (by kernel_rfl) (fun _ _ _ h => h) (by rfl) ?hy4 hHeld ?rest4
  case hy4 =>
    intro w hSw
    (try dsimp only at hSw)
    go_simp
    try with_reducible rfl
  simp only [Act.put, List.setIfInBounds_toArray, List.set_cons_zero, List.set_cons_succ]
  refine wpAnyH_yield (i := 5) (v := ?v5) rfl rfl (by kernel_rfl) (by kernel_rfl) (by kernel_rfl) (fun _ _ _ h => h) (by rfl) ?hy5 hHeld ?rest5
  case hy5 =>
    intro w hSw
    (try dsimp only at hSw)
    go_simp
    try with_reducible rfl
  simp only [Act.put, List.setIfInBounds_toArray, List.set_cons_zero, List.set_cons_succ]
  refine wpAnyH_yield (i := 6) (v := ?v6) rfl rfl (by kernel_rfl) (by kernel_rfl) (by kernel_rfl) (fun _ _ _ h => h) (by rfl) ?hy6 hHeld ?rest6
  case hy6 =>
    intro w hSw
    (try dsimp only at hSw)
    go_simp
    try with_reducible rfl
  simp only [Act.put, List.setIfInBounds_toArray, List.set_cons_zero, List.set_cons_succ]
  refine wpAnyH_yield (i := 7) (v := ?v7) rfl rfl (by kernel_rfl) (by kernel_rfl) (by kernel_rfl) (fun _ _ _ h => h) (by rfl) ?hy7 hHeld ?rest7
  case hy7 =>
    intro w hSw
    (try dsimp only at hSw)
    go_simp
    try with_reducible rfl
  simp only [Act.put, List.setIfInBounds_toArray, List.set_cons_zero, List.set_cons_succ]
  refine wpAnyH_yield (i := 8) (v := ?v8) rfl rfl (by kernel_rfl) (by kernel_rfl) (by kernel_rfl) (fun _ _ _ h => h) (by rfl) ?hy8 hHeld ?rest8
  case hy8 =>
    intro w hSw
    (try dsimp only at hSw)
    go_simp
    try with_reducible rfl
  simp only [Act.put, List.setIfInBounds_toArray, List.set_cons_zero, List.set_cons_succ]
  refine wpAnyH_yield (i := 9) (v := ?v9) rfl rfl (by kernel_rfl) (by kernel_rfl) (by kernel_rfl) (fun _ _ _ h => h) (by rfl) ?hy9 hHeld ?rest9
  case hy9 =>
    intro w hSw
    (try dsimp only at hSw)
    go_simp
    try with_reducible rfl
  simp only [Act.put, List.setIfInBounds_toArray, List.set_cons_zero, List.set_cons_succ]
  refine wpAnyH_yield (i := 10) (v := ?v10) rfl rfl (by kernel_rfl) (by kernel_rfl) (by kernel_rfl) (fun _ _ _ h => h) (by rfl) ?hy10 hHeld ?rest10
  case hy10 =>
    intro w hSw
    (try dsimp only at hSw)
    go_simp
    try with_reducible rfl
  simp only [Act.put, List.setIfInBounds_toArray, List.set_cons_zero, List.set_cons_succ]
  refine wpAnyH_yield (i := 11) (v := ?v11) rfl rfl (by kernel_rfl) (by kernel_rfl) (by kernel_rfl) (fun _ _ _ h => h) (by rfl) ?hy11 hHeld ?rest11
  case hy11 =>
    intro w hSw
    (try dsimp only at hSw)
    go_simp
    try with_reducible rfl
  simp only [Act.put, List.setIfInBounds_toArray, List.set_cons_zero, List.set_cons_succ]
  refine wpAnyH_yield (i := 12) (v := ?v12) rfl rfl (by kernel_rfl) (by kernel_rfl) (by kernel_rfl) (fun _ _ _ h => h) (by rfl) ?hy12 hHeld ?rest12
  case hy12 =>
    intro w hSw
    (try dsimp only at hSw)
    go_simp
    try with_reducible rfl
  simp only [Act.put, List.setIfInBounds_toArray, List.set_cons_zero, List.set_cons_succ]
  refine wpAnyH_ready (rs := [13]) (by kernel_rfl) (by simp) ?_
  refine AllReadyH.cons rfl (fun K hK => ?_) AllReadyH.nil
  go_simp
  have hN : ((((((W0.setCell ⟨g, i * 6, none⟩ (.int .i64 s0)).setCell ⟨g, i * 6 + 1, none⟩ (.int .i64 s1)).setCell ⟨g, i * 6 + 2, none⟩ (.int .i64 s2)).setCell ⟨g, i * 6 + 3, none⟩ (.int .i64 s3)).setCell ⟨g, i * 6 + 4, none⟩ (.slice b l cc)).setCell ⟨g, i * 6 + 5, none⟩ (.int .u32 x)) = set6 W0 g i ((s0, s1, s2, s3), es, x) (.slice b l cc) := rfl
  rw [hN]
  have HC6 := Lib.hid ((HC0.out.put (k := i) (by rw [HNn.out]; exact hl) (t := ((s0, s1, s2, s3), es, x)) HRo.out HX.out).later (Below.refl _ _).drew)
  have hS6 : (fun w' => w'.cell? ⟨C, 4, none⟩ = some (.slice (some ⟨g, 0, none⟩) n n) ∧ w'.cell? ⟨C, 6, none⟩ = some (.slice (some y) an ap) ∧ w'.cell? y = some (.int .u32 (i : Int)) ∧ w'.cell? ⟨P, 0, none⟩ = some (.int .i64 s0) ∧ w'.cell? ⟨P, 1, none⟩ = some (.int .i64 s1) ∧ w'.cell? ⟨P, 2, none⟩ = some (.int .i64 s2) ∧ w'.cell? ⟨P, 3, none⟩ = some (.int .i64 s3) ∧ w'.cell? ⟨P, 4, none⟩ = some (.slice b l cc) ∧ w'.cell? ⟨P, 5, none⟩ = some (.int .u32 x)) ((set6 W0 g i ((s0, s1, s2, s3), es, x) (.slice b l cc)).drew) := by
    obtain ⟨a1, a2, a3, a4, a5, a6, a7, a8, a9⟩ := HKp.out _ (Below.refl W0.heap.size W0)
    exact ⟨cell6_far a1 hnC, cell6_far a2 hnC, cell6_far a3 hnY, cell6_far a4 hnP, cell6_far a5 hnP, cell6_far a6 hnP, cell6_far a7 hnP, cell6_far a8 hnP, cell6_far a9 hnP⟩
  refine hK.out _ _ (hS6) (fun hHeld => ?_)
  clear hK K
  try simp only [Act.put, List.setIfInBounds_toArray, List.set_cons_zero, List.set_cons_succ]
  refine wpAnyH_done (by kernel_rfl) ?_ _
  go_wp2_with fail
  refine bodyPost_end (results_none rfl _ _ _) rfl ?_
  exact ⟨rfl, HC6.out⟩
end Go.Proofs.YtilddlgcfbefiaaDoor

/-
  What replaceUnless, set, push and draw of package helper do, as contracts over the translated program.
-/
namespace Go.Proofs.YtilddlgcfbefiaaDoor
set_option linter.unusedSimpArgs false
set_option linter.unusedVariables false
open Go Go.RowKit
set_option maxRecDepth 100000 in
set_option maxHeartbeats 8000000 in
theorem unless_any (w0 w : World) (C g : Nat) (c : Cx) (sd : Int) (ts : List Tb) (ab : Option Addr) (an ap : Nat) (zs : List Int) (i : Nat) (h : Cs w0 w C g c sd ts ab an ap zs) (h0 : 0 < an) (hi : zs.getD 0 0 = (i : Int)) (hl : i < ts.length) (h40 : ts.length ≤ 40)
    (s : Sc) (b : Option Addr) (l cc : Nat) (es : List Ent) (x r : Int) (hr : Row w w0.heap.size (.slice b l cc) es) (hx : isW x) (hr0 : 0 ≤ r) (hr9 : r ≤ 100) :
    Calls Tryd.prog 129 #[.pointer (some ⟨C, 0, none⟩), tbV s (.slice b l cc) x, .int .i64 r] w fun e w' => e = .returned (.int .u32 r) ∧ Cs w0 w' C g c sd (if r = 0 then ts.set i (s, es, x) else ts) ab an ap zs := by
  rcases s with ⟨s0, s1, s2, s3⟩
  obtain ⟨W0, hW0⟩ : ∃ W0, w.alloc (.cells #[.int .i64 s0, .int .i64 s1, .int .i64 s2, .int .i64 s3, .slice b l cc, .int .u32 x] 42) = W0 := ⟨_, rfl⟩
  have hb0 : Below w.heap.size w W0 := by rw [← hW0]; exact (Below.refl _ _).alloc (Nat.le_refl _) _
  have hB0 : Box W0 w.heap.size 42 #[.int .i64 s0, .int .i64 s1, .int .i64 s2, .int .i64 s3, .slice b l cc, .int .u32 x] := by rw [← hW0]; exact Box.new _ _ _
  have HC0 := Lib.hid (h.later hb0)
  have HRo := Lib.hid (hr.below hb0)
  have HX := Lib.hid hx
  have HI := Lib.hid hi
  have HL := Lib.hid hl
  have H4 := Lib.hid h40
  have hrw : IntKind.u32.wrap r = r := by rw [wW]; omega
  obtain ⟨k0, k1, k2, k3, k4, k5⟩ := Box.tb (s := (s0, s1, s2, s3)) hB0
  simp only at k0 k1 k2 k3 k4 k5
  clear h hr hx hi hl h40 hb0 hB0
  by_cases hr1 : r = 0
  · subst hr1
    rw [if_pos rfl]
    have hq : ((0 : Int) == 0) = true := by simp
    go_enter Tryd.func129, Tryd.ntmps129
    go_wp2_with fail
    refine (replace_any w0 W0 C g c sd ts ab an ap zs i HC0.out h0 HI.out HL.out H4.out (s0, s1, s2, s3) b l cc es x HRo.out HX.out).mono ?_
    rintro e w1 ⟨rfl, hc1⟩
    have HC1 := Lib.hid hc1
    clear hc1 k0 k1 k2 k3 k4 k5
    go_wp2_with fail
    go_ret
    exact ⟨rfl, HC1.out⟩
  · rw [if_neg hr1]
    have hq : (r == 0) = false := by simpa using hr1
    clear hr1
    go_enter Tryd.func129, Tryd.ntmps129
    go_wp2_with fail
    go_ret
    exact ⟨by first | rfl | (simp [hrw]), HC0.out⟩
theorem draw_m (w0 w : World) (C g : Nat) (c : Cx) (sd : Int) (ts : List Tb) (ab : Option Addr) (an ap : Nat) (zs : List Int) (h : Cs w0 w C g c sd ts ab an ap zs) (hs : isW sd) :
    Calls Tryd.prog 125 #[.pointer (some ⟨C, 0, none⟩)] w fun e w' => e = .returned (.int .u32 (drawP sd)) ∧ Cs w0 w' C g c (drawP sd) ts ab an ap zs := by
  rcases c with ⟨c0, c1, c2, c3⟩
  have hB := h.2.1
  have HB := Lib.hid hB
  have k5 : w.cell? ⟨C, 5, none⟩ = some (.int .u32 sd) := hB.cell rfl
  have z5 : w.frozen? ⟨C, 5, none⟩ = false := hB.free 5
  have hB2 := hB.set 5 (.int .u32 (drawP sd))
  have HC2 : Hid (Cs w0 (w.setCell ⟨C, 5, none⟩ (.int .u32 (drawP sd))) C g (c0, c1, c2, c3) (drawP sd) ts ab an ap zs) := Lib.hid (by
    have hg := grownBy_setCell w ⟨C, 5, none⟩ (.int .u32 (drawP sd))
    refine ⟨h.1.grown hg h.1.size (fun k hk => by have : C = k := Option.some.inj hk; have := h.2.2.1; omega), ?_, h.2.2.1, h.2.2.2.1.apart hB (by decide) (by decide) (by decide) hg, h.2.2.2.2⟩
    exact hB2)
  have k5' : (w.setCell ⟨C, 5, none⟩ (.int .u32 (drawP sd))).cell? ⟨C, 5, none⟩ = some (.int .u32 (drawP sd)) := HC2.out.2.1.cell rfl
  clear h hB hB2
  go_enter Tryd.func125, Tryd.ntmps125
  go_wp2_with fail
  refine (draw_any sd w).mono ?_
  rintro e w1 ⟨rfl, rfl⟩
  go_wp2_with fail
  go_ret
  exact ⟨rfl, HC2.out⟩
end Go.Proofs.YtilddlgcfbefiaaDoor

/-
  What the methods set and push of package helper do, as contracts over the translated program.
-/
namespace Go.Proofs.YtilddlgcfbefiaaDoor
set_option linter.unusedSimpArgs false
set_option linter.unusedVariables false
open Go Go.RowKit
theorem set_rng (t : Tb) (key f v : Int) : 0 ≤ (setT t key f v).2 ∧ (setT t key f v).2 ≤ 100 := by
  unfold setT
  repeat' split
  all_goals simp
theorem push_rng (t : Tb) (v : Int) : 0 ≤ (pushT t v).2 ∧ (pushT t v).2 ≤ 100 := by
  unfold pushT
  repeat' split
  all_goals simp
theorem set_nw {t : Tb} (key f v : Int) (h : isW t.2.2) : isW (setT t key f v).1.2.2 := by
  by_cases h0 : (setT t key f v).2 = 0
  · rw [set_next h0]; exact h
  · rw [set_no h0]; exact isW_zero
theorem push_nw {t : Tb} (v : Int) (h : isW t.2.2) : isW (pushT t v).1.2.2 := by
  unfold pushT
  split
  · split
    · exact isW_zero
    · show isW ((t.2.2 + 1) % 4294967296)
      exact ⟨by omega, by omega⟩
  · exact isW_zero
theorem list_put {ts : List Tb} {i : Nat} (hi : i < ts.length) : ts.set i (ts.getD i zeroT) = ts := by
  apply List.ext_getElem?
  intro j
  by_cases hj : i = j
  · subst hj
    simp [List.getD_eq_getElem?_getD, hi]
  · rw [List.getElem?_set_ne hj]
theorem Cs.next {w W : World} {C g : Nat} {c : Cx} {sd : Int} {ts : List Tb} {ab : Option Addr} {an ap : Nat} {zs : List Int} (h : Cs w W C g c sd ts ab an ap zs) {k : Nat} (hk : k < ts.length) : isW (ts.getD k zeroT).2.2 := by
  obtain ⟨_, _, _, _, _, _, _, hx, _⟩ := h.2.2.2.1.here hk
  exact hx
theorem Cs.isw {w W : World} {C g : Nat} {c : Cx} {sd : Int} {ts : List Tb} {ab : Option Addr} {an ap : Nat} {zs : List Int} (h : Cs w W C g c sd ts ab an ap zs) (k : Nat) : isW (zs.getD k 0) := wordL_getD h.2.2.2.2.2.2.2.1 k
set_option maxRecDepth 100000 in
set_option maxHeartbeats 8000000 in
theorem set_m (w0 w : World) (C g : Nat) (c : Cx) (sd : Int) (ts : List Tb) (ab : Option Addr) (an ap : Nat) (zs : List Int) (i : Nat) (h : Cs w0 w C g c sd ts ab an ap zs) (h4 : an = 4) (hi : zs.getD 0 0 = (i : Int)) (hl : i < ts.length) (h40 : ts.length ≤ 40) (hf : fewE (ts.getD i zeroT).2.1) :
    Calls Tryd.prog 122 #[.pointer (some ⟨C, 0, none⟩)] w fun e w' => e = .returned (.int .u32 (opP 1 (ts.getD i zeroT) zs).2) ∧ Cs w0 w' C g c sd (ts.set i (opP 1 (ts.getD i zeroT) zs).1) ab an ap zs := by
  have h0 : 0 < an := by omega
  obtain ⟨y, rfl, _⟩ := h.word h0
  obtain ⟨a1, ha1⟩ : ∃ a1, zs.getD 1 0 = a1 := ⟨_, rfl⟩
  obtain ⟨a2, ha2⟩ : ∃ a2, zs.getD 2 0 = a2 := ⟨_, rfl⟩
  obtain ⟨a3, ha3⟩ : ∃ a3, zs.getD 3 0 = a3 := ⟨_, rfl⟩
  have HW1 : Hid (isW a1) := Lib.hid (by rw [← ha1]; exact h.isw 1)
  have HW2 : Hid (isW a2) := Lib.hid (by rw [← ha2]; exact h.isw 2)
  have HW3 : Hid (isW a3) := Lib.hid (by rw [← ha3]; exact h.isw 3)
  have HKp : Hid (∀ w' sd' ts', Cs w0 w' C g c sd' ts' (some y) an ap zs → w'.cell? ⟨C, 6, none⟩ = some (.slice (some y) an ap) ∧ w'.cell? ⟨y.block, y.off + 1, none⟩ = some (.int .u32 a1) ∧ w'.cell? ⟨y.block, y.off + 2, none⟩ = some (.int .u32 a2) ∧ w'.cell? ⟨y.block, y.off + 3, none⟩ = some (.int .u32 a3)) := Lib.hid (fun w' sd' ts' hc => ⟨hc.2.1.cell rfl, by have h9 := (hc.word (j := 1) (by omega)); obtain ⟨y', e1, e2⟩ := h9; obtain rfl := Option.some.inj e1; rw [ha1] at e2; exact e2, by have h9 := (hc.word (j := 2) (by omega)); obtain ⟨y', e1, e2⟩ := h9; obtain rfl := Option.some.inj e1; rw [ha2] at e2; exact e2, by have h9 := (hc.word (j := 3) (by omega)); obtain ⟨y', e1, e2⟩ := h9; obtain rfl := Option.some.inj e1; rw [ha3] at e2; exact e2⟩)
  have HC := Lib.hid h
  have HI := Lib.hid hi
  have HL := Lib.hid hl
  have H4 := Lib.hid h40
  have HX := Lib.hid (h.next hl)
  have HF := Lib.hid hf
  rcases hti : ts.getD i zeroT with ⟨⟨s0, s1, s2, s3⟩, es, x⟩
  rw [hti] at HX HF
  simp only at HX HF
  have HTi := Lib.hid hti
  have hop : opP 1 ((s0, s1, s2, s3), es, x) zs = (if (setT ((s0, s1, s2, s3), es, x) a1 a2 a3).2 = 0 then (setT ((s0, s1, s2, s3), es, x) a1 a2 a3).1 else ((s0, s1, s2, s3), es, x), (setT ((s0, s1, s2, s3), es, x) a1 a2 a3).2) := by rw [opP, if_neg (by omega), if_pos rfl, ha1, ha2, ha3]
  have hrg := set_rng ((s0, s1, s2, s3), es, x) a1 a2 a3
  have hnw := set_nw (t := ((s0, s1, s2, s3), es, x)) a1 a2 a3 HX.out
  rcases hg : setT ((s0, s1, s2, s3), es, x) a1 a2 a3 with ⟨⟨⟨d0, d1, d2, d3⟩, de, dx⟩, dr⟩
  rw [hg] at hop hrg hnw
  simp only at hrg hnw
  have HOp := Lib.hid hop
  have HG := Lib.hid hg
  have HN := Lib.hid hnw
  clear hop hg hnw h hi hl h40 hf hti ha1 ha2 ha3
  go_enter Tryd.func122, Tryd.ntmps122
  go_wp2_with fail
  refine wp_region_held_drew (S := (fun w' => w'.cell? ⟨C, 6, none⟩ = some (.slice (some y) an ap) ∧ w'.cell? ⟨y.block, y.off + 1, none⟩ = some (.int .u32 a1) ∧ w'.cell? ⟨y.block, y.off + 2, none⟩ = some (.int .u32 a2) ∧ w'.cell? ⟨y.block, y.off + 3, none⟩ = some (.int .u32 a3))) (by kernel_rfl) (HKp.out _ _ _ (HC.out.later (Below.refl _ _).drew)) (fun hHeld => ?_)
  refine wpAnyH_yield (i := 0) (v := ?v0) rfl rfl (by kernel_rfl) (by kernel_rfl) (by kernel_rfl) (fun _ _ _ h => h) (by rfl) ?hy0 hHeld ?rest0
  case hy0 =>
    intro w hSw
    (try dsimp only at hSw)
    go_simp
    try with_reducible rfl
  simp only [Act.put, List.setIfInBounds_toArray, List.set_cons_zero, List.set_cons_succ]
  refine wpAnyH_yield (i := 1) (v := ?v1) rfl rfl (by kernel_rfl) (by kernel_rfl) (by kernel_rfl) (fun _ _ _ h => h) (by rfl) ?hy1 hHeld ?rest1
  case hy1 =>
    intro w hSw
    (try dsimp only at hSw)
    go_simp
    try with_reducible rfl
  simp only [Act.put, List.setIfInBounds_toArray, List.set_cons_zero, List.set_cons_succ]
  refine wpAnyH_yield (i := 3) (v := ?v3) rfl rfl (by kernel_rfl) (by kernel_rfl) (by kernel_rfl) (fun _ _ _ h => h) (by rfl) ?hy3 hHeld ?rest3
  case hy3 =>
    intro w hSw
    (try dsimp only at hSw)
    go_simp
    try with_reducible rfl
  simp only [Act.put, List.setIfInBounds_toArray, List.set_cons_zero, List.set_cons_succ]
  refine wpAnyH_yield (i := 4) (v := ?v4) rfl rfl (by kernel_rfl) (by kernel_rfl) (by kernel_rfl) (fun _ _ _ h => h) (by rfl) ?hy4 hHeld ?rest4
  case hy4 =>
    intro w hSw
    (try dsimp only at hSw)
    go_simp
    try with_reducible rfl
  simp only [Act.put, List.setIfInBounds_toArray, List.set_cons_zero, List.set_cons_succ]
  refine wpAnyH_yield (i := 5) (v := ?v5) rfl rfl (by kernel_rfl) (by kernel_rfl) (by kernel_rfl) (fun _ _ _ h => h) (by rfl) ?hy5 hHeld ?rest5
  case hy5 =>
    intro w hSw
    (try dsimp only at hSw)
    go_simp
    try with_reducible rfl
  simp only [Act.put, List.setIfInBounds_toArray, List.set_cons_zero, List.set_cons_succ]
  refine wpAnyH_yield (i := 6) (v := ?v6) rfl rfl (by kernel_rfl) (by kernel_rfl) (by kernel_rfl) (fun _ _ _ h => h) (by rfl) ?hy6 hHeld ?rest6
  case hy6 =>
    intro w hSw
    (try dsimp only at hSw)
    go_simp
    try with_reducible rfl
  simp only [Act.put, List.setIfInBounds_toArray, List.set_cons_zero, List.set_cons_succ]
  refine wpAnyH_yield (i := 7) (v := ?v7) rfl rfl (by kernel_rfl) (by kernel_rfl) (by kernel_rfl) (fun _ _ _ h => h) (by rfl) ?hy7 hHeld ?rest7
  case hy7 =>
    intro w hSw
    (try dsimp only at hSw)
    go_simp
    try with_reducible rfl
  simp only [Act.put, List.setIfInBounds_toArray, List.set_cons_zero, List.set_cons_succ]
  refine wpAnyH_yield (i := 8) (v := ?v8) rfl rfl (by kernel_rfl) (by kernel_rfl) (by kernel_rfl) (fun _ _ _ h => h) (by rfl) ?hy8 hHeld ?rest8
  case hy8 =>
    intro w hSw
    (try dsimp only at hSw)
    go_simp
    try with_reducible rfl
  simp only [Act.put, List.setIfInBounds_toArray, List.set_cons_zero, List.set_cons_succ]
  refine wpAnyH_yield (i := 9) (v := ?v9) rfl rfl (by kernel_rfl) (by kernel_rfl) (by kernel_rfl) (fun _ _ _ h => h) (by rfl) ?hy9 hHeld ?rest9
  case hy9 =>
    intro w hSw
    (try dsimp only at hSw)
    go_simp
    try with_reducible rfl
  simp only [Act.put, List.setIfInBounds_toArray, List.set_cons_zero, List.set_cons_succ]
  refine wpAnyH_yield (i := 10) (v := ?v10) rfl rfl (by kernel_rfl) (by kernel_rfl) (by kernel_rfl) (fun _ _ _ h => h) (by rfl) ?hy10 hHeld ?rest10
  case hy10 =>
    intro w hSw
    (try dsimp only at hSw)
    go_simp
    try with_reducible rfl
  simp only [Act.put, List.setIfInBounds_toArray, List.set_cons_zero, List.set_cons_succ]
  refine wpAnyH_yield (i := 11) (v := ?v11) rfl rfl (by kernel_rfl) (by kernel_rfl) (by kernel_rfl) (fun _ _ _ h => h) (by rfl) ?hy11 hHeld ?rest11
  case hy11 =>
    intro w hSw
    (try dsimp only at hSw)
    go_simp
    try with_reducible rfl
  simp only [Act.put, List.setIfInBounds_toArray, List.set_cons_zero, List.set_cons_succ]
  refine wpAnyH_yield (i := 12) (v := ?v12) rfl rfl (by kernel_rfl) (by kernel_rfl) (by kernel_rfl) (fun _ _ _ h => h) (by rfl) ?hy12 hHeld ?rest12
  case hy12 =>
    intro w hSw
    (try dsimp only at hSw)
    go_simp
    try with_reducible rfl
  simp only [Act.put, List.setIfInBounds_toArray, List.set_cons_zero, List.set_cons_succ]
  refine wpAnyH_yield (i := 13) (v := ?v13) rfl rfl (by kernel_rfl) (by kernel_rfl) (by kernel_rfl) (fun _ _ _ h => h) (by rfl) ?hy13 hHeld ?rest13
  case hy13 =>
    intro w hSw
    (try dsimp only at hSw)
    go_simp
    try with_reducible rfl
  simp only [Act.put, List.setIfInBounds_toArray, List.set_cons_zero, List.set_cons_succ]
  refine wpAnyH_yield (i := 14) (v := ?v14) rfl rfl (by kernel_rfl) (by kernel_rfl) (by kernel_rfl) (fun _ _ _ h => h) (by rfl) ?hy14 hHeld ?rest14
  case hy14 =>
    intro w hSw
    (try dsimp only at hSw)
    go_simp
    try with_reducible rfl
  simp only [Act.put, List.setIfInBounds_toArray, List.set_cons_zero, List.set_cons_succ]
  refine wpAnyH_yield (i := 15) (v := ?v15) rfl rfl (by kernel_rfl) (by kernel_rfl) (by kernel_rfl) (fun _ _ _ h => h) (by rfl) ?hy15 hHeld ?rest15
  case hy15 =>
    intro w hSw
    (try dsimp only at hSw)
    go_simp
    try with_reducible rfl
  simp only [Act.put, List.setIfInBounds_toArray, List.set_cons_zero, List.set_cons_succ]
  refine wpAnyH_yield (i := 16) (v := ?v16) rfl rfl (by kernel_rfl) (by kernel_rfl) (by kernel_rfl) (fun _ _ _ h => h) (by rfl) ?hy16 hHeld ?rest16
  case hy16 =>
    intro w hSw
    (try dsimp only at hSw)
    go_simp
    try with_reducible rfl
  simp only [Act.put, List.setIfInBounds_toArray, List.set_cons_zero, List.set_cons_succ]
  refine wpAnyH_yield (i := 17) (v := ?v17) rfl rfl (by kernel_rfl) (by kernel_rfl) (by kernel_rfl) (fun _ _ _ h => h) (by rfl) ?hy17 hHeld ?rest17
  case hy17 =>
    intro w hSw
    (try dsimp only at hSw)
    go_simp
    try with_reducible rfl
  simp only [Act.put, List.setIfInBounds_toArray, List.set_cons_zero, List.set_cons_succ]
  refine wpAnyH_yield (i := 18) (v := ?v18) rfl rfl (by kernel_rfl) (by kernel_rfl) (by kernel_rfl) (fun _ _ _ h => h) (by rfl) ?hy18 hHeld ?rest18
  case hy18 =>
    intro w hSw
    (try dsimp only at hSw)
    go_simp
    try with_reducible rfl
  simp only [Act.put, List.setIfInBounds_toArray, List.set_cons_zero, List.set_cons_succ]
  refine wpAnyH_yield (i := 19) (v := ?v19) rfl rfl (by kernel_rfl) (by kernel_rfl) (by kernel_rfl) (fun _ _ _ h => h) (by rfl) ?hy19 hHeld ?rest19
  case hy19 =>
    intro w hSw
    (try dsimp only at hSw)
    go_simp
    try with_reducible rfl
  simp only [Act.put, List.setIfInBounds_toArray, List.set_cons_zero, List.set_cons_succ]
  refine wpAnyH_yield (i := 20) (v := ?v20) rfl rfl (by kernel_rfl) (by kernel_rfl) (by kernel_rfl) (fun _ _ _ h => h) (by rfl) ?hy20 hHeld ?rest20
  case hy20 =>
    intro w hSw
    (try dsimp only at hSw)
    go_simp
    try with_reducible rfl
  simp only [Act.put, List.setIfInBounds_toArray, List.set_cons_zero, List.set_cons_succ]
  refine wpAnyH_ready (rs := [2]) (by kernel_rfl) (by simp) ?_
  refine AllReadyH.cons rfl (fun K hK => ?_) AllReadyH.nil
  go_simp
  have c1 := named_any w0 w.drew C g c sd ts (some y) an ap zs i (HC.out.later (Below.refl _ _).drew) h0 HI.out HL.out H4.out
  rw [HTi.out] at c1
  refine c1.mono ?_
  rintro e m1 ⟨b, l, cc, rfl, hb, hE⟩
  clear c1
  have HC1 := Lib.hid ((HC.out.later (Below.refl _ _).drew).later hb)
  have HE1 := Lib.hid hE
  clear hb hE
  go_wp2_with fail
  refine hK.out _ _ (HKp.out _ _ _ HC1.out) (fun hHeld => ?_)
  clear hK K
  try simp only [Act.put, List.setIfInBounds_toArray, List.set_cons_zero, List.set_cons_succ]
  refine wpAnyH_ready (rs := [21]) (by kernel_rfl) (by simp) ?_
  refine AllReadyH.cons rfl (fun K hK => ?_) AllReadyH.nil
  go_simp
  have c2 := tset_any (s0, s1, s2, s3) b l cc x es a1 a2 a3 m1 HE1.out HF.out HX.out HW1.out HW2.out HW3.out
  rw [HG.out] at c2
  refine c2.mono ?_
  rintro e m2 ⟨u, rfl, hb, hr0⟩
  clear c2
  have hr : Row m2 m1.heap.size u de := hr0
  have HC2 := Lib.hid (HC1.out.later hb)
  have HR2 := Lib.hid (hr.low (base' := w0.heap.size) HC1.out.1.size)
  obtain ⟨b2, p2, hu, _⟩ := hr.at
  subst hu
  clear hr hr0 hb
  go_wp2_with fail
  refine hK.out _ _ (HKp.out _ _ _ HC2.out) (fun hHeld => ?_)
  clear hK K
  try simp only [Act.put, List.setIfInBounds_toArray, List.set_cons_zero, List.set_cons_succ]
  refine wpAnyH_yield (i := 22) (v := ?v22) rfl rfl (by kernel_rfl) (by kernel_rfl) (by kernel_rfl) (fun _ _ _ h => h) (by rfl) ?hy22 hHeld ?rest22
  case hy22 =>
    intro w hSw
    (try dsimp only at hSw)
    go_simp
    try with_reducible rfl
  simp only [Act.put, List.setIfInBounds_toArray, List.set_cons_zero, List.set_cons_succ]
  refine wpAnyH_yield (i := 23) (v := ?v23) rfl rfl (by kernel_rfl) (by kernel_rfl) (by kernel_rfl) (fun _ _ _ h => h) (by rfl) ?hy23 hHeld ?rest23
  case hy23 =>
    intro w hSw
    (try dsimp only at hSw)
    go_simp
    try with_reducible rfl
  simp only [Act.put, List.setIfInBounds_toArray, List.set_cons_zero, List.set_cons_succ]
  refine wpAnyH_ready (rs := [24]) (by kernel_rfl) (by simp) ?_
  refine AllReadyH.cons rfl (fun K hK => ?_) AllReadyH.nil
  go_simp
  have c3 := unless_any w0 m2 C g c sd ts (some y) an ap zs i HC2.out h0 HI.out HL.out H4.out (d0, d1, d2, d3) b2 de.length p2 de dx dr HR2.out HN.out hrg.1 hrg.2
  refine c3.mono ?_
  rintro e m3 ⟨rfl, hc3⟩
  clear c3
  have HC3 := Lib.hid hc3
  clear hc3
  go_wp2_with fail
  refine hK.out _ _ (HKp.out _ _ _ HC3.out) (fun hHeld => ?_)
  clear hK K
  try simp only [Act.put, List.setIfInBounds_toArray, List.set_cons_zero, List.set_cons_succ]
  refine wpAnyH_yield (i := 25) (v := ?v25) rfl rfl (by kernel_rfl) (by kernel_rfl) (by kernel_rfl) (fun _ _ _ h => h) (by rfl) ?hy25 hHeld ?rest25
  case hy25 =>
    intro w hSw
    (try dsimp only at hSw)
    go_simp
    try with_reducible rfl
  simp only [Act.put, List.setIfInBounds_toArray, List.set_cons_zero, List.set_cons_succ]
  refine wpAnyH_done (by kernel_rfl) ?_ _
  go_wp2_with fail
  go_ret
  rw [HOp.out]
  refine ⟨rfl, ?_⟩
  have hc9 := HC3.out
  by_cases h9 : dr = 0
  · rw [if_pos h9] at hc9 ⊢
    exact hc9
  · rw [if_neg h9] at hc9 ⊢
    have h8 := list_put HL.out
    rw [HTi.out] at h8
    rw [h8]
    exact hc9
set_option maxRecDepth 100000 in
set_option maxHeartbeats 8000000 in
theorem push_m (w0 w : World) (C g : Nat) (c : Cx) (sd : Int) (ts : List Tb) (ab : Option Addr) (an ap : Nat) (zs : List Int) (i : Nat) (h : Cs w0 w C g c sd ts ab an ap zs) (h4 : an = 2) (hi : zs.getD 0 0 = (i : Int)) (hl : i < ts.length) (h40 : ts.length ≤ 40) (hf : fewE (ts.getD i zeroT).2.1) :
    Calls Tryd.prog 126 #[.pointer (some ⟨C, 0, none⟩)] w fun e w' => e = .returned (.int .u32 (opP 5 (ts.getD i zeroT) zs).2) ∧ Cs w0 w' C g c sd (ts.set i (opP 5 (ts.getD i zeroT) zs).1) ab an ap zs := by
  have h0 : 0 < an := by omega
  obtain ⟨y, rfl, _⟩ := h.word h0
  obtain ⟨a1, ha1⟩ : ∃ a1, zs.getD 1 0 = a1 := ⟨_, rfl⟩
  have HW1 : Hid (isW a1) := Lib.hid (by rw [← ha1]; exact h.isw 1)
  have HKp : Hid (∀ w' sd' ts', Cs w0 w' C g c sd' ts' (some y) an ap zs → w'.cell? ⟨C, 6, none⟩ = some (.slice (some y) an ap) ∧ w'.cell? ⟨y.block, y.off + 1, none⟩ = some (.int .u32 a1)) := Lib.hid (fun w' sd' ts' hc => ⟨hc.2.1.cell rfl, by have h9 := (hc.word (j := 1) (by omega)); obtain ⟨y', e1, e2⟩ := h9; obtain rfl := Option.some.inj e1; rw [ha1] at e2; exact e2⟩)
  have HC := Lib.hid h
  have HI := Lib.hid hi
  have HL := Lib.hid hl
  have H4 := Lib.hid h40
  have HX := Lib.hid (h.next hl)
  have HF := Lib.hid hf
  rcases hti : ts.getD i zeroT with ⟨⟨s0, s1, s2, s3⟩, es, x⟩
  rw [hti] at HX HF
  simp only at HX HF
  have HTi := Lib.hid hti
  have hop : opP 5 ((s0, s1, s2, s3), es, x) zs = (if (pushT ((s0, s1, s2, s3), es, x) a1).2 = 0 then (pushT ((s0, s1, s2, s3), es, x) a1).1 else ((s0, s1, s2, s3), es, x), (pushT ((s0, s1, s2, s3), es, x) a1).2) := by rw [opP, if_neg (by omega), if_neg (by omega), if_neg (by omega), if_neg (by omega), ha1]
  have hrg := push_rng ((s0, s1, s2, s3), es, x) a1
  have hnw := push_nw (t := ((s0, s1, s2, s3), es, x)) a1 HX.out
  rcases hg : pushT ((s0, s1, s2, s3), es, x) a1 with ⟨⟨⟨d0, d1, d2, d3⟩, de, dx⟩, dr⟩
  rw [hg] at hop hrg hnw
  simp only at hrg hnw
  have HOp := Lib.hid hop
  have HG := Lib.hid hg
  have HN := Lib.hid hnw
  clear hop hg hnw h hi hl h40 hf hti ha1
  go_enter Tryd.func126, Tryd.ntmps126
  go_wp2_with fail
  refine wp_region_held_drew (S := (fun w' => w'.cell? ⟨C, 6, none⟩ = some (.slice (some y) an ap) ∧ w'.cell? ⟨y.block, y.off + 1, none⟩ = some (.int .u32 a1))) (by kernel_rfl) (HKp.out _ _ _ (HC.out.later (Below.refl _ _).drew)) (fun hHeld => ?_)
  refine wpAnyH_yield (i := 0) (v := ?v0) rfl rfl (by kernel_rfl) (by kernel_rfl) (by kernel_rfl) (fun _ _ _ h => h) (by rfl) ?hy0 hHeld ?rest0
  case hy0 =>
    intro w hSw
    (try dsimp only at hSw)
    go_simp
    try with_reducible rfl
  simp only [Act.put, List.setIfInBounds_toArray, List.set_cons_zero, List.set_cons_succ]
  refine wpAnyH_yield (i := 1) (v := ?v1) rfl rfl (by kernel_rfl) (by kernel_rfl) (by kernel_rfl) (fun _ _ _ h => h) (by rfl) ?hy1 hHeld ?rest1
  case hy1 =>
    intro w hSw
    (try dsimp only at hSw)
    go_simp
    try with_reducible rfl
  simp only [Act.put, List.setIfInBounds_toArray, List.set_cons_zero, List.set_cons_succ]
  refine wpAnyH_yield (i := 3) (v := ?v3) rfl rfl (by kernel_rfl) (by kernel_rfl) (by kernel_rfl) (fun _ _ _ h => h) (by rfl) ?hy3 hHeld ?rest3
  case hy3 =>
    intro w hSw
    (try dsimp only at hSw)
    go_simp
    try with_reducible rfl
  simp only [Act.put, List.setIfInBounds_toArray, List.set_cons_zero, List.set_cons_succ]
  refine wpAnyH_yield (i := 4) (v := ?v4) rfl rfl (by kernel_rfl) (by kernel_rfl) (by kernel_rfl) (fun _ _ _ h => h) (by rfl) ?hy4 hHeld ?rest4
  case hy4 =>
    intro w hSw
    (try dsimp only at hSw)
    go_simp
    try with_reducible rfl
  simp only [Act.put, List.setIfInBounds_toArray, List.set_cons_zero, List.set_cons_succ]
  refine wpAnyH_yield (i := 5) (v := ?v5) rfl rfl (by kernel_rfl) (by kernel_rfl) (by kernel_rfl) (fun _ _ _ h => h) (by rfl) ?hy5 hHeld ?rest5
  case hy5 =>
    intro w hSw
    (try dsimp only at hSw)
    go_simp
    try with_reducible rfl
  simp only [Act.put, List.setIfInBounds_toArray, List.set_cons_zero, List.set_cons_succ]
  refine wpAnyH_yield (i := 6) (v := ?v6) rfl rfl (by kernel_rfl) (by kernel_rfl) (by kernel_rfl) (fun _ _ _ h => h) (by rfl) ?hy6 hHeld ?rest6
  case hy6 =>
    intro w hSw
    (try dsimp only at hSw)
    go_simp
    try with_reducible rfl
  simp only [Act.put, List.setIfInBounds_toArray, List.set_cons_zero, List.set_cons_succ]
  refine wpAnyH_yield (i := 7) (v := ?v7) rfl rfl (by kernel_rfl) (by kernel_rfl) (by kernel_rfl) (fun _ _ _ h => h) (by rfl) ?hy7 hHeld ?rest7
  case hy7 =>
    intro w hSw
    (try dsimp only at hSw)
    go_simp
    try with_reducible rfl
  simp only [Act.put, List.setIfInBounds_toArray, List.set_cons_zero, List.set_cons_succ]
  refine wpAnyH_yield (i := 8) (v := ?v8) rfl rfl (by kernel_rfl) (by kernel_rfl) (by kernel_rfl) (fun _ _ _ h => h) (by rfl) ?hy8 hHeld ?rest8
  case hy8 =>
    intro w hSw
    (try dsimp only at hSw)
    go_simp
    try with_reducible rfl
  simp only [Act.put, List.setIfInBounds_toArray, List.set_cons_zero, List.set_cons_succ]
  refine wpAnyH_ready (rs := [2]) (by kernel_rfl) (by simp) ?_
  refine AllReadyH.cons rfl (fun K hK => ?_) AllReadyH.nil
  go_simp
  have c1 := named_any w0 w.drew C g c sd ts (some y) an ap zs i (HC.out.later (Below.refl _ _).drew) h0 HI.out HL.out H4.out
  rw [HTi.out] at c1
  refine c1.mono ?_
  rintro e m1 ⟨b, l, cc, rfl, hb, hE⟩
  clear c1
  have HC1 := Lib.hid ((HC.out.later (Below.refl _ _).drew).later hb)
  have HE1 := Lib.hid hE
  clear hb hE
  go_wp2_with fail
  refine hK.out _ _ (HKp.out _ _ _ HC1.out) (fun hHeld => ?_)
  clear hK K
  try simp only [Act.put, List.setIfInBounds_toArray, List.set_cons_zero, List.set_cons_succ]
  refine wpAnyH_ready (rs := [9]) (by kernel_rfl) (by simp) ?_
  refine AllReadyH.cons rfl (fun K hK => ?_) AllReadyH.nil
  go_simp
  have c2 := tpush_any (s0, s1, s2, s3) b l cc x es a1 m1 HE1.out HF.out HX.out HW1.out
  rw [HG.out] at c2
  refine c2.mono ?_
  rintro e m2 ⟨u, rfl, hb, hr0⟩
  clear c2
  have hr : Row m2 m1.heap.size u de := hr0
  have HC2 := Lib.hid (HC1.out.later hb)
  have HR2 := Lib.hid (hr.low (base' := w0.heap.size) HC1.out.1.size)
  obtain ⟨b2, p2, hu, _⟩ := hr.at
  subst hu
  clear hr hr0 hb
  go_wp2_with fail
  refine hK.out _ _ (HKp.out _ _ _ HC2.out) (fun hHeld => ?_)
  clear hK K
  try simp only [Act.put, List.setIfInBounds_toArray, List.set_cons_zero, List.set_cons_succ]
  refine wpAnyH_yield (i := 10) (v := ?v10) rfl rfl (by kernel_rfl) (by kernel_rfl) (by kernel_rfl) (fun _ _ _ h => h) (by rfl) ?hy10 hHeld ?rest10
  case hy10 =>
    intro w hSw
    (try dsimp only at hSw)
    go_simp
    try with_reducible rfl
  simp only [Act.put, List.setIfInBounds_toArray, List.set_cons_zero, List.set_cons_succ]
  refine wpAnyH_yield (i := 11) (v := ?v11) rfl rfl (by kernel_rfl) (by kernel_rfl) (by kernel_rfl) (fun _ _ _ h => h) (by rfl) ?hy11 hHeld ?rest11
  case hy11 =>
    intro w hSw
    (try dsimp only at hSw)
    go_simp
    try with_reducible rfl
  simp only [Act.put, List.setIfInBounds_toArray, List.set_cons_zero, List.set_cons_succ]
  refine wpAnyH_ready (rs := [12]) (by kernel_rfl) (by simp) ?_
  refine AllReadyH.cons rfl (fun K hK => ?_) AllReadyH.nil
  go_simp
  have c3 := unless_any w0 m2 C g c sd ts (some y) an ap zs i HC2.out h0 HI.out HL.out H4.out (d0, d1, d2, d3) b2 de.length p2 de dx dr HR2.out HN.out hrg.1 hrg.2
  refine c3.mono ?_
  rintro e m3 ⟨rfl, hc3⟩
  clear c3
  have HC3 := Lib.hid hc3
  clear hc3
  go_wp2_with fail
  refine hK.out _ _ (HKp.out _ _ _ HC3.out) (fun hHeld => ?_)
  clear hK K
  try simp only [Act.put, List.setIfInBounds_toArray, List.set_cons_zero, List.set_cons_succ]
  refine wpAnyH_yield (i := 13) (v := ?v13) rfl rfl (by kernel_rfl) (by kernel_rfl) (by kernel_rfl) (fun _ _ _ h => h) (by rfl) ?hy13 hHeld ?rest13
  case hy13 =>
    intro w hSw
    (try dsimp only at hSw)
    go_simp
    try with_reducible rfl
  simp only [Act.put, List.setIfInBounds_toArray, List.set_cons_zero, List.set_cons_succ]
  refine wpAnyH_done (by kernel_rfl) ?_ _
  go_wp2_with fail
  go_ret
  rw [HOp.out]
  refine ⟨rfl, ?_⟩
  have hc9 := HC3.out
  by_cases h9 : dr = 0
  · rw [if_pos h9] at hc9 ⊢
    exact hc9
  · rw [if_neg h9] at hc9 ⊢
    have h8 := list_put HL.out
    rw [HTi.out] at h8
    rw [h8]
    exact hc9
end Go.Proofs.YtilddlgcfbefiaaDoor

