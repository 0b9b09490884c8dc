/-
  What the package's New returns, as a contract over the translated program.
-/
import Derived.Test.YtmlmdhnjafakiaaV6
import Derived.Test.YtmlmdhnjafakiaaTV
namespace Go.Proofs.Ytmlmdhnjafakiaa
open Go Go.RowKit
set_option linter.unusedVariables false

def Sn (w W : World) (s : Sc) (T : Nat) (V : Value) (es : List Ent) : Prop :=
  Below w.heap.size w W ∧ Box W w.heap.size 29 #[.int .i64 s.1, .int .i64 s.2.1, .int .i64 s.2.2.1, .int .i64 s.2.2.2] ∧ Box W (w.heap.size + 1) 44 zeroTA ∧ Box W T 44 (tbA s V 0) ∧ Row W (w.heap.size + 2) V es ∧ w.heap.size + 2 ≤ T
section
variable {w W W' : World} {s : Sc} {T : Nat} {V V' : Value} {es es' : List Ent}
theorem Sn.off (h : Sn w W s T V es) : ∀ g, V.ownBlock = some g → w.heap.size + 2 ≤ g ∧ g ≠ T := fun g e => ⟨(h.2.2.2.2.1.lt g e).1, fun e2 => h.2.2.2.2.1.notBox h.2.2.2.1 (by rw [e, e2])⟩
theorem Sn.boxG (h : Sn w W s T V es) (hg : W.grownBy W' V.ownBlock) : Box W' T 44 (tbA s V 0) := h.2.2.2.1.grown hg (fun e => (h.off T e.symm).2 rfl)
theorem Sn.argG (h : Sn w W s T V es) (hg : W.grownBy W' V.ownBlock) : Box W' w.heap.size 29 #[.int .i64 s.1, .int .i64 s.2.1, .int .i64 s.2.2.1, .int .i64 s.2.2.2] := h.2.1.grown hg (fun e => by have := (h.off _ e.symm).1; omega)
theorem Sn.swap (h : Sn w W s T V es) (hg : W.grownBy W' V.ownBlock) (hr : Row W' (w.heap.size + 2) V' es') : Sn w (W'.setCell ⟨T, 4, none⟩ V') s T V' es' := by
  have hB := h.boxG hg
  have hA := h.argG hg
  have hoff := h.off
  obtain ⟨h1, h2, h3, h4, h5, h6⟩ := h
  have k1 : Below w.heap.size w W' := h1.grown hg h1.size (fun g' e => by have := (hoff g' e).1; omega)
  have k3 : Box W' (w.heap.size + 1) 44 zeroTA := h3.grown hg (fun e => by have := (hoff _ e.symm).1; omega)
  exact ⟨k1.setCell (by show w.heap.size ≤ T; omega) _, hA.other (by show w.heap.size ≠ T; omega) _, k3.other (by show w.heap.size + 1 ≠ T; omega) _, hB.set 4 V', hr.apart hB (grownBy_setCell W' ⟨T, 4, none⟩ V'), h6⟩
theorem Sn.fin (h : Sn w W s T V es) (v : Value) : Own2 (s, es, 0) v w (.returned (.tuple #[tbV s V 0, v])) (W.setRow (w.heap.size + 1) (tbA s V 0)) := by
  obtain ⟨h1, h2, h3, h4, h5, h6⟩ := h
  exact ⟨V, rfl, below_setRow h1 (by omega) _, (h5.far (grownBy_setRow _ _ _) (by omega)).low (by omega)⟩
end
set_option maxRecDepth 100000 in
set_option maxHeartbeats 8000000 in
theorem tnew_any (s0 s1 s2 s3 : Int) (w : World) :
    Calls Try.prog 16 #[scV s0 s1 s2 s3] w (Own2 (newT (s0, s1, s2, s3)) (.int .i64 (newE (s0, s1, s2, s3))) w) := by
  obtain ⟨iE, hiE, hz0, hz1, hz2⟩ := info_parts infoE
  obtain ⟨W0, hW0⟩ : ∃ W0, (w.alloc (.cells #[.int .i64 s0, .int .i64 s1, .int .i64 s2, .int .i64 s3] 29)).alloc (.cells zeroTA 44) = W0 := ⟨_, rfl⟩
  have hs0 : W0.heap.size = w.heap.size + 2 := by rw [← hW0]; simp
  have hb0 : Below w.heap.size w W0 := by rw [← hW0]; exact box2 (Below.refl _ _) (Nat.le_refl _) _ _
  have HT : Hid (Box W0 w.heap.size 29 #[.int .i64 s0, .int .i64 s1, .int .i64 s2, .int .i64 s3]) := by rw [← hW0]; exact Lib.hid ((Box.new w 29 _).alloc _)
  have HR : Hid (Box W0 (w.heap.size + 1) 44 zeroTA) := by
    rw [← hW0]
    have := Box.new (w.alloc (.cells #[.int .i64 s0, .int .i64 s1, .int .i64 s2, .int .i64 s3] 29)) 44 zeroTA
    rw [show (w.alloc (.cells #[.int .i64 s0, .int .i64 s1, .int .i64 s2, .int .i64 s3] 29)).heap.size = w.heap.size + 1 by simp] at this
    exact Lib.hid this
  have HB := Lib.hid hb0
  obtain ⟨RR, hRR⟩ : ∃ RR, newT (s0, s1, s2, s3) = RR := ⟨_, rfl⟩
  obtain ⟨RE, hRE⟩ : ∃ RE, newE (s0, s1, s2, s3) = RE := ⟨_, rfl⟩
  rw [hRR, hRE]
  have HRR := Lib.hid hRR
  have HRE := Lib.hid hRE
  clear hRR hRE hb0
  have d0 : W0.cell? ⟨w.heap.size, 0, none⟩ = some (.int .i64 s0) := HT.out.cell rfl
  have d1 : W0.cell? ⟨w.heap.size, 1, none⟩ = some (.int .i64 s1) := HT.out.cell rfl
  have d2 : W0.cell? ⟨w.heap.size, 2, none⟩ = some (.int .i64 s2) := HT.out.cell rfl
  have d3 : W0.cell? ⟨w.heap.size, 3, none⟩ = some (.int .i64 s3) := HT.out.cell rfl
  go_enter Try.func16, Try.ntmps16
  go_wp2_with fail
  refine (may_any s0 s1 s2 s3 W0).mono ?_
  rintro e w1 ⟨rfl, hb1⟩
  have hs1 : w.heap.size + 2 ≤ w1.heap.size := by have := hb1.size; omega
  replace HT := Lib.hid (HT.out.later hb1)
  replace HR := Lib.hid (HR.out.later hb1)
  replace HB := Lib.hid (HB.out.trans (hb1.mono HB.out.size))
  clear d0 d1 d2 d3 hb1 hW0 hs0
  have d0 : w1.cell? ⟨w.heap.size, 0, none⟩ = some (.int .i64 s0) := HT.out.cell rfl
  have d1 : w1.cell? ⟨w.heap.size, 1, none⟩ = some (.int .i64 s1) := HT.out.cell rfl
  have d2 : w1.cell? ⟨w.heap.size, 2, none⟩ = some (.int .i64 s2) := HT.out.cell rfl
  have d3 : w1.cell? ⟨w.heap.size, 3, none⟩ = some (.int .i64 s3) := HT.out.cell rfl
  rcases hM : mayS s0 s1 s2 s3 with _ | _
  · have HN := Lib.hid (new_no (s := (s0, s1, s2, s3)) hM)
    clear hM
    go_wp2_with (refine wpList_store_row rfl 44 _ _ rfl (w.heap.size + 1) _ rfl rfl 44 _ HR.out (by kernel_rfl) rfl (by simp [Value.oneCell']) ?_)
    refine bodyPost_ret (v := .tuple #[tbV zeroS (.slice none 0 0) 0, .int .i64 1]) ?_ rfl ?_
    · exact results_tb_two Try.results16 _ _ (w.heap.size + 1) 44 _ _ rfl rfl rfl (setRow_heap _ _ _ _ _ _ HR.out)
    · rw [← HRR.out, ← HRE.out, HN.out.1, HN.out.2]
      exact ⟨.slice none 0 0, rfl, below_setRow HB.out (by omega) _, Row.nil _ _⟩
  have hsc := mayS_iff.1 hM
  obtain ⟨hk0, hk3, hc1, hc16, hn1, hn4, _⟩ := hsc
  have HM := Lib.hid hM
  clear hM
  have hb2 : Below w1.heap.size w1 (w1.alloc (.cells #[.int .i64 s0, .int .i64 s1, .int .i64 s2, .int .i64 s3, .slice none 0 0, .int .u32 0] 44)) := (Below.refl _ _).alloc (Nat.le_refl _) _
  have HS2 : Hid (Sn w (w1.alloc (.cells #[.int .i64 s0, .int .i64 s1, .int .i64 s2, .int .i64 s3, .slice none 0 0, .int .u32 0] 44)) (s0, s1, s2, s3) w1.heap.size (.slice none 0 0) []) := Lib.hid ⟨HB.out.trans (hb2.mono HB.out.size), HT.out.later hb2, HR.out.later hb2, Box.new w1 44 _, Row.nil _ _, by omega⟩
  have e0 : (w1.alloc (.cells #[.int .i64 s0, .int .i64 s1, .int .i64 s2, .int .i64 s3, .slice none 0 0, .int .u32 0] 44)).cell? ⟨w.heap.size, 0, none⟩ = some (.int .i64 s0) := HS2.out.2.1.cell rfl
  have e1 : (w1.alloc (.cells #[.int .i64 s0, .int .i64 s1, .int .i64 s2, .int .i64 s3, .slice none 0 0, .int .u32 0] 44)).cell? ⟨w.heap.size, 1, none⟩ = some (.int .i64 s1) := HS2.out.2.1.cell rfl
  clear hb2 HT HR HB
  by_cases h0 : ¬ s0 = 0
  · have HN := Lib.hid (new_other (s := (s0, s1, s2, s3)) HM.out h0)
    have hq : (s0 == 0) = false := by simpa using h0
    obtain ⟨k0, k1, k2, k3, k4, k5⟩ := HS2.out.2.2.2.1.tb
    simp only at k0 k1 k2 k3 k4 k5
    have HR2 := Lib.hid HS2.out.2.2.1
    clear h0
    go_wp2_with (refine wpList_store_row rfl 44 _ _ rfl (w.heap.size + 1) _ rfl rfl 44 _ HR2.out (by kernel_rfl) rfl (by simp [Value.oneCell']) ?_)
    refine bodyPost_ret (v := .tuple #[tbV (s0, s1, s2, s3) (.slice none 0 0) 0, .int .i64 0]) ?_ rfl ?_
    · exact results_tb_two Try.results16 _ _ (w.heap.size + 1) 44 _ _ rfl rfl rfl (setRow_heap _ _ _ _ _ _ HR2.out)
    · rw [← HRR.out, ← HRE.out, HN.out.1, HN.out.2]
      exact HS2.out.fin _
  replace h0 := Decidable.not_not.1 h0
  have HN := Lib.hid (new_array (s := (s0, s1, s2, s3)) HM.out h0)
  have hq : (s0 == 0) = true := by simpa using h0
  obtain ⟨nw, hnw⟩ : ∃ nw : Nat, s2 = (nw : Int) := ⟨s2.toNat, by omega⟩
  obtain ⟨nc, hnc⟩ : ∃ nc : Nat, s1 = (nc : Int) := ⟨s1.toNat, by omega⟩
  have HNw := Lib.hid hnw
  have HNc := Lib.hid hnc
  have hnw4 : nw ≤ 4 := by omega
  have hnc16 : nc ≤ 16 := by omega
  have HTo : Hid (s1.toNat = nc ∧ s2.toNat = nw) := Lib.hid ⟨by omega, by omega⟩
  clear h0 hnw hnc
  go_wp2_with fail
  clear d0 d1 d2 d3 e0 e1 hq
  generalize hW2 : w1.alloc (.cells #[.int .i64 s0, .int .i64 s1, .int .i64 s2, .int .i64 s3, .slice none 0 0, .int .u32 0] 44) = W2 at *
  generalize hT : w1.heap.size = T at *
  clear hW2 hT
  go_loopw [17] (fun i wr => ∃ (k : Nat) (V : Value), k ≤ nc ∧ i = .int .i64 k ∧ Hid (Sn w wr (s0, s1, s2, s3) T V (zeroEs k nw))) (fun i _ => nc - (intOf i).toNat)
  case atStart => exact ⟨0, .slice none 0 0, by omega, rfl, HS2⟩
  case round =>
    obtain ⟨k, V, hk, rfl, HS⟩ := hrel
    clear HS2
    have HP0 := Lib.hid HS.out.2.1
    obtain ⟨k0, k1, k2, k3, k4, k5⟩ := HS.out.2.2.2.1.tb
    simp only at k0 k1 k2 k3 k4 k5
    by_cases hkl : k < nc
    · have hkI : (k : Int) < s1 := by have := HNc.out; omega
      have hkm : IntKind.u32.wrap (k : Int) = (k : Int) := by rw [wW]; omega
      go_wp2_with fail
      refine wp_region_held_drew (S := (fun w' => w'.cell? ⟨w.heap.size, 0, none⟩ = some (.int .i64 s0) ∧ w'.cell? ⟨w.heap.size, 1, none⟩ = some (.int .i64 s1) ∧ w'.cell? ⟨w.heap.size, 2, none⟩ = some (.int .i64 s2) ∧ w'.cell? ⟨w.heap.size, 3, none⟩ = some (.int .i64 s3))) (by kernel_rfl) (⟨HP0.out.cell rfl, HP0.out.cell rfl, HP0.out.cell rfl, HP0.out.cell rfl⟩) (fun hHeld => ?_)
      refine wpAnyH_yield (i := 0) (v := ?v0) rfl rfl (by kernel_rfl) (by kernel_rfl) (by kernel_rfl) (fun _ _ _ h => h) (by rfl) ?hy0 hHeld ?rest0
      case hy0 =>
        intro w hSw
        (try dsimp only at hSw)
        go_simp
        try with_reducible rfl
      simp only [Act.put, List.setIfInBounds_toArray, List.set_cons_zero, List.set_cons_succ]
      refine wpAnyH_yield (i := 2) (v := ?v2) rfl rfl (by kernel_rfl) (by kernel_rfl) (by kernel_rfl) (fun _ _ _ h => h) (by rfl) ?hy2 hHeld ?rest2
      case hy2 =>
        intro w hSw
        (try dsimp only at hSw)
        go_simp
        try with_reducible rfl
      simp only [Act.put, List.setIfInBounds_toArray, List.set_cons_zero, List.set_cons_succ]
      refine wpAnyH_yield (i := 3) (v := ?v3) rfl rfl (by kernel_rfl) (by kernel_rfl) (by kernel_rfl) (fun _ _ _ h => h) (by rfl) ?hy3 hHeld ?rest3
      case hy3 =>
        intro w hSw
        (try dsimp only at hSw)
        go_simp
        try with_reducible rfl
      simp only [Act.put, List.setIfInBounds_toArray, List.set_cons_zero, List.set_cons_succ]
      refine wpAnyH_yield (i := 4) (v := ?v4) rfl rfl (by kernel_rfl) (by kernel_rfl) (by kernel_rfl) (fun _ _ _ h => h) (by rfl) ?hy4 hHeld ?rest4
      case hy4 =>
        intro w hSw
        (try dsimp only at hSw)
        go_simp
        try with_reducible rfl
      simp only [Act.put, List.setIfInBounds_toArray, List.set_cons_zero, List.set_cons_succ]
      refine wpAnyH_ready (rs := [1, 5]) (by kernel_rfl) (by simp) ?_
      refine AllReadyH.cons rfl (fun K hK => ?_) ?_
      · go_simp
        refine hK.out _ _ (⟨HP0.out.cell rfl, HP0.out.cell rfl, HP0.out.cell rfl, HP0.out.cell rfl⟩) (fun hHeld => ?_)
        clear hK K
        try simp only [Act.put, List.setIfInBounds_toArray, List.set_cons_zero, List.set_cons_succ]
        refine wpAnyH_ready (rs := [5]) (by kernel_rfl) (by simp) ?_
        refine AllReadyH.cons rfl (fun K hK => ?_) AllReadyH.nil
        go_simp
        refine (zeros_any s0 s1 s2 s3 (k : Int) nw wr.drew HNw.out (by omega)).mono ?_
        rintro e w7 ⟨gz, rfl, hb7, hown7⟩
        have Hb7 : Hid (Below wr.heap.size wr w7) := Lib.hid (((Below.refl _ _).drew).trans hb7)
        have HO7 := Lib.hid hown7
        have HP7 := Lib.hid (HS.out.2.1.later Hb7.out)
        have t7 : w7.cell? ⟨T, 4, none⟩ = some V := (HS.out.2.2.2.1.later Hb7.out).cell rfl
        clear hb7 hown7
        go_wp2_with fail
        refine hK.out _ _ (⟨HP7.out.cell rfl, HP7.out.cell rfl, HP7.out.cell rfl, HP7.out.cell rfl⟩) (fun hHeld => ?_)
        clear hK K
        try simp only [Act.put, List.setIfInBounds_toArray, List.set_cons_zero, List.set_cons_succ]
        have hba : Below w7.heap.size w7 (w7.alloc (.cells #[.int .u32 (k : Int), .slice (some ⟨gz, 0, none⟩) nw nw] 48)) := (Below.refl _ _).alloc (Nat.le_refl _) _
        have HNew : Hid ((w7.alloc (.cells #[.int .u32 (k : Int), .slice (some ⟨gz, 0, none⟩) nw nw] 48)).heap[w7.heap.size]? = some (.cells #[.int .u32 (k : Int), .slice (some ⟨gz, 0, none⟩) nw nw] 48 (0, 0))) := Lib.hid (heap_alloc_new w7 _)
        have Hba := Lib.hid hba
        have HP8 := Lib.hid (HP7.out.later hba)
        have hsa : (w7.alloc (.cells #[.int .u32 (k : Int), .slice (some ⟨gz, 0, none⟩) nw nw] 48)).heap.size = w7.heap.size + 1 := by simp
        have t8 : (w7.alloc (.cells #[.int .u32 (k : Int), .slice (some ⟨gz, 0, none⟩) nw nw] 48)).cell? ⟨T, 4, none⟩ = some V := (hba.cell (lt_of_cell t7)).trans t7
        clear hba
        refine wpAnyH_ready (rs := [6]) (by kernel_rfl) (by simp) ?_
        refine AllReadyH.cons rfl (fun K hK => ?_) AllReadyH.nil
        go_simp
        refine hK.out _ _ (⟨HP8.out.cell rfl, HP8.out.cell rfl, HP8.out.cell rfl, HP8.out.cell rfl⟩) (fun hHeld => ?_)
        clear hK K
        try simp only [Act.put, List.setIfInBounds_toArray, List.set_cons_zero, List.set_cons_succ]
        obtain ⟨xs, ho6, hod6⟩ := HS.out.2.2.2.2.1
        rw [zeroEs_len] at ho6
        have hbT : Below wr.heap.size wr (w7.alloc (.cells #[.int .u32 (k : Int), .slice (some ⟨gz, 0, none⟩) nw nw] 48)) := Hb7.out.trans (Hba.out.mono Hb7.out.size)
        have HO8 := Lib.hid (ownsRow_below ho6 hbT)
        have HOd := Lib.hid hod6
        have HbT := Lib.hid hbT
        have hge : w.heap.size + 2 ≤ wr.heap.size := by have := HS.out.2.2.2.2.2; have := HS.out.2.2.2.1.lt; omega
        have hg78 : wr.heap.size ≤ w7.heap.size := Hb7.out.size
        clear ho6 hod6 hbT
        refine wpAnyH_ready (rs := [7]) (by kernel_rfl) (by simp) ?_
        refine AllReadyH.cons rfl (fun K hK => ?_) AllReadyH.nil
        refine step_lies (w7.alloc (.cells #[.int .u32 (k : Int), .slice (some ⟨gz, 0, none⟩) nw nw] 48)) (by rfl) _ _ _ (by rfl) (by rfl) (w.heap.size + 2) 48 iE _ 2 32 Try.underlying42 hiE hz0 hz1 hz2 rfl (by omega) V k xs (by rfl) HO8.out ⟨w7.heap.size, 0, none⟩ 1 1 [.int .u32 (k : Int), .slice (some ⟨gz, 0, none⟩) nw nw] (by rfl) (by rfl) (World.news_of_block HNew.out) (by simp [Value.oneCell']) (by omega) (by unfold maxLen; omega) (by omega) (by omega) (w7.heap.size + 1) hsa ?_
        intro g8 c8 w8 hown8 hgrow8 hat8 hlt8
        have hat8' : (Value.slice (some ⟨g8, 0, none⟩) (k + 1) c8).ownBlock = V.ownBlock ∨ (Value.slice (some ⟨g8, 0, none⟩) (k + 1) c8).ownBlock = some (w7.heap.size + 1) := by
          rcases hat8 with e | e
          · exact .inl e.symm
          · exact .inr (by rw [e]; rfl)
        have hr8 : Row w8 (w.heap.size + 2) (.slice (some ⟨g8, 0, none⟩) (k + 1) c8) (zeroEs (k + 1) nw) := by
          rw [zeroEs_step]
          exact own_snoc HOd.out HbT.out (by rw [List.length_replicate]; exact own_base (ownsRow_below HO7.out Hba.out) (by exact hge)) ⟨⟨by omega, by omega⟩, wordL_zeros nw⟩ (fun g' e => (HO7.out.lt g' e).1) (fun g' e => (HS.out.2.2.2.2.1.lt g' e).2) hgrow8 hat8' (by omega) (by rw [zeroEs_len]; exact hown8)
        have hgT : wr.grownBy w8 V.ownBlock := grownBy_trans (grownBy_of_below HbT.out _) hgrow8
        have HB9 := Lib.hid (HS.out.boxG hgT)
        have HS9 := Lib.hid (HS.out.swap hgT hr8)
        have HP9 := Lib.hid (HS.out.argG hgT)
        have u4 : w8.cell? ⟨T, 4, none⟩ = some V := HB9.out.cell rfl
        have f4 : w8.frozen? ⟨T, 4, none⟩ = false := HB9.out.free 4
        clear hown8 hgrow8 hat8 hat8' hlt8 hr8 hgT
        refine hK.out _ _ (⟨HP9.out.cell rfl, HP9.out.cell rfl, HP9.out.cell rfl, HP9.out.cell rfl⟩) (fun hHeld => ?_)
        clear hK K
        try simp only [Act.put, List.setIfInBounds_toArray, List.set_cons_zero, List.set_cons_succ]
        refine wpAnyH_yield (i := 8) (v := ?va8) rfl rfl (by kernel_rfl) (by kernel_rfl) (by kernel_rfl) (fun _ _ _ h => h) (by rfl) ?hya8 hHeld ?resta8
        case hya8 =>
          intro w hSw
          (try dsimp only at hSw)
          go_simp
          try with_reducible rfl
        simp only [Act.put, List.setIfInBounds_toArray, List.set_cons_zero, List.set_cons_succ]
        refine wpAnyH_ready (rs := [9]) (by kernel_rfl) (by simp) ?_
        refine AllReadyH.cons rfl (fun K hK => ?_) AllReadyH.nil
        go_simp
        refine hK.out _ _ (⟨HS9.out.2.1.cell rfl, HS9.out.2.1.cell rfl, HS9.out.2.1.cell rfl, HS9.out.2.1.cell rfl⟩) (fun hHeld => ?_)
        clear hK K
        try simp only [Act.put, List.setIfInBounds_toArray, List.set_cons_zero, List.set_cons_succ]
        refine wpAnyH_done (by kernel_rfl) ?_ _
        clear hHeld u4 f4 t7 t8
        go_wp2
        exact ⟨⟨k + 1, _, by omega, by go_num, HS9⟩, by simp [intOf]; omega⟩
      refine AllReadyH.cons rfl (fun K hK => ?_) AllReadyH.nil
      go_simp
      refine (zeros_any s0 s1 s2 s3 (k : Int) nw wr.drew HNw.out (by omega)).mono ?_
      rintro e w7 ⟨gz, rfl, hb7, hown7⟩
      have Hb7 : Hid (Below wr.heap.size wr w7) := Lib.hid (((Below.refl _ _).drew).trans hb7)
      have HO7 := Lib.hid hown7
      have HP7 := Lib.hid (HS.out.2.1.later Hb7.out)
      have t7 : w7.cell? ⟨T, 4, none⟩ = some V := (HS.out.2.2.2.1.later Hb7.out).cell rfl
      clear hb7 hown7
      go_wp2_with fail
      refine hK.out _ _ (⟨HP7.out.cell rfl, HP7.out.cell rfl, HP7.out.cell rfl, HP7.out.cell rfl⟩) (fun hHeld => ?_)
      clear hK K
      try simp only [Act.put, List.setIfInBounds_toArray, List.set_cons_zero, List.set_cons_succ]
      have hba : Below w7.heap.size w7 (w7.alloc (.cells #[.int .u32 (k : Int), .slice (some ⟨gz, 0, none⟩) nw nw] 48)) := (Below.refl _ _).alloc (Nat.le_refl _) _
      have HNew : Hid ((w7.alloc (.cells #[.int .u32 (k : Int), .slice (some ⟨gz, 0, none⟩) nw nw] 48)).heap[w7.heap.size]? = some (.cells #[.int .u32 (k : Int), .slice (some ⟨gz, 0, none⟩) nw nw] 48 (0, 0))) := Lib.hid (heap_alloc_new w7 _)
      have Hba := Lib.hid hba
      have HP8 := Lib.hid (HP7.out.later hba)
      have hsa : (w7.alloc (.cells #[.int .u32 (k : Int), .slice (some ⟨gz, 0, none⟩) nw nw] 48)).heap.size = w7.heap.size + 1 := by simp
      have t8 : (w7.alloc (.cells #[.int .u32 (k : Int), .slice (some ⟨gz, 0, none⟩) nw nw] 48)).cell? ⟨T, 4, none⟩ = some V := (hba.cell (lt_of_cell t7)).trans t7
      clear hba
      refine wpAnyH_ready (rs := [1, 6]) (by kernel_rfl) (by simp) ?_
      refine AllReadyH.cons rfl (fun K hK => ?_) ?_
      · go_simp
        refine hK.out _ _ (⟨HP7.out.cell rfl, HP7.out.cell rfl, HP7.out.cell rfl, HP7.out.cell rfl⟩) (fun hHeld => ?_)
        clear hK K
        try simp only [Act.put, List.setIfInBounds_toArray, List.set_cons_zero, List.set_cons_succ]
        refine wpAnyH_ready (rs := [6]) (by kernel_rfl) (by simp) ?_
        refine AllReadyH.cons rfl (fun K hK => ?_) AllReadyH.nil
        go_simp
        refine hK.out _ _ (⟨HP8.out.cell rfl, HP8.out.cell rfl, HP8.out.cell rfl, HP8.out.cell rfl⟩) (fun hHeld => ?_)
        clear hK K
        try simp only [Act.put, List.setIfInBounds_toArray, List.set_cons_zero, List.set_cons_succ]
        obtain ⟨xs, ho6, hod6⟩ := HS.out.2.2.2.2.1
        rw [zeroEs_len] at ho6
        have hbT : Below wr.heap.size wr (w7.alloc (.cells #[.int .u32 (k : Int), .slice (some ⟨gz, 0, none⟩) nw nw] 48)) := Hb7.out.trans (Hba.out.mono Hb7.out.size)
        have HO8 := Lib.hid (ownsRow_below ho6 hbT)
        have HOd := Lib.hid hod6
        have HbT := Lib.hid hbT
        have hge : w.heap.size + 2 ≤ wr.heap.size := by have := HS.out.2.2.2.2.2; have := HS.out.2.2.2.1.lt; omega
        have hg78 : wr.heap.size ≤ w7.heap.size := Hb7.out.size
        clear ho6 hod6 hbT
        refine wpAnyH_ready (rs := [7]) (by kernel_rfl) (by simp) ?_
        refine AllReadyH.cons rfl (fun K hK => ?_) AllReadyH.nil
        refine step_lies (w7.alloc (.cells #[.int .u32 (k : Int), .slice (some ⟨gz, 0, none⟩) nw nw] 48)) (by rfl) _ _ _ (by rfl) (by rfl) (w.heap.size + 2) 48 iE _ 2 32 Try.underlying42 hiE hz0 hz1 hz2 rfl (by omega) V k xs (by rfl) HO8.out ⟨w7.heap.size, 0, none⟩ 1 1 [.int .u32 (k : Int), .slice (some ⟨gz, 0, none⟩) nw nw] (by rfl) (by rfl) (World.news_of_block HNew.out) (by simp [Value.oneCell']) (by omega) (by unfold maxLen; omega) (by omega) (by omega) (w7.heap.size + 1) hsa ?_
        intro g8 c8 w8 hown8 hgrow8 hat8 hlt8
        have hat8' : (Value.slice (some ⟨g8, 0, none⟩) (k + 1) c8).ownBlock = V.ownBlock ∨ (Value.slice (some ⟨g8, 0, none⟩) (k + 1) c8).ownBlock = some (w7.heap.size + 1) := by
          rcases hat8 with e | e
          · exact .inl e.symm
          · exact .inr (by rw [e]; rfl)
        have hr8 : Row w8 (w.heap.size + 2) (.slice (some ⟨g8, 0, none⟩) (k + 1) c8) (zeroEs (k + 1) nw) := by
          rw [zeroEs_step]
          exact own_snoc HOd.out HbT.out (by rw [List.length_replicate]; exact own_base (ownsRow_below HO7.out Hba.out) (by exact hge)) ⟨⟨by omega, by omega⟩, wordL_zeros nw⟩ (fun g' e => (HO7.out.lt g' e).1) (fun g' e => (HS.out.2.2.2.2.1.lt g' e).2) hgrow8 hat8' (by omega) (by rw [zeroEs_len]; exact hown8)
        have hgT : wr.grownBy w8 V.ownBlock := grownBy_trans (grownBy_of_below HbT.out _) hgrow8
        have HB9 := Lib.hid (HS.out.boxG hgT)
        have HS9 := Lib.hid (HS.out.swap hgT hr8)
        have HP9 := Lib.hid (HS.out.argG hgT)
        have u4 : w8.cell? ⟨T, 4, none⟩ = some V := HB9.out.cell rfl
        have f4 : w8.frozen? ⟨T, 4, none⟩ = false := HB9.out.free 4
        clear hown8 hgrow8 hat8 hat8' hlt8 hr8 hgT
        refine hK.out _ _ (⟨HP9.out.cell rfl, HP9.out.cell rfl, HP9.out.cell rfl, HP9.out.cell rfl⟩) (fun hHeld => ?_)
        clear hK K
        try simp only [Act.put, List.setIfInBounds_toArray, List.set_cons_zero, List.set_cons_succ]
        refine wpAnyH_yield (i := 8) (v := ?vb8) rfl rfl (by kernel_rfl) (by kernel_rfl) (by kernel_rfl) (fun _ _ _ h => h) (by rfl) ?hyb8 hHeld ?restb8
        case hyb8 =>
          intro w hSw
          (try dsimp only at hSw)
          go_simp
          try with_reducible rfl
        simp only [Act.put, List.setIfInBounds_toArray, List.set_cons_zero, List.set_cons_succ]
        refine wpAnyH_ready (rs := [9]) (by kernel_rfl) (by simp) ?_
        refine AllReadyH.cons rfl (fun K hK => ?_) AllReadyH.nil
        go_simp
        refine hK.out _ _ (⟨HS9.out.2.1.cell rfl, HS9.out.2.1.cell rfl, HS9.out.2.1.cell rfl, HS9.out.2.1.cell rfl⟩) (fun hHeld => ?_)
        clear hK K
        try simp only [Act.put, List.setIfInBounds_toArray, List.set_cons_zero, List.set_cons_succ]
        refine wpAnyH_done (by kernel_rfl) ?_ _
        clear hHeld u4 f4 t7 t8
        go_wp2
        exact ⟨⟨k + 1, _, by omega, by go_num, HS9⟩, by simp [intOf]; omega⟩
      refine AllReadyH.cons rfl (fun K hK => ?_) AllReadyH.nil
      go_simp
      refine hK.out _ _ (⟨HP8.out.cell rfl, HP8.out.cell rfl, HP8.out.cell rfl, HP8.out.cell rfl⟩) (fun hHeld => ?_)
      clear hK K
      try simp only [Act.put, List.setIfInBounds_toArray, List.set_cons_zero, List.set_cons_succ]
      refine wpAnyH_ready (rs := [1]) (by kernel_rfl) (by simp) ?_
      refine AllReadyH.cons rfl (fun K hK => ?_) AllReadyH.nil
      go_simp
      refine hK.out _ _ (⟨HP8.out.cell rfl, HP8.out.cell rfl, HP8.out.cell rfl, HP8.out.cell rfl⟩) (fun hHeld => ?_)
      clear hK K
      try simp only [Act.put, List.setIfInBounds_toArray, List.set_cons_zero, List.set_cons_succ]
      obtain ⟨xs, ho6, hod6⟩ := HS.out.2.2.2.2.1
      rw [zeroEs_len] at ho6
      have hbT : Below wr.heap.size wr (w7.alloc (.cells #[.int .u32 (k : Int), .slice (some ⟨gz, 0, none⟩) nw nw] 48)) := Hb7.out.trans (Hba.out.mono Hb7.out.size)
      have HO8 := Lib.hid (ownsRow_below ho6 hbT)
      have HOd := Lib.hid hod6
      have HbT := Lib.hid hbT
      have hge : w.heap.size + 2 ≤ wr.heap.size := by have := HS.out.2.2.2.2.2; have := HS.out.2.2.2.1.lt; omega
      have hg78 : wr.heap.size ≤ w7.heap.size := Hb7.out.size
      clear ho6 hod6 hbT
      refine wpAnyH_ready (rs := [7]) (by kernel_rfl) (by simp) ?_
      refine AllReadyH.cons rfl (fun K hK => ?_) AllReadyH.nil
      refine step_lies (w7.alloc (.cells #[.int .u32 (k : Int), .slice (some ⟨gz, 0, none⟩) nw nw] 48)) (by rfl) _ _ _ (by rfl) (by rfl) (w.heap.size + 2) 48 iE _ 2 32 Try.underlying42 hiE hz0 hz1 hz2 rfl (by omega) V k xs (by rfl) HO8.out ⟨w7.heap.size, 0, none⟩ 1 1 [.int .u32 (k : Int), .slice (some ⟨gz, 0, none⟩) nw nw] (by rfl) (by rfl) (World.news_of_block HNew.out) (by simp [Value.oneCell']) (by omega) (by unfold maxLen; omega) (by omega) (by omega) (w7.heap.size + 1) hsa ?_
      intro g8 c8 w8 hown8 hgrow8 hat8 hlt8
      have hat8' : (Value.slice (some ⟨g8, 0, none⟩) (k + 1) c8).ownBlock = V.ownBlock ∨ (Value.slice (some ⟨g8, 0, none⟩) (k + 1) c8).ownBlock = some (w7.heap.size + 1) := by
        rcases hat8 with e | e
        · exact .inl e.symm
        · exact .inr (by rw [e]; rfl)
      have hr8 : Row w8 (w.heap.size + 2) (.slice (some ⟨g8, 0, none⟩) (k + 1) c8) (zeroEs (k + 1) nw) := by
        rw [zeroEs_step]
        exact own_snoc HOd.out HbT.out (by rw [List.length_replicate]; exact own_base (ownsRow_below HO7.out Hba.out) (by exact hge)) ⟨⟨by omega, by omega⟩, wordL_zeros nw⟩ (fun g' e => (HO7.out.lt g' e).1) (fun g' e => (HS.out.2.2.2.2.1.lt g' e).2) hgrow8 hat8' (by omega) (by rw [zeroEs_len]; exact hown8)
      have hgT : wr.grownBy w8 V.ownBlock := grownBy_trans (grownBy_of_below HbT.out _) hgrow8
      have HB9 := Lib.hid (HS.out.boxG hgT)
      have HS9 := Lib.hid (HS.out.swap hgT hr8)
      have HP9 := Lib.hid (HS.out.argG hgT)
      have u4 : w8.cell? ⟨T, 4, none⟩ = some V := HB9.out.cell rfl
      have f4 : w8.frozen? ⟨T, 4, none⟩ = false := HB9.out.free 4
      clear hown8 hgrow8 hat8 hat8' hlt8 hr8 hgT
      refine hK.out _ _ (⟨HP9.out.cell rfl, HP9.out.cell rfl, HP9.out.cell rfl, HP9.out.cell rfl⟩) (fun hHeld => ?_)
      clear hK K
      try simp only [Act.put, List.setIfInBounds_toArray, List.set_cons_zero, List.set_cons_succ]
      refine wpAnyH_yield (i := 8) (v := ?vc8) rfl rfl (by kernel_rfl) (by kernel_rfl) (by kernel_rfl) (fun _ _ _ h => h) (by rfl) ?hyc8 hHeld ?restc8
      case hyc8 =>
        intro w hSw
        (try dsimp only at hSw)
        go_simp
        try with_reducible rfl
      simp only [Act.put, List.setIfInBounds_toArray, List.set_cons_zero, List.set_cons_succ]
      refine wpAnyH_ready (rs := [9]) (by kernel_rfl) (by simp) ?_
      refine AllReadyH.cons rfl (fun K hK => ?_) AllReadyH.nil
      go_simp
      refine hK.out _ _ (⟨HS9.out.2.1.cell rfl, HS9.out.2.1.cell rfl, HS9.out.2.1.cell rfl, HS9.out.2.1.cell rfl⟩) (fun hHeld => ?_)
      clear hK K
      try simp only [Act.put, List.setIfInBounds_toArray, List.set_cons_zero, List.set_cons_succ]
      refine wpAnyH_done (by kernel_rfl) ?_ _
      clear hHeld u4 f4 t7 t8
      go_wp2
      exact ⟨⟨k + 1, _, by omega, by go_num, HS9⟩, by simp [intOf]; omega⟩
    · have hkI : ¬ (k : Int) < s1 := by have := HNc.out; omega
      have hkn : k = nc := by omega
      subst hkn
      have HR2 := Lib.hid HS.out.2.2.1
      obtain ⟨b, cp, hV, _⟩ := HS.out.2.2.2.2.1.at
      subst hV
      go_wp2_with (refine wpList_store_row rfl 44 _ _ rfl (w.heap.size + 1) _ rfl rfl 44 _ HR2.out (by kernel_rfl) rfl (by simp [Value.oneCell']) ?_)
      refine bodyPost_ret (v := .tuple #[tbV (s0, s1, s2, s3) (.slice b (zeroEs k nw).length cp) 0, .int .i64 0]) ?_ rfl ?_
      · exact results_tb_two Try.results16 _ _ (w.heap.size + 1) 44 _ _ rfl rfl rfl (setRow_heap _ _ _ _ _ _ HR2.out)
      · rw [← HRR.out, ← HRE.out, HN.out.1, HN.out.2]
        simp only [HTo.out.1, HTo.out.2]
        exact HS.out.fin _
end Go.Proofs.Ytmlmdhnjafakiaa
