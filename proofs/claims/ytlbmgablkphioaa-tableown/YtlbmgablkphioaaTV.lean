/-
  What the fifth reference's New returns, as a contract over the translated program: an empty table, an Array with noughts.
-/
import Derived.Test.YtlbmgablkphioaaTR
import Derived.Laws.OwnMore
namespace Go.Proofs.Ytlbmgablkphioaa
open Go Go.RowKit

theorem made_words (n : Nat) : (madeCells (Value.int .u32 0).cells (n * 1)).toList = wordsV (List.replicate n 0) := by
  have hc : (Value.int .u32 0).cells = #[.int .u32 0] := rfl
  rw [hc]
  apply List.ext_getElem?
  intro i
  simp only [madeCells, wordsV, Array.toList_map, Array.toList_range, List.getElem?_map, Nat.mul_one]
  by_cases hi : i < n
  · rw [List.getElem?_range hi, List.getElem?_replicate, if_pos hi]
    simp [Nat.mod_one]
  · rw [List.getElem?_eq_none (by simp; omega), List.getElem?_eq_none (by simp; omega)]
    rfl
/- 'make([]uint32, n)' at a step of a region that draws its order -/
theorem step_makeW {ops : Array Oper} {o : Oper} {a : Act} {d : Tmp} {K : Act → World → Prop} {Q : Exit → Act → World → Prop} {E : Prop} (w : World) (hgd : o.guard = none) (l c : Operand) (ho : o.op = .makeSlice 45 l c) (hd : o.dst = some d)
    (base n : Nat) (L : Int) (hl : a.eval l = .int .i64 L) (hc : a.eval c = .int .i64 L) (hL : L = (n : Int)) (hn : n ≤ 1000) (hb : base ≤ w.heap.size) (H : Nat) (hH : w.heap.size = H)
    (h : ∀ w', w'.ownsRow base 25 1 (.slice (some ⟨H, 0, none⟩) n n) n (wordsV (List.replicate n 0)) → w.grownBy w' none → K (a.put (some d) (.slice (some ⟨H, 0, none⟩) n n)) w') :
    if Region.wanted o (yielded ops a.tmps) = true then Oper.wp Try.prog o a w K Q else E := by
  obtain ⟨jW, hiW, hy0, hy1, hy2⟩ := info_parts infoW
  have hw : Region.wanted o (yielded ops a.tmps) = true := by simp [Region.wanted, hgd]
  rw [if_pos hw]
  subst hL
  subst hH
  obtain ⟨w', hr, r1, r2⟩ := run_make_full (P := Try.prog) w base 45 25 jW _ 1 Try.underlying45 hiW hy0 hy1 .i64 .i64 n (by rw [hy2]; omega) (by unfold maxLen; omega) hb
  rw [made_words] at r1
  unfold Oper.wp execOp
  simp only [ho, hl, hc, Sem.run_bind, Sem.run_pure, Result.andThen_ok, hr, Oper.upon, hd]
  exact h w' r1 r2
def zeroEs (k n : Nat) : List Ent := (List.range k).map (fun (i : Nat) => ((i : Int), List.replicate n 0))
theorem zeroEs_len (k n : Nat) : (zeroEs k n).length = k := by simp [zeroEs]
theorem zeroEs_step (k n : Nat) : zeroEs (k + 1) n = zeroEs k n ++ [((k : Int), List.replicate n 0)] := by simp [zeroEs, List.range_succ]
theorem new_no {s : Sc} (h : mayT s = false) : newT s = zeroT ∧ newE s = 1 := by simp [newT, newE, h]
theorem new_array {s : Sc} (h : mayT s = true) (h0 : s.1 = 0) : newT s = (s, zeroEs s.2.1.toNat s.2.2.1.toNat, 0) ∧ newE s = 0 := by simp [newT, newE, h, h0, zeroEs]
theorem new_other {s : Sc} (h : mayT s = true) (h0 : ¬ s.1 = 0) : newT s = (s, [], 0) ∧ newE s = 0 := by simp [newT, newE, h, h0]
set_option maxRecDepth 100000 in
set_option maxHeartbeats 20000000 in
theorem new_any (s0 s1 s2 s3 : Int) (w : World) :
    Calls Try.prog 27 #[scV s0 s1 s2 s3] w (TabPost2 (newT (s0, s1, s2, s3)) (fun n => w.heap.size ≤ n) (.int .i64 (newE (s0, s1, s2, s3))) w) := by
  obtain ⟨iE, hiE, hz0, hz1, hz2⟩ := info_parts infoE
  obtain ⟨W0, hW0⟩ : ∃ W0, w.alloc (.cells #[.int .i64 s0, .int .i64 s1, .int .i64 s2, .int .i64 s3] 23) = W0 := ⟨_, rfl⟩
  have hs0 : W0.heap.size = w.heap.size + 1 := by rw [← hW0]; simp
  have hbw : Below w.heap.size w W0 := by rw [← hW0]; exact (Below.refl _ _).alloc (Nat.le_refl _) _
  have HP : Hid (Box W0 w.heap.size 23 #[.int .i64 s0, .int .i64 s1, .int .i64 s2, .int .i64 s3]) := by rw [← hW0]; exact Lib.hid (Box.new w 23 _)
  obtain ⟨WR, hWR⟩ : ∃ WR, W0.alloc (.cells zeroTA 27) = WR := ⟨_, rfl⟩
  have hb0 : Below W0.heap.size W0 WR := by rw [← hWR]; exact (Below.refl _ _).alloc (Nat.le_refl _) _
  have HR : Hid (Box WR (w.heap.size + 1) 27 zeroTA) := by
    rw [← hWR]
    have := Box.new W0 27 zeroTA
    rw [hs0] at this
    exact Lib.hid this
  obtain ⟨RR, hRR⟩ : ∃ RR, newT (s0, s1, s2, s3) = RR := ⟨_, rfl⟩
  obtain ⟨RE, hRE⟩ : ∃ RE, newE (s0, s1, s2, s3) = RE := ⟨_, rfl⟩
  rw [hRR, hRE]
  have HRR := Lib.hid hRR
  have HRE := Lib.hid hRE
  have HP2 := Lib.hid (HP.out.later hb0)
  have d0 : WR.cell? ⟨w.heap.size, 0, none⟩ = some (.int .i64 s0) := HP2.out.cell rfl
  have d1 : WR.cell? ⟨w.heap.size, 1, none⟩ = some (.int .i64 s1) := HP2.out.cell rfl
  have d2 : WR.cell? ⟨w.heap.size, 2, none⟩ = some (.int .i64 s2) := HP2.out.cell rfl
  have d3 : WR.cell? ⟨w.heap.size, 3, none⟩ = some (.int .i64 s3) := HP2.out.cell rfl
  clear hRR hRE
  go_enter Try.func27, Try.ntmps27
  go_wp2_with fail
  refine (rmay_any s0 s1 s2 s3 _).mono ?_
  rintro e w1 ⟨rfl, hg⟩
  clear d0 d1 d2 d3 hW0 hWR
  replace HP2 := Lib.hid (HP2.out.later hg)
  replace HR := Lib.hid (HR.out.later hg)
  replace hb0 := hb0.trans (hg.mono hb0.size)
  clear hg
  have d0 : w1.cell? ⟨w.heap.size, 0, none⟩ = some (.int .i64 s0) := HP2.out.cell rfl
  have d1 : w1.cell? ⟨w.heap.size, 1, none⟩ = some (.int .i64 s1) := HP2.out.cell rfl
  have d2 : w1.cell? ⟨w.heap.size, 2, none⟩ = some (.int .i64 s2) := HP2.out.cell rfl
  have d3 : w1.cell? ⟨w.heap.size, 3, none⟩ = some (.int .i64 s3) := HP2.out.cell rfl
  have hRl : w.heap.size + 1 < w1.heap.size := HR.out.lt
  rcases hM : mayS s0 s1 s2 s3 with _ | _
  · have HN := Lib.hid (new_no (s := (s0, s1, s2, s3)) hM)
    go_wp2_with (refine wpList_store_row rfl 27 _ _ rfl (w.heap.size + 1) _ rfl rfl 27 _ HR.out (by kernel_rfl) rfl (by simp [Value.oneCell']) ?_)
    refine bodyPost_ret (v := .tuple #[tbV zeroS (.slice none 0 0) 0, .int .i64 1]) ?_ rfl ?_
    · exact results_tb_two Try.results27 _ _ (w.heap.size + 1) 27 _ _ rfl rfl rfl (setRow_heap _ _ _ _ _ _ HR.out)
    · rw [← HRR.out, ← HRE.out, HN.out.1, HN.out.2]
      exact ⟨none, 0, 0, rfl, below_setRow (hbw.trans (hb0.mono hbw.size)) (by omega) _, ⟨rfl, Nat.le_refl _, Nat.zero_le _, .inl rfl⟩⟩
  have hP := mayS_iff.1 hM
  obtain ⟨W1, hW1⟩ : ∃ W1, w1.alloc (.cells #[.int .i64 s0, .int .i64 s1, .int .i64 s2, .int .i64 s3, .slice none 0 0, .int .u32 0] 27) = W1 := ⟨_, rfl⟩
  have hg1 : Below w1.heap.size w1 W1 := by rw [← hW1]; exact (Below.refl _ _).alloc (Nat.le_refl _) _
  obtain ⟨O, hO⟩ : ∃ O, w1.heap.size = O := ⟨_, rfl⟩
  have HInv : Hid (Inv5 W0 O (w.heap.size + 1) (s0, s1, s2, s3) 0 W1 0 (.slice none 0 0) [] []) := by
    have hB : Box W1 O 27 (tbA (s0, s1, s2, s3) (.slice none 0 0) 0) := by rw [← hW1, ← hO]; exact Box.new w1 27 _
    exact Lib.hid ⟨World.ownsRow_nil _ _ _ _, Owned.nil _ _ _, hB, HR.out.later hg1, hb0.trans (hg1.mono hb0.size), by omega, by omega⟩
  have HPo := Lib.hid (HP2.out.later hg1)
  clear HP2 HR
  have x0 : W1.cell? ⟨w.heap.size, 0, none⟩ = some (.int .i64 s0) := HPo.out.cell rfl
  have x1 : W1.cell? ⟨w.heap.size, 1, none⟩ = some (.int .i64 s1) := HPo.out.cell rfl
  have hlO : w.heap.size + 1 < O := by omega
  have HW1 := Lib.hid hW1
  have HOO := Lib.hid hO
  have hlw1 : w.heap.size < w1.heap.size := by omega
  clear hW1 hO
  have HHP := Lib.hid hP
  have HHM := Lib.hid hM
  by_cases e0 : ¬ s0 = 0
  · have k0 : (s0 == 0) = false := by simpa using e0
    have HN := Lib.hid (new_other (s := (s0, s1, s2, s3)) hM e0)
    clear e0 hM hP x0 x1
    rw [← HW1.out, ← HOO.out] at HInv
    have HBR := Lib.hid HInv.out.2.2.2.1
    obtain ⟨b, cp, hv, _⟩ := ents_own (rfl) HInv.out.1 HInv.out.2.1
    cases hv
    obtain ⟨o0, o1, o2, o3, o4, o5⟩ := Box.tb (s := (s0, s1, s2, s3)) HInv.out.2.2.1
    simp only at o0 o1 o2 o3 o4 o5
    go_wp2_with (refine wpList_store_row rfl 27 _ _ rfl (w.heap.size + 1) _ rfl rfl 27 _ HBR.out (by kernel_rfl) rfl (by simp [Value.oneCell']) ?_)
    refine bodyPost_ret (v := .tuple #[tbV (s0, s1, s2, s3) (.slice none 0 0) 0, .int .i64 0]) ?_ rfl ?_
    · exact results_tb_two Try.results27 _ _ (w.heap.size + 1) 27 _ _ rfl rfl rfl (setRow_heap _ _ _ _ _ _ HBR.out)
    · obtain ⟨hOw, hCd, hBO, hBR', hb', hR1, hR2⟩ := HInv.out
      rw [← HRR.out, ← HRE.out, HN.out.1, HN.out.2]
      exact ⟨none, _, 0, rfl, hbw.trans ((below_setRow hb' hR1 _).mono hbw.size), ⟨rfl, Nat.le_refl _, Nat.zero_le _, .inl rfl⟩⟩
  replace e0 := Decidable.not_not.1 e0
  have k0 : (s0 == 0) = true := by simpa using e0
  have HN := Lib.hid (new_array (s := (s0, s1, s2, s3)) hM e0)
  obtain ⟨nc, hnc⟩ := Int.eq_ofNat_of_zero_le (show 0 ≤ s1 by omega)
  obtain ⟨nw, hnw⟩ := Int.eq_ofNat_of_zero_le (show 0 ≤ s2 by omega)
  have hnc16 : nc ≤ 16 := by omega
  have hnw4 : nw ≤ 4 := by omega
  have HNC := Lib.hid hnc
  have HNW := Lib.hid hnw
  clear e0 hM hP hnc hnw
  go_wp2_with fail
  rw [HW1.out, HOO.out]
  go_loopw [6] (fun i wr => ∃ (k : Nat) (v : Value) (xs : List Value), k ≤ nc ∧ i = .int .i64 k ∧ Hid (Inv5 W0 O (w.heap.size + 1) (s0, s1, s2, s3) 0 wr k v xs (zeroEs k nw))) (fun i _ => nc - (intOf i).toNat)
  case atStart => exact ⟨0, .slice none 0 0, [], by omega, rfl, HInv⟩
  case round =>
    obtain ⟨k, v, xs, hk, rfl, HI⟩ := hrel
    clear HInv d0 d1 d2 d3 x0 x1
    have hnc := HNC.out
    have hnw := HNW.out
    have hb := HI.out.2.2.2.2.1
    have HPw := Lib.hid (HP.out.later hb)
    have d1 : wr.cell? ⟨w.heap.size, 1, none⟩ = some (.int .i64 s1) := HPw.out.cell rfl
    have d2 : wr.cell? ⟨w.heap.size, 2, none⟩ = some (.int .i64 s2) := HPw.out.cell rfl
    have HBO := Lib.hid HI.out.2.2.1
    have cO : wr.cell? ⟨O, 4, none⟩ = some v := HBO.out.cell rfl
    have hlt : O < wr.heap.size := HBO.out.lt
    by_cases hkl : k < nc
    · have hkI : decide ((k : Int) < s1) = true := by simp; omega
      have hkw : IntKind.u32.wrap (k : Int) = (k : Int) := by rw [wW]; omega
      have HK : Hid (∀ w', Below (w.heap.size + 1) wr w' → w'.cell? ⟨w.heap.size, 2, none⟩ = some (.int .i64 s2) ∧ Below (w.heap.size + 1) wr w') := Lib.hid (fun w' h => ⟨(h.cell (p := ⟨w.heap.size, 2, none⟩) (by simp)).trans d2, h⟩)
      have hP0 : Below (w.heap.size + 1) wr wr.drew := (Below.refl _ _).drew
      have hOwn := HI.out.1
      have hnv : v.ownBlock = none ∨ v.ownBlock ≠ none := by
        cases hv : v.ownBlock
        · exact .inl rfl
        · exact .inr (by simp)
      have hvB : ∀ g, v.ownBlock = some g → O + 1 ≤ g := fun g hg => (HI.out.1.lt g hg).1
      have hne2 : some O ≠ v.ownBlock := fun h => by have := hvB _ h.symm; omega
      clear hb hnc hnw
      go_wp2_with fail
      refine wp_region_held_drew (S := (fun w' => w'.cell? ⟨w.heap.size, 2, none⟩ = some (.int .i64 s2) ∧ Below (w.heap.size + 1) wr w')) (by kernel_rfl) (HK.out _ hP0) (fun hHeld => ?_)
      refine wpAnyH_yield (i := 0) (v := ?v0) rfl rfl (by kernel_rfl) (by kernel_rfl) (by kernel_rfl) (fun _ _ _ h => h) (by rfl) ?hy0 hHeld ?rest0
      case hy0 =>
        intro w hSw
        (try dsimp only at hSw)
        go_simp
        try with_reducible rfl
      simp only [Act.put, List.setIfInBounds_toArray, List.set_cons_zero, List.set_cons_succ]
      refine wpAnyH_yield (i := 2) (v := ?v2) rfl rfl (by kernel_rfl) (by kernel_rfl) (by kernel_rfl) (fun _ _ _ h => h) (by rfl) ?hy2 hHeld ?rest2
      case hy2 =>
        intro w hSw
        (try dsimp only at hSw)
        go_simp
        try with_reducible rfl
      simp only [Act.put, List.setIfInBounds_toArray, List.set_cons_zero, List.set_cons_succ]
      refine wpAnyH_yield (i := 3) (v := ?v3) rfl rfl (by kernel_rfl) (by kernel_rfl) (by kernel_rfl) (fun _ _ _ h => h) (by rfl) ?hy3 hHeld ?rest3
      case hy3 =>
        intro w hSw
        (try dsimp only at hSw)
        go_simp
        try with_reducible rfl
      simp only [Act.put, List.setIfInBounds_toArray, List.set_cons_zero, List.set_cons_succ]
      refine wpAnyH_yield (i := 4) (v := ?v4) rfl rfl (by kernel_rfl) (by kernel_rfl) (by kernel_rfl) (fun _ _ _ h => h) (by rfl) ?hy4 hHeld ?rest4
      case hy4 =>
        intro w hSw
        (try dsimp only at hSw)
        go_simp
        try with_reducible rfl
      simp only [Act.put, List.setIfInBounds_toArray, List.set_cons_zero, List.set_cons_succ]
      refine wpAnyH_yield (i := 5) (v := ?v5) rfl rfl (by kernel_rfl) (by kernel_rfl) (by kernel_rfl) (fun _ _ _ h => h) (by rfl) ?hy5 hHeld ?rest5
      case hy5 =>
        intro w hSw
        (try dsimp only at hSw)
        go_simp
        try with_reducible rfl
      simp only [Act.put, List.setIfInBounds_toArray, List.set_cons_zero, List.set_cons_succ]
      refine wpAnyH_ready (rs := [1, 6]) (by kernel_rfl) (by simp) ?_
      refine AllReadyH.cons rfl (fun K hK => ?_) ?_
      · go_simp
        refine hK.out _ _ (HK.out _ hP0) (fun hHeld => ?_)
        clear hK K
        try simp only [Act.put, List.setIfInBounds_toArray, List.set_cons_zero, List.set_cons_succ]
        refine wpAnyH_ready (rs := [6]) (by kernel_rfl) (by simp) ?_
        refine AllReadyH.cons rfl (fun K hK => ?_) AllReadyH.nil
        refine step_makeW wr.drew (by rfl) _ _ (by rfl) (by rfl) (O + 1) nw s2 (by rfl) (by rfl) HNW.out (by omega) (by simp; omega) wr.heap.size (by simp) ?_
        intro w4 hown4 hgrow4
        have hB4 : Below wr.heap.size wr w4 := ⟨hgrow4.os, hgrow4.tape, hgrow4.output, hgrow4.size, fun j hj => hgrow4.block j hj (by simp)⟩
        have hP4 : Below (w.heap.size + 1) wr w4 := hB4.mono (by omega)
        have HX4 := Lib.hid (HBO.out.below hB4 HBO.out.lt)
        have cO4 : w4.cell? ⟨O, 4, none⟩ = some v := HX4.out.cell rfl
        have hlt4 : O < w4.heap.size := HX4.out.lt
        refine hK.out _ _ (HK.out _ hP4) (fun hHeld => ?_)
        clear hK K
        try simp only [Act.put, List.setIfInBounds_toArray, List.set_cons_zero, List.set_cons_succ]
        refine wpAnyH_yield (i := 7) (v := ?va7) rfl rfl (by kernel_rfl) (by kernel_rfl) (by kernel_rfl) (fun _ _ _ h => h) (by rfl) ?hya7 hHeld ?resta7
        case hya7 =>
          intro w hSw
          (try dsimp only at hSw)
          go_simp
          try with_reducible rfl
        simp only [Act.put, List.setIfInBounds_toArray, List.set_cons_zero, List.set_cons_succ]
        have hP5 : Below (w.heap.size + 1) wr (w4.alloc (.cells #[.int .u32 (k : Int), .slice (some ⟨wr.heap.size, 0, none⟩) nw nw] 48)) := hP4.alloc (by omega) _
        have cO5 : (w4.alloc (.cells #[.int .u32 (k : Int), .slice (some ⟨wr.heap.size, 0, none⟩) nw nw] 48)).cell? ⟨O, 4, none⟩ = some v := (HX4.out.alloc _).cell rfl
        refine wpAnyH_ready (rs := [8]) (by kernel_rfl) (by simp) ?_
        refine AllReadyH.cons rfl (fun K hK => ?_) AllReadyH.nil
        go_simp
        refine hK.out _ _ (HK.out _ hP5) (fun hHeld => ?_)
        clear hK K
        try simp only [Act.put, List.setIfInBounds_toArray, List.set_cons_zero, List.set_cons_succ]
        refine wpAnyH_ready (rs := [9]) (by kernel_rfl) (by simp) ?_
        refine AllReadyH.cons rfl (fun K hK => ?_) AllReadyH.nil
        refine step_lies (w4.alloc (.cells #[.int .u32 (k : Int), .slice (some ⟨wr.heap.size, 0, none⟩) nw nw] 48)) (by rfl) _ _ _ (by rfl) (by rfl) (O + 1) 48 iE _ 2 32 Try.underlying24 hiE hz0 hz1 hz2 rfl (by omega) v k xs (by rfl) ((hOwn.drew.kept hgrow4 hnv).alloc _) ⟨w4.heap.size, 0, none⟩ 1 1 [.int .u32 (k : Int), .slice (some ⟨wr.heap.size, 0, none⟩) nw nw] (by rfl) (by rfl) (World.news_of_block (cs := #[.int .u32 (k : Int), .slice (some ⟨wr.heap.size, 0, none⟩) nw nw]) (t := 48) (fr := (0, 0)) (heap_alloc_new w4 _)) (by simp [Value.oneCell']) (by omega) (by unfold maxLen; omega) (by omega) (by simp; omega) (w4.heap.size + 1) (by simp) ?_
        intro g6 cp6 w6 hown6 hgrow6 hat6 hlt6
        have HX6 := Lib.hid ((HX4.out.alloc (.cells #[.int .u32 (k : Int), .slice (some ⟨wr.heap.size, 0, none⟩) nw nw] 48)).grown hgrow6 hne2)
        have hP6 : Below (w.heap.size + 1) wr w6 := hP5.grown hgrow6 (by simp; omega) (fun g hg => by have := hvB g hg; omega)
        have cO6 : w6.cell? ⟨O, 4, none⟩ = some v := HX6.out.cell rfl
        have fO6 : w6.frozen? ⟨O, 4, none⟩ = false := HX6.out.free 4
        have hP7 : Below (w.heap.size + 1) wr (w6.setCell ⟨O, 4, none⟩ (.slice (some ⟨g6, 0, none⟩) (k + 1) cp6)) := hP6.setCell (by simp; omega) _
        have HInv6 := Lib.hid (pushed5 HI.out hB4 (by rw [List.length_replicate]; exact hown4) (show okE ((k : Int), List.replicate nw 0) from ⟨⟨by omega, by omega⟩, wordL_zeros nw⟩) (fun g hg => by have : wr.heap.size = g := Option.some.inj hg; omega) ((Below.refl w4.heap.size w4).alloc (Nat.le_refl _) (.cells #[.int .u32 (k : Int), .slice (some ⟨wr.heap.size, 0, none⟩) nw nw] 48)) hown6 hgrow6 hat6 (by simp))
        rw [← zeroEs_step] at HInv6
        refine hK.out _ _ (HK.out _ hP6) (fun hHeld => ?_)
        clear hK K
        try simp only [Act.put, List.setIfInBounds_toArray, List.set_cons_zero, List.set_cons_succ]
        refine wpAnyH_yield (i := 10) (v := ?va10) rfl rfl (by kernel_rfl) (by kernel_rfl) (by kernel_rfl) (fun _ _ _ h => h) (by rfl) ?hya10 hHeld ?resta10
        case hya10 =>
          intro w hSw
          (try dsimp only at hSw)
          go_simp
          try with_reducible rfl
        simp only [Act.put, List.setIfInBounds_toArray, List.set_cons_zero, List.set_cons_succ]
        refine wpAnyH_ready (rs := [11]) (by kernel_rfl) (by simp) ?_
        refine AllReadyH.cons rfl (fun K hK => ?_) AllReadyH.nil
        go_simp
        refine hK.out _ _ (HK.out _ hP7) (fun hHeld => ?_)
        clear hK K
        try simp only [Act.put, List.setIfInBounds_toArray, List.set_cons_zero, List.set_cons_succ]
        refine wpAnyH_done (by kernel_rfl) ?_ _
        clear hown4 hgrow4 hB4 hP4 hP5 cO4 cO5 hown6 hgrow6 hat6 hlt6 hP6 hP7 cO6 fO6 HX4 HX6 hHeld
        go_wp2
        exact ⟨⟨k + 1, _, _, by omega, by go_num, HInv6⟩, by simp [intOf]; omega⟩
      refine AllReadyH.cons rfl (fun K hK => ?_) AllReadyH.nil
      refine step_makeW wr.drew (by rfl) _ _ (by rfl) (by rfl) (O + 1) nw s2 (by rfl) (by rfl) HNW.out (by omega) (by simp; omega) wr.heap.size (by simp) ?_
      intro w4 hown4 hgrow4
      have hB4 : Below wr.heap.size wr w4 := ⟨hgrow4.os, hgrow4.tape, hgrow4.output, hgrow4.size, fun j hj => hgrow4.block j hj (by simp)⟩
      have hP4 : Below (w.heap.size + 1) wr w4 := hB4.mono (by omega)
      have HX4 := Lib.hid (HBO.out.below hB4 HBO.out.lt)
      have cO4 : w4.cell? ⟨O, 4, none⟩ = some v := HX4.out.cell rfl
      have hlt4 : O < w4.heap.size := HX4.out.lt
      refine hK.out _ _ (HK.out _ hP4) (fun hHeld => ?_)
      clear hK K
      try simp only [Act.put, List.setIfInBounds_toArray, List.set_cons_zero, List.set_cons_succ]
      refine wpAnyH_yield (i := 7) (v := ?vb7) rfl rfl (by kernel_rfl) (by kernel_rfl) (by kernel_rfl) (fun _ _ _ h => h) (by rfl) ?hyb7 hHeld ?restb7
      case hyb7 =>
        intro w hSw
        (try dsimp only at hSw)
        go_simp
        try with_reducible rfl
      simp only [Act.put, List.setIfInBounds_toArray, List.set_cons_zero, List.set_cons_succ]
      have hP5 : Below (w.heap.size + 1) wr (w4.alloc (.cells #[.int .u32 (k : Int), .slice (some ⟨wr.heap.size, 0, none⟩) nw nw] 48)) := hP4.alloc (by omega) _
      have cO5 : (w4.alloc (.cells #[.int .u32 (k : Int), .slice (some ⟨wr.heap.size, 0, none⟩) nw nw] 48)).cell? ⟨O, 4, none⟩ = some v := (HX4.out.alloc _).cell rfl
      refine wpAnyH_ready (rs := [1, 8]) (by kernel_rfl) (by simp) ?_
      refine AllReadyH.cons rfl (fun K hK => ?_) ?_
      · go_simp
        refine hK.out _ _ (HK.out _ hP4) (fun hHeld => ?_)
        clear hK K
        try simp only [Act.put, List.setIfInBounds_toArray, List.set_cons_zero, List.set_cons_succ]
        refine wpAnyH_ready (rs := [8]) (by kernel_rfl) (by simp) ?_
        refine AllReadyH.cons rfl (fun K hK => ?_) AllReadyH.nil
        go_simp
        refine hK.out _ _ (HK.out _ hP5) (fun hHeld => ?_)
        clear hK K
        try simp only [Act.put, List.setIfInBounds_toArray, List.set_cons_zero, List.set_cons_succ]
        refine wpAnyH_ready (rs := [9]) (by kernel_rfl) (by simp) ?_
        refine AllReadyH.cons rfl (fun K hK => ?_) AllReadyH.nil
        refine step_lies (w4.alloc (.cells #[.int .u32 (k : Int), .slice (some ⟨wr.heap.size, 0, none⟩) nw nw] 48)) (by rfl) _ _ _ (by rfl) (by rfl) (O + 1) 48 iE _ 2 32 Try.underlying24 hiE hz0 hz1 hz2 rfl (by omega) v k xs (by rfl) ((hOwn.drew.kept hgrow4 hnv).alloc _) ⟨w4.heap.size, 0, none⟩ 1 1 [.int .u32 (k : Int), .slice (some ⟨wr.heap.size, 0, none⟩) nw nw] (by rfl) (by rfl) (World.news_of_block (cs := #[.int .u32 (k : Int), .slice (some ⟨wr.heap.size, 0, none⟩) nw nw]) (t := 48) (fr := (0, 0)) (heap_alloc_new w4 _)) (by simp [Value.oneCell']) (by omega) (by unfold maxLen; omega) (by omega) (by simp; omega) (w4.heap.size + 1) (by simp) ?_
        intro g6 cp6 w6 hown6 hgrow6 hat6 hlt6
        have HX6 := Lib.hid ((HX4.out.alloc (.cells #[.int .u32 (k : Int), .slice (some ⟨wr.heap.size, 0, none⟩) nw nw] 48)).grown hgrow6 hne2)
        have hP6 : Below (w.heap.size + 1) wr w6 := hP5.grown hgrow6 (by simp; omega) (fun g hg => by have := hvB g hg; omega)
        have cO6 : w6.cell? ⟨O, 4, none⟩ = some v := HX6.out.cell rfl
        have fO6 : w6.frozen? ⟨O, 4, none⟩ = false := HX6.out.free 4
        have hP7 : Below (w.heap.size + 1) wr (w6.setCell ⟨O, 4, none⟩ (.slice (some ⟨g6, 0, none⟩) (k + 1) cp6)) := hP6.setCell (by simp; omega) _
        have HInv6 := Lib.hid (pushed5 HI.out hB4 (by rw [List.length_replicate]; exact hown4) (show okE ((k : Int), List.replicate nw 0) from ⟨⟨by omega, by omega⟩, wordL_zeros nw⟩) (fun g hg => by have : wr.heap.size = g := Option.some.inj hg; omega) ((Below.refl w4.heap.size w4).alloc (Nat.le_refl _) (.cells #[.int .u32 (k : Int), .slice (some ⟨wr.heap.size, 0, none⟩) nw nw] 48)) hown6 hgrow6 hat6 (by simp))
        rw [← zeroEs_step] at HInv6
        refine hK.out _ _ (HK.out _ hP6) (fun hHeld => ?_)
        clear hK K
        try simp only [Act.put, List.setIfInBounds_toArray, List.set_cons_zero, List.set_cons_succ]
        refine wpAnyH_yield (i := 10) (v := ?vb10) rfl rfl (by kernel_rfl) (by kernel_rfl) (by kernel_rfl) (fun _ _ _ h => h) (by rfl) ?hyb10 hHeld ?restb10
        case hyb10 =>
          intro w hSw
          (try dsimp only at hSw)
          go_simp
          try with_reducible rfl
        simp only [Act.put, List.setIfInBounds_toArray, List.set_cons_zero, List.set_cons_succ]
        refine wpAnyH_ready (rs := [11]) (by kernel_rfl) (by simp) ?_
        refine AllReadyH.cons rfl (fun K hK => ?_) AllReadyH.nil
        go_simp
        refine hK.out _ _ (HK.out _ hP7) (fun hHeld => ?_)
        clear hK K
        try simp only [Act.put, List.setIfInBounds_toArray, List.set_cons_zero, List.set_cons_succ]
        refine wpAnyH_done (by kernel_rfl) ?_ _
        clear hown4 hgrow4 hB4 hP4 hP5 cO4 cO5 hown6 hgrow6 hat6 hlt6 hP6 hP7 cO6 fO6 HX4 HX6 hHeld
        go_wp2
        exact ⟨⟨k + 1, _, _, by omega, by go_num, HInv6⟩, by simp [intOf]; omega⟩
      refine AllReadyH.cons rfl (fun K hK => ?_) AllReadyH.nil
      go_simp
      refine hK.out _ _ (HK.out _ hP5) (fun hHeld => ?_)
      clear hK K
      try simp only [Act.put, List.setIfInBounds_toArray, List.set_cons_zero, List.set_cons_succ]
      refine wpAnyH_ready (rs := [1]) (by kernel_rfl) (by simp) ?_
      refine AllReadyH.cons rfl (fun K hK => ?_) AllReadyH.nil
      go_simp
      refine hK.out _ _ (HK.out _ hP5) (fun hHeld => ?_)
      clear hK K
      try simp only [Act.put, List.setIfInBounds_toArray, List.set_cons_zero, List.set_cons_succ]
      refine wpAnyH_ready (rs := [9]) (by kernel_rfl) (by simp) ?_
      refine AllReadyH.cons rfl (fun K hK => ?_) AllReadyH.nil
      refine step_lies (w4.alloc (.cells #[.int .u32 (k : Int), .slice (some ⟨wr.heap.size, 0, none⟩) nw nw] 48)) (by rfl) _ _ _ (by rfl) (by rfl) (O + 1) 48 iE _ 2 32 Try.underlying24 hiE hz0 hz1 hz2 rfl (by omega) v k xs (by rfl) ((hOwn.drew.kept hgrow4 hnv).alloc _) ⟨w4.heap.size, 0, none⟩ 1 1 [.int .u32 (k : Int), .slice (some ⟨wr.heap.size, 0, none⟩) nw nw] (by rfl) (by rfl) (World.news_of_block (cs := #[.int .u32 (k : Int), .slice (some ⟨wr.heap.size, 0, none⟩) nw nw]) (t := 48) (fr := (0, 0)) (heap_alloc_new w4 _)) (by simp [Value.oneCell']) (by omega) (by unfold maxLen; omega) (by omega) (by simp; omega) (w4.heap.size + 1) (by simp) ?_
      intro g6 cp6 w6 hown6 hgrow6 hat6 hlt6
      have HX6 := Lib.hid ((HX4.out.alloc (.cells #[.int .u32 (k : Int), .slice (some ⟨wr.heap.size, 0, none⟩) nw nw] 48)).grown hgrow6 hne2)
      have hP6 : Below (w.heap.size + 1) wr w6 := hP5.grown hgrow6 (by simp; omega) (fun g hg => by have := hvB g hg; omega)
      have cO6 : w6.cell? ⟨O, 4, none⟩ = some v := HX6.out.cell rfl
      have fO6 : w6.frozen? ⟨O, 4, none⟩ = false := HX6.out.free 4
      have hP7 : Below (w.heap.size + 1) wr (w6.setCell ⟨O, 4, none⟩ (.slice (some ⟨g6, 0, none⟩) (k + 1) cp6)) := hP6.setCell (by simp; omega) _
      have HInv6 := Lib.hid (pushed5 HI.out hB4 (by rw [List.length_replicate]; exact hown4) (show okE ((k : Int), List.replicate nw 0) from ⟨⟨by omega, by omega⟩, wordL_zeros nw⟩) (fun g hg => by have : wr.heap.size = g := Option.some.inj hg; omega) ((Below.refl w4.heap.size w4).alloc (Nat.le_refl _) (.cells #[.int .u32 (k : Int), .slice (some ⟨wr.heap.size, 0, none⟩) nw nw] 48)) hown6 hgrow6 hat6 (by simp))
      rw [← zeroEs_step] at HInv6
      refine hK.out _ _ (HK.out _ hP6) (fun hHeld => ?_)
      clear hK K
      try simp only [Act.put, List.setIfInBounds_toArray, List.set_cons_zero, List.set_cons_succ]
      refine wpAnyH_yield (i := 10) (v := ?vc10) rfl rfl (by kernel_rfl) (by kernel_rfl) (by kernel_rfl) (fun _ _ _ h => h) (by rfl) ?hyc10 hHeld ?restc10
      case hyc10 =>
        intro w hSw
        (try dsimp only at hSw)
        go_simp
        try with_reducible rfl
      simp only [Act.put, List.setIfInBounds_toArray, List.set_cons_zero, List.set_cons_succ]
      refine wpAnyH_ready (rs := [11]) (by kernel_rfl) (by simp) ?_
      refine AllReadyH.cons rfl (fun K hK => ?_) AllReadyH.nil
      go_simp
      refine hK.out _ _ (HK.out _ hP7) (fun hHeld => ?_)
      clear hK K
      try simp only [Act.put, List.setIfInBounds_toArray, List.set_cons_zero, List.set_cons_succ]
      refine wpAnyH_done (by kernel_rfl) ?_ _
      clear hown4 hgrow4 hB4 hP4 hP5 cO4 cO5 hown6 hgrow6 hat6 hlt6 hP6 hP7 cO6 fO6 HX4 HX6 hHeld
      go_wp2
      exact ⟨⟨k + 1, _, _, by omega, by go_num, HInv6⟩, by simp [intOf]; omega⟩
    · have hkI : decide ((k : Int) < s1) = false := by simp; omega
      have hkn : k = nc := by omega
      have HKN : Hid (zeroEs k nw = zeroEs s1.toNat s2.toNat) := Lib.hid (by rw [hnc, hnw, hkn]; rfl)
      clear hb hnc hnw hkn
      have HBR := Lib.hid HI.out.2.2.2.1
      obtain ⟨b, cp, hv, _⟩ := ents_own (zeroEs_len _ _) HI.out.1 HI.out.2.1
      subst hv
      obtain ⟨o0, o1, o2, o3, o4, o5⟩ := Box.tb (s := (s0, s1, s2, s3)) HI.out.2.2.1
      simp only at o0 o1 o2 o3 o4 o5
      go_wp2_with (refine wpList_store_row rfl 27 _ _ rfl (w.heap.size + 1) _ rfl rfl 27 _ HBR.out (by kernel_rfl) rfl (by simp [Value.oneCell']) ?_)
      refine bodyPost_ret (v := .tuple #[tbV (s0, s1, s2, s3) (.slice b k cp) 0, .int .i64 0]) ?_ rfl ?_
      · exact results_tb_two Try.results27 _ _ (w.heap.size + 1) 27 _ _ rfl rfl rfl (setRow_heap _ _ _ _ _ _ HBR.out)
      · obtain ⟨hOw, hCd, hBO, hBR', hb', hR1, hR2⟩ := HI.out
        have hgr := grownBy_setRow wr (w.heap.size + 1) (tbA (s0, s1, s2, s3) (.slice b k cp) 0)
        obtain ⟨b8, c8, e8, hE8⟩ := rows_in (A := fun n => w.heap.size ≤ n) (zeroEs_len _ _) (own_far hOw hgr (by omega)) ((hCd.ents.grown hgr (fun n hn e => by have := Option.some.inj e; omega)).mono (fun n hn => by omega)) (fun n hn => by omega)
        simp only [Value.slice.injEq, true_and] at e8
        obtain ⟨rfl, rfl⟩ := e8
        rw [← HRR.out, ← HRE.out, HN.out.1, HN.out.2]
        exact ⟨b, _, cp, rfl, hbw.trans ((below_setRow hb' hR1 _).mono hbw.size), by simpa [HKN.out] using hE8⟩
end Go.Proofs.Ytlbmgablkphioaa
