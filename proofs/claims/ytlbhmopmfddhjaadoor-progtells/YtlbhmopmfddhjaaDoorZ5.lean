/-
  What the third reference's Own returns, as a contract over the translated program: the same program, in memory of its own.
-/
import Derived.Test.YtlbhmopmfddhjaaDoorZ1
namespace Go.Proofs.YtlbhmopmfddhjaaDoor
open Go.RowKit

set_option maxRecDepth 100000 in
set_option maxHeartbeats 40000000 in
theorem own_some (y : Addr) (len cap : Nat) (fs : List Fun) (w : World) (h : FnsAt w (some y) len cap fs) (h0 : 0 < len) (hf : fewP fs = true) :
    Calls Tryd.prog 11 #[.agg #[.slice (some y) len cap]] w (OwnPost fs w) := by
  obtain ⟨i28, hi28, hz0, hz1, hz2⟩ := info_parts info28
  obtain ⟨h1, h2, h3, h5⟩ := h
  have HY : Hid (∀ k, k < len → FnHere w (y.add (k * 2)) (fs.getD k zeroF)) := by
    rcases h5 with h | ⟨y', h, h6⟩
    · omega
    · cases h
      exact Lib.hid h6
  have hm : len ≤ 9223372036854775807 := by unfold maxLen at h3; omega
  have H1 := Lib.hid h1
  simp only [fewP, Bool.and_eq_true, decide_eq_true_eq, List.all_eq_true] at hf
  have h12 : len ≤ 12 := by rw [← h1]; exact hf.1
  have HF := Lib.hid hf.2
  clear h1 h5 hf
  obtain ⟨W0, hW0⟩ : ∃ W0, w.alloc (.cells #[.slice (some y) len cap] 24) = W0 := ⟨_, rfl⟩
  have hs0 : W0.heap.size = w.heap.size + 1 := by rw [← hW0]; simp
  have hP0 : Box W0 w.heap.size 24 #[.slice (some y) len cap] := by rw [← hW0]; exact Box.new w 24 _
  have hbw : Below w.heap.size w W0 := by rw [← hW0]; exact (Below.refl _ _).alloc (Nat.le_refl _) _
  have hInv : Inv2 W0 (w.heap.size + 1 + 1) (w.heap.size + 1) ((W0.alloc (.cells #[.slice none 0 0] 24)).alloc (.cells #[.slice none 0 0] 24)) 0 (.slice none 0 0) [] [] := by
    have hR := Box.new W0 24 #[.slice none 0 0]
    have hO := Box.new (W0.alloc (.cells #[.slice none 0 0] 24)) 24 #[.slice none 0 0]
    rw [show (W0.alloc (.cells #[.slice none 0 0] 24)).heap.size = w.heap.size + 1 + 1 by simp [hs0]] at hO
    rw [hs0] at hR
    exact ⟨World.ownsRow_nil _ _ _ _, Owned.nil _ _ _, hO, hR.alloc _, ((Below.refl _ _).alloc (Nat.le_refl _) _).alloc (by simp) _, by omega, by omega⟩
  have HInv := Lib.hid hInv
  have HS0 := Lib.hid hs0
  have HP0 := Lib.hid hP0
  have HBW := Lib.hid hbw
  have HW0 := Lib.hid hW0
  clear hInv hs0 hP0 hbw hW0
  go_enter Tryd.func11, Tryd.ntmps11
  go_wp2
  rw [HW0.out]
  obtain ⟨O, hO⟩ : ∃ O, w.heap.size + 1 + 1 = O := ⟨_, rfl⟩
  rw [hO] at HInv ⊢
  obtain ⟨R, hR⟩ : ∃ R, w.heap.size + 1 = R := ⟨_, rfl⟩
  rw [hR] at HInv HS0 ⊢
  have hPO : w.heap.size + 1 < O := by omega
  have hPR : w.heap.size < R := by omega
  have hRO : R < O := by omega
  clear hO hR
  generalize ((W0.alloc (.cells #[.slice none 0 0] 24)).alloc (.cells #[.slice none 0 0] 24)) = W1 at *
  go_loopw [4] (fun i wr => ∃ (k : Nat) (v : Value) (xs : List Value), k ≤ len ∧ i = .int .i64 k ∧ Hid (Inv2 W0 O R wr k v xs (fs.take k))) (fun i _ => len - (intOf i).toNat)
  case atStart => exact ⟨0, .slice none 0 0, [], by omega, rfl, HInv⟩
  case round =>
    obtain ⟨k, v, xs, hk, rfl, HI⟩ := hrel
    clear HInv
    have hb := HI.out.2.2.2.2.1
    have HB := Lib.hid hb
    have hbw := HBW.out.trans (hb.mono HBW.out.size)
    have cb : wr.cell? ⟨w.heap.size, 0, none⟩ = some (.slice (some y) len cap) := (HP0.out.below hb HP0.out.lt).cell rfl
    have cO : wr.cell? ⟨O, 0, none⟩ = some v := HI.out.2.2.1.cell rfl
    have hlt : O < wr.heap.size := HI.out.2.2.1.lt
    by_cases hkl : k < len
    · have hkI : (k : Int) < (len : Int) := by omega
      have hk0 : (0 : Int) ≤ (k : Int) := Int.natCast_nonneg _
      have hI := HY.out k hkl
      have hyb := lt_of_cell hI.1
      have hl80 := HF.out _ (getD_mem fs k zeroF (by rw [H1.out]; exact hkl))
      rcases hi : fs.getD k zeroF with ⟨args, code⟩
      rw [hi] at hI hl80
      have HIk := Lib.hid (take_succ_getD fs k args code (by rw [H1.out]; exact hkl) hi)
      obtain ⟨iw0, b, l, cc, iw1, hCode⟩ := hI
      simp only at iw0 iw1 hCode hl80
      have i0' := (hbw.cell (lt_of_cell iw0)).trans iw0
      have i1 := (hbw.cell (lt_of_cell iw1)).trans iw1
      replace hCode := hCode.below hbw
      have hl : code.length = l := hCode.1
      rw [hl] at hl80
      have hok := hCode.2.2.2.1
      have HL := Lib.hid hl
      have HOk := Lib.hid hok
      have hyr : (y.add (k * 2)).block < wr.heap.size := by have := hbw.size; omega
      have q0 : ¬ w.heap.size = O := by omega
      have q2 : ¬ O = w.heap.size := by omega
      have q3 : ¬ O = (y.add (k * 2)).block := by omega
      have q1 : ¬ (y.add (k * 2)).block = O := by omega
      have hPl : w.heap.size < wr.heap.size := by omega
      have hOwn := HI.out.1
      have fO : wr.frozen? ⟨O, 0, none⟩ = false := HI.out.2.2.1.free 0
      clear hi hl iw0 iw1 hok hb hbw
      · have HCode := Lib.hid hCode
        have hnv : v.ownBlock = none ∨ v.ownBlock ≠ none := by
          cases hv : v.ownBlock
          · exact .inl rfl
          · exact .inr (by simp)
        have hvB : ∀ g, v.ownBlock = some g → O + 1 ≤ g := fun g hg => (HI.out.1.lt g hg).1
        have hne0 : some w.heap.size ≠ v.ownBlock := fun h => by have := hvB _ h.symm; omega
        have hne2 : some O ≠ v.ownBlock := fun h => by have := hvB _ h.symm; omega
        have hney : some (y.add (k * 2)).block ≠ v.ownBlock := fun h => by have := hvB _ h.symm; omega
        clear hCode hvB
        go_wp2_with fail
        go_region_law
          ((first
            | (refine step_copy _ (by rfl) _ _ (by rfl) (by rfl) (by rfl) b l cc code (by rfl) (by exact HCode.out) hl80 (O + 1) (by simp; omega) wr.heap.size (by simp) ?_
               intro b4 cp4 w4 hown4 hgrow4 hat4
               have hO4 : w4.cell? ⟨O, 0, none⟩ = some v := (hgrow4.cell_far ⟨O, 0, none⟩ (by simp; omega) (by simp)).trans (by simpa using cO)
               have fO4 : w4.frozen? ⟨O, 0, none⟩ = false := (hgrow4.frozen_far ⟨O, 0, none⟩ (by simp; omega) (by simp)).trans (by simpa using fO)
               have hlt5 : O < w4.heap.size := lt_of_cell hO4
               have hP4 : w4.cell? ⟨w.heap.size, 0, none⟩ = some (.slice (some y) len cap) := (hgrow4.cell_far ⟨w.heap.size, 0, none⟩ (by simp; omega) (by simp)).trans (by simpa using cb)
               have hA4 : w4.cell? (y.add (k * 2)) = some (.int .i64 args) := (hgrow4.cell_far (y.add (k * 2)) (by simp; omega) (by simp)).trans (by simpa using i0')
               have hlty : (y.add (k * 2)).block < w4.heap.size := lt_of_cell hA4)
            | (refine step_append_lies _ (by rfl) _ _ _ (by rfl) (O + 1) 28 i28 _ 2 32 Tryd.underlying22 hi28 hz0 hz1 hz2 rfl (by omega) v k xs (by rfl) ((hOwn.drew.kept hgrow4 hnv).alloc _)
                ⟨w4.heap.size, 0, none⟩ 1 1 [.int .i64 args, .slice b4 l cp4] (by rfl) (by rfl) (World.news_of_block (cs := #[.int .i64 args, .slice b4 l cp4]) (t := 28) (fr := (0, 0)) (heap_alloc_new w4 _)) (by simp [Value.oneCell'])
                (by omega) (by unfold maxLen; omega) (by omega) (by simp; omega) (w4.heap.size + 1) (by simp) ?_
               intro g5 cp5 w5 hown5 hgrow5 hat5 hlt6
               have hO5 : w5.cell? ⟨O, 0, none⟩ = some v := (hgrow5.cell_far ⟨O, 0, none⟩ (by simp; omega) hne2).trans ((((Below.refl w4.heap.size w4).alloc (Nat.le_refl _) _).cell (p := ⟨O, 0, none⟩) hlt5).trans hO4)
               have fO5 : w5.frozen? ⟨O, 0, none⟩ = false := (hgrow5.frozen_far ⟨O, 0, none⟩ (by simp; omega) hne2).trans ((((Below.refl w4.heap.size w4).alloc (Nat.le_refl _) _).frozen (p := ⟨O, 0, none⟩) hlt5).trans fO4))))
        all_goals
          have hInv5 := own_close HI.out HL.out HOk.out HIk.out hown4 hgrow4 hat4 hown5 hgrow5 hat5
          clear hown4 hgrow4 hat4 hO4 fO4 hlt5 hP4 hA4 hlty hown5 hgrow5 hat5 hlt6 hO5 fO5
          go_wp2
          exact ⟨⟨k + 1, _, _, by omega, by go_num, hInv5⟩, by simp [intOf]; omega⟩
    · have hkI : ¬ (k : Int) < (len : Int) := by omega
      have hkn : k = len := by omega
      have HE : Hid (fs.take k = fs) := Lib.hid (List.take_of_length_le (by rw [H1.out]; omega))
      rw [HE.out] at HI
      have HKN := Lib.hid hkn
      have HBR := Lib.hid HI.out.2.2.2.1
      obtain ⟨b, cp, hv, _⟩ := HI.out.inv.done (by rw [H1.out]; exact hkn.symm)
      subst hv
      clear hkn
      go_wp2_with (refine wpList_store_row rfl 24 _ _ rfl R _ rfl rfl 24 _ HBR.out (by kernel_rfl) rfl (by simp [Value.oneCell']) ?_)
      refine bodyPost_ret (v := .agg #[.slice b k cp]) ?_ rfl ?_
      · exact results_cell_row Tryd.results11 _ _ R 24 _ (0, 0) _ rfl (setRow_heap _ _ _ _ _ _ HBR.out) Tryd.underlying24 rfl (by kernel_rfl)
      · obtain ⟨hO, hCd, hBO, hBR', hb', hR1, hR2⟩ := HI.out
        have hgr := grownBy_setRow wr R #[.slice b k cp]
        have hlk : fs.length = k := by rw [H1.out, HKN.out]
        refine ⟨_, xs, rfl, HBW.out.trans ((below_setRow hb' hR1 _).mono HBW.out.size), ?_, ?_⟩
        · rw [hlk]
          exact own_base (own_far hO hgr (by omega)) (by omega)
        · exact (hCd.grown hgr (.inr (fun g hg => by have := Option.some.inj hg; omega)) (.inl rfl)).base (by omega)
end Go.Proofs.YtlbhmopmfddhjaaDoor
