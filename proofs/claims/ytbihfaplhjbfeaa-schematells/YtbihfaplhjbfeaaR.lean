/-
  What the reference's Put returns, as a contract over the translated program.
-/
import Derived.Test.YtbihfaplhjbfeaaD
namespace Go.Proofs.Ytbihfaplhjbfeaa
open Go.RowKit

theorem tdivE (a b : Int) (h : 0 ≤ a) : a.tdiv b = a / b := Int.tdiv_eq_ediv_of_nonneg h
theorem tmodE (a b : Int) (h : 0 ≤ a) : a.tmod b = a % b := Int.tmod_eq_emod_of_nonneg h
set_option maxRecDepth 100000 in
set_option maxHeartbeats 4000000 in
theorem rput_any (a : Option Addr) (len cap : Nat) (ss : List Sc) (w : World) (h : ScsAt w a len cap ss) :
    Calls Try.prog 11 #[.slice a len cap] w (PutU ss w) := by
  have hm := h.max
  obtain ⟨h1, h2, h3, h5⟩ := h
  have H1 := Lib.hid h1
  have H5 := Lib.hid h5
  clear h1 h3 h5
  obtain ⟨j0, hi5, hz0, hz1, hz2⟩ := info_parts info5
  by_cases hl : 4 < len
  · have HC : Hid (mayL ss = false) := Lib.hid (mayL_long (by rw [H1.out]; exact hl))
    have hlI : (4 : Int) < (len : Int) := by omega
    go_enter Try.func11, Try.ntmps11
    go_wp2
    go_ret2
    exact putU_no HC.out (Below.refl _ _)
  have hlI : ¬ (4 : Int) < (len : Int) := by omega
  have hw0 := wB (len : Int) (by omega) (by omega)
  go_enter Try.func11, Try.ntmps11
  go_wp2_with fail
  go_loopw [4, 5] (fun v i wr => ∃ k : Nat, k ≤ len ∧ i = .int .i64 k ∧ Hid (∀ j, j < k → mayT (ss.getD j zeroS) = true) ∧ Hid (wr.ownsRow w.heap.size 5 1 v (headS ss k).length (bytesV (headS ss k))) ∧ Below w.heap.size w wr) (fun _ i _ => len - (intOf i).toNat)
  case atStart =>
    refine ⟨0, by omega, rfl, Lib.hid (fun j hj => absurd hj (by omega)), Lib.hid ?_, (Below.refl _ _).alloc (Nat.le_refl _) _⟩
    rw [headS_zero, H1.out]
    exact ⟨rfl, .inr ⟨w.heap.size, 1, _, rfl, by omega, heap_alloc_new _ _, Nat.le_refl _, by unfold maxLen; omega, by simp, by simp [bytesV]⟩⟩
  case round =>
    obtain ⟨k, hk, rfl, HF, HO, hb⟩ := hrel
    by_cases hkl : k < len
    · obtain ⟨y, rfl, h6⟩ := H5.out.resolve_left (by omega)
      have hI := h6 k hkl
      have hyw := lt_of_cell hI.1
      rw [add_block] at hyw
      have hst := headS_step (ss := ss) (k := k) (by rw [H1.out]; exact hkl)
      have hln := headS_len (ss := ss) (k := k) (by rw [H1.out]; exact hk)
      rcases hi : ss.getD k zeroS with ⟨kk, cc, nn, vv⟩
      rw [hi] at hI hst
      have HI := Lib.hid hi
      have HST := Lib.hid hst
      have HLN := Lib.hid hln
      have HW := Lib.hid hI
      obtain ⟨i0, i1, i2, i3⟩ := hI.below hb
      simp only at i0 i1 i2 i3
      have hkI : (k : Int) < (len : Int) := by omega
      clear hi h6 hst hln hI
      go_wp2_with fail
      refine (rmay_any _ _ _ _ _).mono ?_
      rintro e w3 ⟨rfl, hg3⟩
      have hb3 := hb.trans (hg3.mono hb.size)
      clear i0 i1 i2 i3
      rcases hM : mayS kk cc nn vv with _ | _
      · have HC := Lib.hid (mayL_false (ss := ss) (k := k) (by rw [H1.out]; exact hkl) (by rw [HI.out]; exact hM))
        go_wp2
        go_ret2
        exact putU_no HC.out hb3
      · have hP := mayS_iff.1 hM
        have HM := Lib.hid hM
        have q0 : 0 ≤ kk ∧ kk ≤ 3 := by omega
        have q1 : 0 ≤ cc ∧ cc ≤ 16 := by omega
        have q2 : 0 ≤ nn ∧ nn ≤ 4 := by omega
        have q3 : 0 ≤ vv ∧ vv ≤ 1000 := by omega
        have r0 := wB kk (by omega) (by omega)
        have r1 := wB cc (by omega) (by omega)
        have r2 := wB nn (by omega) (by omega)
        have r3 := wB (vv / 256) (by omega) (by omega)
        have r4 := wB (vv % 256) (by omega) (by omega)
        have s3 := tdivE vv 256 (by omega)
        have s4 := tmodE vv 256 (by omega)
        have t3 := wI (vv / 256) (by omega) (by omega)
        have HO3 := Lib.hid (ownsRow_below HO.out hg3)
        obtain ⟨i0, i1, i2, i3⟩ := HW.out.below hb3
        simp only at i0 i1 i2 i3
        have hne : some (y.add (k * 4)).block ≠ u4.ownBlock := fun e => by
          have := (HO.out.lt _ e.symm).1
          rw [add_block] at this
          omega
        have hs3 := hb3.size
        have hy3 : (y.add (k * 4)).block < w3.heap.size := by rw [add_block]; omega
        have hk0 : (0 : Int) ≤ (k : Int) := Int.natCast_nonneg _
        have hownr := HO3.out
        have hbA : Below w.heap.size w ((w3.alloc (.cells #[.int .u8 kk, .int .u8 cc, .int .u8 nn, .int .u8 (vv / 256), .int .u8 (vv % 256)] 5)).drew) := (hb3.alloc hb3.size _).drew
        have HBA := Lib.hid hbA
        have HVL := Lib.hid (fun g (hg : u4.ownBlock = some g) => (HO.out.lt g hg).1)
        clear hP hM hg3 HO HO3 hb hbA
        go_wp2_with fail
        go_region_held3 (fun w' => w'.cell? (y.add (k * 4)) = some (.int .i64 kk) ∧ w'.cell? ⟨(y.add (k * 4)).block, (y.add (k * 4)).off + 1, none⟩ = some (.int .i64 cc) ∧ w'.cell? ⟨(y.add (k * 4)).block, (y.add (k * 4)).off + 2, none⟩ = some (.int .i64 nn) ∧ w'.cell? ⟨(y.add (k * 4)).block, (y.add (k * 4)).off + 3, none⟩ = some (.int .i64 vv))
          (first
            | go_keep
            | (go_split_ands
               refine ⟨?_, ?_, ?_, ?_⟩
               · (rw [hgrow.cell_far (y.add (k * 4)) (by simp; omega) hne]; assumption)
               · (rw [hgrow.cell_far ⟨(y.add (k * 4)).block, (y.add (k * 4)).off + 1, none⟩ (by simp; omega) hne]; assumption)
               · (rw [hgrow.cell_far ⟨(y.add (k * 4)).block, (y.add (k * 4)).off + 2, none⟩ (by simp; omega) hne]; assumption)
               · (rw [hgrow.cell_far ⟨(y.add (k * 4)).block, (y.add (k * 4)).off + 3, none⟩ (by simp; omega) hne]; assumption)))
          ((refine step_append_lies _ (by rfl) _ _ _ (by rfl) w.heap.size 5 j0 _ 1 1 Try.underlying23 hi5 hz0 hz1 hz2 rfl (by omega) u4 (headS ss k).length (bytesV (headS ss k)) (by rfl) ((hownr.alloc _).drew)
              ⟨w3.heap.size, 0, none⟩ 5 5 [.int .u8 kk, .int .u8 cc, .int .u8 nn, .int .u8 (vv / 256), .int .u8 (vv % 256)] (by rfl) (by rfl) (World.news_of_block (cs := #[.int .u8 kk, .int .u8 cc, .int .u8 nn, .int .u8 (vv / 256), .int .u8 (vv % 256)]) (t := 5) (fr := (0, 0)) (heap_alloc_new w3 _)) (by simp [Value.oneCell'])
              (by omega) (by have := HLN.out; unfold maxLen; omega) (by have := HLN.out; omega) (by simp; omega) (w3.heap.size + 1) (by simp) ?_; intro g2 cp2 w6 hown6 hgrow hat hlt3))
        have hb6 : Below w.heap.size w w6 := HBA.out.grown hgrow (by simp; omega) HVL.out
        have HO6 : Hid (w6.ownsRow w.heap.size 5 1 (.slice (some ⟨g2, 0, none⟩) ((headS ss k).length + 5) cp2) (headS ss (k + 1)).length (bytesV (headS ss (k + 1)))) := Lib.hid (by
          rw [HST.out, List.length_append, encT_len, ← bytesV_append]
          exact hown6)
        clear hown6 hgrow hat hlt3 hownr i0 i1 i2 i3 hb3 r0 r1 r2 r3 r4 s3 s4 t3
        have HF6 : Hid (∀ j, j < k + 1 → mayT (ss.getD j zeroS) = true) := Lib.hid (fun j hj => by
          rcases Nat.lt_succ_iff_lt_or_eq.1 hj with hj | rfl
          · exact HF.out j hj
          · rw [HI.out]
            exact HM.out)
        go_wp2
        refine ⟨⟨k + 1, by omega, by go_num, HF6, HO6, hb6⟩, by simp [intOf]; omega⟩
    · have hkI : ¬ (k : Int) < (len : Int) := by omega
      have HE : Hid (headS ss k = encS ss) := Lib.hid (headS_end (by rw [H1.out]; omega))
      have HM := Lib.hid (mayL_end (ss := ss) (by rw [H1.out]; omega) (fun j hj => HF.out j (by rw [H1.out] at hj; omega)))
      rw [HE.out] at HO
      go_wp2
      go_ret2
      exact putU_yes HM.out hb HO.out
end Go.Proofs.Ytbihfaplhjbfeaa
