/-
  What package schema's mayAll and Put return, as contracts over the translated program.
-/
import Derived.Test.YtbihfaplhjbfeaaB
import Derived.Test.YtbihfaplhjbfeaaM
namespace Go.Proofs.Ytbihfaplhjbfeaa
open Go.RowKit

set_option maxHeartbeats 1000000 in
theorem mayAll_any (a : Option Addr) (len cap : Nat) (ss : List Sc) (w : World) (h : ScsAt w a len cap ss) :
    Calls Try.prog 22 #[.slice a len cap] w fun e w' => e = .returned (.bool (mayL ss)) ∧ Below w.heap.size w w' := by
  have hm := h.max
  obtain ⟨h1, h2, h3, h5⟩ := h
  have H1 := Lib.hid h1
  have H5 := Lib.hid h5
  clear h1 h3 h5
  by_cases hl : 4 < len
  · have HC : Hid (mayL ss = false) := Lib.hid (mayL_long (by rw [H1.out]; exact hl))
    have hlI : (4 : Int) < (len : Int) := by omega
    go_enter Try.func22, Try.ntmps22
    go_wp2
    go_ret
    exact ⟨by rw [HC.out]; rfl, Below.refl _ _⟩
  have hlI : ¬ (4 : Int) < (len : Int) := by omega
  go_enter Try.func22, Try.ntmps22
  go_wp2
  go_loopw [10] (fun i wr => ∃ k : Nat, k ≤ len ∧ i = .int .i64 k ∧ Hid (∀ j, j < k → mayT (ss.getD j zeroS) = true) ∧ Below w.heap.size w wr) (fun i _ => len - (intOf i).toNat)
  case atStart => exact ⟨0, by omega, rfl, Lib.hid (fun j hj => absurd hj (by omega)), Below.refl _ _⟩
  case round =>
    obtain ⟨k, hk, rfl, HF, hb⟩ := hrel
    by_cases hkl : k < len
    · obtain ⟨y, rfl, h6⟩ := H5.out.resolve_left (by omega)
      have hI := ScHere.below (h6 k hkl) hb
      rcases hi : ss.getD k zeroS with ⟨kk, cc, nn, vv⟩
      rw [hi] at hI
      have HI := Lib.hid hi
      obtain ⟨i0, i1, i2, i3⟩ := hI
      simp only at i0 i1 i2 i3
      clear hi h6
      have hkI : (k : Int) < (len : Int) := by omega
      have hb2 : Below wr.heap.size wr (wr.alloc (scO kk cc nn vv)) := (Below.refl _ _).alloc (Nat.le_refl _) _
      replace hb := hb.trans (hb2.mono hb.size)
      clear hb2
      go_wp2_with fail
      refine (may_any _ _ _ _ _).mono ?_
      rintro e w' ⟨rfl, hg3⟩
      replace hb := hb.trans (hg3.mono hb.size)
      clear i0 i1 i2 i3 hg3
      rcases hM : mayS kk cc nn vv with _ | _
      · have HC := Lib.hid (mayL_false (ss := ss) (k := k) (by rw [H1.out]; exact hkl) (by rw [HI.out]; exact hM))
        go_wp2
        go_ret
        exact ⟨by rw [HC.out]; rfl, hb⟩
      · have HM := Lib.hid hM
        go_wp2
        go_roundw
        case rel =>
          refine ⟨k + 1, by omega, by go_num, Lib.hid (fun j hj => ?_), hb⟩
          rcases Nat.lt_succ_iff_lt_or_eq.1 hj with hj | rfl
          · exact HF.out j hj
          · rw [HI.out]
            exact HM.out
        case measure => simp [intOf]; omega
    · have HC := Lib.hid (mayL_end (by rw [H1.out]; omega) (fun j hj => HF.out j (by rw [H1.out] at hj; omega)))
      have hkI : ¬ (k : Int) < (len : Int) := by omega
      go_wp2
      go_ret
      exact ⟨by rw [HC.out]; rfl, hb⟩

/- the bytes that are written ahead of schema k -/
def headS (ss : List Sc) (k : Nat) : List Int := (ss.length : Int) :: encB (ss.take k)
theorem headS_zero (ss : List Sc) : headS ss 0 = [(ss.length : Int)] := by simp [headS, encB]
theorem headS_end {ss : List Sc} {k : Nat} (h : ss.length ≤ k) : headS ss k = encS ss := by
  rw [headS, List.take_of_length_le h, encS]
theorem headS_step {ss : List Sc} {k : Nat} (h : k < ss.length) : headS ss (k + 1) = headS ss k ++ encT (ss.getD k zeroS) := by
  rw [headS, take_getD ss k zeroS h, encB_append, headS]
  simp [encB]
theorem headS_len {ss : List Sc} {k : Nat} (h : k ≤ ss.length) : (headS ss k).length = 1 + 5 * k := by
  rw [headS, List.length_cons, encB_len, List.length_take]
  omega
/- what both packages' Put leave -/
def PutU (ss : List Sc) (w : World) (e : Ending) (w' : World) : Prop :=
  ∃ b c, e = .returned (.tuple #[.slice b (putZ ss).length c, .int .i64 (putE ss)]) ∧ Below w.heap.size w w' ∧ SliceB w' b (putZ ss).length c (putZ ss)
theorem putU_no {ss : List Sc} {w w' : World} (hM : mayL ss = false) (hb : Below w.heap.size w w') : PutU ss w (.returned (.tuple #[.slice none 0 0, .int .i64 1])) w' := by
  refine ⟨none, 0, ?_, hb, ?_⟩
  · rw [putE_no hM, putZ_no hM]
    rfl
  · rw [putZ_no hM]
    exact slice_nil _
theorem putU_yes {ss : List Sc} {w w' : World} {base : Nat} {v : Value} (hM : mayL ss = true) (hb : Below w.heap.size w w') (ho : w'.ownsRow base 5 1 v (encS ss).length (bytesV (encS ss))) : PutU ss w (.returned (.tuple #[v, .int .i64 0])) w' := by
  have hpe : 0 < (encS ss).length := by rw [encS_len]; omega
  obtain ⟨g, cp, rfl, hgb, hgl⟩ := ho.form hpe
  obtain ⟨e1, e2, e3, e4⟩ := bytesV_own ho rfl
  refine ⟨some ⟨g, 0, none⟩, cp, ?_, hb, ?_⟩
  · rw [putE_yes hM, putZ_yes hM]
  · rw [putZ_yes hM]
    exact ⟨rfl, e2, e3, encS_byte hM, .inr ⟨_, rfl, e4⟩⟩

set_option maxRecDepth 100000 in
set_option maxHeartbeats 4000000 in
theorem put_any (a : Option Addr) (len cap : Nat) (ss : List Sc) (w : World) (h : ScsAt w a len cap ss) :
    Calls Try.prog 10 #[.slice a len cap] w (PutU ss w) := by
  have hm := h.max
  have HS := Lib.hid h
  obtain ⟨h1, h2, h3, h5⟩ := h
  have H1 := Lib.hid h1
  have H5 := Lib.hid h5
  clear h1 h3 h5
  obtain ⟨j0, hi5, hz0, hz1, hz2⟩ := info_parts info5
  go_enter Try.func10, Try.ntmps10
  go_wp2_with fail
  refine (mayAll_any a len cap ss w HS.out).mono ?_
  rintro e w1 ⟨rfl, hg⟩
  rcases hM : mayL ss with _ | _
  · have HM := Lib.hid hM
    clear hM
    go_wp2
    go_ret2
    exact putU_no HM.out hg
  have HM := Lib.hid hM
  have hl4 : len ≤ 4 := by rw [← H1.out]; exact mayL_len hM
  have hw0 := wB (len : Int) (by omega) (by omega)
  clear hM
  have hsz := hg.size
  go_wp2_with fail
  go_loopw [4, 16] (fun v i wr => ∃ k : Nat, k ≤ len ∧ i = .int .i64 k ∧ Hid (wr.ownsRow w.heap.size 5 1 v (headS ss k).length (bytesV (headS ss k))) ∧ Below w.heap.size w wr) (fun _ i _ => len - (intOf i).toNat)
  case atStart =>
    refine ⟨0, by omega, rfl, Lib.hid ?_, hg.alloc hg.size _⟩
    rw [headS_zero, H1.out]
    exact ⟨rfl, .inr ⟨w1.heap.size, 1, _, rfl, by omega, heap_alloc_new _ _, Nat.le_refl _, by unfold maxLen; omega, by simp, by simp [bytesV]⟩⟩
  case round =>
    obtain ⟨k, hk, rfl, HO, hb⟩ := hrel
    clear hg hsz
    by_cases hkl : k < len
    · obtain ⟨y, rfl, h6⟩ := H5.out.resolve_left (by omega)
      have hI := ScHere.below (h6 k hkl) hb
      have hmay := mayL_at HM.out k (by rw [H1.out]; exact hkl)
      have hst := headS_step (ss := ss) (k := k) (by rw [H1.out]; exact hkl)
      have hln := headS_len (ss := ss) (k := k) (by rw [H1.out]; exact hk)
      rcases hi : ss.getD k zeroS with ⟨kk, cc, nn, vv⟩
      rw [hi] at hI hmay hst
      have HI := Lib.hid hi
      have HST := Lib.hid hst
      have HLN := Lib.hid hln
      obtain ⟨i0, i1, i2, i3⟩ := hI
      simp only at i0 i1 i2 i3
      have hmay' : mayS kk cc nn vv = true := hmay
      have hP := mayS_iff.1 hmay'
      have q0 : 0 ≤ kk ∧ kk ≤ 3 := by omega
      have q1 : 0 ≤ cc ∧ cc ≤ 16 := by omega
      have q2 : 0 ≤ nn ∧ nn ≤ 4 := by omega
      have q3 : 0 ≤ vv ∧ vv ≤ 1000 := by omega
      have hpw := hb.size
      clear hi h6 hmay hmay' hP hst hln
      have hkI : (k : Int) < (len : Int) := by omega
      have hb2 : Below w.heap.size w ((wr.alloc (scO kk cc nn vv)).alloc (.cells #[.int .u8 kk, .int .u8 cc, .int .u8 nn, .int .u8 (vv / 256), .int .u8 (vv % 256)] 5)) := box2 hb hpw _ _
      have hownr := (HO.out.alloc (scO kk cc nn vv)).alloc (.cells #[.int .u8 kk, .int .u8 cc, .int .u8 nn, .int .u8 (vv / 256), .int .u8 (vv % 256)] 5)
      have hnew : Box ((wr.alloc (scO kk cc nn vv)).alloc (.cells #[.int .u8 kk, .int .u8 cc, .int .u8 nn, .int .u8 (vv / 256), .int .u8 (vv % 256)] 5)) (wr.heap.size + 1) 5 #[.int .u8 kk, .int .u8 cc, .int .u8 nn, .int .u8 (vv / 256), .int .u8 (vv % 256)] := by
        have := Box.new (wr.alloc (scO kk cc nn vv)) 5 #[.int .u8 kk, .int .u8 cc, .int .u8 nn, .int .u8 (vv / 256), .int .u8 (vv % 256)]
        rwa [show (wr.alloc (scO kk cc nn vv)).heap.size = wr.heap.size + 1 by simp] at this
      have HNew := Lib.hid hnew
      have HB2 := Lib.hid hb2
      clear hnew hb2
      go_wp2_with (at_builtin; refine wpList_append_lies _ rfl _ _ _ rfl w.heap.size 5 j0 _ 1 1 Try.underlying23 hi5 hz0 hz1 hz2 rfl (by omega) _ (headS ss k).length (bytesV (headS ss k)) rfl hownr ⟨wr.heap.size + 1, 0, none⟩ 5 5 [.int .u8 kk, .int .u8 cc, .int .u8 nn, .int .u8 (vv / 256), .int .u8 (vv % 256)] rfl rfl (World.news_of_block HNew.out) (by simp [Value.oneCell']) (by omega) (by have := HLN.out; unfold maxLen; omega) (by have := HLN.out; omega) (by simp; omega) (wr.heap.size + 1 + 1) (by simp) ?_)
      intro g6 cp6 w6 hown6 hgrow6 hat6 hlt6
      have hb6 : Below w.heap.size w w6 := HB2.out.grown hgrow6 (by simp; omega) (fun g hg => (HO.out.lt g hg).1)
      have HO6 : Hid (w6.ownsRow w.heap.size 5 1 (.slice (some ⟨g6, 0, none⟩) ((headS ss k).length + 5) cp6) (headS ss (k + 1)).length (bytesV (headS ss (k + 1)))) := Lib.hid (by
        rw [HST.out, List.length_append, encT_len, ← bytesV_append]
        exact hown6)
      clear hown6 hgrow6 hat6 hlt6 hownr i0 i1 i2 i3 hb
      go_wp2
      go_roundw
      case rel => exact ⟨k + 1, by omega, by go_num, HO6, hb6⟩
      case measure => simp [intOf]; omega
    · have hkI : ¬ (k : Int) < (len : Int) := by omega
      have HE : Hid (headS ss k = encS ss) := Lib.hid (headS_end (by rw [H1.out]; omega))
      rw [HE.out] at HO
      go_wp2
      go_ret2
      exact putU_yes HM.out hb HO.out
end Go.Proofs.Ytbihfaplhjbfeaa
