/-
  What the package's zeros and withRoom return, as contracts over the translated program.
-/
import Derived.Test.YtilddlgcfbefiaaDoorV5
namespace Go.Proofs.YtilddlgcfbefiaaDoor
set_option linter.unusedSimpArgs false
set_option linter.unusedVariables false
open Go Go.RowKit

def ZerosPost (key : Int) (n : Nat) (w : World) (e : Ending) (w' : World) : Prop :=
  ∃ gv, e = .returned (.agg #[.int .u32 key, .slice (some ⟨gv, 0, none⟩) n n]) ∧ Below w.heap.size w w' ∧ w'.ownsRow w.heap.size 25 1 (.slice (some ⟨gv, 0, none⟩) n n) n (wordsV (List.replicate n 0))
set_option maxRecDepth 100000 in
set_option maxHeartbeats 1000000 in
theorem zeros_any (s0 s1 s2 s3 key : Int) (n : Nat) (w : World) (hn : s2 = (n : Int)) (h4 : n ≤ 1000) :
    Calls Tryd.prog 141 #[scV s0 s1 s2 s3, .int .u32 key] w (ZerosPost key n w) := by
  have HN := Lib.hid hn
  clear hn
  obtain ⟨W0, hW0⟩ : ∃ W0, (w.alloc (.cells #[.int .i64 s0, .int .i64 s1, .int .i64 s2, .int .i64 s3] 39)).alloc (.cells #[.int .u32 0, .slice none 0 0] 66) = W0 := ⟨_, rfl⟩
  have hs0 : W0.heap.size = w.heap.size + 1 + 1 := by rw [← hW0]; simp
  have hb0 : Below w.heap.size w W0 := by rw [← hW0]; exact box2 (Below.refl _ _) (Nat.le_refl _) _ _
  have hT : Box W0 w.heap.size 39 #[.int .i64 s0, .int .i64 s1, .int .i64 s2, .int .i64 s3] := by rw [← hW0]; exact (Box.new w 39 _).alloc _
  have hR : Box W0 (w.heap.size + 1) 66 #[.int .u32 0, .slice none 0 0] := by
    rw [← hW0]
    have := Box.new (w.alloc (.cells #[.int .i64 s0, .int .i64 s1, .int .i64 s2, .int .i64 s3] 39)) 66 #[.int .u32 0, .slice none 0 0]
    rw [show (w.alloc (.cells #[.int .i64 s0, .int .i64 s1, .int .i64 s2, .int .i64 s3] 39)).heap.size = w.heap.size + 1 by simp] at this
    exact this
  have HR := Lib.hid hR
  have d2 : W0.cell? ⟨w.heap.size, 2, none⟩ = some (.int .i64 s2) := hT.cell rfl
  clear hT hR
  go_enter Tryd.func141, Tryd.ntmps141
  go_wp2_with (refine wpList_makeW W0 rfl _ _ rfl (w.heap.size + 1 + 1) n s2 rfl rfl HN.out h4 (by omega) (w.heap.size + 1 + 1) hs0 ?_)
  intro w1 hown1 hgrow1
  have hB1 : Below W0.heap.size W0 w1 := ⟨hgrow1.os, hgrow1.tape, hgrow1.output, hgrow1.size, fun j hj => hgrow1.block j hj (by simp)⟩
  have HR1 := Lib.hid (HR.out.later hB1)
  have HB1 := Lib.hid (hb0.trans (hB1.mono hb0.size))
  have HOwn := Lib.hid hown1
  clear hown1 hgrow1 hB1 d2 hW0 HR hb0
  go_wp2_with (refine wpList_store_row rfl 66 _ _ rfl (w.heap.size + 1) _ rfl rfl 66 _ HR1.out (by kernel_rfl) rfl (by simp [Value.oneCell']) ?_)
  refine bodyPost_ret (v := .agg #[.int .u32 key, .slice (some ⟨w.heap.size + 1 + 1, 0, none⟩) n n]) ?_ rfl ?_
  · exact results_cell_row Tryd.results141 _ _ (w.heap.size + 1) 66 _ (0, 0) _ rfl (setRow_heap _ _ _ _ _ _ HR1.out) Tryd.underlying66 rfl (by kernel_rfl)
  · exact ⟨w.heap.size + 1 + 1, rfl, below_setRow HB1.out (by omega) _, own_base (own_far HOwn.out (grownBy_setRow _ _ _) (by omega)) (by omega)⟩
def roomE (s : Sc) (es : List Ent) : List Ent := if (es.length : Int) = s.2.1 then es.eraseIdx 0 else es
def RoomPost (es : List Ent) (g c base : Nat) (w : World) (e : Ending) (w' : World) : Prop :=
  e = .returned (.slice (some ⟨g, 0, none⟩) es.length c) ∧ w.grownBy w' (some g) ∧ Row w' base (.slice (some ⟨g, 0, none⟩) es.length c) es
set_option maxRecDepth 100000 in
set_option maxHeartbeats 1000000 in
theorem withRoom_any (s : Sc) (g len c base : Nat) (x : Int) (es : List Ent) (w : World) (h : Row w base (.slice (some ⟨g, 0, none⟩) len c) es) (hn : es.length = len) (h40 : len ≤ 1000) (h1 : 1 ≤ s.2.1) :
    Calls Tryd.prog 140 #[tbV s (.slice (some ⟨g, 0, none⟩) len c) x] w (RoomPost (roomE s es) g c base w) := by
  rcases s with ⟨s0, s1, s2, s3⟩
  simp only at h1
  obtain ⟨W0, hW0⟩ : ∃ W0, w.alloc (.cells #[.int .i64 s0, .int .i64 s1, .int .i64 s2, .int .i64 s3, .slice (some ⟨g, 0, none⟩) len c, .int .u32 x] 42) = W0 := ⟨_, rfl⟩
  have hbw : Below w.heap.size w W0 := by rw [← hW0]; exact (Below.refl _ _).alloc (Nat.le_refl _) _
  have HT : Hid (TbAt W0 w.heap.size (s0, s1, s2, s3) (.slice (some ⟨g, 0, none⟩) len c) x) := by rw [← hW0]; exact Lib.hid (tbAt_new w (s0, s1, s2, s3) _ x)
  have HB := Lib.hid hbw
  have HR := Lib.hid h
  have HN := Lib.hid hn
  obtain ⟨d0, d1, d2, d3, d4, d5⟩ := HT.out
  simp only at d0 d1 d2 d3 d4 d5
  clear h hn hbw
  go_enter Tryd.func140, Tryd.ntmps140
  go_wp2_with fail
  refine (full_any (s0, s1, s2, s3) (some ⟨g, 0, none⟩) len c x _).mono ?_
  rintro e w1 ⟨rfl, hb1⟩
  have HT1 := Lib.hid (HT.out.later hb1)
  have HB1 := Lib.hid (HB.out.trans (hb1.mono HB.out.size))
  have HR1 := Lib.hid (HR.out.below HB1.out)
  clear d0 d1 d2 d3 d4 d5 hb1 hW0 HT HB
  obtain ⟨d0, d1, d2, d3, d4, d5⟩ := HT1.out
  simp only at d0 d1 d2 d3 d4 d5
  by_cases hf : (len : Int) = s1
  · have HE : Hid (roomE (s0, s1, s2, s3) es = es.eraseIdx 0) := Lib.hid (by rw [roomE, if_pos (by rw [HN.out]; exact hf)])
    have hd : decide ((len : Int) = s1) = true := decide_eq_true hf
    simp only [hd]
    obtain ⟨n1, rfl⟩ : ∃ n1, len = n1 + 1 := ⟨len - 1, by omega⟩
    have HL : Hid ((es.eraseIdx 0).length = n1) := Lib.hid (by rw [List.length_eraseIdx, if_pos (by rw [HN.out]; omega), HN.out]; omega)
    clear hd hf
    go_wp2_with fail
    refine (delete_first g n1 c base es w1 HR1.out HN.out (by omega)).mono ?_
    rintro e w6 ⟨rfl, hg6, hr6⟩
    have HP : Hid (RoomPost (roomE (s0, s1, s2, s3) es) g c base w (.returned (.slice (some ⟨g, 0, none⟩) n1 c)) w6) := Lib.hid (by
      rw [HE.out, RoomPost, HL.out]
      exact ⟨rfl, grownBy_trans (grownBy_of_below HB1.out _) hg6, hr6⟩)
    clear hg6 hr6 d0 d1 d2 d3 d4 d5
    go_wp2
    go_ret
    exact HP.out
  · have HE : Hid (roomE (s0, s1, s2, s3) es = es) := Lib.hid (by rw [roomE, if_neg (by rw [HN.out]; exact hf)])
    have hd : decide ((len : Int) = s1) = false := decide_eq_false hf
    simp only [hd]
    clear hd hf
    go_wp2
    go_ret
    rw [HE.out, RoomPost, HN.out]
    exact ⟨rfl, grownBy_of_below HB1.out _, HR1.out⟩
end Go.Proofs.YtilddlgcfbefiaaDoor
