/-
  Texts that the law of this layer stands on, one behind the other.
-/
import Derived.Test.YtmlmdhnjafakiaaGg
import Derived.Test.YtmlmdhnjafakiaaTM
import Derived.Test.YtmlmdhnjafakiaaTF
import Derived.Stop.Joined
import Derived.Deep.Fields
import Derived.Deep.Slices
import Derived.Test.YtmlmdhnjafakiaaGf
import Derived.OpenShut
import Derived.Test.YtmlmdhnjafakiaaTS
import Derived.Test.YtmlmdhnjafakiaaReg2
import Derived.ChangeKeysEq
/-
  Variables that hold environments; the chapter's example comes out as it should.
-/
namespace Go.Proofs.Ytmlmdhnjafakiaa
open Go Go.RowKit
set_option linter.unusedVariables false
/- a variable in block T that holds an environment of one's own -/
def Ve (w W : World) (T : Nat) (e : Ev) (V : Value) : Prop := Below w.heap.size w W ∧ Box W T 26 (envA e.1 V e.2.2) ∧ w.heap.size ≤ T ∧ TabsR W w.heap.size V e.2.1
section
variable {w W W' : World} {T : Nat} {e e' : Ev} {V V' : Value}
theorem Ve.later (h : Ve w W T e V) (hb : Below W.heap.size W W') : Ve w W' T e V := ⟨h.1.trans (hb.mono h.1.size), h.2.1.later hb, h.2.2.1, h.2.2.2.below hb⟩
theorem Ve.set (h : Ve w W T e V) (hr : TabsR W w.heap.size V' e'.2.1) : Ve w (W.setRow T (envA e'.1 V' e'.2.2)) T e' V' :=
  ⟨below_setRow h.1 h.2.2.1 _, setRow_heap _ _ _ _ _ _ h.2.1, h.2.2.1, hr.apart h.2.1 (grownBy_setRow _ _ _)⟩
theorem Ve.new (h : Below w.heap.size w W) (hr : TabsR W w.heap.size V e.2.1) : Ve w (W.alloc (.cells (envA e.1 V e.2.2) 26)) W.heap.size e V := by
  have ha := belowA W (.cells (envA e.1 V e.2.2) 26)
  exact ⟨h.trans (ha.mono h.size), Box.new _ _ _, h.size, hr.below ha⟩
theorem Ve.cells (h : Ve w W T e V) : W.cell? ⟨T, 0, none⟩ = some (.int .u32 e.1.1) ∧ W.cell? ⟨T, 1, none⟩ = some (.int .u32 e.1.2.1) ∧ W.cell? ⟨T, 2, none⟩ = some (.int .u32 e.1.2.2.1) ∧ W.cell? ⟨T, 3, none⟩ = some (.int .u32 e.1.2.2.2) ∧ W.cell? ⟨T, 4, none⟩ = some V ∧ W.cell? ⟨T, 5, none⟩ = some (.int .u32 e.2.2) :=
  ⟨h.2.1.cell rfl, h.2.1.cell rfl, h.2.1.cell rfl, h.2.1.cell rfl, h.2.1.cell rfl, h.2.1.cell rfl⟩
end
theorem words_box {W : World} {A : Nat} (zs : List Int) (hok : wordL zs) (hl : zs.length ≤ 1000) (hB : Box W A 22 (wordsV zs).toArray) : WordsAt W (some ⟨A, 0, none⟩) zs.length zs.length zs := by
  refine ⟨rfl, Nat.le_refl _, by unfold maxLen; omega, hok, .inr ⟨_, rfl, fun i hi => ?_⟩⟩
  have ea : (⟨A, 0, none⟩ : Addr).add i = ⟨A, i, none⟩ := addr_add A i
  rw [ea]
  refine hB.cell ?_
  simp [wordsV, List.getD_eq_getElem?_getD, hi]
theorem tabs_one {W : World} {base B : Nat} {s : Sc} {es : List Ent} {x : Int} {V : Value} (hb : base ≤ B) (hB : Box W B 44 (tbA s V x)) (hr : Row W base V es) (hx : isW x) : TabsR W base (.slice (some ⟨B, 0, none⟩) 1 1) [(s, es, x)] :=
  .inr ⟨B, rfl, ⟨hb, _, hB, rfl, fun k hk => by
    have : k = 0 := by simpa using hk
    subst this
    exact ⟨hx, V, ⟨rfl, rfl, rfl, rfl, rfl, rfl⟩, hr⟩⟩, by simp⟩
theorem few_one {s : Sc} {es : List Ent} {x : Int} (h : fewE es) : fewL [(s, es, x)] := ⟨by simp, fun t ht => by rw [List.mem_singleton.1 ht]; exact h⟩
set_option maxRecDepth 100000 in
set_option maxHeartbeats 8000000 in
theorem awake_any (w : World) : Calls Try.prog 4 #[] w fun e w' => e = .returned (.bool true) ∧ Below w.heap.size w w' := by
  go_enter Try.func4, Try.ntmps4
  go_wp2_with fail
  have c1 := tnew_any 1 2 1 0 w
  rw [show newT (1, 2, 1, 0) = (((1, 2, 1, 0), [], 0) : Tb) by decide, show newE (1, 2, 1, 0) = 0 by decide] at c1
  refine c1.mono ?_
  rintro e w1 ⟨u, rfl, hb1, hr1⟩
  clear c1
  obtain ⟨b1, p1, hu, hE1⟩ := hr1.at
  subst hu
  have hbt : Below w.heap.size w (w1.alloc (.cells #[.int .i64 1, .int .i64 2, .int .i64 1, .int .i64 0, .slice b1 0 p1, .int .u32 0] 44)) := hb1.trans ((belowA _ _).mono hb1.size)
  have hbb : Below w.heap.size w ((w1.alloc (.cells #[.int .i64 1, .int .i64 2, .int .i64 1, .int .i64 0, .slice b1 0 p1, .int .u32 0] 44)).alloc (.cells #[.int .i64 1, .int .i64 2, .int .i64 1, .int .i64 0, .slice b1 0 p1, .int .u32 0] 44)) := hbt.trans ((belowA _ _).mono hbt.size)
  have hBt : Box (w1.alloc (.cells #[.int .i64 1, .int .i64 2, .int .i64 1, .int .i64 0, .slice b1 0 p1, .int .u32 0] 44)) w1.heap.size 44 #[.int .i64 1, .int .i64 2, .int .i64 1, .int .i64 0, .slice b1 0 p1, .int .u32 0] := Box.new _ _ _
  have hBb : Box ((w1.alloc (.cells #[.int .i64 1, .int .i64 2, .int .i64 1, .int .i64 0, .slice b1 0 p1, .int .u32 0] 44)).alloc (.cells #[.int .i64 1, .int .i64 2, .int .i64 1, .int .i64 0, .slice b1 0 p1, .int .u32 0] 44)) (w1.heap.size + 1) 44 #[.int .i64 1, .int .i64 2, .int .i64 1, .int .i64 0, .slice b1 0 p1, .int .u32 0] := by
    have := Box.new (w1.alloc (.cells #[.int .i64 1, .int .i64 2, .int .i64 1, .int .i64 0, .slice b1 0 p1, .int .u32 0] 44)) 44 #[.int .i64 1, .int .i64 2, .int .i64 1, .int .i64 0, .slice b1 0 p1, .int .u32 0]
    rwa [show (w1.alloc (.cells #[.int .i64 1, .int .i64 2, .int .i64 1, .int .i64 0, .slice b1 0 p1, .int .u32 0] 44)).heap.size = w1.heap.size + 1 by simp] at this
  have hTR : TabsR ((w1.alloc (.cells #[.int .i64 1, .int .i64 2, .int .i64 1, .int .i64 0, .slice b1 0 p1, .int .u32 0] 44)).alloc (.cells #[.int .i64 1, .int .i64 2, .int .i64 1, .int .i64 0, .slice b1 0 p1, .int .u32 0] 44)) w.heap.size (.slice (some ⟨w1.heap.size + 1, 0, none⟩) 1 1) [((1, 2, 1, 0), [], 0)] := tabs_one (s := (1, 2, 1, 0)) (x := 0) (by have := hb1.size; omega) hBb ((hr1.below (belowA _ _)).below (belowA _ _)) isW_zero
  have hVe : Ve w (((w1.alloc (.cells #[.int .i64 1, .int .i64 2, .int .i64 1, .int .i64 0, .slice b1 0 p1, .int .u32 0] 44)).alloc (.cells #[.int .i64 1, .int .i64 2, .int .i64 1, .int .i64 0, .slice b1 0 p1, .int .u32 0] 44)).alloc (.cells #[.int .u32 0, .int .u32 0, .int .u32 0, .int .u32 0, .slice (some ⟨w1.heap.size + 1, 0, none⟩) 1 1, .int .u32 0] 26)) (w1.heap.size + 1 + 1) ((0, 0, 0, 0), [((1, 2, 1, 0), [], 0)], 0) (.slice (some ⟨w1.heap.size + 1, 0, none⟩) 1 1) := by
    have := Ve.new (e := ((0, 0, 0, 0), [((1, 2, 1, 0), [], 0)], 0)) hbb hTR
    rwa [show ((w1.alloc (.cells #[.int .i64 1, .int .i64 2, .int .i64 1, .int .i64 0, .slice b1 0 p1, .int .u32 0] 44)).alloc (.cells #[.int .i64 1, .int .i64 2, .int .i64 1, .int .i64 0, .slice b1 0 p1, .int .u32 0] 44)).heap.size = w1.heap.size + 1 + 1 by simp] at this
  have HVe := Lib.hid (hVe.later (belowA _ (.cells #[.int .u32 0, .int .u32 5, .int .u32 0, .int .u32 7] 22)))
  have HWd : Hid (WordsAt ((((w1.alloc (.cells #[.int .i64 1, .int .i64 2, .int .i64 1, .int .i64 0, .slice b1 0 p1, .int .u32 0] 44)).alloc (.cells #[.int .i64 1, .int .i64 2, .int .i64 1, .int .i64 0, .slice b1 0 p1, .int .u32 0] 44)).alloc (.cells #[.int .u32 0, .int .u32 0, .int .u32 0, .int .u32 0, .slice (some ⟨w1.heap.size + 1, 0, none⟩) 1 1, .int .u32 0] 26)).alloc (.cells #[.int .u32 0, .int .u32 5, .int .u32 0, .int .u32 7] 22)) (some ⟨w1.heap.size + 1 + 1 + 1, 0, none⟩) 4 4 [0, 5, 0, 7]) := Lib.hid (by
    refine words_box [0, 5, 0, 7] (by intro z hz; simp only [List.mem_cons, List.not_mem_nil, or_false] at hz; rcases hz with rfl | rfl | rfl | rfl <;> exact ⟨by omega, by omega⟩) (by simp) ?_
    have := Box.new (((w1.alloc (.cells #[.int .i64 1, .int .i64 2, .int .i64 1, .int .i64 0, .slice b1 0 p1, .int .u32 0] 44)).alloc (.cells #[.int .i64 1, .int .i64 2, .int .i64 1, .int .i64 0, .slice b1 0 p1, .int .u32 0] 44)).alloc (.cells #[.int .u32 0, .int .u32 0, .int .u32 0, .int .u32 0, .slice (some ⟨w1.heap.size + 1, 0, none⟩) 1 1, .int .u32 0] 26)) 22 #[.int .u32 0, .int .u32 5, .int .u32 0, .int .u32 7]
    rwa [show (((w1.alloc (.cells #[.int .i64 1, .int .i64 2, .int .i64 1, .int .i64 0, .slice b1 0 p1, .int .u32 0] 44)).alloc (.cells #[.int .i64 1, .int .i64 2, .int .i64 1, .int .i64 0, .slice b1 0 p1, .int .u32 0] 44)).alloc (.cells #[.int .u32 0, .int .u32 0, .int .u32 0, .int .u32 0, .slice (some ⟨w1.heap.size + 1, 0, none⟩) 1 1, .int .u32 0] 26)).heap.size = w1.heap.size + 1 + 1 + 1 by simp] at this)
  obtain ⟨q0, q1, q2, q3, q4, q5⟩ := Box.tb (s := (1, 2, 1, 0)) hBt
  obtain ⟨v0, v1, v2, v3, v4, v5⟩ := hVe.cells
  simp only at q0 q1 q2 q3 q4 q5 v0 v1 v2 v3 v4 v5
  clear hb1 hr1 hE1 hbt hbb hBt hBb hTR hVe
  go_wp2_with fail
  clear q0 q1 q2 q3 q4 q5 v0 v1 v2 v3 v4 v5
  generalize hW2 : ((((w1.alloc (.cells #[.int .i64 1, .int .i64 2, .int .i64 1, .int .i64 0, .slice b1 0 p1, .int .u32 0] 44)).alloc (.cells #[.int .i64 1, .int .i64 2, .int .i64 1, .int .i64 0, .slice b1 0 p1, .int .u32 0] 44)).alloc (.cells #[.int .u32 0, .int .u32 0, .int .u32 0, .int .u32 0, .slice (some ⟨w1.heap.size + 1, 0, none⟩) 1 1, .int .u32 0] 26)).alloc (.cells #[.int .u32 0, .int .u32 5, .int .u32 0, .int .u32 7] 22)) = W2 at *
  generalize hE : w1.heap.size + 1 + 1 = E at *
  generalize hA : E + 1 = A at *
  generalize hB : w1.heap.size + 1 = B at *
  clear hW2 hE hA hB
  obtain ⟨b, cc, hq, hT⟩ := HVe.out.2.2.2.at
  simp only [List.length_singleton, Value.slice.injEq] at hq hT
  obtain ⟨rfl, _, rfl⟩ := hq
  have c2 := call_any 1 (0, 0, 0, 0) (some ⟨B, 0, none⟩) 1 1 0 [((1, 2, 1, 0), [], 0)] (some ⟨A, 0, none⟩) 4 4 [0, 5, 0, 7] W2 hT (few_one ⟨by simp, by simp⟩) isW_zero HWd.out
  rw [show callP 1 ((0, 0, 0, 0), [((1, 2, 1, 0), [], 0)], 0) [0, 5, 0, 7] = ((((0, 0, 0, 0), [((1, 2, 1, 0), [(5, [7])], 0)], 0), 0, 0) : Ev × Int × Int) by kernel_rfl] at c2
  refine c2.mono ?_
  rintro e m2 ⟨V2, rfl, hb2, hr2⟩
  clear c2 hT
  have HV2 := Lib.hid (HVe.out.later hb2)
  have HR2 := Lib.hid (hr2.low (base' := w.heap.size) HVe.out.1.size)
  obtain ⟨b2, p2, hu, _⟩ := hr2.at
  simp only [List.length_singleton] at hu
  subst hu
  clear hb2 hr2 HVe HWd
  have HV3 := Lib.hid (HV2.out.set (e' := ((0, 0, 0, 0), [((1, 2, 1, 0), [(5, [7])], 0)], 0)) HR2.out)
  have HBx := Lib.hid HV2.out.2.1
  obtain ⟨W3, hW3⟩ : ∃ W3, m2.setRow E #[.int .u32 0, .int .u32 0, .int .u32 0, .int .u32 0, .slice b2 1 p2, .int .u32 0] = W3 := ⟨_, rfl⟩
  replace HV3 : Hid (Ve w W3 E ((0, 0, 0, 0), [((1, 2, 1, 0), [(5, [7])], 0)], 0) (.slice b2 1 p2)) := by rw [← hW3]; exact HV3
  obtain ⟨v0, v1, v2, v3, v4, v5⟩ := HV3.out.cells
  simp only at v0 v1 v2 v3 v4 v5
  have HV4 := Lib.hid (HV3.out.later (belowA W3 (.cells #[.int .u32 0, .int .u32 5, .int .u32 0] 22)))
  have HWd : Hid (WordsAt (W3.alloc (.cells #[.int .u32 0, .int .u32 5, .int .u32 0] 22)) (some ⟨W3.heap.size, 0, none⟩) 3 3 [0, 5, 0]) := Lib.hid (words_box [0, 5, 0] (by intro z hz; simp only [List.mem_cons, List.not_mem_nil, or_false] at hz; rcases hz with rfl | rfl | rfl <;> exact ⟨by omega, by omega⟩) (by simp) (Box.new _ _ _))
  go_wp2_with (refine wpList_store_row rfl 26 _ _ rfl E _ rfl rfl 26 _ HBx.out (by kernel_rfl) rfl (by simp [Value.oneCell']) ?_)
  clear v0 v1 v2 v3 v4 v5 hW3 HBx HV2 HR2 HV3
  generalize hW4 : W3.alloc (.cells #[.int .u32 0, .int .u32 5, .int .u32 0] 22) = W4 at *
  generalize hA4 : W3.heap.size = A4 at *
  clear hW4 hA4
  obtain ⟨b, cc, hq, hT⟩ := HV4.out.2.2.2.at
  simp only [List.length_singleton, Value.slice.injEq] at hq hT
  obtain ⟨rfl, _, rfl⟩ := hq
  have c3 := call_any 0 (0, 0, 0, 0) b2 1 p2 0 [((1, 2, 1, 0), [(5, [7])], 0)] (some ⟨A4, 0, none⟩) 3 3 [0, 5, 0] W4 hT (few_one ⟨by simp, by simp⟩) isW_zero HWd.out
  rw [show callP 0 ((0, 0, 0, 0), [((1, 2, 1, 0), [(5, [7])], 0)], 0) [0, 5, 0] = ((((0, 0, 0, 0), [((1, 2, 1, 0), [(5, [7])], 0)], 0), 7, 0) : Ev × Int × Int) by kernel_rfl] at c3
  refine c3.mono ?_
  rintro e m3 ⟨V3, rfl, hb3, hr3⟩
  clear c3 hT
  have HV5 := Lib.hid (HV4.out.later hb3)
  have HR5 := Lib.hid (hr3.low (base' := w.heap.size) HV4.out.1.size)
  obtain ⟨b3, p3, hu, _⟩ := hr3.at
  simp only [List.length_singleton] at hu
  subst hu
  clear hb3 hr3 HV4 HWd
  have HV6 := Lib.hid (HV5.out.set (e' := ((0, 0, 0, 0), [((1, 2, 1, 0), [(5, [7])], 0)], 0)) HR5.out)
  have HBx := Lib.hid HV5.out.2.1
  obtain ⟨W6, hW6⟩ : ∃ W6, m3.setRow E #[.int .u32 0, .int .u32 0, .int .u32 0, .int .u32 0, .slice b3 1 p3, .int .u32 0] = W6 := ⟨_, rfl⟩
  replace HV6 : Hid (Ve w W6 E ((0, 0, 0, 0), [((1, 2, 1, 0), [(5, [7])], 0)], 0) (.slice b3 1 p3)) := by rw [← hW6]; exact HV6
  obtain ⟨v0, v1, v2, v3, v4, v5⟩ := HV6.out.cells
  simp only at v0 v1 v2 v3 v4 v5
  go_wp2_with (refine wpList_store_row rfl 26 _ _ rfl E _ rfl rfl 26 _ HBx.out (by kernel_rfl) rfl (by simp [Value.oneCell']) ?_)
  clear v0 v1 v2 v3 v4 v5 hW6
  have c4 := draw_any 0 W6
  rw [show drawP 0 = 1013904223 by decide] at c4
  refine c4.mono ?_
  rintro e m4 ⟨rfl, hm4⟩
  subst m4
  clear c4
  go_wp2_with fail
  have c5 := args_any 1 W6
  rw [show argsP 1 = 4 by decide] at c5
  refine c5.mono ?_
  rintro e m5 ⟨rfl, hm5⟩
  subst m5
  clear c5
  go_wp2_with fail
  go_ret
  exact ⟨rfl, HV6.out.1⟩
end Go.Proofs.Ytmlmdhnjafakiaa

/-
  Tables and rows of words that came in, opened: what is read of an argument lies in memory as plain numbers.
-/
namespace Go.Proofs.Ytmlmdhnjafakiaa
open Go.ChangeShapes Go.WideShapes Go.ChangeAt Go.RowKit Go.Deep

theorem cellsS : Try.prog.cellsOf 29 = 4 := by kernel_rfl
theorem cellsE : Try.prog.cellsOf 48 = 2 := by kernel_rfl
theorem cellsT : Try.prog.cellsOf 44 = 6 := by kernel_rfl
theorem cellsL : Try.prog.cellsOf 42 = 1 := by kernel_rfl
theorem cellsW : Try.prog.cellsOf 22 = 1 := by kernel_rfl
section
variable {H : Type} {enc : TypeId × Value → H} {w : World} {base : Nat} {spare : Nat → Bool} {held : Bool}
theorem sc_cells {fuel : Nat} {cs : List Value} {x : DataW H × List MemPlace} (h : DataW.trod enc Try.prog w base spare held fuel 29 cs = some x) :
    ∃ (k c n v : Int), cs = [.int .i64 k, .int .i64 c, .int .i64 n, .int .i64 v] := by
  obtain ⟨xs, n, _, hx, hl, hxl, hg⟩ := DataW.trod_struct Try.underlying29 h
  rw [cellsS] at hl
  have hone := hone_of (P := Try.prog) (fs := #[⟨"Kind", 3, 0, false, "", "", 0⟩, ⟨"Cap", 3, 1, false, "", "", 8⟩, ⟨"Words", 3, 2, false, "", "", 16⟩, ⟨"Ver", 3, 3, false, "", "", 24⟩]) (by kernel_rfl)
  match cs, hl with
  | [c0, c1, c2, c3], _ =>
    match xs, hxl with
    | [y0, y1, y2, y3], _ =>
      have k0 := hg 0 _ rfl
      have k1 := hg 1 _ rfl
      have k2 := hg 2 _ rfl
      have k3 := hg 3 _ rfl
      rw [(hone 0 _ rfl).1, (hone 0 _ rfl).2] at k0
      rw [(hone 1 _ rfl).1, (hone 1 _ rfl).2] at k1
      rw [(hone 2 _ rfl).1, (hone 2 _ rfl).2] at k2
      rw [(hone 3 _ rfl).1, (hone 3 _ rfl).2] at k3
      obtain ⟨a0, e0, _, _⟩ := DataW.trod_int Try.underlying3 k0
      obtain ⟨a1, e1, _, _⟩ := DataW.trod_int Try.underlying3 k1
      obtain ⟨a2, e2, _, _⟩ := DataW.trod_int Try.underlying3 k2
      obtain ⟨a3, e3, _, _⟩ := DataW.trod_int Try.underlying3 k3
      simp at e0 e1 e2 e3
      subst e0 e1 e2 e3
      exact ⟨a0, a1, a2, a3, rfl⟩
theorem words_here {fuel : Nat} {v : Value} {x : DataW H × List MemPlace} (h : DataW.trod enc Try.prog w base spare held fuel 27 [v] = some x) : ∃ a len cap zs, v = .slice a len cap ∧ WordsAt w a len cap zs := by
  rcases open_slice Try.underlying27 h with ⟨hcs, _⟩ | ⟨a, len, cap, m, n, D, Pl, hcs, _, hl, hm, hmm, _, hx⟩
  · simp at hcs
    exact ⟨none, 0, 0, [], hcs, words_nil w⟩
  · simp at hcs
    have hml : len ≤ m := by rw [hmm]; split <;> omega
    obtain ⟨zs, hcl, hc⟩ := exists_list (0 : Int) (fun k (z : Int) => isW z ∧ w.cell? (a.add k) = some (.int .u32 z)) len (fun k hk => by
      obtain ⟨cs', h1, h2⟩ := hx k (by omega)
      rw [cellsW] at h1
      obtain ⟨z, e, _, hwf⟩ := DataW.trod_int Try.underlying22 h2
      subst e
      obtain ⟨_, _, hat⟩ := World.cells?_some h1
      have k0 := hat 0 (by omega)
      rw [Addr.add_zero', Nat.mul_one] at k0
      exact ⟨z, bounds_u32 hwf, k0⟩)
    refine ⟨some a, len, cap, zs, hcs, hcl, hl, hm, fun z hz => ?_, .inr ⟨a, rfl, fun k hk => (hc k hk).2⟩⟩
    obtain ⟨j, hj, rfl⟩ := List.getElem_of_mem hz
    have := (hc j (by omega)).1
    rwa [List.getD_eq_getElem?_getD, List.getElem?_eq_getElem hj] at this
theorem ent_cells {fuel : Nat} {cs : List Value} {x : DataW H × List MemPlace} (h : DataW.trod enc Try.prog w base spare held fuel 48 cs = some x) : ∃ (key : Int) (a : Option Addr) (len cap : Nat) (zs : List Int), cs = [.int .u32 key, .slice a len cap] ∧ isW key ∧ WordsAt w a len cap zs := by
  obtain ⟨xs, n, _, _, hl, hxl, hg⟩ := DataW.trod_struct Try.underlying48 h
  rw [cellsE] at hl
  match cs, hl with
  | [c0, c1], _ =>
    have k0 := hg 0 _ rfl
    have k1 := hg 1 _ rfl
    have hone := hone_of (P := Try.prog) (fs := #[⟨"Key", 22, 0, false, "", "", 0⟩, ⟨"V", 27, 1, false, "", "", 8⟩]) (by kernel_rfl)
    rw [(hone 0 _ rfl).1, (hone 0 _ rfl).2] at k0
    rw [(hone 1 _ rfl).1, (hone 1 _ rfl).2] at k1
    match xs, hxl with
    | [y0, y1], _ =>
      obtain ⟨key, e0, _, hwf⟩ := DataW.trod_int Try.underlying22 k0
      have k1' : DataW.trod enc Try.prog w base spare held n 27 [c1] = some y1 := k1
      obtain ⟨a, len, cap, zs, rfl, hW⟩ := words_here k1'
      have e0' : [c0] = [.int .u32 key] := e0
      simp at e0'
      subst e0'
      exact ⟨key, a, len, cap, zs, rfl, bounds_u32 hwf, hW⟩
theorem ents_here {fuel : Nat} {v : Value} {x : DataW H × List MemPlace} (h : DataW.trod enc Try.prog w base spare held fuel 42 [v] = some x) : ∃ a len cap es, v = .slice a len cap ∧ EntsAt w a len cap es := by
  rcases open_slice Try.underlying42 h with ⟨hcs, _⟩ | ⟨a, len, cap, m, n, D, Pl, hcs, _, hl, hm, hmm, _, hx⟩
  · simp at hcs
    exact ⟨none, 0, 0, [], hcs, ents_nil w⟩
  · simp at hcs
    have hml : len ≤ m := by rw [hmm]; split <;> omega
    obtain ⟨es, hcl, hc⟩ := exists_list zeroE (fun k (e : Ent) => EntHere w (a.add (k * 2)) e) len (fun k hk => by
      obtain ⟨cs', h1, h2⟩ := hx k (by omega)
      rw [cellsE] at h1
      obtain ⟨key, b, l, cc, zs, rfl, hkw, hW⟩ := ent_cells h2
      obtain ⟨_, _, hat⟩ := World.cells?_some h1
      have k0 := hat 0 (by omega)
      have k1 := hat 1 (by omega)
      rw [Addr.add_zero'] at k0
      rw [add_add_cell _ 1 (by omega)] at k1
      exact ⟨(key, zs), k0, hkw, b, l, cc, k1, hW⟩)
    exact ⟨some a, len, cap, es, hcs, hcl, hl, hm, .inr ⟨a, rfl, hc⟩⟩
set_option maxRecDepth 100000 in
theorem tb_cells {fuel : Nat} {cs : List Value} {x : DataW H × List MemPlace} (h : DataW.trod enc Try.prog w base spare held fuel 44 cs = some x) : ∃ (s : Sc) (a : Option Addr) (len cap : Nat) (y : Int) (es : List Ent), cs = [.int .i64 s.1, .int .i64 s.2.1, .int .i64 s.2.2.1, .int .i64 s.2.2.2, .slice a len cap, .int .u32 y] ∧ EntsAt w a len cap es ∧ isW y := by
  obtain ⟨xs, n, _, _, hl, hxl, hg⟩ := DataW.trod_struct Try.underlying44 h
  rw [cellsT] at hl
  match cs, hl with
  | [c0, c1, c2, c3, c4, c5], _ =>
    have k0 := hg 0 _ rfl
    have k1 := hg 1 _ rfl
    have k2 := hg 2 _ rfl
    match xs, hxl with
    | [y0, y1, y2], _ =>
      have k0' : DataW.trod enc Try.prog w base spare held n 29 [c0, c1, c2, c3] = some y0 := by
        first
        | exact k0
        | (dsimp only at k0; rw [cellsS] at k0; exact k0)
        | simpa [cellsS] using k0
      have k1' : DataW.trod enc Try.prog w base spare held n 42 [c4] = some y1 := by
        first
        | exact k1
        | (dsimp only at k1; rw [cellsL] at k1; exact k1)
        | simpa [cellsL] using k1
      have k2' : DataW.trod enc Try.prog w base spare held n 22 [c5] = some y2 := by
        first
        | exact k2
        | (dsimp only at k2; rw [cellsW] at k2; exact k2)
        | simpa [cellsW] using k2
      obtain ⟨k, c, nn, v, e0⟩ := sc_cells k0'
      obtain ⟨a, len, cap, es, rfl, hE⟩ := ents_here k1'
      obtain ⟨y, e2, _, hwf⟩ := DataW.trod_int Try.underlying22 k2'
      simp at e0 e2
      obtain ⟨rfl, rfl, rfl, rfl⟩ := e0
      subst e2
      exact ⟨(k, c, nn, v), a, len, cap, y, es, rfl, hE, bounds_u32 hwf⟩
theorem open_tb {r0 : Reach} {b0 : Nat} {v : Value} {dd : DataW H} {p : List MemPlace} (hv : Value.okWide Try.prog w r0 b0 44 v) (h : DataW.Trod enc Try.prog w base spare held 44 v dd p) :
    ∃ s a len cap y es, v = tbV s (.slice a len cap) y ∧ EntsAt w a len cap es ∧ isW y := by
  obtain ⟨cs, rfl, _⟩ := okWide_struct Try.underlying44 hv
  obtain ⟨l⟩ := cs
  obtain ⟨fuel, hf⟩ := h
  obtain ⟨s, a, len, cap, y, es, hc, hE, hy⟩ := tb_cells hf
  simp only [Value.cells] at hc
  subst hc
  exact ⟨s, a, len, cap, y, es, rfl, hE, hy⟩
theorem open_words {r0 : Reach} {b0 : Nat} {v : Value} {dd : DataW H} {p : List MemPlace} (hv : Value.okWide Try.prog w r0 b0 27 v) (h : DataW.Trod enc Try.prog w base spare held 27 v dd p) :
    ∃ a len cap zs, v = .slice a len cap ∧ WordsAt w a len cap zs := by
  obtain ⟨a0, len0, cap0, rfl⟩ := okWide_slice Try.underlying27 hv
  obtain ⟨fuel, hf⟩ := h
  exact words_here hf
end
end Go.Proofs.Ytmlmdhnjafakiaa

/-
  Environments that came in, opened: what is read of an argument lies in memory as plain numbers.
-/
namespace Go.Proofs.Ytmlmdhnjafakiaa
open Go.ChangeShapes Go.WideShapes Go.ChangeAt Go.RowKit Go.Deep
set_option linter.unusedVariables false
theorem cellsC : Try.prog.cellsOf 23 = 4 := by kernel_rfl
theorem cellsV : Try.prog.cellsOf 26 = 6 := by kernel_rfl
theorem cellsTs : Try.prog.cellsOf 24 = 1 := by kernel_rfl
section
variable {H : Type} {enc : TypeId × Value → H} {w : World} {base : Nat} {spare : Nat → Bool} {held : Bool}
theorem tabs_nil (w : World) : TabsAt w none 0 0 [] := ⟨rfl, Nat.le_refl _, Nat.zero_le _, .inl rfl⟩
theorem tabs_here {fuel : Nat} {v : Value} {x : DataW H × List MemPlace} (h : DataW.trod enc Try.prog w base spare held fuel 24 [v] = some x) : ∃ a len cap ts, v = .slice a len cap ∧ TabsAt w a len cap ts := by
  rcases open_slice Try.underlying24 h with ⟨hcs, _⟩ | ⟨a, len, cap, m, n, D, Pl, hcs, _, hl, hm, hmm, _, hx⟩
  · simp at hcs
    exact ⟨none, 0, 0, [], hcs, tabs_nil w⟩
  · simp at hcs
    have hml : len ≤ m := by rw [hmm]; split <;> omega
    obtain ⟨ts, hcl, hc⟩ := exists_list zeroT (fun k (t : Tb) => TabHere w (a.add (k * 6)) t) len (fun k hk => by
      obtain ⟨cs', h1, h2⟩ := hx k (by omega)
      rw [cellsT] at h1
      obtain ⟨s, b, l, cc, y, es, rfl, hE, hy⟩ := tb_cells h2
      obtain ⟨_, _, hat⟩ := World.cells?_some h1
      have k0 := hat 0 (by omega)
      have k1 := hat 1 (by omega)
      have k2 := hat 2 (by omega)
      have k3 := hat 3 (by omega)
      have k4 := hat 4 (by omega)
      have k5 := hat 5 (by omega)
      rw [Addr.add_zero'] at k0
      rw [add_add_cell _ 1 (by omega)] at k1
      rw [add_add_cell _ 2 (by omega)] at k2
      rw [add_add_cell _ 3 (by omega)] at k3
      rw [add_add_cell _ 4 (by omega)] at k4
      rw [add_add_cell _ 5 (by omega)] at k5
      exact ⟨(s, es, y), k0, k1, k2, k3, ⟨b, l, cc, k4, hE⟩, k5, hy⟩)
    exact ⟨some a, len, cap, ts, hcs, hcl, hl, hm, .inr ⟨a, rfl, hc⟩⟩
set_option maxRecDepth 100000 in
theorem ctx_cells {fuel : Nat} {cs : List Value} {x : DataW H × List MemPlace} (h : DataW.trod enc Try.prog w base spare held fuel 23 cs = some x) : ∃ c : Cx, cs = [.int .u32 c.1, .int .u32 c.2.1, .int .u32 c.2.2.1, .int .u32 c.2.2.2] ∧ isW c.1 ∧ isW c.2.1 ∧ isW c.2.2.1 ∧ isW c.2.2.2 := by
  obtain ⟨xs, m, _, ex, hl, hxl, hel⟩ := DataW.trod_array Try.underlying23 h
  rw [cellsC] at hl
  match cs, hl with
  | [c0, c1, c2, c3], _ =>
    match xs, hxl with
    | [y0, y1, y2, y3], _ =>
      have g0 := hel 0 (by omega)
      have g1 := hel 1 (by omega)
      have g2 := hel 2 (by omega)
      have g3 := hel 3 (by omega)
      rw [cellsW] at g0 g1 g2 g3
      obtain ⟨a0, e0, _, w0⟩ := DataW.trod_int Try.underlying22 g0
      obtain ⟨a1, e1, _, w1⟩ := DataW.trod_int Try.underlying22 g1
      obtain ⟨a2, e2, _, w2⟩ := DataW.trod_int Try.underlying22 g2
      obtain ⟨a3, e3, _, w3⟩ := DataW.trod_int Try.underlying22 g3
      simp at e0 e1 e2 e3
      subst e0 e1 e2 e3
      exact ⟨(a0, a1, a2, a3), rfl, bounds_u32 w0, bounds_u32 w1, bounds_u32 w2, bounds_u32 w3⟩
set_option maxRecDepth 100000 in
theorem env_cells {fuel : Nat} {cs : List Value} {x : DataW H × List MemPlace} (h : DataW.trod enc Try.prog w base spare held fuel 26 cs = some x) : ∃ (c : Cx) (a : Option Addr) (len cap : Nat) (y : Int) (ts : List Tb), cs = [.int .u32 c.1, .int .u32 c.2.1, .int .u32 c.2.2.1, .int .u32 c.2.2.2, .slice a len cap, .int .u32 y] ∧ TabsAt w a len cap ts ∧ isW y := by
  obtain ⟨xs, n, _, _, hl, hxl, hg⟩ := DataW.trod_struct Try.underlying26 h
  rw [cellsV] at hl
  match cs, hl with
  | [c0, c1, c2, c3, c4, c5], _ =>
    have k0 := hg 0 _ rfl
    have k1 := hg 1 _ rfl
    have k2 := hg 2 _ rfl
    match xs, hxl with
    | [y0, y1, y2], _ =>
      have k0' : DataW.trod enc Try.prog w base spare held n 23 [c0, c1, c2, c3] = some y0 := by
        first
        | exact k0
        | (dsimp only at k0; rw [cellsC] at k0; exact k0)
        | simpa [cellsC] using k0
      have k1' : DataW.trod enc Try.prog w base spare held n 24 [c4] = some y1 := by
        first
        | exact k1
        | (dsimp only at k1; rw [cellsTs] at k1; exact k1)
        | simpa [cellsTs] using k1
      have k2' : DataW.trod enc Try.prog w base spare held n 22 [c5] = some y2 := by
        first
        | exact k2
        | (dsimp only at k2; rw [cellsW] at k2; exact k2)
        | simpa [cellsW] using k2
      obtain ⟨c, e0, _⟩ := ctx_cells k0'
      obtain ⟨a, len, cap, ts, rfl, hE⟩ := tabs_here k1'
      obtain ⟨y, e2, _, hwf⟩ := DataW.trod_int Try.underlying22 k2'
      simp at e0 e2
      obtain ⟨rfl, rfl, rfl, rfl⟩ := e0
      subst e2
      exact ⟨c, a, len, cap, y, ts, rfl, hE, bounds_u32 hwf⟩
theorem open_env {r0 : Reach} {b0 : Nat} {v : Value} {dd : DataW H} {p : List MemPlace} (hv : Value.okWide Try.prog w r0 b0 26 v) (h : DataW.Trod enc Try.prog w base spare held 26 v dd p) :
    ∃ c a len cap y ts, v = envV c (.slice a len cap) y ∧ TabsAt w a len cap ts ∧ isW y := by
  obtain ⟨cs, rfl, _⟩ := okWide_struct Try.underlying26 hv
  obtain ⟨l⟩ := cs
  obtain ⟨fuel, hf⟩ := h
  obtain ⟨c, a, len, cap, y, ts, hc, hE, hy⟩ := env_cells hf
  simp only [Value.cells] at hc
  subst hc
  exact ⟨c, a, len, cap, y, ts, rfl, hE, hy⟩
theorem open_sc {r0 : Reach} {b0 : Nat} {v : Value} {dd : DataW H} {p : List MemPlace} (hv : Value.okWide Try.prog w r0 b0 29 v) (h : DataW.Trod enc Try.prog w base spare held 29 v dd p) :
    ∃ k c n m, v = scV k c n m := by
  obtain ⟨cs, rfl, _⟩ := okWide_struct Try.underlying29 hv
  obtain ⟨l⟩ := cs
  obtain ⟨fuel, hf⟩ := h
  obtain ⟨k, c, n, m, hc⟩ := sc_cells hf
  simp only [Value.cells] at hc
  subst hc
  exact ⟨k, c, n, m, rfl⟩
end
end Go.Proofs.Ytmlmdhnjafakiaa

/-
  Variables that hold an environment that came in, or one that a call returned; tables that are not too great.
-/
namespace Go.Proofs.Ytmlmdhnjafakiaa
open Go Go.RowKit
set_option linter.unusedVariables false
def Tq (w W : World) (V : Value) (ts : List Tb) : Prop := (∃ b cc, V = .slice b ts.length cc ∧ TabsAt w b ts.length cc ts) ∨ TabsR W w.heap.size V ts
def Vq (w W : World) (T : Nat) (e : Ev) (V : Value) : Prop := Below w.heap.size w W ∧ Box W T 26 (envA e.1 V e.2.2) ∧ w.heap.size ≤ T ∧ Tq w W V e.2.1
section
variable {w W W' : World} {T : Nat} {e e' : Ev} {V V' : Value}
theorem Vq.later (h : Vq w W T e V) (hb : Below W.heap.size W W') : Vq w W' T e V := ⟨h.1.trans (hb.mono h.1.size), h.2.1.later hb, h.2.2.1, h.2.2.2.imp id (fun h => h.below hb)⟩
theorem Vq.at (h : Vq w W T e V) : ∃ b cc, V = .slice b e.2.1.length cc ∧ TabsAt W b e.2.1.length cc e.2.1 := by
  rcases h.2.2.2 with ⟨b, cc, h1, h2⟩ | h2
  · exact ⟨b, cc, h1, h2.below h.1⟩
  · exact h2.at
theorem Vq.set (h : Vq w W T e V) (hr : TabsR W w.heap.size V' e'.2.1) : Vq w (W.setRow T (envA e'.1 V' e'.2.2)) T e' V' :=
  ⟨below_setRow h.1 h.2.2.1 _, setRow_heap _ _ _ _ _ _ h.2.1, h.2.2.1, .inr (hr.apart h.2.1 (grownBy_setRow _ _ _))⟩
theorem Vq.cells (h : Vq w W T e V) : W.cell? ⟨T, 0, none⟩ = some (.int .u32 e.1.1) ∧ W.cell? ⟨T, 1, none⟩ = some (.int .u32 e.1.2.1) ∧ W.cell? ⟨T, 2, none⟩ = some (.int .u32 e.1.2.2.1) ∧ W.cell? ⟨T, 3, none⟩ = some (.int .u32 e.1.2.2.2) ∧ W.cell? ⟨T, 4, none⟩ = some V ∧ W.cell? ⟨T, 5, none⟩ = some (.int .u32 e.2.2) :=
  ⟨h.2.1.cell rfl, h.2.1.cell rfl, h.2.1.cell rfl, h.2.1.cell rfl, h.2.1.cell rfl, h.2.1.cell rfl⟩
theorem Vq.begin {a : Option Addr} {len cap : Nat} (c : Cx) (sd : Int) {ts : List Tb} (h : TabsAt w a len cap ts) : Vq w (w.alloc (.cells (envA c (.slice a len cap) sd) 26)) w.heap.size (c, ts, sd) (.slice a len cap) := by
  have hl := h.1
  subst hl
  exact ⟨belowA _ _, Box.new _ _ _, Nat.le_refl _, .inl ⟨a, cap, rfl, h⟩⟩
end
theorem few_of {ts : List Tb} (h : fewTs ts = true) : fewL ts := by
  simp only [fewTs, Bool.and_eq_true, decide_eq_true_iff, List.all_eq_true] at h
  refine ⟨by omega, fun t ht => ?_⟩
  have := h.2 t ht
  simp only [fewT, Bool.and_eq_true, decide_eq_true_iff, List.all_eq_true] at this
  exact ⟨by omega, fun e he => by have := this.2 e he; omega⟩
theorem drawP_ne {s : Int} : drawP s ≠ s := by
  unfold drawP
  omega
theorem drawP_w (s : Int) : isW (drawP s) := by
  unfold drawP
  exact ⟨by omega, by omega⟩
end Go.Proofs.Ytmlmdhnjafakiaa

/-
  Whether two lists of tables are the same, as a contract over the translated program.
-/
namespace Go.Proofs.Ytmlmdhnjafakiaa
open Go Go.RowKit
set_option linter.unusedVariables false
theorem tabs_eq {ts us : List Tb} (hl : ts.length = us.length) (h : ∀ j, j < ts.length → ts.getD j zeroT = us.getD j zeroT) : ts = us := by
  apply List.ext_getElem hl
  intro j h1 h2
  have := h j h1
  simpa [List.getD_eq_getElem?_getD, h1, h2] using this
set_option maxRecDepth 100000 in
set_option maxHeartbeats 8000000 in
theorem all_any (a : Option Addr) (la ca : Nat) (ts : List Tb) (b : Option Addr) (lb cb : Nat) (us : List Tb) (w : World) (h : TabsAt w a la ca ts) (h' : TabsAt w b lb cb us) :
    Calls Try.prog 27 #[.slice a la ca, .slice b lb cb] w fun e w' => e = .returned (.bool (decide (ts = us))) ∧ Below w.heap.size w w' := by
  have hm := h.max
  have hm' := h'.max
  obtain ⟨Q, hQ⟩ : ∃ Q, decide (ts = us) = Q := ⟨_, rfl⟩
  rw [hQ]
  have HQQ := Lib.hid hQ
  have H1 := Lib.hid h
  have H2 := Lib.hid h'
  clear hQ h h'
  by_cases hl : la = lb
  · subst hl
    have hne : ((la : Int) != (la : Int)) = false := by simp
    go_enter Try.func27, Try.ntmps27
    go_wp2_with fail
    clear hne
    go_loopw [5] (fun i wr => ∃ k : Nat, k ≤ la ∧ i = .int .i64 k ∧ Hid (∀ j, j < k → ts.getD j zeroT = us.getD j zeroT) ∧ Hid (Below w.heap.size w wr)) (fun i _ => la - (intOf i).toNat)
    case atStart => exact ⟨0, by omega, rfl, Lib.hid (fun j hj => absurd hj (by omega)), Lib.hid (Below.refl _ _)⟩
    case round =>
      obtain ⟨k, hk, rfl, HF, HB⟩ := hrel
      by_cases hkl : k < la
      · have hkI : (k : Int) < (la : Int) := by omega
        obtain ⟨y, rfl, hy⟩ := H1.out.2.2.2.resolve_left (by omega)
        obtain ⟨z, rfl, hz⟩ := H2.out.2.2.2.resolve_left (by omega)
        have t1 := hy k hkl
        have t2 := hz k hkl
        rcases e1 : ts.getD k zeroT with ⟨⟨s0, s1, s2, s3⟩, es1, x1⟩
        rcases e2 : us.getD k zeroT with ⟨⟨r0, r1, r2, r3⟩, es2, x2⟩
        rw [e1] at t1
        rw [e2] at t2
        obtain ⟨p0, p1, p2, p3, ⟨b1, l1, cc1, p4, hE1⟩, p5, _⟩ := t1
        obtain ⟨q0, q1, q2, q3, ⟨b2, l2, cc2, q4, hE2⟩, q5, _⟩ := t2
        simp only at p0 p1 p2 p3 p4 p5 q0 q1 q2 q3 q4 q5 hE1 hE2
        have HE1 := Lib.hid hE1
        have HE2 := Lib.hid hE2
        have HKp : Hid (∀ w', Below w.heap.size w w' → w'.cell? (y.add (k * 6)) = some (.int .i64 s0) ∧ w'.cell? ⟨(y.add (k * 6)).block, (y.add (k * 6)).off + 1, none⟩ = some (.int .i64 s1) ∧ w'.cell? ⟨(y.add (k * 6)).block, (y.add (k * 6)).off + 2, none⟩ = some (.int .i64 s2) ∧ w'.cell? ⟨(y.add (k * 6)).block, (y.add (k * 6)).off + 3, none⟩ = some (.int .i64 s3) ∧ w'.cell? ⟨(y.add (k * 6)).block, (y.add (k * 6)).off + 4, none⟩ = some (.slice b1 l1 cc1) ∧ w'.cell? ⟨(y.add (k * 6)).block, (y.add (k * 6)).off + 5, none⟩ = some (.int .u32 x1) ∧ w'.cell? (z.add (k * 6)) = some (.int .i64 r0) ∧ w'.cell? ⟨(z.add (k * 6)).block, (z.add (k * 6)).off + 1, none⟩ = some (.int .i64 r1) ∧ w'.cell? ⟨(z.add (k * 6)).block, (z.add (k * 6)).off + 2, none⟩ = some (.int .i64 r2) ∧ w'.cell? ⟨(z.add (k * 6)).block, (z.add (k * 6)).off + 3, none⟩ = some (.int .i64 r3) ∧ w'.cell? ⟨(z.add (k * 6)).block, (z.add (k * 6)).off + 4, none⟩ = some (.slice b2 l2 cc2) ∧ w'.cell? ⟨(z.add (k * 6)).block, (z.add (k * 6)).off + 5, none⟩ = some (.int .u32 x2)) := Lib.hid (fun w' hb => ⟨(hb.cell (lt_of_cell p0)).trans p0, (hb.cell (lt_of_cell p1)).trans p1, (hb.cell (lt_of_cell p2)).trans p2, (hb.cell (lt_of_cell p3)).trans p3, (hb.cell (lt_of_cell p4)).trans p4, (hb.cell (lt_of_cell p5)).trans p5, (hb.cell (lt_of_cell q0)).trans q0, (hb.cell (lt_of_cell q1)).trans q1, (hb.cell (lt_of_cell q2)).trans q2, (hb.cell (lt_of_cell q3)).trans q3, (hb.cell (lt_of_cell q4)).trans q4, (hb.cell (lt_of_cell q5)).trans q5⟩)
        obtain ⟨R, hR⟩ : ∃ R, decide ((((s0, s1, s2, s3), es1, x1) : Tb) = ((r0, r1, r2, r3), es2, x2)) = R := ⟨_, rfl⟩
        have HQ := Lib.hid hR
        have HE9 := Lib.hid (And.intro e1 e2)
        clear p0 p1 p2 p3 p4 p5 q0 q1 q2 q3 q4 q5 hE1 hE2 hy hz e1 e2 hR
        go_wp2_with fail
        refine wp_region_held_drew (S := (fun w' => w'.cell? (y.add (k * 6)) = some (.int .i64 s0) ∧ w'.cell? ⟨(y.add (k * 6)).block, (y.add (k * 6)).off + 1, none⟩ = some (.int .i64 s1) ∧ w'.cell? ⟨(y.add (k * 6)).block, (y.add (k * 6)).off + 2, none⟩ = some (.int .i64 s2) ∧ w'.cell? ⟨(y.add (k * 6)).block, (y.add (k * 6)).off + 3, none⟩ = some (.int .i64 s3) ∧ w'.cell? ⟨(y.add (k * 6)).block, (y.add (k * 6)).off + 4, none⟩ = some (.slice b1 l1 cc1) ∧ w'.cell? ⟨(y.add (k * 6)).block, (y.add (k * 6)).off + 5, none⟩ = some (.int .u32 x1) ∧ w'.cell? (z.add (k * 6)) = some (.int .i64 r0) ∧ w'.cell? ⟨(z.add (k * 6)).block, (z.add (k * 6)).off + 1, none⟩ = some (.int .i64 r1) ∧ w'.cell? ⟨(z.add (k * 6)).block, (z.add (k * 6)).off + 2, none⟩ = some (.int .i64 r2) ∧ w'.cell? ⟨(z.add (k * 6)).block, (z.add (k * 6)).off + 3, none⟩ = some (.int .i64 r3) ∧ w'.cell? ⟨(z.add (k * 6)).block, (z.add (k * 6)).off + 4, none⟩ = some (.slice b2 l2 cc2) ∧ w'.cell? ⟨(z.add (k * 6)).block, (z.add (k * 6)).off + 5, none⟩ = some (.int .u32 x2))) (by kernel_rfl) (HKp.out _ HB.out.drew) (fun hHeld => ?_)
        refine wpAnyH_yield (i := 0) (v := ?v0) rfl rfl (by kernel_rfl) (by kernel_rfl) (by kernel_rfl) (fun _ _ _ h => h) (by rfl) ?hy0 hHeld ?rest0
        case hy0 =>
          intro w hSw
          (try dsimp only at hSw)
          go_simp
          try with_reducible rfl
        simp only [Act.put, List.setIfInBounds_toArray, List.set_cons_zero, List.set_cons_succ]
        refine wpAnyH_yield (i := 1) (v := ?v1) rfl rfl (by kernel_rfl) (by kernel_rfl) (by kernel_rfl) (fun _ _ _ h => h) (by rfl) ?hy1 hHeld ?rest1
        case hy1 =>
          intro w hSw
          (try dsimp only at hSw)
          go_simp
          try with_reducible rfl
        simp only [Act.put, List.setIfInBounds_toArray, List.set_cons_zero, List.set_cons_succ]
        refine wpAnyH_yield (i := 2) (v := ?v2) rfl rfl (by kernel_rfl) (by kernel_rfl) (by kernel_rfl) (fun _ _ _ h => h) (by rfl) ?hy2 hHeld ?rest2
        case hy2 =>
          intro w hSw
          (try dsimp only at hSw)
          go_simp
          try with_reducible rfl
        simp only [Act.put, List.setIfInBounds_toArray, List.set_cons_zero, List.set_cons_succ]
        refine wpAnyH_yield (i := 3) (v := ?v3) rfl rfl (by kernel_rfl) (by kernel_rfl) (by kernel_rfl) (fun _ _ _ h => h) (by rfl) ?hy3 hHeld ?rest3
        case hy3 =>
          intro w hSw
          (try dsimp only at hSw)
          go_simp
          try with_reducible rfl
        simp only [Act.put, List.setIfInBounds_toArray, List.set_cons_zero, List.set_cons_succ]
        refine wpAnyH_yield (i := 4) (v := ?v4) rfl rfl (by kernel_rfl) (by kernel_rfl) (by kernel_rfl) (fun _ _ _ h => h) (by rfl) ?hy4 hHeld ?rest4
        case hy4 =>
          intro w hSw
          (try dsimp only at hSw)
          go_simp
          try with_reducible rfl
        simp only [Act.put, List.setIfInBounds_toArray, List.set_cons_zero, List.set_cons_succ]
        refine wpAnyH_yield (i := 5) (v := ?v5) rfl rfl (by kernel_rfl) (by kernel_rfl) (by kernel_rfl) (fun _ _ _ h => h) (by rfl) ?hy5 hHeld ?rest5
        case hy5 =>
          intro w hSw
          (try dsimp only at hSw)
          go_simp
          try with_reducible rfl
        simp only [Act.put, List.setIfInBounds_toArray, List.set_cons_zero, List.set_cons_succ]
        refine wpAnyH_yield (i := 6) (v := ?v6) rfl rfl (by kernel_rfl) (by kernel_rfl) (by kernel_rfl) (fun _ _ _ h => h) (by rfl) ?hy6 hHeld ?rest6
        case hy6 =>
          intro w hSw
          (try dsimp only at hSw)
          go_simp
          try with_reducible rfl
        simp only [Act.put, List.setIfInBounds_toArray, List.set_cons_zero, List.set_cons_succ]
        refine wpAnyH_yield (i := 7) (v := ?v7) rfl rfl (by kernel_rfl) (by kernel_rfl) (by kernel_rfl) (fun _ _ _ h => h) (by rfl) ?hy7 hHeld ?rest7
        case hy7 =>
          intro w hSw
          (try dsimp only at hSw)
          go_simp
          try with_reducible rfl
        simp only [Act.put, List.setIfInBounds_toArray, List.set_cons_zero, List.set_cons_succ]
        refine wpAnyH_ready (rs := [8]) (by kernel_rfl) (by simp) ?_
        refine AllReadyH.cons rfl (fun K hK => ?_) AllReadyH.nil
        go_simp
        have c1 := same_any (s0, s1, s2, s3) b1 l1 cc1 x1 es1 (r0, r1, r2, r3) b2 l2 cc2 x2 es2 wr.drew (HE1.out.below HB.out.drew) (HE2.out.below HB.out.drew)
        rw [HQ.out] at c1
        refine c1.mono ?_
        rintro e m1 ⟨rfl, hb1⟩
        have HB1 := Lib.hid (HB.out.drew.trans (hb1.mono HB.out.size))
        clear c1 hb1
        go_wp2_with fail
        refine hK.out _ _ (HKp.out _ HB1.out) (fun hHeld => ?_)
        clear hK K
        try simp only [Act.put, List.setIfInBounds_toArray, List.set_cons_zero, List.set_cons_succ]
        refine wpAnyH_yield (i := 9) (v := ?v9) rfl rfl (by kernel_rfl) (by kernel_rfl) (by kernel_rfl) (fun _ _ _ h => h) (by rfl) ?hy9 hHeld ?rest9
        case hy9 =>
          intro w hSw
          (try dsimp only at hSw)
          go_simp
          try with_reducible rfl
        simp only [Act.put, List.setIfInBounds_toArray, List.set_cons_zero, List.set_cons_succ]
        refine wpAnyH_done (by kernel_rfl) ?_ _
        clear hHeld HKp
        cases R
        · have HN : Hid (Q = false) := Lib.hid (by
            rw [← HQQ.out]
            refine decide_eq_false (fun h => ?_)
            have h9 := HQ.out
            rw [← HE9.out.1, ← HE9.out.2, h] at h9
            simp at h9)
          go_wp2_with fail
          go_ret
          exact ⟨by rw [HN.out]; rfl, HB1.out⟩
        · have hee : ts.getD k zeroT = us.getD k zeroT := by
            rw [HE9.out.1, HE9.out.2]
            exact of_decide_eq_true HQ.out
          have HEE := Lib.hid hee
          clear hee
          go_wp2_with fail
          refine ⟨⟨k + 1, by omega, by go_num, Lib.hid (fun j hj => ?_), HB1⟩, by simp [intOf]; omega⟩
          rcases Nat.lt_succ_iff_lt_or_eq.1 hj with hj | rfl
          · exact HF.out j hj
          · exact HEE.out
      · have hkI : ¬ (k : Int) < (la : Int) := by omega
        have HN : Hid (Q = true) := Lib.hid (by
          rw [← HQQ.out]
          exact decide_eq_true (tabs_eq (by rw [H1.out.1, H2.out.1]) (fun j hj => HF.out j (by rw [H1.out.1] at hj; omega))))
        go_wp2_with fail
        go_ret
        exact ⟨by rw [HN.out]; rfl, HB.out⟩
  · have hne : ((la : Int) != (lb : Int)) = true := by simp; omega
    have HN : Hid (Q = false) := Lib.hid (by
      rw [← HQQ.out]
      refine decide_eq_false (fun h => hl ?_)
      rw [← H1.out.1, ← H2.out.1, h])
    go_enter Try.func27, Try.ntmps27
    go_wp2_with fail
    go_ret
    exact ⟨by rw [HN.out]; rfl, Below.refl _ _⟩
end Go.Proofs.Ytmlmdhnjafakiaa

/-
  Whether two environments are the same, as a contract over the translated program.
-/
namespace Go.Proofs.Ytmlmdhnjafakiaa
open Go Go.RowKit
set_option linter.unusedVariables false
theorem cpart0 (k c n v : Int) (w : World) : (part 22 #[.int .u32 k, .int .u32 c, .int .u32 n, .int .u32 v] 0).run Try.prog w = .ok (.int .u32 k) w := by kernel_rfl
theorem cpart1 (k c n v : Int) (w : World) : (part 22 #[.int .u32 k, .int .u32 c, .int .u32 n, .int .u32 v] 1).run Try.prog w = .ok (.int .u32 c) w := by kernel_rfl
theorem cpart2 (k c n v : Int) (w : World) : (part 22 #[.int .u32 k, .int .u32 c, .int .u32 n, .int .u32 v] 2).run Try.prog w = .ok (.int .u32 n) w := by kernel_rfl
theorem cpart3 (k c n v : Int) (w : World) : (part 22 #[.int .u32 k, .int .u32 c, .int .u32 n, .int .u32 v] 3).run Try.prog w = .ok (.int .u32 v) w := by kernel_rfl
theorem eqW3 (a b : Int) (w : World) : (Op.equalIn 9999 22 (.int .u32 a) (.int .u32 b)).run Try.prog w = .ok (a == b) w := run_equalIn_int w 9998 22 _ _ a b Try.underlying22
theorem equal_cx (k c n v k' c' n' v' : Int) (w : World) :
    (Op.equalIn 10000 23 (.agg #[.int .u32 k, .int .u32 c, .int .u32 n, .int .u32 v]) (.agg #[.int .u32 k', .int .u32 c', .int .u32 n', .int .u32 v'])).run Try.prog w = .ok (scEq k c n v k' c' n' v') w := by
  obtain ⟨jW, hiW, _⟩ := info_parts infoW
  rw [run_equalIn_array w 9999 _ _ Try.underlying23 hiW, cellsW]
  show (Op.eqItems 9999 22 1 _ _ [0, 1, 2, 3]).run Try.prog w = _
  simp only [Op.eqItems, scEq]
  rcases h0 : (k == k') <;> rcases h1 : (c == c') <;> rcases h2 : (n == n') <;> rcases h3 : (v == v') <;>
    simp [Sem.run_bind, cpart0, cpart1, cpart2, cpart3, eqW3, h0, h1, h2, h3]
theorem eql_cx (k c n v k' c' n' v' : Int) (w : World) :
    (binOp .eql 23 (.agg #[.int .u32 k, .int .u32 c, .int .u32 n, .int .u32 v]) (.agg #[.int .u32 k', .int .u32 c', .int .u32 n', .int .u32 v'])).run Try.prog w = .ok (.bool (scEq k c n v k' c' n' v')) w := by
  rw [run_eql_struct, equal_cx]
  rfl
theorem neq_cx (k c n v k' c' n' v' : Int) (w : World) :
    (binOp .neq 23 (.agg #[.int .u32 k, .int .u32 c, .int .u32 n, .int .u32 v]) (.agg #[.int .u32 k', .int .u32 c', .int .u32 n', .int .u32 v'])).run Try.prog w = .ok (.bool (!scEq k c n v k' c' n' v')) w := by
  rw [run_neq_struct, equal_cx]
  rfl
instance instDecEvT : DecidableEq (List Tb × Int) := fun a b => @instDecidableEqProd (List Tb) Int (fun x y => inferInstance) inferInstance a b
instance instDecEv : DecidableEq Ev := fun a b => @instDecidableEqProd (Int × Int × Int × Int) (List Tb × Int) inferInstance instDecEvT a b
theorem guardC : Try.prog.eqGuardType Try.prog.depth 23 = false := by kernel_rfl
theorem env_cells6 {W : World} {T : Nat} {c0 c1 c2 c3 sd : Int} {V : Value} (h : Box W T 26 #[.int .u32 c0, .int .u32 c1, .int .u32 c2, .int .u32 c3, V, .int .u32 sd]) :
    W.cell? ⟨T, 0, none⟩ = some (.int .u32 c0) ∧ W.cell? ⟨T, 1, none⟩ = some (.int .u32 c1) ∧ W.cell? ⟨T, 2, none⟩ = some (.int .u32 c2) ∧ W.cell? ⟨T, 3, none⟩ = some (.int .u32 c3) ∧ W.cell? ⟨T, 4, none⟩ = some V ∧ W.cell? ⟨T, 5, none⟩ = some (.int .u32 sd) :=
  ⟨h.cell rfl, h.cell rfl, h.cell rfl, h.cell rfl, h.cell rfl, h.cell rfl⟩
set_option maxRecDepth 100000 in
set_option maxHeartbeats 4000000 in
theorem esame_any (c : Cx) (a : Option Addr) (la ca : Nat) (sd : Int) (ts : List Tb) (c' : Cx) (b : Option Addr) (lb cb : Nat) (sd' : Int) (us : List Tb) (w : World) (h : TabsAt w a la ca ts) (h' : TabsAt w b lb cb us) :
    Calls Try.prog 9 #[envV c (.slice a la ca) sd, envV c' (.slice b lb cb) sd'] w fun e w' => e = .returned (.bool (decide (((c, ts, sd) : Ev) = (c', us, sd')))) ∧ Below w.heap.size w w' := by
  rcases c with ⟨c0, c1, c2, c3⟩
  rcases c' with ⟨e0, e1, e2, e3⟩
  have hb := box2 (Below.refl w.heap.size w) (Nat.le_refl _) (.cells #[.int .u32 c0, .int .u32 c1, .int .u32 c2, .int .u32 c3, .slice a la ca, .int .u32 sd] 26) (.cells #[.int .u32 e0, .int .u32 e1, .int .u32 e2, .int .u32 e3, .slice b lb cb, .int .u32 sd'] 26)
  have hB1 := (Box.new w 26 #[.int .u32 c0, .int .u32 c1, .int .u32 c2, .int .u32 c3, .slice a la ca, .int .u32 sd]).alloc (.cells #[.int .u32 e0, .int .u32 e1, .int .u32 e2, .int .u32 e3, .slice b lb cb, .int .u32 sd'] 26)
  have hB2 := Box.new (w.alloc (.cells #[.int .u32 c0, .int .u32 c1, .int .u32 c2, .int .u32 c3, .slice a la ca, .int .u32 sd] 26)) 26 #[.int .u32 e0, .int .u32 e1, .int .u32 e2, .int .u32 e3, .slice b lb cb, .int .u32 sd']
  rw [show (w.alloc (.cells #[.int .u32 c0, .int .u32 c1, .int .u32 c2, .int .u32 c3, .slice a la ca, .int .u32 sd] 26)).heap.size = w.heap.size + 1 by simp] at hB2
  have hT := h.below hb
  have hU := h'.below hb
  obtain ⟨R, hR⟩ : ∃ R, decide ((((c0, c1, c2, c3), ts, sd) : Ev) = ((e0, e1, e2, e3), us, sd')) = R := ⟨_, rfl⟩
  rw [hR]
  have HR := Lib.hid hR
  clear hR h h'
  obtain ⟨W, hW⟩ : ∃ W, ((w.alloc (.cells #[.int .u32 c0, .int .u32 c1, .int .u32 c2, .int .u32 c3, .slice a la ca, .int .u32 sd] 26)).alloc (.cells #[.int .u32 e0, .int .u32 e1, .int .u32 e2, .int .u32 e3, .slice b lb cb, .int .u32 sd'] 26)) = W := ⟨_, rfl⟩
  rw [hW] at hb hB1 hB2 hT hU
  have HB := Lib.hid hb
  have HB1 := Lib.hid hB1
  have HB2 := Lib.hid hB2
  have HT := Lib.hid hT
  have HU := Lib.hid hU
  obtain ⟨p0, p1, p2, p3, p4, p5⟩ := env_cells6 hB1
  obtain ⟨q0, q1, q2, q3, q4, q5⟩ := env_cells6 hB2
  clear hb hB1 hB2 hT hU
  go_enter Try.func9, Try.ntmps9
  go_wp2_with fail
  clear hW p0 p1 p2 p3 p4 p5 q0 q1 q2 q3 q4 q5
  have k1 := all_any a la ca ts b lb cb us W HT.out HU.out
  obtain ⟨Q, hQ⟩ : ∃ Q, decide (ts = us) = Q := ⟨_, rfl⟩
  rw [hQ] at k1
  have HQ := Lib.hid hQ
  clear hQ
  refine k1.mono ?_
  rintro e m1 ⟨rfl, hb1⟩
  clear k1
  have HB' := Lib.hid (HB.out.trans (hb1.mono HB.out.size))
  obtain ⟨p0, p1, p2, p3, p4, p5⟩ := env_cells6 (HB1.out.later hb1)
  obtain ⟨q0, q1, q2, q3, q4, q5⟩ := env_cells6 (HB2.out.later hb1)
  clear hb1
  have hne := eql_cx c0 c1 c2 c3 e0 e1 e2 e3
  have hgd := guardC
  cases Q
  · have HN : Hid (R = false) := Lib.hid (by
      rw [← HR.out]
      refine decide_eq_false (fun e => ?_)
      simp only [Prod.mk.injEq] at e
      exact of_decide_eq_false HQ.out e.2.1)
    go_wp2
    go_ret
    exact ⟨by rw [HN.out]; rfl, HB'.out⟩
  rcases hq : scEq c0 c1 c2 c3 e0 e1 e2 e3 with _ | _
  · have HN : Hid (R = false) := Lib.hid (by
      rw [← HR.out]
      refine decide_eq_false (fun e => ?_)
      simp only [Prod.mk.injEq] at e
      rw [scEq_iff.2 e.1] at hq
      cases hq)
    go_wp2
    go_ret
    exact ⟨by rw [HN.out]; rfl, HB'.out⟩
  rcases hs : (sd == sd') with _ | _
  · have HN : Hid (R = false) := Lib.hid (by
      rw [← HR.out]
      refine decide_eq_false (fun e => ?_)
      simp only [Prod.mk.injEq] at e
      rw [e.2.2] at hs
      simp at hs)
    go_wp2
    go_ret
    exact ⟨by rw [HN.out]; rfl, HB'.out⟩
  have HN : Hid (R = true) := Lib.hid (by
    rw [← HR.out]
    obtain ⟨h0, h1, h2, h3⟩ := scEq_iff.1 hq
    have h4 : sd = sd' := by simpa using hs
    have h5 := of_decide_eq_true HQ.out
    exact decide_eq_true (by rw [h0, h1, h2, h3, h4, h5]))
  go_wp2
  go_ret
  exact ⟨by rw [HN.out]; rfl, HB'.out⟩
end Go.Proofs.Ytmlmdhnjafakiaa

