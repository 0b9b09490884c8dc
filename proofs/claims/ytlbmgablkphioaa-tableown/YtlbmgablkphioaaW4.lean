/-
  The chapter's example comes out as it should: a contract over the translated program.
-/
import Derived.Test.YtlbmgablkphioaaV8
import Derived.Test.YtlbmgablkphioaaV7
import Derived.Test.YtlbmgablkphioaaW3
namespace Go.Proofs.Ytlbmgablkphioaa
open Go Go.RowKit
set_option linter.unusedVariables false

/- a variable in block T that holds a table whose entries lie in memory of their own -/
def Vr (w W : World) (T : Nat) (t : Tb) (V : Value) : Prop := Below w.heap.size w W ∧ Box W T 27 (tbA t.1 V t.2.2) ∧ Row W w.heap.size V t.2.1 ∧ w.heap.size ≤ T
section
variable {w W W' : World} {T : Nat} {t t' : Tb} {V u : Value} {base : Nat}
theorem Vr.new (h : Below w.heap.size w W) (hr : Row W base u t.2.1) (hb : w.heap.size ≤ base) : Vr w (W.alloc (.cells (tbA t.1 u t.2.2) 27)) W.heap.size t u := by
  have ha : Below W.heap.size W (W.alloc (.cells (tbA t.1 u t.2.2) 27)) := (Below.refl _ _).alloc (Nat.le_refl _) _
  exact ⟨h.trans (ha.mono h.size), Box.new _ _ _, (hr.below ha).low hb, h.size⟩
theorem Vr.later (h : Vr w W T t V) (hb : Below W.heap.size W W') : Vr w W' T t V := ⟨h.1.trans (hb.mono h.1.size), h.2.1.later hb, h.2.2.1.below hb, h.2.2.2⟩
theorem Vr.set (h : Vr w W T t V) (hb : Below W.heap.size W W') (hr : Row W' W.heap.size u t'.2.1) : Vr w (W'.setRow T (tbA t'.1 u t'.2.2)) T t' u := by
  have hB := h.2.1.later hb
  exact ⟨below_setRow (h.1.trans (hb.mono h.1.size)) h.2.2.2 _, setRow_heap _ _ _ _ _ _ hB, (hr.apart hB (grownBy_setRow _ _ _)).low h.1.size, h.2.2.2⟩
theorem Vr.at (h : Vr w W T t V) : ∃ b cp, V = .slice b t.2.1.length cp ∧ EntsAt W b t.2.1.length cp t.2.1 := h.2.2.1.at
end
set_option maxRecDepth 100000 in
set_option maxHeartbeats 4000000 in
theorem awake_any (w : World) : Calls Try.prog 12 #[] w fun e w' => e = .returned (.bool true) ∧ Below w.heap.size w w' := by
  go_enter Try.func12, Try.ntmps12
  go_wp2_with fail
  have c1 := tnew_any 2 2 1 0 w
  rw [show newT (2, 2, 1, 0) = ((2, 2, 1, 0), [], 0) by decide, show newE (2, 2, 1, 0) = 0 by decide] at c1
  refine c1.mono ?_
  rintro e w1 ⟨u, rfl, hb1, hr1⟩
  clear c1
  obtain ⟨b1, p1, hu, hE1⟩ := hr1.at
  subst hu
  have HV : Hid (Vr w (w1.alloc (.cells #[.int .i64 2, .int .i64 2, .int .i64 1, .int .i64 0, .slice b1 0 p1, .int .u32 0] 27)) w1.heap.size ((2, 2, 1, 0), [], 0) (.slice b1 0 p1)) := Lib.hid (Vr.new hb1 hr1 (Nat.le_refl _))
  clear hb1 hr1 hE1
  obtain ⟨k0, k1, k2, k3, k4, k5⟩ := Box.tb (s := (2, 2, 1, 0)) HV.out.2.1
  simp only at k0 k1 k2 k3 k4 k5
  go_wp2_with fail
  clear k0 k1 k2 k3 k4 k5
  generalize hW1 : w1.alloc (.cells #[.int .i64 2, .int .i64 2, .int .i64 1, .int .i64 0, .slice b1 0 p1, .int .u32 0] 27) = W1 at *
  generalize hT : w1.heap.size = T at *
  clear hW1 hT
  obtain ⟨_, _, hq2, hE2⟩ := HV.out.at
  simp only [Value.slice.injEq, List.length_nil, List.length_cons] at hq2 hE2
  obtain ⟨rfl, _, rfl⟩ := hq2
  have c2 := tset_any (2, 2, 1, 0) b1 0 p1 0 [] 1 0 7 W1 hE2 ⟨by simp, by simp⟩ ⟨by omega, by omega⟩ ⟨by omega, by omega⟩ ⟨by omega, by omega⟩ ⟨by omega, by omega⟩
  rw [show setT ((2, 2, 1, 0), [], 0) 1 0 7 = (((2, 2, 1, 0), [(1, [7])], 0), 0) by decide] at c2
  refine c2.mono ?_
  rintro e w2 ⟨u, rfl, hb2, hr2⟩
  clear c2 hE2
  obtain ⟨b2, p2, hu, _⟩ := hr2.at
  simp only [List.length_nil, List.length_cons] at hu
  subst hu
  have HB2 := Lib.hid (HV.out.2.1.later hb2)
  replace HV := Lib.hid (HV.out.set (t' := ((2, 2, 1, 0), [(1, [7])], 0)) hb2 hr2)
  obtain ⟨W2, hW2⟩ : ∃ W2, w2.setRow T #[.int .i64 2, .int .i64 2, .int .i64 1, .int .i64 0, .slice b2 1 p2, .int .u32 0] = W2 := ⟨_, rfl⟩
  have HV' : Hid (Vr w W2 T ((2, 2, 1, 0), [(1, [7])], 0) (.slice b2 1 p2)) := by rw [← hW2]; exact HV
  clear HV hb2 hr2
  have HV := HV'
  clear HV'
  obtain ⟨k0, k1, k2, k3, k4, k5⟩ := Box.tb (s := (2, 2, 1, 0)) HV.out.2.1
  simp only at k0 k1 k2 k3 k4 k5
  go_wp2_with (refine wpList_store_row rfl 27 _ _ rfl T _ rfl rfl 27 _ HB2.out (by kernel_rfl) rfl (by simp [Value.oneCell']) ?_)
  clear hW2 HB2 k0 k1 k2 k3 k4 k5
  obtain ⟨_, _, hq3, hE3⟩ := HV.out.at
  simp only [Value.slice.injEq, List.length_nil, List.length_cons] at hq3 hE3
  obtain ⟨rfl, _, rfl⟩ := hq3
  have c3 := tset_any (2, 2, 1, 0) b2 1 p2 0 [(1, [7])] 2 0 8 W2 hE3 ⟨by simp, by simp⟩ ⟨by omega, by omega⟩ ⟨by omega, by omega⟩ ⟨by omega, by omega⟩ ⟨by omega, by omega⟩
  rw [show setT ((2, 2, 1, 0), [(1, [7])], 0) 2 0 8 = (((2, 2, 1, 0), [(1, [7]), (2, [8])], 0), 0) by decide] at c3
  refine c3.mono ?_
  rintro e w3 ⟨u, rfl, hb3, hr3⟩
  clear c3 hE3
  obtain ⟨b3, p3, hu, _⟩ := hr3.at
  simp only [List.length_nil, List.length_cons] at hu
  subst hu
  have HB3 := Lib.hid (HV.out.2.1.later hb3)
  replace HV := Lib.hid (HV.out.set (t' := ((2, 2, 1, 0), [(1, [7]), (2, [8])], 0)) hb3 hr3)
  obtain ⟨W3, hW3⟩ : ∃ W3, w3.setRow T #[.int .i64 2, .int .i64 2, .int .i64 1, .int .i64 0, .slice b3 2 p3, .int .u32 0] = W3 := ⟨_, rfl⟩
  have HV' : Hid (Vr w W3 T ((2, 2, 1, 0), [(1, [7]), (2, [8])], 0) (.slice b3 2 p3)) := by rw [← hW3]; exact HV
  clear HV hb3 hr3
  have HV := HV'
  clear HV'
  obtain ⟨k0, k1, k2, k3, k4, k5⟩ := Box.tb (s := (2, 2, 1, 0)) HV.out.2.1
  simp only at k0 k1 k2 k3 k4 k5
  go_wp2_with (refine wpList_store_row rfl 27 _ _ rfl T _ rfl rfl 27 _ HB3.out (by kernel_rfl) rfl (by simp [Value.oneCell']) ?_)
  clear hW3 HB3 k0 k1 k2 k3 k4 k5
  obtain ⟨_, _, hq4, hE4⟩ := HV.out.at
  simp only [Value.slice.injEq, List.length_nil, List.length_cons] at hq4 hE4
  obtain ⟨rfl, _, rfl⟩ := hq4
  have c4 := tget_any (2, 2, 1, 0) b3 2 p3 0 [(1, [7]), (2, [8])] 1 0 W3 hE4 ⟨by simp, by simp⟩ ⟨by omega, by omega⟩ ⟨by omega, by omega⟩
  rw [show getT ((2, 2, 1, 0), [(1, [7]), (2, [8])], 0) 1 0 = (((2, 2, 1, 0), [(2, [8]), (1, [7])], 0), 7, true) by decide] at c4
  refine c4.mono ?_
  rintro e w4 ⟨u, rfl, hb4, hr4⟩
  clear c4 hE4
  obtain ⟨b4, p4, hu, _⟩ := hr4.at
  simp only [List.length_nil, List.length_cons] at hu
  subst hu
  have HB4 := Lib.hid (HV.out.2.1.later hb4)
  replace HV := Lib.hid (HV.out.set (t' := ((2, 2, 1, 0), [(2, [8]), (1, [7])], 0)) hb4 hr4)
  obtain ⟨W4, hW4⟩ : ∃ W4, w4.setRow T #[.int .i64 2, .int .i64 2, .int .i64 1, .int .i64 0, .slice b4 2 p4, .int .u32 0] = W4 := ⟨_, rfl⟩
  have HV' : Hid (Vr w W4 T ((2, 2, 1, 0), [(2, [8]), (1, [7])], 0) (.slice b4 2 p4)) := by rw [← hW4]; exact HV
  clear HV hb4 hr4
  have HV := HV'
  clear HV'
  obtain ⟨k0, k1, k2, k3, k4, k5⟩ := Box.tb (s := (2, 2, 1, 0)) HV.out.2.1
  simp only at k0 k1 k2 k3 k4 k5
  go_wp2_with (refine wpList_store_row rfl 27 _ _ rfl T _ rfl rfl 27 _ HB4.out (by kernel_rfl) rfl (by simp [Value.oneCell']) ?_)
  clear hW4 HB4 k0 k1 k2 k3 k4 k5
  obtain ⟨_, _, hq5, hE5⟩ := HV.out.at
  simp only [Value.slice.injEq, List.length_nil, List.length_cons] at hq5 hE5
  obtain ⟨rfl, _, rfl⟩ := hq5
  have c5 := tset_any (2, 2, 1, 0) b4 2 p4 0 [(2, [8]), (1, [7])] 3 0 9 W4 hE5 ⟨by simp, by simp⟩ ⟨by omega, by omega⟩ ⟨by omega, by omega⟩ ⟨by omega, by omega⟩ ⟨by omega, by omega⟩
  rw [show setT ((2, 2, 1, 0), [(2, [8]), (1, [7])], 0) 3 0 9 = (((2, 2, 1, 0), [(1, [7]), (3, [9])], 0), 0) by decide] at c5
  refine c5.mono ?_
  rintro e w5 ⟨u, rfl, hb5, hr5⟩
  clear c5 hE5
  obtain ⟨b5, p5, hu, _⟩ := hr5.at
  simp only [List.length_nil, List.length_cons] at hu
  subst hu
  have HB5 := Lib.hid (HV.out.2.1.later hb5)
  replace HV := Lib.hid (HV.out.set (t' := ((2, 2, 1, 0), [(1, [7]), (3, [9])], 0)) hb5 hr5)
  obtain ⟨W5, hW5⟩ : ∃ W5, w5.setRow T #[.int .i64 2, .int .i64 2, .int .i64 1, .int .i64 0, .slice b5 2 p5, .int .u32 0] = W5 := ⟨_, rfl⟩
  have HV' : Hid (Vr w W5 T ((2, 2, 1, 0), [(1, [7]), (3, [9])], 0) (.slice b5 2 p5)) := by rw [← hW5]; exact HV
  clear HV hb5 hr5
  have HV := HV'
  clear HV'
  obtain ⟨k0, k1, k2, k3, k4, k5⟩ := Box.tb (s := (2, 2, 1, 0)) HV.out.2.1
  simp only at k0 k1 k2 k3 k4 k5
  go_wp2_with (refine wpList_store_row rfl 27 _ _ rfl T _ rfl rfl 27 _ HB5.out (by kernel_rfl) rfl (by simp [Value.oneCell']) ?_)
  clear hW5 HB5 k0 k1 k2 k3 k4 k5
  obtain ⟨_, _, hq6, hE6⟩ := HV.out.at
  simp only [Value.slice.injEq, List.length_nil, List.length_cons] at hq6 hE6
  obtain ⟨rfl, _, rfl⟩ := hq6
  have c6 := tget_any (2, 2, 1, 0) b5 2 p5 0 [(1, [7]), (3, [9])] 2 0 W5 hE6 ⟨by simp, by simp⟩ ⟨by omega, by omega⟩ ⟨by omega, by omega⟩
  rw [show getT ((2, 2, 1, 0), [(1, [7]), (3, [9])], 0) 2 0 = (((2, 2, 1, 0), [(1, [7]), (3, [9])], 0), 0, false) by decide] at c6
  refine c6.mono ?_
  rintro e w6 ⟨u, rfl, hb6, hr6⟩
  clear c6 hE6
  obtain ⟨b6, p6, hu, _⟩ := hr6.at
  simp only [List.length_nil, List.length_cons] at hu
  subst hu
  replace HV := Lib.hid ((HV.out.later hb6).later ((Below.refl _ _).alloc (Nat.le_refl _) (.cells #[.int .i64 2, .int .i64 2, .int .i64 1, .int .i64 0, .slice b6 2 p6, .int .u32 0] 27)))
  clear hb6 hr6
  obtain ⟨k0, k1, k2, k3, k4, k5⟩ := Box.tb (s := (2, 2, 1, 0)) HV.out.2.1
  simp only at k0 k1 k2 k3 k4 k5
  go_wp2_with fail
  generalize hW6 : w6.alloc (.cells #[.int .i64 2, .int .i64 2, .int .i64 1, .int .i64 0, .slice b6 2 p6, .int .u32 0] 27) = W6 at *
  clear hW6
  obtain ⟨_, _, hq7, hE7⟩ := HV.out.at
  simp only [Value.slice.injEq, List.length_nil, List.length_cons] at hq7 hE7
  obtain ⟨rfl, _, rfl⟩ := hq7
  have c7 := tmay_any (2, 2, 1, 0) b5 2 p5 0 [(1, [7]), (3, [9])] W6 hE7 ⟨by omega, by omega⟩
  rw [show mayTb ((2, 2, 1, 0), [(1, [7]), (3, [9])], 0) = true by decide] at c7
  refine c7.mono ?_
  rintro e w7 ⟨rfl, hb7⟩
  have HZ := Lib.hid (HV.out.1.trans (hb7.mono HV.out.1.size))
  clear c7 hE7 hb7 k0 k1 k2 k3 k4 k5
  go_wp2_with fail
  go_ret
  exact ⟨rfl, HZ.out⟩
end Go.Proofs.Ytlbmgablkphioaa
