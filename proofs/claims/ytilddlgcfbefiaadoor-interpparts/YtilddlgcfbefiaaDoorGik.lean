/-
  Texts that the laws of this layer stand on, one behind the other.
-/
import Derived.Test.YtilddlgcfbefiaaDoorGie
import Derived.Test.YtilddlgcfbefiaaDoorGcc
import Derived.Test.YtilddlgcfbefiaaDoorGio
/-
  Ahead of the laws: few, and the examples; a variable that holds what a run came to.
-/
namespace Go.Proofs.YtilddlgcfbefiaaDoor
set_option linter.unusedSimpArgs false
set_option linter.unusedVariables false
open Go Go.RowKit
theorem ifew_any (fs : List Fun) (b : Option Addr) (l cp : Nat) (c : Cx) (a : Option Addr) (len cap : Nat) (sd : Int) (ts : List Tb) (w : World) (hP : FnsAt w b l cp fs) (hT : TabsAt w a len cap ts) :
    Calls Tryd.prog 10 #[.agg #[.slice b l cp], envV c (.slice a len cap) sd] w fun e w' => e = .returned (.bool (fewP fs && fewTs ts)) ∧ Below w.heap.size w w' := by
  obtain ⟨c0, c1, c2, c3⟩ := c
  have hb : Below w.heap.size w ((w.alloc (.cells #[.slice b l cp] 24)).alloc (.cells #[.int .u32 c0, .int .u32 c1, .int .u32 c2, .int .u32 c3, .slice a len cap, .int .u32 sd] 29)) := box2 (Below.refl _ _) (Nat.le_refl _) _ _
  have cP := pfew_any b l cp fs _ (hP.below hb)
  have HB := Lib.hid hb
  have HT := Lib.hid hT
  have hBE : Box ((w.alloc (.cells #[.slice b l cp] 24)).alloc (.cells #[.int .u32 c0, .int .u32 c1, .int .u32 c2, .int .u32 c3, .slice a len cap, .int .u32 sd] 29)) (w.heap.size + 1) 29 #[.int .u32 c0, .int .u32 c1, .int .u32 c2, .int .u32 c3, .slice a len cap, .int .u32 sd] := by
    have := Box.new (w.alloc (.cells #[.slice b l cp] 24)) 29 #[.int .u32 c0, .int .u32 c1, .int .u32 c2, .int .u32 c3, .slice a len cap, .int .u32 sd]
    rwa [show (w.alloc (.cells #[.slice b l cp] 24)).heap.size = w.heap.size + 1 by simp] at this
  have HBE := Lib.hid hBE
  clear hb hP hT hBE
  rcases hf : fewP fs with _ | _
  · rw [hf] at cP
    go_enter Tryd.func10, Tryd.ntmps10
    go_wp2_with fail
    refine cP.mono ?_
    rintro e1 w1 ⟨rfl, h1⟩
    have H1 : Hid (Below w.heap.size w w1) := Lib.hid (HB.out.trans (h1.mono HB.out.size))
    clear cP h1
    go_wp2
    go_ret
    exact ⟨rfl, H1.out⟩
  · rw [hf] at cP
    go_enter Tryd.func10, Tryd.ntmps10
    go_wp2_with fail
    refine cP.mono ?_
    rintro e1 w1 ⟨rfl, h1⟩
    have h1' := h1
    have H1 : Hid (Below w.heap.size w w1) := Lib.hid (HB.out.trans (h1'.mono HB.out.size))
    have q4 : w1.cell? ⟨w.heap.size + 1, 4, none⟩ = some (.slice a len cap) := (HBE.out.later h1').cell rfl
    have cF := few_any a len cap ts w1 (HT.out.below H1.out)
    clear cP h1 h1'
    go_wp2_with fail
    refine cF.mono ?_
    rintro e2 w2 ⟨rfl, h2⟩
    have H2 : Hid (Below w.heap.size w w2) := Lib.hid (by
      first
      | (subst h2; exact H1.out)
      | exact H1.out.trans (h2.mono H1.out.size)
      | exact H1.out.trans ((below_of_quiet h2).mono H1.out.size))
    clear cF h2 q4
    go_wp2
    go_ret
    exact ⟨rfl, H2.out⟩
/- a variable that holds what a run came to -/
def Vn (w W : World) (T : Nat) (q : Rn) (V : Value) : Prop := Below w.heap.size w W ∧ Box W T 34 (ranA q V) ∧ w.heap.size ≤ T ∧ TabsI W w.heap.size V q.2.1.2.1 ∧ okEv q.2.1
theorem Vn.later {w W W' : World} {T : Nat} {q : Rn} {V : Value} (h : Vn w W T q V) (hb : Below W.heap.size W W') : Vn w W' T q V :=
  ⟨h.1.trans (hb.mono h.1.size), h.2.1.later hb, h.2.2.1, h.2.2.2.1.below hb, h.2.2.2.2⟩
abbrev zeroRan : Array Value := #[.int .u32 0, .int .u32 0, .int .u32 0, .int .u32 0, .int .u32 0, .slice none 0 0, .int .u32 0, .int .i64 0, .int .i64 0]
theorem new_ran (W : World) (cs : Array Value) : ∃ W', (W.alloc (.cells #[.int .u32 0, .int .u32 0, .int .u32 0, .int .u32 0, .int .u32 0, .slice none 0 0, .int .u32 0, .int .i64 0, .int .i64 0] 34)).setRow W.heap.size cs = W' ∧ Below W.heap.size W W' ∧ Box W' W.heap.size 34 cs ∧ W'.heap.size = W.heap.size + 1 :=
  ⟨_, rfl, below_setRow ((Below.refl _ _).alloc (Nat.le_refl _) _) (Nat.le_refl _) _, setRow_heap _ _ _ _ _ _ (Box.new W _ _), by simp [World.setRow]⟩
theorem Vn.new {w W W' W2 : World} {q : Rn} {V : Value} (h : Below w.heap.size w W) (hb : Below W.heap.size W W') (hT : TabsI W' W.heap.size V q.2.1.2.1) (ho : okEv q.2.1) (h2 : Below W'.heap.size W' W2) (hB : Box W2 W'.heap.size 34 (ranA q V)) : Vn w W2 W'.heap.size q V :=
  ⟨(h.trans (hb.mono h.size)).trans (h2.mono (Nat.le_trans h.size hb.size)), hB, Nat.le_trans h.size hb.size, (hT.low h.size).below h2, ho⟩
def exC7 : List I := [(0, 0, 0, 0, false, 0, 5), (7, 0, 0, 0, false, 0, 0)]
abbrev exA7 : Array Value := #[.int .i64 0, .int .i64 0, .int .i64 0, .int .i64 0, .bool false, .int .i64 0, .int .u32 5, .int .i64 7, .int .i64 0, .int .i64 0, .int .i64 0, .bool false, .int .i64 0, .int .u32 0]
theorem exC7_at {W : World} {g : Nat} {t : TypeId} (h : Box W g t exA7) : CodeAt W (some ⟨g, 0, none⟩) 2 2 exC7 := by
  refine ⟨rfl, Nat.le_refl _, by unfold maxLen; omega, fun i hi => ?_, .inr ⟨_, rfl, fun k hk => ?_⟩⟩
  · simp only [exC7, List.mem_cons, List.not_mem_nil, or_false] at hi
    rcases hi with rfl | rfl <;> exact ⟨by decide, by decide⟩
  · rw [addr_add]
    match k, hk with
    | 0, _ => exact ⟨h.cell rfl, h.cell rfl, h.cell rfl, h.cell rfl, h.cell rfl, h.cell rfl, h.cell rfl⟩
    | 1, _ => exact ⟨h.cell rfl, h.cell rfl, h.cell rfl, h.cell rfl, h.cell rfl, h.cell rfl, h.cell rfl⟩
theorem exP7_at {W : World} {g : Nat} {t : TypeId} {b : Option Addr} {l cp : Nat} {c : List I} (h : Box W g t #[.int .i64 0, .slice b l cp]) (hc : CodeAt W b l cp c) : FnsAt W (some ⟨g, 0, none⟩) 1 1 [(0, c)] := by
  refine ⟨rfl, Nat.le_refl _, by unfold maxLen; omega, .inr ⟨_, rfl, fun k hk => ?_⟩⟩
  obtain rfl : k = 0 := by omega
  rw [addr_add]
  exact ⟨h.cell rfl, b, l, cp, h.cell rfl, hc⟩
theorem zeroEv_ok : okEv zeroEv := ⟨⟨by simp [zeroEv], fun t ht => by simp [zeroEv] at ht⟩, isW_zero, isW_zero, isW_zero, isW_zero, isW_zero⟩
theorem ex_run9 : callI [(0, exC7)] 0 (((0, 0, 0, 0), [], 0) : Ev) 9 [] = (5, (((0, 0, 0, 0), [], 0) : Ev), 2, 0) := by kernel_rfl
theorem ex_run1 : callI [(0, exC7)] 0 (((0, 0, 0, 0), [], 0) : Ev) 1 [] = (0, (((0, 0, 0, 0), [], 0) : Ev), 1, 2) := by kernel_rfl
theorem tabs_zero (w : World) : TabsAt w none 0 0 ([] : List Tb) := ⟨rfl, Nat.le_refl _, Nat.zero_le _, .inl rfl⟩
theorem ex_start (w : World) : ∃ W3, ((w.alloc (.cells exA7 50)).alloc (.cells #[.int .i64 0, .slice (some ⟨w.heap.size, 0, none⟩) 2 2] 47)).alloc (.cells #[.slice (some ⟨w.heap.size + 1, 0, none⟩) 1 1] 24) = W3 ∧ Below w.heap.size w W3 ∧ FnsAt W3 (some ⟨w.heap.size + 1, 0, none⟩) 1 1 [(0, exC7)] ∧ Box W3 (w.heap.size + 1 + 1) 24 #[.slice (some ⟨w.heap.size + 1, 0, none⟩) 1 1] := by
  refine ⟨_, rfl, (box2 (Below.refl _ _) (Nat.le_refl _) _ _).alloc (by simp; omega) _, ?_, ?_⟩
  · have h1 := Box.new (w.alloc (.cells exA7 50)) 47 #[.int .i64 0, .slice (some ⟨w.heap.size, 0, none⟩) 2 2]
    rw [show (w.alloc (.cells exA7 50)).heap.size = w.heap.size + 1 by simp] at h1
    exact exP7_at (h1.alloc _) (exC7_at (((Box.new w 50 exA7).alloc _).alloc _))
  · have h1 := Box.new ((w.alloc (.cells exA7 50)).alloc (.cells #[.int .i64 0, .slice (some ⟨w.heap.size, 0, none⟩) 2 2] 47)) 24 #[.slice (some ⟨w.heap.size + 1, 0, none⟩) 1 1]
    rwa [show ((w.alloc (.cells exA7 50)).alloc (.cells #[.int .i64 0, .slice (some ⟨w.heap.size, 0, none⟩) 2 2] 47)).heap.size = w.heap.size + 1 + 1 by simp] at h1
set_option maxRecDepth 100000 in
set_option maxHeartbeats 8000000 in
theorem iawake_any (w : World) (hR : RowsIn w) : Calls Tryd.prog 9 #[] w fun e w' => e = .returned (.bool true) ∧ Below w.heap.size w w' := by
  obtain ⟨W3, hW3, hb3, hP3, hBP⟩ := ex_start w
  have p0 : W3.cell? ⟨w.heap.size + 1 + 1, 0, none⟩ = some (.slice (some ⟨w.heap.size + 1, 0, none⟩) 1 1) := hBP.cell rfl
  have c1 := irun_any [(0, exC7)] (some ⟨w.heap.size + 1, 0, none⟩) 1 1 (((0, 0, 0, 0), [], 0) : Ev) none 0 0 9 W3 (hR.later hb3) hP3 (tabs_zero W3) zeroEv_ok
  rw [ex_run9] at c1
  have HP3 := Lib.hid hP3
  have HBP := Lib.hid hBP
  have HB3 := Lib.hid hb3
  have HRw := Lib.hid hR
  clear hR hb3 hP3 hBP
  go_enter Tryd.func9, Tryd.ntmps9
  go_wp2_with fail
  refine c1.mono ?_
  intro e1 w1 h1
  obtain ⟨b1, cp1, he1, hb1, hT1, _, _⟩ := h1.form
  simp only [ranA, List.length_nil] at he1
  subst he1
  have HB1 := Lib.hid (HB3.out.trans (hb1.mono HB3.out.size))
  have HP1 := Lib.hid (HP3.out.below hb1)
  have HBP1 := Lib.hid (HBP.out.later hb1)
  clear c1 h1 hb1 hT1 hW3 p0
  obtain ⟨W4, hW4, hb4, hV4, _⟩ := new_ran w1 #[.int .u32 5, .int .u32 0, .int .u32 0, .int .u32 0, .int .u32 0, .slice b1 0 cp1, .int .u32 0, .int .i64 2, .int .i64 0]
  have HV4 := Lib.hid hV4
  have HB4 := Lib.hid (HB1.out.trans (hb4.mono HB1.out.size))
  have HP4 := Lib.hid (HP1.out.below hb4)
  have HBP4 := Lib.hid (HBP1.out.later hb4)
  have p0 : W4.cell? ⟨w.heap.size + 1 + 1, 0, none⟩ = some (.slice (some ⟨w.heap.size + 1, 0, none⟩) 1 1) := HBP4.out.cell rfl
  have c2 := irun_any [(0, exC7)] (some ⟨w.heap.size + 1, 0, none⟩) 1 1 (((0, 0, 0, 0), [], 0) : Ev) none 0 0 1 W4 (HRw.out.later HB4.out) HP4.out (tabs_zero W4) zeroEv_ok
  rw [ex_run1] at c2
  clear hb4 hV4
  go_wp2_with (refine wpList_store_row rfl 34 _ _ rfl w1.heap.size _ rfl rfl 34 _ (Box.new w1 34 _) (by kernel_rfl) rfl (by simp [Value.oneCell']) ?_)
  refine c2.mono ?_
  intro e2 w2 h2
  obtain ⟨b2, cp2, he2, hb2, hT2, _, _⟩ := h2.form
  simp only [ranA, List.length_nil] at he2
  subst he2
  have HB2 := Lib.hid (HB4.out.trans (hb2.mono HB4.out.size))
  have HV2 := Lib.hid (HV4.out.later hb2)
  obtain ⟨W5, hW5, hb5, hU5, _⟩ := new_ran w2 #[.int .u32 0, .int .u32 0, .int .u32 0, .int .u32 0, .int .u32 0, .slice b2 0 cp2, .int .u32 0, .int .i64 1, .int .i64 2]
  have HB5 := Lib.hid (HB2.out.trans (hb5.mono HB2.out.size))
  have hV5 := HV2.out.later hb5
  have v0 : W5.cell? ⟨w1.heap.size, 0, none⟩ = some (.int .u32 5) := hV5.cell rfl
  have v7 : W5.cell? ⟨w1.heap.size, 7, none⟩ = some (.int .i64 2) := hV5.cell rfl
  have v8 : W5.cell? ⟨w1.heap.size, 8, none⟩ = some (.int .i64 0) := hV5.cell rfl
  have u7 : W5.cell? ⟨w2.heap.size, 7, none⟩ = some (.int .i64 1) := hU5.cell rfl
  have u8 : W5.cell? ⟨w2.heap.size, 8, none⟩ = some (.int .i64 2) := hU5.cell rfl
  clear c2 h2 hb2 hT2 hW4 p0 hb5 hV5 hU5
  go_wp2_with (refine wpList_store_row rfl 34 _ _ rfl w2.heap.size _ rfl rfl 34 _ (Box.new w2 34 _) (by kernel_rfl) rfl (by simp [Value.oneCell']) ?_)
  go_ret
  exact ⟨rfl, HB5.out⟩
end Go.Proofs.YtilddlgcfbefiaaDoor

/-
  What the seventh reference's Same says of two runs: whether they are the same.
-/
namespace Go.Proofs.YtilddlgcfbefiaaDoor
set_option linter.unusedSimpArgs false
set_option linter.unusedVariables false
open Go Go.RowKit
set_option maxRecDepth 100000 in
set_option maxHeartbeats 8000000 in
theorem isame_any (q r : Rn) (a : Option Addr) (la ca : Nat) (b : Option Addr) (lb cb : Nat) (w : World) (h : TabsAt w a la ca q.2.1.2.1) (h' : TabsAt w b lb cb r.2.1.2.1) :
    Calls Tryd.prog 12 #[.agg (ranA q (.slice a la ca)), .agg (ranA r (.slice b lb cb))] w fun e w' => e = .returned (.bool (decide (q = r))) ∧ Below w.heap.size w w' := by
  obtain ⟨cr, ⟨⟨c0, c1, c2, c3⟩, ts, cs⟩, cu, ce⟩ := q
  obtain ⟨dr, ⟨⟨d0, d1, d2, d3⟩, us, ds⟩, du, de⟩ := r
  obtain ⟨R, hR⟩ : ∃ R, decide (((cr, ((c0, c1, c2, c3), ts, cs), cu, ce) : Rn) = (dr, ((d0, d1, d2, d3), us, ds), du, de)) = R := ⟨_, rfl⟩
  rw [hR]
  have HR := Lib.hid hR
  clear hR
  simp only at h h'
  have hb : Below w.heap.size w ((w.alloc (.cells #[.int .u32 cr, .int .u32 c0, .int .u32 c1, .int .u32 c2, .int .u32 c3, .slice a la ca, .int .u32 cs, .int .i64 cu, .int .i64 ce] 34)).alloc (.cells #[.int .u32 dr, .int .u32 d0, .int .u32 d1, .int .u32 d2, .int .u32 d3, .slice b lb cb, .int .u32 ds, .int .i64 du, .int .i64 de] 34)) := box2 (Below.refl _ _) (Nat.le_refl _) _ _
  have hB1 := (Box.new w 34 #[.int .u32 cr, .int .u32 c0, .int .u32 c1, .int .u32 c2, .int .u32 c3, .slice a la ca, .int .u32 cs, .int .i64 cu, .int .i64 ce]).alloc (.cells #[.int .u32 dr, .int .u32 d0, .int .u32 d1, .int .u32 d2, .int .u32 d3, .slice b lb cb, .int .u32 ds, .int .i64 du, .int .i64 de] 34)
  have hB2 := Box.new (w.alloc (.cells #[.int .u32 cr, .int .u32 c0, .int .u32 c1, .int .u32 c2, .int .u32 c3, .slice a la ca, .int .u32 cs, .int .i64 cu, .int .i64 ce] 34)) 34 #[.int .u32 dr, .int .u32 d0, .int .u32 d1, .int .u32 d2, .int .u32 d3, .slice b lb cb, .int .u32 ds, .int .i64 du, .int .i64 de]
  rw [show (w.alloc (.cells #[.int .u32 cr, .int .u32 c0, .int .u32 c1, .int .u32 c2, .int .u32 c3, .slice a la ca, .int .u32 cs, .int .i64 cu, .int .i64 ce] 34)).heap.size = w.heap.size + 1 by simp] at hB2
  have hT := h.below hb
  have hU := h'.below hb
  obtain ⟨W, hW⟩ : ∃ W, (w.alloc (.cells #[.int .u32 cr, .int .u32 c0, .int .u32 c1, .int .u32 c2, .int .u32 c3, .slice a la ca, .int .u32 cs, .int .i64 cu, .int .i64 ce] 34)).alloc (.cells #[.int .u32 dr, .int .u32 d0, .int .u32 d1, .int .u32 d2, .int .u32 d3, .slice b lb cb, .int .u32 ds, .int .i64 du, .int .i64 de] 34) = W := ⟨_, rfl⟩
  rw [hW] at hb hB1 hB2 hT hU
  have p0 : W.cell? ⟨w.heap.size, 0, none⟩ = some (.int .u32 cr) := hB1.cell rfl
  have p1 : W.cell? ⟨w.heap.size, 1, none⟩ = some (.int .u32 c0) := hB1.cell rfl
  have p2 : W.cell? ⟨w.heap.size, 2, none⟩ = some (.int .u32 c1) := hB1.cell rfl
  have p3 : W.cell? ⟨w.heap.size, 3, none⟩ = some (.int .u32 c2) := hB1.cell rfl
  have p4 : W.cell? ⟨w.heap.size, 4, none⟩ = some (.int .u32 c3) := hB1.cell rfl
  have p5 : W.cell? ⟨w.heap.size, 5, none⟩ = some (.slice a la ca) := hB1.cell rfl
  have p6 : W.cell? ⟨w.heap.size, 6, none⟩ = some (.int .u32 cs) := hB1.cell rfl
  have p7 : W.cell? ⟨w.heap.size, 7, none⟩ = some (.int .i64 cu) := hB1.cell rfl
  have p8 : W.cell? ⟨w.heap.size, 8, none⟩ = some (.int .i64 ce) := hB1.cell rfl
  have q0 : W.cell? ⟨w.heap.size + 1, 0, none⟩ = some (.int .u32 dr) := hB2.cell rfl
  have q1 : W.cell? ⟨w.heap.size + 1, 1, none⟩ = some (.int .u32 d0) := hB2.cell rfl
  have q2 : W.cell? ⟨w.heap.size + 1, 2, none⟩ = some (.int .u32 d1) := hB2.cell rfl
  have q3 : W.cell? ⟨w.heap.size + 1, 3, none⟩ = some (.int .u32 d2) := hB2.cell rfl
  have q4 : W.cell? ⟨w.heap.size + 1, 4, none⟩ = some (.int .u32 d3) := hB2.cell rfl
  have q5 : W.cell? ⟨w.heap.size + 1, 5, none⟩ = some (.slice b lb cb) := hB2.cell rfl
  have q6 : W.cell? ⟨w.heap.size + 1, 6, none⟩ = some (.int .u32 ds) := hB2.cell rfl
  have q7 : W.cell? ⟨w.heap.size + 1, 7, none⟩ = some (.int .i64 du) := hB2.cell rfl
  have q8 : W.cell? ⟨w.heap.size + 1, 8, none⟩ = some (.int .i64 de) := hB2.cell rfl
  have k1 := esame_any (c0, c1, c2, c3) a la ca cs ts (d0, d1, d2, d3) b lb cb ds us W hT hU
  obtain ⟨Q, hQ⟩ : ∃ Q, decide ((((c0, c1, c2, c3), ts, cs) : Ev) = ((d0, d1, d2, d3), us, ds)) = Q := ⟨_, rfl⟩
  rw [hQ] at k1
  have HQ := Lib.hid hQ
  have HB := Lib.hid hb
  have HB1 := Lib.hid hB1
  have HB2 := Lib.hid hB2
  clear hQ h h' hb hB1 hB2 hT hU
  go_enter Tryd.func12, Tryd.ntmps12
  go_wp2_with fail
  clear hW p0 q0 p1 q1 p2 q2 p3 q3 p4 q4 p5 q5 p6 q6 p7 q7 p8 q8
  refine k1.mono ?_
  rintro e m1 ⟨rfl, hb1⟩
  clear k1
  have HB' := Lib.hid (HB.out.trans (hb1.mono HB.out.size))
  have hB1 := HB1.out.later hb1
  have hB2 := HB2.out.later hb1
  have p0 : m1.cell? ⟨w.heap.size, 0, none⟩ = some (.int .u32 cr) := hB1.cell rfl
  have p1 : m1.cell? ⟨w.heap.size, 1, none⟩ = some (.int .u32 c0) := hB1.cell rfl
  have p2 : m1.cell? ⟨w.heap.size, 2, none⟩ = some (.int .u32 c1) := hB1.cell rfl
  have p3 : m1.cell? ⟨w.heap.size, 3, none⟩ = some (.int .u32 c2) := hB1.cell rfl
  have p4 : m1.cell? ⟨w.heap.size, 4, none⟩ = some (.int .u32 c3) := hB1.cell rfl
  have p5 : m1.cell? ⟨w.heap.size, 5, none⟩ = some (.slice a la ca) := hB1.cell rfl
  have p6 : m1.cell? ⟨w.heap.size, 6, none⟩ = some (.int .u32 cs) := hB1.cell rfl
  have p7 : m1.cell? ⟨w.heap.size, 7, none⟩ = some (.int .i64 cu) := hB1.cell rfl
  have p8 : m1.cell? ⟨w.heap.size, 8, none⟩ = some (.int .i64 ce) := hB1.cell rfl
  have q0 : m1.cell? ⟨w.heap.size + 1, 0, none⟩ = some (.int .u32 dr) := hB2.cell rfl
  have q1 : m1.cell? ⟨w.heap.size + 1, 1, none⟩ = some (.int .u32 d0) := hB2.cell rfl
  have q2 : m1.cell? ⟨w.heap.size + 1, 2, none⟩ = some (.int .u32 d1) := hB2.cell rfl
  have q3 : m1.cell? ⟨w.heap.size + 1, 3, none⟩ = some (.int .u32 d2) := hB2.cell rfl
  have q4 : m1.cell? ⟨w.heap.size + 1, 4, none⟩ = some (.int .u32 d3) := hB2.cell rfl
  have q5 : m1.cell? ⟨w.heap.size + 1, 5, none⟩ = some (.slice b lb cb) := hB2.cell rfl
  have q6 : m1.cell? ⟨w.heap.size + 1, 6, none⟩ = some (.int .u32 ds) := hB2.cell rfl
  have q7 : m1.cell? ⟨w.heap.size + 1, 7, none⟩ = some (.int .i64 du) := hB2.cell rfl
  have q8 : m1.cell? ⟨w.heap.size + 1, 8, none⟩ = some (.int .i64 de) := hB2.cell rfl
  clear hb1 hB1 hB2
  cases Q
  · have HN : Hid (R = false) := Lib.hid (by
      rw [← HR.out]
      refine decide_eq_false (fun e => ?_)
      simp only [Prod.mk.injEq] at e
      exact of_decide_eq_false HQ.out (by rw [Prod.mk.injEq, Prod.mk.injEq, Prod.mk.injEq, Prod.mk.injEq, Prod.mk.injEq]; exact e.2.1))
    go_wp2
    go_ret
    exact ⟨by rw [HN.out]; rfl, HB'.out⟩
  rcases hr : (cr == dr) with _ | _
  · have HN : Hid (R = false) := Lib.hid (by
      rw [← HR.out]
      refine decide_eq_false (fun e => ?_)
      simp only [Prod.mk.injEq] at e
      rw [e.1] at hr
      simp at hr)
    go_wp2
    go_ret
    exact ⟨by rw [HN.out]; rfl, HB'.out⟩
  rcases hu : (cu == du) with _ | _
  · have HN : Hid (R = false) := Lib.hid (by
      rw [← HR.out]
      refine decide_eq_false (fun e => ?_)
      simp only [Prod.mk.injEq] at e
      rw [e.2.2.1] at hu
      simp at hu)
    go_wp2
    go_ret
    exact ⟨by rw [HN.out]; rfl, HB'.out⟩
  rcases he : (ce == de) with _ | _
  · have HN : Hid (R = false) := Lib.hid (by
      rw [← HR.out]
      refine decide_eq_false (fun e => ?_)
      simp only [Prod.mk.injEq] at e
      rw [e.2.2.2] at he
      simp at he)
    go_wp2
    go_ret
    exact ⟨by rw [HN.out]; rfl, HB'.out⟩
  have HN : Hid (R = true) := Lib.hid (by
    rw [← HR.out]
    have h0 : cr = dr := by simpa using hr
    have h1 : cu = du := by simpa using hu
    have h2 : ce = de := by simpa using he
    have h5 := of_decide_eq_true HQ.out
    exact decide_eq_true (by rw [h0, h1, h2, h5]))
  go_wp2
  go_ret
  exact ⟨by rw [HN.out]; rfl, HB'.out⟩
end Go.Proofs.YtilddlgcfbefiaaDoor

/-
  Ahead of the laws: what stands when a law begins; a run in a variable.
-/
namespace Go.Proofs.YtilddlgcfbefiaaDoor
set_option linter.unusedSimpArgs false
set_option linter.unusedVariables false
open Go Go.RowKit
theorem few_ofI {ts : List Tb} (h : fewTs ts = true) : fewL ts := by
  simp only [fewTs, Bool.and_eq_true, decide_eq_true_iff, List.all_eq_true] at h
  refine ⟨by omega, fun t ht => ?_⟩
  have := h.2 t ht
  simp only [fewT, Bool.and_eq_true, decide_eq_true_iff, List.all_eq_true] at this
  exact ⟨by omega, fun e he => by have := this.2 e he; omega⟩
theorem ok_ofI {c : Cx} {ts : List Tb} {sd : Int} (h : fewTs ts = true) (hs : isW sd) (hc : isW c.1 ∧ isW c.2.1 ∧ isW c.2.2.1 ∧ isW c.2.2.2) : okEv (c, ts, sd) := ⟨few_ofI h, hs, hc⟩
/- the law's two arguments in variables: a program, an environment -/
structure Ar (w W : World) (P E : Nat) (b : Option Addr) (l cp : Nat) (fs : List Fun) (c : Cx) (a : Option Addr) (len cap : Nat) (sd : Int) (ts : List Tb) : Prop where
  below : Below w.heap.size w W
  rows : RowsIn W
  prog : Box W P 24 #[.slice b l cp]
  env : Box W E 29 #[.int .u32 c.1, .int .u32 c.2.1, .int .u32 c.2.2.1, .int .u32 c.2.2.2, .slice a len cap, .int .u32 sd]
  fns : FnsAt W b l cp fs
  tabs : TabsAt W a len cap ts
section
variable {w W W' : World} {P E : Nat} {b : Option Addr} {l cp : Nat} {fs : List Fun} {c : Cx} {a : Option Addr} {len cap : Nat} {sd : Int} {ts : List Tb}
theorem Ar.later (h : Ar w W P E b l cp fs c a len cap sd ts) (hb : Below W.heap.size W W') : Ar w W' P E b l cp fs c a len cap sd ts :=
  ⟨h.below.trans (hb.mono h.below.size), h.rows.later hb, h.prog.later hb, h.env.later hb, h.fns.below hb, h.tabs.below hb⟩
theorem Ar.begin (c : Cx) (sd : Int) (hr : RowsIn w) (hP : FnsAt w b l cp fs) (hT : TabsAt w a len cap ts) : ∃ W, (w.alloc (.cells #[.slice b l cp] 24)).alloc (.cells #[.int .u32 c.1, .int .u32 c.2.1, .int .u32 c.2.2.1, .int .u32 c.2.2.2, .slice a len cap, .int .u32 sd] 29) = W ∧ Ar w W w.heap.size (w.heap.size + 1) b l cp fs c a len cap sd ts := by
  have hb : Below w.heap.size w ((w.alloc (.cells #[.slice b l cp] 24)).alloc (.cells #[.int .u32 c.1, .int .u32 c.2.1, .int .u32 c.2.2.1, .int .u32 c.2.2.2, .slice a len cap, .int .u32 sd] 29)) := box2 (Below.refl _ _) (Nat.le_refl _) _ _
  refine ⟨_, rfl, hb, hr.later hb, (Box.new w _ _).alloc _, ?_, hP.below hb, hT.below hb⟩
  have := Box.new (w.alloc (.cells #[.slice b l cp] 24)) 29 #[.int .u32 c.1, .int .u32 c.2.1, .int .u32 c.2.2.1, .int .u32 c.2.2.2, .slice a len cap, .int .u32 sd]
  rwa [show (w.alloc (.cells #[.slice b l cp] 24)).heap.size = w.heap.size + 1 by simp] at this
theorem Ar.cells (h : Ar w W P E b l cp fs c a len cap sd ts) : W.cell? ⟨P, 0, none⟩ = some (.slice b l cp) ∧ W.cell? ⟨E, 0, none⟩ = some (.int .u32 c.1) ∧ W.cell? ⟨E, 1, none⟩ = some (.int .u32 c.2.1) ∧ W.cell? ⟨E, 2, none⟩ = some (.int .u32 c.2.2.1) ∧ W.cell? ⟨E, 3, none⟩ = some (.int .u32 c.2.2.2) ∧ W.cell? ⟨E, 4, none⟩ = some (.slice a len cap) ∧ W.cell? ⟨E, 5, none⟩ = some (.int .u32 sd) :=
  ⟨h.prog.cell rfl, h.env.cell rfl, h.env.cell rfl, h.env.cell rfl, h.env.cell rfl, h.env.cell rfl, h.env.cell rfl⟩
end
theorem Vn.cells {w W : World} {T : Nat} {q : Rn} {V : Value} (h : Vn w W T q V) : W.cell? ⟨T, 0, none⟩ = some (.int .u32 q.1) ∧ W.cell? ⟨T, 1, none⟩ = some (.int .u32 q.2.1.1.1) ∧ W.cell? ⟨T, 2, none⟩ = some (.int .u32 q.2.1.1.2.1) ∧ W.cell? ⟨T, 3, none⟩ = some (.int .u32 q.2.1.1.2.2.1) ∧ W.cell? ⟨T, 4, none⟩ = some (.int .u32 q.2.1.1.2.2.2) ∧ W.cell? ⟨T, 5, none⟩ = some V ∧ W.cell? ⟨T, 6, none⟩ = some (.int .u32 q.2.1.2.2) ∧ W.cell? ⟨T, 7, none⟩ = some (.int .i64 q.2.2.1) ∧ W.cell? ⟨T, 8, none⟩ = some (.int .i64 q.2.2.2) :=
  ⟨h.2.1.cell rfl, h.2.1.cell rfl, h.2.1.cell rfl, h.2.1.cell rfl, h.2.1.cell rfl, h.2.1.cell rfl, h.2.1.cell rfl, h.2.1.cell rfl, h.2.1.cell rfl⟩
end Go.Proofs.YtilddlgcfbefiaaDoor

