/-
  Texts that the laws of this layer stand on, one behind the other.
-/
import Derived.Test.YtilddlgcfbefiaaDoorGjf
import Derived.Test.YtilddlgcfbefiaaDoorGia
import Derived.Test.YtilddlgcfbefiaaDoorGip
import Derived.Test.YtilddlgcfbefiaaDoorGcc
/-
  What the interpreter's Call returns, as a contract over the translated program.
-/
namespace Go.Proofs.YtilddlgcfbefiaaDoor
set_option linter.unusedSimpArgs false
set_option linter.unusedVariables false
open Go Go.RowKit
abbrev ranA (q : Rn) (V : Value) : Array Value := #[.int .u32 q.1, .int .u32 q.2.1.1.1, .int .u32 q.2.1.1.2.1, .int .u32 q.2.1.1.2.2.1, .int .u32 q.2.1.1.2.2.2, V, .int .u32 q.2.1.2.2, .int .i64 q.2.2.1, .int .i64 q.2.2.2]
def RanPost (q : Rn) (w : World) (en : Ending) (w' : World) : Prop := ∃ V, en = .returned (.agg (ranA q V)) ∧ Below w.heap.size w w' ∧ TabsI w' w.heap.size V q.2.1.2.1 ∧ okEv q.2.1 ∧ isW q.1
theorem call_start (b : Option Addr) (l cp : Nat) (c : Cx) (a : Option Addr) (len cap : Nat) (sd : Int) (w : World) : ∃ W3, ((w.alloc (.cells #[.slice b l cp] 24)).alloc (.cells #[.int .u32 c.1, .int .u32 c.2.1, .int .u32 c.2.2.1, .int .u32 c.2.2.2, .slice a len cap, .int .u32 sd] 29)).alloc (.cells #[.int .u32 0, .int .u32 0, .int .u32 0, .int .u32 0, .int .u32 0, .slice none 0 0, .int .u32 0, .int .i64 0, .int .i64 0] 34) = W3 ∧ W3.heap.size = w.heap.size + 1 + 1 + 1 ∧ Below w.heap.size w W3 ∧
    Box W3 w.heap.size 24 #[.slice b l cp] ∧ Box W3 (w.heap.size + 1) 29 #[.int .u32 c.1, .int .u32 c.2.1, .int .u32 c.2.2.1, .int .u32 c.2.2.2, .slice a len cap, .int .u32 sd] ∧ Box W3 (w.heap.size + 1 + 1) 34 #[.int .u32 0, .int .u32 0, .int .u32 0, .int .u32 0, .int .u32 0, .slice none 0 0, .int .u32 0, .int .i64 0, .int .i64 0] := by
  refine ⟨_, rfl, by simp, (box2 (Below.refl _ _) (Nat.le_refl _) _ _).alloc (by simp; omega) _, ((Box.new w _ _).alloc _).alloc _, ?_, ?_⟩
  · have := (Box.new (w.alloc (.cells #[.slice b l cp] 24)) 29 #[.int .u32 c.1, .int .u32 c.2.1, .int .u32 c.2.2.1, .int .u32 c.2.2.2, .slice a len cap, .int .u32 sd]).alloc (.cells #[.int .u32 0, .int .u32 0, .int .u32 0, .int .u32 0, .int .u32 0, .slice none 0 0, .int .u32 0, .int .i64 0, .int .i64 0] 34)
    rwa [show (w.alloc (.cells #[.slice b l cp] 24)).heap.size = w.heap.size + 1 by simp] at this
  · have := Box.new ((w.alloc (.cells #[.slice b l cp] 24)).alloc (.cells #[.int .u32 c.1, .int .u32 c.2.1, .int .u32 c.2.2.1, .int .u32 c.2.2.2, .slice a len cap, .int .u32 sd] 29)) 34 #[.int .u32 0, .int .u32 0, .int .u32 0, .int .u32 0, .int .u32 0, .slice none 0 0, .int .u32 0, .int .i64 0, .int .i64 0]
    rwa [show ((w.alloc (.cells #[.slice b l cp] 24)).alloc (.cells #[.int .u32 c.1, .int .u32 c.2.1, .int .u32 c.2.2.1, .int .u32 c.2.2.2, .slice a len cap, .int .u32 sd] 29)).heap.size = w.heap.size + 1 + 1 by simp] at this
theorem fns_good {w : World} {b : Option Addr} {l cp : Nat} {fs : List Fun} (h : FnsAt w b l cp fs) (hm : mayP fs = true) : l ≤ 100 ∧ (∀ k, k < l → 0 ≤ (fs.getD k zeroF).1 ∧ (fs.getD k zeroF).1 ≤ 7) ∧ ∀ k, k < l → (fs.getD k zeroF).2.length ≤ 100 ∧ ∀ i ∈ (fs.getD k zeroF).2, goodI i := by
  obtain ⟨h1, h2, h3, h4⟩ := h
  obtain ⟨g1, g2, g3⟩ := mayP_parts hm
  subst h1
  refine ⟨by omega, fun k hk => ?_, fun k hk => ?_⟩
  · obtain ⟨a1, a2, _⟩ := g3 k hk
    exact ⟨a1, by omega⟩
  · obtain ⟨_, _, _, _, a3, a4⟩ := g3 k hk
    refine ⟨by omega, fun i hi => mayI_good (a4 i hi) ?_⟩
    rcases h4 with h4 | ⟨y, _, hy⟩
    · omega
    · obtain ⟨_, b', l', c', _, hc⟩ := hy k hk
      exact hc.2.2.2.1 i hi
theorem fl_top {fl : Int} (h : ¬ 100000 < fl) : fl ≤ 1000000 := by omega
theorem not_bad {fs : List Fun} {fl : Int} (h1 : mayP fs = true) (h2 : ¬ fl < 0) (h3 : ¬ 100000 < fl) : ¬ (mayP fs = false ∨ fl < 0 ∨ 100000 < fl) := by
  rw [h1]
  simp
  omega
set_option maxRecDepth 100000 in
set_option maxHeartbeats 20000000 in
theorem icallI_any (fs : List Fun) (b : Option Addr) (l cp : Nat) (fn : Int) (e : Ev) (a : Option Addr) (len cap : Nat) (fl : Int) (zs : List Int) (ab : Option Addr) (an ap : Nat) (w : World) (hr : RowsIn w) (hP : FnsAt w b l cp fs) (hT : TabsAt w a len cap e.2.1) (hok : okEv e) (hz : WordsAt w ab an ap zs) :
    Calls Tryd.prog 15 #[.agg #[.slice b l cp], .int .i64 fn, envV e.1 (.slice a len cap) e.2.2, .int .i64 fl, .slice ab an ap] w (RanPost (callI fs fn e fl zs) w) := by
  obtain ⟨⟨c0, c1, c2, c3⟩, ts, sd⟩ := e
  obtain ⟨W3, hW3, hs3, hb3, hBP, hBE, hBR⟩ := call_start b l cp (c0, c1, c2, c3) a len cap sd w
  simp only at hW3 hBE hT
  have p0 : W3.cell? ⟨w.heap.size, 0, none⟩ = some (.slice b l cp) := hBP.cell rfl
  have e0 : W3.cell? ⟨w.heap.size + 1, 0, none⟩ = some (.int .u32 c0) := hBE.cell rfl
  have e1 : W3.cell? ⟨w.heap.size + 1, 1, none⟩ = some (.int .u32 c1) := hBE.cell rfl
  have e2 : W3.cell? ⟨w.heap.size + 1, 2, none⟩ = some (.int .u32 c2) := hBE.cell rfl
  have e3 : W3.cell? ⟨w.heap.size + 1, 3, none⟩ = some (.int .u32 c3) := hBE.cell rfl
  have e4 : W3.cell? ⟨w.heap.size + 1, 4, none⟩ = some (.slice a len cap) := hBE.cell rfl
  have e5 : W3.cell? ⟨w.heap.size + 1, 5, none⟩ = some (.int .u32 sd) := hBE.cell rfl
  have HBP := Lib.hid hBP
  have HBR := Lib.hid hBR
  have HB3 := Lib.hid hb3
  have HT := Lib.hid hT
  have HOK := Lib.hid hok
  have HZ := Lib.hid hz
  have HPs := Lib.hid hP
  have HRw := Lib.hid hr
  clear hr hP hT hok hz hBP hBE hBR hb3
  go_enter Tryd.func15, Tryd.ntmps15
  go_wp2_with fail
  have hts : ts.length ≤ 40 := HOK.out.1.1
  have HFw := Lib.hid HOK.out.1
  clear hW3
  have HS3 := Lib.hid hs3
  clear hs3
  refine wp_region_held_drew (S := (fun w' => w'.cell? ⟨w.heap.size, 0, none⟩ = some (.slice b l cp) ∧ w'.cell? ⟨w.heap.size + 1, 0, none⟩ = some (.int .u32 c0) ∧ w'.cell? ⟨w.heap.size + 1, 1, none⟩ = some (.int .u32 c1) ∧ w'.cell? ⟨w.heap.size + 1, 2, none⟩ = some (.int .u32 c2) ∧ w'.cell? ⟨w.heap.size + 1, 3, none⟩ = some (.int .u32 c3) ∧ w'.cell? ⟨w.heap.size + 1, 4, none⟩ = some (.slice a len cap) ∧ w'.cell? ⟨w.heap.size + 1, 5, none⟩ = some (.int .u32 sd))) (by kernel_rfl) (⟨p0, e0, e1, e2, e3, e4, e5⟩) (fun hHeld => ?_)
  refine wpAnyH_yield (i := 0) (v := ?v0) rfl rfl (by kernel_rfl) (by kernel_rfl) (by kernel_rfl) (fun _ _ _ h => h) (by rfl) ?hy0 hHeld ?rest0
  case hy0 =>
    intro w hSw
    (try dsimp only at hSw)
    go_simp
    try with_reducible rfl
  simp only [Act.put, List.setIfInBounds_toArray, List.set_cons_zero, List.set_cons_succ]
  refine wpAnyH_yield (i := 1) (v := ?v1) rfl rfl (by kernel_rfl) (by kernel_rfl) (by kernel_rfl) (fun _ _ _ h => h) (by rfl) ?hy1 hHeld ?rest1
  case hy1 =>
    intro w hSw
    (try dsimp only at hSw)
    go_simp
    try with_reducible rfl
  simp only [Act.put, List.setIfInBounds_toArray, List.set_cons_zero, List.set_cons_succ]
  refine wpAnyH_yield (i := 2) (v := ?v2) rfl rfl (by kernel_rfl) (by kernel_rfl) (by kernel_rfl) (fun _ _ _ h => h) (by rfl) ?hy2 hHeld ?rest2
  case hy2 =>
    intro w hSw
    (try dsimp only at hSw)
    go_simp
    try with_reducible rfl
  simp only [Act.put, List.setIfInBounds_toArray, List.set_cons_zero, List.set_cons_succ]
  refine wpAnyH_yield (i := 4) (v := ?v4) rfl rfl (by kernel_rfl) (by kernel_rfl) (by kernel_rfl) (fun _ _ _ h => h) (by rfl) ?hy4 hHeld ?rest4
  case hy4 =>
    intro w hSw
    (try dsimp only at hSw)
    go_simp
    try with_reducible rfl
  simp only [Act.put, List.setIfInBounds_toArray, List.set_cons_zero, List.set_cons_succ]
  refine wpAnyH_ready (rs := [3, 6]) (by kernel_rfl) (by simp) ?_
  refine AllReadyH.cons rfl (fun K hK => ?_) ?_
  · go_simp
    refine (iclone_any (c0, c1, c2, c3) a len cap sd ts W3.drew (HT.out.below (HB3.out.drew)) HFw.out).mono ?_
    rintro en4 m4 ⟨V4, rfl, hb4, ht4⟩
    obtain ⟨bV, pV, hV, _⟩ := ht4.at
    subst hV
    have hbA : Below W3.heap.size W3 m4 := ((Below.refl _ _).drew).trans hb4
    have HbA := Lib.hid hbA
    have HtA := Lib.hid ht4
    clear hb4 ht4 hbA
    go_wp2_with fail
    refine hK.out _ _ (⟨(HbA.out.cell (lt_of_cell p0)).trans p0, (HbA.out.cell (lt_of_cell e0)).trans e0, (HbA.out.cell (lt_of_cell e1)).trans e1, (HbA.out.cell (lt_of_cell e2)).trans e2, (HbA.out.cell (lt_of_cell e3)).trans e3, (HbA.out.cell (lt_of_cell e4)).trans e4, (HbA.out.cell (lt_of_cell e5)).trans e5⟩) (fun hHeld => ?_)
    clear hK K
    try simp only [Act.put, List.setIfInBounds_toArray, List.set_cons_zero, List.set_cons_succ]
    refine wpAnyH_yield (i := 5) (v := ?va5) rfl rfl (by kernel_rfl) (by kernel_rfl) (by kernel_rfl) (fun _ _ _ h => h) (by rfl) ?hya5 hHeld ?resta5
    case hya5 =>
      intro w hSw
      (try dsimp only at hSw)
      go_simp
      try with_reducible rfl
    simp only [Act.put, List.setIfInBounds_toArray, List.set_cons_zero, List.set_cons_succ]
    have HbA2 := Lib.hid (HbA.out.trans (((Below.refl _ _).alloc (Nat.le_refl _) (.cells #[.slice none 0 0, .int .u32 0, .int .u32 0, .int .u32 0, .int .u32 0, .slice none 0 0, .int .u32 0, .int .i64 0, .int .i64 0] 68)).mono HbA.out.size) : Below W3.heap.size W3 (m4.alloc (.cells #[.slice none 0 0, .int .u32 0, .int .u32 0, .int .u32 0, .int .u32 0, .slice none 0 0, .int .u32 0, .int .i64 0, .int .i64 0] 68)))
    have HZa : Hid (Box (m4.alloc (.cells #[.slice none 0 0, .int .u32 0, .int .u32 0, .int .u32 0, .int .u32 0, .slice none 0 0, .int .u32 0, .int .i64 0, .int .i64 0] 68)) m4.heap.size 68 _) := Lib.hid (Box.new m4 _ _)
    refine wpAnyH_ready (rs := [6]) (by kernel_rfl) (by simp) ?_
    refine AllReadyH.cons rfl (fun K hK => ?_) AllReadyH.nil
    go_simp
    refine hK.out _ _ (⟨(HbA2.out.cell (lt_of_cell p0)).trans p0, (HbA2.out.cell (lt_of_cell e0)).trans e0, (HbA2.out.cell (lt_of_cell e1)).trans e1, (HbA2.out.cell (lt_of_cell e2)).trans e2, (HbA2.out.cell (lt_of_cell e3)).trans e3, (HbA2.out.cell (lt_of_cell e4)).trans e4, (HbA2.out.cell (lt_of_cell e5)).trans e5⟩) (fun hHeld => ?_)
    clear hK K
    try simp only [Act.put, List.setIfInBounds_toArray, List.set_cons_zero, List.set_cons_succ]
    refine wpAnyH_ready (rs := [7]) (by kernel_rfl) (by simp) ?_
    refine AllReadyH.cons rfl (fun K hK => ?_) AllReadyH.nil
    refine step_row _ (by rfl) 68 _ _ (by rfl) (by rfl) (m4.heap.size) #[.slice b l cp, .int .u32 c0, .int .u32 c1, .int .u32 c2, .int .u32 c3, .slice bV ts.length pV, .int .u32 sd, .int .i64 fl, .int .i64 0] (by rfl) (by rfl) 68 _ HZa.out (by kernel_rfl) rfl (by simp [Value.oneCell']) ?_
    have HbA3 := Lib.hid (below_setRow HbA2.out HbA.out.size #[.slice b l cp, .int .u32 c0, .int .u32 c1, .int .u32 c2, .int .u32 c3, .slice bV ts.length pV, .int .u32 sd, .int .i64 fl, .int .i64 0])
    refine hK.out _ _ (⟨(HbA3.out.cell (lt_of_cell p0)).trans p0, (HbA3.out.cell (lt_of_cell e0)).trans e0, (HbA3.out.cell (lt_of_cell e1)).trans e1, (HbA3.out.cell (lt_of_cell e2)).trans e2, (HbA3.out.cell (lt_of_cell e3)).trans e3, (HbA3.out.cell (lt_of_cell e4)).trans e4, (HbA3.out.cell (lt_of_cell e5)).trans e5⟩) (fun hHeld => ?_)
    clear hK K
    try simp only [Act.put, List.setIfInBounds_toArray, List.set_cons_zero, List.set_cons_succ]
    refine wpAnyH_done (by kernel_rfl) ?_ _
    have HBPx := Lib.hid (HBP.out.later HbA3.out)
    have HResx := Lib.hid (HBR.out.later HbA3.out)
    have HBx := Lib.hid (HB3.out.trans (HbA3.out.mono HB3.out.size))
    have HRunx : Hid (Box ((m4.alloc (.cells #[.slice none 0 0, .int .u32 0, .int .u32 0, .int .u32 0, .int .u32 0, .slice none 0 0, .int .u32 0, .int .i64 0, .int .i64 0] 68)).setRow m4.heap.size #[.slice b l cp, .int .u32 c0, .int .u32 c1, .int .u32 c2, .int .u32 c3, .slice bV ts.length pV, .int .u32 sd, .int .i64 fl, .int .i64 0]) m4.heap.size 68 (RunA (.slice b l cp) ((c0, c1, c2, c3), ts, sd) (.slice bV ts.length pV) fl 0)) := Lib.hid (setRow_heap _ _ _ _ _ _ HZa.out)
    have HTx := Lib.hid (((HtA.out.below (belowA m4 (.cells #[.slice none 0 0, .int .u32 0, .int .u32 0, .int .u32 0, .int .u32 0, .slice none 0 0, .int .u32 0, .int .i64 0, .int .i64 0] 68))).far HZa.out (by decide) (by decide) (by decide) (grownBy_setRow _ _ #[.slice b l cp, .int .u32 c0, .int .u32 c1, .int .u32 c2, .int .u32 c3, .slice bV ts.length pV, .int .u32 sd, .int .i64 fl, .int .i64 0])).low (base' := w.heap.size) HB3.out.size)
    have HRb : Hid (w.heap.size ≤ m4.heap.size) := Lib.hid (Nat.le_trans HB3.out.size HbA.out.size)
    have HRne : Hid (w.heap.size + 1 + 1 ≠ m4.heap.size) := Lib.hid (by have := HbA.out.size; have := HS3.out; omega)
    generalize ((m4.alloc (.cells #[.slice none 0 0, .int .u32 0, .int .u32 0, .int .u32 0, .int .u32 0, .slice none 0 0, .int .u32 0, .int .i64 0, .int .i64 0] 68)).setRow m4.heap.size #[.slice b l cp, .int .u32 c0, .int .u32 c1, .int .u32 c2, .int .u32 c3, .slice bV ts.length pV, .int .u32 sd, .int .i64 fl, .int .i64 0]) = X at HBPx HResx HBx HRunx HTx HbA3 ⊢
    generalize m4.heap.size = r at HRunx HRb HRne ⊢
    clear HbA HtA HbA2 HZa HbA3 hHeld p0 e0 e1 e2 e3 e4 e5 HBP HBR HB3
    have hP0 : X.cell? ⟨w.heap.size, 0, none⟩ = some (.slice b l cp) := HBPx.out.cell rfl
    go_wp2_with fail
    refine (prMay_any b l cp fs X (HRw.out.later HBx.out) (HPs.out.below HBx.out)).mono ?_
    rintro en5 w5 ⟨rfl, hb5⟩
    have HB5 := Lib.hid (HBx.out.trans (hb5.mono HBx.out.size))
    have HRun5 := Lib.hid (HRunx.out.later hb5)
    have HRes5 := Lib.hid (HResx.out.later hb5)
    have HT5 := Lib.hid (HTx.out.below hb5)
    have hP0 : w5.cell? ⟨w.heap.size, 0, none⟩ = some (.slice b l cp) := (HBPx.out.later hb5).cell rfl
    clear hb5
    clear HBPx HRunx HResx HTx HBx
    have x1 : w5.cell? ⟨r, 1, none⟩ = some (.int .u32 c0) := HRun5.out.cell rfl
    have x2 : w5.cell? ⟨r, 2, none⟩ = some (.int .u32 c1) := HRun5.out.cell rfl
    have x3 : w5.cell? ⟨r, 3, none⟩ = some (.int .u32 c2) := HRun5.out.cell rfl
    have x4 : w5.cell? ⟨r, 4, none⟩ = some (.int .u32 c3) := HRun5.out.cell rfl
    have x5 : w5.cell? ⟨r, 5, none⟩ = some (.slice bV ts.length pV) := HRun5.out.cell rfl
    have x6 : w5.cell? ⟨r, 6, none⟩ = some (.int .u32 sd) := HRun5.out.cell rfl
    obtain ⟨mb, hmb⟩ : ∃ mb, mayP fs = mb := ⟨_, rfl⟩
    rw [hmb]
    have HMb := Lib.hid hmb
    clear hmb
    cases mb with
    | false =>
      go_wp2_with (refine wpList_store_row rfl 34 _ _ rfl (w.heap.size + 1 + 1) _ rfl rfl 34 _ HRes5.out (by kernel_rfl) rfl (by simp [Value.oneCell']) ?_)
      refine bodyPost_ret (v := .agg (ranA (0, ((c0, c1, c2, c3), ts, sd), 0, 1) (.slice bV ts.length pV))) ?_ rfl ?_
      · exact results_cell_row Tryd.results15 _ _ (w.heap.size + 1 + 1) 34 _ (0, 0) _ rfl (setRow_heap _ _ _ _ _ _ HRes5.out) Tryd.underlying34 rfl (by kernel_rfl)
      · rw [callI_arg (.inl HMb.out)]
        exact ⟨_, rfl, below_setRow HB5.out (by omega) _, HT5.out.far HRes5.out (by decide) (by decide) (by decide) (grownBy_setRow _ _ _), HOK.out, isW_zero⟩

    | true =>
      by_cases hf0 : fl < 0
      · have HF0 := Lib.hid hf0
        go_wp2_with (refine wpList_store_row rfl 34 _ _ rfl (w.heap.size + 1 + 1) _ rfl rfl 34 _ HRes5.out (by kernel_rfl) rfl (by simp [Value.oneCell']) ?_)
        refine bodyPost_ret (v := .agg (ranA (0, ((c0, c1, c2, c3), ts, sd), 0, 1) (.slice bV ts.length pV))) ?_ rfl ?_
        · exact results_cell_row Tryd.results15 _ _ (w.heap.size + 1 + 1) 34 _ (0, 0) _ rfl (setRow_heap _ _ _ _ _ _ HRes5.out) Tryd.underlying34 rfl (by kernel_rfl)
        · rw [callI_arg (.inr (.inl HF0.out))]
          exact ⟨_, rfl, below_setRow HB5.out (by omega) _, HT5.out.far HRes5.out (by decide) (by decide) (by decide) (grownBy_setRow _ _ _), HOK.out, isW_zero⟩

      by_cases hf1 : 100000 < fl
      · have HF1 := Lib.hid hf1
        go_wp2_with (refine wpList_store_row rfl 34 _ _ rfl (w.heap.size + 1 + 1) _ rfl rfl 34 _ HRes5.out (by kernel_rfl) rfl (by simp [Value.oneCell']) ?_)
        refine bodyPost_ret (v := .agg (ranA (0, ((c0, c1, c2, c3), ts, sd), 0, 1) (.slice bV ts.length pV))) ?_ rfl ?_
        · exact results_cell_row Tryd.results15 _ _ (w.heap.size + 1 + 1) 34 _ (0, 0) _ rfl (setRow_heap _ _ _ _ _ _ HRes5.out) Tryd.underlying34 rfl (by kernel_rfl)
        · rw [callI_arg (.inr (.inr HF1.out))]
          exact ⟨_, rfl, below_setRow HB5.out (by omega) _, HT5.out.far HRes5.out (by decide) (by decide) (by decide) (grownBy_setRow _ _ _), HOK.out, isW_zero⟩

      have HNb := Lib.hid (not_bad HMb.out hf0 hf1)
      have HTop := Lib.hid (fl_top hf1)
      have HF0 := Lib.hid hf0
      by_cases hn0 : fn < 0
      · have HN0 := Lib.hid hn0
        go_wp2_with (refine wpList_store_row rfl 34 _ _ rfl (w.heap.size + 1 + 1) _ rfl rfl 34 _ HRes5.out (by kernel_rfl) rfl (by simp [Value.oneCell']) ?_)
        refine bodyPost_ret (v := .agg (ranA (0, ((c0, c1, c2, c3), ts, sd), 0, 3) (.slice bV ts.length pV))) ?_ rfl ?_
        · exact results_cell_row Tryd.results15 _ _ (w.heap.size + 1 + 1) 34 _ (0, 0) _ rfl (setRow_heap _ _ _ _ _ _ HRes5.out) Tryd.underlying34 rfl (by kernel_rfl)
        · rw [callI_none HNb.out (.inl HN0.out)]
          exact ⟨_, rfl, below_setRow HB5.out (by omega) _, HT5.out.far HRes5.out (by decide) (by decide) (by decide) (grownBy_setRow _ _ _), HOK.out, isW_zero⟩

      by_cases hn1 : (l : Int) ≤ fn
      · have HN1 : Hid ((fs.length : Int) ≤ fn) := Lib.hid (by rw [HPs.out.1]; exact hn1)
        go_wp2_with (refine wpList_store_row rfl 34 _ _ rfl (w.heap.size + 1 + 1) _ rfl rfl 34 _ HRes5.out (by kernel_rfl) rfl (by simp [Value.oneCell']) ?_)
        refine bodyPost_ret (v := .agg (ranA (0, ((c0, c1, c2, c3), ts, sd), 0, 3) (.slice bV ts.length pV))) ?_ rfl ?_
        · exact results_cell_row Tryd.results15 _ _ (w.heap.size + 1 + 1) 34 _ (0, 0) _ rfl (setRow_heap _ _ _ _ _ _ HRes5.out) Tryd.underlying34 rfl (by kernel_rfl)
        · rw [callI_none HNb.out (.inr (.inl HN1.out))]
          exact ⟨_, rfl, below_setRow HB5.out (by omega) _, HT5.out.far HRes5.out (by decide) (by decide) (by decide) (grownBy_setRow _ _ _), HOK.out, isW_zero⟩

      obtain ⟨k, rfl⟩ : ∃ k : Nat, fn = k := ⟨fn.toNat, by omega⟩
      have hkl : k < l := by omega
      have hklI : (k : Int) < (l : Int) := by omega
      obtain ⟨y, rfl, hfns⟩ : ∃ y, b = some y ∧ ∀ j, j < l → FnHere w5 (y.add (j * 2)) (fs.getD j zeroF) := by
        rcases (HPs.out.below HB5.out).2.2.2 with h | h
        · omega
        · exact h
      obtain ⟨a0, bc, lc, cc, a1, _⟩ := hfns k hkl
      obtain ⟨AR, hA⟩ : ∃ AR, (fs.getD k zeroF).1 = AR := ⟨_, rfl⟩
      rw [hA] at a0
      have HAr := Lib.hid hA
      have hlm : l ≤ maxLen := Nat.le_trans HPs.out.2.1 HPs.out.2.2.1
      clear hfns hA a1
      by_cases han : (an : Int) = AR
      · have HAn : Hid ((an : Int) = (fs.getD k zeroF).1) := Lib.hid (by rw [HAr.out]; exact han)
        have HNo : Hid (¬ ((k : Int) < 0 ∨ (fs.length : Int) ≤ (k : Int) ∨ (zs.length : Int) ≠ (fs.getD (k : Int).toNat zeroF).1)) := Lib.hid (by
          rw [HPs.out.1, HZ.out.1, Int.toNat_natCast, HAr.out, han]
          omega)
        obtain ⟨g, hg⟩ : ∃ g, fl.toNat + 1 = g := ⟨_, rfl⟩
        have HGq := Lib.hid hg
        have hgI : fl - 0 < (g : Int) := by omega
        have HGI := Lib.hid hgI
        clear hg hgI
        obtain ⟨q, hq⟩ : ∃ q, execQ fs fl g ((c0, c1, c2, c3), ts, sd) 0 (k : Int) zs = q := ⟨_, rfl⟩
        have HQ := Lib.hid (callI_do HNb.out HNo.out HGq.out hq)
        obtain ⟨er, qv, ⟨⟨d0, d1, d2, d3⟩, ts6, sd6⟩, qu⟩ := q
        obtain ⟨hg1, hg2, hg3⟩ := fns_good HPs.out HMb.out
        have cX := execute_any w (some y) l cp fs HPs.out hg2 hg3 hg1 r w.heap.size fl HRb.out HTop g k ab an ap zs ((c0, c1, c2, c3), ts, sd) (.slice bV ts.length pV) 0 w5 (by rw [HPs.out.1]; exact hkl) HAn.out (HZ.out.below HB5.out) HB5.out HRun5.out HT5.out HOK.out HB5.out.size HGI.out (Int.le_refl _) (by omega)
        rw [hq] at cX
        clear hq hg1 hg2 hg3

        go_wp2_with fail
        refine cX.mono ?_
        rintro en6 w6 ⟨rfl, hg6, hqw, hqo, V6, hR6, hT6⟩
        have hT6 : TabsI w6 w.heap.size V6 ts6 := hT6
        obtain ⟨bV6, pV6, hV6, _⟩ := hT6.at
        try simp only at hV6
        subst hV6
        have HB6 := Lib.hid (HB5.out.grown hg6 HB5.out.size (fun g hg => by cases hg; exact HRb.out))
        have HRes6 := Lib.hid (HRes5.out.grown hg6 (fun ee => HRne.out (Option.some.inj ee)))
        have HT6 := Lib.hid hT6
        have HQw := Lib.hid hqw
        have HQo := Lib.hid hqo
        have z1 : w6.cell? ⟨r, 1, none⟩ = some (.int .u32 d0) := hR6.cell rfl
        have z2 : w6.cell? ⟨r, 2, none⟩ = some (.int .u32 d1) := hR6.cell rfl
        have z3 : w6.cell? ⟨r, 3, none⟩ = some (.int .u32 d2) := hR6.cell rfl
        have z4 : w6.cell? ⟨r, 4, none⟩ = some (.int .u32 d3) := hR6.cell rfl
        have z5 : w6.cell? ⟨r, 5, none⟩ = some (.slice bV6 ts6.length pV6) := hR6.cell rfl
        have z6 : w6.cell? ⟨r, 6, none⟩ = some (.int .u32 sd6) := hR6.cell rfl
        have z8 : w6.cell? ⟨r, 8, none⟩ = some (.int .i64 qu) := hR6.cell rfl
        clear cX hg6 hR6 hT6 hqw hqo x1 x2 x3 x4 x5 x6 hP0 a0
        go_wp2_with (refine wpList_store_row rfl 34 _ _ rfl (w.heap.size + 1 + 1) _ rfl rfl 34 _ HRes6.out (by kernel_rfl) rfl (by simp [Value.oneCell']) ?_)
        refine bodyPost_ret (v := .agg (ranA (qv, ((d0, d1, d2, d3), ts6, sd6), qu, er) (.slice bV6 ts6.length pV6))) ?_ rfl ?_
        · exact results_cell_row Tryd.results15 _ _ (w.heap.size + 1 + 1) 34 _ (0, 0) _ rfl (setRow_heap _ _ _ _ _ _ HRes6.out) Tryd.underlying34 rfl (by kernel_rfl)
        · rw [HQ.out]
          exact ⟨_, rfl, below_setRow HB6.out (by omega) _, HT6.out.far HRes6.out (by decide) (by decide) (by decide) (grownBy_setRow _ _ _), HQo.out, HQw.out⟩

      · have HAn : Hid ((zs.length : Int) ≠ (fs.getD (k : Int).toNat zeroF).1) := Lib.hid (by rw [Int.toNat_natCast, HAr.out, HZ.out.1]; exact han)
        have hbn : ((an : Int) != AR) = true := by simpa using han
        have hbe : ((an : Int) == AR) = false := by simpa using han
        clear han
        go_wp2_with (refine wpList_store_row rfl 34 _ _ rfl (w.heap.size + 1 + 1) _ rfl rfl 34 _ HRes5.out (by kernel_rfl) rfl (by simp [Value.oneCell']) ?_)
        refine bodyPost_ret (v := .agg (ranA (0, ((c0, c1, c2, c3), ts, sd), 0, 3) (.slice bV ts.length pV))) ?_ rfl ?_
        · exact results_cell_row Tryd.results15 _ _ (w.heap.size + 1 + 1) 34 _ (0, 0) _ rfl (setRow_heap _ _ _ _ _ _ HRes5.out) Tryd.underlying34 rfl (by kernel_rfl)
        · rw [callI_none HNb.out (.inr (.inr HAn.out))]
          exact ⟨_, rfl, below_setRow HB5.out (by omega) _, HT5.out.far HRes5.out (by decide) (by decide) (by decide) (grownBy_setRow _ _ _), HOK.out, isW_zero⟩

  have HZb0 : Hid (Box (W3.drew.alloc (.cells #[.slice none 0 0, .int .u32 0, .int .u32 0, .int .u32 0, .int .u32 0, .slice none 0 0, .int .u32 0, .int .i64 0, .int .i64 0] 68)) W3.heap.size 68 _) := Lib.hid (Box.new W3.drew _ _)
  have HbB0 : Hid (Below W3.heap.size W3 (W3.drew.alloc (.cells #[.slice none 0 0, .int .u32 0, .int .u32 0, .int .u32 0, .int .u32 0, .slice none 0 0, .int .u32 0, .int .i64 0, .int .i64 0] 68))) := Lib.hid (((Below.refl _ _).drew).trans (belowA W3.drew (.cells #[.slice none 0 0, .int .u32 0, .int .u32 0, .int .u32 0, .int .u32 0, .slice none 0 0, .int .u32 0, .int .i64 0, .int .i64 0] 68)))
  refine AllReadyH.cons rfl (fun K hK => ?_) AllReadyH.nil
  go_simp
  refine hK.out _ _ (⟨(HbB0.out.cell (lt_of_cell p0)).trans p0, (HbB0.out.cell (lt_of_cell e0)).trans e0, (HbB0.out.cell (lt_of_cell e1)).trans e1, (HbB0.out.cell (lt_of_cell e2)).trans e2, (HbB0.out.cell (lt_of_cell e3)).trans e3, (HbB0.out.cell (lt_of_cell e4)).trans e4, (HbB0.out.cell (lt_of_cell e5)).trans e5⟩) (fun hHeld => ?_)
  clear hK K
  try simp only [Act.put, List.setIfInBounds_toArray, List.set_cons_zero, List.set_cons_succ]
  refine wpAnyH_ready (rs := [3]) (by kernel_rfl) (by simp) ?_
  refine AllReadyH.cons rfl (fun K hK => ?_) AllReadyH.nil
  go_simp
  refine (iclone_any (c0, c1, c2, c3) a len cap sd ts (W3.drew.alloc (.cells #[.slice none 0 0, .int .u32 0, .int .u32 0, .int .u32 0, .int .u32 0, .slice none 0 0, .int .u32 0, .int .i64 0, .int .i64 0] 68)) (HT.out.below (HB3.out.trans (HbB0.out.mono HB3.out.size))) HFw.out).mono ?_
  rintro en4 m4 ⟨V4, rfl, hb4, ht4⟩
  obtain ⟨bV, pV, hV, _⟩ := ht4.at
  subst hV
  have HZb := Lib.hid (HZb0.out.later hb4)
  have HbB := Lib.hid (HbB0.out.trans (hb4.mono HbB0.out.size))
  have HtB := Lib.hid ht4
  clear hb4 ht4
  go_wp2_with fail
  refine hK.out _ _ (⟨(HbB.out.cell (lt_of_cell p0)).trans p0, (HbB.out.cell (lt_of_cell e0)).trans e0, (HbB.out.cell (lt_of_cell e1)).trans e1, (HbB.out.cell (lt_of_cell e2)).trans e2, (HbB.out.cell (lt_of_cell e3)).trans e3, (HbB.out.cell (lt_of_cell e4)).trans e4, (HbB.out.cell (lt_of_cell e5)).trans e5⟩) (fun hHeld => ?_)
  clear hK K
  try simp only [Act.put, List.setIfInBounds_toArray, List.set_cons_zero, List.set_cons_succ]
  refine wpAnyH_yield (i := 5) (v := ?vb5) rfl rfl (by kernel_rfl) (by kernel_rfl) (by kernel_rfl) (fun _ _ _ h => h) (by rfl) ?hyb5 hHeld ?restb5
  case hyb5 =>
    intro w hSw
    (try dsimp only at hSw)
    go_simp
    try with_reducible rfl
  simp only [Act.put, List.setIfInBounds_toArray, List.set_cons_zero, List.set_cons_succ]
  refine wpAnyH_ready (rs := [7]) (by kernel_rfl) (by simp) ?_
  refine AllReadyH.cons rfl (fun K hK => ?_) AllReadyH.nil
  refine step_row _ (by rfl) 68 _ _ (by rfl) (by rfl) (W3.heap.size) #[.slice b l cp, .int .u32 c0, .int .u32 c1, .int .u32 c2, .int .u32 c3, .slice bV ts.length pV, .int .u32 sd, .int .i64 fl, .int .i64 0] (by rfl) (by rfl) 68 _ HZb.out (by kernel_rfl) rfl (by simp [Value.oneCell']) ?_
  have HbB3 := Lib.hid (below_setRow HbB.out (Nat.le_refl _) #[.slice b l cp, .int .u32 c0, .int .u32 c1, .int .u32 c2, .int .u32 c3, .slice bV ts.length pV, .int .u32 sd, .int .i64 fl, .int .i64 0])
  refine hK.out _ _ (⟨(HbB3.out.cell (lt_of_cell p0)).trans p0, (HbB3.out.cell (lt_of_cell e0)).trans e0, (HbB3.out.cell (lt_of_cell e1)).trans e1, (HbB3.out.cell (lt_of_cell e2)).trans e2, (HbB3.out.cell (lt_of_cell e3)).trans e3, (HbB3.out.cell (lt_of_cell e4)).trans e4, (HbB3.out.cell (lt_of_cell e5)).trans e5⟩) (fun hHeld => ?_)
  clear hK K
  try simp only [Act.put, List.setIfInBounds_toArray, List.set_cons_zero, List.set_cons_succ]
  refine wpAnyH_done (by kernel_rfl) ?_ _
  have HBPx := Lib.hid (HBP.out.later HbB3.out)
  have HResx := Lib.hid (HBR.out.later HbB3.out)
  have HBx := Lib.hid (HB3.out.trans (HbB3.out.mono HB3.out.size))
  have HRunx : Hid (Box (m4.setRow W3.heap.size #[.slice b l cp, .int .u32 c0, .int .u32 c1, .int .u32 c2, .int .u32 c3, .slice bV ts.length pV, .int .u32 sd, .int .i64 fl, .int .i64 0]) W3.heap.size 68 (RunA (.slice b l cp) ((c0, c1, c2, c3), ts, sd) (.slice bV ts.length pV) fl 0)) := Lib.hid (setRow_heap _ _ _ _ _ _ HZb.out)
  have HTx := Lib.hid ((HtB.out.far HZb.out (by decide) (by decide) (by decide) (grownBy_setRow _ _ #[.slice b l cp, .int .u32 c0, .int .u32 c1, .int .u32 c2, .int .u32 c3, .slice bV ts.length pV, .int .u32 sd, .int .i64 fl, .int .i64 0])).low (base' := w.heap.size) (Nat.le_trans HB3.out.size HbB0.out.size))
  have HRb : Hid (w.heap.size ≤ W3.heap.size) := Lib.hid HB3.out.size
  have HRne : Hid (w.heap.size + 1 + 1 ≠ W3.heap.size) := Lib.hid (by have := HS3.out; omega)
  generalize (m4.setRow W3.heap.size #[.slice b l cp, .int .u32 c0, .int .u32 c1, .int .u32 c2, .int .u32 c3, .slice bV ts.length pV, .int .u32 sd, .int .i64 fl, .int .i64 0]) = X at HBPx HResx HBx HRunx HTx HbB3 ⊢
  generalize W3.heap.size = r at HRunx HRb HRne ⊢
  clear HZb0 HbB0 HtB HZb HbB3 HbB hHeld p0 e0 e1 e2 e3 e4 e5 HBP HBR HB3
  have hP0 : X.cell? ⟨w.heap.size, 0, none⟩ = some (.slice b l cp) := HBPx.out.cell rfl
  go_wp2_with fail
  refine (prMay_any b l cp fs X (HRw.out.later HBx.out) (HPs.out.below HBx.out)).mono ?_
  rintro en5 w5 ⟨rfl, hb5⟩
  have HB5 := Lib.hid (HBx.out.trans (hb5.mono HBx.out.size))
  have HRun5 := Lib.hid (HRunx.out.later hb5)
  have HRes5 := Lib.hid (HResx.out.later hb5)
  have HT5 := Lib.hid (HTx.out.below hb5)
  have hP0 : w5.cell? ⟨w.heap.size, 0, none⟩ = some (.slice b l cp) := (HBPx.out.later hb5).cell rfl
  clear hb5
  clear HBPx HRunx HResx HTx HBx
  have x1 : w5.cell? ⟨r, 1, none⟩ = some (.int .u32 c0) := HRun5.out.cell rfl
  have x2 : w5.cell? ⟨r, 2, none⟩ = some (.int .u32 c1) := HRun5.out.cell rfl
  have x3 : w5.cell? ⟨r, 3, none⟩ = some (.int .u32 c2) := HRun5.out.cell rfl
  have x4 : w5.cell? ⟨r, 4, none⟩ = some (.int .u32 c3) := HRun5.out.cell rfl
  have x5 : w5.cell? ⟨r, 5, none⟩ = some (.slice bV ts.length pV) := HRun5.out.cell rfl
  have x6 : w5.cell? ⟨r, 6, none⟩ = some (.int .u32 sd) := HRun5.out.cell rfl
  obtain ⟨mb, hmb⟩ : ∃ mb, mayP fs = mb := ⟨_, rfl⟩
  rw [hmb]
  have HMb := Lib.hid hmb
  clear hmb
  cases mb with
  | false =>
    go_wp2_with (refine wpList_store_row rfl 34 _ _ rfl (w.heap.size + 1 + 1) _ rfl rfl 34 _ HRes5.out (by kernel_rfl) rfl (by simp [Value.oneCell']) ?_)
    refine bodyPost_ret (v := .agg (ranA (0, ((c0, c1, c2, c3), ts, sd), 0, 1) (.slice bV ts.length pV))) ?_ rfl ?_
    · exact results_cell_row Tryd.results15 _ _ (w.heap.size + 1 + 1) 34 _ (0, 0) _ rfl (setRow_heap _ _ _ _ _ _ HRes5.out) Tryd.underlying34 rfl (by kernel_rfl)
    · rw [callI_arg (.inl HMb.out)]
      exact ⟨_, rfl, below_setRow HB5.out (by omega) _, HT5.out.far HRes5.out (by decide) (by decide) (by decide) (grownBy_setRow _ _ _), HOK.out, isW_zero⟩

  | true =>
    by_cases hf0 : fl < 0
    · have HF0 := Lib.hid hf0
      go_wp2_with (refine wpList_store_row rfl 34 _ _ rfl (w.heap.size + 1 + 1) _ rfl rfl 34 _ HRes5.out (by kernel_rfl) rfl (by simp [Value.oneCell']) ?_)
      refine bodyPost_ret (v := .agg (ranA (0, ((c0, c1, c2, c3), ts, sd), 0, 1) (.slice bV ts.length pV))) ?_ rfl ?_
      · exact results_cell_row Tryd.results15 _ _ (w.heap.size + 1 + 1) 34 _ (0, 0) _ rfl (setRow_heap _ _ _ _ _ _ HRes5.out) Tryd.underlying34 rfl (by kernel_rfl)
      · rw [callI_arg (.inr (.inl HF0.out))]
        exact ⟨_, rfl, below_setRow HB5.out (by omega) _, HT5.out.far HRes5.out (by decide) (by decide) (by decide) (grownBy_setRow _ _ _), HOK.out, isW_zero⟩

    by_cases hf1 : 100000 < fl
    · have HF1 := Lib.hid hf1
      go_wp2_with (refine wpList_store_row rfl 34 _ _ rfl (w.heap.size + 1 + 1) _ rfl rfl 34 _ HRes5.out (by kernel_rfl) rfl (by simp [Value.oneCell']) ?_)
      refine bodyPost_ret (v := .agg (ranA (0, ((c0, c1, c2, c3), ts, sd), 0, 1) (.slice bV ts.length pV))) ?_ rfl ?_
      · exact results_cell_row Tryd.results15 _ _ (w.heap.size + 1 + 1) 34 _ (0, 0) _ rfl (setRow_heap _ _ _ _ _ _ HRes5.out) Tryd.underlying34 rfl (by kernel_rfl)
      · rw [callI_arg (.inr (.inr HF1.out))]
        exact ⟨_, rfl, below_setRow HB5.out (by omega) _, HT5.out.far HRes5.out (by decide) (by decide) (by decide) (grownBy_setRow _ _ _), HOK.out, isW_zero⟩

    have HNb := Lib.hid (not_bad HMb.out hf0 hf1)
    have HTop := Lib.hid (fl_top hf1)
    have HF0 := Lib.hid hf0
    by_cases hn0 : fn < 0
    · have HN0 := Lib.hid hn0
      go_wp2_with (refine wpList_store_row rfl 34 _ _ rfl (w.heap.size + 1 + 1) _ rfl rfl 34 _ HRes5.out (by kernel_rfl) rfl (by simp [Value.oneCell']) ?_)
      refine bodyPost_ret (v := .agg (ranA (0, ((c0, c1, c2, c3), ts, sd), 0, 3) (.slice bV ts.length pV))) ?_ rfl ?_
      · exact results_cell_row Tryd.results15 _ _ (w.heap.size + 1 + 1) 34 _ (0, 0) _ rfl (setRow_heap _ _ _ _ _ _ HRes5.out) Tryd.underlying34 rfl (by kernel_rfl)
      · rw [callI_none HNb.out (.inl HN0.out)]
        exact ⟨_, rfl, below_setRow HB5.out (by omega) _, HT5.out.far HRes5.out (by decide) (by decide) (by decide) (grownBy_setRow _ _ _), HOK.out, isW_zero⟩

    by_cases hn1 : (l : Int) ≤ fn
    · have HN1 : Hid ((fs.length : Int) ≤ fn) := Lib.hid (by rw [HPs.out.1]; exact hn1)
      go_wp2_with (refine wpList_store_row rfl 34 _ _ rfl (w.heap.size + 1 + 1) _ rfl rfl 34 _ HRes5.out (by kernel_rfl) rfl (by simp [Value.oneCell']) ?_)
      refine bodyPost_ret (v := .agg (ranA (0, ((c0, c1, c2, c3), ts, sd), 0, 3) (.slice bV ts.length pV))) ?_ rfl ?_
      · exact results_cell_row Tryd.results15 _ _ (w.heap.size + 1 + 1) 34 _ (0, 0) _ rfl (setRow_heap _ _ _ _ _ _ HRes5.out) Tryd.underlying34 rfl (by kernel_rfl)
      · rw [callI_none HNb.out (.inr (.inl HN1.out))]
        exact ⟨_, rfl, below_setRow HB5.out (by omega) _, HT5.out.far HRes5.out (by decide) (by decide) (by decide) (grownBy_setRow _ _ _), HOK.out, isW_zero⟩

    obtain ⟨k, rfl⟩ : ∃ k : Nat, fn = k := ⟨fn.toNat, by omega⟩
    have hkl : k < l := by omega
    have hklI : (k : Int) < (l : Int) := by omega
    obtain ⟨y, rfl, hfns⟩ : ∃ y, b = some y ∧ ∀ j, j < l → FnHere w5 (y.add (j * 2)) (fs.getD j zeroF) := by
      rcases (HPs.out.below HB5.out).2.2.2 with h | h
      · omega
      · exact h
    obtain ⟨a0, bc, lc, cc, a1, _⟩ := hfns k hkl
    obtain ⟨AR, hA⟩ : ∃ AR, (fs.getD k zeroF).1 = AR := ⟨_, rfl⟩
    rw [hA] at a0
    have HAr := Lib.hid hA
    have hlm : l ≤ maxLen := Nat.le_trans HPs.out.2.1 HPs.out.2.2.1
    clear hfns hA a1
    by_cases han : (an : Int) = AR
    · have HAn : Hid ((an : Int) = (fs.getD k zeroF).1) := Lib.hid (by rw [HAr.out]; exact han)
      have HNo : Hid (¬ ((k : Int) < 0 ∨ (fs.length : Int) ≤ (k : Int) ∨ (zs.length : Int) ≠ (fs.getD (k : Int).toNat zeroF).1)) := Lib.hid (by
        rw [HPs.out.1, HZ.out.1, Int.toNat_natCast, HAr.out, han]
        omega)
      obtain ⟨g, hg⟩ : ∃ g, fl.toNat + 1 = g := ⟨_, rfl⟩
      have HGq := Lib.hid hg
      have hgI : fl - 0 < (g : Int) := by omega
      have HGI := Lib.hid hgI
      clear hg hgI
      obtain ⟨q, hq⟩ : ∃ q, execQ fs fl g ((c0, c1, c2, c3), ts, sd) 0 (k : Int) zs = q := ⟨_, rfl⟩
      have HQ := Lib.hid (callI_do HNb.out HNo.out HGq.out hq)
      obtain ⟨er, qv, ⟨⟨d0, d1, d2, d3⟩, ts6, sd6⟩, qu⟩ := q
      obtain ⟨hg1, hg2, hg3⟩ := fns_good HPs.out HMb.out
      have cX := execute_any w (some y) l cp fs HPs.out hg2 hg3 hg1 r w.heap.size fl HRb.out HTop g k ab an ap zs ((c0, c1, c2, c3), ts, sd) (.slice bV ts.length pV) 0 w5 (by rw [HPs.out.1]; exact hkl) HAn.out (HZ.out.below HB5.out) HB5.out HRun5.out HT5.out HOK.out HB5.out.size HGI.out (Int.le_refl _) (by omega)
      rw [hq] at cX
      clear hq hg1 hg2 hg3

      go_wp2_with fail
      refine cX.mono ?_
      rintro en6 w6 ⟨rfl, hg6, hqw, hqo, V6, hR6, hT6⟩
      have hT6 : TabsI w6 w.heap.size V6 ts6 := hT6
      obtain ⟨bV6, pV6, hV6, _⟩ := hT6.at
      try simp only at hV6
      subst hV6
      have HB6 := Lib.hid (HB5.out.grown hg6 HB5.out.size (fun g hg => by cases hg; exact HRb.out))
      have HRes6 := Lib.hid (HRes5.out.grown hg6 (fun ee => HRne.out (Option.some.inj ee)))
      have HT6 := Lib.hid hT6
      have HQw := Lib.hid hqw
      have HQo := Lib.hid hqo
      have z1 : w6.cell? ⟨r, 1, none⟩ = some (.int .u32 d0) := hR6.cell rfl
      have z2 : w6.cell? ⟨r, 2, none⟩ = some (.int .u32 d1) := hR6.cell rfl
      have z3 : w6.cell? ⟨r, 3, none⟩ = some (.int .u32 d2) := hR6.cell rfl
      have z4 : w6.cell? ⟨r, 4, none⟩ = some (.int .u32 d3) := hR6.cell rfl
      have z5 : w6.cell? ⟨r, 5, none⟩ = some (.slice bV6 ts6.length pV6) := hR6.cell rfl
      have z6 : w6.cell? ⟨r, 6, none⟩ = some (.int .u32 sd6) := hR6.cell rfl
      have z8 : w6.cell? ⟨r, 8, none⟩ = some (.int .i64 qu) := hR6.cell rfl
      clear cX hg6 hR6 hT6 hqw hqo x1 x2 x3 x4 x5 x6 hP0 a0
      go_wp2_with (refine wpList_store_row rfl 34 _ _ rfl (w.heap.size + 1 + 1) _ rfl rfl 34 _ HRes6.out (by kernel_rfl) rfl (by simp [Value.oneCell']) ?_)
      refine bodyPost_ret (v := .agg (ranA (qv, ((d0, d1, d2, d3), ts6, sd6), qu, er) (.slice bV6 ts6.length pV6))) ?_ rfl ?_
      · exact results_cell_row Tryd.results15 _ _ (w.heap.size + 1 + 1) 34 _ (0, 0) _ rfl (setRow_heap _ _ _ _ _ _ HRes6.out) Tryd.underlying34 rfl (by kernel_rfl)
      · rw [HQ.out]
        exact ⟨_, rfl, below_setRow HB6.out (by omega) _, HT6.out.far HRes6.out (by decide) (by decide) (by decide) (grownBy_setRow _ _ _), HQo.out, HQw.out⟩

    · have HAn : Hid ((zs.length : Int) ≠ (fs.getD (k : Int).toNat zeroF).1) := Lib.hid (by rw [Int.toNat_natCast, HAr.out, HZ.out.1]; exact han)
      have hbn : ((an : Int) != AR) = true := by simpa using han
      have hbe : ((an : Int) == AR) = false := by simpa using han
      clear han
      go_wp2_with (refine wpList_store_row rfl 34 _ _ rfl (w.heap.size + 1 + 1) _ rfl rfl 34 _ HRes5.out (by kernel_rfl) rfl (by simp [Value.oneCell']) ?_)
      refine bodyPost_ret (v := .agg (ranA (0, ((c0, c1, c2, c3), ts, sd), 0, 3) (.slice bV ts.length pV))) ?_ rfl ?_
      · exact results_cell_row Tryd.results15 _ _ (w.heap.size + 1 + 1) 34 _ (0, 0) _ rfl (setRow_heap _ _ _ _ _ _ HRes5.out) Tryd.underlying34 rfl (by kernel_rfl)
      · rw [callI_none HNb.out (.inr (.inr HAn.out))]
        exact ⟨_, rfl, below_setRow HB5.out (by omega) _, HT5.out.far HRes5.out (by decide) (by decide) (by decide) (grownBy_setRow _ _ _), HOK.out, isW_zero⟩


end Go.Proofs.YtilddlgcfbefiaaDoor

/-
  What the interpreter's Run returns, as a contract over the translated program.
-/
namespace Go.Proofs.YtilddlgcfbefiaaDoor
set_option linter.unusedSimpArgs false
set_option linter.unusedVariables false
open Go Go.RowKit
theorem RanPost.form {q : Rn} {w w' : World} {en : Ending} (h : RanPost q w en w') : ∃ b c, en = .returned (.agg (ranA q (.slice b q.2.1.2.1.length c))) ∧ Below w.heap.size w w' ∧ TabsI w' w.heap.size (.slice b q.2.1.2.1.length c) q.2.1.2.1 ∧ okEv q.2.1 ∧ isW q.1 := by
  obtain ⟨V, h1, h2, h3, h4, h5⟩ := h
  obtain ⟨b, c, rfl, _⟩ := h3.at
  exact ⟨b, c, h1, h2, h3, h4, h5⟩
set_option maxRecDepth 100000 in
set_option maxHeartbeats 20000000 in
theorem irun_any (fs : List Fun) (b : Option Addr) (l cp : Nat) (e : Ev) (a : Option Addr) (len cap : Nat) (fl : Int) (w : World) (hr : RowsIn w) (hP : FnsAt w b l cp fs) (hT : TabsAt w a len cap e.2.1) (hok : okEv e) :
    Calls Tryd.prog 11 #[.agg #[.slice b l cp], envV e.1 (.slice a len cap) e.2.2, .int .i64 fl] w (RanPost (callI fs 0 e fl []) w) := by
  obtain ⟨⟨c0, c1, c2, c3⟩, ts, sd⟩ := e
  obtain ⟨W3, hW3, hs3, hb3, hBP, hBE, hBR⟩ := call_start b l cp (c0, c1, c2, c3) a len cap sd w
  simp only at hW3 hBE hT
  have p0 : W3.cell? ⟨w.heap.size, 0, none⟩ = some (.slice b l cp) := hBP.cell rfl
  have e0 : W3.cell? ⟨w.heap.size + 1, 0, none⟩ = some (.int .u32 c0) := hBE.cell rfl
  have e1 : W3.cell? ⟨w.heap.size + 1, 1, none⟩ = some (.int .u32 c1) := hBE.cell rfl
  have e2 : W3.cell? ⟨w.heap.size + 1, 2, none⟩ = some (.int .u32 c2) := hBE.cell rfl
  have e3 : W3.cell? ⟨w.heap.size + 1, 3, none⟩ = some (.int .u32 c3) := hBE.cell rfl
  have e4 : W3.cell? ⟨w.heap.size + 1, 4, none⟩ = some (.slice a len cap) := hBE.cell rfl
  have e5 : W3.cell? ⟨w.heap.size + 1, 5, none⟩ = some (.int .u32 sd) := hBE.cell rfl
  have cC := icallI_any fs b l cp 0 ((c0, c1, c2, c3), ts, sd) a len cap fl [] none 0 0 W3 (hr.later hb3) (hP.below hb3) (hT.below hb3) hok ⟨rfl, Nat.le_refl _, Nat.zero_le _, wordL_nil, .inl rfl⟩
  obtain ⟨q, hq⟩ : ∃ q, callI fs 0 ((c0, c1, c2, c3), ts, sd) fl [] = q := ⟨_, rfl⟩
  rw [hq] at cC ⊢
  have HBR := Lib.hid hBR
  have HB3 := Lib.hid hb3
  clear hr hP hT hok hBP hBE hBR hb3 hq hs3
  go_enter Tryd.func11, Tryd.ntmps11
  go_wp2_with fail
  refine cC.mono ?_
  intro en w4 h4
  obtain ⟨bV, pV, rfl, hb4, hT4, ho4, hw4⟩ := h4.form
  obtain ⟨q0, ⟨⟨d0, d1, d2, d3⟩, ts4, sd4⟩, qu, qe⟩ := q
  have HR4 := Lib.hid (HBR.out.later hb4)
  have HB4 := Lib.hid (HB3.out.trans (hb4.mono HB3.out.size))
  have HT4 : Hid (TabsI w4 W3.heap.size (.slice bV ts4.length pV) ts4) := Lib.hid hT4
  have HO4 := Lib.hid ho4
  have HW4 := Lib.hid hw4
  clear h4 hb4 hT4 ho4 hw4 cC hW3 p0 e0 e1 e2 e3 e4 e5
  go_wp2_with (refine wpList_store_row rfl 34 _ _ rfl (w.heap.size + 1 + 1) _ rfl rfl 34 _ HR4.out (by kernel_rfl) rfl (by simp [Value.oneCell']) ?_)
  refine bodyPost_ret (v := .agg (ranA (q0, ((d0, d1, d2, d3), ts4, sd4), qu, qe) (.slice bV ts4.length pV))) ?_ rfl ?_
  · exact results_cell_row Tryd.results11 _ _ (w.heap.size + 1 + 1) 34 _ (0, 0) _ rfl (setRow_heap _ _ _ _ _ _ HR4.out) Tryd.underlying34 rfl (by kernel_rfl)
  · exact ⟨_, rfl, below_setRow HB4.out (by omega) _, (HT4.out.low (base' := w.heap.size) HB3.out.size).far HR4.out (by decide) (by decide) (by decide) (grownBy_setRow _ _ _), HO4.out, HW4.out⟩
end Go.Proofs.YtilddlgcfbefiaaDoor

