/-
  Texts that the laws of this layer stand on, one behind the other.
-/
import Derived.Test.YtilddlgcfbefiaaDoorGja
import Derived.Test.YtilddlgcfbefiaaDoorGia
import Derived.Test.YtilddlgcfbefiaaDoorGcc
/-
  The block that all frames share; what the interpreter's help does.
-/
namespace Go.Proofs.YtilddlgcfbefiaaDoor
set_option linter.unusedSimpArgs false
set_option linter.unusedVariables false
open Go Go.RowKit
def RunA (F : Value) (e : Ev) (V : Value) (fl us : Int) : Array Value := #[F, .int .u32 e.1.1, .int .u32 e.1.2.1, .int .u32 e.1.2.2.1, .int .u32 e.1.2.2.2, V, .int .u32 e.2.2, .int .i64 fl, .int .i64 us]
/- all but two blocks as it was -/
structure Two (r f : Nat) (w w' : World) : Prop where
  os : w'.os = w.os
  tape : w'.tape = w.tape
  output : w'.output = w.output
  size : w.heap.size ≤ w'.heap.size
  block : ∀ k, k < w.heap.size → k ≠ r → k ≠ f → w'.heap[k]? = w.heap[k]?
section
variable {W W' W'' : World} {f r : Nat}
theorem Two.trans (h : Two r f W W') (h' : Two r f W' W'') : Two r f W W'' := ⟨h'.os.trans h.os, h'.tape.trans h.tape, h'.output.trans h.output, Nat.le_trans h.size h'.size, fun k hk h1 h2 => (h'.block k (Nat.lt_of_lt_of_le hk h.size) h1 h2).trans (h.block k hk h1 h2)⟩
theorem Two.frame (h : W.grownBy W' (some f)) : Two r f W W' := ⟨h.os, h.tape, h.output, h.size, fun k hk _ h2 => h.block k hk (fun e => h2 (Option.some.inj e))⟩
theorem Two.run (h : W.grownBy W' (some r)) : Two r f W W' := ⟨h.os, h.tape, h.output, h.size, fun k hk h1 _ => h.block k hk (fun e => h1 (Option.some.inj e))⟩
theorem Two.of_below (h : Below W.heap.size W W') : Two r f W W' := .run (grownBy_of_below h _)
end
def helpP (x : Fr) (e : Ev) (m : Int) : Int × Fr × Ev :=
  if allSet x (argsP m).toNat = true then (if (callP m e (regsL x (argsP m).toNat)).2.2 = 0 then (0, backF x (callP m e (regsL x (argsP m).toNat)).2.1, (callP m e (regsL x (argsP m).toNat)).1) else (10, x, e)) else (10, x, e)
theorem argsP_le (n : Int) : (argsP n).toNat ≤ 7 := by
  unfold argsP
  repeat' split
  all_goals omega
theorem helpP_no {x : Fr} {e : Ev} {m : Int} {n : Nat} (hn : (argsP m).toNat = n) (h : allSet x n = false) : helpP x e m = (10, x, e) := by
  subst hn
  unfold helpP
  rw [if_neg (by rw [h]; simp)]
theorem helpP_bad {x : Fr} {e : Ev} {m : Int} {n : Nat} (hn : (argsP m).toNat = n) (h : allSet x n = true) {q : Ev × Int × Int} (hq : callP m e (regsL x n) = q) (h0 : q.2.2 ≠ 0) : helpP x e m = (10, x, e) := by
  subst hn
  subst hq
  unfold helpP
  rw [if_pos h, if_neg h0]
theorem helpP_ok {x : Fr} {e : Ev} {m : Int} {n : Nat} (hn : (argsP m).toNat = n) (h : allSet x n = true) {q : Ev × Int × Int} (hq : callP m e (regsL x n) = q) (h0 : q.2.2 = 0) : helpP x e m = (0, backF x q.2.1, q.1) := by
  subst hn
  subst hq
  unfold helpP
  rw [if_pos h, if_pos h0]
set_option maxRecDepth 100000 in
set_option maxHeartbeats 20000000 in
theorem help_any (f r base : Nat) (x : Fr) (F V : Value) (e : Ev) (fl us : Int) (op fn d s : Int) (rg : Bool) (o m : Int) (hm : isW m) (hrf : r ≠ f) (W : World) (h : FrAt W f r x) (hR : Box W r 68 (RunA F e V fl us)) (hT : TabsI W base V e.2.1) (hw : fewL e.2.1) (hs : isW e.2.2) (hb : base ≤ W.heap.size) (hqw : isW (callP m e (regsL x (argsP m).toNat)).2.1) :
    Calls Tryd.prog 73 #[.pointer (some ⟨f, 0, none⟩), inV op fn d s rg o m] W fun en w' => en = .returned (.int .i64 (helpP x e m).1) ∧ Two r f W w' ∧ FrAt w' f r (helpP x e m).2.1 ∧ ∃ V', Box w' r 68 (RunA F (helpP x e m).2.2 V' fl us) ∧ TabsI w' base V' (helpP x e m).2.2.2.1 := by
  obtain ⟨⟨c0, c1, c2, c3⟩, ts, sd⟩ := e
  obtain ⟨n, hn⟩ : ∃ n, (argsP m).toNat = n := ⟨_, rfl⟩
  have hn7 : n ≤ 7 := by rw [← hn]; exact argsP_le m
  have hb1 : Below W.heap.size W (W.alloc (.cells #[.int .i64 op, .int .i64 fn, .int .i64 d, .int .i64 s, .bool rg, .int .i64 o, .int .u32 m] 50)) := (Below.refl _ _).alloc (Nat.le_refl _) _
  have i6 : (W.alloc (.cells #[.int .i64 op, .int .i64 fn, .int .i64 d, .int .i64 s, .bool rg, .int .i64 o, .int .u32 m] 50)).cell? ⟨W.heap.size, 6, none⟩ = some (.int .u32 m) := (Box.new W 50 #[.int .i64 op, .int .i64 fn, .int .i64 d, .int .i64 s, .bool rg, .int .i64 o, .int .u32 m]).cell rfl
  have cA := fun W' (hb' : Below W.heap.size W W') => rargs_any f r x (argsP m) n hn7 hn W' (h.later hb')
  have HM := Lib.hid hm
  go_enter Tryd.func73, Tryd.ntmps73
  have hw64 : wrap64 m = m := by unfold wrap64; have := hm.1; have := hm.2; omega
  have HF := Lib.hid h
  have HR := Lib.hid hR
  have HT := Lib.hid hT
  have HB1 := Lib.hid hb1
  have HE := Lib.hid hn
  clear h hR hT
  go_wp2_with fail
  refine (args_any m _).mono ?_
  rintro e1 w1 ⟨rfl, rfl⟩
  go_wp2_with fail
  refine (cA _ HB1.out).mono ?_
  rintro e2 w2 ⟨hb2, ⟨hA, rfl⟩ | ⟨hA, b, cc, rfl, hWd⟩⟩
  · have HQ := Lib.hid (helpP_no (e := ((c0, c1, c2, c3), ts, sd)) hn hA)
    have hBW : Below W.heap.size W w2 := HB1.out.trans (hb2.mono HB1.out.size)
    have HX : Hid (Two r f W w2 ∧ FrAt w2 f r x ∧ ∃ V', Box w2 r 68 (RunA F ((c0, c1, c2, c3), ts, sd) V' fl us) ∧ TabsI w2 base V' ts) := Lib.hid ⟨.of_below hBW, HF.out.later hBW, V, HR.out.later hBW, HT.out.below hBW⟩
    clear cA i6 hb1 hb2 hBW
    go_wp2_with fail
    go_ret
    rw [HQ.out]
    exact ⟨rfl, HX.out⟩
  have hBW : Below W.heap.size W w2 := HB1.out.trans (hb2.mono HB1.out.size)
  have HBW := Lib.hid hBW
  have HF2 := Lib.hid (HF.out.later hBW)
  have HR2 := Lib.hid (HR.out.later hBW)
  have HT2 := Lib.hid (HT.out.below hBW)
  have HWd := Lib.hid hWd
  have HA := Lib.hid hA
  have r0 := HF2.out.run
  have e1 : w2.cell? ⟨r, 1, none⟩ = some (.int .u32 c0) := HR2.out.cell rfl
  have e2 : w2.cell? ⟨r, 2, none⟩ = some (.int .u32 c1) := HR2.out.cell rfl
  have e3 : w2.cell? ⟨r, 3, none⟩ = some (.int .u32 c2) := HR2.out.cell rfl
  have e4 : w2.cell? ⟨r, 4, none⟩ = some (.int .u32 c3) := HR2.out.cell rfl
  have e5 : w2.cell? ⟨r, 5, none⟩ = some V := HR2.out.cell rfl
  have e6 : w2.cell? ⟨r, 6, none⟩ = some (.int .u32 sd) := HR2.out.cell rfl
  obtain ⟨tb, tc, hV, hTA⟩ := HT2.out.at
  obtain ⟨q, hq⟩ : ∃ q, callP m ((c0, c1, c2, c3), ts, sd) (regsL x n) = q := ⟨_, rfl⟩
  have cH := call_any m (c0, c1, c2, c3) tb ts.length tc sd ts b n cc (regsL x n) w2 hTA hw hs hWd
  rw [← hV, hq] at cH
  have HQe := Lib.hid hq
  have HQw : Hid (isW q.2.1) := Lib.hid (by rw [hn, hq] at hqw; exact hqw)
  have HV := Lib.hid hV
  clear hBW hb1 hb2 hWd hA hTA hq hqw cA i6 hV
  go_wp2_with fail
  refine cH.mono ?_
  rintro e3 w3 ⟨V3, rfl, hb3, hr3'⟩
  have hr3 := hr3'.toI
  clear hr3'
  obtain ⟨⟨⟨d0, d1, d2, d3⟩, ts3, sd3⟩, v3, er⟩ := q
  simp only [envV] at *
  obtain ⟨b3, p3, hV3, _⟩ := hr3.at
  subst hV3
  have hBW3 : Below W.heap.size W (w3.alloc (.cells #[.int .u32 d0, .int .u32 d1, .int .u32 d2, .int .u32 d3, (Value.slice b3 ts3.length p3), .int .u32 sd3] 29)) := (HBW.out.trans (hb3.mono HBW.out.size)).alloc (Nat.le_trans HBW.out.size hb3.size) _
  have HR3 := Lib.hid (hr3.below (belowA w3 (.cells #[.int .u32 d0, .int .u32 d1, .int .u32 d2, .int .u32 d3, (Value.slice b3 ts3.length p3), .int .u32 sd3] 29)))
  have HE3 := Lib.hid (Box.new w3 29 #[.int .u32 d0, .int .u32 d1, .int .u32 d2, .int .u32 d3, (Value.slice b3 ts3.length p3), .int .u32 sd3])
  have HBW3 := Lib.hid hBW3
  have HF3 := Lib.hid (HF.out.later hBW3)
  have HRn3 := Lib.hid (HR.out.later hBW3)
  clear cH hBW3 hb3 hr3 r0 e1 e2 e3 e4 e5 e6
  by_cases her : er = 0
  · subst her
    have HQ := Lib.hid (helpP_ok hn HA.out HQe.out rfl)
    go_wp2_with fail
    generalize hW4 : (w3.alloc (.cells #[.int .u32 d0, .int .u32 d1, .int .u32 d2, .int .u32 d3, (Value.slice b3 ts3.length p3), .int .u32 sd3] 29)) = W4 at HR3 HE3 HBW3 HF3 HRn3 ⊢
    have hr0 := HF3.out.run
    have g0 : W4.cell? ⟨w3.heap.size, 0, none⟩ = some (.int .u32 d0) := HE3.out.cell rfl
    have g1 : W4.cell? ⟨w3.heap.size, 1, none⟩ = some (.int .u32 d1) := HE3.out.cell rfl
    have g2 : W4.cell? ⟨w3.heap.size, 2, none⟩ = some (.int .u32 d2) := HE3.out.cell rfl
    have g3 : W4.cell? ⟨w3.heap.size, 3, none⟩ = some (.int .u32 d3) := HE3.out.cell rfl
    have g4 : W4.cell? ⟨w3.heap.size, 4, none⟩ = some (.slice b3 ts3.length p3) := HE3.out.cell rfl
    have g5 : W4.cell? ⟨w3.heap.size, 5, none⟩ = some (.int .u32 sd3) := HE3.out.cell rfl
    have e1 : W4.cell? ⟨r, 1, none⟩ = some (.int .u32 c0) := HRn3.out.cell rfl
    have e2 : W4.cell? ⟨r, 2, none⟩ = some (.int .u32 c1) := HRn3.out.cell rfl
    have e3 : W4.cell? ⟨r, 3, none⟩ = some (.int .u32 c2) := HRn3.out.cell rfl
    have e4 : W4.cell? ⟨r, 4, none⟩ = some (.int .u32 c3) := HRn3.out.cell rfl
    have e5 : W4.cell? ⟨r, 5, none⟩ = some V := HRn3.out.cell rfl
    have e6 : W4.cell? ⟨r, 6, none⟩ = some (.int .u32 sd) := HRn3.out.cell rfl
    have hfz := HRn3.out.free
    have HFl := Lib.hid HF3.out.lt
    have HRl := Lib.hid HRn3.out.lt
    have HTr : Hid (w3.heap.size ≠ r) := Lib.hid (fun ee => by
      have h1 := HRn3.out
      rw [← ee] at h1
      have h3 : some (Obj.cells (RunA F ((c0, c1, c2, c3), ts, sd) V fl us) 68 (0, 0)) = some (Obj.cells _ 29 (0, 0)) := h1.symm.trans HE3.out
      simp only [Option.some.injEq, Obj.cells.injEq] at h3
      exact absurd h3.2.1 (by decide))
    have HRf := Lib.hid hrf
    clear hW4
    refine wp_region_held_drew (S := (fun W' => W'.cell? ⟨f, 0, none⟩ = some (.pointer (some ⟨r, 0, none⟩)) ∧ W'.cell? ⟨w3.heap.size, 0, none⟩ = some (.int .u32 d0) ∧ W'.cell? ⟨w3.heap.size, 1, none⟩ = some (.int .u32 d1) ∧ W'.cell? ⟨w3.heap.size, 2, none⟩ = some (.int .u32 d2) ∧ W'.cell? ⟨w3.heap.size, 3, none⟩ = some (.int .u32 d3) ∧ W'.cell? ⟨w3.heap.size, 4, none⟩ = some (.slice b3 ts3.length p3) ∧ W'.cell? ⟨w3.heap.size, 5, none⟩ = some (.int .u32 sd3))) (by kernel_rfl) (⟨hr0, g0, g1, g2, g3, g4, g5⟩) (fun hHeld => ?_)
    refine wpAnyH_yield (i := 0) (v := ?vq0) rfl rfl (by kernel_rfl) (by kernel_rfl) (by kernel_rfl) (fun _ _ _ h => h) (by rfl) ?hyq0 hHeld ?restq0
    case hyq0 =>
      intro w hSw
      (try dsimp only at hSw)
      go_simp
      try with_reducible rfl
    simp only [Act.put, List.setIfInBounds_toArray, List.set_cons_zero, List.set_cons_succ]
    refine wpAnyH_yield (i := 1) (v := ?vq1) rfl rfl (by kernel_rfl) (by kernel_rfl) (by kernel_rfl) (fun _ _ _ h => h) (by rfl) ?hyq1 hHeld ?restq1
    case hyq1 =>
      intro w hSw
      (try dsimp only at hSw)
      go_simp
      try with_reducible rfl
    simp only [Act.put, List.setIfInBounds_toArray, List.set_cons_zero, List.set_cons_succ]
    refine wpAnyH_yield (i := 2) (v := ?vq2) rfl rfl (by kernel_rfl) (by kernel_rfl) (by kernel_rfl) (fun _ _ _ h => h) (by rfl) ?hyq2 hHeld ?restq2
    case hyq2 =>
      intro w hSw
      (try dsimp only at hSw)
      go_simp
      try with_reducible rfl
    simp only [Act.put, List.setIfInBounds_toArray, List.set_cons_zero, List.set_cons_succ]
    refine wpAnyH_yield (i := 3) (v := ?vq3) rfl rfl (by kernel_rfl) (by kernel_rfl) (by kernel_rfl) (fun _ _ _ h => h) (by rfl) ?hyq3 hHeld ?restq3
    case hyq3 =>
      intro w hSw
      (try dsimp only at hSw)
      go_simp
      try with_reducible rfl
    simp only [Act.put, List.setIfInBounds_toArray, List.set_cons_zero, List.set_cons_succ]
    refine wpAnyH_yield (i := 4) (v := ?vq4) rfl rfl (by kernel_rfl) (by kernel_rfl) (by kernel_rfl) (fun _ _ _ h => h) (by rfl) ?hyq4 hHeld ?restq4
    case hyq4 =>
      intro w hSw
      (try dsimp only at hSw)
      go_simp
      try with_reducible rfl
    simp only [Act.put, List.setIfInBounds_toArray, List.set_cons_zero, List.set_cons_succ]
    refine wpAnyH_yield (i := 5) (v := ?vq5) rfl rfl (by kernel_rfl) (by kernel_rfl) (by kernel_rfl) (fun _ _ _ h => h) (by rfl) ?hyq5 hHeld ?restq5
    case hyq5 =>
      intro w hSw
      (try dsimp only at hSw)
      go_simp
      try with_reducible rfl
    simp only [Act.put, List.setIfInBounds_toArray, List.set_cons_zero, List.set_cons_succ]
    refine wpAnyH_yield (i := 6) (v := ?vq6) rfl rfl (by kernel_rfl) (by kernel_rfl) (by kernel_rfl) (fun _ _ _ h => h) (by rfl) ?hyq6 hHeld ?restq6
    case hyq6 =>
      intro w hSw
      (try dsimp only at hSw)
      go_simp
      try with_reducible rfl
    simp only [Act.put, List.setIfInBounds_toArray, List.set_cons_zero, List.set_cons_succ]
    refine wpAnyH_ready (rs := [7]) (by kernel_rfl) (by simp) ?_
    refine AllReadyH.cons rfl (fun K hK => ?_) AllReadyH.nil
    have hG5 : W4.grownBy ((((((W4.setCell ⟨r, 1, none⟩ (.int .u32 d0)).setCell ⟨r, 2, none⟩ (.int .u32 d1)).setCell ⟨r, 3, none⟩ (.int .u32 d2)).setCell ⟨r, 4, none⟩ (.int .u32 d3)).setCell ⟨r, 5, none⟩ (.slice b3 ts3.length p3)).setCell ⟨r, 6, none⟩ (.int .u32 sd3)).drew (some r) :=
      grow_trans (grow_trans (grow_trans (grow_trans (grow_trans (grow_trans (grownBy_setCell W4 ⟨r, 1, none⟩ _) (grownBy_setCell _ ⟨r, 2, none⟩ _)) (grownBy_setCell _ ⟨r, 3, none⟩ _)) (grownBy_setCell _ ⟨r, 4, none⟩ _)) (grownBy_setCell _ ⟨r, 5, none⟩ _)) (grownBy_setCell _ ⟨r, 6, none⟩ _)) (grownBy_of_below ((Below.refl _ _).drew) _)
    have hR5 : Box ((((((W4.setCell ⟨r, 1, none⟩ (.int .u32 d0)).setCell ⟨r, 2, none⟩ (.int .u32 d1)).setCell ⟨r, 3, none⟩ (.int .u32 d2)).setCell ⟨r, 4, none⟩ (.int .u32 d3)).setCell ⟨r, 5, none⟩ (.slice b3 ts3.length p3)).setCell ⟨r, 6, none⟩ (.int .u32 sd3)).drew r 68 (RunA F ((d0, d1, d2, d3), ts3, sd3) (.slice b3 ts3.length p3) fl us) := by
      have := ((((((HRn3.out.set 1 (.int .u32 d0)).set 2 (.int .u32 d1)).set 3 (.int .u32 d2)).set 4 (.int .u32 d3)).set 5 (.slice b3 ts3.length p3)).set 6 (.int .u32 sd3)).later ((Below.refl _ _).drew)
      simpa [RunA] using this
    go_simp
    generalize hW5 : ((((((W4.setCell ⟨r, 1, none⟩ (.int .u32 d0)).setCell ⟨r, 2, none⟩ (.int .u32 d1)).setCell ⟨r, 3, none⟩ (.int .u32 d2)).setCell ⟨r, 4, none⟩ (.int .u32 d3)).setCell ⟨r, 5, none⟩ (.slice b3 ts3.length p3)).setCell ⟨r, 6, none⟩ (.int .u32 sd3)).drew = W5 at hG5 hR5 ⊢
    clear hW5
    have hF5 := HF3.out.grown hG5 (fun ee => HRf.out (Option.some.inj ee).symm)
    have HG5 := Lib.hid hG5
    have HR5 := Lib.hid hR5
    have HF5 := Lib.hid hF5
    refine hK.out _ _ (⟨hF5.run, ?_⟩) (fun hHeld => ?_)
    · refine ⟨?_, ?_, ?_, ?_, ?_, ?_⟩
      · exact (hG5.cell_far _ (lt_of_cell g0) (fun ee => HTr.out (Option.some.inj ee))).trans g0
      · exact (hG5.cell_far _ (lt_of_cell g1) (fun ee => HTr.out (Option.some.inj ee))).trans g1
      · exact (hG5.cell_far _ (lt_of_cell g2) (fun ee => HTr.out (Option.some.inj ee))).trans g2
      · exact (hG5.cell_far _ (lt_of_cell g3) (fun ee => HTr.out (Option.some.inj ee))).trans g3
      · exact (hG5.cell_far _ (lt_of_cell g4) (fun ee => HTr.out (Option.some.inj ee))).trans g4
      · exact (hG5.cell_far _ (lt_of_cell g5) (fun ee => HTr.out (Option.some.inj ee))).trans g5
    clear hK K
    try simp only [Act.put, List.setIfInBounds_toArray, List.set_cons_zero, List.set_cons_succ]
    refine wpAnyH_done (by kernel_rfl) ?_ _
    clear hHeld hG5 hR5 hF5 g0 g1 g2 g3 g4 g5 e1 e2 e3 e4 e5 e6 hr0 hfz
    go_wp2_with fail
    refine (back_any f r x v3 HQw.out W5 HF5.out).mono ?_
    rintro e9 w9 ⟨rfl, hg9, hF9⟩
    have HX : Hid (Two r f W w9 ∧ FrAt w9 f r (backF x v3) ∧ ∃ V', Box w9 r 68 (RunA F ((d0, d1, d2, d3), ts3, sd3) V' fl us) ∧ TabsI w9 base V' ts3) := Lib.hid ⟨((Two.of_below HBW3.out).trans (.run HG5.out)).trans (.frame hg9), hF9, .slice b3 ts3.length p3, HR5.out.grown hg9 (fun ee => HRf.out (Option.some.inj ee)), by
      obtain ⟨cs, hbx, _⟩ := HF5.out
      exact ((HR3.out.low (Nat.le_trans hb HBW.out.size)).far HRn3.out (by decide) (by decide) (by decide) HG5.out).far hbx (by decide) (by decide) (by decide) hg9⟩
    clear hg9 hF9
    go_wp2_with fail
    go_ret
    rw [HQ.out]
    exact ⟨rfl, HX.out⟩
  have HQ := Lib.hid (helpP_bad hn HA.out HQe.out her)
  have HX : Hid (Two r f W (w3.alloc (.cells #[.int .u32 d0, .int .u32 d1, .int .u32 d2, .int .u32 d3, (Value.slice b3 ts3.length p3), .int .u32 sd3] 29)) ∧ FrAt (w3.alloc (.cells #[.int .u32 d0, .int .u32 d1, .int .u32 d2, .int .u32 d3, (Value.slice b3 ts3.length p3), .int .u32 sd3] 29)) f r x ∧ ∃ V', Box (w3.alloc (.cells #[.int .u32 d0, .int .u32 d1, .int .u32 d2, .int .u32 d3, (Value.slice b3 ts3.length p3), .int .u32 sd3] 29)) r 68 (RunA F ((c0, c1, c2, c3), ts, sd) V' fl us) ∧ TabsI (w3.alloc (.cells #[.int .u32 d0, .int .u32 d1, .int .u32 d2, .int .u32 d3, (Value.slice b3 ts3.length p3), .int .u32 sd3] 29)) base V' ts) := Lib.hid ⟨.of_below HBW3.out, HF3.out, V, HRn3.out, HT.out.below HBW3.out⟩
  go_wp2_with fail
  go_ret
  rw [HQ.out]
  exact ⟨rfl, HX.out⟩
end Go.Proofs.YtilddlgcfbefiaaDoor

/-
  The interpreter's call, for any execute that keeps its contract.
-/
namespace Go.Proofs.YtilddlgcfbefiaaDoor
set_option linter.unusedSimpArgs false
set_option linter.unusedVariables false
open Go Go.RowKit
/- what an execution of a function comes to: an error, a word, the environment, and how many instructions have been executed -/
abbrev Exec : Type := Ev → Int → Int → List Int → Int × Int × Ev × Int
def okEv (e : Ev) : Prop := fewL e.2.1 ∧ isW e.2.2 ∧ isW e.1.1 ∧ isW e.1.2.1 ∧ isW e.1.2.2.1 ∧ isW e.1.2.2.2
def ExecPost (q : Int × Int × Ev × Int) (F : Value) (r base : Nat) (fl : Int) (W : World) (en : Ending) (w' : World) : Prop :=
  en = .returned (.tuple #[.int .u32 q.2.1, .int .i64 q.1]) ∧ W.grownBy w' (some r) ∧ isW q.2.1 ∧ okEv q.2.2.1 ∧ ∃ V', Box w' r 68 (RunA F q.2.2.1 V' fl q.2.2.2) ∧ TabsI w' base V' q.2.2.1.2.1
def ExecOk (ex : Exec) (G : Int) (w0 : World) (F : Value) (fs : List Fun) (r base : Nat) (fl : Int) : Prop :=
  ∀ (fn : Nat) (b : Option Addr) (n c : Nat) (zs : List Int) (e : Ev) (V : Value) (us : Int) (W : World), fn < fs.length → (n : Int) = (fs.getD fn zeroF).1 → WordsAt W b n c zs → Below w0.heap.size w0 W → Box W r 68 (RunA F e V fl us) → TabsI W base V e.2.1 → okEv e → base ≤ W.heap.size → fl - us < G → 0 ≤ us → us ≤ fl →
    Calls Tryd.prog 30 #[.pointer (some ⟨r, 0, none⟩), .int .i64 fn, .slice b n c] W (ExecPost (ex e us fn zs) F r base fl W)
def callQ (ex : Exec) (fs : List Fun) (x : Fr) (e : Ev) (us m : Int) : Int × Fr × Ev × Int :=
  if m ≤ x.1 ∨ (fs.length : Int) ≤ m then (10, x, e, us)
  else if allSet x (fs.getD m.toNat zeroF).1.toNat = true then
    (if (ex e us m (regsL x (fs.getD m.toNat zeroF).1.toNat)).1 = 0 then (0, backF x (ex e us m (regsL x (fs.getD m.toNat zeroF).1.toNat)).2.1, (ex e us m (regsL x (fs.getD m.toNat zeroF).1.toNat)).2.2.1, (ex e us m (regsL x (fs.getD m.toNat zeroF).1.toNat)).2.2.2)
     else ((ex e us m (regsL x (fs.getD m.toNat zeroF).1.toNat)).1, x, (ex e us m (regsL x (fs.getD m.toNat zeroF).1.toNat)).2.2.1, (ex e us m (regsL x (fs.getD m.toNat zeroF).1.toNat)).2.2.2))
  else (10, x, e, us)
theorem callQ_far {ex : Exec} {fs : List Fun} {x : Fr} {e : Ev} {us m : Int} (h : m ≤ x.1 ∨ (fs.length : Int) ≤ m) : callQ ex fs x e us m = (10, x, e, us) := if_pos h
theorem callQ_no {ex : Exec} {fs : List Fun} {x : Fr} {e : Ev} {us : Int} {k n : Nat} (h : ¬ ((k : Int) ≤ x.1 ∨ (fs.length : Int) ≤ (k : Int))) (hn : (fs.getD k zeroF).1.toNat = n) (hA : allSet x n = false) : callQ ex fs x e us (k : Int) = (10, x, e, us) := by
  subst hn
  unfold callQ
  rw [if_neg h, if_neg (by rw [Int.toNat_natCast, hA]; simp)]
theorem callQ_bad {ex : Exec} {fs : List Fun} {x : Fr} {e : Ev} {us : Int} {k n : Nat} {q : Int × Int × Ev × Int} (h : ¬ ((k : Int) ≤ x.1 ∨ (fs.length : Int) ≤ (k : Int))) (hn : (fs.getD k zeroF).1.toNat = n) (hA : allSet x n = true) (hq : ex e us k (regsL x n) = q) (h0 : q.1 ≠ 0) : callQ ex fs x e us (k : Int) = (q.1, x, q.2.2.1, q.2.2.2) := by
  subst hn
  subst hq
  unfold callQ
  rw [if_neg h]
  simp only [Int.toNat_natCast]
  rw [if_pos hA, if_neg h0]
theorem callQ_ok {ex : Exec} {fs : List Fun} {x : Fr} {e : Ev} {us : Int} {k n : Nat} {q : Int × Int × Ev × Int} (h : ¬ ((k : Int) ≤ x.1 ∨ (fs.length : Int) ≤ (k : Int))) (hn : (fs.getD k zeroF).1.toNat = n) (hA : allSet x n = true) (hq : ex e us k (regsL x n) = q) (h0 : q.1 = 0) : callQ ex fs x e us (k : Int) = (0, backF x q.2.1, q.2.2.1, q.2.2.2) := by
  subst hn
  subst hq
  unfold callQ
  rw [if_neg h]
  simp only [Int.toNat_natCast]
  rw [if_pos hA, if_pos h0]
set_option maxRecDepth 100000 in
set_option maxHeartbeats 20000000 in
theorem icall_any (ex : Exec) (G : Int) (w0 : World) (a : Option Addr) (len cap : Nat) (fs : List Fun) (hP : FnsAt w0 a len cap fs) (hAr : ∀ k, k < len → 0 ≤ (fs.getD k zeroF).1 ∧ (fs.getD k zeroF).1 ≤ 7) (f r base : Nat) (fl : Int) (hx : ExecOk ex G w0 (.slice a len cap) fs r base fl)
    (x : Fr) (V : Value) (e : Ev) (us : Int) (op fn d s : Int) (rg : Bool) (o m : Int) (hm : isW m) (hrf : r ≠ f) (W : World) (h : FrAt W f r x) (hR : Box W r 68 (RunA (.slice a len cap) e V fl us)) (hT : TabsI W base V e.2.1) (hok : okEv e) (hb : base ≤ W.heap.size) (hw0 : Below w0.heap.size w0 W) (hx0 : 0 ≤ x.1) (hx1 : x.1 ≤ 100) (hG : fl - us < G) (hu0 : 0 ≤ us) (hu1 : us ≤ fl) :
    Calls Tryd.prog 74 #[.pointer (some ⟨f, 0, none⟩), inV op fn d s rg o m] W fun en w' => en = .returned (.int .i64 (callQ ex fs x e us m).1) ∧ Two r f W w' ∧ FrAt w' f r (callQ ex fs x e us m).2.1 ∧ okEv (callQ ex fs x e us m).2.2.1 ∧ ∃ V', Box w' r 68 (RunA (.slice a len cap) (callQ ex fs x e us m).2.2.1 V' fl (callQ ex fs x e us m).2.2.2) ∧ TabsI w' base V' (callQ ex fs x e us m).2.2.1.2.1 := by
  have hw64 : wrap64 m = m := by unfold wrap64; have := hm.1; have := hm.2; omega
  obtain ⟨k, rfl⟩ : ∃ k : Nat, m = k := ⟨m.toNat, by have := hm.1; omega⟩
  have hb1 : Below W.heap.size W (W.alloc (.cells #[.int .i64 op, .int .i64 fn, .int .i64 d, .int .i64 s, .bool rg, .int .i64 o, .int .u32 (k : Int)] 50)) := (Below.refl _ _).alloc (Nat.le_refl _) _
  have i6 : (W.alloc (.cells #[.int .i64 op, .int .i64 fn, .int .i64 d, .int .i64 s, .bool rg, .int .i64 o, .int .u32 (k : Int)] 50)).cell? ⟨W.heap.size, 6, none⟩ = some (.int .u32 (k : Int)) := (Box.new W 50 #[.int .i64 op, .int .i64 fn, .int .i64 d, .int .i64 s, .bool rg, .int .i64 o, .int .u32 (k : Int)]).cell rfl
  obtain ⟨W1, hW1⟩ : ∃ W1, W.alloc (.cells #[.int .i64 op, .int .i64 fn, .int .i64 d, .int .i64 s, .bool rg, .int .i64 o, .int .u32 (k : Int)] 50) = W1 := ⟨_, rfl⟩
  rw [hW1] at hb1 i6
  have hbb : Below w0.heap.size w0 W1 := hw0.trans (hb1.mono hw0.size)
  have HF := Lib.hid (h.later hb1)
  have HR := Lib.hid (hR.later hb1)
  have HT := Lib.hid (hT.below hb1)
  have HB1 := Lib.hid hb1
  have HBB := Lib.hid hbb
  have HP := Lib.hid (hP.below hbb)
  have HX := Lib.hid hx
  have HOK := Lib.hid hok
  have HAr := Lib.hid hAr
  have hln : fs.length = len := hP.1
  have hlm : len ≤ maxLen := Nat.le_trans hP.2.1 hP.2.2.1
  have r0 := HF.out.run
  have r1 := HF.out.fn
  have q0 : W1.cell? ⟨r, 0, none⟩ = some (.slice a len cap) := HR.out.cell rfl
  obtain ⟨xf, hxf⟩ : ∃ xf, x.1 = xf := ⟨_, rfl⟩
  rw [hxf] at r1 hx0 hx1
  have HXf := Lib.hid hxf
  clear h hR hT hb1 hbb hP hx hok hAr hxf hm hw0
  have hk0 : (0 : Int) ≤ (k : Int) := Int.natCast_nonneg _
  by_cases hfar : (k : Int) ≤ xf
  · have HQ : Hid (callQ ex fs x e us (k : Int) = (10, x, e, us)) := Lib.hid (callQ_far (.inl (by rw [HXf.out]; exact hfar)))
    go_enter Tryd.func74, Tryd.ntmps74
    go_wp2_with fail
    go_ret
    rw [HQ.out]
    exact ⟨rfl, .of_below HB1.out, HF.out, HOK.out, V, HR.out, HT.out⟩
  by_cases hlen : (len : Int) ≤ (k : Int)
  · have HQ : Hid (callQ ex fs x e us (k : Int) = (10, x, e, us)) := Lib.hid (callQ_far (.inr (by rw [hln]; exact hlen)))
    go_enter Tryd.func74, Tryd.ntmps74
    go_wp2_with fail
    go_ret
    rw [HQ.out]
    exact ⟨rfl, .of_below HB1.out, HF.out, HOK.out, V, HR.out, HT.out⟩
  have hkl : k < len := by omega
  have hklI : (k : Int) < (len : Int) := by omega
  obtain ⟨y, rfl, hfns⟩ : ∃ y, a = some y ∧ ∀ j, j < len → FnHere W1 (y.add (j * 2)) (fs.getD j zeroF) := by
    rcases HP.out.2.2.2 with h | h
    · omega
    · exact h
  obtain ⟨c0, bc, lc, cc, c1, _⟩ := hfns k hkl
  obtain ⟨A, hA⟩ : ∃ A, (fs.getD k zeroF).1 = A := ⟨_, rfl⟩
  obtain ⟨n, rfl⟩ : ∃ n : Nat, A = n := ⟨A.toNat, by have := (HAr.out k hkl).1; omega⟩
  have hn7 : n ≤ 7 := by have := (HAr.out k hkl).2; omega
  have hnt : (fs.getD k zeroF).1.toNat = n := by omega
  rw [hA] at c0
  have hng : ¬ ((k : Int) ≤ x.1 ∨ (fs.length : Int) ≤ (k : Int)) := by rw [HXf.out, hln]; omega
  have cA := fun W' (hb' : Below W1.heap.size W1 W') => rargs_any f r x (n : Int) n hn7 (by simp) W' (HF.out.later hb')
  have HAn := Lib.hid hA
  have HNt := Lib.hid hnt
  have HNg := Lib.hid hng
  clear hfns c1 hA hnt hng
  go_enter Tryd.func74, Tryd.ntmps74
  go_wp2_with fail
  refine (cA _ (Below.refl _ _)).mono ?_
  rintro e2 w2 ⟨hb2, ⟨hA, rfl⟩ | ⟨hA, b, cc2, rfl, hWd⟩⟩
  · have HQ := Lib.hid (callQ_no (ex := ex) (e := e) (us := us) HNg.out HNt.out hA)
    have hBW : Below W.heap.size W w2 := HB1.out.trans (hb2.mono HB1.out.size)
    have HXX : Hid (Two r f W w2 ∧ FrAt w2 f r x ∧ okEv e ∧ ∃ V', Box w2 r 68 (RunA (.slice (some y) len cap) e V' fl us) ∧ TabsI w2 base V' e.2.1) := Lib.hid ⟨.of_below hBW, HF.out.later hb2, HOK.out, V, HR.out.later hb2, HT.out.below hb2⟩
    clear cA i6 hb2 hBW r0 r1 q0 c0
    go_wp2_with fail
    go_ret
    rw [HQ.out]
    exact ⟨rfl, HXX.out⟩
  have hBW : Below W.heap.size W w2 := HB1.out.trans (hb2.mono HB1.out.size)
  have HBW := Lib.hid hBW
  have HF2 := Lib.hid (HF.out.later hb2)
  have HR2 := Lib.hid (HR.out.later hb2)
  have HT2 := Lib.hid (HT.out.below hb2)
  have HBB2 := Lib.hid (HBB.out.trans (hb2.mono HBB.out.size))
  have HA := Lib.hid hA
  have r0 := HF2.out.run
  obtain ⟨q, hq⟩ : ∃ q, ex e us k (regsL x n) = q := ⟨_, rfl⟩
  have cX := HX.out k b n cc2 (regsL x n) e V us w2 (by omega) HAn.out.symm hWd HBB2.out HR2.out HT2.out HOK.out (Nat.le_trans hb HBW.out.size) hG hu0 hu1
  rw [hq] at cX
  have HQe := Lib.hid hq
  clear cA i6 hb2 hBW hA hWd hq r1 q0 c0
  go_wp2_with fail
  refine cX.mono ?_
  rintro e3 w3 ⟨rfl, hg3, hqw, hqo, V3, hR3, hT3⟩
  have HQw := Lib.hid hqw
  have HQo := Lib.hid hqo
  have hF3 := HF2.out.grown hg3 (fun ee => hrf (Option.some.inj ee).symm)
  have HG3 : Hid (Two r f W w3) := Lib.hid ((Two.of_below HBW.out).trans (.run hg3))
  have HF3 := Lib.hid hF3
  have HR3 := Lib.hid hR3
  have HT3 := Lib.hid hT3
  obtain ⟨er, qv, qe, qu⟩ := q
  clear cX hg3 hR3 hT3 hF3 r0 hqw hqo
  by_cases her : er = 0
  · subst her
    have HQ := Lib.hid (callQ_ok (ex := ex) (e := e) (us := us) HNg.out HNt.out HA.out HQe.out rfl)
    go_wp2_with fail
    refine (back_any f r x qv HQw.out _ HF3.out).mono ?_
    rintro e9 w9 ⟨rfl, hg9, hF9⟩
    have HXX : Hid (Two r f W w9 ∧ FrAt w9 f r (backF x qv) ∧ okEv qe ∧ ∃ V', Box w9 r 68 (RunA (.slice (some y) len cap) qe V' fl qu) ∧ TabsI w9 base V' qe.2.1) := Lib.hid ⟨HG3.out.trans (.frame hg9), hF9, HQo.out, V3, HR3.out.grown hg9 (fun ee => hrf (Option.some.inj ee)), by
      obtain ⟨cs, hbx, _⟩ := HF3.out
      exact HT3.out.far hbx (by decide) (by decide) (by decide) hg9⟩
    clear hg9 hF9
    go_wp2_with fail
    go_ret
    rw [HQ.out]
    exact ⟨rfl, HXX.out⟩
  have HQ := Lib.hid (callQ_bad (ex := ex) (e := e) (us := us) HNg.out HNt.out HA.out HQe.out her)
  go_wp2_with fail
  go_ret
  rw [HQ.out]
  exact ⟨rfl, HG3.out, HF3.out, HQo.out, V3, HR3.out, HT3.out⟩
end Go.Proofs.YtilddlgcfbefiaaDoor

