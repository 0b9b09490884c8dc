/-
  Texts that the laws of this layer stand on, one behind the other.
-/
import Derived.Test.YtilddlgcfbefiaaDoorGja
import Derived.Test.YtilddlgcfbefiaaDoorGjb
import Derived.BigRegion
/-
  What the interpreter's compute does to a frame, as a contract over the translated program.
-/
namespace Go.Proofs.YtilddlgcfbefiaaDoor
set_option linter.unusedSimpArgs false
set_option linter.unusedVariables false
open Go Go.RowKit
def compP (x : Fr) (fn : Int) (d : Nat) (ov : Int) (ob : Bool) : Int × Fr := if ob && (x.isSet d || fn == 0) then (0, putF x d (doI fn (x.reg d) ov)) else (10, x)
set_option maxRecDepth 100000 in
set_option maxHeartbeats 20000000 in
theorem compute_any (f r : Nat) (x : Fr) (op fn : Int) (d : Nat) (s : Int) (rg : Bool) (o m : Int) (hd : d < 8) (hs0 : 0 ≤ s) (hs7 : s < 8) (hm : isW m) (hf0 : 0 ≤ fn) (hf1 : fn ≤ 10) (W : World) (h : FrAt W f r x) :
    Calls Tryd.prog 69 #[.pointer (some ⟨f, 0, none⟩), inV op fn (d : Int) s rg o m] W fun e w' => e = .returned (.int .i64 (compP x fn d (opW x rg s m) (opS x rg s)).1) ∧ W.grownBy w' (some f) ∧ FrAt w' f r (compP x fn d (opW x rg s m) (opS x rg s)).2 := by
  have hb : Below W.heap.size W (W.alloc (.cells #[.int .i64 op, .int .i64 fn, .int .i64 (d : Int), .int .i64 s, .bool rg, .int .i64 o, .int .u32 m] 50)) := (Below.refl _ _).alloc (Nat.le_refl _) _
  have HI := Lib.hid (Box.new W 50 #[.int .i64 op, .int .i64 fn, .int .i64 (d : Int), .int .i64 s, .bool rg, .int .i64 o, .int .u32 m])
  have HFl := Lib.hid h.lt
  have HOw := Lib.hid (opW_w h rg s m hm)
  have HRw := Lib.hid (h.isw d)
  obtain ⟨W1, hW1⟩ : ∃ W1, W.alloc (.cells #[.int .i64 op, .int .i64 fn, .int .i64 (d : Int), .int .i64 s, .bool rg, .int .i64 o, .int .u32 m] 50) = W1 := ⟨_, rfl⟩
  have hsz : W1.heap.size = W.heap.size + 1 := by rw [← hW1]; simp
  rw [hW1] at hb HI
  have HF := Lib.hid (h.later hb)
  have HB := Lib.hid hb
  obtain ⟨a0, a1⟩ := HF.out.word hd
  have i0 : W1.cell? ⟨W.heap.size, 0, none⟩ = some (.int .i64 op) := HI.out.cell rfl
  have i1 : W1.cell? ⟨W.heap.size, 1, none⟩ = some (.int .i64 fn) := HI.out.cell rfl
  have i2 : W1.cell? ⟨W.heap.size, 2, none⟩ = some (.int .i64 (d : Int)) := HI.out.cell rfl
  have i3 : W1.cell? ⟨W.heap.size, 3, none⟩ = some (.int .i64 s) := HI.out.cell rfl
  have i4 : W1.cell? ⟨W.heap.size, 4, none⟩ = some (.bool rg) := HI.out.cell rfl
  have i5 : W1.cell? ⟨W.heap.size, 5, none⟩ = some (.int .i64 o) := HI.out.cell rfl
  have i6 : W1.cell? ⟨W.heap.size, 6, none⟩ = some (.int .u32 m) := HI.out.cell rfl
  have hdI : (d : Int) < 8 := by omega
  have HD := Lib.hid hd
  obtain ⟨av, hav⟩ : ∃ av, x.reg d = av := ⟨_, rfl⟩
  obtain ⟨ab, hab⟩ : ∃ ab, x.isSet d = ab := ⟨_, rfl⟩
  obtain ⟨ov, hov⟩ : ∃ ov, opW x rg s m = ov := ⟨_, rfl⟩
  obtain ⟨ob, hob⟩ : ∃ ob, opS x rg s = ob := ⟨_, rfl⟩
  have hcall : ∀ W', Below W1.heap.size W1 W' → Calls Tryd.prog 91 #[.pointer (some ⟨f, 0, none⟩), inV op fn (d : Int) s rg o m] W' fun e w' => e = .returned (.agg #[.int .u32 ov, .bool ob]) ∧ Below W'.heap.size W' w' := fun W' hb' => by
    have hq := operand_any f r x op fn (d : Int) s rg o m hs0 hs7 W' (HF.out.later hb')
    rw [hov, hob] at hq
    exact hq
  rw [hov] at HOw
  rw [hav] at HRw a0
  rw [hab] at a1
  simp only [hov, hob]
  have HAV := Lib.hid hav
  have HAB := Lib.hid hab
  have HKp : Hid (∀ W', Below W1.heap.size W1 W' → W'.cell? ⟨f, 3 + d * 2, none⟩ = some (.int .u32 av) ∧ W'.cell? ⟨f, 3 + d * 2 + 1, none⟩ = some (.bool ab) ∧ W'.cell? ⟨W.heap.size, 0, none⟩ = some (.int .i64 op) ∧ W'.cell? ⟨W.heap.size, 1, none⟩ = some (.int .i64 fn) ∧ W'.cell? ⟨W.heap.size, 2, none⟩ = some (.int .i64 (d : Int)) ∧ W'.cell? ⟨W.heap.size, 3, none⟩ = some (.int .i64 s) ∧ W'.cell? ⟨W.heap.size, 4, none⟩ = some (.bool rg) ∧ W'.cell? ⟨W.heap.size, 5, none⟩ = some (.int .i64 o) ∧ W'.cell? ⟨W.heap.size, 6, none⟩ = some (.int .u32 m)) := Lib.hid (fun W' hb => ⟨(hb.cell (lt_of_cell a0)).trans a0, (hb.cell (lt_of_cell a1)).trans a1, (hb.cell (lt_of_cell i0)).trans i0, (hb.cell (lt_of_cell i1)).trans i1, (hb.cell (lt_of_cell i2)).trans i2, (hb.cell (lt_of_cell i3)).trans i3, (hb.cell (lt_of_cell i4)).trans i4, (hb.cell (lt_of_cell i5)).trans i5, (hb.cell (lt_of_cell i6)).trans i6⟩)
  clear hav hab hov hob hb h a0 a1 i0 i1 i2 i3 i4 i5 i6 hd hs0 hs7 hm hsz
  have HFn := Lib.hid (And.intro hf0 hf1)
  clear hf0 hf1
  go_enter Tryd.func69, Tryd.ntmps69
  go_wp2_with fail
  clear hW1
  refine wp_region_held_drew (S := (fun W' => W'.cell? ⟨f, 3 + d * 2, none⟩ = some (.int .u32 av) ∧ W'.cell? ⟨f, 3 + d * 2 + 1, none⟩ = some (.bool ab) ∧ W'.cell? ⟨W.heap.size, 0, none⟩ = some (.int .i64 op) ∧ W'.cell? ⟨W.heap.size, 1, none⟩ = some (.int .i64 fn) ∧ W'.cell? ⟨W.heap.size, 2, none⟩ = some (.int .i64 (d : Int)) ∧ W'.cell? ⟨W.heap.size, 3, none⟩ = some (.int .i64 s) ∧ W'.cell? ⟨W.heap.size, 4, none⟩ = some (.bool rg) ∧ W'.cell? ⟨W.heap.size, 5, none⟩ = some (.int .i64 o) ∧ W'.cell? ⟨W.heap.size, 6, none⟩ = some (.int .u32 m))) (by kernel_rfl) (HKp.out _ (Below.refl _ _).drew) (fun hHeld => ?_)
  refine wpAnyH_yield (i := 0) (v := ?v0) rfl rfl (by kernel_rfl) (by kernel_rfl) (by kernel_rfl) (fun _ _ _ h => h) (by rfl) ?hy0 hHeld ?rest0
  case hy0 =>
    intro w hSw
    (try dsimp only at hSw)
    go_simp
    try with_reducible rfl
  simp only [Act.put, List.setIfInBounds_toArray, List.set_cons_zero, List.set_cons_succ]
  refine wpAnyH_yield (i := 1) (v := ?v1) rfl rfl (by kernel_rfl) (by kernel_rfl) (by kernel_rfl) (fun _ _ _ h => h) (by rfl) ?hy1 hHeld ?rest1
  case hy1 =>
    intro w hSw
    (try dsimp only at hSw)
    go_simp
    try with_reducible rfl
  simp only [Act.put, List.setIfInBounds_toArray, List.set_cons_zero, List.set_cons_succ]
  refine wpAnyH_yield (i := 2) (v := ?v2) rfl rfl (by kernel_rfl) (by kernel_rfl) (by kernel_rfl) (fun _ _ _ h => h) (by rfl) ?hy2 hHeld ?rest2
  case hy2 =>
    intro w hSw
    (try dsimp only at hSw)
    go_simp
    try with_reducible rfl
  simp only [Act.put, List.setIfInBounds_toArray, List.set_cons_zero, List.set_cons_succ]
  refine wpAnyH_yield (i := 3) (v := ?v3) rfl rfl (by kernel_rfl) (by kernel_rfl) (by kernel_rfl) (fun _ _ _ h => h) (by rfl) ?hy3 hHeld ?rest3
  case hy3 =>
    intro w hSw
    (try dsimp only at hSw)
    go_simp
    try with_reducible rfl
  simp only [Act.put, List.setIfInBounds_toArray, List.set_cons_zero, List.set_cons_succ]
  refine wpAnyH_yield (i := 4) (v := ?v4) rfl rfl (by kernel_rfl) (by kernel_rfl) (by kernel_rfl) (fun _ _ _ h => h) (by rfl) ?hy4 hHeld ?rest4
  case hy4 =>
    intro w hSw
    (try dsimp only at hSw)
    go_simp
    try with_reducible rfl
  simp only [Act.put, List.setIfInBounds_toArray, List.set_cons_zero, List.set_cons_succ]
  refine wpAnyH_yield (i := 5) (v := ?v5) rfl rfl (by kernel_rfl) (by kernel_rfl) (by kernel_rfl) (fun _ _ _ h => h) (by rfl) ?hy5 hHeld ?rest5
  case hy5 =>
    intro w hSw
    (try dsimp only at hSw)
    go_simp
    try with_reducible rfl
  simp only [Act.put, List.setIfInBounds_toArray, List.set_cons_zero, List.set_cons_succ]
  refine wpAnyH_yield (i := 6) (v := ?v6) rfl rfl (by kernel_rfl) (by kernel_rfl) (by kernel_rfl) (fun _ _ _ h => h) (by rfl) ?hy6 hHeld ?rest6
  case hy6 =>
    intro w hSw
    (try dsimp only at hSw)
    go_simp
    try with_reducible rfl
  simp only [Act.put, List.setIfInBounds_toArray, List.set_cons_zero, List.set_cons_succ]
  refine wpAnyH_yield (i := 7) (v := ?v7) rfl rfl (by kernel_rfl) (by kernel_rfl) (by kernel_rfl) (fun _ _ _ h => h) (by rfl) ?hy7 hHeld ?rest7
  case hy7 =>
    intro w hSw
    (try dsimp only at hSw)
    go_simp
    try with_reducible rfl
  simp only [Act.put, List.setIfInBounds_toArray, List.set_cons_zero, List.set_cons_succ]
  refine wpAnyH_yield (i := 8) (v := ?v8) rfl rfl (by kernel_rfl) (by kernel_rfl) (by kernel_rfl) (fun _ _ _ h => h) (by rfl) ?hy8 hHeld ?rest8
  case hy8 =>
    intro w hSw
    (try dsimp only at hSw)
    go_simp
    try with_reducible rfl
  simp only [Act.put, List.setIfInBounds_toArray, List.set_cons_zero, List.set_cons_succ]
  refine wpAnyH_ready (rs := [9, 10, 11]) (by kernel_rfl) (by simp) ?_
  refine AllReadyH.cons rfl (fun K hK => ?_) ?_
  · go_simp
    refine (hcall W1.drew ((Below.refl W1.heap.size W1).drew)).mono ?_
    rintro e my1 ⟨rfl, hb⟩
    have HBy1 : Hid (Below W1.heap.size W1 my1) := Lib.hid (((Below.refl W1.heap.size W1).drew).trans (hb.mono ((Below.refl W1.heap.size W1).drew).size))
    clear hb
    go_wp2_with fail
    refine hK.out _ _ (HKp.out _ HBy1.out) (fun hHeld => ?_)
    clear hK K
    try simp only [Act.put, List.setIfInBounds_toArray, List.set_cons_zero, List.set_cons_succ]
    refine wpAnyH_ready (rs := [10, 11]) (by kernel_rfl) (by simp) ?_
    refine AllReadyH.cons rfl (fun K hK => ?_) ?_
    · have HBy2 : Hid (Below W1.heap.size W1 (my1.alloc (.cells #[.int .u32 0, .bool false] 88))) := Lib.hid (HBy1.out.alloc (HBy1.out).size _)
      have HWAy2 : Hid (Box (my1.alloc (.cells #[.int .u32 0, .bool false] 88)) (my1.heap.size) 88 #[.int .u32 0, .bool false]) := Lib.hid (by have := Box.new my1 88 #[.int .u32 0, .bool false]; rwa [show (my1).heap.size = my1.heap.size by simp] at this)
      have hgey2 : W1.heap.size ≤ my1.heap.size := by have := (HBy1.out).size; first | omega | (simp at this; omega)
      go_simp
      refine hK.out _ _ (HKp.out _ HBy2.out) (fun hHeld => ?_)
      clear hK K
      try simp only [Act.put, List.setIfInBounds_toArray, List.set_cons_zero, List.set_cons_succ]
      refine wpAnyH_ready (rs := [11]) (by kernel_rfl) (by simp) ?_
      refine AllReadyH.cons rfl (fun K hK => ?_) AllReadyH.nil
      have HBy3 : Hid (Below W1.heap.size W1 ((my1.alloc (.cells #[.int .u32 0, .bool false] 88)).alloc (.cells #[.int .u32 0, .bool false] 88))) := Lib.hid (HBy2.out.alloc (HBy2.out).size _)
      have HWBy3 : Hid (Box ((my1.alloc (.cells #[.int .u32 0, .bool false] 88)).alloc (.cells #[.int .u32 0, .bool false] 88)) (my1.heap.size + 1) 88 #[.int .u32 0, .bool false]) := Lib.hid (by have := Box.new (my1.alloc (.cells #[.int .u32 0, .bool false] 88)) 88 #[.int .u32 0, .bool false]; rwa [show ((my1.alloc (.cells #[.int .u32 0, .bool false] 88))).heap.size = my1.heap.size + 1 by simp] at this)
      have hney3 : my1.heap.size ≠ my1.heap.size + 1 := by have := HWAy2.out.lt; first | omega | (simp at this; omega)
      have HWAy3 := Lib.hid (HWAy2.out.alloc (.cells #[.int .u32 0, .bool false] 88))
      have hgey3 : W1.heap.size ≤ my1.heap.size + 1 := by have := (HBy2.out).size; first | omega | (simp at this; omega)
      go_simp
      refine hK.out _ _ (HKp.out _ HBy3.out) (fun hHeld => ?_)
      clear hK K
      try simp only [Act.put, List.setIfInBounds_toArray, List.set_cons_zero, List.set_cons_succ]
      have hx1z4 : Below W1.heap.size W1 (((my1.alloc (.cells #[.int .u32 0, .bool false] 88)).alloc (.cells #[.int .u32 0, .bool false] 88)).setRow (my1.heap.size) #[.int .u32 av, .bool ab]) := below_setRow (HBy3.out) hgey2 _
      have HBxz4 : Hid (Below W1.heap.size W1 ((((my1.alloc (.cells #[.int .u32 0, .bool false] 88)).alloc (.cells #[.int .u32 0, .bool false] 88)).setRow (my1.heap.size) #[.int .u32 av, .bool ab]).setRow (my1.heap.size + 1) #[.int .u32 ov, .bool ob])) := Lib.hid (below_setRow hx1z4 hgey3 _)
      have HB1z4 : Hid (Box (((my1.alloc (.cells #[.int .u32 0, .bool false] 88)).alloc (.cells #[.int .u32 0, .bool false] 88)).setRow (my1.heap.size) #[.int .u32 av, .bool ab]) (my1.heap.size + 1) 88 #[.int .u32 0, .bool false]) := Lib.hid (HWBy3.out.grown (grownBy_setRow _ _ _) (fun e => by have := Option.some.inj e; omega))
      have HA1z4 : Hid (Box (((my1.alloc (.cells #[.int .u32 0, .bool false] 88)).alloc (.cells #[.int .u32 0, .bool false] 88)).setRow (my1.heap.size) #[.int .u32 av, .bool ab]) (my1.heap.size) 88 #[.int .u32 av, .bool ab]) := Lib.hid (setRow_heap _ _ _ _ _ _ HWAy3.out)
      have HXAz4 : Hid (Box ((((my1.alloc (.cells #[.int .u32 0, .bool false] 88)).alloc (.cells #[.int .u32 0, .bool false] 88)).setRow (my1.heap.size) #[.int .u32 av, .bool ab]).setRow (my1.heap.size + 1) #[.int .u32 ov, .bool ob]) (my1.heap.size) 88 #[.int .u32 av, .bool ab]) := Lib.hid (HA1z4.out.grown (grownBy_setRow _ _ _) (fun e => by have := Option.some.inj e; omega))
      have HXBz4 : Hid (Box ((((my1.alloc (.cells #[.int .u32 0, .bool false] 88)).alloc (.cells #[.int .u32 0, .bool false] 88)).setRow (my1.heap.size) #[.int .u32 av, .bool ab]).setRow (my1.heap.size + 1) #[.int .u32 ov, .bool ob]) (my1.heap.size + 1) 88 #[.int .u32 ov, .bool ob]) := Lib.hid (setRow_heap _ _ _ _ _ _ HB1z4.out)
      refine wpAnyH_ready (rs := [12]) (by kernel_rfl) (by simp) ?_
      refine AllReadyH.cons rfl (fun K hK => ?_) AllReadyH.nil
      refine step_rowJ _ (by rfl) 88 _ _ (by rfl) (by rfl) (my1.heap.size) #[.int .u32 av, .bool ab] (by rfl) (by rfl) 88 _ HWAy3.out (by kernel_rfl) rfl (by simp [Value.oneCell']) ?_
      refine hK.out _ _ (HKp.out _ hx1z4) (fun hHeld => ?_)
      clear hK K
      try simp only [Act.put, List.setIfInBounds_toArray, List.set_cons_zero, List.set_cons_succ]
      refine wpAnyH_ready (rs := [13]) (by kernel_rfl) (by simp) ?_
      refine AllReadyH.cons rfl (fun K hK => ?_) AllReadyH.nil
      refine step_rowJ _ (by rfl) 88 _ _ (by rfl) (by rfl) (my1.heap.size + 1) #[.int .u32 ov, .bool ob] (by rfl) (by rfl) 88 _ HB1z4.out (by kernel_rfl) rfl (by simp [Value.oneCell']) ?_
      refine hK.out _ _ (HKp.out _ HBxz4.out) (fun hHeld => ?_)
      clear hK K
      try simp only [Act.put, List.setIfInBounds_toArray, List.set_cons_zero, List.set_cons_succ]
      refine wpAnyH_done (by kernel_rfl) ?_ _
      have HXA := HXAz4
      have HXB := HXBz4
      have HXX := HBxz4
      generalize hX : ((((my1.alloc (.cells #[.int .u32 0, .bool false] 88)).alloc (.cells #[.int .u32 0, .bool false] 88)).setRow (my1.heap.size) #[.int .u32 av, .bool ab]).setRow (my1.heap.size + 1) #[.int .u32 ov, .bool ob]) = X at HXA HXB HXX ⊢
      generalize hPB : my1.heap.size + 1 = PB at HXB ⊢
      generalize hPA : my1.heap.size = PA at HXA ⊢
      clear hX hPA hPB HXAz4 HXBz4 HBxz4 HA1z4 HB1z4 hx1z4 hHeld
      have HFX := Lib.hid (HF.out.later HXX.out)
      have HIX := Lib.hid (HI.out.later HXX.out)
      have HGX : Hid (W.grownBy X (some f)) := Lib.hid (grownBy_of_below (HB.out.trans (HXX.out.mono HB.out.size)) _)
      have x1 : X.cell? ⟨W.heap.size, 1, none⟩ = some (.int .i64 fn) := HIX.out.cell rfl
      have x2 : X.cell? ⟨W.heap.size, 2, none⟩ = some (.int .i64 (d : Int)) := HIX.out.cell rfl
      have x5 : X.cell? ⟨W.heap.size, 5, none⟩ = some (.int .i64 o) := HIX.out.cell rfl
      have p0 : X.cell? ⟨PA, 0, none⟩ = some (.int .u32 av) := HXA.out.cell rfl
      have p1 : X.cell? ⟨PA, 1, none⟩ = some (.bool ab) := HXA.out.cell rfl
      have q0 : X.cell? ⟨PB, 0, none⟩ = some (.int .u32 ov) := HXB.out.cell rfl
      have q1 : X.cell? ⟨PB, 1, none⟩ = some (.bool ob) := HXB.out.cell rfl
      clear HKp hcall HXX HXA HXB HF HI HB
      cases ob
      · have HQ : Hid (compP x fn d ov false = (10, x)) := Lib.hid (by simp [compP])
        go_wp2_with fail
        go_ret
        rw [HQ.out]
        exact ⟨rfl, HGX.out, HFX.out⟩
      cases ab
      · by_cases hf : fn = 0
        · have hfb : (fn != 0) = false := by simp [hf]
          have HQ : Hid (compP x fn d ov true = (0, putF x d (doI fn av ov))) := Lib.hid (by simp [compP, hf, HAV.out])
          clear hf
          go_wp2_with fail
          have cd := do_any fn av ov X HFn.out.1 HFn.out.2 HRw.out.1 HRw.out.2 HOw.out.1 HOw.out.2
          have hvw : isW (doI fn av ov) := ⟨doI_ge fn av ov, doI_le fn av ov HRw.out.2 HOw.out.2⟩
          have HVw := Lib.hid hvw
          clear hvw
          generalize doI fn av ov = dv at *
          refine cd.mono ?_
          rintro e m9 ⟨rfl, hb9⟩
          have HF9 := Lib.hid (HFX.out.later hb9)
          have hI9 := HIX.out.later hb9
          have HG9 : Hid (W.grownBy m9 (some f)) := Lib.hid (grow_trans HGX.out (grownBy_of_below hb9 _))
          clear cd hb9 p0 p1 q0 q1 x1 x2 x5
          have x2 : m9.cell? ⟨W.heap.size, 2, none⟩ = some (.int .i64 (d : Int)) := hI9.cell rfl
          clear hI9
          go_wp2_with fail
          refine (put_any f r x d HD.out dv HVw.out m9 HF9.out).mono ?_
          rintro e m8 ⟨rfl, hg8, hF8⟩
          have HF8 := Lib.hid hF8
          have HG8 := Lib.hid (grow_trans HG9.out hg8)
          clear hg8 hF8
          go_wp2_with fail
          go_ret
          rw [HQ.out]
          exact ⟨rfl, HG8.out, HF8.out⟩
        · have hfb : (fn != 0) = true := by simp [hf]
          have HQ : Hid (compP x fn d ov true = (10, x)) := Lib.hid (by simp [compP, hf, HAB.out])
          clear hf
          go_wp2_with fail
          go_ret
          rw [HQ.out]
          exact ⟨rfl, HGX.out, HFX.out⟩
      · have HQ : Hid (compP x fn d ov true = (0, putF x d (doI fn av ov))) := Lib.hid (by simp [compP, HAB.out, HAV.out])
        go_wp2_with fail
        have cd := do_any fn av ov X HFn.out.1 HFn.out.2 HRw.out.1 HRw.out.2 HOw.out.1 HOw.out.2
        have hvw : isW (doI fn av ov) := ⟨doI_ge fn av ov, doI_le fn av ov HRw.out.2 HOw.out.2⟩
        have HVw := Lib.hid hvw
        clear hvw
        generalize doI fn av ov = dv at *
        refine cd.mono ?_
        rintro e m9 ⟨rfl, hb9⟩
        have HF9 := Lib.hid (HFX.out.later hb9)
        have hI9 := HIX.out.later hb9
        have HG9 : Hid (W.grownBy m9 (some f)) := Lib.hid (grow_trans HGX.out (grownBy_of_below hb9 _))
        clear cd hb9 p0 p1 q0 q1 x1 x2 x5
        have x2 : m9.cell? ⟨W.heap.size, 2, none⟩ = some (.int .i64 (d : Int)) := hI9.cell rfl
        clear hI9
        go_wp2_with fail
        refine (put_any f r x d HD.out dv HVw.out m9 HF9.out).mono ?_
        rintro e m8 ⟨rfl, hg8, hF8⟩
        have HF8 := Lib.hid hF8
        have HG8 := Lib.hid (grow_trans HG9.out hg8)
        clear hg8 hF8
        go_wp2_with fail
        go_ret
        rw [HQ.out]
        exact ⟨rfl, HG8.out, HF8.out⟩
    refine AllReadyH.cons rfl (fun K hK => ?_) AllReadyH.nil
    have HBy5 : Hid (Below W1.heap.size W1 (my1.alloc (.cells #[.int .u32 0, .bool false] 88))) := Lib.hid (HBy1.out.alloc (HBy1.out).size _)
    have HWBy5 : Hid (Box (my1.alloc (.cells #[.int .u32 0, .bool false] 88)) (my1.heap.size) 88 #[.int .u32 0, .bool false]) := Lib.hid (by have := Box.new my1 88 #[.int .u32 0, .bool false]; rwa [show (my1).heap.size = my1.heap.size by simp] at this)
    have hgey5 : W1.heap.size ≤ my1.heap.size := by have := (HBy1.out).size; first | omega | (simp at this; omega)
    go_simp
    refine hK.out _ _ (HKp.out _ HBy5.out) (fun hHeld => ?_)
    clear hK K
    try simp only [Act.put, List.setIfInBounds_toArray, List.set_cons_zero, List.set_cons_succ]
    refine wpAnyH_ready (rs := [10]) (by kernel_rfl) (by simp) ?_
    refine AllReadyH.cons rfl (fun K hK => ?_) AllReadyH.nil
    have HBy6 : Hid (Below W1.heap.size W1 ((my1.alloc (.cells #[.int .u32 0, .bool false] 88)).alloc (.cells #[.int .u32 0, .bool false] 88))) := Lib.hid (HBy5.out.alloc (HBy5.out).size _)
    have HWAy6 : Hid (Box ((my1.alloc (.cells #[.int .u32 0, .bool false] 88)).alloc (.cells #[.int .u32 0, .bool false] 88)) (my1.heap.size + 1) 88 #[.int .u32 0, .bool false]) := Lib.hid (by have := Box.new (my1.alloc (.cells #[.int .u32 0, .bool false] 88)) 88 #[.int .u32 0, .bool false]; rwa [show ((my1.alloc (.cells #[.int .u32 0, .bool false] 88))).heap.size = my1.heap.size + 1 by simp] at this)
    have hney6 : my1.heap.size ≠ my1.heap.size + 1 := by have := HWBy5.out.lt; first | omega | (simp at this; omega)
    have HWBy6 := Lib.hid (HWBy5.out.alloc (.cells #[.int .u32 0, .bool false] 88))
    have hgey6 : W1.heap.size ≤ my1.heap.size + 1 := by have := (HBy5.out).size; first | omega | (simp at this; omega)
    go_simp
    refine hK.out _ _ (HKp.out _ HBy6.out) (fun hHeld => ?_)
    clear hK K
    try simp only [Act.put, List.setIfInBounds_toArray, List.set_cons_zero, List.set_cons_succ]
    have hx1z7 : Below W1.heap.size W1 (((my1.alloc (.cells #[.int .u32 0, .bool false] 88)).alloc (.cells #[.int .u32 0, .bool false] 88)).setRow (my1.heap.size + 1) #[.int .u32 av, .bool ab]) := below_setRow (HBy6.out) hgey6 _
    have HBxz7 : Hid (Below W1.heap.size W1 ((((my1.alloc (.cells #[.int .u32 0, .bool false] 88)).alloc (.cells #[.int .u32 0, .bool false] 88)).setRow (my1.heap.size + 1) #[.int .u32 av, .bool ab]).setRow (my1.heap.size) #[.int .u32 ov, .bool ob])) := Lib.hid (below_setRow hx1z7 hgey5 _)
    have HB1z7 : Hid (Box (((my1.alloc (.cells #[.int .u32 0, .bool false] 88)).alloc (.cells #[.int .u32 0, .bool false] 88)).setRow (my1.heap.size + 1) #[.int .u32 av, .bool ab]) (my1.heap.size) 88 #[.int .u32 0, .bool false]) := Lib.hid (HWBy6.out.grown (grownBy_setRow _ _ _) (fun e => by have := Option.some.inj e; omega))
    have HA1z7 : Hid (Box (((my1.alloc (.cells #[.int .u32 0, .bool false] 88)).alloc (.cells #[.int .u32 0, .bool false] 88)).setRow (my1.heap.size + 1) #[.int .u32 av, .bool ab]) (my1.heap.size + 1) 88 #[.int .u32 av, .bool ab]) := Lib.hid (setRow_heap _ _ _ _ _ _ HWAy6.out)
    have HXAz7 : Hid (Box ((((my1.alloc (.cells #[.int .u32 0, .bool false] 88)).alloc (.cells #[.int .u32 0, .bool false] 88)).setRow (my1.heap.size + 1) #[.int .u32 av, .bool ab]).setRow (my1.heap.size) #[.int .u32 ov, .bool ob]) (my1.heap.size + 1) 88 #[.int .u32 av, .bool ab]) := Lib.hid (HA1z7.out.grown (grownBy_setRow _ _ _) (fun e => by have := Option.some.inj e; omega))
    have HXBz7 : Hid (Box ((((my1.alloc (.cells #[.int .u32 0, .bool false] 88)).alloc (.cells #[.int .u32 0, .bool false] 88)).setRow (my1.heap.size + 1) #[.int .u32 av, .bool ab]).setRow (my1.heap.size) #[.int .u32 ov, .bool ob]) (my1.heap.size) 88 #[.int .u32 ov, .bool ob]) := Lib.hid (setRow_heap _ _ _ _ _ _ HB1z7.out)
    refine wpAnyH_ready (rs := [12]) (by kernel_rfl) (by simp) ?_
    refine AllReadyH.cons rfl (fun K hK => ?_) AllReadyH.nil
    refine step_rowJ _ (by rfl) 88 _ _ (by rfl) (by rfl) (my1.heap.size + 1) #[.int .u32 av, .bool ab] (by rfl) (by rfl) 88 _ HWAy6.out (by kernel_rfl) rfl (by simp [Value.oneCell']) ?_
    refine hK.out _ _ (HKp.out _ hx1z7) (fun hHeld => ?_)
    clear hK K
    try simp only [Act.put, List.setIfInBounds_toArray, List.set_cons_zero, List.set_cons_succ]
    refine wpAnyH_ready (rs := [13]) (by kernel_rfl) (by simp) ?_
    refine AllReadyH.cons rfl (fun K hK => ?_) AllReadyH.nil
    refine step_rowJ _ (by rfl) 88 _ _ (by rfl) (by rfl) (my1.heap.size) #[.int .u32 ov, .bool ob] (by rfl) (by rfl) 88 _ HB1z7.out (by kernel_rfl) rfl (by simp [Value.oneCell']) ?_
    refine hK.out _ _ (HKp.out _ HBxz7.out) (fun hHeld => ?_)
    clear hK K
    try simp only [Act.put, List.setIfInBounds_toArray, List.set_cons_zero, List.set_cons_succ]
    refine wpAnyH_done (by kernel_rfl) ?_ _
    have HXA := HXAz7
    have HXB := HXBz7
    have HXX := HBxz7
    generalize hX : ((((my1.alloc (.cells #[.int .u32 0, .bool false] 88)).alloc (.cells #[.int .u32 0, .bool false] 88)).setRow (my1.heap.size + 1) #[.int .u32 av, .bool ab]).setRow (my1.heap.size) #[.int .u32 ov, .bool ob]) = X at HXA HXB HXX ⊢
    generalize hPA : my1.heap.size + 1 = PA at HXA ⊢
    generalize hPB : my1.heap.size = PB at HXB ⊢
    clear hX hPA hPB HXAz7 HXBz7 HBxz7 HA1z7 HB1z7 hx1z7 hHeld
    have HFX := Lib.hid (HF.out.later HXX.out)
    have HIX := Lib.hid (HI.out.later HXX.out)
    have HGX : Hid (W.grownBy X (some f)) := Lib.hid (grownBy_of_below (HB.out.trans (HXX.out.mono HB.out.size)) _)
    have x1 : X.cell? ⟨W.heap.size, 1, none⟩ = some (.int .i64 fn) := HIX.out.cell rfl
    have x2 : X.cell? ⟨W.heap.size, 2, none⟩ = some (.int .i64 (d : Int)) := HIX.out.cell rfl
    have x5 : X.cell? ⟨W.heap.size, 5, none⟩ = some (.int .i64 o) := HIX.out.cell rfl
    have p0 : X.cell? ⟨PA, 0, none⟩ = some (.int .u32 av) := HXA.out.cell rfl
    have p1 : X.cell? ⟨PA, 1, none⟩ = some (.bool ab) := HXA.out.cell rfl
    have q0 : X.cell? ⟨PB, 0, none⟩ = some (.int .u32 ov) := HXB.out.cell rfl
    have q1 : X.cell? ⟨PB, 1, none⟩ = some (.bool ob) := HXB.out.cell rfl
    clear HKp hcall HXX HXA HXB HF HI HB
    cases ob
    · have HQ : Hid (compP x fn d ov false = (10, x)) := Lib.hid (by simp [compP])
      go_wp2_with fail
      go_ret
      rw [HQ.out]
      exact ⟨rfl, HGX.out, HFX.out⟩
    cases ab
    · by_cases hf : fn = 0
      · have hfb : (fn != 0) = false := by simp [hf]
        have HQ : Hid (compP x fn d ov true = (0, putF x d (doI fn av ov))) := Lib.hid (by simp [compP, hf, HAV.out])
        clear hf
        go_wp2_with fail
        have cd := do_any fn av ov X HFn.out.1 HFn.out.2 HRw.out.1 HRw.out.2 HOw.out.1 HOw.out.2
        have hvw : isW (doI fn av ov) := ⟨doI_ge fn av ov, doI_le fn av ov HRw.out.2 HOw.out.2⟩
        have HVw := Lib.hid hvw
        clear hvw
        generalize doI fn av ov = dv at *
        refine cd.mono ?_
        rintro e m9 ⟨rfl, hb9⟩
        have HF9 := Lib.hid (HFX.out.later hb9)
        have hI9 := HIX.out.later hb9
        have HG9 : Hid (W.grownBy m9 (some f)) := Lib.hid (grow_trans HGX.out (grownBy_of_below hb9 _))
        clear cd hb9 p0 p1 q0 q1 x1 x2 x5
        have x2 : m9.cell? ⟨W.heap.size, 2, none⟩ = some (.int .i64 (d : Int)) := hI9.cell rfl
        clear hI9
        go_wp2_with fail
        refine (put_any f r x d HD.out dv HVw.out m9 HF9.out).mono ?_
        rintro e m8 ⟨rfl, hg8, hF8⟩
        have HF8 := Lib.hid hF8
        have HG8 := Lib.hid (grow_trans HG9.out hg8)
        clear hg8 hF8
        go_wp2_with fail
        go_ret
        rw [HQ.out]
        exact ⟨rfl, HG8.out, HF8.out⟩
      · have hfb : (fn != 0) = true := by simp [hf]
        have HQ : Hid (compP x fn d ov true = (10, x)) := Lib.hid (by simp [compP, hf, HAB.out])
        clear hf
        go_wp2_with fail
        go_ret
        rw [HQ.out]
        exact ⟨rfl, HGX.out, HFX.out⟩
    · have HQ : Hid (compP x fn d ov true = (0, putF x d (doI fn av ov))) := Lib.hid (by simp [compP, HAB.out, HAV.out])
      go_wp2_with fail
      have cd := do_any fn av ov X HFn.out.1 HFn.out.2 HRw.out.1 HRw.out.2 HOw.out.1 HOw.out.2
      have hvw : isW (doI fn av ov) := ⟨doI_ge fn av ov, doI_le fn av ov HRw.out.2 HOw.out.2⟩
      have HVw := Lib.hid hvw
      clear hvw
      generalize doI fn av ov = dv at *
      refine cd.mono ?_
      rintro e m9 ⟨rfl, hb9⟩
      have HF9 := Lib.hid (HFX.out.later hb9)
      have hI9 := HIX.out.later hb9
      have HG9 : Hid (W.grownBy m9 (some f)) := Lib.hid (grow_trans HGX.out (grownBy_of_below hb9 _))
      clear cd hb9 p0 p1 q0 q1 x1 x2 x5
      have x2 : m9.cell? ⟨W.heap.size, 2, none⟩ = some (.int .i64 (d : Int)) := hI9.cell rfl
      clear hI9
      go_wp2_with fail
      refine (put_any f r x d HD.out dv HVw.out m9 HF9.out).mono ?_
      rintro e m8 ⟨rfl, hg8, hF8⟩
      have HF8 := Lib.hid hF8
      have HG8 := Lib.hid (grow_trans HG9.out hg8)
      clear hg8 hF8
      go_wp2_with fail
      go_ret
      rw [HQ.out]
      exact ⟨rfl, HG8.out, HF8.out⟩
  refine AllReadyH.cons rfl (fun K hK => ?_) ?_
  · have HBy8 : Hid (Below W1.heap.size W1 (W1.drew.alloc (.cells #[.int .u32 0, .bool false] 88))) := Lib.hid ((Below.refl W1.heap.size W1).drew.alloc ((Below.refl W1.heap.size W1).drew).size _)
    have HWAy8 : Hid (Box (W1.drew.alloc (.cells #[.int .u32 0, .bool false] 88)) (W1.heap.size) 88 #[.int .u32 0, .bool false]) := Lib.hid (by have := Box.new W1.drew 88 #[.int .u32 0, .bool false]; rwa [show (W1.drew).heap.size = W1.heap.size by simp] at this)
    have hgey8 : W1.heap.size ≤ W1.heap.size := by have := ((Below.refl W1.heap.size W1).drew).size; first | omega | (simp at this; omega)
    go_simp
    refine hK.out _ _ (HKp.out _ HBy8.out) (fun hHeld => ?_)
    clear hK K
    try simp only [Act.put, List.setIfInBounds_toArray, List.set_cons_zero, List.set_cons_succ]
    refine wpAnyH_ready (rs := [9, 11]) (by kernel_rfl) (by simp) ?_
    refine AllReadyH.cons rfl (fun K hK => ?_) ?_
    · go_simp
      refine (hcall (W1.drew.alloc (.cells #[.int .u32 0, .bool false] 88)) (HBy8.out)).mono ?_
      rintro e my9 ⟨rfl, hb⟩
      have HBy9 : Hid (Below W1.heap.size W1 my9) := Lib.hid ((HBy8.out).trans (hb.mono (HBy8.out).size))
      have HWAy9 := Lib.hid (HWAy8.out.later hb)
      clear hb
      go_wp2_with fail
      refine hK.out _ _ (HKp.out _ HBy9.out) (fun hHeld => ?_)
      clear hK K
      try simp only [Act.put, List.setIfInBounds_toArray, List.set_cons_zero, List.set_cons_succ]
      refine wpAnyH_ready (rs := [11]) (by kernel_rfl) (by simp) ?_
      refine AllReadyH.cons rfl (fun K hK => ?_) AllReadyH.nil
      have HBy10 : Hid (Below W1.heap.size W1 (my9.alloc (.cells #[.int .u32 0, .bool false] 88))) := Lib.hid (HBy9.out.alloc (HBy9.out).size _)
      have HWBy10 : Hid (Box (my9.alloc (.cells #[.int .u32 0, .bool false] 88)) (my9.heap.size) 88 #[.int .u32 0, .bool false]) := Lib.hid (by have := Box.new my9 88 #[.int .u32 0, .bool false]; rwa [show (my9).heap.size = my9.heap.size by simp] at this)
      have hney10 : W1.heap.size ≠ my9.heap.size := by have := HWAy9.out.lt; first | omega | (simp at this; omega)
      have HWAy10 := Lib.hid (HWAy9.out.alloc (.cells #[.int .u32 0, .bool false] 88))
      have hgey10 : W1.heap.size ≤ my9.heap.size := by have := (HBy9.out).size; first | omega | (simp at this; omega)
      go_simp
      refine hK.out _ _ (HKp.out _ HBy10.out) (fun hHeld => ?_)
      clear hK K
      try simp only [Act.put, List.setIfInBounds_toArray, List.set_cons_zero, List.set_cons_succ]
      have hx1z11 : Below W1.heap.size W1 ((my9.alloc (.cells #[.int .u32 0, .bool false] 88)).setRow (W1.heap.size) #[.int .u32 av, .bool ab]) := below_setRow (HBy10.out) hgey8 _
      have HBxz11 : Hid (Below W1.heap.size W1 (((my9.alloc (.cells #[.int .u32 0, .bool false] 88)).setRow (W1.heap.size) #[.int .u32 av, .bool ab]).setRow (my9.heap.size) #[.int .u32 ov, .bool ob])) := Lib.hid (below_setRow hx1z11 hgey10 _)
      have HB1z11 : Hid (Box ((my9.alloc (.cells #[.int .u32 0, .bool false] 88)).setRow (W1.heap.size) #[.int .u32 av, .bool ab]) (my9.heap.size) 88 #[.int .u32 0, .bool false]) := Lib.hid (HWBy10.out.grown (grownBy_setRow _ _ _) (fun e => by have := Option.some.inj e; omega))
      have HA1z11 : Hid (Box ((my9.alloc (.cells #[.int .u32 0, .bool false] 88)).setRow (W1.heap.size) #[.int .u32 av, .bool ab]) (W1.heap.size) 88 #[.int .u32 av, .bool ab]) := Lib.hid (setRow_heap _ _ _ _ _ _ HWAy10.out)
      have HXAz11 : Hid (Box (((my9.alloc (.cells #[.int .u32 0, .bool false] 88)).setRow (W1.heap.size) #[.int .u32 av, .bool ab]).setRow (my9.heap.size) #[.int .u32 ov, .bool ob]) (W1.heap.size) 88 #[.int .u32 av, .bool ab]) := Lib.hid (HA1z11.out.grown (grownBy_setRow _ _ _) (fun e => by have := Option.some.inj e; omega))
      have HXBz11 : Hid (Box (((my9.alloc (.cells #[.int .u32 0, .bool false] 88)).setRow (W1.heap.size) #[.int .u32 av, .bool ab]).setRow (my9.heap.size) #[.int .u32 ov, .bool ob]) (my9.heap.size) 88 #[.int .u32 ov, .bool ob]) := Lib.hid (setRow_heap _ _ _ _ _ _ HB1z11.out)
      refine wpAnyH_ready (rs := [12]) (by kernel_rfl) (by simp) ?_
      refine AllReadyH.cons rfl (fun K hK => ?_) AllReadyH.nil
      refine step_rowJ _ (by rfl) 88 _ _ (by rfl) (by rfl) (W1.heap.size) #[.int .u32 av, .bool ab] (by rfl) (by rfl) 88 _ HWAy10.out (by kernel_rfl) rfl (by simp [Value.oneCell']) ?_
      refine hK.out _ _ (HKp.out _ hx1z11) (fun hHeld => ?_)
      clear hK K
      try simp only [Act.put, List.setIfInBounds_toArray, List.set_cons_zero, List.set_cons_succ]
      refine wpAnyH_ready (rs := [13]) (by kernel_rfl) (by simp) ?_
      refine AllReadyH.cons rfl (fun K hK => ?_) AllReadyH.nil
      refine step_rowJ _ (by rfl) 88 _ _ (by rfl) (by rfl) (my9.heap.size) #[.int .u32 ov, .bool ob] (by rfl) (by rfl) 88 _ HB1z11.out (by kernel_rfl) rfl (by simp [Value.oneCell']) ?_
      refine hK.out _ _ (HKp.out _ HBxz11.out) (fun hHeld => ?_)
      clear hK K
      try simp only [Act.put, List.setIfInBounds_toArray, List.set_cons_zero, List.set_cons_succ]
      refine wpAnyH_done (by kernel_rfl) ?_ _
      have HXA := HXAz11
      have HXB := HXBz11
      have HXX := HBxz11
      generalize hX : (((my9.alloc (.cells #[.int .u32 0, .bool false] 88)).setRow (W1.heap.size) #[.int .u32 av, .bool ab]).setRow (my9.heap.size) #[.int .u32 ov, .bool ob]) = X at HXA HXB HXX ⊢
      generalize hPB : my9.heap.size = PB at HXB ⊢
      generalize hPA : W1.heap.size = PA at HXA ⊢
      clear hX hPA hPB HXAz11 HXBz11 HBxz11 HA1z11 HB1z11 hx1z11 hHeld
      have HFX := Lib.hid (HF.out.later HXX.out)
      have HIX := Lib.hid (HI.out.later HXX.out)
      have HGX : Hid (W.grownBy X (some f)) := Lib.hid (grownBy_of_below (HB.out.trans (HXX.out.mono HB.out.size)) _)
      have x1 : X.cell? ⟨W.heap.size, 1, none⟩ = some (.int .i64 fn) := HIX.out.cell rfl
      have x2 : X.cell? ⟨W.heap.size, 2, none⟩ = some (.int .i64 (d : Int)) := HIX.out.cell rfl
      have x5 : X.cell? ⟨W.heap.size, 5, none⟩ = some (.int .i64 o) := HIX.out.cell rfl
      have p0 : X.cell? ⟨PA, 0, none⟩ = some (.int .u32 av) := HXA.out.cell rfl
      have p1 : X.cell? ⟨PA, 1, none⟩ = some (.bool ab) := HXA.out.cell rfl
      have q0 : X.cell? ⟨PB, 0, none⟩ = some (.int .u32 ov) := HXB.out.cell rfl
      have q1 : X.cell? ⟨PB, 1, none⟩ = some (.bool ob) := HXB.out.cell rfl
      clear HKp hcall HXX HXA HXB HF HI HB
      cases ob
      · have HQ : Hid (compP x fn d ov false = (10, x)) := Lib.hid (by simp [compP])
        go_wp2_with fail
        go_ret
        rw [HQ.out]
        exact ⟨rfl, HGX.out, HFX.out⟩
      cases ab
      · by_cases hf : fn = 0
        · have hfb : (fn != 0) = false := by simp [hf]
          have HQ : Hid (compP x fn d ov true = (0, putF x d (doI fn av ov))) := Lib.hid (by simp [compP, hf, HAV.out])
          clear hf
          go_wp2_with fail
          have cd := do_any fn av ov X HFn.out.1 HFn.out.2 HRw.out.1 HRw.out.2 HOw.out.1 HOw.out.2
          have hvw : isW (doI fn av ov) := ⟨doI_ge fn av ov, doI_le fn av ov HRw.out.2 HOw.out.2⟩
          have HVw := Lib.hid hvw
          clear hvw
          generalize doI fn av ov = dv at *
          refine cd.mono ?_
          rintro e m9 ⟨rfl, hb9⟩
          have HF9 := Lib.hid (HFX.out.later hb9)
          have hI9 := HIX.out.later hb9
          have HG9 : Hid (W.grownBy m9 (some f)) := Lib.hid (grow_trans HGX.out (grownBy_of_below hb9 _))
          clear cd hb9 p0 p1 q0 q1 x1 x2 x5
          have x2 : m9.cell? ⟨W.heap.size, 2, none⟩ = some (.int .i64 (d : Int)) := hI9.cell rfl
          clear hI9
          go_wp2_with fail
          refine (put_any f r x d HD.out dv HVw.out m9 HF9.out).mono ?_
          rintro e m8 ⟨rfl, hg8, hF8⟩
          have HF8 := Lib.hid hF8
          have HG8 := Lib.hid (grow_trans HG9.out hg8)
          clear hg8 hF8
          go_wp2_with fail
          go_ret
          rw [HQ.out]
          exact ⟨rfl, HG8.out, HF8.out⟩
        · have hfb : (fn != 0) = true := by simp [hf]
          have HQ : Hid (compP x fn d ov true = (10, x)) := Lib.hid (by simp [compP, hf, HAB.out])
          clear hf
          go_wp2_with fail
          go_ret
          rw [HQ.out]
          exact ⟨rfl, HGX.out, HFX.out⟩
      · have HQ : Hid (compP x fn d ov true = (0, putF x d (doI fn av ov))) := Lib.hid (by simp [compP, HAB.out, HAV.out])
        go_wp2_with fail
        have cd := do_any fn av ov X HFn.out.1 HFn.out.2 HRw.out.1 HRw.out.2 HOw.out.1 HOw.out.2
        have hvw : isW (doI fn av ov) := ⟨doI_ge fn av ov, doI_le fn av ov HRw.out.2 HOw.out.2⟩
        have HVw := Lib.hid hvw
        clear hvw
        generalize doI fn av ov = dv at *
        refine cd.mono ?_
        rintro e m9 ⟨rfl, hb9⟩
        have HF9 := Lib.hid (HFX.out.later hb9)
        have hI9 := HIX.out.later hb9
        have HG9 : Hid (W.grownBy m9 (some f)) := Lib.hid (grow_trans HGX.out (grownBy_of_below hb9 _))
        clear cd hb9 p0 p1 q0 q1 x1 x2 x5
        have x2 : m9.cell? ⟨W.heap.size, 2, none⟩ = some (.int .i64 (d : Int)) := hI9.cell rfl
        clear hI9
        go_wp2_with fail
        refine (put_any f r x d HD.out dv HVw.out m9 HF9.out).mono ?_
        rintro e m8 ⟨rfl, hg8, hF8⟩
        have HF8 := Lib.hid hF8
        have HG8 := Lib.hid (grow_trans HG9.out hg8)
        clear hg8 hF8
        go_wp2_with fail
        go_ret
        rw [HQ.out]
        exact ⟨rfl, HG8.out, HF8.out⟩
    refine AllReadyH.cons rfl (fun K hK => ?_) AllReadyH.nil
    have HBy12 : Hid (Below W1.heap.size W1 ((W1.drew.alloc (.cells #[.int .u32 0, .bool false] 88)).alloc (.cells #[.int .u32 0, .bool false] 88))) := Lib.hid (HBy8.out.alloc (HBy8.out).size _)
    have HWBy12 : Hid (Box ((W1.drew.alloc (.cells #[.int .u32 0, .bool false] 88)).alloc (.cells #[.int .u32 0, .bool false] 88)) (W1.heap.size + 1) 88 #[.int .u32 0, .bool false]) := Lib.hid (by have := Box.new (W1.drew.alloc (.cells #[.int .u32 0, .bool false] 88)) 88 #[.int .u32 0, .bool false]; rwa [show ((W1.drew.alloc (.cells #[.int .u32 0, .bool false] 88))).heap.size = W1.heap.size + 1 by simp] at this)
    have hney12 : W1.heap.size ≠ W1.heap.size + 1 := by have := HWAy8.out.lt; first | omega | (simp at this; omega)
    have HWAy12 := Lib.hid (HWAy8.out.alloc (.cells #[.int .u32 0, .bool false] 88))
    have hgey12 : W1.heap.size ≤ W1.heap.size + 1 := by have := (HBy8.out).size; first | omega | (simp at this; omega)
    go_simp
    refine hK.out _ _ (HKp.out _ HBy12.out) (fun hHeld => ?_)
    clear hK K
    try simp only [Act.put, List.setIfInBounds_toArray, List.set_cons_zero, List.set_cons_succ]
    refine wpAnyH_ready (rs := [9]) (by kernel_rfl) (by simp) ?_
    refine AllReadyH.cons rfl (fun K hK => ?_) AllReadyH.nil
    go_simp
    refine (hcall ((W1.drew.alloc (.cells #[.int .u32 0, .bool false] 88)).alloc (.cells #[.int .u32 0, .bool false] 88)) (HBy12.out)).mono ?_
    rintro e my13 ⟨rfl, hb⟩
    have HBy13 : Hid (Below W1.heap.size W1 my13) := Lib.hid ((HBy12.out).trans (hb.mono (HBy12.out).size))
    have HWAy13 := Lib.hid (HWAy12.out.later hb)
    have HWBy13 := Lib.hid (HWBy12.out.later hb)
    clear hb
    go_wp2_with fail
    refine hK.out _ _ (HKp.out _ HBy13.out) (fun hHeld => ?_)
    clear hK K
    try simp only [Act.put, List.setIfInBounds_toArray, List.set_cons_zero, List.set_cons_succ]
    have hx1z14 : Below W1.heap.size W1 (my13.setRow (W1.heap.size) #[.int .u32 av, .bool ab]) := below_setRow (HBy13.out) hgey8 _
    have HBxz14 : Hid (Below W1.heap.size W1 ((my13.setRow (W1.heap.size) #[.int .u32 av, .bool ab]).setRow (W1.heap.size + 1) #[.int .u32 ov, .bool ob])) := Lib.hid (below_setRow hx1z14 hgey12 _)
    have HB1z14 : Hid (Box (my13.setRow (W1.heap.size) #[.int .u32 av, .bool ab]) (W1.heap.size + 1) 88 #[.int .u32 0, .bool false]) := Lib.hid (HWBy13.out.grown (grownBy_setRow _ _ _) (fun e => by have := Option.some.inj e; omega))
    have HA1z14 : Hid (Box (my13.setRow (W1.heap.size) #[.int .u32 av, .bool ab]) (W1.heap.size) 88 #[.int .u32 av, .bool ab]) := Lib.hid (setRow_heap _ _ _ _ _ _ HWAy13.out)
    have HXAz14 : Hid (Box ((my13.setRow (W1.heap.size) #[.int .u32 av, .bool ab]).setRow (W1.heap.size + 1) #[.int .u32 ov, .bool ob]) (W1.heap.size) 88 #[.int .u32 av, .bool ab]) := Lib.hid (HA1z14.out.grown (grownBy_setRow _ _ _) (fun e => by have := Option.some.inj e; omega))
    have HXBz14 : Hid (Box ((my13.setRow (W1.heap.size) #[.int .u32 av, .bool ab]).setRow (W1.heap.size + 1) #[.int .u32 ov, .bool ob]) (W1.heap.size + 1) 88 #[.int .u32 ov, .bool ob]) := Lib.hid (setRow_heap _ _ _ _ _ _ HB1z14.out)
    refine wpAnyH_ready (rs := [12]) (by kernel_rfl) (by simp) ?_
    refine AllReadyH.cons rfl (fun K hK => ?_) AllReadyH.nil
    refine step_rowJ _ (by rfl) 88 _ _ (by rfl) (by rfl) (W1.heap.size) #[.int .u32 av, .bool ab] (by rfl) (by rfl) 88 _ HWAy13.out (by kernel_rfl) rfl (by simp [Value.oneCell']) ?_
    refine hK.out _ _ (HKp.out _ hx1z14) (fun hHeld => ?_)
    clear hK K
    try simp only [Act.put, List.setIfInBounds_toArray, List.set_cons_zero, List.set_cons_succ]
    refine wpAnyH_ready (rs := [13]) (by kernel_rfl) (by simp) ?_
    refine AllReadyH.cons rfl (fun K hK => ?_) AllReadyH.nil
    refine step_rowJ _ (by rfl) 88 _ _ (by rfl) (by rfl) (W1.heap.size + 1) #[.int .u32 ov, .bool ob] (by rfl) (by rfl) 88 _ HB1z14.out (by kernel_rfl) rfl (by simp [Value.oneCell']) ?_
    refine hK.out _ _ (HKp.out _ HBxz14.out) (fun hHeld => ?_)
    clear hK K
    try simp only [Act.put, List.setIfInBounds_toArray, List.set_cons_zero, List.set_cons_succ]
    refine wpAnyH_done (by kernel_rfl) ?_ _
    have HXA := HXAz14
    have HXB := HXBz14
    have HXX := HBxz14
    generalize hX : ((my13.setRow (W1.heap.size) #[.int .u32 av, .bool ab]).setRow (W1.heap.size + 1) #[.int .u32 ov, .bool ob]) = X at HXA HXB HXX ⊢
    generalize hPB : W1.heap.size + 1 = PB at HXB ⊢
    generalize hPA : W1.heap.size = PA at HXA ⊢
    clear hX hPA hPB HXAz14 HXBz14 HBxz14 HA1z14 HB1z14 hx1z14 hHeld
    have HFX := Lib.hid (HF.out.later HXX.out)
    have HIX := Lib.hid (HI.out.later HXX.out)
    have HGX : Hid (W.grownBy X (some f)) := Lib.hid (grownBy_of_below (HB.out.trans (HXX.out.mono HB.out.size)) _)
    have x1 : X.cell? ⟨W.heap.size, 1, none⟩ = some (.int .i64 fn) := HIX.out.cell rfl
    have x2 : X.cell? ⟨W.heap.size, 2, none⟩ = some (.int .i64 (d : Int)) := HIX.out.cell rfl
    have x5 : X.cell? ⟨W.heap.size, 5, none⟩ = some (.int .i64 o) := HIX.out.cell rfl
    have p0 : X.cell? ⟨PA, 0, none⟩ = some (.int .u32 av) := HXA.out.cell rfl
    have p1 : X.cell? ⟨PA, 1, none⟩ = some (.bool ab) := HXA.out.cell rfl
    have q0 : X.cell? ⟨PB, 0, none⟩ = some (.int .u32 ov) := HXB.out.cell rfl
    have q1 : X.cell? ⟨PB, 1, none⟩ = some (.bool ob) := HXB.out.cell rfl
    clear HKp hcall HXX HXA HXB HF HI HB
    cases ob
    · have HQ : Hid (compP x fn d ov false = (10, x)) := Lib.hid (by simp [compP])
      go_wp2_with fail
      go_ret
      rw [HQ.out]
      exact ⟨rfl, HGX.out, HFX.out⟩
    cases ab
    · by_cases hf : fn = 0
      · have hfb : (fn != 0) = false := by simp [hf]
        have HQ : Hid (compP x fn d ov true = (0, putF x d (doI fn av ov))) := Lib.hid (by simp [compP, hf, HAV.out])
        clear hf
        go_wp2_with fail
        have cd := do_any fn av ov X HFn.out.1 HFn.out.2 HRw.out.1 HRw.out.2 HOw.out.1 HOw.out.2
        have hvw : isW (doI fn av ov) := ⟨doI_ge fn av ov, doI_le fn av ov HRw.out.2 HOw.out.2⟩
        have HVw := Lib.hid hvw
        clear hvw
        generalize doI fn av ov = dv at *
        refine cd.mono ?_
        rintro e m9 ⟨rfl, hb9⟩
        have HF9 := Lib.hid (HFX.out.later hb9)
        have hI9 := HIX.out.later hb9
        have HG9 : Hid (W.grownBy m9 (some f)) := Lib.hid (grow_trans HGX.out (grownBy_of_below hb9 _))
        clear cd hb9 p0 p1 q0 q1 x1 x2 x5
        have x2 : m9.cell? ⟨W.heap.size, 2, none⟩ = some (.int .i64 (d : Int)) := hI9.cell rfl
        clear hI9
        go_wp2_with fail
        refine (put_any f r x d HD.out dv HVw.out m9 HF9.out).mono ?_
        rintro e m8 ⟨rfl, hg8, hF8⟩
        have HF8 := Lib.hid hF8
        have HG8 := Lib.hid (grow_trans HG9.out hg8)
        clear hg8 hF8
        go_wp2_with fail
        go_ret
        rw [HQ.out]
        exact ⟨rfl, HG8.out, HF8.out⟩
      · have hfb : (fn != 0) = true := by simp [hf]
        have HQ : Hid (compP x fn d ov true = (10, x)) := Lib.hid (by simp [compP, hf, HAB.out])
        clear hf
        go_wp2_with fail
        go_ret
        rw [HQ.out]
        exact ⟨rfl, HGX.out, HFX.out⟩
    · have HQ : Hid (compP x fn d ov true = (0, putF x d (doI fn av ov))) := Lib.hid (by simp [compP, HAB.out, HAV.out])
      go_wp2_with fail
      have cd := do_any fn av ov X HFn.out.1 HFn.out.2 HRw.out.1 HRw.out.2 HOw.out.1 HOw.out.2
      have hvw : isW (doI fn av ov) := ⟨doI_ge fn av ov, doI_le fn av ov HRw.out.2 HOw.out.2⟩
      have HVw := Lib.hid hvw
      clear hvw
      generalize doI fn av ov = dv at *
      refine cd.mono ?_
      rintro e m9 ⟨rfl, hb9⟩
      have HF9 := Lib.hid (HFX.out.later hb9)
      have hI9 := HIX.out.later hb9
      have HG9 : Hid (W.grownBy m9 (some f)) := Lib.hid (grow_trans HGX.out (grownBy_of_below hb9 _))
      clear cd hb9 p0 p1 q0 q1 x1 x2 x5
      have x2 : m9.cell? ⟨W.heap.size, 2, none⟩ = some (.int .i64 (d : Int)) := hI9.cell rfl
      clear hI9
      go_wp2_with fail
      refine (put_any f r x d HD.out dv HVw.out m9 HF9.out).mono ?_
      rintro e m8 ⟨rfl, hg8, hF8⟩
      have HF8 := Lib.hid hF8
      have HG8 := Lib.hid (grow_trans HG9.out hg8)
      clear hg8 hF8
      go_wp2_with fail
      go_ret
      rw [HQ.out]
      exact ⟨rfl, HG8.out, HF8.out⟩
  refine AllReadyH.cons rfl (fun K hK => ?_) AllReadyH.nil
  have HBy15 : Hid (Below W1.heap.size W1 (W1.drew.alloc (.cells #[.int .u32 0, .bool false] 88))) := Lib.hid ((Below.refl W1.heap.size W1).drew.alloc ((Below.refl W1.heap.size W1).drew).size _)
  have HWBy15 : Hid (Box (W1.drew.alloc (.cells #[.int .u32 0, .bool false] 88)) (W1.heap.size) 88 #[.int .u32 0, .bool false]) := Lib.hid (by have := Box.new W1.drew 88 #[.int .u32 0, .bool false]; rwa [show (W1.drew).heap.size = W1.heap.size by simp] at this)
  have hgey15 : W1.heap.size ≤ W1.heap.size := by have := ((Below.refl W1.heap.size W1).drew).size; first | omega | (simp at this; omega)
  go_simp
  refine hK.out _ _ (HKp.out _ HBy15.out) (fun hHeld => ?_)
  clear hK K
  try simp only [Act.put, List.setIfInBounds_toArray, List.set_cons_zero, List.set_cons_succ]
  refine wpAnyH_ready (rs := [9, 10]) (by kernel_rfl) (by simp) ?_
  refine AllReadyH.cons rfl (fun K hK => ?_) ?_
  · go_simp
    refine (hcall (W1.drew.alloc (.cells #[.int .u32 0, .bool false] 88)) (HBy15.out)).mono ?_
    rintro e my16 ⟨rfl, hb⟩
    have HBy16 : Hid (Below W1.heap.size W1 my16) := Lib.hid ((HBy15.out).trans (hb.mono (HBy15.out).size))
    have HWBy16 := Lib.hid (HWBy15.out.later hb)
    clear hb
    go_wp2_with fail
    refine hK.out _ _ (HKp.out _ HBy16.out) (fun hHeld => ?_)
    clear hK K
    try simp only [Act.put, List.setIfInBounds_toArray, List.set_cons_zero, List.set_cons_succ]
    refine wpAnyH_ready (rs := [10]) (by kernel_rfl) (by simp) ?_
    refine AllReadyH.cons rfl (fun K hK => ?_) AllReadyH.nil
    have HBy17 : Hid (Below W1.heap.size W1 (my16.alloc (.cells #[.int .u32 0, .bool false] 88))) := Lib.hid (HBy16.out.alloc (HBy16.out).size _)
    have HWAy17 : Hid (Box (my16.alloc (.cells #[.int .u32 0, .bool false] 88)) (my16.heap.size) 88 #[.int .u32 0, .bool false]) := Lib.hid (by have := Box.new my16 88 #[.int .u32 0, .bool false]; rwa [show (my16).heap.size = my16.heap.size by simp] at this)
    have hney17 : W1.heap.size ≠ my16.heap.size := by have := HWBy16.out.lt; first | omega | (simp at this; omega)
    have HWBy17 := Lib.hid (HWBy16.out.alloc (.cells #[.int .u32 0, .bool false] 88))
    have hgey17 : W1.heap.size ≤ my16.heap.size := by have := (HBy16.out).size; first | omega | (simp at this; omega)
    go_simp
    refine hK.out _ _ (HKp.out _ HBy17.out) (fun hHeld => ?_)
    clear hK K
    try simp only [Act.put, List.setIfInBounds_toArray, List.set_cons_zero, List.set_cons_succ]
    have hx1z18 : Below W1.heap.size W1 ((my16.alloc (.cells #[.int .u32 0, .bool false] 88)).setRow (my16.heap.size) #[.int .u32 av, .bool ab]) := below_setRow (HBy17.out) hgey17 _
    have HBxz18 : Hid (Below W1.heap.size W1 (((my16.alloc (.cells #[.int .u32 0, .bool false] 88)).setRow (my16.heap.size) #[.int .u32 av, .bool ab]).setRow (W1.heap.size) #[.int .u32 ov, .bool ob])) := Lib.hid (below_setRow hx1z18 hgey15 _)
    have HB1z18 : Hid (Box ((my16.alloc (.cells #[.int .u32 0, .bool false] 88)).setRow (my16.heap.size) #[.int .u32 av, .bool ab]) (W1.heap.size) 88 #[.int .u32 0, .bool false]) := Lib.hid (HWBy17.out.grown (grownBy_setRow _ _ _) (fun e => by have := Option.some.inj e; omega))
    have HA1z18 : Hid (Box ((my16.alloc (.cells #[.int .u32 0, .bool false] 88)).setRow (my16.heap.size) #[.int .u32 av, .bool ab]) (my16.heap.size) 88 #[.int .u32 av, .bool ab]) := Lib.hid (setRow_heap _ _ _ _ _ _ HWAy17.out)
    have HXAz18 : Hid (Box (((my16.alloc (.cells #[.int .u32 0, .bool false] 88)).setRow (my16.heap.size) #[.int .u32 av, .bool ab]).setRow (W1.heap.size) #[.int .u32 ov, .bool ob]) (my16.heap.size) 88 #[.int .u32 av, .bool ab]) := Lib.hid (HA1z18.out.grown (grownBy_setRow _ _ _) (fun e => by have := Option.some.inj e; omega))
    have HXBz18 : Hid (Box (((my16.alloc (.cells #[.int .u32 0, .bool false] 88)).setRow (my16.heap.size) #[.int .u32 av, .bool ab]).setRow (W1.heap.size) #[.int .u32 ov, .bool ob]) (W1.heap.size) 88 #[.int .u32 ov, .bool ob]) := Lib.hid (setRow_heap _ _ _ _ _ _ HB1z18.out)
    refine wpAnyH_ready (rs := [12]) (by kernel_rfl) (by simp) ?_
    refine AllReadyH.cons rfl (fun K hK => ?_) AllReadyH.nil
    refine step_rowJ _ (by rfl) 88 _ _ (by rfl) (by rfl) (my16.heap.size) #[.int .u32 av, .bool ab] (by rfl) (by rfl) 88 _ HWAy17.out (by kernel_rfl) rfl (by simp [Value.oneCell']) ?_
    refine hK.out _ _ (HKp.out _ hx1z18) (fun hHeld => ?_)
    clear hK K
    try simp only [Act.put, List.setIfInBounds_toArray, List.set_cons_zero, List.set_cons_succ]
    refine wpAnyH_ready (rs := [13]) (by kernel_rfl) (by simp) ?_
    refine AllReadyH.cons rfl (fun K hK => ?_) AllReadyH.nil
    refine step_rowJ _ (by rfl) 88 _ _ (by rfl) (by rfl) (W1.heap.size) #[.int .u32 ov, .bool ob] (by rfl) (by rfl) 88 _ HB1z18.out (by kernel_rfl) rfl (by simp [Value.oneCell']) ?_
    refine hK.out _ _ (HKp.out _ HBxz18.out) (fun hHeld => ?_)
    clear hK K
    try simp only [Act.put, List.setIfInBounds_toArray, List.set_cons_zero, List.set_cons_succ]
    refine wpAnyH_done (by kernel_rfl) ?_ _
    have HXA := HXAz18
    have HXB := HXBz18
    have HXX := HBxz18
    generalize hX : (((my16.alloc (.cells #[.int .u32 0, .bool false] 88)).setRow (my16.heap.size) #[.int .u32 av, .bool ab]).setRow (W1.heap.size) #[.int .u32 ov, .bool ob]) = X at HXA HXB HXX ⊢
    generalize hPA : my16.heap.size = PA at HXA ⊢
    generalize hPB : W1.heap.size = PB at HXB ⊢
    clear hX hPA hPB HXAz18 HXBz18 HBxz18 HA1z18 HB1z18 hx1z18 hHeld
    have HFX := Lib.hid (HF.out.later HXX.out)
    have HIX := Lib.hid (HI.out.later HXX.out)
    have HGX : Hid (W.grownBy X (some f)) := Lib.hid (grownBy_of_below (HB.out.trans (HXX.out.mono HB.out.size)) _)
    have x1 : X.cell? ⟨W.heap.size, 1, none⟩ = some (.int .i64 fn) := HIX.out.cell rfl
    have x2 : X.cell? ⟨W.heap.size, 2, none⟩ = some (.int .i64 (d : Int)) := HIX.out.cell rfl
    have x5 : X.cell? ⟨W.heap.size, 5, none⟩ = some (.int .i64 o) := HIX.out.cell rfl
    have p0 : X.cell? ⟨PA, 0, none⟩ = some (.int .u32 av) := HXA.out.cell rfl
    have p1 : X.cell? ⟨PA, 1, none⟩ = some (.bool ab) := HXA.out.cell rfl
    have q0 : X.cell? ⟨PB, 0, none⟩ = some (.int .u32 ov) := HXB.out.cell rfl
    have q1 : X.cell? ⟨PB, 1, none⟩ = some (.bool ob) := HXB.out.cell rfl
    clear HKp hcall HXX HXA HXB HF HI HB
    cases ob
    · have HQ : Hid (compP x fn d ov false = (10, x)) := Lib.hid (by simp [compP])
      go_wp2_with fail
      go_ret
      rw [HQ.out]
      exact ⟨rfl, HGX.out, HFX.out⟩
    cases ab
    · by_cases hf : fn = 0
      · have hfb : (fn != 0) = false := by simp [hf]
        have HQ : Hid (compP x fn d ov true = (0, putF x d (doI fn av ov))) := Lib.hid (by simp [compP, hf, HAV.out])
        clear hf
        go_wp2_with fail
        have cd := do_any fn av ov X HFn.out.1 HFn.out.2 HRw.out.1 HRw.out.2 HOw.out.1 HOw.out.2
        have hvw : isW (doI fn av ov) := ⟨doI_ge fn av ov, doI_le fn av ov HRw.out.2 HOw.out.2⟩
        have HVw := Lib.hid hvw
        clear hvw
        generalize doI fn av ov = dv at *
        refine cd.mono ?_
        rintro e m9 ⟨rfl, hb9⟩
        have HF9 := Lib.hid (HFX.out.later hb9)
        have hI9 := HIX.out.later hb9
        have HG9 : Hid (W.grownBy m9 (some f)) := Lib.hid (grow_trans HGX.out (grownBy_of_below hb9 _))
        clear cd hb9 p0 p1 q0 q1 x1 x2 x5
        have x2 : m9.cell? ⟨W.heap.size, 2, none⟩ = some (.int .i64 (d : Int)) := hI9.cell rfl
        clear hI9
        go_wp2_with fail
        refine (put_any f r x d HD.out dv HVw.out m9 HF9.out).mono ?_
        rintro e m8 ⟨rfl, hg8, hF8⟩
        have HF8 := Lib.hid hF8
        have HG8 := Lib.hid (grow_trans HG9.out hg8)
        clear hg8 hF8
        go_wp2_with fail
        go_ret
        rw [HQ.out]
        exact ⟨rfl, HG8.out, HF8.out⟩
      · have hfb : (fn != 0) = true := by simp [hf]
        have HQ : Hid (compP x fn d ov true = (10, x)) := Lib.hid (by simp [compP, hf, HAB.out])
        clear hf
        go_wp2_with fail
        go_ret
        rw [HQ.out]
        exact ⟨rfl, HGX.out, HFX.out⟩
    · have HQ : Hid (compP x fn d ov true = (0, putF x d (doI fn av ov))) := Lib.hid (by simp [compP, HAB.out, HAV.out])
      go_wp2_with fail
      have cd := do_any fn av ov X HFn.out.1 HFn.out.2 HRw.out.1 HRw.out.2 HOw.out.1 HOw.out.2
      have hvw : isW (doI fn av ov) := ⟨doI_ge fn av ov, doI_le fn av ov HRw.out.2 HOw.out.2⟩
      have HVw := Lib.hid hvw
      clear hvw
      generalize doI fn av ov = dv at *
      refine cd.mono ?_
      rintro e m9 ⟨rfl, hb9⟩
      have HF9 := Lib.hid (HFX.out.later hb9)
      have hI9 := HIX.out.later hb9
      have HG9 : Hid (W.grownBy m9 (some f)) := Lib.hid (grow_trans HGX.out (grownBy_of_below hb9 _))
      clear cd hb9 p0 p1 q0 q1 x1 x2 x5
      have x2 : m9.cell? ⟨W.heap.size, 2, none⟩ = some (.int .i64 (d : Int)) := hI9.cell rfl
      clear hI9
      go_wp2_with fail
      refine (put_any f r x d HD.out dv HVw.out m9 HF9.out).mono ?_
      rintro e m8 ⟨rfl, hg8, hF8⟩
      have HF8 := Lib.hid hF8
      have HG8 := Lib.hid (grow_trans HG9.out hg8)
      clear hg8 hF8
      go_wp2_with fail
      go_ret
      rw [HQ.out]
      exact ⟨rfl, HG8.out, HF8.out⟩
  refine AllReadyH.cons rfl (fun K hK => ?_) AllReadyH.nil
  have HBy19 : Hid (Below W1.heap.size W1 ((W1.drew.alloc (.cells #[.int .u32 0, .bool false] 88)).alloc (.cells #[.int .u32 0, .bool false] 88))) := Lib.hid (HBy15.out.alloc (HBy15.out).size _)
  have HWAy19 : Hid (Box ((W1.drew.alloc (.cells #[.int .u32 0, .bool false] 88)).alloc (.cells #[.int .u32 0, .bool false] 88)) (W1.heap.size + 1) 88 #[.int .u32 0, .bool false]) := Lib.hid (by have := Box.new (W1.drew.alloc (.cells #[.int .u32 0, .bool false] 88)) 88 #[.int .u32 0, .bool false]; rwa [show ((W1.drew.alloc (.cells #[.int .u32 0, .bool false] 88))).heap.size = W1.heap.size + 1 by simp] at this)
  have hney19 : W1.heap.size ≠ W1.heap.size + 1 := by have := HWBy15.out.lt; first | omega | (simp at this; omega)
  have HWBy19 := Lib.hid (HWBy15.out.alloc (.cells #[.int .u32 0, .bool false] 88))
  have hgey19 : W1.heap.size ≤ W1.heap.size + 1 := by have := (HBy15.out).size; first | omega | (simp at this; omega)
  go_simp
  refine hK.out _ _ (HKp.out _ HBy19.out) (fun hHeld => ?_)
  clear hK K
  try simp only [Act.put, List.setIfInBounds_toArray, List.set_cons_zero, List.set_cons_succ]
  refine wpAnyH_ready (rs := [9]) (by kernel_rfl) (by simp) ?_
  refine AllReadyH.cons rfl (fun K hK => ?_) AllReadyH.nil
  go_simp
  refine (hcall ((W1.drew.alloc (.cells #[.int .u32 0, .bool false] 88)).alloc (.cells #[.int .u32 0, .bool false] 88)) (HBy19.out)).mono ?_
  rintro e my20 ⟨rfl, hb⟩
  have HBy20 : Hid (Below W1.heap.size W1 my20) := Lib.hid ((HBy19.out).trans (hb.mono (HBy19.out).size))
  have HWAy20 := Lib.hid (HWAy19.out.later hb)
  have HWBy20 := Lib.hid (HWBy19.out.later hb)
  clear hb
  go_wp2_with fail
  refine hK.out _ _ (HKp.out _ HBy20.out) (fun hHeld => ?_)
  clear hK K
  try simp only [Act.put, List.setIfInBounds_toArray, List.set_cons_zero, List.set_cons_succ]
  have hx1z21 : Below W1.heap.size W1 (my20.setRow (W1.heap.size + 1) #[.int .u32 av, .bool ab]) := below_setRow (HBy20.out) hgey19 _
  have HBxz21 : Hid (Below W1.heap.size W1 ((my20.setRow (W1.heap.size + 1) #[.int .u32 av, .bool ab]).setRow (W1.heap.size) #[.int .u32 ov, .bool ob])) := Lib.hid (below_setRow hx1z21 hgey15 _)
  have HB1z21 : Hid (Box (my20.setRow (W1.heap.size + 1) #[.int .u32 av, .bool ab]) (W1.heap.size) 88 #[.int .u32 0, .bool false]) := Lib.hid (HWBy20.out.grown (grownBy_setRow _ _ _) (fun e => by have := Option.some.inj e; omega))
  have HA1z21 : Hid (Box (my20.setRow (W1.heap.size + 1) #[.int .u32 av, .bool ab]) (W1.heap.size + 1) 88 #[.int .u32 av, .bool ab]) := Lib.hid (setRow_heap _ _ _ _ _ _ HWAy20.out)
  have HXAz21 : Hid (Box ((my20.setRow (W1.heap.size + 1) #[.int .u32 av, .bool ab]).setRow (W1.heap.size) #[.int .u32 ov, .bool ob]) (W1.heap.size + 1) 88 #[.int .u32 av, .bool ab]) := Lib.hid (HA1z21.out.grown (grownBy_setRow _ _ _) (fun e => by have := Option.some.inj e; omega))
  have HXBz21 : Hid (Box ((my20.setRow (W1.heap.size + 1) #[.int .u32 av, .bool ab]).setRow (W1.heap.size) #[.int .u32 ov, .bool ob]) (W1.heap.size) 88 #[.int .u32 ov, .bool ob]) := Lib.hid (setRow_heap _ _ _ _ _ _ HB1z21.out)
  refine wpAnyH_ready (rs := [12]) (by kernel_rfl) (by simp) ?_
  refine AllReadyH.cons rfl (fun K hK => ?_) AllReadyH.nil
  refine step_rowJ _ (by rfl) 88 _ _ (by rfl) (by rfl) (W1.heap.size + 1) #[.int .u32 av, .bool ab] (by rfl) (by rfl) 88 _ HWAy20.out (by kernel_rfl) rfl (by simp [Value.oneCell']) ?_
  refine hK.out _ _ (HKp.out _ hx1z21) (fun hHeld => ?_)
  clear hK K
  try simp only [Act.put, List.setIfInBounds_toArray, List.set_cons_zero, List.set_cons_succ]
  refine wpAnyH_ready (rs := [13]) (by kernel_rfl) (by simp) ?_
  refine AllReadyH.cons rfl (fun K hK => ?_) AllReadyH.nil
  refine step_rowJ _ (by rfl) 88 _ _ (by rfl) (by rfl) (W1.heap.size) #[.int .u32 ov, .bool ob] (by rfl) (by rfl) 88 _ HB1z21.out (by kernel_rfl) rfl (by simp [Value.oneCell']) ?_
  refine hK.out _ _ (HKp.out _ HBxz21.out) (fun hHeld => ?_)
  clear hK K
  try simp only [Act.put, List.setIfInBounds_toArray, List.set_cons_zero, List.set_cons_succ]
  refine wpAnyH_done (by kernel_rfl) ?_ _
  have HXA := HXAz21
  have HXB := HXBz21
  have HXX := HBxz21
  generalize hX : ((my20.setRow (W1.heap.size + 1) #[.int .u32 av, .bool ab]).setRow (W1.heap.size) #[.int .u32 ov, .bool ob]) = X at HXA HXB HXX ⊢
  generalize hPA : W1.heap.size + 1 = PA at HXA ⊢
  generalize hPB : W1.heap.size = PB at HXB ⊢
  clear hX hPA hPB HXAz21 HXBz21 HBxz21 HA1z21 HB1z21 hx1z21 hHeld
  have HFX := Lib.hid (HF.out.later HXX.out)
  have HIX := Lib.hid (HI.out.later HXX.out)
  have HGX : Hid (W.grownBy X (some f)) := Lib.hid (grownBy_of_below (HB.out.trans (HXX.out.mono HB.out.size)) _)
  have x1 : X.cell? ⟨W.heap.size, 1, none⟩ = some (.int .i64 fn) := HIX.out.cell rfl
  have x2 : X.cell? ⟨W.heap.size, 2, none⟩ = some (.int .i64 (d : Int)) := HIX.out.cell rfl
  have x5 : X.cell? ⟨W.heap.size, 5, none⟩ = some (.int .i64 o) := HIX.out.cell rfl
  have p0 : X.cell? ⟨PA, 0, none⟩ = some (.int .u32 av) := HXA.out.cell rfl
  have p1 : X.cell? ⟨PA, 1, none⟩ = some (.bool ab) := HXA.out.cell rfl
  have q0 : X.cell? ⟨PB, 0, none⟩ = some (.int .u32 ov) := HXB.out.cell rfl
  have q1 : X.cell? ⟨PB, 1, none⟩ = some (.bool ob) := HXB.out.cell rfl
  clear HKp hcall HXX HXA HXB HF HI HB
  cases ob
  · have HQ : Hid (compP x fn d ov false = (10, x)) := Lib.hid (by simp [compP])
    go_wp2_with fail
    go_ret
    rw [HQ.out]
    exact ⟨rfl, HGX.out, HFX.out⟩
  cases ab
  · by_cases hf : fn = 0
    · have hfb : (fn != 0) = false := by simp [hf]
      have HQ : Hid (compP x fn d ov true = (0, putF x d (doI fn av ov))) := Lib.hid (by simp [compP, hf, HAV.out])
      clear hf
      go_wp2_with fail
      have cd := do_any fn av ov X HFn.out.1 HFn.out.2 HRw.out.1 HRw.out.2 HOw.out.1 HOw.out.2
      have hvw : isW (doI fn av ov) := ⟨doI_ge fn av ov, doI_le fn av ov HRw.out.2 HOw.out.2⟩
      have HVw := Lib.hid hvw
      clear hvw
      generalize doI fn av ov = dv at *
      refine cd.mono ?_
      rintro e m9 ⟨rfl, hb9⟩
      have HF9 := Lib.hid (HFX.out.later hb9)
      have hI9 := HIX.out.later hb9
      have HG9 : Hid (W.grownBy m9 (some f)) := Lib.hid (grow_trans HGX.out (grownBy_of_below hb9 _))
      clear cd hb9 p0 p1 q0 q1 x1 x2 x5
      have x2 : m9.cell? ⟨W.heap.size, 2, none⟩ = some (.int .i64 (d : Int)) := hI9.cell rfl
      clear hI9
      go_wp2_with fail
      refine (put_any f r x d HD.out dv HVw.out m9 HF9.out).mono ?_
      rintro e m8 ⟨rfl, hg8, hF8⟩
      have HF8 := Lib.hid hF8
      have HG8 := Lib.hid (grow_trans HG9.out hg8)
      clear hg8 hF8
      go_wp2_with fail
      go_ret
      rw [HQ.out]
      exact ⟨rfl, HG8.out, HF8.out⟩
    · have hfb : (fn != 0) = true := by simp [hf]
      have HQ : Hid (compP x fn d ov true = (10, x)) := Lib.hid (by simp [compP, hf, HAB.out])
      clear hf
      go_wp2_with fail
      go_ret
      rw [HQ.out]
      exact ⟨rfl, HGX.out, HFX.out⟩
  · have HQ : Hid (compP x fn d ov true = (0, putF x d (doI fn av ov))) := Lib.hid (by simp [compP, HAB.out, HAV.out])
    go_wp2_with fail
    have cd := do_any fn av ov X HFn.out.1 HFn.out.2 HRw.out.1 HRw.out.2 HOw.out.1 HOw.out.2
    have hvw : isW (doI fn av ov) := ⟨doI_ge fn av ov, doI_le fn av ov HRw.out.2 HOw.out.2⟩
    have HVw := Lib.hid hvw
    clear hvw
    generalize doI fn av ov = dv at *
    refine cd.mono ?_
    rintro e m9 ⟨rfl, hb9⟩
    have HF9 := Lib.hid (HFX.out.later hb9)
    have hI9 := HIX.out.later hb9
    have HG9 : Hid (W.grownBy m9 (some f)) := Lib.hid (grow_trans HGX.out (grownBy_of_below hb9 _))
    clear cd hb9 p0 p1 q0 q1 x1 x2 x5
    have x2 : m9.cell? ⟨W.heap.size, 2, none⟩ = some (.int .i64 (d : Int)) := hI9.cell rfl
    clear hI9
    go_wp2_with fail
    refine (put_any f r x d HD.out dv HVw.out m9 HF9.out).mono ?_
    rintro e m8 ⟨rfl, hg8, hF8⟩
    have HF8 := Lib.hid hF8
    have HG8 := Lib.hid (grow_trans HG9.out hg8)
    clear hg8 hF8
    go_wp2_with fail
    go_ret
    rw [HQ.out]
    exact ⟨rfl, HG8.out, HF8.out⟩
end Go.Proofs.YtilddlgcfbefiaaDoor

/-
  What the interpreter's jump does to a frame, as a contract over the translated program.
-/
namespace Go.Proofs.YtilddlgcfbefiaaDoor
set_option linter.unusedSimpArgs false
set_option linter.unusedVariables false
open Go Go.RowKit
def jumpP (x : Fr) (fn : Int) (d : Nat) (o ov : Int) (ob : Bool) : Int × Fr := if fn == 0 || (x.isSet d && ob) then (0, if holdsB fn (x.reg d) ov then atF x (x.2.1 + o) else x) else (10, x)
set_option maxRecDepth 100000 in
set_option maxHeartbeats 20000000 in
theorem jump_any (f r : Nat) (x : Fr) (op fn : Int) (d : Nat) (s : Int) (rg : Bool) (o m : Int) (hd : d < 8) (hs0 : 0 ≤ s) (hs7 : s < 8) (hm : isW m) (ha0 : 0 ≤ x.2.1) (ha1 : x.2.1 ≤ 1000) (ho0 : 0 ≤ o) (ho1 : o ≤ 65535) (W : World) (h : FrAt W f r x) :
    Calls Tryd.prog 70 #[.pointer (some ⟨f, 0, none⟩), inV op fn (d : Int) s rg o m] W fun e w' => e = .returned (.int .i64 (jumpP x fn d o (opW x rg s m) (opS x rg s)).1) ∧ W.grownBy w' (some f) ∧ FrAt w' f r (jumpP x fn d o (opW x rg s m) (opS x rg s)).2 := by
  have hb : Below W.heap.size W (W.alloc (.cells #[.int .i64 op, .int .i64 fn, .int .i64 (d : Int), .int .i64 s, .bool rg, .int .i64 o, .int .u32 m] 50)) := (Below.refl _ _).alloc (Nat.le_refl _) _
  have HI := Lib.hid (Box.new W 50 #[.int .i64 op, .int .i64 fn, .int .i64 (d : Int), .int .i64 s, .bool rg, .int .i64 o, .int .u32 m])
  have HFl := Lib.hid h.lt
  have HOw := Lib.hid (opW_w h rg s m hm)
  have HRw := Lib.hid (h.isw d)
  obtain ⟨W1, hW1⟩ : ∃ W1, W.alloc (.cells #[.int .i64 op, .int .i64 fn, .int .i64 (d : Int), .int .i64 s, .bool rg, .int .i64 o, .int .u32 m] 50) = W1 := ⟨_, rfl⟩
  have hsz : W1.heap.size = W.heap.size + 1 := by rw [← hW1]; simp
  rw [hW1] at hb HI
  have HF := Lib.hid (h.later hb)
  have HB := Lib.hid hb
  obtain ⟨a0, a1⟩ := HF.out.word hd
  have i0 : W1.cell? ⟨W.heap.size, 0, none⟩ = some (.int .i64 op) := HI.out.cell rfl
  have i1 : W1.cell? ⟨W.heap.size, 1, none⟩ = some (.int .i64 fn) := HI.out.cell rfl
  have i2 : W1.cell? ⟨W.heap.size, 2, none⟩ = some (.int .i64 (d : Int)) := HI.out.cell rfl
  have i3 : W1.cell? ⟨W.heap.size, 3, none⟩ = some (.int .i64 s) := HI.out.cell rfl
  have i4 : W1.cell? ⟨W.heap.size, 4, none⟩ = some (.bool rg) := HI.out.cell rfl
  have i5 : W1.cell? ⟨W.heap.size, 5, none⟩ = some (.int .i64 o) := HI.out.cell rfl
  have i6 : W1.cell? ⟨W.heap.size, 6, none⟩ = some (.int .u32 m) := HI.out.cell rfl
  have hdI : (d : Int) < 8 := by omega
  have HD := Lib.hid hd
  obtain ⟨av, hav⟩ : ∃ av, x.reg d = av := ⟨_, rfl⟩
  obtain ⟨ab, hab⟩ : ∃ ab, x.isSet d = ab := ⟨_, rfl⟩
  obtain ⟨ov, hov⟩ : ∃ ov, opW x rg s m = ov := ⟨_, rfl⟩
  obtain ⟨ob, hob⟩ : ∃ ob, opS x rg s = ob := ⟨_, rfl⟩
  have hcall : ∀ W', Below W1.heap.size W1 W' → Calls Tryd.prog 91 #[.pointer (some ⟨f, 0, none⟩), inV op fn (d : Int) s rg o m] W' fun e w' => e = .returned (.agg #[.int .u32 ov, .bool ob]) ∧ Below W'.heap.size W' w' := fun W' hb' => by
    have hq := operand_any f r x op fn (d : Int) s rg o m hs0 hs7 W' (HF.out.later hb')
    rw [hov, hob] at hq
    exact hq
  rw [hov] at HOw
  rw [hav] at HRw a0
  rw [hab] at a1
  simp only [hov, hob]
  have HAV := Lib.hid hav
  have HAB := Lib.hid hab
  have HKp : Hid (∀ W', Below W1.heap.size W1 W' → W'.cell? ⟨f, 3 + d * 2, none⟩ = some (.int .u32 av) ∧ W'.cell? ⟨f, 3 + d * 2 + 1, none⟩ = some (.bool ab) ∧ W'.cell? ⟨W.heap.size, 0, none⟩ = some (.int .i64 op) ∧ W'.cell? ⟨W.heap.size, 1, none⟩ = some (.int .i64 fn) ∧ W'.cell? ⟨W.heap.size, 2, none⟩ = some (.int .i64 (d : Int)) ∧ W'.cell? ⟨W.heap.size, 3, none⟩ = some (.int .i64 s) ∧ W'.cell? ⟨W.heap.size, 4, none⟩ = some (.bool rg) ∧ W'.cell? ⟨W.heap.size, 5, none⟩ = some (.int .i64 o) ∧ W'.cell? ⟨W.heap.size, 6, none⟩ = some (.int .u32 m)) := Lib.hid (fun W' hb => ⟨(hb.cell (lt_of_cell a0)).trans a0, (hb.cell (lt_of_cell a1)).trans a1, (hb.cell (lt_of_cell i0)).trans i0, (hb.cell (lt_of_cell i1)).trans i1, (hb.cell (lt_of_cell i2)).trans i2, (hb.cell (lt_of_cell i3)).trans i3, (hb.cell (lt_of_cell i4)).trans i4, (hb.cell (lt_of_cell i5)).trans i5, (hb.cell (lt_of_cell i6)).trans i6⟩)
  clear hav hab hov hob hb h a0 a1 i0 i1 i2 i3 i4 i5 i6 hd hs0 hs7 hm hsz
  go_enter Tryd.func70, Tryd.ntmps70
  go_wp2_with fail
  clear hW1
  refine wp_region_held_drew (S := (fun W' => W'.cell? ⟨f, 3 + d * 2, none⟩ = some (.int .u32 av) ∧ W'.cell? ⟨f, 3 + d * 2 + 1, none⟩ = some (.bool ab) ∧ W'.cell? ⟨W.heap.size, 0, none⟩ = some (.int .i64 op) ∧ W'.cell? ⟨W.heap.size, 1, none⟩ = some (.int .i64 fn) ∧ W'.cell? ⟨W.heap.size, 2, none⟩ = some (.int .i64 (d : Int)) ∧ W'.cell? ⟨W.heap.size, 3, none⟩ = some (.int .i64 s) ∧ W'.cell? ⟨W.heap.size, 4, none⟩ = some (.bool rg) ∧ W'.cell? ⟨W.heap.size, 5, none⟩ = some (.int .i64 o) ∧ W'.cell? ⟨W.heap.size, 6, none⟩ = some (.int .u32 m))) (by kernel_rfl) (HKp.out _ (Below.refl _ _).drew) (fun hHeld => ?_)
  refine wpAnyH_yield (i := 0) (v := ?v0) rfl rfl (by kernel_rfl) (by kernel_rfl) (by kernel_rfl) (fun _ _ _ h => h) (by rfl) ?hy0 hHeld ?rest0
  case hy0 =>
    intro w hSw
    (try dsimp only at hSw)
    go_simp
    try with_reducible rfl
  simp only [Act.put, List.setIfInBounds_toArray, List.set_cons_zero, List.set_cons_succ]
  refine wpAnyH_yield (i := 1) (v := ?v1) rfl rfl (by kernel_rfl) (by kernel_rfl) (by kernel_rfl) (fun _ _ _ h => h) (by rfl) ?hy1 hHeld ?rest1
  case hy1 =>
    intro w hSw
    (try dsimp only at hSw)
    go_simp
    try with_reducible rfl
  simp only [Act.put, List.setIfInBounds_toArray, List.set_cons_zero, List.set_cons_succ]
  refine wpAnyH_yield (i := 2) (v := ?v2) rfl rfl (by kernel_rfl) (by kernel_rfl) (by kernel_rfl) (fun _ _ _ h => h) (by rfl) ?hy2 hHeld ?rest2
  case hy2 =>
    intro w hSw
    (try dsimp only at hSw)
    go_simp
    try with_reducible rfl
  simp only [Act.put, List.setIfInBounds_toArray, List.set_cons_zero, List.set_cons_succ]
  refine wpAnyH_yield (i := 3) (v := ?v3) rfl rfl (by kernel_rfl) (by kernel_rfl) (by kernel_rfl) (fun _ _ _ h => h) (by rfl) ?hy3 hHeld ?rest3
  case hy3 =>
    intro w hSw
    (try dsimp only at hSw)
    go_simp
    try with_reducible rfl
  simp only [Act.put, List.setIfInBounds_toArray, List.set_cons_zero, List.set_cons_succ]
  refine wpAnyH_yield (i := 4) (v := ?v4) rfl rfl (by kernel_rfl) (by kernel_rfl) (by kernel_rfl) (fun _ _ _ h => h) (by rfl) ?hy4 hHeld ?rest4
  case hy4 =>
    intro w hSw
    (try dsimp only at hSw)
    go_simp
    try with_reducible rfl
  simp only [Act.put, List.setIfInBounds_toArray, List.set_cons_zero, List.set_cons_succ]
  refine wpAnyH_yield (i := 5) (v := ?v5) rfl rfl (by kernel_rfl) (by kernel_rfl) (by kernel_rfl) (fun _ _ _ h => h) (by rfl) ?hy5 hHeld ?rest5
  case hy5 =>
    intro w hSw
    (try dsimp only at hSw)
    go_simp
    try with_reducible rfl
  simp only [Act.put, List.setIfInBounds_toArray, List.set_cons_zero, List.set_cons_succ]
  refine wpAnyH_yield (i := 6) (v := ?v6) rfl rfl (by kernel_rfl) (by kernel_rfl) (by kernel_rfl) (fun _ _ _ h => h) (by rfl) ?hy6 hHeld ?rest6
  case hy6 =>
    intro w hSw
    (try dsimp only at hSw)
    go_simp
    try with_reducible rfl
  simp only [Act.put, List.setIfInBounds_toArray, List.set_cons_zero, List.set_cons_succ]
  refine wpAnyH_yield (i := 7) (v := ?v7) rfl rfl (by kernel_rfl) (by kernel_rfl) (by kernel_rfl) (fun _ _ _ h => h) (by rfl) ?hy7 hHeld ?rest7
  case hy7 =>
    intro w hSw
    (try dsimp only at hSw)
    go_simp
    try with_reducible rfl
  simp only [Act.put, List.setIfInBounds_toArray, List.set_cons_zero, List.set_cons_succ]
  refine wpAnyH_yield (i := 8) (v := ?v8) rfl rfl (by kernel_rfl) (by kernel_rfl) (by kernel_rfl) (fun _ _ _ h => h) (by rfl) ?hy8 hHeld ?rest8
  case hy8 =>
    intro w hSw
    (try dsimp only at hSw)
    go_simp
    try with_reducible rfl
  simp only [Act.put, List.setIfInBounds_toArray, List.set_cons_zero, List.set_cons_succ]
  refine wpAnyH_ready (rs := [9, 10, 11]) (by kernel_rfl) (by simp) ?_
  refine AllReadyH.cons rfl (fun K hK => ?_) ?_
  · go_simp
    refine (hcall W1.drew ((Below.refl W1.heap.size W1).drew)).mono ?_
    rintro e my1 ⟨rfl, hb⟩
    have HBy1 : Hid (Below W1.heap.size W1 my1) := Lib.hid (((Below.refl W1.heap.size W1).drew).trans (hb.mono ((Below.refl W1.heap.size W1).drew).size))
    clear hb
    go_wp2_with fail
    refine hK.out _ _ (HKp.out _ HBy1.out) (fun hHeld => ?_)
    clear hK K
    try simp only [Act.put, List.setIfInBounds_toArray, List.set_cons_zero, List.set_cons_succ]
    refine wpAnyH_ready (rs := [10, 11]) (by kernel_rfl) (by simp) ?_
    refine AllReadyH.cons rfl (fun K hK => ?_) ?_
    · have HBy2 : Hid (Below W1.heap.size W1 (my1.alloc (.cells #[.int .u32 0, .bool false] 88))) := Lib.hid (HBy1.out.alloc (HBy1.out).size _)
      have HWAy2 : Hid (Box (my1.alloc (.cells #[.int .u32 0, .bool false] 88)) (my1.heap.size) 88 #[.int .u32 0, .bool false]) := Lib.hid (by have := Box.new my1 88 #[.int .u32 0, .bool false]; rwa [show (my1).heap.size = my1.heap.size by simp] at this)
      have hgey2 : W1.heap.size ≤ my1.heap.size := by have := (HBy1.out).size; first | omega | (simp at this; omega)
      go_simp
      refine hK.out _ _ (HKp.out _ HBy2.out) (fun hHeld => ?_)
      clear hK K
      try simp only [Act.put, List.setIfInBounds_toArray, List.set_cons_zero, List.set_cons_succ]
      refine wpAnyH_ready (rs := [11]) (by kernel_rfl) (by simp) ?_
      refine AllReadyH.cons rfl (fun K hK => ?_) AllReadyH.nil
      have HBy3 : Hid (Below W1.heap.size W1 ((my1.alloc (.cells #[.int .u32 0, .bool false] 88)).alloc (.cells #[.int .u32 0, .bool false] 88))) := Lib.hid (HBy2.out.alloc (HBy2.out).size _)
      have HWBy3 : Hid (Box ((my1.alloc (.cells #[.int .u32 0, .bool false] 88)).alloc (.cells #[.int .u32 0, .bool false] 88)) (my1.heap.size + 1) 88 #[.int .u32 0, .bool false]) := Lib.hid (by have := Box.new (my1.alloc (.cells #[.int .u32 0, .bool false] 88)) 88 #[.int .u32 0, .bool false]; rwa [show ((my1.alloc (.cells #[.int .u32 0, .bool false] 88))).heap.size = my1.heap.size + 1 by simp] at this)
      have hney3 : my1.heap.size ≠ my1.heap.size + 1 := by have := HWAy2.out.lt; first | omega | (simp at this; omega)
      have HWAy3 := Lib.hid (HWAy2.out.alloc (.cells #[.int .u32 0, .bool false] 88))
      have hgey3 : W1.heap.size ≤ my1.heap.size + 1 := by have := (HBy2.out).size; first | omega | (simp at this; omega)
      go_simp
      refine hK.out _ _ (HKp.out _ HBy3.out) (fun hHeld => ?_)
      clear hK K
      try simp only [Act.put, List.setIfInBounds_toArray, List.set_cons_zero, List.set_cons_succ]
      have hx1z4 : Below W1.heap.size W1 (((my1.alloc (.cells #[.int .u32 0, .bool false] 88)).alloc (.cells #[.int .u32 0, .bool false] 88)).setRow (my1.heap.size) #[.int .u32 av, .bool ab]) := below_setRow (HBy3.out) hgey2 _
      have HBxz4 : Hid (Below W1.heap.size W1 ((((my1.alloc (.cells #[.int .u32 0, .bool false] 88)).alloc (.cells #[.int .u32 0, .bool false] 88)).setRow (my1.heap.size) #[.int .u32 av, .bool ab]).setRow (my1.heap.size + 1) #[.int .u32 ov, .bool ob])) := Lib.hid (below_setRow hx1z4 hgey3 _)
      have HB1z4 : Hid (Box (((my1.alloc (.cells #[.int .u32 0, .bool false] 88)).alloc (.cells #[.int .u32 0, .bool false] 88)).setRow (my1.heap.size) #[.int .u32 av, .bool ab]) (my1.heap.size + 1) 88 #[.int .u32 0, .bool false]) := Lib.hid (HWBy3.out.grown (grownBy_setRow _ _ _) (fun e => by have := Option.some.inj e; omega))
      have HA1z4 : Hid (Box (((my1.alloc (.cells #[.int .u32 0, .bool false] 88)).alloc (.cells #[.int .u32 0, .bool false] 88)).setRow (my1.heap.size) #[.int .u32 av, .bool ab]) (my1.heap.size) 88 #[.int .u32 av, .bool ab]) := Lib.hid (setRow_heap _ _ _ _ _ _ HWAy3.out)
      have HXAz4 : Hid (Box ((((my1.alloc (.cells #[.int .u32 0, .bool false] 88)).alloc (.cells #[.int .u32 0, .bool false] 88)).setRow (my1.heap.size) #[.int .u32 av, .bool ab]).setRow (my1.heap.size + 1) #[.int .u32 ov, .bool ob]) (my1.heap.size) 88 #[.int .u32 av, .bool ab]) := Lib.hid (HA1z4.out.grown (grownBy_setRow _ _ _) (fun e => by have := Option.some.inj e; omega))
      have HXBz4 : Hid (Box ((((my1.alloc (.cells #[.int .u32 0, .bool false] 88)).alloc (.cells #[.int .u32 0, .bool false] 88)).setRow (my1.heap.size) #[.int .u32 av, .bool ab]).setRow (my1.heap.size + 1) #[.int .u32 ov, .bool ob]) (my1.heap.size + 1) 88 #[.int .u32 ov, .bool ob]) := Lib.hid (setRow_heap _ _ _ _ _ _ HB1z4.out)
      refine wpAnyH_ready (rs := [12]) (by kernel_rfl) (by simp) ?_
      refine AllReadyH.cons rfl (fun K hK => ?_) AllReadyH.nil
      refine step_rowJ _ (by rfl) 88 _ _ (by rfl) (by rfl) (my1.heap.size) #[.int .u32 av, .bool ab] (by rfl) (by rfl) 88 _ HWAy3.out (by kernel_rfl) rfl (by simp [Value.oneCell']) ?_
      refine hK.out _ _ (HKp.out _ hx1z4) (fun hHeld => ?_)
      clear hK K
      try simp only [Act.put, List.setIfInBounds_toArray, List.set_cons_zero, List.set_cons_succ]
      refine wpAnyH_ready (rs := [13]) (by kernel_rfl) (by simp) ?_
      refine AllReadyH.cons rfl (fun K hK => ?_) AllReadyH.nil
      refine step_rowJ _ (by rfl) 88 _ _ (by rfl) (by rfl) (my1.heap.size + 1) #[.int .u32 ov, .bool ob] (by rfl) (by rfl) 88 _ HB1z4.out (by kernel_rfl) rfl (by simp [Value.oneCell']) ?_
      refine hK.out _ _ (HKp.out _ HBxz4.out) (fun hHeld => ?_)
      clear hK K
      try simp only [Act.put, List.setIfInBounds_toArray, List.set_cons_zero, List.set_cons_succ]
      refine wpAnyH_done (by kernel_rfl) ?_ _
      have HXA := HXAz4
      have HXB := HXBz4
      have HXX := HBxz4
      generalize hX : ((((my1.alloc (.cells #[.int .u32 0, .bool false] 88)).alloc (.cells #[.int .u32 0, .bool false] 88)).setRow (my1.heap.size) #[.int .u32 av, .bool ab]).setRow (my1.heap.size + 1) #[.int .u32 ov, .bool ob]) = X at HXA HXB HXX ⊢
      generalize hPB : my1.heap.size + 1 = PB at HXB ⊢
      generalize hPA : my1.heap.size = PA at HXA ⊢
      clear hX hPA hPB HXAz4 HXBz4 HBxz4 HA1z4 HB1z4 hx1z4 hHeld
      have HFX := Lib.hid (HF.out.later HXX.out)
      have HIX := Lib.hid (HI.out.later HXX.out)
      have HGX : Hid (W.grownBy X (some f)) := Lib.hid (grownBy_of_below (HB.out.trans (HXX.out.mono HB.out.size)) _)
      have x1 : X.cell? ⟨W.heap.size, 1, none⟩ = some (.int .i64 fn) := HIX.out.cell rfl
      have x2 : X.cell? ⟨W.heap.size, 2, none⟩ = some (.int .i64 (d : Int)) := HIX.out.cell rfl
      have x5 : X.cell? ⟨W.heap.size, 5, none⟩ = some (.int .i64 o) := HIX.out.cell rfl
      have p0 : X.cell? ⟨PA, 0, none⟩ = some (.int .u32 av) := HXA.out.cell rfl
      have p1 : X.cell? ⟨PA, 1, none⟩ = some (.bool ab) := HXA.out.cell rfl
      have q0 : X.cell? ⟨PB, 0, none⟩ = some (.int .u32 ov) := HXB.out.cell rfl
      have q1 : X.cell? ⟨PB, 1, none⟩ = some (.bool ob) := HXB.out.cell rfl
      clear HKp hcall HXX HXA HXB HF HI HB
      by_cases hf : fn = 0
      · have hfb : (fn != 0) = false := by simp [hf]
        have hhB : (fn == 0) = true := by simp [hf]
        clear hf
        go_wp2_with fail
        refine (holds_any fn av ov X).mono ?_
        rintro e m9 ⟨rfl, hm9⟩
        subst m9
        rcases hh : holdsB fn av ov with _ | _
        · have HQ : Hid (jumpP x fn d o ov ob = (0, x)) := Lib.hid (by simp [jumpP, HAV.out, HAB.out, hhB, hh])
          clear hh p0 p1 q0 q1 x1 x2
          go_wp2_with fail
          go_ret
          rw [HQ.out]
          exact ⟨rfl, HGX.out, HFX.out⟩
        · have HQ : Hid (jumpP x fn d o ov ob = (0, atF x (x.2.1 + o))) := Lib.hid (by simp [jumpP, HAV.out, HAB.out, hhB, hh])
          have z2 := HFX.out.pos
          have zf := HFX.out.free 2
          have HF8 := Lib.hid (HFX.out.go (x.2.1 + o))
          have HG8 : Hid (W.grownBy (X.setCell ⟨f, 2, none⟩ (.int .i64 (x.2.1 + o))) (some f)) := Lib.hid (grow_trans HGX.out (grownBy_setCell _ _ _))
          clear hh p0 p1 q0 q1 x1 x2
          go_wp2_with fail
          go_big_region
          go_wp2_with fail
          go_ret
          rw [HQ.out]
          exact ⟨rfl, grow_trans HG8.out (grownBy_of_below ((Below.refl _ _).drew) _), HF8.out.later ((Below.refl _ _).drew)⟩
      · have hfb : (fn != 0) = true := by simp [hf]
        have hf0 : (fn == 0) = false := by simp [hf]
        clear hf
        cases ab
        · have HQ : Hid (jumpP x fn d o ov ob = (10, x)) := Lib.hid (by simp [jumpP, HAB.out, hf0])
          go_wp2_with fail
          go_ret
          rw [HQ.out]
          exact ⟨rfl, HGX.out, HFX.out⟩
        cases ob
        · have HQ : Hid (jumpP x fn d o ov false = (10, x)) := Lib.hid (by simp [jumpP, HAB.out, hf0])
          go_wp2_with fail
          go_ret
          rw [HQ.out]
          exact ⟨rfl, HGX.out, HFX.out⟩
        have hhB : (fn == 0) = false := hf0
        go_wp2_with fail
        refine (holds_any fn av ov X).mono ?_
        rintro e m9 ⟨rfl, hm9⟩
        subst m9
        rcases hh : holdsB fn av ov with _ | _
        · have HQ : Hid (jumpP x fn d o ov true = (0, x)) := Lib.hid (by simp [jumpP, HAV.out, HAB.out, hhB, hh])
          clear hh p0 p1 q0 q1 x1 x2
          go_wp2_with fail
          go_ret
          rw [HQ.out]
          exact ⟨rfl, HGX.out, HFX.out⟩
        · have HQ : Hid (jumpP x fn d o ov true = (0, atF x (x.2.1 + o))) := Lib.hid (by simp [jumpP, HAV.out, HAB.out, hhB, hh])
          have z2 := HFX.out.pos
          have zf := HFX.out.free 2
          have HF8 := Lib.hid (HFX.out.go (x.2.1 + o))
          have HG8 : Hid (W.grownBy (X.setCell ⟨f, 2, none⟩ (.int .i64 (x.2.1 + o))) (some f)) := Lib.hid (grow_trans HGX.out (grownBy_setCell _ _ _))
          clear hh p0 p1 q0 q1 x1 x2
          go_wp2_with fail
          go_big_region
          go_wp2_with fail
          go_ret
          rw [HQ.out]
          exact ⟨rfl, grow_trans HG8.out (grownBy_of_below ((Below.refl _ _).drew) _), HF8.out.later ((Below.refl _ _).drew)⟩
    refine AllReadyH.cons rfl (fun K hK => ?_) AllReadyH.nil
    have HBy5 : Hid (Below W1.heap.size W1 (my1.alloc (.cells #[.int .u32 0, .bool false] 88))) := Lib.hid (HBy1.out.alloc (HBy1.out).size _)
    have HWBy5 : Hid (Box (my1.alloc (.cells #[.int .u32 0, .bool false] 88)) (my1.heap.size) 88 #[.int .u32 0, .bool false]) := Lib.hid (by have := Box.new my1 88 #[.int .u32 0, .bool false]; rwa [show (my1).heap.size = my1.heap.size by simp] at this)
    have hgey5 : W1.heap.size ≤ my1.heap.size := by have := (HBy1.out).size; first | omega | (simp at this; omega)
    go_simp
    refine hK.out _ _ (HKp.out _ HBy5.out) (fun hHeld => ?_)
    clear hK K
    try simp only [Act.put, List.setIfInBounds_toArray, List.set_cons_zero, List.set_cons_succ]
    refine wpAnyH_ready (rs := [10]) (by kernel_rfl) (by simp) ?_
    refine AllReadyH.cons rfl (fun K hK => ?_) AllReadyH.nil
    have HBy6 : Hid (Below W1.heap.size W1 ((my1.alloc (.cells #[.int .u32 0, .bool false] 88)).alloc (.cells #[.int .u32 0, .bool false] 88))) := Lib.hid (HBy5.out.alloc (HBy5.out).size _)
    have HWAy6 : Hid (Box ((my1.alloc (.cells #[.int .u32 0, .bool false] 88)).alloc (.cells #[.int .u32 0, .bool false] 88)) (my1.heap.size + 1) 88 #[.int .u32 0, .bool false]) := Lib.hid (by have := Box.new (my1.alloc (.cells #[.int .u32 0, .bool false] 88)) 88 #[.int .u32 0, .bool false]; rwa [show ((my1.alloc (.cells #[.int .u32 0, .bool false] 88))).heap.size = my1.heap.size + 1 by simp] at this)
    have hney6 : my1.heap.size ≠ my1.heap.size + 1 := by have := HWBy5.out.lt; first | omega | (simp at this; omega)
    have HWBy6 := Lib.hid (HWBy5.out.alloc (.cells #[.int .u32 0, .bool false] 88))
    have hgey6 : W1.heap.size ≤ my1.heap.size + 1 := by have := (HBy5.out).size; first | omega | (simp at this; omega)
    go_simp
    refine hK.out _ _ (HKp.out _ HBy6.out) (fun hHeld => ?_)
    clear hK K
    try simp only [Act.put, List.setIfInBounds_toArray, List.set_cons_zero, List.set_cons_succ]
    have hx1z7 : Below W1.heap.size W1 (((my1.alloc (.cells #[.int .u32 0, .bool false] 88)).alloc (.cells #[.int .u32 0, .bool false] 88)).setRow (my1.heap.size + 1) #[.int .u32 av, .bool ab]) := below_setRow (HBy6.out) hgey6 _
    have HBxz7 : Hid (Below W1.heap.size W1 ((((my1.alloc (.cells #[.int .u32 0, .bool false] 88)).alloc (.cells #[.int .u32 0, .bool false] 88)).setRow (my1.heap.size + 1) #[.int .u32 av, .bool ab]).setRow (my1.heap.size) #[.int .u32 ov, .bool ob])) := Lib.hid (below_setRow hx1z7 hgey5 _)
    have HB1z7 : Hid (Box (((my1.alloc (.cells #[.int .u32 0, .bool false] 88)).alloc (.cells #[.int .u32 0, .bool false] 88)).setRow (my1.heap.size + 1) #[.int .u32 av, .bool ab]) (my1.heap.size) 88 #[.int .u32 0, .bool false]) := Lib.hid (HWBy6.out.grown (grownBy_setRow _ _ _) (fun e => by have := Option.some.inj e; omega))
    have HA1z7 : Hid (Box (((my1.alloc (.cells #[.int .u32 0, .bool false] 88)).alloc (.cells #[.int .u32 0, .bool false] 88)).setRow (my1.heap.size + 1) #[.int .u32 av, .bool ab]) (my1.heap.size + 1) 88 #[.int .u32 av, .bool ab]) := Lib.hid (setRow_heap _ _ _ _ _ _ HWAy6.out)
    have HXAz7 : Hid (Box ((((my1.alloc (.cells #[.int .u32 0, .bool false] 88)).alloc (.cells #[.int .u32 0, .bool false] 88)).setRow (my1.heap.size + 1) #[.int .u32 av, .bool ab]).setRow (my1.heap.size) #[.int .u32 ov, .bool ob]) (my1.heap.size + 1) 88 #[.int .u32 av, .bool ab]) := Lib.hid (HA1z7.out.grown (grownBy_setRow _ _ _) (fun e => by have := Option.some.inj e; omega))
    have HXBz7 : Hid (Box ((((my1.alloc (.cells #[.int .u32 0, .bool false] 88)).alloc (.cells #[.int .u32 0, .bool false] 88)).setRow (my1.heap.size + 1) #[.int .u32 av, .bool ab]).setRow (my1.heap.size) #[.int .u32 ov, .bool ob]) (my1.heap.size) 88 #[.int .u32 ov, .bool ob]) := Lib.hid (setRow_heap _ _ _ _ _ _ HB1z7.out)
    refine wpAnyH_ready (rs := [12]) (by kernel_rfl) (by simp) ?_
    refine AllReadyH.cons rfl (fun K hK => ?_) AllReadyH.nil
    refine step_rowJ _ (by rfl) 88 _ _ (by rfl) (by rfl) (my1.heap.size + 1) #[.int .u32 av, .bool ab] (by rfl) (by rfl) 88 _ HWAy6.out (by kernel_rfl) rfl (by simp [Value.oneCell']) ?_
    refine hK.out _ _ (HKp.out _ hx1z7) (fun hHeld => ?_)
    clear hK K
    try simp only [Act.put, List.setIfInBounds_toArray, List.set_cons_zero, List.set_cons_succ]
    refine wpAnyH_ready (rs := [13]) (by kernel_rfl) (by simp) ?_
    refine AllReadyH.cons rfl (fun K hK => ?_) AllReadyH.nil
    refine step_rowJ _ (by rfl) 88 _ _ (by rfl) (by rfl) (my1.heap.size) #[.int .u32 ov, .bool ob] (by rfl) (by rfl) 88 _ HB1z7.out (by kernel_rfl) rfl (by simp [Value.oneCell']) ?_
    refine hK.out _ _ (HKp.out _ HBxz7.out) (fun hHeld => ?_)
    clear hK K
    try simp only [Act.put, List.setIfInBounds_toArray, List.set_cons_zero, List.set_cons_succ]
    refine wpAnyH_done (by kernel_rfl) ?_ _
    have HXA := HXAz7
    have HXB := HXBz7
    have HXX := HBxz7
    generalize hX : ((((my1.alloc (.cells #[.int .u32 0, .bool false] 88)).alloc (.cells #[.int .u32 0, .bool false] 88)).setRow (my1.heap.size + 1) #[.int .u32 av, .bool ab]).setRow (my1.heap.size) #[.int .u32 ov, .bool ob]) = X at HXA HXB HXX ⊢
    generalize hPA : my1.heap.size + 1 = PA at HXA ⊢
    generalize hPB : my1.heap.size = PB at HXB ⊢
    clear hX hPA hPB HXAz7 HXBz7 HBxz7 HA1z7 HB1z7 hx1z7 hHeld
    have HFX := Lib.hid (HF.out.later HXX.out)
    have HIX := Lib.hid (HI.out.later HXX.out)
    have HGX : Hid (W.grownBy X (some f)) := Lib.hid (grownBy_of_below (HB.out.trans (HXX.out.mono HB.out.size)) _)
    have x1 : X.cell? ⟨W.heap.size, 1, none⟩ = some (.int .i64 fn) := HIX.out.cell rfl
    have x2 : X.cell? ⟨W.heap.size, 2, none⟩ = some (.int .i64 (d : Int)) := HIX.out.cell rfl
    have x5 : X.cell? ⟨W.heap.size, 5, none⟩ = some (.int .i64 o) := HIX.out.cell rfl
    have p0 : X.cell? ⟨PA, 0, none⟩ = some (.int .u32 av) := HXA.out.cell rfl
    have p1 : X.cell? ⟨PA, 1, none⟩ = some (.bool ab) := HXA.out.cell rfl
    have q0 : X.cell? ⟨PB, 0, none⟩ = some (.int .u32 ov) := HXB.out.cell rfl
    have q1 : X.cell? ⟨PB, 1, none⟩ = some (.bool ob) := HXB.out.cell rfl
    clear HKp hcall HXX HXA HXB HF HI HB
    by_cases hf : fn = 0
    · have hfb : (fn != 0) = false := by simp [hf]
      have hhB : (fn == 0) = true := by simp [hf]
      clear hf
      go_wp2_with fail
      refine (holds_any fn av ov X).mono ?_
      rintro e m9 ⟨rfl, hm9⟩
      subst m9
      rcases hh : holdsB fn av ov with _ | _
      · have HQ : Hid (jumpP x fn d o ov ob = (0, x)) := Lib.hid (by simp [jumpP, HAV.out, HAB.out, hhB, hh])
        clear hh p0 p1 q0 q1 x1 x2
        go_wp2_with fail
        go_ret
        rw [HQ.out]
        exact ⟨rfl, HGX.out, HFX.out⟩
      · have HQ : Hid (jumpP x fn d o ov ob = (0, atF x (x.2.1 + o))) := Lib.hid (by simp [jumpP, HAV.out, HAB.out, hhB, hh])
        have z2 := HFX.out.pos
        have zf := HFX.out.free 2
        have HF8 := Lib.hid (HFX.out.go (x.2.1 + o))
        have HG8 : Hid (W.grownBy (X.setCell ⟨f, 2, none⟩ (.int .i64 (x.2.1 + o))) (some f)) := Lib.hid (grow_trans HGX.out (grownBy_setCell _ _ _))
        clear hh p0 p1 q0 q1 x1 x2
        go_wp2_with fail
        go_big_region
        go_wp2_with fail
        go_ret
        rw [HQ.out]
        exact ⟨rfl, grow_trans HG8.out (grownBy_of_below ((Below.refl _ _).drew) _), HF8.out.later ((Below.refl _ _).drew)⟩
    · have hfb : (fn != 0) = true := by simp [hf]
      have hf0 : (fn == 0) = false := by simp [hf]
      clear hf
      cases ab
      · have HQ : Hid (jumpP x fn d o ov ob = (10, x)) := Lib.hid (by simp [jumpP, HAB.out, hf0])
        go_wp2_with fail
        go_ret
        rw [HQ.out]
        exact ⟨rfl, HGX.out, HFX.out⟩
      cases ob
      · have HQ : Hid (jumpP x fn d o ov false = (10, x)) := Lib.hid (by simp [jumpP, HAB.out, hf0])
        go_wp2_with fail
        go_ret
        rw [HQ.out]
        exact ⟨rfl, HGX.out, HFX.out⟩
      have hhB : (fn == 0) = false := hf0
      go_wp2_with fail
      refine (holds_any fn av ov X).mono ?_
      rintro e m9 ⟨rfl, hm9⟩
      subst m9
      rcases hh : holdsB fn av ov with _ | _
      · have HQ : Hid (jumpP x fn d o ov true = (0, x)) := Lib.hid (by simp [jumpP, HAV.out, HAB.out, hhB, hh])
        clear hh p0 p1 q0 q1 x1 x2
        go_wp2_with fail
        go_ret
        rw [HQ.out]
        exact ⟨rfl, HGX.out, HFX.out⟩
      · have HQ : Hid (jumpP x fn d o ov true = (0, atF x (x.2.1 + o))) := Lib.hid (by simp [jumpP, HAV.out, HAB.out, hhB, hh])
        have z2 := HFX.out.pos
        have zf := HFX.out.free 2
        have HF8 := Lib.hid (HFX.out.go (x.2.1 + o))
        have HG8 : Hid (W.grownBy (X.setCell ⟨f, 2, none⟩ (.int .i64 (x.2.1 + o))) (some f)) := Lib.hid (grow_trans HGX.out (grownBy_setCell _ _ _))
        clear hh p0 p1 q0 q1 x1 x2
        go_wp2_with fail
        go_big_region
        go_wp2_with fail
        go_ret
        rw [HQ.out]
        exact ⟨rfl, grow_trans HG8.out (grownBy_of_below ((Below.refl _ _).drew) _), HF8.out.later ((Below.refl _ _).drew)⟩
  refine AllReadyH.cons rfl (fun K hK => ?_) ?_
  · have HBy8 : Hid (Below W1.heap.size W1 (W1.drew.alloc (.cells #[.int .u32 0, .bool false] 88))) := Lib.hid ((Below.refl W1.heap.size W1).drew.alloc ((Below.refl W1.heap.size W1).drew).size _)
    have HWAy8 : Hid (Box (W1.drew.alloc (.cells #[.int .u32 0, .bool false] 88)) (W1.heap.size) 88 #[.int .u32 0, .bool false]) := Lib.hid (by have := Box.new W1.drew 88 #[.int .u32 0, .bool false]; rwa [show (W1.drew).heap.size = W1.heap.size by simp] at this)
    have hgey8 : W1.heap.size ≤ W1.heap.size := by have := ((Below.refl W1.heap.size W1).drew).size; first | omega | (simp at this; omega)
    go_simp
    refine hK.out _ _ (HKp.out _ HBy8.out) (fun hHeld => ?_)
    clear hK K
    try simp only [Act.put, List.setIfInBounds_toArray, List.set_cons_zero, List.set_cons_succ]
    refine wpAnyH_ready (rs := [9, 11]) (by kernel_rfl) (by simp) ?_
    refine AllReadyH.cons rfl (fun K hK => ?_) ?_
    · go_simp
      refine (hcall (W1.drew.alloc (.cells #[.int .u32 0, .bool false] 88)) (HBy8.out)).mono ?_
      rintro e my9 ⟨rfl, hb⟩
      have HBy9 : Hid (Below W1.heap.size W1 my9) := Lib.hid ((HBy8.out).trans (hb.mono (HBy8.out).size))
      have HWAy9 := Lib.hid (HWAy8.out.later hb)
      clear hb
      go_wp2_with fail
      refine hK.out _ _ (HKp.out _ HBy9.out) (fun hHeld => ?_)
      clear hK K
      try simp only [Act.put, List.setIfInBounds_toArray, List.set_cons_zero, List.set_cons_succ]
      refine wpAnyH_ready (rs := [11]) (by kernel_rfl) (by simp) ?_
      refine AllReadyH.cons rfl (fun K hK => ?_) AllReadyH.nil
      have HBy10 : Hid (Below W1.heap.size W1 (my9.alloc (.cells #[.int .u32 0, .bool false] 88))) := Lib.hid (HBy9.out.alloc (HBy9.out).size _)
      have HWBy10 : Hid (Box (my9.alloc (.cells #[.int .u32 0, .bool false] 88)) (my9.heap.size) 88 #[.int .u32 0, .bool false]) := Lib.hid (by have := Box.new my9 88 #[.int .u32 0, .bool false]; rwa [show (my9).heap.size = my9.heap.size by simp] at this)
      have hney10 : W1.heap.size ≠ my9.heap.size := by have := HWAy9.out.lt; first | omega | (simp at this; omega)
      have HWAy10 := Lib.hid (HWAy9.out.alloc (.cells #[.int .u32 0, .bool false] 88))
      have hgey10 : W1.heap.size ≤ my9.heap.size := by have := (HBy9.out).size; first | omega | (simp at this; omega)
      go_simp
      refine hK.out _ _ (HKp.out _ HBy10.out) (fun hHeld => ?_)
      clear hK K
      try simp only [Act.put, List.setIfInBounds_toArray, List.set_cons_zero, List.set_cons_succ]
      have hx1z11 : Below W1.heap.size W1 ((my9.alloc (.cells #[.int .u32 0, .bool false] 88)).setRow (W1.heap.size) #[.int .u32 av, .bool ab]) := below_setRow (HBy10.out) hgey8 _
      have HBxz11 : Hid (Below W1.heap.size W1 (((my9.alloc (.cells #[.int .u32 0, .bool false] 88)).setRow (W1.heap.size) #[.int .u32 av, .bool ab]).setRow (my9.heap.size) #[.int .u32 ov, .bool ob])) := Lib.hid (below_setRow hx1z11 hgey10 _)
      have HB1z11 : Hid (Box ((my9.alloc (.cells #[.int .u32 0, .bool false] 88)).setRow (W1.heap.size) #[.int .u32 av, .bool ab]) (my9.heap.size) 88 #[.int .u32 0, .bool false]) := Lib.hid (HWBy10.out.grown (grownBy_setRow _ _ _) (fun e => by have := Option.some.inj e; omega))
      have HA1z11 : Hid (Box ((my9.alloc (.cells #[.int .u32 0, .bool false] 88)).setRow (W1.heap.size) #[.int .u32 av, .bool ab]) (W1.heap.size) 88 #[.int .u32 av, .bool ab]) := Lib.hid (setRow_heap _ _ _ _ _ _ HWAy10.out)
      have HXAz11 : Hid (Box (((my9.alloc (.cells #[.int .u32 0, .bool false] 88)).setRow (W1.heap.size) #[.int .u32 av, .bool ab]).setRow (my9.heap.size) #[.int .u32 ov, .bool ob]) (W1.heap.size) 88 #[.int .u32 av, .bool ab]) := Lib.hid (HA1z11.out.grown (grownBy_setRow _ _ _) (fun e => by have := Option.some.inj e; omega))
      have HXBz11 : Hid (Box (((my9.alloc (.cells #[.int .u32 0, .bool false] 88)).setRow (W1.heap.size) #[.int .u32 av, .bool ab]).setRow (my9.heap.size) #[.int .u32 ov, .bool ob]) (my9.heap.size) 88 #[.int .u32 ov, .bool ob]) := Lib.hid (setRow_heap _ _ _ _ _ _ HB1z11.out)
      refine wpAnyH_ready (rs := [12]) (by kernel_rfl) (by simp) ?_
      refine AllReadyH.cons rfl (fun K hK => ?_) AllReadyH.nil
      refine step_rowJ _ (by rfl) 88 _ _ (by rfl) (by rfl) (W1.heap.size) #[.int .u32 av, .bool ab] (by rfl) (by rfl) 88 _ HWAy10.out (by kernel_rfl) rfl (by simp [Value.oneCell']) ?_
      refine hK.out _ _ (HKp.out _ hx1z11) (fun hHeld => ?_)
      clear hK K
      try simp only [Act.put, List.setIfInBounds_toArray, List.set_cons_zero, List.set_cons_succ]
      refine wpAnyH_ready (rs := [13]) (by kernel_rfl) (by simp) ?_
      refine AllReadyH.cons rfl (fun K hK => ?_) AllReadyH.nil
      refine step_rowJ _ (by rfl) 88 _ _ (by rfl) (by rfl) (my9.heap.size) #[.int .u32 ov, .bool ob] (by rfl) (by rfl) 88 _ HB1z11.out (by kernel_rfl) rfl (by simp [Value.oneCell']) ?_
      refine hK.out _ _ (HKp.out _ HBxz11.out) (fun hHeld => ?_)
      clear hK K
      try simp only [Act.put, List.setIfInBounds_toArray, List.set_cons_zero, List.set_cons_succ]
      refine wpAnyH_done (by kernel_rfl) ?_ _
      have HXA := HXAz11
      have HXB := HXBz11
      have HXX := HBxz11
      generalize hX : (((my9.alloc (.cells #[.int .u32 0, .bool false] 88)).setRow (W1.heap.size) #[.int .u32 av, .bool ab]).setRow (my9.heap.size) #[.int .u32 ov, .bool ob]) = X at HXA HXB HXX ⊢
      generalize hPB : my9.heap.size = PB at HXB ⊢
      generalize hPA : W1.heap.size = PA at HXA ⊢
      clear hX hPA hPB HXAz11 HXBz11 HBxz11 HA1z11 HB1z11 hx1z11 hHeld
      have HFX := Lib.hid (HF.out.later HXX.out)
      have HIX := Lib.hid (HI.out.later HXX.out)
      have HGX : Hid (W.grownBy X (some f)) := Lib.hid (grownBy_of_below (HB.out.trans (HXX.out.mono HB.out.size)) _)
      have x1 : X.cell? ⟨W.heap.size, 1, none⟩ = some (.int .i64 fn) := HIX.out.cell rfl
      have x2 : X.cell? ⟨W.heap.size, 2, none⟩ = some (.int .i64 (d : Int)) := HIX.out.cell rfl
      have x5 : X.cell? ⟨W.heap.size, 5, none⟩ = some (.int .i64 o) := HIX.out.cell rfl
      have p0 : X.cell? ⟨PA, 0, none⟩ = some (.int .u32 av) := HXA.out.cell rfl
      have p1 : X.cell? ⟨PA, 1, none⟩ = some (.bool ab) := HXA.out.cell rfl
      have q0 : X.cell? ⟨PB, 0, none⟩ = some (.int .u32 ov) := HXB.out.cell rfl
      have q1 : X.cell? ⟨PB, 1, none⟩ = some (.bool ob) := HXB.out.cell rfl
      clear HKp hcall HXX HXA HXB HF HI HB
      by_cases hf : fn = 0
      · have hfb : (fn != 0) = false := by simp [hf]
        have hhB : (fn == 0) = true := by simp [hf]
        clear hf
        go_wp2_with fail
        refine (holds_any fn av ov X).mono ?_
        rintro e m9 ⟨rfl, hm9⟩
        subst m9
        rcases hh : holdsB fn av ov with _ | _
        · have HQ : Hid (jumpP x fn d o ov ob = (0, x)) := Lib.hid (by simp [jumpP, HAV.out, HAB.out, hhB, hh])
          clear hh p0 p1 q0 q1 x1 x2
          go_wp2_with fail
          go_ret
          rw [HQ.out]
          exact ⟨rfl, HGX.out, HFX.out⟩
        · have HQ : Hid (jumpP x fn d o ov ob = (0, atF x (x.2.1 + o))) := Lib.hid (by simp [jumpP, HAV.out, HAB.out, hhB, hh])
          have z2 := HFX.out.pos
          have zf := HFX.out.free 2
          have HF8 := Lib.hid (HFX.out.go (x.2.1 + o))
          have HG8 : Hid (W.grownBy (X.setCell ⟨f, 2, none⟩ (.int .i64 (x.2.1 + o))) (some f)) := Lib.hid (grow_trans HGX.out (grownBy_setCell _ _ _))
          clear hh p0 p1 q0 q1 x1 x2
          go_wp2_with fail
          go_big_region
          go_wp2_with fail
          go_ret
          rw [HQ.out]
          exact ⟨rfl, grow_trans HG8.out (grownBy_of_below ((Below.refl _ _).drew) _), HF8.out.later ((Below.refl _ _).drew)⟩
      · have hfb : (fn != 0) = true := by simp [hf]
        have hf0 : (fn == 0) = false := by simp [hf]
        clear hf
        cases ab
        · have HQ : Hid (jumpP x fn d o ov ob = (10, x)) := Lib.hid (by simp [jumpP, HAB.out, hf0])
          go_wp2_with fail
          go_ret
          rw [HQ.out]
          exact ⟨rfl, HGX.out, HFX.out⟩
        cases ob
        · have HQ : Hid (jumpP x fn d o ov false = (10, x)) := Lib.hid (by simp [jumpP, HAB.out, hf0])
          go_wp2_with fail
          go_ret
          rw [HQ.out]
          exact ⟨rfl, HGX.out, HFX.out⟩
        have hhB : (fn == 0) = false := hf0
        go_wp2_with fail
        refine (holds_any fn av ov X).mono ?_
        rintro e m9 ⟨rfl, hm9⟩
        subst m9
        rcases hh : holdsB fn av ov with _ | _
        · have HQ : Hid (jumpP x fn d o ov true = (0, x)) := Lib.hid (by simp [jumpP, HAV.out, HAB.out, hhB, hh])
          clear hh p0 p1 q0 q1 x1 x2
          go_wp2_with fail
          go_ret
          rw [HQ.out]
          exact ⟨rfl, HGX.out, HFX.out⟩
        · have HQ : Hid (jumpP x fn d o ov true = (0, atF x (x.2.1 + o))) := Lib.hid (by simp [jumpP, HAV.out, HAB.out, hhB, hh])
          have z2 := HFX.out.pos
          have zf := HFX.out.free 2
          have HF8 := Lib.hid (HFX.out.go (x.2.1 + o))
          have HG8 : Hid (W.grownBy (X.setCell ⟨f, 2, none⟩ (.int .i64 (x.2.1 + o))) (some f)) := Lib.hid (grow_trans HGX.out (grownBy_setCell _ _ _))
          clear hh p0 p1 q0 q1 x1 x2
          go_wp2_with fail
          go_big_region
          go_wp2_with fail
          go_ret
          rw [HQ.out]
          exact ⟨rfl, grow_trans HG8.out (grownBy_of_below ((Below.refl _ _).drew) _), HF8.out.later ((Below.refl _ _).drew)⟩
    refine AllReadyH.cons rfl (fun K hK => ?_) AllReadyH.nil
    have HBy12 : Hid (Below W1.heap.size W1 ((W1.drew.alloc (.cells #[.int .u32 0, .bool false] 88)).alloc (.cells #[.int .u32 0, .bool false] 88))) := Lib.hid (HBy8.out.alloc (HBy8.out).size _)
    have HWBy12 : Hid (Box ((W1.drew.alloc (.cells #[.int .u32 0, .bool false] 88)).alloc (.cells #[.int .u32 0, .bool false] 88)) (W1.heap.size + 1) 88 #[.int .u32 0, .bool false]) := Lib.hid (by have := Box.new (W1.drew.alloc (.cells #[.int .u32 0, .bool false] 88)) 88 #[.int .u32 0, .bool false]; rwa [show ((W1.drew.alloc (.cells #[.int .u32 0, .bool false] 88))).heap.size = W1.heap.size + 1 by simp] at this)
    have hney12 : W1.heap.size ≠ W1.heap.size + 1 := by have := HWAy8.out.lt; first | omega | (simp at this; omega)
    have HWAy12 := Lib.hid (HWAy8.out.alloc (.cells #[.int .u32 0, .bool false] 88))
    have hgey12 : W1.heap.size ≤ W1.heap.size + 1 := by have := (HBy8.out).size; first | omega | (simp at this; omega)
    go_simp
    refine hK.out _ _ (HKp.out _ HBy12.out) (fun hHeld => ?_)
    clear hK K
    try simp only [Act.put, List.setIfInBounds_toArray, List.set_cons_zero, List.set_cons_succ]
    refine wpAnyH_ready (rs := [9]) (by kernel_rfl) (by simp) ?_
    refine AllReadyH.cons rfl (fun K hK => ?_) AllReadyH.nil
    go_simp
    refine (hcall ((W1.drew.alloc (.cells #[.int .u32 0, .bool false] 88)).alloc (.cells #[.int .u32 0, .bool false] 88)) (HBy12.out)).mono ?_
    rintro e my13 ⟨rfl, hb⟩
    have HBy13 : Hid (Below W1.heap.size W1 my13) := Lib.hid ((HBy12.out).trans (hb.mono (HBy12.out).size))
    have HWAy13 := Lib.hid (HWAy12.out.later hb)
    have HWBy13 := Lib.hid (HWBy12.out.later hb)
    clear hb
    go_wp2_with fail
    refine hK.out _ _ (HKp.out _ HBy13.out) (fun hHeld => ?_)
    clear hK K
    try simp only [Act.put, List.setIfInBounds_toArray, List.set_cons_zero, List.set_cons_succ]
    have hx1z14 : Below W1.heap.size W1 (my13.setRow (W1.heap.size) #[.int .u32 av, .bool ab]) := below_setRow (HBy13.out) hgey8 _
    have HBxz14 : Hid (Below W1.heap.size W1 ((my13.setRow (W1.heap.size) #[.int .u32 av, .bool ab]).setRow (W1.heap.size + 1) #[.int .u32 ov, .bool ob])) := Lib.hid (below_setRow hx1z14 hgey12 _)
    have HB1z14 : Hid (Box (my13.setRow (W1.heap.size) #[.int .u32 av, .bool ab]) (W1.heap.size + 1) 88 #[.int .u32 0, .bool false]) := Lib.hid (HWBy13.out.grown (grownBy_setRow _ _ _) (fun e => by have := Option.some.inj e; omega))
    have HA1z14 : Hid (Box (my13.setRow (W1.heap.size) #[.int .u32 av, .bool ab]) (W1.heap.size) 88 #[.int .u32 av, .bool ab]) := Lib.hid (setRow_heap _ _ _ _ _ _ HWAy13.out)
    have HXAz14 : Hid (Box ((my13.setRow (W1.heap.size) #[.int .u32 av, .bool ab]).setRow (W1.heap.size + 1) #[.int .u32 ov, .bool ob]) (W1.heap.size) 88 #[.int .u32 av, .bool ab]) := Lib.hid (HA1z14.out.grown (grownBy_setRow _ _ _) (fun e => by have := Option.some.inj e; omega))
    have HXBz14 : Hid (Box ((my13.setRow (W1.heap.size) #[.int .u32 av, .bool ab]).setRow (W1.heap.size + 1) #[.int .u32 ov, .bool ob]) (W1.heap.size + 1) 88 #[.int .u32 ov, .bool ob]) := Lib.hid (setRow_heap _ _ _ _ _ _ HB1z14.out)
    refine wpAnyH_ready (rs := [12]) (by kernel_rfl) (by simp) ?_
    refine AllReadyH.cons rfl (fun K hK => ?_) AllReadyH.nil
    refine step_rowJ _ (by rfl) 88 _ _ (by rfl) (by rfl) (W1.heap.size) #[.int .u32 av, .bool ab] (by rfl) (by rfl) 88 _ HWAy13.out (by kernel_rfl) rfl (by simp [Value.oneCell']) ?_
    refine hK.out _ _ (HKp.out _ hx1z14) (fun hHeld => ?_)
    clear hK K
    try simp only [Act.put, List.setIfInBounds_toArray, List.set_cons_zero, List.set_cons_succ]
    refine wpAnyH_ready (rs := [13]) (by kernel_rfl) (by simp) ?_
    refine AllReadyH.cons rfl (fun K hK => ?_) AllReadyH.nil
    refine step_rowJ _ (by rfl) 88 _ _ (by rfl) (by rfl) (W1.heap.size + 1) #[.int .u32 ov, .bool ob] (by rfl) (by rfl) 88 _ HB1z14.out (by kernel_rfl) rfl (by simp [Value.oneCell']) ?_
    refine hK.out _ _ (HKp.out _ HBxz14.out) (fun hHeld => ?_)
    clear hK K
    try simp only [Act.put, List.setIfInBounds_toArray, List.set_cons_zero, List.set_cons_succ]
    refine wpAnyH_done (by kernel_rfl) ?_ _
    have HXA := HXAz14
    have HXB := HXBz14
    have HXX := HBxz14
    generalize hX : ((my13.setRow (W1.heap.size) #[.int .u32 av, .bool ab]).setRow (W1.heap.size + 1) #[.int .u32 ov, .bool ob]) = X at HXA HXB HXX ⊢
    generalize hPB : W1.heap.size + 1 = PB at HXB ⊢
    generalize hPA : W1.heap.size = PA at HXA ⊢
    clear hX hPA hPB HXAz14 HXBz14 HBxz14 HA1z14 HB1z14 hx1z14 hHeld
    have HFX := Lib.hid (HF.out.later HXX.out)
    have HIX := Lib.hid (HI.out.later HXX.out)
    have HGX : Hid (W.grownBy X (some f)) := Lib.hid (grownBy_of_below (HB.out.trans (HXX.out.mono HB.out.size)) _)
    have x1 : X.cell? ⟨W.heap.size, 1, none⟩ = some (.int .i64 fn) := HIX.out.cell rfl
    have x2 : X.cell? ⟨W.heap.size, 2, none⟩ = some (.int .i64 (d : Int)) := HIX.out.cell rfl
    have x5 : X.cell? ⟨W.heap.size, 5, none⟩ = some (.int .i64 o) := HIX.out.cell rfl
    have p0 : X.cell? ⟨PA, 0, none⟩ = some (.int .u32 av) := HXA.out.cell rfl
    have p1 : X.cell? ⟨PA, 1, none⟩ = some (.bool ab) := HXA.out.cell rfl
    have q0 : X.cell? ⟨PB, 0, none⟩ = some (.int .u32 ov) := HXB.out.cell rfl
    have q1 : X.cell? ⟨PB, 1, none⟩ = some (.bool ob) := HXB.out.cell rfl
    clear HKp hcall HXX HXA HXB HF HI HB
    by_cases hf : fn = 0
    · have hfb : (fn != 0) = false := by simp [hf]
      have hhB : (fn == 0) = true := by simp [hf]
      clear hf
      go_wp2_with fail
      refine (holds_any fn av ov X).mono ?_
      rintro e m9 ⟨rfl, hm9⟩
      subst m9
      rcases hh : holdsB fn av ov with _ | _
      · have HQ : Hid (jumpP x fn d o ov ob = (0, x)) := Lib.hid (by simp [jumpP, HAV.out, HAB.out, hhB, hh])
        clear hh p0 p1 q0 q1 x1 x2
        go_wp2_with fail
        go_ret
        rw [HQ.out]
        exact ⟨rfl, HGX.out, HFX.out⟩
      · have HQ : Hid (jumpP x fn d o ov ob = (0, atF x (x.2.1 + o))) := Lib.hid (by simp [jumpP, HAV.out, HAB.out, hhB, hh])
        have z2 := HFX.out.pos
        have zf := HFX.out.free 2
        have HF8 := Lib.hid (HFX.out.go (x.2.1 + o))
        have HG8 : Hid (W.grownBy (X.setCell ⟨f, 2, none⟩ (.int .i64 (x.2.1 + o))) (some f)) := Lib.hid (grow_trans HGX.out (grownBy_setCell _ _ _))
        clear hh p0 p1 q0 q1 x1 x2
        go_wp2_with fail
        go_big_region
        go_wp2_with fail
        go_ret
        rw [HQ.out]
        exact ⟨rfl, grow_trans HG8.out (grownBy_of_below ((Below.refl _ _).drew) _), HF8.out.later ((Below.refl _ _).drew)⟩
    · have hfb : (fn != 0) = true := by simp [hf]
      have hf0 : (fn == 0) = false := by simp [hf]
      clear hf
      cases ab
      · have HQ : Hid (jumpP x fn d o ov ob = (10, x)) := Lib.hid (by simp [jumpP, HAB.out, hf0])
        go_wp2_with fail
        go_ret
        rw [HQ.out]
        exact ⟨rfl, HGX.out, HFX.out⟩
      cases ob
      · have HQ : Hid (jumpP x fn d o ov false = (10, x)) := Lib.hid (by simp [jumpP, HAB.out, hf0])
        go_wp2_with fail
        go_ret
        rw [HQ.out]
        exact ⟨rfl, HGX.out, HFX.out⟩
      have hhB : (fn == 0) = false := hf0
      go_wp2_with fail
      refine (holds_any fn av ov X).mono ?_
      rintro e m9 ⟨rfl, hm9⟩
      subst m9
      rcases hh : holdsB fn av ov with _ | _
      · have HQ : Hid (jumpP x fn d o ov true = (0, x)) := Lib.hid (by simp [jumpP, HAV.out, HAB.out, hhB, hh])
        clear hh p0 p1 q0 q1 x1 x2
        go_wp2_with fail
        go_ret
        rw [HQ.out]
        exact ⟨rfl, HGX.out, HFX.out⟩
      · have HQ : Hid (jumpP x fn d o ov true = (0, atF x (x.2.1 + o))) := Lib.hid (by simp [jumpP, HAV.out, HAB.out, hhB, hh])
        have z2 := HFX.out.pos
        have zf := HFX.out.free 2
        have HF8 := Lib.hid (HFX.out.go (x.2.1 + o))
        have HG8 : Hid (W.grownBy (X.setCell ⟨f, 2, none⟩ (.int .i64 (x.2.1 + o))) (some f)) := Lib.hid (grow_trans HGX.out (grownBy_setCell _ _ _))
        clear hh p0 p1 q0 q1 x1 x2
        go_wp2_with fail
        go_big_region
        go_wp2_with fail
        go_ret
        rw [HQ.out]
        exact ⟨rfl, grow_trans HG8.out (grownBy_of_below ((Below.refl _ _).drew) _), HF8.out.later ((Below.refl _ _).drew)⟩
  refine AllReadyH.cons rfl (fun K hK => ?_) AllReadyH.nil
  have HBy15 : Hid (Below W1.heap.size W1 (W1.drew.alloc (.cells #[.int .u32 0, .bool false] 88))) := Lib.hid ((Below.refl W1.heap.size W1).drew.alloc ((Below.refl W1.heap.size W1).drew).size _)
  have HWBy15 : Hid (Box (W1.drew.alloc (.cells #[.int .u32 0, .bool false] 88)) (W1.heap.size) 88 #[.int .u32 0, .bool false]) := Lib.hid (by have := Box.new W1.drew 88 #[.int .u32 0, .bool false]; rwa [show (W1.drew).heap.size = W1.heap.size by simp] at this)
  have hgey15 : W1.heap.size ≤ W1.heap.size := by have := ((Below.refl W1.heap.size W1).drew).size; first | omega | (simp at this; omega)
  go_simp
  refine hK.out _ _ (HKp.out _ HBy15.out) (fun hHeld => ?_)
  clear hK K
  try simp only [Act.put, List.setIfInBounds_toArray, List.set_cons_zero, List.set_cons_succ]
  refine wpAnyH_ready (rs := [9, 10]) (by kernel_rfl) (by simp) ?_
  refine AllReadyH.cons rfl (fun K hK => ?_) ?_
  · go_simp
    refine (hcall (W1.drew.alloc (.cells #[.int .u32 0, .bool false] 88)) (HBy15.out)).mono ?_
    rintro e my16 ⟨rfl, hb⟩
    have HBy16 : Hid (Below W1.heap.size W1 my16) := Lib.hid ((HBy15.out).trans (hb.mono (HBy15.out).size))
    have HWBy16 := Lib.hid (HWBy15.out.later hb)
    clear hb
    go_wp2_with fail
    refine hK.out _ _ (HKp.out _ HBy16.out) (fun hHeld => ?_)
    clear hK K
    try simp only [Act.put, List.setIfInBounds_toArray, List.set_cons_zero, List.set_cons_succ]
    refine wpAnyH_ready (rs := [10]) (by kernel_rfl) (by simp) ?_
    refine AllReadyH.cons rfl (fun K hK => ?_) AllReadyH.nil
    have HBy17 : Hid (Below W1.heap.size W1 (my16.alloc (.cells #[.int .u32 0, .bool false] 88))) := Lib.hid (HBy16.out.alloc (HBy16.out).size _)
    have HWAy17 : Hid (Box (my16.alloc (.cells #[.int .u32 0, .bool false] 88)) (my16.heap.size) 88 #[.int .u32 0, .bool false]) := Lib.hid (by have := Box.new my16 88 #[.int .u32 0, .bool false]; rwa [show (my16).heap.size = my16.heap.size by simp] at this)
    have hney17 : W1.heap.size ≠ my16.heap.size := by have := HWBy16.out.lt; first | omega | (simp at this; omega)
    have HWBy17 := Lib.hid (HWBy16.out.alloc (.cells #[.int .u32 0, .bool false] 88))
    have hgey17 : W1.heap.size ≤ my16.heap.size := by have := (HBy16.out).size; first | omega | (simp at this; omega)
    go_simp
    refine hK.out _ _ (HKp.out _ HBy17.out) (fun hHeld => ?_)
    clear hK K
    try simp only [Act.put, List.setIfInBounds_toArray, List.set_cons_zero, List.set_cons_succ]
    have hx1z18 : Below W1.heap.size W1 ((my16.alloc (.cells #[.int .u32 0, .bool false] 88)).setRow (my16.heap.size) #[.int .u32 av, .bool ab]) := below_setRow (HBy17.out) hgey17 _
    have HBxz18 : Hid (Below W1.heap.size W1 (((my16.alloc (.cells #[.int .u32 0, .bool false] 88)).setRow (my16.heap.size) #[.int .u32 av, .bool ab]).setRow (W1.heap.size) #[.int .u32 ov, .bool ob])) := Lib.hid (below_setRow hx1z18 hgey15 _)
    have HB1z18 : Hid (Box ((my16.alloc (.cells #[.int .u32 0, .bool false] 88)).setRow (my16.heap.size) #[.int .u32 av, .bool ab]) (W1.heap.size) 88 #[.int .u32 0, .bool false]) := Lib.hid (HWBy17.out.grown (grownBy_setRow _ _ _) (fun e => by have := Option.some.inj e; omega))
    have HA1z18 : Hid (Box ((my16.alloc (.cells #[.int .u32 0, .bool false] 88)).setRow (my16.heap.size) #[.int .u32 av, .bool ab]) (my16.heap.size) 88 #[.int .u32 av, .bool ab]) := Lib.hid (setRow_heap _ _ _ _ _ _ HWAy17.out)
    have HXAz18 : Hid (Box (((my16.alloc (.cells #[.int .u32 0, .bool false] 88)).setRow (my16.heap.size) #[.int .u32 av, .bool ab]).setRow (W1.heap.size) #[.int .u32 ov, .bool ob]) (my16.heap.size) 88 #[.int .u32 av, .bool ab]) := Lib.hid (HA1z18.out.grown (grownBy_setRow _ _ _) (fun e => by have := Option.some.inj e; omega))
    have HXBz18 : Hid (Box (((my16.alloc (.cells #[.int .u32 0, .bool false] 88)).setRow (my16.heap.size) #[.int .u32 av, .bool ab]).setRow (W1.heap.size) #[.int .u32 ov, .bool ob]) (W1.heap.size) 88 #[.int .u32 ov, .bool ob]) := Lib.hid (setRow_heap _ _ _ _ _ _ HB1z18.out)
    refine wpAnyH_ready (rs := [12]) (by kernel_rfl) (by simp) ?_
    refine AllReadyH.cons rfl (fun K hK => ?_) AllReadyH.nil
    refine step_rowJ _ (by rfl) 88 _ _ (by rfl) (by rfl) (my16.heap.size) #[.int .u32 av, .bool ab] (by rfl) (by rfl) 88 _ HWAy17.out (by kernel_rfl) rfl (by simp [Value.oneCell']) ?_
    refine hK.out _ _ (HKp.out _ hx1z18) (fun hHeld => ?_)
    clear hK K
    try simp only [Act.put, List.setIfInBounds_toArray, List.set_cons_zero, List.set_cons_succ]
    refine wpAnyH_ready (rs := [13]) (by kernel_rfl) (by simp) ?_
    refine AllReadyH.cons rfl (fun K hK => ?_) AllReadyH.nil
    refine step_rowJ _ (by rfl) 88 _ _ (by rfl) (by rfl) (W1.heap.size) #[.int .u32 ov, .bool ob] (by rfl) (by rfl) 88 _ HB1z18.out (by kernel_rfl) rfl (by simp [Value.oneCell']) ?_
    refine hK.out _ _ (HKp.out _ HBxz18.out) (fun hHeld => ?_)
    clear hK K
    try simp only [Act.put, List.setIfInBounds_toArray, List.set_cons_zero, List.set_cons_succ]
    refine wpAnyH_done (by kernel_rfl) ?_ _
    have HXA := HXAz18
    have HXB := HXBz18
    have HXX := HBxz18
    generalize hX : (((my16.alloc (.cells #[.int .u32 0, .bool false] 88)).setRow (my16.heap.size) #[.int .u32 av, .bool ab]).setRow (W1.heap.size) #[.int .u32 ov, .bool ob]) = X at HXA HXB HXX ⊢
    generalize hPA : my16.heap.size = PA at HXA ⊢
    generalize hPB : W1.heap.size = PB at HXB ⊢
    clear hX hPA hPB HXAz18 HXBz18 HBxz18 HA1z18 HB1z18 hx1z18 hHeld
    have HFX := Lib.hid (HF.out.later HXX.out)
    have HIX := Lib.hid (HI.out.later HXX.out)
    have HGX : Hid (W.grownBy X (some f)) := Lib.hid (grownBy_of_below (HB.out.trans (HXX.out.mono HB.out.size)) _)
    have x1 : X.cell? ⟨W.heap.size, 1, none⟩ = some (.int .i64 fn) := HIX.out.cell rfl
    have x2 : X.cell? ⟨W.heap.size, 2, none⟩ = some (.int .i64 (d : Int)) := HIX.out.cell rfl
    have x5 : X.cell? ⟨W.heap.size, 5, none⟩ = some (.int .i64 o) := HIX.out.cell rfl
    have p0 : X.cell? ⟨PA, 0, none⟩ = some (.int .u32 av) := HXA.out.cell rfl
    have p1 : X.cell? ⟨PA, 1, none⟩ = some (.bool ab) := HXA.out.cell rfl
    have q0 : X.cell? ⟨PB, 0, none⟩ = some (.int .u32 ov) := HXB.out.cell rfl
    have q1 : X.cell? ⟨PB, 1, none⟩ = some (.bool ob) := HXB.out.cell rfl
    clear HKp hcall HXX HXA HXB HF HI HB
    by_cases hf : fn = 0
    · have hfb : (fn != 0) = false := by simp [hf]
      have hhB : (fn == 0) = true := by simp [hf]
      clear hf
      go_wp2_with fail
      refine (holds_any fn av ov X).mono ?_
      rintro e m9 ⟨rfl, hm9⟩
      subst m9
      rcases hh : holdsB fn av ov with _ | _
      · have HQ : Hid (jumpP x fn d o ov ob = (0, x)) := Lib.hid (by simp [jumpP, HAV.out, HAB.out, hhB, hh])
        clear hh p0 p1 q0 q1 x1 x2
        go_wp2_with fail
        go_ret
        rw [HQ.out]
        exact ⟨rfl, HGX.out, HFX.out⟩
      · have HQ : Hid (jumpP x fn d o ov ob = (0, atF x (x.2.1 + o))) := Lib.hid (by simp [jumpP, HAV.out, HAB.out, hhB, hh])
        have z2 := HFX.out.pos
        have zf := HFX.out.free 2
        have HF8 := Lib.hid (HFX.out.go (x.2.1 + o))
        have HG8 : Hid (W.grownBy (X.setCell ⟨f, 2, none⟩ (.int .i64 (x.2.1 + o))) (some f)) := Lib.hid (grow_trans HGX.out (grownBy_setCell _ _ _))
        clear hh p0 p1 q0 q1 x1 x2
        go_wp2_with fail
        go_big_region
        go_wp2_with fail
        go_ret
        rw [HQ.out]
        exact ⟨rfl, grow_trans HG8.out (grownBy_of_below ((Below.refl _ _).drew) _), HF8.out.later ((Below.refl _ _).drew)⟩
    · have hfb : (fn != 0) = true := by simp [hf]
      have hf0 : (fn == 0) = false := by simp [hf]
      clear hf
      cases ab
      · have HQ : Hid (jumpP x fn d o ov ob = (10, x)) := Lib.hid (by simp [jumpP, HAB.out, hf0])
        go_wp2_with fail
        go_ret
        rw [HQ.out]
        exact ⟨rfl, HGX.out, HFX.out⟩
      cases ob
      · have HQ : Hid (jumpP x fn d o ov false = (10, x)) := Lib.hid (by simp [jumpP, HAB.out, hf0])
        go_wp2_with fail
        go_ret
        rw [HQ.out]
        exact ⟨rfl, HGX.out, HFX.out⟩
      have hhB : (fn == 0) = false := hf0
      go_wp2_with fail
      refine (holds_any fn av ov X).mono ?_
      rintro e m9 ⟨rfl, hm9⟩
      subst m9
      rcases hh : holdsB fn av ov with _ | _
      · have HQ : Hid (jumpP x fn d o ov true = (0, x)) := Lib.hid (by simp [jumpP, HAV.out, HAB.out, hhB, hh])
        clear hh p0 p1 q0 q1 x1 x2
        go_wp2_with fail
        go_ret
        rw [HQ.out]
        exact ⟨rfl, HGX.out, HFX.out⟩
      · have HQ : Hid (jumpP x fn d o ov true = (0, atF x (x.2.1 + o))) := Lib.hid (by simp [jumpP, HAV.out, HAB.out, hhB, hh])
        have z2 := HFX.out.pos
        have zf := HFX.out.free 2
        have HF8 := Lib.hid (HFX.out.go (x.2.1 + o))
        have HG8 : Hid (W.grownBy (X.setCell ⟨f, 2, none⟩ (.int .i64 (x.2.1 + o))) (some f)) := Lib.hid (grow_trans HGX.out (grownBy_setCell _ _ _))
        clear hh p0 p1 q0 q1 x1 x2
        go_wp2_with fail
        go_big_region
        go_wp2_with fail
        go_ret
        rw [HQ.out]
        exact ⟨rfl, grow_trans HG8.out (grownBy_of_below ((Below.refl _ _).drew) _), HF8.out.later ((Below.refl _ _).drew)⟩
  refine AllReadyH.cons rfl (fun K hK => ?_) AllReadyH.nil
  have HBy19 : Hid (Below W1.heap.size W1 ((W1.drew.alloc (.cells #[.int .u32 0, .bool false] 88)).alloc (.cells #[.int .u32 0, .bool false] 88))) := Lib.hid (HBy15.out.alloc (HBy15.out).size _)
  have HWAy19 : Hid (Box ((W1.drew.alloc (.cells #[.int .u32 0, .bool false] 88)).alloc (.cells #[.int .u32 0, .bool false] 88)) (W1.heap.size + 1) 88 #[.int .u32 0, .bool false]) := Lib.hid (by have := Box.new (W1.drew.alloc (.cells #[.int .u32 0, .bool false] 88)) 88 #[.int .u32 0, .bool false]; rwa [show ((W1.drew.alloc (.cells #[.int .u32 0, .bool false] 88))).heap.size = W1.heap.size + 1 by simp] at this)
  have hney19 : W1.heap.size ≠ W1.heap.size + 1 := by have := HWBy15.out.lt; first | omega | (simp at this; omega)
  have HWBy19 := Lib.hid (HWBy15.out.alloc (.cells #[.int .u32 0, .bool false] 88))
  have hgey19 : W1.heap.size ≤ W1.heap.size + 1 := by have := (HBy15.out).size; first | omega | (simp at this; omega)
  go_simp
  refine hK.out _ _ (HKp.out _ HBy19.out) (fun hHeld => ?_)
  clear hK K
  try simp only [Act.put, List.setIfInBounds_toArray, List.set_cons_zero, List.set_cons_succ]
  refine wpAnyH_ready (rs := [9]) (by kernel_rfl) (by simp) ?_
  refine AllReadyH.cons rfl (fun K hK => ?_) AllReadyH.nil
  go_simp
  refine (hcall ((W1.drew.alloc (.cells #[.int .u32 0, .bool false] 88)).alloc (.cells #[.int .u32 0, .bool false] 88)) (HBy19.out)).mono ?_
  rintro e my20 ⟨rfl, hb⟩
  have HBy20 : Hid (Below W1.heap.size W1 my20) := Lib.hid ((HBy19.out).trans (hb.mono (HBy19.out).size))
  have HWAy20 := Lib.hid (HWAy19.out.later hb)
  have HWBy20 := Lib.hid (HWBy19.out.later hb)
  clear hb
  go_wp2_with fail
  refine hK.out _ _ (HKp.out _ HBy20.out) (fun hHeld => ?_)
  clear hK K
  try simp only [Act.put, List.setIfInBounds_toArray, List.set_cons_zero, List.set_cons_succ]
  have hx1z21 : Below W1.heap.size W1 (my20.setRow (W1.heap.size + 1) #[.int .u32 av, .bool ab]) := below_setRow (HBy20.out) hgey19 _
  have HBxz21 : Hid (Below W1.heap.size W1 ((my20.setRow (W1.heap.size + 1) #[.int .u32 av, .bool ab]).setRow (W1.heap.size) #[.int .u32 ov, .bool ob])) := Lib.hid (below_setRow hx1z21 hgey15 _)
  have HB1z21 : Hid (Box (my20.setRow (W1.heap.size + 1) #[.int .u32 av, .bool ab]) (W1.heap.size) 88 #[.int .u32 0, .bool false]) := Lib.hid (HWBy20.out.grown (grownBy_setRow _ _ _) (fun e => by have := Option.some.inj e; omega))
  have HA1z21 : Hid (Box (my20.setRow (W1.heap.size + 1) #[.int .u32 av, .bool ab]) (W1.heap.size + 1) 88 #[.int .u32 av, .bool ab]) := Lib.hid (setRow_heap _ _ _ _ _ _ HWAy20.out)
  have HXAz21 : Hid (Box ((my20.setRow (W1.heap.size + 1) #[.int .u32 av, .bool ab]).setRow (W1.heap.size) #[.int .u32 ov, .bool ob]) (W1.heap.size + 1) 88 #[.int .u32 av, .bool ab]) := Lib.hid (HA1z21.out.grown (grownBy_setRow _ _ _) (fun e => by have := Option.some.inj e; omega))
  have HXBz21 : Hid (Box ((my20.setRow (W1.heap.size + 1) #[.int .u32 av, .bool ab]).setRow (W1.heap.size) #[.int .u32 ov, .bool ob]) (W1.heap.size) 88 #[.int .u32 ov, .bool ob]) := Lib.hid (setRow_heap _ _ _ _ _ _ HB1z21.out)
  refine wpAnyH_ready (rs := [12]) (by kernel_rfl) (by simp) ?_
  refine AllReadyH.cons rfl (fun K hK => ?_) AllReadyH.nil
  refine step_rowJ _ (by rfl) 88 _ _ (by rfl) (by rfl) (W1.heap.size + 1) #[.int .u32 av, .bool ab] (by rfl) (by rfl) 88 _ HWAy20.out (by kernel_rfl) rfl (by simp [Value.oneCell']) ?_
  refine hK.out _ _ (HKp.out _ hx1z21) (fun hHeld => ?_)
  clear hK K
  try simp only [Act.put, List.setIfInBounds_toArray, List.set_cons_zero, List.set_cons_succ]
  refine wpAnyH_ready (rs := [13]) (by kernel_rfl) (by simp) ?_
  refine AllReadyH.cons rfl (fun K hK => ?_) AllReadyH.nil
  refine step_rowJ _ (by rfl) 88 _ _ (by rfl) (by rfl) (W1.heap.size) #[.int .u32 ov, .bool ob] (by rfl) (by rfl) 88 _ HB1z21.out (by kernel_rfl) rfl (by simp [Value.oneCell']) ?_
  refine hK.out _ _ (HKp.out _ HBxz21.out) (fun hHeld => ?_)
  clear hK K
  try simp only [Act.put, List.setIfInBounds_toArray, List.set_cons_zero, List.set_cons_succ]
  refine wpAnyH_done (by kernel_rfl) ?_ _
  have HXA := HXAz21
  have HXB := HXBz21
  have HXX := HBxz21
  generalize hX : ((my20.setRow (W1.heap.size + 1) #[.int .u32 av, .bool ab]).setRow (W1.heap.size) #[.int .u32 ov, .bool ob]) = X at HXA HXB HXX ⊢
  generalize hPA : W1.heap.size + 1 = PA at HXA ⊢
  generalize hPB : W1.heap.size = PB at HXB ⊢
  clear hX hPA hPB HXAz21 HXBz21 HBxz21 HA1z21 HB1z21 hx1z21 hHeld
  have HFX := Lib.hid (HF.out.later HXX.out)
  have HIX := Lib.hid (HI.out.later HXX.out)
  have HGX : Hid (W.grownBy X (some f)) := Lib.hid (grownBy_of_below (HB.out.trans (HXX.out.mono HB.out.size)) _)
  have x1 : X.cell? ⟨W.heap.size, 1, none⟩ = some (.int .i64 fn) := HIX.out.cell rfl
  have x2 : X.cell? ⟨W.heap.size, 2, none⟩ = some (.int .i64 (d : Int)) := HIX.out.cell rfl
  have x5 : X.cell? ⟨W.heap.size, 5, none⟩ = some (.int .i64 o) := HIX.out.cell rfl
  have p0 : X.cell? ⟨PA, 0, none⟩ = some (.int .u32 av) := HXA.out.cell rfl
  have p1 : X.cell? ⟨PA, 1, none⟩ = some (.bool ab) := HXA.out.cell rfl
  have q0 : X.cell? ⟨PB, 0, none⟩ = some (.int .u32 ov) := HXB.out.cell rfl
  have q1 : X.cell? ⟨PB, 1, none⟩ = some (.bool ob) := HXB.out.cell rfl
  clear HKp hcall HXX HXA HXB HF HI HB
  by_cases hf : fn = 0
  · have hfb : (fn != 0) = false := by simp [hf]
    have hhB : (fn == 0) = true := by simp [hf]
    clear hf
    go_wp2_with fail
    refine (holds_any fn av ov X).mono ?_
    rintro e m9 ⟨rfl, hm9⟩
    subst m9
    rcases hh : holdsB fn av ov with _ | _
    · have HQ : Hid (jumpP x fn d o ov ob = (0, x)) := Lib.hid (by simp [jumpP, HAV.out, HAB.out, hhB, hh])
      clear hh p0 p1 q0 q1 x1 x2
      go_wp2_with fail
      go_ret
      rw [HQ.out]
      exact ⟨rfl, HGX.out, HFX.out⟩
    · have HQ : Hid (jumpP x fn d o ov ob = (0, atF x (x.2.1 + o))) := Lib.hid (by simp [jumpP, HAV.out, HAB.out, hhB, hh])
      have z2 := HFX.out.pos
      have zf := HFX.out.free 2
      have HF8 := Lib.hid (HFX.out.go (x.2.1 + o))
      have HG8 : Hid (W.grownBy (X.setCell ⟨f, 2, none⟩ (.int .i64 (x.2.1 + o))) (some f)) := Lib.hid (grow_trans HGX.out (grownBy_setCell _ _ _))
      clear hh p0 p1 q0 q1 x1 x2
      go_wp2_with fail
      go_big_region
      go_wp2_with fail
      go_ret
      rw [HQ.out]
      exact ⟨rfl, grow_trans HG8.out (grownBy_of_below ((Below.refl _ _).drew) _), HF8.out.later ((Below.refl _ _).drew)⟩
  · have hfb : (fn != 0) = true := by simp [hf]
    have hf0 : (fn == 0) = false := by simp [hf]
    clear hf
    cases ab
    · have HQ : Hid (jumpP x fn d o ov ob = (10, x)) := Lib.hid (by simp [jumpP, HAB.out, hf0])
      go_wp2_with fail
      go_ret
      rw [HQ.out]
      exact ⟨rfl, HGX.out, HFX.out⟩
    cases ob
    · have HQ : Hid (jumpP x fn d o ov false = (10, x)) := Lib.hid (by simp [jumpP, HAB.out, hf0])
      go_wp2_with fail
      go_ret
      rw [HQ.out]
      exact ⟨rfl, HGX.out, HFX.out⟩
    have hhB : (fn == 0) = false := hf0
    go_wp2_with fail
    refine (holds_any fn av ov X).mono ?_
    rintro e m9 ⟨rfl, hm9⟩
    subst m9
    rcases hh : holdsB fn av ov with _ | _
    · have HQ : Hid (jumpP x fn d o ov true = (0, x)) := Lib.hid (by simp [jumpP, HAV.out, HAB.out, hhB, hh])
      clear hh p0 p1 q0 q1 x1 x2
      go_wp2_with fail
      go_ret
      rw [HQ.out]
      exact ⟨rfl, HGX.out, HFX.out⟩
    · have HQ : Hid (jumpP x fn d o ov true = (0, atF x (x.2.1 + o))) := Lib.hid (by simp [jumpP, HAV.out, HAB.out, hhB, hh])
      have z2 := HFX.out.pos
      have zf := HFX.out.free 2
      have HF8 := Lib.hid (HFX.out.go (x.2.1 + o))
      have HG8 : Hid (W.grownBy (X.setCell ⟨f, 2, none⟩ (.int .i64 (x.2.1 + o))) (some f)) := Lib.hid (grow_trans HGX.out (grownBy_setCell _ _ _))
      clear hh p0 p1 q0 q1 x1 x2
      go_wp2_with fail
      go_big_region
      go_wp2_with fail
      go_ret
      rw [HQ.out]
      exact ⟨rfl, grow_trans HG8.out (grownBy_of_below ((Below.refl _ _).drew) _), HF8.out.later ((Below.refl _ _).drew)⟩
end Go.Proofs.YtilddlgcfbefiaaDoor

/-
  What the interpreter's load does to a frame, as a contract over the translated program.
-/
namespace Go.Proofs.YtilddlgcfbefiaaDoor
set_option linter.unusedSimpArgs false
set_option linter.unusedVariables false
open Go Go.RowKit
def loadP (x : Fr) (op : Int) (d : Nat) (c : Nat → Int) (ov : Int) (ob : Bool) : Int × Fr :=
  if op = 2 then (if ob && decide (ov < 4) then (0, putF x d (c ov.toNat)) else (10, x)) else (if ob && decide (ov < 16) then (0, putF x d (x.stk ov.toNat)) else (10, x))
theorem loadP2 (x : Fr) (d : Nat) (c : Nat → Int) (ov : Int) (ob : Bool) : loadP x 2 d c ov ob = (if ob && decide (ov < 4) then (0, putF x d (c ov.toNat)) else (10, x)) := if_pos rfl
theorem loadP3 (x : Fr) (d : Nat) (c : Nat → Int) (ov : Int) (ob : Bool) : loadP x 3 d c ov ob = (if ob && decide (ov < 16) then (0, putF x d (x.stk ov.toNat)) else (10, x)) := if_neg (by omega)
set_option maxRecDepth 100000 in
set_option maxHeartbeats 20000000 in
theorem load_any (f r : Nat) (x : Fr) (op fn : Int) (d : Nat) (s : Int) (rg : Bool) (o m : Int) (hd : d < 8) (hs0 : 0 ≤ s) (hs7 : s < 8) (hm : isW m) (c : Nat → Int) (hop : op = 2 ∨ op = 3) (hrf : r ≠ f) (hcx : ∀ k, isW (c k)) (W : World) (h : FrAt W f r x) (hc : ∀ k, k < 4 → W.cell? ⟨r, 1 + k, none⟩ = some (.int .u32 (c k))) :
    Calls Tryd.prog 71 #[.pointer (some ⟨f, 0, none⟩), inV op fn (d : Int) s rg o m] W fun e w' => e = .returned (.int .i64 (loadP x op d c (opW x rg s m) (opS x rg s)).1) ∧ W.grownBy w' (some f) ∧ FrAt w' f r (loadP x op d c (opW x rg s m) (opS x rg s)).2 := by
  have hb : Below W.heap.size W (W.alloc (.cells #[.int .i64 op, .int .i64 fn, .int .i64 (d : Int), .int .i64 s, .bool rg, .int .i64 o, .int .u32 m] 50)) := (Below.refl _ _).alloc (Nat.le_refl _) _
  have HI := Lib.hid (Box.new W 50 #[.int .i64 op, .int .i64 fn, .int .i64 (d : Int), .int .i64 s, .bool rg, .int .i64 o, .int .u32 m])
  have HFl := Lib.hid h.lt
  have HOw := Lib.hid (opW_w h rg s m hm)
  have HRw := Lib.hid (h.isw d)
  obtain ⟨W1, hW1⟩ : ∃ W1, W.alloc (.cells #[.int .i64 op, .int .i64 fn, .int .i64 (d : Int), .int .i64 s, .bool rg, .int .i64 o, .int .u32 m] 50) = W1 := ⟨_, rfl⟩
  have hsz : W1.heap.size = W.heap.size + 1 := by rw [← hW1]; simp
  rw [hW1] at hb HI
  have HF := Lib.hid (h.later hb)
  have HB := Lib.hid hb
  obtain ⟨a0, a1⟩ := HF.out.word hd
  have i0 : W1.cell? ⟨W.heap.size, 0, none⟩ = some (.int .i64 op) := HI.out.cell rfl
  have i1 : W1.cell? ⟨W.heap.size, 1, none⟩ = some (.int .i64 fn) := HI.out.cell rfl
  have i2 : W1.cell? ⟨W.heap.size, 2, none⟩ = some (.int .i64 (d : Int)) := HI.out.cell rfl
  have i3 : W1.cell? ⟨W.heap.size, 3, none⟩ = some (.int .i64 s) := HI.out.cell rfl
  have i4 : W1.cell? ⟨W.heap.size, 4, none⟩ = some (.bool rg) := HI.out.cell rfl
  have i5 : W1.cell? ⟨W.heap.size, 5, none⟩ = some (.int .i64 o) := HI.out.cell rfl
  have i6 : W1.cell? ⟨W.heap.size, 6, none⟩ = some (.int .u32 m) := HI.out.cell rfl
  have hdI : (d : Int) < 8 := by omega
  have HD := Lib.hid hd
  obtain ⟨av, hav⟩ : ∃ av, x.reg d = av := ⟨_, rfl⟩
  obtain ⟨ab, hab⟩ : ∃ ab, x.isSet d = ab := ⟨_, rfl⟩
  obtain ⟨ov, hov⟩ : ∃ ov, opW x rg s m = ov := ⟨_, rfl⟩
  obtain ⟨ob, hob⟩ : ∃ ob, opS x rg s = ob := ⟨_, rfl⟩
  have hcall : ∀ W', Below W1.heap.size W1 W' → Calls Tryd.prog 91 #[.pointer (some ⟨f, 0, none⟩), inV op fn (d : Int) s rg o m] W' fun e w' => e = .returned (.agg #[.int .u32 ov, .bool ob]) ∧ Below W'.heap.size W' w' := fun W' hb' => by
    have hq := operand_any f r x op fn (d : Int) s rg o m hs0 hs7 W' (HF.out.later hb')
    rw [hov, hob] at hq
    exact hq
  rw [hov] at HOw
  rw [hav] at HRw a0
  rw [hab] at a1
  simp only [hov, hob]
  have HAV := Lib.hid hav
  have HAB := Lib.hid hab
  have HKp : Hid (∀ W', Below W1.heap.size W1 W' → W'.cell? ⟨W.heap.size, 0, none⟩ = some (.int .i64 op) ∧ W'.cell? ⟨W.heap.size, 1, none⟩ = some (.int .i64 fn) ∧ W'.cell? ⟨W.heap.size, 2, none⟩ = some (.int .i64 (d : Int)) ∧ W'.cell? ⟨W.heap.size, 3, none⟩ = some (.int .i64 s) ∧ W'.cell? ⟨W.heap.size, 4, none⟩ = some (.bool rg) ∧ W'.cell? ⟨W.heap.size, 5, none⟩ = some (.int .i64 o) ∧ W'.cell? ⟨W.heap.size, 6, none⟩ = some (.int .u32 m)) := Lib.hid (fun W' hb => ⟨(hb.cell (lt_of_cell i0)).trans i0, (hb.cell (lt_of_cell i1)).trans i1, (hb.cell (lt_of_cell i2)).trans i2, (hb.cell (lt_of_cell i3)).trans i3, (hb.cell (lt_of_cell i4)).trans i4, (hb.cell (lt_of_cell i5)).trans i5, (hb.cell (lt_of_cell i6)).trans i6⟩)
  have HC1 : Hid (∀ k, k < 4 → W1.cell? ⟨r, 1 + k, none⟩ = some (.int .u32 (c k))) := Lib.hid (fun k hk => (HB.out.cell (lt_of_cell (hc k hk))).trans (hc k hk))
  have HCx := Lib.hid hcx
  have HRf := Lib.hid hrf
  clear hc hcx hrf
  clear hav hab hov hob hb h a0 a1 i0 i1 i2 i3 i4 i5 i6 hd hs0 hs7 hm hsz
  go_enter Tryd.func71, Tryd.ntmps71
  go_wp2_with fail
  clear hW1
  refine wp_region_held_drew (S := (fun W' => W'.cell? ⟨W.heap.size, 0, none⟩ = some (.int .i64 op) ∧ W'.cell? ⟨W.heap.size, 1, none⟩ = some (.int .i64 fn) ∧ W'.cell? ⟨W.heap.size, 2, none⟩ = some (.int .i64 (d : Int)) ∧ W'.cell? ⟨W.heap.size, 3, none⟩ = some (.int .i64 s) ∧ W'.cell? ⟨W.heap.size, 4, none⟩ = some (.bool rg) ∧ W'.cell? ⟨W.heap.size, 5, none⟩ = some (.int .i64 o) ∧ W'.cell? ⟨W.heap.size, 6, none⟩ = some (.int .u32 m))) (by kernel_rfl) (HKp.out _ (Below.refl _ _).drew) (fun hHeld => ?_)
  refine wpAnyH_yield (i := 0) (v := ?v0) rfl rfl (by kernel_rfl) (by kernel_rfl) (by kernel_rfl) (fun _ _ _ h => h) (by rfl) ?hy0 hHeld ?rest0
  case hy0 =>
    intro w hSw
    (try dsimp only at hSw)
    go_simp
    try with_reducible rfl
  simp only [Act.put, List.setIfInBounds_toArray, List.set_cons_zero, List.set_cons_succ]
  refine wpAnyH_yield (i := 1) (v := ?v1) rfl rfl (by kernel_rfl) (by kernel_rfl) (by kernel_rfl) (fun _ _ _ h => h) (by rfl) ?hy1 hHeld ?rest1
  case hy1 =>
    intro w hSw
    (try dsimp only at hSw)
    go_simp
    try with_reducible rfl
  simp only [Act.put, List.setIfInBounds_toArray, List.set_cons_zero, List.set_cons_succ]
  refine wpAnyH_yield (i := 2) (v := ?v2) rfl rfl (by kernel_rfl) (by kernel_rfl) (by kernel_rfl) (fun _ _ _ h => h) (by rfl) ?hy2 hHeld ?rest2
  case hy2 =>
    intro w hSw
    (try dsimp only at hSw)
    go_simp
    try with_reducible rfl
  simp only [Act.put, List.setIfInBounds_toArray, List.set_cons_zero, List.set_cons_succ]
  refine wpAnyH_yield (i := 3) (v := ?v3) rfl rfl (by kernel_rfl) (by kernel_rfl) (by kernel_rfl) (fun _ _ _ h => h) (by rfl) ?hy3 hHeld ?rest3
  case hy3 =>
    intro w hSw
    (try dsimp only at hSw)
    go_simp
    try with_reducible rfl
  simp only [Act.put, List.setIfInBounds_toArray, List.set_cons_zero, List.set_cons_succ]
  refine wpAnyH_yield (i := 4) (v := ?v4) rfl rfl (by kernel_rfl) (by kernel_rfl) (by kernel_rfl) (fun _ _ _ h => h) (by rfl) ?hy4 hHeld ?rest4
  case hy4 =>
    intro w hSw
    (try dsimp only at hSw)
    go_simp
    try with_reducible rfl
  simp only [Act.put, List.setIfInBounds_toArray, List.set_cons_zero, List.set_cons_succ]
  refine wpAnyH_yield (i := 5) (v := ?v5) rfl rfl (by kernel_rfl) (by kernel_rfl) (by kernel_rfl) (fun _ _ _ h => h) (by rfl) ?hy5 hHeld ?rest5
  case hy5 =>
    intro w hSw
    (try dsimp only at hSw)
    go_simp
    try with_reducible rfl
  simp only [Act.put, List.setIfInBounds_toArray, List.set_cons_zero, List.set_cons_succ]
  refine wpAnyH_ready (rs := [6, 7]) (by kernel_rfl) (by simp) ?_
  refine AllReadyH.cons rfl (fun K hK => ?_) ?_
  · go_simp
    refine (hcall W1.drew ((Below.refl W1.heap.size W1).drew)).mono ?_
    rintro e ma ⟨rfl, hb⟩
    have HBa : Hid (Below W1.heap.size W1 ma) := Lib.hid (((Below.refl W1.heap.size W1).drew).trans (hb.mono ((Below.refl W1.heap.size W1).drew).size))
    clear hb
    go_wp2_with fail
    refine hK.out _ _ (HKp.out _ HBa.out) (fun hHeld => ?_)
    clear hK K
    try simp only [Act.put, List.setIfInBounds_toArray, List.set_cons_zero, List.set_cons_succ]
    have HBa2 : Hid (Below W1.heap.size W1 (ma.alloc (.cells #[.int .u32 0, .bool false] 88))) := Lib.hid (HBa.out.alloc HBa.out.size _)
    have HWa : Hid (Box (ma.alloc (.cells #[.int .u32 0, .bool false] 88)) ma.heap.size 88 #[.int .u32 0, .bool false]) := Lib.hid (Box.new _ _ _)
    have hga := HBa.out.size
    refine wpAnyH_ready (rs := [7]) (by kernel_rfl) (by simp) ?_
    refine AllReadyH.cons rfl (fun K hK => ?_) AllReadyH.nil
    go_simp
    refine hK.out _ _ (HKp.out _ HBa2.out) (fun hHeld => ?_)
    clear hK K
    try simp only [Act.put, List.setIfInBounds_toArray, List.set_cons_zero, List.set_cons_succ]
    refine wpAnyH_yield (i := 8) (v := ?va8) rfl rfl (by kernel_rfl) (by kernel_rfl) (by kernel_rfl) (fun _ _ _ h => h) (by rfl) ?hya8 hHeld ?resta8
    case hya8 =>
      intro w hSw
      (try dsimp only at hSw)
      go_simp
      try with_reducible rfl
    simp only [Act.put, List.setIfInBounds_toArray, List.set_cons_zero, List.set_cons_succ]
    have HXa : Hid (Below W1.heap.size W1 ((ma.alloc (.cells #[.int .u32 0, .bool false] 88)).setRow (ma.heap.size) #[.int .u32 ov, .bool ob])) := Lib.hid (below_setRow HBa2.out hga _)
    have HXBa : Hid (Box ((ma.alloc (.cells #[.int .u32 0, .bool false] 88)).setRow (ma.heap.size) #[.int .u32 ov, .bool ob]) (ma.heap.size) 88 #[.int .u32 ov, .bool ob]) := Lib.hid (setRow_heap _ _ _ _ _ _ HWa.out)
    refine wpAnyH_ready (rs := [9]) (by kernel_rfl) (by simp) ?_
    refine AllReadyH.cons rfl (fun K hK => ?_) AllReadyH.nil
    refine step_rowJ _ (by rfl) 88 _ _ (by rfl) (by rfl) (ma.heap.size) #[.int .u32 ov, .bool ob] (by rfl) (by rfl) 88 _ HWa.out (by kernel_rfl) rfl (by simp [Value.oneCell']) ?_
    refine hK.out _ _ (HKp.out _ HXa.out) (fun hHeld => ?_)
    clear hK K
    try simp only [Act.put, List.setIfInBounds_toArray, List.set_cons_zero, List.set_cons_succ]
    refine wpAnyH_done (by kernel_rfl) ?_ _
    have HXX := HXa
    have HXB := HXBa
    generalize hX : ((ma.alloc (.cells #[.int .u32 0, .bool false] 88)).setRow (ma.heap.size) #[.int .u32 ov, .bool ob]) = X at HXX HXB ⊢
    generalize hPB : ma.heap.size = PB at HXB ⊢
    clear hX hPB HXa HXBa hHeld
    have HFX := Lib.hid (HF.out.later HXX.out)
    have HIX := Lib.hid (HI.out.later HXX.out)
    have HCX : Hid (∀ k, k < 4 → X.cell? ⟨r, 1 + k, none⟩ = some (.int .u32 (c k))) := Lib.hid (fun k hk => (HXX.out.cell (lt_of_cell (HC1.out k hk))).trans (HC1.out k hk))
    have HGX : Hid (W.grownBy X (some f)) := Lib.hid (grownBy_of_below (HB.out.trans (HXX.out.mono HB.out.size)) _)
    have HPf : Hid (PB ≠ f) := Lib.hid (fun e => by
      have h1 := HXB.out
      obtain ⟨cs, h2, _⟩ := HFX.out
      rw [e] at h1
      have h3 : some (Obj.cells #[.int .u32 ov, .bool ob] 88 (0, 0)) = some (Obj.cells cs 92 (0, 0)) := h1.symm.trans h2
      simp only [Option.some.injEq, Obj.cells.injEq] at h3
      exact absurd h3.2.1 (by decide))
    obtain ⟨k, rfl⟩ : ∃ k : Nat, ov = k := ⟨ov.toNat, by have := HOw.out.1; omega⟩
    have x0 : X.cell? ⟨W.heap.size, 0, none⟩ = some (.int .i64 op) := HIX.out.cell rfl
    have x2 : X.cell? ⟨W.heap.size, 2, none⟩ = some (.int .i64 (d : Int)) := HIX.out.cell rfl
    have q0 : X.cell? ⟨PB, 0, none⟩ = some (.int .u32 (k : Int)) := HXB.out.cell rfl
    have q1 : X.cell? ⟨PB, 1, none⟩ = some (.bool ob) := HXB.out.cell rfl
    have r0 := HFX.out.run
    clear HKp hcall HXX HF HI HB HC1
    rcases hop with rfl | rfl
    · obtain ⟨wb, hwb⟩ : ∃ wb, (ob && decide ((k : Int) < ((4 : Nat) : Int))) = wb := ⟨_, rfl⟩
      have cw := fun W' => iwithin_any (some ⟨r, 1, none⟩) 4 4 (by omega) (k : Int) HOw.out ob W'
      rw [hwb] at cw
      have HWb := Lib.hid hwb
      clear hwb
      go_wp2_with fail
      refine (cw _).mono ?_
      rintro e m9 ⟨rfl, hb9⟩
      have HF9 := Lib.hid (HFX.out.later hb9)
      have HI9 := Lib.hid (HIX.out.later hb9)
      have HB9 := Lib.hid (HXB.out.later hb9)
      have HC9 : Hid (∀ k, k < 4 → m9.cell? ⟨r, 1 + k, none⟩ = some (.int .u32 (c k))) := Lib.hid (fun k hk => (hb9.cell (lt_of_cell (HCX.out k hk))).trans (HCX.out k hk))
      have HG9 : Hid (W.grownBy m9 (some f)) := Lib.hid (grow_trans HGX.out (grownBy_of_below hb9 _))
      clear cw hb9 x0 x2 q0 q1 r0
      cases wb
      · have HQ : Hid (loadP x 2 d c (k : Int) ob = (10, x)) := Lib.hid (by
          have := HWb.out
          rw [loadP2, show decide ((k : Int) < 4) = decide ((k : Int) < ((4 : Nat) : Int)) from rfl, this]
          rfl)
        go_wp2_with fail
        go_ret
        rw [HQ.out]
        exact ⟨rfl, HG9.out, HF9.out⟩
      have hw2 := HWb.out
      simp only [Bool.and_eq_true, decide_eq_true_eq] at hw2
      have hkn : k < 4 := by omega
      have HQ : Hid (loadP x 2 d c (k : Int) ob = (0, putF x d (c k))) := Lib.hid (by
        rw [loadP2, hw2.1, show decide ((k : Int) < 4) = true from decide_eq_true (by omega)]
        rfl)
      have y2 : m9.cell? ⟨W.heap.size, 2, none⟩ = some (.int .i64 (d : Int)) := HI9.out.cell rfl
      have q0 : m9.cell? ⟨PB, 0, none⟩ = some (.int .u32 (k : Int)) := HB9.out.cell rfl
      have s0 : m9.cell? ⟨r, 1 + k, none⟩ = some (.int .u32 (c k)) := HC9.out k hkn
      have hVw : Hid (isW (c k)) := Lib.hid (HCx.out k)
      have hkI : (k : Int) < 4 := by omega
      have HK9 : Hid (∀ W', m9.grownBy W' (some f) → FrAt W' f r (putF x d (c k)) → W'.cell? ⟨W.heap.size, 2, none⟩ = some (.int .i64 (d : Int)) ∧ W'.cell? ⟨PB, 0, none⟩ = some (.int .u32 (k : Int)) ∧ W'.cell? ⟨r, 1 + k, none⟩ = some (.int .u32 (c k))) := Lib.hid (fun W' hg hF => ⟨(hg.cell_far _ (lt_of_cell y2) (fun e => by have h1 : W.heap.size = f := Option.some.inj e; have h2 := HFl.out; omega)).trans y2, (hg.cell_far _ (lt_of_cell q0) (fun e => HPf.out (Option.some.inj e))).trans q0, (hg.cell_far _ (lt_of_cell s0) (fun e => HRf.out (Option.some.inj e))).trans s0⟩)
      clear hw2
      go_wp2_with fail
      refine wp_region_held_drew (S := (fun W' => W'.cell? ⟨W.heap.size, 2, none⟩ = some (.int .i64 (d : Int)) ∧ W'.cell? ⟨PB, 0, none⟩ = some (.int .u32 (k : Int)) ∧ W'.cell? ⟨r, 1 + k, none⟩ = some (.int .u32 (c k)))) (by kernel_rfl) (⟨y2, q0, s0⟩) (fun hHeld => ?_)
      refine wpAnyH_yield (i := 0) (v := ?vp21x0) rfl rfl (by kernel_rfl) (by kernel_rfl) (by kernel_rfl) (fun _ _ _ h => h) (by rfl) ?hyp21x0 hHeld ?restp21x0
      case hyp21x0 =>
        intro w hSw
        (try dsimp only at hSw)
        go_simp
        try with_reducible rfl
      simp only [Act.put, List.setIfInBounds_toArray, List.set_cons_zero, List.set_cons_succ]
      refine wpAnyH_yield (i := 1) (v := ?vp21x1) rfl rfl (by kernel_rfl) (by kernel_rfl) (by kernel_rfl) (fun _ _ _ h => h) (by rfl) ?hyp21x1 hHeld ?restp21x1
      case hyp21x1 =>
        intro w hSw
        (try dsimp only at hSw)
        go_simp
        try with_reducible rfl
      simp only [Act.put, List.setIfInBounds_toArray, List.set_cons_zero, List.set_cons_succ]
      refine wpAnyH_yield (i := 2) (v := ?vp21x2) rfl rfl (by kernel_rfl) (by kernel_rfl) (by kernel_rfl) (fun _ _ _ h => h) (by rfl) ?hyp21x2 hHeld ?restp21x2
      case hyp21x2 =>
        intro w hSw
        (try dsimp only at hSw)
        go_simp
        try with_reducible rfl
      simp only [Act.put, List.setIfInBounds_toArray, List.set_cons_zero, List.set_cons_succ]
      refine wpAnyH_yield (i := 3) (v := ?vp21x3) rfl rfl (by kernel_rfl) (by kernel_rfl) (by kernel_rfl) (fun _ _ _ h => h) (by rfl) ?hyp21x3 hHeld ?restp21x3
      case hyp21x3 =>
        intro w hSw
        (try dsimp only at hSw)
        go_simp
        try with_reducible rfl
      simp only [Act.put, List.setIfInBounds_toArray, List.set_cons_zero, List.set_cons_succ]
      refine wpAnyH_yield (i := 4) (v := ?vp21x4) rfl rfl (by kernel_rfl) (by kernel_rfl) (by kernel_rfl) (fun _ _ _ h => h) (by rfl) ?hyp21x4 hHeld ?restp21x4
      case hyp21x4 =>
        intro w hSw
        (try dsimp only at hSw)
        go_simp
        try with_reducible rfl
      simp only [Act.put, List.setIfInBounds_toArray, List.set_cons_zero, List.set_cons_succ]
      refine wpAnyH_yield (i := 5) (v := ?vp21x5) rfl rfl (by kernel_rfl) (by kernel_rfl) (by kernel_rfl) (fun _ _ _ h => h) (by rfl) ?hyp21x5 hHeld ?restp21x5
      case hyp21x5 =>
        intro w hSw
        (try dsimp only at hSw)
        go_simp
        try with_reducible rfl
      simp only [Act.put, List.setIfInBounds_toArray, List.set_cons_zero, List.set_cons_succ]
      refine wpAnyH_yield (i := 6) (v := ?vp21x6) rfl rfl (by kernel_rfl) (by kernel_rfl) (by kernel_rfl) (fun _ _ _ h => h) (by rfl) ?hyp21x6 hHeld ?restp21x6
      case hyp21x6 =>
        intro w hSw
        (try dsimp only at hSw)
        go_simp
        try with_reducible rfl
      simp only [Act.put, List.setIfInBounds_toArray, List.set_cons_zero, List.set_cons_succ]
      refine wpAnyH_yield (i := 7) (v := ?vp21x7) rfl rfl (by kernel_rfl) (by kernel_rfl) (by kernel_rfl) (fun _ _ _ h => h) (by rfl) ?hyp21x7 hHeld ?restp21x7
      case hyp21x7 =>
        intro w hSw
        (try dsimp only at hSw)
        go_simp
        try with_reducible rfl
      simp only [Act.put, List.setIfInBounds_toArray, List.set_cons_zero, List.set_cons_succ]
      refine wpAnyH_ready (rs := [8]) (by kernel_rfl) (by simp) ?_
      refine AllReadyH.cons rfl (fun K hK => ?_) AllReadyH.nil
      go_simp
      refine (put_any f r x d HD.out (c k) hVw.out m9.drew (HF9.out.later ((Below.refl _ _).drew))).mono ?_
      rintro e m8 ⟨rfl, hg8, hF8⟩
      have HF8 := Lib.hid hF8
      have hg9 : m9.grownBy m8 (some f) := grow_trans (grownBy_of_below ((Below.refl _ _).drew) _) hg8
      have HG8 := Lib.hid (grow_trans HG9.out hg9)
      go_wp2_with fail
      refine hK.out _ _ (HK9.out _ hg9 hF8) (fun hHeld => ?_)
      clear hK K
      try simp only [Act.put, List.setIfInBounds_toArray, List.set_cons_zero, List.set_cons_succ]
      refine wpAnyH_done (by kernel_rfl) ?_ _
      go_wp2_with fail
      go_ret
      rw [HQ.out]
      exact ⟨rfl, HG8.out, HF8.out⟩
    obtain ⟨wb, hwb⟩ : ∃ wb, (ob && decide ((k : Int) < ((16 : Nat) : Int))) = wb := ⟨_, rfl⟩
    have cw := fun W' => iwithin_any (some ⟨f, 19, none⟩) 16 16 (by omega) (k : Int) HOw.out ob W'
    rw [hwb] at cw
    have HWb := Lib.hid hwb
    clear hwb
    go_wp2_with fail
    refine (cw _).mono ?_
    rintro e m9 ⟨rfl, hb9⟩
    have HF9 := Lib.hid (HFX.out.later hb9)
    have HI9 := Lib.hid (HIX.out.later hb9)
    have HB9 := Lib.hid (HXB.out.later hb9)
    have HC9 : Hid (∀ k, k < 4 → m9.cell? ⟨r, 1 + k, none⟩ = some (.int .u32 (c k))) := Lib.hid (fun k hk => (hb9.cell (lt_of_cell (HCX.out k hk))).trans (HCX.out k hk))
    have HG9 : Hid (W.grownBy m9 (some f)) := Lib.hid (grow_trans HGX.out (grownBy_of_below hb9 _))
    clear cw hb9 x0 x2 q0 q1 r0
    cases wb
    · have HQ : Hid (loadP x 3 d c (k : Int) ob = (10, x)) := Lib.hid (by
        have := HWb.out
        rw [loadP3, show decide ((k : Int) < 16) = decide ((k : Int) < ((16 : Nat) : Int)) from rfl, this]
        rfl)
      go_wp2_with fail
      go_ret
      rw [HQ.out]
      exact ⟨rfl, HG9.out, HF9.out⟩
    have hw2 := HWb.out
    simp only [Bool.and_eq_true, decide_eq_true_eq] at hw2
    have hkn : k < 16 := by omega
    have HQ : Hid (loadP x 3 d c (k : Int) ob = (0, putF x d (x.stk k))) := Lib.hid (by
      rw [loadP3, hw2.1, show decide ((k : Int) < 16) = true from decide_eq_true (by omega)]
      rfl)
    have y2 : m9.cell? ⟨W.heap.size, 2, none⟩ = some (.int .i64 (d : Int)) := HI9.out.cell rfl
    have q0 : m9.cell? ⟨PB, 0, none⟩ = some (.int .u32 (k : Int)) := HB9.out.cell rfl
    have s0 : m9.cell? ⟨f, 19 + k, none⟩ = some (.int .u32 (x.stk k)) := HF9.out.stack hkn
    have hVw : Hid (isW (x.stk k)) := Lib.hid (HF9.out.isws k)
    have hkI : (k : Int) < 16 := by omega
    have HK9 : Hid (∀ W', m9.grownBy W' (some f) → FrAt W' f r (putF x d (x.stk k)) → W'.cell? ⟨W.heap.size, 2, none⟩ = some (.int .i64 (d : Int)) ∧ W'.cell? ⟨PB, 0, none⟩ = some (.int .u32 (k : Int)) ∧ W'.cell? ⟨f, 19 + k, none⟩ = some (.int .u32 (x.stk k))) := Lib.hid (fun W' hg hF => ⟨(hg.cell_far _ (lt_of_cell y2) (fun e => by have h1 : W.heap.size = f := Option.some.inj e; have h2 := HFl.out; omega)).trans y2, (hg.cell_far _ (lt_of_cell q0) (fun e => HPf.out (Option.some.inj e))).trans q0, hF.stack hkn⟩)
    clear hw2
    go_wp2_with fail
    refine wp_region_held_drew (S := (fun W' => W'.cell? ⟨W.heap.size, 2, none⟩ = some (.int .i64 (d : Int)) ∧ W'.cell? ⟨PB, 0, none⟩ = some (.int .u32 (k : Int)) ∧ W'.cell? ⟨f, 19 + k, none⟩ = some (.int .u32 (x.stk k)))) (by kernel_rfl) (⟨y2, q0, s0⟩) (fun hHeld => ?_)
    refine wpAnyH_yield (i := 0) (v := ?vp31x0) rfl rfl (by kernel_rfl) (by kernel_rfl) (by kernel_rfl) (fun _ _ _ h => h) (by rfl) ?hyp31x0 hHeld ?restp31x0
    case hyp31x0 =>
      intro w hSw
      (try dsimp only at hSw)
      go_simp
      try with_reducible rfl
    simp only [Act.put, List.setIfInBounds_toArray, List.set_cons_zero, List.set_cons_succ]
    refine wpAnyH_yield (i := 1) (v := ?vp31x1) rfl rfl (by kernel_rfl) (by kernel_rfl) (by kernel_rfl) (fun _ _ _ h => h) (by rfl) ?hyp31x1 hHeld ?restp31x1
    case hyp31x1 =>
      intro w hSw
      (try dsimp only at hSw)
      go_simp
      try with_reducible rfl
    simp only [Act.put, List.setIfInBounds_toArray, List.set_cons_zero, List.set_cons_succ]
    refine wpAnyH_yield (i := 2) (v := ?vp31x2) rfl rfl (by kernel_rfl) (by kernel_rfl) (by kernel_rfl) (fun _ _ _ h => h) (by rfl) ?hyp31x2 hHeld ?restp31x2
    case hyp31x2 =>
      intro w hSw
      (try dsimp only at hSw)
      go_simp
      try with_reducible rfl
    simp only [Act.put, List.setIfInBounds_toArray, List.set_cons_zero, List.set_cons_succ]
    refine wpAnyH_yield (i := 3) (v := ?vp31x3) rfl rfl (by kernel_rfl) (by kernel_rfl) (by kernel_rfl) (fun _ _ _ h => h) (by rfl) ?hyp31x3 hHeld ?restp31x3
    case hyp31x3 =>
      intro w hSw
      (try dsimp only at hSw)
      go_simp
      try with_reducible rfl
    simp only [Act.put, List.setIfInBounds_toArray, List.set_cons_zero, List.set_cons_succ]
    refine wpAnyH_yield (i := 4) (v := ?vp31x4) rfl rfl (by kernel_rfl) (by kernel_rfl) (by kernel_rfl) (fun _ _ _ h => h) (by rfl) ?hyp31x4 hHeld ?restp31x4
    case hyp31x4 =>
      intro w hSw
      (try dsimp only at hSw)
      go_simp
      try with_reducible rfl
    simp only [Act.put, List.setIfInBounds_toArray, List.set_cons_zero, List.set_cons_succ]
    refine wpAnyH_yield (i := 5) (v := ?vp31x5) rfl rfl (by kernel_rfl) (by kernel_rfl) (by kernel_rfl) (fun _ _ _ h => h) (by rfl) ?hyp31x5 hHeld ?restp31x5
    case hyp31x5 =>
      intro w hSw
      (try dsimp only at hSw)
      go_simp
      try with_reducible rfl
    simp only [Act.put, List.setIfInBounds_toArray, List.set_cons_zero, List.set_cons_succ]
    refine wpAnyH_yield (i := 6) (v := ?vp31x6) rfl rfl (by kernel_rfl) (by kernel_rfl) (by kernel_rfl) (fun _ _ _ h => h) (by rfl) ?hyp31x6 hHeld ?restp31x6
    case hyp31x6 =>
      intro w hSw
      (try dsimp only at hSw)
      go_simp
      try with_reducible rfl
    simp only [Act.put, List.setIfInBounds_toArray, List.set_cons_zero, List.set_cons_succ]
    refine wpAnyH_yield (i := 7) (v := ?vp31x7) rfl rfl (by kernel_rfl) (by kernel_rfl) (by kernel_rfl) (fun _ _ _ h => h) (by rfl) ?hyp31x7 hHeld ?restp31x7
    case hyp31x7 =>
      intro w hSw
      (try dsimp only at hSw)
      go_simp
      try with_reducible rfl
    simp only [Act.put, List.setIfInBounds_toArray, List.set_cons_zero, List.set_cons_succ]
    refine wpAnyH_ready (rs := [8]) (by kernel_rfl) (by simp) ?_
    refine AllReadyH.cons rfl (fun K hK => ?_) AllReadyH.nil
    go_simp
    refine (put_any f r x d HD.out (x.stk k) hVw.out m9.drew (HF9.out.later ((Below.refl _ _).drew))).mono ?_
    rintro e m8 ⟨rfl, hg8, hF8⟩
    have HF8 := Lib.hid hF8
    have hg9 : m9.grownBy m8 (some f) := grow_trans (grownBy_of_below ((Below.refl _ _).drew) _) hg8
    have HG8 := Lib.hid (grow_trans HG9.out hg9)
    go_wp2_with fail
    refine hK.out _ _ (HK9.out _ hg9 hF8) (fun hHeld => ?_)
    clear hK K
    try simp only [Act.put, List.setIfInBounds_toArray, List.set_cons_zero, List.set_cons_succ]
    refine wpAnyH_done (by kernel_rfl) ?_ _
    go_wp2_with fail
    go_ret
    rw [HQ.out]
    exact ⟨rfl, HG8.out, HF8.out⟩
  have HBb : Hid (Below W1.heap.size W1 (W1.drew.alloc (.cells #[.int .u32 0, .bool false] 88))) := Lib.hid (((Below.refl W1.heap.size W1).drew).alloc (Nat.le_refl _) _)
  have HWb0 : Hid (Box (W1.drew.alloc (.cells #[.int .u32 0, .bool false] 88)) W1.heap.size 88 #[.int .u32 0, .bool false]) := Lib.hid (Box.new _ _ _)
  refine AllReadyH.cons rfl (fun K hK => ?_) AllReadyH.nil
  go_simp
  refine hK.out _ _ (HKp.out _ HBb.out) (fun hHeld => ?_)
  clear hK K
  try simp only [Act.put, List.setIfInBounds_toArray, List.set_cons_zero, List.set_cons_succ]
  refine wpAnyH_ready (rs := [6]) (by kernel_rfl) (by simp) ?_
  refine AllReadyH.cons rfl (fun K hK => ?_) AllReadyH.nil
  go_simp
  refine (hcall (W1.drew.alloc (.cells #[.int .u32 0, .bool false] 88)) HBb.out).mono ?_
  rintro e mb ⟨rfl, hb⟩
  have HBb2 : Hid (Below W1.heap.size W1 mb) := Lib.hid (HBb.out.trans (hb.mono HBb.out.size))
  have HWb := Lib.hid (HWb0.out.later hb)
  clear hb
  go_wp2_with fail
  refine hK.out _ _ (HKp.out _ HBb2.out) (fun hHeld => ?_)
  clear hK K
  try simp only [Act.put, List.setIfInBounds_toArray, List.set_cons_zero, List.set_cons_succ]
  refine wpAnyH_yield (i := 8) (v := ?vb8) rfl rfl (by kernel_rfl) (by kernel_rfl) (by kernel_rfl) (fun _ _ _ h => h) (by rfl) ?hyb8 hHeld ?restb8
  case hyb8 =>
    intro w hSw
    (try dsimp only at hSw)
    go_simp
    try with_reducible rfl
  simp only [Act.put, List.setIfInBounds_toArray, List.set_cons_zero, List.set_cons_succ]
  have HXb : Hid (Below W1.heap.size W1 (mb.setRow (W1.heap.size) #[.int .u32 ov, .bool ob])) := Lib.hid (below_setRow HBb2.out (Nat.le_refl _) _)
  have HXBb : Hid (Box (mb.setRow (W1.heap.size) #[.int .u32 ov, .bool ob]) (W1.heap.size) 88 #[.int .u32 ov, .bool ob]) := Lib.hid (setRow_heap _ _ _ _ _ _ HWb.out)
  refine wpAnyH_ready (rs := [9]) (by kernel_rfl) (by simp) ?_
  refine AllReadyH.cons rfl (fun K hK => ?_) AllReadyH.nil
  refine step_rowJ _ (by rfl) 88 _ _ (by rfl) (by rfl) (W1.heap.size) #[.int .u32 ov, .bool ob] (by rfl) (by rfl) 88 _ HWb.out (by kernel_rfl) rfl (by simp [Value.oneCell']) ?_
  refine hK.out _ _ (HKp.out _ HXb.out) (fun hHeld => ?_)
  clear hK K
  try simp only [Act.put, List.setIfInBounds_toArray, List.set_cons_zero, List.set_cons_succ]
  refine wpAnyH_done (by kernel_rfl) ?_ _
  have HXX := HXb
  have HXB := HXBb
  generalize hX : (mb.setRow (W1.heap.size) #[.int .u32 ov, .bool ob]) = X at HXX HXB ⊢
  generalize hPB : W1.heap.size = PB at HXB ⊢
  clear hX hPB HXb HXBb hHeld
  have HFX := Lib.hid (HF.out.later HXX.out)
  have HIX := Lib.hid (HI.out.later HXX.out)
  have HCX : Hid (∀ k, k < 4 → X.cell? ⟨r, 1 + k, none⟩ = some (.int .u32 (c k))) := Lib.hid (fun k hk => (HXX.out.cell (lt_of_cell (HC1.out k hk))).trans (HC1.out k hk))
  have HGX : Hid (W.grownBy X (some f)) := Lib.hid (grownBy_of_below (HB.out.trans (HXX.out.mono HB.out.size)) _)
  have HPf : Hid (PB ≠ f) := Lib.hid (fun e => by
    have h1 := HXB.out
    obtain ⟨cs, h2, _⟩ := HFX.out
    rw [e] at h1
    have h3 : some (Obj.cells #[.int .u32 ov, .bool ob] 88 (0, 0)) = some (Obj.cells cs 92 (0, 0)) := h1.symm.trans h2
    simp only [Option.some.injEq, Obj.cells.injEq] at h3
    exact absurd h3.2.1 (by decide))
  obtain ⟨k, rfl⟩ : ∃ k : Nat, ov = k := ⟨ov.toNat, by have := HOw.out.1; omega⟩
  have x0 : X.cell? ⟨W.heap.size, 0, none⟩ = some (.int .i64 op) := HIX.out.cell rfl
  have x2 : X.cell? ⟨W.heap.size, 2, none⟩ = some (.int .i64 (d : Int)) := HIX.out.cell rfl
  have q0 : X.cell? ⟨PB, 0, none⟩ = some (.int .u32 (k : Int)) := HXB.out.cell rfl
  have q1 : X.cell? ⟨PB, 1, none⟩ = some (.bool ob) := HXB.out.cell rfl
  have r0 := HFX.out.run
  clear HKp hcall HXX HF HI HB HC1
  rcases hop with rfl | rfl
  · obtain ⟨wb, hwb⟩ : ∃ wb, (ob && decide ((k : Int) < ((4 : Nat) : Int))) = wb := ⟨_, rfl⟩
    have cw := fun W' => iwithin_any (some ⟨r, 1, none⟩) 4 4 (by omega) (k : Int) HOw.out ob W'
    rw [hwb] at cw
    have HWb := Lib.hid hwb
    clear hwb
    go_wp2_with fail
    refine (cw _).mono ?_
    rintro e m9 ⟨rfl, hb9⟩
    have HF9 := Lib.hid (HFX.out.later hb9)
    have HI9 := Lib.hid (HIX.out.later hb9)
    have HB9 := Lib.hid (HXB.out.later hb9)
    have HC9 : Hid (∀ k, k < 4 → m9.cell? ⟨r, 1 + k, none⟩ = some (.int .u32 (c k))) := Lib.hid (fun k hk => (hb9.cell (lt_of_cell (HCX.out k hk))).trans (HCX.out k hk))
    have HG9 : Hid (W.grownBy m9 (some f)) := Lib.hid (grow_trans HGX.out (grownBy_of_below hb9 _))
    clear cw hb9 x0 x2 q0 q1 r0
    cases wb
    · have HQ : Hid (loadP x 2 d c (k : Int) ob = (10, x)) := Lib.hid (by
        have := HWb.out
        rw [loadP2, show decide ((k : Int) < 4) = decide ((k : Int) < ((4 : Nat) : Int)) from rfl, this]
        rfl)
      go_wp2_with fail
      go_ret
      rw [HQ.out]
      exact ⟨rfl, HG9.out, HF9.out⟩
    have hw2 := HWb.out
    simp only [Bool.and_eq_true, decide_eq_true_eq] at hw2
    have hkn : k < 4 := by omega
    have HQ : Hid (loadP x 2 d c (k : Int) ob = (0, putF x d (c k))) := Lib.hid (by
      rw [loadP2, hw2.1, show decide ((k : Int) < 4) = true from decide_eq_true (by omega)]
      rfl)
    have y2 : m9.cell? ⟨W.heap.size, 2, none⟩ = some (.int .i64 (d : Int)) := HI9.out.cell rfl
    have q0 : m9.cell? ⟨PB, 0, none⟩ = some (.int .u32 (k : Int)) := HB9.out.cell rfl
    have s0 : m9.cell? ⟨r, 1 + k, none⟩ = some (.int .u32 (c k)) := HC9.out k hkn
    have hVw : Hid (isW (c k)) := Lib.hid (HCx.out k)
    have hkI : (k : Int) < 4 := by omega
    have HK9 : Hid (∀ W', m9.grownBy W' (some f) → FrAt W' f r (putF x d (c k)) → W'.cell? ⟨W.heap.size, 2, none⟩ = some (.int .i64 (d : Int)) ∧ W'.cell? ⟨PB, 0, none⟩ = some (.int .u32 (k : Int)) ∧ W'.cell? ⟨r, 1 + k, none⟩ = some (.int .u32 (c k))) := Lib.hid (fun W' hg hF => ⟨(hg.cell_far _ (lt_of_cell y2) (fun e => by have h1 : W.heap.size = f := Option.some.inj e; have h2 := HFl.out; omega)).trans y2, (hg.cell_far _ (lt_of_cell q0) (fun e => HPf.out (Option.some.inj e))).trans q0, (hg.cell_far _ (lt_of_cell s0) (fun e => HRf.out (Option.some.inj e))).trans s0⟩)
    clear hw2
    go_wp2_with fail
    refine wp_region_held_drew (S := (fun W' => W'.cell? ⟨W.heap.size, 2, none⟩ = some (.int .i64 (d : Int)) ∧ W'.cell? ⟨PB, 0, none⟩ = some (.int .u32 (k : Int)) ∧ W'.cell? ⟨r, 1 + k, none⟩ = some (.int .u32 (c k)))) (by kernel_rfl) (⟨y2, q0, s0⟩) (fun hHeld => ?_)
    refine wpAnyH_yield (i := 0) (v := ?vp22x0) rfl rfl (by kernel_rfl) (by kernel_rfl) (by kernel_rfl) (fun _ _ _ h => h) (by rfl) ?hyp22x0 hHeld ?restp22x0
    case hyp22x0 =>
      intro w hSw
      (try dsimp only at hSw)
      go_simp
      try with_reducible rfl
    simp only [Act.put, List.setIfInBounds_toArray, List.set_cons_zero, List.set_cons_succ]
    refine wpAnyH_yield (i := 1) (v := ?vp22x1) rfl rfl (by kernel_rfl) (by kernel_rfl) (by kernel_rfl) (fun _ _ _ h => h) (by rfl) ?hyp22x1 hHeld ?restp22x1
    case hyp22x1 =>
      intro w hSw
      (try dsimp only at hSw)
      go_simp
      try with_reducible rfl
    simp only [Act.put, List.setIfInBounds_toArray, List.set_cons_zero, List.set_cons_succ]
    refine wpAnyH_yield (i := 2) (v := ?vp22x2) rfl rfl (by kernel_rfl) (by kernel_rfl) (by kernel_rfl) (fun _ _ _ h => h) (by rfl) ?hyp22x2 hHeld ?restp22x2
    case hyp22x2 =>
      intro w hSw
      (try dsimp only at hSw)
      go_simp
      try with_reducible rfl
    simp only [Act.put, List.setIfInBounds_toArray, List.set_cons_zero, List.set_cons_succ]
    refine wpAnyH_yield (i := 3) (v := ?vp22x3) rfl rfl (by kernel_rfl) (by kernel_rfl) (by kernel_rfl) (fun _ _ _ h => h) (by rfl) ?hyp22x3 hHeld ?restp22x3
    case hyp22x3 =>
      intro w hSw
      (try dsimp only at hSw)
      go_simp
      try with_reducible rfl
    simp only [Act.put, List.setIfInBounds_toArray, List.set_cons_zero, List.set_cons_succ]
    refine wpAnyH_yield (i := 4) (v := ?vp22x4) rfl rfl (by kernel_rfl) (by kernel_rfl) (by kernel_rfl) (fun _ _ _ h => h) (by rfl) ?hyp22x4 hHeld ?restp22x4
    case hyp22x4 =>
      intro w hSw
      (try dsimp only at hSw)
      go_simp
      try with_reducible rfl
    simp only [Act.put, List.setIfInBounds_toArray, List.set_cons_zero, List.set_cons_succ]
    refine wpAnyH_yield (i := 5) (v := ?vp22x5) rfl rfl (by kernel_rfl) (by kernel_rfl) (by kernel_rfl) (fun _ _ _ h => h) (by rfl) ?hyp22x5 hHeld ?restp22x5
    case hyp22x5 =>
      intro w hSw
      (try dsimp only at hSw)
      go_simp
      try with_reducible rfl
    simp only [Act.put, List.setIfInBounds_toArray, List.set_cons_zero, List.set_cons_succ]
    refine wpAnyH_yield (i := 6) (v := ?vp22x6) rfl rfl (by kernel_rfl) (by kernel_rfl) (by kernel_rfl) (fun _ _ _ h => h) (by rfl) ?hyp22x6 hHeld ?restp22x6
    case hyp22x6 =>
      intro w hSw
      (try dsimp only at hSw)
      go_simp
      try with_reducible rfl
    simp only [Act.put, List.setIfInBounds_toArray, List.set_cons_zero, List.set_cons_succ]
    refine wpAnyH_yield (i := 7) (v := ?vp22x7) rfl rfl (by kernel_rfl) (by kernel_rfl) (by kernel_rfl) (fun _ _ _ h => h) (by rfl) ?hyp22x7 hHeld ?restp22x7
    case hyp22x7 =>
      intro w hSw
      (try dsimp only at hSw)
      go_simp
      try with_reducible rfl
    simp only [Act.put, List.setIfInBounds_toArray, List.set_cons_zero, List.set_cons_succ]
    refine wpAnyH_ready (rs := [8]) (by kernel_rfl) (by simp) ?_
    refine AllReadyH.cons rfl (fun K hK => ?_) AllReadyH.nil
    go_simp
    refine (put_any f r x d HD.out (c k) hVw.out m9.drew (HF9.out.later ((Below.refl _ _).drew))).mono ?_
    rintro e m8 ⟨rfl, hg8, hF8⟩
    have HF8 := Lib.hid hF8
    have hg9 : m9.grownBy m8 (some f) := grow_trans (grownBy_of_below ((Below.refl _ _).drew) _) hg8
    have HG8 := Lib.hid (grow_trans HG9.out hg9)
    go_wp2_with fail
    refine hK.out _ _ (HK9.out _ hg9 hF8) (fun hHeld => ?_)
    clear hK K
    try simp only [Act.put, List.setIfInBounds_toArray, List.set_cons_zero, List.set_cons_succ]
    refine wpAnyH_done (by kernel_rfl) ?_ _
    go_wp2_with fail
    go_ret
    rw [HQ.out]
    exact ⟨rfl, HG8.out, HF8.out⟩
  obtain ⟨wb, hwb⟩ : ∃ wb, (ob && decide ((k : Int) < ((16 : Nat) : Int))) = wb := ⟨_, rfl⟩
  have cw := fun W' => iwithin_any (some ⟨f, 19, none⟩) 16 16 (by omega) (k : Int) HOw.out ob W'
  rw [hwb] at cw
  have HWb := Lib.hid hwb
  clear hwb
  go_wp2_with fail
  refine (cw _).mono ?_
  rintro e m9 ⟨rfl, hb9⟩
  have HF9 := Lib.hid (HFX.out.later hb9)
  have HI9 := Lib.hid (HIX.out.later hb9)
  have HB9 := Lib.hid (HXB.out.later hb9)
  have HC9 : Hid (∀ k, k < 4 → m9.cell? ⟨r, 1 + k, none⟩ = some (.int .u32 (c k))) := Lib.hid (fun k hk => (hb9.cell (lt_of_cell (HCX.out k hk))).trans (HCX.out k hk))
  have HG9 : Hid (W.grownBy m9 (some f)) := Lib.hid (grow_trans HGX.out (grownBy_of_below hb9 _))
  clear cw hb9 x0 x2 q0 q1 r0
  cases wb
  · have HQ : Hid (loadP x 3 d c (k : Int) ob = (10, x)) := Lib.hid (by
      have := HWb.out
      rw [loadP3, show decide ((k : Int) < 16) = decide ((k : Int) < ((16 : Nat) : Int)) from rfl, this]
      rfl)
    go_wp2_with fail
    go_ret
    rw [HQ.out]
    exact ⟨rfl, HG9.out, HF9.out⟩
  have hw2 := HWb.out
  simp only [Bool.and_eq_true, decide_eq_true_eq] at hw2
  have hkn : k < 16 := by omega
  have HQ : Hid (loadP x 3 d c (k : Int) ob = (0, putF x d (x.stk k))) := Lib.hid (by
    rw [loadP3, hw2.1, show decide ((k : Int) < 16) = true from decide_eq_true (by omega)]
    rfl)
  have y2 : m9.cell? ⟨W.heap.size, 2, none⟩ = some (.int .i64 (d : Int)) := HI9.out.cell rfl
  have q0 : m9.cell? ⟨PB, 0, none⟩ = some (.int .u32 (k : Int)) := HB9.out.cell rfl
  have s0 : m9.cell? ⟨f, 19 + k, none⟩ = some (.int .u32 (x.stk k)) := HF9.out.stack hkn
  have hVw : Hid (isW (x.stk k)) := Lib.hid (HF9.out.isws k)
  have hkI : (k : Int) < 16 := by omega
  have HK9 : Hid (∀ W', m9.grownBy W' (some f) → FrAt W' f r (putF x d (x.stk k)) → W'.cell? ⟨W.heap.size, 2, none⟩ = some (.int .i64 (d : Int)) ∧ W'.cell? ⟨PB, 0, none⟩ = some (.int .u32 (k : Int)) ∧ W'.cell? ⟨f, 19 + k, none⟩ = some (.int .u32 (x.stk k))) := Lib.hid (fun W' hg hF => ⟨(hg.cell_far _ (lt_of_cell y2) (fun e => by have h1 : W.heap.size = f := Option.some.inj e; have h2 := HFl.out; omega)).trans y2, (hg.cell_far _ (lt_of_cell q0) (fun e => HPf.out (Option.some.inj e))).trans q0, hF.stack hkn⟩)
  clear hw2
  go_wp2_with fail
  refine wp_region_held_drew (S := (fun W' => W'.cell? ⟨W.heap.size, 2, none⟩ = some (.int .i64 (d : Int)) ∧ W'.cell? ⟨PB, 0, none⟩ = some (.int .u32 (k : Int)) ∧ W'.cell? ⟨f, 19 + k, none⟩ = some (.int .u32 (x.stk k)))) (by kernel_rfl) (⟨y2, q0, s0⟩) (fun hHeld => ?_)
  refine wpAnyH_yield (i := 0) (v := ?vp32x0) rfl rfl (by kernel_rfl) (by kernel_rfl) (by kernel_rfl) (fun _ _ _ h => h) (by rfl) ?hyp32x0 hHeld ?restp32x0
  case hyp32x0 =>
    intro w hSw
    (try dsimp only at hSw)
    go_simp
    try with_reducible rfl
  simp only [Act.put, List.setIfInBounds_toArray, List.set_cons_zero, List.set_cons_succ]
  refine wpAnyH_yield (i := 1) (v := ?vp32x1) rfl rfl (by kernel_rfl) (by kernel_rfl) (by kernel_rfl) (fun _ _ _ h => h) (by rfl) ?hyp32x1 hHeld ?restp32x1
  case hyp32x1 =>
    intro w hSw
    (try dsimp only at hSw)
    go_simp
    try with_reducible rfl
  simp only [Act.put, List.setIfInBounds_toArray, List.set_cons_zero, List.set_cons_succ]
  refine wpAnyH_yield (i := 2) (v := ?vp32x2) rfl rfl (by kernel_rfl) (by kernel_rfl) (by kernel_rfl) (fun _ _ _ h => h) (by rfl) ?hyp32x2 hHeld ?restp32x2
  case hyp32x2 =>
    intro w hSw
    (try dsimp only at hSw)
    go_simp
    try with_reducible rfl
  simp only [Act.put, List.setIfInBounds_toArray, List.set_cons_zero, List.set_cons_succ]
  refine wpAnyH_yield (i := 3) (v := ?vp32x3) rfl rfl (by kernel_rfl) (by kernel_rfl) (by kernel_rfl) (fun _ _ _ h => h) (by rfl) ?hyp32x3 hHeld ?restp32x3
  case hyp32x3 =>
    intro w hSw
    (try dsimp only at hSw)
    go_simp
    try with_reducible rfl
  simp only [Act.put, List.setIfInBounds_toArray, List.set_cons_zero, List.set_cons_succ]
  refine wpAnyH_yield (i := 4) (v := ?vp32x4) rfl rfl (by kernel_rfl) (by kernel_rfl) (by kernel_rfl) (fun _ _ _ h => h) (by rfl) ?hyp32x4 hHeld ?restp32x4
  case hyp32x4 =>
    intro w hSw
    (try dsimp only at hSw)
    go_simp
    try with_reducible rfl
  simp only [Act.put, List.setIfInBounds_toArray, List.set_cons_zero, List.set_cons_succ]
  refine wpAnyH_yield (i := 5) (v := ?vp32x5) rfl rfl (by kernel_rfl) (by kernel_rfl) (by kernel_rfl) (fun _ _ _ h => h) (by rfl) ?hyp32x5 hHeld ?restp32x5
  case hyp32x5 =>
    intro w hSw
    (try dsimp only at hSw)
    go_simp
    try with_reducible rfl
  simp only [Act.put, List.setIfInBounds_toArray, List.set_cons_zero, List.set_cons_succ]
  refine wpAnyH_yield (i := 6) (v := ?vp32x6) rfl rfl (by kernel_rfl) (by kernel_rfl) (by kernel_rfl) (fun _ _ _ h => h) (by rfl) ?hyp32x6 hHeld ?restp32x6
  case hyp32x6 =>
    intro w hSw
    (try dsimp only at hSw)
    go_simp
    try with_reducible rfl
  simp only [Act.put, List.setIfInBounds_toArray, List.set_cons_zero, List.set_cons_succ]
  refine wpAnyH_yield (i := 7) (v := ?vp32x7) rfl rfl (by kernel_rfl) (by kernel_rfl) (by kernel_rfl) (fun _ _ _ h => h) (by rfl) ?hyp32x7 hHeld ?restp32x7
  case hyp32x7 =>
    intro w hSw
    (try dsimp only at hSw)
    go_simp
    try with_reducible rfl
  simp only [Act.put, List.setIfInBounds_toArray, List.set_cons_zero, List.set_cons_succ]
  refine wpAnyH_ready (rs := [8]) (by kernel_rfl) (by simp) ?_
  refine AllReadyH.cons rfl (fun K hK => ?_) AllReadyH.nil
  go_simp
  refine (put_any f r x d HD.out (x.stk k) hVw.out m9.drew (HF9.out.later ((Below.refl _ _).drew))).mono ?_
  rintro e m8 ⟨rfl, hg8, hF8⟩
  have HF8 := Lib.hid hF8
  have hg9 : m9.grownBy m8 (some f) := grow_trans (grownBy_of_below ((Below.refl _ _).drew) _) hg8
  have HG8 := Lib.hid (grow_trans HG9.out hg9)
  go_wp2_with fail
  refine hK.out _ _ (HK9.out _ hg9 hF8) (fun hHeld => ?_)
  clear hK K
  try simp only [Act.put, List.setIfInBounds_toArray, List.set_cons_zero, List.set_cons_succ]
  refine wpAnyH_done (by kernel_rfl) ?_ _
  go_wp2_with fail
  go_ret
  rw [HQ.out]
  exact ⟨rfl, HG8.out, HF8.out⟩
end Go.Proofs.YtilddlgcfbefiaaDoor

