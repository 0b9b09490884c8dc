/-
  What the interpreter's store does to a frame, as a contract over the translated program.
-/
import Derived.Test.YtilddlgcfbefiaaDoorGja
import Derived.BigRegion
namespace Go.Proofs.YtilddlgcfbefiaaDoor
set_option linter.unusedSimpArgs false
set_option linter.unusedVariables false
open Go Go.RowKit
def storeP (x : Fr) (d : Nat) (ov : Int) (ob : Bool) : Int × Fr := if x.isSet d && (ob && decide (ov < 16)) then (0, storeF x ov.toNat (x.reg d)) else (10, x)
set_option maxRecDepth 100000 in
set_option maxHeartbeats 20000000 in
theorem store_any (f r : Nat) (x : Fr) (op fn : Int) (d : Nat) (s : Int) (rg : Bool) (o m : Int) (hd : d < 8) (hs0 : 0 ≤ s) (hs7 : s < 8) (hm : isW m) (W : World) (h : FrAt W f r x) :
    Calls Tryd.prog 72 #[.pointer (some ⟨f, 0, none⟩), inV op fn (d : Int) s rg o m] W fun e w' => e = .returned (.int .i64 (storeP x d (opW x rg s m) (opS x rg s)).1) ∧ W.grownBy w' (some f) ∧ FrAt w' f r (storeP x d (opW x rg s m) (opS x rg s)).2 := by
  have hb : Below W.heap.size W (W.alloc (.cells #[.int .i64 op, .int .i64 fn, .int .i64 (d : Int), .int .i64 s, .bool rg, .int .i64 o, .int .u32 m] 50)) := (Below.refl _ _).alloc (Nat.le_refl _) _
  have HI := Lib.hid (Box.new W 50 #[.int .i64 op, .int .i64 fn, .int .i64 (d : Int), .int .i64 s, .bool rg, .int .i64 o, .int .u32 m])
  have HFl := Lib.hid h.lt
  have HOw := Lib.hid (opW_w h rg s m hm)
  have HRw := Lib.hid (h.isw d)
  obtain ⟨W1, hW1⟩ : ∃ W1, W.alloc (.cells #[.int .i64 op, .int .i64 fn, .int .i64 (d : Int), .int .i64 s, .bool rg, .int .i64 o, .int .u32 m] 50) = W1 := ⟨_, rfl⟩
  have hsz : W1.heap.size = W.heap.size + 1 := by rw [← hW1]; simp
  rw [hW1] at hb HI
  have HF := Lib.hid (h.later hb)
  have HB := Lib.hid hb
  obtain ⟨a0, a1⟩ := HF.out.word hd
  have i0 : W1.cell? ⟨W.heap.size, 0, none⟩ = some (.int .i64 op) := HI.out.cell rfl
  have i1 : W1.cell? ⟨W.heap.size, 1, none⟩ = some (.int .i64 fn) := HI.out.cell rfl
  have i2 : W1.cell? ⟨W.heap.size, 2, none⟩ = some (.int .i64 (d : Int)) := HI.out.cell rfl
  have i3 : W1.cell? ⟨W.heap.size, 3, none⟩ = some (.int .i64 s) := HI.out.cell rfl
  have i4 : W1.cell? ⟨W.heap.size, 4, none⟩ = some (.bool rg) := HI.out.cell rfl
  have i5 : W1.cell? ⟨W.heap.size, 5, none⟩ = some (.int .i64 o) := HI.out.cell rfl
  have i6 : W1.cell? ⟨W.heap.size, 6, none⟩ = some (.int .u32 m) := HI.out.cell rfl
  have hdI : (d : Int) < 8 := by omega
  have HD := Lib.hid hd
  obtain ⟨av, hav⟩ : ∃ av, x.reg d = av := ⟨_, rfl⟩
  obtain ⟨ab, hab⟩ : ∃ ab, x.isSet d = ab := ⟨_, rfl⟩
  obtain ⟨ov, hov⟩ : ∃ ov, opW x rg s m = ov := ⟨_, rfl⟩
  obtain ⟨ob, hob⟩ : ∃ ob, opS x rg s = ob := ⟨_, rfl⟩
  have hcall : ∀ W', Below W1.heap.size W1 W' → Calls Tryd.prog 91 #[.pointer (some ⟨f, 0, none⟩), inV op fn (d : Int) s rg o m] W' fun e w' => e = .returned (.agg #[.int .u32 ov, .bool ob]) ∧ Below W'.heap.size W' w' := fun W' hb' => by
    have hq := operand_any f r x op fn (d : Int) s rg o m hs0 hs7 W' (HF.out.later hb')
    rw [hov, hob] at hq
    exact hq
  rw [hov] at HOw
  rw [hav] at HRw a0
  rw [hab] at a1
  simp only [hov, hob]
  have HAV := Lib.hid hav
  have HAB := Lib.hid hab
  have HKp : Hid (∀ W', Below W1.heap.size W1 W' → W'.cell? ⟨f, 3 + d * 2, none⟩ = some (.int .u32 av) ∧ W'.cell? ⟨f, 3 + d * 2 + 1, none⟩ = some (.bool ab) ∧ W'.cell? ⟨W.heap.size, 0, none⟩ = some (.int .i64 op) ∧ W'.cell? ⟨W.heap.size, 1, none⟩ = some (.int .i64 fn) ∧ W'.cell? ⟨W.heap.size, 2, none⟩ = some (.int .i64 (d : Int)) ∧ W'.cell? ⟨W.heap.size, 3, none⟩ = some (.int .i64 s) ∧ W'.cell? ⟨W.heap.size, 4, none⟩ = some (.bool rg) ∧ W'.cell? ⟨W.heap.size, 5, none⟩ = some (.int .i64 o) ∧ W'.cell? ⟨W.heap.size, 6, none⟩ = some (.int .u32 m)) := Lib.hid (fun W' hb => ⟨(hb.cell (lt_of_cell a0)).trans a0, (hb.cell (lt_of_cell a1)).trans a1, (hb.cell (lt_of_cell i0)).trans i0, (hb.cell (lt_of_cell i1)).trans i1, (hb.cell (lt_of_cell i2)).trans i2, (hb.cell (lt_of_cell i3)).trans i3, (hb.cell (lt_of_cell i4)).trans i4, (hb.cell (lt_of_cell i5)).trans i5, (hb.cell (lt_of_cell i6)).trans i6⟩)
  clear hav hab hov hob hb h a0 a1 i0 i1 i2 i3 i4 i5 i6 hd hs0 hs7 hm hsz
  go_enter Tryd.func72, Tryd.ntmps72
  go_wp2_with fail
  clear hW1
  refine wp_region_held_drew (S := (fun W' => W'.cell? ⟨f, 3 + d * 2, none⟩ = some (.int .u32 av) ∧ W'.cell? ⟨f, 3 + d * 2 + 1, none⟩ = some (.bool ab) ∧ W'.cell? ⟨W.heap.size, 0, none⟩ = some (.int .i64 op) ∧ W'.cell? ⟨W.heap.size, 1, none⟩ = some (.int .i64 fn) ∧ W'.cell? ⟨W.heap.size, 2, none⟩ = some (.int .i64 (d : Int)) ∧ W'.cell? ⟨W.heap.size, 3, none⟩ = some (.int .i64 s) ∧ W'.cell? ⟨W.heap.size, 4, none⟩ = some (.bool rg) ∧ W'.cell? ⟨W.heap.size, 5, none⟩ = some (.int .i64 o) ∧ W'.cell? ⟨W.heap.size, 6, none⟩ = some (.int .u32 m))) (by kernel_rfl) (HKp.out _ (Below.refl _ _).drew) (fun hHeld => ?_)
  refine wpAnyH_yield (i := 0) (v := ?v0) rfl rfl (by kernel_rfl) (by kernel_rfl) (by kernel_rfl) (fun _ _ _ h => h) (by rfl) ?hy0 hHeld ?rest0
  case hy0 =>
    intro w hSw
    (try dsimp only at hSw)
    go_simp
    try with_reducible rfl
  simp only [Act.put, List.setIfInBounds_toArray, List.set_cons_zero, List.set_cons_succ]
  refine wpAnyH_yield (i := 1) (v := ?v1) rfl rfl (by kernel_rfl) (by kernel_rfl) (by kernel_rfl) (fun _ _ _ h => h) (by rfl) ?hy1 hHeld ?rest1
  case hy1 =>
    intro w hSw
    (try dsimp only at hSw)
    go_simp
    try with_reducible rfl
  simp only [Act.put, List.setIfInBounds_toArray, List.set_cons_zero, List.set_cons_succ]
  refine wpAnyH_yield (i := 2) (v := ?v2) rfl rfl (by kernel_rfl) (by kernel_rfl) (by kernel_rfl) (fun _ _ _ h => h) (by rfl) ?hy2 hHeld ?rest2
  case hy2 =>
    intro w hSw
    (try dsimp only at hSw)
    go_simp
    try with_reducible rfl
  simp only [Act.put, List.setIfInBounds_toArray, List.set_cons_zero, List.set_cons_succ]
  refine wpAnyH_yield (i := 3) (v := ?v3) rfl rfl (by kernel_rfl) (by kernel_rfl) (by kernel_rfl) (fun _ _ _ h => h) (by rfl) ?hy3 hHeld ?rest3
  case hy3 =>
    intro w hSw
    (try dsimp only at hSw)
    go_simp
    try with_reducible rfl
  simp only [Act.put, List.setIfInBounds_toArray, List.set_cons_zero, List.set_cons_succ]
  refine wpAnyH_yield (i := 4) (v := ?v4) rfl rfl (by kernel_rfl) (by kernel_rfl) (by kernel_rfl) (fun _ _ _ h => h) (by rfl) ?hy4 hHeld ?rest4
  case hy4 =>
    intro w hSw
    (try dsimp only at hSw)
    go_simp
    try with_reducible rfl
  simp only [Act.put, List.setIfInBounds_toArray, List.set_cons_zero, List.set_cons_succ]
  refine wpAnyH_yield (i := 5) (v := ?v5) rfl rfl (by kernel_rfl) (by kernel_rfl) (by kernel_rfl) (fun _ _ _ h => h) (by rfl) ?hy5 hHeld ?rest5
  case hy5 =>
    intro w hSw
    (try dsimp only at hSw)
    go_simp
    try with_reducible rfl
  simp only [Act.put, List.setIfInBounds_toArray, List.set_cons_zero, List.set_cons_succ]
  refine wpAnyH_yield (i := 6) (v := ?v6) rfl rfl (by kernel_rfl) (by kernel_rfl) (by kernel_rfl) (fun _ _ _ h => h) (by rfl) ?hy6 hHeld ?rest6
  case hy6 =>
    intro w hSw
    (try dsimp only at hSw)
    go_simp
    try with_reducible rfl
  simp only [Act.put, List.setIfInBounds_toArray, List.set_cons_zero, List.set_cons_succ]
  refine wpAnyH_yield (i := 7) (v := ?v7) rfl rfl (by kernel_rfl) (by kernel_rfl) (by kernel_rfl) (fun _ _ _ h => h) (by rfl) ?hy7 hHeld ?rest7
  case hy7 =>
    intro w hSw
    (try dsimp only at hSw)
    go_simp
    try with_reducible rfl
  simp only [Act.put, List.setIfInBounds_toArray, List.set_cons_zero, List.set_cons_succ]
  refine wpAnyH_yield (i := 8) (v := ?v8) rfl rfl (by kernel_rfl) (by kernel_rfl) (by kernel_rfl) (fun _ _ _ h => h) (by rfl) ?hy8 hHeld ?rest8
  case hy8 =>
    intro w hSw
    (try dsimp only at hSw)
    go_simp
    try with_reducible rfl
  simp only [Act.put, List.setIfInBounds_toArray, List.set_cons_zero, List.set_cons_succ]
  refine wpAnyH_ready (rs := [9, 10, 11]) (by kernel_rfl) (by simp) ?_
  refine AllReadyH.cons rfl (fun K hK => ?_) ?_
  · go_simp
    refine (hcall W1.drew ((Below.refl W1.heap.size W1).drew)).mono ?_
    rintro e my1 ⟨rfl, hb⟩
    have HBy1 : Hid (Below W1.heap.size W1 my1) := Lib.hid (((Below.refl W1.heap.size W1).drew).trans (hb.mono ((Below.refl W1.heap.size W1).drew).size))
    clear hb
    go_wp2_with fail
    refine hK.out _ _ (HKp.out _ HBy1.out) (fun hHeld => ?_)
    clear hK K
    try simp only [Act.put, List.setIfInBounds_toArray, List.set_cons_zero, List.set_cons_succ]
    refine wpAnyH_ready (rs := [10, 11]) (by kernel_rfl) (by simp) ?_
    refine AllReadyH.cons rfl (fun K hK => ?_) ?_
    · have HBy2 : Hid (Below W1.heap.size W1 (my1.alloc (.cells #[.int .u32 0, .bool false] 88))) := Lib.hid (HBy1.out.alloc (HBy1.out).size _)
      have HWAy2 : Hid (Box (my1.alloc (.cells #[.int .u32 0, .bool false] 88)) (my1.heap.size) 88 #[.int .u32 0, .bool false]) := Lib.hid (by have := Box.new my1 88 #[.int .u32 0, .bool false]; rwa [show (my1).heap.size = my1.heap.size by simp] at this)
      have hgey2 : W1.heap.size ≤ my1.heap.size := by have := (HBy1.out).size; first | omega | (simp at this; omega)
      go_simp
      refine hK.out _ _ (HKp.out _ HBy2.out) (fun hHeld => ?_)
      clear hK K
      try simp only [Act.put, List.setIfInBounds_toArray, List.set_cons_zero, List.set_cons_succ]
      refine wpAnyH_ready (rs := [11]) (by kernel_rfl) (by simp) ?_
      refine AllReadyH.cons rfl (fun K hK => ?_) AllReadyH.nil
      have HBy3 : Hid (Below W1.heap.size W1 ((my1.alloc (.cells #[.int .u32 0, .bool false] 88)).alloc (.cells #[.int .u32 0, .bool false] 88))) := Lib.hid (HBy2.out.alloc (HBy2.out).size _)
      have HWBy3 : Hid (Box ((my1.alloc (.cells #[.int .u32 0, .bool false] 88)).alloc (.cells #[.int .u32 0, .bool false] 88)) (my1.heap.size + 1) 88 #[.int .u32 0, .bool false]) := Lib.hid (by have := Box.new (my1.alloc (.cells #[.int .u32 0, .bool false] 88)) 88 #[.int .u32 0, .bool false]; rwa [show ((my1.alloc (.cells #[.int .u32 0, .bool false] 88))).heap.size = my1.heap.size + 1 by simp] at this)
      have hney3 : my1.heap.size ≠ my1.heap.size + 1 := by have := HWAy2.out.lt; first | omega | (simp at this; omega)
      have HWAy3 := Lib.hid (HWAy2.out.alloc (.cells #[.int .u32 0, .bool false] 88))
      have hgey3 : W1.heap.size ≤ my1.heap.size + 1 := by have := (HBy2.out).size; first | omega | (simp at this; omega)
      go_simp
      refine hK.out _ _ (HKp.out _ HBy3.out) (fun hHeld => ?_)
      clear hK K
      try simp only [Act.put, List.setIfInBounds_toArray, List.set_cons_zero, List.set_cons_succ]
      have hx1z4 : Below W1.heap.size W1 (((my1.alloc (.cells #[.int .u32 0, .bool false] 88)).alloc (.cells #[.int .u32 0, .bool false] 88)).setRow (my1.heap.size) #[.int .u32 av, .bool ab]) := below_setRow (HBy3.out) hgey2 _
      have HBxz4 : Hid (Below W1.heap.size W1 ((((my1.alloc (.cells #[.int .u32 0, .bool false] 88)).alloc (.cells #[.int .u32 0, .bool false] 88)).setRow (my1.heap.size) #[.int .u32 av, .bool ab]).setRow (my1.heap.size + 1) #[.int .u32 ov, .bool ob])) := Lib.hid (below_setRow hx1z4 hgey3 _)
      have HB1z4 : Hid (Box (((my1.alloc (.cells #[.int .u32 0, .bool false] 88)).alloc (.cells #[.int .u32 0, .bool false] 88)).setRow (my1.heap.size) #[.int .u32 av, .bool ab]) (my1.heap.size + 1) 88 #[.int .u32 0, .bool false]) := Lib.hid (HWBy3.out.grown (grownBy_setRow _ _ _) (fun e => by have := Option.some.inj e; omega))
      have HA1z4 : Hid (Box (((my1.alloc (.cells #[.int .u32 0, .bool false] 88)).alloc (.cells #[.int .u32 0, .bool false] 88)).setRow (my1.heap.size) #[.int .u32 av, .bool ab]) (my1.heap.size) 88 #[.int .u32 av, .bool ab]) := Lib.hid (setRow_heap _ _ _ _ _ _ HWAy3.out)
      have HXAz4 : Hid (Box ((((my1.alloc (.cells #[.int .u32 0, .bool false] 88)).alloc (.cells #[.int .u32 0, .bool false] 88)).setRow (my1.heap.size) #[.int .u32 av, .bool ab]).setRow (my1.heap.size + 1) #[.int .u32 ov, .bool ob]) (my1.heap.size) 88 #[.int .u32 av, .bool ab]) := Lib.hid (HA1z4.out.grown (grownBy_setRow _ _ _) (fun e => by have := Option.some.inj e; omega))
      have HXBz4 : Hid (Box ((((my1.alloc (.cells #[.int .u32 0, .bool false] 88)).alloc (.cells #[.int .u32 0, .bool false] 88)).setRow (my1.heap.size) #[.int .u32 av, .bool ab]).setRow (my1.heap.size + 1) #[.int .u32 ov, .bool ob]) (my1.heap.size + 1) 88 #[.int .u32 ov, .bool ob]) := Lib.hid (setRow_heap _ _ _ _ _ _ HB1z4.out)
      refine wpAnyH_ready (rs := [12]) (by kernel_rfl) (by simp) ?_
      refine AllReadyH.cons rfl (fun K hK => ?_) AllReadyH.nil
      refine step_rowJ _ (by rfl) 88 _ _ (by rfl) (by rfl) (my1.heap.size) #[.int .u32 av, .bool ab] (by rfl) (by rfl) 88 _ HWAy3.out (by kernel_rfl) rfl (by simp [Value.oneCell']) ?_
      refine hK.out _ _ (HKp.out _ hx1z4) (fun hHeld => ?_)
      clear hK K
      try simp only [Act.put, List.setIfInBounds_toArray, List.set_cons_zero, List.set_cons_succ]
      refine wpAnyH_ready (rs := [13]) (by kernel_rfl) (by simp) ?_
      refine AllReadyH.cons rfl (fun K hK => ?_) AllReadyH.nil
      refine step_rowJ _ (by rfl) 88 _ _ (by rfl) (by rfl) (my1.heap.size + 1) #[.int .u32 ov, .bool ob] (by rfl) (by rfl) 88 _ HB1z4.out (by kernel_rfl) rfl (by simp [Value.oneCell']) ?_
      refine hK.out _ _ (HKp.out _ HBxz4.out) (fun hHeld => ?_)
      clear hK K
      try simp only [Act.put, List.setIfInBounds_toArray, List.set_cons_zero, List.set_cons_succ]
      refine wpAnyH_done (by kernel_rfl) ?_ _
      have HXA := HXAz4
      have HXB := HXBz4
      have HXX := HBxz4
      generalize hX : ((((my1.alloc (.cells #[.int .u32 0, .bool false] 88)).alloc (.cells #[.int .u32 0, .bool false] 88)).setRow (my1.heap.size) #[.int .u32 av, .bool ab]).setRow (my1.heap.size + 1) #[.int .u32 ov, .bool ob]) = X at HXA HXB HXX ⊢
      generalize hPB : my1.heap.size + 1 = PB at HXB ⊢
      generalize hPA : my1.heap.size = PA at HXA ⊢
      clear hX hPA hPB HXAz4 HXBz4 HBxz4 HA1z4 HB1z4 hx1z4 hHeld
      have HFX := Lib.hid (HF.out.later HXX.out)
      have HIX := Lib.hid (HI.out.later HXX.out)
      have HGX : Hid (W.grownBy X (some f)) := Lib.hid (grownBy_of_below (HB.out.trans (HXX.out.mono HB.out.size)) _)
      have x1 : X.cell? ⟨W.heap.size, 1, none⟩ = some (.int .i64 fn) := HIX.out.cell rfl
      have x2 : X.cell? ⟨W.heap.size, 2, none⟩ = some (.int .i64 (d : Int)) := HIX.out.cell rfl
      have x5 : X.cell? ⟨W.heap.size, 5, none⟩ = some (.int .i64 o) := HIX.out.cell rfl
      have p0 : X.cell? ⟨PA, 0, none⟩ = some (.int .u32 av) := HXA.out.cell rfl
      have p1 : X.cell? ⟨PA, 1, none⟩ = some (.bool ab) := HXA.out.cell rfl
      have q0 : X.cell? ⟨PB, 0, none⟩ = some (.int .u32 ov) := HXB.out.cell rfl
      have q1 : X.cell? ⟨PB, 1, none⟩ = some (.bool ob) := HXB.out.cell rfl
      have HXA' := HXA
      have HXB' := HXB
      clear HKp hcall HXX HXA HXB HF HI HB
      obtain ⟨k, rfl⟩ : ∃ k : Nat, ov = k := ⟨ov.toNat, by have := HOw.out.1; omega⟩
      cases ab
      · have HK2 : Hid (∀ W', Below X.heap.size X W' → W'.cell? ⟨PA, 1, none⟩ = some (.bool false) ∧ W'.cell? ⟨PB, 0, none⟩ = some (.int .u32 (k : Int)) ∧ W'.cell? ⟨PB, 1, none⟩ = some (.bool ob)) := Lib.hid (fun W' hb => ⟨(hb.cell (lt_of_cell p1)).trans p1, (hb.cell (lt_of_cell q0)).trans q0, (hb.cell (lt_of_cell q1)).trans q1⟩)
        have HQ : Hid (storeP x d (k : Int) ob = (10, x)) := Lib.hid (by simp [storeP, HAB.out])
        clear p0 p1 q0 q1 x1 x2 x5
        go_wp2_with fail
        refine wp_region_held_drew (S := (fun W' => W'.cell? ⟨PA, 1, none⟩ = some (.bool false) ∧ W'.cell? ⟨PB, 0, none⟩ = some (.int .u32 (k : Int)) ∧ W'.cell? ⟨PB, 1, none⟩ = some (.bool ob))) (by kernel_rfl) (HK2.out _ (Below.refl _ _).drew) (fun hHeld => ?_)
        refine wpAnyH_yield (i := 0) (v := ?vf1x0) rfl rfl (by kernel_rfl) (by kernel_rfl) (by kernel_rfl) (fun _ _ _ h => h) (by rfl) ?hyf1x0 hHeld ?restf1x0
        case hyf1x0 =>
          intro w hSw
          (try dsimp only at hSw)
          go_simp
          try with_reducible rfl
        simp only [Act.put, List.setIfInBounds_toArray, List.set_cons_zero, List.set_cons_succ]
        refine wpAnyH_yield (i := 1) (v := ?vf1x1) rfl rfl (by kernel_rfl) (by kernel_rfl) (by kernel_rfl) (fun _ _ _ h => h) (by rfl) ?hyf1x1 hHeld ?restf1x1
        case hyf1x1 =>
          intro w hSw
          (try dsimp only at hSw)
          go_simp
          try with_reducible rfl
        simp only [Act.put, List.setIfInBounds_toArray, List.set_cons_zero, List.set_cons_succ]
        refine wpAnyH_yield (i := 2) (v := ?vf1x2) rfl rfl (by kernel_rfl) (by kernel_rfl) (by kernel_rfl) (fun _ _ _ h => h) (by rfl) ?hyf1x2 hHeld ?restf1x2
        case hyf1x2 =>
          intro w hSw
          (try dsimp only at hSw)
          go_simp
          try with_reducible rfl
        simp only [Act.put, List.setIfInBounds_toArray, List.set_cons_zero, List.set_cons_succ]
        refine wpAnyH_yield (i := 3) (v := ?vf1x3) rfl rfl (by kernel_rfl) (by kernel_rfl) (by kernel_rfl) (fun _ _ _ h => h) (by rfl) ?hyf1x3 hHeld ?restf1x3
        case hyf1x3 =>
          intro w hSw
          (try dsimp only at hSw)
          go_simp
          try with_reducible rfl
        simp only [Act.put, List.setIfInBounds_toArray, List.set_cons_zero, List.set_cons_succ]
        refine wpAnyH_skip (i := 4) rfl rfl (by kernel_rfl) (by kernel_rfl) (by kernel_rfl) (fun _ _ _ h => h) (by rfl) hHeld ?_
        simp only [Act.put, List.setIfInBounds_toArray, List.set_cons_zero, List.set_cons_succ]
        refine wpAnyH_skip (i := 5) rfl rfl (by kernel_rfl) (by kernel_rfl) (by kernel_rfl) (fun _ _ _ h => h) (by rfl) hHeld ?_
        simp only [Act.put, List.setIfInBounds_toArray, List.set_cons_zero, List.set_cons_succ]
        refine wpAnyH_skip (i := 6) rfl rfl (by kernel_rfl) (by kernel_rfl) (by kernel_rfl) (fun _ _ _ h => h) (by rfl) hHeld ?_
        simp only [Act.put, List.setIfInBounds_toArray, List.set_cons_zero, List.set_cons_succ]
        refine wpAnyH_skip (i := 7) rfl rfl (by kernel_rfl) (by kernel_rfl) (by kernel_rfl) (fun _ _ _ h => h) (by rfl) hHeld ?_
        simp only [Act.put, List.setIfInBounds_toArray, List.set_cons_zero, List.set_cons_succ]
        refine wpAnyH_skip (i := 8) rfl rfl (by kernel_rfl) (by kernel_rfl) (by kernel_rfl) (fun _ _ _ h => h) (by rfl) hHeld ?_
        simp only [Act.put, List.setIfInBounds_toArray, List.set_cons_zero, List.set_cons_succ]
        refine wpAnyH_skip (i := 9) rfl rfl (by kernel_rfl) (by kernel_rfl) (by kernel_rfl) (fun _ _ _ h => h) (by rfl) hHeld ?_
        simp only [Act.put, List.setIfInBounds_toArray, List.set_cons_zero, List.set_cons_succ]
        refine wpAnyH_skip (i := 10) rfl rfl (by kernel_rfl) (by kernel_rfl) (by kernel_rfl) (fun _ _ _ h => h) (by rfl) hHeld ?_
        simp only [Act.put, List.setIfInBounds_toArray, List.set_cons_zero, List.set_cons_succ]
        refine wpAnyH_yield (i := 11) (v := ?vf1x11) rfl rfl (by kernel_rfl) (by kernel_rfl) (by kernel_rfl) (fun _ _ _ h => h) (by rfl) ?hyf1x11 hHeld ?restf1x11
        case hyf1x11 =>
          intro w hSw
          (try dsimp only at hSw)
          go_simp
          try with_reducible rfl
        simp only [Act.put, List.setIfInBounds_toArray, List.set_cons_zero, List.set_cons_succ]
        refine wpAnyH_done (by kernel_rfl) ?_ _
        go_wp2_with fail
        go_ret
        rw [HQ.out]
        exact ⟨rfl, grow_trans HGX.out (grownBy_of_below ((Below.refl _ _).drew) _), HFX.out.later ((Below.refl _ _).drew)⟩
      have HK2 : Hid (∀ W', Below X.heap.size X W' → W'.cell? ⟨PA, 1, none⟩ = some (.bool true) ∧ W'.cell? ⟨PB, 0, none⟩ = some (.int .u32 (k : Int)) ∧ W'.cell? ⟨PB, 1, none⟩ = some (.bool ob)) := Lib.hid (fun W' hb => ⟨(hb.cell (lt_of_cell p1)).trans p1, (hb.cell (lt_of_cell q0)).trans q0, (hb.cell (lt_of_cell q1)).trans q1⟩)
      obtain ⟨wb, hwb⟩ : ∃ wb, (ob && decide ((k : Int) < ((16 : Nat) : Int))) = wb := ⟨_, rfl⟩
      have cw := fun W' => iwithin_any (some ⟨f, 19, none⟩) 16 16 (by omega) (k : Int) HOw.out ob W'
      rw [hwb] at cw
      have HWb := Lib.hid hwb
      clear hwb p0 p1 q0 q1 x1 x2 x5
      go_wp2_with fail
      refine wp_region_held_drew (S := (fun W' => W'.cell? ⟨PA, 1, none⟩ = some (.bool true) ∧ W'.cell? ⟨PB, 0, none⟩ = some (.int .u32 (k : Int)) ∧ W'.cell? ⟨PB, 1, none⟩ = some (.bool ob))) (by kernel_rfl) (HK2.out _ (Below.refl _ _).drew) (fun hHeld => ?_)
      refine wpAnyH_yield (i := 0) (v := ?vt1x0) rfl rfl (by kernel_rfl) (by kernel_rfl) (by kernel_rfl) (fun _ _ _ h => h) (by rfl) ?hyt1x0 hHeld ?restt1x0
      case hyt1x0 =>
        intro w hSw
        (try dsimp only at hSw)
        go_simp
        try with_reducible rfl
      simp only [Act.put, List.setIfInBounds_toArray, List.set_cons_zero, List.set_cons_succ]
      refine wpAnyH_yield (i := 1) (v := ?vt1x1) rfl rfl (by kernel_rfl) (by kernel_rfl) (by kernel_rfl) (fun _ _ _ h => h) (by rfl) ?hyt1x1 hHeld ?restt1x1
      case hyt1x1 =>
        intro w hSw
        (try dsimp only at hSw)
        go_simp
        try with_reducible rfl
      simp only [Act.put, List.setIfInBounds_toArray, List.set_cons_zero, List.set_cons_succ]
      refine wpAnyH_yield (i := 2) (v := ?vt1x2) rfl rfl (by kernel_rfl) (by kernel_rfl) (by kernel_rfl) (fun _ _ _ h => h) (by rfl) ?hyt1x2 hHeld ?restt1x2
      case hyt1x2 =>
        intro w hSw
        (try dsimp only at hSw)
        go_simp
        try with_reducible rfl
      simp only [Act.put, List.setIfInBounds_toArray, List.set_cons_zero, List.set_cons_succ]
      refine wpAnyH_yield (i := 3) (v := ?vt1x3) rfl rfl (by kernel_rfl) (by kernel_rfl) (by kernel_rfl) (fun _ _ _ h => h) (by rfl) ?hyt1x3 hHeld ?restt1x3
      case hyt1x3 =>
        intro w hSw
        (try dsimp only at hSw)
        go_simp
        try with_reducible rfl
      simp only [Act.put, List.setIfInBounds_toArray, List.set_cons_zero, List.set_cons_succ]
      refine wpAnyH_yield (i := 4) (v := ?vt1x4) rfl rfl (by kernel_rfl) (by kernel_rfl) (by kernel_rfl) (fun _ _ _ h => h) (by rfl) ?hyt1x4 hHeld ?restt1x4
      case hyt1x4 =>
        intro w hSw
        (try dsimp only at hSw)
        go_simp
        try with_reducible rfl
      simp only [Act.put, List.setIfInBounds_toArray, List.set_cons_zero, List.set_cons_succ]
      refine wpAnyH_yield (i := 5) (v := ?vt1x5) rfl rfl (by kernel_rfl) (by kernel_rfl) (by kernel_rfl) (fun _ _ _ h => h) (by rfl) ?hyt1x5 hHeld ?restt1x5
      case hyt1x5 =>
        intro w hSw
        (try dsimp only at hSw)
        go_simp
        try with_reducible rfl
      simp only [Act.put, List.setIfInBounds_toArray, List.set_cons_zero, List.set_cons_succ]
      refine wpAnyH_yield (i := 6) (v := ?vt1x6) rfl rfl (by kernel_rfl) (by kernel_rfl) (by kernel_rfl) (fun _ _ _ h => h) (by rfl) ?hyt1x6 hHeld ?restt1x6
      case hyt1x6 =>
        intro w hSw
        (try dsimp only at hSw)
        go_simp
        try with_reducible rfl
      simp only [Act.put, List.setIfInBounds_toArray, List.set_cons_zero, List.set_cons_succ]
      refine wpAnyH_yield (i := 7) (v := ?vt1x7) rfl rfl (by kernel_rfl) (by kernel_rfl) (by kernel_rfl) (fun _ _ _ h => h) (by rfl) ?hyt1x7 hHeld ?restt1x7
      case hyt1x7 =>
        intro w hSw
        (try dsimp only at hSw)
        go_simp
        try with_reducible rfl
      simp only [Act.put, List.setIfInBounds_toArray, List.set_cons_zero, List.set_cons_succ]
      refine wpAnyH_yield (i := 8) (v := ?vt1x8) rfl rfl (by kernel_rfl) (by kernel_rfl) (by kernel_rfl) (fun _ _ _ h => h) (by rfl) ?hyt1x8 hHeld ?restt1x8
      case hyt1x8 =>
        intro w hSw
        (try dsimp only at hSw)
        go_simp
        try with_reducible rfl
      simp only [Act.put, List.setIfInBounds_toArray, List.set_cons_zero, List.set_cons_succ]
      refine wpAnyH_ready (rs := [9]) (by kernel_rfl) (by simp) ?_
      refine AllReadyH.cons rfl (fun K hK => ?_) AllReadyH.nil
      go_simp
      refine (cw _).mono ?_
      rintro e m9 ⟨rfl, hb9⟩
      have HB9 : Hid (Below X.heap.size X m9) := Lib.hid ((Below.refl _ _).drew.trans hb9)
      clear hb9
      go_wp2_with fail
      refine hK.out _ _ (HK2.out _ HB9.out) (fun hHeld => ?_)
      clear hK K
      try simp only [Act.put, List.setIfInBounds_toArray, List.set_cons_zero, List.set_cons_succ]
      refine wpAnyH_yield (i := 10) (v := ?vt1x10) rfl rfl (by kernel_rfl) (by kernel_rfl) (by kernel_rfl) (fun _ _ _ h => h) (by rfl) ?hyt1x10 hHeld ?restt1x10
      case hyt1x10 =>
        intro w hSw
        (try dsimp only at hSw)
        go_simp
        try with_reducible rfl
      simp only [Act.put, List.setIfInBounds_toArray, List.set_cons_zero, List.set_cons_succ]
      refine wpAnyH_yield (i := 11) (v := ?vt1x11) rfl rfl (by kernel_rfl) (by kernel_rfl) (by kernel_rfl) (fun _ _ _ h => h) (by rfl) ?hyt1x11 hHeld ?restt1x11
      case hyt1x11 =>
        intro w hSw
        (try dsimp only at hSw)
        go_simp
        try with_reducible rfl
      simp only [Act.put, List.setIfInBounds_toArray, List.set_cons_zero, List.set_cons_succ]
      refine wpAnyH_done (by kernel_rfl) ?_ _
      have HF9 := Lib.hid (HFX.out.later HB9.out)
      have HG9 : Hid (W.grownBy m9 (some f)) := Lib.hid (grow_trans HGX.out (grownBy_of_below HB9.out _))
      have HA9 := Lib.hid (HXA'.out.later HB9.out)
      have HB9' := Lib.hid (HXB'.out.later HB9.out)
      clear cw hHeld
      cases wb
      · have HQ : Hid (storeP x d (k : Int) ob = (10, x)) := Lib.hid (by
          have := HWb.out
          simp only [storeP, HAB.out, Bool.true_and]
          rw [show decide ((k : Int) < 16) = decide ((k : Int) < ((16 : Nat) : Int)) from rfl, this]
          rfl)
        go_wp2_with fail
        go_ret
        rw [HQ.out]
        exact ⟨rfl, HG9.out, HF9.out⟩
      have hw2 := HWb.out
      simp only [Bool.and_eq_true, decide_eq_true_eq] at hw2
      have hk16 : k < 16 := by omega
      have HQ : Hid (storeP x d (k : Int) ob = (0, storeF x k av)) := Lib.hid (by simp [storeP, HAB.out, HAV.out, hw2.1]; omega)
      have p0 : m9.cell? ⟨PA, 0, none⟩ = some (.int .u32 av) := HA9.out.cell rfl
      have q0 : m9.cell? ⟨PB, 0, none⟩ = some (.int .u32 (k : Int)) := HB9'.out.cell rfl
      have s0 := HF9.out.stack hk16
      have sf := HF9.out.free (19 + k)
      have hkI : (k : Int) < 16 := by omega
      have HF8 := Lib.hid (HF9.out.store hk16 HRw.out)
      have HG8 : Hid (W.grownBy (m9.setCell ⟨f, 19 + k, none⟩ (.int .u32 av)) (some f)) := Lib.hid (grow_trans HG9.out (grownBy_setCell _ _ _))
      clear hw2 hk16
      go_wp2_with fail
      go_big_region
      go_wp2_with fail
      go_ret
      rw [HQ.out]
      exact ⟨rfl, grow_trans HG8.out (grownBy_of_below ((Below.refl _ _).drew) _), HF8.out.later ((Below.refl _ _).drew)⟩
    refine AllReadyH.cons rfl (fun K hK => ?_) AllReadyH.nil
    have HBy5 : Hid (Below W1.heap.size W1 (my1.alloc (.cells #[.int .u32 0, .bool false] 88))) := Lib.hid (HBy1.out.alloc (HBy1.out).size _)
    have HWBy5 : Hid (Box (my1.alloc (.cells #[.int .u32 0, .bool false] 88)) (my1.heap.size) 88 #[.int .u32 0, .bool false]) := Lib.hid (by have := Box.new my1 88 #[.int .u32 0, .bool false]; rwa [show (my1).heap.size = my1.heap.size by simp] at this)
    have hgey5 : W1.heap.size ≤ my1.heap.size := by have := (HBy1.out).size; first | omega | (simp at this; omega)
    go_simp
    refine hK.out _ _ (HKp.out _ HBy5.out) (fun hHeld => ?_)
    clear hK K
    try simp only [Act.put, List.setIfInBounds_toArray, List.set_cons_zero, List.set_cons_succ]
    refine wpAnyH_ready (rs := [10]) (by kernel_rfl) (by simp) ?_
    refine AllReadyH.cons rfl (fun K hK => ?_) AllReadyH.nil
    have HBy6 : Hid (Below W1.heap.size W1 ((my1.alloc (.cells #[.int .u32 0, .bool false] 88)).alloc (.cells #[.int .u32 0, .bool false] 88))) := Lib.hid (HBy5.out.alloc (HBy5.out).size _)
    have HWAy6 : Hid (Box ((my1.alloc (.cells #[.int .u32 0, .bool false] 88)).alloc (.cells #[.int .u32 0, .bool false] 88)) (my1.heap.size + 1) 88 #[.int .u32 0, .bool false]) := Lib.hid (by have := Box.new (my1.alloc (.cells #[.int .u32 0, .bool false] 88)) 88 #[.int .u32 0, .bool false]; rwa [show ((my1.alloc (.cells #[.int .u32 0, .bool false] 88))).heap.size = my1.heap.size + 1 by simp] at this)
    have hney6 : my1.heap.size ≠ my1.heap.size + 1 := by have := HWBy5.out.lt; first | omega | (simp at this; omega)
    have HWBy6 := Lib.hid (HWBy5.out.alloc (.cells #[.int .u32 0, .bool false] 88))
    have hgey6 : W1.heap.size ≤ my1.heap.size + 1 := by have := (HBy5.out).size; first | omega | (simp at this; omega)
    go_simp
    refine hK.out _ _ (HKp.out _ HBy6.out) (fun hHeld => ?_)
    clear hK K
    try simp only [Act.put, List.setIfInBounds_toArray, List.set_cons_zero, List.set_cons_succ]
    have hx1z7 : Below W1.heap.size W1 (((my1.alloc (.cells #[.int .u32 0, .bool false] 88)).alloc (.cells #[.int .u32 0, .bool false] 88)).setRow (my1.heap.size + 1) #[.int .u32 av, .bool ab]) := below_setRow (HBy6.out) hgey6 _
    have HBxz7 : Hid (Below W1.heap.size W1 ((((my1.alloc (.cells #[.int .u32 0, .bool false] 88)).alloc (.cells #[.int .u32 0, .bool false] 88)).setRow (my1.heap.size + 1) #[.int .u32 av, .bool ab]).setRow (my1.heap.size) #[.int .u32 ov, .bool ob])) := Lib.hid (below_setRow hx1z7 hgey5 _)
    have HB1z7 : Hid (Box (((my1.alloc (.cells #[.int .u32 0, .bool false] 88)).alloc (.cells #[.int .u32 0, .bool false] 88)).setRow (my1.heap.size + 1) #[.int .u32 av, .bool ab]) (my1.heap.size) 88 #[.int .u32 0, .bool false]) := Lib.hid (HWBy6.out.grown (grownBy_setRow _ _ _) (fun e => by have := Option.some.inj e; omega))
    have HA1z7 : Hid (Box (((my1.alloc (.cells #[.int .u32 0, .bool false] 88)).alloc (.cells #[.int .u32 0, .bool false] 88)).setRow (my1.heap.size + 1) #[.int .u32 av, .bool ab]) (my1.heap.size + 1) 88 #[.int .u32 av, .bool ab]) := Lib.hid (setRow_heap _ _ _ _ _ _ HWAy6.out)
    have HXAz7 : Hid (Box ((((my1.alloc (.cells #[.int .u32 0, .bool false] 88)).alloc (.cells #[.int .u32 0, .bool false] 88)).setRow (my1.heap.size + 1) #[.int .u32 av, .bool ab]).setRow (my1.heap.size) #[.int .u32 ov, .bool ob]) (my1.heap.size + 1) 88 #[.int .u32 av, .bool ab]) := Lib.hid (HA1z7.out.grown (grownBy_setRow _ _ _) (fun e => by have := Option.some.inj e; omega))
    have HXBz7 : Hid (Box ((((my1.alloc (.cells #[.int .u32 0, .bool false] 88)).alloc (.cells #[.int .u32 0, .bool false] 88)).setRow (my1.heap.size + 1) #[.int .u32 av, .bool ab]).setRow (my1.heap.size) #[.int .u32 ov, .bool ob]) (my1.heap.size) 88 #[.int .u32 ov, .bool ob]) := Lib.hid (setRow_heap _ _ _ _ _ _ HB1z7.out)
    refine wpAnyH_ready (rs := [12]) (by kernel_rfl) (by simp) ?_
    refine AllReadyH.cons rfl (fun K hK => ?_) AllReadyH.nil
    refine step_rowJ _ (by rfl) 88 _ _ (by rfl) (by rfl) (my1.heap.size + 1) #[.int .u32 av, .bool ab] (by rfl) (by rfl) 88 _ HWAy6.out (by kernel_rfl) rfl (by simp [Value.oneCell']) ?_
    refine hK.out _ _ (HKp.out _ hx1z7) (fun hHeld => ?_)
    clear hK K
    try simp only [Act.put, List.setIfInBounds_toArray, List.set_cons_zero, List.set_cons_succ]
    refine wpAnyH_ready (rs := [13]) (by kernel_rfl) (by simp) ?_
    refine AllReadyH.cons rfl (fun K hK => ?_) AllReadyH.nil
    refine step_rowJ _ (by rfl) 88 _ _ (by rfl) (by rfl) (my1.heap.size) #[.int .u32 ov, .bool ob] (by rfl) (by rfl) 88 _ HB1z7.out (by kernel_rfl) rfl (by simp [Value.oneCell']) ?_
    refine hK.out _ _ (HKp.out _ HBxz7.out) (fun hHeld => ?_)
    clear hK K
    try simp only [Act.put, List.setIfInBounds_toArray, List.set_cons_zero, List.set_cons_succ]
    refine wpAnyH_done (by kernel_rfl) ?_ _
    have HXA := HXAz7
    have HXB := HXBz7
    have HXX := HBxz7
    generalize hX : ((((my1.alloc (.cells #[.int .u32 0, .bool false] 88)).alloc (.cells #[.int .u32 0, .bool false] 88)).setRow (my1.heap.size + 1) #[.int .u32 av, .bool ab]).setRow (my1.heap.size) #[.int .u32 ov, .bool ob]) = X at HXA HXB HXX ⊢
    generalize hPA : my1.heap.size + 1 = PA at HXA ⊢
    generalize hPB : my1.heap.size = PB at HXB ⊢
    clear hX hPA hPB HXAz7 HXBz7 HBxz7 HA1z7 HB1z7 hx1z7 hHeld
    have HFX := Lib.hid (HF.out.later HXX.out)
    have HIX := Lib.hid (HI.out.later HXX.out)
    have HGX : Hid (W.grownBy X (some f)) := Lib.hid (grownBy_of_below (HB.out.trans (HXX.out.mono HB.out.size)) _)
    have x1 : X.cell? ⟨W.heap.size, 1, none⟩ = some (.int .i64 fn) := HIX.out.cell rfl
    have x2 : X.cell? ⟨W.heap.size, 2, none⟩ = some (.int .i64 (d : Int)) := HIX.out.cell rfl
    have x5 : X.cell? ⟨W.heap.size, 5, none⟩ = some (.int .i64 o) := HIX.out.cell rfl
    have p0 : X.cell? ⟨PA, 0, none⟩ = some (.int .u32 av) := HXA.out.cell rfl
    have p1 : X.cell? ⟨PA, 1, none⟩ = some (.bool ab) := HXA.out.cell rfl
    have q0 : X.cell? ⟨PB, 0, none⟩ = some (.int .u32 ov) := HXB.out.cell rfl
    have q1 : X.cell? ⟨PB, 1, none⟩ = some (.bool ob) := HXB.out.cell rfl
    have HXA' := HXA
    have HXB' := HXB
    clear HKp hcall HXX HXA HXB HF HI HB
    obtain ⟨k, rfl⟩ : ∃ k : Nat, ov = k := ⟨ov.toNat, by have := HOw.out.1; omega⟩
    cases ab
    · have HK2 : Hid (∀ W', Below X.heap.size X W' → W'.cell? ⟨PA, 1, none⟩ = some (.bool false) ∧ W'.cell? ⟨PB, 0, none⟩ = some (.int .u32 (k : Int)) ∧ W'.cell? ⟨PB, 1, none⟩ = some (.bool ob)) := Lib.hid (fun W' hb => ⟨(hb.cell (lt_of_cell p1)).trans p1, (hb.cell (lt_of_cell q0)).trans q0, (hb.cell (lt_of_cell q1)).trans q1⟩)
      have HQ : Hid (storeP x d (k : Int) ob = (10, x)) := Lib.hid (by simp [storeP, HAB.out])
      clear p0 p1 q0 q1 x1 x2 x5
      go_wp2_with fail
      refine wp_region_held_drew (S := (fun W' => W'.cell? ⟨PA, 1, none⟩ = some (.bool false) ∧ W'.cell? ⟨PB, 0, none⟩ = some (.int .u32 (k : Int)) ∧ W'.cell? ⟨PB, 1, none⟩ = some (.bool ob))) (by kernel_rfl) (HK2.out _ (Below.refl _ _).drew) (fun hHeld => ?_)
      refine wpAnyH_yield (i := 0) (v := ?vf2x0) rfl rfl (by kernel_rfl) (by kernel_rfl) (by kernel_rfl) (fun _ _ _ h => h) (by rfl) ?hyf2x0 hHeld ?restf2x0
      case hyf2x0 =>
        intro w hSw
        (try dsimp only at hSw)
        go_simp
        try with_reducible rfl
      simp only [Act.put, List.setIfInBounds_toArray, List.set_cons_zero, List.set_cons_succ]
      refine wpAnyH_yield (i := 1) (v := ?vf2x1) rfl rfl (by kernel_rfl) (by kernel_rfl) (by kernel_rfl) (fun _ _ _ h => h) (by rfl) ?hyf2x1 hHeld ?restf2x1
      case hyf2x1 =>
        intro w hSw
        (try dsimp only at hSw)
        go_simp
        try with_reducible rfl
      simp only [Act.put, List.setIfInBounds_toArray, List.set_cons_zero, List.set_cons_succ]
      refine wpAnyH_yield (i := 2) (v := ?vf2x2) rfl rfl (by kernel_rfl) (by kernel_rfl) (by kernel_rfl) (fun _ _ _ h => h) (by rfl) ?hyf2x2 hHeld ?restf2x2
      case hyf2x2 =>
        intro w hSw
        (try dsimp only at hSw)
        go_simp
        try with_reducible rfl
      simp only [Act.put, List.setIfInBounds_toArray, List.set_cons_zero, List.set_cons_succ]
      refine wpAnyH_yield (i := 3) (v := ?vf2x3) rfl rfl (by kernel_rfl) (by kernel_rfl) (by kernel_rfl) (fun _ _ _ h => h) (by rfl) ?hyf2x3 hHeld ?restf2x3
      case hyf2x3 =>
        intro w hSw
        (try dsimp only at hSw)
        go_simp
        try with_reducible rfl
      simp only [Act.put, List.setIfInBounds_toArray, List.set_cons_zero, List.set_cons_succ]
      refine wpAnyH_skip (i := 4) rfl rfl (by kernel_rfl) (by kernel_rfl) (by kernel_rfl) (fun _ _ _ h => h) (by rfl) hHeld ?_
      simp only [Act.put, List.setIfInBounds_toArray, List.set_cons_zero, List.set_cons_succ]
      refine wpAnyH_skip (i := 5) rfl rfl (by kernel_rfl) (by kernel_rfl) (by kernel_rfl) (fun _ _ _ h => h) (by rfl) hHeld ?_
      simp only [Act.put, List.setIfInBounds_toArray, List.set_cons_zero, List.set_cons_succ]
      refine wpAnyH_skip (i := 6) rfl rfl (by kernel_rfl) (by kernel_rfl) (by kernel_rfl) (fun _ _ _ h => h) (by rfl) hHeld ?_
      simp only [Act.put, List.setIfInBounds_toArray, List.set_cons_zero, List.set_cons_succ]
      refine wpAnyH_skip (i := 7) rfl rfl (by kernel_rfl) (by kernel_rfl) (by kernel_rfl) (fun _ _ _ h => h) (by rfl) hHeld ?_
      simp only [Act.put, List.setIfInBounds_toArray, List.set_cons_zero, List.set_cons_succ]
      refine wpAnyH_skip (i := 8) rfl rfl (by kernel_rfl) (by kernel_rfl) (by kernel_rfl) (fun _ _ _ h => h) (by rfl) hHeld ?_
      simp only [Act.put, List.setIfInBounds_toArray, List.set_cons_zero, List.set_cons_succ]
      refine wpAnyH_skip (i := 9) rfl rfl (by kernel_rfl) (by kernel_rfl) (by kernel_rfl) (fun _ _ _ h => h) (by rfl) hHeld ?_
      simp only [Act.put, List.setIfInBounds_toArray, List.set_cons_zero, List.set_cons_succ]
      refine wpAnyH_skip (i := 10) rfl rfl (by kernel_rfl) (by kernel_rfl) (by kernel_rfl) (fun _ _ _ h => h) (by rfl) hHeld ?_
      simp only [Act.put, List.setIfInBounds_toArray, List.set_cons_zero, List.set_cons_succ]
      refine wpAnyH_yield (i := 11) (v := ?vf2x11) rfl rfl (by kernel_rfl) (by kernel_rfl) (by kernel_rfl) (fun _ _ _ h => h) (by rfl) ?hyf2x11 hHeld ?restf2x11
      case hyf2x11 =>
        intro w hSw
        (try dsimp only at hSw)
        go_simp
        try with_reducible rfl
      simp only [Act.put, List.setIfInBounds_toArray, List.set_cons_zero, List.set_cons_succ]
      refine wpAnyH_done (by kernel_rfl) ?_ _
      go_wp2_with fail
      go_ret
      rw [HQ.out]
      exact ⟨rfl, grow_trans HGX.out (grownBy_of_below ((Below.refl _ _).drew) _), HFX.out.later ((Below.refl _ _).drew)⟩
    have HK2 : Hid (∀ W', Below X.heap.size X W' → W'.cell? ⟨PA, 1, none⟩ = some (.bool true) ∧ W'.cell? ⟨PB, 0, none⟩ = some (.int .u32 (k : Int)) ∧ W'.cell? ⟨PB, 1, none⟩ = some (.bool ob)) := Lib.hid (fun W' hb => ⟨(hb.cell (lt_of_cell p1)).trans p1, (hb.cell (lt_of_cell q0)).trans q0, (hb.cell (lt_of_cell q1)).trans q1⟩)
    obtain ⟨wb, hwb⟩ : ∃ wb, (ob && decide ((k : Int) < ((16 : Nat) : Int))) = wb := ⟨_, rfl⟩
    have cw := fun W' => iwithin_any (some ⟨f, 19, none⟩) 16 16 (by omega) (k : Int) HOw.out ob W'
    rw [hwb] at cw
    have HWb := Lib.hid hwb
    clear hwb p0 p1 q0 q1 x1 x2 x5
    go_wp2_with fail
    refine wp_region_held_drew (S := (fun W' => W'.cell? ⟨PA, 1, none⟩ = some (.bool true) ∧ W'.cell? ⟨PB, 0, none⟩ = some (.int .u32 (k : Int)) ∧ W'.cell? ⟨PB, 1, none⟩ = some (.bool ob))) (by kernel_rfl) (HK2.out _ (Below.refl _ _).drew) (fun hHeld => ?_)
    refine wpAnyH_yield (i := 0) (v := ?vt2x0) rfl rfl (by kernel_rfl) (by kernel_rfl) (by kernel_rfl) (fun _ _ _ h => h) (by rfl) ?hyt2x0 hHeld ?restt2x0
    case hyt2x0 =>
      intro w hSw
      (try dsimp only at hSw)
      go_simp
      try with_reducible rfl
    simp only [Act.put, List.setIfInBounds_toArray, List.set_cons_zero, List.set_cons_succ]
    refine wpAnyH_yield (i := 1) (v := ?vt2x1) rfl rfl (by kernel_rfl) (by kernel_rfl) (by kernel_rfl) (fun _ _ _ h => h) (by rfl) ?hyt2x1 hHeld ?restt2x1
    case hyt2x1 =>
      intro w hSw
      (try dsimp only at hSw)
      go_simp
      try with_reducible rfl
    simp only [Act.put, List.setIfInBounds_toArray, List.set_cons_zero, List.set_cons_succ]
    refine wpAnyH_yield (i := 2) (v := ?vt2x2) rfl rfl (by kernel_rfl) (by kernel_rfl) (by kernel_rfl) (fun _ _ _ h => h) (by rfl) ?hyt2x2 hHeld ?restt2x2
    case hyt2x2 =>
      intro w hSw
      (try dsimp only at hSw)
      go_simp
      try with_reducible rfl
    simp only [Act.put, List.setIfInBounds_toArray, List.set_cons_zero, List.set_cons_succ]
    refine wpAnyH_yield (i := 3) (v := ?vt2x3) rfl rfl (by kernel_rfl) (by kernel_rfl) (by kernel_rfl) (fun _ _ _ h => h) (by rfl) ?hyt2x3 hHeld ?restt2x3
    case hyt2x3 =>
      intro w hSw
      (try dsimp only at hSw)
      go_simp
      try with_reducible rfl
    simp only [Act.put, List.setIfInBounds_toArray, List.set_cons_zero, List.set_cons_succ]
    refine wpAnyH_yield (i := 4) (v := ?vt2x4) rfl rfl (by kernel_rfl) (by kernel_rfl) (by kernel_rfl) (fun _ _ _ h => h) (by rfl) ?hyt2x4 hHeld ?restt2x4
    case hyt2x4 =>
      intro w hSw
      (try dsimp only at hSw)
      go_simp
      try with_reducible rfl
    simp only [Act.put, List.setIfInBounds_toArray, List.set_cons_zero, List.set_cons_succ]
    refine wpAnyH_yield (i := 5) (v := ?vt2x5) rfl rfl (by kernel_rfl) (by kernel_rfl) (by kernel_rfl) (fun _ _ _ h => h) (by rfl) ?hyt2x5 hHeld ?restt2x5
    case hyt2x5 =>
      intro w hSw
      (try dsimp only at hSw)
      go_simp
      try with_reducible rfl
    simp only [Act.put, List.setIfInBounds_toArray, List.set_cons_zero, List.set_cons_succ]
    refine wpAnyH_yield (i := 6) (v := ?vt2x6) rfl rfl (by kernel_rfl) (by kernel_rfl) (by kernel_rfl) (fun _ _ _ h => h) (by rfl) ?hyt2x6 hHeld ?restt2x6
    case hyt2x6 =>
      intro w hSw
      (try dsimp only at hSw)
      go_simp
      try with_reducible rfl
    simp only [Act.put, List.setIfInBounds_toArray, List.set_cons_zero, List.set_cons_succ]
    refine wpAnyH_yield (i := 7) (v := ?vt2x7) rfl rfl (by kernel_rfl) (by kernel_rfl) (by kernel_rfl) (fun _ _ _ h => h) (by rfl) ?hyt2x7 hHeld ?restt2x7
    case hyt2x7 =>
      intro w hSw
      (try dsimp only at hSw)
      go_simp
      try with_reducible rfl
    simp only [Act.put, List.setIfInBounds_toArray, List.set_cons_zero, List.set_cons_succ]
    refine wpAnyH_yield (i := 8) (v := ?vt2x8) rfl rfl (by kernel_rfl) (by kernel_rfl) (by kernel_rfl) (fun _ _ _ h => h) (by rfl) ?hyt2x8 hHeld ?restt2x8
    case hyt2x8 =>
      intro w hSw
      (try dsimp only at hSw)
      go_simp
      try with_reducible rfl
    simp only [Act.put, List.setIfInBounds_toArray, List.set_cons_zero, List.set_cons_succ]
    refine wpAnyH_ready (rs := [9]) (by kernel_rfl) (by simp) ?_
    refine AllReadyH.cons rfl (fun K hK => ?_) AllReadyH.nil
    go_simp
    refine (cw _).mono ?_
    rintro e m9 ⟨rfl, hb9⟩
    have HB9 : Hid (Below X.heap.size X m9) := Lib.hid ((Below.refl _ _).drew.trans hb9)
    clear hb9
    go_wp2_with fail
    refine hK.out _ _ (HK2.out _ HB9.out) (fun hHeld => ?_)
    clear hK K
    try simp only [Act.put, List.setIfInBounds_toArray, List.set_cons_zero, List.set_cons_succ]
    refine wpAnyH_yield (i := 10) (v := ?vt2x10) rfl rfl (by kernel_rfl) (by kernel_rfl) (by kernel_rfl) (fun _ _ _ h => h) (by rfl) ?hyt2x10 hHeld ?restt2x10
    case hyt2x10 =>
      intro w hSw
      (try dsimp only at hSw)
      go_simp
      try with_reducible rfl
    simp only [Act.put, List.setIfInBounds_toArray, List.set_cons_zero, List.set_cons_succ]
    refine wpAnyH_yield (i := 11) (v := ?vt2x11) rfl rfl (by kernel_rfl) (by kernel_rfl) (by kernel_rfl) (fun _ _ _ h => h) (by rfl) ?hyt2x11 hHeld ?restt2x11
    case hyt2x11 =>
      intro w hSw
      (try dsimp only at hSw)
      go_simp
      try with_reducible rfl
    simp only [Act.put, List.setIfInBounds_toArray, List.set_cons_zero, List.set_cons_succ]
    refine wpAnyH_done (by kernel_rfl) ?_ _
    have HF9 := Lib.hid (HFX.out.later HB9.out)
    have HG9 : Hid (W.grownBy m9 (some f)) := Lib.hid (grow_trans HGX.out (grownBy_of_below HB9.out _))
    have HA9 := Lib.hid (HXA'.out.later HB9.out)
    have HB9' := Lib.hid (HXB'.out.later HB9.out)
    clear cw hHeld
    cases wb
    · have HQ : Hid (storeP x d (k : Int) ob = (10, x)) := Lib.hid (by
        have := HWb.out
        simp only [storeP, HAB.out, Bool.true_and]
        rw [show decide ((k : Int) < 16) = decide ((k : Int) < ((16 : Nat) : Int)) from rfl, this]
        rfl)
      go_wp2_with fail
      go_ret
      rw [HQ.out]
      exact ⟨rfl, HG9.out, HF9.out⟩
    have hw2 := HWb.out
    simp only [Bool.and_eq_true, decide_eq_true_eq] at hw2
    have hk16 : k < 16 := by omega
    have HQ : Hid (storeP x d (k : Int) ob = (0, storeF x k av)) := Lib.hid (by simp [storeP, HAB.out, HAV.out, hw2.1]; omega)
    have p0 : m9.cell? ⟨PA, 0, none⟩ = some (.int .u32 av) := HA9.out.cell rfl
    have q0 : m9.cell? ⟨PB, 0, none⟩ = some (.int .u32 (k : Int)) := HB9'.out.cell rfl
    have s0 := HF9.out.stack hk16
    have sf := HF9.out.free (19 + k)
    have hkI : (k : Int) < 16 := by omega
    have HF8 := Lib.hid (HF9.out.store hk16 HRw.out)
    have HG8 : Hid (W.grownBy (m9.setCell ⟨f, 19 + k, none⟩ (.int .u32 av)) (some f)) := Lib.hid (grow_trans HG9.out (grownBy_setCell _ _ _))
    clear hw2 hk16
    go_wp2_with fail
    go_big_region
    go_wp2_with fail
    go_ret
    rw [HQ.out]
    exact ⟨rfl, grow_trans HG8.out (grownBy_of_below ((Below.refl _ _).drew) _), HF8.out.later ((Below.refl _ _).drew)⟩
  refine AllReadyH.cons rfl (fun K hK => ?_) ?_
  · have HBy8 : Hid (Below W1.heap.size W1 (W1.drew.alloc (.cells #[.int .u32 0, .bool false] 88))) := Lib.hid ((Below.refl W1.heap.size W1).drew.alloc ((Below.refl W1.heap.size W1).drew).size _)
    have HWAy8 : Hid (Box (W1.drew.alloc (.cells #[.int .u32 0, .bool false] 88)) (W1.heap.size) 88 #[.int .u32 0, .bool false]) := Lib.hid (by have := Box.new W1.drew 88 #[.int .u32 0, .bool false]; rwa [show (W1.drew).heap.size = W1.heap.size by simp] at this)
    have hgey8 : W1.heap.size ≤ W1.heap.size := by have := ((Below.refl W1.heap.size W1).drew).size; first | omega | (simp at this; omega)
    go_simp
    refine hK.out _ _ (HKp.out _ HBy8.out) (fun hHeld => ?_)
    clear hK K
    try simp only [Act.put, List.setIfInBounds_toArray, List.set_cons_zero, List.set_cons_succ]
    refine wpAnyH_ready (rs := [9, 11]) (by kernel_rfl) (by simp) ?_
    refine AllReadyH.cons rfl (fun K hK => ?_) ?_
    · go_simp
      refine (hcall (W1.drew.alloc (.cells #[.int .u32 0, .bool false] 88)) (HBy8.out)).mono ?_
      rintro e my9 ⟨rfl, hb⟩
      have HBy9 : Hid (Below W1.heap.size W1 my9) := Lib.hid ((HBy8.out).trans (hb.mono (HBy8.out).size))
      have HWAy9 := Lib.hid (HWAy8.out.later hb)
      clear hb
      go_wp2_with fail
      refine hK.out _ _ (HKp.out _ HBy9.out) (fun hHeld => ?_)
      clear hK K
      try simp only [Act.put, List.setIfInBounds_toArray, List.set_cons_zero, List.set_cons_succ]
      refine wpAnyH_ready (rs := [11]) (by kernel_rfl) (by simp) ?_
      refine AllReadyH.cons rfl (fun K hK => ?_) AllReadyH.nil
      have HBy10 : Hid (Below W1.heap.size W1 (my9.alloc (.cells #[.int .u32 0, .bool false] 88))) := Lib.hid (HBy9.out.alloc (HBy9.out).size _)
      have HWBy10 : Hid (Box (my9.alloc (.cells #[.int .u32 0, .bool false] 88)) (my9.heap.size) 88 #[.int .u32 0, .bool false]) := Lib.hid (by have := Box.new my9 88 #[.int .u32 0, .bool false]; rwa [show (my9).heap.size = my9.heap.size by simp] at this)
      have hney10 : W1.heap.size ≠ my9.heap.size := by have := HWAy9.out.lt; first | omega | (simp at this; omega)
      have HWAy10 := Lib.hid (HWAy9.out.alloc (.cells #[.int .u32 0, .bool false] 88))
      have hgey10 : W1.heap.size ≤ my9.heap.size := by have := (HBy9.out).size; first | omega | (simp at this; omega)
      go_simp
      refine hK.out _ _ (HKp.out _ HBy10.out) (fun hHeld => ?_)
      clear hK K
      try simp only [Act.put, List.setIfInBounds_toArray, List.set_cons_zero, List.set_cons_succ]
      have hx1z11 : Below W1.heap.size W1 ((my9.alloc (.cells #[.int .u32 0, .bool false] 88)).setRow (W1.heap.size) #[.int .u32 av, .bool ab]) := below_setRow (HBy10.out) hgey8 _
      have HBxz11 : Hid (Below W1.heap.size W1 (((my9.alloc (.cells #[.int .u32 0, .bool false] 88)).setRow (W1.heap.size) #[.int .u32 av, .bool ab]).setRow (my9.heap.size) #[.int .u32 ov, .bool ob])) := Lib.hid (below_setRow hx1z11 hgey10 _)
      have HB1z11 : Hid (Box ((my9.alloc (.cells #[.int .u32 0, .bool false] 88)).setRow (W1.heap.size) #[.int .u32 av, .bool ab]) (my9.heap.size) 88 #[.int .u32 0, .bool false]) := Lib.hid (HWBy10.out.grown (grownBy_setRow _ _ _) (fun e => by have := Option.some.inj e; omega))
      have HA1z11 : Hid (Box ((my9.alloc (.cells #[.int .u32 0, .bool false] 88)).setRow (W1.heap.size) #[.int .u32 av, .bool ab]) (W1.heap.size) 88 #[.int .u32 av, .bool ab]) := Lib.hid (setRow_heap _ _ _ _ _ _ HWAy10.out)
      have HXAz11 : Hid (Box (((my9.alloc (.cells #[.int .u32 0, .bool false] 88)).setRow (W1.heap.size) #[.int .u32 av, .bool ab]).setRow (my9.heap.size) #[.int .u32 ov, .bool ob]) (W1.heap.size) 88 #[.int .u32 av, .bool ab]) := Lib.hid (HA1z11.out.grown (grownBy_setRow _ _ _) (fun e => by have := Option.some.inj e; omega))
      have HXBz11 : Hid (Box (((my9.alloc (.cells #[.int .u32 0, .bool false] 88)).setRow (W1.heap.size) #[.int .u32 av, .bool ab]).setRow (my9.heap.size) #[.int .u32 ov, .bool ob]) (my9.heap.size) 88 #[.int .u32 ov, .bool ob]) := Lib.hid (setRow_heap _ _ _ _ _ _ HB1z11.out)
      refine wpAnyH_ready (rs := [12]) (by kernel_rfl) (by simp) ?_
      refine AllReadyH.cons rfl (fun K hK => ?_) AllReadyH.nil
      refine step_rowJ _ (by rfl) 88 _ _ (by rfl) (by rfl) (W1.heap.size) #[.int .u32 av, .bool ab] (by rfl) (by rfl) 88 _ HWAy10.out (by kernel_rfl) rfl (by simp [Value.oneCell']) ?_
      refine hK.out _ _ (HKp.out _ hx1z11) (fun hHeld => ?_)
      clear hK K
      try simp only [Act.put, List.setIfInBounds_toArray, List.set_cons_zero, List.set_cons_succ]
      refine wpAnyH_ready (rs := [13]) (by kernel_rfl) (by simp) ?_
      refine AllReadyH.cons rfl (fun K hK => ?_) AllReadyH.nil
      refine step_rowJ _ (by rfl) 88 _ _ (by rfl) (by rfl) (my9.heap.size) #[.int .u32 ov, .bool ob] (by rfl) (by rfl) 88 _ HB1z11.out (by kernel_rfl) rfl (by simp [Value.oneCell']) ?_
      refine hK.out _ _ (HKp.out _ HBxz11.out) (fun hHeld => ?_)
      clear hK K
      try simp only [Act.put, List.setIfInBounds_toArray, List.set_cons_zero, List.set_cons_succ]
      refine wpAnyH_done (by kernel_rfl) ?_ _
      have HXA := HXAz11
      have HXB := HXBz11
      have HXX := HBxz11
      generalize hX : (((my9.alloc (.cells #[.int .u32 0, .bool false] 88)).setRow (W1.heap.size) #[.int .u32 av, .bool ab]).setRow (my9.heap.size) #[.int .u32 ov, .bool ob]) = X at HXA HXB HXX ⊢
      generalize hPB : my9.heap.size = PB at HXB ⊢
      generalize hPA : W1.heap.size = PA at HXA ⊢
      clear hX hPA hPB HXAz11 HXBz11 HBxz11 HA1z11 HB1z11 hx1z11 hHeld
      have HFX := Lib.hid (HF.out.later HXX.out)
      have HIX := Lib.hid (HI.out.later HXX.out)
      have HGX : Hid (W.grownBy X (some f)) := Lib.hid (grownBy_of_below (HB.out.trans (HXX.out.mono HB.out.size)) _)
      have x1 : X.cell? ⟨W.heap.size, 1, none⟩ = some (.int .i64 fn) := HIX.out.cell rfl
      have x2 : X.cell? ⟨W.heap.size, 2, none⟩ = some (.int .i64 (d : Int)) := HIX.out.cell rfl
      have x5 : X.cell? ⟨W.heap.size, 5, none⟩ = some (.int .i64 o) := HIX.out.cell rfl
      have p0 : X.cell? ⟨PA, 0, none⟩ = some (.int .u32 av) := HXA.out.cell rfl
      have p1 : X.cell? ⟨PA, 1, none⟩ = some (.bool ab) := HXA.out.cell rfl
      have q0 : X.cell? ⟨PB, 0, none⟩ = some (.int .u32 ov) := HXB.out.cell rfl
      have q1 : X.cell? ⟨PB, 1, none⟩ = some (.bool ob) := HXB.out.cell rfl
      have HXA' := HXA
      have HXB' := HXB
      clear HKp hcall HXX HXA HXB HF HI HB
      obtain ⟨k, rfl⟩ : ∃ k : Nat, ov = k := ⟨ov.toNat, by have := HOw.out.1; omega⟩
      cases ab
      · have HK2 : Hid (∀ W', Below X.heap.size X W' → W'.cell? ⟨PA, 1, none⟩ = some (.bool false) ∧ W'.cell? ⟨PB, 0, none⟩ = some (.int .u32 (k : Int)) ∧ W'.cell? ⟨PB, 1, none⟩ = some (.bool ob)) := Lib.hid (fun W' hb => ⟨(hb.cell (lt_of_cell p1)).trans p1, (hb.cell (lt_of_cell q0)).trans q0, (hb.cell (lt_of_cell q1)).trans q1⟩)
        have HQ : Hid (storeP x d (k : Int) ob = (10, x)) := Lib.hid (by simp [storeP, HAB.out])
        clear p0 p1 q0 q1 x1 x2 x5
        go_wp2_with fail
        refine wp_region_held_drew (S := (fun W' => W'.cell? ⟨PA, 1, none⟩ = some (.bool false) ∧ W'.cell? ⟨PB, 0, none⟩ = some (.int .u32 (k : Int)) ∧ W'.cell? ⟨PB, 1, none⟩ = some (.bool ob))) (by kernel_rfl) (HK2.out _ (Below.refl _ _).drew) (fun hHeld => ?_)
        refine wpAnyH_yield (i := 0) (v := ?vf3x0) rfl rfl (by kernel_rfl) (by kernel_rfl) (by kernel_rfl) (fun _ _ _ h => h) (by rfl) ?hyf3x0 hHeld ?restf3x0
        case hyf3x0 =>
          intro w hSw
          (try dsimp only at hSw)
          go_simp
          try with_reducible rfl
        simp only [Act.put, List.setIfInBounds_toArray, List.set_cons_zero, List.set_cons_succ]
        refine wpAnyH_yield (i := 1) (v := ?vf3x1) rfl rfl (by kernel_rfl) (by kernel_rfl) (by kernel_rfl) (fun _ _ _ h => h) (by rfl) ?hyf3x1 hHeld ?restf3x1
        case hyf3x1 =>
          intro w hSw
          (try dsimp only at hSw)
          go_simp
          try with_reducible rfl
        simp only [Act.put, List.setIfInBounds_toArray, List.set_cons_zero, List.set_cons_succ]
        refine wpAnyH_yield (i := 2) (v := ?vf3x2) rfl rfl (by kernel_rfl) (by kernel_rfl) (by kernel_rfl) (fun _ _ _ h => h) (by rfl) ?hyf3x2 hHeld ?restf3x2
        case hyf3x2 =>
          intro w hSw
          (try dsimp only at hSw)
          go_simp
          try with_reducible rfl
        simp only [Act.put, List.setIfInBounds_toArray, List.set_cons_zero, List.set_cons_succ]
        refine wpAnyH_yield (i := 3) (v := ?vf3x3) rfl rfl (by kernel_rfl) (by kernel_rfl) (by kernel_rfl) (fun _ _ _ h => h) (by rfl) ?hyf3x3 hHeld ?restf3x3
        case hyf3x3 =>
          intro w hSw
          (try dsimp only at hSw)
          go_simp
          try with_reducible rfl
        simp only [Act.put, List.setIfInBounds_toArray, List.set_cons_zero, List.set_cons_succ]
        refine wpAnyH_skip (i := 4) rfl rfl (by kernel_rfl) (by kernel_rfl) (by kernel_rfl) (fun _ _ _ h => h) (by rfl) hHeld ?_
        simp only [Act.put, List.setIfInBounds_toArray, List.set_cons_zero, List.set_cons_succ]
        refine wpAnyH_skip (i := 5) rfl rfl (by kernel_rfl) (by kernel_rfl) (by kernel_rfl) (fun _ _ _ h => h) (by rfl) hHeld ?_
        simp only [Act.put, List.setIfInBounds_toArray, List.set_cons_zero, List.set_cons_succ]
        refine wpAnyH_skip (i := 6) rfl rfl (by kernel_rfl) (by kernel_rfl) (by kernel_rfl) (fun _ _ _ h => h) (by rfl) hHeld ?_
        simp only [Act.put, List.setIfInBounds_toArray, List.set_cons_zero, List.set_cons_succ]
        refine wpAnyH_skip (i := 7) rfl rfl (by kernel_rfl) (by kernel_rfl) (by kernel_rfl) (fun _ _ _ h => h) (by rfl) hHeld ?_
        simp only [Act.put, List.setIfInBounds_toArray, List.set_cons_zero, List.set_cons_succ]
        refine wpAnyH_skip (i := 8) rfl rfl (by kernel_rfl) (by kernel_rfl) (by kernel_rfl) (fun _ _ _ h => h) (by rfl) hHeld ?_
        simp only [Act.put, List.setIfInBounds_toArray, List.set_cons_zero, List.set_cons_succ]
        refine wpAnyH_skip (i := 9) rfl rfl (by kernel_rfl) (by kernel_rfl) (by kernel_rfl) (fun _ _ _ h => h) (by rfl) hHeld ?_
        simp only [Act.put, List.setIfInBounds_toArray, List.set_cons_zero, List.set_cons_succ]
        refine wpAnyH_skip (i := 10) rfl rfl (by kernel_rfl) (by kernel_rfl) (by kernel_rfl) (fun _ _ _ h => h) (by rfl) hHeld ?_
        simp only [Act.put, List.setIfInBounds_toArray, List.set_cons_zero, List.set_cons_succ]
        refine wpAnyH_yield (i := 11) (v := ?vf3x11) rfl rfl (by kernel_rfl) (by kernel_rfl) (by kernel_rfl) (fun _ _ _ h => h) (by rfl) ?hyf3x11 hHeld ?restf3x11
        case hyf3x11 =>
          intro w hSw
          (try dsimp only at hSw)
          go_simp
          try with_reducible rfl
        simp only [Act.put, List.setIfInBounds_toArray, List.set_cons_zero, List.set_cons_succ]
        refine wpAnyH_done (by kernel_rfl) ?_ _
        go_wp2_with fail
        go_ret
        rw [HQ.out]
        exact ⟨rfl, grow_trans HGX.out (grownBy_of_below ((Below.refl _ _).drew) _), HFX.out.later ((Below.refl _ _).drew)⟩
      have HK2 : Hid (∀ W', Below X.heap.size X W' → W'.cell? ⟨PA, 1, none⟩ = some (.bool true) ∧ W'.cell? ⟨PB, 0, none⟩ = some (.int .u32 (k : Int)) ∧ W'.cell? ⟨PB, 1, none⟩ = some (.bool ob)) := Lib.hid (fun W' hb => ⟨(hb.cell (lt_of_cell p1)).trans p1, (hb.cell (lt_of_cell q0)).trans q0, (hb.cell (lt_of_cell q1)).trans q1⟩)
      obtain ⟨wb, hwb⟩ : ∃ wb, (ob && decide ((k : Int) < ((16 : Nat) : Int))) = wb := ⟨_, rfl⟩
      have cw := fun W' => iwithin_any (some ⟨f, 19, none⟩) 16 16 (by omega) (k : Int) HOw.out ob W'
      rw [hwb] at cw
      have HWb := Lib.hid hwb
      clear hwb p0 p1 q0 q1 x1 x2 x5
      go_wp2_with fail
      refine wp_region_held_drew (S := (fun W' => W'.cell? ⟨PA, 1, none⟩ = some (.bool true) ∧ W'.cell? ⟨PB, 0, none⟩ = some (.int .u32 (k : Int)) ∧ W'.cell? ⟨PB, 1, none⟩ = some (.bool ob))) (by kernel_rfl) (HK2.out _ (Below.refl _ _).drew) (fun hHeld => ?_)
      refine wpAnyH_yield (i := 0) (v := ?vt3x0) rfl rfl (by kernel_rfl) (by kernel_rfl) (by kernel_rfl) (fun _ _ _ h => h) (by rfl) ?hyt3x0 hHeld ?restt3x0
      case hyt3x0 =>
        intro w hSw
        (try dsimp only at hSw)
        go_simp
        try with_reducible rfl
      simp only [Act.put, List.setIfInBounds_toArray, List.set_cons_zero, List.set_cons_succ]
      refine wpAnyH_yield (i := 1) (v := ?vt3x1) rfl rfl (by kernel_rfl) (by kernel_rfl) (by kernel_rfl) (fun _ _ _ h => h) (by rfl) ?hyt3x1 hHeld ?restt3x1
      case hyt3x1 =>
        intro w hSw
        (try dsimp only at hSw)
        go_simp
        try with_reducible rfl
      simp only [Act.put, List.setIfInBounds_toArray, List.set_cons_zero, List.set_cons_succ]
      refine wpAnyH_yield (i := 2) (v := ?vt3x2) rfl rfl (by kernel_rfl) (by kernel_rfl) (by kernel_rfl) (fun _ _ _ h => h) (by rfl) ?hyt3x2 hHeld ?restt3x2
      case hyt3x2 =>
        intro w hSw
        (try dsimp only at hSw)
        go_simp
        try with_reducible rfl
      simp only [Act.put, List.setIfInBounds_toArray, List.set_cons_zero, List.set_cons_succ]
      refine wpAnyH_yield (i := 3) (v := ?vt3x3) rfl rfl (by kernel_rfl) (by kernel_rfl) (by kernel_rfl) (fun _ _ _ h => h) (by rfl) ?hyt3x3 hHeld ?restt3x3
      case hyt3x3 =>
        intro w hSw
        (try dsimp only at hSw)
        go_simp
        try with_reducible rfl
      simp only [Act.put, List.setIfInBounds_toArray, List.set_cons_zero, List.set_cons_succ]
      refine wpAnyH_yield (i := 4) (v := ?vt3x4) rfl rfl (by kernel_rfl) (by kernel_rfl) (by kernel_rfl) (fun _ _ _ h => h) (by rfl) ?hyt3x4 hHeld ?restt3x4
      case hyt3x4 =>
        intro w hSw
        (try dsimp only at hSw)
        go_simp
        try with_reducible rfl
      simp only [Act.put, List.setIfInBounds_toArray, List.set_cons_zero, List.set_cons_succ]
      refine wpAnyH_yield (i := 5) (v := ?vt3x5) rfl rfl (by kernel_rfl) (by kernel_rfl) (by kernel_rfl) (fun _ _ _ h => h) (by rfl) ?hyt3x5 hHeld ?restt3x5
      case hyt3x5 =>
        intro w hSw
        (try dsimp only at hSw)
        go_simp
        try with_reducible rfl
      simp only [Act.put, List.setIfInBounds_toArray, List.set_cons_zero, List.set_cons_succ]
      refine wpAnyH_yield (i := 6) (v := ?vt3x6) rfl rfl (by kernel_rfl) (by kernel_rfl) (by kernel_rfl) (fun _ _ _ h => h) (by rfl) ?hyt3x6 hHeld ?restt3x6
      case hyt3x6 =>
        intro w hSw
        (try dsimp only at hSw)
        go_simp
        try with_reducible rfl
      simp only [Act.put, List.setIfInBounds_toArray, List.set_cons_zero, List.set_cons_succ]
      refine wpAnyH_yield (i := 7) (v := ?vt3x7) rfl rfl (by kernel_rfl) (by kernel_rfl) (by kernel_rfl) (fun _ _ _ h => h) (by rfl) ?hyt3x7 hHeld ?restt3x7
      case hyt3x7 =>
        intro w hSw
        (try dsimp only at hSw)
        go_simp
        try with_reducible rfl
      simp only [Act.put, List.setIfInBounds_toArray, List.set_cons_zero, List.set_cons_succ]
      refine wpAnyH_yield (i := 8) (v := ?vt3x8) rfl rfl (by kernel_rfl) (by kernel_rfl) (by kernel_rfl) (fun _ _ _ h => h) (by rfl) ?hyt3x8 hHeld ?restt3x8
      case hyt3x8 =>
        intro w hSw
        (try dsimp only at hSw)
        go_simp
        try with_reducible rfl
      simp only [Act.put, List.setIfInBounds_toArray, List.set_cons_zero, List.set_cons_succ]
      refine wpAnyH_ready (rs := [9]) (by kernel_rfl) (by simp) ?_
      refine AllReadyH.cons rfl (fun K hK => ?_) AllReadyH.nil
      go_simp
      refine (cw _).mono ?_
      rintro e m9 ⟨rfl, hb9⟩
      have HB9 : Hid (Below X.heap.size X m9) := Lib.hid ((Below.refl _ _).drew.trans hb9)
      clear hb9
      go_wp2_with fail
      refine hK.out _ _ (HK2.out _ HB9.out) (fun hHeld => ?_)
      clear hK K
      try simp only [Act.put, List.setIfInBounds_toArray, List.set_cons_zero, List.set_cons_succ]
      refine wpAnyH_yield (i := 10) (v := ?vt3x10) rfl rfl (by kernel_rfl) (by kernel_rfl) (by kernel_rfl) (fun _ _ _ h => h) (by rfl) ?hyt3x10 hHeld ?restt3x10
      case hyt3x10 =>
        intro w hSw
        (try dsimp only at hSw)
        go_simp
        try with_reducible rfl
      simp only [Act.put, List.setIfInBounds_toArray, List.set_cons_zero, List.set_cons_succ]
      refine wpAnyH_yield (i := 11) (v := ?vt3x11) rfl rfl (by kernel_rfl) (by kernel_rfl) (by kernel_rfl) (fun _ _ _ h => h) (by rfl) ?hyt3x11 hHeld ?restt3x11
      case hyt3x11 =>
        intro w hSw
        (try dsimp only at hSw)
        go_simp
        try with_reducible rfl
      simp only [Act.put, List.setIfInBounds_toArray, List.set_cons_zero, List.set_cons_succ]
      refine wpAnyH_done (by kernel_rfl) ?_ _
      have HF9 := Lib.hid (HFX.out.later HB9.out)
      have HG9 : Hid (W.grownBy m9 (some f)) := Lib.hid (grow_trans HGX.out (grownBy_of_below HB9.out _))
      have HA9 := Lib.hid (HXA'.out.later HB9.out)
      have HB9' := Lib.hid (HXB'.out.later HB9.out)
      clear cw hHeld
      cases wb
      · have HQ : Hid (storeP x d (k : Int) ob = (10, x)) := Lib.hid (by
          have := HWb.out
          simp only [storeP, HAB.out, Bool.true_and]
          rw [show decide ((k : Int) < 16) = decide ((k : Int) < ((16 : Nat) : Int)) from rfl, this]
          rfl)
        go_wp2_with fail
        go_ret
        rw [HQ.out]
        exact ⟨rfl, HG9.out, HF9.out⟩
      have hw2 := HWb.out
      simp only [Bool.and_eq_true, decide_eq_true_eq] at hw2
      have hk16 : k < 16 := by omega
      have HQ : Hid (storeP x d (k : Int) ob = (0, storeF x k av)) := Lib.hid (by simp [storeP, HAB.out, HAV.out, hw2.1]; omega)
      have p0 : m9.cell? ⟨PA, 0, none⟩ = some (.int .u32 av) := HA9.out.cell rfl
      have q0 : m9.cell? ⟨PB, 0, none⟩ = some (.int .u32 (k : Int)) := HB9'.out.cell rfl
      have s0 := HF9.out.stack hk16
      have sf := HF9.out.free (19 + k)
      have hkI : (k : Int) < 16 := by omega
      have HF8 := Lib.hid (HF9.out.store hk16 HRw.out)
      have HG8 : Hid (W.grownBy (m9.setCell ⟨f, 19 + k, none⟩ (.int .u32 av)) (some f)) := Lib.hid (grow_trans HG9.out (grownBy_setCell _ _ _))
      clear hw2 hk16
      go_wp2_with fail
      go_big_region
      go_wp2_with fail
      go_ret
      rw [HQ.out]
      exact ⟨rfl, grow_trans HG8.out (grownBy_of_below ((Below.refl _ _).drew) _), HF8.out.later ((Below.refl _ _).drew)⟩
    refine AllReadyH.cons rfl (fun K hK => ?_) AllReadyH.nil
    have HBy12 : Hid (Below W1.heap.size W1 ((W1.drew.alloc (.cells #[.int .u32 0, .bool false] 88)).alloc (.cells #[.int .u32 0, .bool false] 88))) := Lib.hid (HBy8.out.alloc (HBy8.out).size _)
    have HWBy12 : Hid (Box ((W1.drew.alloc (.cells #[.int .u32 0, .bool false] 88)).alloc (.cells #[.int .u32 0, .bool false] 88)) (W1.heap.size + 1) 88 #[.int .u32 0, .bool false]) := Lib.hid (by have := Box.new (W1.drew.alloc (.cells #[.int .u32 0, .bool false] 88)) 88 #[.int .u32 0, .bool false]; rwa [show ((W1.drew.alloc (.cells #[.int .u32 0, .bool false] 88))).heap.size = W1.heap.size + 1 by simp] at this)
    have hney12 : W1.heap.size ≠ W1.heap.size + 1 := by have := HWAy8.out.lt; first | omega | (simp at this; omega)
    have HWAy12 := Lib.hid (HWAy8.out.alloc (.cells #[.int .u32 0, .bool false] 88))
    have hgey12 : W1.heap.size ≤ W1.heap.size + 1 := by have := (HBy8.out).size; first | omega | (simp at this; omega)
    go_simp
    refine hK.out _ _ (HKp.out _ HBy12.out) (fun hHeld => ?_)
    clear hK K
    try simp only [Act.put, List.setIfInBounds_toArray, List.set_cons_zero, List.set_cons_succ]
    refine wpAnyH_ready (rs := [9]) (by kernel_rfl) (by simp) ?_
    refine AllReadyH.cons rfl (fun K hK => ?_) AllReadyH.nil
    go_simp
    refine (hcall ((W1.drew.alloc (.cells #[.int .u32 0, .bool false] 88)).alloc (.cells #[.int .u32 0, .bool false] 88)) (HBy12.out)).mono ?_
    rintro e my13 ⟨rfl, hb⟩
    have HBy13 : Hid (Below W1.heap.size W1 my13) := Lib.hid ((HBy12.out).trans (hb.mono (HBy12.out).size))
    have HWAy13 := Lib.hid (HWAy12.out.later hb)
    have HWBy13 := Lib.hid (HWBy12.out.later hb)
    clear hb
    go_wp2_with fail
    refine hK.out _ _ (HKp.out _ HBy13.out) (fun hHeld => ?_)
    clear hK K
    try simp only [Act.put, List.setIfInBounds_toArray, List.set_cons_zero, List.set_cons_succ]
    have hx1z14 : Below W1.heap.size W1 (my13.setRow (W1.heap.size) #[.int .u32 av, .bool ab]) := below_setRow (HBy13.out) hgey8 _
    have HBxz14 : Hid (Below W1.heap.size W1 ((my13.setRow (W1.heap.size) #[.int .u32 av, .bool ab]).setRow (W1.heap.size + 1) #[.int .u32 ov, .bool ob])) := Lib.hid (below_setRow hx1z14 hgey12 _)
    have HB1z14 : Hid (Box (my13.setRow (W1.heap.size) #[.int .u32 av, .bool ab]) (W1.heap.size + 1) 88 #[.int .u32 0, .bool false]) := Lib.hid (HWBy13.out.grown (grownBy_setRow _ _ _) (fun e => by have := Option.some.inj e; omega))
    have HA1z14 : Hid (Box (my13.setRow (W1.heap.size) #[.int .u32 av, .bool ab]) (W1.heap.size) 88 #[.int .u32 av, .bool ab]) := Lib.hid (setRow_heap _ _ _ _ _ _ HWAy13.out)
    have HXAz14 : Hid (Box ((my13.setRow (W1.heap.size) #[.int .u32 av, .bool ab]).setRow (W1.heap.size + 1) #[.int .u32 ov, .bool ob]) (W1.heap.size) 88 #[.int .u32 av, .bool ab]) := Lib.hid (HA1z14.out.grown (grownBy_setRow _ _ _) (fun e => by have := Option.some.inj e; omega))
    have HXBz14 : Hid (Box ((my13.setRow (W1.heap.size) #[.int .u32 av, .bool ab]).setRow (W1.heap.size + 1) #[.int .u32 ov, .bool ob]) (W1.heap.size + 1) 88 #[.int .u32 ov, .bool ob]) := Lib.hid (setRow_heap _ _ _ _ _ _ HB1z14.out)
    refine wpAnyH_ready (rs := [12]) (by kernel_rfl) (by simp) ?_
    refine AllReadyH.cons rfl (fun K hK => ?_) AllReadyH.nil
    refine step_rowJ _ (by rfl) 88 _ _ (by rfl) (by rfl) (W1.heap.size) #[.int .u32 av, .bool ab] (by rfl) (by rfl) 88 _ HWAy13.out (by kernel_rfl) rfl (by simp [Value.oneCell']) ?_
    refine hK.out _ _ (HKp.out _ hx1z14) (fun hHeld => ?_)
    clear hK K
    try simp only [Act.put, List.setIfInBounds_toArray, List.set_cons_zero, List.set_cons_succ]
    refine wpAnyH_ready (rs := [13]) (by kernel_rfl) (by simp) ?_
    refine AllReadyH.cons rfl (fun K hK => ?_) AllReadyH.nil
    refine step_rowJ _ (by rfl) 88 _ _ (by rfl) (by rfl) (W1.heap.size + 1) #[.int .u32 ov, .bool ob] (by rfl) (by rfl) 88 _ HB1z14.out (by kernel_rfl) rfl (by simp [Value.oneCell']) ?_
    refine hK.out _ _ (HKp.out _ HBxz14.out) (fun hHeld => ?_)
    clear hK K
    try simp only [Act.put, List.setIfInBounds_toArray, List.set_cons_zero, List.set_cons_succ]
    refine wpAnyH_done (by kernel_rfl) ?_ _
    have HXA := HXAz14
    have HXB := HXBz14
    have HXX := HBxz14
    generalize hX : ((my13.setRow (W1.heap.size) #[.int .u32 av, .bool ab]).setRow (W1.heap.size + 1) #[.int .u32 ov, .bool ob]) = X at HXA HXB HXX ⊢
    generalize hPB : W1.heap.size + 1 = PB at HXB ⊢
    generalize hPA : W1.heap.size = PA at HXA ⊢
    clear hX hPA hPB HXAz14 HXBz14 HBxz14 HA1z14 HB1z14 hx1z14 hHeld
    have HFX := Lib.hid (HF.out.later HXX.out)
    have HIX := Lib.hid (HI.out.later HXX.out)
    have HGX : Hid (W.grownBy X (some f)) := Lib.hid (grownBy_of_below (HB.out.trans (HXX.out.mono HB.out.size)) _)
    have x1 : X.cell? ⟨W.heap.size, 1, none⟩ = some (.int .i64 fn) := HIX.out.cell rfl
    have x2 : X.cell? ⟨W.heap.size, 2, none⟩ = some (.int .i64 (d : Int)) := HIX.out.cell rfl
    have x5 : X.cell? ⟨W.heap.size, 5, none⟩ = some (.int .i64 o) := HIX.out.cell rfl
    have p0 : X.cell? ⟨PA, 0, none⟩ = some (.int .u32 av) := HXA.out.cell rfl
    have p1 : X.cell? ⟨PA, 1, none⟩ = some (.bool ab) := HXA.out.cell rfl
    have q0 : X.cell? ⟨PB, 0, none⟩ = some (.int .u32 ov) := HXB.out.cell rfl
    have q1 : X.cell? ⟨PB, 1, none⟩ = some (.bool ob) := HXB.out.cell rfl
    have HXA' := HXA
    have HXB' := HXB
    clear HKp hcall HXX HXA HXB HF HI HB
    obtain ⟨k, rfl⟩ : ∃ k : Nat, ov = k := ⟨ov.toNat, by have := HOw.out.1; omega⟩
    cases ab
    · have HK2 : Hid (∀ W', Below X.heap.size X W' → W'.cell? ⟨PA, 1, none⟩ = some (.bool false) ∧ W'.cell? ⟨PB, 0, none⟩ = some (.int .u32 (k : Int)) ∧ W'.cell? ⟨PB, 1, none⟩ = some (.bool ob)) := Lib.hid (fun W' hb => ⟨(hb.cell (lt_of_cell p1)).trans p1, (hb.cell (lt_of_cell q0)).trans q0, (hb.cell (lt_of_cell q1)).trans q1⟩)
      have HQ : Hid (storeP x d (k : Int) ob = (10, x)) := Lib.hid (by simp [storeP, HAB.out])
      clear p0 p1 q0 q1 x1 x2 x5
      go_wp2_with fail
      refine wp_region_held_drew (S := (fun W' => W'.cell? ⟨PA, 1, none⟩ = some (.bool false) ∧ W'.cell? ⟨PB, 0, none⟩ = some (.int .u32 (k : Int)) ∧ W'.cell? ⟨PB, 1, none⟩ = some (.bool ob))) (by kernel_rfl) (HK2.out _ (Below.refl _ _).drew) (fun hHeld => ?_)
      refine wpAnyH_yield (i := 0) (v := ?vf4x0) rfl rfl (by kernel_rfl) (by kernel_rfl) (by kernel_rfl) (fun _ _ _ h => h) (by rfl) ?hyf4x0 hHeld ?restf4x0
      case hyf4x0 =>
        intro w hSw
        (try dsimp only at hSw)
        go_simp
        try with_reducible rfl
      simp only [Act.put, List.setIfInBounds_toArray, List.set_cons_zero, List.set_cons_succ]
      refine wpAnyH_yield (i := 1) (v := ?vf4x1) rfl rfl (by kernel_rfl) (by kernel_rfl) (by kernel_rfl) (fun _ _ _ h => h) (by rfl) ?hyf4x1 hHeld ?restf4x1
      case hyf4x1 =>
        intro w hSw
        (try dsimp only at hSw)
        go_simp
        try with_reducible rfl
      simp only [Act.put, List.setIfInBounds_toArray, List.set_cons_zero, List.set_cons_succ]
      refine wpAnyH_yield (i := 2) (v := ?vf4x2) rfl rfl (by kernel_rfl) (by kernel_rfl) (by kernel_rfl) (fun _ _ _ h => h) (by rfl) ?hyf4x2 hHeld ?restf4x2
      case hyf4x2 =>
        intro w hSw
        (try dsimp only at hSw)
        go_simp
        try with_reducible rfl
      simp only [Act.put, List.setIfInBounds_toArray, List.set_cons_zero, List.set_cons_succ]
      refine wpAnyH_yield (i := 3) (v := ?vf4x3) rfl rfl (by kernel_rfl) (by kernel_rfl) (by kernel_rfl) (fun _ _ _ h => h) (by rfl) ?hyf4x3 hHeld ?restf4x3
      case hyf4x3 =>
        intro w hSw
        (try dsimp only at hSw)
        go_simp
        try with_reducible rfl
      simp only [Act.put, List.setIfInBounds_toArray, List.set_cons_zero, List.set_cons_succ]
      refine wpAnyH_skip (i := 4) rfl rfl (by kernel_rfl) (by kernel_rfl) (by kernel_rfl) (fun _ _ _ h => h) (by rfl) hHeld ?_
      simp only [Act.put, List.setIfInBounds_toArray, List.set_cons_zero, List.set_cons_succ]
      refine wpAnyH_skip (i := 5) rfl rfl (by kernel_rfl) (by kernel_rfl) (by kernel_rfl) (fun _ _ _ h => h) (by rfl) hHeld ?_
      simp only [Act.put, List.setIfInBounds_toArray, List.set_cons_zero, List.set_cons_succ]
      refine wpAnyH_skip (i := 6) rfl rfl (by kernel_rfl) (by kernel_rfl) (by kernel_rfl) (fun _ _ _ h => h) (by rfl) hHeld ?_
      simp only [Act.put, List.setIfInBounds_toArray, List.set_cons_zero, List.set_cons_succ]
      refine wpAnyH_skip (i := 7) rfl rfl (by kernel_rfl) (by kernel_rfl) (by kernel_rfl) (fun _ _ _ h => h) (by rfl) hHeld ?_
      simp only [Act.put, List.setIfInBounds_toArray, List.set_cons_zero, List.set_cons_succ]
      refine wpAnyH_skip (i := 8) rfl rfl (by kernel_rfl) (by kernel_rfl) (by kernel_rfl) (fun _ _ _ h => h) (by rfl) hHeld ?_
      simp only [Act.put, List.setIfInBounds_toArray, List.set_cons_zero, List.set_cons_succ]
      refine wpAnyH_skip (i := 9) rfl rfl (by kernel_rfl) (by kernel_rfl) (by kernel_rfl) (fun _ _ _ h => h) (by rfl) hHeld ?_
      simp only [Act.put, List.setIfInBounds_toArray, List.set_cons_zero, List.set_cons_succ]
      refine wpAnyH_skip (i := 10) rfl rfl (by kernel_rfl) (by kernel_rfl) (by kernel_rfl) (fun _ _ _ h => h) (by rfl) hHeld ?_
      simp only [Act.put, List.setIfInBounds_toArray, List.set_cons_zero, List.set_cons_succ]
      refine wpAnyH_yield (i := 11) (v := ?vf4x11) rfl rfl (by kernel_rfl) (by kernel_rfl) (by kernel_rfl) (fun _ _ _ h => h) (by rfl) ?hyf4x11 hHeld ?restf4x11
      case hyf4x11 =>
        intro w hSw
        (try dsimp only at hSw)
        go_simp
        try with_reducible rfl
      simp only [Act.put, List.setIfInBounds_toArray, List.set_cons_zero, List.set_cons_succ]
      refine wpAnyH_done (by kernel_rfl) ?_ _
      go_wp2_with fail
      go_ret
      rw [HQ.out]
      exact ⟨rfl, grow_trans HGX.out (grownBy_of_below ((Below.refl _ _).drew) _), HFX.out.later ((Below.refl _ _).drew)⟩
    have HK2 : Hid (∀ W', Below X.heap.size X W' → W'.cell? ⟨PA, 1, none⟩ = some (.bool true) ∧ W'.cell? ⟨PB, 0, none⟩ = some (.int .u32 (k : Int)) ∧ W'.cell? ⟨PB, 1, none⟩ = some (.bool ob)) := Lib.hid (fun W' hb => ⟨(hb.cell (lt_of_cell p1)).trans p1, (hb.cell (lt_of_cell q0)).trans q0, (hb.cell (lt_of_cell q1)).trans q1⟩)
    obtain ⟨wb, hwb⟩ : ∃ wb, (ob && decide ((k : Int) < ((16 : Nat) : Int))) = wb := ⟨_, rfl⟩
    have cw := fun W' => iwithin_any (some ⟨f, 19, none⟩) 16 16 (by omega) (k : Int) HOw.out ob W'
    rw [hwb] at cw
    have HWb := Lib.hid hwb
    clear hwb p0 p1 q0 q1 x1 x2 x5
    go_wp2_with fail
    refine wp_region_held_drew (S := (fun W' => W'.cell? ⟨PA, 1, none⟩ = some (.bool true) ∧ W'.cell? ⟨PB, 0, none⟩ = some (.int .u32 (k : Int)) ∧ W'.cell? ⟨PB, 1, none⟩ = some (.bool ob))) (by kernel_rfl) (HK2.out _ (Below.refl _ _).drew) (fun hHeld => ?_)
    refine wpAnyH_yield (i := 0) (v := ?vt4x0) rfl rfl (by kernel_rfl) (by kernel_rfl) (by kernel_rfl) (fun _ _ _ h => h) (by rfl) ?hyt4x0 hHeld ?restt4x0
    case hyt4x0 =>
      intro w hSw
      (try dsimp only at hSw)
      go_simp
      try with_reducible rfl
    simp only [Act.put, List.setIfInBounds_toArray, List.set_cons_zero, List.set_cons_succ]
    refine wpAnyH_yield (i := 1) (v := ?vt4x1) rfl rfl (by kernel_rfl) (by kernel_rfl) (by kernel_rfl) (fun _ _ _ h => h) (by rfl) ?hyt4x1 hHeld ?restt4x1
    case hyt4x1 =>
      intro w hSw
      (try dsimp only at hSw)
      go_simp
      try with_reducible rfl
    simp only [Act.put, List.setIfInBounds_toArray, List.set_cons_zero, List.set_cons_succ]
    refine wpAnyH_yield (i := 2) (v := ?vt4x2) rfl rfl (by kernel_rfl) (by kernel_rfl) (by kernel_rfl) (fun _ _ _ h => h) (by rfl) ?hyt4x2 hHeld ?restt4x2
    case hyt4x2 =>
      intro w hSw
      (try dsimp only at hSw)
      go_simp
      try with_reducible rfl
    simp only [Act.put, List.setIfInBounds_toArray, List.set_cons_zero, List.set_cons_succ]
    refine wpAnyH_yield (i := 3) (v := ?vt4x3) rfl rfl (by kernel_rfl) (by kernel_rfl) (by kernel_rfl) (fun _ _ _ h => h) (by rfl) ?hyt4x3 hHeld ?restt4x3
    case hyt4x3 =>
      intro w hSw
      (try dsimp only at hSw)
      go_simp
      try with_reducible rfl
    simp only [Act.put, List.setIfInBounds_toArray, List.set_cons_zero, List.set_cons_succ]
    refine wpAnyH_yield (i := 4) (v := ?vt4x4) rfl rfl (by kernel_rfl) (by kernel_rfl) (by kernel_rfl) (fun _ _ _ h => h) (by rfl) ?hyt4x4 hHeld ?restt4x4
    case hyt4x4 =>
      intro w hSw
      (try dsimp only at hSw)
      go_simp
      try with_reducible rfl
    simp only [Act.put, List.setIfInBounds_toArray, List.set_cons_zero, List.set_cons_succ]
    refine wpAnyH_yield (i := 5) (v := ?vt4x5) rfl rfl (by kernel_rfl) (by kernel_rfl) (by kernel_rfl) (fun _ _ _ h => h) (by rfl) ?hyt4x5 hHeld ?restt4x5
    case hyt4x5 =>
      intro w hSw
      (try dsimp only at hSw)
      go_simp
      try with_reducible rfl
    simp only [Act.put, List.setIfInBounds_toArray, List.set_cons_zero, List.set_cons_succ]
    refine wpAnyH_yield (i := 6) (v := ?vt4x6) rfl rfl (by kernel_rfl) (by kernel_rfl) (by kernel_rfl) (fun _ _ _ h => h) (by rfl) ?hyt4x6 hHeld ?restt4x6
    case hyt4x6 =>
      intro w hSw
      (try dsimp only at hSw)
      go_simp
      try with_reducible rfl
    simp only [Act.put, List.setIfInBounds_toArray, List.set_cons_zero, List.set_cons_succ]
    refine wpAnyH_yield (i := 7) (v := ?vt4x7) rfl rfl (by kernel_rfl) (by kernel_rfl) (by kernel_rfl) (fun _ _ _ h => h) (by rfl) ?hyt4x7 hHeld ?restt4x7
    case hyt4x7 =>
      intro w hSw
      (try dsimp only at hSw)
      go_simp
      try with_reducible rfl
    simp only [Act.put, List.setIfInBounds_toArray, List.set_cons_zero, List.set_cons_succ]
    refine wpAnyH_yield (i := 8) (v := ?vt4x8) rfl rfl (by kernel_rfl) (by kernel_rfl) (by kernel_rfl) (fun _ _ _ h => h) (by rfl) ?hyt4x8 hHeld ?restt4x8
    case hyt4x8 =>
      intro w hSw
      (try dsimp only at hSw)
      go_simp
      try with_reducible rfl
    simp only [Act.put, List.setIfInBounds_toArray, List.set_cons_zero, List.set_cons_succ]
    refine wpAnyH_ready (rs := [9]) (by kernel_rfl) (by simp) ?_
    refine AllReadyH.cons rfl (fun K hK => ?_) AllReadyH.nil
    go_simp
    refine (cw _).mono ?_
    rintro e m9 ⟨rfl, hb9⟩
    have HB9 : Hid (Below X.heap.size X m9) := Lib.hid ((Below.refl _ _).drew.trans hb9)
    clear hb9
    go_wp2_with fail
    refine hK.out _ _ (HK2.out _ HB9.out) (fun hHeld => ?_)
    clear hK K
    try simp only [Act.put, List.setIfInBounds_toArray, List.set_cons_zero, List.set_cons_succ]
    refine wpAnyH_yield (i := 10) (v := ?vt4x10) rfl rfl (by kernel_rfl) (by kernel_rfl) (by kernel_rfl) (fun _ _ _ h => h) (by rfl) ?hyt4x10 hHeld ?restt4x10
    case hyt4x10 =>
      intro w hSw
      (try dsimp only at hSw)
      go_simp
      try with_reducible rfl
    simp only [Act.put, List.setIfInBounds_toArray, List.set_cons_zero, List.set_cons_succ]
    refine wpAnyH_yield (i := 11) (v := ?vt4x11) rfl rfl (by kernel_rfl) (by kernel_rfl) (by kernel_rfl) (fun _ _ _ h => h) (by rfl) ?hyt4x11 hHeld ?restt4x11
    case hyt4x11 =>
      intro w hSw
      (try dsimp only at hSw)
      go_simp
      try with_reducible rfl
    simp only [Act.put, List.setIfInBounds_toArray, List.set_cons_zero, List.set_cons_succ]
    refine wpAnyH_done (by kernel_rfl) ?_ _
    have HF9 := Lib.hid (HFX.out.later HB9.out)
    have HG9 : Hid (W.grownBy m9 (some f)) := Lib.hid (grow_trans HGX.out (grownBy_of_below HB9.out _))
    have HA9 := Lib.hid (HXA'.out.later HB9.out)
    have HB9' := Lib.hid (HXB'.out.later HB9.out)
    clear cw hHeld
    cases wb
    · have HQ : Hid (storeP x d (k : Int) ob = (10, x)) := Lib.hid (by
        have := HWb.out
        simp only [storeP, HAB.out, Bool.true_and]
        rw [show decide ((k : Int) < 16) = decide ((k : Int) < ((16 : Nat) : Int)) from rfl, this]
        rfl)
      go_wp2_with fail
      go_ret
      rw [HQ.out]
      exact ⟨rfl, HG9.out, HF9.out⟩
    have hw2 := HWb.out
    simp only [Bool.and_eq_true, decide_eq_true_eq] at hw2
    have hk16 : k < 16 := by omega
    have HQ : Hid (storeP x d (k : Int) ob = (0, storeF x k av)) := Lib.hid (by simp [storeP, HAB.out, HAV.out, hw2.1]; omega)
    have p0 : m9.cell? ⟨PA, 0, none⟩ = some (.int .u32 av) := HA9.out.cell rfl
    have q0 : m9.cell? ⟨PB, 0, none⟩ = some (.int .u32 (k : Int)) := HB9'.out.cell rfl
    have s0 := HF9.out.stack hk16
    have sf := HF9.out.free (19 + k)
    have hkI : (k : Int) < 16 := by omega
    have HF8 := Lib.hid (HF9.out.store hk16 HRw.out)
    have HG8 : Hid (W.grownBy (m9.setCell ⟨f, 19 + k, none⟩ (.int .u32 av)) (some f)) := Lib.hid (grow_trans HG9.out (grownBy_setCell _ _ _))
    clear hw2 hk16
    go_wp2_with fail
    go_big_region
    go_wp2_with fail
    go_ret
    rw [HQ.out]
    exact ⟨rfl, grow_trans HG8.out (grownBy_of_below ((Below.refl _ _).drew) _), HF8.out.later ((Below.refl _ _).drew)⟩
  refine AllReadyH.cons rfl (fun K hK => ?_) AllReadyH.nil
  have HBy15 : Hid (Below W1.heap.size W1 (W1.drew.alloc (.cells #[.int .u32 0, .bool false] 88))) := Lib.hid ((Below.refl W1.heap.size W1).drew.alloc ((Below.refl W1.heap.size W1).drew).size _)
  have HWBy15 : Hid (Box (W1.drew.alloc (.cells #[.int .u32 0, .bool false] 88)) (W1.heap.size) 88 #[.int .u32 0, .bool false]) := Lib.hid (by have := Box.new W1.drew 88 #[.int .u32 0, .bool false]; rwa [show (W1.drew).heap.size = W1.heap.size by simp] at this)
  have hgey15 : W1.heap.size ≤ W1.heap.size := by have := ((Below.refl W1.heap.size W1).drew).size; first | omega | (simp at this; omega)
  go_simp
  refine hK.out _ _ (HKp.out _ HBy15.out) (fun hHeld => ?_)
  clear hK K
  try simp only [Act.put, List.setIfInBounds_toArray, List.set_cons_zero, List.set_cons_succ]
  refine wpAnyH_ready (rs := [9, 10]) (by kernel_rfl) (by simp) ?_
  refine AllReadyH.cons rfl (fun K hK => ?_) ?_
  · go_simp
    refine (hcall (W1.drew.alloc (.cells #[.int .u32 0, .bool false] 88)) (HBy15.out)).mono ?_
    rintro e my16 ⟨rfl, hb⟩
    have HBy16 : Hid (Below W1.heap.size W1 my16) := Lib.hid ((HBy15.out).trans (hb.mono (HBy15.out).size))
    have HWBy16 := Lib.hid (HWBy15.out.later hb)
    clear hb
    go_wp2_with fail
    refine hK.out _ _ (HKp.out _ HBy16.out) (fun hHeld => ?_)
    clear hK K
    try simp only [Act.put, List.setIfInBounds_toArray, List.set_cons_zero, List.set_cons_succ]
    refine wpAnyH_ready (rs := [10]) (by kernel_rfl) (by simp) ?_
    refine AllReadyH.cons rfl (fun K hK => ?_) AllReadyH.nil
    have HBy17 : Hid (Below W1.heap.size W1 (my16.alloc (.cells #[.int .u32 0, .bool false] 88))) := Lib.hid (HBy16.out.alloc (HBy16.out).size _)
    have HWAy17 : Hid (Box (my16.alloc (.cells #[.int .u32 0, .bool false] 88)) (my16.heap.size) 88 #[.int .u32 0, .bool false]) := Lib.hid (by have := Box.new my16 88 #[.int .u32 0, .bool false]; rwa [show (my16).heap.size = my16.heap.size by simp] at this)
    have hney17 : W1.heap.size ≠ my16.heap.size := by have := HWBy16.out.lt; first | omega | (simp at this; omega)
    have HWBy17 := Lib.hid (HWBy16.out.alloc (.cells #[.int .u32 0, .bool false] 88))
    have hgey17 : W1.heap.size ≤ my16.heap.size := by have := (HBy16.out).size; first | omega | (simp at this; omega)
    go_simp
    refine hK.out _ _ (HKp.out _ HBy17.out) (fun hHeld => ?_)
    clear hK K
    try simp only [Act.put, List.setIfInBounds_toArray, List.set_cons_zero, List.set_cons_succ]
    have hx1z18 : Below W1.heap.size W1 ((my16.alloc (.cells #[.int .u32 0, .bool false] 88)).setRow (my16.heap.size) #[.int .u32 av, .bool ab]) := below_setRow (HBy17.out) hgey17 _
    have HBxz18 : Hid (Below W1.heap.size W1 (((my16.alloc (.cells #[.int .u32 0, .bool false] 88)).setRow (my16.heap.size) #[.int .u32 av, .bool ab]).setRow (W1.heap.size) #[.int .u32 ov, .bool ob])) := Lib.hid (below_setRow hx1z18 hgey15 _)
    have HB1z18 : Hid (Box ((my16.alloc (.cells #[.int .u32 0, .bool false] 88)).setRow (my16.heap.size) #[.int .u32 av, .bool ab]) (W1.heap.size) 88 #[.int .u32 0, .bool false]) := Lib.hid (HWBy17.out.grown (grownBy_setRow _ _ _) (fun e => by have := Option.some.inj e; omega))
    have HA1z18 : Hid (Box ((my16.alloc (.cells #[.int .u32 0, .bool false] 88)).setRow (my16.heap.size) #[.int .u32 av, .bool ab]) (my16.heap.size) 88 #[.int .u32 av, .bool ab]) := Lib.hid (setRow_heap _ _ _ _ _ _ HWAy17.out)
    have HXAz18 : Hid (Box (((my16.alloc (.cells #[.int .u32 0, .bool false] 88)).setRow (my16.heap.size) #[.int .u32 av, .bool ab]).setRow (W1.heap.size) #[.int .u32 ov, .bool ob]) (my16.heap.size) 88 #[.int .u32 av, .bool ab]) := Lib.hid (HA1z18.out.grown (grownBy_setRow _ _ _) (fun e => by have := Option.some.inj e; omega))
    have HXBz18 : Hid (Box (((my16.alloc (.cells #[.int .u32 0, .bool false] 88)).setRow (my16.heap.size) #[.int .u32 av, .bool ab]).setRow (W1.heap.size) #[.int .u32 ov, .bool ob]) (W1.heap.size) 88 #[.int .u32 ov, .bool ob]) := Lib.hid (setRow_heap _ _ _ _ _ _ HB1z18.out)
    refine wpAnyH_ready (rs := [12]) (by kernel_rfl) (by simp) ?_
    refine AllReadyH.cons rfl (fun K hK => ?_) AllReadyH.nil
    refine step_rowJ _ (by rfl) 88 _ _ (by rfl) (by rfl) (my16.heap.size) #[.int .u32 av, .bool ab] (by rfl) (by rfl) 88 _ HWAy17.out (by kernel_rfl) rfl (by simp [Value.oneCell']) ?_
    refine hK.out _ _ (HKp.out _ hx1z18) (fun hHeld => ?_)
    clear hK K
    try simp only [Act.put, List.setIfInBounds_toArray, List.set_cons_zero, List.set_cons_succ]
    refine wpAnyH_ready (rs := [13]) (by kernel_rfl) (by simp) ?_
    refine AllReadyH.cons rfl (fun K hK => ?_) AllReadyH.nil
    refine step_rowJ _ (by rfl) 88 _ _ (by rfl) (by rfl) (W1.heap.size) #[.int .u32 ov, .bool ob] (by rfl) (by rfl) 88 _ HB1z18.out (by kernel_rfl) rfl (by simp [Value.oneCell']) ?_
    refine hK.out _ _ (HKp.out _ HBxz18.out) (fun hHeld => ?_)
    clear hK K
    try simp only [Act.put, List.setIfInBounds_toArray, List.set_cons_zero, List.set_cons_succ]
    refine wpAnyH_done (by kernel_rfl) ?_ _
    have HXA := HXAz18
    have HXB := HXBz18
    have HXX := HBxz18
    generalize hX : (((my16.alloc (.cells #[.int .u32 0, .bool false] 88)).setRow (my16.heap.size) #[.int .u32 av, .bool ab]).setRow (W1.heap.size) #[.int .u32 ov, .bool ob]) = X at HXA HXB HXX ⊢
    generalize hPA : my16.heap.size = PA at HXA ⊢
    generalize hPB : W1.heap.size = PB at HXB ⊢
    clear hX hPA hPB HXAz18 HXBz18 HBxz18 HA1z18 HB1z18 hx1z18 hHeld
    have HFX := Lib.hid (HF.out.later HXX.out)
    have HIX := Lib.hid (HI.out.later HXX.out)
    have HGX : Hid (W.grownBy X (some f)) := Lib.hid (grownBy_of_below (HB.out.trans (HXX.out.mono HB.out.size)) _)
    have x1 : X.cell? ⟨W.heap.size, 1, none⟩ = some (.int .i64 fn) := HIX.out.cell rfl
    have x2 : X.cell? ⟨W.heap.size, 2, none⟩ = some (.int .i64 (d : Int)) := HIX.out.cell rfl
    have x5 : X.cell? ⟨W.heap.size, 5, none⟩ = some (.int .i64 o) := HIX.out.cell rfl
    have p0 : X.cell? ⟨PA, 0, none⟩ = some (.int .u32 av) := HXA.out.cell rfl
    have p1 : X.cell? ⟨PA, 1, none⟩ = some (.bool ab) := HXA.out.cell rfl
    have q0 : X.cell? ⟨PB, 0, none⟩ = some (.int .u32 ov) := HXB.out.cell rfl
    have q1 : X.cell? ⟨PB, 1, none⟩ = some (.bool ob) := HXB.out.cell rfl
    have HXA' := HXA
    have HXB' := HXB
    clear HKp hcall HXX HXA HXB HF HI HB
    obtain ⟨k, rfl⟩ : ∃ k : Nat, ov = k := ⟨ov.toNat, by have := HOw.out.1; omega⟩
    cases ab
    · have HK2 : Hid (∀ W', Below X.heap.size X W' → W'.cell? ⟨PA, 1, none⟩ = some (.bool false) ∧ W'.cell? ⟨PB, 0, none⟩ = some (.int .u32 (k : Int)) ∧ W'.cell? ⟨PB, 1, none⟩ = some (.bool ob)) := Lib.hid (fun W' hb => ⟨(hb.cell (lt_of_cell p1)).trans p1, (hb.cell (lt_of_cell q0)).trans q0, (hb.cell (lt_of_cell q1)).trans q1⟩)
      have HQ : Hid (storeP x d (k : Int) ob = (10, x)) := Lib.hid (by simp [storeP, HAB.out])
      clear p0 p1 q0 q1 x1 x2 x5
      go_wp2_with fail
      refine wp_region_held_drew (S := (fun W' => W'.cell? ⟨PA, 1, none⟩ = some (.bool false) ∧ W'.cell? ⟨PB, 0, none⟩ = some (.int .u32 (k : Int)) ∧ W'.cell? ⟨PB, 1, none⟩ = some (.bool ob))) (by kernel_rfl) (HK2.out _ (Below.refl _ _).drew) (fun hHeld => ?_)
      refine wpAnyH_yield (i := 0) (v := ?vf5x0) rfl rfl (by kernel_rfl) (by kernel_rfl) (by kernel_rfl) (fun _ _ _ h => h) (by rfl) ?hyf5x0 hHeld ?restf5x0
      case hyf5x0 =>
        intro w hSw
        (try dsimp only at hSw)
        go_simp
        try with_reducible rfl
      simp only [Act.put, List.setIfInBounds_toArray, List.set_cons_zero, List.set_cons_succ]
      refine wpAnyH_yield (i := 1) (v := ?vf5x1) rfl rfl (by kernel_rfl) (by kernel_rfl) (by kernel_rfl) (fun _ _ _ h => h) (by rfl) ?hyf5x1 hHeld ?restf5x1
      case hyf5x1 =>
        intro w hSw
        (try dsimp only at hSw)
        go_simp
        try with_reducible rfl
      simp only [Act.put, List.setIfInBounds_toArray, List.set_cons_zero, List.set_cons_succ]
      refine wpAnyH_yield (i := 2) (v := ?vf5x2) rfl rfl (by kernel_rfl) (by kernel_rfl) (by kernel_rfl) (fun _ _ _ h => h) (by rfl) ?hyf5x2 hHeld ?restf5x2
      case hyf5x2 =>
        intro w hSw
        (try dsimp only at hSw)
        go_simp
        try with_reducible rfl
      simp only [Act.put, List.setIfInBounds_toArray, List.set_cons_zero, List.set_cons_succ]
      refine wpAnyH_yield (i := 3) (v := ?vf5x3) rfl rfl (by kernel_rfl) (by kernel_rfl) (by kernel_rfl) (fun _ _ _ h => h) (by rfl) ?hyf5x3 hHeld ?restf5x3
      case hyf5x3 =>
        intro w hSw
        (try dsimp only at hSw)
        go_simp
        try with_reducible rfl
      simp only [Act.put, List.setIfInBounds_toArray, List.set_cons_zero, List.set_cons_succ]
      refine wpAnyH_skip (i := 4) rfl rfl (by kernel_rfl) (by kernel_rfl) (by kernel_rfl) (fun _ _ _ h => h) (by rfl) hHeld ?_
      simp only [Act.put, List.setIfInBounds_toArray, List.set_cons_zero, List.set_cons_succ]
      refine wpAnyH_skip (i := 5) rfl rfl (by kernel_rfl) (by kernel_rfl) (by kernel_rfl) (fun _ _ _ h => h) (by rfl) hHeld ?_
      simp only [Act.put, List.setIfInBounds_toArray, List.set_cons_zero, List.set_cons_succ]
      refine wpAnyH_skip (i := 6) rfl rfl (by kernel_rfl) (by kernel_rfl) (by kernel_rfl) (fun _ _ _ h => h) (by rfl) hHeld ?_
      simp only [Act.put, List.setIfInBounds_toArray, List.set_cons_zero, List.set_cons_succ]
      refine wpAnyH_skip (i := 7) rfl rfl (by kernel_rfl) (by kernel_rfl) (by kernel_rfl) (fun _ _ _ h => h) (by rfl) hHeld ?_
      simp only [Act.put, List.setIfInBounds_toArray, List.set_cons_zero, List.set_cons_succ]
      refine wpAnyH_skip (i := 8) rfl rfl (by kernel_rfl) (by kernel_rfl) (by kernel_rfl) (fun _ _ _ h => h) (by rfl) hHeld ?_
      simp only [Act.put, List.setIfInBounds_toArray, List.set_cons_zero, List.set_cons_succ]
      refine wpAnyH_skip (i := 9) rfl rfl (by kernel_rfl) (by kernel_rfl) (by kernel_rfl) (fun _ _ _ h => h) (by rfl) hHeld ?_
      simp only [Act.put, List.setIfInBounds_toArray, List.set_cons_zero, List.set_cons_succ]
      refine wpAnyH_skip (i := 10) rfl rfl (by kernel_rfl) (by kernel_rfl) (by kernel_rfl) (fun _ _ _ h => h) (by rfl) hHeld ?_
      simp only [Act.put, List.setIfInBounds_toArray, List.set_cons_zero, List.set_cons_succ]
      refine wpAnyH_yield (i := 11) (v := ?vf5x11) rfl rfl (by kernel_rfl) (by kernel_rfl) (by kernel_rfl) (fun _ _ _ h => h) (by rfl) ?hyf5x11 hHeld ?restf5x11
      case hyf5x11 =>
        intro w hSw
        (try dsimp only at hSw)
        go_simp
        try with_reducible rfl
      simp only [Act.put, List.setIfInBounds_toArray, List.set_cons_zero, List.set_cons_succ]
      refine wpAnyH_done (by kernel_rfl) ?_ _
      go_wp2_with fail
      go_ret
      rw [HQ.out]
      exact ⟨rfl, grow_trans HGX.out (grownBy_of_below ((Below.refl _ _).drew) _), HFX.out.later ((Below.refl _ _).drew)⟩
    have HK2 : Hid (∀ W', Below X.heap.size X W' → W'.cell? ⟨PA, 1, none⟩ = some (.bool true) ∧ W'.cell? ⟨PB, 0, none⟩ = some (.int .u32 (k : Int)) ∧ W'.cell? ⟨PB, 1, none⟩ = some (.bool ob)) := Lib.hid (fun W' hb => ⟨(hb.cell (lt_of_cell p1)).trans p1, (hb.cell (lt_of_cell q0)).trans q0, (hb.cell (lt_of_cell q1)).trans q1⟩)
    obtain ⟨wb, hwb⟩ : ∃ wb, (ob && decide ((k : Int) < ((16 : Nat) : Int))) = wb := ⟨_, rfl⟩
    have cw := fun W' => iwithin_any (some ⟨f, 19, none⟩) 16 16 (by omega) (k : Int) HOw.out ob W'
    rw [hwb] at cw
    have HWb := Lib.hid hwb
    clear hwb p0 p1 q0 q1 x1 x2 x5
    go_wp2_with fail
    refine wp_region_held_drew (S := (fun W' => W'.cell? ⟨PA, 1, none⟩ = some (.bool true) ∧ W'.cell? ⟨PB, 0, none⟩ = some (.int .u32 (k : Int)) ∧ W'.cell? ⟨PB, 1, none⟩ = some (.bool ob))) (by kernel_rfl) (HK2.out _ (Below.refl _ _).drew) (fun hHeld => ?_)
    refine wpAnyH_yield (i := 0) (v := ?vt5x0) rfl rfl (by kernel_rfl) (by kernel_rfl) (by kernel_rfl) (fun _ _ _ h => h) (by rfl) ?hyt5x0 hHeld ?restt5x0
    case hyt5x0 =>
      intro w hSw
      (try dsimp only at hSw)
      go_simp
      try with_reducible rfl
    simp only [Act.put, List.setIfInBounds_toArray, List.set_cons_zero, List.set_cons_succ]
    refine wpAnyH_yield (i := 1) (v := ?vt5x1) rfl rfl (by kernel_rfl) (by kernel_rfl) (by kernel_rfl) (fun _ _ _ h => h) (by rfl) ?hyt5x1 hHeld ?restt5x1
    case hyt5x1 =>
      intro w hSw
      (try dsimp only at hSw)
      go_simp
      try with_reducible rfl
    simp only [Act.put, List.setIfInBounds_toArray, List.set_cons_zero, List.set_cons_succ]
    refine wpAnyH_yield (i := 2) (v := ?vt5x2) rfl rfl (by kernel_rfl) (by kernel_rfl) (by kernel_rfl) (fun _ _ _ h => h) (by rfl) ?hyt5x2 hHeld ?restt5x2
    case hyt5x2 =>
      intro w hSw
      (try dsimp only at hSw)
      go_simp
      try with_reducible rfl
    simp only [Act.put, List.setIfInBounds_toArray, List.set_cons_zero, List.set_cons_succ]
    refine wpAnyH_yield (i := 3) (v := ?vt5x3) rfl rfl (by kernel_rfl) (by kernel_rfl) (by kernel_rfl) (fun _ _ _ h => h) (by rfl) ?hyt5x3 hHeld ?restt5x3
    case hyt5x3 =>
      intro w hSw
      (try dsimp only at hSw)
      go_simp
      try with_reducible rfl
    simp only [Act.put, List.setIfInBounds_toArray, List.set_cons_zero, List.set_cons_succ]
    refine wpAnyH_yield (i := 4) (v := ?vt5x4) rfl rfl (by kernel_rfl) (by kernel_rfl) (by kernel_rfl) (fun _ _ _ h => h) (by rfl) ?hyt5x4 hHeld ?restt5x4
    case hyt5x4 =>
      intro w hSw
      (try dsimp only at hSw)
      go_simp
      try with_reducible rfl
    simp only [Act.put, List.setIfInBounds_toArray, List.set_cons_zero, List.set_cons_succ]
    refine wpAnyH_yield (i := 5) (v := ?vt5x5) rfl rfl (by kernel_rfl) (by kernel_rfl) (by kernel_rfl) (fun _ _ _ h => h) (by rfl) ?hyt5x5 hHeld ?restt5x5
    case hyt5x5 =>
      intro w hSw
      (try dsimp only at hSw)
      go_simp
      try with_reducible rfl
    simp only [Act.put, List.setIfInBounds_toArray, List.set_cons_zero, List.set_cons_succ]
    refine wpAnyH_yield (i := 6) (v := ?vt5x6) rfl rfl (by kernel_rfl) (by kernel_rfl) (by kernel_rfl) (fun _ _ _ h => h) (by rfl) ?hyt5x6 hHeld ?restt5x6
    case hyt5x6 =>
      intro w hSw
      (try dsimp only at hSw)
      go_simp
      try with_reducible rfl
    simp only [Act.put, List.setIfInBounds_toArray, List.set_cons_zero, List.set_cons_succ]
    refine wpAnyH_yield (i := 7) (v := ?vt5x7) rfl rfl (by kernel_rfl) (by kernel_rfl) (by kernel_rfl) (fun _ _ _ h => h) (by rfl) ?hyt5x7 hHeld ?restt5x7
    case hyt5x7 =>
      intro w hSw
      (try dsimp only at hSw)
      go_simp
      try with_reducible rfl
    simp only [Act.put, List.setIfInBounds_toArray, List.set_cons_zero, List.set_cons_succ]
    refine wpAnyH_yield (i := 8) (v := ?vt5x8) rfl rfl (by kernel_rfl) (by kernel_rfl) (by kernel_rfl) (fun _ _ _ h => h) (by rfl) ?hyt5x8 hHeld ?restt5x8
    case hyt5x8 =>
      intro w hSw
      (try dsimp only at hSw)
      go_simp
      try with_reducible rfl
    simp only [Act.put, List.setIfInBounds_toArray, List.set_cons_zero, List.set_cons_succ]
    refine wpAnyH_ready (rs := [9]) (by kernel_rfl) (by simp) ?_
    refine AllReadyH.cons rfl (fun K hK => ?_) AllReadyH.nil
    go_simp
    refine (cw _).mono ?_
    rintro e m9 ⟨rfl, hb9⟩
    have HB9 : Hid (Below X.heap.size X m9) := Lib.hid ((Below.refl _ _).drew.trans hb9)
    clear hb9
    go_wp2_with fail
    refine hK.out _ _ (HK2.out _ HB9.out) (fun hHeld => ?_)
    clear hK K
    try simp only [Act.put, List.setIfInBounds_toArray, List.set_cons_zero, List.set_cons_succ]
    refine wpAnyH_yield (i := 10) (v := ?vt5x10) rfl rfl (by kernel_rfl) (by kernel_rfl) (by kernel_rfl) (fun _ _ _ h => h) (by rfl) ?hyt5x10 hHeld ?restt5x10
    case hyt5x10 =>
      intro w hSw
      (try dsimp only at hSw)
      go_simp
      try with_reducible rfl
    simp only [Act.put, List.setIfInBounds_toArray, List.set_cons_zero, List.set_cons_succ]
    refine wpAnyH_yield (i := 11) (v := ?vt5x11) rfl rfl (by kernel_rfl) (by kernel_rfl) (by kernel_rfl) (fun _ _ _ h => h) (by rfl) ?hyt5x11 hHeld ?restt5x11
    case hyt5x11 =>
      intro w hSw
      (try dsimp only at hSw)
      go_simp
      try with_reducible rfl
    simp only [Act.put, List.setIfInBounds_toArray, List.set_cons_zero, List.set_cons_succ]
    refine wpAnyH_done (by kernel_rfl) ?_ _
    have HF9 := Lib.hid (HFX.out.later HB9.out)
    have HG9 : Hid (W.grownBy m9 (some f)) := Lib.hid (grow_trans HGX.out (grownBy_of_below HB9.out _))
    have HA9 := Lib.hid (HXA'.out.later HB9.out)
    have HB9' := Lib.hid (HXB'.out.later HB9.out)
    clear cw hHeld
    cases wb
    · have HQ : Hid (storeP x d (k : Int) ob = (10, x)) := Lib.hid (by
        have := HWb.out
        simp only [storeP, HAB.out, Bool.true_and]
        rw [show decide ((k : Int) < 16) = decide ((k : Int) < ((16 : Nat) : Int)) from rfl, this]
        rfl)
      go_wp2_with fail
      go_ret
      rw [HQ.out]
      exact ⟨rfl, HG9.out, HF9.out⟩
    have hw2 := HWb.out
    simp only [Bool.and_eq_true, decide_eq_true_eq] at hw2
    have hk16 : k < 16 := by omega
    have HQ : Hid (storeP x d (k : Int) ob = (0, storeF x k av)) := Lib.hid (by simp [storeP, HAB.out, HAV.out, hw2.1]; omega)
    have p0 : m9.cell? ⟨PA, 0, none⟩ = some (.int .u32 av) := HA9.out.cell rfl
    have q0 : m9.cell? ⟨PB, 0, none⟩ = some (.int .u32 (k : Int)) := HB9'.out.cell rfl
    have s0 := HF9.out.stack hk16
    have sf := HF9.out.free (19 + k)
    have hkI : (k : Int) < 16 := by omega
    have HF8 := Lib.hid (HF9.out.store hk16 HRw.out)
    have HG8 : Hid (W.grownBy (m9.setCell ⟨f, 19 + k, none⟩ (.int .u32 av)) (some f)) := Lib.hid (grow_trans HG9.out (grownBy_setCell _ _ _))
    clear hw2 hk16
    go_wp2_with fail
    go_big_region
    go_wp2_with fail
    go_ret
    rw [HQ.out]
    exact ⟨rfl, grow_trans HG8.out (grownBy_of_below ((Below.refl _ _).drew) _), HF8.out.later ((Below.refl _ _).drew)⟩
  refine AllReadyH.cons rfl (fun K hK => ?_) AllReadyH.nil
  have HBy19 : Hid (Below W1.heap.size W1 ((W1.drew.alloc (.cells #[.int .u32 0, .bool false] 88)).alloc (.cells #[.int .u32 0, .bool false] 88))) := Lib.hid (HBy15.out.alloc (HBy15.out).size _)
  have HWAy19 : Hid (Box ((W1.drew.alloc (.cells #[.int .u32 0, .bool false] 88)).alloc (.cells #[.int .u32 0, .bool false] 88)) (W1.heap.size + 1) 88 #[.int .u32 0, .bool false]) := Lib.hid (by have := Box.new (W1.drew.alloc (.cells #[.int .u32 0, .bool false] 88)) 88 #[.int .u32 0, .bool false]; rwa [show ((W1.drew.alloc (.cells #[.int .u32 0, .bool false] 88))).heap.size = W1.heap.size + 1 by simp] at this)
  have hney19 : W1.heap.size ≠ W1.heap.size + 1 := by have := HWBy15.out.lt; first | omega | (simp at this; omega)
  have HWBy19 := Lib.hid (HWBy15.out.alloc (.cells #[.int .u32 0, .bool false] 88))
  have hgey19 : W1.heap.size ≤ W1.heap.size + 1 := by have := (HBy15.out).size; first | omega | (simp at this; omega)
  go_simp
  refine hK.out _ _ (HKp.out _ HBy19.out) (fun hHeld => ?_)
  clear hK K
  try simp only [Act.put, List.setIfInBounds_toArray, List.set_cons_zero, List.set_cons_succ]
  refine wpAnyH_ready (rs := [9]) (by kernel_rfl) (by simp) ?_
  refine AllReadyH.cons rfl (fun K hK => ?_) AllReadyH.nil
  go_simp
  refine (hcall ((W1.drew.alloc (.cells #[.int .u32 0, .bool false] 88)).alloc (.cells #[.int .u32 0, .bool false] 88)) (HBy19.out)).mono ?_
  rintro e my20 ⟨rfl, hb⟩
  have HBy20 : Hid (Below W1.heap.size W1 my20) := Lib.hid ((HBy19.out).trans (hb.mono (HBy19.out).size))
  have HWAy20 := Lib.hid (HWAy19.out.later hb)
  have HWBy20 := Lib.hid (HWBy19.out.later hb)
  clear hb
  go_wp2_with fail
  refine hK.out _ _ (HKp.out _ HBy20.out) (fun hHeld => ?_)
  clear hK K
  try simp only [Act.put, List.setIfInBounds_toArray, List.set_cons_zero, List.set_cons_succ]
  have hx1z21 : Below W1.heap.size W1 (my20.setRow (W1.heap.size + 1) #[.int .u32 av, .bool ab]) := below_setRow (HBy20.out) hgey19 _
  have HBxz21 : Hid (Below W1.heap.size W1 ((my20.setRow (W1.heap.size + 1) #[.int .u32 av, .bool ab]).setRow (W1.heap.size) #[.int .u32 ov, .bool ob])) := Lib.hid (below_setRow hx1z21 hgey15 _)
  have HB1z21 : Hid (Box (my20.setRow (W1.heap.size + 1) #[.int .u32 av, .bool ab]) (W1.heap.size) 88 #[.int .u32 0, .bool false]) := Lib.hid (HWBy20.out.grown (grownBy_setRow _ _ _) (fun e => by have := Option.some.inj e; omega))
  have HA1z21 : Hid (Box (my20.setRow (W1.heap.size + 1) #[.int .u32 av, .bool ab]) (W1.heap.size + 1) 88 #[.int .u32 av, .bool ab]) := Lib.hid (setRow_heap _ _ _ _ _ _ HWAy20.out)
  have HXAz21 : Hid (Box ((my20.setRow (W1.heap.size + 1) #[.int .u32 av, .bool ab]).setRow (W1.heap.size) #[.int .u32 ov, .bool ob]) (W1.heap.size + 1) 88 #[.int .u32 av, .bool ab]) := Lib.hid (HA1z21.out.grown (grownBy_setRow _ _ _) (fun e => by have := Option.some.inj e; omega))
  have HXBz21 : Hid (Box ((my20.setRow (W1.heap.size + 1) #[.int .u32 av, .bool ab]).setRow (W1.heap.size) #[.int .u32 ov, .bool ob]) (W1.heap.size) 88 #[.int .u32 ov, .bool ob]) := Lib.hid (setRow_heap _ _ _ _ _ _ HB1z21.out)
  refine wpAnyH_ready (rs := [12]) (by kernel_rfl) (by simp) ?_
  refine AllReadyH.cons rfl (fun K hK => ?_) AllReadyH.nil
  refine step_rowJ _ (by rfl) 88 _ _ (by rfl) (by rfl) (W1.heap.size + 1) #[.int .u32 av, .bool ab] (by rfl) (by rfl) 88 _ HWAy20.out (by kernel_rfl) rfl (by simp [Value.oneCell']) ?_
  refine hK.out _ _ (HKp.out _ hx1z21) (fun hHeld => ?_)
  clear hK K
  try simp only [Act.put, List.setIfInBounds_toArray, List.set_cons_zero, List.set_cons_succ]
  refine wpAnyH_ready (rs := [13]) (by kernel_rfl) (by simp) ?_
  refine AllReadyH.cons rfl (fun K hK => ?_) AllReadyH.nil
  refine step_rowJ _ (by rfl) 88 _ _ (by rfl) (by rfl) (W1.heap.size) #[.int .u32 ov, .bool ob] (by rfl) (by rfl) 88 _ HB1z21.out (by kernel_rfl) rfl (by simp [Value.oneCell']) ?_
  refine hK.out _ _ (HKp.out _ HBxz21.out) (fun hHeld => ?_)
  clear hK K
  try simp only [Act.put, List.setIfInBounds_toArray, List.set_cons_zero, List.set_cons_succ]
  refine wpAnyH_done (by kernel_rfl) ?_ _
  have HXA := HXAz21
  have HXB := HXBz21
  have HXX := HBxz21
  generalize hX : ((my20.setRow (W1.heap.size + 1) #[.int .u32 av, .bool ab]).setRow (W1.heap.size) #[.int .u32 ov, .bool ob]) = X at HXA HXB HXX ⊢
  generalize hPA : W1.heap.size + 1 = PA at HXA ⊢
  generalize hPB : W1.heap.size = PB at HXB ⊢
  clear hX hPA hPB HXAz21 HXBz21 HBxz21 HA1z21 HB1z21 hx1z21 hHeld
  have HFX := Lib.hid (HF.out.later HXX.out)
  have HIX := Lib.hid (HI.out.later HXX.out)
  have HGX : Hid (W.grownBy X (some f)) := Lib.hid (grownBy_of_below (HB.out.trans (HXX.out.mono HB.out.size)) _)
  have x1 : X.cell? ⟨W.heap.size, 1, none⟩ = some (.int .i64 fn) := HIX.out.cell rfl
  have x2 : X.cell? ⟨W.heap.size, 2, none⟩ = some (.int .i64 (d : Int)) := HIX.out.cell rfl
  have x5 : X.cell? ⟨W.heap.size, 5, none⟩ = some (.int .i64 o) := HIX.out.cell rfl
  have p0 : X.cell? ⟨PA, 0, none⟩ = some (.int .u32 av) := HXA.out.cell rfl
  have p1 : X.cell? ⟨PA, 1, none⟩ = some (.bool ab) := HXA.out.cell rfl
  have q0 : X.cell? ⟨PB, 0, none⟩ = some (.int .u32 ov) := HXB.out.cell rfl
  have q1 : X.cell? ⟨PB, 1, none⟩ = some (.bool ob) := HXB.out.cell rfl
  have HXA' := HXA
  have HXB' := HXB
  clear HKp hcall HXX HXA HXB HF HI HB
  obtain ⟨k, rfl⟩ : ∃ k : Nat, ov = k := ⟨ov.toNat, by have := HOw.out.1; omega⟩
  cases ab
  · have HK2 : Hid (∀ W', Below X.heap.size X W' → W'.cell? ⟨PA, 1, none⟩ = some (.bool false) ∧ W'.cell? ⟨PB, 0, none⟩ = some (.int .u32 (k : Int)) ∧ W'.cell? ⟨PB, 1, none⟩ = some (.bool ob)) := Lib.hid (fun W' hb => ⟨(hb.cell (lt_of_cell p1)).trans p1, (hb.cell (lt_of_cell q0)).trans q0, (hb.cell (lt_of_cell q1)).trans q1⟩)
    have HQ : Hid (storeP x d (k : Int) ob = (10, x)) := Lib.hid (by simp [storeP, HAB.out])
    clear p0 p1 q0 q1 x1 x2 x5
    go_wp2_with fail
    refine wp_region_held_drew (S := (fun W' => W'.cell? ⟨PA, 1, none⟩ = some (.bool false) ∧ W'.cell? ⟨PB, 0, none⟩ = some (.int .u32 (k : Int)) ∧ W'.cell? ⟨PB, 1, none⟩ = some (.bool ob))) (by kernel_rfl) (HK2.out _ (Below.refl _ _).drew) (fun hHeld => ?_)
    refine wpAnyH_yield (i := 0) (v := ?vf6x0) rfl rfl (by kernel_rfl) (by kernel_rfl) (by kernel_rfl) (fun _ _ _ h => h) (by rfl) ?hyf6x0 hHeld ?restf6x0
    case hyf6x0 =>
      intro w hSw
      (try dsimp only at hSw)
      go_simp
      try with_reducible rfl
    simp only [Act.put, List.setIfInBounds_toArray, List.set_cons_zero, List.set_cons_succ]
    refine wpAnyH_yield (i := 1) (v := ?vf6x1) rfl rfl (by kernel_rfl) (by kernel_rfl) (by kernel_rfl) (fun _ _ _ h => h) (by rfl) ?hyf6x1 hHeld ?restf6x1
    case hyf6x1 =>
      intro w hSw
      (try dsimp only at hSw)
      go_simp
      try with_reducible rfl
    simp only [Act.put, List.setIfInBounds_toArray, List.set_cons_zero, List.set_cons_succ]
    refine wpAnyH_yield (i := 2) (v := ?vf6x2) rfl rfl (by kernel_rfl) (by kernel_rfl) (by kernel_rfl) (fun _ _ _ h => h) (by rfl) ?hyf6x2 hHeld ?restf6x2
    case hyf6x2 =>
      intro w hSw
      (try dsimp only at hSw)
      go_simp
      try with_reducible rfl
    simp only [Act.put, List.setIfInBounds_toArray, List.set_cons_zero, List.set_cons_succ]
    refine wpAnyH_yield (i := 3) (v := ?vf6x3) rfl rfl (by kernel_rfl) (by kernel_rfl) (by kernel_rfl) (fun _ _ _ h => h) (by rfl) ?hyf6x3 hHeld ?restf6x3
    case hyf6x3 =>
      intro w hSw
      (try dsimp only at hSw)
      go_simp
      try with_reducible rfl
    simp only [Act.put, List.setIfInBounds_toArray, List.set_cons_zero, List.set_cons_succ]
    refine wpAnyH_skip (i := 4) rfl rfl (by kernel_rfl) (by kernel_rfl) (by kernel_rfl) (fun _ _ _ h => h) (by rfl) hHeld ?_
    simp only [Act.put, List.setIfInBounds_toArray, List.set_cons_zero, List.set_cons_succ]
    refine wpAnyH_skip (i := 5) rfl rfl (by kernel_rfl) (by kernel_rfl) (by kernel_rfl) (fun _ _ _ h => h) (by rfl) hHeld ?_
    simp only [Act.put, List.setIfInBounds_toArray, List.set_cons_zero, List.set_cons_succ]
    refine wpAnyH_skip (i := 6) rfl rfl (by kernel_rfl) (by kernel_rfl) (by kernel_rfl) (fun _ _ _ h => h) (by rfl) hHeld ?_
    simp only [Act.put, List.setIfInBounds_toArray, List.set_cons_zero, List.set_cons_succ]
    refine wpAnyH_skip (i := 7) rfl rfl (by kernel_rfl) (by kernel_rfl) (by kernel_rfl) (fun _ _ _ h => h) (by rfl) hHeld ?_
    simp only [Act.put, List.setIfInBounds_toArray, List.set_cons_zero, List.set_cons_succ]
    refine wpAnyH_skip (i := 8) rfl rfl (by kernel_rfl) (by kernel_rfl) (by kernel_rfl) (fun _ _ _ h => h) (by rfl) hHeld ?_
    simp only [Act.put, List.setIfInBounds_toArray, List.set_cons_zero, List.set_cons_succ]
    refine wpAnyH_skip (i := 9) rfl rfl (by kernel_rfl) (by kernel_rfl) (by kernel_rfl) (fun _ _ _ h => h) (by rfl) hHeld ?_
    simp only [Act.put, List.setIfInBounds_toArray, List.set_cons_zero, List.set_cons_succ]
    refine wpAnyH_skip (i := 10) rfl rfl (by kernel_rfl) (by kernel_rfl) (by kernel_rfl) (fun _ _ _ h => h) (by rfl) hHeld ?_
    simp only [Act.put, List.setIfInBounds_toArray, List.set_cons_zero, List.set_cons_succ]
    refine wpAnyH_yield (i := 11) (v := ?vf6x11) rfl rfl (by kernel_rfl) (by kernel_rfl) (by kernel_rfl) (fun _ _ _ h => h) (by rfl) ?hyf6x11 hHeld ?restf6x11
    case hyf6x11 =>
      intro w hSw
      (try dsimp only at hSw)
      go_simp
      try with_reducible rfl
    simp only [Act.put, List.setIfInBounds_toArray, List.set_cons_zero, List.set_cons_succ]
    refine wpAnyH_done (by kernel_rfl) ?_ _
    go_wp2_with fail
    go_ret
    rw [HQ.out]
    exact ⟨rfl, grow_trans HGX.out (grownBy_of_below ((Below.refl _ _).drew) _), HFX.out.later ((Below.refl _ _).drew)⟩
  have HK2 : Hid (∀ W', Below X.heap.size X W' → W'.cell? ⟨PA, 1, none⟩ = some (.bool true) ∧ W'.cell? ⟨PB, 0, none⟩ = some (.int .u32 (k : Int)) ∧ W'.cell? ⟨PB, 1, none⟩ = some (.bool ob)) := Lib.hid (fun W' hb => ⟨(hb.cell (lt_of_cell p1)).trans p1, (hb.cell (lt_of_cell q0)).trans q0, (hb.cell (lt_of_cell q1)).trans q1⟩)
  obtain ⟨wb, hwb⟩ : ∃ wb, (ob && decide ((k : Int) < ((16 : Nat) : Int))) = wb := ⟨_, rfl⟩
  have cw := fun W' => iwithin_any (some ⟨f, 19, none⟩) 16 16 (by omega) (k : Int) HOw.out ob W'
  rw [hwb] at cw
  have HWb := Lib.hid hwb
  clear hwb p0 p1 q0 q1 x1 x2 x5
  go_wp2_with fail
  refine wp_region_held_drew (S := (fun W' => W'.cell? ⟨PA, 1, none⟩ = some (.bool true) ∧ W'.cell? ⟨PB, 0, none⟩ = some (.int .u32 (k : Int)) ∧ W'.cell? ⟨PB, 1, none⟩ = some (.bool ob))) (by kernel_rfl) (HK2.out _ (Below.refl _ _).drew) (fun hHeld => ?_)
  refine wpAnyH_yield (i := 0) (v := ?vt6x0) rfl rfl (by kernel_rfl) (by kernel_rfl) (by kernel_rfl) (fun _ _ _ h => h) (by rfl) ?hyt6x0 hHeld ?restt6x0
  case hyt6x0 =>
    intro w hSw
    (try dsimp only at hSw)
    go_simp
    try with_reducible rfl
  simp only [Act.put, List.setIfInBounds_toArray, List.set_cons_zero, List.set_cons_succ]
  refine wpAnyH_yield (i := 1) (v := ?vt6x1) rfl rfl (by kernel_rfl) (by kernel_rfl) (by kernel_rfl) (fun _ _ _ h => h) (by rfl) ?hyt6x1 hHeld ?restt6x1
  case hyt6x1 =>
    intro w hSw
    (try dsimp only at hSw)
    go_simp
    try with_reducible rfl
  simp only [Act.put, List.setIfInBounds_toArray, List.set_cons_zero, List.set_cons_succ]
  refine wpAnyH_yield (i := 2) (v := ?vt6x2) rfl rfl (by kernel_rfl) (by kernel_rfl) (by kernel_rfl) (fun _ _ _ h => h) (by rfl) ?hyt6x2 hHeld ?restt6x2
  case hyt6x2 =>
    intro w hSw
    (try dsimp only at hSw)
    go_simp
    try with_reducible rfl
  simp only [Act.put, List.setIfInBounds_toArray, List.set_cons_zero, List.set_cons_succ]
  refine wpAnyH_yield (i := 3) (v := ?vt6x3) rfl rfl (by kernel_rfl) (by kernel_rfl) (by kernel_rfl) (fun _ _ _ h => h) (by rfl) ?hyt6x3 hHeld ?restt6x3
  case hyt6x3 =>
    intro w hSw
    (try dsimp only at hSw)
    go_simp
    try with_reducible rfl
  simp only [Act.put, List.setIfInBounds_toArray, List.set_cons_zero, List.set_cons_succ]
  refine wpAnyH_yield (i := 4) (v := ?vt6x4) rfl rfl (by kernel_rfl) (by kernel_rfl) (by kernel_rfl) (fun _ _ _ h => h) (by rfl) ?hyt6x4 hHeld ?restt6x4
  case hyt6x4 =>
    intro w hSw
    (try dsimp only at hSw)
    go_simp
    try with_reducible rfl
  simp only [Act.put, List.setIfInBounds_toArray, List.set_cons_zero, List.set_cons_succ]
  refine wpAnyH_yield (i := 5) (v := ?vt6x5) rfl rfl (by kernel_rfl) (by kernel_rfl) (by kernel_rfl) (fun _ _ _ h => h) (by rfl) ?hyt6x5 hHeld ?restt6x5
  case hyt6x5 =>
    intro w hSw
    (try dsimp only at hSw)
    go_simp
    try with_reducible rfl
  simp only [Act.put, List.setIfInBounds_toArray, List.set_cons_zero, List.set_cons_succ]
  refine wpAnyH_yield (i := 6) (v := ?vt6x6) rfl rfl (by kernel_rfl) (by kernel_rfl) (by kernel_rfl) (fun _ _ _ h => h) (by rfl) ?hyt6x6 hHeld ?restt6x6
  case hyt6x6 =>
    intro w hSw
    (try dsimp only at hSw)
    go_simp
    try with_reducible rfl
  simp only [Act.put, List.setIfInBounds_toArray, List.set_cons_zero, List.set_cons_succ]
  refine wpAnyH_yield (i := 7) (v := ?vt6x7) rfl rfl (by kernel_rfl) (by kernel_rfl) (by kernel_rfl) (fun _ _ _ h => h) (by rfl) ?hyt6x7 hHeld ?restt6x7
  case hyt6x7 =>
    intro w hSw
    (try dsimp only at hSw)
    go_simp
    try with_reducible rfl
  simp only [Act.put, List.setIfInBounds_toArray, List.set_cons_zero, List.set_cons_succ]
  refine wpAnyH_yield (i := 8) (v := ?vt6x8) rfl rfl (by kernel_rfl) (by kernel_rfl) (by kernel_rfl) (fun _ _ _ h => h) (by rfl) ?hyt6x8 hHeld ?restt6x8
  case hyt6x8 =>
    intro w hSw
    (try dsimp only at hSw)
    go_simp
    try with_reducible rfl
  simp only [Act.put, List.setIfInBounds_toArray, List.set_cons_zero, List.set_cons_succ]
  refine wpAnyH_ready (rs := [9]) (by kernel_rfl) (by simp) ?_
  refine AllReadyH.cons rfl (fun K hK => ?_) AllReadyH.nil
  go_simp
  refine (cw _).mono ?_
  rintro e m9 ⟨rfl, hb9⟩
  have HB9 : Hid (Below X.heap.size X m9) := Lib.hid ((Below.refl _ _).drew.trans hb9)
  clear hb9
  go_wp2_with fail
  refine hK.out _ _ (HK2.out _ HB9.out) (fun hHeld => ?_)
  clear hK K
  try simp only [Act.put, List.setIfInBounds_toArray, List.set_cons_zero, List.set_cons_succ]
  refine wpAnyH_yield (i := 10) (v := ?vt6x10) rfl rfl (by kernel_rfl) (by kernel_rfl) (by kernel_rfl) (fun _ _ _ h => h) (by rfl) ?hyt6x10 hHeld ?restt6x10
  case hyt6x10 =>
    intro w hSw
    (try dsimp only at hSw)
    go_simp
    try with_reducible rfl
  simp only [Act.put, List.setIfInBounds_toArray, List.set_cons_zero, List.set_cons_succ]
  refine wpAnyH_yield (i := 11) (v := ?vt6x11) rfl rfl (by kernel_rfl) (by kernel_rfl) (by kernel_rfl) (fun _ _ _ h => h) (by rfl) ?hyt6x11 hHeld ?restt6x11
  case hyt6x11 =>
    intro w hSw
    (try dsimp only at hSw)
    go_simp
    try with_reducible rfl
  simp only [Act.put, List.setIfInBounds_toArray, List.set_cons_zero, List.set_cons_succ]
  refine wpAnyH_done (by kernel_rfl) ?_ _
  have HF9 := Lib.hid (HFX.out.later HB9.out)
  have HG9 : Hid (W.grownBy m9 (some f)) := Lib.hid (grow_trans HGX.out (grownBy_of_below HB9.out _))
  have HA9 := Lib.hid (HXA'.out.later HB9.out)
  have HB9' := Lib.hid (HXB'.out.later HB9.out)
  clear cw hHeld
  cases wb
  · have HQ : Hid (storeP x d (k : Int) ob = (10, x)) := Lib.hid (by
      have := HWb.out
      simp only [storeP, HAB.out, Bool.true_and]
      rw [show decide ((k : Int) < 16) = decide ((k : Int) < ((16 : Nat) : Int)) from rfl, this]
      rfl)
    go_wp2_with fail
    go_ret
    rw [HQ.out]
    exact ⟨rfl, HG9.out, HF9.out⟩
  have hw2 := HWb.out
  simp only [Bool.and_eq_true, decide_eq_true_eq] at hw2
  have hk16 : k < 16 := by omega
  have HQ : Hid (storeP x d (k : Int) ob = (0, storeF x k av)) := Lib.hid (by simp [storeP, HAB.out, HAV.out, hw2.1]; omega)
  have p0 : m9.cell? ⟨PA, 0, none⟩ = some (.int .u32 av) := HA9.out.cell rfl
  have q0 : m9.cell? ⟨PB, 0, none⟩ = some (.int .u32 (k : Int)) := HB9'.out.cell rfl
  have s0 := HF9.out.stack hk16
  have sf := HF9.out.free (19 + k)
  have hkI : (k : Int) < 16 := by omega
  have HF8 := Lib.hid (HF9.out.store hk16 HRw.out)
  have HG8 : Hid (W.grownBy (m9.setCell ⟨f, 19 + k, none⟩ (.int .u32 av)) (some f)) := Lib.hid (grow_trans HG9.out (grownBy_setCell _ _ _))
  clear hw2 hk16
  go_wp2_with fail
  go_big_region
  go_wp2_with fail
  go_ret
  rw [HQ.out]
  exact ⟨rfl, grow_trans HG8.out (grownBy_of_below ((Below.refl _ _).drew) _), HF8.out.later ((Below.refl _ _).drew)⟩
end Go.Proofs.YtilddlgcfbefiaaDoor
