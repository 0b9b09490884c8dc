/-
  Texts that the laws of this layer stand on, one behind the other.
-/
import Derived.Test.YtilddlgcfbefiaaDoorGf
import Derived.Test.YtilddlgcfbefiaaDoorGua
import Derived.BigQuiet
/-
  What the methods get, del and has of package helper do, as contracts over the translated program.
-/
namespace Go.Proofs.YtilddlgcfbefiaaDoor
set_option linter.unusedSimpArgs false
set_option linter.unusedVariables false
open Go Go.RowKit
theorem belowA (W : World) (o : Obj) : Below W.heap.size W (W.alloc o) := (Below.refl _ _).alloc (Nat.le_refl _) _
theorem TabsO.beside {W W' : World} {base g U : Nat} {ts : List Tb} {cs' : Array Value} (h : TabsO W base g ts) (hB : Box W U 42 cs') (hne : g ≠ U) (hg : W.grownBy W' (some U)) : TabsO W' base g ts := by
  obtain ⟨b1, cs, b2, b3, b4⟩ := h
  refine ⟨b1, cs, b2.grown hg (fun e => hne (Option.some.inj e)), b3, fun k hk => ?_⟩
  obtain ⟨k1, V, k2, k3⟩ := b4 k hk
  exact ⟨k1, V, k2, k3.apart hB hg⟩
theorem Cs.beside {w W : World} {C g U : Nat} {c : Cx} {sd : Int} {ts : List Tb} {ab : Option Addr} {an ap : Nat} {zs : List Int} {cs cs' : Array Value} (h : Cs w W C g c sd ts ab an ap zs) (hB : Box W U 42 cs) (hU : w.heap.size ≤ U) (hne : g ≠ U) : Cs w (W.setRow U cs') C g c sd ts ab an ap zs := by
  have hg := grownBy_setRow W U cs'
  have hC : C ≠ U := fun e => by
    have h1 : W.heap[U]? = some (.cells cs 42 (0, 0)) := hB
    have h2 : W.heap[C]? = _ := h.2.1
    rw [e, h1] at h2
    simp at h2
  exact ⟨below_setRow h.1 hU _, h.2.1.grown hg (fun e => hC (Option.some.inj e)), h.2.2.1, h.2.2.2.1.beside hB hne hg, h.2.2.2.2⟩
set_option maxRecDepth 100000 in
set_option maxHeartbeats 8000000 in
theorem get_m (w0 w : World) (C g : Nat) (c : Cx) (sd : Int) (ts : List Tb) (ab : Option Addr) (an ap : Nat) (zs : List Int) (i : Nat) (h : Cs w0 w C g c sd ts ab an ap zs) (h4 : an = 3) (hi : zs.getD 0 0 = (i : Int)) (hl : i < ts.length) (h40 : ts.length ≤ 40) (hf : fewE (ts.getD i zeroT).2.1) :
    Calls Tryd.prog 121 #[.pointer (some ⟨C, 0, none⟩)] w fun e w' => e = .returned (.int .u32 (opP 0 (ts.getD i zeroT) zs).2) ∧ Cs w0 w' C g c sd (ts.set i (opP 0 (ts.getD i zeroT) zs).1) ab an ap zs := by
  subst h4
  have h0 : 0 < 3 := by omega
  obtain ⟨y, rfl, _⟩ := h.word h0
  obtain ⟨a1, ha1⟩ : ∃ a1, zs.getD 1 0 = a1 := ⟨_, rfl⟩
  obtain ⟨a2, ha2⟩ : ∃ a2, zs.getD 2 0 = a2 := ⟨_, rfl⟩
  have HW1 : Hid (isW a1) := Lib.hid (by rw [← ha1]; exact h.isw 1)
  have HW2 : Hid (isW a2) := Lib.hid (by rw [← ha2]; exact h.isw 2)
  have HKp : Hid (∀ w' sd' ts', Cs w0 w' C g c sd' ts' (some y) 3 ap zs → w'.cell? ⟨C, 6, none⟩ = some (.slice (some y) 3 ap) ∧ w'.cell? ⟨y.block, y.off + 1, none⟩ = some (.int .u32 a1) ∧ w'.cell? ⟨y.block, y.off + 2, none⟩ = some (.int .u32 a2)) := Lib.hid (fun w' sd' ts' hc => ⟨hc.2.1.cell rfl, by have h9 := (hc.word (j := 1) (by omega)); obtain ⟨y', e1, e2⟩ := h9; obtain rfl := Option.some.inj e1; rw [ha1] at e2; exact e2, by have h9 := (hc.word (j := 2) (by omega)); obtain ⟨y', e1, e2⟩ := h9; obtain rfl := Option.some.inj e1; rw [ha2] at e2; exact e2⟩)
  have HC := Lib.hid h
  have HI := Lib.hid hi
  have HL := Lib.hid hl
  have H4 := Lib.hid h40
  have HX := Lib.hid (h.next hl)
  have HF := Lib.hid hf
  rcases hti : ts.getD i zeroT with ⟨⟨s0, s1, s2, s3⟩, es, x⟩
  rw [hti] at HX HF
  simp only at HX HF
  have HTi := Lib.hid hti
  have hop : opP 0 ((s0, s1, s2, s3), es, x) zs = ((getT ((s0, s1, s2, s3), es, x) a1 a2).1, (getT ((s0, s1, s2, s3), es, x) a1 a2).2.1) := by rw [opP, if_pos rfl, ha1, ha2]
  have hnw : isW (getT ((s0, s1, s2, s3), es, x) a1 a2).1.2.2 := by rw [get_next]; exact HX.out
  rcases hg : getT ((s0, s1, s2, s3), es, x) a1 a2 with ⟨⟨⟨d0, d1, d2, d3⟩, de, dx⟩, dv, db⟩
  rw [hg] at hop hnw
  simp only at hnw hop
  have HOp := Lib.hid hop
  have HG := Lib.hid hg
  have HN := Lib.hid hnw
  clear hop hg hnw h hi hl h40 hf hti ha1 ha2
  have HC0 := Lib.hid (HC.out.later (Below.refl _ _).drew)
  go_enter Tryd.func121, Tryd.ntmps121
  go_wp2_with fail
  refine wp_region_held_drew (S := (fun w' => w'.cell? ⟨C, 6, none⟩ = some (.slice (some y) 3 ap) ∧ w'.cell? ⟨y.block, y.off + 1, none⟩ = some (.int .u32 a1) ∧ w'.cell? ⟨y.block, y.off + 2, none⟩ = some (.int .u32 a2))) (by kernel_rfl) (HKp.out _ _ _ HC0.out) (fun hHeld => ?_)
  refine wpAnyH_yield (i := 0) (v := ?v0) rfl rfl (by kernel_rfl) (by kernel_rfl) (by kernel_rfl) (fun _ _ _ h => h) (by rfl) ?hy0 hHeld ?rest0
  case hy0 =>
    intro w hSw
    (try dsimp only at hSw)
    go_simp
    try with_reducible rfl
  simp only [Act.put, List.setIfInBounds_toArray, List.set_cons_zero, List.set_cons_succ]
  refine wpAnyH_yield (i := 2) (v := ?v2) rfl rfl (by kernel_rfl) (by kernel_rfl) (by kernel_rfl) (fun _ _ _ h => h) (by rfl) ?hy2 hHeld ?rest2
  case hy2 =>
    intro w hSw
    (try dsimp only at hSw)
    go_simp
    try with_reducible rfl
  simp only [Act.put, List.setIfInBounds_toArray, List.set_cons_zero, List.set_cons_succ]
  refine wpAnyH_yield (i := 3) (v := ?v3) rfl rfl (by kernel_rfl) (by kernel_rfl) (by kernel_rfl) (fun _ _ _ h => h) (by rfl) ?hy3 hHeld ?rest3
  case hy3 =>
    intro w hSw
    (try dsimp only at hSw)
    go_simp
    try with_reducible rfl
  simp only [Act.put, List.setIfInBounds_toArray, List.set_cons_zero, List.set_cons_succ]
  refine wpAnyH_yield (i := 4) (v := ?v4) rfl rfl (by kernel_rfl) (by kernel_rfl) (by kernel_rfl) (fun _ _ _ h => h) (by rfl) ?hy4 hHeld ?rest4
  case hy4 =>
    intro w hSw
    (try dsimp only at hSw)
    go_simp
    try with_reducible rfl
  simp only [Act.put, List.setIfInBounds_toArray, List.set_cons_zero, List.set_cons_succ]
  refine wpAnyH_yield (i := 5) (v := ?v5) rfl rfl (by kernel_rfl) (by kernel_rfl) (by kernel_rfl) (fun _ _ _ h => h) (by rfl) ?hy5 hHeld ?rest5
  case hy5 =>
    intro w hSw
    (try dsimp only at hSw)
    go_simp
    try with_reducible rfl
  simp only [Act.put, List.setIfInBounds_toArray, List.set_cons_zero, List.set_cons_succ]
  refine wpAnyH_yield (i := 6) (v := ?v6) rfl rfl (by kernel_rfl) (by kernel_rfl) (by kernel_rfl) (fun _ _ _ h => h) (by rfl) ?hy6 hHeld ?rest6
  case hy6 =>
    intro w hSw
    (try dsimp only at hSw)
    go_simp
    try with_reducible rfl
  simp only [Act.put, List.setIfInBounds_toArray, List.set_cons_zero, List.set_cons_succ]
  refine wpAnyH_yield (i := 7) (v := ?v7) rfl rfl (by kernel_rfl) (by kernel_rfl) (by kernel_rfl) (fun _ _ _ h => h) (by rfl) ?hy7 hHeld ?rest7
  case hy7 =>
    intro w hSw
    (try dsimp only at hSw)
    go_simp
    try with_reducible rfl
  simp only [Act.put, List.setIfInBounds_toArray, List.set_cons_zero, List.set_cons_succ]
  refine wpAnyH_yield (i := 8) (v := ?v8) rfl rfl (by kernel_rfl) (by kernel_rfl) (by kernel_rfl) (fun _ _ _ h => h) (by rfl) ?hy8 hHeld ?rest8
  case hy8 =>
    intro w hSw
    (try dsimp only at hSw)
    go_simp
    try with_reducible rfl
  simp only [Act.put, List.setIfInBounds_toArray, List.set_cons_zero, List.set_cons_succ]
  refine wpAnyH_yield (i := 9) (v := ?v9) rfl rfl (by kernel_rfl) (by kernel_rfl) (by kernel_rfl) (fun _ _ _ h => h) (by rfl) ?hy9 hHeld ?rest9
  case hy9 =>
    intro w hSw
    (try dsimp only at hSw)
    go_simp
    try with_reducible rfl
  simp only [Act.put, List.setIfInBounds_toArray, List.set_cons_zero, List.set_cons_succ]
  refine wpAnyH_yield (i := 10) (v := ?v10) rfl rfl (by kernel_rfl) (by kernel_rfl) (by kernel_rfl) (fun _ _ _ h => h) (by rfl) ?hy10 hHeld ?rest10
  case hy10 =>
    intro w hSw
    (try dsimp only at hSw)
    go_simp
    try with_reducible rfl
  simp only [Act.put, List.setIfInBounds_toArray, List.set_cons_zero, List.set_cons_succ]
  refine wpAnyH_yield (i := 11) (v := ?v11) rfl rfl (by kernel_rfl) (by kernel_rfl) (by kernel_rfl) (fun _ _ _ h => h) (by rfl) ?hy11 hHeld ?rest11
  case hy11 =>
    intro w hSw
    (try dsimp only at hSw)
    go_simp
    try with_reducible rfl
  simp only [Act.put, List.setIfInBounds_toArray, List.set_cons_zero, List.set_cons_succ]
  refine wpAnyH_yield (i := 12) (v := ?v12) rfl rfl (by kernel_rfl) (by kernel_rfl) (by kernel_rfl) (fun _ _ _ h => h) (by rfl) ?hy12 hHeld ?rest12
  case hy12 =>
    intro w hSw
    (try dsimp only at hSw)
    go_simp
    try with_reducible rfl
  simp only [Act.put, List.setIfInBounds_toArray, List.set_cons_zero, List.set_cons_succ]
  refine wpAnyH_yield (i := 13) (v := ?v13) rfl rfl (by kernel_rfl) (by kernel_rfl) (by kernel_rfl) (fun _ _ _ h => h) (by rfl) ?hy13 hHeld ?rest13
  case hy13 =>
    intro w hSw
    (try dsimp only at hSw)
    go_simp
    try with_reducible rfl
  simp only [Act.put, List.setIfInBounds_toArray, List.set_cons_zero, List.set_cons_succ]
  refine wpAnyH_ready (rs := [1, 19]) (by kernel_rfl) (by simp) ?_
  refine AllReadyH.cons rfl (fun K hK => ?_) ?_
  · go_simp
    have cna := named_any w0 w.drew C g c sd ts (some y) 3 ap zs i HC0.out h0 HI.out HL.out H4.out
    rw [HTi.out] at cna
    refine cna.mono ?_
    rintro e mna ⟨b, l, cc, rfl, hb, hE⟩
    clear cna
    have HCna := Lib.hid (HC0.out.later hb)
    have HEna := Lib.hid hE
    clear hb hE
    go_wp2_with fail
    refine hK.out _ _ (HKp.out _ _ _ HCna.out) (fun hHeld => ?_)
    clear hK K
    try simp only [Act.put, List.setIfInBounds_toArray, List.set_cons_zero, List.set_cons_succ]
    refine wpAnyH_ready (rs := [14, 19]) (by kernel_rfl) (by simp) ?_
    refine AllReadyH.cons rfl (fun K hK => ?_) ?_
    · go_simp
      have coa := tget_any (s0, s1, s2, s3) b l cc x es a1 a2 (mna) HEna.out HF.out HX.out HW2.out
      rw [HG.out] at coa
      refine coa.mono ?_
      rintro e moa ⟨u, rfl, hb, hr0⟩
      clear coa
      have hr : Row moa (mna).heap.size u de := hr0
      have HCoa := Lib.hid (HCna.out.later hb)
      have HRoa := Lib.hid (hr.low (base' := w0.heap.size) HCna.out.1.size)
      obtain ⟨b2, p2, hu, _⟩ := hr.at
      subst hu
      clear hr hr0 hb
      go_wp2_with fail
      refine hK.out _ _ (HKp.out _ _ _ HCoa.out) (fun hHeld => ?_)
      clear hK K
      try simp only [Act.put, List.setIfInBounds_toArray, List.set_cons_zero, List.set_cons_succ]
      refine wpAnyH_yield (i := 15) (v := ?voa15) rfl rfl (by kernel_rfl) (by kernel_rfl) (by kernel_rfl) (fun _ _ _ h => h) (by rfl) ?hyoa15 hHeld ?restoa15
      case hyoa15 =>
        intro w hSw
        (try dsimp only at hSw)
        go_simp
        try with_reducible rfl
      simp only [Act.put, List.setIfInBounds_toArray, List.set_cons_zero, List.set_cons_succ]
      refine wpAnyH_yield (i := 16) (v := ?voa16) rfl rfl (by kernel_rfl) (by kernel_rfl) (by kernel_rfl) (fun _ _ _ h => h) (by rfl) ?hyoa16 hHeld ?restoa16
      case hyoa16 =>
        intro w hSw
        (try dsimp only at hSw)
        go_simp
        try with_reducible rfl
      simp only [Act.put, List.setIfInBounds_toArray, List.set_cons_zero, List.set_cons_succ]
      refine wpAnyH_yield (i := 17) (v := ?voa17) rfl rfl (by kernel_rfl) (by kernel_rfl) (by kernel_rfl) (fun _ _ _ h => h) (by rfl) ?hyoa17 hHeld ?restoa17
      case hyoa17 =>
        intro w hSw
        (try dsimp only at hSw)
        go_simp
        try with_reducible rfl
      simp only [Act.put, List.setIfInBounds_toArray, List.set_cons_zero, List.set_cons_succ]
      refine wpAnyH_yield (i := 18) (v := ?voa18) rfl rfl (by kernel_rfl) (by kernel_rfl) (by kernel_rfl) (fun _ _ _ h => h) (by rfl) ?hyoa18 hHeld ?restoa18
      case hyoa18 =>
        intro w hSw
        (try dsimp only at hSw)
        go_simp
        try with_reducible rfl
      simp only [Act.put, List.setIfInBounds_toArray, List.set_cons_zero, List.set_cons_succ]
      have HCaa := Lib.hid (HCoa.out.later (belowA moa (.cells #[.int .i64 0, .int .i64 0, .int .i64 0, .int .i64 0, .slice none 0 0, .int .u32 0] 42)))
      have HZaa : Hid (Box (moa.alloc (.cells #[.int .i64 0, .int .i64 0, .int .i64 0, .int .i64 0, .slice none 0 0, .int .u32 0] 42)) moa.heap.size 42 #[.int .i64 0, .int .i64 0, .int .i64 0, .int .i64 0, .slice none 0 0, .int .u32 0]) := Lib.hid (Box.new moa _ _)
      have hneaa : g ≠ moa.heap.size := by have h9 : g < moa.heap.size := HCoa.out.2.2.2.1.lt; omega
      have hszaa : w0.heap.size ≤ moa.heap.size := HCoa.out.1.size
      have HRaa := Lib.hid (HRoa.out.below (belowA moa (.cells #[.int .i64 0, .int .i64 0, .int .i64 0, .int .i64 0, .slice none 0 0, .int .u32 0] 42)))
      refine wpAnyH_ready (rs := [19]) (by kernel_rfl) (by simp) ?_
      refine AllReadyH.cons rfl (fun K hK => ?_) AllReadyH.nil
      go_simp
      refine hK.out _ _ (HKp.out _ _ _ HCaa.out) (fun hHeld => ?_)
      clear hK K
      try simp only [Act.put, List.setIfInBounds_toArray, List.set_cons_zero, List.set_cons_succ]
      refine wpAnyH_ready (rs := [20]) (by kernel_rfl) (by simp) ?_
      refine AllReadyH.cons rfl (fun K hK => ?_) AllReadyH.nil
      refine step_row _ (by rfl) 42 _ _ (by rfl) (by rfl) (moa.heap.size) #[.int .i64 d0, .int .i64 d1, .int .i64 d2, .int .i64 d3, .slice b2 de.length p2, .int .u32 dx] (by rfl) (by rfl) 42 _ HZaa.out (by kernel_rfl) rfl (by simp [Value.oneCell']) ?_
      have HCx := Lib.hid (HCaa.out.beside (cs' := #[.int .i64 d0, .int .i64 d1, .int .i64 d2, .int .i64 d3, .slice b2 de.length p2, .int .u32 dx]) HZaa.out hszaa hneaa)
      have HRx := Lib.hid (HRaa.out.apart HZaa.out (grownBy_setRow _ _ #[.int .i64 d0, .int .i64 d1, .int .i64 d2, .int .i64 d3, .slice b2 de.length p2, .int .u32 dx]))
      have HVx : Hid (Box ((moa.alloc (.cells #[.int .i64 0, .int .i64 0, .int .i64 0, .int .i64 0, .slice none 0 0, .int .u32 0] 42)).setRow (moa.heap.size) #[.int .i64 d0, .int .i64 d1, .int .i64 d2, .int .i64 d3, .slice b2 de.length p2, .int .u32 dx]) (moa.heap.size) 42 #[.int .i64 d0, .int .i64 d1, .int .i64 d2, .int .i64 d3, .slice b2 de.length p2, .int .u32 dx]) := Lib.hid (setRow_heap _ _ _ _ _ _ HZaa.out)
      refine hK.out _ _ (HKp.out _ _ _ HCx.out) (fun hHeld => ?_)
      clear hK K
      try simp only [Act.put, List.setIfInBounds_toArray, List.set_cons_zero, List.set_cons_succ]
      refine wpAnyH_yield (i := 21) (v := ?vsa21) rfl rfl (by kernel_rfl) (by kernel_rfl) (by kernel_rfl) (fun _ _ _ h => h) (by rfl) ?hysa21 hHeld ?restsa21
      case hysa21 =>
        intro w hSw
        (try dsimp only at hSw)
        go_simp
        try with_reducible rfl
      simp only [Act.put, List.setIfInBounds_toArray, List.set_cons_zero, List.set_cons_succ]
      refine wpAnyH_yield (i := 22) (v := ?vsa22) rfl rfl (by kernel_rfl) (by kernel_rfl) (by kernel_rfl) (fun _ _ _ h => h) (by rfl) ?hysa22 hHeld ?restsa22
      case hysa22 =>
        intro w hSw
        (try dsimp only at hSw)
        go_simp
        try with_reducible rfl
      simp only [Act.put, List.setIfInBounds_toArray, List.set_cons_zero, List.set_cons_succ]
      refine wpAnyH_done (by kernel_rfl) ?_ _
      generalize hXX : World.setRow (moa.alloc (.cells #[.int .i64 0, .int .i64 0, .int .i64 0, .int .i64 0, .slice none 0 0, .int .u32 0] 42)) (moa.heap.size) #[.int .i64 d0, .int .i64 d1, .int .i64 d2, .int .i64 d3, .slice b2 de.length p2, .int .u32 dx] = X at *
      generalize hTT : moa.heap.size = T1 at *
      clear hXX hTT hHeld
      obtain ⟨q0, q1, q2, q3, q4, q5⟩ := Box.tb (s := (d0, d1, d2, d3)) HVx.out
      simp only at q0 q1 q2 q3 q4 q5
      go_wp2_with fail
      clear q0 q1 q2 q3 q4 q5
      have c9 := replace_any w0 X C g c sd ts (some y) 3 ap zs i HCx.out h0 HI.out HL.out H4.out (d0, d1, d2, d3) b2 de.length p2 de dx HRx.out HN.out
      refine c9.mono ?_
      rintro e m9 ⟨rfl, hc9⟩
      have HC9 := Lib.hid hc9
      clear c9 hc9
      go_wp2_with fail
      go_ret
      rw [HOp.out]
      exact ⟨rfl, HC9.out⟩
    have HCab := Lib.hid (HCna.out.later (belowA mna (.cells #[.int .i64 0, .int .i64 0, .int .i64 0, .int .i64 0, .slice none 0 0, .int .u32 0] 42)))
    have HZab : Hid (Box (mna.alloc (.cells #[.int .i64 0, .int .i64 0, .int .i64 0, .int .i64 0, .slice none 0 0, .int .u32 0] 42)) mna.heap.size 42 #[.int .i64 0, .int .i64 0, .int .i64 0, .int .i64 0, .slice none 0 0, .int .u32 0]) := Lib.hid (Box.new mna _ _)
    have hneab : g ≠ mna.heap.size := by have h9 : g < mna.heap.size := HCna.out.2.2.2.1.lt; omega
    have hszab : w0.heap.size ≤ mna.heap.size := HCna.out.1.size
    have HEab := Lib.hid (HEna.out.below (belowA mna (.cells #[.int .i64 0, .int .i64 0, .int .i64 0, .int .i64 0, .slice none 0 0, .int .u32 0] 42)))
    refine AllReadyH.cons rfl (fun K hK => ?_) AllReadyH.nil
    go_simp
    refine hK.out _ _ (HKp.out _ _ _ HCab.out) (fun hHeld => ?_)
    clear hK K
    try simp only [Act.put, List.setIfInBounds_toArray, List.set_cons_zero, List.set_cons_succ]
    refine wpAnyH_ready (rs := [14]) (by kernel_rfl) (by simp) ?_
    refine AllReadyH.cons rfl (fun K hK => ?_) AllReadyH.nil
    go_simp
    have cob := tget_any (s0, s1, s2, s3) b l cc x es a1 a2 ((mna.alloc (.cells #[.int .i64 0, .int .i64 0, .int .i64 0, .int .i64 0, .slice none 0 0, .int .u32 0] 42))) HEab.out HF.out HX.out HW2.out
    rw [HG.out] at cob
    refine cob.mono ?_
    rintro e mob ⟨u, rfl, hb, hr0⟩
    clear cob
    have hr : Row mob ((mna.alloc (.cells #[.int .i64 0, .int .i64 0, .int .i64 0, .int .i64 0, .slice none 0 0, .int .u32 0] 42))).heap.size u de := hr0
    have HCob := Lib.hid (HCab.out.later hb)
    have HRob := Lib.hid (hr.low (base' := w0.heap.size) HCab.out.1.size)
    obtain ⟨b2, p2, hu, _⟩ := hr.at
    subst hu
    have HZob := Lib.hid (HZab.out.later hb)
    clear hr hr0 hb
    go_wp2_with fail
    refine hK.out _ _ (HKp.out _ _ _ HCob.out) (fun hHeld => ?_)
    clear hK K
    try simp only [Act.put, List.setIfInBounds_toArray, List.set_cons_zero, List.set_cons_succ]
    refine wpAnyH_yield (i := 15) (v := ?vob15) rfl rfl (by kernel_rfl) (by kernel_rfl) (by kernel_rfl) (fun _ _ _ h => h) (by rfl) ?hyob15 hHeld ?restob15
    case hyob15 =>
      intro w hSw
      (try dsimp only at hSw)
      go_simp
      try with_reducible rfl
    simp only [Act.put, List.setIfInBounds_toArray, List.set_cons_zero, List.set_cons_succ]
    refine wpAnyH_yield (i := 16) (v := ?vob16) rfl rfl (by kernel_rfl) (by kernel_rfl) (by kernel_rfl) (fun _ _ _ h => h) (by rfl) ?hyob16 hHeld ?restob16
    case hyob16 =>
      intro w hSw
      (try dsimp only at hSw)
      go_simp
      try with_reducible rfl
    simp only [Act.put, List.setIfInBounds_toArray, List.set_cons_zero, List.set_cons_succ]
    refine wpAnyH_yield (i := 17) (v := ?vob17) rfl rfl (by kernel_rfl) (by kernel_rfl) (by kernel_rfl) (fun _ _ _ h => h) (by rfl) ?hyob17 hHeld ?restob17
    case hyob17 =>
      intro w hSw
      (try dsimp only at hSw)
      go_simp
      try with_reducible rfl
    simp only [Act.put, List.setIfInBounds_toArray, List.set_cons_zero, List.set_cons_succ]
    refine wpAnyH_yield (i := 18) (v := ?vob18) rfl rfl (by kernel_rfl) (by kernel_rfl) (by kernel_rfl) (fun _ _ _ h => h) (by rfl) ?hyob18 hHeld ?restob18
    case hyob18 =>
      intro w hSw
      (try dsimp only at hSw)
      go_simp
      try with_reducible rfl
    simp only [Act.put, List.setIfInBounds_toArray, List.set_cons_zero, List.set_cons_succ]
    refine wpAnyH_ready (rs := [20]) (by kernel_rfl) (by simp) ?_
    refine AllReadyH.cons rfl (fun K hK => ?_) AllReadyH.nil
    refine step_row _ (by rfl) 42 _ _ (by rfl) (by rfl) (mna.heap.size) #[.int .i64 d0, .int .i64 d1, .int .i64 d2, .int .i64 d3, .slice b2 de.length p2, .int .u32 dx] (by rfl) (by rfl) 42 _ HZob.out (by kernel_rfl) rfl (by simp [Value.oneCell']) ?_
    have HCx := Lib.hid (HCob.out.beside (cs' := #[.int .i64 d0, .int .i64 d1, .int .i64 d2, .int .i64 d3, .slice b2 de.length p2, .int .u32 dx]) HZob.out hszab hneab)
    have HRx := Lib.hid (HRob.out.apart HZob.out (grownBy_setRow _ _ #[.int .i64 d0, .int .i64 d1, .int .i64 d2, .int .i64 d3, .slice b2 de.length p2, .int .u32 dx]))
    have HVx : Hid (Box (mob.setRow (mna.heap.size) #[.int .i64 d0, .int .i64 d1, .int .i64 d2, .int .i64 d3, .slice b2 de.length p2, .int .u32 dx]) (mna.heap.size) 42 #[.int .i64 d0, .int .i64 d1, .int .i64 d2, .int .i64 d3, .slice b2 de.length p2, .int .u32 dx]) := Lib.hid (setRow_heap _ _ _ _ _ _ HZob.out)
    refine hK.out _ _ (HKp.out _ _ _ HCx.out) (fun hHeld => ?_)
    clear hK K
    try simp only [Act.put, List.setIfInBounds_toArray, List.set_cons_zero, List.set_cons_succ]
    refine wpAnyH_yield (i := 21) (v := ?vsb21) rfl rfl (by kernel_rfl) (by kernel_rfl) (by kernel_rfl) (fun _ _ _ h => h) (by rfl) ?hysb21 hHeld ?restsb21
    case hysb21 =>
      intro w hSw
      (try dsimp only at hSw)
      go_simp
      try with_reducible rfl
    simp only [Act.put, List.setIfInBounds_toArray, List.set_cons_zero, List.set_cons_succ]
    refine wpAnyH_yield (i := 22) (v := ?vsb22) rfl rfl (by kernel_rfl) (by kernel_rfl) (by kernel_rfl) (fun _ _ _ h => h) (by rfl) ?hysb22 hHeld ?restsb22
    case hysb22 =>
      intro w hSw
      (try dsimp only at hSw)
      go_simp
      try with_reducible rfl
    simp only [Act.put, List.setIfInBounds_toArray, List.set_cons_zero, List.set_cons_succ]
    refine wpAnyH_done (by kernel_rfl) ?_ _
    generalize hXX : World.setRow mob (mna.heap.size) #[.int .i64 d0, .int .i64 d1, .int .i64 d2, .int .i64 d3, .slice b2 de.length p2, .int .u32 dx] = X at *
    generalize hTT : mna.heap.size = T1 at *
    clear hXX hTT hHeld
    obtain ⟨q0, q1, q2, q3, q4, q5⟩ := Box.tb (s := (d0, d1, d2, d3)) HVx.out
    simp only at q0 q1 q2 q3 q4 q5
    go_wp2_with fail
    clear q0 q1 q2 q3 q4 q5
    have c9 := replace_any w0 X C g c sd ts (some y) 3 ap zs i HCx.out h0 HI.out HL.out H4.out (d0, d1, d2, d3) b2 de.length p2 de dx HRx.out HN.out
    refine c9.mono ?_
    rintro e m9 ⟨rfl, hc9⟩
    have HC9 := Lib.hid hc9
    clear c9 hc9
    go_wp2_with fail
    go_ret
    rw [HOp.out]
    exact ⟨rfl, HC9.out⟩
  have HCac := Lib.hid (HC0.out.later (belowA w.drew (.cells #[.int .i64 0, .int .i64 0, .int .i64 0, .int .i64 0, .slice none 0 0, .int .u32 0] 42)))
  have HZac : Hid (Box (w.drew.alloc (.cells #[.int .i64 0, .int .i64 0, .int .i64 0, .int .i64 0, .slice none 0 0, .int .u32 0] 42)) w.heap.size 42 #[.int .i64 0, .int .i64 0, .int .i64 0, .int .i64 0, .slice none 0 0, .int .u32 0]) := Lib.hid (Box.new w.drew _ _)
  have hneac : g ≠ w.heap.size := by have h9 : g < w.heap.size := HC0.out.2.2.2.1.lt; omega
  have hszac : w0.heap.size ≤ w.heap.size := HC0.out.1.size
  refine AllReadyH.cons rfl (fun K hK => ?_) AllReadyH.nil
  go_simp
  refine hK.out _ _ (HKp.out _ _ _ HCac.out) (fun hHeld => ?_)
  clear hK K
  try simp only [Act.put, List.setIfInBounds_toArray, List.set_cons_zero, List.set_cons_succ]
  refine wpAnyH_ready (rs := [1]) (by kernel_rfl) (by simp) ?_
  refine AllReadyH.cons rfl (fun K hK => ?_) AllReadyH.nil
  go_simp
  have cnc := named_any w0 (w.drew.alloc (.cells #[.int .i64 0, .int .i64 0, .int .i64 0, .int .i64 0, .slice none 0 0, .int .u32 0] 42)) C g c sd ts (some y) 3 ap zs i HCac.out h0 HI.out HL.out H4.out
  rw [HTi.out] at cnc
  refine cnc.mono ?_
  rintro e mnc ⟨b, l, cc, rfl, hb, hE⟩
  clear cnc
  have HCnc := Lib.hid (HCac.out.later hb)
  have HEnc := Lib.hid hE
  have HZnc := Lib.hid (HZac.out.later hb)
  clear hb hE
  go_wp2_with fail
  refine hK.out _ _ (HKp.out _ _ _ HCnc.out) (fun hHeld => ?_)
  clear hK K
  try simp only [Act.put, List.setIfInBounds_toArray, List.set_cons_zero, List.set_cons_succ]
  refine wpAnyH_ready (rs := [14]) (by kernel_rfl) (by simp) ?_
  refine AllReadyH.cons rfl (fun K hK => ?_) AllReadyH.nil
  go_simp
  have coc := tget_any (s0, s1, s2, s3) b l cc x es a1 a2 (mnc) HEnc.out HF.out HX.out HW2.out
  rw [HG.out] at coc
  refine coc.mono ?_
  rintro e moc ⟨u, rfl, hb, hr0⟩
  clear coc
  have hr : Row moc (mnc).heap.size u de := hr0
  have HCoc := Lib.hid (HCnc.out.later hb)
  have HRoc := Lib.hid (hr.low (base' := w0.heap.size) HCnc.out.1.size)
  obtain ⟨b2, p2, hu, _⟩ := hr.at
  subst hu
  have HZoc := Lib.hid (HZnc.out.later hb)
  clear hr hr0 hb
  go_wp2_with fail
  refine hK.out _ _ (HKp.out _ _ _ HCoc.out) (fun hHeld => ?_)
  clear hK K
  try simp only [Act.put, List.setIfInBounds_toArray, List.set_cons_zero, List.set_cons_succ]
  refine wpAnyH_yield (i := 15) (v := ?voc15) rfl rfl (by kernel_rfl) (by kernel_rfl) (by kernel_rfl) (fun _ _ _ h => h) (by rfl) ?hyoc15 hHeld ?restoc15
  case hyoc15 =>
    intro w hSw
    (try dsimp only at hSw)
    go_simp
    try with_reducible rfl
  simp only [Act.put, List.setIfInBounds_toArray, List.set_cons_zero, List.set_cons_succ]
  refine wpAnyH_yield (i := 16) (v := ?voc16) rfl rfl (by kernel_rfl) (by kernel_rfl) (by kernel_rfl) (fun _ _ _ h => h) (by rfl) ?hyoc16 hHeld ?restoc16
  case hyoc16 =>
    intro w hSw
    (try dsimp only at hSw)
    go_simp
    try with_reducible rfl
  simp only [Act.put, List.setIfInBounds_toArray, List.set_cons_zero, List.set_cons_succ]
  refine wpAnyH_yield (i := 17) (v := ?voc17) rfl rfl (by kernel_rfl) (by kernel_rfl) (by kernel_rfl) (fun _ _ _ h => h) (by rfl) ?hyoc17 hHeld ?restoc17
  case hyoc17 =>
    intro w hSw
    (try dsimp only at hSw)
    go_simp
    try with_reducible rfl
  simp only [Act.put, List.setIfInBounds_toArray, List.set_cons_zero, List.set_cons_succ]
  refine wpAnyH_yield (i := 18) (v := ?voc18) rfl rfl (by kernel_rfl) (by kernel_rfl) (by kernel_rfl) (fun _ _ _ h => h) (by rfl) ?hyoc18 hHeld ?restoc18
  case hyoc18 =>
    intro w hSw
    (try dsimp only at hSw)
    go_simp
    try with_reducible rfl
  simp only [Act.put, List.setIfInBounds_toArray, List.set_cons_zero, List.set_cons_succ]
  refine wpAnyH_ready (rs := [20]) (by kernel_rfl) (by simp) ?_
  refine AllReadyH.cons rfl (fun K hK => ?_) AllReadyH.nil
  refine step_row _ (by rfl) 42 _ _ (by rfl) (by rfl) (w.heap.size) #[.int .i64 d0, .int .i64 d1, .int .i64 d2, .int .i64 d3, .slice b2 de.length p2, .int .u32 dx] (by rfl) (by rfl) 42 _ HZoc.out (by kernel_rfl) rfl (by simp [Value.oneCell']) ?_
  have HCx := Lib.hid (HCoc.out.beside (cs' := #[.int .i64 d0, .int .i64 d1, .int .i64 d2, .int .i64 d3, .slice b2 de.length p2, .int .u32 dx]) HZoc.out hszac hneac)
  have HRx := Lib.hid (HRoc.out.apart HZoc.out (grownBy_setRow _ _ #[.int .i64 d0, .int .i64 d1, .int .i64 d2, .int .i64 d3, .slice b2 de.length p2, .int .u32 dx]))
  have HVx : Hid (Box (moc.setRow (w.heap.size) #[.int .i64 d0, .int .i64 d1, .int .i64 d2, .int .i64 d3, .slice b2 de.length p2, .int .u32 dx]) (w.heap.size) 42 #[.int .i64 d0, .int .i64 d1, .int .i64 d2, .int .i64 d3, .slice b2 de.length p2, .int .u32 dx]) := Lib.hid (setRow_heap _ _ _ _ _ _ HZoc.out)
  refine hK.out _ _ (HKp.out _ _ _ HCx.out) (fun hHeld => ?_)
  clear hK K
  try simp only [Act.put, List.setIfInBounds_toArray, List.set_cons_zero, List.set_cons_succ]
  refine wpAnyH_yield (i := 21) (v := ?vsc21) rfl rfl (by kernel_rfl) (by kernel_rfl) (by kernel_rfl) (fun _ _ _ h => h) (by rfl) ?hysc21 hHeld ?restsc21
  case hysc21 =>
    intro w hSw
    (try dsimp only at hSw)
    go_simp
    try with_reducible rfl
  simp only [Act.put, List.setIfInBounds_toArray, List.set_cons_zero, List.set_cons_succ]
  refine wpAnyH_yield (i := 22) (v := ?vsc22) rfl rfl (by kernel_rfl) (by kernel_rfl) (by kernel_rfl) (fun _ _ _ h => h) (by rfl) ?hysc22 hHeld ?restsc22
  case hysc22 =>
    intro w hSw
    (try dsimp only at hSw)
    go_simp
    try with_reducible rfl
  simp only [Act.put, List.setIfInBounds_toArray, List.set_cons_zero, List.set_cons_succ]
  refine wpAnyH_done (by kernel_rfl) ?_ _
  generalize hXX : World.setRow moc (w.heap.size) #[.int .i64 d0, .int .i64 d1, .int .i64 d2, .int .i64 d3, .slice b2 de.length p2, .int .u32 dx] = X at *
  generalize hTT : w.heap.size = T1 at *
  clear hXX hTT hHeld
  obtain ⟨q0, q1, q2, q3, q4, q5⟩ := Box.tb (s := (d0, d1, d2, d3)) HVx.out
  simp only at q0 q1 q2 q3 q4 q5
  go_wp2_with fail
  clear q0 q1 q2 q3 q4 q5
  have c9 := replace_any w0 X C g c sd ts (some y) 3 ap zs i HCx.out h0 HI.out HL.out H4.out (d0, d1, d2, d3) b2 de.length p2 de dx HRx.out HN.out
  refine c9.mono ?_
  rintro e m9 ⟨rfl, hc9⟩
  have HC9 := Lib.hid hc9
  clear c9 hc9
  go_wp2_with fail
  go_ret
  rw [HOp.out]
  exact ⟨rfl, HC9.out⟩
set_option maxRecDepth 100000 in
set_option maxHeartbeats 8000000 in
theorem del_m (w0 w : World) (C g : Nat) (c : Cx) (sd : Int) (ts : List Tb) (ab : Option Addr) (an ap : Nat) (zs : List Int) (i : Nat) (h : Cs w0 w C g c sd ts ab an ap zs) (h4 : an = 2) (hi : zs.getD 0 0 = (i : Int)) (hl : i < ts.length) (h40 : ts.length ≤ 40) (hf : fewE (ts.getD i zeroT).2.1) :
    Calls Tryd.prog 123 #[.pointer (some ⟨C, 0, none⟩)] w fun e w' => e = .returned (.int .u32 (opP 2 (ts.getD i zeroT) zs).2) ∧ Cs w0 w' C g c sd (ts.set i (opP 2 (ts.getD i zeroT) zs).1) ab an ap zs := by
  subst h4
  have h0 : 0 < 2 := by omega
  obtain ⟨y, rfl, _⟩ := h.word h0
  obtain ⟨a1, ha1⟩ : ∃ a1, zs.getD 1 0 = a1 := ⟨_, rfl⟩
  have HW1 : Hid (isW a1) := Lib.hid (by rw [← ha1]; exact h.isw 1)
  have HKp : Hid (∀ w' sd' ts', Cs w0 w' C g c sd' ts' (some y) 2 ap zs → w'.cell? ⟨C, 6, none⟩ = some (.slice (some y) 2 ap) ∧ w'.cell? ⟨y.block, y.off + 1, none⟩ = some (.int .u32 a1)) := Lib.hid (fun w' sd' ts' hc => ⟨hc.2.1.cell rfl, by have h9 := (hc.word (j := 1) (by omega)); obtain ⟨y', e1, e2⟩ := h9; obtain rfl := Option.some.inj e1; rw [ha1] at e2; exact e2⟩)
  have HC := Lib.hid h
  have HI := Lib.hid hi
  have HL := Lib.hid hl
  have H4 := Lib.hid h40
  have HX := Lib.hid (h.next hl)
  have HF := Lib.hid hf
  rcases hti : ts.getD i zeroT with ⟨⟨s0, s1, s2, s3⟩, es, x⟩
  rw [hti] at HX HF
  simp only at HX HF
  have HTi := Lib.hid hti
  have hop : opP 2 ((s0, s1, s2, s3), es, x) zs = ((delT ((s0, s1, s2, s3), es, x) a1).1, if (delT ((s0, s1, s2, s3), es, x) a1).2 = true then 1 else 0) := by rw [opP, if_neg (by omega), if_neg (by omega), if_pos rfl, ha1]
  have hnw : isW (delT ((s0, s1, s2, s3), es, x) a1).1.2.2 := by rw [del_next]; exact HX.out
  rcases hg : delT ((s0, s1, s2, s3), es, x) a1 with ⟨⟨⟨d0, d1, d2, d3⟩, de, dx⟩, db⟩
  rw [hg] at hop hnw
  simp only at hnw hop
  obtain ⟨tv, htv⟩ : ∃ tv : Int, (if db = true then 1 else 0) = tv := ⟨_, rfl⟩
  rw [htv] at hop
  have HTv := Lib.hid htv
  clear htv
  have HOp := Lib.hid hop
  have HG := Lib.hid hg
  have HN := Lib.hid hnw
  clear hop hg hnw h hi hl h40 hf hti ha1
  have HC0 := Lib.hid (HC.out.later (Below.refl _ _).drew)
  go_enter Tryd.func123, Tryd.ntmps123
  go_wp2_with fail
  refine wp_region_held_drew (S := (fun w' => w'.cell? ⟨C, 6, none⟩ = some (.slice (some y) 2 ap) ∧ w'.cell? ⟨y.block, y.off + 1, none⟩ = some (.int .u32 a1))) (by kernel_rfl) (HKp.out _ _ _ HC0.out) (fun hHeld => ?_)
  refine wpAnyH_yield (i := 0) (v := ?v0) rfl rfl (by kernel_rfl) (by kernel_rfl) (by kernel_rfl) (fun _ _ _ h => h) (by rfl) ?hy0 hHeld ?rest0
  case hy0 =>
    intro w hSw
    (try dsimp only at hSw)
    go_simp
    try with_reducible rfl
  simp only [Act.put, List.setIfInBounds_toArray, List.set_cons_zero, List.set_cons_succ]
  refine wpAnyH_yield (i := 2) (v := ?v2) rfl rfl (by kernel_rfl) (by kernel_rfl) (by kernel_rfl) (fun _ _ _ h => h) (by rfl) ?hy2 hHeld ?rest2
  case hy2 =>
    intro w hSw
    (try dsimp only at hSw)
    go_simp
    try with_reducible rfl
  simp only [Act.put, List.setIfInBounds_toArray, List.set_cons_zero, List.set_cons_succ]
  refine wpAnyH_yield (i := 3) (v := ?v3) rfl rfl (by kernel_rfl) (by kernel_rfl) (by kernel_rfl) (fun _ _ _ h => h) (by rfl) ?hy3 hHeld ?rest3
  case hy3 =>
    intro w hSw
    (try dsimp only at hSw)
    go_simp
    try with_reducible rfl
  simp only [Act.put, List.setIfInBounds_toArray, List.set_cons_zero, List.set_cons_succ]
  refine wpAnyH_yield (i := 4) (v := ?v4) rfl rfl (by kernel_rfl) (by kernel_rfl) (by kernel_rfl) (fun _ _ _ h => h) (by rfl) ?hy4 hHeld ?rest4
  case hy4 =>
    intro w hSw
    (try dsimp only at hSw)
    go_simp
    try with_reducible rfl
  simp only [Act.put, List.setIfInBounds_toArray, List.set_cons_zero, List.set_cons_succ]
  refine wpAnyH_yield (i := 5) (v := ?v5) rfl rfl (by kernel_rfl) (by kernel_rfl) (by kernel_rfl) (fun _ _ _ h => h) (by rfl) ?hy5 hHeld ?rest5
  case hy5 =>
    intro w hSw
    (try dsimp only at hSw)
    go_simp
    try with_reducible rfl
  simp only [Act.put, List.setIfInBounds_toArray, List.set_cons_zero, List.set_cons_succ]
  refine wpAnyH_yield (i := 6) (v := ?v6) rfl rfl (by kernel_rfl) (by kernel_rfl) (by kernel_rfl) (fun _ _ _ h => h) (by rfl) ?hy6 hHeld ?rest6
  case hy6 =>
    intro w hSw
    (try dsimp only at hSw)
    go_simp
    try with_reducible rfl
  simp only [Act.put, List.setIfInBounds_toArray, List.set_cons_zero, List.set_cons_succ]
  refine wpAnyH_yield (i := 7) (v := ?v7) rfl rfl (by kernel_rfl) (by kernel_rfl) (by kernel_rfl) (fun _ _ _ h => h) (by rfl) ?hy7 hHeld ?rest7
  case hy7 =>
    intro w hSw
    (try dsimp only at hSw)
    go_simp
    try with_reducible rfl
  simp only [Act.put, List.setIfInBounds_toArray, List.set_cons_zero, List.set_cons_succ]
  refine wpAnyH_ready (rs := [1, 12]) (by kernel_rfl) (by simp) ?_
  refine AllReadyH.cons rfl (fun K hK => ?_) ?_
  · go_simp
    have cna := named_any w0 w.drew C g c sd ts (some y) 2 ap zs i HC0.out h0 HI.out HL.out H4.out
    rw [HTi.out] at cna
    refine cna.mono ?_
    rintro e mna ⟨b, l, cc, rfl, hb, hE⟩
    clear cna
    have HCna := Lib.hid (HC0.out.later hb)
    have HEna := Lib.hid hE
    clear hb hE
    go_wp2_with fail
    refine hK.out _ _ (HKp.out _ _ _ HCna.out) (fun hHeld => ?_)
    clear hK K
    try simp only [Act.put, List.setIfInBounds_toArray, List.set_cons_zero, List.set_cons_succ]
    refine wpAnyH_ready (rs := [8, 12]) (by kernel_rfl) (by simp) ?_
    refine AllReadyH.cons rfl (fun K hK => ?_) ?_
    · go_simp
      have coa := tdel_any (s0, s1, s2, s3) b l cc x es a1 (mna) HEna.out HF.out HX.out
      rw [HG.out] at coa
      refine coa.mono ?_
      rintro e moa ⟨u, rfl, hb, hr0⟩
      clear coa
      have hr : Row moa (mna).heap.size u de := hr0
      have HCoa := Lib.hid (HCna.out.later hb)
      have HRoa := Lib.hid (hr.low (base' := w0.heap.size) HCna.out.1.size)
      obtain ⟨b2, p2, hu, _⟩ := hr.at
      subst hu
      clear hr hr0 hb
      go_wp2_with fail
      refine hK.out _ _ (HKp.out _ _ _ HCoa.out) (fun hHeld => ?_)
      clear hK K
      try simp only [Act.put, List.setIfInBounds_toArray, List.set_cons_zero, List.set_cons_succ]
      refine wpAnyH_yield (i := 9) (v := ?voa9) rfl rfl (by kernel_rfl) (by kernel_rfl) (by kernel_rfl) (fun _ _ _ h => h) (by rfl) ?hyoa9 hHeld ?restoa9
      case hyoa9 =>
        intro w hSw
        (try dsimp only at hSw)
        go_simp
        try with_reducible rfl
      simp only [Act.put, List.setIfInBounds_toArray, List.set_cons_zero, List.set_cons_succ]
      refine wpAnyH_yield (i := 10) (v := ?voa10) rfl rfl (by kernel_rfl) (by kernel_rfl) (by kernel_rfl) (fun _ _ _ h => h) (by rfl) ?hyoa10 hHeld ?restoa10
      case hyoa10 =>
        intro w hSw
        (try dsimp only at hSw)
        go_simp
        try with_reducible rfl
      simp only [Act.put, List.setIfInBounds_toArray, List.set_cons_zero, List.set_cons_succ]
      refine wpAnyH_yield (i := 11) (v := ?voa11) rfl rfl (by kernel_rfl) (by kernel_rfl) (by kernel_rfl) (fun _ _ _ h => h) (by rfl) ?hyoa11 hHeld ?restoa11
      case hyoa11 =>
        intro w hSw
        (try dsimp only at hSw)
        go_simp
        try with_reducible rfl
      simp only [Act.put, List.setIfInBounds_toArray, List.set_cons_zero, List.set_cons_succ]
      have HCaa := Lib.hid (HCoa.out.later (belowA moa (.cells #[.int .i64 0, .int .i64 0, .int .i64 0, .int .i64 0, .slice none 0 0, .int .u32 0] 42)))
      have HZaa : Hid (Box (moa.alloc (.cells #[.int .i64 0, .int .i64 0, .int .i64 0, .int .i64 0, .slice none 0 0, .int .u32 0] 42)) moa.heap.size 42 #[.int .i64 0, .int .i64 0, .int .i64 0, .int .i64 0, .slice none 0 0, .int .u32 0]) := Lib.hid (Box.new moa _ _)
      have hneaa : g ≠ moa.heap.size := by have h9 : g < moa.heap.size := HCoa.out.2.2.2.1.lt; omega
      have hszaa : w0.heap.size ≤ moa.heap.size := HCoa.out.1.size
      have HRaa := Lib.hid (HRoa.out.below (belowA moa (.cells #[.int .i64 0, .int .i64 0, .int .i64 0, .int .i64 0, .slice none 0 0, .int .u32 0] 42)))
      refine wpAnyH_ready (rs := [12]) (by kernel_rfl) (by simp) ?_
      refine AllReadyH.cons rfl (fun K hK => ?_) AllReadyH.nil
      go_simp
      refine hK.out _ _ (HKp.out _ _ _ HCaa.out) (fun hHeld => ?_)
      clear hK K
      try simp only [Act.put, List.setIfInBounds_toArray, List.set_cons_zero, List.set_cons_succ]
      refine wpAnyH_ready (rs := [13]) (by kernel_rfl) (by simp) ?_
      refine AllReadyH.cons rfl (fun K hK => ?_) AllReadyH.nil
      refine step_row _ (by rfl) 42 _ _ (by rfl) (by rfl) (moa.heap.size) #[.int .i64 d0, .int .i64 d1, .int .i64 d2, .int .i64 d3, .slice b2 de.length p2, .int .u32 dx] (by rfl) (by rfl) 42 _ HZaa.out (by kernel_rfl) rfl (by simp [Value.oneCell']) ?_
      have HCx := Lib.hid (HCaa.out.beside (cs' := #[.int .i64 d0, .int .i64 d1, .int .i64 d2, .int .i64 d3, .slice b2 de.length p2, .int .u32 dx]) HZaa.out hszaa hneaa)
      have HRx := Lib.hid (HRaa.out.apart HZaa.out (grownBy_setRow _ _ #[.int .i64 d0, .int .i64 d1, .int .i64 d2, .int .i64 d3, .slice b2 de.length p2, .int .u32 dx]))
      have HVx : Hid (Box ((moa.alloc (.cells #[.int .i64 0, .int .i64 0, .int .i64 0, .int .i64 0, .slice none 0 0, .int .u32 0] 42)).setRow (moa.heap.size) #[.int .i64 d0, .int .i64 d1, .int .i64 d2, .int .i64 d3, .slice b2 de.length p2, .int .u32 dx]) (moa.heap.size) 42 #[.int .i64 d0, .int .i64 d1, .int .i64 d2, .int .i64 d3, .slice b2 de.length p2, .int .u32 dx]) := Lib.hid (setRow_heap _ _ _ _ _ _ HZaa.out)
      refine hK.out _ _ (HKp.out _ _ _ HCx.out) (fun hHeld => ?_)
      clear hK K
      try simp only [Act.put, List.setIfInBounds_toArray, List.set_cons_zero, List.set_cons_succ]
      refine wpAnyH_yield (i := 14) (v := ?vsa14) rfl rfl (by kernel_rfl) (by kernel_rfl) (by kernel_rfl) (fun _ _ _ h => h) (by rfl) ?hysa14 hHeld ?restsa14
      case hysa14 =>
        intro w hSw
        (try dsimp only at hSw)
        go_simp
        try with_reducible rfl
      simp only [Act.put, List.setIfInBounds_toArray, List.set_cons_zero, List.set_cons_succ]
      refine wpAnyH_done (by kernel_rfl) ?_ _
      generalize hXX : World.setRow (moa.alloc (.cells #[.int .i64 0, .int .i64 0, .int .i64 0, .int .i64 0, .slice none 0 0, .int .u32 0] 42)) (moa.heap.size) #[.int .i64 d0, .int .i64 d1, .int .i64 d2, .int .i64 d3, .slice b2 de.length p2, .int .u32 dx] = X at *
      generalize hTT : moa.heap.size = T1 at *
      clear hXX hTT hHeld
      obtain ⟨q0, q1, q2, q3, q4, q5⟩ := Box.tb (s := (d0, d1, d2, d3)) HVx.out
      simp only at q0 q1 q2 q3 q4 q5
      go_wp2_with fail
      clear q0 q1 q2 q3 q4 q5
      have c9 := replace_any w0 X C g c sd ts (some y) 2 ap zs i HCx.out h0 HI.out HL.out H4.out (d0, d1, d2, d3) b2 de.length p2 de dx HRx.out HN.out
      refine c9.mono ?_
      rintro e m9 ⟨rfl, hc9⟩
      have HC9 := Lib.hid hc9
      clear c9 hc9
      go_wp2_with fail
      have c10 := truth_any db m9
      rw [HTv.out] at c10
      refine c10.mono ?_
      rintro e m10 ⟨rfl, rfl⟩
      clear c10
      go_wp2_with fail
      go_ret
      rw [HOp.out]
      exact ⟨rfl, HC9.out⟩
    have HCab := Lib.hid (HCna.out.later (belowA mna (.cells #[.int .i64 0, .int .i64 0, .int .i64 0, .int .i64 0, .slice none 0 0, .int .u32 0] 42)))
    have HZab : Hid (Box (mna.alloc (.cells #[.int .i64 0, .int .i64 0, .int .i64 0, .int .i64 0, .slice none 0 0, .int .u32 0] 42)) mna.heap.size 42 #[.int .i64 0, .int .i64 0, .int .i64 0, .int .i64 0, .slice none 0 0, .int .u32 0]) := Lib.hid (Box.new mna _ _)
    have hneab : g ≠ mna.heap.size := by have h9 : g < mna.heap.size := HCna.out.2.2.2.1.lt; omega
    have hszab : w0.heap.size ≤ mna.heap.size := HCna.out.1.size
    have HEab := Lib.hid (HEna.out.below (belowA mna (.cells #[.int .i64 0, .int .i64 0, .int .i64 0, .int .i64 0, .slice none 0 0, .int .u32 0] 42)))
    refine AllReadyH.cons rfl (fun K hK => ?_) AllReadyH.nil
    go_simp
    refine hK.out _ _ (HKp.out _ _ _ HCab.out) (fun hHeld => ?_)
    clear hK K
    try simp only [Act.put, List.setIfInBounds_toArray, List.set_cons_zero, List.set_cons_succ]
    refine wpAnyH_ready (rs := [8]) (by kernel_rfl) (by simp) ?_
    refine AllReadyH.cons rfl (fun K hK => ?_) AllReadyH.nil
    go_simp
    have cob := tdel_any (s0, s1, s2, s3) b l cc x es a1 ((mna.alloc (.cells #[.int .i64 0, .int .i64 0, .int .i64 0, .int .i64 0, .slice none 0 0, .int .u32 0] 42))) HEab.out HF.out HX.out
    rw [HG.out] at cob
    refine cob.mono ?_
    rintro e mob ⟨u, rfl, hb, hr0⟩
    clear cob
    have hr : Row mob ((mna.alloc (.cells #[.int .i64 0, .int .i64 0, .int .i64 0, .int .i64 0, .slice none 0 0, .int .u32 0] 42))).heap.size u de := hr0
    have HCob := Lib.hid (HCab.out.later hb)
    have HRob := Lib.hid (hr.low (base' := w0.heap.size) HCab.out.1.size)
    obtain ⟨b2, p2, hu, _⟩ := hr.at
    subst hu
    have HZob := Lib.hid (HZab.out.later hb)
    clear hr hr0 hb
    go_wp2_with fail
    refine hK.out _ _ (HKp.out _ _ _ HCob.out) (fun hHeld => ?_)
    clear hK K
    try simp only [Act.put, List.setIfInBounds_toArray, List.set_cons_zero, List.set_cons_succ]
    refine wpAnyH_yield (i := 9) (v := ?vob9) rfl rfl (by kernel_rfl) (by kernel_rfl) (by kernel_rfl) (fun _ _ _ h => h) (by rfl) ?hyob9 hHeld ?restob9
    case hyob9 =>
      intro w hSw
      (try dsimp only at hSw)
      go_simp
      try with_reducible rfl
    simp only [Act.put, List.setIfInBounds_toArray, List.set_cons_zero, List.set_cons_succ]
    refine wpAnyH_yield (i := 10) (v := ?vob10) rfl rfl (by kernel_rfl) (by kernel_rfl) (by kernel_rfl) (fun _ _ _ h => h) (by rfl) ?hyob10 hHeld ?restob10
    case hyob10 =>
      intro w hSw
      (try dsimp only at hSw)
      go_simp
      try with_reducible rfl
    simp only [Act.put, List.setIfInBounds_toArray, List.set_cons_zero, List.set_cons_succ]
    refine wpAnyH_yield (i := 11) (v := ?vob11) rfl rfl (by kernel_rfl) (by kernel_rfl) (by kernel_rfl) (fun _ _ _ h => h) (by rfl) ?hyob11 hHeld ?restob11
    case hyob11 =>
      intro w hSw
      (try dsimp only at hSw)
      go_simp
      try with_reducible rfl
    simp only [Act.put, List.setIfInBounds_toArray, List.set_cons_zero, List.set_cons_succ]
    refine wpAnyH_ready (rs := [13]) (by kernel_rfl) (by simp) ?_
    refine AllReadyH.cons rfl (fun K hK => ?_) AllReadyH.nil
    refine step_row _ (by rfl) 42 _ _ (by rfl) (by rfl) (mna.heap.size) #[.int .i64 d0, .int .i64 d1, .int .i64 d2, .int .i64 d3, .slice b2 de.length p2, .int .u32 dx] (by rfl) (by rfl) 42 _ HZob.out (by kernel_rfl) rfl (by simp [Value.oneCell']) ?_
    have HCx := Lib.hid (HCob.out.beside (cs' := #[.int .i64 d0, .int .i64 d1, .int .i64 d2, .int .i64 d3, .slice b2 de.length p2, .int .u32 dx]) HZob.out hszab hneab)
    have HRx := Lib.hid (HRob.out.apart HZob.out (grownBy_setRow _ _ #[.int .i64 d0, .int .i64 d1, .int .i64 d2, .int .i64 d3, .slice b2 de.length p2, .int .u32 dx]))
    have HVx : Hid (Box (mob.setRow (mna.heap.size) #[.int .i64 d0, .int .i64 d1, .int .i64 d2, .int .i64 d3, .slice b2 de.length p2, .int .u32 dx]) (mna.heap.size) 42 #[.int .i64 d0, .int .i64 d1, .int .i64 d2, .int .i64 d3, .slice b2 de.length p2, .int .u32 dx]) := Lib.hid (setRow_heap _ _ _ _ _ _ HZob.out)
    refine hK.out _ _ (HKp.out _ _ _ HCx.out) (fun hHeld => ?_)
    clear hK K
    try simp only [Act.put, List.setIfInBounds_toArray, List.set_cons_zero, List.set_cons_succ]
    refine wpAnyH_yield (i := 14) (v := ?vsb14) rfl rfl (by kernel_rfl) (by kernel_rfl) (by kernel_rfl) (fun _ _ _ h => h) (by rfl) ?hysb14 hHeld ?restsb14
    case hysb14 =>
      intro w hSw
      (try dsimp only at hSw)
      go_simp
      try with_reducible rfl
    simp only [Act.put, List.setIfInBounds_toArray, List.set_cons_zero, List.set_cons_succ]
    refine wpAnyH_done (by kernel_rfl) ?_ _
    generalize hXX : World.setRow mob (mna.heap.size) #[.int .i64 d0, .int .i64 d1, .int .i64 d2, .int .i64 d3, .slice b2 de.length p2, .int .u32 dx] = X at *
    generalize hTT : mna.heap.size = T1 at *
    clear hXX hTT hHeld
    obtain ⟨q0, q1, q2, q3, q4, q5⟩ := Box.tb (s := (d0, d1, d2, d3)) HVx.out
    simp only at q0 q1 q2 q3 q4 q5
    go_wp2_with fail
    clear q0 q1 q2 q3 q4 q5
    have c9 := replace_any w0 X C g c sd ts (some y) 2 ap zs i HCx.out h0 HI.out HL.out H4.out (d0, d1, d2, d3) b2 de.length p2 de dx HRx.out HN.out
    refine c9.mono ?_
    rintro e m9 ⟨rfl, hc9⟩
    have HC9 := Lib.hid hc9
    clear c9 hc9
    go_wp2_with fail
    have c10 := truth_any db m9
    rw [HTv.out] at c10
    refine c10.mono ?_
    rintro e m10 ⟨rfl, rfl⟩
    clear c10
    go_wp2_with fail
    go_ret
    rw [HOp.out]
    exact ⟨rfl, HC9.out⟩
  have HCac := Lib.hid (HC0.out.later (belowA w.drew (.cells #[.int .i64 0, .int .i64 0, .int .i64 0, .int .i64 0, .slice none 0 0, .int .u32 0] 42)))
  have HZac : Hid (Box (w.drew.alloc (.cells #[.int .i64 0, .int .i64 0, .int .i64 0, .int .i64 0, .slice none 0 0, .int .u32 0] 42)) w.heap.size 42 #[.int .i64 0, .int .i64 0, .int .i64 0, .int .i64 0, .slice none 0 0, .int .u32 0]) := Lib.hid (Box.new w.drew _ _)
  have hneac : g ≠ w.heap.size := by have h9 : g < w.heap.size := HC0.out.2.2.2.1.lt; omega
  have hszac : w0.heap.size ≤ w.heap.size := HC0.out.1.size
  refine AllReadyH.cons rfl (fun K hK => ?_) AllReadyH.nil
  go_simp
  refine hK.out _ _ (HKp.out _ _ _ HCac.out) (fun hHeld => ?_)
  clear hK K
  try simp only [Act.put, List.setIfInBounds_toArray, List.set_cons_zero, List.set_cons_succ]
  refine wpAnyH_ready (rs := [1]) (by kernel_rfl) (by simp) ?_
  refine AllReadyH.cons rfl (fun K hK => ?_) AllReadyH.nil
  go_simp
  have cnc := named_any w0 (w.drew.alloc (.cells #[.int .i64 0, .int .i64 0, .int .i64 0, .int .i64 0, .slice none 0 0, .int .u32 0] 42)) C g c sd ts (some y) 2 ap zs i HCac.out h0 HI.out HL.out H4.out
  rw [HTi.out] at cnc
  refine cnc.mono ?_
  rintro e mnc ⟨b, l, cc, rfl, hb, hE⟩
  clear cnc
  have HCnc := Lib.hid (HCac.out.later hb)
  have HEnc := Lib.hid hE
  have HZnc := Lib.hid (HZac.out.later hb)
  clear hb hE
  go_wp2_with fail
  refine hK.out _ _ (HKp.out _ _ _ HCnc.out) (fun hHeld => ?_)
  clear hK K
  try simp only [Act.put, List.setIfInBounds_toArray, List.set_cons_zero, List.set_cons_succ]
  refine wpAnyH_ready (rs := [8]) (by kernel_rfl) (by simp) ?_
  refine AllReadyH.cons rfl (fun K hK => ?_) AllReadyH.nil
  go_simp
  have coc := tdel_any (s0, s1, s2, s3) b l cc x es a1 (mnc) HEnc.out HF.out HX.out
  rw [HG.out] at coc
  refine coc.mono ?_
  rintro e moc ⟨u, rfl, hb, hr0⟩
  clear coc
  have hr : Row moc (mnc).heap.size u de := hr0
  have HCoc := Lib.hid (HCnc.out.later hb)
  have HRoc := Lib.hid (hr.low (base' := w0.heap.size) HCnc.out.1.size)
  obtain ⟨b2, p2, hu, _⟩ := hr.at
  subst hu
  have HZoc := Lib.hid (HZnc.out.later hb)
  clear hr hr0 hb
  go_wp2_with fail
  refine hK.out _ _ (HKp.out _ _ _ HCoc.out) (fun hHeld => ?_)
  clear hK K
  try simp only [Act.put, List.setIfInBounds_toArray, List.set_cons_zero, List.set_cons_succ]
  refine wpAnyH_yield (i := 9) (v := ?voc9) rfl rfl (by kernel_rfl) (by kernel_rfl) (by kernel_rfl) (fun _ _ _ h => h) (by rfl) ?hyoc9 hHeld ?restoc9
  case hyoc9 =>
    intro w hSw
    (try dsimp only at hSw)
    go_simp
    try with_reducible rfl
  simp only [Act.put, List.setIfInBounds_toArray, List.set_cons_zero, List.set_cons_succ]
  refine wpAnyH_yield (i := 10) (v := ?voc10) rfl rfl (by kernel_rfl) (by kernel_rfl) (by kernel_rfl) (fun _ _ _ h => h) (by rfl) ?hyoc10 hHeld ?restoc10
  case hyoc10 =>
    intro w hSw
    (try dsimp only at hSw)
    go_simp
    try with_reducible rfl
  simp only [Act.put, List.setIfInBounds_toArray, List.set_cons_zero, List.set_cons_succ]
  refine wpAnyH_yield (i := 11) (v := ?voc11) rfl rfl (by kernel_rfl) (by kernel_rfl) (by kernel_rfl) (fun _ _ _ h => h) (by rfl) ?hyoc11 hHeld ?restoc11
  case hyoc11 =>
    intro w hSw
    (try dsimp only at hSw)
    go_simp
    try with_reducible rfl
  simp only [Act.put, List.setIfInBounds_toArray, List.set_cons_zero, List.set_cons_succ]
  refine wpAnyH_ready (rs := [13]) (by kernel_rfl) (by simp) ?_
  refine AllReadyH.cons rfl (fun K hK => ?_) AllReadyH.nil
  refine step_row _ (by rfl) 42 _ _ (by rfl) (by rfl) (w.heap.size) #[.int .i64 d0, .int .i64 d1, .int .i64 d2, .int .i64 d3, .slice b2 de.length p2, .int .u32 dx] (by rfl) (by rfl) 42 _ HZoc.out (by kernel_rfl) rfl (by simp [Value.oneCell']) ?_
  have HCx := Lib.hid (HCoc.out.beside (cs' := #[.int .i64 d0, .int .i64 d1, .int .i64 d2, .int .i64 d3, .slice b2 de.length p2, .int .u32 dx]) HZoc.out hszac hneac)
  have HRx := Lib.hid (HRoc.out.apart HZoc.out (grownBy_setRow _ _ #[.int .i64 d0, .int .i64 d1, .int .i64 d2, .int .i64 d3, .slice b2 de.length p2, .int .u32 dx]))
  have HVx : Hid (Box (moc.setRow (w.heap.size) #[.int .i64 d0, .int .i64 d1, .int .i64 d2, .int .i64 d3, .slice b2 de.length p2, .int .u32 dx]) (w.heap.size) 42 #[.int .i64 d0, .int .i64 d1, .int .i64 d2, .int .i64 d3, .slice b2 de.length p2, .int .u32 dx]) := Lib.hid (setRow_heap _ _ _ _ _ _ HZoc.out)
  refine hK.out _ _ (HKp.out _ _ _ HCx.out) (fun hHeld => ?_)
  clear hK K
  try simp only [Act.put, List.setIfInBounds_toArray, List.set_cons_zero, List.set_cons_succ]
  refine wpAnyH_yield (i := 14) (v := ?vsc14) rfl rfl (by kernel_rfl) (by kernel_rfl) (by kernel_rfl) (fun _ _ _ h => h) (by rfl) ?hysc14 hHeld ?restsc14
  case hysc14 =>
    intro w hSw
    (try dsimp only at hSw)
    go_simp
    try with_reducible rfl
  simp only [Act.put, List.setIfInBounds_toArray, List.set_cons_zero, List.set_cons_succ]
  refine wpAnyH_done (by kernel_rfl) ?_ _
  generalize hXX : World.setRow moc (w.heap.size) #[.int .i64 d0, .int .i64 d1, .int .i64 d2, .int .i64 d3, .slice b2 de.length p2, .int .u32 dx] = X at *
  generalize hTT : w.heap.size = T1 at *
  clear hXX hTT hHeld
  obtain ⟨q0, q1, q2, q3, q4, q5⟩ := Box.tb (s := (d0, d1, d2, d3)) HVx.out
  simp only at q0 q1 q2 q3 q4 q5
  go_wp2_with fail
  clear q0 q1 q2 q3 q4 q5
  have c9 := replace_any w0 X C g c sd ts (some y) 2 ap zs i HCx.out h0 HI.out HL.out H4.out (d0, d1, d2, d3) b2 de.length p2 de dx HRx.out HN.out
  refine c9.mono ?_
  rintro e m9 ⟨rfl, hc9⟩
  have HC9 := Lib.hid hc9
  clear c9 hc9
  go_wp2_with fail
  have c10 := truth_any db m9
  rw [HTv.out] at c10
  refine c10.mono ?_
  rintro e m10 ⟨rfl, rfl⟩
  clear c10
  go_wp2_with fail
  go_ret
  rw [HOp.out]
  exact ⟨rfl, HC9.out⟩
set_option maxRecDepth 100000 in
set_option maxHeartbeats 8000000 in
theorem has_m (w0 w : World) (C g : Nat) (c : Cx) (sd : Int) (ts : List Tb) (ab : Option Addr) (an ap : Nat) (zs : List Int) (i : Nat) (h : Cs w0 w C g c sd ts ab an ap zs) (h4 : an = 2) (hi : zs.getD 0 0 = (i : Int)) (hl : i < ts.length) (h40 : ts.length ≤ 40) (hf : fewE (ts.getD i zeroT).2.1) :
    Calls Tryd.prog 124 #[.pointer (some ⟨C, 0, none⟩)] w fun e w' => e = .returned (.int .u32 (opP 3 (ts.getD i zeroT) zs).2) ∧ Cs w0 w' C g c sd (ts.set i (opP 3 (ts.getD i zeroT) zs).1) ab an ap zs := by
  subst h4
  have h0 : 0 < 2 := by omega
  obtain ⟨y, rfl, _⟩ := h.word h0
  obtain ⟨a1, ha1⟩ : ∃ a1, zs.getD 1 0 = a1 := ⟨_, rfl⟩
  have HW1 : Hid (isW a1) := Lib.hid (by rw [← ha1]; exact h.isw 1)
  have HKp : Hid (∀ w' sd' ts', Cs w0 w' C g c sd' ts' (some y) 2 ap zs → w'.cell? ⟨C, 6, none⟩ = some (.slice (some y) 2 ap) ∧ w'.cell? ⟨y.block, y.off + 1, none⟩ = some (.int .u32 a1)) := Lib.hid (fun w' sd' ts' hc => ⟨hc.2.1.cell rfl, by have h9 := (hc.word (j := 1) (by omega)); obtain ⟨y', e1, e2⟩ := h9; obtain rfl := Option.some.inj e1; rw [ha1] at e2; exact e2⟩)
  have HC := Lib.hid h
  have HI := Lib.hid hi
  have HL := Lib.hid hl
  have H4 := Lib.hid h40
  have HX := Lib.hid (h.next hl)
  have HF := Lib.hid hf
  rcases hti : ts.getD i zeroT with ⟨⟨s0, s1, s2, s3⟩, es, x⟩
  rw [hti] at HX HF
  simp only at HX HF
  have HTi := Lib.hid hti
  have hop : opP 3 ((s0, s1, s2, s3), es, x) zs = (((s0, s1, s2, s3), es, x), if (getT ((s0, s1, s2, s3), es, x) a1 0).2.2 = true then 1 else 0) := by rw [opP, if_neg (by omega), if_neg (by omega), if_neg (by omega), if_pos rfl, ha1]
  have hnw : isW (getT ((s0, s1, s2, s3), es, x) a1 0).1.2.2 := by rw [get_next]; exact HX.out
  rcases hg : getT ((s0, s1, s2, s3), es, x) a1 0 with ⟨⟨⟨d0, d1, d2, d3⟩, de, dx⟩, dv, db⟩
  rw [hg] at hop hnw
  simp only at hnw hop
  obtain ⟨tv, htv⟩ : ∃ tv : Int, (if db = true then 1 else 0) = tv := ⟨_, rfl⟩
  rw [htv] at hop
  have HTv := Lib.hid htv
  clear htv
  have HOp := Lib.hid hop
  have HG := Lib.hid hg
  have HN := Lib.hid hnw
  clear hop hg hnw h hi hl h40 hf hti ha1
  have HC0 := Lib.hid (HC.out.later (Below.refl _ _).drew)
  go_enter Tryd.func124, Tryd.ntmps124
  go_wp2_with fail
  refine wp_region_held_drew (S := (fun w' => w'.cell? ⟨C, 6, none⟩ = some (.slice (some y) 2 ap) ∧ w'.cell? ⟨y.block, y.off + 1, none⟩ = some (.int .u32 a1))) (by kernel_rfl) (HKp.out _ _ _ HC0.out) (fun hHeld => ?_)
  refine wpAnyH_yield (i := 0) (v := ?v0) rfl rfl (by kernel_rfl) (by kernel_rfl) (by kernel_rfl) (fun _ _ _ h => h) (by rfl) ?hy0 hHeld ?rest0
  case hy0 =>
    intro w hSw
    (try dsimp only at hSw)
    go_simp
    try with_reducible rfl
  simp only [Act.put, List.setIfInBounds_toArray, List.set_cons_zero, List.set_cons_succ]
  refine wpAnyH_yield (i := 2) (v := ?v2) rfl rfl (by kernel_rfl) (by kernel_rfl) (by kernel_rfl) (fun _ _ _ h => h) (by rfl) ?hy2 hHeld ?rest2
  case hy2 =>
    intro w hSw
    (try dsimp only at hSw)
    go_simp
    try with_reducible rfl
  simp only [Act.put, List.setIfInBounds_toArray, List.set_cons_zero, List.set_cons_succ]
  refine wpAnyH_yield (i := 3) (v := ?v3) rfl rfl (by kernel_rfl) (by kernel_rfl) (by kernel_rfl) (fun _ _ _ h => h) (by rfl) ?hy3 hHeld ?rest3
  case hy3 =>
    intro w hSw
    (try dsimp only at hSw)
    go_simp
    try with_reducible rfl
  simp only [Act.put, List.setIfInBounds_toArray, List.set_cons_zero, List.set_cons_succ]
  refine wpAnyH_yield (i := 4) (v := ?v4) rfl rfl (by kernel_rfl) (by kernel_rfl) (by kernel_rfl) (fun _ _ _ h => h) (by rfl) ?hy4 hHeld ?rest4
  case hy4 =>
    intro w hSw
    (try dsimp only at hSw)
    go_simp
    try with_reducible rfl
  simp only [Act.put, List.setIfInBounds_toArray, List.set_cons_zero, List.set_cons_succ]
  refine wpAnyH_yield (i := 5) (v := ?v5) rfl rfl (by kernel_rfl) (by kernel_rfl) (by kernel_rfl) (fun _ _ _ h => h) (by rfl) ?hy5 hHeld ?rest5
  case hy5 =>
    intro w hSw
    (try dsimp only at hSw)
    go_simp
    try with_reducible rfl
  simp only [Act.put, List.setIfInBounds_toArray, List.set_cons_zero, List.set_cons_succ]
  refine wpAnyH_yield (i := 6) (v := ?v6) rfl rfl (by kernel_rfl) (by kernel_rfl) (by kernel_rfl) (fun _ _ _ h => h) (by rfl) ?hy6 hHeld ?rest6
  case hy6 =>
    intro w hSw
    (try dsimp only at hSw)
    go_simp
    try with_reducible rfl
  simp only [Act.put, List.setIfInBounds_toArray, List.set_cons_zero, List.set_cons_succ]
  refine wpAnyH_yield (i := 7) (v := ?v7) rfl rfl (by kernel_rfl) (by kernel_rfl) (by kernel_rfl) (fun _ _ _ h => h) (by rfl) ?hy7 hHeld ?rest7
  case hy7 =>
    intro w hSw
    (try dsimp only at hSw)
    go_simp
    try with_reducible rfl
  simp only [Act.put, List.setIfInBounds_toArray, List.set_cons_zero, List.set_cons_succ]
  refine wpAnyH_ready (rs := [1, 13]) (by kernel_rfl) (by simp) ?_
  refine AllReadyH.cons rfl (fun K hK => ?_) ?_
  · go_simp
    have cna := named_any w0 w.drew C g c sd ts (some y) 2 ap zs i HC0.out h0 HI.out HL.out H4.out
    rw [HTi.out] at cna
    refine cna.mono ?_
    rintro e mna ⟨b, l, cc, rfl, hb, hE⟩
    clear cna
    have HCna := Lib.hid (HC0.out.later hb)
    have HEna := Lib.hid hE
    clear hb hE
    go_wp2_with fail
    refine hK.out _ _ (HKp.out _ _ _ HCna.out) (fun hHeld => ?_)
    clear hK K
    try simp only [Act.put, List.setIfInBounds_toArray, List.set_cons_zero, List.set_cons_succ]
    refine wpAnyH_ready (rs := [8, 13]) (by kernel_rfl) (by simp) ?_
    refine AllReadyH.cons rfl (fun K hK => ?_) ?_
    · go_simp
      have coa := tget_any (s0, s1, s2, s3) b l cc x es a1 0 (mna) HEna.out HF.out HX.out isW_zero
      rw [HG.out] at coa
      refine coa.mono ?_
      rintro e moa ⟨u, rfl, hb, hr0⟩
      clear coa
      have hr : Row moa (mna).heap.size u de := hr0
      have HCoa := Lib.hid (HCna.out.later hb)
      have HRoa := Lib.hid (hr.low (base' := w0.heap.size) HCna.out.1.size)
      obtain ⟨b2, p2, hu, _⟩ := hr.at
      subst hu
      clear hr hr0 hb
      go_wp2_with fail
      refine hK.out _ _ (HKp.out _ _ _ HCoa.out) (fun hHeld => ?_)
      clear hK K
      try simp only [Act.put, List.setIfInBounds_toArray, List.set_cons_zero, List.set_cons_succ]
      refine wpAnyH_yield (i := 9) (v := ?voa9) rfl rfl (by kernel_rfl) (by kernel_rfl) (by kernel_rfl) (fun _ _ _ h => h) (by rfl) ?hyoa9 hHeld ?restoa9
      case hyoa9 =>
        intro w hSw
        (try dsimp only at hSw)
        go_simp
        try with_reducible rfl
      simp only [Act.put, List.setIfInBounds_toArray, List.set_cons_zero, List.set_cons_succ]
      refine wpAnyH_yield (i := 10) (v := ?voa10) rfl rfl (by kernel_rfl) (by kernel_rfl) (by kernel_rfl) (fun _ _ _ h => h) (by rfl) ?hyoa10 hHeld ?restoa10
      case hyoa10 =>
        intro w hSw
        (try dsimp only at hSw)
        go_simp
        try with_reducible rfl
      simp only [Act.put, List.setIfInBounds_toArray, List.set_cons_zero, List.set_cons_succ]
      refine wpAnyH_yield (i := 11) (v := ?voa11) rfl rfl (by kernel_rfl) (by kernel_rfl) (by kernel_rfl) (fun _ _ _ h => h) (by rfl) ?hyoa11 hHeld ?restoa11
      case hyoa11 =>
        intro w hSw
        (try dsimp only at hSw)
        go_simp
        try with_reducible rfl
      simp only [Act.put, List.setIfInBounds_toArray, List.set_cons_zero, List.set_cons_succ]
      refine wpAnyH_yield (i := 12) (v := ?voa12) rfl rfl (by kernel_rfl) (by kernel_rfl) (by kernel_rfl) (fun _ _ _ h => h) (by rfl) ?hyoa12 hHeld ?restoa12
      case hyoa12 =>
        intro w hSw
        (try dsimp only at hSw)
        go_simp
        try with_reducible rfl
      simp only [Act.put, List.setIfInBounds_toArray, List.set_cons_zero, List.set_cons_succ]
      have HCaa := Lib.hid (HCoa.out.later (belowA moa (.cells #[.int .i64 0, .int .i64 0, .int .i64 0, .int .i64 0, .slice none 0 0, .int .u32 0] 42)))
      have HZaa : Hid (Box (moa.alloc (.cells #[.int .i64 0, .int .i64 0, .int .i64 0, .int .i64 0, .slice none 0 0, .int .u32 0] 42)) moa.heap.size 42 #[.int .i64 0, .int .i64 0, .int .i64 0, .int .i64 0, .slice none 0 0, .int .u32 0]) := Lib.hid (Box.new moa _ _)
      have hneaa : g ≠ moa.heap.size := by have h9 : g < moa.heap.size := HCoa.out.2.2.2.1.lt; omega
      have hszaa : w0.heap.size ≤ moa.heap.size := HCoa.out.1.size
      have HRaa := Lib.hid (HRoa.out.below (belowA moa (.cells #[.int .i64 0, .int .i64 0, .int .i64 0, .int .i64 0, .slice none 0 0, .int .u32 0] 42)))
      refine wpAnyH_ready (rs := [13]) (by kernel_rfl) (by simp) ?_
      refine AllReadyH.cons rfl (fun K hK => ?_) AllReadyH.nil
      go_simp
      refine hK.out _ _ (HKp.out _ _ _ HCaa.out) (fun hHeld => ?_)
      clear hK K
      try simp only [Act.put, List.setIfInBounds_toArray, List.set_cons_zero, List.set_cons_succ]
      refine wpAnyH_ready (rs := [14]) (by kernel_rfl) (by simp) ?_
      refine AllReadyH.cons rfl (fun K hK => ?_) AllReadyH.nil
      refine step_row _ (by rfl) 42 _ _ (by rfl) (by rfl) (moa.heap.size) #[.int .i64 d0, .int .i64 d1, .int .i64 d2, .int .i64 d3, .slice b2 de.length p2, .int .u32 dx] (by rfl) (by rfl) 42 _ HZaa.out (by kernel_rfl) rfl (by simp [Value.oneCell']) ?_
      have HCx := Lib.hid (HCaa.out.beside (cs' := #[.int .i64 d0, .int .i64 d1, .int .i64 d2, .int .i64 d3, .slice b2 de.length p2, .int .u32 dx]) HZaa.out hszaa hneaa)
      have HRx := Lib.hid (HRaa.out.apart HZaa.out (grownBy_setRow _ _ #[.int .i64 d0, .int .i64 d1, .int .i64 d2, .int .i64 d3, .slice b2 de.length p2, .int .u32 dx]))
      have HVx : Hid (Box ((moa.alloc (.cells #[.int .i64 0, .int .i64 0, .int .i64 0, .int .i64 0, .slice none 0 0, .int .u32 0] 42)).setRow (moa.heap.size) #[.int .i64 d0, .int .i64 d1, .int .i64 d2, .int .i64 d3, .slice b2 de.length p2, .int .u32 dx]) (moa.heap.size) 42 #[.int .i64 d0, .int .i64 d1, .int .i64 d2, .int .i64 d3, .slice b2 de.length p2, .int .u32 dx]) := Lib.hid (setRow_heap _ _ _ _ _ _ HZaa.out)
      refine hK.out _ _ (HKp.out _ _ _ HCx.out) (fun hHeld => ?_)
      clear hK K
      try simp only [Act.put, List.setIfInBounds_toArray, List.set_cons_zero, List.set_cons_succ]
      refine wpAnyH_yield (i := 15) (v := ?vsa15) rfl rfl (by kernel_rfl) (by kernel_rfl) (by kernel_rfl) (fun _ _ _ h => h) (by rfl) ?hysa15 hHeld ?restsa15
      case hysa15 =>
        intro w hSw
        (try dsimp only at hSw)
        go_simp
        try with_reducible rfl
      simp only [Act.put, List.setIfInBounds_toArray, List.set_cons_zero, List.set_cons_succ]
      refine wpAnyH_yield (i := 16) (v := ?vsa16) rfl rfl (by kernel_rfl) (by kernel_rfl) (by kernel_rfl) (fun _ _ _ h => h) (by rfl) ?hysa16 hHeld ?restsa16
      case hysa16 =>
        intro w hSw
        (try dsimp only at hSw)
        go_simp
        try with_reducible rfl
      simp only [Act.put, List.setIfInBounds_toArray, List.set_cons_zero, List.set_cons_succ]
      refine wpAnyH_done (by kernel_rfl) ?_ _
      generalize hXX : World.setRow (moa.alloc (.cells #[.int .i64 0, .int .i64 0, .int .i64 0, .int .i64 0, .slice none 0 0, .int .u32 0] 42)) (moa.heap.size) #[.int .i64 d0, .int .i64 d1, .int .i64 d2, .int .i64 d3, .slice b2 de.length p2, .int .u32 dx] = X at *
      generalize hTT : moa.heap.size = T1 at *
      clear hXX hTT hHeld
      go_wp2_with fail
      have c10 := truth_any db X
      rw [HTv.out] at c10
      refine c10.mono ?_
      rintro e m10 ⟨rfl, rfl⟩
      clear c10
      go_wp2_with fail
      go_ret
      rw [HOp.out]
      have h8 := list_put HL.out
      rw [HTi.out] at h8
      simp only
      rw [h8]
      exact ⟨rfl, HCx.out⟩
    have HCab := Lib.hid (HCna.out.later (belowA mna (.cells #[.int .i64 0, .int .i64 0, .int .i64 0, .int .i64 0, .slice none 0 0, .int .u32 0] 42)))
    have HZab : Hid (Box (mna.alloc (.cells #[.int .i64 0, .int .i64 0, .int .i64 0, .int .i64 0, .slice none 0 0, .int .u32 0] 42)) mna.heap.size 42 #[.int .i64 0, .int .i64 0, .int .i64 0, .int .i64 0, .slice none 0 0, .int .u32 0]) := Lib.hid (Box.new mna _ _)
    have hneab : g ≠ mna.heap.size := by have h9 : g < mna.heap.size := HCna.out.2.2.2.1.lt; omega
    have hszab : w0.heap.size ≤ mna.heap.size := HCna.out.1.size
    have HEab := Lib.hid (HEna.out.below (belowA mna (.cells #[.int .i64 0, .int .i64 0, .int .i64 0, .int .i64 0, .slice none 0 0, .int .u32 0] 42)))
    refine AllReadyH.cons rfl (fun K hK => ?_) AllReadyH.nil
    go_simp
    refine hK.out _ _ (HKp.out _ _ _ HCab.out) (fun hHeld => ?_)
    clear hK K
    try simp only [Act.put, List.setIfInBounds_toArray, List.set_cons_zero, List.set_cons_succ]
    refine wpAnyH_ready (rs := [8]) (by kernel_rfl) (by simp) ?_
    refine AllReadyH.cons rfl (fun K hK => ?_) AllReadyH.nil
    go_simp
    have cob := tget_any (s0, s1, s2, s3) b l cc x es a1 0 ((mna.alloc (.cells #[.int .i64 0, .int .i64 0, .int .i64 0, .int .i64 0, .slice none 0 0, .int .u32 0] 42))) HEab.out HF.out HX.out isW_zero
    rw [HG.out] at cob
    refine cob.mono ?_
    rintro e mob ⟨u, rfl, hb, hr0⟩
    clear cob
    have hr : Row mob ((mna.alloc (.cells #[.int .i64 0, .int .i64 0, .int .i64 0, .int .i64 0, .slice none 0 0, .int .u32 0] 42))).heap.size u de := hr0
    have HCob := Lib.hid (HCab.out.later hb)
    have HRob := Lib.hid (hr.low (base' := w0.heap.size) HCab.out.1.size)
    obtain ⟨b2, p2, hu, _⟩ := hr.at
    subst hu
    have HZob := Lib.hid (HZab.out.later hb)
    clear hr hr0 hb
    go_wp2_with fail
    refine hK.out _ _ (HKp.out _ _ _ HCob.out) (fun hHeld => ?_)
    clear hK K
    try simp only [Act.put, List.setIfInBounds_toArray, List.set_cons_zero, List.set_cons_succ]
    refine wpAnyH_yield (i := 9) (v := ?vob9) rfl rfl (by kernel_rfl) (by kernel_rfl) (by kernel_rfl) (fun _ _ _ h => h) (by rfl) ?hyob9 hHeld ?restob9
    case hyob9 =>
      intro w hSw
      (try dsimp only at hSw)
      go_simp
      try with_reducible rfl
    simp only [Act.put, List.setIfInBounds_toArray, List.set_cons_zero, List.set_cons_succ]
    refine wpAnyH_yield (i := 10) (v := ?vob10) rfl rfl (by kernel_rfl) (by kernel_rfl) (by kernel_rfl) (fun _ _ _ h => h) (by rfl) ?hyob10 hHeld ?restob10
    case hyob10 =>
      intro w hSw
      (try dsimp only at hSw)
      go_simp
      try with_reducible rfl
    simp only [Act.put, List.setIfInBounds_toArray, List.set_cons_zero, List.set_cons_succ]
    refine wpAnyH_yield (i := 11) (v := ?vob11) rfl rfl (by kernel_rfl) (by kernel_rfl) (by kernel_rfl) (fun _ _ _ h => h) (by rfl) ?hyob11 hHeld ?restob11
    case hyob11 =>
      intro w hSw
      (try dsimp only at hSw)
      go_simp
      try with_reducible rfl
    simp only [Act.put, List.setIfInBounds_toArray, List.set_cons_zero, List.set_cons_succ]
    refine wpAnyH_yield (i := 12) (v := ?vob12) rfl rfl (by kernel_rfl) (by kernel_rfl) (by kernel_rfl) (fun _ _ _ h => h) (by rfl) ?hyob12 hHeld ?restob12
    case hyob12 =>
      intro w hSw
      (try dsimp only at hSw)
      go_simp
      try with_reducible rfl
    simp only [Act.put, List.setIfInBounds_toArray, List.set_cons_zero, List.set_cons_succ]
    refine wpAnyH_ready (rs := [14]) (by kernel_rfl) (by simp) ?_
    refine AllReadyH.cons rfl (fun K hK => ?_) AllReadyH.nil
    refine step_row _ (by rfl) 42 _ _ (by rfl) (by rfl) (mna.heap.size) #[.int .i64 d0, .int .i64 d1, .int .i64 d2, .int .i64 d3, .slice b2 de.length p2, .int .u32 dx] (by rfl) (by rfl) 42 _ HZob.out (by kernel_rfl) rfl (by simp [Value.oneCell']) ?_
    have HCx := Lib.hid (HCob.out.beside (cs' := #[.int .i64 d0, .int .i64 d1, .int .i64 d2, .int .i64 d3, .slice b2 de.length p2, .int .u32 dx]) HZob.out hszab hneab)
    have HRx := Lib.hid (HRob.out.apart HZob.out (grownBy_setRow _ _ #[.int .i64 d0, .int .i64 d1, .int .i64 d2, .int .i64 d3, .slice b2 de.length p2, .int .u32 dx]))
    have HVx : Hid (Box (mob.setRow (mna.heap.size) #[.int .i64 d0, .int .i64 d1, .int .i64 d2, .int .i64 d3, .slice b2 de.length p2, .int .u32 dx]) (mna.heap.size) 42 #[.int .i64 d0, .int .i64 d1, .int .i64 d2, .int .i64 d3, .slice b2 de.length p2, .int .u32 dx]) := Lib.hid (setRow_heap _ _ _ _ _ _ HZob.out)
    refine hK.out _ _ (HKp.out _ _ _ HCx.out) (fun hHeld => ?_)
    clear hK K
    try simp only [Act.put, List.setIfInBounds_toArray, List.set_cons_zero, List.set_cons_succ]
    refine wpAnyH_yield (i := 15) (v := ?vsb15) rfl rfl (by kernel_rfl) (by kernel_rfl) (by kernel_rfl) (fun _ _ _ h => h) (by rfl) ?hysb15 hHeld ?restsb15
    case hysb15 =>
      intro w hSw
      (try dsimp only at hSw)
      go_simp
      try with_reducible rfl
    simp only [Act.put, List.setIfInBounds_toArray, List.set_cons_zero, List.set_cons_succ]
    refine wpAnyH_yield (i := 16) (v := ?vsb16) rfl rfl (by kernel_rfl) (by kernel_rfl) (by kernel_rfl) (fun _ _ _ h => h) (by rfl) ?hysb16 hHeld ?restsb16
    case hysb16 =>
      intro w hSw
      (try dsimp only at hSw)
      go_simp
      try with_reducible rfl
    simp only [Act.put, List.setIfInBounds_toArray, List.set_cons_zero, List.set_cons_succ]
    refine wpAnyH_done (by kernel_rfl) ?_ _
    generalize hXX : World.setRow mob (mna.heap.size) #[.int .i64 d0, .int .i64 d1, .int .i64 d2, .int .i64 d3, .slice b2 de.length p2, .int .u32 dx] = X at *
    generalize hTT : mna.heap.size = T1 at *
    clear hXX hTT hHeld
    go_wp2_with fail
    have c10 := truth_any db X
    rw [HTv.out] at c10
    refine c10.mono ?_
    rintro e m10 ⟨rfl, rfl⟩
    clear c10
    go_wp2_with fail
    go_ret
    rw [HOp.out]
    have h8 := list_put HL.out
    rw [HTi.out] at h8
    simp only
    rw [h8]
    exact ⟨rfl, HCx.out⟩
  have HCac := Lib.hid (HC0.out.later (belowA w.drew (.cells #[.int .i64 0, .int .i64 0, .int .i64 0, .int .i64 0, .slice none 0 0, .int .u32 0] 42)))
  have HZac : Hid (Box (w.drew.alloc (.cells #[.int .i64 0, .int .i64 0, .int .i64 0, .int .i64 0, .slice none 0 0, .int .u32 0] 42)) w.heap.size 42 #[.int .i64 0, .int .i64 0, .int .i64 0, .int .i64 0, .slice none 0 0, .int .u32 0]) := Lib.hid (Box.new w.drew _ _)
  have hneac : g ≠ w.heap.size := by have h9 : g < w.heap.size := HC0.out.2.2.2.1.lt; omega
  have hszac : w0.heap.size ≤ w.heap.size := HC0.out.1.size
  refine AllReadyH.cons rfl (fun K hK => ?_) AllReadyH.nil
  go_simp
  refine hK.out _ _ (HKp.out _ _ _ HCac.out) (fun hHeld => ?_)
  clear hK K
  try simp only [Act.put, List.setIfInBounds_toArray, List.set_cons_zero, List.set_cons_succ]
  refine wpAnyH_ready (rs := [1]) (by kernel_rfl) (by simp) ?_
  refine AllReadyH.cons rfl (fun K hK => ?_) AllReadyH.nil
  go_simp
  have cnc := named_any w0 (w.drew.alloc (.cells #[.int .i64 0, .int .i64 0, .int .i64 0, .int .i64 0, .slice none 0 0, .int .u32 0] 42)) C g c sd ts (some y) 2 ap zs i HCac.out h0 HI.out HL.out H4.out
  rw [HTi.out] at cnc
  refine cnc.mono ?_
  rintro e mnc ⟨b, l, cc, rfl, hb, hE⟩
  clear cnc
  have HCnc := Lib.hid (HCac.out.later hb)
  have HEnc := Lib.hid hE
  have HZnc := Lib.hid (HZac.out.later hb)
  clear hb hE
  go_wp2_with fail
  refine hK.out _ _ (HKp.out _ _ _ HCnc.out) (fun hHeld => ?_)
  clear hK K
  try simp only [Act.put, List.setIfInBounds_toArray, List.set_cons_zero, List.set_cons_succ]
  refine wpAnyH_ready (rs := [8]) (by kernel_rfl) (by simp) ?_
  refine AllReadyH.cons rfl (fun K hK => ?_) AllReadyH.nil
  go_simp
  have coc := tget_any (s0, s1, s2, s3) b l cc x es a1 0 (mnc) HEnc.out HF.out HX.out isW_zero
  rw [HG.out] at coc
  refine coc.mono ?_
  rintro e moc ⟨u, rfl, hb, hr0⟩
  clear coc
  have hr : Row moc (mnc).heap.size u de := hr0
  have HCoc := Lib.hid (HCnc.out.later hb)
  have HRoc := Lib.hid (hr.low (base' := w0.heap.size) HCnc.out.1.size)
  obtain ⟨b2, p2, hu, _⟩ := hr.at
  subst hu
  have HZoc := Lib.hid (HZnc.out.later hb)
  clear hr hr0 hb
  go_wp2_with fail
  refine hK.out _ _ (HKp.out _ _ _ HCoc.out) (fun hHeld => ?_)
  clear hK K
  try simp only [Act.put, List.setIfInBounds_toArray, List.set_cons_zero, List.set_cons_succ]
  refine wpAnyH_yield (i := 9) (v := ?voc9) rfl rfl (by kernel_rfl) (by kernel_rfl) (by kernel_rfl) (fun _ _ _ h => h) (by rfl) ?hyoc9 hHeld ?restoc9
  case hyoc9 =>
    intro w hSw
    (try dsimp only at hSw)
    go_simp
    try with_reducible rfl
  simp only [Act.put, List.setIfInBounds_toArray, List.set_cons_zero, List.set_cons_succ]
  refine wpAnyH_yield (i := 10) (v := ?voc10) rfl rfl (by kernel_rfl) (by kernel_rfl) (by kernel_rfl) (fun _ _ _ h => h) (by rfl) ?hyoc10 hHeld ?restoc10
  case hyoc10 =>
    intro w hSw
    (try dsimp only at hSw)
    go_simp
    try with_reducible rfl
  simp only [Act.put, List.setIfInBounds_toArray, List.set_cons_zero, List.set_cons_succ]
  refine wpAnyH_yield (i := 11) (v := ?voc11) rfl rfl (by kernel_rfl) (by kernel_rfl) (by kernel_rfl) (fun _ _ _ h => h) (by rfl) ?hyoc11 hHeld ?restoc11
  case hyoc11 =>
    intro w hSw
    (try dsimp only at hSw)
    go_simp
    try with_reducible rfl
  simp only [Act.put, List.setIfInBounds_toArray, List.set_cons_zero, List.set_cons_succ]
  refine wpAnyH_yield (i := 12) (v := ?voc12) rfl rfl (by kernel_rfl) (by kernel_rfl) (by kernel_rfl) (fun _ _ _ h => h) (by rfl) ?hyoc12 hHeld ?restoc12
  case hyoc12 =>
    intro w hSw
    (try dsimp only at hSw)
    go_simp
    try with_reducible rfl
  simp only [Act.put, List.setIfInBounds_toArray, List.set_cons_zero, List.set_cons_succ]
  refine wpAnyH_ready (rs := [14]) (by kernel_rfl) (by simp) ?_
  refine AllReadyH.cons rfl (fun K hK => ?_) AllReadyH.nil
  refine step_row _ (by rfl) 42 _ _ (by rfl) (by rfl) (w.heap.size) #[.int .i64 d0, .int .i64 d1, .int .i64 d2, .int .i64 d3, .slice b2 de.length p2, .int .u32 dx] (by rfl) (by rfl) 42 _ HZoc.out (by kernel_rfl) rfl (by simp [Value.oneCell']) ?_
  have HCx := Lib.hid (HCoc.out.beside (cs' := #[.int .i64 d0, .int .i64 d1, .int .i64 d2, .int .i64 d3, .slice b2 de.length p2, .int .u32 dx]) HZoc.out hszac hneac)
  have HRx := Lib.hid (HRoc.out.apart HZoc.out (grownBy_setRow _ _ #[.int .i64 d0, .int .i64 d1, .int .i64 d2, .int .i64 d3, .slice b2 de.length p2, .int .u32 dx]))
  have HVx : Hid (Box (moc.setRow (w.heap.size) #[.int .i64 d0, .int .i64 d1, .int .i64 d2, .int .i64 d3, .slice b2 de.length p2, .int .u32 dx]) (w.heap.size) 42 #[.int .i64 d0, .int .i64 d1, .int .i64 d2, .int .i64 d3, .slice b2 de.length p2, .int .u32 dx]) := Lib.hid (setRow_heap _ _ _ _ _ _ HZoc.out)
  refine hK.out _ _ (HKp.out _ _ _ HCx.out) (fun hHeld => ?_)
  clear hK K
  try simp only [Act.put, List.setIfInBounds_toArray, List.set_cons_zero, List.set_cons_succ]
  refine wpAnyH_yield (i := 15) (v := ?vsc15) rfl rfl (by kernel_rfl) (by kernel_rfl) (by kernel_rfl) (fun _ _ _ h => h) (by rfl) ?hysc15 hHeld ?restsc15
  case hysc15 =>
    intro w hSw
    (try dsimp only at hSw)
    go_simp
    try with_reducible rfl
  simp only [Act.put, List.setIfInBounds_toArray, List.set_cons_zero, List.set_cons_succ]
  refine wpAnyH_yield (i := 16) (v := ?vsc16) rfl rfl (by kernel_rfl) (by kernel_rfl) (by kernel_rfl) (fun _ _ _ h => h) (by rfl) ?hysc16 hHeld ?restsc16
  case hysc16 =>
    intro w hSw
    (try dsimp only at hSw)
    go_simp
    try with_reducible rfl
  simp only [Act.put, List.setIfInBounds_toArray, List.set_cons_zero, List.set_cons_succ]
  refine wpAnyH_done (by kernel_rfl) ?_ _
  generalize hXX : World.setRow moc (w.heap.size) #[.int .i64 d0, .int .i64 d1, .int .i64 d2, .int .i64 d3, .slice b2 de.length p2, .int .u32 dx] = X at *
  generalize hTT : w.heap.size = T1 at *
  clear hXX hTT hHeld
  go_wp2_with fail
  have c10 := truth_any db X
  rw [HTv.out] at c10
  refine c10.mono ?_
  rintro e m10 ⟨rfl, rfl⟩
  clear c10
  go_wp2_with fail
  go_ret
  rw [HOp.out]
  have h8 := list_put HL.out
  rw [HTi.out] at h8
  simp only
  rw [h8]
  exact ⟨rfl, HCx.out⟩
end Go.Proofs.YtilddlgcfbefiaaDoor

/-
  Whether a helper can be applied, as a contract over the translated program.
-/
namespace Go.Proofs.YtilddlgcfbefiaaDoor
set_option linter.unusedSimpArgs false
set_option linter.unusedVariables false
open Go Go.RowKit
theorem wU64 {z : Int} (h0 : 0 ≤ z) (h1 : z ≤ 4294967295) : IntKind.u64.wrap z = z := by
  simp [IntKind.wrap, IntKind.bits, IntKind.signed]
  omega
theorem mayOp_far {n : Int} {ts : List Tb} {zs : List Int} {i : Nat} (hi : zs.getD 0 0 = (i : Int)) (hl : ¬ i < ts.length) : mayOp n ts zs = false := by
  have h : (zs.getD 0 0).toNat = i := by rw [hi]; simp
  unfold mayOp
  rw [h, decide_eq_false hl, Bool.false_and]
theorem mayOp_in {n : Int} {ts : List Tb} {zs : List Int} {i : Nat} {t : Tb} (hi : zs.getD 0 0 = (i : Int)) (hl : i < ts.length) (ht : ts.getD i zeroT = t) : mayOp n ts zs = (fitsP n t.1 && (mayTb t && (decide (¬ (n = 0 ∨ n = 1)) || decide (zs.getD 2 0 < t.1.2.2.1)))) := by
  have h : (zs.getD 0 0).toNat = i := by rw [hi]; simp
  unfold mayOp
  rw [h, decide_eq_true hl, Bool.true_and, ht]
set_option maxRecDepth 100000 in
set_option maxHeartbeats 8000000 in
theorem mayApply_any (w0 w : World) (C g : Nat) (c : Cx) (sd : Int) (ts : List Tb) (ab : Option Addr) (an ap : Nat) (zs : List Int) (n : Int) (h : Cs w0 w C g c sd ts ab an ap zs) (h0 : 0 < an) (h3 : n = 0 ∨ n = 1 → 3 ≤ an) (h40 : ts.length ≤ 40) :
    Calls Tryd.prog 105 #[.pointer (some ⟨C, 0, none⟩), .int .i64 n] w fun e w' => e = .returned (.bool (mayOp n ts zs)) ∧ Cs w0 w' C g c sd ts ab an ap zs := by
  obtain ⟨y, rfl, hc⟩ := h.word h0
  have hz0 := h.isw 0
  obtain ⟨i, hi⟩ : ∃ i : Nat, zs.getD 0 0 = (i : Int) := ⟨(zs.getD 0 0).toNat, by have := hz0.1; omega⟩
  rw [hi] at hc hz0
  replace hc : w.cell? y = some (.int .u32 (i : Int)) := hc
  obtain ⟨R, hR⟩ : ∃ R, mayOp n ts zs = R := ⟨_, rfl⟩
  rw [hR]
  obtain ⟨m, hm⟩ : ∃ m, ts.length = m := ⟨_, rfl⟩
  have hB := h.2.1
  rw [hm] at hB
  have k4 : w.cell? ⟨C, 4, none⟩ = some (.slice (some ⟨g, 0, none⟩) m m) := hB.cell rfl
  have k6 : w.cell? ⟨C, 6, none⟩ = some (.slice (some y) an ap) := hB.cell rfl
  have hw1 : IntKind.u64.wrap (i : Int) = (i : Int) := wU64 hz0.1 hz0.2
  have hw2 : IntKind.u64.wrap (m : Int) = (m : Int) := wU64 (by omega) (by omega)
  have hanI : (0 : Int) < (an : Int) := by omega
  have HC := Lib.hid h
  have HI := Lib.hid hi
  have HM := Lib.hid hm
  by_cases hl : i < m
  · have hlI : ¬ (m : Int) ≤ (i : Int) := by omega
    rcases hgt : ts.getD i zeroT with ⟨⟨s0, s1, s2, s3⟩, es, x⟩
    have hxw := h.next (k := i) (by rw [hm]; exact hl)
    rw [hgt] at hxw
    have HX := Lib.hid hxw
    have HT := Lib.hid hgt
    have HRR := Lib.hid (hR.symm.trans (mayOp_in hi (by rw [hm]; exact hl) hgt))
    simp only at HRR
    clear hB hxw hgt hi h hm hR
    go_enter Tryd.func105, Tryd.ntmps105
    go_wp2
    go_quiet (fail)
    have hb1 : Below w.heap.size w (w.drewN nq) := below_of_quiet ⟨nq, rfl⟩
    have HC1 := Lib.hid (HC.out.later hb1)
    clear hb1
    generalize hW1 : w.drewN nq = W1 at *
    clear hW1 k4 k6 hc
    go_wp2_with fail
    have c1 := named_any w0 W1 C g c sd ts (some y) an ap zs i HC1.out h0 HI.out (by rw [HM.out]; exact hl) h40
    rw [HT.out] at c1
    refine c1.mono ?_
    rintro e m1 ⟨b, l, cc, rfl, hb, hE⟩
    clear c1
    have HC2 := Lib.hid (HC1.out.later (hb.trans ((belowA m1 (.cells #[.int .i64 s0, .int .i64 s1, .int .i64 s2, .int .i64 s3, .slice b l cc, .int .u32 x] 42)).mono hb.size)))
    have HE2 := Lib.hid (hE.below (belowA m1 (.cells #[.int .i64 s0, .int .i64 s1, .int .i64 s2, .int .i64 s3, .slice b l cc, .int .u32 x] 42)))
    have HB2 : Hid (Box (m1.alloc (.cells #[.int .i64 s0, .int .i64 s1, .int .i64 s2, .int .i64 s3, .slice b l cc, .int .u32 x] 42)) m1.heap.size 42 #[.int .i64 s0, .int .i64 s1, .int .i64 s2, .int .i64 s3, .slice b l cc, .int .u32 x]) := Lib.hid (Box.new _ _ _)
    clear hb hE
    obtain ⟨q0, q1, q2, q3, q4, q5⟩ := Box.tb (s := (s0, s1, s2, s3)) HB2.out
    simp only at q0 q1 q2 q3 q4 q5
    go_wp2_with fail
    generalize hW2 : m1.alloc (.cells #[.int .i64 s0, .int .i64 s1, .int .i64 s2, .int .i64 s3, .slice b l cc, .int .u32 x] 42) = W2 at *
    generalize hT2 : m1.heap.size = T2 at *
    clear hW2 hT2 q0 q1 q2 q3 q4 q5
    rcases hft : fitsP n (s0, s1, s2, s3) with _ | _
    · have c2 := fits_any n s0 s1 s2 s3 W2
      rw [hft] at c2
      refine c2.mono ?_
      rintro e m2 ⟨rfl, hb⟩
      have HC3 := Lib.hid (HC2.out.later hb)
      have HRF : Hid (R = false) := Lib.hid (by rw [HRR.out, hft]; rfl)
      clear c2 hb hft
      go_wp2_with fail
      go_ret
      exact ⟨by rw [HRF.out]; rfl, HC3.out⟩
    have c2 := fits_any n s0 s1 s2 s3 W2
    rw [hft] at c2
    refine c2.mono ?_
    rintro e m2 ⟨rfl, hb⟩
    have HC3 := Lib.hid (HC2.out.later hb)
    have HE3 := Lib.hid (HE2.out.below hb)
    have HB3 := Lib.hid (HB2.out.later hb)
    clear c2 hb
    obtain ⟨q0, q1, q2, q3, q4, q5⟩ := Box.tb (s := (s0, s1, s2, s3)) HB3.out
    simp only at q0 q1 q2 q3 q4 q5
    go_wp2_with fail
    clear q0 q1 q2 q3 q4 q5
    rcases hmt : mayTb ((s0, s1, s2, s3), es, x) with _ | _
    · have c3 := tmay_any (s0, s1, s2, s3) b l cc x es m2 HE3.out HX.out
      rw [hmt] at c3
      refine c3.mono ?_
      rintro e m3 ⟨rfl, hb⟩
      have HC4 := Lib.hid (HC3.out.later hb)
      have HRF : Hid (R = false) := Lib.hid (by rw [HRR.out, hft, hmt]; rfl)
      clear c3 hb hmt hft
      go_wp2_with fail
      go_ret
      exact ⟨by rw [HRF.out]; rfl, HC4.out⟩
    have c3 := tmay_any (s0, s1, s2, s3) b l cc x es m2 HE3.out HX.out
    rw [hmt] at c3
    refine c3.mono ?_
    rintro e m3 ⟨rfl, hb⟩
    have HC4 := Lib.hid (HC3.out.later hb)
    have HB4 := Lib.hid (HB3.out.later hb)
    clear c3 hb
    have hmt' : mayT (s0, s1, s2, s3) = true := by
      have := mayTb_head hmt
      simp only [headB, Bool.and_eq_true] at this
      exact this.1
    simp only [mayT, mayS_iff] at hmt'
    have hs2 : IntKind.u32.wrap s2 = s2 := by rw [wW]; omega
    replace HRR : Hid (R = (decide (¬ (n = 0 ∨ n = 1)) || decide (zs.getD 2 0 < s2))) := Lib.hid (by rw [HRR.out, hft, hmt, Bool.true_and, Bool.true_and])
    clear hft hmt
    by_cases hn : n = 0 ∨ n = 1
    · have han3 := h3 hn
      replace HRR : Hid (R = decide (zs.getD 2 0 < s2)) := Lib.hid (by rw [HRR.out, show decide (¬ (n = 0 ∨ n = 1)) = false by simp [hn], Bool.false_or])
      obtain ⟨y', e1, hc2⟩ := HC4.out.word (j := 2) (by omega)
      obtain rfl := Option.some.inj e1
      obtain ⟨a2, ha2⟩ : ∃ a2, zs.getD 2 0 = a2 := ⟨_, rfl⟩
      rw [ha2] at hc2 HRR
      replace hc2 : m3.cell? ⟨y.block, y.off + 2, none⟩ = some (.int .u32 a2) := hc2
      have k6 : m3.cell? ⟨C, 6, none⟩ = some (.slice (some y) an ap) := HC4.out.2.1.cell rfl
      have q2 : m3.cell? ⟨T2, 2, none⟩ = some (.int .i64 s2) := HB4.out.cell rfl
      have han2 : (2 : Int) < (an : Int) := by omega
      clear hmt' e1 ha2
      have hsel : (n == 0) = true ∨ (n == 0) = false ∧ (n == 1) = true := by
        rcases hn with h | h
        · exact .inl (by simp [h])
        · exact .inr ⟨by simp [h], by simp [h]⟩
      clear hn h3
      rcases hsel with hs | ⟨hs, hs1⟩
      · go_wp2
        go_quiet (fail)
        have hb5 : Below m3.heap.size m3 (m3.drewN nq) := below_of_quiet ⟨nq, rfl⟩
        go_wp2
        go_ret
        exact ⟨by rw [HRR.out]; rfl, HC4.out.later hb5⟩
      · go_wp2
        go_quiet (fail)
        have hb5 : Below m3.heap.size m3 (m3.drewN nq) := below_of_quiet ⟨nq, rfl⟩
        go_wp2
        go_ret
        exact ⟨by rw [HRR.out]; rfl, HC4.out.later hb5⟩
    · replace HRR : Hid (R = true) := Lib.hid (by rw [HRR.out, show decide (¬ (n = 0 ∨ n = 1)) = true by simp [hn], Bool.true_or])
      have hs : (n == 0) = false := by simp; omega
      have hs1 : (n == 1) = false := by simp; omega
      clear hn h3 hmt'
      go_wp2
      go_ret
      exact ⟨by rw [HRR.out]; rfl, HC4.out⟩
  · have hlI : (m : Int) ≤ (i : Int) := by omega
    have HRF : Hid (R = false) := Lib.hid (hR.symm.trans (mayOp_far hi (by rw [hm]; exact hl)))
    clear hB hi h hm hR
    go_enter Tryd.func105, Tryd.ntmps105
    go_wp2
    go_quiet (fail)
    have hb1 : Below w.heap.size w (w.drewN nq) := below_of_quiet ⟨nq, rfl⟩
    go_wp2
    go_ret
    exact ⟨by rw [HRF.out]; rfl, HC.out.later hb1⟩
end Go.Proofs.YtilddlgcfbefiaaDoor

/-
  What Call of package helper returns, as a contract over the translated program.
-/
namespace Go.Proofs.YtilddlgcfbefiaaDoor
set_option linter.unusedSimpArgs false
set_option linter.unusedVariables false
open Go Go.RowKit
/- tables that a call returns: none, or a row of its own -/
def TabsR (W : World) (base : Nat) (V : Value) (ts : List Tb) : Prop := (V = .slice none 0 0 ∧ ts = []) ∨ ∃ g, V = .slice (some ⟨g, 0, none⟩) ts.length ts.length ∧ TabsO W base g ts ∧ ts.length ≤ 1000
section
variable {W W' : World} {base base' U : Nat} {V : Value} {ts : List Tb} {cs : Array Value}
theorem TabsR.at (h : TabsR W base V ts) : ∃ b cc, V = .slice b ts.length cc ∧ TabsAt W b ts.length cc ts := by
  rcases h with ⟨rfl, rfl⟩ | ⟨g, rfl, h2, h3⟩
  · exact ⟨none, 0, rfl, rfl, Nat.le_refl _, Nat.zero_le _, .inl rfl⟩
  · exact ⟨_, _, rfl, h2.at h3⟩
theorem TabsR.below (h : TabsR W base V ts) (hb : Below W.heap.size W W') : TabsR W' base V ts := h.imp id (fun ⟨g, h1, h2, h3⟩ => ⟨g, h1, h2.below hb, h3⟩)
theorem TabsR.low (h : TabsR W base V ts) (hb : base' ≤ base) : TabsR W base' V ts := h.imp id (fun ⟨g, h1, h2, h3⟩ => ⟨g, h1, h2.low hb, h3⟩)
theorem TabsR.apart (h : TabsR W base V ts) (hB : Box W U 29 cs) (hg : W.grownBy W' (some U)) : TabsR W' base V ts := h.imp id (fun ⟨g, h1, h2, h3⟩ => ⟨g, h1, h2.apart hB (by decide) (by decide) (by decide) hg, h3⟩)
end
def CallPost (r : Ev × Int × Int) (w : World) (e : Ending) (w' : World) : Prop :=
  ∃ V, e = .returned (.tuple #[envV r.1.1 V r.1.2.2, .int .u32 r.2.1, .int .i64 r.2.2]) ∧ Below w.heap.size w w' ∧ TabsR w' w.heap.size V r.1.2.1
theorem callP_arg {n : Int} {e : Ev} {zs : List Int} (h : (zs.length : Int) ≠ argsP n) : callP n e zs = (zeroEv, 0, 1) := by rw [callP, if_pos h]
theorem callP_draw {e : Ev} {zs : List Int} (h : (zs.length : Int) = argsP 4) : callP 4 e zs = ((e.1, e.2.1, drawP e.2.2), drawP e.2.2, 0) := by rw [callP, if_neg (by omega), if_pos rfl]
theorem callP_fault {n : Int} {e : Ev} {zs : List Int} (h : (zs.length : Int) = argsP n) (h4 : n ≠ 4) (hm : mayOp n e.2.1 zs = false) : callP n e zs = (e, 0, 10) := by rw [callP, if_neg (by omega), if_neg h4, if_neg (by rw [hm]; simp)]
theorem callP_do {n : Int} {e : Ev} {zs : List Int} {i : Nat} (h : (zs.length : Int) = argsP n) (h4 : n ≠ 4) (hi : zs.getD 0 0 = (i : Int)) (hm : mayOp n e.2.1 zs = true) :
    callP n e zs = ((e.1, e.2.1.set i (opP n (e.2.1.getD i zeroT) zs).1, e.2.2), (opP n (e.2.1.getD i zeroT) zs).2, 0) := by
  have h9 : (zs.getD 0 0).toNat = i := by rw [hi]; simp
  rw [callP, if_neg (by omega), if_neg h4, if_pos hm, h9]
theorem argsP_some {n : Int} (h : 0 ≤ argsP n) : n = 0 ∨ n = 1 ∨ n = 2 ∨ n = 3 ∨ n = 4 ∨ n = 5 := by
  unfold argsP at h
  repeat' split at h
  all_goals omega
theorem mayOp_lt {n : Int} {ts : List Tb} {zs : List Int} {i : Nat} (hi : zs.getD 0 0 = (i : Int)) (h : mayOp n ts zs = true) : i < ts.length := by
  by_cases hl : i < ts.length
  · exact hl
  · rw [mayOp_far hi hl] at h
    cases h
theorem argsP_n {n : Int} (h4 : n ≠ 4) (h : 0 ≤ argsP n) : 0 < argsP n ∧ (n = 0 ∨ n = 1 → 3 ≤ argsP n) := by
  unfold argsP at h ⊢
  repeat' split at h
  all_goals (first | omega | (refine ⟨by simp_all, fun hh => by simp_all⟩))
theorem results_ev_three {fn : Func} {p q r : Tmp} (h : fn.results = #[.cell p 29, .tmp q, .tmp r]) (tmps : Array Value) (w : World) (g : Nat) (t : TypeId) (cs : Array Value) (u v : Value) (hs : cs.size = 6)
    (hp : tmps.getD p undef = .pointer (some ⟨g, 0, none⟩)) (hq : tmps.getD q undef = u) (hr : tmps.getD r undef = v) (hg : w.heap[g]? = some (.cells cs t (0, 0))) : (results fn tmps).run Tryd.prog w = .ok (.tuple #[.agg cs, u, v]) w := by
  have hp' : tmps[p]?.getD undef = .pointer (some ⟨g, 0, none⟩) := by simpa using hp
  have hq' : tmps[q]?.getD undef = u := by simpa using hq
  have hr' : tmps[r]?.getD undef = v := by simpa using hr
  have hi : (Tryd.prog.info? 29).map (·.size) = some cs.size := by rw [hs]; kernel_rfl
  simp [results, h, hp', hq', hr', asAddr, run_loadVar_row w g t 29 cs (0, 0) _ hg Tryd.underlying29 rfl hi]
set_option maxRecDepth 100000 in
set_option maxHeartbeats 20000000 in
theorem call_any (n : Int) (c : Cx) (a : Option Addr) (len cap : Nat) (sd : Int) (ts : List Tb) (ab : Option Addr) (an ap : Nat) (zs : List Int) (w : World) (h : TabsAt w a len cap ts) (hf : fewL ts) (hs : isW sd) (hz : WordsAt w ab an ap zs) :
    Calls Tryd.prog 97 #[.int .i64 n, envV c (.slice a len cap) sd, .slice ab an ap] w (CallPost (callP n (c, ts, sd) zs) w) := by
  rcases c with ⟨c0, c1, c2, c3⟩
  have hlm := hz.max
  have HF := Lib.hid hf.2
  have H40 := Lib.hid hf.1
  have HS := Lib.hid hs
  have HZl := Lib.hid hz.1
  obtain ⟨W0, hW0⟩ : ∃ W0, (w.alloc (.cells #[.int .u32 c0, .int .u32 c1, .int .u32 c2, .int .u32 c3, .slice a len cap, .int .u32 sd] 29)).alloc (.cells #[.int .u32 0, .int .u32 0, .int .u32 0, .int .u32 0, .slice none 0 0, .int .u32 0] 29) = W0 := ⟨_, rfl⟩
  have hs0 : W0.heap.size = w.heap.size + 1 + 1 := by rw [← hW0]; simp
  have hb0 : Below w.heap.size w W0 := by rw [← hW0]; exact box2 (Below.refl _ _) (Nat.le_refl _) _ _
  have HP : Hid (Box W0 w.heap.size 29 #[.int .u32 c0, .int .u32 c1, .int .u32 c2, .int .u32 c3, .slice a len cap, .int .u32 sd]) := by rw [← hW0]; exact Lib.hid ((Box.new w 29 _).alloc _)
  have HR : Hid (Box W0 (w.heap.size + 1) 29 #[.int .u32 0, .int .u32 0, .int .u32 0, .int .u32 0, .slice none 0 0, .int .u32 0]) := by
    rw [← hW0]
    have := Box.new (w.alloc (.cells #[.int .u32 c0, .int .u32 c1, .int .u32 c2, .int .u32 c3, .slice a len cap, .int .u32 sd] 29)) 29 #[.int .u32 0, .int .u32 0, .int .u32 0, .int .u32 0, .slice none 0 0, .int .u32 0]
    rw [show (w.alloc (.cells #[.int .u32 c0, .int .u32 c1, .int .u32 c2, .int .u32 c3, .slice a len cap, .int .u32 sd] 29)).heap.size = w.heap.size + 1 by simp] at this
    exact Lib.hid this
  have HT0 := Lib.hid (h.below hb0)
  have HZ0 := Lib.hid (hz.below hb0)
  have HFL := Lib.hid hf
  clear h hz hf hs
  by_cases hla : ((an : Int) != argsP n) = true
  · have hne : (zs.length : Int) ≠ argsP n := by rw [HZl.out]; simpa using hla
    obtain ⟨ar, har⟩ : ∃ ar, argsP n = ar := ⟨_, rfl⟩
    rw [callP_arg hne]
    have ca := args_any n W0
    rw [har] at ca hla
    clear hne har
    go_enter Tryd.func97, Tryd.ntmps97
    go_wp2_with fail
    refine ca.mono ?_
    rintro e w1 ⟨rfl, rfl⟩
    clear ca
    go_wp2_with (refine wpList_store_row rfl 29 _ _ rfl (w.heap.size + 1) _ rfl rfl 29 _ HR.out (by kernel_rfl) rfl (by simp [Value.oneCell']) ?_)
    refine bodyPost_ret (v := .tuple #[envV (0, 0, 0, 0) (.slice none 0 0) 0, .int .u32 0, .int .i64 1]) ?_ rfl ?_
    · exact results_ev_three Tryd.results97 _ _ (w.heap.size + 1) 29 _ _ _ rfl rfl rfl rfl (setRow_heap _ _ _ _ _ _ HR.out)
    · exact ⟨.slice none 0 0, rfl, below_setRow hb0 (by omega) _, .inl ⟨rfl, rfl⟩⟩
  replace hla : ((an : Int) != argsP n) = false := by simpa using hla
  have HLen : Hid ((zs.length : Int) = argsP n) := Lib.hid (by rw [HZl.out]; simpa using hla)
  have hn6 := argsP_some (n := n) (by rw [← HLen.out]; omega)
  have HAn := Lib.hid (fun h4 => argsP_n (n := n) h4 (by rw [← HLen.out]; omega))
  obtain ⟨ar, har⟩ : ∃ ar, argsP n = ar := ⟨_, rfl⟩
  have ca := args_any n W0
  rw [har] at ca hla
  clear har
  obtain ⟨R, hR⟩ : ∃ R, w.heap.size + 1 = R := ⟨_, rfl⟩
  rw [hR] at HR
  have hRw : w.heap.size ≤ R := by omega
  have k0 : W0.cell? ⟨w.heap.size, 0, none⟩ = some (.int .u32 c0) := HP.out.cell rfl
  have k1 : W0.cell? ⟨w.heap.size, 1, none⟩ = some (.int .u32 c1) := HP.out.cell rfl
  have k2 : W0.cell? ⟨w.heap.size, 2, none⟩ = some (.int .u32 c2) := HP.out.cell rfl
  have k3 : W0.cell? ⟨w.heap.size, 3, none⟩ = some (.int .u32 c3) := HP.out.cell rfl
  have k4 : W0.cell? ⟨w.heap.size, 4, none⟩ = some (.slice a len cap) := HP.out.cell rfl
  have k5 : W0.cell? ⟨w.heap.size, 5, none⟩ = some (.int .u32 sd) := HP.out.cell rfl
  go_enter Tryd.func97, Tryd.ntmps97
  go_wp2_with fail
  refine ca.mono ?_
  rintro e w1 ⟨rfl, hw1⟩
  subst w1
  clear ca
  go_wp2_with fail
  clear hW0 hR hs0
  refine (cloneV_any (c0, c1, c2, c3) a len cap sd ts W0 HT0.out HFL.out).mono ?_
  rintro e m1 ⟨g, rfl, hb1, hTs⟩
  obtain ⟨m, hm⟩ : ∃ m, ts.length = m := ⟨_, rfl⟩
  have HMm := Lib.hid hm
  have HC1 : Hid (Cs W0 (m1.alloc (.cells #[.int .u32 c0, .int .u32 c1, .int .u32 c2, .int .u32 c3, .slice (some ⟨g, 0, none⟩) m m, .int .u32 sd, .slice ab an ap] 158)) m1.heap.size g (c0, c1, c2, c3) sd ts ab an ap zs) := Lib.hid (by
    refine ⟨hb1.trans ((belowA _ _).mono hb1.size), ?_, hb1.size, hTs.below (belowA _ _), HZ0.out⟩
    rw [hm]
    exact Box.new _ _ _)
  rw [hm]
  clear hb1 hTs k0 k1 k2 k3 k4 k5 hm
  by_cases h4 : n = 4
  · subst h4
    clear hn6
    have hq4 : ((4 : Int) != 4) = false := by simp
    go_wp2_with fail
    generalize hW1 : m1.alloc (.cells #[.int .u32 c0, .int .u32 c1, .int .u32 c2, .int .u32 c3, .slice (some ⟨g, 0, none⟩) m m, .int .u32 sd, .slice ab an ap] 158) = W1 at *
    generalize hC : m1.heap.size = C at *
    clear hW1 hC
    have c5 := helpers_any C W1
    refine c5.mono ?_
    rintro e m3 ⟨rfl, hmap, hb⟩
    clear c5
    have HC3 := Lib.hid (HC1.out.later hb)
    have hlk := run_look (n := 4) (v := fnV 125 C) hmap (by decide) (by rfl)
    simp only [fnV] at hlk
    clear hb hmap
    go_wp2_with fail
    refine (draw_m W0 m3 C g (c0, c1, c2, c3) sd ts ab an ap zs HC3.out HS.out).mono ?_
    rintro e m4 ⟨rfl, hc4⟩
    have HC4 := Lib.hid hc4
    clear hc4 hlk
    have HEq := Lib.hid (callP_draw (e := ((c0, c1, c2, c3), ts, sd)) HLen.out)
    obtain ⟨dv, hdv⟩ : ∃ dv, drawP sd = dv := ⟨_, rfl⟩
    simp only at HEq
    rw [hdv] at HC4 HEq ⊢
    clear hdv
    have HRx := Lib.hid (HR.out.later HC4.out.1)
    have hBx := HC4.out.2.1

    rw [HMm.out] at hBx
    have x0 : m4.cell? ⟨C, 0, none⟩ = some (.int .u32 c0) := hBx.cell rfl
    have x1 : m4.cell? ⟨C, 1, none⟩ = some (.int .u32 c1) := hBx.cell rfl
    have x2 : m4.cell? ⟨C, 2, none⟩ = some (.int .u32 c2) := hBx.cell rfl
    have x3 : m4.cell? ⟨C, 3, none⟩ = some (.int .u32 c3) := hBx.cell rfl
    have x4 : m4.cell? ⟨C, 4, none⟩ = some (.slice (some ⟨g, 0, none⟩) m m) := hBx.cell rfl
    have x5 : m4.cell? ⟨C, 5, none⟩ = some (.int .u32 (dv)) := hBx.cell rfl
    clear hBx
    go_wp2_with (refine wpList_store_row rfl 29 _ _ rfl R _ rfl rfl 29 _ HRx.out (by kernel_rfl) rfl (by simp [Value.oneCell']) ?_)
    refine bodyPost_ret (v := .tuple #[envV (c0, c1, c2, c3) (.slice (some ⟨g, 0, none⟩) m m) (dv), .int .u32 (dv), .int .i64 0]) ?_ rfl ?_
    · exact results_ev_three Tryd.results97 _ _ R 29 _ _ _ rfl rfl rfl rfl (setRow_heap _ _ _ _ _ _ HRx.out)
    · rw [show callP 4 ((c0, c1, c2, c3), ts, sd) zs = ((((c0, c1, c2, c3), ts, dv), dv, 0) : Ev × Int × Int) from HEq.out]
      have hT := (HC4.out.2.2.2.1.apart HRx.out (by decide) (by decide) (by decide) (grownBy_setRow _ R #[.int .u32 c0, .int .u32 c1, .int .u32 c2, .int .u32 c3, .slice (some ⟨g, 0, none⟩) m m, .int .u32 (dv)])).low (base' := w.heap.size) hb0.size
      exact ⟨.slice (some ⟨g, 0, none⟩) m m, rfl, below_setRow (hb0.trans (HC4.out.1.mono hb0.size)) (by omega) _, .inr ⟨g, by rw [HMm.out], hT, by exact Nat.le_trans H40.out (by omega)⟩⟩
  have hq4 : (n != 4) = true := by simpa using h4
  obtain ⟨han0, han3⟩ := HAn.out h4
  have hh0 : 0 < an := by have h9 := HLen.out; have h8 := HZl.out; omega
  have hh3 : n = 0 ∨ n = 1 → 3 ≤ an := fun hh => by have h9 := HLen.out; have h8 := HZl.out; have := han3 hh; omega
  have H4 := Lib.hid h4
  obtain ⟨i, hi⟩ : ∃ i : Nat, zs.getD 0 0 = (i : Int) := ⟨(zs.getD 0 0).toNat, by have := (HC1.out.isw 0).1; omega⟩
  have HI := Lib.hid hi
  clear h4 han0 han3 HAn hi
  go_wp2_with fail
  generalize hW1 : m1.alloc (.cells #[.int .u32 c0, .int .u32 c1, .int .u32 c2, .int .u32 c3, .slice (some ⟨g, 0, none⟩) m m, .int .u32 sd, .slice ab an ap] 158) = W1 at *
  generalize hC : m1.heap.size = C at *
  clear hW1 hC
  have cm := mayApply_any W0 W1 C g (c0, c1, c2, c3) sd ts ab an ap zs n HC1.out hh0 hh3 H40.out
  rcases hmo : mayOp n ts zs with _ | _
  · rw [hmo] at cm
    refine cm.mono ?_
    rintro e m2 ⟨rfl, hc2⟩
    have HC2 := Lib.hid hc2
    have HM2 := Lib.hid hmo
    clear cm hc2 hmo hn6 hh3
    have HRx := Lib.hid (HR.out.later HC2.out.1)
    have hBx := HC2.out.2.1

    rw [HMm.out] at hBx
    have x0 : m2.cell? ⟨C, 0, none⟩ = some (.int .u32 c0) := hBx.cell rfl
    have x1 : m2.cell? ⟨C, 1, none⟩ = some (.int .u32 c1) := hBx.cell rfl
    have x2 : m2.cell? ⟨C, 2, none⟩ = some (.int .u32 c2) := hBx.cell rfl
    have x3 : m2.cell? ⟨C, 3, none⟩ = some (.int .u32 c3) := hBx.cell rfl
    have x4 : m2.cell? ⟨C, 4, none⟩ = some (.slice (some ⟨g, 0, none⟩) m m) := hBx.cell rfl
    have x5 : m2.cell? ⟨C, 5, none⟩ = some (.int .u32 (sd)) := hBx.cell rfl
    clear hBx
    go_wp2_with (refine wpList_store_row rfl 29 _ _ rfl R _ rfl rfl 29 _ HRx.out (by kernel_rfl) rfl (by simp [Value.oneCell']) ?_)
    refine bodyPost_ret (v := .tuple #[envV (c0, c1, c2, c3) (.slice (some ⟨g, 0, none⟩) m m) (sd), .int .u32 (0), .int .i64 10]) ?_ rfl ?_
    · exact results_ev_three Tryd.results97 _ _ R 29 _ _ _ rfl rfl rfl rfl (setRow_heap _ _ _ _ _ _ HRx.out)
    · rw [show callP n ((c0, c1, c2, c3), ts, sd) zs = ((((c0, c1, c2, c3), ts, sd), 0, 10) : Ev × Int × Int) from callP_fault (e := ((c0, c1, c2, c3), ts, sd)) HLen.out H4.out HM2.out]
      have hT := (HC2.out.2.2.2.1.apart HRx.out (by decide) (by decide) (by decide) (grownBy_setRow _ R #[.int .u32 c0, .int .u32 c1, .int .u32 c2, .int .u32 c3, .slice (some ⟨g, 0, none⟩) m m, .int .u32 (sd)])).low (base' := w.heap.size) hb0.size
      exact ⟨.slice (some ⟨g, 0, none⟩) m m, rfl, below_setRow (hb0.trans (HC2.out.1.mono hb0.size)) (by omega) _, .inr ⟨g, by rw [HMm.out], hT, by exact Nat.le_trans H40.out (by omega)⟩⟩
  rw [hmo] at cm
  refine cm.mono ?_
  rintro e m2 ⟨rfl, hc2⟩
  have HC2 := Lib.hid hc2
  clear cm hc2 hh3
  rcases hn6 with hnn | hnn | hnn | hnn | hnn | hnn
  · as_aux_lemma =>
    subst hnn
    have hlen : an = 3 := by have h9 := HLen.out; rw [show argsP 0 = 3 by decide] at h9; have h8 := HZl.out; omega
    have HM2 := Lib.hid hmo
    have hin := mayOp_lt HI.out hmo
    have HIn := Lib.hid hin
    have HFe := Lib.hid (HF.out _ (getD_mem ts i zeroT hin))
    clear hmo hin
    have c5 := helpers_any C m2
    go_wp2_with fail
    refine c5.mono ?_
    rintro e m3 ⟨rfl, hmap, hb⟩
    clear c5
    have HC3 := Lib.hid (HC2.out.later hb)
    have hlk := run_look (n := 0) (v := fnV 121 C) hmap (by decide) (by rfl)
    simp only [fnV] at hlk
    clear hb hmap
    go_wp2_with fail
    refine (get_m W0 m3 C g (c0, c1, c2, c3) sd ts ab an ap zs i HC3.out hlen HI.out HIn.out H40.out HFe.out).mono ?_
    rintro e m4 ⟨rfl, hc4⟩
    have HC4 := Lib.hid hc4
    have HEq := Lib.hid (callP_do (n := 0) (e := ((c0, c1, c2, c3), ts, sd)) HLen.out (by omega) HI.out HM2.out)
    clear hc4 hlk hlen
    obtain ⟨ov, hov⟩ : ∃ ov, opP 0 (ts.getD i zeroT) zs = ov := ⟨_, rfl⟩
    rw [hov] at HC4 HEq ⊢
    simp only at HEq
    obtain ⟨ot, orv⟩ := ov
    simp only at HC4 HEq ⊢
    clear hov
    have HRx := Lib.hid (HR.out.later HC4.out.1)
    have hBx := HC4.out.2.1
    rw [List.length_set] at hBx
    rw [HMm.out] at hBx
    have x0 : m4.cell? ⟨C, 0, none⟩ = some (.int .u32 c0) := hBx.cell rfl
    have x1 : m4.cell? ⟨C, 1, none⟩ = some (.int .u32 c1) := hBx.cell rfl
    have x2 : m4.cell? ⟨C, 2, none⟩ = some (.int .u32 c2) := hBx.cell rfl
    have x3 : m4.cell? ⟨C, 3, none⟩ = some (.int .u32 c3) := hBx.cell rfl
    have x4 : m4.cell? ⟨C, 4, none⟩ = some (.slice (some ⟨g, 0, none⟩) m m) := hBx.cell rfl
    have x5 : m4.cell? ⟨C, 5, none⟩ = some (.int .u32 (sd)) := hBx.cell rfl
    clear hBx
    go_wp2_with (refine wpList_store_row rfl 29 _ _ rfl R _ rfl rfl 29 _ HRx.out (by kernel_rfl) rfl (by simp [Value.oneCell']) ?_)
    refine bodyPost_ret (v := .tuple #[envV (c0, c1, c2, c3) (.slice (some ⟨g, 0, none⟩) m m) (sd), .int .u32 (orv), .int .i64 0]) ?_ rfl ?_
    · exact results_ev_three Tryd.results97 _ _ R 29 _ _ _ rfl rfl rfl rfl (setRow_heap _ _ _ _ _ _ HRx.out)
    · rw [show callP 0 ((c0, c1, c2, c3), ts, sd) zs = ((((c0, c1, c2, c3), (ts.set i ot), sd), orv, 0) : Ev × Int × Int) from HEq.out]
      have hT := (HC4.out.2.2.2.1.apart HRx.out (by decide) (by decide) (by decide) (grownBy_setRow _ R #[.int .u32 c0, .int .u32 c1, .int .u32 c2, .int .u32 c3, .slice (some ⟨g, 0, none⟩) m m, .int .u32 (sd)])).low (base' := w.heap.size) hb0.size
      exact ⟨.slice (some ⟨g, 0, none⟩) m m, rfl, below_setRow (hb0.trans (HC4.out.1.mono hb0.size)) (by omega) _, .inr ⟨g, by rw [List.length_set, HMm.out], hT, by rw [List.length_set]; exact Nat.le_trans H40.out (by omega)⟩⟩
  · as_aux_lemma =>
    subst hnn
    have hlen : an = 4 := by have h9 := HLen.out; rw [show argsP 1 = 4 by decide] at h9; have h8 := HZl.out; omega
    have HM2 := Lib.hid hmo
    have hin := mayOp_lt HI.out hmo
    have HIn := Lib.hid hin
    have HFe := Lib.hid (HF.out _ (getD_mem ts i zeroT hin))
    clear hmo hin
    have c5 := helpers_any C m2
    go_wp2_with fail
    refine c5.mono ?_
    rintro e m3 ⟨rfl, hmap, hb⟩
    clear c5
    have HC3 := Lib.hid (HC2.out.later hb)
    have hlk := run_look (n := 1) (v := fnV 122 C) hmap (by decide) (by rfl)
    simp only [fnV] at hlk
    clear hb hmap
    go_wp2_with fail
    refine (set_m W0 m3 C g (c0, c1, c2, c3) sd ts ab an ap zs i HC3.out hlen HI.out HIn.out H40.out HFe.out).mono ?_
    rintro e m4 ⟨rfl, hc4⟩
    have HC4 := Lib.hid hc4
    have HEq := Lib.hid (callP_do (n := 1) (e := ((c0, c1, c2, c3), ts, sd)) HLen.out (by omega) HI.out HM2.out)
    clear hc4 hlk hlen
    obtain ⟨ov, hov⟩ : ∃ ov, opP 1 (ts.getD i zeroT) zs = ov := ⟨_, rfl⟩
    rw [hov] at HC4 HEq ⊢
    simp only at HEq
    obtain ⟨ot, orv⟩ := ov
    simp only at HC4 HEq ⊢
    clear hov
    have HRx := Lib.hid (HR.out.later HC4.out.1)
    have hBx := HC4.out.2.1
    rw [List.length_set] at hBx
    rw [HMm.out] at hBx
    have x0 : m4.cell? ⟨C, 0, none⟩ = some (.int .u32 c0) := hBx.cell rfl
    have x1 : m4.cell? ⟨C, 1, none⟩ = some (.int .u32 c1) := hBx.cell rfl
    have x2 : m4.cell? ⟨C, 2, none⟩ = some (.int .u32 c2) := hBx.cell rfl
    have x3 : m4.cell? ⟨C, 3, none⟩ = some (.int .u32 c3) := hBx.cell rfl
    have x4 : m4.cell? ⟨C, 4, none⟩ = some (.slice (some ⟨g, 0, none⟩) m m) := hBx.cell rfl
    have x5 : m4.cell? ⟨C, 5, none⟩ = some (.int .u32 (sd)) := hBx.cell rfl
    clear hBx
    go_wp2_with (refine wpList_store_row rfl 29 _ _ rfl R _ rfl rfl 29 _ HRx.out (by kernel_rfl) rfl (by simp [Value.oneCell']) ?_)
    refine bodyPost_ret (v := .tuple #[envV (c0, c1, c2, c3) (.slice (some ⟨g, 0, none⟩) m m) (sd), .int .u32 (orv), .int .i64 0]) ?_ rfl ?_
    · exact results_ev_three Tryd.results97 _ _ R 29 _ _ _ rfl rfl rfl rfl (setRow_heap _ _ _ _ _ _ HRx.out)
    · rw [show callP 1 ((c0, c1, c2, c3), ts, sd) zs = ((((c0, c1, c2, c3), (ts.set i ot), sd), orv, 0) : Ev × Int × Int) from HEq.out]
      have hT := (HC4.out.2.2.2.1.apart HRx.out (by decide) (by decide) (by decide) (grownBy_setRow _ R #[.int .u32 c0, .int .u32 c1, .int .u32 c2, .int .u32 c3, .slice (some ⟨g, 0, none⟩) m m, .int .u32 (sd)])).low (base' := w.heap.size) hb0.size
      exact ⟨.slice (some ⟨g, 0, none⟩) m m, rfl, below_setRow (hb0.trans (HC4.out.1.mono hb0.size)) (by omega) _, .inr ⟨g, by rw [List.length_set, HMm.out], hT, by rw [List.length_set]; exact Nat.le_trans H40.out (by omega)⟩⟩
  · as_aux_lemma =>
    subst hnn
    have hlen : an = 2 := by have h9 := HLen.out; rw [show argsP 2 = 2 by decide] at h9; have h8 := HZl.out; omega
    have HM2 := Lib.hid hmo
    have hin := mayOp_lt HI.out hmo
    have HIn := Lib.hid hin
    have HFe := Lib.hid (HF.out _ (getD_mem ts i zeroT hin))
    clear hmo hin
    have c5 := helpers_any C m2
    go_wp2_with fail
    refine c5.mono ?_
    rintro e m3 ⟨rfl, hmap, hb⟩
    clear c5
    have HC3 := Lib.hid (HC2.out.later hb)
    have hlk := run_look (n := 2) (v := fnV 123 C) hmap (by decide) (by rfl)
    simp only [fnV] at hlk
    clear hb hmap
    go_wp2_with fail
    refine (del_m W0 m3 C g (c0, c1, c2, c3) sd ts ab an ap zs i HC3.out hlen HI.out HIn.out H40.out HFe.out).mono ?_
    rintro e m4 ⟨rfl, hc4⟩
    have HC4 := Lib.hid hc4
    have HEq := Lib.hid (callP_do (n := 2) (e := ((c0, c1, c2, c3), ts, sd)) HLen.out (by omega) HI.out HM2.out)
    clear hc4 hlk hlen
    obtain ⟨ov, hov⟩ : ∃ ov, opP 2 (ts.getD i zeroT) zs = ov := ⟨_, rfl⟩
    rw [hov] at HC4 HEq ⊢
    simp only at HEq
    obtain ⟨ot, orv⟩ := ov
    simp only at HC4 HEq ⊢
    clear hov
    have HRx := Lib.hid (HR.out.later HC4.out.1)
    have hBx := HC4.out.2.1
    rw [List.length_set] at hBx
    rw [HMm.out] at hBx
    have x0 : m4.cell? ⟨C, 0, none⟩ = some (.int .u32 c0) := hBx.cell rfl
    have x1 : m4.cell? ⟨C, 1, none⟩ = some (.int .u32 c1) := hBx.cell rfl
    have x2 : m4.cell? ⟨C, 2, none⟩ = some (.int .u32 c2) := hBx.cell rfl
    have x3 : m4.cell? ⟨C, 3, none⟩ = some (.int .u32 c3) := hBx.cell rfl
    have x4 : m4.cell? ⟨C, 4, none⟩ = some (.slice (some ⟨g, 0, none⟩) m m) := hBx.cell rfl
    have x5 : m4.cell? ⟨C, 5, none⟩ = some (.int .u32 (sd)) := hBx.cell rfl
    clear hBx
    go_wp2_with (refine wpList_store_row rfl 29 _ _ rfl R _ rfl rfl 29 _ HRx.out (by kernel_rfl) rfl (by simp [Value.oneCell']) ?_)
    refine bodyPost_ret (v := .tuple #[envV (c0, c1, c2, c3) (.slice (some ⟨g, 0, none⟩) m m) (sd), .int .u32 (orv), .int .i64 0]) ?_ rfl ?_
    · exact results_ev_three Tryd.results97 _ _ R 29 _ _ _ rfl rfl rfl rfl (setRow_heap _ _ _ _ _ _ HRx.out)
    · rw [show callP 2 ((c0, c1, c2, c3), ts, sd) zs = ((((c0, c1, c2, c3), (ts.set i ot), sd), orv, 0) : Ev × Int × Int) from HEq.out]
      have hT := (HC4.out.2.2.2.1.apart HRx.out (by decide) (by decide) (by decide) (grownBy_setRow _ R #[.int .u32 c0, .int .u32 c1, .int .u32 c2, .int .u32 c3, .slice (some ⟨g, 0, none⟩) m m, .int .u32 (sd)])).low (base' := w.heap.size) hb0.size
      exact ⟨.slice (some ⟨g, 0, none⟩) m m, rfl, below_setRow (hb0.trans (HC4.out.1.mono hb0.size)) (by omega) _, .inr ⟨g, by rw [List.length_set, HMm.out], hT, by rw [List.length_set]; exact Nat.le_trans H40.out (by omega)⟩⟩
  · as_aux_lemma =>
    subst hnn
    have hlen : an = 2 := by have h9 := HLen.out; rw [show argsP 3 = 2 by decide] at h9; have h8 := HZl.out; omega
    have HM2 := Lib.hid hmo
    have hin := mayOp_lt HI.out hmo
    have HIn := Lib.hid hin
    have HFe := Lib.hid (HF.out _ (getD_mem ts i zeroT hin))
    clear hmo hin
    have c5 := helpers_any C m2
    go_wp2_with fail
    refine c5.mono ?_
    rintro e m3 ⟨rfl, hmap, hb⟩
    clear c5
    have HC3 := Lib.hid (HC2.out.later hb)
    have hlk := run_look (n := 3) (v := fnV 124 C) hmap (by decide) (by rfl)
    simp only [fnV] at hlk
    clear hb hmap
    go_wp2_with fail
    refine (has_m W0 m3 C g (c0, c1, c2, c3) sd ts ab an ap zs i HC3.out hlen HI.out HIn.out H40.out HFe.out).mono ?_
    rintro e m4 ⟨rfl, hc4⟩
    have HC4 := Lib.hid hc4
    have HEq := Lib.hid (callP_do (n := 3) (e := ((c0, c1, c2, c3), ts, sd)) HLen.out (by omega) HI.out HM2.out)
    clear hc4 hlk hlen
    obtain ⟨ov, hov⟩ : ∃ ov, opP 3 (ts.getD i zeroT) zs = ov := ⟨_, rfl⟩
    rw [hov] at HC4 HEq ⊢
    simp only at HEq
    obtain ⟨ot, orv⟩ := ov
    simp only at HC4 HEq ⊢
    clear hov
    have HRx := Lib.hid (HR.out.later HC4.out.1)
    have hBx := HC4.out.2.1
    rw [List.length_set] at hBx
    rw [HMm.out] at hBx
    have x0 : m4.cell? ⟨C, 0, none⟩ = some (.int .u32 c0) := hBx.cell rfl
    have x1 : m4.cell? ⟨C, 1, none⟩ = some (.int .u32 c1) := hBx.cell rfl
    have x2 : m4.cell? ⟨C, 2, none⟩ = some (.int .u32 c2) := hBx.cell rfl
    have x3 : m4.cell? ⟨C, 3, none⟩ = some (.int .u32 c3) := hBx.cell rfl
    have x4 : m4.cell? ⟨C, 4, none⟩ = some (.slice (some ⟨g, 0, none⟩) m m) := hBx.cell rfl
    have x5 : m4.cell? ⟨C, 5, none⟩ = some (.int .u32 (sd)) := hBx.cell rfl
    clear hBx
    go_wp2_with (refine wpList_store_row rfl 29 _ _ rfl R _ rfl rfl 29 _ HRx.out (by kernel_rfl) rfl (by simp [Value.oneCell']) ?_)
    refine bodyPost_ret (v := .tuple #[envV (c0, c1, c2, c3) (.slice (some ⟨g, 0, none⟩) m m) (sd), .int .u32 (orv), .int .i64 0]) ?_ rfl ?_
    · exact results_ev_three Tryd.results97 _ _ R 29 _ _ _ rfl rfl rfl rfl (setRow_heap _ _ _ _ _ _ HRx.out)
    · rw [show callP 3 ((c0, c1, c2, c3), ts, sd) zs = ((((c0, c1, c2, c3), (ts.set i ot), sd), orv, 0) : Ev × Int × Int) from HEq.out]
      have hT := (HC4.out.2.2.2.1.apart HRx.out (by decide) (by decide) (by decide) (grownBy_setRow _ R #[.int .u32 c0, .int .u32 c1, .int .u32 c2, .int .u32 c3, .slice (some ⟨g, 0, none⟩) m m, .int .u32 (sd)])).low (base' := w.heap.size) hb0.size
      exact ⟨.slice (some ⟨g, 0, none⟩) m m, rfl, below_setRow (hb0.trans (HC4.out.1.mono hb0.size)) (by omega) _, .inr ⟨g, by rw [List.length_set, HMm.out], hT, by rw [List.length_set]; exact Nat.le_trans H40.out (by omega)⟩⟩
  · exact absurd hnn H4.out
  · as_aux_lemma =>
    subst hnn
    have hlen : an = 2 := by have h9 := HLen.out; rw [show argsP 5 = 2 by decide] at h9; have h8 := HZl.out; omega
    have HM2 := Lib.hid hmo
    have hin := mayOp_lt HI.out hmo
    have HIn := Lib.hid hin
    have HFe := Lib.hid (HF.out _ (getD_mem ts i zeroT hin))
    clear hmo hin
    have c5 := helpers_any C m2
    go_wp2_with fail
    refine c5.mono ?_
    rintro e m3 ⟨rfl, hmap, hb⟩
    clear c5
    have HC3 := Lib.hid (HC2.out.later hb)
    have hlk := run_look (n := 5) (v := fnV 126 C) hmap (by decide) (by rfl)
    simp only [fnV] at hlk
    clear hb hmap
    go_wp2_with fail
    refine (push_m W0 m3 C g (c0, c1, c2, c3) sd ts ab an ap zs i HC3.out hlen HI.out HIn.out H40.out HFe.out).mono ?_
    rintro e m4 ⟨rfl, hc4⟩
    have HC4 := Lib.hid hc4
    have HEq := Lib.hid (callP_do (n := 5) (e := ((c0, c1, c2, c3), ts, sd)) HLen.out (by omega) HI.out HM2.out)
    clear hc4 hlk hlen
    obtain ⟨ov, hov⟩ : ∃ ov, opP 5 (ts.getD i zeroT) zs = ov := ⟨_, rfl⟩
    rw [hov] at HC4 HEq ⊢
    simp only at HEq
    obtain ⟨ot, orv⟩ := ov
    simp only at HC4 HEq ⊢
    clear hov
    have HRx := Lib.hid (HR.out.later HC4.out.1)
    have hBx := HC4.out.2.1
    rw [List.length_set] at hBx
    rw [HMm.out] at hBx
    have x0 : m4.cell? ⟨C, 0, none⟩ = some (.int .u32 c0) := hBx.cell rfl
    have x1 : m4.cell? ⟨C, 1, none⟩ = some (.int .u32 c1) := hBx.cell rfl
    have x2 : m4.cell? ⟨C, 2, none⟩ = some (.int .u32 c2) := hBx.cell rfl
    have x3 : m4.cell? ⟨C, 3, none⟩ = some (.int .u32 c3) := hBx.cell rfl
    have x4 : m4.cell? ⟨C, 4, none⟩ = some (.slice (some ⟨g, 0, none⟩) m m) := hBx.cell rfl
    have x5 : m4.cell? ⟨C, 5, none⟩ = some (.int .u32 (sd)) := hBx.cell rfl
    clear hBx
    go_wp2_with (refine wpList_store_row rfl 29 _ _ rfl R _ rfl rfl 29 _ HRx.out (by kernel_rfl) rfl (by simp [Value.oneCell']) ?_)
    refine bodyPost_ret (v := .tuple #[envV (c0, c1, c2, c3) (.slice (some ⟨g, 0, none⟩) m m) (sd), .int .u32 (orv), .int .i64 0]) ?_ rfl ?_
    · exact results_ev_three Tryd.results97 _ _ R 29 _ _ _ rfl rfl rfl rfl (setRow_heap _ _ _ _ _ _ HRx.out)
    · rw [show callP 5 ((c0, c1, c2, c3), ts, sd) zs = ((((c0, c1, c2, c3), (ts.set i ot), sd), orv, 0) : Ev × Int × Int) from HEq.out]
      have hT := (HC4.out.2.2.2.1.apart HRx.out (by decide) (by decide) (by decide) (grownBy_setRow _ R #[.int .u32 c0, .int .u32 c1, .int .u32 c2, .int .u32 c3, .slice (some ⟨g, 0, none⟩) m m, .int .u32 (sd)])).low (base' := w.heap.size) hb0.size
      exact ⟨.slice (some ⟨g, 0, none⟩) m m, rfl, below_setRow (hb0.trans (HC4.out.1.mono hb0.size)) (by omega) _, .inr ⟨g, by rw [List.length_set, HMm.out], hT, by rw [List.length_set]; exact Nat.le_trans H40.out (by omega)⟩⟩
end Go.Proofs.YtilddlgcfbefiaaDoor

