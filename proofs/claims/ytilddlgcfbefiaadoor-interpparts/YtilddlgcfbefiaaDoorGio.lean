/-
  Texts that the laws of this layer stand on, one behind the other.
-/
import Derived.Test.YtilddlgcfbefiaaDoorTF
import Derived.Test.YtilddlgcfbefiaaDoorGtb
import Derived.Test.YtilddlgcfbefiaaDoorGrg
import Derived.Test.YtilddlgcfbefiaaDoorTM
import Derived.Stop.Joined
import Derived.Deep.Fields
import Derived.Deep.Slices
import Derived.Test.YtilddlgcfbefiaaDoorGf
import Derived.OpenShut
import Derived.ChangeKeysEq
/-
  Whether two lists of tables are the same, as a contract over the translated program.
-/
namespace Go.Proofs.YtilddlgcfbefiaaDoor
set_option linter.unusedSimpArgs false
set_option linter.unusedVariables false
open Go Go.RowKit
theorem tabs_eq {ts us : List Tb} (hl : ts.length = us.length) (h : ∀ j, j < ts.length → ts.getD j zeroT = us.getD j zeroT) : ts = us := by
  apply List.ext_getElem hl
  intro j h1 h2
  have := h j h1
  simpa [List.getD_eq_getElem?_getD, h1, h2] using this
set_option maxRecDepth 100000 in
set_option maxHeartbeats 8000000 in
theorem all_any (a : Option Addr) (la ca : Nat) (ts : List Tb) (b : Option Addr) (lb cb : Nat) (us : List Tb) (w : World) (h : TabsAt w a la ca ts) (h' : TabsAt w b lb cb us) :
    Calls Tryd.prog 31 #[.slice a la ca, .slice b lb cb] w fun e w' => e = .returned (.bool (decide (ts = us))) ∧ Below w.heap.size w w' := by
  have hm := h.max
  have hm' := h'.max
  obtain ⟨Q, hQ⟩ : ∃ Q, decide (ts = us) = Q := ⟨_, rfl⟩
  rw [hQ]
  have HQQ := Lib.hid hQ
  have H1 := Lib.hid h
  have H2 := Lib.hid h'
  clear hQ h h'
  by_cases hl : la = lb
  · subst hl
    have hne : ((la : Int) != (la : Int)) = false := by simp
    go_enter Tryd.func31, Tryd.ntmps31
    go_wp2_with fail
    clear hne
    go_loopw [5] (fun i wr => ∃ k : Nat, k ≤ la ∧ i = .int .i64 k ∧ Hid (∀ j, j < k → ts.getD j zeroT = us.getD j zeroT) ∧ Hid (Below w.heap.size w wr)) (fun i _ => la - (intOf i).toNat)
    case atStart => exact ⟨0, by omega, rfl, Lib.hid (fun j hj => absurd hj (by omega)), Lib.hid (Below.refl _ _)⟩
    case round =>
      obtain ⟨k, hk, rfl, HF, HB⟩ := hrel
      by_cases hkl : k < la
      · have hkI : (k : Int) < (la : Int) := by omega
        obtain ⟨y, rfl, hy⟩ := H1.out.2.2.2.resolve_left (by omega)
        obtain ⟨z, rfl, hz⟩ := H2.out.2.2.2.resolve_left (by omega)
        have t1 := hy k hkl
        have t2 := hz k hkl
        rcases e1 : ts.getD k zeroT with ⟨⟨s0, s1, s2, s3⟩, es1, x1⟩
        rcases e2 : us.getD k zeroT with ⟨⟨r0, r1, r2, r3⟩, es2, x2⟩
        rw [e1] at t1
        rw [e2] at t2
        obtain ⟨p0, p1, p2, p3, ⟨b1, l1, cc1, p4, hE1⟩, p5, _⟩ := t1
        obtain ⟨q0, q1, q2, q3, ⟨b2, l2, cc2, q4, hE2⟩, q5, _⟩ := t2
        simp only at p0 p1 p2 p3 p4 p5 q0 q1 q2 q3 q4 q5 hE1 hE2
        have HE1 := Lib.hid hE1
        have HE2 := Lib.hid hE2
        have HKp : Hid (∀ w', Below w.heap.size w w' → w'.cell? (y.add (k * 6)) = some (.int .i64 s0) ∧ w'.cell? ⟨(y.add (k * 6)).block, (y.add (k * 6)).off + 1, none⟩ = some (.int .i64 s1) ∧ w'.cell? ⟨(y.add (k * 6)).block, (y.add (k * 6)).off + 2, none⟩ = some (.int .i64 s2) ∧ w'.cell? ⟨(y.add (k * 6)).block, (y.add (k * 6)).off + 3, none⟩ = some (.int .i64 s3) ∧ w'.cell? ⟨(y.add (k * 6)).block, (y.add (k * 6)).off + 4, none⟩ = some (.slice b1 l1 cc1) ∧ w'.cell? ⟨(y.add (k * 6)).block, (y.add (k * 6)).off + 5, none⟩ = some (.int .u32 x1) ∧ w'.cell? (z.add (k * 6)) = some (.int .i64 r0) ∧ w'.cell? ⟨(z.add (k * 6)).block, (z.add (k * 6)).off + 1, none⟩ = some (.int .i64 r1) ∧ w'.cell? ⟨(z.add (k * 6)).block, (z.add (k * 6)).off + 2, none⟩ = some (.int .i64 r2) ∧ w'.cell? ⟨(z.add (k * 6)).block, (z.add (k * 6)).off + 3, none⟩ = some (.int .i64 r3) ∧ w'.cell? ⟨(z.add (k * 6)).block, (z.add (k * 6)).off + 4, none⟩ = some (.slice b2 l2 cc2) ∧ w'.cell? ⟨(z.add (k * 6)).block, (z.add (k * 6)).off + 5, none⟩ = some (.int .u32 x2)) := Lib.hid (fun w' hb => ⟨(hb.cell (lt_of_cell p0)).trans p0, (hb.cell (lt_of_cell p1)).trans p1, (hb.cell (lt_of_cell p2)).trans p2, (hb.cell (lt_of_cell p3)).trans p3, (hb.cell (lt_of_cell p4)).trans p4, (hb.cell (lt_of_cell p5)).trans p5, (hb.cell (lt_of_cell q0)).trans q0, (hb.cell (lt_of_cell q1)).trans q1, (hb.cell (lt_of_cell q2)).trans q2, (hb.cell (lt_of_cell q3)).trans q3, (hb.cell (lt_of_cell q4)).trans q4, (hb.cell (lt_of_cell q5)).trans q5⟩)
        obtain ⟨R, hR⟩ : ∃ R, decide ((((s0, s1, s2, s3), es1, x1) : Tb) = ((r0, r1, r2, r3), es2, x2)) = R := ⟨_, rfl⟩
        have HQ := Lib.hid hR
        have HE9 := Lib.hid (And.intro e1 e2)
        clear p0 p1 p2 p3 p4 p5 q0 q1 q2 q3 q4 q5 hE1 hE2 hy hz e1 e2 hR
        go_wp2_with fail
        refine wp_region_held_drew (S := (fun w' => w'.cell? (y.add (k * 6)) = some (.int .i64 s0) ∧ w'.cell? ⟨(y.add (k * 6)).block, (y.add (k * 6)).off + 1, none⟩ = some (.int .i64 s1) ∧ w'.cell? ⟨(y.add (k * 6)).block, (y.add (k * 6)).off + 2, none⟩ = some (.int .i64 s2) ∧ w'.cell? ⟨(y.add (k * 6)).block, (y.add (k * 6)).off + 3, none⟩ = some (.int .i64 s3) ∧ w'.cell? ⟨(y.add (k * 6)).block, (y.add (k * 6)).off + 4, none⟩ = some (.slice b1 l1 cc1) ∧ w'.cell? ⟨(y.add (k * 6)).block, (y.add (k * 6)).off + 5, none⟩ = some (.int .u32 x1) ∧ w'.cell? (z.add (k * 6)) = some (.int .i64 r0) ∧ w'.cell? ⟨(z.add (k * 6)).block, (z.add (k * 6)).off + 1, none⟩ = some (.int .i64 r1) ∧ w'.cell? ⟨(z.add (k * 6)).block, (z.add (k * 6)).off + 2, none⟩ = some (.int .i64 r2) ∧ w'.cell? ⟨(z.add (k * 6)).block, (z.add (k * 6)).off + 3, none⟩ = some (.int .i64 r3) ∧ w'.cell? ⟨(z.add (k * 6)).block, (z.add (k * 6)).off + 4, none⟩ = some (.slice b2 l2 cc2) ∧ w'.cell? ⟨(z.add (k * 6)).block, (z.add (k * 6)).off + 5, none⟩ = some (.int .u32 x2))) (by kernel_rfl) (HKp.out _ HB.out.drew) (fun hHeld => ?_)
        refine wpAnyH_yield (i := 0) (v := ?v0) rfl rfl (by kernel_rfl) (by kernel_rfl) (by kernel_rfl) (fun _ _ _ h => h) (by rfl) ?hy0 hHeld ?rest0
        case hy0 =>
          intro w hSw
          (try dsimp only at hSw)
          go_simp
          try with_reducible rfl
        simp only [Act.put, List.setIfInBounds_toArray, List.set_cons_zero, List.set_cons_succ]
        refine wpAnyH_yield (i := 1) (v := ?v1) rfl rfl (by kernel_rfl) (by kernel_rfl) (by kernel_rfl) (fun _ _ _ h => h) (by rfl) ?hy1 hHeld ?rest1
        case hy1 =>
          intro w hSw
          (try dsimp only at hSw)
          go_simp
          try with_reducible rfl
        simp only [Act.put, List.setIfInBounds_toArray, List.set_cons_zero, List.set_cons_succ]
        refine wpAnyH_yield (i := 2) (v := ?v2) rfl rfl (by kernel_rfl) (by kernel_rfl) (by kernel_rfl) (fun _ _ _ h => h) (by rfl) ?hy2 hHeld ?rest2
        case hy2 =>
          intro w hSw
          (try dsimp only at hSw)
          go_simp
          try with_reducible rfl
        simp only [Act.put, List.setIfInBounds_toArray, List.set_cons_zero, List.set_cons_succ]
        refine wpAnyH_yield (i := 3) (v := ?v3) rfl rfl (by kernel_rfl) (by kernel_rfl) (by kernel_rfl) (fun _ _ _ h => h) (by rfl) ?hy3 hHeld ?rest3
        case hy3 =>
          intro w hSw
          (try dsimp only at hSw)
          go_simp
          try with_reducible rfl
        simp only [Act.put, List.setIfInBounds_toArray, List.set_cons_zero, List.set_cons_succ]
        refine wpAnyH_yield (i := 4) (v := ?v4) rfl rfl (by kernel_rfl) (by kernel_rfl) (by kernel_rfl) (fun _ _ _ h => h) (by rfl) ?hy4 hHeld ?rest4
        case hy4 =>
          intro w hSw
          (try dsimp only at hSw)
          go_simp
          try with_reducible rfl
        simp only [Act.put, List.setIfInBounds_toArray, List.set_cons_zero, List.set_cons_succ]
        refine wpAnyH_yield (i := 5) (v := ?v5) rfl rfl (by kernel_rfl) (by kernel_rfl) (by kernel_rfl) (fun _ _ _ h => h) (by rfl) ?hy5 hHeld ?rest5
        case hy5 =>
          intro w hSw
          (try dsimp only at hSw)
          go_simp
          try with_reducible rfl
        simp only [Act.put, List.setIfInBounds_toArray, List.set_cons_zero, List.set_cons_succ]
        refine wpAnyH_yield (i := 6) (v := ?v6) rfl rfl (by kernel_rfl) (by kernel_rfl) (by kernel_rfl) (fun _ _ _ h => h) (by rfl) ?hy6 hHeld ?rest6
        case hy6 =>
          intro w hSw
          (try dsimp only at hSw)
          go_simp
          try with_reducible rfl
        simp only [Act.put, List.setIfInBounds_toArray, List.set_cons_zero, List.set_cons_succ]
        refine wpAnyH_yield (i := 7) (v := ?v7) rfl rfl (by kernel_rfl) (by kernel_rfl) (by kernel_rfl) (fun _ _ _ h => h) (by rfl) ?hy7 hHeld ?rest7
        case hy7 =>
          intro w hSw
          (try dsimp only at hSw)
          go_simp
          try with_reducible rfl
        simp only [Act.put, List.setIfInBounds_toArray, List.set_cons_zero, List.set_cons_succ]
        refine wpAnyH_ready (rs := [8]) (by kernel_rfl) (by simp) ?_
        refine AllReadyH.cons rfl (fun K hK => ?_) AllReadyH.nil
        go_simp
        have c1 := same_any (s0, s1, s2, s3) b1 l1 cc1 x1 es1 (r0, r1, r2, r3) b2 l2 cc2 x2 es2 wr.drew (HE1.out.below HB.out.drew) (HE2.out.below HB.out.drew)
        rw [HQ.out] at c1
        refine c1.mono ?_
        rintro e m1 ⟨rfl, hb1⟩
        have HB1 := Lib.hid (HB.out.drew.trans (hb1.mono HB.out.size))
        clear c1 hb1
        go_wp2_with fail
        refine hK.out _ _ (HKp.out _ HB1.out) (fun hHeld => ?_)
        clear hK K
        try simp only [Act.put, List.setIfInBounds_toArray, List.set_cons_zero, List.set_cons_succ]
        refine wpAnyH_yield (i := 9) (v := ?v9) rfl rfl (by kernel_rfl) (by kernel_rfl) (by kernel_rfl) (fun _ _ _ h => h) (by rfl) ?hy9 hHeld ?rest9
        case hy9 =>
          intro w hSw
          (try dsimp only at hSw)
          go_simp
          try with_reducible rfl
        simp only [Act.put, List.setIfInBounds_toArray, List.set_cons_zero, List.set_cons_succ]
        refine wpAnyH_done (by kernel_rfl) ?_ _
        clear hHeld HKp
        cases R
        · have HN : Hid (Q = false) := Lib.hid (by
            rw [← HQQ.out]
            refine decide_eq_false (fun h => ?_)
            have h9 := HQ.out
            rw [← HE9.out.1, ← HE9.out.2, h] at h9
            simp at h9)
          go_wp2_with fail
          go_ret
          exact ⟨by rw [HN.out]; rfl, HB1.out⟩
        · have hee : ts.getD k zeroT = us.getD k zeroT := by
            rw [HE9.out.1, HE9.out.2]
            exact of_decide_eq_true HQ.out
          have HEE := Lib.hid hee
          clear hee
          go_wp2_with fail
          refine ⟨⟨k + 1, by omega, by go_num, Lib.hid (fun j hj => ?_), HB1⟩, by simp [intOf]; omega⟩
          rcases Nat.lt_succ_iff_lt_or_eq.1 hj with hj | rfl
          · exact HF.out j hj
          · exact HEE.out
      · have hkI : ¬ (k : Int) < (la : Int) := by omega
        have HN : Hid (Q = true) := Lib.hid (by
          rw [← HQQ.out]
          exact decide_eq_true (tabs_eq (by rw [H1.out.1, H2.out.1]) (fun j hj => HF.out j (by rw [H1.out.1] at hj; omega))))
        go_wp2_with fail
        go_ret
        exact ⟨by rw [HN.out]; rfl, HB.out⟩
  · have hne : ((la : Int) != (lb : Int)) = true := by simp; omega
    have HN : Hid (Q = false) := Lib.hid (by
      rw [← HQQ.out]
      refine decide_eq_false (fun h => hl ?_)
      rw [← H1.out.1, ← H2.out.1, h])
    go_enter Tryd.func31, Tryd.ntmps31
    go_wp2_with fail
    go_ret
    exact ⟨by rw [HN.out]; rfl, Below.refl _ _⟩
end Go.Proofs.YtilddlgcfbefiaaDoor

/-
  Tables and rows of words that came in, opened: what is read of an argument lies in memory as plain numbers.
-/
namespace Go.Proofs.YtilddlgcfbefiaaDoor
set_option linter.unusedSimpArgs false
set_option linter.unusedVariables false
open Go.ChangeShapes Go.WideShapes Go.ChangeAt Go.RowKit Go.Deep

set_option maxRecDepth 100000 in
theorem cellsS : Tryd.prog.cellsOf 39 = 4 := by kernel_rfl
set_option maxRecDepth 100000 in
theorem cellsE : Tryd.prog.cellsOf 66 = 2 := by kernel_rfl
set_option maxRecDepth 100000 in
theorem cellsT : Tryd.prog.cellsOf 42 = 6 := by kernel_rfl
set_option maxRecDepth 100000 in
theorem cellsL : Tryd.prog.cellsOf 40 = 1 := by kernel_rfl
set_option maxRecDepth 100000 in
theorem cellsW : Tryd.prog.cellsOf 25 = 1 := by kernel_rfl
section
variable {H : Type} {enc : TypeId × Value → H} {w : World} {base : Nat} {spare : Nat → Bool} {held : Bool}
set_option maxRecDepth 100000 in
theorem sc_cells {fuel : Nat} {cs : List Value} {x : DataW H × List MemPlace} (h : DataW.trod enc Tryd.prog w base spare held fuel 39 cs = some x) :
    ∃ (k c n v : Int), cs = [.int .i64 k, .int .i64 c, .int .i64 n, .int .i64 v] := by
  obtain ⟨xs, n, _, hx, hl, hxl, hg⟩ := DataW.trod_struct Tryd.underlying39 h
  rw [cellsS] at hl
  have hone := hone_of (P := Tryd.prog) (fs := #[⟨"Kind", 3, 0, false, "", "", 0⟩, ⟨"Cap", 3, 1, false, "", "", 8⟩, ⟨"Words", 3, 2, false, "", "", 16⟩, ⟨"Ver", 3, 3, false, "", "", 24⟩]) (by kernel_rfl)
  match cs, hl with
  | [c0, c1, c2, c3], _ =>
    match xs, hxl with
    | [y0, y1, y2, y3], _ =>
      have k0 := hg 0 _ rfl
      have k1 := hg 1 _ rfl
      have k2 := hg 2 _ rfl
      have k3 := hg 3 _ rfl
      rw [(hone 0 _ rfl).1, (hone 0 _ rfl).2] at k0
      rw [(hone 1 _ rfl).1, (hone 1 _ rfl).2] at k1
      rw [(hone 2 _ rfl).1, (hone 2 _ rfl).2] at k2
      rw [(hone 3 _ rfl).1, (hone 3 _ rfl).2] at k3
      obtain ⟨a0, e0, _, _⟩ := DataW.trod_int Tryd.underlying3 k0
      obtain ⟨a1, e1, _, _⟩ := DataW.trod_int Tryd.underlying3 k1
      obtain ⟨a2, e2, _, _⟩ := DataW.trod_int Tryd.underlying3 k2
      obtain ⟨a3, e3, _, _⟩ := DataW.trod_int Tryd.underlying3 k3
      simp at e0 e1 e2 e3
      subst e0 e1 e2 e3
      exact ⟨a0, a1, a2, a3, rfl⟩
set_option maxRecDepth 100000 in
theorem words_here {fuel : Nat} {v : Value} {x : DataW H × List MemPlace} (h : DataW.trod enc Tryd.prog w base spare held fuel 52 [v] = some x) : ∃ a len cap zs, v = .slice a len cap ∧ WordsAt w a len cap zs := by
  rcases open_slice Tryd.underlying52 h with ⟨hcs, _⟩ | ⟨a, len, cap, m, n, D, Pl, hcs, _, hl, hm, hmm, _, hx⟩
  · simp at hcs
    exact ⟨none, 0, 0, [], hcs, words_nil w⟩
  · simp at hcs
    have hml : len ≤ m := by rw [hmm]; split <;> omega
    obtain ⟨zs, hcl, hc⟩ := exists_list (0 : Int) (fun k (z : Int) => isW z ∧ w.cell? (a.add k) = some (.int .u32 z)) len (fun k hk => by
      obtain ⟨cs', h1, h2⟩ := hx k (by omega)
      rw [cellsW] at h1
      obtain ⟨z, e, _, hwf⟩ := DataW.trod_int Tryd.underlying25 h2
      subst e
      obtain ⟨_, _, hat⟩ := World.cells?_some h1
      have k0 := hat 0 (by omega)
      rw [Addr.add_zero', Nat.mul_one] at k0
      exact ⟨z, bounds_u32 hwf, k0⟩)
    refine ⟨some a, len, cap, zs, hcs, hcl, hl, hm, fun z hz => ?_, .inr ⟨a, rfl, fun k hk => (hc k hk).2⟩⟩
    obtain ⟨j, hj, rfl⟩ := List.getElem_of_mem hz
    have := (hc j (by omega)).1
    rwa [List.getD_eq_getElem?_getD, List.getElem?_eq_getElem hj] at this
set_option maxRecDepth 100000 in
theorem ent_cells {fuel : Nat} {cs : List Value} {x : DataW H × List MemPlace} (h : DataW.trod enc Tryd.prog w base spare held fuel 66 cs = some x) : ∃ (key : Int) (a : Option Addr) (len cap : Nat) (zs : List Int), cs = [.int .u32 key, .slice a len cap] ∧ isW key ∧ WordsAt w a len cap zs := by
  obtain ⟨xs, n, _, _, hl, hxl, hg⟩ := DataW.trod_struct Tryd.underlying66 h
  rw [cellsE] at hl
  match cs, hl with
  | [c0, c1], _ =>
    have k0 := hg 0 _ rfl
    have k1 := hg 1 _ rfl
    have hone := hone_of (P := Tryd.prog) (fs := #[⟨"Key", 25, 0, false, "", "", 0⟩, ⟨"V", 52, 1, false, "", "", 8⟩]) (by kernel_rfl)
    rw [(hone 0 _ rfl).1, (hone 0 _ rfl).2] at k0
    rw [(hone 1 _ rfl).1, (hone 1 _ rfl).2] at k1
    match xs, hxl with
    | [y0, y1], _ =>
      obtain ⟨key, e0, _, hwf⟩ := DataW.trod_int Tryd.underlying25 k0
      have k1' : DataW.trod enc Tryd.prog w base spare held n 52 [c1] = some y1 := k1
      obtain ⟨a, len, cap, zs, rfl, hW⟩ := words_here k1'
      have e0' : [c0] = [.int .u32 key] := e0
      simp at e0'
      subst e0'
      exact ⟨key, a, len, cap, zs, rfl, bounds_u32 hwf, hW⟩
set_option maxRecDepth 100000 in
theorem ents_here {fuel : Nat} {v : Value} {x : DataW H × List MemPlace} (h : DataW.trod enc Tryd.prog w base spare held fuel 40 [v] = some x) : ∃ a len cap es, v = .slice a len cap ∧ EntsAt w a len cap es := by
  rcases open_slice Tryd.underlying40 h with ⟨hcs, _⟩ | ⟨a, len, cap, m, n, D, Pl, hcs, _, hl, hm, hmm, _, hx⟩
  · simp at hcs
    exact ⟨none, 0, 0, [], hcs, ents_nil w⟩
  · simp at hcs
    have hml : len ≤ m := by rw [hmm]; split <;> omega
    obtain ⟨es, hcl, hc⟩ := exists_list zeroE (fun k (e : Ent) => EntHere w (a.add (k * 2)) e) len (fun k hk => by
      obtain ⟨cs', h1, h2⟩ := hx k (by omega)
      rw [cellsE] at h1
      obtain ⟨key, b, l, cc, zs, rfl, hkw, hW⟩ := ent_cells h2
      obtain ⟨_, _, hat⟩ := World.cells?_some h1
      have k0 := hat 0 (by omega)
      have k1 := hat 1 (by omega)
      rw [Addr.add_zero'] at k0
      rw [add_add_cell _ 1 (by omega)] at k1
      exact ⟨(key, zs), k0, hkw, b, l, cc, k1, hW⟩)
    exact ⟨some a, len, cap, es, hcs, hcl, hl, hm, .inr ⟨a, rfl, hc⟩⟩
set_option maxRecDepth 100000 in
theorem tb_cells {fuel : Nat} {cs : List Value} {x : DataW H × List MemPlace} (h : DataW.trod enc Tryd.prog w base spare held fuel 42 cs = some x) : ∃ (s : Sc) (a : Option Addr) (len cap : Nat) (y : Int) (es : List Ent), cs = [.int .i64 s.1, .int .i64 s.2.1, .int .i64 s.2.2.1, .int .i64 s.2.2.2, .slice a len cap, .int .u32 y] ∧ EntsAt w a len cap es ∧ isW y := by
  obtain ⟨xs, n, _, _, hl, hxl, hg⟩ := DataW.trod_struct Tryd.underlying42 h
  rw [cellsT] at hl
  match cs, hl with
  | [c0, c1, c2, c3, c4, c5], _ =>
    have k0 := hg 0 _ rfl
    have k1 := hg 1 _ rfl
    have k2 := hg 2 _ rfl
    match xs, hxl with
    | [y0, y1, y2], _ =>
      have k0' : DataW.trod enc Tryd.prog w base spare held n 39 [c0, c1, c2, c3] = some y0 := by
        first
        | exact k0
        | (dsimp only at k0; rw [cellsS] at k0; exact k0)
        | simpa [cellsS] using k0
      have k1' : DataW.trod enc Tryd.prog w base spare held n 40 [c4] = some y1 := by
        first
        | exact k1
        | (dsimp only at k1; rw [cellsL] at k1; exact k1)
        | simpa [cellsL] using k1
      have k2' : DataW.trod enc Tryd.prog w base spare held n 25 [c5] = some y2 := by
        first
        | exact k2
        | (dsimp only at k2; rw [cellsW] at k2; exact k2)
        | simpa [cellsW] using k2
      obtain ⟨k, c, nn, v, e0⟩ := sc_cells k0'
      obtain ⟨a, len, cap, es, rfl, hE⟩ := ents_here k1'
      obtain ⟨y, e2, _, hwf⟩ := DataW.trod_int Tryd.underlying25 k2'
      simp at e0 e2
      obtain ⟨rfl, rfl, rfl, rfl⟩ := e0
      subst e2
      exact ⟨(k, c, nn, v), a, len, cap, y, es, rfl, hE, bounds_u32 hwf⟩
set_option maxRecDepth 100000 in
theorem open_tb {r0 : Reach} {b0 : Nat} {v : Value} {dd : DataW H} {p : List MemPlace} (hv : Value.okWide Tryd.prog w r0 b0 42 v) (h : DataW.Trod enc Tryd.prog w base spare held 42 v dd p) :
    ∃ s a len cap y es, v = tbV s (.slice a len cap) y ∧ EntsAt w a len cap es ∧ isW y := by
  obtain ⟨cs, rfl, _⟩ := okWide_struct Tryd.underlying42 hv
  obtain ⟨l⟩ := cs
  obtain ⟨fuel, hf⟩ := h
  obtain ⟨s, a, len, cap, y, es, hc, hE, hy⟩ := tb_cells hf
  simp only [Value.cells] at hc
  subst hc
  exact ⟨s, a, len, cap, y, es, rfl, hE, hy⟩
set_option maxRecDepth 100000 in
theorem open_words {r0 : Reach} {b0 : Nat} {v : Value} {dd : DataW H} {p : List MemPlace} (hv : Value.okWide Tryd.prog w r0 b0 52 v) (h : DataW.Trod enc Tryd.prog w base spare held 52 v dd p) :
    ∃ a len cap zs, v = .slice a len cap ∧ WordsAt w a len cap zs := by
  obtain ⟨a0, len0, cap0, rfl⟩ := okWide_slice Tryd.underlying52 hv
  obtain ⟨fuel, hf⟩ := h
  exact words_here hf
end
end Go.Proofs.YtilddlgcfbefiaaDoor

/-
  Environments that came in, opened: what is read of an argument lies in memory as plain numbers.
-/
namespace Go.Proofs.YtilddlgcfbefiaaDoor
set_option linter.unusedSimpArgs false
set_option linter.unusedVariables false
open Go.ChangeShapes Go.WideShapes Go.ChangeAt Go.RowKit Go.Deep
set_option maxRecDepth 100000 in
theorem cellsC : Tryd.prog.cellsOf 26 = 4 := by kernel_rfl
set_option maxRecDepth 100000 in
theorem cellsV : Tryd.prog.cellsOf 29 = 6 := by kernel_rfl
set_option maxRecDepth 100000 in
theorem cellsTs : Tryd.prog.cellsOf 27 = 1 := by kernel_rfl
section
variable {H : Type} {enc : TypeId × Value → H} {w : World} {base : Nat} {spare : Nat → Bool} {held : Bool}
set_option maxRecDepth 100000 in
theorem tabs_nil (w : World) : TabsAt w none 0 0 [] := ⟨rfl, Nat.le_refl _, Nat.zero_le _, .inl rfl⟩
set_option maxRecDepth 100000 in
theorem tabs_here {fuel : Nat} {v : Value} {x : DataW H × List MemPlace} (h : DataW.trod enc Tryd.prog w base spare held fuel 27 [v] = some x) : ∃ a len cap ts, v = .slice a len cap ∧ TabsAt w a len cap ts := by
  rcases open_slice Tryd.underlying27 h with ⟨hcs, _⟩ | ⟨a, len, cap, m, n, D, Pl, hcs, _, hl, hm, hmm, _, hx⟩
  · simp at hcs
    exact ⟨none, 0, 0, [], hcs, tabs_nil w⟩
  · simp at hcs
    have hml : len ≤ m := by rw [hmm]; split <;> omega
    obtain ⟨ts, hcl, hc⟩ := exists_list zeroT (fun k (t : Tb) => TabHere w (a.add (k * 6)) t) len (fun k hk => by
      obtain ⟨cs', h1, h2⟩ := hx k (by omega)
      rw [cellsT] at h1
      obtain ⟨s, b, l, cc, y, es, rfl, hE, hy⟩ := tb_cells h2
      obtain ⟨_, _, hat⟩ := World.cells?_some h1
      have k0 := hat 0 (by omega)
      have k1 := hat 1 (by omega)
      have k2 := hat 2 (by omega)
      have k3 := hat 3 (by omega)
      have k4 := hat 4 (by omega)
      have k5 := hat 5 (by omega)
      rw [Addr.add_zero'] at k0
      rw [add_add_cell _ 1 (by omega)] at k1
      rw [add_add_cell _ 2 (by omega)] at k2
      rw [add_add_cell _ 3 (by omega)] at k3
      rw [add_add_cell _ 4 (by omega)] at k4
      rw [add_add_cell _ 5 (by omega)] at k5
      exact ⟨(s, es, y), k0, k1, k2, k3, ⟨b, l, cc, k4, hE⟩, k5, hy⟩)
    exact ⟨some a, len, cap, ts, hcs, hcl, hl, hm, .inr ⟨a, rfl, hc⟩⟩
set_option maxRecDepth 100000 in
theorem ctx_cells {fuel : Nat} {cs : List Value} {x : DataW H × List MemPlace} (h : DataW.trod enc Tryd.prog w base spare held fuel 26 cs = some x) : ∃ c : Cx, cs = [.int .u32 c.1, .int .u32 c.2.1, .int .u32 c.2.2.1, .int .u32 c.2.2.2] ∧ isW c.1 ∧ isW c.2.1 ∧ isW c.2.2.1 ∧ isW c.2.2.2 := by
  obtain ⟨xs, m, _, ex, hl, hxl, hel⟩ := DataW.trod_array Tryd.underlying26 h
  rw [cellsC] at hl
  match cs, hl with
  | [c0, c1, c2, c3], _ =>
    match xs, hxl with
    | [y0, y1, y2, y3], _ =>
      have g0 := hel 0 (by omega)
      have g1 := hel 1 (by omega)
      have g2 := hel 2 (by omega)
      have g3 := hel 3 (by omega)
      rw [cellsW] at g0 g1 g2 g3
      obtain ⟨a0, e0, _, w0⟩ := DataW.trod_int Tryd.underlying25 g0
      obtain ⟨a1, e1, _, w1⟩ := DataW.trod_int Tryd.underlying25 g1
      obtain ⟨a2, e2, _, w2⟩ := DataW.trod_int Tryd.underlying25 g2
      obtain ⟨a3, e3, _, w3⟩ := DataW.trod_int Tryd.underlying25 g3
      simp at e0 e1 e2 e3
      subst e0 e1 e2 e3
      exact ⟨(a0, a1, a2, a3), rfl, bounds_u32 w0, bounds_u32 w1, bounds_u32 w2, bounds_u32 w3⟩
set_option maxRecDepth 100000 in
theorem env_cells {fuel : Nat} {cs : List Value} {x : DataW H × List MemPlace} (h : DataW.trod enc Tryd.prog w base spare held fuel 29 cs = some x) : ∃ (c : Cx) (a : Option Addr) (len cap : Nat) (y : Int) (ts : List Tb), cs = [.int .u32 c.1, .int .u32 c.2.1, .int .u32 c.2.2.1, .int .u32 c.2.2.2, .slice a len cap, .int .u32 y] ∧ TabsAt w a len cap ts ∧ isW y := by
  obtain ⟨xs, n, _, _, hl, hxl, hg⟩ := DataW.trod_struct Tryd.underlying29 h
  rw [cellsV] at hl
  match cs, hl with
  | [c0, c1, c2, c3, c4, c5], _ =>
    have k0 := hg 0 _ rfl
    have k1 := hg 1 _ rfl
    have k2 := hg 2 _ rfl
    match xs, hxl with
    | [y0, y1, y2], _ =>
      have k0' : DataW.trod enc Tryd.prog w base spare held n 26 [c0, c1, c2, c3] = some y0 := by
        first
        | exact k0
        | (dsimp only at k0; rw [cellsC] at k0; exact k0)
        | simpa [cellsC] using k0
      have k1' : DataW.trod enc Tryd.prog w base spare held n 27 [c4] = some y1 := by
        first
        | exact k1
        | (dsimp only at k1; rw [cellsTs] at k1; exact k1)
        | simpa [cellsTs] using k1
      have k2' : DataW.trod enc Tryd.prog w base spare held n 25 [c5] = some y2 := by
        first
        | exact k2
        | (dsimp only at k2; rw [cellsW] at k2; exact k2)
        | simpa [cellsW] using k2
      obtain ⟨c, e0, _⟩ := ctx_cells k0'
      obtain ⟨a, len, cap, ts, rfl, hE⟩ := tabs_here k1'
      obtain ⟨y, e2, _, hwf⟩ := DataW.trod_int Tryd.underlying25 k2'
      simp at e0 e2
      obtain ⟨rfl, rfl, rfl, rfl⟩ := e0
      subst e2
      exact ⟨c, a, len, cap, y, ts, rfl, hE, bounds_u32 hwf⟩
set_option maxRecDepth 100000 in
theorem open_env {r0 : Reach} {b0 : Nat} {v : Value} {dd : DataW H} {p : List MemPlace} (hv : Value.okWide Tryd.prog w r0 b0 29 v) (h : DataW.Trod enc Tryd.prog w base spare held 29 v dd p) :
    ∃ c a len cap y ts, v = envV c (.slice a len cap) y ∧ TabsAt w a len cap ts ∧ isW y := by
  obtain ⟨cs, rfl, _⟩ := okWide_struct Tryd.underlying29 hv
  obtain ⟨l⟩ := cs
  obtain ⟨fuel, hf⟩ := h
  obtain ⟨c, a, len, cap, y, ts, hc, hE, hy⟩ := env_cells hf
  simp only [Value.cells] at hc
  subst hc
  exact ⟨c, a, len, cap, y, ts, rfl, hE, hy⟩
set_option maxRecDepth 100000 in
theorem open_sc {r0 : Reach} {b0 : Nat} {v : Value} {dd : DataW H} {p : List MemPlace} (hv : Value.okWide Tryd.prog w r0 b0 39 v) (h : DataW.Trod enc Tryd.prog w base spare held 39 v dd p) :
    ∃ k c n m, v = scV k c n m := by
  obtain ⟨cs, rfl, _⟩ := okWide_struct Tryd.underlying39 hv
  obtain ⟨l⟩ := cs
  obtain ⟨fuel, hf⟩ := h
  obtain ⟨k, c, n, m, hc⟩ := sc_cells hf
  simp only [Value.cells] at hc
  subst hc
  exact ⟨k, c, n, m, rfl⟩
end
end Go.Proofs.YtilddlgcfbefiaaDoor

/-
  Whether two environments are the same, as a contract over the translated program.
-/
namespace Go.Proofs.YtilddlgcfbefiaaDoor
set_option linter.unusedSimpArgs false
set_option linter.unusedVariables false
open Go Go.RowKit
theorem cpart0 (k c n v : Int) (w : World) : (part 25 #[.int .u32 k, .int .u32 c, .int .u32 n, .int .u32 v] 0).run Tryd.prog w = .ok (.int .u32 k) w := by kernel_rfl
theorem cpart1 (k c n v : Int) (w : World) : (part 25 #[.int .u32 k, .int .u32 c, .int .u32 n, .int .u32 v] 1).run Tryd.prog w = .ok (.int .u32 c) w := by kernel_rfl
theorem cpart2 (k c n v : Int) (w : World) : (part 25 #[.int .u32 k, .int .u32 c, .int .u32 n, .int .u32 v] 2).run Tryd.prog w = .ok (.int .u32 n) w := by kernel_rfl
theorem cpart3 (k c n v : Int) (w : World) : (part 25 #[.int .u32 k, .int .u32 c, .int .u32 n, .int .u32 v] 3).run Tryd.prog w = .ok (.int .u32 v) w := by kernel_rfl
theorem eqW3 (a b : Int) (w : World) : (Op.equalIn 9999 25 (.int .u32 a) (.int .u32 b)).run Tryd.prog w = .ok (a == b) w := run_equalIn_int w 9998 25 _ _ a b Tryd.underlying25
theorem equal_cx (k c n v k' c' n' v' : Int) (w : World) :
    (Op.equalIn 10000 26 (.agg #[.int .u32 k, .int .u32 c, .int .u32 n, .int .u32 v]) (.agg #[.int .u32 k', .int .u32 c', .int .u32 n', .int .u32 v'])).run Tryd.prog w = .ok (scEq k c n v k' c' n' v') w := by
  obtain ⟨jW, hiW, _⟩ := info_parts infoW
  rw [run_equalIn_array w 9999 _ _ Tryd.underlying26 hiW, cellsW]
  show (Op.eqItems 9999 25 1 _ _ [0, 1, 2, 3]).run Tryd.prog w = _
  simp only [Op.eqItems, scEq]
  rcases h0 : (k == k') <;> rcases h1 : (c == c') <;> rcases h2 : (n == n') <;> rcases h3 : (v == v') <;>
    simp [Sem.run_bind, cpart0, cpart1, cpart2, cpart3, eqW3, h0, h1, h2, h3]
theorem eql_cx (k c n v k' c' n' v' : Int) (w : World) :
    (binOp .eql 26 (.agg #[.int .u32 k, .int .u32 c, .int .u32 n, .int .u32 v]) (.agg #[.int .u32 k', .int .u32 c', .int .u32 n', .int .u32 v'])).run Tryd.prog w = .ok (.bool (scEq k c n v k' c' n' v')) w := by
  rw [run_eql_struct, equal_cx]
  rfl
theorem neq_cx (k c n v k' c' n' v' : Int) (w : World) :
    (binOp .neq 26 (.agg #[.int .u32 k, .int .u32 c, .int .u32 n, .int .u32 v]) (.agg #[.int .u32 k', .int .u32 c', .int .u32 n', .int .u32 v'])).run Tryd.prog w = .ok (.bool (!scEq k c n v k' c' n' v')) w := by
  rw [run_neq_struct, equal_cx]
  rfl
instance instDecEvT : DecidableEq (List Tb × Int) := fun a b => @instDecidableEqProd (List Tb) Int (fun x y => inferInstance) inferInstance a b
instance instDecEv : DecidableEq Ev := fun a b => @instDecidableEqProd (Int × Int × Int × Int) (List Tb × Int) inferInstance instDecEvT a b
theorem guardC : Tryd.prog.eqGuardType Tryd.prog.depth 26 = false := by kernel_rfl
theorem env_cells6 {W : World} {T : Nat} {c0 c1 c2 c3 sd : Int} {V : Value} (h : Box W T 29 #[.int .u32 c0, .int .u32 c1, .int .u32 c2, .int .u32 c3, V, .int .u32 sd]) :
    W.cell? ⟨T, 0, none⟩ = some (.int .u32 c0) ∧ W.cell? ⟨T, 1, none⟩ = some (.int .u32 c1) ∧ W.cell? ⟨T, 2, none⟩ = some (.int .u32 c2) ∧ W.cell? ⟨T, 3, none⟩ = some (.int .u32 c3) ∧ W.cell? ⟨T, 4, none⟩ = some V ∧ W.cell? ⟨T, 5, none⟩ = some (.int .u32 sd) :=
  ⟨h.cell rfl, h.cell rfl, h.cell rfl, h.cell rfl, h.cell rfl, h.cell rfl⟩
set_option maxRecDepth 100000 in
set_option maxHeartbeats 4000000 in
theorem esame_any (c : Cx) (a : Option Addr) (la ca : Nat) (sd : Int) (ts : List Tb) (c' : Cx) (b : Option Addr) (lb cb : Nat) (sd' : Int) (us : List Tb) (w : World) (h : TabsAt w a la ca ts) (h' : TabsAt w b lb cb us) :
    Calls Tryd.prog 16 #[envV c (.slice a la ca) sd, envV c' (.slice b lb cb) sd'] w fun e w' => e = .returned (.bool (decide (((c, ts, sd) : Ev) = (c', us, sd')))) ∧ Below w.heap.size w w' := by
  rcases c with ⟨c0, c1, c2, c3⟩
  rcases c' with ⟨e0, e1, e2, e3⟩
  have hb := box2 (Below.refl w.heap.size w) (Nat.le_refl _) (.cells #[.int .u32 c0, .int .u32 c1, .int .u32 c2, .int .u32 c3, .slice a la ca, .int .u32 sd] 29) (.cells #[.int .u32 e0, .int .u32 e1, .int .u32 e2, .int .u32 e3, .slice b lb cb, .int .u32 sd'] 29)
  have hB1 := (Box.new w 29 #[.int .u32 c0, .int .u32 c1, .int .u32 c2, .int .u32 c3, .slice a la ca, .int .u32 sd]).alloc (.cells #[.int .u32 e0, .int .u32 e1, .int .u32 e2, .int .u32 e3, .slice b lb cb, .int .u32 sd'] 29)
  have hB2 := Box.new (w.alloc (.cells #[.int .u32 c0, .int .u32 c1, .int .u32 c2, .int .u32 c3, .slice a la ca, .int .u32 sd] 29)) 29 #[.int .u32 e0, .int .u32 e1, .int .u32 e2, .int .u32 e3, .slice b lb cb, .int .u32 sd']
  rw [show (w.alloc (.cells #[.int .u32 c0, .int .u32 c1, .int .u32 c2, .int .u32 c3, .slice a la ca, .int .u32 sd] 29)).heap.size = w.heap.size + 1 by simp] at hB2
  have hT := h.below hb
  have hU := h'.below hb
  obtain ⟨R, hR⟩ : ∃ R, decide ((((c0, c1, c2, c3), ts, sd) : Ev) = ((e0, e1, e2, e3), us, sd')) = R := ⟨_, rfl⟩
  rw [hR]
  have HR := Lib.hid hR
  clear hR h h'
  obtain ⟨W, hW⟩ : ∃ W, ((w.alloc (.cells #[.int .u32 c0, .int .u32 c1, .int .u32 c2, .int .u32 c3, .slice a la ca, .int .u32 sd] 29)).alloc (.cells #[.int .u32 e0, .int .u32 e1, .int .u32 e2, .int .u32 e3, .slice b lb cb, .int .u32 sd'] 29)) = W := ⟨_, rfl⟩
  rw [hW] at hb hB1 hB2 hT hU
  have HB := Lib.hid hb
  have HB1 := Lib.hid hB1
  have HB2 := Lib.hid hB2
  have HT := Lib.hid hT
  have HU := Lib.hid hU
  obtain ⟨p0, p1, p2, p3, p4, p5⟩ := env_cells6 hB1
  obtain ⟨q0, q1, q2, q3, q4, q5⟩ := env_cells6 hB2
  clear hb hB1 hB2 hT hU
  go_enter Tryd.func16, Tryd.ntmps16
  go_wp2_with fail
  clear hW p0 p1 p2 p3 p4 p5 q0 q1 q2 q3 q4 q5
  have k1 := all_any a la ca ts b lb cb us W HT.out HU.out
  obtain ⟨Q, hQ⟩ : ∃ Q, decide (ts = us) = Q := ⟨_, rfl⟩
  rw [hQ] at k1
  have HQ := Lib.hid hQ
  clear hQ
  refine k1.mono ?_
  rintro e m1 ⟨rfl, hb1⟩
  clear k1
  have HB' := Lib.hid (HB.out.trans (hb1.mono HB.out.size))
  obtain ⟨p0, p1, p2, p3, p4, p5⟩ := env_cells6 (HB1.out.later hb1)
  obtain ⟨q0, q1, q2, q3, q4, q5⟩ := env_cells6 (HB2.out.later hb1)
  clear hb1
  have hne := eql_cx c0 c1 c2 c3 e0 e1 e2 e3
  have hgd := guardC
  cases Q
  · have HN : Hid (R = false) := Lib.hid (by
      rw [← HR.out]
      refine decide_eq_false (fun e => ?_)
      simp only [Prod.mk.injEq] at e
      exact of_decide_eq_false HQ.out e.2.1)
    go_wp2
    go_ret
    exact ⟨by rw [HN.out]; rfl, HB'.out⟩
  rcases hq : scEq c0 c1 c2 c3 e0 e1 e2 e3 with _ | _
  · have HN : Hid (R = false) := Lib.hid (by
      rw [← HR.out]
      refine decide_eq_false (fun e => ?_)
      simp only [Prod.mk.injEq] at e
      rw [scEq_iff.2 e.1] at hq
      cases hq)
    go_wp2
    go_ret
    exact ⟨by rw [HN.out]; rfl, HB'.out⟩
  rcases hs : (sd == sd') with _ | _
  · have HN : Hid (R = false) := Lib.hid (by
      rw [← HR.out]
      refine decide_eq_false (fun e => ?_)
      simp only [Prod.mk.injEq] at e
      rw [e.2.2] at hs
      simp at hs)
    go_wp2
    go_ret
    exact ⟨by rw [HN.out]; rfl, HB'.out⟩
  have HN : Hid (R = true) := Lib.hid (by
    rw [← HR.out]
    obtain ⟨h0, h1, h2, h3⟩ := scEq_iff.1 hq
    have h4 : sd = sd' := by simpa using hs
    have h5 := of_decide_eq_true HQ.out
    exact decide_eq_true (by rw [h0, h1, h2, h3, h4, h5]))
  go_wp2
  go_ret
  exact ⟨by rw [HN.out]; rfl, HB'.out⟩
end Go.Proofs.YtilddlgcfbefiaaDoor

/-
  Environments that came in, opened: the context's words are words.
-/
namespace Go.Proofs.YtilddlgcfbefiaaDoor
set_option linter.unusedSimpArgs false
set_option linter.unusedVariables false
open Go.ChangeShapes Go.WideShapes Go.ChangeAt Go.RowKit Go.Deep
section
variable {H : Type} {enc : TypeId × Value → H} {w : World} {base : Nat} {spare : Nat → Bool} {held : Bool}
set_option maxRecDepth 100000 in
theorem env_cellsw {fuel : Nat} {cs : List Value} {x : DataW H × List MemPlace} (h : DataW.trod enc Tryd.prog w base spare held fuel 29 cs = some x) : ∃ (c : Cx) (a : Option Addr) (len cap : Nat) (y : Int) (ts : List Tb), cs = [.int .u32 c.1, .int .u32 c.2.1, .int .u32 c.2.2.1, .int .u32 c.2.2.2, .slice a len cap, .int .u32 y] ∧ TabsAt w a len cap ts ∧ isW y ∧ (isW c.1 ∧ isW c.2.1 ∧ isW c.2.2.1 ∧ isW c.2.2.2) := by
  obtain ⟨xs, n, _, _, hl, hxl, hg⟩ := DataW.trod_struct Tryd.underlying29 h
  rw [cellsV] at hl
  match cs, hl with
  | [c0, c1, c2, c3, c4, c5], _ =>
    have k0 := hg 0 _ rfl
    have k1 := hg 1 _ rfl
    have k2 := hg 2 _ rfl
    match xs, hxl with
    | [y0, y1, y2], _ =>
      have k0' : DataW.trod enc Tryd.prog w base spare held n 26 [c0, c1, c2, c3] = some y0 := by
        first
        | exact k0
        | (dsimp only at k0; rw [cellsC] at k0; exact k0)
        | simpa [cellsC] using k0
      have k1' : DataW.trod enc Tryd.prog w base spare held n 27 [c4] = some y1 := by
        first
        | exact k1
        | (dsimp only at k1; rw [cellsTs] at k1; exact k1)
        | simpa [cellsTs] using k1
      have k2' : DataW.trod enc Tryd.prog w base spare held n 25 [c5] = some y2 := by
        first
        | exact k2
        | (dsimp only at k2; rw [cellsW] at k2; exact k2)
        | simpa [cellsW] using k2
      obtain ⟨c, e0, hcw⟩ := ctx_cells k0'
      obtain ⟨a, len, cap, ts, rfl, hE⟩ := tabs_here k1'
      obtain ⟨y, e2, _, hwf⟩ := DataW.trod_int Tryd.underlying25 k2'
      simp at e0 e2
      obtain ⟨rfl, rfl, rfl, rfl⟩ := e0
      subst e2
      exact ⟨c, a, len, cap, y, ts, rfl, hE, bounds_u32 hwf, (by obtain ⟨⟨a1, a2⟩, ⟨b1, b2⟩, ⟨d1, d2⟩, ⟨f1, f2⟩⟩ := hcw; exact ⟨⟨a1, a2⟩, ⟨b1, b2⟩, ⟨d1, d2⟩, ⟨f1, f2⟩⟩)⟩
set_option maxRecDepth 100000 in
theorem open_envw {r0 : Reach} {b0 : Nat} {v : Value} {dd : DataW H} {p : List MemPlace} (hv : Value.okWide Tryd.prog w r0 b0 29 v) (h : DataW.Trod enc Tryd.prog w base spare held 29 v dd p) :
    ∃ c a len cap y ts, v = envV c (.slice a len cap) y ∧ TabsAt w a len cap ts ∧ isW y ∧ (isW c.1 ∧ isW c.2.1 ∧ isW c.2.2.1 ∧ isW c.2.2.2) := by
  obtain ⟨cs, rfl, _⟩ := okWide_struct Tryd.underlying29 hv
  obtain ⟨l⟩ := cs
  obtain ⟨fuel, hf⟩ := h
  obtain ⟨c, a, len, cap, y, ts, hc, hE, hy, hcw⟩ := env_cellsw hf
  simp only [Value.cells] at hc
  subst hc
  exact ⟨c, a, len, cap, y, ts, rfl, hE, hy, hcw⟩
end
end Go.Proofs.YtilddlgcfbefiaaDoor

