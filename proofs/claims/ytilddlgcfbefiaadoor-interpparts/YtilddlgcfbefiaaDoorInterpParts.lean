/-
  A function that is called tells what it tells when it is run alone, with the same words; what the caller kept is set.
  Conditions: none; the package variable that the law reads starts as its initialiser lays it (the card ties it).
-/
import Derived.Test.YtilddlgcfbefiaaDoorRows
import Derived.Test.YtilddlgcfbefiaaDoorCards
import Derived.Test.YtilddlgcfbefiaaDoorTie
import Derived.Test.YtilddlgcfbefiaaDoorIY
import Derived.Test.YtilddlgcfbefiaaDoorGio
import Derived.Test.YtilddlgcfbefiaaDoorGcd
import Derived.Test.YtilddlgcfbefiaaDoorIV
import Derived.WalkKit
import Derived.ProofKit
import Derived.OpenShut
import Derived.ChangeOld
import Derived.Below
import Derived.SevenTiedAt
namespace Go.Proofs.YtilddlgcfbefiaaDoor.interpParts
set_option linter.unusedSimpArgs false
set_option linter.unusedVariables false
open Go.ChangeShapes Go.WideShapes Go.ChangeAt Go.RowKit

set_option maxRecDepth 100000 in
set_option maxHeartbeats 40000000 in
theorem walk (g0 : Int) (a0 : Option Addr) (len0 cap0 : Nat) (c0 : List I) (c1 : Cx) (a1 : Option Addr) (len1 cap1 : Nat) (x1 : Int) (ts1 : List Tb) (c2 : Cx) (w2 : isW c2.1 ∧ isW c2.2.1 ∧ isW c2.2.2.1 ∧ isW c2.2.2.2) (a3 : Int) (w3 : isW a3) (w : World) (hR : RowsIn w) (w0 : CodeAt w a0 len0 cap0 c0) (w1 : TabsAt w a1 len1 cap1 ts1) (y1 : isW x1) (z1 : isW c1.1 ∧ isW c1.2.1 ∧ isW c1.2.2.1 ∧ isW c1.2.2.2) :
    Calls Tryd.prog 6 #[.agg #[.int .i64 g0, .slice a0 len0 cap0], envV c1 (.slice a1 len1 cap1) x1, .agg #[.int .u32 c2.1, .int .u32 c2.2.1, .int .u32 c2.2.2.1, .int .u32 c2.2.2.2], .int .u32 a3] w fun e w' => e = .returned (.bool true) ∧ Below w.heap.size w w' := by
  rcases c1 with ⟨e0, e1, e2, e3⟩
  rcases c2 with ⟨d0, d1, d2, d3⟩
  simp only at z1 w2
  obtain ⟨W0, hW0, hA0⟩ := Ap.begin g0 (e0, e1, e2, e3) x1 (d0, d1, d2, d3) hR w0 w1
  simp only at hW0
  have HA := Lib.hid hA0
  have HX := Lib.hid y1
  have HZ := Lib.hid z1
  have HD := Lib.hid w2
  have HK := Lib.hid w3
  have hlc : len0 ≤ 9223372036854775807 := by have h := Nat.le_trans w0.2.1 w0.2.2.1; unfold maxLen at h; omega
  clear hA0 hR w0 w1 y1 z1 w2 w3
  obtain ⟨f0, f1, q0, q1, q2, q3, q4, q5⟩ := HA.out.cells
  simp only at f0 f1 q0 q1 q2 q3 q4 q5
  go_enter Tryd.func6, Tryd.ntmps6
  go_wp2_with fail
  refine (iawake_any W0 HA.out.rows).mono ?_
  rintro en1 m1 ⟨rfl, hb1⟩
  replace HA := Lib.hid (HA.out.later hb1)
  clear hb1 hW0 f0 f1 q0 q1 q2 q3 q4 q5
  obtain ⟨f0, f1, q0, q1, q2, q3, q4, q5⟩ := HA.out.cells
  simp only at f0 f1 q0 q1 q2 q3 q4 q5
  by_cases h1 : (70 : Int) < (len0 : Int)
  · go_wp2
    go_ret
    exact ⟨rfl, HA.out.below⟩
  by_cases h2 : g0 < 0
  · go_wp2
    go_ret
    exact ⟨rfl, HA.out.below⟩
  by_cases h3 : 4 < g0
  · go_wp2
    go_ret
    exact ⟨rfl, HA.out.below⟩
  go_wp2_with fail
  refine (few_any a1 len1 cap1 ts1 m1 HA.out.tabs).mono ?_
  rintro en2 m2 ⟨rfl, hb2⟩
  have hb2' : Below m1.heap.size m1 m2 := by
    first
    | (subst hb2; exact Below.refl _ _)
    | exact hb2
    | exact below_of_quiet hb2
  replace HA := Lib.hid (HA.out.later hb2')
  clear hb2 hb2' f0 f1 q0 q1 q2 q3 q4 q5
  obtain ⟨f0, f1, q0, q1, q2, q3, q4, q5⟩ := HA.out.cells
  simp only at f0 f1 q0 q1 q2 q3 q4 q5
  rcases hfb : fewTs ts1 with _ | _
  · go_wp2
    go_ret
    exact ⟨rfl, HA.out.below⟩
  have HT := Lib.hid hfb
  have HOk : Hid (okEv ((e0, e1, e2, e3), ts1, x1)) := Lib.hid (ok_ofI HT.out HX.out HZ.out)
  obtain ⟨A, rfl⟩ : ∃ A : Nat, g0 = A := ⟨g0.toNat, by omega⟩
  have hA4 : A ≤ 4 := by omega
  obtain ⟨i46, hi46, hy0, hy1, hy2⟩ := info_parts infoY
  have HO1 : Hid ((m2.alloc (.cells #[.int .i64 0, .int .i64 0, .int .i64 6, .int .i64 0, .bool false, .int .i64 0, .int .u32 a3] 50)).ownsRow m2.heap.size 50 7 (.slice (some ⟨m2.heap.size, 0, none⟩) 1 1) 1 (cellsI ((0, 0, 6, 0, false, 0, a3) :: movs ((cxL (d0, d1, d2, d3)).take 0)))) := Lib.hid (own_alloc m2 #[.int .i64 0, .int .i64 0, .int .i64 6, .int .i64 0, .bool false, .int .i64 0, .int .u32 a3] 50 1 7 rfl (by unfold maxLen; omega))
  have HB1 : Hid (Below m2.heap.size m2 (m2.alloc (.cells #[.int .i64 0, .int .i64 0, .int .i64 6, .int .i64 0, .bool false, .int .i64 0, .int .u32 a3] 50))) := Lib.hid (belowA _ _)
  clear hfb
  go_wp2_with fail
  clear h1 h2 h3 f0 f1 q0 q1 q2 q3 q4 q5
  go_loopw [10, 11] (fun o i wr => ∃ (k : Nat) (v : Value), k ≤ A ∧ i = .int .i64 k ∧ v = o ∧ Hid (Below m2.heap.size m2 wr) ∧ Hid (wr.ownsRow m2.heap.size 50 7 v (k + 1) (cellsI ((0, 0, 6, 0, false, 0, a3) :: movs ((cxL (d0, d1, d2, d3)).take k))))) (fun _ i _ => A - (intOf i).toNat)
  case atStart => exact ⟨0, _, by omega, rfl, rfl, HB1, HO1⟩
  case round =>
    obtain ⟨k, v, hk, rfl, rfl, HB, HO⟩ := hrel
    clear HB1 HO1
    have HAr := Lib.hid (HA.out.later HB.out)
    have f0 : wr.cell? ⟨w.heap.size, 0, none⟩ = some (.int .i64 (A : Int)) := HAr.out.fnb.cell rfl
    have hk0 : (0 : Int) ≤ (k : Int) := Int.natCast_nonneg _
    by_cases hkl : k < A
    · have hkI : (k : Int) < (A : Int) := by omega
      have hk4 : (k : Int) < 4 := by omega
      obtain ⟨u, hu⟩ : ∃ u, (cxL (d0, d1, d2, d3)).getD k 0 = u := ⟨_, rfl⟩
      have x0 : wr.cell? ⟨w.heap.size + 1 + 1, k, none⟩ = some (.int .u32 u) := by rw [← hu]; exact cx_cell HAr.out.cx (by omega)
      have HU := Lib.hid hu
      have hO6 := ownsRow_below HO.out (belowA wr (.cells #[.int .i64 0, .int .i64 0, .int .i64 ((k : Int) + 1), .int .i64 0, .bool false, .int .i64 0, .int .u32 u] 50))
      have HNew := Lib.hid (Box.new wr 50 #[.int .i64 0, .int .i64 0, .int .i64 ((k : Int) + 1), .int .i64 0, .bool false, .int .i64 0, .int .u32 u])
      have hs := HB.out.size
      have hlt := Lib.hid HO.out.lt
      clear hu
      go_wp2_with (at_builtin; refine wpList_append_lies _ rfl _ _ _ rfl m2.heap.size 50 i46 _ 7 56 Tryd.underlying45 hi46 hy0 hy1 hy2 rfl (by omega) v (k + 1) (cellsI ((0, 0, 6, 0, false, 0, a3) :: movs ((cxL (d0, d1, d2, d3)).take k))) rfl hO6 ⟨wr.heap.size, 0, none⟩ 1 1 [.int .i64 0, .int .i64 0, .int .i64 ((k : Int) + 1), .int .i64 0, .bool false, .int .i64 0, .int .u32 u] rfl rfl (World.news_of_block HNew.out) (by simp [Value.oneCell']) (by omega) (by unfold maxLen; omega) (by omega) (by simp; omega) (wr.heap.size + 1) (by simp) ?_)
      intro g6 cp6 w6 hown6 hgrow6 hat6 hlt6
      have HO7 : Hid (w6.ownsRow m2.heap.size 50 7 (.slice (some ⟨g6, 0, none⟩) (k + 1 + 1) cp6) (k + 1 + 1) (cellsI ((0, 0, 6, 0, false, 0, a3) :: movs ((cxL (d0, d1, d2, d3)).take (k + 1))))) := Lib.hid (by
        rw [movs_succ _ (by omega), HU.out, ← List.cons_append, cellsI_append]
        exact hown6)
      have HB7 : Hid (Below m2.heap.size m2 w6) := Lib.hid ((HB.out.trans ((belowA wr _).mono hs)).grown hgrow6 (by simp; omega) (fun g hg => (hlt.out g hg).1))
      clear hown6 hgrow6 hat6 hlt6 hO6 x0 f0
      go_wp2
      exact ⟨⟨k + 1, _, by omega, by go_num, rfl, HB7, HO7⟩, by simp [intOf]; omega⟩
    · have hkI : ¬ (k : Int) < (A : Int) := by omega
      obtain rfl : k = A := by omega
      have hO6 := ownsRow_below HO.out (belowA wr (.cells #[.int .i64 6, .int .i64 0, .int .i64 0, .int .i64 0, .bool false, .int .i64 0, .int .u32 1, .int .i64 0, .int .i64 1, .int .i64 0, .int .i64 6, .bool true, .int .i64 0, .int .u32 0, .int .i64 7, .int .i64 0, .int .i64 0, .int .i64 0, .bool false, .int .i64 0, .int .u32 0] 50))
      have HNew := Lib.hid (Box.new wr 50 #[.int .i64 6, .int .i64 0, .int .i64 0, .int .i64 0, .bool false, .int .i64 0, .int .u32 1, .int .i64 0, .int .i64 1, .int .i64 0, .int .i64 6, .bool true, .int .i64 0, .int .u32 0, .int .i64 7, .int .i64 0, .int .i64 0, .int .i64 0, .bool false, .int .i64 0, .int .u32 0])
      have hs := HB.out.size
      have hlt := Lib.hid HO.out.lt
      go_wp2_with (at_builtin; refine wpList_append_lies _ rfl _ _ _ rfl m2.heap.size 50 i46 _ 7 56 Tryd.underlying45 hi46 hy0 hy1 hy2 rfl (by omega) v (k + 1) (cellsI ((0, 0, 6, 0, false, 0, a3) :: movs ((cxL (d0, d1, d2, d3)).take k))) rfl hO6 ⟨wr.heap.size, 0, none⟩ 3 3 [.int .i64 6, .int .i64 0, .int .i64 0, .int .i64 0, .bool false, .int .i64 0, .int .u32 1, .int .i64 0, .int .i64 1, .int .i64 0, .int .i64 6, .bool true, .int .i64 0, .int .u32 0, .int .i64 7, .int .i64 0, .int .i64 0, .int .i64 0, .bool false, .int .i64 0, .int .u32 0] rfl rfl (World.news_of_block HNew.out) (by simp [Value.oneCell']) (by omega) (by unfold maxLen; omega) (by omega) (by simp; omega) (wr.heap.size + 1) (by simp) ?_)
      intro g9 cp9 w9 hown9 hgrow9 hat9 hlt9
      have HB9 : Hid (Below m2.heap.size m2 w9) := Lib.hid ((HB.out.trans ((belowA wr _).mono hs)).grown hgrow9 (by simp; omega) (fun g hg => (hlt.out g hg).1))
      have hzl : ((cxL (d0, d1, d2, d3)).take k).length = k := by rw [List.length_take]; show min k 4 = k; omega
      have hown9' : w9.ownsRow m2.heap.size 50 7 (.slice (some ⟨g9, 0, none⟩) (k + 1 + 3) cp9) (k + 1 + 3) (cellsI (callC a3 ((cxL (d0, d1, d2, d3)).take k))) := by
        have e : callC a3 ((cxL (d0, d1, d2, d3)).take k) = ((0, 0, 6, 0, false, 0, a3) :: movs ((cxL (d0, d1, d2, d3)).take k)) ++ [(6, 0, 0, 0, false, 0, 1), (0, 1, 0, 6, true, 0, 0), (7, 0, 0, 0, false, 0, 0)] := rfl
        rw [e, cellsI_append]
        exact hown9
      obtain ⟨b9, c9, hv9, hC9⟩ := code_ownI (by rw [callC_len, hzl]) (callC_ok HK.out (fun z hz => cxL_w HD.out z (List.mem_of_mem_take hz))) hown9'
      simp only [Value.slice.injEq, true_and] at hv9
      obtain ⟨rfl, rfl⟩ := hv9
      have HC9 := Lib.hid hC9
      have HZl := Lib.hid hzl
      replace HA := Lib.hid (HA.out.later HB9.out)
      clear hown9 hown9' hgrow9 hat9 hlt9 hO6 f0 hC9 hzl HAr HB HO HNew hlt
      obtain ⟨f0, f1, q0, q1, q2, q3, q4, q5⟩ := HA.out.cells
      simp only at f0 f1 q0 q1 q2 q3 q4 q5
      obtain ⟨W5, hW5, hb5, hP5, hBP5⟩ := parts_prog w9 (k : Int) HC9.out HA.out.code
      have HP5 := Lib.hid hP5
      have HBP := Lib.hid hBP5
      replace HA := Lib.hid (HA.out.later hb5)
      have HKc : Hid (∀ w', Below W5.heap.size W5 w' → w'.cell? ⟨w9.heap.size + 1, 0, none⟩ = some (.slice (some ⟨w9.heap.size, 0, none⟩) 2 2) ∧ w'.cell? ⟨w.heap.size, 0, none⟩ = some (.int .i64 (k : Int)) ∧ w'.cell? ⟨w.heap.size + 1, 0, none⟩ = some (.int .u32 e0) ∧ w'.cell? ⟨w.heap.size + 1, 1, none⟩ = some (.int .u32 e1) ∧ w'.cell? ⟨w.heap.size + 1, 2, none⟩ = some (.int .u32 e2) ∧ w'.cell? ⟨w.heap.size + 1, 3, none⟩ = some (.int .u32 e3) ∧ w'.cell? ⟨w.heap.size + 1, 4, none⟩ = some (.slice a1 len1 cap1) ∧ w'.cell? ⟨w.heap.size + 1, 5, none⟩ = some (.int .u32 x1)) := Lib.hid (fun w' hb => by
        obtain ⟨g0, g1, h0, h1, h2, h3, h4, h5⟩ := (HA.out.later hb).cells
        exact ⟨(HBP.out.later hb).cell rfl, g0, h0, h1, h2, h3, h4, h5⟩)
      have hkc : (k : Int) ≤ 4 := by omega
      obtain ⟨r, hrq⟩ : ∃ r, callI [(0, callC a3 ((cxL (d0, d1, d2, d3)).take k)), ((k : Int), c0)] 1 ((e0, e1, e2, e3), ts1, x1) 200 ((cxL (d0, d1, d2, d3)).take k) = r := ⟨_, rfl⟩
      obtain ⟨r0, ⟨⟨r1, r2, r3, r4⟩, rt, rs⟩, ru, re⟩ := r
      have HrQ := Lib.hid hrq
      clear hb5 hP5 hBP5 hrq HC9
      go_upto_region 11 with fail
      try simp only [Act.put, List.setIfInBounds_toArray, List.set_cons_zero, List.set_cons_succ]
      try rw [hW5]
      clear hW5 f0 f1 q0 q1 q2 q3 q4 q5
      go_cut [13] from 70 to 75 (fun o wc => ∃ (T : Nat) (sb : Option Addr) (sc : Nat), o = .pointer (some ⟨T, 0, none⟩) ∧ Hid (Vn w wc T (r0, ((r1, r2, r3, r4), rt, rs), ru, re) (.slice sb rt.length sc)) ∧ Hid (Below W5.heap.size W5 wc) ∧ Hid (isW r0))
      case first =>
        go_wp2_with fail
        refine wp_region_held_drew (S := (fun w' => w'.cell? ⟨w9.heap.size + 1, 0, none⟩ = some (.slice (some ⟨w9.heap.size, 0, none⟩) 2 2) ∧ w'.cell? ⟨w.heap.size, 0, none⟩ = some (.int .i64 (k : Int)) ∧ w'.cell? ⟨w.heap.size + 1, 0, none⟩ = some (.int .u32 e0) ∧ w'.cell? ⟨w.heap.size + 1, 1, none⟩ = some (.int .u32 e1) ∧ w'.cell? ⟨w.heap.size + 1, 2, none⟩ = some (.int .u32 e2) ∧ w'.cell? ⟨w.heap.size + 1, 3, none⟩ = some (.int .u32 e3) ∧ w'.cell? ⟨w.heap.size + 1, 4, none⟩ = some (.slice a1 len1 cap1) ∧ w'.cell? ⟨w.heap.size + 1, 5, none⟩ = some (.int .u32 x1))) (by kernel_rfl) (HKc.out _ ((Below.refl W5.heap.size W5).drew)) (fun hHeld => ?_)
        refine wpAnyH_yield (i := 0) (v := ?v0) rfl rfl (by kernel_rfl) (by kernel_rfl) (by kernel_rfl) (fun _ _ _ h => h) (by rfl) ?hy0 hHeld ?rest0
        case hy0 =>
          intro w hSw
          (try dsimp only at hSw)
          go_simp
          try with_reducible rfl
        simp only [Act.put, List.setIfInBounds_toArray, List.set_cons_zero, List.set_cons_succ]
        refine wpAnyH_yield (i := 1) (v := ?v1) rfl rfl (by kernel_rfl) (by kernel_rfl) (by kernel_rfl) (fun _ _ _ h => h) (by rfl) ?hy1 hHeld ?rest1
        case hy1 =>
          intro w hSw
          (try dsimp only at hSw)
          go_simp
          try with_reducible rfl
        simp only [Act.put, List.setIfInBounds_toArray, List.set_cons_zero, List.set_cons_succ]
        refine wpAnyH_yield (i := 2) (v := ?v2) rfl rfl (by kernel_rfl) (by kernel_rfl) (by kernel_rfl) (fun _ _ _ h => h) (by rfl) ?hy2 hHeld ?rest2
        case hy2 =>
          intro w hSw
          (try dsimp only at hSw)
          go_simp
          try with_reducible rfl
        simp only [Act.put, List.setIfInBounds_toArray, List.set_cons_zero, List.set_cons_succ]
        refine wpAnyH_yield (i := 3) (v := ?v3) rfl rfl (by kernel_rfl) (by kernel_rfl) (by kernel_rfl) (fun _ _ _ h => h) (by rfl) ?hy3 hHeld ?rest3
        case hy3 =>
          intro w hSw
          (try dsimp only at hSw)
          go_simp
          try with_reducible rfl
        simp only [Act.put, List.setIfInBounds_toArray, List.set_cons_zero, List.set_cons_succ]
        refine wpAnyH_yield (i := 4) (v := ?v4) rfl rfl (by kernel_rfl) (by kernel_rfl) (by kernel_rfl) (fun _ _ _ h => h) (by rfl) ?hy4 hHeld ?rest4
        case hy4 =>
          intro w hSw
          (try dsimp only at hSw)
          go_simp
          try with_reducible rfl
        simp only [Act.put, List.setIfInBounds_toArray, List.set_cons_zero, List.set_cons_succ]
        refine wpAnyH_ready (rs := [5, 6]) (by kernel_rfl) (by simp) ?_
        refine AllReadyH.cons rfl (fun K hK => ?_) ?_
        · go_simp
          have c7 := icallI_any [(0, callC a3 ((cxL (d0, d1, d2, d3)).take k)), ((k : Int), c0)] (some ⟨w9.heap.size, 0, none⟩) 2 2 1 ((e0, e1, e2, e3), ts1, x1) a1 len1 cap1 200 ((cxL (d0, d1, d2, d3)).take k) (some ⟨w.heap.size + 1 + 1, 0, none⟩) k 4 W5.drew (HA.out.rows.later ((Below.refl W5.heap.size W5).drew)) (HP5.out.below ((Below.refl W5.heap.size W5).drew)) (HA.out.tabs.below ((Below.refl W5.heap.size W5).drew)) HOk.out (cx_words (HA.out.cx.later ((Below.refl W5.heap.size W5).drew)) (by omega) HD.out)
          rw [HrQ.out] at c7
          refine c7.mono ?_
          intro en7 m7 h7
          obtain ⟨sb, sc, he7, hb7, hT7, ho7, hw7⟩ := h7.form
          simp only [ranA] at he7 hT7
          subst he7
          have HB7 : Hid (Below W5.heap.size W5 m7) := Lib.hid (((Below.refl W5.heap.size W5).drew).trans (hb7.mono ((Below.refl W5.heap.size W5).drew).size))
          have HT7 : Hid (TabsI m7 w.heap.size (.slice sb rt.length sc) rt) := Lib.hid (hT7.low (Nat.le_trans HA.out.below.size ((Below.refl W5.heap.size W5).drew).size))
          have HO7 : Hid (okEv ((r1, r2, r3, r4), rt, rs)) := Lib.hid ho7
          have HW7 : Hid (isW r0) := Lib.hid hw7
          clear hb7 hT7 h7 c7 ho7 hw7
          go_wp2_with fail
          refine hK.out _ _ (HKc.out _ (HB7.out)) (fun hHeld => ?_)
          clear hK K
          try simp only [Act.put, List.setIfInBounds_toArray, List.set_cons_zero, List.set_cons_succ]
          refine wpAnyH_ready (rs := [6]) (by kernel_rfl) (by simp) ?_
          refine AllReadyH.cons rfl (fun K hK => ?_) AllReadyH.nil
          go_simp
          have HBz : Hid (Below W5.heap.size W5 (m7.alloc (.cells #[.int .u32 0, .int .u32 0, .int .u32 0, .int .u32 0, .int .u32 0, .slice none 0 0, .int .u32 0, .int .i64 0, .int .i64 0] 34))) := Lib.hid ((HB7.out).trans ((belowA m7 (.cells #[.int .u32 0, .int .u32 0, .int .u32 0, .int .u32 0, .int .u32 0, .slice none 0 0, .int .u32 0, .int .i64 0, .int .i64 0] 34)).mono (HB7.out).size))
          have HZ : Hid (Box (m7.alloc (.cells #[.int .u32 0, .int .u32 0, .int .u32 0, .int .u32 0, .int .u32 0, .slice none 0 0, .int .u32 0, .int .i64 0, .int .i64 0] 34)) m7.heap.size 34 _) := Lib.hid (Box.new m7 _ _)
          have HTl : Hid (w.heap.size ≤ m7.heap.size) := Lib.hid (Nat.le_trans HA.out.below.size (HB7.out).size)
          have HTw : Hid (W5.heap.size ≤ m7.heap.size) := Lib.hid (HB7.out).size
          refine hK.out _ _ (HKc.out _ (HBz.out)) (fun hHeld => ?_)
          clear hK K
          try simp only [Act.put, List.setIfInBounds_toArray, List.set_cons_zero, List.set_cons_succ]
          refine wpAnyH_ready (rs := [7]) (by kernel_rfl) (by simp) ?_
          refine AllReadyH.cons rfl (fun K hK => ?_) AllReadyH.nil
          refine step_row _ (by rfl) 34 _ _ (by rfl) (by rfl) (m7.heap.size) #[.int .u32 r0, .int .u32 r1, .int .u32 r2, .int .u32 r3, .int .u32 r4, .slice sb rt.length sc, .int .u32 rs, .int .i64 ru, .int .i64 re] (by rfl) (by rfl) 34 _ HZ.out (by kernel_rfl) rfl (by simp [Value.oneCell']) ?_
          have hX : Below W5.heap.size W5 ((m7.alloc (.cells #[.int .u32 0, .int .u32 0, .int .u32 0, .int .u32 0, .int .u32 0, .slice none 0 0, .int .u32 0, .int .i64 0, .int .i64 0] 34)).setRow (m7.heap.size) #[.int .u32 r0, .int .u32 r1, .int .u32 r2, .int .u32 r3, .int .u32 r4, .slice sb rt.length sc, .int .u32 rs, .int .i64 ru, .int .i64 re]) := below_setRow HBz.out HTw.out _
          have hV9 : Vn w ((m7.alloc (.cells #[.int .u32 0, .int .u32 0, .int .u32 0, .int .u32 0, .int .u32 0, .slice none 0 0, .int .u32 0, .int .i64 0, .int .i64 0] 34)).setRow (m7.heap.size) #[.int .u32 r0, .int .u32 r1, .int .u32 r2, .int .u32 r3, .int .u32 r4, .slice sb rt.length sc, .int .u32 rs, .int .i64 ru, .int .i64 re]) (m7.heap.size) (r0, ((r1, r2, r3, r4), rt, rs), ru, re) (.slice sb rt.length sc) := ⟨HA.out.below.trans (hX.mono HA.out.below.size), setRow_heap _ _ _ _ _ _ HZ.out, HTl.out, (HT7.out.below (belowA m7 (.cells #[.int .u32 0, .int .u32 0, .int .u32 0, .int .u32 0, .int .u32 0, .slice none 0 0, .int .u32 0, .int .i64 0, .int .i64 0] 34))).far HZ.out (by decide) (by decide) (by decide) (grownBy_setRow _ _ _), HO7.out⟩
          refine hK.out _ _ (HKc.out _ (hX)) (fun hHeld => ?_)
          clear hK K
          try simp only [Act.put, List.setIfInBounds_toArray, List.set_cons_zero, List.set_cons_succ]
          refine wpAnyH_done (by kernel_rfl) ?_ _
          clear hHeld
          go_wp2_with fail
          go_meet
          exact ⟨(m7.heap.size), sb, sc, rfl, Lib.hid hV9, Lib.hid hX, HW7⟩
        refine AllReadyH.cons rfl (fun K hK => ?_) AllReadyH.nil
        go_simp
        have HBz : Hid (Below W5.heap.size W5 (W5.drew.alloc (.cells #[.int .u32 0, .int .u32 0, .int .u32 0, .int .u32 0, .int .u32 0, .slice none 0 0, .int .u32 0, .int .i64 0, .int .i64 0] 34))) := Lib.hid (((Below.refl W5.heap.size W5).drew).trans ((belowA W5.drew (.cells #[.int .u32 0, .int .u32 0, .int .u32 0, .int .u32 0, .int .u32 0, .slice none 0 0, .int .u32 0, .int .i64 0, .int .i64 0] 34)).mono ((Below.refl W5.heap.size W5).drew).size))
        have HZ : Hid (Box (W5.drew.alloc (.cells #[.int .u32 0, .int .u32 0, .int .u32 0, .int .u32 0, .int .u32 0, .slice none 0 0, .int .u32 0, .int .i64 0, .int .i64 0] 34)) W5.drew.heap.size 34 _) := Lib.hid (Box.new W5.drew _ _)
        have HTl : Hid (w.heap.size ≤ W5.drew.heap.size) := Lib.hid (Nat.le_trans HA.out.below.size ((Below.refl W5.heap.size W5).drew).size)
        have HTw : Hid (W5.heap.size ≤ W5.drew.heap.size) := Lib.hid ((Below.refl W5.heap.size W5).drew).size
        refine hK.out _ _ (HKc.out _ (HBz.out)) (fun hHeld => ?_)
        clear hK K
        try simp only [Act.put, List.setIfInBounds_toArray, List.set_cons_zero, List.set_cons_succ]
        refine wpAnyH_ready (rs := [5]) (by kernel_rfl) (by simp) ?_
        refine AllReadyH.cons rfl (fun K hK => ?_) AllReadyH.nil
        go_simp
        have c7 := icallI_any [(0, callC a3 ((cxL (d0, d1, d2, d3)).take k)), ((k : Int), c0)] (some ⟨w9.heap.size, 0, none⟩) 2 2 1 ((e0, e1, e2, e3), ts1, x1) a1 len1 cap1 200 ((cxL (d0, d1, d2, d3)).take k) (some ⟨w.heap.size + 1 + 1, 0, none⟩) k 4 (W5.drew.alloc (.cells #[.int .u32 0, .int .u32 0, .int .u32 0, .int .u32 0, .int .u32 0, .slice none 0 0, .int .u32 0, .int .i64 0, .int .i64 0] 34)) (HA.out.rows.later (HBz.out)) (HP5.out.below (HBz.out)) (HA.out.tabs.below (HBz.out)) HOk.out (cx_words (HA.out.cx.later (HBz.out)) (by omega) HD.out)
        rw [HrQ.out] at c7
        refine c7.mono ?_
        intro en7 m7 h7
        obtain ⟨sb, sc, he7, hb7, hT7, ho7, hw7⟩ := h7.form
        simp only [ranA] at he7 hT7
        subst he7
        have HB7 : Hid (Below W5.heap.size W5 m7) := Lib.hid ((HBz.out).trans (hb7.mono (HBz.out).size))
        have HT7 : Hid (TabsI m7 w.heap.size (.slice sb rt.length sc) rt) := Lib.hid (hT7.low (Nat.le_trans HA.out.below.size (HBz.out).size))
        have HO7 : Hid (okEv ((r1, r2, r3, r4), rt, rs)) := Lib.hid ho7
        have HW7 : Hid (isW r0) := Lib.hid hw7
        have HZ7 := Lib.hid (HZ.out.later hb7)
        clear hb7 hT7 h7 c7 ho7 hw7
        go_wp2_with fail
        refine hK.out _ _ (HKc.out _ (HB7.out)) (fun hHeld => ?_)
        clear hK K
        try simp only [Act.put, List.setIfInBounds_toArray, List.set_cons_zero, List.set_cons_succ]
        refine wpAnyH_ready (rs := [7]) (by kernel_rfl) (by simp) ?_
        refine AllReadyH.cons rfl (fun K hK => ?_) AllReadyH.nil
        refine step_row _ (by rfl) 34 _ _ (by rfl) (by rfl) (W5.heap.size) #[.int .u32 r0, .int .u32 r1, .int .u32 r2, .int .u32 r3, .int .u32 r4, .slice sb rt.length sc, .int .u32 rs, .int .i64 ru, .int .i64 re] (by rfl) (by rfl) 34 _ HZ7.out (by kernel_rfl) rfl (by simp [Value.oneCell']) ?_
        have hX : Below W5.heap.size W5 (m7.setRow (W5.heap.size) #[.int .u32 r0, .int .u32 r1, .int .u32 r2, .int .u32 r3, .int .u32 r4, .slice sb rt.length sc, .int .u32 rs, .int .i64 ru, .int .i64 re]) := below_setRow HB7.out HTw.out _
        have hV9 : Vn w (m7.setRow (W5.heap.size) #[.int .u32 r0, .int .u32 r1, .int .u32 r2, .int .u32 r3, .int .u32 r4, .slice sb rt.length sc, .int .u32 rs, .int .i64 ru, .int .i64 re]) (W5.heap.size) (r0, ((r1, r2, r3, r4), rt, rs), ru, re) (.slice sb rt.length sc) := ⟨HA.out.below.trans (hX.mono HA.out.below.size), setRow_heap _ _ _ _ _ _ HZ7.out, HTl.out, HT7.out.far HZ7.out (by decide) (by decide) (by decide) (grownBy_setRow _ _ _), HO7.out⟩
        refine hK.out _ _ (HKc.out _ (hX)) (fun hHeld => ?_)
        clear hK K
        try simp only [Act.put, List.setIfInBounds_toArray, List.set_cons_zero, List.set_cons_succ]
        refine wpAnyH_done (by kernel_rfl) ?_ _
        clear hHeld
        go_wp2_with fail
        go_meet
        exact ⟨(W5.heap.size), sb, sc, rfl, Lib.hid hV9, Lib.hid hX, HW7⟩
      case rest =>
        obtain ⟨T, rb, rc, rfl, HVr, HB9, HW⟩ := hcut
        replace HA := Lib.hid (HA.out.later HB9.out)
        replace HP5 := Lib.hid (HP5.out.below HB9.out)
        replace HBP := Lib.hid (HBP.out.later HB9.out)
        clear HB9 HKc
        have hpl := parts_law [(0, callC a3 ((cxL (d0, d1, d2, d3)).take k)), ((k : Int), c0)] a3 ((cxL (d0, d1, d2, d3)).take k) c0 ((e0, e1, e2, e3), ts1, x1) HK.out (fun z hz => cxL_w HD.out z (List.mem_of_mem_take hz)) (by rw [HZl.out]; omega) (by rw [HZl.out]) (by rw [HrQ.out]; exact HW.out)
        have hbd := callI_bounds [(0, callC a3 ((cxL (d0, d1, d2, d3)).take k)), ((k : Int), c0)] ((e0, e1, e2, e3), ts1, x1) (fl := 200) (by omega) ((cxL (d0, d1, d2, d3)).take k) 1
        rw [HrQ.out] at hbd
        rw [HrQ.out, HZl.out] at hpl
        simp only at hbd hpl
        have HBd := Lib.hid hbd
        have p0 : wc.cell? ⟨w9.heap.size + 1, 0, none⟩ = some (.slice (some ⟨w9.heap.size, 0, none⟩) 2 2) := HBP.out.cell rfl
        obtain ⟨f0, f1, q0, q1, q2, q3, q4, q5⟩ := HA.out.cells
        simp only at f0 f1 q0 q1 q2 q3 q4 q5
        have cS := irun_any [(0, callC a3 ((cxL (d0, d1, d2, d3)).take k)), ((k : Int), c0)] (some ⟨w9.heap.size, 0, none⟩) 2 2 ((e0, e1, e2, e3), ts1, x1) a1 len1 cap1 300 wc HA.out.rows HP5.out HA.out.tabs HOk.out
        obtain ⟨s, hsq⟩ : ∃ s, callI [(0, callC a3 ((cxL (d0, d1, d2, d3)).take k)), ((k : Int), c0)] 0 ((e0, e1, e2, e3), ts1, x1) 300 [] = s := ⟨_, rfl⟩
        rw [hsq] at cS hpl
        have HPL := Lib.hid hpl
        clear hsq hpl hbd
        go_wp2_with fail
        refine cS.mono ?_
        intro enS m10 hS
        obtain ⟨s0, ⟨⟨s1, s2, s3, s4⟩, st, ss⟩, su, se⟩ := s
        obtain ⟨sb, sc, heS, hbS, hTS, hoS, _⟩ := hS.form
        simp only [ranA] at heS hTS
        subst heS
        obtain ⟨W6, hW6, hb6, hB6, hsz6⟩ := new_ran m10 #[.int .u32 s0, .int .u32 s1, .int .u32 s2, .int .u32 s3, .int .u32 s4, .slice sb st.length sc, .int .u32 ss, .int .i64 su, .int .i64 se]
        have HVs : Hid (Vn w W6 m10.heap.size (s0, ((s1, s2, s3, s4), st, ss), su, se) (.slice sb st.length sc)) := Lib.hid (Vn.new HA.out.below hbS hTS hoS hb6 hB6)
        replace HA := Lib.hid ((HA.out.later hbS).later hb6)
        replace HVr := Lib.hid ((HVr.out.later hbS).later hb6)
        clear hsz6 hS hbS hTS hoS hb6 hB6 cS f0 f1 q0 q1 q2 q3 q4 q5 p0 HP5 HBP
        by_cases hz : re = 0
        · have h := HPL.out.2 hz
          simp only [Prod.mk.injEq] at h
          subst hz
          obtain ⟨g1, ⟨⟨g2, g3, g4, g5⟩, g6, g7⟩, g8, g9'⟩ := h
          obtain rfl := g2.symm
          obtain rfl := g3.symm
          obtain rfl := g4.symm
          obtain rfl := g5.symm
          obtain rfl := g6.symm
          obtain rfl := g7.symm
          subst g1 g8 g9'
          obtain ⟨ub0, ub1, _⟩ := HBd.out
          have hw1 : wrap64 (ru + (k : Int)) = ru + (k : Int) := by unfold wrap64; omega
          have hw2 : wrap64 (ru + (k : Int) + 4) = ru + (k : Int) + 4 := by unfold wrap64; omega
          have c9 := esame_any (r1, r2, r3, r4) sb rt.length sc rs rt (r1, r2, r3, r4) rb rt.length rc rs rt W6 (by obtain ⟨b', c', hh, hx⟩ := HVs.out.2.2.2.1.at; simp only [Value.slice.injEq] at hh; obtain ⟨rfl, _, rfl⟩ := hh; exact hx) (by obtain ⟨b', c', hh, hx⟩ := HVr.out.2.2.2.1.at; simp only [Value.slice.injEq] at hh; obtain ⟨rfl, _, rfl⟩ := hh; exact hx)
          rw [decide_eq_true rfl] at c9
          obtain ⟨v0, v1, v2, v3, v4, v5, v6, v7, v8⟩ := HVr.out.cells
          simp only at v0 v1 v2 v3 v4 v5 v6 v7 v8
          obtain ⟨u0, u1, u2, u3, u4, u5, u6, u7, u8⟩ := HVs.out.cells
          simp only at u0 u1 u2 u3 u4 u5 u6 u7 u8
          have f0 : W6.cell? ⟨w.heap.size, 0, none⟩ = some (.int .i64 (k : Int)) := HA.out.fnb.cell rfl
          go_wp2_with (refine wpList_store_row rfl 34 _ _ rfl m10.heap.size _ rfl rfl 34 _ (Box.new m10 34 _) (by kernel_rfl) rfl (by simp [Value.oneCell']) ?_)
          clear hW6 f0 v0 v1 v2 v3 v4 v5 v6 v7 v8 u0 u1 u2 u3 u4 u5 u6 u7 u8
          refine c9.mono ?_
          rintro en9 m11 ⟨rfl, hb9⟩
          clear c9
          go_wp2
          go_ret
          exact ⟨rfl, HA.out.below.trans (hb9.mono HA.out.below.size)⟩
        · have hd := HPL.out.1 hz
          have hbz : (re != 0) = true := by simpa using hz
          obtain ⟨v0, v1, v2, v3, v4, v5, v6, v7, v8⟩ := HVr.out.cells
          simp only at v0 v1 v2 v3 v4 v5 v6 v7 v8
          obtain ⟨u0, u1, u2, u3, u4, u5, u6, u7, u8⟩ := HVs.out.cells
          simp only at u0 u1 u2 u3 u4 u5 u6 u7 u8
          rcases hd with hd | hd
          · obtain rfl := hd.symm
            go_wp2_with (refine wpList_store_row rfl 34 _ _ rfl m10.heap.size _ rfl rfl 34 _ (Box.new m10 34 _) (by kernel_rfl) rfl (by simp [Value.oneCell']) ?_)
            go_ret
            exact ⟨rfl, HA.out.below⟩
          · subst hd
            obtain ⟨E, hE⟩ : ∃ E, (se == 2) = E := ⟨_, rfl⟩
            cases E with
            | true =>
              go_wp2_with (refine wpList_store_row rfl 34 _ _ rfl m10.heap.size _ rfl rfl 34 _ (Box.new m10 34 _) (by kernel_rfl) rfl (by simp [Value.oneCell']) ?_)
              go_ret
              exact ⟨rfl, HA.out.below⟩
            | false =>
              go_wp2_with (refine wpList_store_row rfl 34 _ _ rfl m10.heap.size _ rfl rfl 34 _ (Box.new m10 34 _) (by kernel_rfl) rfl (by simp [Value.oneCell']) ?_)
              go_ret
              exact ⟨rfl, HA.out.below⟩


theorem own : ownKnob Tryd.prog.godebug = none := by kernel_rfl
theorem laidOut : laidOutB Tryd.prog = true := by kernel_rfl
theorem door_met (os : Os) (args : Array Value) : laidMetH Tryd.prog laidL ((World.doorLaid Tryd.prog 400 os).forCall (fun _ _ => 0) ⟨#[], args, []⟩).memory :=
  laidMetH_of_parts3 (fuel := 8) (laidMet_of_run' 8 (by kernel_rfl) (by kernel_rfl)) (by kernel_rfl) (by kernel_rfl)
set_option maxRecDepth 100000 in
theorem lifted (os : Os) (started : os.Started) (H : Type) (enc : TypeId × Value → H) :
    ReturnsInHanded {} Tryd.checked os 6 .any (fun w args => (Rows.interpPartsSpec.pre enc Tryd.prog Tryd.f6 [] false w args ∧ laidMetH Tryd.prog laidL w) ∧ sizedMet enc Tryd.prog Tryd.f6 (OpenSpec.ofChange Rows.interpPartsSpec) false w args)
      (Rows.interpPartsSpec.post enc Tryd.prog Tryd.f6 false true false false) := by
  refine returnsInHanded_of_change_and (C := Tryd.checked) (X := fun w _ => laidMetH Tryd.prog laidL w) (fun _ _ _ hh h => h.of_heap hh) own started (by kernel_rfl) Tryd.func6
    (ChangeSpec.witness_shaped (enc := enc) (C := Tryd.checked) (os := os) (X := fun w _ => laidMetH Tryd.prog laidL w) false (World.doorLaid Tryd.prog 400 os) #[.agg #[.int .i64 0, .slice none 0 0], .agg #[.int .u32 0, .int .u32 0, .int .u32 0, .int .u32 0, .slice none 0 0, .int .u32 0], .agg #[.int .u32 0, .int .u32 0, .int .u32 0, .int .u32 0], .int .u32 0] 8 rfl (World.shaped_of_RefB (by kernel_rfl) (by kernel_rfl)) (by kernel_rfl) (by kernel_rfl) (by kernel_rfl) (door_met os _)) ?_
  intro W base args ds gs before hval0 hW _ _ hL _
  have hval : ∀ (j : Nat) t v, Tryd.f6.params[j]? = some t → args[j]? = some v → Value.okWide Tryd.prog W .any base t v := hval0
  have hW' := hW
  obtain ⟨p, q, hA0, hV, rfl, hfz, hnd⟩ := hW
  have hA : DataW.TrodAll enc Tryd.prog W 0 (fun _ => true) true Tryd.f6.params.toList args.toList ds p := hA0
  rw [Tryd.params6] at hA hval
  obtain ⟨v0, vs0, e0, ds0, p0, q0, hargs, rfl, rfl, h0, t0⟩ := trodAll_cons hA
  obtain ⟨v1, vs1, e1, ds1, p1, q1, rfl, rfl, rfl, h1, t1⟩ := trodAll_cons t0
  obtain ⟨v2, vs2, e2, ds2, p2, q2, rfl, rfl, rfl, h2, t2⟩ := trodAll_cons t1
  obtain ⟨v3, vs3, e3, ds3, p3, q3, rfl, rfl, rfl, h3, t3⟩ := trodAll_cons t2
  obtain ⟨rfl, rfl, rfl⟩ := trodAll_nil t3
  obtain rfl : args = #[v0, v1, v2, v3] := by cases args; simp_all
  obtain ⟨rfl, rfl⟩ := trodVars_none hV
  have k0 := h0
  have lt0 : ∀ x ∈ p0, x.block < W.heap.size := by obtain ⟨m, hm⟩ := k0; exact DataW.trod_lt m _ _ _ hm
  have k1 := h1
  have lt1 : ∀ x ∈ p1, x.block < W.heap.size := by obtain ⟨m, hm⟩ := k1; exact DataW.trod_lt m _ _ _ hm
  have k2 := h2
  have lt2 : ∀ x ∈ p2, x.block < W.heap.size := by obtain ⟨m, hm⟩ := k2; exact DataW.trod_lt m _ _ _ hm
  have k3 := h3
  have lt3 : ∀ x ∈ p3, x.block < W.heap.size := by obtain ⟨m, hm⟩ := k3; exact DataW.trod_lt m _ _ _ hm
  obtain ⟨g0, a0, len0, cap0, c0, rfl, w0⟩ := open_fn (hval 0 47 v0 rfl rfl) h0
  obtain ⟨c1, a1, len1, cap1, x1, ts1, rfl, w1, y1, z1⟩ := open_envw (hval 1 29 v1 rfl rfl) h1
  obtain ⟨c2, rfl, w2⟩ := open_cx (hval 2 26 v2 rfl rfl) h2
  obtain ⟨a3, rfl, _, _, w3'⟩ := open_int Tryd.underlying25 (hval 3 25 v3 rfl rfl) h3
  have w3 : isW a3 := by obtain ⟨h, h'⟩ := bounds_u32 w3'; exact ⟨h, h'⟩
  clear hA0 hval0
  refine (walk g0 a0 len0 cap0 c0 c1 a1 len1 cap1 x1 ts1 c2 w2 a3 w3 W (rows_of_laid hL) w0 w1 y1 z1).mono fun e W' ⟨he, bel⟩ => ?_
  subst he
  exact ⟨_, rfl, _, _, _, [], _, [], hW', trodAll_mk1 (shut_bool Tryd.underlying4 _), (trodAll_cons_mk (Below.trod laidOut (by kernel_rfl) (of_decide_eq_true (by kernel_rfl)) k0 bel lt0) (trodAll_cons_mk (Below.trod laidOut (by kernel_rfl) (of_decide_eq_true (by kernel_rfl)) k1 bel lt1) (trodAll_cons_mk (Below.trod laidOut (by kernel_rfl) (of_decide_eq_true (by kernel_rfl)) k2 bel lt2) (trodAll_cons_mk (Below.trod laidOut (by kernel_rfl) (of_decide_eq_true (by kernel_rfl)) k3 bel lt3) trodAll_mk0)))), rfl, bel.frame _, fun h => by cases h⟩

theorem over : Rows.interpPartsRow.holds Tryd.pinned (OpenSpec.ofChange Rows.interpPartsSpec) :=
  OpenClaim.holds_of_wide 6 Tryd.f6 rfl rfl rfl rfl rfl rfl rfl ⟨rfl, rfl, rfl, rfl, rfl⟩ rfl rfl rfl rfl rfl (by kernel_rfl) Tryd.func6 (by kernel_rfl)
    (of_decide_eq_true (by kernel_rfl)) (by unfold Func.isWrapper; first | (rw [if_pos (by decide +kernel)]; kernel_rfl) | (rw [if_neg (by decide +kernel)]; exact ⟨rfl, rfl⟩))
    (fun os started H enc _ => lifted os started H enc)

theorem proved : Rows.InterpPartsCardSaid :=
  Claim7.holds_tied_plain_at .later [] [.data] true (true, "06c1961827986d8c8e50d4b984e0c9bf0d6611e5e24705ee5aae201a4df00376") false
    over (fun _ h => by cases h) (by kernel_rfl) (fun _ h => by cases h) interpParts_row_tie rfl ⟨rfl, rfl⟩ (by kernel_rfl) rfl
    (fun f fn hf hfn => by
      obtain rfl : f = 6 := Option.some.inj ((show Tryd.prog.funcNamed "drydock/drydocklaw07.InterpParts" = some 6 by kernel_rfl).symm.trans hf) |>.symm
      obtain rfl : fn = Tryd.f6 := (Option.some.inj (Tryd.func6.symm.trans hfn)).symm
      exact ⟨by kernel_rfl, fun j t ht => by
        rw [Tryd.params6] at ht
        match j, ht with
        | 0, ht => obtain rfl : t = 47 := by simpa using ht.symm
                   exact (show Tryd.prog.wantsStandIn 47 = false by kernel_rfl)
        | 1, ht => obtain rfl : t = 29 := by simpa using ht.symm
                   exact (show Tryd.prog.wantsStandIn 29 = false by kernel_rfl)
        | 2, ht => obtain rfl : t = 26 := by simpa using ht.symm
                   exact (show Tryd.prog.wantsStandIn 26 = false by kernel_rfl)
        | 3, ht => obtain rfl : t = 25 := by simpa using ht.symm
                   exact (show Tryd.prog.wantsStandIn 25 = false by kernel_rfl)
        | j + 4, ht => simp at ht⟩)
    (by kernel_rfl)
#print axioms proved
end Go.Proofs.YtilddlgcfbefiaaDoor.interpParts
