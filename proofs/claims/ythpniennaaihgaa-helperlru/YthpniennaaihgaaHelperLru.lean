/-
  A key that is only asked for keeps its place; one whose word is got does not go first.
  Conditions: none.
-/
import Derived.Test.YthpniennaaihgaaRows
import Derived.Test.YthpniennaaihgaaGh
import Derived.Test.YthpniennaaihgaaHL
import Derived.WalkKit
import Derived.ProofKit
import Derived.OpenShut
import Derived.ChangeOld
import Derived.Below
namespace Go.Proofs.Ythpniennaaihgaa.helperLru
open Go.ChangeShapes Go.WideShapes Go.ChangeAt Go.RowKit
set_option linter.unusedVariables false

set_option maxRecDepth 100000 in
set_option maxHeartbeats 8000000 in
theorem walk (a0 : Int) (w0 : (Lit.int .i64 a0).wf = true) (a1 : Bool) (w : World) :
    Calls Try.prog 7 #[.int .i64 a0, .bool a1] w fun e w' => e = .returned (.bool true) ∧ Below w.heap.size w w' := by
  clear w0
  go_enter Try.func7, Try.ntmps7
  go_wp2_with fail
  refine (awake_any w).mono ?_
  rintro e m1 ⟨rfl, hb0⟩
  have HB := Lib.hid hb0
  clear hb0
  by_cases hn0 : a0 < 2
  · go_wp2_with fail
    go_ret
    exact ⟨rfl, HB.out⟩
  by_cases hn1 : 16 < a0
  · go_wp2_with fail
    go_ret
    exact ⟨rfl, HB.out⟩
  have hc1 : 1 ≤ a0 := by omega
  have hc16 : a0 ≤ 16 := by omega
  go_wp2_with fail
  have cn := tnew_any 2 a0 1 0 m1
  have hmay : mayT (2, a0, 1, 0) = true := lru_mayT' hc1 hc16
  rw [show newT (2, a0, 1, 0) = (((2, a0, 1, 0), [], 0) : Tb) by rw [newT, hmay]; rfl, show newE (2, a0, 1, 0) = 0 by rw [newE, hmay]; rfl] at cn
  refine cn.mono ?_
  rintro e w1 ⟨u, rfl, hb1, hr1⟩
  clear cn hmay
  obtain ⟨b1, p1, hu, hE1⟩ := hr1.at
  subst hu
  have hb9 := HB.out.trans (hb1.mono HB.out.size)
  have hr9 := hr1.low (base' := w.heap.size) HB.out.size
  have hbt : Below w.heap.size w (w1.alloc (.cells #[.int .i64 2, .int .i64 a0, .int .i64 1, .int .i64 0, .slice b1 0 p1, .int .u32 0] 45)) := hb9.trans ((belowA _ _).mono hb9.size)
  have hbb : Below w.heap.size w ((w1.alloc (.cells #[.int .i64 2, .int .i64 a0, .int .i64 1, .int .i64 0, .slice b1 0 p1, .int .u32 0] 45)).alloc (.cells #[.int .i64 2, .int .i64 a0, .int .i64 1, .int .i64 0, .slice b1 0 p1, .int .u32 0] 45)) := hbt.trans ((belowA _ _).mono hbt.size)
  have hBt : Box (w1.alloc (.cells #[.int .i64 2, .int .i64 a0, .int .i64 1, .int .i64 0, .slice b1 0 p1, .int .u32 0] 45)) w1.heap.size 45 #[.int .i64 2, .int .i64 a0, .int .i64 1, .int .i64 0, .slice b1 0 p1, .int .u32 0] := Box.new _ _ _
  have hBb : Box ((w1.alloc (.cells #[.int .i64 2, .int .i64 a0, .int .i64 1, .int .i64 0, .slice b1 0 p1, .int .u32 0] 45)).alloc (.cells #[.int .i64 2, .int .i64 a0, .int .i64 1, .int .i64 0, .slice b1 0 p1, .int .u32 0] 45)) (w1.heap.size + 1) 45 #[.int .i64 2, .int .i64 a0, .int .i64 1, .int .i64 0, .slice b1 0 p1, .int .u32 0] := by
    have := Box.new (w1.alloc (.cells #[.int .i64 2, .int .i64 a0, .int .i64 1, .int .i64 0, .slice b1 0 p1, .int .u32 0] 45)) 45 #[.int .i64 2, .int .i64 a0, .int .i64 1, .int .i64 0, .slice b1 0 p1, .int .u32 0]
    rwa [show (w1.alloc (.cells #[.int .i64 2, .int .i64 a0, .int .i64 1, .int .i64 0, .slice b1 0 p1, .int .u32 0] 45)).heap.size = w1.heap.size + 1 by simp] at this
  have hTR : TabsR ((w1.alloc (.cells #[.int .i64 2, .int .i64 a0, .int .i64 1, .int .i64 0, .slice b1 0 p1, .int .u32 0] 45)).alloc (.cells #[.int .i64 2, .int .i64 a0, .int .i64 1, .int .i64 0, .slice b1 0 p1, .int .u32 0] 45)) w.heap.size (.slice (some ⟨w1.heap.size + 1, 0, none⟩) 1 1) [lruT a0 (upTo 0)] := tabs_one (s := (2, a0, 1, 0)) (x := 0) (by have := hb9.size; omega) hBb ((hr9.below (belowA _ _)).below (belowA _ _)) isW_zero
  have hVe : Ve w (((w1.alloc (.cells #[.int .i64 2, .int .i64 a0, .int .i64 1, .int .i64 0, .slice b1 0 p1, .int .u32 0] 45)).alloc (.cells #[.int .i64 2, .int .i64 a0, .int .i64 1, .int .i64 0, .slice b1 0 p1, .int .u32 0] 45)).alloc (.cells #[.int .u32 0, .int .u32 0, .int .u32 0, .int .u32 0, .slice (some ⟨w1.heap.size + 1, 0, none⟩) 1 1, .int .u32 0] 26)) (w1.heap.size + 1 + 1) ((0, 0, 0, 0), [lruT a0 (upTo 0)], 0) (.slice (some ⟨w1.heap.size + 1, 0, none⟩) 1 1) := by
    have := Ve.new (e := ((0, 0, 0, 0), [lruT a0 (upTo 0)], 0)) hbb hTR
    rwa [show ((w1.alloc (.cells #[.int .i64 2, .int .i64 a0, .int .i64 1, .int .i64 0, .slice b1 0 p1, .int .u32 0] 45)).alloc (.cells #[.int .i64 2, .int .i64 a0, .int .i64 1, .int .i64 0, .slice b1 0 p1, .int .u32 0] 45)).heap.size = w1.heap.size + 1 + 1 by simp] at this
  have HV := Lib.hid hVe
  obtain ⟨q0, q1, q2, q3, q4, q5⟩ := Box.tb (s := (2, a0, 1, 0)) hBt
  simp only at q0 q1 q2 q3 q4 q5
  clear hb1 hr1 hE1 hbt hbb hBt hBb hTR hVe hb9 hr9 HB
  go_wp2_with fail
  clear q0 q1 q2 q3 q4 q5
  generalize hW2 : (((w1.alloc (.cells #[.int .i64 2, .int .i64 a0, .int .i64 1, .int .i64 0, .slice b1 0 p1, .int .u32 0] 45)).alloc (.cells #[.int .i64 2, .int .i64 a0, .int .i64 1, .int .i64 0, .slice b1 0 p1, .int .u32 0] 45)).alloc (.cells #[.int .u32 0, .int .u32 0, .int .u32 0, .int .u32 0, .slice (some ⟨w1.heap.size + 1, 0, none⟩) 1 1, .int .u32 0] 26)) = W2 at *
  generalize hE : w1.heap.size + 1 + 1 = E at *
  clear hW2 hE
  obtain ⟨n, hn⟩ : ∃ n : Nat, a0 = ((n + 2 : Nat) : Int) := ⟨a0.toNat - 2, by omega⟩
  have HN := Lib.hid hn
  have hn14 : n ≤ 14 := by omega
  clear hn hn0 hn1
  go_loopw [9] (fun i wr => ∃ (k : Nat) (V : Value), k ≤ n + 2 ∧ i = .int .i64 k ∧ Hid (Ve w wr E ((0, 0, 0, 0), [lruT a0 (upTo k)], 0) V)) (fun i _ => n + 2 - (intOf i).toNat)
  case atStart => exact ⟨0, _, by omega, rfl, HV⟩
  case round =>
    obtain ⟨k, V, hk, rfl, HV2⟩ := hrel
    clear HV
    have HV := HV2
    clear HV2
    by_cases hkl : k < n + 2
    · have hkI : (k : Int) < a0 := by have := HN.out; omega
      have hkw : IntKind.u32.wrap (k : Int) = (k : Int) := by rw [wW]; omega
      have HAs := Lib.hid (HV.out.later (belowA wr (.cells #[.int .u32 0, .int .u32 (k : Int), .int .u32 0, .int .u32 1] 22)))
      have HWs : Hid (WordsAt (wr.alloc (.cells #[.int .u32 0, .int .u32 (k : Int), .int .u32 0, .int .u32 1] 22)) (some ⟨wr.heap.size, 0, none⟩) 4 4 [0, (k : Int), 0, 1]) := Lib.hid (words_box [0, (k : Int), 0, 1] (by intro z hz; simp only [List.mem_cons, List.not_mem_nil, or_false] at hz; rcases hz with rfl | rfl | rfl | rfl <;> exact ⟨by omega, by omega⟩) (by simp) (Box.new _ _ _))
      obtain ⟨v0, v1, v2, v3, v4, v5⟩ := HV.out.cells
      simp only at v0 v1 v2 v3 v4 v5
      go_wp2_with fail
      clear v0 v1 v2 v3 v4 v5
      generalize hWx : wr.alloc (.cells #[.int .u32 0, .int .u32 (k : Int), .int .u32 0, .int .u32 1] 22) = Ws at *
      generalize hAx : wr.heap.size = As at *
      clear hWx hAx
      obtain ⟨bs, ccs, hq, hT⟩ := HAs.out.2.2.2.at
      simp only [List.length_singleton] at hq hT
      subst hq
      have cs := call_any 1 (0, 0, 0, 0) bs 1 ccs 0 [lruT a0 (upTo k)] (some ⟨As, 0, none⟩) 4 4 [0, (k : Int), 0, 1] Ws hT (few_one (may_few (lruT_vk hc1 hc16 (upTo_nodup k) (by rw [upTo_len]; omega)).may)) isW_zero HWs.out
      rw [lru_set_call hc1 hc16 (upTo_nodup k) (by rw [upTo_len]; omega) (fun h => by have := (upTo_mem.1 h).2; omega)] at cs
      rw [if_neg (by rw [upTo_len]; omega), ← upTo_succ] at cs
      refine cs.mono ?_
      rintro e m3 ⟨V3, rfl, hb3, hr3⟩
      clear cs hT
      have HV3 := Lib.hid (HAs.out.later hb3)
      have HR3 := Lib.hid (hr3.low (base' := w.heap.size) HAs.out.1.size)
      obtain ⟨b3, p3, hu, _⟩ := hr3.at
      simp only [List.length_singleton] at hu
      subst hu
      clear hb3 hr3
      have HV4 := Lib.hid (HV3.out.later (belowA m3 (.cells #[.int .u32 0, .int .u32 0, .int .u32 0, .int .u32 0, .slice b3 1 p3, .int .u32 0] 26)))
      have HR4 := Lib.hid (HR3.out.below (belowA m3 (.cells #[.int .u32 0, .int .u32 0, .int .u32 0, .int .u32 0, .slice b3 1 p3, .int .u32 0] 26)))
      have HB4 : Hid (Box (m3.alloc (.cells #[.int .u32 0, .int .u32 0, .int .u32 0, .int .u32 0, .slice b3 1 p3, .int .u32 0] 26)) m3.heap.size 26 #[.int .u32 0, .int .u32 0, .int .u32 0, .int .u32 0, .slice b3 1 p3, .int .u32 0]) := Lib.hid (Box.new _ _ _)
      have q0 : (m3.alloc (.cells #[.int .u32 0, .int .u32 0, .int .u32 0, .int .u32 0, .slice b3 1 p3, .int .u32 0] 26)).cell? ⟨m3.heap.size, 0, none⟩ = some (.int .u32 0) := HB4.out.cell rfl
      have q1 : (m3.alloc (.cells #[.int .u32 0, .int .u32 0, .int .u32 0, .int .u32 0, .slice b3 1 p3, .int .u32 0] 26)).cell? ⟨m3.heap.size, 1, none⟩ = some (.int .u32 0) := HB4.out.cell rfl
      have q2 : (m3.alloc (.cells #[.int .u32 0, .int .u32 0, .int .u32 0, .int .u32 0, .slice b3 1 p3, .int .u32 0] 26)).cell? ⟨m3.heap.size, 2, none⟩ = some (.int .u32 0) := HB4.out.cell rfl
      have q3 : (m3.alloc (.cells #[.int .u32 0, .int .u32 0, .int .u32 0, .int .u32 0, .slice b3 1 p3, .int .u32 0] 26)).cell? ⟨m3.heap.size, 3, none⟩ = some (.int .u32 0) := HB4.out.cell rfl
      have q4 : (m3.alloc (.cells #[.int .u32 0, .int .u32 0, .int .u32 0, .int .u32 0, .slice b3 1 p3, .int .u32 0] 26)).cell? ⟨m3.heap.size, 4, none⟩ = some (.slice b3 1 p3) := HB4.out.cell rfl
      have q5 : (m3.alloc (.cells #[.int .u32 0, .int .u32 0, .int .u32 0, .int .u32 0, .slice b3 1 p3, .int .u32 0] 26)).cell? ⟨m3.heap.size, 5, none⟩ = some (.int .u32 0) := HB4.out.cell rfl
      have hz : ((0 : Int) != 0) = false := by simp
      have HBx := Lib.hid HV4.out.2.1
      have HVn := Lib.hid (HV4.out.set (e' := ((0, 0, 0, 0), [lruT a0 (upTo (k + 1))], 0)) HR4.out)
      go_wp2_with (refine wpList_store_row rfl 26 _ _ rfl E _ rfl rfl 26 _ HBx.out (by kernel_rfl) rfl (by simp [Value.oneCell']) ?_)
      exact ⟨⟨k + 1, _, by omega, by go_num, HVn⟩, by simp [intOf]; omega⟩
    · have hkI : ¬ (k : Int) < a0 := by have := HN.out; omega
      obtain rfl : k = n + 2 := by omega
      rw [upTo_two] at HV
      have hnd := upTo_nodup (n + 2)
      rw [upTo_two] at hnd
      have hl2 : ((0 :: 1 :: from2 n : List Int).length : Int) ≤ a0 := by have := HN.out; simp [from2_len]; omega
      have hfull : a0 ≤ ((0 :: 1 :: from2 n : List Int).length : Int) := by have := HN.out; simp [from2_len]; omega
      have HND := Lib.hid hnd
      have HL2 := Lib.hid hl2
      have HFu := Lib.hid hfull
      have haw : IntKind.u32.wrap a0 = a0 := by rw [wW]; omega
      have hn0 : a0 ∉ from2 n := fun h => by have := (from2_mem h).2; have := HN.out; omega
      have h0f : (0 : Int) ∉ from2 n := fun h => by have := (from2_mem h).1; omega
      have h1f : (1 : Int) ∉ from2 n := fun h => by have := (from2_mem h).1; omega
      have HF2 := Lib.hid (from2_nodup n)
      have HN0 := Lib.hid hn0
      have H0F := Lib.hid h0f
      have H1F := Lib.hid h1f
      clear hnd hl2 hfull hn0 h0f h1f hkl hk
      have HAh := Lib.hid (HV.out.later (belowA wr (.cells #[.int .u32 0, .int .u32 0] 22)))
      have HWh : Hid (WordsAt (wr.alloc (.cells #[.int .u32 0, .int .u32 0] 22)) (some ⟨wr.heap.size, 0, none⟩) 2 2 [0, 0]) := Lib.hid (words_box [0, 0] (by intro z hz; simp only [List.mem_cons, List.not_mem_nil, or_false] at hz; rcases hz with rfl | rfl <;> exact ⟨by omega, by omega⟩) (by simp) (Box.new _ _ _))
      obtain ⟨v0, v1, v2, v3, v4, v5⟩ := HV.out.cells
      simp only at v0 v1 v2 v3 v4 v5
      go_wp2_with fail
      clear v0 v1 v2 v3 v4 v5
      generalize hWx : wr.alloc (.cells #[.int .u32 0, .int .u32 0] 22) = Wh at *
      generalize hAx : wr.heap.size = Ah at *
      clear hWx hAx
      obtain ⟨bh, cch, hq, hT⟩ := HAh.out.2.2.2.at
      simp only [List.length_singleton] at hq hT
      subst hq
      have ch := call_any 3 (0, 0, 0, 0) bh 1 cch 0 [lruT a0 (0 :: 1 :: from2 n)] (some ⟨Ah, 0, none⟩) 2 2 [0, 0] Wh hT (few_one (may_few (lruT_vk hc1 hc16 HND.out HL2.out).may)) isW_zero HWh.out
      rw [lru_has_call hc1 hc16 HND.out HL2.out 0, if_pos (by simp)] at ch
      refine ch.mono ?_
      rintro e mh ⟨Vh, rfl, hb3, hr3⟩
      clear ch hT
      have HBh := Lib.hid (HAh.out.later hb3)
      have HRh := Lib.hid (hr3.low (base' := w.heap.size) HAh.out.1.size)
      obtain ⟨dh, ph, hu, _⟩ := hr3.at
      simp only [List.length_singleton] at hu
      subst hu
      clear hb3 hr3
      have HVh := Lib.hid (HBh.out.set (e' := ((0, 0, 0, 0), [lruT a0 (0 :: 1 :: from2 n)], 0)) HRh.out)
      have HBxh := Lib.hid HBh.out.2.1
      obtain ⟨Xh, hXh⟩ : ∃ X, mh.setRow E #[.int .u32 0, .int .u32 0, .int .u32 0, .int .u32 0, .slice dh 1 ph, .int .u32 0] = X := ⟨_, rfl⟩
      replace HVh : Hid (Ve w Xh E ((0, 0, 0, 0), [lruT a0 (0 :: 1 :: from2 n)], 0) (.slice dh 1 ph)) := by rw [← hXh]; exact HVh
      cases a1
      · have hk3 : a0 ∉ (0 :: 1 :: from2 n : List Int) := by have h1 := HN0.out; simp; exact ⟨by omega, by omega, h1⟩
        have HK3 := Lib.hid hk3
        clear hk3
        have HAt := Lib.hid (HVh.out.later (belowA Xh (.cells #[.int .u32 0, .int .u32 a0, .int .u32 0, .int .u32 1] 22)))
        have HWt : Hid (WordsAt (Xh.alloc (.cells #[.int .u32 0, .int .u32 a0, .int .u32 0, .int .u32 1] 22)) (some ⟨Xh.heap.size, 0, none⟩) 4 4 [0, a0, 0, 1]) := Lib.hid (words_box [0, a0, 0, 1] (by intro z hz; simp only [List.mem_cons, List.not_mem_nil, or_false] at hz; rcases hz with rfl | rfl | rfl | rfl <;> exact ⟨by omega, by omega⟩) (by simp) (Box.new _ _ _))
        obtain ⟨v0, v1, v2, v3, v4, v5⟩ := HVh.out.cells
        simp only at v0 v1 v2 v3 v4 v5
        go_wp2_with (refine wpList_store_row rfl 26 _ _ rfl E _ rfl rfl 26 _ HBxh.out (by kernel_rfl) rfl (by simp [Value.oneCell']) ?_)
        clear hXh HBxh HBh HRh
        clear v0 v1 v2 v3 v4 v5
        generalize hWx : Xh.alloc (.cells #[.int .u32 0, .int .u32 a0, .int .u32 0, .int .u32 1] 22) = Wt at *
        generalize hAx : Xh.heap.size = At at *
        clear hWx hAx
        obtain ⟨bt, cct, hq, hT⟩ := HAt.out.2.2.2.at
        simp only [List.length_singleton] at hq hT
        simp only [Value.slice.injEq] at hq
        obtain ⟨rfl, _, rfl⟩ := hq
        have ct := call_any 1 (0, 0, 0, 0) dh 1 ph 0 [lruT a0 (0 :: 1 :: from2 n)] (some ⟨At, 0, none⟩) 4 4 [0, a0, 0, 1] Wt hT (few_one (may_few (lruT_vk hc1 hc16 HND.out HL2.out).may)) isW_zero HWt.out
        rw [lru_set_call hc1 hc16 HND.out HL2.out HK3.out, if_pos HFu.out] at ct
        rw [show (0 :: 1 :: from2 n : List Int).eraseIdx 0 ++ [a0] = (1 :: from2 n) ++ [a0] from rfl] at ct
        refine ct.mono ?_
        rintro e mt ⟨Vt, rfl, hb3, hr3⟩
        clear ct hT
        have HBt := Lib.hid (HAt.out.later hb3)
        have HRt := Lib.hid (hr3.low (base' := w.heap.size) HAt.out.1.size)
        obtain ⟨dt, pt, hu, _⟩ := hr3.at
        simp only [List.length_singleton] at hu
        subst hu
        clear hb3 hr3
        have HVt := Lib.hid (HBt.out.set (e' := ((0, 0, 0, 0), [lruT a0 ((1 :: from2 n) ++ [a0])], 0)) HRt.out)
        have HBxt := Lib.hid HBt.out.2.1
        obtain ⟨Xt, hXt⟩ : ∃ X, mt.setRow E #[.int .u32 0, .int .u32 0, .int .u32 0, .int .u32 0, .slice dt 1 pt, .int .u32 0] = X := ⟨_, rfl⟩
        replace HVt : Hid (Ve w Xt E ((0, 0, 0, 0), [lruT a0 ((1 :: from2 n) ++ [a0])], 0) (.slice dt 1 pt)) := by rw [← hXt]; exact HVt
        have hd4 : ((1 :: from2 n) ++ [a0] : List Int).Nodup := by
          have h1 := H1F.out
          have h2 := HN0.out
          have h3 := HF2.out
          rw [List.nodup_append]
          refine ⟨by simp only [List.nodup_cons]; exact ⟨h1, h3⟩, by simp, fun a ha b hb => ?_⟩
          have hb' : b = a0 := by simpa using hb
          subst hb'
          rintro rfl
          simp at ha
          rcases ha with h | h
          · omega
          · exact h2 h
        have hl4 : (((1 :: from2 n) ++ [a0] : List Int).length : Int) ≤ a0 := by have := HL2.out; simp [from2_len] at this ⊢; omega
        have hm0 : ¬ (0 : Int) ∈ ((1 :: from2 n) ++ [a0] : List Int) := by have h1 := H0F.out; simp; exact ⟨h1, by omega⟩
        have hm1 : (1 : Int) ∈ ((1 :: from2 n) ++ [a0] : List Int) := by simp
        have HD4 := Lib.hid hd4
        have HL4 := Lib.hid hl4
        have HM0 := Lib.hid hm0
        have HM1 := Lib.hid hm1
        clear hd4 hl4 hm0 hm1
        have HAx := Lib.hid (HVt.out.later (belowA Xt (.cells #[.int .u32 0, .int .u32 0] 22)))
        have HWx : Hid (WordsAt (Xt.alloc (.cells #[.int .u32 0, .int .u32 0] 22)) (some ⟨Xt.heap.size, 0, none⟩) 2 2 [0, 0]) := Lib.hid (words_box [0, 0] (by intro z hz; simp only [List.mem_cons, List.not_mem_nil, or_false] at hz; rcases hz with rfl | rfl <;> exact ⟨by omega, by omega⟩) (by simp) (Box.new _ _ _))
        obtain ⟨v0, v1, v2, v3, v4, v5⟩ := HVt.out.cells
        simp only at v0 v1 v2 v3 v4 v5
        go_wp2_with (refine wpList_store_row rfl 26 _ _ rfl E _ rfl rfl 26 _ HBxt.out (by kernel_rfl) rfl (by simp [Value.oneCell']) ?_)
        clear hXt HBxt HBt HRt
        clear v0 v1 v2 v3 v4 v5
        generalize hWx : Xt.alloc (.cells #[.int .u32 0, .int .u32 0] 22) = Wx at *
        generalize hAx : Xt.heap.size = Ax at *
        clear hWx hAx
        obtain ⟨bx, ccx, hq, hT⟩ := HAx.out.2.2.2.at
        simp only [List.length_singleton] at hq hT
        simp only [Value.slice.injEq] at hq
        obtain ⟨rfl, _, rfl⟩ := hq
        have cx := call_any 3 (0, 0, 0, 0) dt 1 pt 0 [lruT a0 ((1 :: from2 n) ++ [a0])] (some ⟨Ax, 0, none⟩) 2 2 [0, 0] Wx hT (few_one (may_few (lruT_vk hc1 hc16 HD4.out HL4.out).may)) isW_zero HWx.out
        rw [lru_has_call hc1 hc16 HD4.out HL4.out 0, if_neg HM0.out] at cx
        refine cx.mono ?_
        rintro e mx ⟨Vx, rfl, hb3, hr3⟩
        clear cx hT
        obtain ⟨dx, px, hu, _⟩ := hr3.at
        simp only [List.length_singleton] at hu
        subst hu
        have HVx := Lib.hid ((HAx.out.later hb3).later (belowA mx (.cells #[.int .u32 0, .int .u32 0, .int .u32 0, .int .u32 0, .slice dx 1 px, .int .u32 0] 26)))
        clear hb3 hr3
        obtain ⟨v0, v1, v2, v3, v4, v5⟩ := HVx.out.cells
        simp only at v0 v1 v2 v3 v4 v5
        have HAy := Lib.hid (HVx.out.later (belowA (mx.alloc (.cells #[.int .u32 0, .int .u32 0, .int .u32 0, .int .u32 0, .slice dx 1 px, .int .u32 0] 26)) (.cells #[.int .u32 0, .int .u32 1] 22)))
        have HWy : Hid (WordsAt ((mx.alloc (.cells #[.int .u32 0, .int .u32 0, .int .u32 0, .int .u32 0, .slice dx 1 px, .int .u32 0] 26)).alloc (.cells #[.int .u32 0, .int .u32 1] 22)) (some ⟨mx.heap.size + 1, 0, none⟩) 2 2 [0, 1]) := Lib.hid (by
          have := words_box (W := (mx.alloc (.cells #[.int .u32 0, .int .u32 0, .int .u32 0, .int .u32 0, .slice dx 1 px, .int .u32 0] 26)).alloc (.cells #[.int .u32 0, .int .u32 1] 22)) (A := (mx.alloc (.cells #[.int .u32 0, .int .u32 0, .int .u32 0, .int .u32 0, .slice dx 1 px, .int .u32 0] 26)).heap.size) [0, 1] (by intro z hz; simp only [List.mem_cons, List.not_mem_nil, or_false] at hz; rcases hz with rfl | rfl <;> exact ⟨by omega, by omega⟩) (by simp) (Box.new _ _ _)
          rwa [show (mx.alloc (.cells #[.int .u32 0, .int .u32 0, .int .u32 0, .int .u32 0, .slice dx 1 px, .int .u32 0] 26)).heap.size = mx.heap.size + 1 by simp] at this)
        go_wp2_with fail
        clear v0 v1 v2 v3 v4 v5
        generalize hWy : (mx.alloc (.cells #[.int .u32 0, .int .u32 0, .int .u32 0, .int .u32 0, .slice dx 1 px, .int .u32 0] 26)).alloc (.cells #[.int .u32 0, .int .u32 1] 22) = Wy at *
        generalize hAy : mx.heap.size + 1 = Ay at *
        clear hWy hAy
        obtain ⟨bz, cz, hq, hT⟩ := HAy.out.2.2.2.at
        simp only [List.length_singleton] at hq hT
        have cy := call_any 3 (0, 0, 0, 0) bz 1 cz 0 [lruT a0 ((1 :: from2 n) ++ [a0])] (some ⟨Ay, 0, none⟩) 2 2 [0, 1] Wy hT (few_one (may_few (lruT_vk hc1 hc16 HD4.out HL4.out).may)) isW_zero HWy.out
        rw [lru_has_call hc1 hc16 HD4.out HL4.out 1, if_pos HM1.out] at cy
        rw [← hq] at cy
        refine cy.mono ?_
        rintro e my ⟨Vy, rfl, hb3, hr3⟩
        clear cy hT
        have HZ := Lib.hid ((HAy.out.1.trans (hb3.mono HAy.out.1.size)))
        obtain ⟨dy, py, hu, _⟩ := hr3.at
        simp only [List.length_singleton] at hu
        subst hu
        clear hb3 hr3
        go_wp2_with fail
        go_ret
        exact ⟨rfl, HZ.out.alloc HZ.out.size _⟩
      · have hd3 : ((1 :: from2 n) ++ [0] : List Int).Nodup := by
          have h1 := H0F.out
          have h2 := H1F.out
          have h3 := HF2.out
          rw [List.nodup_append]
          refine ⟨by simp only [List.nodup_cons]; exact ⟨h2, h3⟩, by simp, fun a ha b hb => ?_⟩
          have hb' : b = 0 := by simpa using hb
          subst hb'
          rintro rfl
          simp at ha
          exact h1 ha
        have hl3 : (((1 :: from2 n) ++ [0] : List Int).length : Int) ≤ a0 := by have := HL2.out; simp [from2_len] at this ⊢; omega
        have hf3 : a0 ≤ (((1 :: from2 n) ++ [0] : List Int).length : Int) := by have := HFu.out; simp [from2_len] at this ⊢; omega
        have hk3 : a0 ∉ ((1 :: from2 n) ++ [0] : List Int) := by have h1 := HN0.out; simp; exact ⟨by omega, h1, by omega⟩
        have HD3 := Lib.hid hd3
        have HL3 := Lib.hid hl3
        have HF3 := Lib.hid hf3
        have HK3 := Lib.hid hk3
        clear hd3 hl3 hf3 hk3
        have HAg := Lib.hid (HVh.out.later (belowA Xh (.cells #[.int .u32 0, .int .u32 0, .int .u32 0] 22)))
        have HWg : Hid (WordsAt (Xh.alloc (.cells #[.int .u32 0, .int .u32 0, .int .u32 0] 22)) (some ⟨Xh.heap.size, 0, none⟩) 3 3 [0, 0, 0]) := Lib.hid (words_box [0, 0, 0] (by intro z hz; simp only [List.mem_cons, List.not_mem_nil, or_false] at hz; rcases hz with rfl | rfl | rfl <;> exact ⟨by omega, by omega⟩) (by simp) (Box.new _ _ _))
        obtain ⟨v0, v1, v2, v3, v4, v5⟩ := HVh.out.cells
        simp only at v0 v1 v2 v3 v4 v5
        go_wp2_with (refine wpList_store_row rfl 26 _ _ rfl E _ rfl rfl 26 _ HBxh.out (by kernel_rfl) rfl (by simp [Value.oneCell']) ?_)
        clear hXh HBxh HBh HRh
        clear v0 v1 v2 v3 v4 v5
        generalize hWx : Xh.alloc (.cells #[.int .u32 0, .int .u32 0, .int .u32 0] 22) = Wg at *
        generalize hAx : Xh.heap.size = Ag at *
        clear hWx hAx
        obtain ⟨bg, ccg, hq, hT⟩ := HAg.out.2.2.2.at
        simp only [List.length_singleton] at hq hT
        simp only [Value.slice.injEq] at hq
        obtain ⟨rfl, _, rfl⟩ := hq
        have cg := call_any 0 (0, 0, 0, 0) dh 1 ph 0 [lruT a0 (0 :: 1 :: from2 n)] (some ⟨Ag, 0, none⟩) 3 3 [0, 0, 0] Wg hT (few_one (may_few (lruT_vk hc1 hc16 HND.out HL2.out).may)) isW_zero HWg.out
        rw [lru_get_call hc1 hc16 HND.out HL2.out] at cg
        refine cg.mono ?_
        rintro e mg ⟨Vg, rfl, hb3, hr3⟩
        clear cg hT
        have HBg := Lib.hid (HAg.out.later hb3)
        have HRg := Lib.hid (hr3.low (base' := w.heap.size) HAg.out.1.size)
        obtain ⟨dg, pg, hu, _⟩ := hr3.at
        simp only [List.length_singleton] at hu
        subst hu
        clear hb3 hr3
        have HVg := Lib.hid (HBg.out.set (e' := ((0, 0, 0, 0), [lruT a0 ((1 :: from2 n) ++ [0])], 0)) HRg.out)
        have HBxg := Lib.hid HBg.out.2.1
        obtain ⟨Xg, hXg⟩ : ∃ X, mg.setRow E #[.int .u32 0, .int .u32 0, .int .u32 0, .int .u32 0, .slice dg 1 pg, .int .u32 0] = X := ⟨_, rfl⟩
        replace HVg : Hid (Ve w Xg E ((0, 0, 0, 0), [lruT a0 ((1 :: from2 n) ++ [0])], 0) (.slice dg 1 pg)) := by rw [← hXg]; exact HVg
        have HAt := Lib.hid (HVg.out.later (belowA Xg (.cells #[.int .u32 0, .int .u32 a0, .int .u32 0, .int .u32 1] 22)))
        have HWt : Hid (WordsAt (Xg.alloc (.cells #[.int .u32 0, .int .u32 a0, .int .u32 0, .int .u32 1] 22)) (some ⟨Xg.heap.size, 0, none⟩) 4 4 [0, a0, 0, 1]) := Lib.hid (words_box [0, a0, 0, 1] (by intro z hz; simp only [List.mem_cons, List.not_mem_nil, or_false] at hz; rcases hz with rfl | rfl | rfl | rfl <;> exact ⟨by omega, by omega⟩) (by simp) (Box.new _ _ _))
        obtain ⟨v0, v1, v2, v3, v4, v5⟩ := HVg.out.cells
        simp only at v0 v1 v2 v3 v4 v5
        go_wp2_with (refine wpList_store_row rfl 26 _ _ rfl E _ rfl rfl 26 _ HBxg.out (by kernel_rfl) rfl (by simp [Value.oneCell']) ?_)
        clear hXg HBxg HBg HRg
        clear v0 v1 v2 v3 v4 v5
        generalize hWx : Xg.alloc (.cells #[.int .u32 0, .int .u32 a0, .int .u32 0, .int .u32 1] 22) = Wt at *
        generalize hAx : Xg.heap.size = At at *
        clear hWx hAx
        obtain ⟨bt, cct, hq, hT⟩ := HAt.out.2.2.2.at
        simp only [List.length_singleton] at hq hT
        simp only [Value.slice.injEq] at hq
        obtain ⟨rfl, _, rfl⟩ := hq
        have ct := call_any 1 (0, 0, 0, 0) dg 1 pg 0 [lruT a0 ((1 :: from2 n) ++ [0])] (some ⟨At, 0, none⟩) 4 4 [0, a0, 0, 1] Wt hT (few_one (may_few (lruT_vk hc1 hc16 HD3.out HL3.out).may)) isW_zero HWt.out
        rw [lru_set_call hc1 hc16 HD3.out HL3.out HK3.out, if_pos HF3.out] at ct
        rw [show (((1 :: from2 n) ++ [0] : List Int).eraseIdx 0) ++ [a0] = from2 n ++ [0] ++ [a0] from rfl] at ct
        refine ct.mono ?_
        rintro e mt ⟨Vt, rfl, hb3, hr3⟩
        clear ct hT
        have HBt := Lib.hid (HAt.out.later hb3)
        have HRt := Lib.hid (hr3.low (base' := w.heap.size) HAt.out.1.size)
        obtain ⟨dt, pt, hu, _⟩ := hr3.at
        simp only [List.length_singleton] at hu
        subst hu
        clear hb3 hr3
        have HVt := Lib.hid (HBt.out.set (e' := ((0, 0, 0, 0), [lruT a0 (from2 n ++ [0] ++ [a0])], 0)) HRt.out)
        have HBxt := Lib.hid HBt.out.2.1
        obtain ⟨Xt, hXt⟩ : ∃ X, mt.setRow E #[.int .u32 0, .int .u32 0, .int .u32 0, .int .u32 0, .slice dt 1 pt, .int .u32 0] = X := ⟨_, rfl⟩
        replace HVt : Hid (Ve w Xt E ((0, 0, 0, 0), [lruT a0 (from2 n ++ [0] ++ [a0])], 0) (.slice dt 1 pt)) := by rw [← hXt]; exact HVt
        have hd4 : (from2 n ++ [0] ++ [a0] : List Int).Nodup := by
          have h1 := H0F.out
          have h2 := HN0.out
          have h3 := HF2.out
          rw [List.nodup_append, List.nodup_append]
          refine ⟨⟨h3, by simp, fun a ha b hb => ?_⟩, by simp, fun a ha b hb => ?_⟩
          · have hb' : b = 0 := by simpa using hb
            subst hb'
            rintro rfl
            exact h1 ha
          · have hb' : b = a0 := by simpa using hb
            subst hb'
            rintro rfl
            rcases List.mem_append.1 ha with h | h
            · exact h2 h
            · simp at h
              omega
        have hl4 : ((from2 n ++ [0] ++ [a0] : List Int).length : Int) ≤ a0 := by have := HL2.out; simp [from2_len] at this ⊢; omega
        have hm0 : (0 : Int) ∈ (from2 n ++ [0] ++ [a0] : List Int) := by simp
        have hm1 : ¬ (1 : Int) ∈ (from2 n ++ [0] ++ [a0] : List Int) := by have h1 := H1F.out; simp; exact ⟨h1, by omega⟩
        have HD4 := Lib.hid hd4
        have HL4 := Lib.hid hl4
        have HM0 := Lib.hid hm0
        have HM1 := Lib.hid hm1
        clear hd4 hl4 hm0 hm1
        have HAx := Lib.hid (HVt.out.later (belowA Xt (.cells #[.int .u32 0, .int .u32 0] 22)))
        have HWx : Hid (WordsAt (Xt.alloc (.cells #[.int .u32 0, .int .u32 0] 22)) (some ⟨Xt.heap.size, 0, none⟩) 2 2 [0, 0]) := Lib.hid (words_box [0, 0] (by intro z hz; simp only [List.mem_cons, List.not_mem_nil, or_false] at hz; rcases hz with rfl | rfl <;> exact ⟨by omega, by omega⟩) (by simp) (Box.new _ _ _))
        obtain ⟨v0, v1, v2, v3, v4, v5⟩ := HVt.out.cells
        simp only at v0 v1 v2 v3 v4 v5
        go_wp2_with (refine wpList_store_row rfl 26 _ _ rfl E _ rfl rfl 26 _ HBxt.out (by kernel_rfl) rfl (by simp [Value.oneCell']) ?_)
        clear hXt HBxt HBt HRt
        clear v0 v1 v2 v3 v4 v5
        generalize hWx : Xt.alloc (.cells #[.int .u32 0, .int .u32 0] 22) = Wx at *
        generalize hAx : Xt.heap.size = Ax at *
        clear hWx hAx
        obtain ⟨bx, ccx, hq, hT⟩ := HAx.out.2.2.2.at
        simp only [List.length_singleton] at hq hT
        simp only [Value.slice.injEq] at hq
        obtain ⟨rfl, _, rfl⟩ := hq
        have cx := call_any 3 (0, 0, 0, 0) dt 1 pt 0 [lruT a0 (from2 n ++ [0] ++ [a0])] (some ⟨Ax, 0, none⟩) 2 2 [0, 0] Wx hT (few_one (may_few (lruT_vk hc1 hc16 HD4.out HL4.out).may)) isW_zero HWx.out
        rw [lru_has_call hc1 hc16 HD4.out HL4.out 0, if_pos HM0.out] at cx
        refine cx.mono ?_
        rintro e mx ⟨Vx, rfl, hb3, hr3⟩
        clear cx hT
        obtain ⟨dx, px, hu, _⟩ := hr3.at
        simp only [List.length_singleton] at hu
        subst hu
        have HVx := Lib.hid ((HAx.out.later hb3).later (belowA mx (.cells #[.int .u32 0, .int .u32 0, .int .u32 0, .int .u32 0, .slice dx 1 px, .int .u32 0] 26)))
        clear hb3 hr3
        obtain ⟨v0, v1, v2, v3, v4, v5⟩ := HVx.out.cells
        simp only at v0 v1 v2 v3 v4 v5
        have HAy := Lib.hid (HVx.out.later (belowA (mx.alloc (.cells #[.int .u32 0, .int .u32 0, .int .u32 0, .int .u32 0, .slice dx 1 px, .int .u32 0] 26)) (.cells #[.int .u32 0, .int .u32 1] 22)))
        have HWy : Hid (WordsAt ((mx.alloc (.cells #[.int .u32 0, .int .u32 0, .int .u32 0, .int .u32 0, .slice dx 1 px, .int .u32 0] 26)).alloc (.cells #[.int .u32 0, .int .u32 1] 22)) (some ⟨mx.heap.size + 1, 0, none⟩) 2 2 [0, 1]) := Lib.hid (by
          have := words_box (W := (mx.alloc (.cells #[.int .u32 0, .int .u32 0, .int .u32 0, .int .u32 0, .slice dx 1 px, .int .u32 0] 26)).alloc (.cells #[.int .u32 0, .int .u32 1] 22)) (A := (mx.alloc (.cells #[.int .u32 0, .int .u32 0, .int .u32 0, .int .u32 0, .slice dx 1 px, .int .u32 0] 26)).heap.size) [0, 1] (by intro z hz; simp only [List.mem_cons, List.not_mem_nil, or_false] at hz; rcases hz with rfl | rfl <;> exact ⟨by omega, by omega⟩) (by simp) (Box.new _ _ _)
          rwa [show (mx.alloc (.cells #[.int .u32 0, .int .u32 0, .int .u32 0, .int .u32 0, .slice dx 1 px, .int .u32 0] 26)).heap.size = mx.heap.size + 1 by simp] at this)
        go_wp2_with fail
        clear v0 v1 v2 v3 v4 v5
        generalize hWy : (mx.alloc (.cells #[.int .u32 0, .int .u32 0, .int .u32 0, .int .u32 0, .slice dx 1 px, .int .u32 0] 26)).alloc (.cells #[.int .u32 0, .int .u32 1] 22) = Wy at *
        generalize hAy : mx.heap.size + 1 = Ay at *
        clear hWy hAy
        obtain ⟨bz, cz, hq, hT⟩ := HAy.out.2.2.2.at
        simp only [List.length_singleton] at hq hT
        have cy := call_any 3 (0, 0, 0, 0) bz 1 cz 0 [lruT a0 (from2 n ++ [0] ++ [a0])] (some ⟨Ay, 0, none⟩) 2 2 [0, 1] Wy hT (few_one (may_few (lruT_vk hc1 hc16 HD4.out HL4.out).may)) isW_zero HWy.out
        rw [lru_has_call hc1 hc16 HD4.out HL4.out 1, if_neg HM1.out] at cy
        rw [← hq] at cy
        refine cy.mono ?_
        rintro e my ⟨Vy, rfl, hb3, hr3⟩
        clear cy hT
        have HZ := Lib.hid ((HAy.out.1.trans (hb3.mono HAy.out.1.size)))
        obtain ⟨dy, py, hu, _⟩ := hr3.at
        simp only [List.length_singleton] at hu
        subst hu
        clear hb3 hr3
        go_wp2_with fail
        go_ret
        exact ⟨rfl, HZ.out.alloc HZ.out.size _⟩


theorem own : ownKnob Try.prog.godebug = none := by kernel_rfl
theorem laidOut : laidOutB Try.prog = true := by kernel_rfl
set_option maxRecDepth 100000 in
theorem lifted (os : Os) (started : os.Started) (H : Type) (enc : TypeId × Value → H) :
    ReturnsInHanded {} Try.checked os 7 .any (Rows.helperLruSpec.pre6 enc Try.prog Try.f7 Rows.helperLruRow.domain false) (Rows.helperLruSpec.post enc Try.prog Try.f7 false true false false) := by
  refine returnsInHanded_of_change (C := Try.checked) own started (by kernel_rfl) Try.func7
    (ChangeSpec.witness6 (enc := enc) (C := Try.checked) false ⟨#[], #[.int .i64 0, .bool false], []⟩ 8 (by kernel_rfl) (by kernel_rfl) (by kernel_rfl) (by kernel_rfl)) ?_
  intro W base args ds gs before hval0 hW hcnd _
  have hval : ∀ (j : Nat) t v, Try.f7.params[j]? = some t → args[j]? = some v → Value.okWide Try.prog W .any base t v := hval0
  have hW' := hW
  obtain ⟨p, q, hA0, hV, rfl, hfz, hnd⟩ := hW
  have hA : DataW.TrodAll enc Try.prog W 0 (fun _ => true) true Try.f7.params.toList args.toList ds p := hA0
  rw [Try.params7] at hA hval
  obtain ⟨u0, vs0, e0, ds0, p0, q0, hargs, rfl, rfl, h0, t0⟩ := trodAll_cons hA
  obtain ⟨u1, vs1, e1, ds1, p1, q1, rfl, rfl, rfl, h1, t1⟩ := trodAll_cons t0
  obtain ⟨rfl, rfl, rfl⟩ := trodAll_nil t1
  obtain rfl : args = #[u0, u1] := by cases args; simp_all
  obtain ⟨rfl, rfl⟩ := trodVars_none hV
  have y0 := h0
  have lt0 : ∀ x ∈ p0, x.block < W.heap.size := by obtain ⟨m, hm⟩ := y0; exact DataW.trod_lt m _ _ _ hm
  have y1 := h1
  have lt1 : ∀ x ∈ p1, x.block < W.heap.size := by obtain ⟨m, hm⟩ := y1; exact DataW.trod_lt m _ _ _ hm
  obtain ⟨a0, rfl, _, _, w0⟩ := open_int Try.underlying3 (hval 0 3 u0 rfl rfl) h0
  obtain ⟨a1, rfl, _, _⟩ := open_bool Try.underlying4 (hval 1 4 u1 rfl rfl) h1
  clear hA0 hval0
  refine (walk a0 w0 a1 W).mono fun e W' ⟨he, bel⟩ => ?_
  subst he
  exact ⟨_, rfl, _, _, _, [], _, [], hW', trodAll_mk1 (shut_bool Try.underlying4 _), (trodAll_cons_mk (Below.trod laidOut (by kernel_rfl) (of_decide_eq_true (by kernel_rfl)) y0 bel lt0) (trodAll_cons_mk (Below.trod laidOut (by kernel_rfl) (of_decide_eq_true (by kernel_rfl)) y1 bel lt1) trodAll_mk0)), rfl, bel.frame _, fun h => by cases h⟩

theorem over : Rows.helperLruRow.holds Try.pinned (OpenSpec.ofChange Rows.helperLruSpec) :=
  OpenClaim.holds_of_wide 7 Try.f7 rfl rfl rfl rfl rfl rfl rfl ⟨rfl, rfl, rfl, rfl, rfl⟩ rfl rfl rfl rfl rfl (by kernel_rfl) Try.func7 (by kernel_rfl)
    (of_decide_eq_true (by kernel_rfl)) (by unfold Func.isWrapper; first | (rw [if_pos (by decide +kernel)]; kernel_rfl) | (rw [if_neg (by decide +kernel)]; exact ⟨rfl, rfl⟩))
    (fun os started H enc _ => lifted os started H enc)

theorem proved : Rows.HelperLruSaid := over
#print axioms proved
end Go.Proofs.Ythpniennaaihgaa.helperLru
