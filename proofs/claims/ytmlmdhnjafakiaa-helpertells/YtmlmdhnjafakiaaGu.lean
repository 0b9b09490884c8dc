/-
  Texts that the law of this layer stands on, one behind the other.
-/
import Derived.Test.YtmlmdhnjafakiaaGs
import Derived.Test.YtmlmdhnjafakiaaTZ
import Derived.Test.YtmlmdhnjafakiaaGt
/-
  What the sixth reference's Call returns at helper 1, as a contract over the translated program.
-/
namespace Go.Proofs.Ytmlmdhnjafakiaa
open Go Go.RowKit
set_option linter.unusedVariables false
set_option maxRecDepth 100000 in
set_option maxHeartbeats 40000000 in
theorem rc1_any (c : Cx) (a : Option Addr) (len cap : Nat) (sd : Int) (ts : List Tb) (ab : Option Addr) (an ap : Nat) (zs : List Int) (w : World) (h : TabsAt w a len cap ts) (hf : fewL ts) (hs : isW sd) (hz : WordsAt w ab an ap zs) (hlen0 : (zs.length : Int) = argsP 1) : Calls Try.prog 8 #[.int .i64 1, envV c (.slice a len cap) sd, .slice ab an ap] w (RcPost (callP 1 (c, ts, sd) zs) w) := by
  rcases c with ⟨c0, c1, c2, c3⟩
  have hlm := hz.max
  have HFL := Lib.hid hf
  have HS := Lib.hid hs
  have HZl := Lib.hid hz.1
  obtain ⟨W0, hW0⟩ : ∃ W0, (w.alloc (.cells #[.int .u32 c0, .int .u32 c1, .int .u32 c2, .int .u32 c3, .slice a len cap, .int .u32 sd] 26)).alloc (.cells #[.int .u32 0, .int .u32 0, .int .u32 0, .int .u32 0, .slice none 0 0, .int .u32 0] 26) = W0 := ⟨_, rfl⟩
  have hs0 : W0.heap.size = w.heap.size + 1 + 1 := by rw [← hW0]; simp
  have hb0 : Below w.heap.size w W0 := by rw [← hW0]; exact box2 (Below.refl _ _) (Nat.le_refl _) _ _
  have HP : Hid (Box W0 w.heap.size 26 #[.int .u32 c0, .int .u32 c1, .int .u32 c2, .int .u32 c3, .slice a len cap, .int .u32 sd]) := by rw [← hW0]; exact Lib.hid ((Box.new w 26 _).alloc _)
  have HR : Hid (Box W0 (w.heap.size + 1) 26 #[.int .u32 0, .int .u32 0, .int .u32 0, .int .u32 0, .slice none 0 0, .int .u32 0]) := by
    rw [← hW0]
    have := Box.new (w.alloc (.cells #[.int .u32 c0, .int .u32 c1, .int .u32 c2, .int .u32 c3, .slice a len cap, .int .u32 sd] 26)) 26 #[.int .u32 0, .int .u32 0, .int .u32 0, .int .u32 0, .slice none 0 0, .int .u32 0]
    rw [show (w.alloc (.cells #[.int .u32 c0, .int .u32 c1, .int .u32 c2, .int .u32 c3, .slice a len cap, .int .u32 sd] 26)).heap.size = w.heap.size + 1 by simp] at this
    exact Lib.hid this
  have HT0 := Lib.hid (h.below hb0)
  have HZ0 := Lib.hid (hz.below hb0)
  have HZw := Lib.hid hz
  have HB0 := Lib.hid hb0
  clear h hz hf hs
  have HLen := Lib.hid hlen0
  rw [show argsP 1 = 4 from by decide] at hlen0
  have HAn : Hid ((an : Int) = 4) := Lib.hid (by rw [← hlen0, HZl.out])
  have HWz := Lib.hid (HZ0.out.2.2.2.1)
  obtain ⟨i, hi⟩ : ∃ i : Nat, zs.getD 0 0 = (i : Int) := ⟨(zs.getD 0 0).toNat, by have := (wordL_getD HWz.out 0).1; omega⟩
  have HI := Lib.hid hi
  have hi32 : (i : Int) ≤ 4294967295 := by rw [← hi]; exact (wordL_getD HWz.out 0).2
  obtain ⟨z1, hz1⟩ : ∃ z1, zs.getD 1 0 = z1 := ⟨_, rfl⟩
  have HZ1w : Hid (isW z1) := Lib.hid (by rw [← hz1]; exact wordL_getD HWz.out 1)
  have HZ1e := Lib.hid hz1
  obtain ⟨z2, hz2⟩ : ∃ z2, zs.getD 2 0 = z2 := ⟨_, rfl⟩
  have HZ2w : Hid (isW z2) := Lib.hid (by rw [← hz2]; exact wordL_getD HWz.out 2)
  have HZ2e := Lib.hid hz2
  obtain ⟨z3, hz3⟩ : ∃ z3, zs.getD 3 0 = z3 := ⟨_, rfl⟩
  have HZ3w : Hid (isW z3) := Lib.hid (by rw [← hz3]; exact wordL_getD HWz.out 3)
  have HZ3e := Lib.hid hz3
  clear hi hz1 hz2 hz3
  obtain ⟨ar, har⟩ : ∃ ar : Int, ar = 4 := ⟨_, rfl⟩
  have hlen : (an : Int) = ar := by rw [har]; have := HZl.out; omega
  have hla : ((an : Int) != ar) = false := by simp [hlen]
  have har0 : decide (ar < 0) = false := decide_eq_false (by omega)
  have ca := fun W => rargs_any 1 W
  rw [show argsP 1 = ar from by rw [har]; decide] at ca
  obtain ⟨R, hR⟩ : ∃ R, w.heap.size + 1 = R := ⟨_, rfl⟩
  rw [hR] at HR
  have hRw : w.heap.size < R := by omega
  have hRs : R < W0.heap.size := HR.out.lt
  clear har hlen
  go_enter Try.func8, Try.ntmps8
  go_wp2_with fail
  clear hW0 hs0 hR
  refine (ca _).mono ?_
  rintro e m1 ⟨rfl, hb1⟩
  go_wp2_with fail
  refine (ca _).mono ?_
  rintro e m2 ⟨rfl, hb2⟩
  have hb12 := hb1.trans (hb2.mono hb1.size)
  have HP2 := Lib.hid (HP.out.later hb12)
  have HR2 := Lib.hid (HR.out.later hb12)
  have HB2 := Lib.hid (HB0.out.trans (hb12.mono HB0.out.size))
  have HT2 := Lib.hid (HT0.out.below hb12)
  have HZ2 := Lib.hid (HZ0.out.below hb12)
  clear hb1 hb2 hb12 ca HP HR HB0 HT0 HZ0 hb0 hRs
  have k0 : m2.cell? ⟨w.heap.size, 0, none⟩ = some (.int .u32 c0) := HP2.out.cell rfl
  have k1 : m2.cell? ⟨w.heap.size, 1, none⟩ = some (.int .u32 c1) := HP2.out.cell rfl
  have k2 : m2.cell? ⟨w.heap.size, 2, none⟩ = some (.int .u32 c2) := HP2.out.cell rfl
  have k3 : m2.cell? ⟨w.heap.size, 3, none⟩ = some (.int .u32 c3) := HP2.out.cell rfl
  have k4 : m2.cell? ⟨w.heap.size, 4, none⟩ = some (.slice a len cap) := HP2.out.cell rfl
  have k5 : m2.cell? ⟨w.heap.size, 5, none⟩ = some (.int .u32 sd) := HP2.out.cell rfl
  go_wp2_with fail
  refine (eown_any (c0, c1, c2, c3) a len cap sd ts m2 HT2.out HFL.out).mono ?_
  rintro e m3 ⟨V, rfl, hb3, hT3⟩
  clear k0 k1 k2 k3 k4 k5 hla har0
  obtain ⟨vb, vc, rfl, _⟩ := hT3.at
  have HC3r : Hid (Cr w (m3.alloc (.cells (envA (c0, c1, c2, c3) (.slice vb ts.length vc) sd) 26)) R m3.heap.size (c0, c1, c2, c3) sd ts (.slice vb ts.length vc)) :=
    Lib.hid (Cr.new (HB2.out.trans (hb3.mono HB2.out.size)) (HR2.out.later hb3) (by omega) HR2.out.lt hT3)
  have HP3r := Lib.hid ((HP2.out.later hb3).alloc (.cells (envA (c0, c1, c2, c3) (.slice vb ts.length vc) sd) 26))
  have hb3a := hb3.trans (belowA m3 (.cells (envA (c0, c1, c2, c3) (.slice vb ts.length vc) sd) 26) |>.mono hb3.size)
  have HZ3r := Lib.hid (HZ2.out.below hb3a)
  have HT3r := Lib.hid (HT2.out.below hb3a)
  clear hb3 hb3a hT3 HP2 HR2 HB2 HT2 HZ2
  go_wp2_with fail
  generalize hW3 : m3.alloc (.cells #[.int .u32 c0, .int .u32 c1, .int .u32 c2, .int .u32 c3, .slice vb ts.length vc, .int .u32 sd] 26) = W3 at *
  generalize hO : m3.heap.size = O at *
  clear hW3 hO
  obtain ⟨xa, rfl, hxa⟩ := HZ3r.out.2.2.2.2.resolve_left (by have := HAn.out; omega)
  have a0 : W3.cell? xa = some (.int .u32 (i : Int)) := by
    have := hxa 0 (by have := HAn.out; omega)
    rw [HI.out] at this
    exact this
  have hxl : xa.block < w.heap.size := by
    obtain ⟨x2, e2, hx2⟩ := HZw.out.2.2.2.2.resolve_left (by have := HAn.out; omega)
    cases e2
    exact lt_of_cell (hx2 0 (by have := HAn.out; omega))
  have p4 : W3.cell? ⟨w.heap.size, 4, none⟩ = some (.slice a len cap) := HP3r.out.cell rfl
  have hanI : (0 : Int) < (an : Int) := by have := HAn.out; omega
  have HXL := Lib.hid hxl
  have hlm2 := HT3r.out.max
  clear hxa hxl
  have HTl := Lib.hid HT3r.out.1
  by_cases hil : i < len
  · have hlI : ¬ (len : Int) ≤ (i : Int) := by omega
    have hilI : (i : Int) < (len : Int) := by omega
    go_quiet (fail)
    have hb4 : Below W3.heap.size W3 (W3.drewN nq) := below_of_quiet ⟨nq, rfl⟩
    have HC4 := Lib.hid (HC3r.out.later hb4)
    have HP4 := Lib.hid (HP3r.out.later hb4)
    have HZ4 := Lib.hid (HZ3r.out.below hb4)
    have HT4 := Lib.hid (HT3r.out.below hb4)
    clear hb4 a0 p4 HC3r HP3r HZ3r HT3r
    generalize hW4 : W3.drewN nq = W4 at *
    clear hW4
    obtain ⟨_, e2, hxa⟩ := HZ4.out.2.2.2.2.resolve_left (by have := HAn.out; omega)
    cases e2
    have a0 : W4.cell? xa = some (.int .u32 (i : Int)) := by
      have := hxa 0 (by have := HAn.out; omega)
      rw [HI.out] at this
      exact this
    have p4 : W4.cell? ⟨w.heap.size, 4, none⟩ = some (.slice a len cap) := HP4.out.cell rfl
    obtain ⟨y, rfl, hy⟩ := HT4.out.2.2.2.resolve_left (by omega)
    have t1 := hy i hil
    rcases e1 : ts.getD i zeroT with ⟨⟨s0, s1, s2, s3⟩, es, x⟩
    rw [e1] at t1
    have HE1 := Lib.hid e1
    have hfw := HFL.out.2 _ (getD_mem ts i zeroT (by rw [HTl.out]; exact hil))
    rw [e1] at hfw
    have HFW := Lib.hid hfw
    obtain ⟨q0, q1, q2, q3, ⟨bt, lt, ct, q4, hE1⟩, q5, hx1⟩ := t1
    simp only at q0 q1 q2 q3 q4 q5 hE1 hx1
    have HX := Lib.hid hx1
    have hb5 : Below W4.heap.size W4 (W4.alloc (.cells #[.int .i64 s0, .int .i64 s1, .int .i64 s2, .int .i64 s3, .slice bt lt ct, .int .u32 x] 44)) := (Below.refl _ _).alloc (Nat.le_refl _) _
    have HE5 := Lib.hid (hE1.below hb5)
    have HC5 := Lib.hid (HC4.out.later hb5)
    have HB5 := Lib.hid (Box.new W4 44 #[.int .i64 s0, .int .i64 s1, .int .i64 s2, .int .i64 s3, .slice bt lt ct, .int .u32 x])
    have HZ5 := Lib.hid (HZ4.out.below hb5)
    have HOT : Hid (O < W4.heap.size) := Lib.hid (HC4.out.2.2.1.lt)
    obtain ⟨g, cap1, hV, _, hcap1, hRg, hgO, hgl⟩ := HC4.out.row (by rw [HTl.out]; omega)
    simp only [Value.slice.injEq, true_and] at hV
    obtain ⟨rfl, rfl⟩ := hV
    have HG := Lib.hid (And.intro hRg (And.intro hgO hgl))
    have HCap := Lib.hid hcap1
    obtain ⟨k0, k1, k2, k3, k4, k5⟩ := Box.tb (s := (s0, s1, s2, s3)) HB5.out
    simp only at k0 k1 k2 k3 k4 k5
    clear hy e1 hE1 hx1 hb5 hfw hRg hgO hgl hcap1 hxa HC4 HP4 HZ4 HT4
    go_wp2_with fail
    generalize hW5 : W4.alloc (.cells #[.int .i64 s0, .int .i64 s1, .int .i64 s2, .int .i64 s3, .slice bt lt ct, .int .u32 x] 44) = W5 at *
    generalize hT5 : W4.heap.size = T at *
    clear hW5 hT5 a0 p4 q0 q1 q2 q3 q4 q5 k0 k1 k2 k3 k4 k5
    refine (mayTb_any (s0, s1, s2, s3) bt lt ct x es W5 HE5.out).mono ?_
    rintro e m6 ⟨rfl, hb6⟩
    have HC6 := Lib.hid (HC5.out.later hb6)
    have HB6 := Lib.hid (HB5.out.later hb6)
    have HE6 := Lib.hid (HE5.out.below hb6)
    have HZ6 := Lib.hid (HZ5.out.below hb6)
    clear hb6 HC5 HB5 HE5 HZ5
    obtain ⟨k0, k1, k2, k3, k4, k5⟩ := Box.tb (s := (s0, s1, s2, s3)) HB6.out
    simp only at k0 k1 k2 k3 k4 k5
    obtain ⟨M, hM⟩ : ∃ M, mayTb ((s0, s1, s2, s3), es, x) = M := ⟨_, rfl⟩
    rw [hM]
    have HM := Lib.hid hM
    clear hM
    go_wp2_with fail
    refine (rfits_any 1 s0 s1 s2 s3 m6).mono ?_
    rintro e m7 ⟨rfl, hb7⟩
    have HC7 := Lib.hid (HC6.out.later hb7)
    have HB7 := Lib.hid (HB6.out.later hb7)
    have HE7 := Lib.hid (HE6.out.below hb7)
    have HZ7 := Lib.hid (HZ6.out.below hb7)
    clear hb7 HC6 HB6 HE6 HZ6 k0 k1 k2 k3 k4 k5
    obtain ⟨Fi, hFi⟩ : ∃ Fi, fitsP 1 (s0, s1, s2, s3) = Fi := ⟨_, rfl⟩
    rw [hFi]
    have HFi := Lib.hid hFi
    clear hFi
    obtain ⟨k0, k1, k2, k3, k4, k5⟩ := Box.tb (s := (s0, s1, s2, s3)) HB7.out
    simp only at k0 k1 k2 k3 k4 k5
    have hmo := mayOp_in (n := 1) HI.out (by rw [HTl.out]; exact hil) HE1.out
    simp only [HM.out, HFi.out] at hmo
    have HMo := Lib.hid hmo
    clear hmo
    obtain ⟨_, e2, hxa⟩ := HZ7.out.2.2.2.2.resolve_left (by have := HAn.out; omega)
    cases e2
    have a1 : m7.cell? ⟨xa.block, xa.off + 1, none⟩ = some (.int .u32 z1) := by
      have := hxa 1 (by have := HAn.out; omega)
      rw [HZ1e.out] at this
      exact this
    have a2 : m7.cell? ⟨xa.block, xa.off + 2, none⟩ = some (.int .u32 z2) := by
      have := hxa 2 (by have := HAn.out; omega)
      rw [HZ2e.out] at this
      exact this
    have a3 : m7.cell? ⟨xa.block, xa.off + 3, none⟩ = some (.int .u32 z3) := by
      have := hxa 3 (by have := HAn.out; omega)
      rw [HZ3e.out] at this
      exact this
    have han1 : (1 : Int) < (an : Int) := by have := HAn.out; omega
    have han2 : (2 : Int) < (an : Int) := by have := HAn.out; omega
    have han3 : (3 : Int) < (an : Int) := by have := HAn.out; omega
    clear hxa
    have z2a : 0 ≤ z2 := HZ2w.out.1
    have z2b : z2 ≤ 4294967295 := HZ2w.out.2
    cases M
    · go_wp2_with fail
      go_quiet (fail)
      have hb8 : Below m7.heap.size m7 (m7.drewN nq) := below_of_quiet ⟨nq, rfl⟩
      have HC8 := Lib.hid (HC7.out.later hb8)
      clear hb8 HC7 HB7 HE7 HZ7 k0 k1 k2 k3 k4 k5
      generalize hW8 : m7.drewN nq = W8 at *
      clear hW8 a1 a2 a3
      have HEq := Lib.hid (callP_fault (n := 1) (e := ((c0, c1, c2, c3), ts, sd)) HLen.out (by decide) (by rw [HMo.out]; simp))
      have hRx := HC8.out.2.1
      have HRx := Lib.hid hRx
      obtain ⟨y0, y1, y2, y3, y4, y5⟩ := HC8.out.cells
      simp only at y0 y1 y2 y3 y4 y5
      clear hRx
      go_wp2_with (refine wpList_store_row rfl 26 _ _ rfl R _ rfl rfl 26 _ HRx.out (by kernel_rfl) rfl (by simp [Value.oneCell']) ?_)
      refine bodyPost_ret (v := .tuple #[envV (c0, c1, c2, c3) (.slice (some ⟨g, 0, none⟩) ts.length vc) (sd), .int .u32 (0), .int .i64 10]) ?_ rfl ?_
      · exact results_ev_three Try.results8 _ _ R 26 _ _ _ rfl rfl rfl rfl (setRow_heap _ _ _ _ _ _ HRx.out)
      · obtain ⟨z1, z2⟩ := HC8.out.fin (envA (c0, c1, c2, c3) (.slice (some ⟨g, 0, none⟩) ts.length vc) (sd))
        rw [HEq.out]
        exact ⟨_, rfl, z1, z2⟩
    cases Fi
    · go_wp2_with fail
      go_quiet (fail)
      have hb8 : Below m7.heap.size m7 (m7.drewN nq) := below_of_quiet ⟨nq, rfl⟩
      have HC8 := Lib.hid (HC7.out.later hb8)
      clear hb8 HC7 HB7 HE7 HZ7 k0 k1 k2 k3 k4 k5
      generalize hW8 : m7.drewN nq = W8 at *
      clear hW8 a1 a2 a3
      have HEq := Lib.hid (callP_fault (n := 1) (e := ((c0, c1, c2, c3), ts, sd)) HLen.out (by decide) (by rw [HMo.out]; simp))
      have hRx := HC8.out.2.1
      have HRx := Lib.hid hRx
      obtain ⟨y0, y1, y2, y3, y4, y5⟩ := HC8.out.cells
      simp only at y0 y1 y2 y3 y4 y5
      clear hRx
      go_wp2_with (refine wpList_store_row rfl 26 _ _ rfl R _ rfl rfl 26 _ HRx.out (by kernel_rfl) rfl (by simp [Value.oneCell']) ?_)
      refine bodyPost_ret (v := .tuple #[envV (c0, c1, c2, c3) (.slice (some ⟨g, 0, none⟩) ts.length vc) (sd), .int .u32 (0), .int .i64 10]) ?_ rfl ?_
      · exact results_ev_three Try.results8 _ _ R 26 _ _ _ rfl rfl rfl rfl (setRow_heap _ _ _ _ _ _ HRx.out)
      · obtain ⟨z1, z2⟩ := HC8.out.fin (envA (c0, c1, c2, c3) (.slice (some ⟨g, 0, none⟩) ts.length vc) (sd))
        rw [HEq.out]
        exact ⟨_, rfl, z1, z2⟩
    by_cases hw : s2 ≤ z2
    · have dw : decide (s2 ≤ z2) = true := decide_eq_true hw
      have HHw := Lib.hid hw
      clear hw
      go_wp2_with fail
      go_quiet (fail)
      have hb8 : Below m7.heap.size m7 (m7.drewN nq) := below_of_quiet ⟨nq, rfl⟩
      have HC8 := Lib.hid (HC7.out.later hb8)
      clear hb8 HC7 HB7 HE7 HZ7 k0 k1 k2 k3 k4 k5
      generalize hW8 : m7.drewN nq = W8 at *
      clear hW8 a1 a2 a3
      have HEq := Lib.hid (callP_fault (n := 1) (e := ((c0, c1, c2, c3), ts, sd)) HLen.out (by decide) (by rw [HMo.out]; have := HHw.out; rw [HZ2e.out]; simp; omega))
      have hRx := HC8.out.2.1
      have HRx := Lib.hid hRx
      obtain ⟨y0, y1, y2, y3, y4, y5⟩ := HC8.out.cells
      simp only at y0 y1 y2 y3 y4 y5
      clear hRx
      go_wp2_with (refine wpList_store_row rfl 26 _ _ rfl R _ rfl rfl 26 _ HRx.out (by kernel_rfl) rfl (by simp [Value.oneCell']) ?_)
      refine bodyPost_ret (v := .tuple #[envV (c0, c1, c2, c3) (.slice (some ⟨g, 0, none⟩) ts.length vc) (sd), .int .u32 (0), .int .i64 10]) ?_ rfl ?_
      · exact results_ev_three Try.results8 _ _ R 26 _ _ _ rfl rfl rfl rfl (setRow_heap _ _ _ _ _ _ HRx.out)
      · obtain ⟨z1, z2⟩ := HC8.out.fin (envA (c0, c1, c2, c3) (.slice (some ⟨g, 0, none⟩) ts.length vc) (sd))
        rw [HEq.out]
        exact ⟨_, rfl, z1, z2⟩
    have dw : decide (s2 ≤ z2) = false := decide_eq_false hw
    have HHw := Lib.hid hw
    have HMt : Hid (mayOp 1 ts zs = true) := Lib.hid (by rw [HMo.out]; have := HHw.out; rw [HZ2e.out]; simp; omega)
    have HEq := Lib.hid (callP_do (n := 1) (e := ((c0, c1, c2, c3), ts, sd)) HLen.out (by decide) HI.out HMt.out)
    simp only [HE1.out] at HEq
    clear HMt
    go_wp2_with fail
    go_quiet (fail)
    have hb8 : Below m7.heap.size m7 (m7.drewN nq) := below_of_quiet ⟨nq, rfl⟩
    have HC8 := Lib.hid (HC7.out.later hb8)
    have HB8 := Lib.hid (HB7.out.later hb8)
    have HE8 := Lib.hid (HE7.out.below hb8)
    have HZ8 := Lib.hid (HZ7.out.below hb8)
    clear hb8 HC7 HB7 HE7 HZ7 k0 k1 k2 k3 k4 k5 a1 a2 a3 dw hw
    generalize hW8 : m7.drewN nq = W8 at *
    clear hW8
    obtain ⟨_, e2, hxa⟩ := HZ8.out.2.2.2.2.resolve_left (by have := HAn.out; omega)
    cases e2
    obtain ⟨k0, k1, k2, k3, k4, k5⟩ := Box.tb (s := (s0, s1, s2, s3)) HB8.out
    simp only at k0 k1 k2 k3 k4 k5
    have a1 : W8.cell? ⟨xa.block, xa.off + 1, none⟩ = some (.int .u32 z1) := by
      have := hxa 1 (by have := HAn.out; omega)
      rw [HZ1e.out] at this
      exact this
    have a2 : W8.cell? ⟨xa.block, xa.off + 2, none⟩ = some (.int .u32 z2) := by
      have := hxa 2 (by have := HAn.out; omega)
      rw [HZ2e.out] at this
      exact this
    have a3 : W8.cell? ⟨xa.block, xa.off + 3, none⟩ = some (.int .u32 z3) := by
      have := hxa 3 (by have := HAn.out; omega)
      rw [HZ3e.out] at this
      exact this
    have o4 : W8.cell? ⟨O, 4, none⟩ = some (.slice (some ⟨g, 0, none⟩) ts.length vc) := HC8.out.2.2.1.cell rfl
    clear hxa
    have HKp : Hid (∀ w', Below W8.heap.size W8 w' → w'.cell? ⟨T, 0, none⟩ = some (.int .i64 s0) ∧ w'.cell? ⟨T, 1, none⟩ = some (.int .i64 s1) ∧ w'.cell? ⟨T, 2, none⟩ = some (.int .i64 s2) ∧ w'.cell? ⟨T, 3, none⟩ = some (.int .i64 s3) ∧ w'.cell? ⟨T, 4, none⟩ = some (.slice bt lt ct) ∧ w'.cell? ⟨T, 5, none⟩ = some (.int .u32 x) ∧ w'.cell? ⟨xa.block, xa.off + 1, none⟩ = some (.int .u32 z1) ∧ w'.cell? ⟨xa.block, xa.off + 2, none⟩ = some (.int .u32 z2) ∧ w'.cell? ⟨xa.block, xa.off + 3, none⟩ = some (.int .u32 z3)) := Lib.hid (fun w' hb => ⟨(hb.cell (lt_of_cell k0)).trans k0, (hb.cell (lt_of_cell k1)).trans k1, (hb.cell (lt_of_cell k2)).trans k2, (hb.cell (lt_of_cell k3)).trans k3, (hb.cell (lt_of_cell k4)).trans k4, (hb.cell (lt_of_cell k5)).trans k5, (hb.cell (lt_of_cell a1)).trans a1, (hb.cell (lt_of_cell a2)).trans a2, (hb.cell (lt_of_cell a3)).trans a3⟩)
    clear k0 k1 k2 k3 k4 k5 a1 a2 a3 o4
    go_wp2_with fail
    have hnx : isW (setT ((s0, s1, s2, s3), es, x) z1 z2 z3).1.2.2 := set_nw z1 z2 z3 HX.out
    have hop : opP 1 ((s0, s1, s2, s3), es, x) zs = (if (setT ((s0, s1, s2, s3), es, x) z1 z2 z3).2 = 0 then (setT ((s0, s1, s2, s3), es, x) z1 z2 z3).1 else ((s0, s1, s2, s3), es, x), (setT ((s0, s1, s2, s3), es, x) z1 z2 z3).2) := by rw [opP, if_neg (by omega), if_pos rfl, HZ1e.out, HZ2e.out, HZ3e.out]
    have hrg := set_rng ((s0, s1, s2, s3), es, x) z1 z2 z3
    have hcn := fun W (hE : EntsAt W bt lt ct es) => set_any (s0, s1, s2, s3) bt lt ct x es z1 z2 z3 W (hE) HFW.out HZ1w.out HZ2w.out HZ3w.out
    rcases hgt : setT ((s0, s1, s2, s3), es, x) z1 z2 z3 with ⟨⟨⟨r0, r1, r2, r3⟩, res, rx⟩, rv⟩
    rw [hgt] at hcn hnx hop hrg
    simp only at hnx hop hrg
    have HOp := Lib.hid hop
    have HNx := Lib.hid hnx
    obtain ⟨hr0, hr1⟩ := hrg
    clear hop hnx hgt
    refine wp_region_held_drew (S := (fun w' => w'.cell? ⟨T, 0, none⟩ = some (.int .i64 s0) ∧ w'.cell? ⟨T, 1, none⟩ = some (.int .i64 s1) ∧ w'.cell? ⟨T, 2, none⟩ = some (.int .i64 s2) ∧ w'.cell? ⟨T, 3, none⟩ = some (.int .i64 s3) ∧ w'.cell? ⟨T, 4, none⟩ = some (.slice bt lt ct) ∧ w'.cell? ⟨T, 5, none⟩ = some (.int .u32 x) ∧ w'.cell? ⟨xa.block, xa.off + 1, none⟩ = some (.int .u32 z1) ∧ w'.cell? ⟨xa.block, xa.off + 2, none⟩ = some (.int .u32 z2) ∧ w'.cell? ⟨xa.block, xa.off + 3, none⟩ = some (.int .u32 z3))) (by kernel_rfl) (HKp.out _ (Below.refl _ _).drew) (fun hHeld => ?_)
    refine wpAnyH_yield (i := 0) (v := ?v0) rfl rfl (by kernel_rfl) (by kernel_rfl) (by kernel_rfl) (fun _ _ _ h => h) (by rfl) ?hy0 hHeld ?rest0
    case hy0 =>
      intro w hSw
      (try dsimp only at hSw)
      go_simp
      try with_reducible rfl
    simp only [Act.put, List.setIfInBounds_toArray, List.set_cons_zero, List.set_cons_succ]
    refine wpAnyH_yield (i := 1) (v := ?v1) rfl rfl (by kernel_rfl) (by kernel_rfl) (by kernel_rfl) (fun _ _ _ h => h) (by rfl) ?hy1 hHeld ?rest1
    case hy1 =>
      intro w hSw
      (try dsimp only at hSw)
      go_simp
      try with_reducible rfl
    simp only [Act.put, List.setIfInBounds_toArray, List.set_cons_zero, List.set_cons_succ]
    refine wpAnyH_yield (i := 2) (v := ?v2) rfl rfl (by kernel_rfl) (by kernel_rfl) (by kernel_rfl) (fun _ _ _ h => h) (by rfl) ?hy2 hHeld ?rest2
    case hy2 =>
      intro w hSw
      (try dsimp only at hSw)
      go_simp
      try with_reducible rfl
    simp only [Act.put, List.setIfInBounds_toArray, List.set_cons_zero, List.set_cons_succ]
    refine wpAnyH_yield (i := 3) (v := ?v3) rfl rfl (by kernel_rfl) (by kernel_rfl) (by kernel_rfl) (fun _ _ _ h => h) (by rfl) ?hy3 hHeld ?rest3
    case hy3 =>
      intro w hSw
      (try dsimp only at hSw)
      go_simp
      try with_reducible rfl
    simp only [Act.put, List.setIfInBounds_toArray, List.set_cons_zero, List.set_cons_succ]
    refine wpAnyH_yield (i := 4) (v := ?v4) rfl rfl (by kernel_rfl) (by kernel_rfl) (by kernel_rfl) (fun _ _ _ h => h) (by rfl) ?hy4 hHeld ?rest4
    case hy4 =>
      intro w hSw
      (try dsimp only at hSw)
      go_simp
      try with_reducible rfl
    simp only [Act.put, List.setIfInBounds_toArray, List.set_cons_zero, List.set_cons_succ]
    refine wpAnyH_yield (i := 5) (v := ?v5) rfl rfl (by kernel_rfl) (by kernel_rfl) (by kernel_rfl) (fun _ _ _ h => h) (by rfl) ?hy5 hHeld ?rest5
    case hy5 =>
      intro w hSw
      (try dsimp only at hSw)
      go_simp
      try with_reducible rfl
    simp only [Act.put, List.setIfInBounds_toArray, List.set_cons_zero, List.set_cons_succ]
    refine wpAnyH_yield (i := 6) (v := ?v6) rfl rfl (by kernel_rfl) (by kernel_rfl) (by kernel_rfl) (fun _ _ _ h => h) (by rfl) ?hy6 hHeld ?rest6
    case hy6 =>
      intro w hSw
      (try dsimp only at hSw)
      go_simp
      try with_reducible rfl
    simp only [Act.put, List.setIfInBounds_toArray, List.set_cons_zero, List.set_cons_succ]
    refine wpAnyH_yield (i := 7) (v := ?v7) rfl rfl (by kernel_rfl) (by kernel_rfl) (by kernel_rfl) (fun _ _ _ h => h) (by rfl) ?hy7 hHeld ?rest7
    case hy7 =>
      intro w hSw
      (try dsimp only at hSw)
      go_simp
      try with_reducible rfl
    simp only [Act.put, List.setIfInBounds_toArray, List.set_cons_zero, List.set_cons_succ]
    refine wpAnyH_yield (i := 8) (v := ?v8) rfl rfl (by kernel_rfl) (by kernel_rfl) (by kernel_rfl) (fun _ _ _ h => h) (by rfl) ?hy8 hHeld ?rest8
    case hy8 =>
      intro w hSw
      (try dsimp only at hSw)
      go_simp
      try with_reducible rfl
    simp only [Act.put, List.setIfInBounds_toArray, List.set_cons_zero, List.set_cons_succ]
    refine wpAnyH_yield (i := 9) (v := ?v9) rfl rfl (by kernel_rfl) (by kernel_rfl) (by kernel_rfl) (fun _ _ _ h => h) (by rfl) ?hy9 hHeld ?rest9
    case hy9 =>
      intro w hSw
      (try dsimp only at hSw)
      go_simp
      try with_reducible rfl
    simp only [Act.put, List.setIfInBounds_toArray, List.set_cons_zero, List.set_cons_succ]
    refine wpAnyH_ready (rs := [10, 14]) (by kernel_rfl) (by simp) ?_
    refine AllReadyH.cons rfl (fun K hK => ?_) ?_
    · go_simp
      refine (hcn _ (HE8.out.below (Below.refl _ _).drew)).mono ?_
      rintro e m9 ⟨rb, rn, rc, rfl, hb9, hE9⟩
      have HB9 : Hid (Below W8.heap.size W8 m9) := Lib.hid ((Below.refl _ _).drew.trans hb9)
      have HE9 := Lib.hid hE9.lta
      clear hb9 hE9 hcn
      go_wp2_with fail
      refine hK.out _ _ (HKp.out _ HB9.out) (fun hHeld => ?_)
      clear hK K
      try simp only [Act.put, List.setIfInBounds_toArray, List.set_cons_zero, List.set_cons_succ]
      refine wpAnyH_yield (i := 11) (v := ?va11) rfl rfl (by kernel_rfl) (by kernel_rfl) (by kernel_rfl) (fun _ _ _ h => h) (by rfl) ?hya11 hHeld ?resta11
      case hya11 =>
        intro w hSw
        (try dsimp only at hSw)
        go_simp
        try with_reducible rfl
      simp only [Act.put, List.setIfInBounds_toArray, List.set_cons_zero, List.set_cons_succ]
      refine wpAnyH_yield (i := 12) (v := ?va12) rfl rfl (by kernel_rfl) (by kernel_rfl) (by kernel_rfl) (fun _ _ _ h => h) (by rfl) ?hya12 hHeld ?resta12
      case hya12 =>
        intro w hSw
        (try dsimp only at hSw)
        go_simp
        try with_reducible rfl
      simp only [Act.put, List.setIfInBounds_toArray, List.set_cons_zero, List.set_cons_succ]
      refine wpAnyH_yield (i := 13) (v := ?va13) rfl rfl (by kernel_rfl) (by kernel_rfl) (by kernel_rfl) (fun _ _ _ h => h) (by rfl) ?hya13 hHeld ?resta13
      case hya13 =>
        intro w hSw
        (try dsimp only at hSw)
        go_simp
        try with_reducible rfl
      simp only [Act.put, List.setIfInBounds_toArray, List.set_cons_zero, List.set_cons_succ]
      have HBy : Hid (Below W8.heap.size W8 (m9.alloc (.cells #[.int .i64 0, .int .i64 0, .int .i64 0, .int .i64 0, .slice none 0 0, .int .u32 0] 44))) := Lib.hid (HB9.out.alloc HB9.out.size _)
      have HUy : Hid (Box (m9.alloc (.cells #[.int .i64 0, .int .i64 0, .int .i64 0, .int .i64 0, .slice none 0 0, .int .u32 0] 44)) m9.heap.size 44 #[.int .i64 0, .int .i64 0, .int .i64 0, .int .i64 0, .slice none 0 0, .int .u32 0]) := Lib.hid (Box.new _ _ _)
      refine wpAnyH_ready (rs := [14]) (by kernel_rfl) (by simp) ?_
      refine AllReadyH.cons rfl (fun K hK => ?_) AllReadyH.nil
      go_simp
      refine hK.out _ _ (HKp.out _ HBy.out) (fun hHeld => ?_)
      clear hK K
      try simp only [Act.put, List.setIfInBounds_toArray, List.set_cons_zero, List.set_cons_succ]
      have HBxa : Hid (Below W8.heap.size W8 ((m9.alloc (.cells #[.int .i64 0, .int .i64 0, .int .i64 0, .int .i64 0, .slice none 0 0, .int .u32 0] 44)).setRow m9.heap.size #[.int .i64 r0, .int .i64 r1, .int .i64 r2, .int .i64 r3, .slice rb rn rc, .int .u32 rx])) := Lib.hid (below_setRow HBy.out HB9.out.size _)
      have HUxa : Hid (Box ((m9.alloc (.cells #[.int .i64 0, .int .i64 0, .int .i64 0, .int .i64 0, .slice none 0 0, .int .u32 0] 44)).setRow m9.heap.size #[.int .i64 r0, .int .i64 r1, .int .i64 r2, .int .i64 r3, .slice rb rn rc, .int .u32 rx]) m9.heap.size 44 #[.int .i64 r0, .int .i64 r1, .int .i64 r2, .int .i64 r3, .slice rb rn rc, .int .u32 rx]) := Lib.hid (setRow_heap _ _ _ _ _ _ HUy.out)
      have HExa : Hid (EntsIn ((m9.alloc (.cells #[.int .i64 0, .int .i64 0, .int .i64 0, .int .i64 0, .slice none 0 0, .int .u32 0] 44)).setRow m9.heap.size #[.int .i64 r0, .int .i64 r1, .int .i64 r2, .int .i64 r3, .slice rb rn rc, .int .u32 rx]) (fun q => W8.heap.size ≤ q) rb rn rc res) := Lib.hid (((HE9.out.below (belowA m9 (.cells #[.int .i64 0, .int .i64 0, .int .i64 0, .int .i64 0, .slice none 0 0, .int .u32 0] 44))).grown (grownBy_setRow _ _ _) (fun q hq e => by have := Option.some.inj e; have := hq.2; omega)).mono (fun q hq => hq.1))
      refine wpAnyH_ready (rs := [15]) (by kernel_rfl) (by simp) ?_
      refine AllReadyH.cons rfl (fun K hK => ?_) AllReadyH.nil
      refine step_row _ (by rfl) 44 _ _ (by rfl) (by rfl) m9.heap.size #[.int .i64 r0, .int .i64 r1, .int .i64 r2, .int .i64 r3, .slice rb rn rc, .int .u32 rx] (by rfl) (by rfl) 44 _ HUy.out (by kernel_rfl) rfl (by simp [Value.oneCell']) ?_
      refine hK.out _ _ (HKp.out _ HBxa.out) (fun hHeld => ?_)
      clear hK K
      try simp only [Act.put, List.setIfInBounds_toArray, List.set_cons_zero, List.set_cons_succ]
      refine wpAnyH_yield (i := 16) (v := ?va16) rfl rfl (by kernel_rfl) (by kernel_rfl) (by kernel_rfl) (fun _ _ _ h => h) (by rfl) ?hya16 hHeld ?resta16
      case hya16 =>
        intro w hSw
        (try dsimp only at hSw)
        go_simp
        try with_reducible rfl
      simp only [Act.put, List.setIfInBounds_toArray, List.set_cons_zero, List.set_cons_succ]
      refine wpAnyH_done (by kernel_rfl) ?_ _
      clear HB9 HE9 HBy HUy
      have HCx := Lib.hid (HC8.out.later HBxa.out)
      generalize hX : World.setRow (m9.alloc (.cells #[.int .i64 0, .int .i64 0, .int .i64 0, .int .i64 0, .slice none 0 0, .int .u32 0] 44)) m9.heap.size #[.int .i64 r0, .int .i64 r1, .int .i64 r2, .int .i64 r3, .slice rb rn rc, .int .u32 rx] = W9 at *
      generalize hU : m9.heap.size = U at *
      clear hX hU hHeld HKp
      have hrow := HCx.out.at_row (by rw [HTl.out]; omega)
      have HG8 := Lib.hid (HC8.out.at_row (by rw [HTl.out]; omega)).2.2.2.2
      have HO8 := Lib.hid (HC8.out.2.2.1.lt)
      by_cases he : rv = 0
      · subst he
        have HQ : Hid (callP 1 ((c0, c1, c2, c3), ts, sd) zs = (((c0, c1, c2, c3), ts.set i ((r0, r1, r2, r3), res, rx), sd), 0, 0)) := Lib.hid (by rw [HEq.out, HOp.out, if_pos rfl])
        have fr0 := hrow.1 (i * 6)
        have fr1 := hrow.1 (i * 6 + 1)
        have fr2 := hrow.1 (i * 6 + 2)
        have fr3 := hrow.1 (i * 6 + 3)
        have fr4 := hrow.1 (i * 6 + 4)
        have fr5 := hrow.1 (i * 6 + 5)
        have hgi : (i : Int) < (ts.length : Int) := by rw [HTl.out]; omega
        obtain ⟨u0, u1, u2, u3, u4, u5, o0, o1, o2, o3, o4, o5⟩ := HCx.out.olds (k := i) (by rw [HTl.out]; exact hil)
        have v4 : W9.cell? ⟨O, 4, none⟩ = some (.slice (some ⟨g, 0, none⟩) ts.length vc) := HCx.out.2.2.1.cell rfl
        obtain ⟨d0, d1, d2, d3, d4, d5⟩ := Box.tb (s := (r0, r1, r2, r3)) HUxa.out
        simp only at d0 d1 d2 d3 d4 d5
        have HC10 : Hid (Cr w (((((((W9.setCell ⟨g, i * 6, none⟩ (.int .i64 r0)).setCell ⟨g, i * 6 + 1, none⟩ (.int .i64 r1)).setCell ⟨g, i * 6 + 2, none⟩ (.int .i64 r2)).setCell ⟨g, i * 6 + 3, none⟩ (.int .i64 r3)).setCell ⟨g, i * 6 + 4, none⟩ (.slice rb rn rc)).setCell ⟨g, i * 6 + 5, none⟩ (.int .u32 rx))) R O (c0, c1, c2, c3) sd (ts.set i ((r0, r1, r2, r3), res, rx)) (.slice (some ⟨g, 0, none⟩) ts.length vc)) := Lib.hid (HCx.out.put (k := i) (S := W8.heap.size) (by rw [HTl.out]; exact hil) (t := ((r0, r1, r2, r3), res, rx)) HExa.out HO8.out HG8.out HNx.out)
        clear hrow
        go_upto_region 27 with fail
        generalize hW10 : ((((((W9.setCell ⟨g, i * 6, none⟩ (.int .i64 r0)).setCell ⟨g, i * 6 + 1, none⟩ (.int .i64 r1)).setCell ⟨g, i * 6 + 2, none⟩ (.int .i64 r2)).setCell ⟨g, i * 6 + 3, none⟩ (.int .i64 r3)).setCell ⟨g, i * 6 + 4, none⟩ (.slice rb rn rc)).setCell ⟨g, i * 6 + 5, none⟩ (.int .u32 rx)) = W10 at *
        clear hW10 fr0 fr1 fr2 fr3 fr4 fr5 o0 o1 o2 o3 o4 o5 v4 d0 d1 d2 d3 d4 d5 hgi
        have hRx := HC10.out.2.1
        have HRx := Lib.hid hRx
        obtain ⟨y0, y1, y2, y3, y4, y5⟩ := HC10.out.cells
        simp only at y0 y1 y2 y3 y4 y5
        clear hRx
        go_wp2_with (refine wpList_store_row rfl 26 _ _ rfl R _ rfl rfl 26 _ HRx.out (by kernel_rfl) rfl (by simp [Value.oneCell']) ?_)
        refine bodyPost_ret (v := .tuple #[envV (c0, c1, c2, c3) (.slice (some ⟨g, 0, none⟩) ts.length vc) (sd), .int .u32 (0), .int .i64 0]) ?_ rfl ?_
        · exact results_ev_three Try.results8 _ _ R 26 _ _ _ rfl rfl rfl rfl (setRow_heap _ _ _ _ _ _ HRx.out)
        · obtain ⟨z1, z2⟩ := HC10.out.fin (envA (c0, c1, c2, c3) (.slice (some ⟨g, 0, none⟩) ts.length vc) (sd))
          rw [HQ.out]
          exact ⟨_, rfl, z1, z2⟩
      · have HQ : Hid (callP 1 ((c0, c1, c2, c3), ts, sd) zs = (((c0, c1, c2, c3), ts, sd), rv, 0)) := Lib.hid (by
          rw [HEq.out, HOp.out, if_neg he]
          show (((c0, c1, c2, c3), ts.set i ((s0, s1, s2, s3), es, x), sd), rv, (0 : Int)) = _
          rw [set_self ts i _ HE1.out])
        have heB : (rv == 0) = false := by simp; exact he
        have hwr : IntKind.u32.wrap rv = rv := by rw [IntKind.wrap_u32]; omega
        clear hrow he
        have hRx := HCx.out.2.1
        have HRx := Lib.hid hRx
        obtain ⟨y0, y1, y2, y3, y4, y5⟩ := HCx.out.cells
        simp only at y0 y1 y2 y3 y4 y5
        clear hRx
        go_wp2_with (refine wpList_store_row rfl 26 _ _ rfl R _ rfl rfl 26 _ HRx.out (by kernel_rfl) rfl (by simp [Value.oneCell']) ?_)
        refine bodyPost_ret (v := .tuple #[envV (c0, c1, c2, c3) (.slice (some ⟨g, 0, none⟩) ts.length vc) (sd), .int .u32 (rv), .int .i64 0]) ?_ rfl ?_
        · exact results_ev_three Try.results8 _ _ R 26 _ _ _ rfl rfl rfl rfl (setRow_heap _ _ _ _ _ _ HRx.out)
        · obtain ⟨z1, z2⟩ := HCx.out.fin (envA (c0, c1, c2, c3) (.slice (some ⟨g, 0, none⟩) ts.length vc) (sd))
          rw [HQ.out]
          exact ⟨_, rfl, z1, z2⟩
    · have HBz : Hid (Below W8.heap.size W8 (W8.drew.alloc (.cells #[.int .i64 0, .int .i64 0, .int .i64 0, .int .i64 0, .slice none 0 0, .int .u32 0] 44))) := Lib.hid ((Below.refl _ _).drew.alloc (Nat.le_refl _) _)
      have HUz : Hid (Box (W8.drew.alloc (.cells #[.int .i64 0, .int .i64 0, .int .i64 0, .int .i64 0, .slice none 0 0, .int .u32 0] 44)) W8.heap.size 44 #[.int .i64 0, .int .i64 0, .int .i64 0, .int .i64 0, .slice none 0 0, .int .u32 0]) := Lib.hid (Box.new _ _ _)
      refine AllReadyH.cons rfl (fun K hK => ?_) AllReadyH.nil
      go_simp
      refine hK.out _ _ (HKp.out _ HBz.out) (fun hHeld => ?_)
      clear hK K
      try simp only [Act.put, List.setIfInBounds_toArray, List.set_cons_zero, List.set_cons_succ]
      refine wpAnyH_ready (rs := [10]) (by kernel_rfl) (by simp) ?_
      refine AllReadyH.cons rfl (fun K hK => ?_) AllReadyH.nil
      go_simp
      refine (hcn _ (HE8.out.below HBz.out)).mono ?_
      rintro e m9 ⟨rb, rn, rc, rfl, hb9, hE9⟩
      have HB9 : Hid (Below W8.heap.size W8 m9) := Lib.hid (HBz.out.trans (hb9.mono HBz.out.size))
      have HU9 := Lib.hid (HUz.out.later hb9)
      have HE9 := Lib.hid hE9
      clear hb9 hE9 hcn
      go_wp2_with fail
      refine hK.out _ _ (HKp.out _ HB9.out) (fun hHeld => ?_)
      clear hK K
      try simp only [Act.put, List.setIfInBounds_toArray, List.set_cons_zero, List.set_cons_succ]
      refine wpAnyH_yield (i := 11) (v := ?vb11) rfl rfl (by kernel_rfl) (by kernel_rfl) (by kernel_rfl) (fun _ _ _ h => h) (by rfl) ?hyb11 hHeld ?restb11
      case hyb11 =>
        intro w hSw
        (try dsimp only at hSw)
        go_simp
        try with_reducible rfl
      simp only [Act.put, List.setIfInBounds_toArray, List.set_cons_zero, List.set_cons_succ]
      refine wpAnyH_yield (i := 12) (v := ?vb12) rfl rfl (by kernel_rfl) (by kernel_rfl) (by kernel_rfl) (fun _ _ _ h => h) (by rfl) ?hyb12 hHeld ?restb12
      case hyb12 =>
        intro w hSw
        (try dsimp only at hSw)
        go_simp
        try with_reducible rfl
      simp only [Act.put, List.setIfInBounds_toArray, List.set_cons_zero, List.set_cons_succ]
      refine wpAnyH_yield (i := 13) (v := ?vb13) rfl rfl (by kernel_rfl) (by kernel_rfl) (by kernel_rfl) (fun _ _ _ h => h) (by rfl) ?hyb13 hHeld ?restb13
      case hyb13 =>
        intro w hSw
        (try dsimp only at hSw)
        go_simp
        try with_reducible rfl
      simp only [Act.put, List.setIfInBounds_toArray, List.set_cons_zero, List.set_cons_succ]
      have HBxb : Hid (Below W8.heap.size W8 (m9.setRow W8.heap.size #[.int .i64 r0, .int .i64 r1, .int .i64 r2, .int .i64 r3, .slice rb rn rc, .int .u32 rx])) := Lib.hid (below_setRow HB9.out (Nat.le_refl _) _)
      have HUxb : Hid (Box (m9.setRow W8.heap.size #[.int .i64 r0, .int .i64 r1, .int .i64 r2, .int .i64 r3, .slice rb rn rc, .int .u32 rx]) W8.heap.size 44 #[.int .i64 r0, .int .i64 r1, .int .i64 r2, .int .i64 r3, .slice rb rn rc, .int .u32 rx]) := Lib.hid (setRow_heap _ _ _ _ _ _ HU9.out)
      have HExb : Hid (EntsIn (m9.setRow W8.heap.size #[.int .i64 r0, .int .i64 r1, .int .i64 r2, .int .i64 r3, .slice rb rn rc, .int .u32 rx]) (fun q => W8.heap.size ≤ q) rb rn rc res) := Lib.hid ((HE9.out.grown (grownBy_setRow _ _ _) (fun q hq e => by have := Option.some.inj e; simp at hq; omega)).mono (fun q hq => by simp at hq; omega))
      refine wpAnyH_ready (rs := [15]) (by kernel_rfl) (by simp) ?_
      refine AllReadyH.cons rfl (fun K hK => ?_) AllReadyH.nil
      refine step_row _ (by rfl) 44 _ _ (by rfl) (by rfl) W8.heap.size #[.int .i64 r0, .int .i64 r1, .int .i64 r2, .int .i64 r3, .slice rb rn rc, .int .u32 rx] (by rfl) (by rfl) 44 _ HU9.out (by kernel_rfl) rfl (by simp [Value.oneCell']) ?_
      refine hK.out _ _ (HKp.out _ HBxb.out) (fun hHeld => ?_)
      clear hK K
      try simp only [Act.put, List.setIfInBounds_toArray, List.set_cons_zero, List.set_cons_succ]
      refine wpAnyH_yield (i := 16) (v := ?vb16) rfl rfl (by kernel_rfl) (by kernel_rfl) (by kernel_rfl) (fun _ _ _ h => h) (by rfl) ?hyb16 hHeld ?restb16
      case hyb16 =>
        intro w hSw
        (try dsimp only at hSw)
        go_simp
        try with_reducible rfl
      simp only [Act.put, List.setIfInBounds_toArray, List.set_cons_zero, List.set_cons_succ]
      refine wpAnyH_done (by kernel_rfl) ?_ _
      clear HB9 HE9 HU9 HBz HUz
      have HCx := Lib.hid (HC8.out.later HBxb.out)
      generalize hX : World.setRow m9 W8.heap.size #[.int .i64 r0, .int .i64 r1, .int .i64 r2, .int .i64 r3, .slice rb rn rc, .int .u32 rx] = W9 at *
      clear hX hHeld HKp
      have hrow := HCx.out.at_row (by rw [HTl.out]; omega)
      have HG8 := Lib.hid (HC8.out.at_row (by rw [HTl.out]; omega)).2.2.2.2
      have HO8 := Lib.hid (HC8.out.2.2.1.lt)
      by_cases he : rv = 0
      · subst he
        have HQ : Hid (callP 1 ((c0, c1, c2, c3), ts, sd) zs = (((c0, c1, c2, c3), ts.set i ((r0, r1, r2, r3), res, rx), sd), 0, 0)) := Lib.hid (by rw [HEq.out, HOp.out, if_pos rfl])
        have fr0 := hrow.1 (i * 6)
        have fr1 := hrow.1 (i * 6 + 1)
        have fr2 := hrow.1 (i * 6 + 2)
        have fr3 := hrow.1 (i * 6 + 3)
        have fr4 := hrow.1 (i * 6 + 4)
        have fr5 := hrow.1 (i * 6 + 5)
        have hgi : (i : Int) < (ts.length : Int) := by rw [HTl.out]; omega
        obtain ⟨u0, u1, u2, u3, u4, u5, o0, o1, o2, o3, o4, o5⟩ := HCx.out.olds (k := i) (by rw [HTl.out]; exact hil)
        have v4 : W9.cell? ⟨O, 4, none⟩ = some (.slice (some ⟨g, 0, none⟩) ts.length vc) := HCx.out.2.2.1.cell rfl
        obtain ⟨d0, d1, d2, d3, d4, d5⟩ := Box.tb (s := (r0, r1, r2, r3)) HUxb.out
        simp only at d0 d1 d2 d3 d4 d5
        have HC10 : Hid (Cr w (((((((W9.setCell ⟨g, i * 6, none⟩ (.int .i64 r0)).setCell ⟨g, i * 6 + 1, none⟩ (.int .i64 r1)).setCell ⟨g, i * 6 + 2, none⟩ (.int .i64 r2)).setCell ⟨g, i * 6 + 3, none⟩ (.int .i64 r3)).setCell ⟨g, i * 6 + 4, none⟩ (.slice rb rn rc)).setCell ⟨g, i * 6 + 5, none⟩ (.int .u32 rx))) R O (c0, c1, c2, c3) sd (ts.set i ((r0, r1, r2, r3), res, rx)) (.slice (some ⟨g, 0, none⟩) ts.length vc)) := Lib.hid (HCx.out.put (k := i) (S := W8.heap.size) (by rw [HTl.out]; exact hil) (t := ((r0, r1, r2, r3), res, rx)) HExb.out HO8.out HG8.out HNx.out)
        clear hrow
        go_upto_region 27 with fail
        generalize hW10 : ((((((W9.setCell ⟨g, i * 6, none⟩ (.int .i64 r0)).setCell ⟨g, i * 6 + 1, none⟩ (.int .i64 r1)).setCell ⟨g, i * 6 + 2, none⟩ (.int .i64 r2)).setCell ⟨g, i * 6 + 3, none⟩ (.int .i64 r3)).setCell ⟨g, i * 6 + 4, none⟩ (.slice rb rn rc)).setCell ⟨g, i * 6 + 5, none⟩ (.int .u32 rx)) = W10 at *
        clear hW10 fr0 fr1 fr2 fr3 fr4 fr5 o0 o1 o2 o3 o4 o5 v4 d0 d1 d2 d3 d4 d5 hgi
        have hRx := HC10.out.2.1
        have HRx := Lib.hid hRx
        obtain ⟨y0, y1, y2, y3, y4, y5⟩ := HC10.out.cells
        simp only at y0 y1 y2 y3 y4 y5
        clear hRx
        go_wp2_with (refine wpList_store_row rfl 26 _ _ rfl R _ rfl rfl 26 _ HRx.out (by kernel_rfl) rfl (by simp [Value.oneCell']) ?_)
        refine bodyPost_ret (v := .tuple #[envV (c0, c1, c2, c3) (.slice (some ⟨g, 0, none⟩) ts.length vc) (sd), .int .u32 (0), .int .i64 0]) ?_ rfl ?_
        · exact results_ev_three Try.results8 _ _ R 26 _ _ _ rfl rfl rfl rfl (setRow_heap _ _ _ _ _ _ HRx.out)
        · obtain ⟨z1, z2⟩ := HC10.out.fin (envA (c0, c1, c2, c3) (.slice (some ⟨g, 0, none⟩) ts.length vc) (sd))
          rw [HQ.out]
          exact ⟨_, rfl, z1, z2⟩
      · have HQ : Hid (callP 1 ((c0, c1, c2, c3), ts, sd) zs = (((c0, c1, c2, c3), ts, sd), rv, 0)) := Lib.hid (by
          rw [HEq.out, HOp.out, if_neg he]
          show (((c0, c1, c2, c3), ts.set i ((s0, s1, s2, s3), es, x), sd), rv, (0 : Int)) = _
          rw [set_self ts i _ HE1.out])
        have heB : (rv == 0) = false := by simp; exact he
        have hwr : IntKind.u32.wrap rv = rv := by rw [IntKind.wrap_u32]; omega
        clear hrow he
        have hRx := HCx.out.2.1
        have HRx := Lib.hid hRx
        obtain ⟨y0, y1, y2, y3, y4, y5⟩ := HCx.out.cells
        simp only at y0 y1 y2 y3 y4 y5
        clear hRx
        go_wp2_with (refine wpList_store_row rfl 26 _ _ rfl R _ rfl rfl 26 _ HRx.out (by kernel_rfl) rfl (by simp [Value.oneCell']) ?_)
        refine bodyPost_ret (v := .tuple #[envV (c0, c1, c2, c3) (.slice (some ⟨g, 0, none⟩) ts.length vc) (sd), .int .u32 (rv), .int .i64 0]) ?_ rfl ?_
        · exact results_ev_three Try.results8 _ _ R 26 _ _ _ rfl rfl rfl rfl (setRow_heap _ _ _ _ _ _ HRx.out)
        · obtain ⟨z1, z2⟩ := HCx.out.fin (envA (c0, c1, c2, c3) (.slice (some ⟨g, 0, none⟩) ts.length vc) (sd))
          rw [HQ.out]
          exact ⟨_, rfl, z1, z2⟩
  · have hlI : (len : Int) ≤ (i : Int) := by omega
    go_quiet (fail)
    have hb4 : Below W3.heap.size W3 (W3.drewN nq) := below_of_quiet ⟨nq, rfl⟩
    have HC4 := Lib.hid (HC3r.out.later hb4)
    clear hb4 a0 p4 HC3r HP3r HZ3r HT3r
    generalize hW4 : W3.drewN nq = W4 at *
    clear hW4
    have HEq := Lib.hid (callP_fault (n := 1) (e := ((c0, c1, c2, c3), ts, sd)) HLen.out (by decide) (mayOp_far HI.out (by rw [HTl.out]; exact hil)))
    have hRx := HC4.out.2.1
    have HRx := Lib.hid hRx
    obtain ⟨y0, y1, y2, y3, y4, y5⟩ := HC4.out.cells
    simp only at y0 y1 y2 y3 y4 y5
    clear hRx
    go_wp2_with (refine wpList_store_row rfl 26 _ _ rfl R _ rfl rfl 26 _ HRx.out (by kernel_rfl) rfl (by simp [Value.oneCell']) ?_)
    refine bodyPost_ret (v := .tuple #[envV (c0, c1, c2, c3) (.slice vb ts.length vc) (sd), .int .u32 (0), .int .i64 10]) ?_ rfl ?_
    · exact results_ev_three Try.results8 _ _ R 26 _ _ _ rfl rfl rfl rfl (setRow_heap _ _ _ _ _ _ HRx.out)
    · obtain ⟨z1, z2⟩ := HC4.out.fin (envA (c0, c1, c2, c3) (.slice vb ts.length vc) (sd))
      rw [HEq.out]
      exact ⟨_, rfl, z1, z2⟩
end Go.Proofs.Ytmlmdhnjafakiaa

/-
  What the sixth reference's Call returns at helper 5, as a contract over the translated program.
-/
namespace Go.Proofs.Ytmlmdhnjafakiaa
open Go Go.RowKit
set_option linter.unusedVariables false
set_option maxRecDepth 100000 in
set_option maxHeartbeats 40000000 in
theorem rc5_any (c : Cx) (a : Option Addr) (len cap : Nat) (sd : Int) (ts : List Tb) (ab : Option Addr) (an ap : Nat) (zs : List Int) (w : World) (h : TabsAt w a len cap ts) (hf : fewL ts) (hs : isW sd) (hz : WordsAt w ab an ap zs) (hlen0 : (zs.length : Int) = argsP 5) : Calls Try.prog 8 #[.int .i64 5, envV c (.slice a len cap) sd, .slice ab an ap] w (RcPost (callP 5 (c, ts, sd) zs) w) := by
  rcases c with ⟨c0, c1, c2, c3⟩
  have hlm := hz.max
  have HFL := Lib.hid hf
  have HS := Lib.hid hs
  have HZl := Lib.hid hz.1
  obtain ⟨W0, hW0⟩ : ∃ W0, (w.alloc (.cells #[.int .u32 c0, .int .u32 c1, .int .u32 c2, .int .u32 c3, .slice a len cap, .int .u32 sd] 26)).alloc (.cells #[.int .u32 0, .int .u32 0, .int .u32 0, .int .u32 0, .slice none 0 0, .int .u32 0] 26) = W0 := ⟨_, rfl⟩
  have hs0 : W0.heap.size = w.heap.size + 1 + 1 := by rw [← hW0]; simp
  have hb0 : Below w.heap.size w W0 := by rw [← hW0]; exact box2 (Below.refl _ _) (Nat.le_refl _) _ _
  have HP : Hid (Box W0 w.heap.size 26 #[.int .u32 c0, .int .u32 c1, .int .u32 c2, .int .u32 c3, .slice a len cap, .int .u32 sd]) := by rw [← hW0]; exact Lib.hid ((Box.new w 26 _).alloc _)
  have HR : Hid (Box W0 (w.heap.size + 1) 26 #[.int .u32 0, .int .u32 0, .int .u32 0, .int .u32 0, .slice none 0 0, .int .u32 0]) := by
    rw [← hW0]
    have := Box.new (w.alloc (.cells #[.int .u32 c0, .int .u32 c1, .int .u32 c2, .int .u32 c3, .slice a len cap, .int .u32 sd] 26)) 26 #[.int .u32 0, .int .u32 0, .int .u32 0, .int .u32 0, .slice none 0 0, .int .u32 0]
    rw [show (w.alloc (.cells #[.int .u32 c0, .int .u32 c1, .int .u32 c2, .int .u32 c3, .slice a len cap, .int .u32 sd] 26)).heap.size = w.heap.size + 1 by simp] at this
    exact Lib.hid this
  have HT0 := Lib.hid (h.below hb0)
  have HZ0 := Lib.hid (hz.below hb0)
  have HZw := Lib.hid hz
  have HB0 := Lib.hid hb0
  clear h hz hf hs
  have HLen := Lib.hid hlen0
  rw [show argsP 5 = 2 from by decide] at hlen0
  have HAn : Hid ((an : Int) = 2) := Lib.hid (by rw [← hlen0, HZl.out])
  have HWz := Lib.hid (HZ0.out.2.2.2.1)
  obtain ⟨i, hi⟩ : ∃ i : Nat, zs.getD 0 0 = (i : Int) := ⟨(zs.getD 0 0).toNat, by have := (wordL_getD HWz.out 0).1; omega⟩
  have HI := Lib.hid hi
  have hi32 : (i : Int) ≤ 4294967295 := by rw [← hi]; exact (wordL_getD HWz.out 0).2
  obtain ⟨z1, hz1⟩ : ∃ z1, zs.getD 1 0 = z1 := ⟨_, rfl⟩
  have HZ1w : Hid (isW z1) := Lib.hid (by rw [← hz1]; exact wordL_getD HWz.out 1)
  have HZ1e := Lib.hid hz1
  clear hi hz1
  obtain ⟨ar, har⟩ : ∃ ar : Int, ar = 2 := ⟨_, rfl⟩
  have hlen : (an : Int) = ar := by rw [har]; have := HZl.out; omega
  have hla : ((an : Int) != ar) = false := by simp [hlen]
  have har0 : decide (ar < 0) = false := decide_eq_false (by omega)
  have ca := fun W => rargs_any 5 W
  rw [show argsP 5 = ar from by rw [har]; decide] at ca
  obtain ⟨R, hR⟩ : ∃ R, w.heap.size + 1 = R := ⟨_, rfl⟩
  rw [hR] at HR
  have hRw : w.heap.size < R := by omega
  have hRs : R < W0.heap.size := HR.out.lt
  clear har hlen
  go_enter Try.func8, Try.ntmps8
  go_wp2_with fail
  clear hW0 hs0 hR
  refine (ca _).mono ?_
  rintro e m1 ⟨rfl, hb1⟩
  go_wp2_with fail
  refine (ca _).mono ?_
  rintro e m2 ⟨rfl, hb2⟩
  have hb12 := hb1.trans (hb2.mono hb1.size)
  have HP2 := Lib.hid (HP.out.later hb12)
  have HR2 := Lib.hid (HR.out.later hb12)
  have HB2 := Lib.hid (HB0.out.trans (hb12.mono HB0.out.size))
  have HT2 := Lib.hid (HT0.out.below hb12)
  have HZ2 := Lib.hid (HZ0.out.below hb12)
  clear hb1 hb2 hb12 ca HP HR HB0 HT0 HZ0 hb0 hRs
  have k0 : m2.cell? ⟨w.heap.size, 0, none⟩ = some (.int .u32 c0) := HP2.out.cell rfl
  have k1 : m2.cell? ⟨w.heap.size, 1, none⟩ = some (.int .u32 c1) := HP2.out.cell rfl
  have k2 : m2.cell? ⟨w.heap.size, 2, none⟩ = some (.int .u32 c2) := HP2.out.cell rfl
  have k3 : m2.cell? ⟨w.heap.size, 3, none⟩ = some (.int .u32 c3) := HP2.out.cell rfl
  have k4 : m2.cell? ⟨w.heap.size, 4, none⟩ = some (.slice a len cap) := HP2.out.cell rfl
  have k5 : m2.cell? ⟨w.heap.size, 5, none⟩ = some (.int .u32 sd) := HP2.out.cell rfl
  go_wp2_with fail
  refine (eown_any (c0, c1, c2, c3) a len cap sd ts m2 HT2.out HFL.out).mono ?_
  rintro e m3 ⟨V, rfl, hb3, hT3⟩
  clear k0 k1 k2 k3 k4 k5 hla har0
  obtain ⟨vb, vc, rfl, _⟩ := hT3.at
  have HC3r : Hid (Cr w (m3.alloc (.cells (envA (c0, c1, c2, c3) (.slice vb ts.length vc) sd) 26)) R m3.heap.size (c0, c1, c2, c3) sd ts (.slice vb ts.length vc)) :=
    Lib.hid (Cr.new (HB2.out.trans (hb3.mono HB2.out.size)) (HR2.out.later hb3) (by omega) HR2.out.lt hT3)
  have HP3r := Lib.hid ((HP2.out.later hb3).alloc (.cells (envA (c0, c1, c2, c3) (.slice vb ts.length vc) sd) 26))
  have hb3a := hb3.trans (belowA m3 (.cells (envA (c0, c1, c2, c3) (.slice vb ts.length vc) sd) 26) |>.mono hb3.size)
  have HZ3r := Lib.hid (HZ2.out.below hb3a)
  have HT3r := Lib.hid (HT2.out.below hb3a)
  clear hb3 hb3a hT3 HP2 HR2 HB2 HT2 HZ2
  go_wp2_with fail
  generalize hW3 : m3.alloc (.cells #[.int .u32 c0, .int .u32 c1, .int .u32 c2, .int .u32 c3, .slice vb ts.length vc, .int .u32 sd] 26) = W3 at *
  generalize hO : m3.heap.size = O at *
  clear hW3 hO
  obtain ⟨xa, rfl, hxa⟩ := HZ3r.out.2.2.2.2.resolve_left (by have := HAn.out; omega)
  have a0 : W3.cell? xa = some (.int .u32 (i : Int)) := by
    have := hxa 0 (by have := HAn.out; omega)
    rw [HI.out] at this
    exact this
  have hxl : xa.block < w.heap.size := by
    obtain ⟨x2, e2, hx2⟩ := HZw.out.2.2.2.2.resolve_left (by have := HAn.out; omega)
    cases e2
    exact lt_of_cell (hx2 0 (by have := HAn.out; omega))
  have p4 : W3.cell? ⟨w.heap.size, 4, none⟩ = some (.slice a len cap) := HP3r.out.cell rfl
  have hanI : (0 : Int) < (an : Int) := by have := HAn.out; omega
  have HXL := Lib.hid hxl
  have hlm2 := HT3r.out.max
  clear hxa hxl
  have HTl := Lib.hid HT3r.out.1
  by_cases hil : i < len
  · have hlI : ¬ (len : Int) ≤ (i : Int) := by omega
    have hilI : (i : Int) < (len : Int) := by omega
    go_quiet (fail)
    have hb4 : Below W3.heap.size W3 (W3.drewN nq) := below_of_quiet ⟨nq, rfl⟩
    have HC4 := Lib.hid (HC3r.out.later hb4)
    have HP4 := Lib.hid (HP3r.out.later hb4)
    have HZ4 := Lib.hid (HZ3r.out.below hb4)
    have HT4 := Lib.hid (HT3r.out.below hb4)
    clear hb4 a0 p4 HC3r HP3r HZ3r HT3r
    generalize hW4 : W3.drewN nq = W4 at *
    clear hW4
    obtain ⟨_, e2, hxa⟩ := HZ4.out.2.2.2.2.resolve_left (by have := HAn.out; omega)
    cases e2
    have a0 : W4.cell? xa = some (.int .u32 (i : Int)) := by
      have := hxa 0 (by have := HAn.out; omega)
      rw [HI.out] at this
      exact this
    have p4 : W4.cell? ⟨w.heap.size, 4, none⟩ = some (.slice a len cap) := HP4.out.cell rfl
    obtain ⟨y, rfl, hy⟩ := HT4.out.2.2.2.resolve_left (by omega)
    have t1 := hy i hil
    rcases e1 : ts.getD i zeroT with ⟨⟨s0, s1, s2, s3⟩, es, x⟩
    rw [e1] at t1
    have HE1 := Lib.hid e1
    have hfw := HFL.out.2 _ (getD_mem ts i zeroT (by rw [HTl.out]; exact hil))
    rw [e1] at hfw
    have HFW := Lib.hid hfw
    obtain ⟨q0, q1, q2, q3, ⟨bt, lt, ct, q4, hE1⟩, q5, hx1⟩ := t1
    simp only at q0 q1 q2 q3 q4 q5 hE1 hx1
    have HX := Lib.hid hx1
    have hb5 : Below W4.heap.size W4 (W4.alloc (.cells #[.int .i64 s0, .int .i64 s1, .int .i64 s2, .int .i64 s3, .slice bt lt ct, .int .u32 x] 44)) := (Below.refl _ _).alloc (Nat.le_refl _) _
    have HE5 := Lib.hid (hE1.below hb5)
    have HC5 := Lib.hid (HC4.out.later hb5)
    have HB5 := Lib.hid (Box.new W4 44 #[.int .i64 s0, .int .i64 s1, .int .i64 s2, .int .i64 s3, .slice bt lt ct, .int .u32 x])
    have HZ5 := Lib.hid (HZ4.out.below hb5)
    have HOT : Hid (O < W4.heap.size) := Lib.hid (HC4.out.2.2.1.lt)
    obtain ⟨g, cap1, hV, _, hcap1, hRg, hgO, hgl⟩ := HC4.out.row (by rw [HTl.out]; omega)
    simp only [Value.slice.injEq, true_and] at hV
    obtain ⟨rfl, rfl⟩ := hV
    have HG := Lib.hid (And.intro hRg (And.intro hgO hgl))
    have HCap := Lib.hid hcap1
    obtain ⟨k0, k1, k2, k3, k4, k5⟩ := Box.tb (s := (s0, s1, s2, s3)) HB5.out
    simp only at k0 k1 k2 k3 k4 k5
    clear hy e1 hE1 hx1 hb5 hfw hRg hgO hgl hcap1 hxa HC4 HP4 HZ4 HT4
    go_wp2_with fail
    generalize hW5 : W4.alloc (.cells #[.int .i64 s0, .int .i64 s1, .int .i64 s2, .int .i64 s3, .slice bt lt ct, .int .u32 x] 44) = W5 at *
    generalize hT5 : W4.heap.size = T at *
    clear hW5 hT5 a0 p4 q0 q1 q2 q3 q4 q5 k0 k1 k2 k3 k4 k5
    refine (mayTb_any (s0, s1, s2, s3) bt lt ct x es W5 HE5.out).mono ?_
    rintro e m6 ⟨rfl, hb6⟩
    have HC6 := Lib.hid (HC5.out.later hb6)
    have HB6 := Lib.hid (HB5.out.later hb6)
    have HE6 := Lib.hid (HE5.out.below hb6)
    have HZ6 := Lib.hid (HZ5.out.below hb6)
    clear hb6 HC5 HB5 HE5 HZ5
    obtain ⟨k0, k1, k2, k3, k4, k5⟩ := Box.tb (s := (s0, s1, s2, s3)) HB6.out
    simp only at k0 k1 k2 k3 k4 k5
    obtain ⟨M, hM⟩ : ∃ M, mayTb ((s0, s1, s2, s3), es, x) = M := ⟨_, rfl⟩
    rw [hM]
    have HM := Lib.hid hM
    clear hM
    go_wp2_with fail
    refine (rfits_any 5 s0 s1 s2 s3 m6).mono ?_
    rintro e m7 ⟨rfl, hb7⟩
    have HC7 := Lib.hid (HC6.out.later hb7)
    have HB7 := Lib.hid (HB6.out.later hb7)
    have HE7 := Lib.hid (HE6.out.below hb7)
    have HZ7 := Lib.hid (HZ6.out.below hb7)
    clear hb7 HC6 HB6 HE6 HZ6 k0 k1 k2 k3 k4 k5
    obtain ⟨Fi, hFi⟩ : ∃ Fi, fitsP 5 (s0, s1, s2, s3) = Fi := ⟨_, rfl⟩
    rw [hFi]
    have HFi := Lib.hid hFi
    clear hFi
    obtain ⟨k0, k1, k2, k3, k4, k5⟩ := Box.tb (s := (s0, s1, s2, s3)) HB7.out
    simp only at k0 k1 k2 k3 k4 k5
    have hmo := mayOp_in (n := 5) HI.out (by rw [HTl.out]; exact hil) HE1.out
    simp only [HM.out, HFi.out] at hmo
    have HMo := Lib.hid hmo
    clear hmo
    obtain ⟨_, e2, hxa⟩ := HZ7.out.2.2.2.2.resolve_left (by have := HAn.out; omega)
    cases e2
    have a1 : m7.cell? ⟨xa.block, xa.off + 1, none⟩ = some (.int .u32 z1) := by
      have := hxa 1 (by have := HAn.out; omega)
      rw [HZ1e.out] at this
      exact this
    have han1 : (1 : Int) < (an : Int) := by have := HAn.out; omega
    clear hxa
    cases M
    · go_wp2_with fail
      go_quiet (fail)
      have hb8 : Below m7.heap.size m7 (m7.drewN nq) := below_of_quiet ⟨nq, rfl⟩
      have HC8 := Lib.hid (HC7.out.later hb8)
      clear hb8 HC7 HB7 HE7 HZ7 k0 k1 k2 k3 k4 k5
      generalize hW8 : m7.drewN nq = W8 at *
      clear hW8 a1
      have HEq := Lib.hid (callP_fault (n := 5) (e := ((c0, c1, c2, c3), ts, sd)) HLen.out (by decide) (by rw [HMo.out]; simp))
      have hRx := HC8.out.2.1
      have HRx := Lib.hid hRx
      obtain ⟨y0, y1, y2, y3, y4, y5⟩ := HC8.out.cells
      simp only at y0 y1 y2 y3 y4 y5
      clear hRx
      go_wp2_with (refine wpList_store_row rfl 26 _ _ rfl R _ rfl rfl 26 _ HRx.out (by kernel_rfl) rfl (by simp [Value.oneCell']) ?_)
      refine bodyPost_ret (v := .tuple #[envV (c0, c1, c2, c3) (.slice (some ⟨g, 0, none⟩) ts.length vc) (sd), .int .u32 (0), .int .i64 10]) ?_ rfl ?_
      · exact results_ev_three Try.results8 _ _ R 26 _ _ _ rfl rfl rfl rfl (setRow_heap _ _ _ _ _ _ HRx.out)
      · obtain ⟨z1, z2⟩ := HC8.out.fin (envA (c0, c1, c2, c3) (.slice (some ⟨g, 0, none⟩) ts.length vc) (sd))
        rw [HEq.out]
        exact ⟨_, rfl, z1, z2⟩
    cases Fi
    · go_wp2_with fail
      go_quiet (fail)
      have hb8 : Below m7.heap.size m7 (m7.drewN nq) := below_of_quiet ⟨nq, rfl⟩
      have HC8 := Lib.hid (HC7.out.later hb8)
      clear hb8 HC7 HB7 HE7 HZ7 k0 k1 k2 k3 k4 k5
      generalize hW8 : m7.drewN nq = W8 at *
      clear hW8 a1
      have HEq := Lib.hid (callP_fault (n := 5) (e := ((c0, c1, c2, c3), ts, sd)) HLen.out (by decide) (by rw [HMo.out]; simp))
      have hRx := HC8.out.2.1
      have HRx := Lib.hid hRx
      obtain ⟨y0, y1, y2, y3, y4, y5⟩ := HC8.out.cells
      simp only at y0 y1 y2 y3 y4 y5
      clear hRx
      go_wp2_with (refine wpList_store_row rfl 26 _ _ rfl R _ rfl rfl 26 _ HRx.out (by kernel_rfl) rfl (by simp [Value.oneCell']) ?_)
      refine bodyPost_ret (v := .tuple #[envV (c0, c1, c2, c3) (.slice (some ⟨g, 0, none⟩) ts.length vc) (sd), .int .u32 (0), .int .i64 10]) ?_ rfl ?_
      · exact results_ev_three Try.results8 _ _ R 26 _ _ _ rfl rfl rfl rfl (setRow_heap _ _ _ _ _ _ HRx.out)
      · obtain ⟨z1, z2⟩ := HC8.out.fin (envA (c0, c1, c2, c3) (.slice (some ⟨g, 0, none⟩) ts.length vc) (sd))
        rw [HEq.out]
        exact ⟨_, rfl, z1, z2⟩
    have HMt : Hid (mayOp 5 ts zs = true) := Lib.hid (by rw [HMo.out]; simp)
    have HEq := Lib.hid (callP_do (n := 5) (e := ((c0, c1, c2, c3), ts, sd)) HLen.out (by decide) HI.out HMt.out)
    simp only [HE1.out] at HEq
    clear HMt
    go_wp2_with fail
    go_quiet (fail)
    have hb8 : Below m7.heap.size m7 (m7.drewN nq) := below_of_quiet ⟨nq, rfl⟩
    have HC8 := Lib.hid (HC7.out.later hb8)
    have HB8 := Lib.hid (HB7.out.later hb8)
    have HE8 := Lib.hid (HE7.out.below hb8)
    have HZ8 := Lib.hid (HZ7.out.below hb8)
    clear hb8 HC7 HB7 HE7 HZ7 k0 k1 k2 k3 k4 k5 a1 
    generalize hW8 : m7.drewN nq = W8 at *
    clear hW8
    obtain ⟨_, e2, hxa⟩ := HZ8.out.2.2.2.2.resolve_left (by have := HAn.out; omega)
    cases e2
    obtain ⟨k0, k1, k2, k3, k4, k5⟩ := Box.tb (s := (s0, s1, s2, s3)) HB8.out
    simp only at k0 k1 k2 k3 k4 k5
    have a1 : W8.cell? ⟨xa.block, xa.off + 1, none⟩ = some (.int .u32 z1) := by
      have := hxa 1 (by have := HAn.out; omega)
      rw [HZ1e.out] at this
      exact this
    have o4 : W8.cell? ⟨O, 4, none⟩ = some (.slice (some ⟨g, 0, none⟩) ts.length vc) := HC8.out.2.2.1.cell rfl
    clear hxa
    have HKp : Hid (∀ w', Below W8.heap.size W8 w' → w'.cell? ⟨T, 0, none⟩ = some (.int .i64 s0) ∧ w'.cell? ⟨T, 1, none⟩ = some (.int .i64 s1) ∧ w'.cell? ⟨T, 2, none⟩ = some (.int .i64 s2) ∧ w'.cell? ⟨T, 3, none⟩ = some (.int .i64 s3) ∧ w'.cell? ⟨T, 4, none⟩ = some (.slice bt lt ct) ∧ w'.cell? ⟨T, 5, none⟩ = some (.int .u32 x) ∧ w'.cell? ⟨xa.block, xa.off + 1, none⟩ = some (.int .u32 z1)) := Lib.hid (fun w' hb => ⟨(hb.cell (lt_of_cell k0)).trans k0, (hb.cell (lt_of_cell k1)).trans k1, (hb.cell (lt_of_cell k2)).trans k2, (hb.cell (lt_of_cell k3)).trans k3, (hb.cell (lt_of_cell k4)).trans k4, (hb.cell (lt_of_cell k5)).trans k5, (hb.cell (lt_of_cell a1)).trans a1⟩)
    clear k0 k1 k2 k3 k4 k5 a1 o4
    go_wp2_with fail
    have hnx : isW (pushT ((s0, s1, s2, s3), es, x) z1).1.2.2 := push_nw z1 HX.out
    have hop : opP 5 ((s0, s1, s2, s3), es, x) zs = (if (pushT ((s0, s1, s2, s3), es, x) z1).2 = 0 then (pushT ((s0, s1, s2, s3), es, x) z1).1 else ((s0, s1, s2, s3), es, x), (pushT ((s0, s1, s2, s3), es, x) z1).2) := by rw [opP, if_neg (by omega), if_neg (by omega), if_neg (by omega), if_neg (by omega), HZ1e.out]
    have hrg := push_rng ((s0, s1, s2, s3), es, x) z1
    have hcn := fun W (hE : EntsAt W bt lt ct es) => push_any (s0, s1, s2, s3) bt lt ct x es z1 W (hE) HFW.out HX.out HZ1w.out
    rcases hgt : pushT ((s0, s1, s2, s3), es, x) z1 with ⟨⟨⟨r0, r1, r2, r3⟩, res, rx⟩, rv⟩
    rw [hgt] at hcn hnx hop hrg
    simp only at hnx hop hrg
    have HOp := Lib.hid hop
    have HNx := Lib.hid hnx
    obtain ⟨hr0, hr1⟩ := hrg
    clear hop hnx hgt
    refine wp_region_held_drew (S := (fun w' => w'.cell? ⟨T, 0, none⟩ = some (.int .i64 s0) ∧ w'.cell? ⟨T, 1, none⟩ = some (.int .i64 s1) ∧ w'.cell? ⟨T, 2, none⟩ = some (.int .i64 s2) ∧ w'.cell? ⟨T, 3, none⟩ = some (.int .i64 s3) ∧ w'.cell? ⟨T, 4, none⟩ = some (.slice bt lt ct) ∧ w'.cell? ⟨T, 5, none⟩ = some (.int .u32 x) ∧ w'.cell? ⟨xa.block, xa.off + 1, none⟩ = some (.int .u32 z1))) (by kernel_rfl) (HKp.out _ (Below.refl _ _).drew) (fun hHeld => ?_)
    refine wpAnyH_yield (i := 0) (v := ?v0) rfl rfl (by kernel_rfl) (by kernel_rfl) (by kernel_rfl) (fun _ _ _ h => h) (by rfl) ?hy0 hHeld ?rest0
    case hy0 =>
      intro w hSw
      (try dsimp only at hSw)
      go_simp
      try with_reducible rfl
    simp only [Act.put, List.setIfInBounds_toArray, List.set_cons_zero, List.set_cons_succ]
    refine wpAnyH_yield (i := 1) (v := ?v1) rfl rfl (by kernel_rfl) (by kernel_rfl) (by kernel_rfl) (fun _ _ _ h => h) (by rfl) ?hy1 hHeld ?rest1
    case hy1 =>
      intro w hSw
      (try dsimp only at hSw)
      go_simp
      try with_reducible rfl
    simp only [Act.put, List.setIfInBounds_toArray, List.set_cons_zero, List.set_cons_succ]
    refine wpAnyH_yield (i := 2) (v := ?v2) rfl rfl (by kernel_rfl) (by kernel_rfl) (by kernel_rfl) (fun _ _ _ h => h) (by rfl) ?hy2 hHeld ?rest2
    case hy2 =>
      intro w hSw
      (try dsimp only at hSw)
      go_simp
      try with_reducible rfl
    simp only [Act.put, List.setIfInBounds_toArray, List.set_cons_zero, List.set_cons_succ]
    refine wpAnyH_yield (i := 3) (v := ?v3) rfl rfl (by kernel_rfl) (by kernel_rfl) (by kernel_rfl) (fun _ _ _ h => h) (by rfl) ?hy3 hHeld ?rest3
    case hy3 =>
      intro w hSw
      (try dsimp only at hSw)
      go_simp
      try with_reducible rfl
    simp only [Act.put, List.setIfInBounds_toArray, List.set_cons_zero, List.set_cons_succ]
    refine wpAnyH_ready (rs := [4, 8]) (by kernel_rfl) (by simp) ?_
    refine AllReadyH.cons rfl (fun K hK => ?_) ?_
    · go_simp
      refine (hcn _ (HE8.out.below (Below.refl _ _).drew)).mono ?_
      rintro e m9 ⟨rb, rn, rc, rfl, hb9, hE9⟩
      have HB9 : Hid (Below W8.heap.size W8 m9) := Lib.hid ((Below.refl _ _).drew.trans hb9)
      have HE9 := Lib.hid hE9.lta
      clear hb9 hE9 hcn
      go_wp2_with fail
      refine hK.out _ _ (HKp.out _ HB9.out) (fun hHeld => ?_)
      clear hK K
      try simp only [Act.put, List.setIfInBounds_toArray, List.set_cons_zero, List.set_cons_succ]
      refine wpAnyH_yield (i := 5) (v := ?va5) rfl rfl (by kernel_rfl) (by kernel_rfl) (by kernel_rfl) (fun _ _ _ h => h) (by rfl) ?hya5 hHeld ?resta5
      case hya5 =>
        intro w hSw
        (try dsimp only at hSw)
        go_simp
        try with_reducible rfl
      simp only [Act.put, List.setIfInBounds_toArray, List.set_cons_zero, List.set_cons_succ]
      refine wpAnyH_yield (i := 6) (v := ?va6) rfl rfl (by kernel_rfl) (by kernel_rfl) (by kernel_rfl) (fun _ _ _ h => h) (by rfl) ?hya6 hHeld ?resta6
      case hya6 =>
        intro w hSw
        (try dsimp only at hSw)
        go_simp
        try with_reducible rfl
      simp only [Act.put, List.setIfInBounds_toArray, List.set_cons_zero, List.set_cons_succ]
      refine wpAnyH_yield (i := 7) (v := ?va7) rfl rfl (by kernel_rfl) (by kernel_rfl) (by kernel_rfl) (fun _ _ _ h => h) (by rfl) ?hya7 hHeld ?resta7
      case hya7 =>
        intro w hSw
        (try dsimp only at hSw)
        go_simp
        try with_reducible rfl
      simp only [Act.put, List.setIfInBounds_toArray, List.set_cons_zero, List.set_cons_succ]
      have HBy : Hid (Below W8.heap.size W8 (m9.alloc (.cells #[.int .i64 0, .int .i64 0, .int .i64 0, .int .i64 0, .slice none 0 0, .int .u32 0] 44))) := Lib.hid (HB9.out.alloc HB9.out.size _)
      have HUy : Hid (Box (m9.alloc (.cells #[.int .i64 0, .int .i64 0, .int .i64 0, .int .i64 0, .slice none 0 0, .int .u32 0] 44)) m9.heap.size 44 #[.int .i64 0, .int .i64 0, .int .i64 0, .int .i64 0, .slice none 0 0, .int .u32 0]) := Lib.hid (Box.new _ _ _)
      refine wpAnyH_ready (rs := [8]) (by kernel_rfl) (by simp) ?_
      refine AllReadyH.cons rfl (fun K hK => ?_) AllReadyH.nil
      go_simp
      refine hK.out _ _ (HKp.out _ HBy.out) (fun hHeld => ?_)
      clear hK K
      try simp only [Act.put, List.setIfInBounds_toArray, List.set_cons_zero, List.set_cons_succ]
      have HBxa : Hid (Below W8.heap.size W8 ((m9.alloc (.cells #[.int .i64 0, .int .i64 0, .int .i64 0, .int .i64 0, .slice none 0 0, .int .u32 0] 44)).setRow m9.heap.size #[.int .i64 r0, .int .i64 r1, .int .i64 r2, .int .i64 r3, .slice rb rn rc, .int .u32 rx])) := Lib.hid (below_setRow HBy.out HB9.out.size _)
      have HUxa : Hid (Box ((m9.alloc (.cells #[.int .i64 0, .int .i64 0, .int .i64 0, .int .i64 0, .slice none 0 0, .int .u32 0] 44)).setRow m9.heap.size #[.int .i64 r0, .int .i64 r1, .int .i64 r2, .int .i64 r3, .slice rb rn rc, .int .u32 rx]) m9.heap.size 44 #[.int .i64 r0, .int .i64 r1, .int .i64 r2, .int .i64 r3, .slice rb rn rc, .int .u32 rx]) := Lib.hid (setRow_heap _ _ _ _ _ _ HUy.out)
      have HExa : Hid (EntsIn ((m9.alloc (.cells #[.int .i64 0, .int .i64 0, .int .i64 0, .int .i64 0, .slice none 0 0, .int .u32 0] 44)).setRow m9.heap.size #[.int .i64 r0, .int .i64 r1, .int .i64 r2, .int .i64 r3, .slice rb rn rc, .int .u32 rx]) (fun q => W8.heap.size ≤ q) rb rn rc res) := Lib.hid (((HE9.out.below (belowA m9 (.cells #[.int .i64 0, .int .i64 0, .int .i64 0, .int .i64 0, .slice none 0 0, .int .u32 0] 44))).grown (grownBy_setRow _ _ _) (fun q hq e => by have := Option.some.inj e; have := hq.2; omega)).mono (fun q hq => hq.1))
      refine wpAnyH_ready (rs := [9]) (by kernel_rfl) (by simp) ?_
      refine AllReadyH.cons rfl (fun K hK => ?_) AllReadyH.nil
      refine step_row _ (by rfl) 44 _ _ (by rfl) (by rfl) m9.heap.size #[.int .i64 r0, .int .i64 r1, .int .i64 r2, .int .i64 r3, .slice rb rn rc, .int .u32 rx] (by rfl) (by rfl) 44 _ HUy.out (by kernel_rfl) rfl (by simp [Value.oneCell']) ?_
      refine hK.out _ _ (HKp.out _ HBxa.out) (fun hHeld => ?_)
      clear hK K
      try simp only [Act.put, List.setIfInBounds_toArray, List.set_cons_zero, List.set_cons_succ]
      refine wpAnyH_yield (i := 10) (v := ?va10) rfl rfl (by kernel_rfl) (by kernel_rfl) (by kernel_rfl) (fun _ _ _ h => h) (by rfl) ?hya10 hHeld ?resta10
      case hya10 =>
        intro w hSw
        (try dsimp only at hSw)
        go_simp
        try with_reducible rfl
      simp only [Act.put, List.setIfInBounds_toArray, List.set_cons_zero, List.set_cons_succ]
      refine wpAnyH_done (by kernel_rfl) ?_ _
      clear HB9 HE9 HBy HUy
      have HCx := Lib.hid (HC8.out.later HBxa.out)
      generalize hX : World.setRow (m9.alloc (.cells #[.int .i64 0, .int .i64 0, .int .i64 0, .int .i64 0, .slice none 0 0, .int .u32 0] 44)) m9.heap.size #[.int .i64 r0, .int .i64 r1, .int .i64 r2, .int .i64 r3, .slice rb rn rc, .int .u32 rx] = W9 at *
      generalize hU : m9.heap.size = U at *
      clear hX hU hHeld HKp
      have hrow := HCx.out.at_row (by rw [HTl.out]; omega)
      have HG8 := Lib.hid (HC8.out.at_row (by rw [HTl.out]; omega)).2.2.2.2
      have HO8 := Lib.hid (HC8.out.2.2.1.lt)
      by_cases he : rv = 0
      · subst he
        have HQ : Hid (callP 5 ((c0, c1, c2, c3), ts, sd) zs = (((c0, c1, c2, c3), ts.set i ((r0, r1, r2, r3), res, rx), sd), 0, 0)) := Lib.hid (by rw [HEq.out, HOp.out, if_pos rfl])
        have fr0 := hrow.1 (i * 6)
        have fr1 := hrow.1 (i * 6 + 1)
        have fr2 := hrow.1 (i * 6 + 2)
        have fr3 := hrow.1 (i * 6 + 3)
        have fr4 := hrow.1 (i * 6 + 4)
        have fr5 := hrow.1 (i * 6 + 5)
        have hgi : (i : Int) < (ts.length : Int) := by rw [HTl.out]; omega
        obtain ⟨u0, u1, u2, u3, u4, u5, o0, o1, o2, o3, o4, o5⟩ := HCx.out.olds (k := i) (by rw [HTl.out]; exact hil)
        have v4 : W9.cell? ⟨O, 4, none⟩ = some (.slice (some ⟨g, 0, none⟩) ts.length vc) := HCx.out.2.2.1.cell rfl
        obtain ⟨d0, d1, d2, d3, d4, d5⟩ := Box.tb (s := (r0, r1, r2, r3)) HUxa.out
        simp only at d0 d1 d2 d3 d4 d5
        have HC10 : Hid (Cr w (((((((W9.setCell ⟨g, i * 6, none⟩ (.int .i64 r0)).setCell ⟨g, i * 6 + 1, none⟩ (.int .i64 r1)).setCell ⟨g, i * 6 + 2, none⟩ (.int .i64 r2)).setCell ⟨g, i * 6 + 3, none⟩ (.int .i64 r3)).setCell ⟨g, i * 6 + 4, none⟩ (.slice rb rn rc)).setCell ⟨g, i * 6 + 5, none⟩ (.int .u32 rx))) R O (c0, c1, c2, c3) sd (ts.set i ((r0, r1, r2, r3), res, rx)) (.slice (some ⟨g, 0, none⟩) ts.length vc)) := Lib.hid (HCx.out.put (k := i) (S := W8.heap.size) (by rw [HTl.out]; exact hil) (t := ((r0, r1, r2, r3), res, rx)) HExa.out HO8.out HG8.out HNx.out)
        clear hrow
        go_upto_region 20 with fail
        generalize hW10 : ((((((W9.setCell ⟨g, i * 6, none⟩ (.int .i64 r0)).setCell ⟨g, i * 6 + 1, none⟩ (.int .i64 r1)).setCell ⟨g, i * 6 + 2, none⟩ (.int .i64 r2)).setCell ⟨g, i * 6 + 3, none⟩ (.int .i64 r3)).setCell ⟨g, i * 6 + 4, none⟩ (.slice rb rn rc)).setCell ⟨g, i * 6 + 5, none⟩ (.int .u32 rx)) = W10 at *
        clear hW10 fr0 fr1 fr2 fr3 fr4 fr5 o0 o1 o2 o3 o4 o5 v4 d0 d1 d2 d3 d4 d5 hgi
        have hRx := HC10.out.2.1
        have HRx := Lib.hid hRx
        obtain ⟨y0, y1, y2, y3, y4, y5⟩ := HC10.out.cells
        simp only at y0 y1 y2 y3 y4 y5
        clear hRx
        go_wp2_with (refine wpList_store_row rfl 26 _ _ rfl R _ rfl rfl 26 _ HRx.out (by kernel_rfl) rfl (by simp [Value.oneCell']) ?_)
        refine bodyPost_ret (v := .tuple #[envV (c0, c1, c2, c3) (.slice (some ⟨g, 0, none⟩) ts.length vc) (sd), .int .u32 (0), .int .i64 0]) ?_ rfl ?_
        · exact results_ev_three Try.results8 _ _ R 26 _ _ _ rfl rfl rfl rfl (setRow_heap _ _ _ _ _ _ HRx.out)
        · obtain ⟨z1, z2⟩ := HC10.out.fin (envA (c0, c1, c2, c3) (.slice (some ⟨g, 0, none⟩) ts.length vc) (sd))
          rw [HQ.out]
          exact ⟨_, rfl, z1, z2⟩
      · have HQ : Hid (callP 5 ((c0, c1, c2, c3), ts, sd) zs = (((c0, c1, c2, c3), ts, sd), rv, 0)) := Lib.hid (by
          rw [HEq.out, HOp.out, if_neg he]
          show (((c0, c1, c2, c3), ts.set i ((s0, s1, s2, s3), es, x), sd), rv, (0 : Int)) = _
          rw [set_self ts i _ HE1.out])
        have heB : (rv == 0) = false := by simp; exact he
        have hwr : IntKind.u32.wrap rv = rv := by rw [IntKind.wrap_u32]; omega
        clear hrow he
        have hRx := HCx.out.2.1
        have HRx := Lib.hid hRx
        obtain ⟨y0, y1, y2, y3, y4, y5⟩ := HCx.out.cells
        simp only at y0 y1 y2 y3 y4 y5
        clear hRx
        go_wp2_with (refine wpList_store_row rfl 26 _ _ rfl R _ rfl rfl 26 _ HRx.out (by kernel_rfl) rfl (by simp [Value.oneCell']) ?_)
        refine bodyPost_ret (v := .tuple #[envV (c0, c1, c2, c3) (.slice (some ⟨g, 0, none⟩) ts.length vc) (sd), .int .u32 (rv), .int .i64 0]) ?_ rfl ?_
        · exact results_ev_three Try.results8 _ _ R 26 _ _ _ rfl rfl rfl rfl (setRow_heap _ _ _ _ _ _ HRx.out)
        · obtain ⟨z1, z2⟩ := HCx.out.fin (envA (c0, c1, c2, c3) (.slice (some ⟨g, 0, none⟩) ts.length vc) (sd))
          rw [HQ.out]
          exact ⟨_, rfl, z1, z2⟩
    · have HBz : Hid (Below W8.heap.size W8 (W8.drew.alloc (.cells #[.int .i64 0, .int .i64 0, .int .i64 0, .int .i64 0, .slice none 0 0, .int .u32 0] 44))) := Lib.hid ((Below.refl _ _).drew.alloc (Nat.le_refl _) _)
      have HUz : Hid (Box (W8.drew.alloc (.cells #[.int .i64 0, .int .i64 0, .int .i64 0, .int .i64 0, .slice none 0 0, .int .u32 0] 44)) W8.heap.size 44 #[.int .i64 0, .int .i64 0, .int .i64 0, .int .i64 0, .slice none 0 0, .int .u32 0]) := Lib.hid (Box.new _ _ _)
      refine AllReadyH.cons rfl (fun K hK => ?_) AllReadyH.nil
      go_simp
      refine hK.out _ _ (HKp.out _ HBz.out) (fun hHeld => ?_)
      clear hK K
      try simp only [Act.put, List.setIfInBounds_toArray, List.set_cons_zero, List.set_cons_succ]
      refine wpAnyH_ready (rs := [4]) (by kernel_rfl) (by simp) ?_
      refine AllReadyH.cons rfl (fun K hK => ?_) AllReadyH.nil
      go_simp
      refine (hcn _ (HE8.out.below HBz.out)).mono ?_
      rintro e m9 ⟨rb, rn, rc, rfl, hb9, hE9⟩
      have HB9 : Hid (Below W8.heap.size W8 m9) := Lib.hid (HBz.out.trans (hb9.mono HBz.out.size))
      have HU9 := Lib.hid (HUz.out.later hb9)
      have HE9 := Lib.hid hE9
      clear hb9 hE9 hcn
      go_wp2_with fail
      refine hK.out _ _ (HKp.out _ HB9.out) (fun hHeld => ?_)
      clear hK K
      try simp only [Act.put, List.setIfInBounds_toArray, List.set_cons_zero, List.set_cons_succ]
      refine wpAnyH_yield (i := 5) (v := ?vb5) rfl rfl (by kernel_rfl) (by kernel_rfl) (by kernel_rfl) (fun _ _ _ h => h) (by rfl) ?hyb5 hHeld ?restb5
      case hyb5 =>
        intro w hSw
        (try dsimp only at hSw)
        go_simp
        try with_reducible rfl
      simp only [Act.put, List.setIfInBounds_toArray, List.set_cons_zero, List.set_cons_succ]
      refine wpAnyH_yield (i := 6) (v := ?vb6) rfl rfl (by kernel_rfl) (by kernel_rfl) (by kernel_rfl) (fun _ _ _ h => h) (by rfl) ?hyb6 hHeld ?restb6
      case hyb6 =>
        intro w hSw
        (try dsimp only at hSw)
        go_simp
        try with_reducible rfl
      simp only [Act.put, List.setIfInBounds_toArray, List.set_cons_zero, List.set_cons_succ]
      refine wpAnyH_yield (i := 7) (v := ?vb7) rfl rfl (by kernel_rfl) (by kernel_rfl) (by kernel_rfl) (fun _ _ _ h => h) (by rfl) ?hyb7 hHeld ?restb7
      case hyb7 =>
        intro w hSw
        (try dsimp only at hSw)
        go_simp
        try with_reducible rfl
      simp only [Act.put, List.setIfInBounds_toArray, List.set_cons_zero, List.set_cons_succ]
      have HBxb : Hid (Below W8.heap.size W8 (m9.setRow W8.heap.size #[.int .i64 r0, .int .i64 r1, .int .i64 r2, .int .i64 r3, .slice rb rn rc, .int .u32 rx])) := Lib.hid (below_setRow HB9.out (Nat.le_refl _) _)
      have HUxb : Hid (Box (m9.setRow W8.heap.size #[.int .i64 r0, .int .i64 r1, .int .i64 r2, .int .i64 r3, .slice rb rn rc, .int .u32 rx]) W8.heap.size 44 #[.int .i64 r0, .int .i64 r1, .int .i64 r2, .int .i64 r3, .slice rb rn rc, .int .u32 rx]) := Lib.hid (setRow_heap _ _ _ _ _ _ HU9.out)
      have HExb : Hid (EntsIn (m9.setRow W8.heap.size #[.int .i64 r0, .int .i64 r1, .int .i64 r2, .int .i64 r3, .slice rb rn rc, .int .u32 rx]) (fun q => W8.heap.size ≤ q) rb rn rc res) := Lib.hid ((HE9.out.grown (grownBy_setRow _ _ _) (fun q hq e => by have := Option.some.inj e; simp at hq; omega)).mono (fun q hq => by simp at hq; omega))
      refine wpAnyH_ready (rs := [9]) (by kernel_rfl) (by simp) ?_
      refine AllReadyH.cons rfl (fun K hK => ?_) AllReadyH.nil
      refine step_row _ (by rfl) 44 _ _ (by rfl) (by rfl) W8.heap.size #[.int .i64 r0, .int .i64 r1, .int .i64 r2, .int .i64 r3, .slice rb rn rc, .int .u32 rx] (by rfl) (by rfl) 44 _ HU9.out (by kernel_rfl) rfl (by simp [Value.oneCell']) ?_
      refine hK.out _ _ (HKp.out _ HBxb.out) (fun hHeld => ?_)
      clear hK K
      try simp only [Act.put, List.setIfInBounds_toArray, List.set_cons_zero, List.set_cons_succ]
      refine wpAnyH_yield (i := 10) (v := ?vb10) rfl rfl (by kernel_rfl) (by kernel_rfl) (by kernel_rfl) (fun _ _ _ h => h) (by rfl) ?hyb10 hHeld ?restb10
      case hyb10 =>
        intro w hSw
        (try dsimp only at hSw)
        go_simp
        try with_reducible rfl
      simp only [Act.put, List.setIfInBounds_toArray, List.set_cons_zero, List.set_cons_succ]
      refine wpAnyH_done (by kernel_rfl) ?_ _
      clear HB9 HE9 HU9 HBz HUz
      have HCx := Lib.hid (HC8.out.later HBxb.out)
      generalize hX : World.setRow m9 W8.heap.size #[.int .i64 r0, .int .i64 r1, .int .i64 r2, .int .i64 r3, .slice rb rn rc, .int .u32 rx] = W9 at *
      clear hX hHeld HKp
      have hrow := HCx.out.at_row (by rw [HTl.out]; omega)
      have HG8 := Lib.hid (HC8.out.at_row (by rw [HTl.out]; omega)).2.2.2.2
      have HO8 := Lib.hid (HC8.out.2.2.1.lt)
      by_cases he : rv = 0
      · subst he
        have HQ : Hid (callP 5 ((c0, c1, c2, c3), ts, sd) zs = (((c0, c1, c2, c3), ts.set i ((r0, r1, r2, r3), res, rx), sd), 0, 0)) := Lib.hid (by rw [HEq.out, HOp.out, if_pos rfl])
        have fr0 := hrow.1 (i * 6)
        have fr1 := hrow.1 (i * 6 + 1)
        have fr2 := hrow.1 (i * 6 + 2)
        have fr3 := hrow.1 (i * 6 + 3)
        have fr4 := hrow.1 (i * 6 + 4)
        have fr5 := hrow.1 (i * 6 + 5)
        have hgi : (i : Int) < (ts.length : Int) := by rw [HTl.out]; omega
        obtain ⟨u0, u1, u2, u3, u4, u5, o0, o1, o2, o3, o4, o5⟩ := HCx.out.olds (k := i) (by rw [HTl.out]; exact hil)
        have v4 : W9.cell? ⟨O, 4, none⟩ = some (.slice (some ⟨g, 0, none⟩) ts.length vc) := HCx.out.2.2.1.cell rfl
        obtain ⟨d0, d1, d2, d3, d4, d5⟩ := Box.tb (s := (r0, r1, r2, r3)) HUxb.out
        simp only at d0 d1 d2 d3 d4 d5
        have HC10 : Hid (Cr w (((((((W9.setCell ⟨g, i * 6, none⟩ (.int .i64 r0)).setCell ⟨g, i * 6 + 1, none⟩ (.int .i64 r1)).setCell ⟨g, i * 6 + 2, none⟩ (.int .i64 r2)).setCell ⟨g, i * 6 + 3, none⟩ (.int .i64 r3)).setCell ⟨g, i * 6 + 4, none⟩ (.slice rb rn rc)).setCell ⟨g, i * 6 + 5, none⟩ (.int .u32 rx))) R O (c0, c1, c2, c3) sd (ts.set i ((r0, r1, r2, r3), res, rx)) (.slice (some ⟨g, 0, none⟩) ts.length vc)) := Lib.hid (HCx.out.put (k := i) (S := W8.heap.size) (by rw [HTl.out]; exact hil) (t := ((r0, r1, r2, r3), res, rx)) HExb.out HO8.out HG8.out HNx.out)
        clear hrow
        go_upto_region 20 with fail
        generalize hW10 : ((((((W9.setCell ⟨g, i * 6, none⟩ (.int .i64 r0)).setCell ⟨g, i * 6 + 1, none⟩ (.int .i64 r1)).setCell ⟨g, i * 6 + 2, none⟩ (.int .i64 r2)).setCell ⟨g, i * 6 + 3, none⟩ (.int .i64 r3)).setCell ⟨g, i * 6 + 4, none⟩ (.slice rb rn rc)).setCell ⟨g, i * 6 + 5, none⟩ (.int .u32 rx)) = W10 at *
        clear hW10 fr0 fr1 fr2 fr3 fr4 fr5 o0 o1 o2 o3 o4 o5 v4 d0 d1 d2 d3 d4 d5 hgi
        have hRx := HC10.out.2.1
        have HRx := Lib.hid hRx
        obtain ⟨y0, y1, y2, y3, y4, y5⟩ := HC10.out.cells
        simp only at y0 y1 y2 y3 y4 y5
        clear hRx
        go_wp2_with (refine wpList_store_row rfl 26 _ _ rfl R _ rfl rfl 26 _ HRx.out (by kernel_rfl) rfl (by simp [Value.oneCell']) ?_)
        refine bodyPost_ret (v := .tuple #[envV (c0, c1, c2, c3) (.slice (some ⟨g, 0, none⟩) ts.length vc) (sd), .int .u32 (0), .int .i64 0]) ?_ rfl ?_
        · exact results_ev_three Try.results8 _ _ R 26 _ _ _ rfl rfl rfl rfl (setRow_heap _ _ _ _ _ _ HRx.out)
        · obtain ⟨z1, z2⟩ := HC10.out.fin (envA (c0, c1, c2, c3) (.slice (some ⟨g, 0, none⟩) ts.length vc) (sd))
          rw [HQ.out]
          exact ⟨_, rfl, z1, z2⟩
      · have HQ : Hid (callP 5 ((c0, c1, c2, c3), ts, sd) zs = (((c0, c1, c2, c3), ts, sd), rv, 0)) := Lib.hid (by
          rw [HEq.out, HOp.out, if_neg he]
          show (((c0, c1, c2, c3), ts.set i ((s0, s1, s2, s3), es, x), sd), rv, (0 : Int)) = _
          rw [set_self ts i _ HE1.out])
        have heB : (rv == 0) = false := by simp; exact he
        have hwr : IntKind.u32.wrap rv = rv := by rw [IntKind.wrap_u32]; omega
        clear hrow he
        have hRx := HCx.out.2.1
        have HRx := Lib.hid hRx
        obtain ⟨y0, y1, y2, y3, y4, y5⟩ := HCx.out.cells
        simp only at y0 y1 y2 y3 y4 y5
        clear hRx
        go_wp2_with (refine wpList_store_row rfl 26 _ _ rfl R _ rfl rfl 26 _ HRx.out (by kernel_rfl) rfl (by simp [Value.oneCell']) ?_)
        refine bodyPost_ret (v := .tuple #[envV (c0, c1, c2, c3) (.slice (some ⟨g, 0, none⟩) ts.length vc) (sd), .int .u32 (rv), .int .i64 0]) ?_ rfl ?_
        · exact results_ev_three Try.results8 _ _ R 26 _ _ _ rfl rfl rfl rfl (setRow_heap _ _ _ _ _ _ HRx.out)
        · obtain ⟨z1, z2⟩ := HCx.out.fin (envA (c0, c1, c2, c3) (.slice (some ⟨g, 0, none⟩) ts.length vc) (sd))
          rw [HQ.out]
          exact ⟨_, rfl, z1, z2⟩
  · have hlI : (len : Int) ≤ (i : Int) := by omega
    go_quiet (fail)
    have hb4 : Below W3.heap.size W3 (W3.drewN nq) := below_of_quiet ⟨nq, rfl⟩
    have HC4 := Lib.hid (HC3r.out.later hb4)
    clear hb4 a0 p4 HC3r HP3r HZ3r HT3r
    generalize hW4 : W3.drewN nq = W4 at *
    clear hW4
    have HEq := Lib.hid (callP_fault (n := 5) (e := ((c0, c1, c2, c3), ts, sd)) HLen.out (by decide) (mayOp_far HI.out (by rw [HTl.out]; exact hil)))
    have hRx := HC4.out.2.1
    have HRx := Lib.hid hRx
    obtain ⟨y0, y1, y2, y3, y4, y5⟩ := HC4.out.cells
    simp only at y0 y1 y2 y3 y4 y5
    clear hRx
    go_wp2_with (refine wpList_store_row rfl 26 _ _ rfl R _ rfl rfl 26 _ HRx.out (by kernel_rfl) rfl (by simp [Value.oneCell']) ?_)
    refine bodyPost_ret (v := .tuple #[envV (c0, c1, c2, c3) (.slice vb ts.length vc) (sd), .int .u32 (0), .int .i64 10]) ?_ rfl ?_
    · exact results_ev_three Try.results8 _ _ R 26 _ _ _ rfl rfl rfl rfl (setRow_heap _ _ _ _ _ _ HRx.out)
    · obtain ⟨z1, z2⟩ := HC4.out.fin (envA (c0, c1, c2, c3) (.slice vb ts.length vc) (sd))
      rw [HEq.out]
      exact ⟨_, rfl, z1, z2⟩
end Go.Proofs.Ytmlmdhnjafakiaa

/-
  What the sixth reference's Call returns, for every number, environment and words; and what a region that reads two boxes keeps.
-/
namespace Go.Proofs.Ytmlmdhnjafakiaa
open Go Go.RowKit
set_option linter.unusedVariables false
theorem rcall_any (n : Int) (c : Cx) (a : Option Addr) (len cap : Nat) (sd : Int) (ts : List Tb) (ab : Option Addr) (an ap : Nat) (zs : List Int) (w : World) (h : TabsAt w a len cap ts) (hf : fewL ts) (hs : isW sd) (hz : WordsAt w ab an ap zs) :
    Calls Try.prog 8 #[.int .i64 n, envV c (.slice a len cap) sd, .slice ab an ap] w (RcPost (callP n (c, ts, sd) zs) w) := by
  by_cases hne : (zs.length : Int) = argsP n
  · rcases argsP_some (n := n) (by rw [← hne]; omega) with rfl | rfl | rfl | rfl | rfl | rfl
    · exact rc0_any c a len cap sd ts ab an ap zs w h hf hs hz hne
    · exact rc1_any c a len cap sd ts ab an ap zs w h hf hs hz hne
    · exact rc2_any c a len cap sd ts ab an ap zs w h hf hs hz hne
    · exact rc3_any c a len cap sd ts ab an ap zs w h hf hs hz hne
    · exact rc_draw c a len cap sd ts ab an ap zs w h hf hs hz hne
    · exact rc5_any c a len cap sd ts ab an ap zs w h hf hs hz hne
  · exact rc_arg n c a len cap sd ts ab an ap zs w h hf hs hz hne
abbrev SL (W9 : World) (P Q : Nat) (x k c m v : Int) (w' : World) : Prop :=
  w'.cell? ⟨P, 5, none⟩ = some (.int .u32 x) ∧ w'.cell? ⟨Q, 0, none⟩ = some (.int .i64 k) ∧ w'.cell? ⟨Q, 1, none⟩ = some (.int .i64 c) ∧ w'.cell? ⟨Q, 2, none⟩ = some (.int .i64 m) ∧ w'.cell? ⟨Q, 3, none⟩ = some (.int .i64 v) ∧ Below W9.heap.size W9 w'
section
variable {W9 w1 w2 : World} {P Q : Nat} {x k c m v : Int}
theorem SL.later (h : SL W9 P Q x k c m v w1) (hb : Below w1.heap.size w1 w2) : SL W9 P Q x k c m v w2 := by
  obtain ⟨h1, h2, h3, h4, h5, h6⟩ := h
  exact ⟨(hb.cell (lt_of_cell h1)).trans h1, (hb.cell (lt_of_cell h2)).trans h2, (hb.cell (lt_of_cell h3)).trans h3, (hb.cell (lt_of_cell h4)).trans h4, (hb.cell (lt_of_cell h5)).trans h5, h6.trans (hb.mono h6.size)⟩
theorem sl_args (n : Int) (h : SL W9 P Q x k c m v w1) : Calls Try.prog 10 #[.int .i64 n] w1 fun e w' => e = .returned (.int .i64 (argsP n)) ∧ SL W9 P Q x k c m v w' := (args_any n w1).mono fun e w' ⟨h1, h2⟩ => ⟨h1, by rw [h2]; exact h⟩
theorem sl_rargs (n : Int) (h : SL W9 P Q x k c m v w1) : Calls Try.prog 11 #[.int .i64 n] w1 fun e w' => e = .returned (.int .i64 (argsP n)) ∧ SL W9 P Q x k c m v w' := (rargs_any n w1).mono fun e w' ⟨h1, h2⟩ => ⟨h1, h.later h2⟩
theorem sl_fits (n : Int) (h : SL W9 P Q x k c m v w1) : Calls Try.prog 12 #[.int .i64 n, scV k c m v] w1 fun e w' => e = .returned (.bool (fitsP n (k, c, m, v))) ∧ SL W9 P Q x k c m v w' := (fits_any n k c m v w1).mono fun e w' ⟨h1, h2⟩ => ⟨h1, h.later h2⟩
theorem sl_rfits (n : Int) (h : SL W9 P Q x k c m v w1) : Calls Try.prog 13 #[.int .i64 n, scV k c m v] w1 fun e w' => e = .returned (.bool (fitsP n (k, c, m, v))) ∧ SL W9 P Q x k c m v w' := (rfits_any n k c m v w1).mono fun e w' ⟨h1, h2⟩ => ⟨h1, h.later h2⟩
theorem sl_draw (h : SL W9 P Q x k c m v w1) : Calls Try.prog 14 #[.int .u32 x] w1 fun e w' => e = .returned (.int .u32 (drawP x)) ∧ SL W9 P Q x k c m v w' := (draw_any x w1).mono fun e w' ⟨h1, h2⟩ => ⟨h1, by rw [h2]; exact h⟩
theorem sl_rdraw (hx : isW x) (h : SL W9 P Q x k c m v w1) : Calls Try.prog 15 #[.int .u32 x] w1 fun e w' => e = .returned (.int .u32 (drawP x)) ∧ SL W9 P Q x k c m v w' := (rdraw_any x w1 hx).mono fun e w' ⟨h1, h2⟩ => ⟨h1, by rw [← h2]; exact h⟩
end
end Go.Proofs.Ytmlmdhnjafakiaa

