/-
  Texts that the law of this layer stands on, one behind the other.
-/
import Derived.Test.YtmlmdhnjafakiaaGh
import Derived.Test.YtmlmdhnjafakiaaGr
/-
  What the sixth reference's Draw and Args return (with the first reference's word, times and Do at products and sums), as contracts over the translated program.
-/
namespace Go.Proofs.Ytmlmdhnjafakiaa
open Go Go.RowKit
set_option linter.unusedVariables false
theorem tmod_neg (n : Int) (h0 : -4294967296 < n) (h1 : n < 0) : n.tmod 4294967296 = n := by
  have e : n = -(-n) := by omega
  rw [e, Int.neg_tmod, Int.tmod_eq_emod_of_nonneg (by omega), Int.emod_eq_of_lt (by omega) (by omega)]
theorem rword_any (n : Int) (w : World) (h0 : -4294967296 < n) (h1 : n ≤ 1099511627776) :
    Calls Try.prog 48 #[.int .i64 n] w fun e w' => e = .returned (.int .u32 (n % 4294967296)) ∧ w = w' := by
  by_cases hn : n < 0
  · have e := tmod_neg n h0 hn
    go_enter Try.func48, Try.ntmps48
    go_wp2
    go_ret
    exact ⟨congrArg (fun z => Ending.returned (.int .u32 z)) (by omega), rfl⟩
  · have hn' : 0 ≤ n := by omega
    have d : decide (n % 4294967296 < 0) = false := by simp; omega
    clear hn
    go_enter Try.func48, Try.ntmps48
    go_wp2
    go_ret
    exact ⟨rfl, rfl⟩
def timesI (a b : Int) : Int := a % 65536 * b % 4294967296 + a / 65536 * b % 65536 * 65536
theorem timesI_ge (a b : Int) : 0 ≤ timesI a b := by unfold timesI; generalize a % 65536 * b = x; generalize a / 65536 * b = y; omega
theorem timesI_le (a b : Int) : timesI a b ≤ 8589934592 := by unfold timesI; generalize a % 65536 * b = x; generalize a / 65536 * b = y; omega
theorem timesI_mod (a b : Int) : timesI a b % 4294967296 = a * b % 4294967296 := by
  have e : a * b = a % 65536 * b + a / 65536 * b * 65536 := by
    have h : a = a % 65536 + a / 65536 * 65536 := by omega
    generalize a % 65536 = r at *
    generalize a / 65536 = q at *
    subst h
    rw [Int.add_mul, Int.mul_assoc q 65536 b, Int.mul_assoc q b 65536, Int.mul_comm 65536 b]
  unfold timesI
  rw [e]
  generalize a % 65536 * b = x
  generalize a / 65536 * b = y
  omega
theorem times_low (a b : Int) (hb0 : 0 ≤ b) (hb : b ≤ 4294967295) : 0 ≤ a % 65536 * b ∧ a % 65536 * b ≤ 281474976710656 := by
  have h0 : 0 ≤ a % 65536 := by omega
  have h1 : a % 65536 ≤ 65536 := by omega
  generalize a % 65536 = r at *
  refine ⟨Int.mul_nonneg h0 hb0, ?_⟩
  have := Int.mul_le_mul h1 hb hb0 (by omega)
  omega
theorem times_high (a b : Int) (ha0 : 0 ≤ a) (ha : a ≤ 4294967295) (hb0 : 0 ≤ b) (hb : b ≤ 4294967295) : 0 ≤ a / 65536 * b ∧ a / 65536 * b ≤ 281474976710656 := by
  have h0 : 0 ≤ a / 65536 := by omega
  have h1 : a / 65536 ≤ 65536 := by omega
  generalize a / 65536 = r at *
  refine ⟨Int.mul_nonneg h0 hb0, ?_⟩
  have := Int.mul_le_mul h1 hb hb0 (by omega)
  omega
theorem times_any (a b : Int) (w : World) (ha0 : 0 ≤ a) (ha : a ≤ 4294967295) (hb0 : 0 ≤ b) (hb : b ≤ 4294967295) :
    Calls Try.prog 49 #[.int .i64 a, .int .i64 b] w fun e w' => e = .returned (.int .i64 (timesI a b)) ∧ w = w' := by
  obtain ⟨l0, l1⟩ := times_low a b hb0 hb
  obtain ⟨k0, k1⟩ := times_high a b ha0 ha hb0 hb
  go_enter Try.func49, Try.ntmps49
  go_wp2
  go_ret
  exact ⟨congrArg (fun z => Ending.returned (.int .i64 z)) (by unfold timesI; rfl), rfl⟩
theorem rmul_any (a b : Int) (w : World) (ha0 : 0 ≤ a) (ha : a ≤ 4294967295) (hb0 : 0 ≤ b) (hb : b ≤ 4294967295) :
    Calls Try.prog 30 #[.int .i64 3, .int .u32 a, .int .u32 b] w fun e w' => e = .returned (.tuple #[.int .u32 (a * b % 4294967296), .bool true]) ∧ w = w' := by
  have l := timesI_ge a b
  have u := timesI_le a b
  have HM := Lib.hid (timesI_mod a b)
  go_enter Try.func30, Try.ntmps30
  go_wp2_with fail
  refine (times_any _ _ _ (by omega) (by omega) (by omega) (by omega)).mono ?_
  rintro e w' ⟨rfl, rfl⟩
  go_wp2_with fail
  refine (rword_any _ _ (by omega) (by omega)).mono ?_
  rintro e w' ⟨rfl, rfl⟩
  rw [HM.out]
  go_wp2_with fail
  go_ret2
  exact ⟨rfl, rfl⟩
theorem radd_any (a b : Int) (w : World) (ha0 : 0 ≤ a) (ha : a ≤ 4294967295) (hb0 : 0 ≤ b) (hb : b ≤ 4294967295) :
    Calls Try.prog 30 #[.int .i64 1, .int .u32 a, .int .u32 b] w fun e w' => e = .returned (.tuple #[.int .u32 ((a + b) % 4294967296), .bool true]) ∧ w = w' := by
  go_enter Try.func30, Try.ntmps30
  go_wp2_with fail
  refine (rword_any _ _ (by omega) (by omega)).mono ?_
  rintro e w' ⟨rfl, rfl⟩
  go_wp2_with fail
  go_ret2
  exact ⟨rfl, rfl⟩
theorem rdraw_any (s : Int) (w : World) (h : isW s) : Calls Try.prog 15 #[.int .u32 s] w fun e w' => e = .returned (.int .u32 (drawP s)) ∧ w = w' := by
  have k1 := fun w => rmul_any s 1664525 w h.1 h.2 (by omega) (by omega)
  have m0 : 0 ≤ s * 1664525 % 4294967296 := by omega
  have m1 : s * 1664525 % 4294967296 ≤ 4294967295 := by omega
  have k2 := fun w => radd_any (s * 1664525 % 4294967296) 1013904223 w m0 m1 (by omega) (by omega)
  have e : (s * 1664525 % 4294967296 + 1013904223) % 4294967296 = drawP s := by unfold drawP; omega
  rw [e] at k2
  clear e m0 m1 h
  generalize s * 1664525 % 4294967296 = m at *
  go_enter Try.func15, Try.ntmps15
  go_wp2_with fail
  refine (k1 _).mono ?_
  rintro e w' ⟨rfl, rfl⟩
  go_wp2_with fail
  refine (k2 _).mono ?_
  rintro e w' ⟨rfl, rfl⟩
  go_wp2_with fail
  go_ret
  exact ⟨rfl, rfl⟩
theorem rargs_any (n : Int) (w : World) : Calls Try.prog 11 #[.int .i64 n] w fun e w' => e = .returned (.int .i64 (argsP n)) ∧ Below w.heap.size w w' := by
  by_cases h0 : n < 0
  · have d0 : decide (n < 0) = true := decide_eq_true h0
    have e : argsP n = -1 := by unfold argsP; rw [if_neg (by omega), if_neg (by omega), if_neg (by omega), if_neg (by omega)]
    rw [e]
    clear h0 e
    go_enter Try.func11, Try.ntmps11
    go_wp2
    go_ret
    exact ⟨rfl, Below.refl _ _⟩
  by_cases h5 : 5 < n
  · have d0 : decide (n < 0) = false := decide_eq_false h0
    have d1 : decide (5 < n) = true := decide_eq_true h5
    have e : argsP n = -1 := by unfold argsP; rw [if_neg (by omega), if_neg (by omega), if_neg (by omega), if_neg (by omega)]
    rw [e]
    clear h0 h5 e
    go_enter Try.func11, Try.ntmps11
    go_wp2
    go_ret
    exact ⟨rfl, Below.refl _ _⟩
  obtain ⟨k, rfl⟩ : ∃ k : Nat, n = k := ⟨n.toNat, by omega⟩
  have hk : k ≤ 5 := by omega
  clear h0 h5
  have hB := Box.new w 3 #[.int .i64 3, .int .i64 4, .int .i64 2, .int .i64 2, .int .i64 0, .int .i64 2]
  have hb : Below w.heap.size w (w.alloc (.cells #[.int .i64 3, .int .i64 4, .int .i64 2, .int .i64 2, .int .i64 0, .int .i64 2] 3)) := (Below.refl _ _).alloc (Nat.le_refl _) _
  match k, hk with
  | 0, _ =>
    have c := hB.cell (i := 0) rfl
    go_enter Try.func11, Try.ntmps11
    go_wp2
    go_ret
    exact ⟨rfl, hb⟩
  | 1, _ =>
    have c := hB.cell (i := 1) rfl
    go_enter Try.func11, Try.ntmps11
    go_wp2
    go_ret
    exact ⟨rfl, hb⟩
  | 2, _ =>
    have c := hB.cell (i := 2) rfl
    go_enter Try.func11, Try.ntmps11
    go_wp2
    go_ret
    exact ⟨rfl, hb⟩
  | 3, _ =>
    have c := hB.cell (i := 3) rfl
    go_enter Try.func11, Try.ntmps11
    go_wp2
    go_ret
    exact ⟨rfl, hb⟩
  | 4, _ =>
    have c := hB.cell (i := 4) rfl
    go_enter Try.func11, Try.ntmps11
    go_wp2
    go_ret
    exact ⟨rfl, hb⟩
  | 5, _ =>
    have c := hB.cell (i := 5) rfl
    go_enter Try.func11, Try.ntmps11
    go_wp2
    go_ret
    exact ⟨rfl, hb⟩
end Go.Proofs.Ytmlmdhnjafakiaa

/-
  What the sixth reference's Fits returns, as a contract over the translated program.
-/
namespace Go.Proofs.Ytmlmdhnjafakiaa
open Go Go.RowKit
set_option linter.unusedVariables false
def fitC (n : Int) (r : Bool) : Bool := if 0 ≤ n ∧ n ≤ 3 then !r else if n = 5 then r else false
theorem fitsP_eq (n k c m v : Int) : fitsP n (k, c, m, v) = (mayS k c m v && fitC n (k == 3)) := by
  unfold fitsP fitC
  simp only [mayT]
  by_cases h : 0 ≤ n ∧ n ≤ 3
  · rw [if_pos (by omega), if_pos h]
    by_cases hk : k = 3 <;> simp [hk]
  · rw [if_neg (by omega), if_neg h]
    by_cases h5 : n = 5
    · rw [if_pos h5, if_pos h5]
      by_cases hk : k = 3 <;> simp [hk]
    · rw [if_neg h5, if_neg h5]
set_option maxHeartbeats 4000000 in
theorem rfits_any (n k c m v : Int) (w : World) : Calls Try.prog 13 #[.int .i64 n, scV k c m v] w fun e w' => e = .returned (.bool (fitsP n (k, c, m, v))) ∧ Below w.heap.size w w' := by
  rw [fitsP_eq]
  obtain ⟨W0, hW0⟩ : ∃ W0, w.alloc (.cells #[.int .i64 k, .int .i64 c, .int .i64 m, .int .i64 v] 29) = W0 := ⟨_, rfl⟩
  have hg : Below w.heap.size w W0 := by rw [← hW0]; exact (Below.refl _ _).alloc (Nat.le_refl _) _
  have HSc : Hid (W0.cell? ⟨w.heap.size, 0, none⟩ = some (.int .i64 k) ∧ W0.cell? ⟨w.heap.size, 1, none⟩ = some (.int .i64 c) ∧ W0.cell? ⟨w.heap.size, 2, none⟩ = some (.int .i64 m) ∧ W0.cell? ⟨w.heap.size, 3, none⟩ = some (.int .i64 v)) := Lib.hid (by
    have hB : Box W0 w.heap.size 29 #[.int .i64 k, .int .i64 c, .int .i64 m, .int .i64 v] := by rw [← hW0]; exact Box.new _ _ _
    exact ⟨hB.cell rfl, hB.cell rfl, hB.cell rfl, hB.cell rfl⟩)
  have ck := rmay_any k c m v W0
  generalize mayS k c m v = M at *
  obtain ⟨c0, c1, c2, c3⟩ := HSc.out
  have HC0 := Lib.hid c0
  obtain ⟨r, hr⟩ : ∃ r, (k == 3) = r := ⟨_, rfl⟩
  rw [hr]
  by_cases hc : 0 ≤ n ∧ n ≤ 3
  · rw [show fitC n r = !r from if_pos hc]
    have f1 : (n == 5) = false := by simp; omega
    have f2 : decide (0 ≤ n) = true := decide_eq_true hc.1
    have f3 : decide (n ≤ 3) = true := decide_eq_true hc.2
    clear hc
    cases M
    all_goals
      cases r
      all_goals
        go_enter Try.func13, Try.ntmps13
        go_wp2_with fail
        refine ck.mono ?_
        rintro e w1 ⟨rfl, hb1⟩
        have d0 := (hb1.cell (lt_of_cell HC0.out)).trans HC0.out
        have HB1 := Lib.hid (hg.trans (hb1.mono hg.size))
        clear hb1 c0 c1 c2 c3 ck
        go_wp2_with fail
        go_ret
        exact ⟨rfl, HB1.out⟩
  have hd : ¬(0 ≤ n ∧ n ≤ 3) := hc
  clear hc
  by_cases hc : n = 5
  · rw [show fitC n r = r from by unfold fitC; rw [if_neg hd, if_pos hc]]
    have f1 : (n == 5) = true := by simp; omega
    have f2 : decide (0 ≤ n) = true := decide_eq_true (by omega)
    have f3 : decide (n ≤ 3) = false := decide_eq_false (by omega)
    clear hd hc
    cases M
    all_goals
      cases r
      all_goals
        go_enter Try.func13, Try.ntmps13
        go_wp2_with fail
        refine ck.mono ?_
        rintro e w1 ⟨rfl, hb1⟩
        have d0 := (hb1.cell (lt_of_cell HC0.out)).trans HC0.out
        have HB1 := Lib.hid (hg.trans (hb1.mono hg.size))
        clear hb1 c0 c1 c2 c3 ck
        go_wp2_with fail
        go_ret
        exact ⟨rfl, HB1.out⟩
  have he : ¬(n = 5) := hc
  clear hc
  by_cases hc : n < 0
  · rw [show fitC n r = false from by unfold fitC; rw [if_neg (by omega), if_neg (by omega)]]
    have f1 : (n == 5) = false := by simp; omega
    have f2 : decide (0 ≤ n) = false := decide_eq_false (by omega)
    clear hd he hc
    cases M
    all_goals
      cases r
      all_goals
        go_enter Try.func13, Try.ntmps13
        go_wp2_with fail
        refine ck.mono ?_
        rintro e w1 ⟨rfl, hb1⟩
        have d0 := (hb1.cell (lt_of_cell HC0.out)).trans HC0.out
        have HB1 := Lib.hid (hg.trans (hb1.mono hg.size))
        clear hb1 c0 c1 c2 c3 ck
        go_wp2_with fail
        go_ret
        exact ⟨rfl, HB1.out⟩
  have hf : ¬(n < 0) := hc
  clear hc
  rw [show fitC n r = false from by unfold fitC; rw [if_neg (by omega), if_neg (by omega)]]
  have f1 : (n == 5) = false := by simp; omega
  have f2 : decide (0 ≤ n) = true := decide_eq_true (by omega)
  have f3 : decide (n ≤ 3) = false := decide_eq_false (by omega)
  clear hd he hf
  cases M
  all_goals
    cases r
    all_goals
      go_enter Try.func13, Try.ntmps13
      go_wp2_with fail
      refine ck.mono ?_
      rintro e w1 ⟨rfl, hb1⟩
      have d0 := (hb1.cell (lt_of_cell HC0.out)).trans HC0.out
      have HB1 := Lib.hid (hg.trans (hb1.mono hg.size))
      clear hb1 c0 c1 c2 c3 ck
      go_wp2_with fail
      go_ret
      exact ⟨rfl, HB1.out⟩
end Go.Proofs.Ytmlmdhnjafakiaa

/-
  What the sixth reference's Call returns where there is no such call, and at a draw, as a contract over the translated program.
-/
namespace Go.Proofs.Ytmlmdhnjafakiaa
open Go Go.RowKit
set_option linter.unusedVariables false
set_option maxRecDepth 100000 in
set_option maxHeartbeats 40000000 in
theorem rc_arg (n : Int) (c : Cx) (a : Option Addr) (len cap : Nat) (sd : Int) (ts : List Tb) (ab : Option Addr) (an ap : Nat) (zs : List Int) (w : World) (h : TabsAt w a len cap ts) (hf : fewL ts) (hs : isW sd) (hz : WordsAt w ab an ap zs) (hne : (zs.length : Int) ≠ argsP n) : Calls Try.prog 8 #[.int .i64 n, envV c (.slice a len cap) sd, .slice ab an ap] w (RcPost (callP n (c, ts, sd) zs) w) := by
  rcases c with ⟨c0, c1, c2, c3⟩
  have hlm := hz.max
  have HFL := Lib.hid hf
  have HS := Lib.hid hs
  have HZl := Lib.hid hz.1
  obtain ⟨W0, hW0⟩ : ∃ W0, (w.alloc (.cells #[.int .u32 c0, .int .u32 c1, .int .u32 c2, .int .u32 c3, .slice a len cap, .int .u32 sd] 26)).alloc (.cells #[.int .u32 0, .int .u32 0, .int .u32 0, .int .u32 0, .slice none 0 0, .int .u32 0] 26) = W0 := ⟨_, rfl⟩
  have hs0 : W0.heap.size = w.heap.size + 1 + 1 := by rw [← hW0]; simp
  have hb0 : Below w.heap.size w W0 := by rw [← hW0]; exact box2 (Below.refl _ _) (Nat.le_refl _) _ _
  have HP : Hid (Box W0 w.heap.size 26 #[.int .u32 c0, .int .u32 c1, .int .u32 c2, .int .u32 c3, .slice a len cap, .int .u32 sd]) := by rw [← hW0]; exact Lib.hid ((Box.new w 26 _).alloc _)
  have HR : Hid (Box W0 (w.heap.size + 1) 26 #[.int .u32 0, .int .u32 0, .int .u32 0, .int .u32 0, .slice none 0 0, .int .u32 0]) := by
    rw [← hW0]
    have := Box.new (w.alloc (.cells #[.int .u32 c0, .int .u32 c1, .int .u32 c2, .int .u32 c3, .slice a len cap, .int .u32 sd] 26)) 26 #[.int .u32 0, .int .u32 0, .int .u32 0, .int .u32 0, .slice none 0 0, .int .u32 0]
    rw [show (w.alloc (.cells #[.int .u32 c0, .int .u32 c1, .int .u32 c2, .int .u32 c3, .slice a len cap, .int .u32 sd] 26)).heap.size = w.heap.size + 1 by simp] at this
    exact Lib.hid this
  have HT0 := Lib.hid (h.below hb0)
  have HZ0 := Lib.hid (hz.below hb0)
  have HB0 := Lib.hid hb0
  clear h hz hf hs
  obtain ⟨ar, har⟩ : ∃ ar, argsP n = ar := ⟨_, rfl⟩
  rw [callP_arg hne]
  have ca := fun W => rargs_any n W
  rw [har] at ca hne
  have hla : ((an : Int) != ar) = true := by simp; rw [← HZl.out]; exact hne
  obtain ⟨R, hR⟩ : ∃ R, w.heap.size + 1 = R := ⟨_, rfl⟩
  rw [hR] at HR
  have hRw : w.heap.size ≤ R := by omega
  clear hne har
  by_cases h0 : ar < 0
  · have d0 : decide (ar < 0) = true := decide_eq_true h0
    clear h0
    go_enter Try.func8, Try.ntmps8
    go_wp2_with fail
    clear hW0 hs0 hR
    refine (ca _).mono ?_
    rintro e m1 ⟨rfl, hb1⟩
    have HR1 := Lib.hid (HR.out.later hb1)
    have HB1 := Lib.hid (HB0.out.trans (hb1.mono HB0.out.size))
    clear ca hb1
    go_wp2_with (refine wpList_store_row rfl 26 _ _ rfl R _ rfl rfl 26 _ HR1.out (by kernel_rfl) rfl (by simp [Value.oneCell']) ?_)
    refine bodyPost_ret (v := .tuple #[envV (0, 0, 0, 0) (.slice none 0 0) 0, .int .u32 0, .int .i64 1]) ?_ rfl ?_
    · exact results_ev_three Try.results8 _ _ R 26 _ _ _ rfl rfl rfl rfl (setRow_heap _ _ _ _ _ _ HR1.out)
    · exact ⟨.slice none 0 0, rfl, below_setRow HB1.out hRw _, none, 0, rfl, rfl, Nat.le_refl _, Nat.zero_le _, .inl rfl⟩
  · have d0 : decide (ar < 0) = false := decide_eq_false h0
    clear h0
    go_enter Try.func8, Try.ntmps8
    go_wp2_with fail
    clear hW0 hs0 hR
    refine (ca _).mono ?_
    rintro e m1 ⟨rfl, hb1⟩
    go_wp2_with fail
    refine (ca _).mono ?_
    rintro e m2 ⟨rfl, hb2⟩
    have hb12 := hb1.trans (hb2.mono hb1.size)
    have HR1 := Lib.hid (HR.out.later hb12)
    have HB1 := Lib.hid (HB0.out.trans (hb12.mono HB0.out.size))
    clear ca hb1 hb2 hb12
    go_wp2_with (refine wpList_store_row rfl 26 _ _ rfl R _ rfl rfl 26 _ HR1.out (by kernel_rfl) rfl (by simp [Value.oneCell']) ?_)
    refine bodyPost_ret (v := .tuple #[envV (0, 0, 0, 0) (.slice none 0 0) 0, .int .u32 0, .int .i64 1]) ?_ rfl ?_
    · exact results_ev_three Try.results8 _ _ R 26 _ _ _ rfl rfl rfl rfl (setRow_heap _ _ _ _ _ _ HR1.out)
    · exact ⟨.slice none 0 0, rfl, below_setRow HB1.out hRw _, none, 0, rfl, rfl, Nat.le_refl _, Nat.zero_le _, .inl rfl⟩
set_option maxRecDepth 100000 in
set_option maxHeartbeats 40000000 in
theorem rc_draw (c : Cx) (a : Option Addr) (len cap : Nat) (sd : Int) (ts : List Tb) (ab : Option Addr) (an ap : Nat) (zs : List Int) (w : World) (h : TabsAt w a len cap ts) (hf : fewL ts) (hs : isW sd) (hz : WordsAt w ab an ap zs) (hlen0 : (zs.length : Int) = argsP 4) : Calls Try.prog 8 #[.int .i64 4, envV c (.slice a len cap) sd, .slice ab an ap] w (RcPost (callP 4 (c, ts, sd) zs) w) := by
  rcases c with ⟨c0, c1, c2, c3⟩
  have hlm := hz.max
  have HFL := Lib.hid hf
  have HS := Lib.hid hs
  have HZl := Lib.hid hz.1
  obtain ⟨W0, hW0⟩ : ∃ W0, (w.alloc (.cells #[.int .u32 c0, .int .u32 c1, .int .u32 c2, .int .u32 c3, .slice a len cap, .int .u32 sd] 26)).alloc (.cells #[.int .u32 0, .int .u32 0, .int .u32 0, .int .u32 0, .slice none 0 0, .int .u32 0] 26) = W0 := ⟨_, rfl⟩
  have hs0 : W0.heap.size = w.heap.size + 1 + 1 := by rw [← hW0]; simp
  have hb0 : Below w.heap.size w W0 := by rw [← hW0]; exact box2 (Below.refl _ _) (Nat.le_refl _) _ _
  have HP : Hid (Box W0 w.heap.size 26 #[.int .u32 c0, .int .u32 c1, .int .u32 c2, .int .u32 c3, .slice a len cap, .int .u32 sd]) := by rw [← hW0]; exact Lib.hid ((Box.new w 26 _).alloc _)
  have HR : Hid (Box W0 (w.heap.size + 1) 26 #[.int .u32 0, .int .u32 0, .int .u32 0, .int .u32 0, .slice none 0 0, .int .u32 0]) := by
    rw [← hW0]
    have := Box.new (w.alloc (.cells #[.int .u32 c0, .int .u32 c1, .int .u32 c2, .int .u32 c3, .slice a len cap, .int .u32 sd] 26)) 26 #[.int .u32 0, .int .u32 0, .int .u32 0, .int .u32 0, .slice none 0 0, .int .u32 0]
    rw [show (w.alloc (.cells #[.int .u32 c0, .int .u32 c1, .int .u32 c2, .int .u32 c3, .slice a len cap, .int .u32 sd] 26)).heap.size = w.heap.size + 1 by simp] at this
    exact Lib.hid this
  have HT0 := Lib.hid (h.below hb0)
  have HZ0 := Lib.hid (hz.below hb0)
  have HB0 := Lib.hid hb0
  clear h hz hf hs
  have HEq := Lib.hid (callP_draw (e := ((c0, c1, c2, c3), ts, sd)) hlen0)
  rw [show argsP 4 = 0 from by decide] at hlen0
  obtain ⟨ar, har⟩ : ∃ ar : Int, ar = 0 := ⟨_, rfl⟩
  have hlen : (an : Int) = ar := by rw [har]; have := HZl.out; omega
  have hla : ((an : Int) != ar) = false := by simp [hlen]
  have har0 : decide (ar < 0) = false := decide_eq_false (by omega)
  have ca := fun W => rargs_any 4 W
  rw [show argsP 4 = ar from by rw [har]; decide] at ca
  obtain ⟨R, hR⟩ : ∃ R, w.heap.size + 1 = R := ⟨_, rfl⟩
  rw [hR] at HR
  have hRw : w.heap.size < R := by omega
  have hRs : R < W0.heap.size := HR.out.lt
  clear har hlen
  go_enter Try.func8, Try.ntmps8
  go_wp2_with fail
  clear hW0 hs0 hR
  refine (ca _).mono ?_
  rintro e m1 ⟨rfl, hb1⟩
  go_wp2_with fail
  refine (ca _).mono ?_
  rintro e m2 ⟨rfl, hb2⟩
  have hb12 := hb1.trans (hb2.mono hb1.size)
  have HP2 := Lib.hid (HP.out.later hb12)
  have HR2 := Lib.hid (HR.out.later hb12)
  have HB2 := Lib.hid (HB0.out.trans (hb12.mono HB0.out.size))
  have HT2 := Lib.hid (HT0.out.below hb12)
  have HZ2 := Lib.hid (HZ0.out.below hb12)
  clear hb1 hb2 hb12 ca HP HR HB0 HT0 HZ0 hb0 hRs
  have k0 : m2.cell? ⟨w.heap.size, 0, none⟩ = some (.int .u32 c0) := HP2.out.cell rfl
  have k1 : m2.cell? ⟨w.heap.size, 1, none⟩ = some (.int .u32 c1) := HP2.out.cell rfl
  have k2 : m2.cell? ⟨w.heap.size, 2, none⟩ = some (.int .u32 c2) := HP2.out.cell rfl
  have k3 : m2.cell? ⟨w.heap.size, 3, none⟩ = some (.int .u32 c3) := HP2.out.cell rfl
  have k4 : m2.cell? ⟨w.heap.size, 4, none⟩ = some (.slice a len cap) := HP2.out.cell rfl
  have k5 : m2.cell? ⟨w.heap.size, 5, none⟩ = some (.int .u32 sd) := HP2.out.cell rfl
  go_wp2_with fail
  refine (eown_any (c0, c1, c2, c3) a len cap sd ts m2 HT2.out HFL.out).mono ?_
  rintro e m3 ⟨V, rfl, hb3, hT3⟩
  clear k0 k1 k2 k3 k4 k5 hla har0
  obtain ⟨vb, vc, rfl, _⟩ := hT3.at
  have HC3r : Hid (Cr w (m3.alloc (.cells (envA (c0, c1, c2, c3) (.slice vb ts.length vc) sd) 26)) R m3.heap.size (c0, c1, c2, c3) sd ts (.slice vb ts.length vc)) :=
    Lib.hid (Cr.new (HB2.out.trans (hb3.mono HB2.out.size)) (HR2.out.later hb3) (by omega) HR2.out.lt hT3)
  have HP3r := Lib.hid ((HP2.out.later hb3).alloc (.cells (envA (c0, c1, c2, c3) (.slice vb ts.length vc) sd) 26))
  have hb3a := hb3.trans (belowA m3 (.cells (envA (c0, c1, c2, c3) (.slice vb ts.length vc) sd) 26) |>.mono hb3.size)
  have HZ3r := Lib.hid (HZ2.out.below hb3a)
  have HT3r := Lib.hid (HT2.out.below hb3a)
  clear hb3 hb3a hT3 HP2 HR2 HB2 HT2 HZ2
  have p5 : (m3.alloc (.cells (envA (c0, c1, c2, c3) (.slice vb ts.length vc) sd) 26)).cell? ⟨w.heap.size, 5, none⟩ = some (.int .u32 sd) := HP3r.out.cell rfl
  go_wp2_with fail
  generalize hW3 : m3.alloc (.cells #[.int .u32 c0, .int .u32 c1, .int .u32 c2, .int .u32 c3, .slice vb ts.length vc, .int .u32 sd] 26) = W3 at *
  generalize hO : m3.heap.size = O at *
  clear hW3 hO
  refine (rdraw_any sd W3 HS.out).mono ?_
  intro e m4 hd4
  obtain ⟨hd4, hm4⟩ := hd4
  subst hd4
  subst m4
  obtain ⟨dv, hdv⟩ : ∃ dv, drawP sd = dv := ⟨_, rfl⟩
  (try simp only at HEq)
  rw [hdv] at HEq ⊢
  clear hdv p5
  have HC4 := Lib.hid (HC3r.out.seed dv)
  have hO5 := HC3r.out.2.2.1
  have f5 := hO5.free 5
  have e5 : W3.cell? ⟨O, 5, none⟩ = some (.int .u32 sd) := hO5.cell rfl
  clear hO5
  go_wp2_with fail
  generalize hW4 : W3.setCell ⟨O, 5, none⟩ (.int .u32 dv) = W4 at *
  clear hW4 e5 f5 HC3r HP3r HZ3r HT3r
  obtain ⟨y0, y1, y2, y3, y4, y5⟩ := HC4.out.cells
  simp only at y0 y1 y2 y3 y4 y5
  have HRx := Lib.hid HC4.out.2.1
  have HSx : Hid (∀ W', W4.grownBy W' (some R) → W'.cell? ⟨O, 0, none⟩ = some (.int .u32 c0) ∧ W'.cell? ⟨O, 1, none⟩ = some (.int .u32 c1) ∧ W'.cell? ⟨O, 2, none⟩ = some (.int .u32 c2) ∧ W'.cell? ⟨O, 3, none⟩ = some (.int .u32 c3) ∧ W'.cell? ⟨O, 4, none⟩ = some (.slice vb ts.length vc) ∧ W'.cell? ⟨O, 5, none⟩ = some (.int .u32 dv)) := Lib.hid (fun W' hg => by
    have hne : O ≠ R := by have := HC4.out.2.2.2.2.1; omega
    have far : ∀ j u, W4.cell? ⟨O, j, none⟩ = some u → W'.cell? ⟨O, j, none⟩ = some u := fun j u hu => (hg.cell_far ⟨O, j, none⟩ (lt_of_cell hu) (fun e => hne (Option.some.inj e))).trans hu
    exact ⟨far _ _ y0, far _ _ y1, far _ _ y2, far _ _ y3, far _ _ y4, far _ _ y5⟩)
  clear y0 y1 y2 y3 y4 y5
  refine wp_region_held_drew (S := (fun w' => w'.cell? ⟨O, 0, none⟩ = some (.int .u32 c0) ∧ w'.cell? ⟨O, 1, none⟩ = some (.int .u32 c1) ∧ w'.cell? ⟨O, 2, none⟩ = some (.int .u32 c2) ∧ w'.cell? ⟨O, 3, none⟩ = some (.int .u32 c3) ∧ w'.cell? ⟨O, 4, none⟩ = some (.slice vb ts.length vc) ∧ w'.cell? ⟨O, 5, none⟩ = some (.int .u32 dv))) (by kernel_rfl) (HSx.out _ (grownBy_of_below ((Below.refl _ _).drew) _)) (fun hHeld => ?_)
  refine wpAnyH_yield (i := 0) (v := ?v0) rfl rfl (by kernel_rfl) (by kernel_rfl) (by kernel_rfl) (fun _ _ _ h => h) (by rfl) ?hy0 hHeld ?rest0
  case hy0 =>
    intro w hSw
    (try dsimp only at hSw)
    go_simp
    try with_reducible rfl
  simp only [Act.put, List.setIfInBounds_toArray, List.set_cons_zero, List.set_cons_succ]
  refine wpAnyH_yield (i := 1) (v := ?v1) rfl rfl (by kernel_rfl) (by kernel_rfl) (by kernel_rfl) (fun _ _ _ h => h) (by rfl) ?hy1 hHeld ?rest1
  case hy1 =>
    intro w hSw
    (try dsimp only at hSw)
    go_simp
    try with_reducible rfl
  simp only [Act.put, List.setIfInBounds_toArray, List.set_cons_zero, List.set_cons_succ]
  refine wpAnyH_yield (i := 2) (v := ?v2) rfl rfl (by kernel_rfl) (by kernel_rfl) (by kernel_rfl) (fun _ _ _ h => h) (by rfl) ?hy2 hHeld ?rest2
  case hy2 =>
    intro w hSw
    (try dsimp only at hSw)
    go_simp
    try with_reducible rfl
  simp only [Act.put, List.setIfInBounds_toArray, List.set_cons_zero, List.set_cons_succ]
  refine wpAnyH_ready (rs := [3]) (by kernel_rfl) (by simp) ?_
  refine AllReadyH.cons rfl (fun K hK => ?_) AllReadyH.nil
  refine step_row _ (by rfl) 26 _ _ (by rfl) (by rfl) R #[.int .u32 c0, .int .u32 c1, .int .u32 c2, .int .u32 c3, .slice vb ts.length vc, .int .u32 dv] (by rfl) (by rfl) 26 _ HRx.out (by kernel_rfl) rfl (by simp [Value.oneCell']) ?_
  refine hK.out _ _ (HSx.out _ (gBy_trans (grownBy_of_below ((Below.refl _ _).drew) _) (grownBy_setRow _ _ _))) (fun hHeld => ?_)
  clear hK K
  try simp only [Act.put, List.setIfInBounds_toArray, List.set_cons_zero, List.set_cons_succ]
  refine wpAnyH_yield (i := 4) (v := ?v4) rfl rfl (by kernel_rfl) (by kernel_rfl) (by kernel_rfl) (fun _ _ _ h => h) (by rfl) ?hy4 hHeld ?rest4
  case hy4 =>
    intro w hSw
    (try dsimp only at hSw)
    go_simp
    try with_reducible rfl
  simp only [Act.put, List.setIfInBounds_toArray, List.set_cons_zero, List.set_cons_succ]
  refine wpAnyH_yield (i := 5) (v := ?v5) rfl rfl (by kernel_rfl) (by kernel_rfl) (by kernel_rfl) (fun _ _ _ h => h) (by rfl) ?hy5 hHeld ?rest5
  case hy5 =>
    intro w hSw
    (try dsimp only at hSw)
    go_simp
    try with_reducible rfl
  simp only [Act.put, List.setIfInBounds_toArray, List.set_cons_zero, List.set_cons_succ]
  refine wpAnyH_done (by kernel_rfl) ?_ _
  go_wp2_with fail
  refine bodyPost_ret (v := .tuple #[envV (c0, c1, c2, c3) (.slice vb ts.length vc) dv, .int .u32 dv, .int .i64 0]) ?_ rfl ?_
  · exact results_ev_three Try.results8 _ _ R 26 _ _ _ rfl rfl rfl rfl (setRow_heap _ _ _ _ _ _ HRx.out)
  · obtain ⟨z1, z2⟩ := (HC4.out.later ((Below.refl _ _).drew)).fin (envA (c0, c1, c2, c3) (.slice vb ts.length vc) dv)
    rw [HEq.out]
    exact ⟨_, rfl, z1, z2⟩
end Go.Proofs.Ytmlmdhnjafakiaa

