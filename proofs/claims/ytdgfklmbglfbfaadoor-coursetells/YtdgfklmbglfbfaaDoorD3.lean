/-
  Whether two rows of ints are the same; the chapter's example comes out as it should: contracts over the translated program.
-/
import Derived.Test.YtdgfklmbglfbfaaDoorD2
import Derived.Test.YtdgfklmbglfbfaaDoorX1
namespace Go.Proofs.YtdgfklmbglfbfaaDoor
open Go Go.RowKit
set_option linter.unusedVariables false
theorem ints_lenQ (a b : Option Addr) (la ca lb cb : Nat) (w : World) (hl : la ≠ lb) (_ha : la ≤ 9223372036854775807) (_hb : lb ≤ 9223372036854775807) :
    Calls Tryd.prog 11 #[.slice a la ca, .slice b lb cb] w fun e w' => e = .returned (.bool false) ∧ ∃ n, w' = w.drewN n := by
  have h8 : ¬ (la : Int) = (lb : Int) := by omega
  go_enter Tryd.func11, Tryd.ntmps11
  go_wp2
  go_ret
  exact ⟨rfl, 0, rfl⟩
theorem ints_sameQ (a b : Option Addr) (len ca cb : Nat) (zs ys : List Int) (w : World) (h1 : IntsAt w a len ca zs) (h2 : IntsAt w b len cb ys) :
    Calls Tryd.prog 11 #[.slice a len ca, .slice b len cb] w fun e w' => e = .returned (.bool (decide (zs = ys))) ∧ ∃ n, w' = w.drewN n := by
  have hm' := h1.max
  have hz := h1.1
  have hy := h2.1
  have HX := Lib.hid h1.2.2.2
  have HY := Lib.hid h2.2.2.2
  clear h1 h2
  go_enter Tryd.func11, Tryd.ntmps11
  go_wp2
  go_loopw [5] (fun i wr => ∃ k : Nat, k ≤ len ∧ i = .int .i64 k ∧ Hid (∀ j, j < k → zs.getD j 0 = ys.getD j 0) ∧ ∃ n, wr = w.drewN n) (fun i _ => len - (intOf i).toNat)
  case atStart => exact ⟨0, by omega, rfl, Lib.hid (fun j hj => absurd hj (by omega)), 0, rfl⟩
  case round =>
    obtain ⟨k, hk, rfl, HE, n, hn⟩ := hrel
    have HN := Lib.hid hn
    clear hn
    by_cases hlt : k < len
    · obtain ⟨x, rfl, hx1⟩ := HX.out.resolve_left (by omega)
      obtain ⟨y, rfl, hy1⟩ := HY.out.resolve_left (by omega)
      have c0 : wr.cell? (x.add k) = some (.int .i64 (zs.getD k 0)) := ((below_of_quiet ⟨n, HN.out⟩).cell (lt_of_cell (hx1 k hlt))).trans (hx1 k hlt)
      have c1 : wr.cell? (y.add k) = some (.int .i64 (ys.getD k 0)) := ((below_of_quiet ⟨n, HN.out⟩).cell (lt_of_cell (hy1 k hlt))).trans (hy1 k hlt)
      clear hx1 hy1
      by_cases he : zs.getD k 0 = ys.getD k 0
      · have HK := Lib.hid he
        rw [← he] at c1
        generalize zs.getD k 0 = z at c0 c1
        clear he
        go_wp2
        go_quiet (fail)
        go_wp2
        refine ⟨⟨k + 1, by omega, by go_num, Lib.hid (fun j hj => ?_), n + nq, by rw [HN.out, World.drewN_drewN]⟩, by simp [intOf]; omega⟩
        rcases Nat.lt_succ_iff_lt_or_eq.1 hj with hj | rfl
        · exact HE.out j hj
        · exact HK.out
      · have HK := Lib.hid he
        generalize zs.getD k 0 = z at c0 he
        generalize ys.getD k 0 = y at c1 he
        go_wp2
        go_quiet (fail)
        go_wp2
        go_ret
        refine ⟨?_, n + nq, by rw [HN.out, World.drewN_drewN]⟩
        have hne : ¬ zs = ys := fun h => HK.out (by rw [h])
        simp [hne]
    · have HK := Lib.hid (show k = len by omega)
      go_wp2
      go_ret
      refine ⟨?_, n, HN.out⟩
      have heq : zs = ys := list_eq_getD 0 zs ys (by rw [hz, hy]) (fun j hj => HE.out j (by rw [HK.out, ← hz]; exact hj))
      simp [heq]
theorem ints_Q (a b : Option Addr) (la ca lb cb : Nat) (zs ys : List Int) (w : World) (h1 : IntsAt w a la ca zs) (h2 : IntsAt w b lb cb ys) :
    Calls Tryd.prog 11 #[.slice a la ca, .slice b lb cb] w fun e w' => e = .returned (.bool (decide (zs = ys))) ∧ ∃ n, w' = w.drewN n := by
  by_cases hl : la = lb
  · subst hl
    exact ints_sameQ a b la ca cb zs ys w h1 h2
  · have e : decide (zs = ys) = false := decide_eq_false (fun h => hl (by rw [← h1.1, ← h2.1, h]))
    rw [e]
    exact ints_lenQ a b la ca lb cb w hl h1.max h2.max
theorem ints_any (a b : Option Addr) (la ca lb cb : Nat) (zs ys : List Int) (w : World) (h1 : IntsAt w a la ca zs) (h2 : IntsAt w b lb cb ys) :
    Calls Tryd.prog 11 #[.slice a la ca, .slice b lb cb] w fun e w' => e = .returned (.bool (decide (zs = ys))) ∧ Below w.heap.size w w' := by
  by_cases hl : la = lb
  · subst hl
    exact (ints_sameQ a b la ca cb zs ys w h1 h2).mono fun _ _ h => ⟨h.1, below_of_quiet h.2⟩
  · have e : decide (zs = ys) = false := decide_eq_false (fun h => hl (by rw [← h1.1, ← h2.1, h]))
    rw [e]
    exact (ints_lenQ a b la ca lb cb w hl h1.max h2.max).mono fun _ _ h => ⟨h.1, below_of_quiet h.2⟩


def exC : List I := [(1, 1, 0, 0, false, 1, 0), (0, 0, 0, 0, false, 0, 0), (7, 0, 0, 0, false, 0, 0)]
abbrev exA : Array Value := #[.int .i64 1, .int .i64 1, .int .i64 0, .int .i64 0, .bool false, .int .i64 1, .int .u32 0, .int .i64 0, .int .i64 0, .int .i64 0, .int .i64 0, .bool false, .int .i64 0, .int .u32 0, .int .i64 7, .int .i64 0, .int .i64 0, .int .i64 0, .bool false, .int .i64 0, .int .u32 0]
theorem exC_at {W : World} {g : Nat} {t : TypeId} (h : Box W g t exA) : CodeAt W (some ⟨g, 0, none⟩) 3 3 exC := by
  refine ⟨rfl, Nat.le_refl _, by unfold maxLen; omega, fun i hi => ?_, .inr ⟨_, rfl, fun k hk => ?_⟩⟩
  · simp only [exC, List.mem_cons, List.not_mem_nil, or_false] at hi
    rcases hi with rfl | rfl | rfl <;> exact ⟨by decide, by decide⟩
  · rw [addr_add]
    match k, hk with
    | 0, _ => exact ⟨h.cell rfl, h.cell rfl, h.cell rfl, h.cell rfl, h.cell rfl, h.cell rfl, h.cell rfl⟩
    | 1, _ => exact ⟨h.cell rfl, h.cell rfl, h.cell rfl, h.cell rfl, h.cell rfl, h.cell rfl, h.cell rfl⟩
    | 2, _ => exact ⟨h.cell rfl, h.cell rfl, h.cell rfl, h.cell rfl, h.cell rfl, h.cell rfl, h.cell rfl⟩
theorem exP_at {W : World} {g : Nat} {t : TypeId} {b : Option Addr} {l cp : Nat} {c : List I} (h : Box W g t #[.int .i64 0, .slice b l cp]) (hc : CodeAt W b l cp c) : FnsAt W (some ⟨g, 0, none⟩) 1 1 [(0, c)] := by
  refine ⟨rfl, Nat.le_refl _, by unfold maxLen; omega, .inr ⟨_, rfl, fun k hk => ?_⟩⟩
  obtain rfl : k = 0 := by omega
  rw [addr_add]
  exact ⟨h.cell rfl, b, l, cp, h.cell rfl, hc⟩
theorem ex_next : nextP exC 0 = [1, 2] := by kernel_rfl
theorem ex_long : longP [] exC = 3 := by kernel_rfl
theorem ex_fine : fineP exC = true := by kernel_rfl
theorem ex_bud : budP [(0, exC)] = 3 := by kernel_rfl
set_option maxRecDepth 100000 in
set_option maxHeartbeats 8000000 in
theorem awake_any (w : World) (hR : RowsIn w) : Calls Tryd.prog 9 #[] w fun e w' => e = .returned (.bool true) ∧ Below w.heap.size w w' := by
  have hba : Below w.heap.size w (w.alloc (.cells exA 53)) := (Below.refl _ _).alloc (Nat.le_refl _) _
  have hBx := Box.new w 53 exA
  have HB := Lib.hid hba
  have HR := Lib.hid (hR.later hba)
  have HBx := Lib.hid hBx
  clear hba hBx
  go_enter Tryd.func9, Tryd.ntmps9
  go_wp2_with fail
  generalize hW0 : w.alloc (.cells #[.int .i64 1, .int .i64 1, .int .i64 0, .int .i64 0, .bool false, .int .i64 1, .int .u32 0, .int .i64 0, .int .i64 0, .int .i64 0, .int .i64 0, .bool false, .int .i64 0, .int .u32 0, .int .i64 7, .int .i64 0, .int .i64 0, .int .i64 0, .bool false, .int .i64 0, .int .u32 0] 53) = W0 at *
  obtain ⟨G, hG⟩ : ∃ G, w.heap.size = G := ⟨_, rfl⟩
  rw [hG] at HBx
  clear hW0
  have k1 := next_any (some ⟨G, 0, none⟩) 3 3 exC 0 W0 HR.out (exC_at HBx.out)
  rw [ex_next] at k1
  rw [hG]
  refine k1.mono ?_
  rintro e m1 ⟨b, l, cp, rfl, hb1, hI1, _⟩
  have HB1 := Lib.hid (HB.out.trans (hb1.mono HB.out.size))
  have HR1 := Lib.hid (HR.out.later hb1)
  have HBx1 := Lib.hid (HBx.out.later hb1)
  have HI1 := Lib.hid hI1
  have hb2 : Below m1.heap.size m1 (m1.alloc (.cells #[.int .i64 1, .int .i64 2] 3)) := (Below.refl _ _).alloc (Nat.le_refl _) _
  have HI2 : Hid (IntsAt (m1.alloc (.cells #[.int .i64 1, .int .i64 2] 3)) (some ⟨m1.heap.size, 0, none⟩) 2 2 [1, 2]) := Lib.hid (ints_box [1, 2] (by simp) (Box.new _ _ _))
  have HI3 := Lib.hid (HI1.out.below hb2)
  have HB2 := Lib.hid (HB1.out.trans (hb2.mono HB1.out.size))
  have HR2 := Lib.hid (HR1.out.later hb2)
  have HBx2 := Lib.hid (HBx1.out.later hb2)
  clear k1 hb1 hI1 hb2 HB HR HBx HB1 HR1 HBx1 HI1 hG
  go_wp2_with fail
  generalize hW2 : m1.alloc (.cells #[.int .i64 1, .int .i64 2] 3) = W2 at *
  generalize hm1 : m1.heap.size = g at *
  clear hW2 hm1
  refine (ints_any b (some ⟨g, 0, none⟩) l cp 2 2 [1, 2] [1, 2] W2 HI3.out HI2.out).mono ?_
  rintro e m2 ⟨rfl, hb2⟩
  rw [show decide (([1, 2] : List Int) = [1, 2]) = true by decide]
  have HB3 := Lib.hid (HB2.out.trans (hb2.mono HB2.out.size))
  have HR3 := Lib.hid (HR2.out.later hb2)
  have HBx3 := Lib.hid (HBx2.out.later hb2)
  clear hb2 HI2 HI3 HB2 HR2 HBx2
  go_wp2_with fail
  have k2 := long_any (some ⟨G, 0, none⟩) 3 3 exC none 0 0 [] m2 HR3.out (exC_at HBx3.out) (ints_nil m2)
  rw [ex_long] at k2
  refine k2.mono ?_
  rintro e m3 ⟨rfl, hb3⟩
  have HB4 := Lib.hid (HB3.out.trans (hb3.mono HB3.out.size))
  have HR4 := Lib.hid (HR3.out.later hb3)
  have HBx4 := Lib.hid (HBx3.out.later hb3)
  clear hb3 k2 HB3 HR3 HBx3
  go_wp2_with fail
  have k3 := fine_any (some ⟨G, 0, none⟩) 3 3 exC m3 HR4.out (exC_at HBx4.out)
  rw [ex_fine] at k3
  refine k3.mono ?_
  rintro e m4 ⟨rfl, hb3⟩
  have HB5 := Lib.hid (HB4.out.trans (hb3.mono HB4.out.size))
  have HR5 := Lib.hid (HR4.out.later hb3)
  have HBx5 := Lib.hid (HBx4.out.later hb3)
  clear hb3 k3 HB4 HR4 HBx4
  have hb6 : Below m4.heap.size m4 (m4.alloc (.cells #[.int .i64 0, .slice (some ⟨G, 0, none⟩) 3 3] 46)) := (Below.refl _ _).alloc (Nat.le_refl _) _
  have HB6 := Lib.hid (HB5.out.trans (hb6.mono HB5.out.size))
  have HR6 := Lib.hid (HR5.out.later hb6)
  have HP6 : Hid (FnsAt (m4.alloc (.cells #[.int .i64 0, .slice (some ⟨G, 0, none⟩) 3 3] 46)) (some ⟨m4.heap.size, 0, none⟩) 1 1 [(0, exC)]) := Lib.hid (exP_at (Box.new _ _ _) (exC_at (HBx5.out.later hb6)))
  clear hb6 HB5 HR5 HBx5
  go_wp2_with fail
  generalize hW6 : m4.alloc (.cells #[.int .i64 0, .slice (some ⟨G, 0, none⟩) 3 3] 46) = W6 at *
  generalize hm4 : m4.heap.size = g4 at *
  clear hW6 hm4
  have k4 := budget_any (some ⟨g4, 0, none⟩) 1 1 [(0, exC)] W6 HR6.out HP6.out
  rw [ex_bud] at k4
  refine k4.mono ?_
  rintro e m5 ⟨rfl, hb3⟩
  have HB7 := Lib.hid (HB6.out.trans (hb3.mono HB6.out.size))
  clear k4 hb3
  go_wp2_with fail
  go_ret
  exact ⟨rfl, HB7.out⟩
end Go.Proofs.YtdgfklmbglfbfaaDoor
