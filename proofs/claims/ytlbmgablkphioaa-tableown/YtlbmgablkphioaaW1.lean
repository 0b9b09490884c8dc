/-
  Whether two rows of words, two entries, are the same, as contracts over the translated program.
-/
import Derived.Test.YtlbmgablkphioaaTS
import Derived.Test.YtlbmgablkphioaaU6
namespace Go.Proofs.Ytlbmgablkphioaa
open Go Go.RowKit
set_option linter.unusedVariables false

theorem eqw_len (a b : Option Addr) (la ca lb cb : Nat) (w : World) (hl : la ≠ lb) (_ha : la ≤ 9223372036854775807) (_hb : lb ≤ 9223372036854775807) :
    Calls Try.prog 57 #[.slice a la ca, .slice b lb cb] w fun e w' => e = .returned (.bool false) ∧ ∃ n, w' = w.drewN n := by
  have h8 : ¬ (la : Int) = (lb : Int) := by omega
  go_enter Try.func57, Try.ntmps57
  go_wp2
  go_ret
  exact ⟨rfl, 0, rfl⟩
theorem eqw_same (a b : Option Addr) (len ca cb : Nat) (zs ys : List Int) (w : World) (h1 : WordsAt w a len ca zs) (h2 : WordsAt w b len cb ys) :
    Calls Try.prog 57 #[.slice a len ca, .slice b len cb] w fun e w' => e = .returned (.bool (decide (zs = ys))) ∧ ∃ n, w' = w.drewN n := by
  have hm' := h1.max
  have hz := h1.1
  have hy := h2.1
  have HX := Lib.hid h1.2.2.2.2
  have HY := Lib.hid h2.2.2.2.2
  clear h1 h2
  go_enter Try.func57, Try.ntmps57
  go_wp2
  go_loopw [13] (fun i wr => ∃ k : Nat, k ≤ len ∧ i = .int .i64 k ∧ Hid (∀ j, j < k → zs.getD j 0 = ys.getD j 0) ∧ ∃ n, wr = w.drewN n) (fun i _ => len - (intOf i).toNat)
  case atStart => exact ⟨0, by omega, rfl, Lib.hid (fun j hj => absurd hj (by omega)), 0, rfl⟩
  case round =>
    obtain ⟨k, hk, rfl, HE, n, hn⟩ := hrel
    have HN := Lib.hid hn
    clear hn
    by_cases hlt : k < len
    · obtain ⟨x, rfl, hx1⟩ := HX.out.resolve_left (by omega)
      obtain ⟨y, rfl, hy1⟩ := HY.out.resolve_left (by omega)
      have c0 : wr.cell? (x.add k) = some (.int .u32 (zs.getD k 0)) := ((below_of_quiet ⟨n, HN.out⟩).cell (lt_of_cell (hx1 k hlt))).trans (hx1 k hlt)
      have c1 : wr.cell? (y.add k) = some (.int .u32 (ys.getD k 0)) := ((below_of_quiet ⟨n, HN.out⟩).cell (lt_of_cell (hy1 k hlt))).trans (hy1 k hlt)
      clear hx1 hy1
      by_cases he : zs.getD k 0 = ys.getD k 0
      · have HK := Lib.hid he
        have hq : (zs.getD k 0 != ys.getD k 0) = false := by simpa using he
        generalize zs.getD k 0 = z at c0 c1 hq
        generalize ys.getD k 0 = y at c1 hq
        clear he
        go_wp2
        go_quiet (fail)
        go_wp2
        refine ⟨⟨k + 1, by omega, by go_num, Lib.hid (fun j hj => ?_), n + nq, by rw [HN.out, World.drewN_drewN]⟩, by simp [intOf]; omega⟩
        rcases Nat.lt_succ_iff_lt_or_eq.1 hj with hj | rfl
        · exact HE.out j hj
        · exact HK.out
      · have HK := Lib.hid he
        have hq : (zs.getD k 0 != ys.getD k 0) = true := by simpa using he
        generalize zs.getD k 0 = z at c0 hq
        generalize ys.getD k 0 = y at c1 hq
        clear he
        go_wp2
        go_quiet (fail)
        go_wp2
        go_ret
        refine ⟨?_, n + nq, by rw [HN.out, World.drewN_drewN]⟩
        have hne : ¬ zs = ys := fun h => HK.out (by rw [h])
        simp [hne]
    · have HK := Lib.hid (show k = len by omega)
      go_wp2
      go_ret
      refine ⟨?_, n, HN.out⟩
      have heq : zs = ys := list_eq_getD 0 zs ys (by rw [hz, hy]) (fun j hj => HE.out j (by rw [HK.out, ← hz]; exact hj))
      simp [heq]
theorem eqw_any (a b : Option Addr) (la ca lb cb : Nat) (zs ys : List Int) (w : World) (h1 : WordsAt w a la ca zs) (h2 : WordsAt w b lb cb ys) :
    Calls Try.prog 57 #[.slice a la ca, .slice b lb cb] w fun e w' => e = .returned (.bool (decide (zs = ys))) ∧ Below w.heap.size w w' := by
  by_cases hl : la = lb
  · subst hl
    exact (eqw_same a b la ca cb zs ys w h1 h2).mono fun _ _ h => ⟨h.1, below_of_quiet h.2⟩
  · have e : decide (zs = ys) = false := decide_eq_false (fun h => hl (by rw [← h1.1, ← h2.1, h]))
    rw [e]
    exact (eqw_len a b la ca lb cb w hl h1.max h2.max).mono fun _ _ h => ⟨h.1, below_of_quiet h.2⟩

set_option maxHeartbeats 2000000 in
theorem sameEntry_any (k : Int) (a : Option Addr) (la ca : Nat) (zs : List Int) (k' : Int) (b : Option Addr) (lb cb : Nat) (ys : List Int) (w : World) (h1 : WordsAt w a la ca zs) (h2 : WordsAt w b lb cb ys) :
    Calls Try.prog 54 #[.agg #[.int .u32 k, .slice a la ca], .agg #[.int .u32 k', .slice b lb cb]] w fun e w' => e = .returned (.bool (decide (((k, zs) : Ent) = (k', ys)))) ∧ Below w.heap.size w w' := by
  obtain ⟨W, hW⟩ : ∃ W, (w.alloc (.cells #[.int .u32 k, .slice a la ca] 48)).alloc (.cells #[.int .u32 k', .slice b lb cb] 48) = W := ⟨_, rfl⟩
  have hb : Below w.heap.size w W := by rw [← hW]; exact box2 (Below.refl _ _) (Nat.le_refl _) _ _
  have hB : Box W w.heap.size 48 #[.int .u32 k, .slice a la ca] := by rw [← hW]; exact (Box.new w 48 _).alloc _
  have hB' : Box W (w.heap.size + 1) 48 #[.int .u32 k', .slice b lb cb] := by
    rw [← hW]
    have := Box.new (w.alloc (.cells #[.int .u32 k, .slice a la ca] 48)) 48 #[.int .u32 k', .slice b lb cb]
    rwa [show (w.alloc (.cells #[.int .u32 k, .slice a la ca] 48)).heap.size = w.heap.size + 1 by simp] at this
  have d0 : W.cell? ⟨w.heap.size, 0, none⟩ = some (.int .u32 k) := hB.cell rfl
  have d1 : W.cell? ⟨w.heap.size, 1, none⟩ = some (.slice a la ca) := hB.cell rfl
  have f0 : W.cell? ⟨w.heap.size + 1, 0, none⟩ = some (.int .u32 k') := hB'.cell rfl
  have f1 : W.cell? ⟨w.heap.size + 1, 1, none⟩ = some (.slice b lb cb) := hB'.cell rfl
  have H1 := Lib.hid (h1.below hb)
  have H2 := Lib.hid (h2.below hb)
  have HB := Lib.hid hb
  obtain ⟨R, hR⟩ : ∃ R, decide (((k, zs) : Ent) = (k', ys)) = R := ⟨_, rfl⟩
  rw [hR]
  have HR := Lib.hid hR
  clear hR h1 h2 hb hB hB'
  by_cases hk : k = k'
  · have hq : (k == k') = true := by simpa using hk
    have HK := Lib.hid hk
    clear hk
    go_enter Try.func54, Try.ntmps54
    go_wp2_with fail
    refine (eqw_any a b la ca lb cb zs ys W H1.out H2.out).mono ?_
    rintro e w1 ⟨rfl, hb1⟩
    have HB1 := Lib.hid (HB.out.trans (hb1.mono HB.out.size))
    have HZ : Hid (R = decide (zs = ys)) := Lib.hid (by rw [← HR.out, HK.out]; simp)
    clear hb1
    generalize decide (zs = ys) = q at *
    go_wp2
    go_ret
    exact ⟨by rw [HZ.out]; rfl, HB1.out⟩
  · have hq : (k == k') = false := by simpa using hk
    have HZ : Hid (R = false) := Lib.hid (by rw [← HR.out]; simp [hk])
    clear hk
    go_enter Try.func54, Try.ntmps54
    go_wp2
    go_ret
    exact ⟨by rw [HZ.out]; rfl, HB.out⟩
end Go.Proofs.Ytlbmgablkphioaa
