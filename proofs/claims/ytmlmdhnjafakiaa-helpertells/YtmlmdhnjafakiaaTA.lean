/-
  What the references' Words, At and Same return, as contracts over the translated program: whether two rows of words are the same, where a key is, whether two tables are the same.
-/
import Derived.Test.YtmlmdhnjafakiaaTM
namespace Go.Proofs.Ytmlmdhnjafakiaa
open Go.RowKit

theorem words_lenQ (a b : Option Addr) (la ca lb cb : Nat) (w : World) (hl : la ≠ lb) (_ha : la ≤ 9223372036854775807) (_hb : lb ≤ 9223372036854775807) :
    Calls Try.prog 62 #[.slice a la ca, .slice b lb cb] w fun e w' => e = .returned (.bool false) ∧ ∃ n, w' = w.drewN n := by
  have h8 : ¬ (la : Int) = (lb : Int) := by omega
  go_enter Try.func62, Try.ntmps62
  go_wp2
  go_ret
  exact ⟨rfl, 0, rfl⟩
theorem words_sameQ (a b : Option Addr) (len ca cb : Nat) (zs ys : List Int) (w : World) (h1 : WordsAt w a len ca zs) (h2 : WordsAt w b len cb ys) :
    Calls Try.prog 62 #[.slice a len ca, .slice b len cb] w fun e w' => e = .returned (.bool (decide (zs = ys))) ∧ ∃ n, w' = w.drewN n := by
  have hm' := h1.max
  have hz := h1.1
  have hy := h2.1
  have HX := Lib.hid h1.2.2.2.2
  have HY := Lib.hid h2.2.2.2.2
  clear h1 h2
  go_enter Try.func62, Try.ntmps62
  go_wp2
  go_loopw [5] (fun i wr => ∃ k : Nat, k ≤ len ∧ i = .int .i64 k ∧ Hid (∀ j, j < k → zs.getD j 0 = ys.getD j 0) ∧ ∃ n, wr = w.drewN n) (fun i _ => len - (intOf i).toNat)
  case atStart => exact ⟨0, by omega, rfl, Lib.hid (fun j hj => absurd hj (by omega)), 0, rfl⟩
  case round =>
    obtain ⟨k, hk, rfl, HE, n, hn⟩ := hrel
    have HN := Lib.hid hn
    clear hn
    by_cases hlt : k < len
    · obtain ⟨x, rfl, hx1⟩ := HX.out.resolve_left (by omega)
      obtain ⟨y, rfl, hy1⟩ := HY.out.resolve_left (by omega)
      have c0 : wr.cell? (x.add k) = some (.int .u32 (zs.getD k 0)) := ((below_of_quiet ⟨n, HN.out⟩).cell (lt_of_cell (hx1 k hlt))).trans (hx1 k hlt)
      have c1 : wr.cell? (y.add k) = some (.int .u32 (ys.getD k 0)) := ((below_of_quiet ⟨n, HN.out⟩).cell (lt_of_cell (hy1 k hlt))).trans (hy1 k hlt)
      clear hx1 hy1
      by_cases he : zs.getD k 0 = ys.getD k 0
      · have HK := Lib.hid he
        rw [← he] at c1
        generalize zs.getD k 0 = z at c0 c1
        clear he
        go_wp2
        go_quiet (fail)
        go_wp2
        refine ⟨⟨k + 1, by omega, by go_num, Lib.hid (fun j hj => ?_), n + nq, by rw [HN.out, World.drewN_drewN]⟩, by simp [intOf]; omega⟩
        rcases Nat.lt_succ_iff_lt_or_eq.1 hj with hj | rfl
        · exact HE.out j hj
        · exact HK.out
      · have HK := Lib.hid he
        generalize zs.getD k 0 = z at c0 he
        generalize ys.getD k 0 = y at c1 he
        go_wp2
        go_quiet (fail)
        go_wp2
        go_ret
        refine ⟨?_, n + nq, by rw [HN.out, World.drewN_drewN]⟩
        have hne : ¬ zs = ys := fun h => HK.out (by rw [h])
        simp [hne]
    · have HK := Lib.hid (show k = len by omega)
      go_wp2
      go_ret
      refine ⟨?_, n, HN.out⟩
      have heq : zs = ys := list_eq_getD 0 zs ys (by rw [hz, hy]) (fun j hj => HE.out j (by rw [HK.out, ← hz]; exact hj))
      simp [heq]
theorem words_Q (a b : Option Addr) (la ca lb cb : Nat) (zs ys : List Int) (w : World) (h1 : WordsAt w a la ca zs) (h2 : WordsAt w b lb cb ys) :
    Calls Try.prog 62 #[.slice a la ca, .slice b lb cb] w fun e w' => e = .returned (.bool (decide (zs = ys))) ∧ ∃ n, w' = w.drewN n := by
  by_cases hl : la = lb
  · subst hl
    exact words_sameQ a b la ca cb zs ys w h1 h2
  · have e : decide (zs = ys) = false := decide_eq_false (fun h => hl (by rw [← h1.1, ← h2.1, h]))
    rw [e]
    exact words_lenQ a b la ca lb cb w hl h1.max h2.max
theorem words_any (a b : Option Addr) (la ca lb cb : Nat) (zs ys : List Int) (w : World) (h1 : WordsAt w a la ca zs) (h2 : WordsAt w b lb cb ys) :
    Calls Try.prog 62 #[.slice a la ca, .slice b lb cb] w fun e w' => e = .returned (.bool (decide (zs = ys))) ∧ Below w.heap.size w w' := by
  by_cases hl : la = lb
  · subst hl
    exact (words_sameQ a b la ca cb zs ys w h1 h2).mono fun _ _ h => ⟨h.1, below_of_quiet h.2⟩
  · have e : decide (zs = ys) = false := decide_eq_false (fun h => hl (by rw [← h1.1, ← h2.1, h]))
    rw [e]
    exact (words_lenQ a b la ca lb cb w hl h1.max h2.max).mono fun _ _ h => ⟨h.1, below_of_quiet h.2⟩

set_option maxHeartbeats 2000000 in
theorem at_any (s : Sc) (a : Option Addr) (len cap : Nat) (x key : Int) (es : List Ent) (w : World) (h : EntsAt w a len cap es) :
    Calls Try.prog 25 #[tbV s (.slice a len cap) x, .int .u32 key] w fun e w' => e = .returned (.int .i64 (atI es key)) ∧ Below w.heap.size w w' := by
  have hm := h.max
  have hb : Below w.heap.size w (w.alloc (tbO s (.slice a len cap) x)) := (Below.refl _ _).alloc (Nat.le_refl _) _
  have H1 := Lib.hid h.1
  have HE := Lib.hid (h.below hb).2.2.2
  have HT := Lib.hid (tbAt_new w s (.slice a len cap) x)
  clear h
  rcases s with ⟨s0, s1, s2, s3⟩
  go_enter Try.func25, Try.ntmps25
  go_wp2
  generalize hW : w.alloc (.cells #[.int .i64 s0, .int .i64 s1, .int .i64 s2, .int .i64 s3, .slice a len cap, .int .u32 x] 44) = W at *
  clear hW
  go_loopw [5] (fun i wr => ∃ k : Nat, k ≤ len ∧ i = .int .i64 k ∧ Hid (∀ j, j < k → (es.getD j zeroE).1 ≠ key) ∧ wr = W) (fun i _ => len - (intOf i).toNat)
  case atStart => exact ⟨0, by omega, rfl, Lib.hid (fun j hj => absurd hj (by omega)), rfl⟩
  case round =>
    obtain ⟨k, hk, rfl, HF, rfl⟩ := hrel
    obtain ⟨d0, d1, d2, d3, d4, d5⟩ := HT.out
    simp only at d0 d1 d2 d3 d4 d5
    by_cases hkl : k < len
    · have hkI : (k : Int) < (len : Int) := by omega
      obtain ⟨y, rfl, hy⟩ := HE.out.resolve_left (by omega)
      obtain ⟨c0, _, _⟩ := hy k hkl
      clear hy
      by_cases he : (es.getD k zeroE).1 = key
      · have HR := Lib.hid (atI_some (atE_is (by rw [H1.out]; exact hkl) he HF.out))
        have hq : ((es.getD k zeroE).1 == key) = true := by simpa using he
        generalize (es.getD k zeroE).1 = z at c0 hq
        clear he
        go_wp2
        go_ret
        exact ⟨by rw [HR.out]; rfl, hb⟩
      · have HK := Lib.hid he
        have hq : ((es.getD k zeroE).1 == key) = false := by simpa using he
        generalize (es.getD k zeroE).1 = z at c0 hq
        clear he
        go_wp2
        refine ⟨⟨k + 1, by omega, by go_num, Lib.hid (fun j hj => ?_), by trivial⟩, by simp [intOf]; omega⟩
        rcases Nat.lt_succ_iff_lt_or_eq.1 hj with hj | rfl
        · exact HF.out j hj
        · exact HK.out
    · have hkI : ¬ (k : Int) < (len : Int) := by omega
      have HR := Lib.hid (atI_none (atE_no (es := es) (key := key) (fun j hj => HF.out j (by rw [H1.out] at hj; omega))))
      go_wp2
      go_ret
      exact ⟨by rw [HR.out]; rfl, hb⟩
end Go.Proofs.Ytmlmdhnjafakiaa
