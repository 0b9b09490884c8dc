/-
  Whether two rows of bools are the same; what the eighth reference's May and Next return, as contracts over the translated program.
-/
import Derived.Test.YtdgfklmbglfbfaaDoorD3
import Derived.Test.YtdgfklmbglfbfaaDoorW
namespace Go.Proofs.YtdgfklmbglfbfaaDoor
open Go Go.RowKit
set_option linter.unusedVariables false
theorem bools_lenQ (a b : Option Addr) (la ca lb cb : Nat) (w : World) (hl : la ≠ lb) (_ha : la ≤ 9223372036854775807) (_hb : lb ≤ 9223372036854775807) :
    Calls Tryd.prog 14 #[.slice a la ca, .slice b lb cb] w fun e w' => e = .returned (.bool false) ∧ ∃ n, w' = w.drewN n := by
  have h8 : ¬ (la : Int) = (lb : Int) := by omega
  go_enter Tryd.func14, Tryd.ntmps14
  go_wp2
  go_ret
  exact ⟨rfl, 0, rfl⟩
theorem bools_sameQ (a b : Option Addr) (len ca cb : Nat) (zs ys : List Bool) (w : World) (h1 : BoolsAt w a len ca zs) (h2 : BoolsAt w b len cb ys) :
    Calls Tryd.prog 14 #[.slice a len ca, .slice b len cb] w fun e w' => e = .returned (.bool (decide (zs = ys))) ∧ ∃ n, w' = w.drewN n := by
  have hm' := h1.max
  have hz := h1.1
  have hy := h2.1
  have HX := Lib.hid h1.2.2.2
  have HY := Lib.hid h2.2.2.2
  clear h1 h2
  go_enter Tryd.func14, Tryd.ntmps14
  go_wp2
  go_loopw [5] (fun i wr => ∃ k : Nat, k ≤ len ∧ i = .int .i64 k ∧ Hid (∀ j, j < k → zs.getD j false = ys.getD j false) ∧ ∃ n, wr = w.drewN n) (fun i _ => len - (intOf i).toNat)
  case atStart => exact ⟨0, by omega, rfl, Lib.hid (fun j hj => absurd hj (by omega)), 0, rfl⟩
  case round =>
    obtain ⟨k, hk, rfl, HE, n, hn⟩ := hrel
    have HN := Lib.hid hn
    clear hn
    by_cases hlt : k < len
    · obtain ⟨x, rfl, hx1⟩ := HX.out.resolve_left (by omega)
      obtain ⟨y, rfl, hy1⟩ := HY.out.resolve_left (by omega)
      have c0 : wr.cell? (x.add k) = some (.bool (zs.getD k false)) := ((below_of_quiet ⟨n, HN.out⟩).cell (lt_of_cell (hx1 k hlt))).trans (hx1 k hlt)
      have c1 : wr.cell? (y.add k) = some (.bool (ys.getD k false)) := ((below_of_quiet ⟨n, HN.out⟩).cell (lt_of_cell (hy1 k hlt))).trans (hy1 k hlt)
      clear hx1 hy1
      by_cases he : zs.getD k false = ys.getD k false
      · have HK := Lib.hid he
        rw [← he] at c1
        generalize zs.getD k false = z at c0 c1
        clear he
        go_wp2
        go_quiet (fail)
        go_wp2
        refine ⟨⟨k + 1, by omega, by go_num, Lib.hid (fun j hj => ?_), n + nq, by rw [HN.out, World.drewN_drewN]⟩, by simp [intOf]; omega⟩
        rcases Nat.lt_succ_iff_lt_or_eq.1 hj with hj | rfl
        · exact HE.out j hj
        · exact HK.out
      · have HK := Lib.hid he
        generalize zs.getD k false = z at c0 he
        generalize ys.getD k false = y at c1 he
        rcases z with _ | _
        · obtain rfl : y = true := by simpa using he
          clear he
          go_wp2
          go_quiet (fail)
          go_wp2
          go_ret
          refine ⟨?_, n + nq, by rw [HN.out, World.drewN_drewN]⟩
          have hne : ¬ zs = ys := fun h => HK.out (by rw [h])
          simp [hne]
        · obtain rfl : y = false := by simpa using he
          clear he
          go_wp2
          go_quiet (fail)
          go_wp2
          go_ret
          refine ⟨?_, n + nq, by rw [HN.out, World.drewN_drewN]⟩
          have hne : ¬ zs = ys := fun h => HK.out (by rw [h])
          simp [hne]
    · have HK := Lib.hid (show k = len by omega)
      go_wp2
      go_ret
      refine ⟨?_, n, HN.out⟩
      have heq : zs = ys := list_eq_getD false zs ys (by rw [hz, hy]) (fun j hj => HE.out j (by rw [HK.out, ← hz]; exact hj))
      simp [heq]
theorem bools_Q (a b : Option Addr) (la ca lb cb : Nat) (zs ys : List Bool) (w : World) (h1 : BoolsAt w a la ca zs) (h2 : BoolsAt w b lb cb ys) :
    Calls Tryd.prog 14 #[.slice a la ca, .slice b lb cb] w fun e w' => e = .returned (.bool (decide (zs = ys))) ∧ ∃ n, w' = w.drewN n := by
  by_cases hl : la = lb
  · subst hl
    exact bools_sameQ a b la ca cb zs ys w h1 h2
  · have e : decide (zs = ys) = false := decide_eq_false (fun h => hl (by rw [← h1.1, ← h2.1, h]))
    rw [e]
    exact bools_lenQ a b la ca lb cb w hl h1.max h2.max
theorem bools_any (a b : Option Addr) (la ca lb cb : Nat) (zs ys : List Bool) (w : World) (h1 : BoolsAt w a la ca zs) (h2 : BoolsAt w b lb cb ys) :
    Calls Tryd.prog 14 #[.slice a la ca, .slice b lb cb] w fun e w' => e = .returned (.bool (decide (zs = ys))) ∧ Below w.heap.size w w' := by
  by_cases hl : la = lb
  · subst hl
    exact (bools_sameQ a b la ca cb zs ys w h1 h2).mono fun _ _ h => ⟨h.1, below_of_quiet h.2⟩
  · have e : decide (zs = ys) = false := decide_eq_false (fun h => hl (by rw [← h1.1, ← h2.1, h]))
    rw [e]
    exact (bools_lenQ a b la ca lb cb w hl h1.max h2.max).mono fun _ _ h => ⟨h.1, below_of_quiet h.2⟩



theorem rmay_any (a : Option Addr) (len cap : Nat) (c : List I) (w : World) (h : CodeAt w a len cap c) :
    Calls Tryd.prog 27 #[.slice a len cap] w fun e w' => e = .returned (.bool (codeB c)) ∧ Below w.heap.size w w' := by
  have k1 := code_any 0 a len cap c w h
  obtain ⟨Q, hQ⟩ : ∃ Q, codeB c = Q := ⟨_, rfl⟩
  rw [hQ] at k1 ⊢
  clear hQ h
  go_enter Tryd.func27, Tryd.ntmps27
  go_wp2_with fail
  refine k1.mono ?_
  rintro e m1 ⟨rfl, hb1⟩
  clear k1
  go_wp2_with fail
  go_ret
  exact ⟨rfl, hb1⟩
set_option maxRecDepth 100000 in
set_option maxHeartbeats 4000000 in
theorem rnext_any (a : Option Addr) (len cap : Nat) (c : List I) (at' : Int) (w : World) (h : CodeAt w a len cap c) :
    Calls Tryd.prog 13 #[.slice a len cap, .int .i64 at'] w (SucPost (nextP c at') w) := by
  have hm : len ≤ 9223372036854775807 := by have := h.2.1; have := h.2.2.1; unfold maxLen at this; omega
  have H := Lib.hid h
  have H1 := Lib.hid h.1
  obtain ⟨TS, hTS⟩ : ∃ TS, nextP c at' = TS := ⟨_, rfl⟩
  rw [hTS]
  have HT := Lib.hid hTS
  have k1 := rmay_any a len cap c w h
  clear hTS h
  go_enter Tryd.func13, Tryd.ntmps13
  go_wp2_with fail
  obtain ⟨Q, hQ⟩ : ∃ Q, codeB c = Q := ⟨_, rfl⟩
  rw [hQ] at k1
  have HQ := Lib.hid hQ
  clear hQ
  refine k1.mono ?_
  rintro e m1 ⟨rfl, hb1⟩
  have HB := Lib.hid hb1
  clear k1 hb1
  cases Q
  · have hT : Hid (TS = []) := Lib.hid (by rw [← HT.out, nextP, HQ.out]; simp)
    go_wp2_with fail
    go_ret
    exact ⟨none, 0, 0, rfl, HB.out, by rw [hT.out]; exact ints_nil _, fun y hy => by cases hy⟩
  by_cases h0 : at' < 0
  · have hT : Hid (TS = []) := Lib.hid (by rw [← HT.out, nextP, if_neg (by omega)])
    go_wp2_with fail
    go_ret
    exact ⟨none, 0, 0, rfl, HB.out, by rw [hT.out]; exact ints_nil _, fun y hy => by cases hy⟩
  by_cases hl : (len : Int) ≤ at'
  · have hT : Hid (TS = []) := Lib.hid (by rw [← HT.out, nextP, H1.out, if_neg (by omega)])
    go_wp2_with fail
    go_ret
    exact ⟨none, 0, 0, rfl, HB.out, by rw [hT.out]; exact ints_nil _, fun y hy => by cases hy⟩
  obtain ⟨k, rfl⟩ : ∃ k : Nat, at' = (k : Int) := ⟨at'.toNat, by omega⟩
  have hkl : k < len := by omega
  obtain ⟨y, rfl, hy⟩ := H.out.2.2.2.2.resolve_left (by omega)
  have hI := (hy k hkl).below HB.out
  have hok := H.out.2.2.2.1 _ (getD_mem c k zeroI (by rw [H1.out]; exact hkl))
  have hmay := codeB_at HQ.out (k := k) (by rw [H1.out]; exact hkl)
  have hoff := mayI_off hok hmay
  have href := (mayB_iff hok.1 hok.2).1 hmay
  have hT : Hid (TS = castL (sucP (c.getD k zeroI) k)) := Lib.hid (by
    rw [← HT.out, nextP, HQ.out, H1.out, if_pos ⟨rfl, by omega, by omega⟩]
    rfl)
  have hk64 : k ≤ 64 := by have := (codeB_len HQ.out).2; have := H1.out; omega
  rcases hi : c.getD k zeroI with ⟨o, f, d, s, r, x, m⟩
  rw [hi] at hI hoff hT href
  obtain ⟨i0, i1, i2, i3, i4, i5, i6⟩ := hI
  simp only at i0 i1 i2 i3 i4 i5 i6 hoff href
  obtain ⟨q, rfl⟩ : ∃ q : Nat, x = (q : Int) := ⟨x.toNat, by omega⟩
  have hq9 : (q : Int) ≤ 65535 := by omega
  have hq0 : (0 : Int) ≤ (q : Int) := Int.natCast_nonneg _
  have hk0 : (0 : Int) ≤ (k : Int) := Int.natCast_nonneg _
  have hk9 : (k : Int) ≤ 64 := by omega
  have hx1 : Hid (o ≠ 1 → q = 0) := Lib.hid (fun ho => by unfold refP at href; omega)
  clear hy hok hmay hoff hi href i2 i3 i4 i6
  by_cases h7 : o = 7
  · have hE : Hid (TS = []) := Lib.hid (by rw [hT.out, sucP, if_pos h7]; rfl)
    have hb7 : (o == 7) = true := by simpa using h7
    clear h7
    go_wp2_with fail
    go_ret
    exact ⟨none, 0, 0, rfl, HB.out, by rw [hE.out]; exact ints_nil _, fun y hy => by cases hy⟩
  have hb7 : (o == 7) = false := by simpa using h7
  by_cases h1 : o = 1
  · have hb1 : (o != 1) = false := by simpa using h1
    by_cases hz : q = 0
    · have hE : Hid (TS = [(k : Int) + 1]) := Lib.hid (by
        rw [hT.out, sucP, if_neg h7]
        subst hz
        split
        · simp [castL]
        · simp [castL])
      have hzb : ((q : Int) == 0) = true := by simp; omega
      clear h7 h1
      go_wp2_with fail
      go_ret
      exact ⟨_, _, _, rfl, HB.out.alloc HB.out.size _, by rw [hE.out]; exact ints_box [_] (by simp) (Box.new _ _ _), fun y hy => by cases hy; exact HB.out.size⟩
    have hzb : ((q : Int) == 0) = false := by simp; omega
    by_cases hf : f = 0
    · have hE : Hid (TS = [(k : Int) + 1 + (q : Int)]) := Lib.hid (by
        rw [hT.out, sucP, if_neg h7, if_pos ⟨h1, hf⟩]
        simp [castL])
      have hfb : (f == 0) = true := by simpa using hf
      clear h7 h1 hf
      go_wp2_with fail
      go_ret
      exact ⟨_, _, _, rfl, HB.out.alloc HB.out.size _, by rw [hE.out]; exact ints_box [_] (by simp) (Box.new _ _ _), fun y hy => by cases hy; exact HB.out.size⟩
    · have hE : Hid (TS = [(k : Int) + 1, (k : Int) + 1 + (q : Int)]) := Lib.hid (by
        rw [hT.out, sucP, if_neg h7, if_neg (fun h => hf h.2), if_pos (by show (0 : Int) < (q : Int); omega)]
        simp [castL])
      have hfb : (f == 0) = false := by simpa using hf
      clear h7 h1 hf
      go_wp2_with fail
      go_ret
      exact ⟨_, _, _, rfl, HB.out.alloc HB.out.size _, by rw [hE.out]; exact ints_box [_, _] (by simp) (Box.new _ _ _), fun y hy => by cases hy; exact HB.out.size⟩
  · have hb1 : (o != 1) = true := by simpa using h1
    have hE : Hid (TS = [(k : Int) + 1]) := Lib.hid (by
      have hz := hx1.out h1
      rw [hT.out, sucP, if_neg h7, if_neg (fun h => h1 h.1), if_neg (by show ¬ (0 : Int) < (q : Int); omega)]
      simp [castL])
    clear h7 h1
    go_wp2_with fail
    go_ret
    exact ⟨_, _, _, rfl, HB.out.alloc HB.out.size _, by rw [hE.out]; exact ints_box [_] (by simp) (Box.new _ _ _), fun y hy => by cases hy; exact HB.out.size⟩
end Go.Proofs.YtdgfklmbglfbfaaDoor
