/-
  What package course's Fine returns, as a contract over the translated program.
-/
import Derived.Test.YtdgfklmbglfbfaaDoorC7
namespace Go.Proofs.YtdgfklmbglfbfaaDoor
open Go Go.RowKit
set_option linter.unusedVariables false
theorem IntsAt.kept {W W' : World} {b : Option Addr} {l cp : Nat} {zs : List Int} (h : IntsAt W b l cp zs) (hk : ∀ y, b = some y → W'.heap[y.block]? = W.heap[y.block]?) : IntsAt W' b l cp zs := by
  obtain ⟨h1, h2, h3, h4⟩ := h
  refine ⟨h1, h2, h3, h4.imp id (fun ⟨y, e, h⟩ => ⟨y, e, fun j hj => ?_⟩)⟩
  have e1 : (y.add j).block = y.block := add_block y j
  have := hk y e
  rw [← h j hj]
  unfold World.cell?
  rw [e1, this]
theorem grownBy_refl (w : World) (row : Option Nat) : w.grownBy w row := ⟨rfl, rfl, rfl, Nat.le_refl _, fun _ _ _ => rfl⟩
theorem gBy_trans {a b c : World} {row : Option Nat} (h : a.grownBy b row) (h' : b.grownBy c row) : a.grownBy c row := ⟨h'.os.trans h.os, h'.tape.trans h.tape, h'.output.trans h.output, Nat.le_trans h.size h'.size, fun k hk hne => (h'.block k (Nat.lt_of_lt_of_le hk h.size) hne).trans (h.block k hk hne)⟩
def fineK (c : List I) (n k : Nat) : Bool := (List.range k).all (fun j => !rch c j || (sucC c j).all (fun t => decide (t < n)))
theorem fineK_succ (c : List I) (n k : Nat) : fineK c n (k + 1) = (fineK c n k && (!rch c k || (sucC c k).all (fun t => decide (t < n)))) := by
  rw [fineK, fineK, List.range_succ, List.all_append]
  simp
theorem fineP_eq {c : List I} {n : Nat} (h : c.length = n) : fineP c = (codeB c && fineK c n n) := by rw [fineP, fineK, h]
theorem all_take (ts : List Nat) (n : Nat) {j : Nat} (hj : j < ts.length) : (ts.take (j + 1)).all (fun t => decide (t < n)) = ((ts.take j).all (fun t => decide (t < n)) && decide (ts.getD j 0 < n)) := by
  rw [take_getD ts j 0 hj, List.all_append]
  simp
set_option maxRecDepth 100000 in
set_option maxHeartbeats 4000000 in
theorem fine1_any (k F L : Nat) (b : Option Addr) (l cp : Nat) (ts : List Nat) (v : Bool) (a : Option Addr) (len cap : Nat) (W : World) (hlen : len ≤ 64) (hFL : L ≠ F) (hb : ∀ y, b = some y → y.block ≠ F) (hI : IntsAt W b l cp (castL ts))
    (hF : Box W F 4 #[.bool v]) (hL : Box W L 22 #[.slice a len cap]) :
    Calls Tryd.prog 32 #[.int .i64 (k : Int), .slice b l cp, .pointer (some ⟨F, 0, none⟩), .pointer (some ⟨L, 0, none⟩)] W fun e W' => e = .returned (.tuple #[]) ∧ Box W' F 4 #[.bool (v && ts.all (fun t => decide (t < len)))] ∧ W.grownBy W' (some F) := by
  have hlm := hI.max
  have HLl : Hid (ts.length = l) := Lib.hid (by rw [← castL_len]; exact hI.1)
  have HI := Lib.hid hI
  have HF := Lib.hid hF
  have HL := Lib.hid hL
  have HNe := Lib.hid hb
  clear hI hF hL hb
  go_enter Tryd.func32, Tryd.ntmps32
  go_wp2_with fail
  go_loopw [10] (fun i wr => ∃ j : Nat, j ≤ l ∧ i = .int .i64 j ∧ Hid (Box wr F 4 #[.bool (v && (ts.take j).all (fun t => decide (t < len)))] ∧ W.grownBy wr (some F))) (fun i _ => l - (intOf i).toNat)
  case atStart => exact ⟨0, by omega, rfl, Lib.hid ⟨by simpa using HF.out, grownBy_refl _ _⟩⟩
  case round =>
    obtain ⟨j, hj, rfl, HL1⟩ := hrel
    have hj0 : (0 : Int) ≤ (j : Int) := Int.natCast_nonneg _
    by_cases hjl : j < l
    · have hjI : (j : Int) < (l : Int) := by omega
      have HIr := Lib.hid (HI.out.kept (W' := wr) (fun y hy => by
        rcases Nat.lt_or_ge y.block W.heap.size with h | h
        · exact HL1.out.2.block _ h (fun e => HNe.out y hy (Option.some.inj e))
        · exfalso
          obtain ⟨_, _, _, h4⟩ := HI.out
          rcases h4 with h4 | ⟨y', e, h5⟩
          · omega
          · rw [hy] at e
            obtain rfl := Option.some.inj e
            have := lt_of_cell (h5 0 (by omega))
            rw [add_block] at this
            omega))
      obtain ⟨y2, rfl, hy2⟩ := HIr.out.2.2.2.resolve_left (by omega)
      have hc2 := hy2 j hjl
      rw [castL_getD] at hc2
      obtain ⟨t, ht⟩ : ∃ t, ts.getD j 0 = t := ⟨_, rfl⟩
      rw [ht] at hc2
      have HTs := Lib.hid ht
      obtain ⟨u, hu⟩ : ∃ u, (v && (ts.take j).all (fun t => decide (t < len))) = u := ⟨_, rfl⟩
      have HU := Lib.hid hu
      have hB := HL1.out.1
      rw [hu] at hB
      have c0 : wr.cell? ⟨F, 0, none⟩ = some (.bool u) := hB.cell rfl
      have hfz := hB.free 0
      have c1 : wr.cell? ⟨L, 0, none⟩ = some (.slice a len cap) := (HL.out.grown HL1.out.2 (fun e => hFL (Option.some.inj e))).cell rfl
      have HBx := Lib.hid hB
      clear hy2 ht hu hB
      have ht0 : (0 : Int) ≤ (t : Int) := Int.natCast_nonneg _
      have HNx : ∀ r : Bool, (u && decide (t < len)) = r → Hid (Box (wr.setCell ⟨F, 0, none⟩ (.bool r)) F 4 #[.bool (v && (ts.take (j + 1)).all (fun t => decide (t < len)))] ∧ W.grownBy (wr.setCell ⟨F, 0, none⟩ (.bool r)) (some F)) := fun r hr => Lib.hid (by
        have e : (v && (ts.take (j + 1)).all (fun t => decide (t < len))) = r := by
          rw [all_take ts len (by rw [HLl.out]; exact hjl), HTs.out, ← Bool.and_assoc, HU.out, hr]
        rw [e]
        exact ⟨HBx.out.set 0 (.bool r), gBy_trans HL1.out.2 (grownBy_setCell _ ⟨F, 0, none⟩ _)⟩)
      cases u
      · have HN := HNx false (by simp)
        clear HNx
        go_wp2_with fail
        exact ⟨⟨j + 1, by omega, by go_num, HN⟩, by simp [intOf]; omega⟩
      · by_cases htl : t < len
        · have htI : (t : Int) < (len : Int) := by omega
          have HN := HNx true (by simpa using htl)
          clear HNx
          go_wp2_with fail
          exact ⟨⟨j + 1, by omega, by go_num, HN⟩, by simp [intOf]; omega⟩
        · have htI : ¬ (t : Int) < (len : Int) := by omega
          have HN := HNx false (by simpa using htl)
          clear HNx
          go_wp2_with fail
          exact ⟨⟨j + 1, by omega, by go_num, HN⟩, by simp [intOf]; omega⟩
    · have hjI : ¬ (j : Int) < (l : Int) := by omega
      have HE : Hid (Box wr F 4 #[.bool (v && ts.all (fun t => decide (t < len)))]) := Lib.hid (by
        have h := HL1.out.1
        rwa [List.take_of_length_le (by rw [HLl.out]; omega)] at h)
      go_wp2_with fail
      refine bodyPost_end (results_none rfl _ _ _) rfl ?_
      exact ⟨rfl, HE.out, HL1.out.2⟩
def InvF (c : List I) (a : Option Addr) (len cap F L : Nat) (k : Nat) (W : World) : Prop :=
  Box W L 22 #[.slice a len cap] ∧ Box W F 4 #[.bool (fineK c len k)]
set_option maxRecDepth 100000 in
set_option maxHeartbeats 4000000 in
theorem fine_any (a : Option Addr) (len cap : Nat) (c : List I) (w : World) (hR : RowsIn w) (h : CodeAt w a len cap c) :
    Calls Tryd.prog 19 #[.slice a len cap] w fun e w' => e = .returned (.bool (fineP c)) ∧ Below w.heap.size w w' := by
  have hm : len ≤ 9223372036854775807 := by have := h.2.1; have := h.2.2.1; unfold maxLen at this; omega
  have H := Lib.hid h
  have H1 := Lib.hid h.1
  obtain ⟨R, hR0⟩ : ∃ R, fineP c = R := ⟨_, rfl⟩
  rw [hR0]
  have HT := Lib.hid hR0
  obtain ⟨L, hL⟩ : ∃ L, w.heap.size = L := ⟨_, rfl⟩
  have hba : Below w.heap.size w (w.alloc (.cells #[.slice a len cap] 22)) := (Below.refl _ _).alloc (Nat.le_refl _) _
  obtain ⟨W0, hW0⟩ : ∃ W0, w.alloc (.cells #[.slice a len cap] 22) = W0 := ⟨_, rfl⟩
  have hBx : Box W0 L 22 #[.slice a len cap] := by rw [← hW0, ← hL]; exact Box.new _ _ _
  rw [hW0] at hba
  have HB0 := Lib.hid hba
  have HBx := Lib.hid hBx
  have c0 : W0.cell? ⟨L, 0, none⟩ = some (.slice a len cap) := hBx.cell rfl
  have k1 := cmay_any a len cap c W0 (hR.later hba) (h.below hba)
  have HL : Hid (w.heap.size = L) := Lib.hid hL
  clear hR0 h hba hBx
  go_enter Tryd.func19, Tryd.ntmps19
  go_wp2_with fail
  clear c0 hW0 hL
  obtain ⟨Q, hQ⟩ : ∃ Q, codeB c = Q := ⟨_, rfl⟩
  rw [hQ] at k1
  have HQ := Lib.hid hQ
  clear hQ
  refine k1.mono ?_
  rintro e m1 ⟨rfl, hb1⟩
  have HB := Lib.hid (HB0.out.trans (hb1.mono HB0.out.size))
  have HBx1 := Lib.hid (HBx.out.later hb1)
  have hlt : L < m1.heap.size := HBx1.out.lt
  clear k1 hb1 HB0 HBx
  cases Q
  · have hT : Hid (R = false) := Lib.hid (by rw [← HT.out, fineP, HQ.out]; simp)
    go_wp2_with fail
    go_ret
    exact ⟨by rw [hT.out]; rfl, HB.out⟩
  have hT : Hid (R = fineK c len len) := Lib.hid (by rw [← HT.out, fineP_eq H1.out, HQ.out]; simp)
  have h64 : len ≤ 64 := by have := (codeB_len HQ.out).2; have := H1.out; omega
  have hmf := makeFn
  have hba : Below m1.heap.size m1 (m1.alloc (.cells #[.bool true] 4)) := (Below.refl _ _).alloc (Nat.le_refl _) _
  have HInv : Hid (InvF c a len cap m1.heap.size L 0 (m1.alloc (.cells #[.bool true] 4))) := Lib.hid ⟨HBx1.out.later hba, Box.new _ _ _⟩
  have HB2 : Hid (Below w.heap.size w (m1.alloc (.cells #[.bool true] 4))) := Lib.hid (HB.out.trans (hba.mono HB.out.size))
  have HS2 : Hid ((m1.alloc (.cells #[.bool true] 4)).heap.size = m1.heap.size + 1) := Lib.hid (by simp)
  have HF : Hid (w.heap.size ≤ m1.heap.size) := Lib.hid HB.out.size
  have HlT := Lib.hid hlt
  have c0 : (m1.alloc (.cells #[.bool true] 4)).cell? ⟨L, 0, none⟩ = some (.slice a len cap) := (HBx1.out.later hba).cell rfl
  clear hba
  go_wp2_with fail
  clear c0 hlt HBx1 HB
  generalize hW2 : m1.alloc (.cells #[.bool true] 4) = W2 at *
  generalize hF : m1.heap.size = F at *
  clear hW2 hF hmf
  refine (walk_any 32 #[.pointer (some ⟨F, 0, none⟩), .pointer (some ⟨L, 0, none⟩)] (InvF c a len cap F L) c a len cap w W2 H.out HQ.out HB2.out enters_fine ?hkeep ?hskip ?hvisit HInv.out).mono ?_
  case hkeep =>
    rintro k W W' ⟨i1, i2⟩ hk
    have hs := HS2.out
    have hl := HlT.out
    exact ⟨i1.kept (hk L (by omega)), i2.kept (hk F (by omega))⟩
  case hskip =>
    rintro k W hk hr ⟨i1, i2⟩
    refine ⟨i1, ?_⟩
    rw [fineK_succ, hr]
    simpa using i2
  case hvisit =>
    rintro k W b l cp hk hr hbW hsz ⟨i1, i2⟩ hI hlow
    have hs := HS2.out
    have hl := HlT.out
    have hf := HF.out
    refine (fine1_any k F L b l cp (sucC c k) _ a len cap W h64 (by omega) (fun y hy => by have := hlow y hy; omega) hI i2 i1).mono ?_
    rintro e W' ⟨rfl, hb9, hg9⟩
    refine ⟨rfl, ⟨i1.grown hg9 (fun e => by have := Option.some.inj e; omega), ?_⟩, (Below.refl _ _).grown hg9 (by have := hbW.size; omega) (fun j hj => by have := Option.some.inj hj; omega), fun j hj hj2 => hg9.block j hj2 (fun e => by have := Option.some.inj e; omega)⟩
    rw [fineK_succ, hr]
    simpa using hb9
  rintro e m3 ⟨rfl, ⟨i1, i2⟩, hb3⟩
  have HB3 := Lib.hid hb3
  have c0 : m3.cell? ⟨F, 0, none⟩ = some (.bool (fineK c len len)) := i2.cell rfl
  rw [← hT.out] at c0
  clear i1 i2 hb3
  go_wp2_with fail
  go_ret
  exact ⟨rfl, HB3.out⟩
end Go.Proofs.YtdgfklmbglfbfaaDoor
