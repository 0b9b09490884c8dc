/-
  What package course's Longest returns, as a contract over the translated program.
-/
import Derived.Test.YtdgfklmbglfbfaaDoorC9
namespace Go.Proofs.YtdgfklmbglfbfaaDoor
open Go Go.RowKit
set_option linter.unusedVariables false
theorem enters_long : ∀ (args : Array Value) (w : World), (callFunc 30 args).run Tryd.prog w = .ok (.enter 30 args) w :=
  enters_of Tryd.func30 (by kernel_rfl) rfl
theorem ints64 (W : World) : Vals (W.alloc (.cells #[.int .i64 0, .int .i64 0, .int .i64 0, .int .i64 0, .int .i64 0, .int .i64 0, .int .i64 0, .int .i64 0, .int .i64 0, .int .i64 0, .int .i64 0, .int .i64 0, .int .i64 0, .int .i64 0, .int .i64 0, .int .i64 0, .int .i64 0, .int .i64 0, .int .i64 0, .int .i64 0, .int .i64 0, .int .i64 0, .int .i64 0, .int .i64 0, .int .i64 0, .int .i64 0, .int .i64 0, .int .i64 0, .int .i64 0, .int .i64 0, .int .i64 0, .int .i64 0, .int .i64 0, .int .i64 0, .int .i64 0, .int .i64 0, .int .i64 0, .int .i64 0, .int .i64 0, .int .i64 0, .int .i64 0, .int .i64 0, .int .i64 0, .int .i64 0, .int .i64 0, .int .i64 0, .int .i64 0, .int .i64 0, .int .i64 0, .int .i64 0, .int .i64 0, .int .i64 0, .int .i64 0, .int .i64 0, .int .i64 0, .int .i64 0, .int .i64 0, .int .i64 0, .int .i64 0, .int .i64 0, .int .i64 0, .int .i64 0, .int .i64 0, .int .i64 0] 59)) W.heap.size 59 64 (fun _ => .int .i64 0) := by
  refine ⟨_, Box.new _ _ _, rfl, fun p hp => ?_⟩
  match p, hp with
  | 0, _ => rfl
  | 1, _ => rfl
  | 2, _ => rfl
  | 3, _ => rfl
  | 4, _ => rfl
  | 5, _ => rfl
  | 6, _ => rfl
  | 7, _ => rfl
  | 8, _ => rfl
  | 9, _ => rfl
  | 10, _ => rfl
  | 11, _ => rfl
  | 12, _ => rfl
  | 13, _ => rfl
  | 14, _ => rfl
  | 15, _ => rfl
  | 16, _ => rfl
  | 17, _ => rfl
  | 18, _ => rfl
  | 19, _ => rfl
  | 20, _ => rfl
  | 21, _ => rfl
  | 22, _ => rfl
  | 23, _ => rfl
  | 24, _ => rfl
  | 25, _ => rfl
  | 26, _ => rfl
  | 27, _ => rfl
  | 28, _ => rfl
  | 29, _ => rfl
  | 30, _ => rfl
  | 31, _ => rfl
  | 32, _ => rfl
  | 33, _ => rfl
  | 34, _ => rfl
  | 35, _ => rfl
  | 36, _ => rfl
  | 37, _ => rfl
  | 38, _ => rfl
  | 39, _ => rfl
  | 40, _ => rfl
  | 41, _ => rfl
  | 42, _ => rfl
  | 43, _ => rfl
  | 44, _ => rfl
  | 45, _ => rfl
  | 46, _ => rfl
  | 47, _ => rfl
  | 48, _ => rfl
  | 49, _ => rfl
  | 50, _ => rfl
  | 51, _ => rfl
  | 52, _ => rfl
  | 53, _ => rfl
  | 54, _ => rfl
  | 55, _ => rfl
  | 56, _ => rfl
  | 57, _ => rfl
  | 58, _ => rfl
  | 59, _ => rfl
  | 60, _ => rfl
  | 61, _ => rfl
  | 62, _ => rfl
  | 63, _ => rfl
  | p + 64, h => omega
def InvL (calls : List Int) (c : List I) (a : Option Addr) (len cap : Nat) (ca : Option Addr) (cn cc Bf L Cb Lg : Nat) (k : Nat) (W : World) : Prop :=
  Vals W Bf 59 64 (fun p => .int .i64 ((bst calls c len k).1 p)) ∧ Box W Lg 3 #[.int .i64 (bst calls c len k).2] ∧ Box W L 22 #[.slice a len cap] ∧ Box W Cb 23 #[.slice ca cn cc]
theorem bst_64 (calls : List Int) (c : List I) (n : Nat) {k : Nat} (hk : k ≤ 64) : (∀ p, 0 ≤ (bst calls c n k).1 p ∧ (bst calls c n k).1 p ≤ 64000064) ∧ 0 ≤ (bst calls c n k).2 ∧ (bst calls c n k).2 ≤ 64000064 := by
  obtain ⟨h1, h2, h3⟩ := bst_le calls c n k
  exact ⟨fun p => by have := h1 p; omega, by omega, by omega⟩
set_option maxRecDepth 1000000 in
set_option maxHeartbeats 8000000 in
theorem long_any (a : Option Addr) (len cap : Nat) (c : List I) (ca : Option Addr) (cn cc : Nat) (calls : List Int) (w : World) (hR : RowsIn w) (h : CodeAt w a len cap c) (hcalls : IntsAt w ca cn cc calls) :
    Calls Tryd.prog 17 #[.slice a len cap, .slice ca cn cc] w fun e w' => e = .returned (.int .i64 (longP calls c)) ∧ Below w.heap.size w w' := by
  have H := Lib.hid h
  have H1 := Lib.hid h.1
  have HCa := Lib.hid hcalls
  obtain ⟨R, hR0⟩ : ∃ R, longP calls c = R := ⟨_, rfl⟩
  rw [hR0]
  have HT := Lib.hid hR0
  have hba := box2 (Below.refl w.heap.size w) (Nat.le_refl _) (.cells #[.slice a len cap] 22) (.cells #[.slice ca cn cc] 23)
  have hB1 := (Box.new w 22 #[.slice a len cap]).alloc (.cells #[.slice ca cn cc] 23)
  have hB2 := box_two w (.cells #[.slice a len cap] 22) 23 #[.slice ca cn cc]
  obtain ⟨W0, hW0⟩ : ∃ W0, (w.alloc (.cells #[.slice a len cap] 22)).alloc (.cells #[.slice ca cn cc] 23) = W0 := ⟨_, rfl⟩
  rw [hW0] at hba hB1 hB2
  obtain ⟨L, hL⟩ : ∃ L, w.heap.size = L := ⟨_, rfl⟩
  obtain ⟨Cb, hCb⟩ : ∃ Cb, L + 1 = Cb := ⟨_, rfl⟩
  have HLq : Hid (w.heap.size = L ∧ L + 1 = Cb) := Lib.hid ⟨hL, hCb⟩
  have hB1' : Box W0 L 22 #[.slice a len cap] := by rw [← hL]; exact hB1
  have hB2' : Box W0 Cb 23 #[.slice ca cn cc] := by rw [← hCb, ← hL]; exact hB2
  clear hB1 hB2
  have HB0 := Lib.hid hba
  have HBL := Lib.hid hB1'
  have HBC := Lib.hid hB2'
  have c0 : W0.cell? ⟨L, 0, none⟩ = some (.slice a len cap) := hB1'.cell rfl
  have k1 := cmay_any a len cap c W0 (hR.later hba) (h.below hba)
  clear hR0 h hba hB1' hB2' hcalls
  go_enter Tryd.func17, Tryd.ntmps17
  go_wp2_with fail
  clear c0 hW0 hL hCb
  obtain ⟨Q, hQ⟩ : ∃ Q, codeB c = Q := ⟨_, rfl⟩
  rw [hQ] at k1
  have HQ := Lib.hid hQ
  clear hQ
  refine k1.mono ?_
  rintro e m1 ⟨rfl, hb1⟩
  have HB := Lib.hid (HB0.out.trans (hb1.mono HB0.out.size))
  have HBL1 := Lib.hid (HBL.out.later hb1)
  have HBC1 := Lib.hid (HBC.out.later hb1)
  clear k1 hb1 HB0 HBL HBC
  cases Q
  · have hT : Hid (R = 0) := Lib.hid (by rw [← HT.out, longP, HQ.out]; simp)
    go_wp2_with fail
    go_ret
    exact ⟨by rw [hT.out]; rfl, HB.out⟩
  have hT : Hid (R = min (bst calls c len len).2 1000000) := Lib.hid (by rw [← HT.out, longP, HQ.out, H1.out]; simp)
  have h64 : len ≤ 64 := by have := (codeB_len HQ.out).2; have := H1.out; omega
  have hmf := makeFn
  have hb2 : Below m1.heap.size m1 ((m1.alloc (.cells #[.int .i64 0, .int .i64 0, .int .i64 0, .int .i64 0, .int .i64 0, .int .i64 0, .int .i64 0, .int .i64 0, .int .i64 0, .int .i64 0, .int .i64 0, .int .i64 0, .int .i64 0, .int .i64 0, .int .i64 0, .int .i64 0, .int .i64 0, .int .i64 0, .int .i64 0, .int .i64 0, .int .i64 0, .int .i64 0, .int .i64 0, .int .i64 0, .int .i64 0, .int .i64 0, .int .i64 0, .int .i64 0, .int .i64 0, .int .i64 0, .int .i64 0, .int .i64 0, .int .i64 0, .int .i64 0, .int .i64 0, .int .i64 0, .int .i64 0, .int .i64 0, .int .i64 0, .int .i64 0, .int .i64 0, .int .i64 0, .int .i64 0, .int .i64 0, .int .i64 0, .int .i64 0, .int .i64 0, .int .i64 0, .int .i64 0, .int .i64 0, .int .i64 0, .int .i64 0, .int .i64 0, .int .i64 0, .int .i64 0, .int .i64 0, .int .i64 0, .int .i64 0, .int .i64 0, .int .i64 0, .int .i64 0, .int .i64 0, .int .i64 0, .int .i64 0] 59)).alloc (.cells #[.int .i64 0] 3)) := box2 (Below.refl _ _) (Nat.le_refl _) _ _
  have HInv : Hid (InvL calls c a len cap ca cn cc m1.heap.size L Cb (m1.heap.size + 1) 0 ((m1.alloc (.cells #[.int .i64 0, .int .i64 0, .int .i64 0, .int .i64 0, .int .i64 0, .int .i64 0, .int .i64 0, .int .i64 0, .int .i64 0, .int .i64 0, .int .i64 0, .int .i64 0, .int .i64 0, .int .i64 0, .int .i64 0, .int .i64 0, .int .i64 0, .int .i64 0, .int .i64 0, .int .i64 0, .int .i64 0, .int .i64 0, .int .i64 0, .int .i64 0, .int .i64 0, .int .i64 0, .int .i64 0, .int .i64 0, .int .i64 0, .int .i64 0, .int .i64 0, .int .i64 0, .int .i64 0, .int .i64 0, .int .i64 0, .int .i64 0, .int .i64 0, .int .i64 0, .int .i64 0, .int .i64 0, .int .i64 0, .int .i64 0, .int .i64 0, .int .i64 0, .int .i64 0, .int .i64 0, .int .i64 0, .int .i64 0, .int .i64 0, .int .i64 0, .int .i64 0, .int .i64 0, .int .i64 0, .int .i64 0, .int .i64 0, .int .i64 0, .int .i64 0, .int .i64 0, .int .i64 0, .int .i64 0, .int .i64 0, .int .i64 0, .int .i64 0, .int .i64 0] 59)).alloc (.cells #[.int .i64 0] 3))) := Lib.hid ⟨(ints64 m1).later ((Below.refl _ _).alloc (Nat.le_refl _) _), box_two _ _ _ _, HBL1.out.later hb2, HBC1.out.later hb2⟩
  have HB2 : Hid (Below w.heap.size w ((m1.alloc (.cells #[.int .i64 0, .int .i64 0, .int .i64 0, .int .i64 0, .int .i64 0, .int .i64 0, .int .i64 0, .int .i64 0, .int .i64 0, .int .i64 0, .int .i64 0, .int .i64 0, .int .i64 0, .int .i64 0, .int .i64 0, .int .i64 0, .int .i64 0, .int .i64 0, .int .i64 0, .int .i64 0, .int .i64 0, .int .i64 0, .int .i64 0, .int .i64 0, .int .i64 0, .int .i64 0, .int .i64 0, .int .i64 0, .int .i64 0, .int .i64 0, .int .i64 0, .int .i64 0, .int .i64 0, .int .i64 0, .int .i64 0, .int .i64 0, .int .i64 0, .int .i64 0, .int .i64 0, .int .i64 0, .int .i64 0, .int .i64 0, .int .i64 0, .int .i64 0, .int .i64 0, .int .i64 0, .int .i64 0, .int .i64 0, .int .i64 0, .int .i64 0, .int .i64 0, .int .i64 0, .int .i64 0, .int .i64 0, .int .i64 0, .int .i64 0, .int .i64 0, .int .i64 0, .int .i64 0, .int .i64 0, .int .i64 0, .int .i64 0, .int .i64 0, .int .i64 0] 59)).alloc (.cells #[.int .i64 0] 3))) := Lib.hid (HB.out.trans (hb2.mono HB.out.size))
  have HS2 : Hid (((m1.alloc (.cells #[.int .i64 0, .int .i64 0, .int .i64 0, .int .i64 0, .int .i64 0, .int .i64 0, .int .i64 0, .int .i64 0, .int .i64 0, .int .i64 0, .int .i64 0, .int .i64 0, .int .i64 0, .int .i64 0, .int .i64 0, .int .i64 0, .int .i64 0, .int .i64 0, .int .i64 0, .int .i64 0, .int .i64 0, .int .i64 0, .int .i64 0, .int .i64 0, .int .i64 0, .int .i64 0, .int .i64 0, .int .i64 0, .int .i64 0, .int .i64 0, .int .i64 0, .int .i64 0, .int .i64 0, .int .i64 0, .int .i64 0, .int .i64 0, .int .i64 0, .int .i64 0, .int .i64 0, .int .i64 0, .int .i64 0, .int .i64 0, .int .i64 0, .int .i64 0, .int .i64 0, .int .i64 0, .int .i64 0, .int .i64 0, .int .i64 0, .int .i64 0, .int .i64 0, .int .i64 0, .int .i64 0, .int .i64 0, .int .i64 0, .int .i64 0, .int .i64 0, .int .i64 0, .int .i64 0, .int .i64 0, .int .i64 0, .int .i64 0, .int .i64 0, .int .i64 0] 59)).alloc (.cells #[.int .i64 0] 3)).heap.size = m1.heap.size + 1 + 1) := Lib.hid (by simp)
  have HLt : Hid (L < m1.heap.size ∧ Cb < m1.heap.size ∧ w.heap.size ≤ m1.heap.size) := Lib.hid ⟨HBL1.out.lt, HBC1.out.lt, HB.out.size⟩
  have c0 : ((m1.alloc (.cells #[.int .i64 0, .int .i64 0, .int .i64 0, .int .i64 0, .int .i64 0, .int .i64 0, .int .i64 0, .int .i64 0, .int .i64 0, .int .i64 0, .int .i64 0, .int .i64 0, .int .i64 0, .int .i64 0, .int .i64 0, .int .i64 0, .int .i64 0, .int .i64 0, .int .i64 0, .int .i64 0, .int .i64 0, .int .i64 0, .int .i64 0, .int .i64 0, .int .i64 0, .int .i64 0, .int .i64 0, .int .i64 0, .int .i64 0, .int .i64 0, .int .i64 0, .int .i64 0, .int .i64 0, .int .i64 0, .int .i64 0, .int .i64 0, .int .i64 0, .int .i64 0, .int .i64 0, .int .i64 0, .int .i64 0, .int .i64 0, .int .i64 0, .int .i64 0, .int .i64 0, .int .i64 0, .int .i64 0, .int .i64 0, .int .i64 0, .int .i64 0, .int .i64 0, .int .i64 0, .int .i64 0, .int .i64 0, .int .i64 0, .int .i64 0, .int .i64 0, .int .i64 0, .int .i64 0, .int .i64 0, .int .i64 0, .int .i64 0, .int .i64 0, .int .i64 0] 59)).alloc (.cells #[.int .i64 0] 3)).cell? ⟨L, 0, none⟩ = some (.slice a len cap) := (HBL1.out.later hb2).cell rfl
  have c00 : m1.cell? ⟨L, 0, none⟩ = some (.slice a len cap) := HBL1.out.cell rfl
  clear hb2 HBL1 HBC1 HB
  go_wp2_with fail
  clear c0 c00
  generalize hW2 : (m1.alloc (.cells #[.int .i64 0, .int .i64 0, .int .i64 0, .int .i64 0, .int .i64 0, .int .i64 0, .int .i64 0, .int .i64 0, .int .i64 0, .int .i64 0, .int .i64 0, .int .i64 0, .int .i64 0, .int .i64 0, .int .i64 0, .int .i64 0, .int .i64 0, .int .i64 0, .int .i64 0, .int .i64 0, .int .i64 0, .int .i64 0, .int .i64 0, .int .i64 0, .int .i64 0, .int .i64 0, .int .i64 0, .int .i64 0, .int .i64 0, .int .i64 0, .int .i64 0, .int .i64 0, .int .i64 0, .int .i64 0, .int .i64 0, .int .i64 0, .int .i64 0, .int .i64 0, .int .i64 0, .int .i64 0, .int .i64 0, .int .i64 0, .int .i64 0, .int .i64 0, .int .i64 0, .int .i64 0, .int .i64 0, .int .i64 0, .int .i64 0, .int .i64 0, .int .i64 0, .int .i64 0, .int .i64 0, .int .i64 0, .int .i64 0, .int .i64 0, .int .i64 0, .int .i64 0, .int .i64 0, .int .i64 0, .int .i64 0, .int .i64 0, .int .i64 0, .int .i64 0] 59)).alloc (.cells #[.int .i64 0] 3) = W2 at *
  obtain ⟨Lg, hLg⟩ : ∃ Lg, m1.heap.size + 1 = Lg := ⟨_, rfl⟩
  rw [hLg] at HInv HS2 ⊢
  generalize hBf : m1.heap.size = Bf at *
  have HLg := Lib.hid hLg
  clear hW2 hBf hmf hLg
  refine (walk_any 30 #[.pointer (some ⟨Bf, 0, none⟩), .pointer (some ⟨L, 0, none⟩), .pointer (some ⟨Cb, 0, none⟩), .pointer (some ⟨Lg, 0, none⟩)] (InvL calls c a len cap ca cn cc Bf L Cb Lg) c a len cap w W2 H.out HQ.out HB2.out enters_long ?hkeep ?hskip ?hvisit HInv.out).mono ?_
  case hkeep =>
    rintro k W W' ⟨i1, i2, i3, i4⟩ hk
    have hs := HS2.out
    have hl := HLt.out
    have hg := HLg.out
    exact ⟨i1.kept (hk Bf (by omega)), i2.kept (hk Lg (by omega)), i3.kept (hk L (by omega)), i4.kept (hk Cb (by omega))⟩
  case hskip =>
    rintro k W hk hr i
    unfold InvL
    rw [bst_no hr]
    exact i
  case hvisit =>
    rintro k W b l cp hk hr hbW hsz ⟨i1, i2, i3, i4⟩ hI hlow
    have hs := HS2.out
    have hl := HLt.out
    have hg := HLg.out
    have hbd := bst_64 calls c len (k := k) (by omega)
    refine (long1_any k Bf L Cb Lg b l cp (sucC c k) _ _ c a len cap ca cn cc calls W hk h64 ⟨by omega, by omega, by omega, by omega, by omega⟩ (fun y hy => by have := hlow y hy; exact ⟨by omega, by omega⟩) hI i1 i3 i4 i2 (H.out.below hbW) (HCa.out.below hbW) hbd.1 hbd.2).mono ?_
    rintro e W' ⟨rfl, j1, j2, j3⟩
    refine ⟨rfl, ?_, j3.1 _ (by omega) (by omega) hbW.size, fun j hj hj2 => j3.2.2 j (by omega) (by omega) hj2⟩
    unfold InvL
    rw [bst_yes hr]
    exact ⟨j1.same (fun p _ => rfl), j2, i3.kept (j3.2.2 L (by omega) (by omega) i3.lt), i4.kept (j3.2.2 Cb (by omega) (by omega) i4.lt)⟩
  rintro e m3 ⟨rfl, ⟨i1, i2, i3, i4⟩, hb3⟩
  have HB3 := Lib.hid hb3
  have hbd := (bst_64 calls c len (k := len) h64).2
  obtain ⟨z, hz⟩ : ∃ z, (bst calls c len len).2 = z := ⟨_, rfl⟩
  rw [hz] at i2 hbd
  have hT2 : Hid (R = min z 1000000) := Lib.hid (by rw [hT.out, hz])
  have c0 : m3.cell? ⟨Lg, 0, none⟩ = some (.int .i64 z) := i2.cell rfl
  clear i1 i2 i3 i4 hb3 hz
  obtain ⟨hz0, hz9⟩ := hbd
  by_cases hmz : ¬ 1000000 < z
  · have hE : Hid (R = z) := Lib.hid (by rw [hT2.out]; omega)
    go_wp2_with fail
    go_ret
    exact ⟨by rw [hE.out]; rfl, HB3.out⟩
  · replace hmz : 1000000 < z := by omega
    have hE : Hid (R = 1000000) := Lib.hid (by rw [hT2.out]; omega)
    go_wp2_with fail
    go_ret
    exact ⟨by rw [hE.out]; rfl, HB3.out⟩
end Go.Proofs.YtdgfklmbglfbfaaDoor
