/-
  What package prog's Get returns, as a contract over the translated program.
-/
import Derived.Test.YtlbhmopmfddhjaaDoorY6
import Derived.Test.YtlbhmopmfddhjaaDoorY1
import Derived.Laws.IdiomStrings
namespace Go.Proofs.YtlbhmopmfddhjaaDoor
open Go.RowKit

def GetPost (zs : List Int) (w : World) (e : Ending) (w' : World) : Prop :=
  Below w.heap.size w w' ∧
  ((getP zs = none ∧ e = .returned (.tuple #[.agg #[.slice none 0 0], .int .i64 7])) ∨
   ∃ fs b l c, getP zs = some fs ∧ e = .returned (.tuple #[.agg #[.slice b l c], .int .i64 0]) ∧ FnsAt w' b l c fs)

theorem prGet_short (a : Option Addr) (len cap : Nat) (zs : List Int) (w : World) (h : SliceB w a len cap zs) (hl : len < 3) :
    Calls Tryd.prog 15 #[.slice a len cap] w (GetPost zs w) := by
  have hlI : (len : Int) < 3 := by omega
  have HN : Hid (getP zs = none) := Lib.hid (getP_short (by rw [h.1]; exact hl))
  have hm : len ≤ 9223372036854775807 := by omega
  clear h
  go_enter Tryd.func15, Tryd.ntmps15
  go_wp2
  refine bodyPost_ret (v := .tuple #[.agg #[.slice none 0 0], .int .i64 7]) ?_ rfl ?_
  · exact results_prog_two Tryd.results15 _ _ w.heap.size 24 _ _ rfl rfl rfl (heap_alloc_new _ _)
  · exact ⟨(Below.refl _ _).alloc (Nat.le_refl _) _, .inl ⟨HN.out, rfl⟩⟩

/- two bytes as a string -/
def str2 (z0 z1 : Int) : ByteArray := ⟨#[UInt8.ofNat z0.toNat, UInt8.ofNat z1.toNat]⟩
theorem conv2 (x : Addr) (cap : Nat) (z0 z1 : Int) (W : World) (h0 : 0 ≤ z0 ∧ z0 ≤ 255) (h1 : 0 ≤ z1 ∧ z1 ≤ 255) (b0 : W.cell? x = some (.int .u8 z0)) (b1 : W.cell? ⟨x.block, x.off + 1, none⟩ = some (.int .u8 z1)) :
    (convert 25 9 (.slice (some x) 2 cap)).run Tryd.prog W = .ok (.string (str2 z0 z1)) W := by
  have := run_convert_bytes_back (P := Tryd.prog) W 25 9 5 x cap [UInt8.ofNat z0.toNat, UInt8.ofNat z1.toNat] Tryd.underlying25 Tryd.underlying5 Tryd.underlying9 (fun j hj => by
    match j, hj with
    | 0, _ =>
      rw [Addr.add_zero', b0]
      simp
      omega
    | 1, _ =>
      rw [add_add_cell x 1 (by omega), b1]
      simp
      omega)
  simpa [str2] using this
theorem str2_eq {z0 z1 : Int} (h0 : 0 ≤ z0 ∧ z0 ≤ 255) (h1 : 0 ≤ z1 ∧ z1 ≤ 255) : ((str2 z0 z1).toList == [88, 86]) = decide (z0 = 88 ∧ z1 = 86) := by
  rw [ByteArray.toList_eq, Bool.eq_iff_iff, beq_iff_eq, decide_eq_true_iff]
  simp only [str2, List.cons.injEq, and_true]
  constructor
  · rintro ⟨e0, e1⟩
    have f0 := congrArg UInt8.toNat e0
    have f1 := congrArg UInt8.toNat e1
    simp at f0 f1
    omega
  · rintro ⟨rfl, rfl⟩
    exact ⟨rfl, rfl⟩

set_option maxRecDepth 100000 in
set_option maxHeartbeats 8000000 in
theorem prGet_mark (x : Addr) (len cap : Nat) (z0 z1 z2 : Int) (zs : List Int) (w : World) (h : SliceB w (some x) len cap (z0 :: z1 :: z2 :: zs)) (hx : ¬ (z0 = 88 ∧ z1 = 86)) :
    Calls Tryd.prog 15 #[.slice (some x) len cap] w (GetPost (z0 :: z1 :: z2 :: zs) w) := by
  have hl3 : 3 ≤ len := by have := h.1; simp at this; omega
  have hlc : len ≤ cap := h.2.1
  have hm : len ≤ 9223372036854775807 := by have := h.2.2.1; unfold maxLen at this; omega
  have hB : BytesAt w x (z0 :: z1 :: z2 :: zs) := by
    rcases h.2.2.2.2 with h5 | ⟨y, h5, h6⟩
    · omega
    · cases h5
      exact h6
  have hz0 : 0 ≤ z0 ∧ z0 ≤ 255 := h.2.2.2.1 z0 (by simp)
  have hz1 : 0 ≤ z1 ∧ z1 ≤ 255 := h.2.2.2.1 z1 (by simp)
  have hg : Below w.heap.size w (w.alloc (.cells #[.slice none 0 0] 24)) := (Below.refl _ _).alloc (Nat.le_refl _) _
  have b0 : (w.alloc (.cells #[.slice none 0 0] 24)).cell? x = some (.int .u8 z0) := by
    have := (hB.below hg) 0 (by simp)
    simpa [Addr.add_zero'] using this
  have b1 : (w.alloc (.cells #[.slice none 0 0] 24)).cell? ⟨x.block, x.off + 1, none⟩ = some (.int .u8 z1) := by
    have := (hB.below hg) 1 (by simp)
    rw [add_add_cell x 1 (by omega)] at this
    simpa using this
  have hcv := conv2 x cap z0 z1 _ hz0 hz1 b0 b1
  have hse := str2_eq hz0 hz1
  rw [decide_eq_false hx] at hse
  generalize str2 z0 z1 = st at hcv hse
  have hhd := run_head x len cap 2 2 rfl (by omega) (by omega)
  have HN := Lib.hid (getP_mark (n := z2) (zs := zs) hx)
  have hlI : ¬ (len : Int) < 3 := by omega
  clear h hB b0 b1 hx
  go_enter Tryd.func15, Tryd.ntmps15
  go_wp2
  refine bodyPost_ret (v := .tuple #[.agg #[.slice none 0 0], .int .i64 7]) ?_ rfl ?_
  · exact results_prog_two Tryd.results15 _ _ w.heap.size 24 _ _ rfl rfl rfl (heap_alloc_new _ _)
  · exact ⟨hg, .inl ⟨HN.out, rfl⟩⟩

set_option maxRecDepth 100000 in
set_option maxHeartbeats 8000000 in
theorem prGet_long (x : Addr) (len cap : Nat) (z2 : Int) (zs : List Int) (w : World) (hR : RowsIn w) (h : SliceB w (some x) len cap (88 :: 86 :: z2 :: zs)) :
    Calls Tryd.prog 15 #[.slice (some x) len cap] w (GetPost (88 :: 86 :: z2 :: zs) w) := by
  obtain ⟨i28, hi28, hy0, hy1, hy2⟩ := info_parts info28
  have hl3 : 3 ≤ len := by have := h.1; simp at this; omega
  have hlc : len ≤ cap := h.2.1
  have hm : len ≤ 9223372036854775807 := by have := h.2.2.1; unfold maxLen at this; omega
  have hm2 : cap ≤ 9223372036854775807 := by have := h.2.2.1; unfold maxLen at this; omega
  have hB : BytesAt w x (88 :: 86 :: z2 :: zs) := by
    rcases h.2.2.2.2 with h5 | ⟨y, h5, h6⟩
    · omega
    · cases h5
      exact h6
  have hz2 : 0 ≤ z2 ∧ z2 ≤ 255 := h.2.2.2.1 z2 (by simp)
  have hg : Below w.heap.size w (w.alloc (.cells #[.slice none 0 0] 24)) := (Below.refl _ _).alloc (Nat.le_refl _) _
  have b0 : (w.alloc (.cells #[.slice none 0 0] 24)).cell? x = some (.int .u8 88) := by
    have := (hB.below hg) 0 (by simp)
    simpa [Addr.add_zero'] using this
  have b1 : (w.alloc (.cells #[.slice none 0 0] 24)).cell? ⟨x.block, x.off + 1, none⟩ = some (.int .u8 86) := by
    have := (hB.below hg) 1 (by simp)
    rw [add_add_cell x 1 (by omega)] at this
    simpa using this
  have b2 : (w.alloc (.cells #[.slice none 0 0] 24)).cell? ⟨x.block, x.off + 2, none⟩ = some (.int .u8 z2) := by
    have := (hB.below hg) 2 (by simp)
    rw [add_add_cell x 2 (by omega)] at this
    simpa using this
  have hcv := conv2 x cap 88 86 _ (by omega) (by omega) b0 b1
  have hse := str2_eq (z0 := 88) (z1 := 86) (by omega) (by omega)
  rw [decide_eq_true ⟨rfl, rfl⟩] at hse
  generalize str2 88 86 = st at hcv hse
  have hhd := run_head x len cap 2 2 rfl (by omega) (by omega)
  have hlI : ¬ (len : Int) < 3 := by omega
  have hl2I : (2 : Int) < (len : Int) := by omega
  have hl3I : (3 : Int) ≤ (len : Int) := by omega
  have hcut := run_cutI (some x) len cap 3 3 rfl hl3
  have hS2 : ∀ W, SliceB W (some x) len cap (88 :: 86 :: z2 :: zs) → SliceB W (cutB (some x) cap 3) (len - 3) (cap - 3) zs := fun W hW => hW.cut hl3
  generalize cutB (some x) cap 3 = a3 at hcut hS2
  have HS := Lib.hid hS2
  have H0 := Lib.hid h
  clear h hB b0 b1 hS2 hg
  go_enter Tryd.func15, Tryd.ntmps15
  go_wp2
  go_quiet (fail)
  go_wp2
  have hg0 : Below w.heap.size w (((w.alloc (.cells #[.slice none 0 0] 24)).drewN nq).alloc (.cells #[.slice none 0 0] 24)) := (belowDrewN ((Below.refl _ _).alloc (Nat.le_refl _) _) nq).alloc (by simp) _
  have hBR : Box (((w.alloc (.cells #[.slice none 0 0] 24)).drewN nq).alloc (.cells #[.slice none 0 0] 24)) w.heap.size 24 #[.slice none 0 0] := ((Box.new w 24 _).drewN nq).alloc _
  have hBP : Box (((w.alloc (.cells #[.slice none 0 0] 24)).drewN nq).alloc (.cells #[.slice none 0 0] 24)) (w.heap.size + 1) 24 #[.slice none 0 0] := by
    have := Box.new ((w.alloc (.cells #[.slice none 0 0] 24)).drewN nq) 24 #[.slice none 0 0]
    rwa [show ((w.alloc (.cells #[.slice none 0 0] 24)).drewN nq).heap.size = w.heap.size + 1 by simp] at this
  have HG0 := Lib.hid hg0
  have HBR := Lib.hid hBR
  have HBP := Lib.hid hBP
  clear hcut b2 hg0 hBR hBP hl2I hlI hl3I hlc hcv hse hhd
  generalize ((w.alloc (.cells #[.slice none 0 0] 24)).drewN nq).alloc (.cells #[.slice none 0 0] 24) = W0 at *
  obtain ⟨F, hF⟩ : ∃ F, w.heap.size + 1 = F := ⟨_, rfl⟩
  have hF0 : w.heap.size < F := by omega
  rw [hF] at HBP ⊢
  clear hF
  obtain ⟨n, rfl⟩ := Int.eq_ofNat_of_zero_le hz2.1
  have hn255 : n ≤ 255 := by omega
  clear hz2
  go_loopw [5, 27] (fun s i wr => ∃ (k : Nat) (a' : Option Addr) (len' cap' : Nat) (fs : List Fun) (r : List Int) (v : Value) (xs : List Value), k ≤ n ∧ i = .int .i64 k ∧ s = .slice a' len' cap' ∧ Hid (∀ W, SliceB W (some x) len cap (88 :: 86 :: (n : Int) :: zs) → SliceB W a' len' cap' r) ∧ Hid (parseF n zs = (parseF (n - k) r).map (fun p => (fs ++ p.1, p.2))) ∧
      Hid (fs.length = k) ∧ Hid (wr.ownsRow (F + 1) 28 2 v k xs) ∧ Hid (Codes wr (F + 1) v.ownBlock xs fs) ∧ Hid (Box wr F 24 #[v]) ∧ Hid (Box wr w.heap.size 24 #[.slice none 0 0]) ∧ Below w.heap.size w wr) (fun _ i _ => n - (intOf i).toNat)
  case atStart => exact ⟨0, a3, len - 3, cap - 3, [], zs, .slice none 0 0, [], by omega, rfl, rfl, HS, Lib.hid (by simp), Lib.hid rfl, Lib.hid (World.ownsRow_nil _ _ _ _), Lib.hid (Codes.nil _ _ _), HBP, HBR, HG0.out⟩
  case round =>
    obtain ⟨k, a', len', cap', fs, r, v, xs, hk, rfl, rfl, HSr, HPr, HC, HO, HCd, HBPr, HBRr, hb⟩ := hrel
    clear HG0 HBR HBP HS
    have hlm' : len' ≤ 9223372036854775807 := by have := (HSr.out w H0.out).2.1; have := (HSr.out w H0.out).2.2.1; unfold maxLen at this; omega
    by_cases hkl : k < n
    · have hkI : (k : Int) < (n : Int) := by omega
      have hR2 := hR.later hb
      have hSw := (HSr.out w H0.out).below hb
      have HSw := Lib.hid hSw
      clear hSw
      go_wp2_with fail
      refine (readFn_any a' len' cap' r wr hR2 HSw.out).mono ?_
      rintro e w5 ⟨hg5, ⟨hrd, rfl⟩ | ⟨args, code, r', cv, a5, len5, cap5, hrd, rfl, hsub, hone⟩⟩
      · have HN : Hid (getP (88 :: 86 :: (n : Int) :: zs) = none) := Lib.hid (getP_cons_none (by
          rw [Int.toNat_natCast]
          exact parseF_step_none (m := n - k - 1) (by rw [show n - k - 1 + 1 = n - k by omega]; exact HPr.out) hrd))
        have hb5 : Below w.heap.size w (w5.alloc (.cells #[.int .i64 0, .slice none 0 0] 28)) := (hb.trans (hg5.mono hb.size)).alloc (Nat.le_trans hb.size hg5.size) _
        have HBR5 := Lib.hid ((HBRr.out.below hg5 HBRr.out.lt).alloc (.cells #[.int .i64 0, .slice none 0 0] 28))
        clear hg5 hrd hR2
        go_wp2_with (refine wpList_store_row rfl 24 _ _ rfl w.heap.size _ rfl rfl 24 _ HBR5.out (by kernel_rfl) rfl (by simp [Value.oneCell']) ?_)
        refine bodyPost_ret (v := .tuple #[.agg #[.slice none 0 0], .int .i64 7]) ?_ rfl ?_
        · exact results_prog_two Tryd.results15 _ _ w.heap.size 24 _ _ rfl rfl rfl (setRow_heap _ _ _ _ _ _ HBR5.out)
        · exact ⟨below_setRow hb5 (Nat.le_refl _) _, .inl ⟨HN.out, rfl⟩⟩
      · have HP2 : Hid (parseF n zs = (parseF (n - (k + 1)) r').map (fun p => ((fs ++ [(args, code)]) ++ p.1, p.2))) := Lib.hid (by
          rw [show n - (k + 1) = n - k - 1 by omega]
          exact parseF_step_some (m := n - k - 1) (by rw [show n - k - 1 + 1 = n - k by omega]; exact HPr.out) hrd)
        have HS2 : Hid (∀ W, SliceB W (some x) len cap (88 :: 86 :: (n : Int) :: zs) → SliceB W a5 len5 cap5 r') := Lib.hid (fun W hW => hsub W (HSr.out W hW))
        have HC2 : Hid ((fs ++ [(args, code)]).length = k + 1) := Lib.hid (by simp [HC.out])
        obtain ⟨bcv, lcv, ccv, rfl, hrest⟩ := hone
        have HOne : Hid (OneFn w5 wr.heap.size none (.slice bcv lcv ccv) code) := Lib.hid ⟨bcv, lcv, ccv, rfl, hrest⟩
        have hb5 : Below w.heap.size w w5 := hb.trans (hg5.mono hb.size)
        have HBR5 := Lib.hid (HBRr.out.below hg5 HBRr.out.lt)
        have HBP5 := Lib.hid (HBPr.out.below hg5 HBPr.out.lt)
        have hO5 := ownsRow_below HO.out hg5
        have hCd5 := HCd.out.below hg5
        have hF5 : w5.cell? ⟨F, 0, none⟩ = some v := HBP5.out.cell rfl
        have hFl : F < w5.heap.size := HBP5.out.lt
        have hFr : F < wr.heap.size := HBPr.out.lt
        have hs5 := hb5.size
        have hs6 := hg5.size
        have HVB := Lib.hid (fun g (hg : v.ownBlock = some g) => HO.out.lt g hg)
        have hb7 : Below w5.heap.size w5 ((w5.alloc (.cells #[.int .i64 args, .slice bcv lcv ccv] 28)).alloc (.cells #[.int .i64 args, .slice bcv lcv ccv] 28)) := ((Below.refl _ _).alloc (Nat.le_refl _) _).alloc (by simp) _
        have hnew : Box ((w5.alloc (.cells #[.int .i64 args, .slice bcv lcv ccv] 28)).alloc (.cells #[.int .i64 args, .slice bcv lcv ccv] 28)) (w5.heap.size + 1) 28 #[.int .i64 args, .slice bcv lcv ccv] := by
          have := Box.new (w5.alloc (.cells #[.int .i64 args, .slice bcv lcv ccv] 28)) 28 #[.int .i64 args, .slice bcv lcv ccv]
          rwa [show (w5.alloc (.cells #[.int .i64 args, .slice bcv lcv ccv] 28)).heap.size = w5.heap.size + 1 by simp] at this
        have HNew := Lib.hid hnew
        have hO7 := ownsRow_below hO5 hb7
        have HCd7 := Lib.hid (hCd5.below hb7)
        have HOne7 := Lib.hid (OneFn.below HOne.out hb7)
        have HB7 := Lib.hid hb7
        clear hnew hO5 hb7 hrest hsub hrd hCd5 hg5 hR2 HOne
        go_wp2_with (at_builtin; refine wpList_append_lies _ rfl _ _ _ rfl (F + 1) 28 i28 _ 2 32 Tryd.underlying22 hi28 hy0 hy1 hy2 rfl (by omega) v k xs rfl hO7 ⟨w5.heap.size + 1, 0, none⟩ 1 1 [.int .i64 args, .slice bcv lcv ccv] rfl rfl (World.news_of_block HNew.out) (by simp [Value.oneCell']) (by omega) (by unfold maxLen; omega) (by omega) (by simp; omega) (w5.heap.size + 1 + 1) (by simp) ?_)
        intro g6 cp6 w6 hown6 hgrow6 hat6 hlt6
        have hvF : some F ≠ v.ownBlock := fun e => by have := (HVB.out F e.symm).1; omega
        have hvR : some w.heap.size ≠ v.ownBlock := fun e => by have := (HVB.out w.heap.size e.symm).1; omega
        have hBP6 := (HBP5.out.below HB7.out hFl).grown hgrow6 hvF
        have hBR6 := (HBR5.out.below HB7.out HBR5.out.lt).grown hgrow6 hvR
        have hb6 : Below w.heap.size w w6 := (hb5.trans (HB7.out.mono hs5)).grown hgrow6 (by simp; omega) (fun g hg => by have := (HVB.out g hg).1; omega)
        have hg6 : F + 1 ≤ g6 := by
          rcases hat6 with h | h
          · exact (HVB.out g6 h).1
          · omega
        have hCd6 : Codes w6 (F + 1) (some g6) xs fs := HCd7.out.grown hgrow6 (by
          rcases hat6 with h | h
          · exact .inl h.symm
          · exact .inr ⟨g6, rfl, by simp; omega⟩)
        have hOne6 : OneFn w6 (F + 1) (some g6) (.slice bcv lcv ccv) code := HOne7.out.fresh hgrow6 (by omega) (fun g hg => (HVB.out g hg).2) (fun g hg => by
          have := Option.some.inj hg
          subst this
          rcases hat6 with h | h
          · exact .inl (HVB.out _ h).2
          · exact .inr (by simp; omega))
        have c6 : w6.cell? ⟨F, 0, none⟩ = some v := hBP6.cell rfl
        have f6 : w6.frozen? ⟨F, 0, none⟩ = false := hBP6.free 0
        have hgs := grownBy_setCell w6 ⟨F, 0, none⟩ (.slice (some ⟨g6, 0, none⟩) (k + 1) cp6)
        have HBP6 : Hid (Box (w6.setCell ⟨F, 0, none⟩ (.slice (some ⟨g6, 0, none⟩) (k + 1) cp6)) F 24 #[.slice (some ⟨g6, 0, none⟩) (k + 1) cp6]) := Lib.hid (hBP6.set 0 _)
        have HBR6 : Hid (Box (w6.setCell ⟨F, 0, none⟩ (.slice (some ⟨g6, 0, none⟩) (k + 1) cp6)) w.heap.size 24 #[.slice none 0 0]) := Lib.hid (hBR6.other (by simp; omega) _)
        have HO6 : Hid ((w6.setCell ⟨F, 0, none⟩ (.slice (some ⟨g6, 0, none⟩) (k + 1) cp6)).ownsRow (F + 1) 28 2 (.slice (some ⟨g6, 0, none⟩) (k + 1) cp6) (k + 1) (xs ++ [.int .i64 args, .slice bcv lcv ccv])) := Lib.hid (own_far hown6 hgs (Nat.lt_succ_self F))
        have HCd8 : Hid (Codes (w6.setCell ⟨F, 0, none⟩ (.slice (some ⟨g6, 0, none⟩) (k + 1) cp6)) (F + 1) (Value.slice (some ⟨g6, 0, none⟩) (k + 1) cp6).ownBlock (xs ++ [.int .i64 args, .slice bcv lcv ccv]) (fs ++ [(args, code)])) := Lib.hid ((hCd6.snoc hOne6).far hgs (Nat.lt_succ_self F))
        have hb8 := hb6.setCell (p := ⟨F, 0, none⟩) (by simp; omega) (.slice (some ⟨g6, 0, none⟩) (k + 1) cp6)
        clear hown6 hgrow6 hat6 hlt6 hO7 hBP6 hBR6 hb6 hvF hvR hg6 hF5 hCd6 hOne6 hgs
        go_wp2
        exact ⟨⟨k + 1, a5, len5, cap5, _, r', _, _, by omega, by go_num, rfl, HS2, HP2, HC2, HO6, HCd8, HBP6, HBR6, hb8⟩, by simp [intOf]; omega⟩
    · have hkI : ¬ (k : Int) < (n : Int) := by omega
      have hRd : parseF ((n : Int)).toNat zs = some (fs, r) := by
        rw [Int.toNat_natCast]
        refine parseF_done ?_
        have := HPr.out
        rw [show n - k = 0 by omega] at this
        exact this
      have hrl : r.length = len' := (HSr.out w H0.out).1
      by_cases hl0 : 0 < len'
      · have HN : Hid (getP (88 :: 86 :: (n : Int) :: zs) = none) := Lib.hid (getP_cons_rest hRd (fun e => by rw [e] at hrl; simp at hrl; omega))
        have hl0I : (0 : Int) < (len' : Int) := by omega
        clear hRd hrl
        go_wp2_with (refine wpList_store_row rfl 24 _ _ rfl w.heap.size _ rfl rfl 24 _ HBRr.out (by kernel_rfl) rfl (by simp [Value.oneCell']) ?_)
        refine bodyPost_ret (v := .tuple #[.agg #[.slice none 0 0], .int .i64 7]) ?_ rfl ?_
        · exact results_prog_two Tryd.results15 _ _ w.heap.size 24 _ _ rfl rfl rfl (setRow_heap _ _ _ _ _ _ HBRr.out)
        · exact ⟨below_setRow hb (Nat.le_refl _) _, .inl ⟨HN.out, rfl⟩⟩
      · have hr0 : r = [] := List.length_eq_zero_iff.1 (by omega)
        subst hr0
        have hl0I : ¬ (0 : Int) < (len' : Int) := by omega
        obtain ⟨b, cpv, hv, hFns⟩ := fns_own HC.out HO.out HCd.out
        subst hv
        have HFns := Lib.hid hFns
        have HRd := Lib.hid hRd
        have hR2 := hR.later hb
        have cP : wr.cell? ⟨F, 0, none⟩ = some (.slice b k cpv) := HBPr.out.cell rfl
        clear hRd hrl hFns
        go_wp2_with fail
        refine (prMay_any b k cpv fs wr hR2 HFns.out).mono ?_
        rintro e w5 ⟨rfl, hg5⟩
        have hb5 : Below w.heap.size w w5 := hb.trans (hg5.mono hb.size)
        have HBR5 := Lib.hid (HBRr.out.below hg5 HBRr.out.lt)
        have c5 : w5.cell? ⟨F, 0, none⟩ = some (.slice b k cpv) := (HBPr.out.below hg5 HBPr.out.lt).cell rfl
        have HO5 := Lib.hid (ownsRow_below HO.out hg5)
        have HCd5 := Lib.hid (HCd.out.below hg5)
        clear cP hR2 hg5
        rcases hM : mayP fs with _ | _
        · have HN : Hid (getP (88 :: 86 :: (n : Int) :: zs) = none) := Lib.hid (getP_cons_may HRd.out hM)
          go_wp2_with (refine wpList_store_row rfl 24 _ _ rfl w.heap.size _ rfl rfl 24 _ HBR5.out (by kernel_rfl) rfl (by simp [Value.oneCell']) ?_)
          refine bodyPost_ret (v := .tuple #[.agg #[.slice none 0 0], .int .i64 7]) ?_ rfl ?_
          · exact results_prog_two Tryd.results15 _ _ w.heap.size 24 _ _ rfl rfl rfl (setRow_heap _ _ _ _ _ _ HBR5.out)
          · exact ⟨below_setRow hb5 (Nat.le_refl _) _, .inl ⟨HN.out, rfl⟩⟩
        · have HN : Hid (getP (88 :: 86 :: (n : Int) :: zs) = some fs) := Lib.hid (getP_cons HRd.out hM)
          go_wp2_with (refine wpList_store_row rfl 24 _ _ rfl w.heap.size _ rfl rfl 24 _ HBR5.out (by kernel_rfl) rfl (by simp [Value.oneCell']) ?_)
          refine bodyPost_ret (v := .tuple #[.agg #[.slice b k cpv], .int .i64 0]) ?_ rfl ?_
          · exact results_prog_two Tryd.results15 _ _ w.heap.size 24 _ _ rfl rfl rfl (setRow_heap _ _ _ _ _ _ HBR5.out)
          · refine ⟨below_setRow hb5 (Nat.le_refl _) _, .inr ⟨fs, b, k, cpv, HN.out, rfl, ?_⟩⟩
            have hgr := grownBy_setRow w5 w.heap.size #[.slice b k cpv]
            obtain ⟨b', cp', hv', hFns'⟩ := fns_own HC.out (own_far HO5.out hgr (by omega)) (HCd5.out.far hgr (by omega))
            simp only [Value.slice.injEq, true_and] at hv'
            obtain ⟨rfl, rfl⟩ := hv'
            exact hFns'

theorem prGet_any (a : Option Addr) (len cap : Nat) (zs : List Int) (w : World) (hR : RowsIn w) (h : SliceB w a len cap zs) : Calls Tryd.prog 15 #[.slice a len cap] w (GetPost zs w) := by
  match zs, h with
  | [], h => exact prGet_short a len cap _ w h (by have := h.1; simp at this; omega)
  | [_], h => exact prGet_short a len cap _ w h (by have := h.1; simp at this; omega)
  | [_, _], h => exact prGet_short a len cap _ w h (by have := h.1; simp at this; omega)
  | z0 :: z1 :: z2 :: r, h =>
    obtain ⟨x, rfl, _⟩ := h.2.2.2.2.resolve_left (by have := h.1; simp at this; omega)
    by_cases hx : z0 = 88 ∧ z1 = 86
    · obtain ⟨rfl, rfl⟩ := hx
      exact prGet_long x len cap z2 r w hR h
    · exact prGet_mark x len cap z0 z1 z2 r w h hx
end Go.Proofs.YtlbhmopmfddhjaaDoor
