/-
  What package prog's readFn returns, as a contract over the translated program.
-/
import Derived.Test.YtlbhmopmfddhjaaDoorY5
import Derived.Test.YtlbhmopmfddhjaaDoorF
import Derived.BigQuiet
namespace Go.Proofs.YtlbhmopmfddhjaaDoor
open Go.RowKit

def ReadPost (a : Option Addr) (len cap : Nat) (zs : List Int) (w : World) (e : Ending) (w' : World) : Prop :=
  Below w.heap.size w w' ∧
  ((readF zs = none ∧ e = .returned (.tuple #[.agg #[.int .i64 0, .slice none 0 0], .slice none 0 0, .bool false])) ∨
   ∃ args code r cv a' len' cap', readF zs = some ((args, code), r) ∧ e = .returned (.tuple #[.agg #[.int .i64 args, cv], .slice a' len' cap', .bool true]) ∧ (∀ W, SliceB W a len cap zs → SliceB W a' len' cap' r) ∧ OneFn w' w.heap.size none cv code)

theorem readFn_short (a : Option Addr) (len cap : Nat) (zs : List Int) (w : World) (h : SliceB w a len cap zs) (hl : len < 2) :
    Calls Tryd.prog 25 #[.slice a len cap] w (ReadPost a len cap zs w) := by
  have hlI : (len : Int) < 2 := by omega
  have HN : Hid (readF zs = none) := Lib.hid (by
    have h1 := h.1
    match zs, h1 with
    | [], _ => rfl
    | [_], _ => rfl
    | _ :: _ :: _, h1 => simp at h1; omega)
  have hm : len ≤ 9223372036854775807 := by omega
  clear h
  go_enter Tryd.func25, Tryd.ntmps25
  go_wp2
  refine bodyPost_ret (v := .tuple #[.agg #[.int .i64 0, .slice none 0 0], .slice none 0 0, .bool false]) ?_ rfl ?_
  · exact results_fn_three Tryd.results25 _ _ w.heap.size 28 _ _ _ rfl rfl rfl rfl (heap_alloc_new _ _)
  · exact ⟨(Below.refl _ _).alloc (Nat.le_refl _) _, .inl ⟨HN.out, rfl⟩⟩

theorem readF_cons {a l : Int} {zs r : List Int} {c : List I} (h : parseC l.toNat zs = some (c, r)) : readF (a :: l :: zs) = some ((a, c), r) := by simp [readF, h]
theorem readF_cons_none {a l : Int} {zs : List Int} (h : parseC l.toNat zs = none) : readF (a :: l :: zs) = none := by simp [readF, h]
theorem info46 : (Tryd.prog.info? 46).map (fun i => (i.zero, i.size, i.bytes)) = some (some (instV 0 0 0 0 false 0 0), 7, 56) := by kernel_rfl
theorem info28 : (Tryd.prog.info? 28).map (fun i => (i.zero, i.size, i.bytes)) = some (some (.agg #[.int .i64 0, .slice none 0 0]), 2, 32) := by kernel_rfl

set_option maxRecDepth 100000 in
set_option maxHeartbeats 8000000 in
theorem readFn_long (x : Addr) (len cap : Nat) (z0 z1 : Int) (zs : List Int) (w : World) (hR : RowsIn w) (h : SliceB w (some x) len cap (z0 :: z1 :: zs)) :
    Calls Tryd.prog 25 #[.slice (some x) len cap] w (ReadPost (some x) len cap (z0 :: z1 :: zs) w) := by
  obtain ⟨i46, hi46, hy0, hy1, hy2⟩ := info_parts info46
  have hl2 : 2 ≤ len := by have := h.1; simp at this; omega
  have hlc : len ≤ cap := h.2.1
  have hm : len ≤ 9223372036854775807 := by have := h.2.2.1; unfold maxLen at this; omega
  have hm2 : cap ≤ 9223372036854775807 := by have := h.2.2.1; unfold maxLen at this; omega
  have hB : BytesAt w x (z0 :: z1 :: zs) := by
    rcases h.2.2.2.2 with h5 | ⟨y, h5, h6⟩
    · omega
    · cases h5
      exact h6
  have hz0 : 0 ≤ z0 ∧ z0 ≤ 255 := h.2.2.2.1 z0 (by simp)
  have hz1 : 0 ≤ z1 ∧ z1 ≤ 255 := h.2.2.2.1 z1 (by simp)
  have b0 : w.cell? x = some (.int .u8 z0) := by
    have := hB 0 (by simp)
    simpa [Addr.add_zero'] using this
  have b1 : w.cell? ⟨x.block, x.off + 1, none⟩ = some (.int .u8 z1) := by
    have := hB 1 (by simp)
    rw [add_add_cell x 1 (by omega)] at this
    simpa using this
  have bx := lt_of_cell b0
  have hlI : ¬ (len : Int) < 2 := by omega
  have hl0 : (0 : Int) < (len : Int) := by omega
  have hl1 : (1 : Int) < (len : Int) := by omega
  have hlJ : (2 : Int) ≤ (len : Int) := by omega
  have hcut := run_cutI (some x) len cap 2 2 rfl hl2
  have hS2 : ∀ W, SliceB W (some x) len cap (z0 :: z1 :: zs) → SliceB W (cutB (some x) cap 2) (len - 2) (cap - 2) zs := fun W hW => hW.cut hl2
  generalize cutB (some x) cap 2 = a2 at hcut hS2
  have HS := Lib.hid hS2
  have H0 := Lib.hid h
  clear h hB hS2
  go_enter Tryd.func25, Tryd.ntmps25
  go_wp2
  go_quiet (fail)
  go_wp2
  have hg0 : Below w.heap.size w (((w.alloc (.cells #[.int .i64 0, .slice none 0 0] 28)).alloc (.cells #[.int .i64 z0, .slice none 0 0] 28)).drewN nq) := belowDrewN (((Below.refl _ _).alloc (Nat.le_refl _) _).alloc (by simp) _) _
  have hBR : Box (((w.alloc (.cells #[.int .i64 0, .slice none 0 0] 28)).alloc (.cells #[.int .i64 z0, .slice none 0 0] 28)).drewN nq) w.heap.size 28 #[.int .i64 0, .slice none 0 0] := ((Box.new w 28 _).alloc _).drewN _
  have hBF : Box (((w.alloc (.cells #[.int .i64 0, .slice none 0 0] 28)).alloc (.cells #[.int .i64 z0, .slice none 0 0] 28)).drewN nq) (w.heap.size + 1) 28 #[.int .i64 z0, .slice none 0 0] := by
    have := (Box.new (w.alloc (.cells #[.int .i64 0, .slice none 0 0] 28)) 28 #[.int .i64 z0, .slice none 0 0]).drewN nq
    rwa [show (w.alloc (.cells #[.int .i64 0, .slice none 0 0] 28)).heap.size = w.heap.size + 1 by simp] at this
  have HG0 := Lib.hid hg0
  have HBR := Lib.hid hBR
  have HBF := Lib.hid hBF
  clear hcut b0 b1 bx hg0 hBR hBF hl0 hl1 hlI hlJ hlc
  generalize ((w.alloc (.cells #[.int .i64 0, .slice none 0 0] 28)).alloc (.cells #[.int .i64 z0, .slice none 0 0] 28)).drewN nq = W0 at *
  obtain ⟨F, hF⟩ : ∃ F, w.heap.size + 1 = F := ⟨_, rfl⟩
  have hF0 : w.heap.size < F := by omega
  rw [hF] at HBF ⊢
  clear hF
  obtain ⟨n, rfl⟩ := Int.eq_ofNat_of_zero_le hz1.1
  have hn255 : n ≤ 255 := by omega
  clear hz1
  go_loopw [7, 26] (fun s i wr => ∃ (k : Nat) (a' : Option Addr) (len' cap' : Nat) (c : List I) (r : List Int) (v : Value), k ≤ n ∧ i = .int .i64 k ∧ s = .slice a' len' cap' ∧ Hid (∀ W, SliceB W (some x) len cap (z0 :: (n : Int) :: zs) → SliceB W a' len' cap' r) ∧ Hid (parseC n zs = (parseC (n - k) r).map (fun p => (c ++ p.1, p.2))) ∧
      Hid (c.length = k ∧ (∀ i ∈ c, okI i)) ∧ Hid (wr.ownsRow (F + 1) 46 7 v k (codeV c)) ∧ Hid (Box wr F 28 #[.int .i64 z0, v]) ∧ Hid (Box wr w.heap.size 28 #[.int .i64 0, .slice none 0 0]) ∧ Below w.heap.size w wr) (fun _ i _ => n - (intOf i).toNat)
  case atStart => exact ⟨0, a2, len - 2, cap - 2, [], zs, .slice none 0 0, by omega, rfl, rfl, HS, Lib.hid (by simp), Lib.hid ⟨rfl, by simp⟩, Lib.hid (World.ownsRow_nil _ _ _ _), HBF, HBR, HG0.out⟩
  case round =>
    obtain ⟨k, a', len', cap', c, r, v, hk, rfl, rfl, HSr, HPr, HC, HO, HBFr, HBRr, hb⟩ := hrel
    clear HG0 HBR HBF HS
    have hlm' : len' ≤ 9223372036854775807 := by have := (HSr.out w H0.out).2.1; have := (HSr.out w H0.out).2.2.1; unfold maxLen at this; omega
    by_cases hkl : k < n
    · have hkI : (k : Int) < (n : Int) := by omega
      by_cases h8 : len' < 8
      · have h8I : (len' : Int) < 8 := by omega
        have HN : Hid (readF (z0 :: (n : Int) :: zs) = none) := Lib.hid (readF_cons_none (by
          rw [Int.toNat_natCast]
          refine parseC_step_none (m := n - k - 1) (by rw [show n - k - 1 + 1 = n - k by omega]; exact HPr.out) (decI_none_of_len ?_)
          have := (HSr.out w H0.out).1
          rw [List.length_take]
          omega))
        go_wp2_with (refine wpList_store_row rfl 28 _ _ rfl w.heap.size _ rfl rfl 28 _ HBRr.out (by kernel_rfl) rfl (by simp [Value.oneCell']) ?_)
        refine bodyPost_ret (v := .tuple #[.agg #[.int .i64 0, .slice none 0 0], .slice none 0 0, .bool false]) ?_ rfl ?_
        · exact results_fn_three Tryd.results25 _ _ w.heap.size 28 _ _ _ rfl rfl rfl rfl (setRow_heap _ _ _ _ _ _ HBRr.out)
        · exact ⟨below_setRow hb (Nat.le_refl _) _, .inl ⟨HN.out, rfl⟩⟩
      · obtain ⟨x', rfl, hB'⟩ := (HSr.out w H0.out).2.2.2.2.resolve_left (by omega)
        have hlc' : len' ≤ cap' := (HSr.out w H0.out).2.1
        have h8I : ¬ (len' : Int) < 8 := by omega
        have hhd := run_head x' len' cap' 8 8 rfl (by omega) (by omega)
        have hR2 := hR.later hb
        have hl8 : (r.take 8).length = 8 := by have := (HSr.out w H0.out).1; rw [List.length_take]; omega
        have HL8 := Lib.hid hl8
        have HB8 := Lib.hid (bytesAt_take (hB'.below hb) 8)
        have HZ8 : Hid (byteL (r.take 8)) := Lib.hid (fun z hz => (HSr.out w H0.out).2.2.2.1 z (List.mem_of_mem_take hz))
        clear hl8 hB'
        rcases hd : decI (r.take 8) with _ | ⟨o, f, d, s, rr, xx, m⟩
        · have HD := Lib.hid hd
          have HN : Hid (readF (z0 :: (n : Int) :: zs) = none) := Lib.hid (readF_cons_none (by
            rw [Int.toNat_natCast]
            exact parseC_step_none (m := n - k - 1) (by rw [show n - k - 1 + 1 = n - k by omega]; exact HPr.out) hd))
          clear hd
          go_wp2_with fail
          refine (iGet_none x' cap' (r.take 8) wr hR2 (by omega) HL8.out HZ8.out HB8.out HD.out).mono ?_
          rintro e w5 ⟨rfl, hg5⟩
          have hb5 : Below w.heap.size w (w5.alloc (.cells #[.int .i64 0, .int .i64 0, .int .i64 0, .int .i64 0, .bool false, .int .i64 0, .int .u32 0] 46)) := (hb.trans (hg5.mono hb.size)).alloc (Nat.le_trans hb.size hg5.size) _
          have HBR5 := Lib.hid ((HBRr.out.below hg5 HBRr.out.lt).alloc (.cells #[.int .i64 0, .int .i64 0, .int .i64 0, .int .i64 0, .bool false, .int .i64 0, .int .u32 0] 46))
          clear hg5 hhd
          go_wp2_with (refine wpList_store_row rfl 28 _ _ rfl w.heap.size _ rfl rfl 28 _ HBR5.out (by kernel_rfl) rfl (by simp [Value.oneCell']) ?_)
          refine bodyPost_ret (v := .tuple #[.agg #[.int .i64 0, .slice none 0 0], .slice none 0 0, .bool false]) ?_ rfl ?_
          · exact results_fn_three Tryd.results25 _ _ w.heap.size 28 _ _ _ rfl rfl rfl rfl (setRow_heap _ _ _ _ _ _ HBR5.out)
          · exact ⟨below_setRow hb5 (Nat.le_refl _) _, .inl ⟨HN.out, rfl⟩⟩
        · have HD := Lib.hid hd
          have HP2 : Hid (parseC n zs = (parseC (n - (k + 1)) (r.drop 8)).map (fun p => ((c ++ [(o, f, d, s, rr, xx, m)]) ++ p.1, p.2))) := Lib.hid (by
            rw [show n - (k + 1) = n - k - 1 by omega]
            exact parseC_step_some (m := n - k - 1) (by rw [show n - k - 1 + 1 = n - k by omega]; exact HPr.out) hd)
          have hok := (decI_some HZ8.out hd).2.2
          have HC2 : Hid ((c ++ [((o, f, d, s, rr, xx, m) : I)]).length = k + 1 ∧ ∀ i ∈ c ++ [((o, f, d, s, rr, xx, m) : I)], okI i) := Lib.hid ⟨by simp [HC.out.1], fun i hi => by
            rcases List.mem_append.1 hi with hi | hi
            · exact HC.out.2 i hi
            · rw [List.mem_singleton.1 hi]
              exact hok⟩
          have hcut := run_cutI (some x') len' cap' 8 8 rfl (by omega)
          have hS2 : ∀ W, SliceB W (some x) len cap (z0 :: (n : Int) :: zs) → SliceB W (cutB (some x') cap' 8) (len' - 8) (cap' - 8) (r.drop 8) := fun W hW => (HSr.out W hW).cut (k := 8) (by omega)
          generalize cutB (some x') cap' 8 = a3 at hcut hS2
          have HS2 := Lib.hid hS2
          have hvB : ∀ g, v.ownBlock = some g → F + 1 ≤ g := fun g hg => (HO.out.lt g hg).1
          have HVB := Lib.hid hvB
          clear hd hok hS2 hvB
          go_wp2_with fail
          refine (iGet_some x' cap' (r.take 8) o f d s rr xx m wr hR2 (by omega) HL8.out HZ8.out HB8.out HD.out).mono ?_
          rintro e w5 ⟨rfl, hg5⟩
          have hb5 : Below w.heap.size w w5 := hb.trans (hg5.mono hb.size)
          have HBR5 := Lib.hid (HBRr.out.below hg5 HBRr.out.lt)
          have HBF5 := Lib.hid (HBFr.out.below hg5 HBFr.out.lt)
          have hO5 := ownsRow_below HO.out hg5
          have hF5 : w5.cell? ⟨F, 1, none⟩ = some v := HBF5.out.cell rfl
          have hFl : F < w5.heap.size := HBF5.out.lt
          have hs5 := hb5.size
          clear hg5 hhd hR2
          have hb7 : Below w5.heap.size w5 ((w5.alloc (.cells #[.int .i64 o, .int .i64 f, .int .i64 d, .int .i64 s, .bool rr, .int .i64 xx, .int .u32 m] 46)).alloc (.cells #[.int .i64 o, .int .i64 f, .int .i64 d, .int .i64 s, .bool rr, .int .i64 xx, .int .u32 m] 46)) := ((Below.refl _ _).alloc (Nat.le_refl _) _).alloc (by simp) _
          have hnew : Box ((w5.alloc (.cells #[.int .i64 o, .int .i64 f, .int .i64 d, .int .i64 s, .bool rr, .int .i64 xx, .int .u32 m] 46)).alloc (.cells #[.int .i64 o, .int .i64 f, .int .i64 d, .int .i64 s, .bool rr, .int .i64 xx, .int .u32 m] 46)) (w5.heap.size + 1) 46 #[.int .i64 o, .int .i64 f, .int .i64 d, .int .i64 s, .bool rr, .int .i64 xx, .int .u32 m] := by
            have := Box.new (w5.alloc (.cells #[.int .i64 o, .int .i64 f, .int .i64 d, .int .i64 s, .bool rr, .int .i64 xx, .int .u32 m] 46)) 46 #[.int .i64 o, .int .i64 f, .int .i64 d, .int .i64 s, .bool rr, .int .i64 xx, .int .u32 m]
            rwa [show (w5.alloc (.cells #[.int .i64 o, .int .i64 f, .int .i64 d, .int .i64 s, .bool rr, .int .i64 xx, .int .u32 m] 46)).heap.size = w5.heap.size + 1 by simp] at this
          have HNew := Lib.hid hnew
          have hO7 := ownsRow_below hO5 hb7
          have HB7 := Lib.hid hb7
          clear hnew hO5 hb7
          go_wp2_with (at_builtin; refine wpList_append_lies _ rfl _ _ _ rfl (F + 1) 46 i46 _ 7 56 Tryd.underlying26 hi46 hy0 hy1 hy2 rfl (by omega) v k (codeV c) rfl hO7 ⟨w5.heap.size + 1, 0, none⟩ 1 1 (instC (o, f, d, s, rr, xx, m)) rfl rfl (World.news_of_block HNew.out) (by simp [instC, Value.oneCell']) (by omega) (by unfold maxLen; omega) (by omega) (by simp; omega) (w5.heap.size + 1 + 1) (by simp) ?_)
          intro g6 cp6 w6 hown6 hgrow6 hat6 hlt6
          have hvF : some F ≠ v.ownBlock := fun e => by have := HVB.out F e.symm; omega
          have hvR : some w.heap.size ≠ v.ownBlock := fun e => by have := HVB.out w.heap.size e.symm; omega
          have hBF6 := (HBF5.out.below HB7.out hFl).grown hgrow6 hvF
          have hBR6 := (HBR5.out.below HB7.out HBR5.out.lt).grown hgrow6 hvR
          have hb6 : Below w.heap.size w w6 := (hb5.trans (HB7.out.mono hs5)).grown hgrow6 (by simp; omega) (fun g hg => by have := HVB.out g hg; omega)
          have hg6 : F + 1 ≤ g6 := by
            rcases hat6 with h | h
            · exact HVB.out g6 h
            · omega
          have c6 : w6.cell? ⟨F, 1, none⟩ = some v := hBF6.cell rfl
          have f6 : w6.frozen? ⟨F, 1, none⟩ = false := hBF6.free 1
          have HBF6 : Hid (Box (w6.setCell ⟨F, 1, none⟩ (.slice (some ⟨g6, 0, none⟩) (k + 1) cp6)) F 28 #[.int .i64 z0, .slice (some ⟨g6, 0, none⟩) (k + 1) cp6]) := Lib.hid (hBF6.set 1 _)
          have HBR6 : Hid (Box (w6.setCell ⟨F, 1, none⟩ (.slice (some ⟨g6, 0, none⟩) (k + 1) cp6)) w.heap.size 28 #[.int .i64 0, .slice none 0 0]) := Lib.hid (hBR6.other (by simp; omega) _)
          have HO6 : Hid ((w6.setCell ⟨F, 1, none⟩ (.slice (some ⟨g6, 0, none⟩) (k + 1) cp6)).ownsRow (F + 1) 46 7 (.slice (some ⟨g6, 0, none⟩) (k + 1) cp6) (k + 1) (codeV (c ++ [(o, f, d, s, rr, xx, m)]))) := Lib.hid (by
            rw [codeV_append]
            refine ownsRow_set_other ?_ (by simp [Value.ownBlock]; omega) _
            simpa [codeV] using hown6)
          have hb8 := hb6.setCell (p := ⟨F, 1, none⟩) (by simp; omega) (.slice (some ⟨g6, 0, none⟩) (k + 1) cp6)
          clear hown6 hgrow6 hat6 hlt6 hO7 hBF6 hBR6 hb6 hvF hvR hg6 hF5
          go_wp2
          exact ⟨⟨k + 1, a3, len' - 8, cap' - 8, _, r.drop 8, _, by omega, by go_num, rfl, HS2, HP2, HC2, HO6, HBF6, HBR6, hb8⟩, by simp [intOf]; omega⟩
    · have hkI : ¬ (k : Int) < (n : Int) := by omega
      have hkn : k = n := by omega
      have HRd : Hid (readF (z0 :: (n : Int) :: zs) = some ((z0, c), r)) := Lib.hid (readF_cons (by
        rw [Int.toNat_natCast]
        refine parseC_done ?_
        have := HPr.out
        rw [show n - k = 0 by omega] at this
        exact this))
      have HKN := Lib.hid hkn
      obtain ⟨b, cpv, rfl, hCode, hvb⟩ := code_own HC.out.1 HC.out.2 HO.out
      have HOne : Hid (OneFn wr w.heap.size (some w.heap.size) (.slice b k cpv) c) := Lib.hid ⟨b, k, cpv, rfl, hCode, fun z hz => ⟨by have := (hvb z hz).1; omega, (hvb z hz).2.1, by have := (hvb z hz).1; simp; omega⟩⟩
      have HVb := Lib.hid hvb
      have cF0 : wr.cell? ⟨F, 0, none⟩ = some (.int .i64 z0) := HBFr.out.cell rfl
      have cF1 : wr.cell? ⟨F, 1, none⟩ = some (.slice b k cpv) := HBFr.out.cell rfl
      clear hkn hCode hvb
      go_wp2_with (refine wpList_store_row rfl 28 _ _ rfl w.heap.size _ rfl rfl 28 _ HBRr.out (by kernel_rfl) rfl (by simp [Value.oneCell']) ?_)
      refine bodyPost_ret (v := .tuple #[.agg #[.int .i64 z0, .slice b k cpv], .slice a' len' cap', .bool true]) ?_ rfl ?_
      · exact results_fn_three Tryd.results25 _ _ w.heap.size 28 _ _ _ rfl rfl rfl rfl (setRow_heap _ _ _ _ _ _ HBRr.out)
      · have hbS := below_setRow hb (Nat.le_refl _) #[.int .i64 z0, .slice b k cpv]
        refine ⟨hbS, .inr ⟨z0, c, r, _, a', len', cap', HRd.out, rfl, HSr.out, ?_⟩⟩
        exact OneFn.set_row HOne.out _

theorem readFn_any (a : Option Addr) (len cap : Nat) (zs : List Int) (w : World) (hR : RowsIn w) (h : SliceB w a len cap zs) : Calls Tryd.prog 25 #[.slice a len cap] w (ReadPost a len cap zs w) := by
  match zs, h with
  | [], h => exact readFn_short a len cap _ w h (by have := h.1; simp at this; omega)
  | [_], h => exact readFn_short a len cap _ w h (by have := h.1; simp at this; omega)
  | z0 :: z1 :: r, h =>
    obtain ⟨x, rfl, _⟩ := h.2.2.2.2.resolve_left (by have := h.1; simp at this; omega)
    exact readFn_long x len cap z0 z1 r w hR h
end Go.Proofs.YtlbhmopmfddhjaaDoor
