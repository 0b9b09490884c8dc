/-
  What the third reference's Get returns, as a contract over the translated program.
-/
import Derived.Test.YtlbhmopmfddhjaaDoorY7
import Derived.Test.YtlbhmopmfddhjaaDoorY8
import Derived.Test.YtlbhmopmfddhjaaDoorW
namespace Go.Proofs.YtlbhmopmfddhjaaDoor
open Go.RowKit

theorem run_mid (x : Addr) (len cap q : Nat) (i j : Int) (hi : i = (q : Int)) (hj : j = (q : Int) + 8) (hq : q + 8 ≤ cap) (w : World) :
    (Instr.sliceAt 25 (.slice (some x) len cap) (some (.int .i64 i)) (some (.int .i64 j)) none).run Tryd.prog w = .ok (.slice (some (x.add q)) 8 (cap - q)) w := by
  subst hi hj
  have ht : Tryd.prog.underlying 25 = some (.slice (Tryd.prog.elem 25)) := by kernel_rfl
  have he : Tryd.prog.elem 25 = 5 := by kernel_rfl
  have hc : ¬ cap = q := by omega
  rw [run_sliceAt_slice w 25 _ _ _ _ ht, run_slice_lh w 25 (some x) len cap ht .i64 .i64 q ((q : Int) + 8) (by omega) (by omega) (by omega), he, sizeOf5]
  have e1 : ((q : Int)).toNat = q := Int.toNat_natCast q
  have e2 : ((q : Int) + 8).toNat = q + 8 := by omega
  simp [Result.andThen, sliced, hc, e1, e2]

theorem rGet_short (a : Option Addr) (len cap : Nat) (zs : List Int) (w : World) (h : SliceB w a len cap zs) (hl : len < 3) :
    Calls Tryd.prog 16 #[.slice a len cap] w (GetPost zs w) := by
  have hlI : (len : Int) < 3 := by omega
  have HN : Hid (getP zs = none) := Lib.hid (getP_short (by rw [h.1]; exact hl))
  have hm : len ≤ 9223372036854775807 := by omega
  clear h
  go_enter Tryd.func16, Tryd.ntmps16
  go_wp2
  refine bodyPost_ret (v := .tuple #[.agg #[.slice none 0 0], .int .i64 7]) ?_ rfl ?_
  · exact results_prog_two Tryd.results16 _ _ w.heap.size 24 _ _ rfl rfl rfl (heap_alloc_new _ _)
  · exact ⟨(Below.refl _ _).alloc (Nat.le_refl _) _, .inl ⟨HN.out, rfl⟩⟩

set_option maxRecDepth 100000 in
set_option maxHeartbeats 8000000 in
theorem rGet_mark (x : Addr) (len cap : Nat) (z0 z1 z2 : Int) (zs : List Int) (w : World) (h : SliceB w (some x) len cap (z0 :: z1 :: z2 :: zs)) (hx : ¬ (z0 = 88 ∧ z1 = 86)) :
    Calls Tryd.prog 16 #[.slice (some x) len cap] w (GetPost (z0 :: z1 :: z2 :: zs) w) := by
  have hl3 : 3 ≤ len := by have := h.1; simp at this; omega
  have hm : len ≤ 9223372036854775807 := by have := h.2.1; have := h.2.2.1; unfold maxLen at this; omega
  have hB : BytesAt w x (z0 :: z1 :: z2 :: zs) := by
    rcases h.2.2.2.2 with h5 | ⟨y, h5, h6⟩
    · omega
    · cases h5
      exact h6
  have hg : Below w.heap.size w (w.alloc (.cells #[.slice none 0 0] 24)) := (Below.refl _ _).alloc (Nat.le_refl _) _
  have b0 : (w.alloc (.cells #[.slice none 0 0] 24)).cell? x = some (.int .u8 z0) := by
    have := (hB.below hg) 0 (by simp)
    simpa [Addr.add_zero'] using this
  have b1 : (w.alloc (.cells #[.slice none 0 0] 24)).cell? ⟨x.block, x.off + 1, none⟩ = some (.int .u8 z1) := by
    have := (hB.below hg) 1 (by simp)
    rw [add_add_cell x 1 (by omega)] at this
    simpa using this
  have HN := Lib.hid (getP_mark (n := z2) (zs := zs) hx)
  have hlI : ¬ (len : Int) < 3 := by omega
  have hl0 : (0 : Int) < (len : Int) := by omega
  have hl1 : (1 : Int) < (len : Int) := by omega
  clear h hB
  rcases g0 : (z0 != 88) with _ | _
  · have g1 : (z1 != 86) = true := by
      simp at g0 ⊢
      omega
    clear hx
    go_enter Tryd.func16, Tryd.ntmps16
    go_wp2
    refine bodyPost_ret (v := .tuple #[.agg #[.slice none 0 0], .int .i64 7]) ?_ rfl ?_
    · exact results_prog_two Tryd.results16 _ _ w.heap.size 24 _ _ rfl rfl rfl (heap_alloc_new _ _)
    · exact ⟨hg, .inl ⟨HN.out, rfl⟩⟩
  · clear hx
    go_enter Tryd.func16, Tryd.ntmps16
    go_wp2
    refine bodyPost_ret (v := .tuple #[.agg #[.slice none 0 0], .int .i64 7]) ?_ rfl ?_
    · exact results_prog_two Tryd.results16 _ _ w.heap.size 24 _ _ rfl rfl rfl (heap_alloc_new _ _)
    · exact ⟨hg, .inl ⟨HN.out, rfl⟩⟩

theorem Inv.later' {w W W' : World} {O R k : Nat} {v : Value} {xs : List Value} {fs : List Fun} (h : Inv w O R W k v xs fs) (hb : Below W.heap.size W W') : Inv w O R W' k v xs fs :=
  ⟨ownsRow_below h.1 hb, h.2.1.below hb, h.2.2.1.below hb h.2.2.1.lt, h.2.2.2.1.below hb h.2.2.2.1.lt, h.2.2.2.2.1.trans (hb.mono h.2.2.2.2.1.size), h.2.2.2.2.2⟩
theorem bytesAt_get {w : World} {x : Addr} {zs : List Int} (h : BytesAt w x zs) (q : Nat) (a : Int) (r : List Int) (hd : zs.drop q = a :: r) : w.cell? (x.add q) = some (.int .u8 a) := by
  have hq : q < zs.length := by
    rcases Nat.lt_or_ge q zs.length with h1 | h1
    · exact h1
    · rw [List.drop_of_length_le h1] at hd
      cases hd
  have h1 := h q hq
  have h2 : zs.getD q 0 = a := by
    have := congrArg (fun l : List Int => l.getD 0 0) hd
    simpa [List.getD_eq_getElem?_getD, List.getElem?_drop] using this
  rw [h1, h2]
theorem drop_cons {zs : List Int} {q : Nat} {a b : Int} {r : List Int} (h : zs.drop q = a :: b :: r) : zs.drop (q + 1) = b :: r ∧ zs.drop (q + 2) = r := by
  constructor
  · rw [← List.drop_drop, h]
    rfl
  · rw [← List.drop_drop, h]
    rfl
set_option maxRecDepth 100000 in
set_option maxHeartbeats 8000000 in
theorem rGet_long (x : Addr) (len cap : Nat) (n : Nat) (zs : List Int) (w : World) (h : SliceB w (some x) len cap (88 :: 86 :: (n : Int) :: zs)) (hn255 : n ≤ 255) (h5 : len ≤ 5000) :
    Calls Tryd.prog 16 #[.slice (some x) len cap] w (GetPost (88 :: 86 :: (n : Int) :: zs) w) := by
  obtain ⟨i28, hi28, hy0, hy1, hy2⟩ := info_parts info28
  obtain ⟨i46, hi46, hx0, hx1, hx2⟩ := info_parts info46
  have hl3 : 3 ≤ len := by have := h.1; simp at this; omega
  have hlc : len ≤ cap := h.2.1
  have hB : BytesAt w x (88 :: 86 :: (n : Int) :: zs) := by
    rcases h.2.2.2.2 with h5 | ⟨y, h5, h6⟩
    · omega
    · cases h5
      exact h6
  obtain ⟨Z, hZ⟩ : ∃ Z, 88 :: 86 :: (n : Int) :: zs = Z := ⟨_, rfl⟩
  have hZ3 : Z.drop 3 = zs := by rw [← hZ]; rfl
  have hg : Below w.heap.size w (w.alloc (.cells #[.slice none 0 0] 24)) := (Below.refl _ _).alloc (Nat.le_refl _) _
  have b0 : (w.alloc (.cells #[.slice none 0 0] 24)).cell? x = some (.int .u8 88) := by
    have := (hB.below hg) 0 (by simp)
    simpa [Addr.add_zero'] using this
  have b1 : (w.alloc (.cells #[.slice none 0 0] 24)).cell? ⟨x.block, x.off + 1, none⟩ = some (.int .u8 86) := by
    have := (hB.below hg) 1 (by simp)
    rw [add_add_cell x 1 (by omega)] at this
    simpa using this
  have b2 : w.cell? ⟨x.block, x.off + 2, none⟩ = some (.int .u8 n) := by
    have := hB 2 (by simp)
    rw [add_add_cell x 2 (by omega)] at this
    simpa using this
  rw [hZ] at hB h
  have hlI : ¬ (len : Int) < 3 := by omega
  have hl0 : (0 : Int) < (len : Int) := by omega
  have hl1 : (1 : Int) < (len : Int) := by omega
  have hl2 : (2 : Int) < (len : Int) := by omega
  have HBy := Lib.hid hB
  have H0 := Lib.hid h
  have HB2 := Lib.hid b2
  have HZ3 := Lib.hid hZ3
  have HZl := Lib.hid h.1
  rw [hZ]
  have hInv : Inv w (w.heap.size + 1) w.heap.size ((w.alloc (.cells #[.slice none 0 0] 24)).alloc (.cells #[.slice none 0 0] 24)) 0 (.slice none 0 0) [] [] := by
    have hO := Box.new (w.alloc (.cells #[.slice none 0 0] 24)) 24 #[.slice none 0 0]
    rw [show (w.alloc (.cells #[.slice none 0 0] 24)).heap.size = w.heap.size + 1 by simp] at hO
    exact ⟨World.ownsRow_nil _ _ _ _, Codes.nil _ _ _, hO, (Box.new w 24 _).alloc _, hg.alloc hg.size _, Nat.le_refl _, by omega⟩
  have HInv := Lib.hid hInv
  have HGet : Hid ((∀ fs, parseF n zs = some (fs, []) → mayP fs = true → getP Z = some fs) ∧ (parseF n zs = none → getP Z = none) ∧ (∀ fs r, parseF n zs = some (fs, r) → r ≠ [] → getP Z = none) ∧ (∀ fs r, parseF n zs = some (fs, r) → mayP fs = false → getP Z = none)) := Lib.hid (by
    rw [← hZ]
    exact ⟨fun fs h1 h2 => getP_cons (by rw [Int.toNat_natCast]; exact h1) h2, fun h1 => getP_cons_none (by rw [Int.toNat_natCast]; exact h1), fun fs r h1 h2 => getP_cons_rest (by rw [Int.toNat_natCast]; exact h1) h2, fun fs r h1 h2 => getP_cons_may (by rw [Int.toNat_natCast]; exact h1) h2⟩)
  clear h hB hZ hZ3 hInv b2 hg
  go_enter Tryd.func16, Tryd.ntmps16
  go_wp2
  clear b0 b1
  obtain ⟨O, hO⟩ : ∃ O, w.heap.size + 1 = O := ⟨_, rfl⟩
  have hO1 : w.heap.size < O := by omega
  rw [hO] at HInv ⊢
  clear hO
  generalize (w.alloc (.cells #[.slice none 0 0] 24)).alloc (.cells #[.slice none 0 0] 24) = W0 at *
  go_loopw [5, 6] (fun s i wr => ∃ (k q : Nat) (fs : List Fun) (v : Value) (xs : List Value), k ≤ n ∧ q ≤ len ∧ i = .int .i64 k ∧ s = .int .i64 q ∧ Hid (parseF n zs = (parseF (n - k) (Z.drop q)).map (fun p => (fs ++ p.1, p.2))) ∧ Hid (fs.length = k) ∧ Hid (Inv w O w.heap.size wr k v xs fs)) (fun _ i _ => n - (intOf i).toNat)
  case atStart => exact ⟨0, 3, [], .slice none 0 0, [], by omega, by omega, rfl, rfl, Lib.hid (by rw [HZ3.out]; simp), Lib.hid rfl, HInv⟩
  case round =>
    obtain ⟨k, q, fs, v, xs, hk, hq, rfl, rfl, HPr, HC, HI⟩ := hrel
    obtain ⟨W1, rfl⟩ : ∃ W1, W1 = wr := ⟨_, rfl⟩
    clear HInv
    have hb := HI.out.2.2.2.2.1
    have HB := Lib.hid hb
    have hbs := hb.size
    have d2 := (hb.cell (lt_of_cell HB2.out)).trans HB2.out
    clear hb
    by_cases hkl : k < n
    · have hkI : (k : Int) < (n : Int) := by omega
      by_cases hq2 : q + 2 ≤ len
      · have hq2I : ¬ (len : Int) < (q : Int) + 2 := by omega
        obtain ⟨za, zb, r, hd⟩ : ∃ za zb r, Z.drop q = za :: zb :: r := by
          have hl : (Z.drop q).length = len - q := by rw [List.length_drop, HZl.out]
          match hdd : Z.drop q, hl with
          | [], hl => simp at hl; omega
          | [_], hl => simp at hl; omega
          | a :: b :: r, _ => exact ⟨a, b, r, rfl⟩
        obtain ⟨hd1, hd2⟩ := drop_cons hd
        have e0 := bytesAt_get (HBy.out.below HB.out) q za _ hd
        have e1 := bytesAt_get (HBy.out.below HB.out) (q + 1) zb _ hd1
        rw [add_add_cell x (q + 1) (by omega)] at e1
        have hzb : 0 ≤ zb ∧ zb ≤ 255 := H0.out.2.2.2.1 zb (List.mem_of_mem_drop (i := q) (by rw [hd]; simp))
        have hza : 0 ≤ za ∧ za ≤ 255 := H0.out.2.2.2.1 za (List.mem_of_mem_drop (i := q) (by rw [hd]; simp))
        obtain ⟨nn, rfl⟩ := Int.eq_ofNat_of_zero_le hzb.1
        have HD := Lib.hid hd
        have HD2 := Lib.hid hd2
        have hnn : nn ≤ 255 := by omega
        have hqI : (q : Int) < (len : Int) := by omega
        have hq0 : (0 : Int) ≤ (q : Int) := by omega
        have hq1I : (q : Int) + 1 < (len : Int) := by omega
        have ex := lt_of_cell e0
        have ex1 : x.block < W1.heap.size := lt_of_cell (x := ⟨x.block, x.off + (q + 1), none⟩) e1
        clear hd hd1 hd2 hzb
        have HRd : Hid (∀ c r', parseC nn (Z.drop (q + 2)) = some (c, r') → parseF n zs = (parseF (n - (k + 1)) r').map (fun p => ((fs ++ [(za, c)]) ++ p.1, p.2))) := Lib.hid (fun c r' hp => by
          rw [show n - (k + 1) = n - k - 1 by omega]
          refine parseF_step_some (m := n - k - 1) (by rw [show n - k - 1 + 1 = n - k by omega]; exact HPr.out) ?_
          rw [HD.out]
          refine readF_cons ?_
          rw [Int.toNat_natCast, ← HD2.out]
          exact hp)
        have HRn : Hid (parseC nn (Z.drop (q + 2)) = none → getP Z = none) := Lib.hid (fun hp => HGet.out.2.1 (by
          refine parseF_step_none (m := n - k - 1) (by rw [show n - k - 1 + 1 = n - k by omega]; exact HPr.out) ?_
          rw [HD.out]
          refine readF_cons_none ?_
          rw [Int.toNat_natCast, ← HD2.out]
          exact hp))
        have hbF : Below W1.heap.size W1 (W1.alloc (.cells #[.int .i64 za, .slice none 0 0] 28)) := (Below.refl _ _).alloc (Nat.le_refl _) _
        have HBF := Lib.hid hbF
        have HBoxF := Lib.hid (Box.new W1 28 #[.int .i64 za, .slice none 0 0])
        clear hbF
        go_wp2
        clear e0 e1 d2
        go_loopw [5, 9] (fun s i w2 => ∃ (t q2 : Nat) (c : List I) (vv : Value), t ≤ nn ∧ q2 ≤ len ∧ i = .int .i64 t ∧ s = .int .i64 q2 ∧ Hid (parseC nn (Z.drop (q + 2)) = (parseC (nn - t) (Z.drop q2)).map (fun p => (c ++ p.1, p.2))) ∧ Hid (c.length = t ∧ ∀ i ∈ c, okI i) ∧
            Hid (w2.ownsRow (W1.heap.size + 1) 46 7 vv t (codeV c)) ∧ Hid (Box w2 W1.heap.size 28 #[.int .i64 za, vv]) ∧ Below W1.heap.size W1 w2) (fun _ i _ => nn - (intOf i).toNat)
        case atStart => exact ⟨0, q + 2, [], .slice none 0 0, by omega, by omega, rfl, by go_num, Lib.hid (by simp), Lib.hid ⟨rfl, by simp⟩, Lib.hid (World.ownsRow_nil _ _ _ _), HBoxF, HBF.out⟩
        case round =>
          obtain ⟨t, q2, c, vv, ht, hq2', rfl, rfl, HPc, HCc, HOc, HBx, hb2⟩ := hrel
          clear HBF HBoxF
          have hbe := HB.out.trans (hb2.mono hbs)
          have HBR := Lib.hid (HI.out.2.2.2.1.below hb2 HI.out.2.2.2.1.lt)
          have hFl : W1.heap.size < wr.heap.size := HBx.out.lt
          by_cases htl : t < nn
          · have htI : (t : Int) < (nn : Int) := by omega
            by_cases h8 : q2 + 8 ≤ len
            · have h8I : ¬ (len : Int) < (q2 : Int) + 8 := by omega
              have hmid := run_mid x len cap q2 q2 (q2 + 8) rfl rfl (by omega)
              have hl8 : ((Z.drop q2).take 8).length = 8 := by rw [List.length_take, List.length_drop, HZl.out]; omega
              have HL8 := Lib.hid hl8
              have HB8 := Lib.hid (bytesAt_take (bytesAt_drop (HBy.out.below hbe) q2 (by rw [HZl.out]; exact hq2')) 8)
              have HZ8 : Hid (byteL ((Z.drop q2).take 8)) := Lib.hid (fun z hz => H0.out.2.2.2.1 z (List.mem_of_mem_drop (List.mem_of_mem_take hz)))
              clear hl8
              rcases hd : decI ((Z.drop q2).take 8) with _ | ⟨o, f, d, s, rr, xx, m⟩
              · have HD8 := Lib.hid hd
                have HN : Hid (getP Z = none) := Lib.hid (HRn.out (parseC_step_none (m := nn - t - 1) (by rw [show nn - t - 1 + 1 = nn - t by omega]; exact HPc.out) hd))
                clear hd
                go_wp2_with fail
                refine (rGet_none (x.add q2) (cap - q2) _ wr HL8.out HZ8.out HB8.out HD8.out).mono ?_
                rintro e w5 ⟨rfl, hg5⟩
                replace HBR := Lib.hid ((HBR.out.below hg5 HBR.out.lt).alloc (.cells #[.int .i64 0, .int .i64 0, .int .i64 0, .int .i64 0, .bool false, .int .i64 0, .int .u32 0] 46))
                replace hbe : Below w.heap.size w (w5.alloc (.cells #[.int .i64 0, .int .i64 0, .int .i64 0, .int .i64 0, .bool false, .int .i64 0, .int .u32 0] 46)) := (hbe.trans (hg5.mono hbe.size)).alloc (Nat.le_trans hbe.size hg5.size) _
                clear hg5 hmid
                go_wp2_with (refine wpList_store_row rfl 24 _ _ rfl w.heap.size _ rfl rfl 24 _ HBR.out (by kernel_rfl) rfl (by simp [Value.oneCell']) ?_)
                refine bodyPost_ret (v := .tuple #[.agg #[.slice none 0 0], .int .i64 7]) ?_ rfl ?_
                · exact results_prog_two Tryd.results16 _ _ w.heap.size 24 _ _ rfl rfl rfl (setRow_heap _ _ _ _ _ _ HBR.out)
                · exact ⟨below_setRow hbe (Nat.le_refl _) _, .inl ⟨HN.out, rfl⟩⟩
              · have HD8 := Lib.hid hd
                have HP2 : Hid (parseC nn (Z.drop (q + 2)) = (parseC (nn - (t + 1)) (Z.drop (q2 + 8))).map (fun p => ((c ++ [(o, f, d, s, rr, xx, m)]) ++ p.1, p.2))) := Lib.hid (by
                  rw [show nn - (t + 1) = nn - t - 1 by omega, show Z.drop (q2 + 8) = (Z.drop q2).drop 8 by rw [List.drop_drop]]
                  exact parseC_step_some (m := nn - t - 1) (by rw [show nn - t - 1 + 1 = nn - t by omega]; exact HPc.out) hd)
                have hok := (decI_some HZ8.out hd).2.2
                have HC2 : Hid ((c ++ [((o, f, d, s, rr, xx, m) : I)]).length = t + 1 ∧ ∀ i ∈ c ++ [((o, f, d, s, rr, xx, m) : I)], okI i) := Lib.hid ⟨by simp [HCc.out.1], fun i hi => by
                  rcases List.mem_append.1 hi with hi | hi
                  · exact HCc.out.2 i hi
                  · rw [List.mem_singleton.1 hi]
                    exact hok⟩
                have hvB : ∀ g, vv.ownBlock = some g → W1.heap.size + 1 ≤ g := fun g hg => (HOc.out.lt g hg).1
                have HVB := Lib.hid hvB
                clear hd hok hvB
                go_wp2_with fail
                refine (rGet_some (x.add q2) (cap - q2) _ o f d s rr xx m wr HL8.out HZ8.out HB8.out HD8.out).mono ?_
                rintro e w5 ⟨rfl, hg5⟩
                have hb5 : Below W1.heap.size W1 w5 := hb2.trans (hg5.mono hb2.size)
                have HBx5 := Lib.hid (HBx.out.below hg5 HBx.out.lt)
                have hO5 := ownsRow_below HOc.out hg5
                have hF5 : w5.cell? ⟨W1.heap.size, 1, none⟩ = some vv := HBx5.out.cell rfl
                have hFl5 : W1.heap.size < w5.heap.size := HBx5.out.lt
                have hb7 : Below w5.heap.size w5 ((w5.alloc (.cells #[.int .i64 o, .int .i64 f, .int .i64 d, .int .i64 s, .bool rr, .int .i64 xx, .int .u32 m] 46)).alloc (.cells #[.int .i64 o, .int .i64 f, .int .i64 d, .int .i64 s, .bool rr, .int .i64 xx, .int .u32 m] 46)) := ((Below.refl _ _).alloc (Nat.le_refl _) _).alloc (by simp) _
                have hnew : Box ((w5.alloc (.cells #[.int .i64 o, .int .i64 f, .int .i64 d, .int .i64 s, .bool rr, .int .i64 xx, .int .u32 m] 46)).alloc (.cells #[.int .i64 o, .int .i64 f, .int .i64 d, .int .i64 s, .bool rr, .int .i64 xx, .int .u32 m] 46)) (w5.heap.size + 1) 46 #[.int .i64 o, .int .i64 f, .int .i64 d, .int .i64 s, .bool rr, .int .i64 xx, .int .u32 m] := by
                  have := Box.new (w5.alloc (.cells #[.int .i64 o, .int .i64 f, .int .i64 d, .int .i64 s, .bool rr, .int .i64 xx, .int .u32 m] 46)) 46 #[.int .i64 o, .int .i64 f, .int .i64 d, .int .i64 s, .bool rr, .int .i64 xx, .int .u32 m]
                  rwa [show (w5.alloc (.cells #[.int .i64 o, .int .i64 f, .int .i64 d, .int .i64 s, .bool rr, .int .i64 xx, .int .u32 m] 46)).heap.size = w5.heap.size + 1 by simp] at this
                have HNew := Lib.hid hnew
                have hO7 := ownsRow_below hO5 hb7
                have HB7 := Lib.hid hb7
                clear hnew hO5 hb7 hg5 hmid hb2 hbe
                go_wp2_with (at_builtin; refine wpList_append_lies _ rfl _ _ _ rfl (W1.heap.size + 1) 46 i46 _ 7 56 Tryd.underlying26 hi46 hx0 hx1 hx2 rfl (by omega) vv t (codeV c) rfl hO7 ⟨w5.heap.size + 1, 0, none⟩ 1 1 (instC (o, f, d, s, rr, xx, m)) rfl rfl (World.news_of_block HNew.out) (by simp [instC, Value.oneCell']) (by omega) (by unfold maxLen; omega) (by omega) (by simp; omega) (w5.heap.size + 1 + 1) (by simp) ?_)
                intro g6 cp6 w6 hown6 hgrow6 hat6 hlt6
                have hvF : some W1.heap.size ≠ vv.ownBlock := fun e => by have := HVB.out W1.heap.size e.symm; omega
                have hBF6 := (HBx5.out.below HB7.out hFl5).grown hgrow6 hvF
                have hb6 : Below W1.heap.size W1 w6 := (hb5.trans (HB7.out.mono hb5.size)).grown hgrow6 (by simp; omega) (fun g hg => by have := HVB.out g hg; omega)
                have c6 : w6.cell? ⟨W1.heap.size, 1, none⟩ = some vv := hBF6.cell rfl
                have f6 : w6.frozen? ⟨W1.heap.size, 1, none⟩ = false := hBF6.free 1
                have hgs := grownBy_setCell w6 ⟨W1.heap.size, 1, none⟩ (.slice (some ⟨g6, 0, none⟩) (t + 1) cp6)
                have HBF6 : Hid (Box (w6.setCell ⟨W1.heap.size, 1, none⟩ (.slice (some ⟨g6, 0, none⟩) (t + 1) cp6)) W1.heap.size 28 #[.int .i64 za, .slice (some ⟨g6, 0, none⟩) (t + 1) cp6]) := Lib.hid (hBF6.set 1 _)
                have HO6 : Hid ((w6.setCell ⟨W1.heap.size, 1, none⟩ (.slice (some ⟨g6, 0, none⟩) (t + 1) cp6)).ownsRow (W1.heap.size + 1) 46 7 (.slice (some ⟨g6, 0, none⟩) (t + 1) cp6) (t + 1) (codeV (c ++ [(o, f, d, s, rr, xx, m)]))) := Lib.hid (by
                  rw [codeV_append]
                  refine own_far ?_ hgs (Nat.lt_succ_self _)
                  simpa [codeV] using hown6)
                have hb8 := hb6.setCell (p := ⟨W1.heap.size, 1, none⟩) (Nat.le_refl _) (.slice (some ⟨g6, 0, none⟩) (t + 1) cp6)
                clear hown6 hgrow6 hat6 hlt6 hO7 hBF6 hb6 hvF hF5 hgs
                go_wp2
                exact ⟨⟨t + 1, q2 + 8, _, _, by omega, by omega, by go_num, by go_num, HP2, HC2, HO6, HBF6, hb8⟩, by simp [intOf]; omega⟩
            · have h8I : (len : Int) < (q2 : Int) + 8 := by omega
              have HN : Hid (getP Z = none) := Lib.hid (HRn.out (parseC_step_none (m := nn - t - 1) (by rw [show nn - t - 1 + 1 = nn - t by omega]; exact HPc.out) (decI_none_of_len (by rw [List.length_take, List.length_drop, HZl.out]; omega))))
              go_wp2_with (refine wpList_store_row rfl 24 _ _ rfl w.heap.size _ rfl rfl 24 _ HBR.out (by kernel_rfl) rfl (by simp [Value.oneCell']) ?_)
              refine bodyPost_ret (v := .tuple #[.agg #[.slice none 0 0], .int .i64 7]) ?_ rfl ?_
              · exact results_prog_two Tryd.results16 _ _ w.heap.size 24 _ _ rfl rfl rfl (setRow_heap _ _ _ _ _ _ HBR.out)
              · exact ⟨below_setRow hbe (Nat.le_refl _) _, .inl ⟨HN.out, rfl⟩⟩
          · have htI : ¬ (t : Int) < (nn : Int) := by omega
            have hp : parseC nn (Z.drop (q + 2)) = some (c, Z.drop q2) := parseC_done (by
              have := HPc.out
              rw [show nn - t = 0 by omega] at this
              exact this)
            have HP2 := Lib.hid (HRd.out c (Z.drop q2) hp)
            have HC2 : Hid ((fs ++ [(za, c)]).length = k + 1) := Lib.hid (by simp [HC.out])
            obtain ⟨b4, cp4, rfl, hCode, hvb⟩ := code_own HCc.out.1 HCc.out.2 HOc.out
            have HOne : Hid (OneFn wr W1.heap.size none (.slice b4 t cp4) c) := Lib.hid ⟨b4, t, cp4, rfl, hCode, fun z hz => ⟨by have := (hvb z hz).1; omega, (hvb z hz).2.1, by simp⟩⟩
            have f0 : wr.cell? ⟨W1.heap.size, 0, none⟩ = some (.int .i64 za) := HBx.out.cell rfl
            have f1 : wr.cell? ⟨W1.heap.size, 1, none⟩ = some (.slice b4 t cp4) := HBx.out.cell rfl
            have cO : wr.cell? ⟨O, 0, none⟩ = some v := (HI.out.2.2.1.below hb2 HI.out.2.2.1.lt).cell rfl
            have hO4 := ownsRow_below HI.out.1 hb2
            have hOl : O < wr.heap.size := lt_of_cell (x := ⟨O, 0, none⟩) cO
            have HB2' := Lib.hid hb2
            clear hp hCode hvb hbe hb2
            go_wp2_with (at_builtin; refine wpList_append_lies _ rfl _ _ _ rfl (O + 1) 28 i28 _ 2 32 Tryd.underlying22 hi28 hy0 hy1 hy2 rfl (by omega) v k xs rfl (hO4.alloc _) ⟨wr.heap.size, 0, none⟩ 1 1 [.int .i64 za, .slice b4 t cp4] rfl rfl (World.news_of_block (cs := #[.int .i64 za, .slice b4 t cp4]) (t := 28) (fr := (0, 0)) (heap_alloc_new wr _)) (by simp [Value.oneCell']) (by omega) (by unfold maxLen; omega) (by omega) (by simp; omega) (wr.heap.size + 1) (by simp) ?_)
            intro g6 cp6 w6 hown6 hgrow6 hat6 hlt6
            obtain ⟨c6, f6⟩ := pushed_var HI.out (HB2'.out.trans (((Below.refl wr.heap.size wr).alloc (Nat.le_refl _) _).mono HB2'.out.size)) hgrow6
            have HI6 := Lib.hid (pushed HI.out HB2'.out HOne.out ((Below.refl wr.heap.size wr).alloc (Nat.le_refl _) _) hown6 hgrow6 hat6 (by simp))
            clear hown6 hgrow6 hat6 hlt6 hO4 f0 f1 cO
            go_wp2
            exact ⟨⟨k + 1, q2, _, _, _, by omega, by omega, by go_num, rfl, HP2, HC2, HI6⟩, by simp [intOf]; omega⟩
      · have hq2I : (len : Int) < (q : Int) + 2 := by omega
        have HN : Hid (getP Z = none) := Lib.hid (HGet.out.2.1 (parseF_step_none (m := n - k - 1) (by rw [show n - k - 1 + 1 = n - k by omega]; exact HPr.out) (by
          have hl : (Z.drop q).length = len - q := by rw [List.length_drop, HZl.out]
          match hdd : Z.drop q, hl with
          | [], _ => rfl
          | [_], _ => rfl
          | _ :: _ :: _, hl => simp at hl; omega)))
        have HBR := Lib.hid HI.out.2.2.2.1
        have hbe := HB.out
        go_wp2_with (refine wpList_store_row rfl 24 _ _ rfl w.heap.size _ rfl rfl 24 _ HBR.out (by kernel_rfl) rfl (by simp [Value.oneCell']) ?_)
        refine bodyPost_ret (v := .tuple #[.agg #[.slice none 0 0], .int .i64 7]) ?_ rfl ?_
        · exact results_prog_two Tryd.results16 _ _ w.heap.size 24 _ _ rfl rfl rfl (setRow_heap _ _ _ _ _ _ HBR.out)
        · exact ⟨below_setRow hbe (Nat.le_refl _) _, .inl ⟨HN.out, rfl⟩⟩
    · have hkI : ¬ (k : Int) < (n : Int) := by omega
      have hp : parseF n zs = some (fs, Z.drop q) := parseF_done (by
        have := HPr.out
        rw [show n - k = 0 by omega] at this
        exact this)
      have HP := Lib.hid hp
      have HBR := Lib.hid HI.out.2.2.2.1
      obtain ⟨bv, cpv, hv, hFns⟩ := fns_own HC.out HI.out.1 HI.out.2.1
      subst hv
      have HFns := Lib.hid hFns
      have cO : W1.cell? ⟨O, 0, none⟩ = some (.slice bv k cpv) := HI.out.2.2.1.cell rfl
      have hbe := HB.out
      clear hp hFns
      go_wp2_with fail
      refine (pmay_any bv k cpv fs W1 HFns.out).mono ?_
      rintro e w5 ⟨rfl, hg5⟩
      have hI5 := HI.out.later' hg5
      have HI5 := Lib.hid hI5
      replace HBR := Lib.hid hI5.2.2.2.1
      replace hbe := hI5.2.2.2.2.1
      have c5 : w5.cell? ⟨O, 0, none⟩ = some (.slice bv k cpv) := hI5.2.2.1.cell rfl
      clear cO hg5 hI5
      rcases hM : mayP fs with _ | _
      · have HN : Hid (getP Z = none) := Lib.hid (HGet.out.2.2.2 fs _ HP.out hM)
        go_wp2_with (refine wpList_store_row rfl 24 _ _ rfl w.heap.size _ rfl rfl 24 _ HBR.out (by kernel_rfl) rfl (by simp [Value.oneCell']) ?_)
        refine bodyPost_ret (v := .tuple #[.agg #[.slice none 0 0], .int .i64 7]) ?_ rfl ?_
        · exact results_prog_two Tryd.results16 _ _ w.heap.size 24 _ _ rfl rfl rfl (setRow_heap _ _ _ _ _ _ HBR.out)
        · exact ⟨below_setRow hbe (Nat.le_refl _) _, .inl ⟨HN.out, rfl⟩⟩
      · by_cases hql : q = len
        · have hE : Z.drop q = [] := List.drop_of_length_le (by rw [HZl.out]; omega)
          have HN : Hid (getP Z = some fs) := Lib.hid (HGet.out.1 fs (by rw [HP.out, hE]) hM)
          have hqlI : ((q : Int) != (len : Int)) = false := by simp [hql]
          have hqlN : (q != len) = false := by simp [hql]
          obtain ⟨bv', cp', hv', hFns', hbe'⟩ := HI5.out.done HC.out
          simp only [Value.slice.injEq, true_and] at hv'
          obtain ⟨rfl, rfl⟩ := hv'
          have HFn := Lib.hid hFns'
          have HBe := Lib.hid hbe'
          clear hE hql hFns' hbe'
          go_wp2_with (refine wpList_store_row rfl 24 _ _ rfl w.heap.size _ rfl rfl 24 _ HBR.out (by kernel_rfl) rfl (by simp [Value.oneCell']) ?_)
          refine bodyPost_ret (v := .tuple #[.agg #[.slice bv k cpv], .int .i64 0]) ?_ rfl ?_
          · exact results_prog_two Tryd.results16 _ _ w.heap.size 24 _ _ rfl rfl rfl (setRow_heap _ _ _ _ _ _ HBR.out)
          · exact ⟨HBe.out, .inr ⟨fs, bv, k, cpv, HN.out, rfl, HFn.out⟩⟩
        · have HN : Hid (getP Z = none) := Lib.hid (HGet.out.2.2.1 fs _ HP.out (fun e => by
            have := congrArg List.length e
            rw [List.length_drop, HZl.out] at this
            simp at this
            omega))
          have hqlI : ((q : Int) != (len : Int)) = true := bne_iff_ne.2 (by omega)
          have hqlN : (q != len) = true := by simpa using hql
          clear hql
          go_wp2_with (refine wpList_store_row rfl 24 _ _ rfl w.heap.size _ rfl rfl 24 _ HBR.out (by kernel_rfl) rfl (by simp [Value.oneCell']) ?_)
          refine bodyPost_ret (v := .tuple #[.agg #[.slice none 0 0], .int .i64 7]) ?_ rfl ?_
          · exact results_prog_two Tryd.results16 _ _ w.heap.size 24 _ _ rfl rfl rfl (setRow_heap _ _ _ _ _ _ HBR.out)
          · exact ⟨below_setRow hbe (Nat.le_refl _) _, .inl ⟨HN.out, rfl⟩⟩

theorem rGet_any (a : Option Addr) (len cap : Nat) (zs : List Int) (w : World) (h : SliceB w a len cap zs) (h5 : len ≤ 5000) : Calls Tryd.prog 16 #[.slice a len cap] w (GetPost zs w) := by
  match zs, h with
  | [], h => exact rGet_short a len cap _ w h (by have := h.1; simp at this; omega)
  | [_], h => exact rGet_short a len cap _ w h (by have := h.1; simp at this; omega)
  | [_, _], h => exact rGet_short a len cap _ w h (by have := h.1; simp at this; omega)
  | z0 :: z1 :: z2 :: r, h =>
    obtain ⟨x, rfl, _⟩ := h.2.2.2.2.resolve_left (by have := h.1; simp at this; omega)
    by_cases hx : z0 = 88 ∧ z1 = 86
    · obtain ⟨rfl, rfl⟩ := hx
      have hz := h.2.2.2.1 z2 (by simp)
      obtain ⟨n, rfl⟩ := Int.eq_ofNat_of_zero_le hz.1
      exact rGet_long x len cap n r w h (by omega) h5
    · exact rGet_mark x len cap z0 z1 z2 r w h hx
end Go.Proofs.YtlbhmopmfddhjaaDoor
