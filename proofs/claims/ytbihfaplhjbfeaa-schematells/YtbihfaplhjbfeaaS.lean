/-
  What the reference's Get returns, as a contract over the translated program.
-/
import Derived.Test.YtbihfaplhjbfeaaG
import Derived.Test.YtbihfaplhjbfeaaR
namespace Go.Proofs.Ytbihfaplhjbfeaa
open Go.RowKit

theorem getS_big {z : Int} {r : List Int} (hz : 4 < z) : getS (z :: r) = none := by
  by_cases hl : (r.length : Int) = 5 * z
  · refine getS_none_may (mayL_long ?_)
    obtain ⟨n, rfl⟩ := Int.eq_ofNat_of_zero_le (show 0 ≤ z by omega)
    rw [dec_len n r (by omega)]
    omega
  · exact getS_none_len hl
theorem rget_short (a : Option Addr) (cap : Nat) (w : World) : Calls Try.prog 14 #[.slice a 0 cap] w (GetU [] w) := by
  go_enter Try.func14, Try.ntmps14
  go_wp2
  go_ret2
  exact getU_no rfl (Below.refl _ _)
theorem rget_big (x : Addr) (len cap : Nat) (z : Int) (r : List Int) (w : World) (h : SliceB w (some x) len cap (z :: r)) (hl : 4 < z) : Calls Try.prog 14 #[.slice (some x) len cap] w (GetU (z :: r) w) := by
  have hm := h.max
  have h1 : r.length + 1 = len := h.1
  obtain ⟨x', hx, hB⟩ := h.2.2.2.2.resolve_left (by omega)
  cases hx
  have c0 := hB 0 (by simp)
  rw [Addr.add_zero'] at c0
  simp only [List.getD_cons_zero] at c0
  have HN := Lib.hid (getS_big (r := r) hl)
  have l0 : ((len : Int) == 0) = false := by simp; omega
  have l1 : (0 : Int) < (len : Int) := by omega
  clear h h1 hB
  go_enter Try.func14, Try.ntmps14
  go_wp2
  go_ret2
  exact getU_no HN.out (Below.refl _ _)
theorem rget_len (x : Addr) (len cap : Nat) (z : Int) (r : List Int) (w : World) (h : SliceB w (some x) len cap (z :: r)) (h4 : ¬ 4 < z) (hl : ¬ (r.length : Int) = 5 * z) : Calls Try.prog 14 #[.slice (some x) len cap] w (GetU (z :: r) w) := by
  have hm := h.max
  have h1 : r.length + 1 = len := h.1
  have hz : 0 ≤ z ∧ z ≤ 255 := h.2.2.2.1 z (by simp)
  obtain ⟨x', hx, hB⟩ := h.2.2.2.2.resolve_left (by omega)
  cases hx
  have c0 := hB 0 (by simp)
  rw [Addr.add_zero'] at c0
  simp only [List.getD_cons_zero] at c0
  have HN := Lib.hid (getS_none_len hl)
  have hd : (((len : Int)) == 1 + 5 * z) = false := by simp; omega
  have hd' : (((len : Int)) != 1 + 5 * z) = true := by simp; omega
  have l0 : ((len : Int) == 0) = false := by simp; omega
  have l1 : (0 : Int) < (len : Int) := by omega
  have l4 : decide ((4 : Int) < z) = false := by simp; omega
  clear h h1 hB hl
  go_enter Try.func14, Try.ntmps14
  go_wp2
  go_ret2
  exact getU_no HN.out (Below.refl _ _)

set_option maxRecDepth 100000 in
set_option maxHeartbeats 4000000 in
theorem rget_read (x : Addr) (len cap : Nat) (z : Int) (zr : List Int) (w : World) (h : SliceB w (some x) len cap (z :: zr)) (h4 : ¬ 4 < z) (hl : (zr.length : Int) = 5 * z) : Calls Try.prog 14 #[.slice (some x) len cap] w (GetU (z :: zr) w) := by
  obtain ⟨jS, hiS, hy0, hy1, hy2⟩ := info_parts infoS
  have hm := h.max
  have h1 : zr.length + 1 = len := h.1
  have hz : 0 ≤ z ∧ z ≤ 255 := h.2.2.2.1 z (by simp)
  obtain ⟨x', hx, hB⟩ := h.2.2.2.2.resolve_left (by omega)
  cases hx
  have c0 := hB 0 (by simp)
  rw [Addr.add_zero'] at c0
  simp only [List.getD_cons_zero] at c0
  obtain ⟨m, rfl⟩ := Int.eq_ofNat_of_zero_le hz.1
  have hm4 : m ≤ 4 := by omega
  have hlen : len = 5 * m + 1 := by omega
  have hd : (((len : Int)) == 1 + 5 * (m : Int)) = true := by simp; omega
  have hd' : (((len : Int)) != 1 + 5 * (m : Int)) = false := by simp; omega
  have l0 : ((len : Int) == 0) = false := by simp; omega
  have l1 : (0 : Int) < (len : Int) := by omega
  have l4 : decide ((4 : Int) < (m : Int)) = false := by simp; omega
  have H0 := Lib.hid h
  have HB := Lib.hid hB
  have HL := Lib.hid hl
  have HZ : Hid (zr.length = 5 * m) := Lib.hid (by omega)
  have HLen := Lib.hid hlen
  clear h h1 hB hl hz hlen
  go_enter Try.func14, Try.ntmps14
  go_wp2_with fail
  clear c0 hd hd' l0 l4
  go_loopw [4, 5] (fun v i wr => ∃ (q t : Nat) (c : List Sc), i = .int .i64 (q : Int) ∧ q = 5 * t + 1 ∧ c.length = t ∧ t ≤ m ∧ Hid (dec zr = c ++ dec (zr.drop (5 * t))) ∧ Hid (∀ s ∈ c, mayT s = true) ∧
      Hid (wr.ownsRow w.heap.size 25 4 v c.length (scsV c)) ∧ Below w.heap.size w wr) (fun _ i _ => len - (intOf i).toNat)
  case atStart => exact ⟨1, 0, [], rfl, rfl, rfl, by omega, Lib.hid (by simp), Lib.hid (by simp), Lib.hid (World.ownsRow_nil _ _ _ _), Below.refl _ _⟩
  case round =>
    obtain ⟨q, t, c, rfl, hq, hct, htm, HD, HA, HO, hb⟩ := hrel
    have hlq : (t < m ↔ q < len) ∧ (t < m → q + 5 ≤ len) := by have := HLen.out; omega
    by_cases ht0 : t < m
    · have hq5 := hlq.2 ht0
      clear hlq
      have htI : (q : Int) < (len : Int) := by omega
      have hBt := HB.out.below hb
      have hlz : ((m : Int) :: zr).length = len := H0.out.1
      have bb : ∀ i, i < ((m : Int) :: zr).length → 0 ≤ ((m : Int) :: zr).getD i 0 ∧ ((m : Int) :: zr).getD i 0 ≤ 255 := fun i hi => H0.out.2.2.2.1 _ (getD_mem _ i 0 hi)
      have b0 := bb q (by omega)
      have b1 := bb (q + 1) (by omega)
      have b2 := bb (q + 2) (by omega)
      have b3 := bb (q + 3) (by omega)
      have b4 := bb (q + 4) (by omega)
      have c0 := hBt q (by omega)
      have c1 := hBt (q + 1) (by omega)
      have c2 := hBt (q + 2) (by omega)
      have c3 := hBt (q + 3) (by omega)
      have c4 := hBt (q + 4) (by omega)
      have HDS := Lib.hid (dec_step (zs := zr.drop (5 * t)) (by rw [List.length_drop, HZ.out]; omega))
      have HTT : Hid (decT (zr.drop (5 * t)) = (((m : Int) :: zr).getD q 0, ((m : Int) :: zr).getD (q + 1) 0, ((m : Int) :: zr).getD (q + 2) 0, 256 * ((m : Int) :: zr).getD (q + 3) 0 + ((m : Int) :: zr).getD (q + 4) 0)) := Lib.hid (by
        subst hq
        simp [decT, List.getD_eq_getElem?_getD, Int.mul_comm])
      clear bb hBt hlz
      generalize ((m : Int) :: zr).getD q 0 = z0 at *
      generalize ((m : Int) :: zr).getD (q + 1) 0 = z1 at *
      generalize ((m : Int) :: zr).getD (q + 2) 0 = z2 at *
      generalize ((m : Int) :: zr).getD (q + 3) 0 = z3 at *
      generalize ((m : Int) :: zr).getD (q + 4) 0 = z4 at *
      have g0 : (0 : Int) ≤ (q : Int) := Int.natCast_nonneg _
      have g1 : (q : Int) + 1 < (len : Int) := by omega
      have g2 : (q : Int) + 2 < (len : Int) := by omega
      have g3 : (q : Int) + 3 < (len : Int) := by omega
      have g4 : (q : Int) + 4 < (len : Int) := by omega
      have p1 : (0 : Int) ≤ (q : Int) + 1 := by omega
      obtain ⟨q1, hq1⟩ : ∃ q1, q1 = q + 1 := ⟨_, rfl⟩
      have n1 : ((q : Int) + 1).toNat = q1 := by omega
      rw [← hq1] at c1
      clear hq1
      have u1w := wI ((q : Int) + 1) (by omega) (by omega)
      have p2 : (0 : Int) ≤ (q : Int) + 2 := by omega
      obtain ⟨q2, hq2⟩ : ∃ q2, q2 = q + 2 := ⟨_, rfl⟩
      have n2 : ((q : Int) + 2).toNat = q2 := by omega
      rw [← hq2] at c2
      clear hq2
      have u2w := wI ((q : Int) + 2) (by omega) (by omega)
      have p3 : (0 : Int) ≤ (q : Int) + 3 := by omega
      obtain ⟨q3, hq3⟩ : ∃ q3, q3 = q + 3 := ⟨_, rfl⟩
      have n3 : ((q : Int) + 3).toNat = q3 := by omega
      rw [← hq3] at c3
      clear hq3
      have u3w := wI ((q : Int) + 3) (by omega) (by omega)
      have p4 : (0 : Int) ≤ (q : Int) + 4 := by omega
      obtain ⟨q4, hq4⟩ : ∃ q4, q4 = q + 4 := ⟨_, rfl⟩
      have n4 : ((q : Int) + 4).toNat = q4 := by omega
      rw [← hq4] at c4
      clear hq4
      have u4w := wI ((q : Int) + 4) (by omega) (by omega)
      have HQ := Lib.hid hq
      have HCT := Lib.hid hct
      clear hq hct
      have e0 := World.new_ne wr _ c0
      have e1 := World.new_ne wr _ c1
      have e2 := World.new_ne wr _ c2
      have e3 := World.new_ne wr _ c3
      have e4 := World.new_ne wr _ c4
      have t3 := wI (256 * z3) (by omega) (by omega)
      have t4 := wI (256 * z3 + z4) (by omega) (by omega)
      have v0 := wI z0 (by omega) (by omega)
      have v1 := wI z1 (by omega) (by omega)
      have v2 := wI z2 (by omega) (by omega)
      have v3 := wI z3 (by omega) (by omega)
      have v4 := wI z4 (by omega) (by omega)
      have hA1 : ScAt ((wr.alloc (scO z0 z1 z2 (256 * z3 + z4))).drew) wr.heap.size z0 z1 z2 (256 * z3 + z4) := scAt_new wr z0 z1 z2 (256 * z3 + z4)
      have HAt := Lib.hid hA1
      have hb2 : Below w.heap.size w ((wr.alloc (scO z0 z1 z2 (256 * z3 + z4))).drew) := (hb.alloc hb.size _).drew
      have hO2 : ((wr.alloc (scO z0 z1 z2 (256 * z3 + z4))).drew).ownsRow w.heap.size 25 4 u4 c.length (scsV c) := (HO.out.alloc _).drew
      have HO2 := Lib.hid hO2
      clear hO2 hA1
      go_wp2_with fail
      go_region_held3 (fun w' => w'.cell? (x.add q) = some (.int .u8 z0) ∧ w'.cell? (x.add q1) = some (.int .u8 z1) ∧ w'.cell? (x.add q2) = some (.int .u8 z2) ∧ w'.cell? (x.add q3) = some (.int .u8 z3) ∧ w'.cell? (x.add q4) = some (.int .u8 z4))
        (go_keep)
        (fail)
      clear c0 c1 c2 c3 c4 e0 e1 e2 e3 e4 n1 n2 n3 n4 u1w u2w u3w u4w v0 v1 v2 v3 v4 t3 t4 HO
      generalize ((wr.alloc (scO z0 z1 z2 (256 * z3 + z4))).drew) = w4 at *
      generalize wr.heap.size = B at *
      obtain ⟨d0, d1, d2, d3⟩ := HAt.out
      go_wp2_with fail
      refine (rmay_any _ _ _ _ _).mono ?_
      rintro e w5 ⟨rfl, hg5⟩
      have hb5 : Below w.heap.size w w5 := hb2.trans (hg5.mono hb2.size)
      clear d0 d1 d2 d3
      obtain ⟨d0, d1, d2, d3⟩ := HAt.out.later hg5
      have HDZ : Hid (dec zr = (c ++ [(z0, z1, z2, 256 * z3 + z4)]) ++ dec (zr.drop (5 * (t + 1)))) := Lib.hid (by
        rw [HD.out, HDS.out, HTT.out, List.drop_drop]
        simp [Nat.mul_add])
      rcases hM : mayS z0 z1 z2 (256 * z3 + z4) with _ | _
      · have HN : Hid (getS ((m : Int) :: zr) = none) := Lib.hid (getS_none_may (by
          rw [HDZ.out]
          refine mayL_false (k := c.length) (by simp) ?_
          simpa [List.getD_eq_getElem?_getD, mayT] using hM))
        go_wp2
        go_ret2
        exact getU_no HN.out hb5
      · have HA5 : Hid (∀ s ∈ c ++ [(z0, z1, z2, 256 * z3 + z4)], mayT s = true) := Lib.hid (fun s hs => by
          rcases List.mem_append.1 hs with hs | hs
          · exact HA.out s hs
          · obtain rfl := List.mem_singleton.1 hs
            exact hM)
        have hO5 := (ownsRow_below HO2.out hg5).alloc (scO z0 z1 z2 (256 * z3 + z4))
        have HB7 : Hid (Below w.heap.size w (w5.alloc (scO z0 z1 z2 (256 * z3 + z4)))) := Lib.hid (hb5.alloc hb5.size _)
        have hs5 := hb5.size
        have hc4 : c.length ≤ 4 := by rw [HCT.out]; omega
        clear hg5 hb5 hb hb2
        go_wp2_with (at_builtin; refine wpList_append_lies _ rfl _ _ _ rfl w.heap.size 25 jS _ 4 32 Try.underlying22 hiS hy0 hy1 hy2 rfl (by omega) u4 c.length (scsV c) rfl hO5 ⟨w5.heap.size, 0, none⟩ 1 1 (scC (z0, z1, z2, 256 * z3 + z4)) rfl rfl (World.news_of_block (Box.new w5 25 (scA z0 z1 z2 (256 * z3 + z4)))) (by simp [scC, Value.oneCell']) (by omega) (by unfold maxLen; omega) (by omega) (by simp; omega) (w5.heap.size + 1) (by simp) ?_)
        intro g6 cp6 w6 hown6 hgrow6 hat6 hlt6
        have hb6 : Below w.heap.size w w6 := HB7.out.grown hgrow6 (by simp; omega) (fun g hg => (HO2.out.lt g hg).1)
        have HO6 : Hid (w6.ownsRow w.heap.size 25 4 (.slice (some ⟨g6, 0, none⟩) (c.length + 1) cp6) (c ++ [(z0, z1, z2, 256 * z3 + z4)]).length (scsV (c ++ [(z0, z1, z2, 256 * z3 + z4)]))) := Lib.hid (by
          rw [List.length_append, scsV_append]
          simpa [scsV] using hown6)
        clear hown6 hgrow6 hat6 hlt6 hO5 d0 d1 d2 d3
        have hq5I := wI ((q : Int) + 5) (by omega) (by omega)
        go_wp2
        refine ⟨⟨q + 5, t + 1, _, by go_num, by rw [HQ.out]; omega, by simp [HCT.out], by omega, HDZ, HA5, HO6, hb6⟩, by simp [intOf]; omega⟩
    · have htI : ¬ (q : Int) < (len : Int) := by omega
      have hcl : c.length ≤ 4 := by omega
      have HDZ : Hid (dec zr = c) := Lib.hid (by
        obtain rfl : t = m := by omega
        rw [HD.out, List.drop_eq_nil_of_le (by rw [HZ.out]; exact Nat.le_refl _)]
        simp [dec])
      have HM : Hid (mayL c = true) := Lib.hid (mayL_end hcl (fun j hj => HA.out _ (getD_mem c j zeroS hj)))
      obtain ⟨b, cp, rfl, hA⟩ := scs_own rfl HO.out
      have HAt := Lib.hid hA
      have HY : Hid (getS ((m : Int) :: zr) = some c) := Lib.hid (by
        rw [getS_yes HL.out (by rw [HDZ.out]; exact HM.out), HDZ.out])
      clear hA HO hlq hq hct
      go_wp2
      go_ret2
      exact getU_yes HY.out hb HAt.out
theorem rget_any (a : Option Addr) (len cap : Nat) (zs : List Int) (w : World) (h : SliceB w a len cap zs) : Calls Try.prog 14 #[.slice a len cap] w (GetU zs w) := by
  match zs, h with
  | [], h =>
    obtain rfl : len = 0 := by have := h.1; simp at this; omega
    exact rget_short a cap w
  | z :: r, h =>
    obtain ⟨x, rfl, _⟩ := h.2.2.2.2.resolve_left (by have := h.1; simp at this; omega)
    by_cases h4 : 4 < z
    · exact rget_big x len cap z r w h h4
    by_cases hl : (r.length : Int) = 5 * z
    · exact rget_read x len cap z r w h h4 hl
    · exact rget_len x len cap z r w h h4 hl
end Go.Proofs.Ytbihfaplhjbfeaa
