/-
  What package schema's Get returns, as a contract over the translated program.
-/
import Derived.Test.YtbihfaplhjbfeaaE
namespace Go.Proofs.Ytbihfaplhjbfeaa
open Go.RowKit

/- what both packages' Get leave -/
def GetU (zs : List Int) (w : World) (e : Ending) (w' : World) : Prop :=
  ∃ b c, e = .returned (.tuple #[.slice b (getL zs).length c, .int .i64 (getE zs)]) ∧ Below w.heap.size w w' ∧ ScsAt w' b (getL zs).length c (getL zs)
theorem getU_no {zs : List Int} {w w' : World} (hN : getS zs = none) (hb : Below w.heap.size w w') : GetU zs w (.returned (.tuple #[.slice none 0 0, .int .i64 7])) w' := by
  refine ⟨none, 0, ?_, hb, ?_⟩
  · rw [getE_none hN, getL_none hN]
    rfl
  · rw [getL_none hN]
    exact scs_nil _
theorem getU_yes {zs : List Int} {ss : List Sc} {w w' : World} {b : Option Addr} {n c : Nat} (hS : getS zs = some ss) (hb : Below w.heap.size w w') (h : ScsAt w' b n c ss) : GetU zs w (.returned (.tuple #[.slice b n c, .int .i64 0])) w' := by
  obtain rfl : ss.length = n := h.1
  refine ⟨b, c, ?_, hb, ?_⟩
  · rw [getE_some hS, getL_some hS]
  · rw [getL_some hS]
    exact h
def slLen : Value → Nat
  | .slice _ n _ => n
  | _ => 0

theorem get_short (a : Option Addr) (cap : Nat) (w : World) : Calls Try.prog 13 #[.slice a 0 cap] w (GetU [] w) := by
  go_enter Try.func13, Try.ntmps13
  go_wp2
  go_ret2
  exact getU_no rfl (Below.refl _ _)
theorem get_len (x : Addr) (len cap : Nat) (z : Int) (r : List Int) (w : World) (h : SliceB w (some x) len cap (z :: r)) (hl : ¬ (r.length : Int) = 5 * z) : Calls Try.prog 13 #[.slice (some x) len cap] w (GetU (z :: r) w) := by
  have hm := h.max
  have h1 : r.length + 1 = len := h.1
  have hz : 0 ≤ z ∧ z ≤ 255 := h.2.2.2.1 z (by simp)
  obtain ⟨x', hx, hB⟩ := h.2.2.2.2.resolve_left (by omega)
  cases hx
  have c0 := hB 0 (by simp)
  rw [Addr.add_zero'] at c0
  simp only [List.getD_cons_zero] at c0
  have HN := Lib.hid (getS_none_len hl)
  have hd : (((len : Int)) == 1 + 5 * z) = false := by simp; omega
  have hd' : (((len : Int)) != 1 + 5 * z) = true := by simp; omega
  have l0 : ¬ (len : Int) < 1 := by omega
  have l1 : (0 : Int) < (len : Int) := by omega
  clear h h1 hB hl
  go_enter Try.func13, Try.ntmps13
  go_wp2
  go_ret2
  exact getU_no HN.out (Below.refl _ _)

set_option maxRecDepth 100000 in
set_option maxHeartbeats 4000000 in
theorem get_read (x : Addr) (len cap : Nat) (z : Int) (zr : List Int) (w : World) (h : SliceB w (some x) len cap (z :: zr)) (hl : (zr.length : Int) = 5 * z) : Calls Try.prog 13 #[.slice (some x) len cap] w (GetU (z :: zr) w) := by
  obtain ⟨jS, hiS, hy0, hy1, hy2⟩ := info_parts infoS
  have hm := h.max
  have h1 : zr.length + 1 = len := h.1
  have hz : 0 ≤ z ∧ z ≤ 255 := h.2.2.2.1 z (by simp)
  obtain ⟨x', hx, hB⟩ := h.2.2.2.2.resolve_left (by omega)
  cases hx
  have c0 := hB 0 (by simp)
  rw [Addr.add_zero'] at c0
  simp only [List.getD_cons_zero] at c0
  obtain ⟨m, rfl⟩ := Int.eq_ofNat_of_zero_le hz.1
  have hm255 : m ≤ 255 := by omega
  have hlen : len = 5 * m + 1 := by omega
  have hd : (((len : Int)) == 1 + 5 * (m : Int)) = true := by simp; omega
  have hd' : (((len : Int)) != 1 + 5 * (m : Int)) = false := by simp; omega
  have l0 : ¬ (len : Int) < 1 := by omega
  have l1 : (0 : Int) < (len : Int) := by omega
  have l2 : (1 : Int) ≤ (len : Int) := by omega
  have hcut := run_cutI (some x) len cap 1 1 rfl (by omega)
  have hS1 : ∀ W, SliceB W (some x) len cap ((m : Int) :: zr) → SliceB W (cutB (some x) cap 1) (len - 1) (cap - 1) zr := fun W hW => hW.cut (k := 1) (by omega)
  have e1 : len - 1 = 5 * m := by omega
  rw [e1] at hcut hS1
  generalize cutB (some x) cap 1 = a1 at hcut hS1
  have HS1 := Lib.hid hS1
  have H0 := Lib.hid h
  have HL := Lib.hid hl
  have HE1 := Lib.hid e1
  clear h h1 hB hl hS1 hlen e1 hz
  go_enter Try.func13, Try.ntmps13
  go_wp2_with fail
  clear hcut c0 hd hd'
  go_loopw [4, 5] (fun v s wr => ∃ (t : Nat) (a' : Option Addr) (cap' : Nat) (c : List Sc) (r : List Int), s = .slice a' (5 * t) cap' ∧ c.length + t = m ∧ Hid (∀ W, SliceB W (some x) len cap ((m : Int) :: zr) → SliceB W a' (5 * t) cap' r) ∧ Hid (dec zr = c ++ dec r) ∧
      Hid (wr.ownsRow w.heap.size 25 4 v c.length (scsV c)) ∧ Below w.heap.size w wr) (fun _ s _ => slLen s)
  case atStart => exact ⟨m, a1, cap - 1, [], zr, rfl, by simp, HS1, Lib.hid (by simp), Lib.hid (World.ownsRow_nil _ _ _ _), Below.refl _ _⟩
  case round =>
    obtain ⟨t, a', cap', c, r, rfl, hct, HS, HD, HO, hb⟩ := hrel
    clear HS1
    have ht : 5 * t ≤ 9223372036854775807 := by omega
    by_cases ht0 : 0 < t
    · have htI : (0 : Int) < ((5 * t : Nat) : Int) := by omega
      obtain ⟨x', rfl, _⟩ := (HS.out w H0.out).2.2.2.2.resolve_left (by omega)
      have hdec := decode_any x' (5 * t) cap' r wr ((HS.out w H0.out).below hb) (by omega)
      have HDS := Lib.hid (dec_step (zs := r) (by have := (HS.out w H0.out).1; omega))
      have HTT : Hid (decT r = (r.getD 0 0, r.getD 1 0, r.getD 2 0, r.getD 3 0 * 256 + r.getD 4 0)) := Lib.hid rfl
      generalize r.getD 0 0 = z0 at hdec HTT
      generalize r.getD 1 0 = z1 at hdec HTT
      generalize r.getD 2 0 = z2 at hdec HTT
      generalize r.getD 3 0 * 256 + r.getD 4 0 = z3 at hdec HTT
      have HDec := Lib.hid hdec
      have hcut := run_cutI (some x') (5 * t) cap' 5 5 rfl (by omega)
      have hS2 : ∀ W, SliceB W (some x) len cap ((m : Int) :: zr) → SliceB W (cutB (some x') cap' 5) (5 * t - 5) (cap' - 5) (r.drop 5) := fun W hW => (HS.out W hW).cut (k := 5) (by omega)
      have e5 : 5 * t - 5 = 5 * (t - 1) := by omega
      rw [e5] at hcut hS2
      generalize cutB (some x') cap' 5 = a3 at hcut hS2
      have HS2 := Lib.hid hS2
      have l5 : (5 : Int) ≤ ((5 * t : Nat) : Int) := by omega
      clear hdec hS2 e5
      go_wp2_with fail
      refine HDec.out.mono ?_
      rintro e w5 ⟨rfl, hg5⟩
      have hb5 : Below w.heap.size w w5 := hb.trans (hg5.mono hb.size)
      have hO5 := (ownsRow_below HO.out hg5).alloc (scO z0 z1 z2 z3)
      have HB7 : Hid (Below w.heap.size w (w5.alloc (scO z0 z1 z2 z3))) := Lib.hid (hb5.alloc hb5.size _)
      have hs5 := hb5.size
      have hc255 : c.length ≤ 255 := by omega
      clear hg5 HDec hb5
      go_wp2_with (at_builtin; refine wpList_append_lies _ rfl _ _ _ rfl w.heap.size 25 jS _ 4 32 Try.underlying22 hiS hy0 hy1 hy2 rfl (by omega) u4 c.length (scsV c) rfl hO5 ⟨w5.heap.size, 0, none⟩ 1 1 (scC (z0, z1, z2, z3)) rfl rfl (World.news_of_block (Box.new w5 25 (scA z0 z1 z2 z3))) (by simp [scC, Value.oneCell']) (by omega) (by unfold maxLen; omega) (by omega) (by simp; omega) (w5.heap.size + 1) (by simp) ?_)
      intro g6 cp6 w6 hown6 hgrow6 hat6 hlt6
      have hb6 : Below w.heap.size w w6 := HB7.out.grown hgrow6 (by simp; omega) (fun g hg => (HO.out.lt g hg).1)
      have HO6 : Hid (w6.ownsRow w.heap.size 25 4 (.slice (some ⟨g6, 0, none⟩) (c.length + 1) cp6) (c ++ [(z0, z1, z2, z3)]).length (scsV (c ++ [(z0, z1, z2, z3)]))) := Lib.hid (by
        rw [List.length_append, scsV_append]
        simpa [scsV] using hown6)
      have HD6 : Hid (dec zr = (c ++ [(z0, z1, z2, z3)]) ++ dec (r.drop 5)) := Lib.hid (by
        rw [HD.out, HDS.out, HTT.out]
        simp)
      clear hown6 hgrow6 hat6 hlt6 hO5 hb HO
      go_wp2
      go_roundw
      case rel => exact ⟨t - 1, a3, cap' - 5, _, _, rfl, by simp; omega, HS2, HD6, HO6, hb6⟩
      case measure => simp [slLen]; omega
    · have htI : ¬ (0 : Int) < ((5 * t : Nat) : Int) := by omega
      have HDZ : Hid (dec zr = c) := Lib.hid (by
        have := (HS.out w H0.out).1
        have hr : r = [] := List.length_eq_zero_iff.1 (by omega)
        rw [HD.out, hr]
        simp [dec])
      obtain ⟨b, cp, rfl, hA⟩ := scs_own rfl HO.out
      have HA := Lib.hid hA
      clear hA HO
      go_wp2_with fail
      refine (mayAll_any b c.length cp c wr HA.out).mono ?_
      rintro e w7 ⟨rfl, hg7⟩
      have HA7 := Lib.hid (HA.out.below hg7)
      replace hb := hb.trans (hg7.mono hb.size)
      clear hg7 HA
      rcases hM : mayL c with _ | _
      · have HN : Hid (getS ((m : Int) :: zr) = none) := Lib.hid (getS_none_may (by rw [HDZ.out]; exact hM))
        go_wp2
        go_ret2
        exact getU_no HN.out hb
      · have HY : Hid (getS ((m : Int) :: zr) = some c) := Lib.hid (by
          rw [getS_yes HL.out (by rw [HDZ.out]; exact hM), HDZ.out])
        go_wp2
        go_ret2
        exact getU_yes HY.out hb HA7.out
theorem get_any (a : Option Addr) (len cap : Nat) (zs : List Int) (w : World) (h : SliceB w a len cap zs) : Calls Try.prog 13 #[.slice a len cap] w (GetU zs w) := by
  match zs, h with
  | [], h =>
    obtain rfl : len = 0 := by have := h.1; simp at this; omega
    exact get_short a cap w
  | z :: r, h =>
    obtain ⟨x, rfl, _⟩ := h.2.2.2.2.resolve_left (by have := h.1; simp at this; omega)
    by_cases hl : (r.length : Int) = 5 * z
    · exact get_read x len cap z r w h hl
    · exact get_len x len cap z r w h hl
end Go.Proofs.Ytbihfaplhjbfeaa
