/-
  SchemaLists: for every two lists of schemas the law returns true: as many as are put are got, in order; two lists' bytes, but for how many there are, stand one behind the other.
  Conditions: none.
-/
import Derived.Test.YtbihfaplhjbfeaaRows
import Derived.Test.YtbihfaplhjbfeaaO
import Derived.Test.YtbihfaplhjbfeaaH
import Derived.Test.YtbihfaplhjbfeaaJ
import Derived.WalkKit
import Derived.ProofKit
import Derived.OpenShut
import Derived.ChangeOld
import Derived.Below
import Derived.SizedLaws
namespace Go.Proofs.Ytbihfaplhjbfeaa.schemaLists
open Go.ChangeShapes Go.WideShapes Go.ChangeAt Go.RowKit
set_option linter.unusedVariables false

set_option maxRecDepth 100000 in
set_option maxHeartbeats 4000000 in
theorem walk (a0 : Option Addr) (len0 cap0 : Nat) (s0 : List Sc) (a1 : Option Addr) (len1 cap1 : Nat) (s1 : List Sc) (w : World) (w0 : ScsAt w a0 len0 cap0 s0) (w1 : ScsAt w a1 len1 cap1 s1) (r0 : len0 ≤ 4398046511104) (r1 : len1 ≤ 4398046511104) :
    Calls Try.prog 7 #[.slice a0 len0 cap0, .slice a1 len1 cap1] w fun e w' => e = .returned (.bool true) ∧ Below w.heap.size w w' := by
  have HS0 := Lib.hid w0
  have HS1 := Lib.hid w1
  clear w0 w1
  go_enter Try.func7, Try.ntmps7
  go_wp2_with fail
  refine (awake_any _).mono ?_
  rintro e w1 ⟨rfl, hg⟩
  have hb := hg
  replace HS0 := Lib.hid (HS0.out.below hg)
  replace HS1 := Lib.hid (HS1.out.below hg)
  clear hg
  have hw0 := wI ((len0 : Int) + (len1 : Int)) (by omega) (by omega)
  by_cases h4 : 4 < len0 + len1
  · have h4I : (4 : Int) < (len0 : Int) + (len1 : Int) := by omega
    go_wp2
    go_ret
    exact ⟨rfl, hb⟩
  have h4I : ¬ (4 : Int) < (len0 : Int) + (len1 : Int) := by omega
  have HL4 : Hid ((s0 ++ s1).length ≤ 4) := Lib.hid (by rw [List.length_append, HS0.out.1, HS1.out.1]; omega)
  go_wp2_with fail
  refine (put_any a0 len0 cap0 s0 _ HS0.out).mono ?_
  rintro e w2 ⟨x, cx, rfl, hg, hX⟩
  replace HS0 := Lib.hid (HS0.out.below hg)
  replace HS1 := Lib.hid (HS1.out.below hg)
  replace hb := hb.trans (hg.mono hb.size)
  have HX := Lib.hid hX
  clear hg hX
  go_wp2_with fail
  refine (put_any a1 len1 cap1 s1 _ HS1.out).mono ?_
  rintro e w3 ⟨y, cy, rfl, hg, hY⟩
  replace HS0 := Lib.hid (HS0.out.below hg)
  replace HS1 := Lib.hid (HS1.out.below hg)
  replace HX := Lib.hid (HX.out.below hg)
  replace hb := hb.trans (hg.mono hb.size)
  have HY := Lib.hid hY
  clear hg hY
  have hl0 : s0.length = len0 := HS0.out.1
  have hl1 : s1.length = len1 := HS1.out.1
  have HLL := Lib.hid (show (s0 ++ s1).length = len0 + len1 by rw [List.length_append, hl0, hl1])
  clear hl0 hl1
  go_wp2_with (at_builtin; refine wpList_cat _ rfl _ _ rfl rfl w3.heap.size (.slice none 0 0) [] s0 a0 len0 cap0 rfl rfl (World.ownsRow_nil _ _ _ _) HS0.out (by simp; omega) (Nat.le_refl _) w3.heap.size w3 (Below.refl _ _) (Nat.le_refl _) ?_)
  intro v4 w4 hO4 hB4 hZ4
  have HO4 := Lib.hid hO4
  have HB4 := Lib.hid hB4
  have HS14 := Lib.hid (HS1.out.below hB4)
  clear hO4 hB4
  go_wp2_with (at_builtin; refine wpList_cat _ rfl _ _ rfl rfl w3.heap.size v4 s0 s1 a1 len1 cap1 rfl rfl HO4.out HS14.out (by rw [HS0.out.1]; omega) hZ4 w3.heap.size w3 HB4.out (Nat.le_refl _) ?_)
  intro v5 w5 hO5 hg hZ5
  simp only [HS0.out.1, HS1.out.1] at hO5
  obtain ⟨z5, c5, rfl, hA5⟩ := scs_own HLL.out hO5
  have HA5 := Lib.hid hA5
  replace HX := Lib.hid (HX.out.below hg)
  replace HY := Lib.hid (HY.out.below hg)
  replace hb := hb.trans (hg.mono hb.size)
  clear hg hO5 hA5 HO4 HB4 HS14 hZ4 hZ5
  go_wp2_with fail
  refine (put_any z5 (len0 + len1) c5 (s0 ++ s1) _ HA5.out).mono ?_
  rintro e w6 ⟨z, cz, rfl, hg, hZ⟩
  replace HX := Lib.hid (HX.out.below hg)
  replace HY := Lib.hid (HY.out.below hg)
  replace hb := hb.trans (hg.mono hb.size)
  have HZ := Lib.hid hZ
  clear hg hZ HA5
  rcases hM0 : mayL s0 with _ | _
  · rw [putE_no hM0, putZ_no hM0]
    generalize putE s1 = eE at *
    generalize hpz : putZ s1 = zE at *
    rcases hM1 : mayL s1 with _ | _
    · have hMM : mayL (s0 ++ s1) = false := by rw [mayL_append HL4.out, hM0, hM1]; rfl
      rw [putE_no hMM, putZ_no hMM]
      clear hMM hM0 hM1
      go_wp2
      go_ret
      exact ⟨rfl, hb⟩
    · have hMM : mayL (s0 ++ s1) = false := by rw [mayL_append HL4.out, hM0, hM1]; rfl
      rw [putE_no hMM, putZ_no hMM]
      clear hMM hM0 hM1
      go_wp2
      go_ret
      exact ⟨rfl, hb⟩
  rcases hM1 : mayL s1 with _ | _
  · rw [putE_yes hM0, putZ_yes hM0, putE_no hM1, putZ_no hM1]
    have hMM : mayL (s0 ++ s1) = false := by rw [mayL_append HL4.out, hM0, hM1]; rfl
    rw [putE_no hMM, putZ_no hMM]
    clear hMM hM0 hM1
    go_wp2
    go_ret
    exact ⟨rfl, hb⟩
  have hMM : mayL (s0 ++ s1) = true := by rw [mayL_append HL4.out, hM0, hM1]; rfl
  rw [putE_yes hM0, putZ_yes hM0, putE_yes hM1, putZ_yes hM1, putE_yes hMM, putZ_yes hMM]
  rw [putZ_yes hM0] at HX
  rw [putZ_yes hM1] at HY
  rw [putZ_yes hMM] at HZ
  clear hM0 hM1 hMM
  have hlx : (encS s0).length = 1 + 5 * len0 := by rw [encS_len, HS0.out.1]
  have hly : (encS s1).length = 1 + 5 * len1 := by rw [encS_len, HS1.out.1]
  have hlz : (encS (s0 ++ s1)).length = 1 + 5 * (len0 + len1) := by rw [encS_len, HLL.out]
  have hc0 : (encS (s0 ++ s1)).getD 0 0 = (len0 : Int) + (len1 : Int) := by
    have e : (encS (s0 ++ s1)).getD 0 0 = ((s0 ++ s1).length : Int) := rfl
    rw [e, HLL.out]
    omega
  have HE1 := Lib.hid (encS_drop s0)
  have HE2 := Lib.hid (encS_drop s1)
  have HE3 := Lib.hid (encS_mid (a := s0) (b := s1) (encS_len s0))
  have HE4 := Lib.hid (encS_end (a := s0) (b := s1) (encS_len s0))
  generalize encB s0 = E0 at *
  generalize encB s1 = E1 at *
  generalize encS s0 = X0 at *
  generalize encS s1 = Y0 at *
  generalize encS (s0 ++ s1) = Z0 at *
  generalize X0.length = Lx at *
  generalize Y0.length = Ly at *
  generalize Z0.length = Lz at *
  obtain ⟨zp, rfl, hBz⟩ := HZ.out.2.2.2.2.resolve_left (by omega)
  have c0 := hBz 0 (by rw [HZ.out.1]; omega)
  rw [Addr.add_zero', hc0] at c0
  have hcz := HZ.out.2.1
  obtain ⟨A1, C1, q1, k1⟩ := cut_mid (some zp) Lz cz 1 Lx (5 * len0) 1 (Lx : Int) rfl rfl (by omega) (by omega) hcz
  obtain ⟨A2, C2, q2, k2⟩ := cut_from x Lx cx 1 (5 * len0) 1 rfl (by omega)
  obtain ⟨A3, C3, q3, k3⟩ := cut_from (some zp) Lz cz Lx (5 * len1) (Lx : Int) rfl (by omega)
  obtain ⟨A4, C4, q4, k4⟩ := cut_from y Ly cy 1 (5 * len1) 1 rfl (by omega)
  have HB1 := Lib.hid (k1 _ _ HZ.out)
  have HB2 := Lib.hid (k2 _ _ HX.out)
  have HB3 := Lib.hid (k3 _ _ HZ.out)
  have HB4 := Lib.hid (k4 _ _ HY.out)
  rw [HE3.out] at HB1
  rw [HE1.out] at HB2
  rw [HE4.out] at HB3
  rw [HE2.out] at HB4
  clear k1 k2 k3 k4 hBz hc0 hcz HE1 HE2 HE3 HE4 HX HY HZ HS0 HS1 HLL HL4
  have hv1 := wI (5 * (len0 : Int)) (by omega) (by omega)
  have hv2 := wI (1 + 5 * (len0 : Int)) (by omega) (by omega)
  have hv3 := wI (5 * (len1 : Int)) (by omega) (by omega)
  have hv4 := wI (1 + 5 * (len1 : Int)) (by omega) (by omega)
  have hv5 := wI ((Lx : Int) + (Ly : Int)) (by omega) (by omega)
  have hv6 := wI ((Lx : Int) + (Ly : Int) - 1) (by omega) (by omega)
  have b1 : ((Lx : Int) != 1 + 5 * (len0 : Int)) = false := by simp; omega
  have b2 : ((Ly : Int) != 1 + 5 * (len1 : Int)) = false := by simp; omega
  have b3 : ((Lz : Int) != (Lx : Int) + (Ly : Int) - 1) = false := by simp; omega
  have l0 : (0 : Int) < (Lz : Int) := by omega
  have l1 : (Lx : Int) ≤ (Lz : Int) := by omega
  have l2 : Lx ≤ 21 ∧ Ly ≤ 21 ∧ Lz ≤ 21 := by omega
  clear hlx hly hlz
  have hq0 : Below w6.heap.size w6 w6.drew := (Below.refl _ _).drew
  go_wp2_with fail
  go_region_held3 (fun w' => Below w6.heap.size w6 w')
    (first
      | exact hq0
      | exact hb7
      | exact hb8)
    (first
      | (go_at_call 12; have hq := hb7; refine (bytesB_any A3 A4 (5 * len1) C3 (5 * len1) C4 E1 E1 _ (by exact HB3.out.below hb7) (by exact HB4.out.below hb7)).mono ?_; rintro e w8 ⟨rfl, hg8⟩; have hb8 := hb7.trans (hg8.mono hb7.size))
      | (go_at_call 12; refine (bytesB_any A1 A2 (5 * len0) C1 (5 * len0) C2 E0 E0 _ (by exact HB1.out.below hq0) (by exact HB2.out.below hq0)).mono ?_; rintro e w7 ⟨rfl, hg7⟩; have hb7 := hq0.trans (hg7.mono hq0.size)))
  replace hb := hb.trans (hb8.mono hb.size)
  clear hb7 hb8 hg7 hg8
  go_wp2
  go_ret
  exact ⟨rfl, hb⟩


theorem own : ownKnob Try.prog.godebug = none := by kernel_rfl
theorem laidOut : laidOutB Try.prog = true := by kernel_rfl
set_option maxRecDepth 100000 in
theorem lifted (os : Os) (started : os.Started) (H : Type) (enc : TypeId × Value → H) :
    ReturnsInHanded {} Try.checked os 7 .any (Rows.schemaListsSpec.pre6 enc Try.prog Try.f7 Rows.schemaListsRow.domain false) (Rows.schemaListsSpec.post enc Try.prog Try.f7 false true false false) := by
  refine returnsInHanded_of_change_sized (C := Try.checked) own started (by kernel_rfl) Try.func7
    (ChangeSpec.witness6 (enc := enc) (C := Try.checked) false ⟨#[], #[.slice none 0 0, .slice none 0 0], []⟩ 8 (by kernel_rfl) (by kernel_rfl) (by kernel_rfl) (by kernel_rfl)) ?_
  intro W base args ds gs before hval0 hW hcnd hsz0 _
  have hval : ∀ (j : Nat) t v, Try.f7.params[j]? = some t → args[j]? = some v → Value.okWide Try.prog W .any base t v := hval0
  have hW' := hW
  obtain ⟨p, q, hA0, hV, rfl, hfz, hnd⟩ := hW
  have hA : DataW.TrodAll enc Try.prog W 0 (fun _ => true) true Try.f7.params.toList args.toList ds p := hA0
  have hsz : (DataW.weightsEach Try.prog (Try.f7.params.toList ++ Rows.schemaListsSpec.plain.varTypes Try.prog) (ds ++ gs)).all (· ≤ reachBytes) = true := hsz0
  rw [Try.params7] at hA hval hsz
  obtain ⟨u0, vs0, e0, ds0, p0, q0, hargs, rfl, rfl, h0, t0⟩ := trodAll_cons hA
  obtain ⟨u1, vs1, e1, ds1, p1, q1, rfl, rfl, rfl, h1, t1⟩ := trodAll_cons t0
  obtain ⟨rfl, rfl, rfl⟩ := trodAll_nil t1
  obtain rfl : args = #[u0, u1] := by cases args; simp_all
  obtain ⟨rfl, rfl⟩ := trodVars_none hV
  have y0 := h0
  have lt0 : ∀ x ∈ p0, x.block < W.heap.size := by obtain ⟨m, hm⟩ := y0; exact DataW.trod_lt m _ _ _ hm
  have y1 := h1
  have lt1 : ∀ x ∈ p1, x.block < W.heap.size := by obtain ⟨m, hm⟩ := y1; exact DataW.trod_lt m _ _ _ hm
  obtain ⟨a0, len0, cap0, s0, rfl, w0⟩ := open_scs (hval 0 22 u0 rfl rfl) h0
  obtain ⟨a1, len1, cap1, s1, rfl, w1⟩ := open_scs (hval 1 22 u1 rfl rfl) h1
  have r0 : len0 ≤ 4398046511104 := by
    rcases scs_data y0 with h | ⟨el, sp, he, hl⟩
    · omega
    · subst he
      have hs := sized_slice hsz (j := 0) (t := 22) (e := 25) rfl rfl Try.underlying22
      rw [bytesS] at hs
      simp only [reachBytes] at hs
      omega
  have r1 : len1 ≤ 4398046511104 := by
    rcases scs_data y1 with h | ⟨el, sp, he, hl⟩
    · omega
    · subst he
      have hs := sized_slice hsz (j := 1) (t := 22) (e := 25) rfl rfl Try.underlying22
      rw [bytesS] at hs
      simp only [reachBytes] at hs
      omega
  clear hsz hsz0
  clear hA0 hval0
  refine (walk a0 len0 cap0 s0 a1 len1 cap1 s1 W w0 w1 r0 r1).mono fun e W' ⟨he, bel⟩ => ?_
  subst he
  exact ⟨_, rfl, _, _, _, [], _, [], hW', trodAll_mk1 (shut_bool Try.underlying4 _), (trodAll_cons_mk (Below.trod laidOut (by kernel_rfl) (of_decide_eq_true (by kernel_rfl)) y0 bel lt0) (trodAll_cons_mk (Below.trod laidOut (by kernel_rfl) (of_decide_eq_true (by kernel_rfl)) y1 bel lt1) trodAll_mk0)), rfl, bel.frame _, fun h => by cases h⟩

theorem over : Rows.schemaListsRow.holds Try.pinned (OpenSpec.ofChange Rows.schemaListsSpec) :=
  OpenClaim.holds_of_wide 7 Try.f7 rfl rfl rfl rfl rfl rfl rfl ⟨rfl, rfl, rfl, rfl, rfl⟩ rfl rfl rfl rfl rfl (by kernel_rfl) Try.func7 (by kernel_rfl)
    (of_decide_eq_true (by kernel_rfl)) (by unfold Func.isWrapper; first | (rw [if_pos (by decide +kernel)]; kernel_rfl) | (rw [if_neg (by decide +kernel)]; exact ⟨rfl, rfl⟩))
    (fun os started H enc _ => lifted os started H enc)

theorem proved : Rows.SchemaListsSaid := over
#print axioms proved
end Go.Proofs.Ytbihfaplhjbfeaa.schemaLists
