/-
  SchemaBack: for every list of schemas and every row of bytes the law returns true: what is put is got; what is got may be, and is put as the same bytes.
  Conditions: none.
-/
import Derived.Test.YtbihfaplhjbfeaaRows
import Derived.Test.YtbihfaplhjbfeaaO
import Derived.Test.YtbihfaplhjbfeaaH
import Derived.WalkKit
import Derived.ProofKit
import Derived.OpenShut
import Derived.ChangeOld
import Derived.Below
namespace Go.Proofs.Ytbihfaplhjbfeaa.schemaBack
open Go.ChangeShapes Go.WideShapes Go.ChangeAt Go.RowKit
set_option linter.unusedVariables false

set_option maxRecDepth 100000 in
set_option maxHeartbeats 4000000 in
theorem walk (a0 : Option Addr) (len0 cap0 : Nat) (s0 : List Sc) (a1 : Option Addr) (len1 cap1 : Nat) (z1 : List Int) (w : World) (w0 : ScsAt w a0 len0 cap0 s0) (w1 : SliceB w a1 len1 cap1 z1) :
    Calls Try.prog 4 #[.slice a0 len0 cap0, .slice a1 len1 cap1] w fun e w' => e = .returned (.bool true) ∧ Below w.heap.size w w' := by
  have hm0 := w0.max
  have hm1 := w1.max
  have HS := Lib.hid w0
  have HZ := Lib.hid w1
  clear w0 w1
  go_enter Try.func4, Try.ntmps4
  go_wp2_with fail
  refine (awake_any _).mono ?_
  rintro e w1 ⟨rfl, hg⟩
  have hb := hg
  replace HS := Lib.hid (HS.out.below hg)
  replace HZ := Lib.hid (HZ.out.below hg)
  clear hg
  by_cases h20 : 20 < len0
  · have h20I : (20 : Int) < (len0 : Int) := by omega
    go_wp2
    go_ret
    exact ⟨rfl, hb⟩
  have h20I : ¬ (20 : Int) < (len0 : Int) := by omega
  by_cases h100 : 100 < len1
  · have h100I : (100 : Int) < (len1 : Int) := by omega
    go_wp2
    go_ret
    exact ⟨rfl, hb⟩
  have h100I : ¬ (100 : Int) < (len1 : Int) := by omega
  go_wp2_with fail
  refine (put_any a0 len0 cap0 s0 _ HS.out).mono ?_
  rintro e w2 ⟨p, cp, rfl, hg, hP⟩
  replace HS := Lib.hid (HS.out.below hg)
  replace HZ := Lib.hid (HZ.out.below hg)
  replace hb := hb.trans (hg.mono hb.size)
  have HP := Lib.hid hP
  clear hg hP
  rcases hM : mayL s0 with _ | _
  · rw [putE_no hM, putZ_no hM]
    rw [putZ_no hM] at HP
    clear hM
    go_wp2_with fail
    refine (get_any p 0 cp [] _ HP.out).mono ?_
    rintro e w3 ⟨x, cx, rfl, hg, hX⟩
    replace HS := Lib.hid (HS.out.below hg)
    replace HZ := Lib.hid (HZ.out.below hg)
    replace hb := hb.trans (hg.mono hb.size)
    have HX := Lib.hid hX
    clear hg hX
    rw [getE_none (zs := []) rfl, getL_none (zs := []) rfl]
    rw [getL_none (zs := []) rfl] at HX
    go_wp2_with fail
    refine (same_any x a0 0 cx len0 cap0 [] s0 _ HX.out HS.out).mono ?_
    rintro e w4 ⟨rfl, hg⟩
    replace HZ := Lib.hid (HZ.out.below hg)
    replace hb := hb.trans (hg.mono hb.size)
    clear hg HX HP HS
    generalize decide ([] = s0) = sm
    go_wp2_with fail
    refine (get_any a1 len1 cap1 z1 _ HZ.out).mono ?_
    rintro e w5 ⟨y, cy, rfl, hg, hY⟩
    replace HZ := Lib.hid (HZ.out.below hg)
    replace hb := hb.trans (hg.mono hb.size)
    have HY := Lib.hid hY
    clear hg hY
    rcases hG : getS z1 with _ | ss
    · rw [getE_none hG, getL_none hG]
      clear hG
      go_wp2
      go_ret
      exact ⟨rfl, hb⟩
    have hGS := getS_some HZ.out.2.2.2.1 hG
    rw [getE_some hG, getL_some hG]
    rw [getL_some hG] at HY
    have HG := Lib.hid hGS
    clear hG hGS
    have hly := HY.out.max
    generalize hLY : ss.length = LY at *
    have HLY := Lib.hid hLY
    clear hLY
    go_wp2_with fail
    refine (put_any y LY cy ss _ HY.out).mono ?_
    rintro e w6 ⟨q, cq, rfl, hg, hQ⟩
    replace HZ := Lib.hid (HZ.out.below hg)
    replace hb := hb.trans (hg.mono hb.size)
    rw [putE_yes HG.out.1, putZ_yes HG.out.1, HG.out.2]
    rw [putZ_yes HG.out.1, HG.out.2] at hQ
    have HQ := Lib.hid hQ
    clear hg hQ
    have hlz : z1.length = len1 := HZ.out.1
    rw [hlz] at HQ
    rw [hlz]
    go_wp2_with fail
    refine (bytesB_any q a1 len1 cq len1 cap1 z1 z1 _ HQ.out HZ.out).mono ?_
    rintro e w7 ⟨rfl, hg⟩
    replace hb := hb.trans (hg.mono hb.size)
    rw [show decide (z1 = z1) = true from decide_eq_true rfl]
    go_wp2
    go_ret
    exact ⟨rfl, hb⟩
  · rw [putE_yes hM, putZ_yes hM]
    rw [putZ_yes hM] at HP
    have HG0 := Lib.hid (getS_enc hM)
    have hL0 := encS_len s0
    rw [HS.out.1] at hL0
    clear hM
    generalize encS s0 = zp at *
    have hlp : zp.length = 1 + 5 * len0 := hL0
    rw [hlp] at HP
    rw [hlp]
    clear hL0 hlp
    go_wp2_with fail
    refine (get_any p (1 + 5 * len0) cp zp _ HP.out).mono ?_
    rintro e w3 ⟨x, cx, rfl, hg, hX⟩
    replace HS := Lib.hid (HS.out.below hg)
    replace HZ := Lib.hid (HZ.out.below hg)
    replace hb := hb.trans (hg.mono hb.size)
    have HX := Lib.hid hX
    clear hg hX
    rw [getE_some HG0.out, getL_some HG0.out]
    rw [getL_some HG0.out] at HX
    have hls : s0.length = len0 := HS.out.1
    rw [hls] at HX
    rw [hls]
    go_wp2_with fail
    refine (same_any x a0 len0 cx len0 cap0 s0 s0 _ HX.out HS.out).mono ?_
    rintro e w4 ⟨rfl, hg⟩
    replace HZ := Lib.hid (HZ.out.below hg)
    replace hb := hb.trans (hg.mono hb.size)
    clear hg HX HP HS hls
    rw [show decide (s0 = s0) = true from decide_eq_true rfl]
    go_wp2_with fail
    refine (get_any a1 len1 cap1 z1 _ HZ.out).mono ?_
    rintro e w5 ⟨y, cy, rfl, hg, hY⟩
    replace HZ := Lib.hid (HZ.out.below hg)
    replace hb := hb.trans (hg.mono hb.size)
    have HY := Lib.hid hY
    clear hg hY
    rcases hG : getS z1 with _ | ss
    · rw [getE_none hG, getL_none hG]
      clear hG
      go_wp2
      go_ret
      exact ⟨rfl, hb⟩
    have hGS := getS_some HZ.out.2.2.2.1 hG
    rw [getE_some hG, getL_some hG]
    rw [getL_some hG] at HY
    have HG := Lib.hid hGS
    clear hG hGS
    have hly := HY.out.max
    generalize hLY : ss.length = LY at *
    have HLY := Lib.hid hLY
    clear hLY
    go_wp2_with fail
    refine (put_any y LY cy ss _ HY.out).mono ?_
    rintro e w6 ⟨q, cq, rfl, hg, hQ⟩
    replace HZ := Lib.hid (HZ.out.below hg)
    replace hb := hb.trans (hg.mono hb.size)
    rw [putE_yes HG.out.1, putZ_yes HG.out.1, HG.out.2]
    rw [putZ_yes HG.out.1, HG.out.2] at hQ
    have HQ := Lib.hid hQ
    clear hg hQ
    have hlz : z1.length = len1 := HZ.out.1
    rw [hlz] at HQ
    rw [hlz]
    go_wp2_with fail
    refine (bytesB_any q a1 len1 cq len1 cap1 z1 z1 _ HQ.out HZ.out).mono ?_
    rintro e w7 ⟨rfl, hg⟩
    replace hb := hb.trans (hg.mono hb.size)
    rw [show decide (z1 = z1) = true from decide_eq_true rfl]
    go_wp2
    go_ret
    exact ⟨rfl, hb⟩


theorem own : ownKnob Try.prog.godebug = none := by kernel_rfl
theorem laidOut : laidOutB Try.prog = true := by kernel_rfl
set_option maxRecDepth 100000 in
theorem lifted (os : Os) (started : os.Started) (H : Type) (enc : TypeId × Value → H) :
    ReturnsInHanded {} Try.checked os 4 .any (Rows.schemaBackSpec.pre6 enc Try.prog Try.f4 Rows.schemaBackRow.domain false) (Rows.schemaBackSpec.post enc Try.prog Try.f4 false true false false) := by
  refine returnsInHanded_of_change (C := Try.checked) own started (by kernel_rfl) Try.func4
    (ChangeSpec.witness6 (enc := enc) (C := Try.checked) false ⟨#[], #[.slice none 0 0, .slice none 0 0], []⟩ 8 (by kernel_rfl) (by kernel_rfl) (by kernel_rfl) (by kernel_rfl)) ?_
  intro W base args ds gs before hval0 hW hcnd _
  have hval : ∀ (j : Nat) t v, Try.f4.params[j]? = some t → args[j]? = some v → Value.okWide Try.prog W .any base t v := hval0
  have hW' := hW
  obtain ⟨p, q, hA0, hV, rfl, hfz, hnd⟩ := hW
  have hA : DataW.TrodAll enc Try.prog W 0 (fun _ => true) true Try.f4.params.toList args.toList ds p := hA0
  rw [Try.params4] at hA hval
  obtain ⟨u0, vs0, e0, ds0, p0, q0, hargs, rfl, rfl, h0, t0⟩ := trodAll_cons hA
  obtain ⟨u1, vs1, e1, ds1, p1, q1, rfl, rfl, rfl, h1, t1⟩ := trodAll_cons t0
  obtain ⟨rfl, rfl, rfl⟩ := trodAll_nil t1
  obtain rfl : args = #[u0, u1] := by cases args; simp_all
  obtain ⟨rfl, rfl⟩ := trodVars_none hV
  have y0 := h0
  have lt0 : ∀ x ∈ p0, x.block < W.heap.size := by obtain ⟨m, hm⟩ := y0; exact DataW.trod_lt m _ _ _ hm
  have y1 := h1
  have lt1 : ∀ x ∈ p1, x.block < W.heap.size := by obtain ⟨m, hm⟩ := y1; exact DataW.trod_lt m _ _ _ hm
  obtain ⟨a0, len0, cap0, s0, rfl, w0⟩ := open_scs (hval 0 22 u0 rfl rfl) h0
  obtain ⟨a1, len1, cap1, z1, rfl, w1⟩ := open_bytes (hval 1 23 u1 rfl rfl) h1
  clear hA0 hval0
  refine (walk a0 len0 cap0 s0 a1 len1 cap1 z1 W w0 w1).mono fun e W' ⟨he, bel⟩ => ?_
  subst he
  exact ⟨_, rfl, _, _, _, [], _, [], hW', trodAll_mk1 (shut_bool Try.underlying4 _), (trodAll_cons_mk (Below.trod laidOut (by kernel_rfl) (of_decide_eq_true (by kernel_rfl)) y0 bel lt0) (trodAll_cons_mk (Below.trod laidOut (by kernel_rfl) (of_decide_eq_true (by kernel_rfl)) y1 bel lt1) trodAll_mk0)), rfl, bel.frame _, fun h => by cases h⟩

theorem over : Rows.schemaBackRow.holds Try.pinned (OpenSpec.ofChange Rows.schemaBackSpec) :=
  OpenClaim.holds_of_wide 4 Try.f4 rfl rfl rfl rfl rfl rfl rfl ⟨rfl, rfl, rfl, rfl, rfl⟩ rfl rfl rfl rfl rfl (by kernel_rfl) Try.func4 (by kernel_rfl)
    (of_decide_eq_true (by kernel_rfl)) (by unfold Func.isWrapper; first | (rw [if_pos (by decide +kernel)]; kernel_rfl) | (rw [if_neg (by decide +kernel)]; exact ⟨rfl, rfl⟩))
    (fun os started H enc _ => lifted os started H enc)

theorem proved : Rows.SchemaBackSaid := over
#print axioms proved
end Go.Proofs.Ytbihfaplhjbfeaa.schemaBack
