/-
  An Array always has just the keys below Cap; one that is new has noughts; no other key is set, or let go.
  Conditions: none.
-/
import Derived.Test.YtlbmgablkphioaaRows
import Derived.Test.YtlbmgablkphioaaX2
import Derived.WalkKit
import Derived.ProofKit
import Derived.OpenShut
import Derived.ChangeOld
import Derived.Below
namespace Go.Proofs.Ytlbmgablkphioaa.tableArray
open Go.ChangeShapes Go.WideShapes Go.ChangeAt Go.RowKit
set_option linter.unusedVariables false

set_option maxRecDepth 100000 in
set_option maxHeartbeats 8000000 in
theorem walk (a0 : Int) (w0 : (Lit.int .i64 a0).wf = true) (a1 : Int) (w1 : (Lit.int .i64 a1).wf = true) (a2 : Option Addr) (len2 cap2 : Nat) (z2 : List Int) (w : World) (w2 : WordsAt w a2 len2 cap2 z2) :
    Calls Try.prog 9 #[.int .i64 a0, .int .i64 a1, .slice a2 len2 cap2] w fun e w' => e = .returned (.bool true) ∧ Below w.heap.size w w' := by
  have HWd := Lib.hid w2
  have hlm := w2.max
  clear w0 w1 w2
  go_enter Try.func9, Try.ntmps9
  go_wp2_with fail
  refine (awake_any w).mono ?_
  rintro e m1 ⟨rfl, hb1⟩
  have HB := Lib.hid hb1
  clear hb1
  go_wp2_with fail
  have c2 := tnew_any 0 a0 a1 0 m1
  rcases hmay : mayT (0, a0, a1, 0) with _ | _
  · rw [show newT (0, a0, a1, 0) = zeroT by rw [newT, hmay]; rfl, show newE (0, a0, a1, 0) = 1 by rw [newE, hmay]; rfl] at c2
    refine c2.mono ?_
    rintro e m2 ⟨u, rfl, hb, hr0⟩
    clear c2 hmay
    have hr : Row m2 _ u [] := hr0
    obtain ⟨jb2, jp2, hu, hE⟩ := hr.at
    subst hu
    replace HB := Lib.hid (HB.out.trans (hb.mono HB.out.size))
    clear hr hr0 hE hb
    go_wp2_with fail
    go_ret
    exact ⟨rfl, HB.out.alloc HB.out.size _⟩
  obtain ⟨ne, hne⟩ : ∃ ne, newT (0, a0, a1, 0) = ((0, a0, a1, 0), ne, 0) := ⟨_, by rw [newT, if_pos hmay]⟩
  rw [hne, show newE (0, a0, a1, 0) = 0 by rw [newE, hmay]; rfl] at c2
  have hvk := new_vk hmay (by show (0 : Int) ≠ 3; omega)
  rw [hne] at hvk
  have HVK := Lib.hid hvk
  have HM := Lib.hid hmay
  have HNe := Lib.hid hne
  simp only [mayT, mayS_iff] at hmay
  obtain ⟨nc, hnc⟩ : ∃ nc : Nat, a0 = (nc : Int) := ⟨a0.toNat, by omega⟩
  have hnc1 : 1 ≤ nc := by omega
  have hnc16 : nc ≤ 16 := by omega
  have ha1 : 1 ≤ a1 := by omega
  have ha4 : a1 ≤ 4 := by omega
  have HNc := Lib.hid hnc
  clear hmay hnc hne hvk
  refine c2.mono ?_
  rintro e m2 ⟨u, rfl, hb, hr0⟩
  clear c2
  have hr : Row m2 _ u ne := hr0
  obtain ⟨jb2, jp2, hu, hE⟩ := hr.at
  obtain ⟨jn2, hjn⟩ : ∃ jn2, ne.length = jn2 := ⟨_, rfl⟩
  rw [hjn] at hu
  have HN2 := Lib.hid hjn
  clear hjn hE
  subst hu
  have HV : Hid (Vr w (m2.alloc (.cells #[.int .i64 0, .int .i64 a0, .int .i64 a1, .int .i64 0, .slice jb2 jn2 jp2, .int .u32 0] 27)) m2.heap.size ((0, a0, a1, 0), ne, 0) (.slice jb2 jn2 jp2)) := Lib.hid (Vr.new (t := ((0, a0, a1, 0), ne, 0)) (HB.out.trans (hb.mono HB.out.size)) hr HB.out.size)
  clear hr hr0 hb HB
  have hz : ((0 : Int) != 0) = false := by simp
  by_cases h40 : 40 < len2
  · have h40I : (40 : Int) < (len2 : Int) := by omega
    go_wp2_with fail
    go_ret
    exact ⟨rfl, HV.out.1⟩
  have h40I : ¬ (40 : Int) < (len2 : Int) := by omega
  go_wp2_with fail
  clear hz
  generalize hW1 : m2.alloc (.cells #[.int .i64 0, .int .i64 a0, .int .i64 a1, .int .i64 0, .slice jb2 jn2 jp2, .int .u32 0] 27) = W1 at *
  generalize hT : m2.heap.size = T at *
  clear hW1 hT
  go_loopw [10] (fun i wr => ∃ (k : Nat), k ≤ nc ∧ i = .int .i64 k ∧ Hid (Vr w wr T ((0, a0, a1, 0), ne, 0) (.slice jb2 jn2 jp2))) (fun i _ => nc - (intOf i).toNat)
  case atStart => exact ⟨0, by omega, rfl, HV⟩
  case round =>
    obtain ⟨k, hk, rfl, HV2⟩ := hrel
    clear HV
    have HV := HV2
    clear HV2
    by_cases hkl : k < nc
    · obtain ⟨_, _, hq, hE⟩ := HV.out.at
      simp only [Value.slice.injEq] at hq hE
      obtain ⟨rfl, hq2, rfl⟩ := hq
      rw [← hq2] at hE
      have HE := Lib.hid hE
      clear hE hq2
      obtain ⟨k0, k1, k2, k3, k4, k5⟩ := Box.tb (s := (0, a0, a1, 0)) HV.out.2.1
      simp only at k0 k1 k2 k3 k4 k5
      have hkw : IntKind.u32.wrap (k : Int) = (k : Int) := by rw [wW]; omega
      have hs1 : IntKind.i64.wrap (a1 - 1) = a1 - 1 := wI _ (by omega) (by omega)
      have hs2 : IntKind.u32.wrap (a1 - 1) = a1 - 1 := by rw [wW]; omega
      have hkI : (k : Int) < a0 := by have := HNc.out; omega
      have han := array_new (s := (0, a0, a1, 0)) (key := (k : Int)) (f := a1 - 1) HM.out rfl (by omega) hkI (by omega) (by show a1 - 1 < a1; omega)
      rw [HNe.out] at han
      rcases hg : getT ((0, a0, a1, 0), ne, 0) (k : Int) (a1 - 1) with ⟨⟨⟨f0, f1, f2, f3⟩, fe, fx⟩, fv, fb⟩
      rw [hg] at han
      simp only [Prod.mk.injEq] at han
      obtain ⟨rfl, rfl⟩ := han
      have HG := Lib.hid hg
      clear hg
      go_wp2_with fail
      have c3 := tget_any (0, a0, a1, 0) jb2 jn2 jp2 0 ne (k : Int) (a1 - 1) wr HE.out (may_few HVK.out.may) isW_zero ⟨by omega, by omega⟩
      rw [HG.out] at c3
      refine c3.mono ?_
      rintro e m3 ⟨u, rfl, hb, hr0⟩
      clear c3
      have hr : Row m3 _ u fe := hr0
      obtain ⟨b3, p3, hu, _⟩ := hr.at
      subst hu
      have HVn := Lib.hid (HV.out.later (hb.trans ((belowA m3 (.cells #[.int .i64 f0, .int .i64 f1, .int .i64 f2, .int .i64 f3, .slice b3 fe.length p3, .int .u32 fx] 27)).mono hb.size)))
      clear hr hr0 hb k0 k1 k2 k3 k4 k5
      have hz : ((0 : Int) != 0) = false := by simp
      go_wp2_with fail
      exact ⟨⟨k + 1, by omega, by go_num, HVn⟩, by simp [intOf]; omega⟩
    have hkI : ¬ (k : Int) < a0 := by have := HNc.out; omega
    go_wp2_with fail
    clear hkI hkl hk
    go_loopw [14] (fun i wr => ∃ (k : Nat) (te : List Ent) (V : Value), k ≤ len2 ∧ i = .int .i64 k ∧ Hid (VK ((0, a0, a1, 0), te, 0)) ∧ Hid (Vr w wr T ((0, a0, a1, 0), te, 0) V)) (fun i _ => len2 - (intOf i).toNat)
    case atStart => exact ⟨0, ne, _, by omega, rfl, HVK, HV⟩
    case round =>
      obtain ⟨k, te, V, hk, rfl, HVK2, HV2⟩ := hrel
      clear HV HVK HNe HN2
      have HV := HV2
      have HVK := HVK2
      clear HV2 HVK2
      obtain ⟨b, p, hq, hE⟩ := HV.out.at
      obtain ⟨n, hn⟩ : ∃ n, te.length = n := ⟨_, rfl⟩
      simp only [hn] at hq hE
      subst hq
      have HNn := Lib.hid hn
      clear hn hE
      by_cases hkl : k < len2
      · have hkI : (k : Int) < (len2 : Int) := by omega
        obtain ⟨x, rfl, hx1⟩ := HWd.out.2.2.2.2.resolve_left (by omega)
        have hkey : isW (z2.getD k 0) := wordL_getD HWd.out.2.2.2.1 k
        have hc := hx1 k hkl
        obtain ⟨key, hkeq⟩ : ∃ key, z2.getD k 0 = key := ⟨_, rfl⟩
        rw [hkeq] at hc hkey
        have HKW := Lib.hid hkey
        have HKeep : Hid (∀ w', Vr w w' T ((0, a0, a1, 0), te, 0) (.slice b n p) → w'.cell? ⟨T, 0, none⟩ = some (.int .i64 0) ∧ w'.cell? ⟨T, 1, none⟩ = some (.int .i64 a0) ∧ w'.cell? ⟨T, 2, none⟩ = some (.int .i64 a1) ∧ w'.cell? ⟨T, 3, none⟩ = some (.int .i64 0) ∧ w'.cell? ⟨T, 4, none⟩ = some (.slice b n p) ∧ w'.cell? ⟨T, 5, none⟩ = some (.int .u32 0) ∧ w'.cell? (x.add k) = some (.int .u32 key)) := Lib.hid (fun w' h => by
          obtain ⟨k0, k1, k2, k3, k4, k5⟩ := Box.tb (s := (0, a0, a1, 0)) h.2.1
          exact ⟨k0, k1, k2, k3, k4, k5, (h.1.cell (lt_of_cell hc)).trans hc⟩)
        have hkw : IntKind.u32.wrap (k : Int) = (k : Int) := by rw [wW]; omega
        have hki : IntKind.i64.wrap key = key := wI key hkey.1 (by have := hkey.2; omega)
        have hset := array_set (t := ((0, a0, a1, 0), te, 0)) (key := key) (v := (k : Int)) HVK.out rfl hkey.1
        have hdel := array_del (t := ((0, a0, a1, 0), te, 0)) (key := key) HVK.out rfl hkey.1
        have hsl := fun h => set_law (t := ((0, a0, a1, 0), te, 0)) (key := key) (f := 0) (v := (k : Int)) h (by omega)
        have hsn := set_next (t := ((0, a0, a1, 0), te, 0)) (key := key) (f := 0) (v := (k : Int))
        clear hc hkey hkeq hx1
        rcases hg : setT ((0, a0, a1, 0), te, 0) key 0 (k : Int) with ⟨⟨⟨c0, c1, c2, c3⟩, ce, cx⟩, cr⟩
        rw [hg] at hset hsl hsn
        rcases hd : delT ((0, a0, a1, 0), te, 0) key with ⟨⟨⟨d0, d1, d2, d3⟩, de, dx⟩, dr⟩
        rw [hd] at hdel
        simp only at hset hdel hsn
        have HDel := Lib.hid hd
        clear hd
        by_cases hlt : key < a0
        · rw [if_pos hlt] at hset
          rw [decide_eq_true hlt] at hdel
          subst hset hdel
          obtain ⟨l1, l2, _⟩ := hsl rfl
          have l3 := hsn rfl
          simp only [Prod.mk.injEq] at l1
          obtain ⟨e0, e1, e2, e3⟩ := l1
          replace e1 := e1.symm
          replace e2 := e2.symm
          subst e0 e1 e2 e3
          subst l3
          have HSet := Lib.hid hg
          have HVC := Lib.hid l2
          clear hg l2 hsl hsn
          obtain ⟨k0, k1, k2, k3, k4, k5, k6⟩ := HKeep.out _ HV.out
          go_wp2_with fail
          clear k0 k1 k2 k3 k4 k5 k6
          refine wp_region_held_drew (S := (fun w' => w'.cell? ⟨T, 0, none⟩ = some (.int .i64 0) ∧ w'.cell? ⟨T, 1, none⟩ = some (.int .i64 a0) ∧ w'.cell? ⟨T, 2, none⟩ = some (.int .i64 a1) ∧ w'.cell? ⟨T, 3, none⟩ = some (.int .i64 0) ∧ w'.cell? ⟨T, 4, none⟩ = some (.slice b n p) ∧ w'.cell? ⟨T, 5, none⟩ = some (.int .u32 0) ∧ w'.cell? (x.add k) = some (.int .u32 key))) (by kernel_rfl) (HKeep.out _ (HV.out.later ((Below.refl _ _).drew))) (fun hHeld => ?_)
          refine wpAnyH_yield (i := 0) (v := ?vr0) rfl rfl (by kernel_rfl) (by kernel_rfl) (by kernel_rfl) (fun _ _ _ h => h) (by rfl) ?hyr0 hHeld ?restr0
          case hyr0 =>
            intro w hSw
            (try dsimp only at hSw)
            go_simp
            try with_reducible rfl
          simp only [Act.put, List.setIfInBounds_toArray, List.set_cons_zero, List.set_cons_succ]
          refine wpAnyH_yield (i := 1) (v := ?vr1) rfl rfl (by kernel_rfl) (by kernel_rfl) (by kernel_rfl) (fun _ _ _ h => h) (by rfl) ?hyr1 hHeld ?restr1
          case hyr1 =>
            intro w hSw
            (try dsimp only at hSw)
            go_simp
            try with_reducible rfl
          simp only [Act.put, List.setIfInBounds_toArray, List.set_cons_zero, List.set_cons_succ]
          refine wpAnyH_yield (i := 2) (v := ?vr2) rfl rfl (by kernel_rfl) (by kernel_rfl) (by kernel_rfl) (fun _ _ _ h => h) (by rfl) ?hyr2 hHeld ?restr2
          case hyr2 =>
            intro w hSw
            (try dsimp only at hSw)
            go_simp
            try with_reducible rfl
          simp only [Act.put, List.setIfInBounds_toArray, List.set_cons_zero, List.set_cons_succ]
          refine wpAnyH_yield (i := 3) (v := ?vr3) rfl rfl (by kernel_rfl) (by kernel_rfl) (by kernel_rfl) (fun _ _ _ h => h) (by rfl) ?hyr3 hHeld ?restr3
          case hyr3 =>
            intro w hSw
            (try dsimp only at hSw)
            go_simp
            try with_reducible rfl
          simp only [Act.put, List.setIfInBounds_toArray, List.set_cons_zero, List.set_cons_succ]
          refine wpAnyH_yield (i := 4) (v := ?vr4) rfl rfl (by kernel_rfl) (by kernel_rfl) (by kernel_rfl) (fun _ _ _ h => h) (by rfl) ?hyr4 hHeld ?restr4
          case hyr4 =>
            intro w hSw
            (try dsimp only at hSw)
            go_simp
            try with_reducible rfl
          simp only [Act.put, List.setIfInBounds_toArray, List.set_cons_zero, List.set_cons_succ]
          refine wpAnyH_yield (i := 5) (v := ?vr5) rfl rfl (by kernel_rfl) (by kernel_rfl) (by kernel_rfl) (fun _ _ _ h => h) (by rfl) ?hyr5 hHeld ?restr5
          case hyr5 =>
            intro w hSw
            (try dsimp only at hSw)
            go_simp
            try with_reducible rfl
          simp only [Act.put, List.setIfInBounds_toArray, List.set_cons_zero, List.set_cons_succ]
          refine wpAnyH_yield (i := 6) (v := ?vr6) rfl rfl (by kernel_rfl) (by kernel_rfl) (by kernel_rfl) (fun _ _ _ h => h) (by rfl) ?hyr6 hHeld ?restr6
          case hyr6 =>
            intro w hSw
            (try dsimp only at hSw)
            go_simp
            try with_reducible rfl
          simp only [Act.put, List.setIfInBounds_toArray, List.set_cons_zero, List.set_cons_succ]
          refine wpAnyH_ready (rs := [7, 11]) (by kernel_rfl) (by simp) ?_
          refine AllReadyH.cons rfl (fun K hK => ?_) ?_
          · go_simp
            have cra := tset_any (0, a0, a1, 0) b n p 0 te key 0 (k : Int) wr.drew (HV.out.ents.below ((Below.refl _ _).drew)) (may_few HVK.out.may) isW_zero HKW.out isW_zero ⟨by omega, by omega⟩
            rw [HSet.out] at cra
            refine cra.mono ?_
            rintro e mra ⟨u, rfl, hb, hr0⟩
            clear cra
            have HRra : Hid (Row mra wr.drew.heap.size u ce) := Lib.hid hr0
            obtain ⟨bra, pra, hu, _⟩ := HRra.out.at
            subst hu
            clear hr0
            have Hbbra := Lib.hid hb
            clear hb
            have HVra := Lib.hid ((HV.out.later (((Below.refl _ _).drew).trans Hbbra.out)))
            go_wp2_with fail
            refine hK.out _ _ (HKeep.out _ HVra.out) (fun hHeld => ?_)
            clear hK K
            try simp only [Act.put, List.setIfInBounds_toArray, List.set_cons_zero, List.set_cons_succ]
            refine wpAnyH_yield (i := 8) (v := ?vra8) rfl rfl (by kernel_rfl) (by kernel_rfl) (by kernel_rfl) (fun _ _ _ h => h) (by rfl) ?hyra8 hHeld ?restra8
            case hyra8 =>
              intro w hSw
              (try dsimp only at hSw)
              go_simp
              try with_reducible rfl
            simp only [Act.put, List.setIfInBounds_toArray, List.set_cons_zero, List.set_cons_succ]
            refine wpAnyH_yield (i := 9) (v := ?vra9) rfl rfl (by kernel_rfl) (by kernel_rfl) (by kernel_rfl) (fun _ _ _ h => h) (by rfl) ?hyra9 hHeld ?restra9
            case hyra9 =>
              intro w hSw
              (try dsimp only at hSw)
              go_simp
              try with_reducible rfl
            simp only [Act.put, List.setIfInBounds_toArray, List.set_cons_zero, List.set_cons_succ]
            refine wpAnyH_yield (i := 10) (v := ?vra10) rfl rfl (by kernel_rfl) (by kernel_rfl) (by kernel_rfl) (fun _ _ _ h => h) (by rfl) ?hyra10 hHeld ?restra10
            case hyra10 =>
              intro w hSw
              (try dsimp only at hSw)
              go_simp
              try with_reducible rfl
            simp only [Act.put, List.setIfInBounds_toArray, List.set_cons_zero, List.set_cons_succ]
            have HVra2 := Lib.hid (HVra.out.later (belowA mra (.cells #[.int .i64 0, .int .i64 0, .int .i64 0, .int .i64 0, .slice none 0 0, .int .u32 0] 27)))
            have HRra2 := Lib.hid (HRra.out.below (belowA mra (.cells #[.int .i64 0, .int .i64 0, .int .i64 0, .int .i64 0, .slice none 0 0, .int .u32 0] 27)))
            have HZra : Hid (Box (mra.alloc (.cells #[.int .i64 0, .int .i64 0, .int .i64 0, .int .i64 0, .slice none 0 0, .int .u32 0] 27)) mra.heap.size 27 zeroTA) := Lib.hid (Box.new _ _ _)
            refine wpAnyH_ready (rs := [11]) (by kernel_rfl) (by simp) ?_
            refine AllReadyH.cons rfl (fun K hK => ?_) AllReadyH.nil
            go_simp
            refine hK.out _ _ (HKeep.out _ HVra2.out) (fun hHeld => ?_)
            clear hK K
            try simp only [Act.put, List.setIfInBounds_toArray, List.set_cons_zero, List.set_cons_succ]
            have hszra : w.heap.size ≤ mra.heap.size := HVra.out.1.size
            have hnera0 : T ≠ mra.heap.size := by have := HVra.out.2.1.lt; omega
            have HVra3 := Lib.hid (HVra2.out.beside (cs' := #[.int .i64 0, .int .i64 a0, .int .i64 a1, .int .i64 0, .slice bra ce.length pra, .int .u32 0]) HZra.out hszra hnera0)
            have HVsra : Hid (Vr w ((mra.alloc (.cells #[.int .i64 0, .int .i64 0, .int .i64 0, .int .i64 0, .slice none 0 0, .int .u32 0] 27)).setRow mra.heap.size #[.int .i64 0, .int .i64 a0, .int .i64 a1, .int .i64 0, .slice bra ce.length pra, .int .u32 0]) mra.heap.size ((0, a0, a1, 0), ce, 0) (.slice bra ce.length pra)) := Lib.hid ((Vr.fresh HVra2.out.1 HZra.out hszra).put (t' := ((0, a0, a1, 0), ce, 0)) (HRra2.out.low (by have := HV.out.1.size; show w.heap.size ≤ wr.heap.size; exact this)))
            refine wpAnyH_ready (rs := [12]) (by kernel_rfl) (by simp) ?_
            refine AllReadyH.cons rfl (fun K hK => ?_) AllReadyH.nil
            refine step_row _ (by rfl) 27 _ _ (by rfl) (by rfl) (mra.heap.size) #[.int .i64 0, .int .i64 a0, .int .i64 a1, .int .i64 0, .slice bra ce.length pra, .int .u32 0] (by rfl) (by rfl) 27 _ HZra.out (by kernel_rfl) rfl (by simp [Value.oneCell']) ?_
            refine hK.out _ _ (HKeep.out _ HVra3.out) (fun hHeld => ?_)
            clear hK K
            try simp only [Act.put, List.setIfInBounds_toArray, List.set_cons_zero, List.set_cons_succ]
            refine wpAnyH_yield (i := 13) (v := ?vra13) rfl rfl (by kernel_rfl) (by kernel_rfl) (by kernel_rfl) (fun _ _ _ h => h) (by rfl) ?hyra13 hHeld ?restra13
            case hyra13 =>
              intro w hSw
              (try dsimp only at hSw)
              go_simp
              try with_reducible rfl
            simp only [Act.put, List.setIfInBounds_toArray, List.set_cons_zero, List.set_cons_succ]
            refine wpAnyH_done (by kernel_rfl) ?_ _
            replace HV := HVra3
            clear HVra HVra2 HRra HZra Hbbra hszra hnera0 HRra2 HVra3
            have HS := HVsra
            clear HVsra
            generalize hX : World.setRow (mra.alloc (.cells #[.int .i64 0, .int .i64 0, .int .i64 0, .int .i64 0, .slice none 0 0, .int .u32 0] 27)) (mra.heap.size) #[.int .i64 0, .int .i64 a0, .int .i64 a1, .int .i64 0, .slice bra ce.length pra, .int .u32 0] = Xra at *
            generalize hT1 : mra.heap.size = Tra at *
            clear hX hT1
            clear hHeld
            go_wp2_with fail
            refine wp_region_held_drew (S := (fun w' => w'.cell? ⟨T, 0, none⟩ = some (.int .i64 0) ∧ w'.cell? ⟨T, 1, none⟩ = some (.int .i64 a0) ∧ w'.cell? ⟨T, 2, none⟩ = some (.int .i64 a1) ∧ w'.cell? ⟨T, 3, none⟩ = some (.int .i64 0) ∧ w'.cell? ⟨T, 4, none⟩ = some (.slice b n p) ∧ w'.cell? ⟨T, 5, none⟩ = some (.int .u32 0) ∧ w'.cell? (x.add k) = some (.int .u32 key))) (by kernel_rfl) (HKeep.out _ (HV.out.later ((Below.refl _ _).drew))) (fun hHeld => ?_)
            refine wpAnyH_yield (i := 0) (v := ?vraq0) rfl rfl (by kernel_rfl) (by kernel_rfl) (by kernel_rfl) (fun _ _ _ h => h) (by rfl) ?hyraq0 hHeld ?restraq0
            case hyraq0 =>
              intro w hSw
              (try dsimp only at hSw)
              go_simp
              try with_reducible rfl
            simp only [Act.put, List.setIfInBounds_toArray, List.set_cons_zero, List.set_cons_succ]
            refine wpAnyH_yield (i := 1) (v := ?vraq1) rfl rfl (by kernel_rfl) (by kernel_rfl) (by kernel_rfl) (fun _ _ _ h => h) (by rfl) ?hyraq1 hHeld ?restraq1
            case hyraq1 =>
              intro w hSw
              (try dsimp only at hSw)
              go_simp
              try with_reducible rfl
            simp only [Act.put, List.setIfInBounds_toArray, List.set_cons_zero, List.set_cons_succ]
            refine wpAnyH_yield (i := 2) (v := ?vraq2) rfl rfl (by kernel_rfl) (by kernel_rfl) (by kernel_rfl) (fun _ _ _ h => h) (by rfl) ?hyraq2 hHeld ?restraq2
            case hyraq2 =>
              intro w hSw
              (try dsimp only at hSw)
              go_simp
              try with_reducible rfl
            simp only [Act.put, List.setIfInBounds_toArray, List.set_cons_zero, List.set_cons_succ]
            refine wpAnyH_yield (i := 3) (v := ?vraq3) rfl rfl (by kernel_rfl) (by kernel_rfl) (by kernel_rfl) (fun _ _ _ h => h) (by rfl) ?hyraq3 hHeld ?restraq3
            case hyraq3 =>
              intro w hSw
              (try dsimp only at hSw)
              go_simp
              try with_reducible rfl
            simp only [Act.put, List.setIfInBounds_toArray, List.set_cons_zero, List.set_cons_succ]
            refine wpAnyH_yield (i := 4) (v := ?vraq4) rfl rfl (by kernel_rfl) (by kernel_rfl) (by kernel_rfl) (fun _ _ _ h => h) (by rfl) ?hyraq4 hHeld ?restraq4
            case hyraq4 =>
              intro w hSw
              (try dsimp only at hSw)
              go_simp
              try with_reducible rfl
            simp only [Act.put, List.setIfInBounds_toArray, List.set_cons_zero, List.set_cons_succ]
            refine wpAnyH_ready (rs := [5, 9]) (by kernel_rfl) (by simp) ?_
            refine AllReadyH.cons rfl (fun K hK => ?_) ?_
            · go_simp
              have craqa := tdel_any (0, a0, a1, 0) b n p 0 te key Xra.drew (HV.out.ents.below ((Below.refl _ _).drew)) (may_few HVK.out.may) isW_zero
              rw [HDel.out] at craqa
              refine craqa.mono ?_
              rintro e mraqa ⟨u, rfl, hb, hr0⟩
              clear craqa
              have HRraqa : Hid (Row mraqa Xra.drew.heap.size u de) := Lib.hid hr0
              obtain ⟨braqa, praqa, hu, _⟩ := HRraqa.out.at
              subst hu
              clear hr0
              have Hbbraqa := Lib.hid hb
              clear hb
              have HVraqa := Lib.hid ((HV.out.later (((Below.refl _ _).drew).trans Hbbraqa.out)))
              have HSraqa := Lib.hid ((HS.out.later (((Below.refl _ _).drew).trans Hbbraqa.out)))
              go_wp2_with fail
              refine hK.out _ _ (HKeep.out _ HVraqa.out) (fun hHeld => ?_)
              clear hK K
              try simp only [Act.put, List.setIfInBounds_toArray, List.set_cons_zero, List.set_cons_succ]
              refine wpAnyH_yield (i := 6) (v := ?vraqa6) rfl rfl (by kernel_rfl) (by kernel_rfl) (by kernel_rfl) (fun _ _ _ h => h) (by rfl) ?hyraqa6 hHeld ?restraqa6
              case hyraqa6 =>
                intro w hSw
                (try dsimp only at hSw)
                go_simp
                try with_reducible rfl
              simp only [Act.put, List.setIfInBounds_toArray, List.set_cons_zero, List.set_cons_succ]
              refine wpAnyH_yield (i := 7) (v := ?vraqa7) rfl rfl (by kernel_rfl) (by kernel_rfl) (by kernel_rfl) (fun _ _ _ h => h) (by rfl) ?hyraqa7 hHeld ?restraqa7
              case hyraqa7 =>
                intro w hSw
                (try dsimp only at hSw)
                go_simp
                try with_reducible rfl
              simp only [Act.put, List.setIfInBounds_toArray, List.set_cons_zero, List.set_cons_succ]
              refine wpAnyH_yield (i := 8) (v := ?vraqa8) rfl rfl (by kernel_rfl) (by kernel_rfl) (by kernel_rfl) (fun _ _ _ h => h) (by rfl) ?hyraqa8 hHeld ?restraqa8
              case hyraqa8 =>
                intro w hSw
                (try dsimp only at hSw)
                go_simp
                try with_reducible rfl
              simp only [Act.put, List.setIfInBounds_toArray, List.set_cons_zero, List.set_cons_succ]
              have HVraqa2 := Lib.hid (HVraqa.out.later (belowA mraqa (.cells #[.int .i64 0, .int .i64 0, .int .i64 0, .int .i64 0, .slice none 0 0, .int .u32 0] 27)))
              have HSraqa2 := Lib.hid (HSraqa.out.later (belowA mraqa (.cells #[.int .i64 0, .int .i64 0, .int .i64 0, .int .i64 0, .slice none 0 0, .int .u32 0] 27)))
              have HRraqa2 := Lib.hid (HRraqa.out.below (belowA mraqa (.cells #[.int .i64 0, .int .i64 0, .int .i64 0, .int .i64 0, .slice none 0 0, .int .u32 0] 27)))
              have HZraqa : Hid (Box (mraqa.alloc (.cells #[.int .i64 0, .int .i64 0, .int .i64 0, .int .i64 0, .slice none 0 0, .int .u32 0] 27)) mraqa.heap.size 27 zeroTA) := Lib.hid (Box.new _ _ _)
              refine wpAnyH_ready (rs := [9]) (by kernel_rfl) (by simp) ?_
              refine AllReadyH.cons rfl (fun K hK => ?_) AllReadyH.nil
              go_simp
              refine hK.out _ _ (HKeep.out _ HVraqa2.out) (fun hHeld => ?_)
              clear hK K
              try simp only [Act.put, List.setIfInBounds_toArray, List.set_cons_zero, List.set_cons_succ]
              have hszraqa : w.heap.size ≤ mraqa.heap.size := HVraqa.out.1.size
              have hneraqa0 : T ≠ mraqa.heap.size := by have := HVraqa.out.2.1.lt; omega
              have hneraqa1 : Tra ≠ mraqa.heap.size := by have := HSraqa.out.2.1.lt; omega
              have HVraqa3 := Lib.hid (HVraqa2.out.beside (cs' := #[.int .i64 d0, .int .i64 d1, .int .i64 d2, .int .i64 d3, .slice braqa de.length praqa, .int .u32 dx]) HZraqa.out hszraqa hneraqa0)
              have HSraqa3 := Lib.hid (HSraqa2.out.beside (cs' := #[.int .i64 d0, .int .i64 d1, .int .i64 d2, .int .i64 d3, .slice braqa de.length praqa, .int .u32 dx]) HZraqa.out hszraqa hneraqa1)
              have HVsraqa : Hid (Vr w ((mraqa.alloc (.cells #[.int .i64 0, .int .i64 0, .int .i64 0, .int .i64 0, .slice none 0 0, .int .u32 0] 27)).setRow mraqa.heap.size #[.int .i64 d0, .int .i64 d1, .int .i64 d2, .int .i64 d3, .slice braqa de.length praqa, .int .u32 dx]) mraqa.heap.size ((d0, d1, d2, d3), de, dx) (.slice braqa de.length praqa)) := Lib.hid ((Vr.fresh HVraqa2.out.1 HZraqa.out hszraqa).put (t' := ((d0, d1, d2, d3), de, dx)) (HRraqa2.out.low (by have := HV.out.1.size; show w.heap.size ≤ Xra.heap.size; exact this)))
              refine wpAnyH_ready (rs := [10]) (by kernel_rfl) (by simp) ?_
              refine AllReadyH.cons rfl (fun K hK => ?_) AllReadyH.nil
              refine step_row _ (by rfl) 27 _ _ (by rfl) (by rfl) (mraqa.heap.size) #[.int .i64 d0, .int .i64 d1, .int .i64 d2, .int .i64 d3, .slice braqa de.length praqa, .int .u32 dx] (by rfl) (by rfl) 27 _ HZraqa.out (by kernel_rfl) rfl (by simp [Value.oneCell']) ?_
              refine hK.out _ _ (HKeep.out _ HVraqa3.out) (fun hHeld => ?_)
              clear hK K
              try simp only [Act.put, List.setIfInBounds_toArray, List.set_cons_zero, List.set_cons_succ]
              refine wpAnyH_yield (i := 11) (v := ?vraqa11) rfl rfl (by kernel_rfl) (by kernel_rfl) (by kernel_rfl) (fun _ _ _ h => h) (by rfl) ?hyraqa11 hHeld ?restraqa11
              case hyraqa11 =>
                intro w hSw
                (try dsimp only at hSw)
                go_simp
                try with_reducible rfl
              simp only [Act.put, List.setIfInBounds_toArray, List.set_cons_zero, List.set_cons_succ]
              refine wpAnyH_done (by kernel_rfl) ?_ _
              replace HV := HVraqa3
              replace HS := HSraqa3
              clear HVraqa HVraqa2 HSraqa HSraqa2 HRraqa HZraqa Hbbraqa hszraqa hneraqa0 hneraqa1 HRraqa2 HVraqa3 HSraqa3
              have HD9 := HVsraqa
              clear HVsraqa
              generalize hX : World.setRow (mraqa.alloc (.cells #[.int .i64 0, .int .i64 0, .int .i64 0, .int .i64 0, .slice none 0 0, .int .u32 0] 27)) (mraqa.heap.size) #[.int .i64 d0, .int .i64 d1, .int .i64 d2, .int .i64 d3, .slice braqa de.length praqa, .int .u32 dx] = Xraqa at *
              generalize hT1 : mraqa.heap.size = Traqa at *
              clear hX hT1
              clear hHeld HD9
              obtain ⟨k0, k1, k2, k3, k4, k5, k6⟩ := HKeep.out _ HV.out
              obtain ⟨q0, q1, q2, q3, q4, q5⟩ := Box.tb (s := (0, a0, a1, 0)) HS.out.2.1
              simp only at q0 q1 q2 q3 q4 q5
              have HBx := Lib.hid HV.out.2.1
              have HVn := Lib.hid (HV.out.put (t' := ((0, a0, a1, 0), ce, 0)) HS.out.2.2.1)
              go_wp2_with (refine wpList_store_row rfl 27 _ _ rfl T _ rfl rfl 27 _ HBx.out (by kernel_rfl) rfl (by simp [Value.oneCell']) ?_)
              exact ⟨⟨k + 1, ce, _, by omega, by go_num, HVC, HVn⟩, by simp [intOf]; omega⟩
            have HVraqb0 := Lib.hid (HV.out.later (((Below.refl _ _).drew).trans (belowA Xra.drew (.cells #[.int .i64 0, .int .i64 0, .int .i64 0, .int .i64 0, .slice none 0 0, .int .u32 0] 27))))
            have HSraqb0 := Lib.hid (HS.out.later (((Below.refl _ _).drew).trans (belowA Xra.drew (.cells #[.int .i64 0, .int .i64 0, .int .i64 0, .int .i64 0, .slice none 0 0, .int .u32 0] 27))))
            have HZraqb0 : Hid (Box (Xra.drew.alloc (.cells #[.int .i64 0, .int .i64 0, .int .i64 0, .int .i64 0, .slice none 0 0, .int .u32 0] 27)) Xra.heap.size 27 zeroTA) := Lib.hid (Box.new _ _ _)
            refine AllReadyH.cons rfl (fun K hK => ?_) AllReadyH.nil
            go_simp
            refine hK.out _ _ (HKeep.out _ HVraqb0.out) (fun hHeld => ?_)
            clear hK K
            try simp only [Act.put, List.setIfInBounds_toArray, List.set_cons_zero, List.set_cons_succ]
            refine wpAnyH_ready (rs := [5]) (by kernel_rfl) (by simp) ?_
            refine AllReadyH.cons rfl (fun K hK => ?_) AllReadyH.nil
            go_simp
            have craqb := tdel_any (0, a0, a1, 0) b n p 0 te key (Xra.drew.alloc (.cells #[.int .i64 0, .int .i64 0, .int .i64 0, .int .i64 0, .slice none 0 0, .int .u32 0] 27)) (HV.out.ents.below ((((Below.refl _ _).drew).trans (belowA Xra.drew (.cells #[.int .i64 0, .int .i64 0, .int .i64 0, .int .i64 0, .slice none 0 0, .int .u32 0] 27))))) (may_few HVK.out.may) isW_zero
            rw [HDel.out] at craqb
            refine craqb.mono ?_
            rintro e mraqb ⟨u, rfl, hb, hr0⟩
            clear craqb
            have HRraqb : Hid (Row mraqb (Xra.drew.alloc (.cells #[.int .i64 0, .int .i64 0, .int .i64 0, .int .i64 0, .slice none 0 0, .int .u32 0] 27)).heap.size u de) := Lib.hid hr0
            obtain ⟨braqb, praqb, hu, _⟩ := HRraqb.out.at
            subst hu
            clear hr0
            have Hbbraqb := Lib.hid hb
            clear hb
            have HVraqb := Lib.hid (HVraqb0.out.later Hbbraqb.out)
            have HSraqb := Lib.hid (HSraqb0.out.later Hbbraqb.out)
            have HZraqb := Lib.hid (HZraqb0.out.later Hbbraqb.out)
            go_wp2_with fail
            refine hK.out _ _ (HKeep.out _ HVraqb.out) (fun hHeld => ?_)
            clear hK K
            try simp only [Act.put, List.setIfInBounds_toArray, List.set_cons_zero, List.set_cons_succ]
            refine wpAnyH_yield (i := 6) (v := ?vraqb6) rfl rfl (by kernel_rfl) (by kernel_rfl) (by kernel_rfl) (fun _ _ _ h => h) (by rfl) ?hyraqb6 hHeld ?restraqb6
            case hyraqb6 =>
              intro w hSw
              (try dsimp only at hSw)
              go_simp
              try with_reducible rfl
            simp only [Act.put, List.setIfInBounds_toArray, List.set_cons_zero, List.set_cons_succ]
            refine wpAnyH_yield (i := 7) (v := ?vraqb7) rfl rfl (by kernel_rfl) (by kernel_rfl) (by kernel_rfl) (fun _ _ _ h => h) (by rfl) ?hyraqb7 hHeld ?restraqb7
            case hyraqb7 =>
              intro w hSw
              (try dsimp only at hSw)
              go_simp
              try with_reducible rfl
            simp only [Act.put, List.setIfInBounds_toArray, List.set_cons_zero, List.set_cons_succ]
            refine wpAnyH_yield (i := 8) (v := ?vraqb8) rfl rfl (by kernel_rfl) (by kernel_rfl) (by kernel_rfl) (fun _ _ _ h => h) (by rfl) ?hyraqb8 hHeld ?restraqb8
            case hyraqb8 =>
              intro w hSw
              (try dsimp only at hSw)
              go_simp
              try with_reducible rfl
            simp only [Act.put, List.setIfInBounds_toArray, List.set_cons_zero, List.set_cons_succ]
            have hszraqb : w.heap.size ≤ Xra.heap.size := HV.out.1.size
            have hneraqb0 : T ≠ Xra.heap.size := by have := HV.out.2.1.lt; omega
            have hneraqb1 : Tra ≠ Xra.heap.size := by have := HS.out.2.1.lt; omega
            have HVraqb3 := Lib.hid (HVraqb.out.beside (cs' := #[.int .i64 d0, .int .i64 d1, .int .i64 d2, .int .i64 d3, .slice braqb de.length praqb, .int .u32 dx]) HZraqb.out hszraqb hneraqb0)
            have HSraqb3 := Lib.hid (HSraqb.out.beside (cs' := #[.int .i64 d0, .int .i64 d1, .int .i64 d2, .int .i64 d3, .slice braqb de.length praqb, .int .u32 dx]) HZraqb.out hszraqb hneraqb1)
            have HVsraqb : Hid (Vr w (mraqb.setRow Xra.heap.size #[.int .i64 d0, .int .i64 d1, .int .i64 d2, .int .i64 d3, .slice braqb de.length praqb, .int .u32 dx]) Xra.heap.size ((d0, d1, d2, d3), de, dx) (.slice braqb de.length praqb)) := Lib.hid ((Vr.fresh HVraqb.out.1 HZraqb.out hszraqb).put (t' := ((d0, d1, d2, d3), de, dx)) (HRraqb.out.low (by have := HV.out.1.size; simp; omega)))
            refine wpAnyH_ready (rs := [10]) (by kernel_rfl) (by simp) ?_
            refine AllReadyH.cons rfl (fun K hK => ?_) AllReadyH.nil
            refine step_row _ (by rfl) 27 _ _ (by rfl) (by rfl) (Xra.heap.size) #[.int .i64 d0, .int .i64 d1, .int .i64 d2, .int .i64 d3, .slice braqb de.length praqb, .int .u32 dx] (by rfl) (by rfl) 27 _ HZraqb.out (by kernel_rfl) rfl (by simp [Value.oneCell']) ?_
            refine hK.out _ _ (HKeep.out _ HVraqb3.out) (fun hHeld => ?_)
            clear hK K
            try simp only [Act.put, List.setIfInBounds_toArray, List.set_cons_zero, List.set_cons_succ]
            refine wpAnyH_yield (i := 11) (v := ?vraqb11) rfl rfl (by kernel_rfl) (by kernel_rfl) (by kernel_rfl) (fun _ _ _ h => h) (by rfl) ?hyraqb11 hHeld ?restraqb11
            case hyraqb11 =>
              intro w hSw
              (try dsimp only at hSw)
              go_simp
              try with_reducible rfl
            simp only [Act.put, List.setIfInBounds_toArray, List.set_cons_zero, List.set_cons_succ]
            refine wpAnyH_done (by kernel_rfl) ?_ _
            replace HV := HVraqb3
            replace HS := HSraqb3
            clear HVraqb0 HVraqb HSraqb0 HSraqb HRraqb HZraqb Hbbraqb hszraqb hneraqb0 hneraqb1 HZraqb0 HVraqb3 HSraqb3
            have HD9 := HVsraqb
            clear HVsraqb
            generalize hX : World.setRow mraqb (Xra.heap.size) #[.int .i64 d0, .int .i64 d1, .int .i64 d2, .int .i64 d3, .slice braqb de.length praqb, .int .u32 dx] = Xraqb at *
            generalize hT1 : Xra.heap.size = Traqb at *
            clear hX hT1
            clear hHeld HD9
            obtain ⟨k0, k1, k2, k3, k4, k5, k6⟩ := HKeep.out _ HV.out
            obtain ⟨q0, q1, q2, q3, q4, q5⟩ := Box.tb (s := (0, a0, a1, 0)) HS.out.2.1
            simp only at q0 q1 q2 q3 q4 q5
            have HBx := Lib.hid HV.out.2.1
            have HVn := Lib.hid (HV.out.put (t' := ((0, a0, a1, 0), ce, 0)) HS.out.2.2.1)
            go_wp2_with (refine wpList_store_row rfl 27 _ _ rfl T _ rfl rfl 27 _ HBx.out (by kernel_rfl) rfl (by simp [Value.oneCell']) ?_)
            exact ⟨⟨k + 1, ce, _, by omega, by go_num, HVC, HVn⟩, by simp [intOf]; omega⟩
          have HVrb0 := Lib.hid (HV.out.later (((Below.refl _ _).drew).trans (belowA wr.drew (.cells #[.int .i64 0, .int .i64 0, .int .i64 0, .int .i64 0, .slice none 0 0, .int .u32 0] 27))))
          have HZrb0 : Hid (Box (wr.drew.alloc (.cells #[.int .i64 0, .int .i64 0, .int .i64 0, .int .i64 0, .slice none 0 0, .int .u32 0] 27)) wr.heap.size 27 zeroTA) := Lib.hid (Box.new _ _ _)
          refine AllReadyH.cons rfl (fun K hK => ?_) AllReadyH.nil
          go_simp
          refine hK.out _ _ (HKeep.out _ HVrb0.out) (fun hHeld => ?_)
          clear hK K
          try simp only [Act.put, List.setIfInBounds_toArray, List.set_cons_zero, List.set_cons_succ]
          refine wpAnyH_ready (rs := [7]) (by kernel_rfl) (by simp) ?_
          refine AllReadyH.cons rfl (fun K hK => ?_) AllReadyH.nil
          go_simp
          have crb := tset_any (0, a0, a1, 0) b n p 0 te key 0 (k : Int) (wr.drew.alloc (.cells #[.int .i64 0, .int .i64 0, .int .i64 0, .int .i64 0, .slice none 0 0, .int .u32 0] 27)) (HV.out.ents.below ((((Below.refl _ _).drew).trans (belowA wr.drew (.cells #[.int .i64 0, .int .i64 0, .int .i64 0, .int .i64 0, .slice none 0 0, .int .u32 0] 27))))) (may_few HVK.out.may) isW_zero HKW.out isW_zero ⟨by omega, by omega⟩
          rw [HSet.out] at crb
          refine crb.mono ?_
          rintro e mrb ⟨u, rfl, hb, hr0⟩
          clear crb
          have HRrb : Hid (Row mrb (wr.drew.alloc (.cells #[.int .i64 0, .int .i64 0, .int .i64 0, .int .i64 0, .slice none 0 0, .int .u32 0] 27)).heap.size u ce) := Lib.hid hr0
          obtain ⟨brb, prb, hu, _⟩ := HRrb.out.at
          subst hu
          clear hr0
          have Hbbrb := Lib.hid hb
          clear hb
          have HVrb := Lib.hid (HVrb0.out.later Hbbrb.out)
          have HZrb := Lib.hid (HZrb0.out.later Hbbrb.out)
          go_wp2_with fail
          refine hK.out _ _ (HKeep.out _ HVrb.out) (fun hHeld => ?_)
          clear hK K
          try simp only [Act.put, List.setIfInBounds_toArray, List.set_cons_zero, List.set_cons_succ]
          refine wpAnyH_yield (i := 8) (v := ?vrb8) rfl rfl (by kernel_rfl) (by kernel_rfl) (by kernel_rfl) (fun _ _ _ h => h) (by rfl) ?hyrb8 hHeld ?restrb8
          case hyrb8 =>
            intro w hSw
            (try dsimp only at hSw)
            go_simp
            try with_reducible rfl
          simp only [Act.put, List.setIfInBounds_toArray, List.set_cons_zero, List.set_cons_succ]
          refine wpAnyH_yield (i := 9) (v := ?vrb9) rfl rfl (by kernel_rfl) (by kernel_rfl) (by kernel_rfl) (fun _ _ _ h => h) (by rfl) ?hyrb9 hHeld ?restrb9
          case hyrb9 =>
            intro w hSw
            (try dsimp only at hSw)
            go_simp
            try with_reducible rfl
          simp only [Act.put, List.setIfInBounds_toArray, List.set_cons_zero, List.set_cons_succ]
          refine wpAnyH_yield (i := 10) (v := ?vrb10) rfl rfl (by kernel_rfl) (by kernel_rfl) (by kernel_rfl) (fun _ _ _ h => h) (by rfl) ?hyrb10 hHeld ?restrb10
          case hyrb10 =>
            intro w hSw
            (try dsimp only at hSw)
            go_simp
            try with_reducible rfl
          simp only [Act.put, List.setIfInBounds_toArray, List.set_cons_zero, List.set_cons_succ]
          have hszrb : w.heap.size ≤ wr.heap.size := HV.out.1.size
          have hnerb0 : T ≠ wr.heap.size := by have := HV.out.2.1.lt; omega
          have HVrb3 := Lib.hid (HVrb.out.beside (cs' := #[.int .i64 0, .int .i64 a0, .int .i64 a1, .int .i64 0, .slice brb ce.length prb, .int .u32 0]) HZrb.out hszrb hnerb0)
          have HVsrb : Hid (Vr w (mrb.setRow wr.heap.size #[.int .i64 0, .int .i64 a0, .int .i64 a1, .int .i64 0, .slice brb ce.length prb, .int .u32 0]) wr.heap.size ((0, a0, a1, 0), ce, 0) (.slice brb ce.length prb)) := Lib.hid ((Vr.fresh HVrb.out.1 HZrb.out hszrb).put (t' := ((0, a0, a1, 0), ce, 0)) (HRrb.out.low (by have := HV.out.1.size; simp; omega)))
          refine wpAnyH_ready (rs := [12]) (by kernel_rfl) (by simp) ?_
          refine AllReadyH.cons rfl (fun K hK => ?_) AllReadyH.nil
          refine step_row _ (by rfl) 27 _ _ (by rfl) (by rfl) (wr.heap.size) #[.int .i64 0, .int .i64 a0, .int .i64 a1, .int .i64 0, .slice brb ce.length prb, .int .u32 0] (by rfl) (by rfl) 27 _ HZrb.out (by kernel_rfl) rfl (by simp [Value.oneCell']) ?_
          refine hK.out _ _ (HKeep.out _ HVrb3.out) (fun hHeld => ?_)
          clear hK K
          try simp only [Act.put, List.setIfInBounds_toArray, List.set_cons_zero, List.set_cons_succ]
          refine wpAnyH_yield (i := 13) (v := ?vrb13) rfl rfl (by kernel_rfl) (by kernel_rfl) (by kernel_rfl) (fun _ _ _ h => h) (by rfl) ?hyrb13 hHeld ?restrb13
          case hyrb13 =>
            intro w hSw
            (try dsimp only at hSw)
            go_simp
            try with_reducible rfl
          simp only [Act.put, List.setIfInBounds_toArray, List.set_cons_zero, List.set_cons_succ]
          refine wpAnyH_done (by kernel_rfl) ?_ _
          replace HV := HVrb3
          clear HVrb0 HVrb HRrb HZrb Hbbrb hszrb hnerb0 HZrb0 HVrb3
          have HS := HVsrb
          clear HVsrb
          generalize hX : World.setRow mrb (wr.heap.size) #[.int .i64 0, .int .i64 a0, .int .i64 a1, .int .i64 0, .slice brb ce.length prb, .int .u32 0] = Xrb at *
          generalize hT1 : wr.heap.size = Trb at *
          clear hX hT1
          clear hHeld
          go_wp2_with fail
          refine wp_region_held_drew (S := (fun w' => w'.cell? ⟨T, 0, none⟩ = some (.int .i64 0) ∧ w'.cell? ⟨T, 1, none⟩ = some (.int .i64 a0) ∧ w'.cell? ⟨T, 2, none⟩ = some (.int .i64 a1) ∧ w'.cell? ⟨T, 3, none⟩ = some (.int .i64 0) ∧ w'.cell? ⟨T, 4, none⟩ = some (.slice b n p) ∧ w'.cell? ⟨T, 5, none⟩ = some (.int .u32 0) ∧ w'.cell? (x.add k) = some (.int .u32 key))) (by kernel_rfl) (HKeep.out _ (HV.out.later ((Below.refl _ _).drew))) (fun hHeld => ?_)
          refine wpAnyH_yield (i := 0) (v := ?vrbq0) rfl rfl (by kernel_rfl) (by kernel_rfl) (by kernel_rfl) (fun _ _ _ h => h) (by rfl) ?hyrbq0 hHeld ?restrbq0
          case hyrbq0 =>
            intro w hSw
            (try dsimp only at hSw)
            go_simp
            try with_reducible rfl
          simp only [Act.put, List.setIfInBounds_toArray, List.set_cons_zero, List.set_cons_succ]
          refine wpAnyH_yield (i := 1) (v := ?vrbq1) rfl rfl (by kernel_rfl) (by kernel_rfl) (by kernel_rfl) (fun _ _ _ h => h) (by rfl) ?hyrbq1 hHeld ?restrbq1
          case hyrbq1 =>
            intro w hSw
            (try dsimp only at hSw)
            go_simp
            try with_reducible rfl
          simp only [Act.put, List.setIfInBounds_toArray, List.set_cons_zero, List.set_cons_succ]
          refine wpAnyH_yield (i := 2) (v := ?vrbq2) rfl rfl (by kernel_rfl) (by kernel_rfl) (by kernel_rfl) (fun _ _ _ h => h) (by rfl) ?hyrbq2 hHeld ?restrbq2
          case hyrbq2 =>
            intro w hSw
            (try dsimp only at hSw)
            go_simp
            try with_reducible rfl
          simp only [Act.put, List.setIfInBounds_toArray, List.set_cons_zero, List.set_cons_succ]
          refine wpAnyH_yield (i := 3) (v := ?vrbq3) rfl rfl (by kernel_rfl) (by kernel_rfl) (by kernel_rfl) (fun _ _ _ h => h) (by rfl) ?hyrbq3 hHeld ?restrbq3
          case hyrbq3 =>
            intro w hSw
            (try dsimp only at hSw)
            go_simp
            try with_reducible rfl
          simp only [Act.put, List.setIfInBounds_toArray, List.set_cons_zero, List.set_cons_succ]
          refine wpAnyH_yield (i := 4) (v := ?vrbq4) rfl rfl (by kernel_rfl) (by kernel_rfl) (by kernel_rfl) (fun _ _ _ h => h) (by rfl) ?hyrbq4 hHeld ?restrbq4
          case hyrbq4 =>
            intro w hSw
            (try dsimp only at hSw)
            go_simp
            try with_reducible rfl
          simp only [Act.put, List.setIfInBounds_toArray, List.set_cons_zero, List.set_cons_succ]
          refine wpAnyH_ready (rs := [5, 9]) (by kernel_rfl) (by simp) ?_
          refine AllReadyH.cons rfl (fun K hK => ?_) ?_
          · go_simp
            have crbqa := tdel_any (0, a0, a1, 0) b n p 0 te key Xrb.drew (HV.out.ents.below ((Below.refl _ _).drew)) (may_few HVK.out.may) isW_zero
            rw [HDel.out] at crbqa
            refine crbqa.mono ?_
            rintro e mrbqa ⟨u, rfl, hb, hr0⟩
            clear crbqa
            have HRrbqa : Hid (Row mrbqa Xrb.drew.heap.size u de) := Lib.hid hr0
            obtain ⟨brbqa, prbqa, hu, _⟩ := HRrbqa.out.at
            subst hu
            clear hr0
            have Hbbrbqa := Lib.hid hb
            clear hb
            have HVrbqa := Lib.hid ((HV.out.later (((Below.refl _ _).drew).trans Hbbrbqa.out)))
            have HSrbqa := Lib.hid ((HS.out.later (((Below.refl _ _).drew).trans Hbbrbqa.out)))
            go_wp2_with fail
            refine hK.out _ _ (HKeep.out _ HVrbqa.out) (fun hHeld => ?_)
            clear hK K
            try simp only [Act.put, List.setIfInBounds_toArray, List.set_cons_zero, List.set_cons_succ]
            refine wpAnyH_yield (i := 6) (v := ?vrbqa6) rfl rfl (by kernel_rfl) (by kernel_rfl) (by kernel_rfl) (fun _ _ _ h => h) (by rfl) ?hyrbqa6 hHeld ?restrbqa6
            case hyrbqa6 =>
              intro w hSw
              (try dsimp only at hSw)
              go_simp
              try with_reducible rfl
            simp only [Act.put, List.setIfInBounds_toArray, List.set_cons_zero, List.set_cons_succ]
            refine wpAnyH_yield (i := 7) (v := ?vrbqa7) rfl rfl (by kernel_rfl) (by kernel_rfl) (by kernel_rfl) (fun _ _ _ h => h) (by rfl) ?hyrbqa7 hHeld ?restrbqa7
            case hyrbqa7 =>
              intro w hSw
              (try dsimp only at hSw)
              go_simp
              try with_reducible rfl
            simp only [Act.put, List.setIfInBounds_toArray, List.set_cons_zero, List.set_cons_succ]
            refine wpAnyH_yield (i := 8) (v := ?vrbqa8) rfl rfl (by kernel_rfl) (by kernel_rfl) (by kernel_rfl) (fun _ _ _ h => h) (by rfl) ?hyrbqa8 hHeld ?restrbqa8
            case hyrbqa8 =>
              intro w hSw
              (try dsimp only at hSw)
              go_simp
              try with_reducible rfl
            simp only [Act.put, List.setIfInBounds_toArray, List.set_cons_zero, List.set_cons_succ]
            have HVrbqa2 := Lib.hid (HVrbqa.out.later (belowA mrbqa (.cells #[.int .i64 0, .int .i64 0, .int .i64 0, .int .i64 0, .slice none 0 0, .int .u32 0] 27)))
            have HSrbqa2 := Lib.hid (HSrbqa.out.later (belowA mrbqa (.cells #[.int .i64 0, .int .i64 0, .int .i64 0, .int .i64 0, .slice none 0 0, .int .u32 0] 27)))
            have HRrbqa2 := Lib.hid (HRrbqa.out.below (belowA mrbqa (.cells #[.int .i64 0, .int .i64 0, .int .i64 0, .int .i64 0, .slice none 0 0, .int .u32 0] 27)))
            have HZrbqa : Hid (Box (mrbqa.alloc (.cells #[.int .i64 0, .int .i64 0, .int .i64 0, .int .i64 0, .slice none 0 0, .int .u32 0] 27)) mrbqa.heap.size 27 zeroTA) := Lib.hid (Box.new _ _ _)
            refine wpAnyH_ready (rs := [9]) (by kernel_rfl) (by simp) ?_
            refine AllReadyH.cons rfl (fun K hK => ?_) AllReadyH.nil
            go_simp
            refine hK.out _ _ (HKeep.out _ HVrbqa2.out) (fun hHeld => ?_)
            clear hK K
            try simp only [Act.put, List.setIfInBounds_toArray, List.set_cons_zero, List.set_cons_succ]
            have hszrbqa : w.heap.size ≤ mrbqa.heap.size := HVrbqa.out.1.size
            have hnerbqa0 : T ≠ mrbqa.heap.size := by have := HVrbqa.out.2.1.lt; omega
            have hnerbqa1 : Trb ≠ mrbqa.heap.size := by have := HSrbqa.out.2.1.lt; omega
            have HVrbqa3 := Lib.hid (HVrbqa2.out.beside (cs' := #[.int .i64 d0, .int .i64 d1, .int .i64 d2, .int .i64 d3, .slice brbqa de.length prbqa, .int .u32 dx]) HZrbqa.out hszrbqa hnerbqa0)
            have HSrbqa3 := Lib.hid (HSrbqa2.out.beside (cs' := #[.int .i64 d0, .int .i64 d1, .int .i64 d2, .int .i64 d3, .slice brbqa de.length prbqa, .int .u32 dx]) HZrbqa.out hszrbqa hnerbqa1)
            have HVsrbqa : Hid (Vr w ((mrbqa.alloc (.cells #[.int .i64 0, .int .i64 0, .int .i64 0, .int .i64 0, .slice none 0 0, .int .u32 0] 27)).setRow mrbqa.heap.size #[.int .i64 d0, .int .i64 d1, .int .i64 d2, .int .i64 d3, .slice brbqa de.length prbqa, .int .u32 dx]) mrbqa.heap.size ((d0, d1, d2, d3), de, dx) (.slice brbqa de.length prbqa)) := Lib.hid ((Vr.fresh HVrbqa2.out.1 HZrbqa.out hszrbqa).put (t' := ((d0, d1, d2, d3), de, dx)) (HRrbqa2.out.low (by have := HV.out.1.size; show w.heap.size ≤ Xrb.heap.size; exact this)))
            refine wpAnyH_ready (rs := [10]) (by kernel_rfl) (by simp) ?_
            refine AllReadyH.cons rfl (fun K hK => ?_) AllReadyH.nil
            refine step_row _ (by rfl) 27 _ _ (by rfl) (by rfl) (mrbqa.heap.size) #[.int .i64 d0, .int .i64 d1, .int .i64 d2, .int .i64 d3, .slice brbqa de.length prbqa, .int .u32 dx] (by rfl) (by rfl) 27 _ HZrbqa.out (by kernel_rfl) rfl (by simp [Value.oneCell']) ?_
            refine hK.out _ _ (HKeep.out _ HVrbqa3.out) (fun hHeld => ?_)
            clear hK K
            try simp only [Act.put, List.setIfInBounds_toArray, List.set_cons_zero, List.set_cons_succ]
            refine wpAnyH_yield (i := 11) (v := ?vrbqa11) rfl rfl (by kernel_rfl) (by kernel_rfl) (by kernel_rfl) (fun _ _ _ h => h) (by rfl) ?hyrbqa11 hHeld ?restrbqa11
            case hyrbqa11 =>
              intro w hSw
              (try dsimp only at hSw)
              go_simp
              try with_reducible rfl
            simp only [Act.put, List.setIfInBounds_toArray, List.set_cons_zero, List.set_cons_succ]
            refine wpAnyH_done (by kernel_rfl) ?_ _
            replace HV := HVrbqa3
            replace HS := HSrbqa3
            clear HVrbqa HVrbqa2 HSrbqa HSrbqa2 HRrbqa HZrbqa Hbbrbqa hszrbqa hnerbqa0 hnerbqa1 HRrbqa2 HVrbqa3 HSrbqa3
            have HD9 := HVsrbqa
            clear HVsrbqa
            generalize hX : World.setRow (mrbqa.alloc (.cells #[.int .i64 0, .int .i64 0, .int .i64 0, .int .i64 0, .slice none 0 0, .int .u32 0] 27)) (mrbqa.heap.size) #[.int .i64 d0, .int .i64 d1, .int .i64 d2, .int .i64 d3, .slice brbqa de.length prbqa, .int .u32 dx] = Xrbqa at *
            generalize hT1 : mrbqa.heap.size = Trbqa at *
            clear hX hT1
            clear hHeld HD9
            obtain ⟨k0, k1, k2, k3, k4, k5, k6⟩ := HKeep.out _ HV.out
            obtain ⟨q0, q1, q2, q3, q4, q5⟩ := Box.tb (s := (0, a0, a1, 0)) HS.out.2.1
            simp only at q0 q1 q2 q3 q4 q5
            have HBx := Lib.hid HV.out.2.1
            have HVn := Lib.hid (HV.out.put (t' := ((0, a0, a1, 0), ce, 0)) HS.out.2.2.1)
            go_wp2_with (refine wpList_store_row rfl 27 _ _ rfl T _ rfl rfl 27 _ HBx.out (by kernel_rfl) rfl (by simp [Value.oneCell']) ?_)
            exact ⟨⟨k + 1, ce, _, by omega, by go_num, HVC, HVn⟩, by simp [intOf]; omega⟩
          have HVrbqb0 := Lib.hid (HV.out.later (((Below.refl _ _).drew).trans (belowA Xrb.drew (.cells #[.int .i64 0, .int .i64 0, .int .i64 0, .int .i64 0, .slice none 0 0, .int .u32 0] 27))))
          have HSrbqb0 := Lib.hid (HS.out.later (((Below.refl _ _).drew).trans (belowA Xrb.drew (.cells #[.int .i64 0, .int .i64 0, .int .i64 0, .int .i64 0, .slice none 0 0, .int .u32 0] 27))))
          have HZrbqb0 : Hid (Box (Xrb.drew.alloc (.cells #[.int .i64 0, .int .i64 0, .int .i64 0, .int .i64 0, .slice none 0 0, .int .u32 0] 27)) Xrb.heap.size 27 zeroTA) := Lib.hid (Box.new _ _ _)
          refine AllReadyH.cons rfl (fun K hK => ?_) AllReadyH.nil
          go_simp
          refine hK.out _ _ (HKeep.out _ HVrbqb0.out) (fun hHeld => ?_)
          clear hK K
          try simp only [Act.put, List.setIfInBounds_toArray, List.set_cons_zero, List.set_cons_succ]
          refine wpAnyH_ready (rs := [5]) (by kernel_rfl) (by simp) ?_
          refine AllReadyH.cons rfl (fun K hK => ?_) AllReadyH.nil
          go_simp
          have crbqb := tdel_any (0, a0, a1, 0) b n p 0 te key (Xrb.drew.alloc (.cells #[.int .i64 0, .int .i64 0, .int .i64 0, .int .i64 0, .slice none 0 0, .int .u32 0] 27)) (HV.out.ents.below ((((Below.refl _ _).drew).trans (belowA Xrb.drew (.cells #[.int .i64 0, .int .i64 0, .int .i64 0, .int .i64 0, .slice none 0 0, .int .u32 0] 27))))) (may_few HVK.out.may) isW_zero
          rw [HDel.out] at crbqb
          refine crbqb.mono ?_
          rintro e mrbqb ⟨u, rfl, hb, hr0⟩
          clear crbqb
          have HRrbqb : Hid (Row mrbqb (Xrb.drew.alloc (.cells #[.int .i64 0, .int .i64 0, .int .i64 0, .int .i64 0, .slice none 0 0, .int .u32 0] 27)).heap.size u de) := Lib.hid hr0
          obtain ⟨brbqb, prbqb, hu, _⟩ := HRrbqb.out.at
          subst hu
          clear hr0
          have Hbbrbqb := Lib.hid hb
          clear hb
          have HVrbqb := Lib.hid (HVrbqb0.out.later Hbbrbqb.out)
          have HSrbqb := Lib.hid (HSrbqb0.out.later Hbbrbqb.out)
          have HZrbqb := Lib.hid (HZrbqb0.out.later Hbbrbqb.out)
          go_wp2_with fail
          refine hK.out _ _ (HKeep.out _ HVrbqb.out) (fun hHeld => ?_)
          clear hK K
          try simp only [Act.put, List.setIfInBounds_toArray, List.set_cons_zero, List.set_cons_succ]
          refine wpAnyH_yield (i := 6) (v := ?vrbqb6) rfl rfl (by kernel_rfl) (by kernel_rfl) (by kernel_rfl) (fun _ _ _ h => h) (by rfl) ?hyrbqb6 hHeld ?restrbqb6
          case hyrbqb6 =>
            intro w hSw
            (try dsimp only at hSw)
            go_simp
            try with_reducible rfl
          simp only [Act.put, List.setIfInBounds_toArray, List.set_cons_zero, List.set_cons_succ]
          refine wpAnyH_yield (i := 7) (v := ?vrbqb7) rfl rfl (by kernel_rfl) (by kernel_rfl) (by kernel_rfl) (fun _ _ _ h => h) (by rfl) ?hyrbqb7 hHeld ?restrbqb7
          case hyrbqb7 =>
            intro w hSw
            (try dsimp only at hSw)
            go_simp
            try with_reducible rfl
          simp only [Act.put, List.setIfInBounds_toArray, List.set_cons_zero, List.set_cons_succ]
          refine wpAnyH_yield (i := 8) (v := ?vrbqb8) rfl rfl (by kernel_rfl) (by kernel_rfl) (by kernel_rfl) (fun _ _ _ h => h) (by rfl) ?hyrbqb8 hHeld ?restrbqb8
          case hyrbqb8 =>
            intro w hSw
            (try dsimp only at hSw)
            go_simp
            try with_reducible rfl
          simp only [Act.put, List.setIfInBounds_toArray, List.set_cons_zero, List.set_cons_succ]
          have hszrbqb : w.heap.size ≤ Xrb.heap.size := HV.out.1.size
          have hnerbqb0 : T ≠ Xrb.heap.size := by have := HV.out.2.1.lt; omega
          have hnerbqb1 : Trb ≠ Xrb.heap.size := by have := HS.out.2.1.lt; omega
          have HVrbqb3 := Lib.hid (HVrbqb.out.beside (cs' := #[.int .i64 d0, .int .i64 d1, .int .i64 d2, .int .i64 d3, .slice brbqb de.length prbqb, .int .u32 dx]) HZrbqb.out hszrbqb hnerbqb0)
          have HSrbqb3 := Lib.hid (HSrbqb.out.beside (cs' := #[.int .i64 d0, .int .i64 d1, .int .i64 d2, .int .i64 d3, .slice brbqb de.length prbqb, .int .u32 dx]) HZrbqb.out hszrbqb hnerbqb1)
          have HVsrbqb : Hid (Vr w (mrbqb.setRow Xrb.heap.size #[.int .i64 d0, .int .i64 d1, .int .i64 d2, .int .i64 d3, .slice brbqb de.length prbqb, .int .u32 dx]) Xrb.heap.size ((d0, d1, d2, d3), de, dx) (.slice brbqb de.length prbqb)) := Lib.hid ((Vr.fresh HVrbqb.out.1 HZrbqb.out hszrbqb).put (t' := ((d0, d1, d2, d3), de, dx)) (HRrbqb.out.low (by have := HV.out.1.size; simp; omega)))
          refine wpAnyH_ready (rs := [10]) (by kernel_rfl) (by simp) ?_
          refine AllReadyH.cons rfl (fun K hK => ?_) AllReadyH.nil
          refine step_row _ (by rfl) 27 _ _ (by rfl) (by rfl) (Xrb.heap.size) #[.int .i64 d0, .int .i64 d1, .int .i64 d2, .int .i64 d3, .slice brbqb de.length prbqb, .int .u32 dx] (by rfl) (by rfl) 27 _ HZrbqb.out (by kernel_rfl) rfl (by simp [Value.oneCell']) ?_
          refine hK.out _ _ (HKeep.out _ HVrbqb3.out) (fun hHeld => ?_)
          clear hK K
          try simp only [Act.put, List.setIfInBounds_toArray, List.set_cons_zero, List.set_cons_succ]
          refine wpAnyH_yield (i := 11) (v := ?vrbqb11) rfl rfl (by kernel_rfl) (by kernel_rfl) (by kernel_rfl) (fun _ _ _ h => h) (by rfl) ?hyrbqb11 hHeld ?restrbqb11
          case hyrbqb11 =>
            intro w hSw
            (try dsimp only at hSw)
            go_simp
            try with_reducible rfl
          simp only [Act.put, List.setIfInBounds_toArray, List.set_cons_zero, List.set_cons_succ]
          refine wpAnyH_done (by kernel_rfl) ?_ _
          replace HV := HVrbqb3
          replace HS := HSrbqb3
          clear HVrbqb0 HVrbqb HSrbqb0 HSrbqb HRrbqb HZrbqb Hbbrbqb hszrbqb hnerbqb0 hnerbqb1 HZrbqb0 HVrbqb3 HSrbqb3
          have HD9 := HVsrbqb
          clear HVsrbqb
          generalize hX : World.setRow mrbqb (Xrb.heap.size) #[.int .i64 d0, .int .i64 d1, .int .i64 d2, .int .i64 d3, .slice brbqb de.length prbqb, .int .u32 dx] = Xrbqb at *
          generalize hT1 : Xrb.heap.size = Trbqb at *
          clear hX hT1
          clear hHeld HD9
          obtain ⟨k0, k1, k2, k3, k4, k5, k6⟩ := HKeep.out _ HV.out
          obtain ⟨q0, q1, q2, q3, q4, q5⟩ := Box.tb (s := (0, a0, a1, 0)) HS.out.2.1
          simp only at q0 q1 q2 q3 q4 q5
          have HBx := Lib.hid HV.out.2.1
          have HVn := Lib.hid (HV.out.put (t' := ((0, a0, a1, 0), ce, 0)) HS.out.2.2.1)
          go_wp2_with (refine wpList_store_row rfl 27 _ _ rfl T _ rfl rfl 27 _ HBx.out (by kernel_rfl) rfl (by simp [Value.oneCell']) ?_)
          exact ⟨⟨k + 1, ce, _, by omega, by go_num, HVC, HVn⟩, by simp [intOf]; omega⟩
        · rw [if_neg hlt] at hset
          rw [decide_eq_false hlt] at hdel
          subst hset hdel
          have HSet := Lib.hid hg
          clear hg hsl hsn
          obtain ⟨k0, k1, k2, k3, k4, k5, k6⟩ := HKeep.out _ HV.out
          go_wp2_with fail
          clear k0 k1 k2 k3 k4 k5 k6
          refine wp_region_held_drew (S := (fun w' => w'.cell? ⟨T, 0, none⟩ = some (.int .i64 0) ∧ w'.cell? ⟨T, 1, none⟩ = some (.int .i64 a0) ∧ w'.cell? ⟨T, 2, none⟩ = some (.int .i64 a1) ∧ w'.cell? ⟨T, 3, none⟩ = some (.int .i64 0) ∧ w'.cell? ⟨T, 4, none⟩ = some (.slice b n p) ∧ w'.cell? ⟨T, 5, none⟩ = some (.int .u32 0) ∧ w'.cell? (x.add k) = some (.int .u32 key))) (by kernel_rfl) (HKeep.out _ (HV.out.later ((Below.refl _ _).drew))) (fun hHeld => ?_)
          refine wpAnyH_yield (i := 0) (v := ?vs0) rfl rfl (by kernel_rfl) (by kernel_rfl) (by kernel_rfl) (fun _ _ _ h => h) (by rfl) ?hys0 hHeld ?rests0
          case hys0 =>
            intro w hSw
            (try dsimp only at hSw)
            go_simp
            try with_reducible rfl
          simp only [Act.put, List.setIfInBounds_toArray, List.set_cons_zero, List.set_cons_succ]
          refine wpAnyH_yield (i := 1) (v := ?vs1) rfl rfl (by kernel_rfl) (by kernel_rfl) (by kernel_rfl) (fun _ _ _ h => h) (by rfl) ?hys1 hHeld ?rests1
          case hys1 =>
            intro w hSw
            (try dsimp only at hSw)
            go_simp
            try with_reducible rfl
          simp only [Act.put, List.setIfInBounds_toArray, List.set_cons_zero, List.set_cons_succ]
          refine wpAnyH_yield (i := 2) (v := ?vs2) rfl rfl (by kernel_rfl) (by kernel_rfl) (by kernel_rfl) (fun _ _ _ h => h) (by rfl) ?hys2 hHeld ?rests2
          case hys2 =>
            intro w hSw
            (try dsimp only at hSw)
            go_simp
            try with_reducible rfl
          simp only [Act.put, List.setIfInBounds_toArray, List.set_cons_zero, List.set_cons_succ]
          refine wpAnyH_yield (i := 3) (v := ?vs3) rfl rfl (by kernel_rfl) (by kernel_rfl) (by kernel_rfl) (fun _ _ _ h => h) (by rfl) ?hys3 hHeld ?rests3
          case hys3 =>
            intro w hSw
            (try dsimp only at hSw)
            go_simp
            try with_reducible rfl
          simp only [Act.put, List.setIfInBounds_toArray, List.set_cons_zero, List.set_cons_succ]
          refine wpAnyH_yield (i := 4) (v := ?vs4) rfl rfl (by kernel_rfl) (by kernel_rfl) (by kernel_rfl) (fun _ _ _ h => h) (by rfl) ?hys4 hHeld ?rests4
          case hys4 =>
            intro w hSw
            (try dsimp only at hSw)
            go_simp
            try with_reducible rfl
          simp only [Act.put, List.setIfInBounds_toArray, List.set_cons_zero, List.set_cons_succ]
          refine wpAnyH_yield (i := 5) (v := ?vs5) rfl rfl (by kernel_rfl) (by kernel_rfl) (by kernel_rfl) (fun _ _ _ h => h) (by rfl) ?hys5 hHeld ?rests5
          case hys5 =>
            intro w hSw
            (try dsimp only at hSw)
            go_simp
            try with_reducible rfl
          simp only [Act.put, List.setIfInBounds_toArray, List.set_cons_zero, List.set_cons_succ]
          refine wpAnyH_yield (i := 6) (v := ?vs6) rfl rfl (by kernel_rfl) (by kernel_rfl) (by kernel_rfl) (fun _ _ _ h => h) (by rfl) ?hys6 hHeld ?rests6
          case hys6 =>
            intro w hSw
            (try dsimp only at hSw)
            go_simp
            try with_reducible rfl
          simp only [Act.put, List.setIfInBounds_toArray, List.set_cons_zero, List.set_cons_succ]
          refine wpAnyH_ready (rs := [7, 11]) (by kernel_rfl) (by simp) ?_
          refine AllReadyH.cons rfl (fun K hK => ?_) ?_
          · go_simp
            have csa := tset_any (0, a0, a1, 0) b n p 0 te key 0 (k : Int) wr.drew (HV.out.ents.below ((Below.refl _ _).drew)) (may_few HVK.out.may) isW_zero HKW.out isW_zero ⟨by omega, by omega⟩
            rw [HSet.out] at csa
            refine csa.mono ?_
            rintro e msa ⟨u, rfl, hb, hr0⟩
            clear csa
            have HRsa : Hid (Row msa wr.drew.heap.size u ce) := Lib.hid hr0
            obtain ⟨bsa, psa, hu, _⟩ := HRsa.out.at
            subst hu
            clear hr0
            have Hbbsa := Lib.hid hb
            clear hb
            have HVsa := Lib.hid ((HV.out.later (((Below.refl _ _).drew).trans Hbbsa.out)))
            go_wp2_with fail
            refine hK.out _ _ (HKeep.out _ HVsa.out) (fun hHeld => ?_)
            clear hK K
            try simp only [Act.put, List.setIfInBounds_toArray, List.set_cons_zero, List.set_cons_succ]
            refine wpAnyH_yield (i := 8) (v := ?vsa8) rfl rfl (by kernel_rfl) (by kernel_rfl) (by kernel_rfl) (fun _ _ _ h => h) (by rfl) ?hysa8 hHeld ?restsa8
            case hysa8 =>
              intro w hSw
              (try dsimp only at hSw)
              go_simp
              try with_reducible rfl
            simp only [Act.put, List.setIfInBounds_toArray, List.set_cons_zero, List.set_cons_succ]
            refine wpAnyH_yield (i := 9) (v := ?vsa9) rfl rfl (by kernel_rfl) (by kernel_rfl) (by kernel_rfl) (fun _ _ _ h => h) (by rfl) ?hysa9 hHeld ?restsa9
            case hysa9 =>
              intro w hSw
              (try dsimp only at hSw)
              go_simp
              try with_reducible rfl
            simp only [Act.put, List.setIfInBounds_toArray, List.set_cons_zero, List.set_cons_succ]
            refine wpAnyH_yield (i := 10) (v := ?vsa10) rfl rfl (by kernel_rfl) (by kernel_rfl) (by kernel_rfl) (fun _ _ _ h => h) (by rfl) ?hysa10 hHeld ?restsa10
            case hysa10 =>
              intro w hSw
              (try dsimp only at hSw)
              go_simp
              try with_reducible rfl
            simp only [Act.put, List.setIfInBounds_toArray, List.set_cons_zero, List.set_cons_succ]
            have HVsa2 := Lib.hid (HVsa.out.later (belowA msa (.cells #[.int .i64 0, .int .i64 0, .int .i64 0, .int .i64 0, .slice none 0 0, .int .u32 0] 27)))
            have HRsa2 := Lib.hid (HRsa.out.below (belowA msa (.cells #[.int .i64 0, .int .i64 0, .int .i64 0, .int .i64 0, .slice none 0 0, .int .u32 0] 27)))
            have HZsa : Hid (Box (msa.alloc (.cells #[.int .i64 0, .int .i64 0, .int .i64 0, .int .i64 0, .slice none 0 0, .int .u32 0] 27)) msa.heap.size 27 zeroTA) := Lib.hid (Box.new _ _ _)
            refine wpAnyH_ready (rs := [11]) (by kernel_rfl) (by simp) ?_
            refine AllReadyH.cons rfl (fun K hK => ?_) AllReadyH.nil
            go_simp
            refine hK.out _ _ (HKeep.out _ HVsa2.out) (fun hHeld => ?_)
            clear hK K
            try simp only [Act.put, List.setIfInBounds_toArray, List.set_cons_zero, List.set_cons_succ]
            have hszsa : w.heap.size ≤ msa.heap.size := HVsa.out.1.size
            have hnesa0 : T ≠ msa.heap.size := by have := HVsa.out.2.1.lt; omega
            have HVsa3 := Lib.hid (HVsa2.out.beside (cs' := #[.int .i64 c0, .int .i64 c1, .int .i64 c2, .int .i64 c3, .slice bsa ce.length psa, .int .u32 cx]) HZsa.out hszsa hnesa0)
            have HVssa : Hid (Vr w ((msa.alloc (.cells #[.int .i64 0, .int .i64 0, .int .i64 0, .int .i64 0, .slice none 0 0, .int .u32 0] 27)).setRow msa.heap.size #[.int .i64 c0, .int .i64 c1, .int .i64 c2, .int .i64 c3, .slice bsa ce.length psa, .int .u32 cx]) msa.heap.size ((c0, c1, c2, c3), ce, cx) (.slice bsa ce.length psa)) := Lib.hid ((Vr.fresh HVsa2.out.1 HZsa.out hszsa).put (t' := ((c0, c1, c2, c3), ce, cx)) (HRsa2.out.low (by have := HV.out.1.size; show w.heap.size ≤ wr.heap.size; exact this)))
            refine wpAnyH_ready (rs := [12]) (by kernel_rfl) (by simp) ?_
            refine AllReadyH.cons rfl (fun K hK => ?_) AllReadyH.nil
            refine step_row _ (by rfl) 27 _ _ (by rfl) (by rfl) (msa.heap.size) #[.int .i64 c0, .int .i64 c1, .int .i64 c2, .int .i64 c3, .slice bsa ce.length psa, .int .u32 cx] (by rfl) (by rfl) 27 _ HZsa.out (by kernel_rfl) rfl (by simp [Value.oneCell']) ?_
            refine hK.out _ _ (HKeep.out _ HVsa3.out) (fun hHeld => ?_)
            clear hK K
            try simp only [Act.put, List.setIfInBounds_toArray, List.set_cons_zero, List.set_cons_succ]
            refine wpAnyH_yield (i := 13) (v := ?vsa13) rfl rfl (by kernel_rfl) (by kernel_rfl) (by kernel_rfl) (fun _ _ _ h => h) (by rfl) ?hysa13 hHeld ?restsa13
            case hysa13 =>
              intro w hSw
              (try dsimp only at hSw)
              go_simp
              try with_reducible rfl
            simp only [Act.put, List.setIfInBounds_toArray, List.set_cons_zero, List.set_cons_succ]
            refine wpAnyH_done (by kernel_rfl) ?_ _
            replace HV := HVsa3
            clear HVsa HVsa2 HRsa HZsa Hbbsa hszsa hnesa0 HRsa2 HVsa3
            have HS := HVssa
            clear HVssa
            generalize hX : World.setRow (msa.alloc (.cells #[.int .i64 0, .int .i64 0, .int .i64 0, .int .i64 0, .slice none 0 0, .int .u32 0] 27)) (msa.heap.size) #[.int .i64 c0, .int .i64 c1, .int .i64 c2, .int .i64 c3, .slice bsa ce.length psa, .int .u32 cx] = Xsa at *
            generalize hT1 : msa.heap.size = Tsa at *
            clear hX hT1
            clear hHeld
            go_wp2_with fail
            refine wp_region_held_drew (S := (fun w' => w'.cell? ⟨T, 0, none⟩ = some (.int .i64 0) ∧ w'.cell? ⟨T, 1, none⟩ = some (.int .i64 a0) ∧ w'.cell? ⟨T, 2, none⟩ = some (.int .i64 a1) ∧ w'.cell? ⟨T, 3, none⟩ = some (.int .i64 0) ∧ w'.cell? ⟨T, 4, none⟩ = some (.slice b n p) ∧ w'.cell? ⟨T, 5, none⟩ = some (.int .u32 0) ∧ w'.cell? (x.add k) = some (.int .u32 key))) (by kernel_rfl) (HKeep.out _ (HV.out.later ((Below.refl _ _).drew))) (fun hHeld => ?_)
            refine wpAnyH_yield (i := 0) (v := ?vsaq0) rfl rfl (by kernel_rfl) (by kernel_rfl) (by kernel_rfl) (fun _ _ _ h => h) (by rfl) ?hysaq0 hHeld ?restsaq0
            case hysaq0 =>
              intro w hSw
              (try dsimp only at hSw)
              go_simp
              try with_reducible rfl
            simp only [Act.put, List.setIfInBounds_toArray, List.set_cons_zero, List.set_cons_succ]
            refine wpAnyH_yield (i := 1) (v := ?vsaq1) rfl rfl (by kernel_rfl) (by kernel_rfl) (by kernel_rfl) (fun _ _ _ h => h) (by rfl) ?hysaq1 hHeld ?restsaq1
            case hysaq1 =>
              intro w hSw
              (try dsimp only at hSw)
              go_simp
              try with_reducible rfl
            simp only [Act.put, List.setIfInBounds_toArray, List.set_cons_zero, List.set_cons_succ]
            refine wpAnyH_yield (i := 2) (v := ?vsaq2) rfl rfl (by kernel_rfl) (by kernel_rfl) (by kernel_rfl) (fun _ _ _ h => h) (by rfl) ?hysaq2 hHeld ?restsaq2
            case hysaq2 =>
              intro w hSw
              (try dsimp only at hSw)
              go_simp
              try with_reducible rfl
            simp only [Act.put, List.setIfInBounds_toArray, List.set_cons_zero, List.set_cons_succ]
            refine wpAnyH_yield (i := 3) (v := ?vsaq3) rfl rfl (by kernel_rfl) (by kernel_rfl) (by kernel_rfl) (fun _ _ _ h => h) (by rfl) ?hysaq3 hHeld ?restsaq3
            case hysaq3 =>
              intro w hSw
              (try dsimp only at hSw)
              go_simp
              try with_reducible rfl
            simp only [Act.put, List.setIfInBounds_toArray, List.set_cons_zero, List.set_cons_succ]
            refine wpAnyH_yield (i := 4) (v := ?vsaq4) rfl rfl (by kernel_rfl) (by kernel_rfl) (by kernel_rfl) (fun _ _ _ h => h) (by rfl) ?hysaq4 hHeld ?restsaq4
            case hysaq4 =>
              intro w hSw
              (try dsimp only at hSw)
              go_simp
              try with_reducible rfl
            simp only [Act.put, List.setIfInBounds_toArray, List.set_cons_zero, List.set_cons_succ]
            refine wpAnyH_ready (rs := [5, 9]) (by kernel_rfl) (by simp) ?_
            refine AllReadyH.cons rfl (fun K hK => ?_) ?_
            · go_simp
              have csaqa := tdel_any (0, a0, a1, 0) b n p 0 te key Xsa.drew (HV.out.ents.below ((Below.refl _ _).drew)) (may_few HVK.out.may) isW_zero
              rw [HDel.out] at csaqa
              refine csaqa.mono ?_
              rintro e msaqa ⟨u, rfl, hb, hr0⟩
              clear csaqa
              have HRsaqa : Hid (Row msaqa Xsa.drew.heap.size u de) := Lib.hid hr0
              obtain ⟨bsaqa, psaqa, hu, _⟩ := HRsaqa.out.at
              subst hu
              clear hr0
              have Hbbsaqa := Lib.hid hb
              clear hb
              have HVsaqa := Lib.hid ((HV.out.later (((Below.refl _ _).drew).trans Hbbsaqa.out)))
              have HSsaqa := Lib.hid ((HS.out.later (((Below.refl _ _).drew).trans Hbbsaqa.out)))
              go_wp2_with fail
              refine hK.out _ _ (HKeep.out _ HVsaqa.out) (fun hHeld => ?_)
              clear hK K
              try simp only [Act.put, List.setIfInBounds_toArray, List.set_cons_zero, List.set_cons_succ]
              refine wpAnyH_yield (i := 6) (v := ?vsaqa6) rfl rfl (by kernel_rfl) (by kernel_rfl) (by kernel_rfl) (fun _ _ _ h => h) (by rfl) ?hysaqa6 hHeld ?restsaqa6
              case hysaqa6 =>
                intro w hSw
                (try dsimp only at hSw)
                go_simp
                try with_reducible rfl
              simp only [Act.put, List.setIfInBounds_toArray, List.set_cons_zero, List.set_cons_succ]
              refine wpAnyH_yield (i := 7) (v := ?vsaqa7) rfl rfl (by kernel_rfl) (by kernel_rfl) (by kernel_rfl) (fun _ _ _ h => h) (by rfl) ?hysaqa7 hHeld ?restsaqa7
              case hysaqa7 =>
                intro w hSw
                (try dsimp only at hSw)
                go_simp
                try with_reducible rfl
              simp only [Act.put, List.setIfInBounds_toArray, List.set_cons_zero, List.set_cons_succ]
              refine wpAnyH_yield (i := 8) (v := ?vsaqa8) rfl rfl (by kernel_rfl) (by kernel_rfl) (by kernel_rfl) (fun _ _ _ h => h) (by rfl) ?hysaqa8 hHeld ?restsaqa8
              case hysaqa8 =>
                intro w hSw
                (try dsimp only at hSw)
                go_simp
                try with_reducible rfl
              simp only [Act.put, List.setIfInBounds_toArray, List.set_cons_zero, List.set_cons_succ]
              have HVsaqa2 := Lib.hid (HVsaqa.out.later (belowA msaqa (.cells #[.int .i64 0, .int .i64 0, .int .i64 0, .int .i64 0, .slice none 0 0, .int .u32 0] 27)))
              have HSsaqa2 := Lib.hid (HSsaqa.out.later (belowA msaqa (.cells #[.int .i64 0, .int .i64 0, .int .i64 0, .int .i64 0, .slice none 0 0, .int .u32 0] 27)))
              have HRsaqa2 := Lib.hid (HRsaqa.out.below (belowA msaqa (.cells #[.int .i64 0, .int .i64 0, .int .i64 0, .int .i64 0, .slice none 0 0, .int .u32 0] 27)))
              have HZsaqa : Hid (Box (msaqa.alloc (.cells #[.int .i64 0, .int .i64 0, .int .i64 0, .int .i64 0, .slice none 0 0, .int .u32 0] 27)) msaqa.heap.size 27 zeroTA) := Lib.hid (Box.new _ _ _)
              refine wpAnyH_ready (rs := [9]) (by kernel_rfl) (by simp) ?_
              refine AllReadyH.cons rfl (fun K hK => ?_) AllReadyH.nil
              go_simp
              refine hK.out _ _ (HKeep.out _ HVsaqa2.out) (fun hHeld => ?_)
              clear hK K
              try simp only [Act.put, List.setIfInBounds_toArray, List.set_cons_zero, List.set_cons_succ]
              have hszsaqa : w.heap.size ≤ msaqa.heap.size := HVsaqa.out.1.size
              have hnesaqa0 : T ≠ msaqa.heap.size := by have := HVsaqa.out.2.1.lt; omega
              have hnesaqa1 : Tsa ≠ msaqa.heap.size := by have := HSsaqa.out.2.1.lt; omega
              have HVsaqa3 := Lib.hid (HVsaqa2.out.beside (cs' := #[.int .i64 d0, .int .i64 d1, .int .i64 d2, .int .i64 d3, .slice bsaqa de.length psaqa, .int .u32 dx]) HZsaqa.out hszsaqa hnesaqa0)
              have HSsaqa3 := Lib.hid (HSsaqa2.out.beside (cs' := #[.int .i64 d0, .int .i64 d1, .int .i64 d2, .int .i64 d3, .slice bsaqa de.length psaqa, .int .u32 dx]) HZsaqa.out hszsaqa hnesaqa1)
              have HVssaqa : Hid (Vr w ((msaqa.alloc (.cells #[.int .i64 0, .int .i64 0, .int .i64 0, .int .i64 0, .slice none 0 0, .int .u32 0] 27)).setRow msaqa.heap.size #[.int .i64 d0, .int .i64 d1, .int .i64 d2, .int .i64 d3, .slice bsaqa de.length psaqa, .int .u32 dx]) msaqa.heap.size ((d0, d1, d2, d3), de, dx) (.slice bsaqa de.length psaqa)) := Lib.hid ((Vr.fresh HVsaqa2.out.1 HZsaqa.out hszsaqa).put (t' := ((d0, d1, d2, d3), de, dx)) (HRsaqa2.out.low (by have := HV.out.1.size; show w.heap.size ≤ Xsa.heap.size; exact this)))
              refine wpAnyH_ready (rs := [10]) (by kernel_rfl) (by simp) ?_
              refine AllReadyH.cons rfl (fun K hK => ?_) AllReadyH.nil
              refine step_row _ (by rfl) 27 _ _ (by rfl) (by rfl) (msaqa.heap.size) #[.int .i64 d0, .int .i64 d1, .int .i64 d2, .int .i64 d3, .slice bsaqa de.length psaqa, .int .u32 dx] (by rfl) (by rfl) 27 _ HZsaqa.out (by kernel_rfl) rfl (by simp [Value.oneCell']) ?_
              refine hK.out _ _ (HKeep.out _ HVsaqa3.out) (fun hHeld => ?_)
              clear hK K
              try simp only [Act.put, List.setIfInBounds_toArray, List.set_cons_zero, List.set_cons_succ]
              refine wpAnyH_yield (i := 11) (v := ?vsaqa11) rfl rfl (by kernel_rfl) (by kernel_rfl) (by kernel_rfl) (fun _ _ _ h => h) (by rfl) ?hysaqa11 hHeld ?restsaqa11
              case hysaqa11 =>
                intro w hSw
                (try dsimp only at hSw)
                go_simp
                try with_reducible rfl
              simp only [Act.put, List.setIfInBounds_toArray, List.set_cons_zero, List.set_cons_succ]
              refine wpAnyH_done (by kernel_rfl) ?_ _
              replace HV := HVsaqa3
              replace HS := HSsaqa3
              clear HVsaqa HVsaqa2 HSsaqa HSsaqa2 HRsaqa HZsaqa Hbbsaqa hszsaqa hnesaqa0 hnesaqa1 HRsaqa2 HVsaqa3 HSsaqa3
              have HD9 := HVssaqa
              clear HVssaqa
              generalize hX : World.setRow (msaqa.alloc (.cells #[.int .i64 0, .int .i64 0, .int .i64 0, .int .i64 0, .slice none 0 0, .int .u32 0] 27)) (msaqa.heap.size) #[.int .i64 d0, .int .i64 d1, .int .i64 d2, .int .i64 d3, .slice bsaqa de.length psaqa, .int .u32 dx] = Xsaqa at *
              generalize hT1 : msaqa.heap.size = Tsaqa at *
              clear hX hT1
              clear hHeld HD9
              obtain ⟨k0, k1, k2, k3, k4, k5, k6⟩ := HKeep.out _ HV.out
              go_wp2_with fail
              exact ⟨⟨k + 1, te, _, by omega, by go_num, HVK, HV⟩, by simp [intOf]; omega⟩
            have HVsaqb0 := Lib.hid (HV.out.later (((Below.refl _ _).drew).trans (belowA Xsa.drew (.cells #[.int .i64 0, .int .i64 0, .int .i64 0, .int .i64 0, .slice none 0 0, .int .u32 0] 27))))
            have HSsaqb0 := Lib.hid (HS.out.later (((Below.refl _ _).drew).trans (belowA Xsa.drew (.cells #[.int .i64 0, .int .i64 0, .int .i64 0, .int .i64 0, .slice none 0 0, .int .u32 0] 27))))
            have HZsaqb0 : Hid (Box (Xsa.drew.alloc (.cells #[.int .i64 0, .int .i64 0, .int .i64 0, .int .i64 0, .slice none 0 0, .int .u32 0] 27)) Xsa.heap.size 27 zeroTA) := Lib.hid (Box.new _ _ _)
            refine AllReadyH.cons rfl (fun K hK => ?_) AllReadyH.nil
            go_simp
            refine hK.out _ _ (HKeep.out _ HVsaqb0.out) (fun hHeld => ?_)
            clear hK K
            try simp only [Act.put, List.setIfInBounds_toArray, List.set_cons_zero, List.set_cons_succ]
            refine wpAnyH_ready (rs := [5]) (by kernel_rfl) (by simp) ?_
            refine AllReadyH.cons rfl (fun K hK => ?_) AllReadyH.nil
            go_simp
            have csaqb := tdel_any (0, a0, a1, 0) b n p 0 te key (Xsa.drew.alloc (.cells #[.int .i64 0, .int .i64 0, .int .i64 0, .int .i64 0, .slice none 0 0, .int .u32 0] 27)) (HV.out.ents.below ((((Below.refl _ _).drew).trans (belowA Xsa.drew (.cells #[.int .i64 0, .int .i64 0, .int .i64 0, .int .i64 0, .slice none 0 0, .int .u32 0] 27))))) (may_few HVK.out.may) isW_zero
            rw [HDel.out] at csaqb
            refine csaqb.mono ?_
            rintro e msaqb ⟨u, rfl, hb, hr0⟩
            clear csaqb
            have HRsaqb : Hid (Row msaqb (Xsa.drew.alloc (.cells #[.int .i64 0, .int .i64 0, .int .i64 0, .int .i64 0, .slice none 0 0, .int .u32 0] 27)).heap.size u de) := Lib.hid hr0
            obtain ⟨bsaqb, psaqb, hu, _⟩ := HRsaqb.out.at
            subst hu
            clear hr0
            have Hbbsaqb := Lib.hid hb
            clear hb
            have HVsaqb := Lib.hid (HVsaqb0.out.later Hbbsaqb.out)
            have HSsaqb := Lib.hid (HSsaqb0.out.later Hbbsaqb.out)
            have HZsaqb := Lib.hid (HZsaqb0.out.later Hbbsaqb.out)
            go_wp2_with fail
            refine hK.out _ _ (HKeep.out _ HVsaqb.out) (fun hHeld => ?_)
            clear hK K
            try simp only [Act.put, List.setIfInBounds_toArray, List.set_cons_zero, List.set_cons_succ]
            refine wpAnyH_yield (i := 6) (v := ?vsaqb6) rfl rfl (by kernel_rfl) (by kernel_rfl) (by kernel_rfl) (fun _ _ _ h => h) (by rfl) ?hysaqb6 hHeld ?restsaqb6
            case hysaqb6 =>
              intro w hSw
              (try dsimp only at hSw)
              go_simp
              try with_reducible rfl
            simp only [Act.put, List.setIfInBounds_toArray, List.set_cons_zero, List.set_cons_succ]
            refine wpAnyH_yield (i := 7) (v := ?vsaqb7) rfl rfl (by kernel_rfl) (by kernel_rfl) (by kernel_rfl) (fun _ _ _ h => h) (by rfl) ?hysaqb7 hHeld ?restsaqb7
            case hysaqb7 =>
              intro w hSw
              (try dsimp only at hSw)
              go_simp
              try with_reducible rfl
            simp only [Act.put, List.setIfInBounds_toArray, List.set_cons_zero, List.set_cons_succ]
            refine wpAnyH_yield (i := 8) (v := ?vsaqb8) rfl rfl (by kernel_rfl) (by kernel_rfl) (by kernel_rfl) (fun _ _ _ h => h) (by rfl) ?hysaqb8 hHeld ?restsaqb8
            case hysaqb8 =>
              intro w hSw
              (try dsimp only at hSw)
              go_simp
              try with_reducible rfl
            simp only [Act.put, List.setIfInBounds_toArray, List.set_cons_zero, List.set_cons_succ]
            have hszsaqb : w.heap.size ≤ Xsa.heap.size := HV.out.1.size
            have hnesaqb0 : T ≠ Xsa.heap.size := by have := HV.out.2.1.lt; omega
            have hnesaqb1 : Tsa ≠ Xsa.heap.size := by have := HS.out.2.1.lt; omega
            have HVsaqb3 := Lib.hid (HVsaqb.out.beside (cs' := #[.int .i64 d0, .int .i64 d1, .int .i64 d2, .int .i64 d3, .slice bsaqb de.length psaqb, .int .u32 dx]) HZsaqb.out hszsaqb hnesaqb0)
            have HSsaqb3 := Lib.hid (HSsaqb.out.beside (cs' := #[.int .i64 d0, .int .i64 d1, .int .i64 d2, .int .i64 d3, .slice bsaqb de.length psaqb, .int .u32 dx]) HZsaqb.out hszsaqb hnesaqb1)
            have HVssaqb : Hid (Vr w (msaqb.setRow Xsa.heap.size #[.int .i64 d0, .int .i64 d1, .int .i64 d2, .int .i64 d3, .slice bsaqb de.length psaqb, .int .u32 dx]) Xsa.heap.size ((d0, d1, d2, d3), de, dx) (.slice bsaqb de.length psaqb)) := Lib.hid ((Vr.fresh HVsaqb.out.1 HZsaqb.out hszsaqb).put (t' := ((d0, d1, d2, d3), de, dx)) (HRsaqb.out.low (by have := HV.out.1.size; simp; omega)))
            refine wpAnyH_ready (rs := [10]) (by kernel_rfl) (by simp) ?_
            refine AllReadyH.cons rfl (fun K hK => ?_) AllReadyH.nil
            refine step_row _ (by rfl) 27 _ _ (by rfl) (by rfl) (Xsa.heap.size) #[.int .i64 d0, .int .i64 d1, .int .i64 d2, .int .i64 d3, .slice bsaqb de.length psaqb, .int .u32 dx] (by rfl) (by rfl) 27 _ HZsaqb.out (by kernel_rfl) rfl (by simp [Value.oneCell']) ?_
            refine hK.out _ _ (HKeep.out _ HVsaqb3.out) (fun hHeld => ?_)
            clear hK K
            try simp only [Act.put, List.setIfInBounds_toArray, List.set_cons_zero, List.set_cons_succ]
            refine wpAnyH_yield (i := 11) (v := ?vsaqb11) rfl rfl (by kernel_rfl) (by kernel_rfl) (by kernel_rfl) (fun _ _ _ h => h) (by rfl) ?hysaqb11 hHeld ?restsaqb11
            case hysaqb11 =>
              intro w hSw
              (try dsimp only at hSw)
              go_simp
              try with_reducible rfl
            simp only [Act.put, List.setIfInBounds_toArray, List.set_cons_zero, List.set_cons_succ]
            refine wpAnyH_done (by kernel_rfl) ?_ _
            replace HV := HVsaqb3
            replace HS := HSsaqb3
            clear HVsaqb0 HVsaqb HSsaqb0 HSsaqb HRsaqb HZsaqb Hbbsaqb hszsaqb hnesaqb0 hnesaqb1 HZsaqb0 HVsaqb3 HSsaqb3
            have HD9 := HVssaqb
            clear HVssaqb
            generalize hX : World.setRow msaqb (Xsa.heap.size) #[.int .i64 d0, .int .i64 d1, .int .i64 d2, .int .i64 d3, .slice bsaqb de.length psaqb, .int .u32 dx] = Xsaqb at *
            generalize hT1 : Xsa.heap.size = Tsaqb at *
            clear hX hT1
            clear hHeld HD9
            obtain ⟨k0, k1, k2, k3, k4, k5, k6⟩ := HKeep.out _ HV.out
            go_wp2_with fail
            exact ⟨⟨k + 1, te, _, by omega, by go_num, HVK, HV⟩, by simp [intOf]; omega⟩
          have HVsb0 := Lib.hid (HV.out.later (((Below.refl _ _).drew).trans (belowA wr.drew (.cells #[.int .i64 0, .int .i64 0, .int .i64 0, .int .i64 0, .slice none 0 0, .int .u32 0] 27))))
          have HZsb0 : Hid (Box (wr.drew.alloc (.cells #[.int .i64 0, .int .i64 0, .int .i64 0, .int .i64 0, .slice none 0 0, .int .u32 0] 27)) wr.heap.size 27 zeroTA) := Lib.hid (Box.new _ _ _)
          refine AllReadyH.cons rfl (fun K hK => ?_) AllReadyH.nil
          go_simp
          refine hK.out _ _ (HKeep.out _ HVsb0.out) (fun hHeld => ?_)
          clear hK K
          try simp only [Act.put, List.setIfInBounds_toArray, List.set_cons_zero, List.set_cons_succ]
          refine wpAnyH_ready (rs := [7]) (by kernel_rfl) (by simp) ?_
          refine AllReadyH.cons rfl (fun K hK => ?_) AllReadyH.nil
          go_simp
          have csb := tset_any (0, a0, a1, 0) b n p 0 te key 0 (k : Int) (wr.drew.alloc (.cells #[.int .i64 0, .int .i64 0, .int .i64 0, .int .i64 0, .slice none 0 0, .int .u32 0] 27)) (HV.out.ents.below ((((Below.refl _ _).drew).trans (belowA wr.drew (.cells #[.int .i64 0, .int .i64 0, .int .i64 0, .int .i64 0, .slice none 0 0, .int .u32 0] 27))))) (may_few HVK.out.may) isW_zero HKW.out isW_zero ⟨by omega, by omega⟩
          rw [HSet.out] at csb
          refine csb.mono ?_
          rintro e msb ⟨u, rfl, hb, hr0⟩
          clear csb
          have HRsb : Hid (Row msb (wr.drew.alloc (.cells #[.int .i64 0, .int .i64 0, .int .i64 0, .int .i64 0, .slice none 0 0, .int .u32 0] 27)).heap.size u ce) := Lib.hid hr0
          obtain ⟨bsb, psb, hu, _⟩ := HRsb.out.at
          subst hu
          clear hr0
          have Hbbsb := Lib.hid hb
          clear hb
          have HVsb := Lib.hid (HVsb0.out.later Hbbsb.out)
          have HZsb := Lib.hid (HZsb0.out.later Hbbsb.out)
          go_wp2_with fail
          refine hK.out _ _ (HKeep.out _ HVsb.out) (fun hHeld => ?_)
          clear hK K
          try simp only [Act.put, List.setIfInBounds_toArray, List.set_cons_zero, List.set_cons_succ]
          refine wpAnyH_yield (i := 8) (v := ?vsb8) rfl rfl (by kernel_rfl) (by kernel_rfl) (by kernel_rfl) (fun _ _ _ h => h) (by rfl) ?hysb8 hHeld ?restsb8
          case hysb8 =>
            intro w hSw
            (try dsimp only at hSw)
            go_simp
            try with_reducible rfl
          simp only [Act.put, List.setIfInBounds_toArray, List.set_cons_zero, List.set_cons_succ]
          refine wpAnyH_yield (i := 9) (v := ?vsb9) rfl rfl (by kernel_rfl) (by kernel_rfl) (by kernel_rfl) (fun _ _ _ h => h) (by rfl) ?hysb9 hHeld ?restsb9
          case hysb9 =>
            intro w hSw
            (try dsimp only at hSw)
            go_simp
            try with_reducible rfl
          simp only [Act.put, List.setIfInBounds_toArray, List.set_cons_zero, List.set_cons_succ]
          refine wpAnyH_yield (i := 10) (v := ?vsb10) rfl rfl (by kernel_rfl) (by kernel_rfl) (by kernel_rfl) (fun _ _ _ h => h) (by rfl) ?hysb10 hHeld ?restsb10
          case hysb10 =>
            intro w hSw
            (try dsimp only at hSw)
            go_simp
            try with_reducible rfl
          simp only [Act.put, List.setIfInBounds_toArray, List.set_cons_zero, List.set_cons_succ]
          have hszsb : w.heap.size ≤ wr.heap.size := HV.out.1.size
          have hnesb0 : T ≠ wr.heap.size := by have := HV.out.2.1.lt; omega
          have HVsb3 := Lib.hid (HVsb.out.beside (cs' := #[.int .i64 c0, .int .i64 c1, .int .i64 c2, .int .i64 c3, .slice bsb ce.length psb, .int .u32 cx]) HZsb.out hszsb hnesb0)
          have HVssb : Hid (Vr w (msb.setRow wr.heap.size #[.int .i64 c0, .int .i64 c1, .int .i64 c2, .int .i64 c3, .slice bsb ce.length psb, .int .u32 cx]) wr.heap.size ((c0, c1, c2, c3), ce, cx) (.slice bsb ce.length psb)) := Lib.hid ((Vr.fresh HVsb.out.1 HZsb.out hszsb).put (t' := ((c0, c1, c2, c3), ce, cx)) (HRsb.out.low (by have := HV.out.1.size; simp; omega)))
          refine wpAnyH_ready (rs := [12]) (by kernel_rfl) (by simp) ?_
          refine AllReadyH.cons rfl (fun K hK => ?_) AllReadyH.nil
          refine step_row _ (by rfl) 27 _ _ (by rfl) (by rfl) (wr.heap.size) #[.int .i64 c0, .int .i64 c1, .int .i64 c2, .int .i64 c3, .slice bsb ce.length psb, .int .u32 cx] (by rfl) (by rfl) 27 _ HZsb.out (by kernel_rfl) rfl (by simp [Value.oneCell']) ?_
          refine hK.out _ _ (HKeep.out _ HVsb3.out) (fun hHeld => ?_)
          clear hK K
          try simp only [Act.put, List.setIfInBounds_toArray, List.set_cons_zero, List.set_cons_succ]
          refine wpAnyH_yield (i := 13) (v := ?vsb13) rfl rfl (by kernel_rfl) (by kernel_rfl) (by kernel_rfl) (fun _ _ _ h => h) (by rfl) ?hysb13 hHeld ?restsb13
          case hysb13 =>
            intro w hSw
            (try dsimp only at hSw)
            go_simp
            try with_reducible rfl
          simp only [Act.put, List.setIfInBounds_toArray, List.set_cons_zero, List.set_cons_succ]
          refine wpAnyH_done (by kernel_rfl) ?_ _
          replace HV := HVsb3
          clear HVsb0 HVsb HRsb HZsb Hbbsb hszsb hnesb0 HZsb0 HVsb3
          have HS := HVssb
          clear HVssb
          generalize hX : World.setRow msb (wr.heap.size) #[.int .i64 c0, .int .i64 c1, .int .i64 c2, .int .i64 c3, .slice bsb ce.length psb, .int .u32 cx] = Xsb at *
          generalize hT1 : wr.heap.size = Tsb at *
          clear hX hT1
          clear hHeld
          go_wp2_with fail
          refine wp_region_held_drew (S := (fun w' => w'.cell? ⟨T, 0, none⟩ = some (.int .i64 0) ∧ w'.cell? ⟨T, 1, none⟩ = some (.int .i64 a0) ∧ w'.cell? ⟨T, 2, none⟩ = some (.int .i64 a1) ∧ w'.cell? ⟨T, 3, none⟩ = some (.int .i64 0) ∧ w'.cell? ⟨T, 4, none⟩ = some (.slice b n p) ∧ w'.cell? ⟨T, 5, none⟩ = some (.int .u32 0) ∧ w'.cell? (x.add k) = some (.int .u32 key))) (by kernel_rfl) (HKeep.out _ (HV.out.later ((Below.refl _ _).drew))) (fun hHeld => ?_)
          refine wpAnyH_yield (i := 0) (v := ?vsbq0) rfl rfl (by kernel_rfl) (by kernel_rfl) (by kernel_rfl) (fun _ _ _ h => h) (by rfl) ?hysbq0 hHeld ?restsbq0
          case hysbq0 =>
            intro w hSw
            (try dsimp only at hSw)
            go_simp
            try with_reducible rfl
          simp only [Act.put, List.setIfInBounds_toArray, List.set_cons_zero, List.set_cons_succ]
          refine wpAnyH_yield (i := 1) (v := ?vsbq1) rfl rfl (by kernel_rfl) (by kernel_rfl) (by kernel_rfl) (fun _ _ _ h => h) (by rfl) ?hysbq1 hHeld ?restsbq1
          case hysbq1 =>
            intro w hSw
            (try dsimp only at hSw)
            go_simp
            try with_reducible rfl
          simp only [Act.put, List.setIfInBounds_toArray, List.set_cons_zero, List.set_cons_succ]
          refine wpAnyH_yield (i := 2) (v := ?vsbq2) rfl rfl (by kernel_rfl) (by kernel_rfl) (by kernel_rfl) (fun _ _ _ h => h) (by rfl) ?hysbq2 hHeld ?restsbq2
          case hysbq2 =>
            intro w hSw
            (try dsimp only at hSw)
            go_simp
            try with_reducible rfl
          simp only [Act.put, List.setIfInBounds_toArray, List.set_cons_zero, List.set_cons_succ]
          refine wpAnyH_yield (i := 3) (v := ?vsbq3) rfl rfl (by kernel_rfl) (by kernel_rfl) (by kernel_rfl) (fun _ _ _ h => h) (by rfl) ?hysbq3 hHeld ?restsbq3
          case hysbq3 =>
            intro w hSw
            (try dsimp only at hSw)
            go_simp
            try with_reducible rfl
          simp only [Act.put, List.setIfInBounds_toArray, List.set_cons_zero, List.set_cons_succ]
          refine wpAnyH_yield (i := 4) (v := ?vsbq4) rfl rfl (by kernel_rfl) (by kernel_rfl) (by kernel_rfl) (fun _ _ _ h => h) (by rfl) ?hysbq4 hHeld ?restsbq4
          case hysbq4 =>
            intro w hSw
            (try dsimp only at hSw)
            go_simp
            try with_reducible rfl
          simp only [Act.put, List.setIfInBounds_toArray, List.set_cons_zero, List.set_cons_succ]
          refine wpAnyH_ready (rs := [5, 9]) (by kernel_rfl) (by simp) ?_
          refine AllReadyH.cons rfl (fun K hK => ?_) ?_
          · go_simp
            have csbqa := tdel_any (0, a0, a1, 0) b n p 0 te key Xsb.drew (HV.out.ents.below ((Below.refl _ _).drew)) (may_few HVK.out.may) isW_zero
            rw [HDel.out] at csbqa
            refine csbqa.mono ?_
            rintro e msbqa ⟨u, rfl, hb, hr0⟩
            clear csbqa
            have HRsbqa : Hid (Row msbqa Xsb.drew.heap.size u de) := Lib.hid hr0
            obtain ⟨bsbqa, psbqa, hu, _⟩ := HRsbqa.out.at
            subst hu
            clear hr0
            have Hbbsbqa := Lib.hid hb
            clear hb
            have HVsbqa := Lib.hid ((HV.out.later (((Below.refl _ _).drew).trans Hbbsbqa.out)))
            have HSsbqa := Lib.hid ((HS.out.later (((Below.refl _ _).drew).trans Hbbsbqa.out)))
            go_wp2_with fail
            refine hK.out _ _ (HKeep.out _ HVsbqa.out) (fun hHeld => ?_)
            clear hK K
            try simp only [Act.put, List.setIfInBounds_toArray, List.set_cons_zero, List.set_cons_succ]
            refine wpAnyH_yield (i := 6) (v := ?vsbqa6) rfl rfl (by kernel_rfl) (by kernel_rfl) (by kernel_rfl) (fun _ _ _ h => h) (by rfl) ?hysbqa6 hHeld ?restsbqa6
            case hysbqa6 =>
              intro w hSw
              (try dsimp only at hSw)
              go_simp
              try with_reducible rfl
            simp only [Act.put, List.setIfInBounds_toArray, List.set_cons_zero, List.set_cons_succ]
            refine wpAnyH_yield (i := 7) (v := ?vsbqa7) rfl rfl (by kernel_rfl) (by kernel_rfl) (by kernel_rfl) (fun _ _ _ h => h) (by rfl) ?hysbqa7 hHeld ?restsbqa7
            case hysbqa7 =>
              intro w hSw
              (try dsimp only at hSw)
              go_simp
              try with_reducible rfl
            simp only [Act.put, List.setIfInBounds_toArray, List.set_cons_zero, List.set_cons_succ]
            refine wpAnyH_yield (i := 8) (v := ?vsbqa8) rfl rfl (by kernel_rfl) (by kernel_rfl) (by kernel_rfl) (fun _ _ _ h => h) (by rfl) ?hysbqa8 hHeld ?restsbqa8
            case hysbqa8 =>
              intro w hSw
              (try dsimp only at hSw)
              go_simp
              try with_reducible rfl
            simp only [Act.put, List.setIfInBounds_toArray, List.set_cons_zero, List.set_cons_succ]
            have HVsbqa2 := Lib.hid (HVsbqa.out.later (belowA msbqa (.cells #[.int .i64 0, .int .i64 0, .int .i64 0, .int .i64 0, .slice none 0 0, .int .u32 0] 27)))
            have HSsbqa2 := Lib.hid (HSsbqa.out.later (belowA msbqa (.cells #[.int .i64 0, .int .i64 0, .int .i64 0, .int .i64 0, .slice none 0 0, .int .u32 0] 27)))
            have HRsbqa2 := Lib.hid (HRsbqa.out.below (belowA msbqa (.cells #[.int .i64 0, .int .i64 0, .int .i64 0, .int .i64 0, .slice none 0 0, .int .u32 0] 27)))
            have HZsbqa : Hid (Box (msbqa.alloc (.cells #[.int .i64 0, .int .i64 0, .int .i64 0, .int .i64 0, .slice none 0 0, .int .u32 0] 27)) msbqa.heap.size 27 zeroTA) := Lib.hid (Box.new _ _ _)
            refine wpAnyH_ready (rs := [9]) (by kernel_rfl) (by simp) ?_
            refine AllReadyH.cons rfl (fun K hK => ?_) AllReadyH.nil
            go_simp
            refine hK.out _ _ (HKeep.out _ HVsbqa2.out) (fun hHeld => ?_)
            clear hK K
            try simp only [Act.put, List.setIfInBounds_toArray, List.set_cons_zero, List.set_cons_succ]
            have hszsbqa : w.heap.size ≤ msbqa.heap.size := HVsbqa.out.1.size
            have hnesbqa0 : T ≠ msbqa.heap.size := by have := HVsbqa.out.2.1.lt; omega
            have hnesbqa1 : Tsb ≠ msbqa.heap.size := by have := HSsbqa.out.2.1.lt; omega
            have HVsbqa3 := Lib.hid (HVsbqa2.out.beside (cs' := #[.int .i64 d0, .int .i64 d1, .int .i64 d2, .int .i64 d3, .slice bsbqa de.length psbqa, .int .u32 dx]) HZsbqa.out hszsbqa hnesbqa0)
            have HSsbqa3 := Lib.hid (HSsbqa2.out.beside (cs' := #[.int .i64 d0, .int .i64 d1, .int .i64 d2, .int .i64 d3, .slice bsbqa de.length psbqa, .int .u32 dx]) HZsbqa.out hszsbqa hnesbqa1)
            have HVssbqa : Hid (Vr w ((msbqa.alloc (.cells #[.int .i64 0, .int .i64 0, .int .i64 0, .int .i64 0, .slice none 0 0, .int .u32 0] 27)).setRow msbqa.heap.size #[.int .i64 d0, .int .i64 d1, .int .i64 d2, .int .i64 d3, .slice bsbqa de.length psbqa, .int .u32 dx]) msbqa.heap.size ((d0, d1, d2, d3), de, dx) (.slice bsbqa de.length psbqa)) := Lib.hid ((Vr.fresh HVsbqa2.out.1 HZsbqa.out hszsbqa).put (t' := ((d0, d1, d2, d3), de, dx)) (HRsbqa2.out.low (by have := HV.out.1.size; show w.heap.size ≤ Xsb.heap.size; exact this)))
            refine wpAnyH_ready (rs := [10]) (by kernel_rfl) (by simp) ?_
            refine AllReadyH.cons rfl (fun K hK => ?_) AllReadyH.nil
            refine step_row _ (by rfl) 27 _ _ (by rfl) (by rfl) (msbqa.heap.size) #[.int .i64 d0, .int .i64 d1, .int .i64 d2, .int .i64 d3, .slice bsbqa de.length psbqa, .int .u32 dx] (by rfl) (by rfl) 27 _ HZsbqa.out (by kernel_rfl) rfl (by simp [Value.oneCell']) ?_
            refine hK.out _ _ (HKeep.out _ HVsbqa3.out) (fun hHeld => ?_)
            clear hK K
            try simp only [Act.put, List.setIfInBounds_toArray, List.set_cons_zero, List.set_cons_succ]
            refine wpAnyH_yield (i := 11) (v := ?vsbqa11) rfl rfl (by kernel_rfl) (by kernel_rfl) (by kernel_rfl) (fun _ _ _ h => h) (by rfl) ?hysbqa11 hHeld ?restsbqa11
            case hysbqa11 =>
              intro w hSw
              (try dsimp only at hSw)
              go_simp
              try with_reducible rfl
            simp only [Act.put, List.setIfInBounds_toArray, List.set_cons_zero, List.set_cons_succ]
            refine wpAnyH_done (by kernel_rfl) ?_ _
            replace HV := HVsbqa3
            replace HS := HSsbqa3
            clear HVsbqa HVsbqa2 HSsbqa HSsbqa2 HRsbqa HZsbqa Hbbsbqa hszsbqa hnesbqa0 hnesbqa1 HRsbqa2 HVsbqa3 HSsbqa3
            have HD9 := HVssbqa
            clear HVssbqa
            generalize hX : World.setRow (msbqa.alloc (.cells #[.int .i64 0, .int .i64 0, .int .i64 0, .int .i64 0, .slice none 0 0, .int .u32 0] 27)) (msbqa.heap.size) #[.int .i64 d0, .int .i64 d1, .int .i64 d2, .int .i64 d3, .slice bsbqa de.length psbqa, .int .u32 dx] = Xsbqa at *
            generalize hT1 : msbqa.heap.size = Tsbqa at *
            clear hX hT1
            clear hHeld HD9
            obtain ⟨k0, k1, k2, k3, k4, k5, k6⟩ := HKeep.out _ HV.out
            go_wp2_with fail
            exact ⟨⟨k + 1, te, _, by omega, by go_num, HVK, HV⟩, by simp [intOf]; omega⟩
          have HVsbqb0 := Lib.hid (HV.out.later (((Below.refl _ _).drew).trans (belowA Xsb.drew (.cells #[.int .i64 0, .int .i64 0, .int .i64 0, .int .i64 0, .slice none 0 0, .int .u32 0] 27))))
          have HSsbqb0 := Lib.hid (HS.out.later (((Below.refl _ _).drew).trans (belowA Xsb.drew (.cells #[.int .i64 0, .int .i64 0, .int .i64 0, .int .i64 0, .slice none 0 0, .int .u32 0] 27))))
          have HZsbqb0 : Hid (Box (Xsb.drew.alloc (.cells #[.int .i64 0, .int .i64 0, .int .i64 0, .int .i64 0, .slice none 0 0, .int .u32 0] 27)) Xsb.heap.size 27 zeroTA) := Lib.hid (Box.new _ _ _)
          refine AllReadyH.cons rfl (fun K hK => ?_) AllReadyH.nil
          go_simp
          refine hK.out _ _ (HKeep.out _ HVsbqb0.out) (fun hHeld => ?_)
          clear hK K
          try simp only [Act.put, List.setIfInBounds_toArray, List.set_cons_zero, List.set_cons_succ]
          refine wpAnyH_ready (rs := [5]) (by kernel_rfl) (by simp) ?_
          refine AllReadyH.cons rfl (fun K hK => ?_) AllReadyH.nil
          go_simp
          have csbqb := tdel_any (0, a0, a1, 0) b n p 0 te key (Xsb.drew.alloc (.cells #[.int .i64 0, .int .i64 0, .int .i64 0, .int .i64 0, .slice none 0 0, .int .u32 0] 27)) (HV.out.ents.below ((((Below.refl _ _).drew).trans (belowA Xsb.drew (.cells #[.int .i64 0, .int .i64 0, .int .i64 0, .int .i64 0, .slice none 0 0, .int .u32 0] 27))))) (may_few HVK.out.may) isW_zero
          rw [HDel.out] at csbqb
          refine csbqb.mono ?_
          rintro e msbqb ⟨u, rfl, hb, hr0⟩
          clear csbqb
          have HRsbqb : Hid (Row msbqb (Xsb.drew.alloc (.cells #[.int .i64 0, .int .i64 0, .int .i64 0, .int .i64 0, .slice none 0 0, .int .u32 0] 27)).heap.size u de) := Lib.hid hr0
          obtain ⟨bsbqb, psbqb, hu, _⟩ := HRsbqb.out.at
          subst hu
          clear hr0
          have Hbbsbqb := Lib.hid hb
          clear hb
          have HVsbqb := Lib.hid (HVsbqb0.out.later Hbbsbqb.out)
          have HSsbqb := Lib.hid (HSsbqb0.out.later Hbbsbqb.out)
          have HZsbqb := Lib.hid (HZsbqb0.out.later Hbbsbqb.out)
          go_wp2_with fail
          refine hK.out _ _ (HKeep.out _ HVsbqb.out) (fun hHeld => ?_)
          clear hK K
          try simp only [Act.put, List.setIfInBounds_toArray, List.set_cons_zero, List.set_cons_succ]
          refine wpAnyH_yield (i := 6) (v := ?vsbqb6) rfl rfl (by kernel_rfl) (by kernel_rfl) (by kernel_rfl) (fun _ _ _ h => h) (by rfl) ?hysbqb6 hHeld ?restsbqb6
          case hysbqb6 =>
            intro w hSw
            (try dsimp only at hSw)
            go_simp
            try with_reducible rfl
          simp only [Act.put, List.setIfInBounds_toArray, List.set_cons_zero, List.set_cons_succ]
          refine wpAnyH_yield (i := 7) (v := ?vsbqb7) rfl rfl (by kernel_rfl) (by kernel_rfl) (by kernel_rfl) (fun _ _ _ h => h) (by rfl) ?hysbqb7 hHeld ?restsbqb7
          case hysbqb7 =>
            intro w hSw
            (try dsimp only at hSw)
            go_simp
            try with_reducible rfl
          simp only [Act.put, List.setIfInBounds_toArray, List.set_cons_zero, List.set_cons_succ]
          refine wpAnyH_yield (i := 8) (v := ?vsbqb8) rfl rfl (by kernel_rfl) (by kernel_rfl) (by kernel_rfl) (fun _ _ _ h => h) (by rfl) ?hysbqb8 hHeld ?restsbqb8
          case hysbqb8 =>
            intro w hSw
            (try dsimp only at hSw)
            go_simp
            try with_reducible rfl
          simp only [Act.put, List.setIfInBounds_toArray, List.set_cons_zero, List.set_cons_succ]
          have hszsbqb : w.heap.size ≤ Xsb.heap.size := HV.out.1.size
          have hnesbqb0 : T ≠ Xsb.heap.size := by have := HV.out.2.1.lt; omega
          have hnesbqb1 : Tsb ≠ Xsb.heap.size := by have := HS.out.2.1.lt; omega
          have HVsbqb3 := Lib.hid (HVsbqb.out.beside (cs' := #[.int .i64 d0, .int .i64 d1, .int .i64 d2, .int .i64 d3, .slice bsbqb de.length psbqb, .int .u32 dx]) HZsbqb.out hszsbqb hnesbqb0)
          have HSsbqb3 := Lib.hid (HSsbqb.out.beside (cs' := #[.int .i64 d0, .int .i64 d1, .int .i64 d2, .int .i64 d3, .slice bsbqb de.length psbqb, .int .u32 dx]) HZsbqb.out hszsbqb hnesbqb1)
          have HVssbqb : Hid (Vr w (msbqb.setRow Xsb.heap.size #[.int .i64 d0, .int .i64 d1, .int .i64 d2, .int .i64 d3, .slice bsbqb de.length psbqb, .int .u32 dx]) Xsb.heap.size ((d0, d1, d2, d3), de, dx) (.slice bsbqb de.length psbqb)) := Lib.hid ((Vr.fresh HVsbqb.out.1 HZsbqb.out hszsbqb).put (t' := ((d0, d1, d2, d3), de, dx)) (HRsbqb.out.low (by have := HV.out.1.size; simp; omega)))
          refine wpAnyH_ready (rs := [10]) (by kernel_rfl) (by simp) ?_
          refine AllReadyH.cons rfl (fun K hK => ?_) AllReadyH.nil
          refine step_row _ (by rfl) 27 _ _ (by rfl) (by rfl) (Xsb.heap.size) #[.int .i64 d0, .int .i64 d1, .int .i64 d2, .int .i64 d3, .slice bsbqb de.length psbqb, .int .u32 dx] (by rfl) (by rfl) 27 _ HZsbqb.out (by kernel_rfl) rfl (by simp [Value.oneCell']) ?_
          refine hK.out _ _ (HKeep.out _ HVsbqb3.out) (fun hHeld => ?_)
          clear hK K
          try simp only [Act.put, List.setIfInBounds_toArray, List.set_cons_zero, List.set_cons_succ]
          refine wpAnyH_yield (i := 11) (v := ?vsbqb11) rfl rfl (by kernel_rfl) (by kernel_rfl) (by kernel_rfl) (fun _ _ _ h => h) (by rfl) ?hysbqb11 hHeld ?restsbqb11
          case hysbqb11 =>
            intro w hSw
            (try dsimp only at hSw)
            go_simp
            try with_reducible rfl
          simp only [Act.put, List.setIfInBounds_toArray, List.set_cons_zero, List.set_cons_succ]
          refine wpAnyH_done (by kernel_rfl) ?_ _
          replace HV := HVsbqb3
          replace HS := HSsbqb3
          clear HVsbqb0 HVsbqb HSsbqb0 HSsbqb HRsbqb HZsbqb Hbbsbqb hszsbqb hnesbqb0 hnesbqb1 HZsbqb0 HVsbqb3 HSsbqb3
          have HD9 := HVssbqb
          clear HVssbqb
          generalize hX : World.setRow msbqb (Xsb.heap.size) #[.int .i64 d0, .int .i64 d1, .int .i64 d2, .int .i64 d3, .slice bsbqb de.length psbqb, .int .u32 dx] = Xsbqb at *
          generalize hT1 : Xsb.heap.size = Tsbqb at *
          clear hX hT1
          clear hHeld HD9
          obtain ⟨k0, k1, k2, k3, k4, k5, k6⟩ := HKeep.out _ HV.out
          go_wp2_with fail
          exact ⟨⟨k + 1, te, _, by omega, by go_num, HVK, HV⟩, by simp [intOf]; omega⟩
      · have hkI : ¬ (k : Int) < (len2 : Int) := by omega
        have hal : (te.length : Int) = a0 := array_len HVK.out rfl
        have hnl : ((n : Int) == a0) = true := by have := HNn.out; simp; omega
        obtain ⟨k0, k1, k2, k3, k4, k5⟩ := Box.tb (s := (0, a0, a1, 0)) HV.out.2.1
        simp only at k0 k1 k2 k3 k4 k5
        clear hal
        go_wp2_with fail
        have c9 := tmay_any (0, a0, a1, 0) b n p 0 te wr HV.out.ents isW_zero
        rw [HVK.out.may] at c9
        refine c9.mono ?_
        rintro e m9 ⟨rfl, hb9⟩
        have HZ9 := Lib.hid (HV.out.1.trans (hb9.mono HV.out.1.size))
        clear c9 hb9 k0 k1 k2 k3 k4 k5
        go_wp2_with fail
        go_ret
        exact ⟨rfl, HZ9.out⟩


theorem own : ownKnob Try.prog.godebug = none := by kernel_rfl
theorem laidOut : laidOutB Try.prog = true := by kernel_rfl
set_option maxRecDepth 100000 in
theorem lifted (os : Os) (started : os.Started) (H : Type) (enc : TypeId × Value → H) :
    ReturnsInHanded {} Try.checked os 9 .any (Rows.tableArraySpec.pre6 enc Try.prog Try.f9 Rows.tableArrayRow.domain false) (Rows.tableArraySpec.post enc Try.prog Try.f9 false true false false) := by
  refine returnsInHanded_of_change (C := Try.checked) own started (by kernel_rfl) Try.func9
    (ChangeSpec.witness6 (enc := enc) (C := Try.checked) false ⟨#[], #[.int .i64 0, .int .i64 0, .slice none 0 0], []⟩ 8 (by kernel_rfl) (by kernel_rfl) (by kernel_rfl) (by kernel_rfl)) ?_
  intro W base args ds gs before hval0 hW hcnd _
  have hval : ∀ (j : Nat) t v, Try.f9.params[j]? = some t → args[j]? = some v → Value.okWide Try.prog W .any base t v := hval0
  have hW' := hW
  obtain ⟨p, q, hA0, hV, rfl, hfz, hnd⟩ := hW
  have hA : DataW.TrodAll enc Try.prog W 0 (fun _ => true) true Try.f9.params.toList args.toList ds p := hA0
  rw [Try.params9] at hA hval
  obtain ⟨u0, vs0, e0, ds0, p0, q0, hargs, rfl, rfl, h0, t0⟩ := trodAll_cons hA
  obtain ⟨u1, vs1, e1, ds1, p1, q1, rfl, rfl, rfl, h1, t1⟩ := trodAll_cons t0
  obtain ⟨u2, vs2, e2, ds2, p2, q2, rfl, rfl, rfl, h2, t2⟩ := trodAll_cons t1
  obtain ⟨rfl, rfl, rfl⟩ := trodAll_nil t2
  obtain rfl : args = #[u0, u1, u2] := by cases args; simp_all
  obtain ⟨rfl, rfl⟩ := trodVars_none hV
  have y0 := h0
  have lt0 : ∀ x ∈ p0, x.block < W.heap.size := by obtain ⟨m, hm⟩ := y0; exact DataW.trod_lt m _ _ _ hm
  have y1 := h1
  have lt1 : ∀ x ∈ p1, x.block < W.heap.size := by obtain ⟨m, hm⟩ := y1; exact DataW.trod_lt m _ _ _ hm
  have y2 := h2
  have lt2 : ∀ x ∈ p2, x.block < W.heap.size := by obtain ⟨m, hm⟩ := y2; exact DataW.trod_lt m _ _ _ hm
  obtain ⟨a0, rfl, _, _, w0⟩ := open_int Try.underlying3 (hval 0 3 u0 rfl rfl) h0
  obtain ⟨a1, rfl, _, _, w1⟩ := open_int Try.underlying3 (hval 1 3 u1 rfl rfl) h1
  obtain ⟨a2, len2, cap2, z2, rfl, w2⟩ := open_words (hval 2 45 u2 rfl rfl) h2
  clear hA0 hval0
  refine (walk a0 w0 a1 w1 a2 len2 cap2 z2 W w2).mono fun e W' ⟨he, bel⟩ => ?_
  subst he
  exact ⟨_, rfl, _, _, _, [], _, [], hW', trodAll_mk1 (shut_bool Try.underlying4 _), (trodAll_cons_mk (Below.trod laidOut (by kernel_rfl) (of_decide_eq_true (by kernel_rfl)) y0 bel lt0) (trodAll_cons_mk (Below.trod laidOut (by kernel_rfl) (of_decide_eq_true (by kernel_rfl)) y1 bel lt1) (trodAll_cons_mk (Below.trod laidOut (by kernel_rfl) (of_decide_eq_true (by kernel_rfl)) y2 bel lt2) trodAll_mk0))), rfl, bel.frame _, fun h => by cases h⟩

theorem over : Rows.tableArrayRow.holds Try.pinned (OpenSpec.ofChange Rows.tableArraySpec) :=
  OpenClaim.holds_of_wide 9 Try.f9 rfl rfl rfl rfl rfl rfl rfl ⟨rfl, rfl, rfl, rfl, rfl⟩ rfl rfl rfl rfl rfl (by kernel_rfl) Try.func9 (by kernel_rfl)
    (of_decide_eq_true (by kernel_rfl)) (by unfold Func.isWrapper; first | (rw [if_pos (by decide +kernel)]; kernel_rfl) | (rw [if_neg (by decide +kernel)]; exact ⟨rfl, rfl⟩))
    (fun os started H enc _ => lifted os started H enc)

theorem proved : Rows.TableArraySaid := over
#print axioms proved
end Go.Proofs.Ytlbmgablkphioaa.tableArray
