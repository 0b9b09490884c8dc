/-
  What is pushed is popped, in order, as many as there is room for; no key is there.
  Conditions: none.
-/
import Derived.Test.YtlbmgablkphioaaRows
import Derived.Test.YtlbmgablkphioaaX2
import Derived.Test.YtlbmgablkphioaaPL4
import Derived.WalkKit
import Derived.ProofKit
import Derived.OpenShut
import Derived.ChangeOld
import Derived.Below
namespace Go.Proofs.Ytlbmgablkphioaa.tableRing
open Go.ChangeShapes Go.WideShapes Go.ChangeAt Go.RowKit
set_option linter.unusedVariables false

set_option maxRecDepth 100000 in
set_option maxHeartbeats 8000000 in
theorem walk (a0 : Int) (w0 : (Lit.int .i64 a0).wf = true) (a1 : Option Addr) (len1 cap1 : Nat) (z1 : List Int) (w : World) (w1 : WordsAt w a1 len1 cap1 z1) :
    Calls Try.prog 6 #[.int .i64 a0, .slice a1 len1 cap1] w fun e w' => e = .returned (.bool true) ∧ Below w.heap.size w w' := by
  have HWd := Lib.hid w1
  have hlm := w1.max
  clear w0 w1
  go_enter Try.func6, Try.ntmps6
  go_wp2_with fail
  refine (awake_any w).mono ?_
  rintro e m1 ⟨rfl, hb1⟩
  have HB := Lib.hid hb1
  clear hb1
  by_cases h40 : 40 < len1
  · have h40I : (40 : Int) < (len1 : Int) := by omega
    go_wp2_with fail
    go_ret
    exact ⟨rfl, HB.out⟩
  have h40I : ¬ (40 : Int) < (len1 : Int) := by omega
  go_wp2_with fail
  have c2 := tnew_any 3 a0 1 0 m1
  rcases hmay : mayT (3, a0, 1, 0) with _ | _
  · rw [show newT (3, a0, 1, 0) = zeroT by rw [newT, hmay]; rfl, show newE (3, a0, 1, 0) = 1 by rw [newE, hmay]; rfl] at c2
    refine c2.mono ?_
    rintro e m2 ⟨u, rfl, hb, hr0⟩
    clear c2
    have hr : Row m2 _ u [] := hr0
    obtain ⟨jb2, jp2, hu, hE⟩ := hr.at
    subst hu
    replace HB := Lib.hid (HB.out.trans (hb.mono HB.out.size))
    clear hr hr0 hE hb
    have hout : a0 < 1 ∨ ¬ a0 < 1 ∧ 16 < a0 := by
      by_cases h1 : a0 < 1
      · exact Or.inl h1
      · by_cases h2 : 16 < a0
        · exact Or.inr ⟨h1, h2⟩
        · rw [ring_mayT' (by omega) (by omega)] at hmay
          cases hmay
    clear hmay
    rcases hout with h1 | ⟨h1, h2⟩
    · go_wp2_with fail
      go_ret
      exact ⟨rfl, HB.out.alloc HB.out.size _⟩
    · go_wp2_with fail
      go_ret
      exact ⟨rfl, HB.out.alloc HB.out.size _⟩
  rw [show newT (3, a0, 1, 0) = ((3, a0, 1, 0), [], 0) by rw [newT, hmay]; rfl, show newE (3, a0, 1, 0) = 0 by rw [newE, hmay]; rfl] at c2
  have HM := Lib.hid hmay
  have hm2 := ring_mayT hmay
  obtain ⟨nc, hnc⟩ : ∃ nc : Nat, a0 = (nc : Int) := ⟨a0.toNat, by omega⟩
  have hnc1 : 1 ≤ nc := by omega
  have hnc16 : nc ≤ 16 := by omega
  have HNc := Lib.hid hnc
  clear hmay hnc hm2
  refine c2.mono ?_
  rintro e m2 ⟨u, rfl, hb, hr0⟩
  clear c2
  have hr : Row m2 _ u [] := hr0
  obtain ⟨jb2, jp2, hu, hE⟩ := hr.at
  subst hu
  clear hE
  have HV : Hid (Vr w (m2.alloc (.cells #[.int .i64 3, .int .i64 a0, .int .i64 1, .int .i64 0, .slice jb2 0 jp2, .int .u32 0] 27)) m2.heap.size ((3, a0, 1, 0), [], 0) (.slice jb2 0 jp2)) := Lib.hid (Vr.new (t := ((3, a0, 1, 0), [], 0)) (HB.out.trans (hb.mono HB.out.size)) hr HB.out.size)
  clear hr hr0 hb HB
  have hz : ((0 : Int) != 0) = false := by simp
  go_wp2_with fail
  clear hz
  generalize hW1 : m2.alloc (.cells #[.int .i64 3, .int .i64 a0, .int .i64 1, .int .i64 0, .slice jb2 0 jp2, .int .u32 0] 27) = W1 at *
  generalize hT : m2.heap.size = T at *
  clear hW1 hT
  go_loopw [8, 9] (fun nn i wr => ∃ (k n : Nat) (te : List Ent) (x : Int) (V : Value), k ≤ len1 ∧ n ≤ nc ∧ nn = .int .i64 n ∧ i = .int .i64 k ∧ Hid (te = ringE z1 0 n ∧ x = (n : Int) ∧ (n = k ∨ n = nc ∧ nc ≤ k)) ∧ Hid (Vr w wr T ((3, a0, 1, 0), te, x) V)) (fun _ i _ => len1 - (intOf i).toNat)
  case atStart => exact ⟨0, 0, [], 0, _, by omega, by omega, rfl, rfl, Lib.hid ⟨rfl, rfl, Or.inl rfl⟩, HV⟩
  case round =>
    obtain ⟨k, n, te, x, V, hk, hnn, rfl, rfl, HTE, HV2⟩ := hrel
    clear HV
    have HV := HV2
    clear HV2
    obtain ⟨b, p, hq, hE⟩ := HV.out.at
    obtain ⟨tn, htn⟩ : ∃ tn, te.length = tn := ⟨_, rfl⟩
    simp only [htn] at hq hE
    subst hq
    have HNn := Lib.hid htn
    clear htn hE
    have HFE : Hid (fewE te) := Lib.hid (by
      have := ring_may (l := z1) HM.out (a := 0) (n := n) (by omega) (by omega) (by have := HNc.out; omega)
      rw [HTE.out.1]
      exact may_few this)
    have HXW : Hid (isW x) := Lib.hid (by rw [HTE.out.2.1]; exact ⟨by omega, by omega⟩)
    by_cases hkl : k < len1
    · have hkI : (k : Int) < (len1 : Int) := by omega
      obtain ⟨y, rfl, hx1⟩ := HWd.out.2.2.2.2.resolve_left (by omega)
      have hkey : isW (z1.getD k 0) := wordL_getD HWd.out.2.2.2.1 k
      have hc := hx1 k hkl
      obtain ⟨key, hkeq⟩ : ∃ key, z1.getD k 0 = key := ⟨_, rfl⟩
      rw [hkeq] at hc hkey
      have HKW := Lib.hid hkey
      have HKE := Lib.hid hkeq
      have HKeep : Hid (∀ w', Vr w w' T ((3, a0, 1, 0), te, x) (.slice b tn p) → w'.cell? ⟨T, 0, none⟩ = some (.int .i64 3) ∧ w'.cell? ⟨T, 1, none⟩ = some (.int .i64 a0) ∧ w'.cell? ⟨T, 2, none⟩ = some (.int .i64 1) ∧ w'.cell? ⟨T, 3, none⟩ = some (.int .i64 0) ∧ w'.cell? ⟨T, 4, none⟩ = some (.slice b tn p) ∧ w'.cell? ⟨T, 5, none⟩ = some (.int .u32 x) ∧ w'.cell? (y.add k) = some (.int .u32 key)) := Lib.hid (fun w' h => by
        obtain ⟨k0, k1, k2, k3, k4, k5⟩ := Box.tb (s := (3, a0, 1, 0)) h.2.1
        exact ⟨k0, k1, k2, k3, k4, k5, (h.1.cell (lt_of_cell hc)).trans hc⟩)
      clear hc hkey hkeq hx1
      rcases hg : pushT ((3, a0, 1, 0), te, x) key with ⟨⟨⟨c0, c1, c2, c3⟩, ce, cx⟩, cr⟩
      by_cases hlt : n < nc
      · have hp : pushT ((3, a0, 1, 0), te, x) key = (((3, a0, 1, 0), ringE z1 0 (n + 1), ((n + 1 : Nat) : Int)), 0) := by
          have h1 := ring_push (l := z1) HM.out (n := n) (by have := HNc.out; omega)
          have h2 := HTE.out
          have h3 : n = k := by omega
          rw [← HKE.out, ← h3, h2.1, h2.2.1]
          exact h1
        rw [hg] at hp
        simp only [Prod.mk.injEq] at hp
        obtain ⟨⟨⟨e0, e1, e2, e3⟩, e4, e5⟩, e6⟩ := hp
        replace e1 := e1.symm
        subst e0 e1 e2 e3 e6
        have HCE := Lib.hid (And.intro e4 e5)
        have HPu := Lib.hid hg
        clear hg e4 e5
        obtain ⟨k0, k1, k2, k3, k4, k5, k6⟩ := HKeep.out _ HV.out
        go_wp2_with fail
        clear k0 k1 k2 k3 k4 k5 k6
        refine wp_region_held_drew (S := (fun w' => w'.cell? ⟨T, 0, none⟩ = some (.int .i64 3) ∧ w'.cell? ⟨T, 1, none⟩ = some (.int .i64 a0) ∧ w'.cell? ⟨T, 2, none⟩ = some (.int .i64 1) ∧ w'.cell? ⟨T, 3, none⟩ = some (.int .i64 0) ∧ w'.cell? ⟨T, 4, none⟩ = some (.slice b tn p) ∧ w'.cell? ⟨T, 5, none⟩ = some (.int .u32 x) ∧ w'.cell? (y.add k) = some (.int .u32 key))) (by kernel_rfl) (HKeep.out _ (HV.out.later ((Below.refl _ _).drew))) (fun hHeld => ?_)
        refine wpAnyH_yield (i := 0) (v := ?vr0) rfl rfl (by kernel_rfl) (by kernel_rfl) (by kernel_rfl) (fun _ _ _ h => h) (by rfl) ?hyr0 hHeld ?restr0
        case hyr0 =>
          intro w hSw
          (try dsimp only at hSw)
          go_simp
          try with_reducible rfl
        simp only [Act.put, List.setIfInBounds_toArray, List.set_cons_zero, List.set_cons_succ]
        refine wpAnyH_yield (i := 1) (v := ?vr1) rfl rfl (by kernel_rfl) (by kernel_rfl) (by kernel_rfl) (fun _ _ _ h => h) (by rfl) ?hyr1 hHeld ?restr1
        case hyr1 =>
          intro w hSw
          (try dsimp only at hSw)
          go_simp
          try with_reducible rfl
        simp only [Act.put, List.setIfInBounds_toArray, List.set_cons_zero, List.set_cons_succ]
        refine wpAnyH_yield (i := 2) (v := ?vr2) rfl rfl (by kernel_rfl) (by kernel_rfl) (by kernel_rfl) (fun _ _ _ h => h) (by rfl) ?hyr2 hHeld ?restr2
        case hyr2 =>
          intro w hSw
          (try dsimp only at hSw)
          go_simp
          try with_reducible rfl
        simp only [Act.put, List.setIfInBounds_toArray, List.set_cons_zero, List.set_cons_succ]
        refine wpAnyH_yield (i := 3) (v := ?vr3) rfl rfl (by kernel_rfl) (by kernel_rfl) (by kernel_rfl) (fun _ _ _ h => h) (by rfl) ?hyr3 hHeld ?restr3
        case hyr3 =>
          intro w hSw
          (try dsimp only at hSw)
          go_simp
          try with_reducible rfl
        simp only [Act.put, List.setIfInBounds_toArray, List.set_cons_zero, List.set_cons_succ]
        refine wpAnyH_yield (i := 4) (v := ?vr4) rfl rfl (by kernel_rfl) (by kernel_rfl) (by kernel_rfl) (fun _ _ _ h => h) (by rfl) ?hyr4 hHeld ?restr4
        case hyr4 =>
          intro w hSw
          (try dsimp only at hSw)
          go_simp
          try with_reducible rfl
        simp only [Act.put, List.setIfInBounds_toArray, List.set_cons_zero, List.set_cons_succ]
        refine wpAnyH_ready (rs := [5, 9]) (by kernel_rfl) (by simp) ?_
        refine AllReadyH.cons rfl (fun K hK => ?_) ?_
        · go_simp
          have cra := tpush_any (3, a0, 1, 0) b tn p x te key wr.drew (HV.out.ents.below ((Below.refl _ _).drew)) HFE.out HXW.out HKW.out
          rw [HPu.out] at cra
          refine cra.mono ?_
          rintro e mra ⟨u, rfl, hb, hr0⟩
          clear cra
          have HRra : Hid (Row mra wr.drew.heap.size u ce) := Lib.hid hr0
          obtain ⟨bra, pra, hu, _⟩ := HRra.out.at
          subst hu
          clear hr0
          have Hbbra := Lib.hid hb
          clear hb
          have HVra := Lib.hid ((HV.out.later (((Below.refl _ _).drew).trans Hbbra.out)))
          go_wp2_with fail
          refine hK.out _ _ (HKeep.out _ HVra.out) (fun hHeld => ?_)
          clear hK K
          try simp only [Act.put, List.setIfInBounds_toArray, List.set_cons_zero, List.set_cons_succ]
          refine wpAnyH_yield (i := 6) (v := ?vra6) rfl rfl (by kernel_rfl) (by kernel_rfl) (by kernel_rfl) (fun _ _ _ h => h) (by rfl) ?hyra6 hHeld ?restra6
          case hyra6 =>
            intro w hSw
            (try dsimp only at hSw)
            go_simp
            try with_reducible rfl
          simp only [Act.put, List.setIfInBounds_toArray, List.set_cons_zero, List.set_cons_succ]
          refine wpAnyH_yield (i := 7) (v := ?vra7) rfl rfl (by kernel_rfl) (by kernel_rfl) (by kernel_rfl) (fun _ _ _ h => h) (by rfl) ?hyra7 hHeld ?restra7
          case hyra7 =>
            intro w hSw
            (try dsimp only at hSw)
            go_simp
            try with_reducible rfl
          simp only [Act.put, List.setIfInBounds_toArray, List.set_cons_zero, List.set_cons_succ]
          refine wpAnyH_yield (i := 8) (v := ?vra8) rfl rfl (by kernel_rfl) (by kernel_rfl) (by kernel_rfl) (fun _ _ _ h => h) (by rfl) ?hyra8 hHeld ?restra8
          case hyra8 =>
            intro w hSw
            (try dsimp only at hSw)
            go_simp
            try with_reducible rfl
          simp only [Act.put, List.setIfInBounds_toArray, List.set_cons_zero, List.set_cons_succ]
          have HVra2 := Lib.hid (HVra.out.later (belowA mra (.cells #[.int .i64 0, .int .i64 0, .int .i64 0, .int .i64 0, .slice none 0 0, .int .u32 0] 27)))
          have HRra2 := Lib.hid (HRra.out.below (belowA mra (.cells #[.int .i64 0, .int .i64 0, .int .i64 0, .int .i64 0, .slice none 0 0, .int .u32 0] 27)))
          have HZra : Hid (Box (mra.alloc (.cells #[.int .i64 0, .int .i64 0, .int .i64 0, .int .i64 0, .slice none 0 0, .int .u32 0] 27)) mra.heap.size 27 zeroTA) := Lib.hid (Box.new _ _ _)
          refine wpAnyH_ready (rs := [9]) (by kernel_rfl) (by simp) ?_
          refine AllReadyH.cons rfl (fun K hK => ?_) AllReadyH.nil
          go_simp
          refine hK.out _ _ (HKeep.out _ HVra2.out) (fun hHeld => ?_)
          clear hK K
          try simp only [Act.put, List.setIfInBounds_toArray, List.set_cons_zero, List.set_cons_succ]
          have hszra : w.heap.size ≤ mra.heap.size := HVra.out.1.size
          have hnera0 : T ≠ mra.heap.size := by have := HVra.out.2.1.lt; omega
          have HVra3 := Lib.hid (HVra2.out.beside (cs' := #[.int .i64 3, .int .i64 a0, .int .i64 1, .int .i64 0, .slice bra ce.length pra, .int .u32 cx]) HZra.out hszra hnera0)
          have HVsra : Hid (Vr w ((mra.alloc (.cells #[.int .i64 0, .int .i64 0, .int .i64 0, .int .i64 0, .slice none 0 0, .int .u32 0] 27)).setRow mra.heap.size #[.int .i64 3, .int .i64 a0, .int .i64 1, .int .i64 0, .slice bra ce.length pra, .int .u32 cx]) mra.heap.size ((3, a0, 1, 0), ce, cx) (.slice bra ce.length pra)) := Lib.hid ((Vr.fresh HVra2.out.1 HZra.out hszra).put (t' := ((3, a0, 1, 0), ce, cx)) (HRra2.out.low (by have := HV.out.1.size; show w.heap.size ≤ wr.heap.size; exact this)))
          refine wpAnyH_ready (rs := [10]) (by kernel_rfl) (by simp) ?_
          refine AllReadyH.cons rfl (fun K hK => ?_) AllReadyH.nil
          refine step_row _ (by rfl) 27 _ _ (by rfl) (by rfl) (mra.heap.size) #[.int .i64 3, .int .i64 a0, .int .i64 1, .int .i64 0, .slice bra ce.length pra, .int .u32 cx] (by rfl) (by rfl) 27 _ HZra.out (by kernel_rfl) rfl (by simp [Value.oneCell']) ?_
          refine hK.out _ _ (HKeep.out _ HVra3.out) (fun hHeld => ?_)
          clear hK K
          try simp only [Act.put, List.setIfInBounds_toArray, List.set_cons_zero, List.set_cons_succ]
          refine wpAnyH_yield (i := 11) (v := ?vra11) rfl rfl (by kernel_rfl) (by kernel_rfl) (by kernel_rfl) (fun _ _ _ h => h) (by rfl) ?hyra11 hHeld ?restra11
          case hyra11 =>
            intro w hSw
            (try dsimp only at hSw)
            go_simp
            try with_reducible rfl
          simp only [Act.put, List.setIfInBounds_toArray, List.set_cons_zero, List.set_cons_succ]
          refine wpAnyH_done (by kernel_rfl) ?_ _
          replace HV := HVra3
          clear HVra HVra2 HRra HZra Hbbra hszra hnera0 HRra2 HVra3
          have HS := HVsra
          clear HVsra
          generalize hX : World.setRow (mra.alloc (.cells #[.int .i64 0, .int .i64 0, .int .i64 0, .int .i64 0, .slice none 0 0, .int .u32 0] 27)) (mra.heap.size) #[.int .i64 3, .int .i64 a0, .int .i64 1, .int .i64 0, .slice bra ce.length pra, .int .u32 cx] = Xra at *
          generalize hT1 : mra.heap.size = Tra at *
          clear hX hT1
          clear hHeld
          obtain ⟨k0, k1, k2, k3, k4, k5, k6⟩ := HKeep.out _ HV.out
          obtain ⟨q0, q1, q2, q3, q4, q5⟩ := Box.tb (s := (3, a0, 1, 0)) HS.out.2.1
          simp only at q0 q1 q2 q3 q4 q5
          have HBx := Lib.hid HV.out.2.1
          have HVn := Lib.hid (HV.out.put (t' := ((3, a0, 1, 0), ce, cx)) HS.out.2.2.1)
          go_wp2_with (refine wpList_store_row rfl 27 _ _ rfl T _ rfl rfl 27 _ HBx.out (by kernel_rfl) rfl (by simp [Value.oneCell']) ?_)
          exact ⟨⟨k + 1, n + 1, ce, cx, _, by omega, by omega, by go_num, by go_num, Lib.hid ⟨HCE.out.1, HCE.out.2, by have := HTE.out.2.2; omega⟩, HVn⟩, by simp [intOf]; omega⟩
        have HVrb0 := Lib.hid (HV.out.later (((Below.refl _ _).drew).trans (belowA wr.drew (.cells #[.int .i64 0, .int .i64 0, .int .i64 0, .int .i64 0, .slice none 0 0, .int .u32 0] 27))))
        have HZrb0 : Hid (Box (wr.drew.alloc (.cells #[.int .i64 0, .int .i64 0, .int .i64 0, .int .i64 0, .slice none 0 0, .int .u32 0] 27)) wr.heap.size 27 zeroTA) := Lib.hid (Box.new _ _ _)
        refine AllReadyH.cons rfl (fun K hK => ?_) AllReadyH.nil
        go_simp
        refine hK.out _ _ (HKeep.out _ HVrb0.out) (fun hHeld => ?_)
        clear hK K
        try simp only [Act.put, List.setIfInBounds_toArray, List.set_cons_zero, List.set_cons_succ]
        refine wpAnyH_ready (rs := [5]) (by kernel_rfl) (by simp) ?_
        refine AllReadyH.cons rfl (fun K hK => ?_) AllReadyH.nil
        go_simp
        have crb := tpush_any (3, a0, 1, 0) b tn p x te key (wr.drew.alloc (.cells #[.int .i64 0, .int .i64 0, .int .i64 0, .int .i64 0, .slice none 0 0, .int .u32 0] 27)) (HV.out.ents.below ((((Below.refl _ _).drew).trans (belowA wr.drew (.cells #[.int .i64 0, .int .i64 0, .int .i64 0, .int .i64 0, .slice none 0 0, .int .u32 0] 27))))) HFE.out HXW.out HKW.out
        rw [HPu.out] at crb
        refine crb.mono ?_
        rintro e mrb ⟨u, rfl, hb, hr0⟩
        clear crb
        have HRrb : Hid (Row mrb (wr.drew.alloc (.cells #[.int .i64 0, .int .i64 0, .int .i64 0, .int .i64 0, .slice none 0 0, .int .u32 0] 27)).heap.size u ce) := Lib.hid hr0
        obtain ⟨brb, prb, hu, _⟩ := HRrb.out.at
        subst hu
        clear hr0
        have Hbbrb := Lib.hid hb
        clear hb
        have HVrb := Lib.hid (HVrb0.out.later Hbbrb.out)
        have HZrb := Lib.hid (HZrb0.out.later Hbbrb.out)
        go_wp2_with fail
        refine hK.out _ _ (HKeep.out _ HVrb.out) (fun hHeld => ?_)
        clear hK K
        try simp only [Act.put, List.setIfInBounds_toArray, List.set_cons_zero, List.set_cons_succ]
        refine wpAnyH_yield (i := 6) (v := ?vrb6) rfl rfl (by kernel_rfl) (by kernel_rfl) (by kernel_rfl) (fun _ _ _ h => h) (by rfl) ?hyrb6 hHeld ?restrb6
        case hyrb6 =>
          intro w hSw
          (try dsimp only at hSw)
          go_simp
          try with_reducible rfl
        simp only [Act.put, List.setIfInBounds_toArray, List.set_cons_zero, List.set_cons_succ]
        refine wpAnyH_yield (i := 7) (v := ?vrb7) rfl rfl (by kernel_rfl) (by kernel_rfl) (by kernel_rfl) (fun _ _ _ h => h) (by rfl) ?hyrb7 hHeld ?restrb7
        case hyrb7 =>
          intro w hSw
          (try dsimp only at hSw)
          go_simp
          try with_reducible rfl
        simp only [Act.put, List.setIfInBounds_toArray, List.set_cons_zero, List.set_cons_succ]
        refine wpAnyH_yield (i := 8) (v := ?vrb8) rfl rfl (by kernel_rfl) (by kernel_rfl) (by kernel_rfl) (fun _ _ _ h => h) (by rfl) ?hyrb8 hHeld ?restrb8
        case hyrb8 =>
          intro w hSw
          (try dsimp only at hSw)
          go_simp
          try with_reducible rfl
        simp only [Act.put, List.setIfInBounds_toArray, List.set_cons_zero, List.set_cons_succ]
        have hszrb : w.heap.size ≤ wr.heap.size := HV.out.1.size
        have hnerb0 : T ≠ wr.heap.size := by have := HV.out.2.1.lt; omega
        have HVrb3 := Lib.hid (HVrb.out.beside (cs' := #[.int .i64 3, .int .i64 a0, .int .i64 1, .int .i64 0, .slice brb ce.length prb, .int .u32 cx]) HZrb.out hszrb hnerb0)
        have HVsrb : Hid (Vr w (mrb.setRow wr.heap.size #[.int .i64 3, .int .i64 a0, .int .i64 1, .int .i64 0, .slice brb ce.length prb, .int .u32 cx]) wr.heap.size ((3, a0, 1, 0), ce, cx) (.slice brb ce.length prb)) := Lib.hid ((Vr.fresh HVrb.out.1 HZrb.out hszrb).put (t' := ((3, a0, 1, 0), ce, cx)) (HRrb.out.low (by have := HV.out.1.size; simp; omega)))
        refine wpAnyH_ready (rs := [10]) (by kernel_rfl) (by simp) ?_
        refine AllReadyH.cons rfl (fun K hK => ?_) AllReadyH.nil
        refine step_row _ (by rfl) 27 _ _ (by rfl) (by rfl) (wr.heap.size) #[.int .i64 3, .int .i64 a0, .int .i64 1, .int .i64 0, .slice brb ce.length prb, .int .u32 cx] (by rfl) (by rfl) 27 _ HZrb.out (by kernel_rfl) rfl (by simp [Value.oneCell']) ?_
        refine hK.out _ _ (HKeep.out _ HVrb3.out) (fun hHeld => ?_)
        clear hK K
        try simp only [Act.put, List.setIfInBounds_toArray, List.set_cons_zero, List.set_cons_succ]
        refine wpAnyH_yield (i := 11) (v := ?vrb11) rfl rfl (by kernel_rfl) (by kernel_rfl) (by kernel_rfl) (fun _ _ _ h => h) (by rfl) ?hyrb11 hHeld ?restrb11
        case hyrb11 =>
          intro w hSw
          (try dsimp only at hSw)
          go_simp
          try with_reducible rfl
        simp only [Act.put, List.setIfInBounds_toArray, List.set_cons_zero, List.set_cons_succ]
        refine wpAnyH_done (by kernel_rfl) ?_ _
        replace HV := HVrb3
        clear HVrb0 HVrb HRrb HZrb Hbbrb hszrb hnerb0 HZrb0 HVrb3
        have HS := HVsrb
        clear HVsrb
        generalize hX : World.setRow mrb (wr.heap.size) #[.int .i64 3, .int .i64 a0, .int .i64 1, .int .i64 0, .slice brb ce.length prb, .int .u32 cx] = Xrb at *
        generalize hT1 : wr.heap.size = Trb at *
        clear hX hT1
        clear hHeld
        obtain ⟨k0, k1, k2, k3, k4, k5, k6⟩ := HKeep.out _ HV.out
        obtain ⟨q0, q1, q2, q3, q4, q5⟩ := Box.tb (s := (3, a0, 1, 0)) HS.out.2.1
        simp only at q0 q1 q2 q3 q4 q5
        have HBx := Lib.hid HV.out.2.1
        have HVn := Lib.hid (HV.out.put (t' := ((3, a0, 1, 0), ce, cx)) HS.out.2.2.1)
        go_wp2_with (refine wpList_store_row rfl 27 _ _ rfl T _ rfl rfl 27 _ HBx.out (by kernel_rfl) rfl (by simp [Value.oneCell']) ?_)
        exact ⟨⟨k + 1, n + 1, ce, cx, _, by omega, by omega, by go_num, by go_num, Lib.hid ⟨HCE.out.1, HCE.out.2, by have := HTE.out.2.2; omega⟩, HVn⟩, by simp [intOf]; omega⟩
      · have hp : pushT ((3, a0, 1, 0), te, x) key = (zeroT, 4) := by
          have h2 := HTE.out
          rw [h2.1, h2.2.1]
          exact ring_full (l := z1) HM.out (n := n) (by have := HNc.out; omega) key
        have hcr : cr = 4 := by rw [hg] at hp; exact congrArg (fun q => q.2) hp
        clear hp
        subst hcr
        have HPu := Lib.hid hg
        clear hg
        have hkn : ¬ (k : Int) < a0 := by have := HTE.out.2.2; have := HNc.out; omega
        obtain ⟨k0, k1, k2, k3, k4, k5, k6⟩ := HKeep.out _ HV.out
        go_wp2_with fail
        clear k0 k1 k2 k3 k4 k5 k6
        refine wp_region_held_drew (S := (fun w' => w'.cell? ⟨T, 0, none⟩ = some (.int .i64 3) ∧ w'.cell? ⟨T, 1, none⟩ = some (.int .i64 a0) ∧ w'.cell? ⟨T, 2, none⟩ = some (.int .i64 1) ∧ w'.cell? ⟨T, 3, none⟩ = some (.int .i64 0) ∧ w'.cell? ⟨T, 4, none⟩ = some (.slice b tn p) ∧ w'.cell? ⟨T, 5, none⟩ = some (.int .u32 x) ∧ w'.cell? (y.add k) = some (.int .u32 key))) (by kernel_rfl) (HKeep.out _ (HV.out.later ((Below.refl _ _).drew))) (fun hHeld => ?_)
        refine wpAnyH_yield (i := 0) (v := ?vs0) rfl rfl (by kernel_rfl) (by kernel_rfl) (by kernel_rfl) (fun _ _ _ h => h) (by rfl) ?hys0 hHeld ?rests0
        case hys0 =>
          intro w hSw
          (try dsimp only at hSw)
          go_simp
          try with_reducible rfl
        simp only [Act.put, List.setIfInBounds_toArray, List.set_cons_zero, List.set_cons_succ]
        refine wpAnyH_yield (i := 1) (v := ?vs1) rfl rfl (by kernel_rfl) (by kernel_rfl) (by kernel_rfl) (fun _ _ _ h => h) (by rfl) ?hys1 hHeld ?rests1
        case hys1 =>
          intro w hSw
          (try dsimp only at hSw)
          go_simp
          try with_reducible rfl
        simp only [Act.put, List.setIfInBounds_toArray, List.set_cons_zero, List.set_cons_succ]
        refine wpAnyH_yield (i := 2) (v := ?vs2) rfl rfl (by kernel_rfl) (by kernel_rfl) (by kernel_rfl) (fun _ _ _ h => h) (by rfl) ?hys2 hHeld ?rests2
        case hys2 =>
          intro w hSw
          (try dsimp only at hSw)
          go_simp
          try with_reducible rfl
        simp only [Act.put, List.setIfInBounds_toArray, List.set_cons_zero, List.set_cons_succ]
        refine wpAnyH_yield (i := 3) (v := ?vs3) rfl rfl (by kernel_rfl) (by kernel_rfl) (by kernel_rfl) (fun _ _ _ h => h) (by rfl) ?hys3 hHeld ?rests3
        case hys3 =>
          intro w hSw
          (try dsimp only at hSw)
          go_simp
          try with_reducible rfl
        simp only [Act.put, List.setIfInBounds_toArray, List.set_cons_zero, List.set_cons_succ]
        refine wpAnyH_yield (i := 4) (v := ?vs4) rfl rfl (by kernel_rfl) (by kernel_rfl) (by kernel_rfl) (fun _ _ _ h => h) (by rfl) ?hys4 hHeld ?rests4
        case hys4 =>
          intro w hSw
          (try dsimp only at hSw)
          go_simp
          try with_reducible rfl
        simp only [Act.put, List.setIfInBounds_toArray, List.set_cons_zero, List.set_cons_succ]
        refine wpAnyH_ready (rs := [5, 9]) (by kernel_rfl) (by simp) ?_
        refine AllReadyH.cons rfl (fun K hK => ?_) ?_
        · go_simp
          have csa := tpush_any (3, a0, 1, 0) b tn p x te key wr.drew (HV.out.ents.below ((Below.refl _ _).drew)) HFE.out HXW.out HKW.out
          rw [HPu.out] at csa
          refine csa.mono ?_
          rintro e msa ⟨u, rfl, hb, hr0⟩
          clear csa
          have HRsa : Hid (Row msa wr.drew.heap.size u ce) := Lib.hid hr0
          obtain ⟨bsa, psa, hu, _⟩ := HRsa.out.at
          subst hu
          clear hr0
          have Hbbsa := Lib.hid hb
          clear hb
          have HVsa := Lib.hid ((HV.out.later (((Below.refl _ _).drew).trans Hbbsa.out)))
          go_wp2_with fail
          refine hK.out _ _ (HKeep.out _ HVsa.out) (fun hHeld => ?_)
          clear hK K
          try simp only [Act.put, List.setIfInBounds_toArray, List.set_cons_zero, List.set_cons_succ]
          refine wpAnyH_yield (i := 6) (v := ?vsa6) rfl rfl (by kernel_rfl) (by kernel_rfl) (by kernel_rfl) (fun _ _ _ h => h) (by rfl) ?hysa6 hHeld ?restsa6
          case hysa6 =>
            intro w hSw
            (try dsimp only at hSw)
            go_simp
            try with_reducible rfl
          simp only [Act.put, List.setIfInBounds_toArray, List.set_cons_zero, List.set_cons_succ]
          refine wpAnyH_yield (i := 7) (v := ?vsa7) rfl rfl (by kernel_rfl) (by kernel_rfl) (by kernel_rfl) (fun _ _ _ h => h) (by rfl) ?hysa7 hHeld ?restsa7
          case hysa7 =>
            intro w hSw
            (try dsimp only at hSw)
            go_simp
            try with_reducible rfl
          simp only [Act.put, List.setIfInBounds_toArray, List.set_cons_zero, List.set_cons_succ]
          refine wpAnyH_yield (i := 8) (v := ?vsa8) rfl rfl (by kernel_rfl) (by kernel_rfl) (by kernel_rfl) (fun _ _ _ h => h) (by rfl) ?hysa8 hHeld ?restsa8
          case hysa8 =>
            intro w hSw
            (try dsimp only at hSw)
            go_simp
            try with_reducible rfl
          simp only [Act.put, List.setIfInBounds_toArray, List.set_cons_zero, List.set_cons_succ]
          have HVsa2 := Lib.hid (HVsa.out.later (belowA msa (.cells #[.int .i64 0, .int .i64 0, .int .i64 0, .int .i64 0, .slice none 0 0, .int .u32 0] 27)))
          have HRsa2 := Lib.hid (HRsa.out.below (belowA msa (.cells #[.int .i64 0, .int .i64 0, .int .i64 0, .int .i64 0, .slice none 0 0, .int .u32 0] 27)))
          have HZsa : Hid (Box (msa.alloc (.cells #[.int .i64 0, .int .i64 0, .int .i64 0, .int .i64 0, .slice none 0 0, .int .u32 0] 27)) msa.heap.size 27 zeroTA) := Lib.hid (Box.new _ _ _)
          refine wpAnyH_ready (rs := [9]) (by kernel_rfl) (by simp) ?_
          refine AllReadyH.cons rfl (fun K hK => ?_) AllReadyH.nil
          go_simp
          refine hK.out _ _ (HKeep.out _ HVsa2.out) (fun hHeld => ?_)
          clear hK K
          try simp only [Act.put, List.setIfInBounds_toArray, List.set_cons_zero, List.set_cons_succ]
          have hszsa : w.heap.size ≤ msa.heap.size := HVsa.out.1.size
          have hnesa0 : T ≠ msa.heap.size := by have := HVsa.out.2.1.lt; omega
          have HVsa3 := Lib.hid (HVsa2.out.beside (cs' := #[.int .i64 c0, .int .i64 c1, .int .i64 c2, .int .i64 c3, .slice bsa ce.length psa, .int .u32 cx]) HZsa.out hszsa hnesa0)
          have HVssa : Hid (Vr w ((msa.alloc (.cells #[.int .i64 0, .int .i64 0, .int .i64 0, .int .i64 0, .slice none 0 0, .int .u32 0] 27)).setRow msa.heap.size #[.int .i64 c0, .int .i64 c1, .int .i64 c2, .int .i64 c3, .slice bsa ce.length psa, .int .u32 cx]) msa.heap.size ((c0, c1, c2, c3), ce, cx) (.slice bsa ce.length psa)) := Lib.hid ((Vr.fresh HVsa2.out.1 HZsa.out hszsa).put (t' := ((c0, c1, c2, c3), ce, cx)) (HRsa2.out.low (by have := HV.out.1.size; show w.heap.size ≤ wr.heap.size; exact this)))
          refine wpAnyH_ready (rs := [10]) (by kernel_rfl) (by simp) ?_
          refine AllReadyH.cons rfl (fun K hK => ?_) AllReadyH.nil
          refine step_row _ (by rfl) 27 _ _ (by rfl) (by rfl) (msa.heap.size) #[.int .i64 c0, .int .i64 c1, .int .i64 c2, .int .i64 c3, .slice bsa ce.length psa, .int .u32 cx] (by rfl) (by rfl) 27 _ HZsa.out (by kernel_rfl) rfl (by simp [Value.oneCell']) ?_
          refine hK.out _ _ (HKeep.out _ HVsa3.out) (fun hHeld => ?_)
          clear hK K
          try simp only [Act.put, List.setIfInBounds_toArray, List.set_cons_zero, List.set_cons_succ]
          refine wpAnyH_yield (i := 11) (v := ?vsa11) rfl rfl (by kernel_rfl) (by kernel_rfl) (by kernel_rfl) (fun _ _ _ h => h) (by rfl) ?hysa11 hHeld ?restsa11
          case hysa11 =>
            intro w hSw
            (try dsimp only at hSw)
            go_simp
            try with_reducible rfl
          simp only [Act.put, List.setIfInBounds_toArray, List.set_cons_zero, List.set_cons_succ]
          refine wpAnyH_done (by kernel_rfl) ?_ _
          replace HV := HVsa3
          clear HVsa HVsa2 HRsa HZsa Hbbsa hszsa hnesa0 HRsa2 HVsa3
          have HS := HVssa
          clear HVssa
          generalize hX : World.setRow (msa.alloc (.cells #[.int .i64 0, .int .i64 0, .int .i64 0, .int .i64 0, .slice none 0 0, .int .u32 0] 27)) (msa.heap.size) #[.int .i64 c0, .int .i64 c1, .int .i64 c2, .int .i64 c3, .slice bsa ce.length psa, .int .u32 cx] = Xsa at *
          generalize hT1 : msa.heap.size = Tsa at *
          clear hX hT1
          clear hHeld
          obtain ⟨k0, k1, k2, k3, k4, k5, k6⟩ := HKeep.out _ HV.out
          go_wp2_with fail
          exact ⟨⟨k + 1, n, te, x, _, by omega, hnn, rfl, by go_num, Lib.hid ⟨HTE.out.1, HTE.out.2.1, by have := HTE.out.2.2; omega⟩, HV⟩, by simp [intOf]; omega⟩
        have HVsb0 := Lib.hid (HV.out.later (((Below.refl _ _).drew).trans (belowA wr.drew (.cells #[.int .i64 0, .int .i64 0, .int .i64 0, .int .i64 0, .slice none 0 0, .int .u32 0] 27))))
        have HZsb0 : Hid (Box (wr.drew.alloc (.cells #[.int .i64 0, .int .i64 0, .int .i64 0, .int .i64 0, .slice none 0 0, .int .u32 0] 27)) wr.heap.size 27 zeroTA) := Lib.hid (Box.new _ _ _)
        refine AllReadyH.cons rfl (fun K hK => ?_) AllReadyH.nil
        go_simp
        refine hK.out _ _ (HKeep.out _ HVsb0.out) (fun hHeld => ?_)
        clear hK K
        try simp only [Act.put, List.setIfInBounds_toArray, List.set_cons_zero, List.set_cons_succ]
        refine wpAnyH_ready (rs := [5]) (by kernel_rfl) (by simp) ?_
        refine AllReadyH.cons rfl (fun K hK => ?_) AllReadyH.nil
        go_simp
        have csb := tpush_any (3, a0, 1, 0) b tn p x te key (wr.drew.alloc (.cells #[.int .i64 0, .int .i64 0, .int .i64 0, .int .i64 0, .slice none 0 0, .int .u32 0] 27)) (HV.out.ents.below ((((Below.refl _ _).drew).trans (belowA wr.drew (.cells #[.int .i64 0, .int .i64 0, .int .i64 0, .int .i64 0, .slice none 0 0, .int .u32 0] 27))))) HFE.out HXW.out HKW.out
        rw [HPu.out] at csb
        refine csb.mono ?_
        rintro e msb ⟨u, rfl, hb, hr0⟩
        clear csb
        have HRsb : Hid (Row msb (wr.drew.alloc (.cells #[.int .i64 0, .int .i64 0, .int .i64 0, .int .i64 0, .slice none 0 0, .int .u32 0] 27)).heap.size u ce) := Lib.hid hr0
        obtain ⟨bsb, psb, hu, _⟩ := HRsb.out.at
        subst hu
        clear hr0
        have Hbbsb := Lib.hid hb
        clear hb
        have HVsb := Lib.hid (HVsb0.out.later Hbbsb.out)
        have HZsb := Lib.hid (HZsb0.out.later Hbbsb.out)
        go_wp2_with fail
        refine hK.out _ _ (HKeep.out _ HVsb.out) (fun hHeld => ?_)
        clear hK K
        try simp only [Act.put, List.setIfInBounds_toArray, List.set_cons_zero, List.set_cons_succ]
        refine wpAnyH_yield (i := 6) (v := ?vsb6) rfl rfl (by kernel_rfl) (by kernel_rfl) (by kernel_rfl) (fun _ _ _ h => h) (by rfl) ?hysb6 hHeld ?restsb6
        case hysb6 =>
          intro w hSw
          (try dsimp only at hSw)
          go_simp
          try with_reducible rfl
        simp only [Act.put, List.setIfInBounds_toArray, List.set_cons_zero, List.set_cons_succ]
        refine wpAnyH_yield (i := 7) (v := ?vsb7) rfl rfl (by kernel_rfl) (by kernel_rfl) (by kernel_rfl) (fun _ _ _ h => h) (by rfl) ?hysb7 hHeld ?restsb7
        case hysb7 =>
          intro w hSw
          (try dsimp only at hSw)
          go_simp
          try with_reducible rfl
        simp only [Act.put, List.setIfInBounds_toArray, List.set_cons_zero, List.set_cons_succ]
        refine wpAnyH_yield (i := 8) (v := ?vsb8) rfl rfl (by kernel_rfl) (by kernel_rfl) (by kernel_rfl) (fun _ _ _ h => h) (by rfl) ?hysb8 hHeld ?restsb8
        case hysb8 =>
          intro w hSw
          (try dsimp only at hSw)
          go_simp
          try with_reducible rfl
        simp only [Act.put, List.setIfInBounds_toArray, List.set_cons_zero, List.set_cons_succ]
        have hszsb : w.heap.size ≤ wr.heap.size := HV.out.1.size
        have hnesb0 : T ≠ wr.heap.size := by have := HV.out.2.1.lt; omega
        have HVsb3 := Lib.hid (HVsb.out.beside (cs' := #[.int .i64 c0, .int .i64 c1, .int .i64 c2, .int .i64 c3, .slice bsb ce.length psb, .int .u32 cx]) HZsb.out hszsb hnesb0)
        have HVssb : Hid (Vr w (msb.setRow wr.heap.size #[.int .i64 c0, .int .i64 c1, .int .i64 c2, .int .i64 c3, .slice bsb ce.length psb, .int .u32 cx]) wr.heap.size ((c0, c1, c2, c3), ce, cx) (.slice bsb ce.length psb)) := Lib.hid ((Vr.fresh HVsb.out.1 HZsb.out hszsb).put (t' := ((c0, c1, c2, c3), ce, cx)) (HRsb.out.low (by have := HV.out.1.size; simp; omega)))
        refine wpAnyH_ready (rs := [10]) (by kernel_rfl) (by simp) ?_
        refine AllReadyH.cons rfl (fun K hK => ?_) AllReadyH.nil
        refine step_row _ (by rfl) 27 _ _ (by rfl) (by rfl) (wr.heap.size) #[.int .i64 c0, .int .i64 c1, .int .i64 c2, .int .i64 c3, .slice bsb ce.length psb, .int .u32 cx] (by rfl) (by rfl) 27 _ HZsb.out (by kernel_rfl) rfl (by simp [Value.oneCell']) ?_
        refine hK.out _ _ (HKeep.out _ HVsb3.out) (fun hHeld => ?_)
        clear hK K
        try simp only [Act.put, List.setIfInBounds_toArray, List.set_cons_zero, List.set_cons_succ]
        refine wpAnyH_yield (i := 11) (v := ?vsb11) rfl rfl (by kernel_rfl) (by kernel_rfl) (by kernel_rfl) (fun _ _ _ h => h) (by rfl) ?hysb11 hHeld ?restsb11
        case hysb11 =>
          intro w hSw
          (try dsimp only at hSw)
          go_simp
          try with_reducible rfl
        simp only [Act.put, List.setIfInBounds_toArray, List.set_cons_zero, List.set_cons_succ]
        refine wpAnyH_done (by kernel_rfl) ?_ _
        replace HV := HVsb3
        clear HVsb0 HVsb HRsb HZsb Hbbsb hszsb hnesb0 HZsb0 HVsb3
        have HS := HVssb
        clear HVssb
        generalize hX : World.setRow msb (wr.heap.size) #[.int .i64 c0, .int .i64 c1, .int .i64 c2, .int .i64 c3, .slice bsb ce.length psb, .int .u32 cx] = Xsb at *
        generalize hT1 : wr.heap.size = Tsb at *
        clear hX hT1
        clear hHeld
        obtain ⟨k0, k1, k2, k3, k4, k5, k6⟩ := HKeep.out _ HV.out
        go_wp2_with fail
        exact ⟨⟨k + 1, n, te, x, _, by omega, hnn, rfl, by go_num, Lib.hid ⟨HTE.out.1, HTE.out.2.1, by have := HTE.out.2.2; omega⟩, HV⟩, by simp [intOf]; omega⟩
    · have hkI : ¬ (k : Int) < (len1 : Int) := by omega
      have hnl : (n : Int) ≤ a0 := by have := HNc.out; omega
      have hnk : n = len1 ∨ n = nc ∧ nc ≤ len1 := by have := HTE.out.2.2; omega
      have hnle : n ≤ len1 := by omega
      go_wp2_with fail
      clear hkI hkl hk
      go_loopw [12] (fun i wr => ∃ (k : Nat) (te : List Ent) (V : Value), k ≤ n ∧ i = .int .i64 k ∧ Hid (te = ringE z1 k n) ∧ Hid (Vr w wr T ((3, a0, 1, 0), te, x) V)) (fun i _ => n - (intOf i).toNat)
      case atStart => exact ⟨0, te, _, by omega, rfl, Lib.hid HTE.out.1, HV⟩
      case round =>
        obtain ⟨xx, hxx⟩ : ∃ xx, x = xx := ⟨_, rfl⟩
        have HX : Hid (x = (n : Int)) := Lib.hid HTE.out.2.1
        clear hxx xx
        obtain ⟨k, te2, V, hk, rfl, HTE2, HV2⟩ := hrel
        clear HV HTE HFE HNn
        have HV := HV2
        clear HV2
        obtain ⟨b2, p2, hq, hE⟩ := HV.out.at
        obtain ⟨tn2, htn⟩ : ∃ tn, te2.length = tn := ⟨_, rfl⟩
        simp only [htn] at hq hE
        subst hq
        have HE := Lib.hid hE
        clear hE htn
        have HMy : Hid (mayTb ((3, a0, 1, 0), te2, x) = true) := Lib.hid (by
          rw [HTE2.out, HX.out]
          exact ring_may (l := z1) HM.out (a := k) (n := n) hk (by omega) (by have := HNc.out; omega))
        have HFE : Hid (fewE te2) := Lib.hid (may_few HMy.out)
        obtain ⟨k0, k1, k2, k3, k4, k5⟩ := Box.tb (s := (3, a0, 1, 0)) HV.out.2.1
        simp only at k0 k1 k2 k3 k4 k5
        by_cases hkl : k < n
        · have hkI : (k : Int) < (n : Int) := by omega
          obtain ⟨y, rfl, hx1⟩ := HWd.out.2.2.2.2.resolve_left (by omega)
          have hc := hx1 k (by omega)
          obtain ⟨key, hkeq⟩ : ∃ key, z1.getD k 0 = key := ⟨_, rfl⟩
          rw [hkeq] at hc
          have HC := Lib.hid hc
          clear hx1 hc
          have hp : popT ((3, a0, 1, 0), te2, x) = (((3, a0, 1, 0), ringE z1 (k + 1) n, x), key, true) := by
            have h1 := ring_pop (l := z1) HM.out hkl (by omega) (by have := HNc.out; omega)
            rw [HTE2.out, HX.out, ← hkeq]
            exact h1
          obtain ⟨ce, hce⟩ : ∃ ce, ringE z1 (k + 1) n = ce := ⟨_, rfl⟩
          rw [hce] at hp
          have HCE := Lib.hid hce.symm
          have HPo := Lib.hid hp
          have HMc : Hid (mayTb ((3, a0, 1, 0), ce, x) = true) := Lib.hid (by
            rw [← hce, HX.out]
            exact ring_may (l := z1) HM.out (a := k + 1) (n := n) (by omega) (by omega) (by have := HNc.out; omega))
          clear hp hce hkeq
          go_wp2_with fail
          have c3 := tpop_any (3, a0, 1, 0) b2 tn2 p2 x te2 wr HE.out HFE.out HXW.out
          rw [HPo.out] at c3
          refine c3.mono ?_
          rintro e m3 ⟨u, rfl, hb, hr0⟩
          clear c3
          have hr : Row m3 wr.heap.size u ce := hr0
          obtain ⟨b3, p3, hu, hE3⟩ := hr.at
          obtain ⟨cn, hcn⟩ : ∃ cn, ce.length = cn := ⟨_, rfl⟩
          simp only [hcn] at hu hE3
          subst hu
          clear hcn
          have hb2 : Below wr.heap.size wr (m3.alloc (.cells #[.int .i64 3, .int .i64 a0, .int .i64 1, .int .i64 0, .slice b3 cn p3, .int .u32 x] 27)) := hb.trans (((Below.refl _ _).alloc (Nat.le_refl _) _).mono hb.size)
          have HE3 := Lib.hid (hE3.below (belowA m3 (.cells #[.int .i64 3, .int .i64 a0, .int .i64 1, .int .i64 0, .slice b3 cn p3, .int .u32 x] 27)))
          have HRc := Lib.hid (hr.below (belowA m3 (.cells #[.int .i64 3, .int .i64 a0, .int .i64 1, .int .i64 0, .slice b3 cn p3, .int .u32 x] 27)))
          have HV3 := Lib.hid (HV.out.later hb2)
          have HBs : Hid (Box (m3.alloc (.cells #[.int .i64 3, .int .i64 a0, .int .i64 1, .int .i64 0, .slice b3 cn p3, .int .u32 x] 27)) m3.heap.size 27 #[.int .i64 3, .int .i64 a0, .int .i64 1, .int .i64 0, .slice b3 cn p3, .int .u32 x]) := Lib.hid (Box.new _ _ _)
          have hsw : wr.heap.size ≤ m3.heap.size := hb.size
          have HSW := Lib.hid hsw
          obtain ⟨q0, q1, q2, q3, q4, q5⟩ := Box.tb (s := (3, a0, 1, 0)) HBs.out
          simp only at q0 q1 q2 q3 q4 q5
          have hc6 := (HV3.out.1.cell (lt_of_cell HC.out)).trans HC.out
          have hkk : (key != key) = false := by simp
          clear hr hr0 hE3 hb hb2 k0 k1 k2 k3 k4 k5 hsw
          go_wp2_with fail
          generalize hW3 : m3.alloc (.cells #[.int .i64 3, .int .i64 a0, .int .i64 1, .int .i64 0, .slice b3 cn p3, .int .u32 x] 27) = W3 at *
          generalize hT3 : m3.heap.size = T3 at *
          clear hW3 hT3
          have c4 := tmay_any (3, a0, 1, 0) b3 cn p3 x ce W3 HE3.out HXW.out
          rw [HMc.out] at c4
          refine c4.mono ?_
          rintro e m4 ⟨rfl, hb4⟩
          clear c4 q0 q1 q2 q3 q4 q5 hc6 hkk
          have HB4 := Lib.hid (HBs.out.later hb4)
          have HV4 := Lib.hid (HV3.out.later hb4)
          have HR4 := Lib.hid (HRc.out.below hb4)
          clear hb4
          obtain ⟨q0, q1, q2, q3, q4, q5⟩ := Box.tb (s := (3, a0, 1, 0)) HB4.out
          simp only at q0 q1 q2 q3 q4 q5
          have HBx := Lib.hid HV4.out.2.1
          have HVn := Lib.hid (HV4.out.put (t' := ((3, a0, 1, 0), ce, x)) (HR4.out.low HV.out.1.size))
          go_wp2_with (refine wpList_store_row rfl 27 _ _ rfl T _ rfl rfl 27 _ HBx.out (by kernel_rfl) rfl (by simp [Value.oneCell']) ?_)
          exact ⟨⟨k + 1, ce, _, by omega, by go_num, HCE, HVn⟩, by simp [intOf]; omega⟩
        · have hkI : ¬ (k : Int) < (n : Int) := by omega
          have hkn : k = n := by omega
          have hpe : popT ((3, a0, 1, 0), te2, x) = (((3, a0, 1, 0), te2, x), 0, false) := by rw [HTE2.out, HX.out, hkn]; exact ring_empty (cap := a0) (l := z1) n
          have hpg : getT ((3, a0, 1, 0), te2, x) 0 0 = (((3, a0, 1, 0), te2, x), 0, false) := get_ring rfl
          have hps : setT ((3, a0, 1, 0), te2, x) 0 0 1 = (zeroT, 1) := by rw [HTE2.out, HX.out]; exact ring_set (cap := a0) (l := z1) k n
          have HPo := Lib.hid hpe
          have HGe := Lib.hid hpg
          rcases hg : setT ((3, a0, 1, 0), te2, x) 0 0 1 with ⟨⟨⟨d0, d1, d2, d3⟩, de, dx⟩, dr⟩
          have hdr : dr = 1 := by rw [hg] at hps; exact congrArg (fun q => q.2) hps
          subst hdr
          have HSe := Lib.hid hg
          clear hpe hpg hps hkn hg
          have hxn : (x == (n : Int)) = true := by rw [HX.out]; simp
          have hwn : IntKind.u32.wrap (n : Int) = (n : Int) := by rw [wW]; omega
          have HB := Lib.hid HV.out.1
          have HVt : Hid (Vt wr T ((3, a0, 1, 0), te2, x) b2 tn2 p2) := Lib.hid ⟨HV.out.2.1, HE.out⟩
          clear HV k0 k1 k2 k3 k4 k5
          obtain ⟨kt0, kt1, kt2, kt3, kt4, kt5⟩ := HVt.out.tb
          simp only at kt0 kt1 kt2 kt3 kt4 kt5
          go_wp2_with fail
          clear kt0 kt1 kt2 kt3 kt4 kt5
          have c4 := tpop_any (3, a0, 1, 0) b2 tn2 p2 x te2 wr HVt.out.2 HFE.out HXW.out
          rw [HPo.out] at c4
          refine c4.mono ?_
          rintro e m4 ⟨u, rfl, hb, hr0⟩
          clear c4
          have hr : Row m4 _ u te2 := hr0
          obtain ⟨jb4, jp4, hu, hE⟩ := hr.at
          obtain ⟨jn4, hjn⟩ : ∃ jn4, te2.length = jn4 := ⟨_, rfl⟩
          rw [hjn] at hu hE
          have HNq := Lib.hid hjn
          clear hjn
          subst hu
          clear hr hr0
          have hb2 : Below wr.heap.size wr (m4.alloc (.cells #[.int .i64 3, .int .i64 a0, .int .i64 1, .int .i64 0, .slice jb4 jn4 jp4, .int .u32 x] 27)) := hb.trans (((Below.refl _ _).alloc (Nat.le_refl _) _).mono hb.size)
          replace HVt := Lib.hid (HVt.out.later hb2)
          replace HB := Lib.hid (HB.out.trans (hb2.mono HB.out.size))
          have HVq : Hid (Vt (m4.alloc (.cells #[.int .i64 3, .int .i64 a0, .int .i64 1, .int .i64 0, .slice jb4 jn4 jp4, .int .u32 x] 27)) m4.heap.size ((3, a0, 1, 0), te2, x) jb4 jn4 jp4) := Lib.hid (Vt.new (s := (3, a0, 1, 0)) (x := x) hE)
          clear hb hb2 hE
          clear HVq
          obtain ⟨kt0, kt1, kt2, kt3, kt4, kt5⟩ := HVt.out.tb
          simp only at kt0 kt1 kt2 kt3 kt4 kt5
          go_wp2_with fail
          clear kt0 kt1 kt2 kt3 kt4 kt5
          generalize hW : m4.alloc (.cells #[.int .i64 3, .int .i64 a0, .int .i64 1, .int .i64 0, .slice jb4 jn4 jp4, .int .u32 x] 27) = W4 at *
          generalize hT : m4.heap.size = T4 at *
          clear hW hT
          have c5 := tget_any (3, a0, 1, 0) b2 tn2 p2 x te2 0 0 W4 HVt.out.2 HFE.out HXW.out isW_zero
          rw [HGe.out] at c5
          refine c5.mono ?_
          rintro e m5 ⟨u, rfl, hb, hr0⟩
          clear c5
          have hr : Row m5 _ u te2 := hr0
          obtain ⟨jb5, jp5, hu, hE⟩ := hr.at
          obtain ⟨jn5, hjn⟩ : ∃ jn5, te2.length = jn5 := ⟨_, rfl⟩
          rw [hjn] at hu hE
          have HNg := Lib.hid hjn
          clear hjn
          subst hu
          clear hr hr0
          have hb2 : Below W4.heap.size W4 (m5.alloc (.cells #[.int .i64 3, .int .i64 a0, .int .i64 1, .int .i64 0, .slice jb5 jn5 jp5, .int .u32 x] 27)) := hb.trans (((Below.refl _ _).alloc (Nat.le_refl _) _).mono hb.size)
          replace HVt := Lib.hid (HVt.out.later hb2)
          replace HB := Lib.hid (HB.out.trans (hb2.mono HB.out.size))
          have HVg : Hid (Vt (m5.alloc (.cells #[.int .i64 3, .int .i64 a0, .int .i64 1, .int .i64 0, .slice jb5 jn5 jp5, .int .u32 x] 27)) m5.heap.size ((3, a0, 1, 0), te2, x) jb5 jn5 jp5) := Lib.hid (Vt.new (s := (3, a0, 1, 0)) (x := x) hE)
          clear hb hb2 hE
          clear HVg
          obtain ⟨kt0, kt1, kt2, kt3, kt4, kt5⟩ := HVt.out.tb
          simp only at kt0 kt1 kt2 kt3 kt4 kt5
          go_wp2_with fail
          clear kt0 kt1 kt2 kt3 kt4 kt5
          generalize hW : m5.alloc (.cells #[.int .i64 3, .int .i64 a0, .int .i64 1, .int .i64 0, .slice jb5 jn5 jp5, .int .u32 x] 27) = W5 at *
          generalize hT : m5.heap.size = T5 at *
          clear hW hT
          have c6 := tset_any (3, a0, 1, 0) b2 tn2 p2 x te2 0 0 1 W5 HVt.out.2 HFE.out HXW.out isW_zero isW_zero ⟨by omega, by omega⟩
          rw [HSe.out] at c6
          refine c6.mono ?_
          rintro e m6 ⟨u, rfl, hb, hr0⟩
          clear c6
          have hr : Row m6 _ u de := hr0
          obtain ⟨jb6, jp6, hu, hE⟩ := hr.at
          subst hu
          clear hr hr0
          have hb2 : Below W5.heap.size W5 (m6.alloc (.cells #[.int .i64 d0, .int .i64 d1, .int .i64 d2, .int .i64 d3, .slice jb6 de.length jp6, .int .u32 dx] 27)) := hb.trans (((Below.refl _ _).alloc (Nat.le_refl _) _).mono hb.size)
          replace HVt := Lib.hid (HVt.out.later hb2)
          replace HB := Lib.hid (HB.out.trans (hb2.mono HB.out.size))
          have HVd : Hid (Vt (m6.alloc (.cells #[.int .i64 d0, .int .i64 d1, .int .i64 d2, .int .i64 d3, .slice jb6 de.length jp6, .int .u32 dx] 27)) m6.heap.size ((d0, d1, d2, d3), de, dx) jb6 de.length jp6) := Lib.hid (Vt.new (s := (d0, d1, d2, d3)) (x := dx) hE)
          clear hb hb2 hE
          clear HVd
          rcases hnk with hnk | ⟨hnk, hnk2⟩
          · have hq1 : ((n : Int) == (len1 : Int)) = true := by simp; omega
            clear hnk
            obtain ⟨kt0, kt1, kt2, kt3, kt4, kt5⟩ := HVt.out.tb
            simp only at kt0 kt1 kt2 kt3 kt4 kt5
            go_wp2_with fail
            go_ret
            exact ⟨rfl, HB.out⟩
          · have hq2 : ((n : Int) == a0) = true := by have := HNc.out; simp; omega
            by_cases hq3 : n = len1
            · have hq1 : ((n : Int) == (len1 : Int)) = true := by simp; omega
              clear hq3 hnk hnk2
              obtain ⟨kt0, kt1, kt2, kt3, kt4, kt5⟩ := HVt.out.tb
              simp only at kt0 kt1 kt2 kt3 kt4 kt5
              go_wp2_with fail
              go_ret
              exact ⟨rfl, HB.out⟩
            · have hq1 : ((n : Int) == (len1 : Int)) = false := by simp; omega
              clear hq3 hnk hnk2
              obtain ⟨kt0, kt1, kt2, kt3, kt4, kt5⟩ := HVt.out.tb
              simp only at kt0 kt1 kt2 kt3 kt4 kt5
              go_wp2_with fail
              go_ret
              exact ⟨rfl, HB.out⟩


theorem own : ownKnob Try.prog.godebug = none := by kernel_rfl
theorem laidOut : laidOutB Try.prog = true := by kernel_rfl
set_option maxRecDepth 100000 in
theorem lifted (os : Os) (started : os.Started) (H : Type) (enc : TypeId × Value → H) :
    ReturnsInHanded {} Try.checked os 6 .any (Rows.tableRingSpec.pre6 enc Try.prog Try.f6 Rows.tableRingRow.domain false) (Rows.tableRingSpec.post enc Try.prog Try.f6 false true false false) := by
  refine returnsInHanded_of_change (C := Try.checked) own started (by kernel_rfl) Try.func6
    (ChangeSpec.witness6 (enc := enc) (C := Try.checked) false ⟨#[], #[.int .i64 0, .slice none 0 0], []⟩ 8 (by kernel_rfl) (by kernel_rfl) (by kernel_rfl) (by kernel_rfl)) ?_
  intro W base args ds gs before hval0 hW hcnd _
  have hval : ∀ (j : Nat) t v, Try.f6.params[j]? = some t → args[j]? = some v → Value.okWide Try.prog W .any base t v := hval0
  have hW' := hW
  obtain ⟨p, q, hA0, hV, rfl, hfz, hnd⟩ := hW
  have hA : DataW.TrodAll enc Try.prog W 0 (fun _ => true) true Try.f6.params.toList args.toList ds p := hA0
  rw [Try.params6] at hA hval
  obtain ⟨u0, vs0, e0, ds0, p0, q0, hargs, rfl, rfl, h0, t0⟩ := trodAll_cons hA
  obtain ⟨u1, vs1, e1, ds1, p1, q1, rfl, rfl, rfl, h1, t1⟩ := trodAll_cons t0
  obtain ⟨rfl, rfl, rfl⟩ := trodAll_nil t1
  obtain rfl : args = #[u0, u1] := by cases args; simp_all
  obtain ⟨rfl, rfl⟩ := trodVars_none hV
  have y0 := h0
  have lt0 : ∀ x ∈ p0, x.block < W.heap.size := by obtain ⟨m, hm⟩ := y0; exact DataW.trod_lt m _ _ _ hm
  have y1 := h1
  have lt1 : ∀ x ∈ p1, x.block < W.heap.size := by obtain ⟨m, hm⟩ := y1; exact DataW.trod_lt m _ _ _ hm
  obtain ⟨a0, rfl, _, _, w0⟩ := open_int Try.underlying3 (hval 0 3 u0 rfl rfl) h0
  obtain ⟨a1, len1, cap1, z1, rfl, w1⟩ := open_words (hval 1 45 u1 rfl rfl) h1
  clear hA0 hval0
  refine (walk a0 w0 a1 len1 cap1 z1 W w1).mono fun e W' ⟨he, bel⟩ => ?_
  subst he
  exact ⟨_, rfl, _, _, _, [], _, [], hW', trodAll_mk1 (shut_bool Try.underlying4 _), (trodAll_cons_mk (Below.trod laidOut (by kernel_rfl) (of_decide_eq_true (by kernel_rfl)) y0 bel lt0) (trodAll_cons_mk (Below.trod laidOut (by kernel_rfl) (of_decide_eq_true (by kernel_rfl)) y1 bel lt1) trodAll_mk0)), rfl, bel.frame _, fun h => by cases h⟩

theorem over : Rows.tableRingRow.holds Try.pinned (OpenSpec.ofChange Rows.tableRingSpec) :=
  OpenClaim.holds_of_wide 6 Try.f6 rfl rfl rfl rfl rfl rfl rfl ⟨rfl, rfl, rfl, rfl, rfl⟩ rfl rfl rfl rfl rfl (by kernel_rfl) Try.func6 (by kernel_rfl)
    (of_decide_eq_true (by kernel_rfl)) (by unfold Func.isWrapper; first | (rw [if_pos (by decide +kernel)]; kernel_rfl) | (rw [if_neg (by decide +kernel)]; exact ⟨rfl, rfl⟩))
    (fun os started H enc _ => lifted os started H enc)

theorem proved : Rows.TableRingSaid := over
#print axioms proved
end Go.Proofs.Ytlbmgablkphioaa.tableRing
