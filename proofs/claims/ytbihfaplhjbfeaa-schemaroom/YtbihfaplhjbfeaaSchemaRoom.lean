/-
  SchemaRoom: for every schema the law returns true: more keys and more words take more room, at most 80 words, and what may not be takes none.
  Conditions: none.
-/
import Derived.Test.YtbihfaplhjbfeaaRows
import Derived.Test.YtbihfaplhjbfeaaO
import Derived.Test.YtbihfaplhjbfeaaH
import Derived.Test.YtbihfaplhjbfeaaReg
import Derived.WalkKit
import Derived.ProofKit
import Derived.OpenShut
import Derived.ChangeOld
import Derived.Below
namespace Go.Proofs.Ytbihfaplhjbfeaa.schemaRoom
open Go.ChangeShapes Go.WideShapes Go.ChangeAt Go.RowKit
set_option linter.unusedVariables false

theorem room_val {k c n v : Int} (h : mayS k c n v = true) : 2 ≤ roomS k c n v ∧ roomS k c n v ≤ 80 := by
  have hP := mayS_iff.1 h
  rw [roomS, if_pos h]
  have h1 : 1 * 2 ≤ c * (n + 1) := Int.mul_le_mul (by omega) (by omega) (by omega) (by omega)
  have h2 : c * (n + 1) ≤ 16 * 5 := Int.mul_le_mul (by omega) (by omega) (by omega) (by omega)
  omega
theorem room_cap {k c n v : Int} (h : mayS k c n v = true) (h1 : mayS k (c + 1) n v = true) : roomS k (c + 1) n v = roomS k c n v + n + 1 := by
  rw [roomS, roomS, if_pos h, if_pos h1, Int.add_mul]
  omega
theorem room_words {k c n v : Int} (h : mayS k c n v = true) (h1 : mayS k c (n + 1) v = true) : roomS k c (n + 1) v = roomS k c n v + c := by
  rw [roomS, roomS, if_pos h, if_pos h1, Int.mul_add c (n + 1) 1]
  omega
theorem room_ver {k c n v : Int} (h : mayS k c n v = true) : roomS k c n 0 = roomS k c n v := by
  have hP := mayS_iff.1 h
  have h1 : mayS k c n 0 = true := mayS_iff.2 (by omega)
  rw [roomS, roomS, if_pos h, if_pos h1]
set_option maxRecDepth 100000 in
set_option maxHeartbeats 4000000 in
theorem walk (k0 c0 n0 v0 : Int) (w : World) :
    Calls Try.prog 6 #[scV k0 c0 n0 v0] w fun e w' => e = .returned (.bool true) ∧ Below w.heap.size w w' := by
  have hW : Below w.heap.size w (w.alloc (scO k0 c0 n0 v0)) := (Below.refl _ _).alloc (Nat.le_refl _) _
  have HK : Hid (∀ w', Below (w.alloc (scO k0 c0 n0 v0)).heap.size (w.alloc (scO k0 c0 n0 v0)) w' → ScAt w' w.heap.size k0 c0 n0 v0) := Lib.hid (fun w' hb => (scAt_new w k0 c0 n0 v0).later hb)
  have hend : ∀ w', Below (w.alloc (scO k0 c0 n0 v0)).heap.size (w.alloc (scO k0 c0 n0 v0)) w' → Below w.heap.size w w' := fun w' h => hW.trans (h.mono hW.size)
  have HEnd := Lib.hid hend
  have hBlt : w.heap.size < (w.alloc (scO k0 c0 n0 v0)).heap.size := by simp
  clear hW hend
  go_enter Try.func6, Try.ntmps6
  go_wp2_with fail
  refine (awake_any _).mono ?_
  rintro e w1 ⟨rfl, hb⟩
  obtain ⟨d0, d1, d2, d3⟩ := HK.out _ hb
  go_wp2_with fail
  refine (room_any k0 c0 n0 v0 _).mono ?_
  rintro e w2 ⟨rfl, hg⟩
  replace hb := hb.trans (hg.mono hb.size)
  clear hg
  clear d0 d1 d2 d3
  obtain ⟨d0, d1, d2, d3⟩ := HK.out _ hb
  go_wp2_with fail
  refine (may_any k0 c0 n0 v0 _).mono ?_
  rintro e w3 ⟨rfl, hg⟩
  replace hb := hb.trans (hg.mono hb.size)
  clear hg
  clear d0 d1 d2 d3
  obtain ⟨d0, d1, d2, d3⟩ := HK.out _ hb
  rcases hm : mayS k0 c0 n0 v0 with _ | _
  · have hr : roomS k0 c0 n0 v0 = 0 := by simp [roomS, hm]
    rw [hr]
    go_wp2
    go_ret
    exact ⟨rfl, HEnd.out _ hb⟩
  have hP := mayS_iff.1 hm
  have hsz := hb.size
  have hlt : w.heap.size < w3.heap.size := lt_of_cell d0
  have hw1 := wI (c0 + 1) (by omega) (by omega)
  have hw2 := wI (n0 + 1) (by omega) (by omega)
  have HR0 := Lib.hid (room_val hm)
  have HM0 := Lib.hid hm
  have HP := Lib.hid hP
  clear hm hP hsz
  go_wp2_with fail
  have hb4 : Below w3.heap.size w3 (((w3.alloc (scO k0 (c0 + 1) n0 v0)).alloc (scO k0 c0 (n0 + 1) v0)).alloc (scO k0 c0 n0 0)) := (((Below.refl _ _).alloc (Nat.le_refl _) _).alloc (by simp) _).alloc (by simp; omega) _
  have HKK : Hid (∀ w', Below (((w3.alloc (scO k0 (c0 + 1) n0 v0)).alloc (scO k0 c0 (n0 + 1) v0)).alloc (scO k0 c0 n0 0)).heap.size (((w3.alloc (scO k0 (c0 + 1) n0 v0)).alloc (scO k0 c0 (n0 + 1) v0)).alloc (scO k0 c0 n0 0)) w' → ScAt w' w.heap.size k0 c0 n0 v0 ∧ ScAt w' w3.heap.size k0 (c0 + 1) n0 v0 ∧ ScAt w' (w3.heap.size + 1) k0 c0 (n0 + 1) v0 ∧ ScAt w' (w3.heap.size + 1 + 1) k0 c0 n0 0) := Lib.hid (fun w' hb' => by
    have h3 := scAt_two (w3.alloc (scO k0 (c0 + 1) n0 v0)) k0 c0 n0 0 (scO k0 c0 (n0 + 1) v0)
    rw [show (w3.alloc (scO k0 (c0 + 1) n0 v0)).heap.size + 1 = w3.heap.size + 1 + 1 by simp] at h3
    exact ⟨(ScAt.later ⟨d0, d1, d2, d3⟩ hb4).later hb', (scAt_old (scAt_old (scAt_new w3 k0 (c0 + 1) n0 v0) _) _).later hb', (scAt_old (scAt_two w3 k0 c0 (n0 + 1) v0 _) _).later hb', h3.later hb'⟩)
  have HEnd2 : Hid (∀ w', Below (((w3.alloc (scO k0 (c0 + 1) n0 v0)).alloc (scO k0 c0 (n0 + 1) v0)).alloc (scO k0 c0 n0 0)).heap.size (((w3.alloc (scO k0 (c0 + 1) n0 v0)).alloc (scO k0 c0 (n0 + 1) v0)).alloc (scO k0 c0 n0 0)) w' → Below w.heap.size w w') := Lib.hid (fun w' h => by
    have h1 := HEnd.out _ hb
    exact h1.trans ((hb4.trans (h.mono hb4.size)).mono h1.size))
  clear d0 d1 d2 d3 hb hb4 HK HEnd hBlt hlt
  generalize (((w3.alloc (scO k0 (c0 + 1) n0 v0)).alloc (scO k0 c0 (n0 + 1) v0)).alloc (scO k0 c0 n0 0)) = W4 at *
  generalize w3.heap.size = b5 at *
  generalize hB : w.heap.size = B at *
  have HR1 := Lib.hid (room_cap (k := k0) (c := c0) (n := n0) (v := v0) HM0.out)
  have HR2 := Lib.hid (room_words (k := k0) (c := c0) (n := n0) (v := v0) HM0.out)
  have HR3 := Lib.hid (room_ver (k := k0) (c := c0) (n := n0) (v := v0) HM0.out)
  generalize roomS k0 c0 n0 v0 = R0 at *
  have hRb := HR0.out
  have hP := HP.out
  have hx1 := wI (R0 + n0) (by omega) (by omega)
  have hx2 := wI (R0 + n0 + 1) (by omega) (by omega)
  have hx3 := wI (R0 + c0) (by omega) (by omega)
  have hx4 : decide ((2 : Int) ≤ R0) = true := by simp; omega
  have hx5 : decide (R0 ≤ (80 : Int)) = true := by simp; omega
  clear hRb hP
  have HKa : Hid (∀ w', Below W4.heap.size W4 w' → w'.cell? ⟨b5, 0, none⟩ = some (.int .i64 k0) ∧ w'.cell? ⟨b5, 1, none⟩ = some (.int .i64 (c0 + 1)) ∧ w'.cell? ⟨b5, 2, none⟩ = some (.int .i64 n0) ∧ w'.cell? ⟨b5, 3, none⟩ = some (.int .i64 v0) ∧ w'.cell? ⟨B, 2, none⟩ = some (.int .i64 n0) ∧ Below W4.heap.size W4 w') := Lib.hid (fun w' h => by
    obtain ⟨⟨_, _, a2, _⟩, ⟨b0, b1, b2, b3⟩, _, _⟩ := HKK.out w' h
    exact ⟨b0, b1, b2, b3, a2, h⟩)
  have HKb : Hid (∀ w', Below W4.heap.size W4 w' → w'.cell? ⟨b5 + 1, 0, none⟩ = some (.int .i64 k0) ∧ w'.cell? ⟨b5 + 1, 1, none⟩ = some (.int .i64 c0) ∧ w'.cell? ⟨b5 + 1, 2, none⟩ = some (.int .i64 (n0 + 1)) ∧ w'.cell? ⟨b5 + 1, 3, none⟩ = some (.int .i64 v0) ∧ w'.cell? ⟨B, 1, none⟩ = some (.int .i64 c0) ∧ Below W4.heap.size W4 w') := Lib.hid (fun w' h => by
    obtain ⟨⟨_, a1, _, _⟩, _, ⟨b0, b1, b2, b3⟩, _⟩ := HKK.out w' h
    exact ⟨b0, b1, b2, b3, a1, h⟩)
  have HKc : Hid (∀ w', Below W4.heap.size W4 w' → ScAt w' (b5 + 1 + 1) k0 c0 n0 0) := Lib.hid (fun w' h => (HKK.out w' h).2.2.2)
  have hb4 : Below W4.heap.size W4 W4.drew := (Below.refl _ _).drew
  obtain ⟨d0, d1, d2, d3, d4, _⟩ := HKa.out _ (Below.refl _ _)
  rcases hm1 : mayS k0 (c0 + 1) n0 v0 with _ | _
  · go_wp2_with fail
    refine wp_region_any (by kernel_rfl) ?_
    (try (change wpAny _ _ _ _ _ _ _ (World.drew _)))
    refine wpAny_ready (rs := [0]) (by kernel_rfl) (by simp) ?_
    refine AllReady.cons rfl (fun K hK => ?_) AllReady.nil
    go_simp
    refine hK _ _ ?_
    clear hK K
    refine wpAny_ready (rs := [1]) (by kernel_rfl) (by simp) ?_
    refine AllReady.cons rfl (fun K hK => ?_) AllReady.nil
    go_simp
    refine (may_any k0 (c0 + 1) n0 v0 _).mono ?_
    rintro e w5 ⟨rfl, hg5⟩
    go_wp2_with fail
    refine wpAny_yield (i := 2) (v := ?va2) rfl rfl (by kernel_rfl) (by kernel_rfl) (by kernel_rfl) (fun _ _ _ h => h) (by rfl) ?hya2 ?resta2
    case hya2 =>
      intro w
      go_simp
      try with_reducible rfl
    simp only [Act.put, List.setIfInBounds_toArray, List.set_cons_zero, List.set_cons_succ]
    refine wpAny_yield (i := 3) (v := ?va3) rfl rfl (by kernel_rfl) (by kernel_rfl) (by kernel_rfl) (fun _ _ _ h => h) (by rfl) ?hya3 ?resta3
    case hya3 =>
      intro w
      go_simp
      try with_reducible rfl
    simp only [Act.put, List.setIfInBounds_toArray, List.set_cons_zero, List.set_cons_succ]
    refine wpAny_skip (i := 4) rfl rfl (by kernel_rfl) (by kernel_rfl) (by kernel_rfl) (fun _ _ _ h => h) (by rfl) ?_
    simp only [Act.put, List.setIfInBounds_toArray, List.set_cons_zero, List.set_cons_succ]
    refine wpAny_skip (i := 5) rfl rfl (by kernel_rfl) (by kernel_rfl) (by kernel_rfl) (fun _ _ _ h => h) (by rfl) ?_
    simp only [Act.put, List.setIfInBounds_toArray, List.set_cons_zero, List.set_cons_succ]
    refine wpAny_skip (i := 6) rfl rfl (by kernel_rfl) (by kernel_rfl) (by kernel_rfl) (fun _ _ _ h => h) (by rfl) ?_
    simp only [Act.put, List.setIfInBounds_toArray, List.set_cons_zero, List.set_cons_succ]
    refine wpAny_skip (i := 7) rfl rfl (by kernel_rfl) (by kernel_rfl) (by kernel_rfl) (fun _ _ _ h => h) (by rfl) ?_
    simp only [Act.put, List.setIfInBounds_toArray, List.set_cons_zero, List.set_cons_succ]
    refine wpAny_skip (i := 8) rfl rfl (by kernel_rfl) (by kernel_rfl) (by kernel_rfl) (fun _ _ _ h => h) (by rfl) ?_
    simp only [Act.put, List.setIfInBounds_toArray, List.set_cons_zero, List.set_cons_succ]
    refine wpAny_skip (i := 9) rfl rfl (by kernel_rfl) (by kernel_rfl) (by kernel_rfl) (fun _ _ _ h => h) (by rfl) ?_
    simp only [Act.put, List.setIfInBounds_toArray, List.set_cons_zero, List.set_cons_succ]
    refine wpAny_skip (i := 10) rfl rfl (by kernel_rfl) (by kernel_rfl) (by kernel_rfl) (fun _ _ _ h => h) (by rfl) ?_
    simp only [Act.put, List.setIfInBounds_toArray, List.set_cons_zero, List.set_cons_succ]
    refine wpAny_skip (i := 11) rfl rfl (by kernel_rfl) (by kernel_rfl) (by kernel_rfl) (fun _ _ _ h => h) (by rfl) ?_
    simp only [Act.put, List.setIfInBounds_toArray, List.set_cons_zero, List.set_cons_succ]
    refine wpAny_yield (i := 12) (v := ?va12) rfl rfl (by kernel_rfl) (by kernel_rfl) (by kernel_rfl) (fun _ _ _ h => h) (by rfl) ?hya12 ?resta12
    case hya12 =>
      intro w
      go_simp
      try with_reducible rfl
    simp only [Act.put, List.setIfInBounds_toArray, List.set_cons_zero, List.set_cons_succ]
    refine wpAny_yield (i := 13) (v := ?va13) rfl rfl (by kernel_rfl) (by kernel_rfl) (by kernel_rfl) (fun _ _ _ h => h) (by rfl) ?hya13 ?resta13
    case hya13 =>
      intro w
      go_simp
      try with_reducible rfl
    simp only [Act.put, List.setIfInBounds_toArray, List.set_cons_zero, List.set_cons_succ]
    refine wpAny_done (by kernel_rfl) ?_ _
    have hbq := hb4.trans (hg5.mono hb4.size)
    clear hg5 hb4 d0 d1 d2 d3 d4
    have hd7 : Below W4.heap.size W4 w5.drew := hbq.drew
    obtain ⟨d0, d1, d2, d3, d4, _⟩ := HKb.out _ hbq
    rcases hm2 : mayS k0 c0 (n0 + 1) v0 with _ | _
    · go_wp2_with fail
      refine wp_region_any (by kernel_rfl) ?_
      (try (change wpAny _ _ _ _ _ _ _ (World.drew _)))
      refine wpAny_ready (rs := [0]) (by kernel_rfl) (by simp) ?_
      refine AllReady.cons rfl (fun K hK => ?_) AllReady.nil
      go_simp
      refine hK _ _ ?_
      clear hK K
      refine wpAny_ready (rs := [1]) (by kernel_rfl) (by simp) ?_
      refine AllReady.cons rfl (fun K hK => ?_) AllReady.nil
      go_simp
      refine (may_any k0 c0 (n0 + 1) v0 _).mono ?_
      rintro e w7 ⟨rfl, hg5⟩
      go_wp2_with fail
      refine wpAny_yield (i := 2) (v := ?vb2) rfl rfl (by kernel_rfl) (by kernel_rfl) (by kernel_rfl) (fun _ _ _ h => h) (by rfl) ?hyb2 ?restb2
      case hyb2 =>
        intro w
        go_simp
        try with_reducible rfl
      simp only [Act.put, List.setIfInBounds_toArray, List.set_cons_zero, List.set_cons_succ]
      refine wpAny_yield (i := 3) (v := ?vb3) rfl rfl (by kernel_rfl) (by kernel_rfl) (by kernel_rfl) (fun _ _ _ h => h) (by rfl) ?hyb3 ?restb3
      case hyb3 =>
        intro w
        go_simp
        try with_reducible rfl
      simp only [Act.put, List.setIfInBounds_toArray, List.set_cons_zero, List.set_cons_succ]
      refine wpAny_skip (i := 4) rfl rfl (by kernel_rfl) (by kernel_rfl) (by kernel_rfl) (fun _ _ _ h => h) (by rfl) ?_
      simp only [Act.put, List.setIfInBounds_toArray, List.set_cons_zero, List.set_cons_succ]
      refine wpAny_skip (i := 5) rfl rfl (by kernel_rfl) (by kernel_rfl) (by kernel_rfl) (fun _ _ _ h => h) (by rfl) ?_
      simp only [Act.put, List.setIfInBounds_toArray, List.set_cons_zero, List.set_cons_succ]
      refine wpAny_skip (i := 6) rfl rfl (by kernel_rfl) (by kernel_rfl) (by kernel_rfl) (fun _ _ _ h => h) (by rfl) ?_
      simp only [Act.put, List.setIfInBounds_toArray, List.set_cons_zero, List.set_cons_succ]
      refine wpAny_skip (i := 7) rfl rfl (by kernel_rfl) (by kernel_rfl) (by kernel_rfl) (fun _ _ _ h => h) (by rfl) ?_
      simp only [Act.put, List.setIfInBounds_toArray, List.set_cons_zero, List.set_cons_succ]
      refine wpAny_skip (i := 8) rfl rfl (by kernel_rfl) (by kernel_rfl) (by kernel_rfl) (fun _ _ _ h => h) (by rfl) ?_
      simp only [Act.put, List.setIfInBounds_toArray, List.set_cons_zero, List.set_cons_succ]
      refine wpAny_skip (i := 9) rfl rfl (by kernel_rfl) (by kernel_rfl) (by kernel_rfl) (fun _ _ _ h => h) (by rfl) ?_
      simp only [Act.put, List.setIfInBounds_toArray, List.set_cons_zero, List.set_cons_succ]
      refine wpAny_skip (i := 10) rfl rfl (by kernel_rfl) (by kernel_rfl) (by kernel_rfl) (fun _ _ _ h => h) (by rfl) ?_
      simp only [Act.put, List.setIfInBounds_toArray, List.set_cons_zero, List.set_cons_succ]
      refine wpAny_yield (i := 11) (v := ?vb11) rfl rfl (by kernel_rfl) (by kernel_rfl) (by kernel_rfl) (fun _ _ _ h => h) (by rfl) ?hyb11 ?restb11
      case hyb11 =>
        intro w
        go_simp
        try with_reducible rfl
      simp only [Act.put, List.setIfInBounds_toArray, List.set_cons_zero, List.set_cons_succ]
      refine wpAny_yield (i := 12) (v := ?vb12) rfl rfl (by kernel_rfl) (by kernel_rfl) (by kernel_rfl) (fun _ _ _ h => h) (by rfl) ?hyb12 ?restb12
      case hyb12 =>
        intro w
        go_simp
        try with_reducible rfl
      simp only [Act.put, List.setIfInBounds_toArray, List.set_cons_zero, List.set_cons_succ]
      refine wpAny_done (by kernel_rfl) ?_ _
      have hb7 := hd7.trans (hg5.mono hd7.size)
      clear hg5 hd7 d0 d1 d2 d3 d4 hbq
      obtain ⟨d0, d1, d2, d3⟩ := HKc.out _ hb7
      go_wp2_with fail
      refine (room_any k0 c0 n0 0 _).mono ?_
      rintro e w9 ⟨rfl, hg9⟩
      rw [HR3.out]
      go_wp2
      go_ret
      exact ⟨rfl, by rw [hB]; exact HEnd2.out _ (hb7.trans (hg9.mono hb7.size))⟩
    · have hr2 := HR2.out hm2
      go_wp2_with fail
      go_region_held3 (fun w' => w'.cell? ⟨b5 + 1, 0, none⟩ = some (.int .i64 k0) ∧ w'.cell? ⟨b5 + 1, 1, none⟩ = some (.int .i64 c0) ∧ w'.cell? ⟨b5 + 1, 2, none⟩ = some (.int .i64 (n0 + 1)) ∧ w'.cell? ⟨b5 + 1, 3, none⟩ = some (.int .i64 v0) ∧ w'.cell? ⟨B, 1, none⟩ = some (.int .i64 c0) ∧ Below W4.heap.size W4 w')
        (first
          | exact HKb.out _ hd7
          | exact hS5
          | exact hS6)
        (first
          | (go_at_call 16; refine (may_any k0 c0 (n0 + 1) v0 _).mono ?_; rintro e w7 ⟨rfl, hg5⟩; have hb5 := hd7.trans (hg5.mono hd7.size); have hS5 := HKb.out _ hb5)
          | (go_at_call 18; refine (room_any k0 c0 (n0 + 1) v0 _).mono ?_; rintro e w8 ⟨rfl, hg6⟩; have hb6 := hb5.trans (hg6.mono hb5.size); have hS6 := HKb.out _ hb6))
      have hb7 := hb6
      clear hS5 hS6 hb5 hb6 hg5 hg6 hd7 d0 d1 d2 d3 d4 hbq
      obtain ⟨d0, d1, d2, d3⟩ := HKc.out _ hb7
      go_wp2_with fail
      refine (room_any k0 c0 n0 0 _).mono ?_
      rintro e w9 ⟨rfl, hg9⟩
      rw [HR3.out]
      go_wp2
      go_ret
      exact ⟨rfl, by rw [hB]; exact HEnd2.out _ (hb7.trans (hg9.mono hb7.size))⟩
  · have hr1 := HR1.out hm1
    go_wp2_with fail
    go_region_held3 (fun w' => w'.cell? ⟨b5, 0, none⟩ = some (.int .i64 k0) ∧ w'.cell? ⟨b5, 1, none⟩ = some (.int .i64 (c0 + 1)) ∧ w'.cell? ⟨b5, 2, none⟩ = some (.int .i64 n0) ∧ w'.cell? ⟨b5, 3, none⟩ = some (.int .i64 v0) ∧ w'.cell? ⟨B, 2, none⟩ = some (.int .i64 n0) ∧ Below W4.heap.size W4 w')
      (first
        | exact HKa.out _ hb4
        | exact hS5
        | exact hS6)
      (first
        | (go_at_call 16; refine (may_any k0 (c0 + 1) n0 v0 _).mono ?_; rintro e w5 ⟨rfl, hg5⟩; have hb5 := hb4.trans (hg5.mono hb4.size); have hS5 := HKa.out _ hb5)
        | (go_at_call 18; refine (room_any k0 (c0 + 1) n0 v0 _).mono ?_; rintro e w6 ⟨rfl, hg6⟩; have hb6 := hb5.trans (hg6.mono hb5.size); have hS6 := HKa.out _ hb6))
    have hbq := hb6
    clear hS5 hS6 hb5 hb6 hg5 hg6 hb4 d0 d1 d2 d3 d4
    have hd7 : Below W4.heap.size W4 w6.drew := hbq.drew
    obtain ⟨d0, d1, d2, d3, d4, _⟩ := HKb.out _ hbq
    rcases hm2 : mayS k0 c0 (n0 + 1) v0 with _ | _
    · go_wp2_with fail
      refine wp_region_any (by kernel_rfl) ?_
      (try (change wpAny _ _ _ _ _ _ _ (World.drew _)))
      refine wpAny_ready (rs := [0]) (by kernel_rfl) (by simp) ?_
      refine AllReady.cons rfl (fun K hK => ?_) AllReady.nil
      go_simp
      refine hK _ _ ?_
      clear hK K
      refine wpAny_ready (rs := [1]) (by kernel_rfl) (by simp) ?_
      refine AllReady.cons rfl (fun K hK => ?_) AllReady.nil
      go_simp
      refine (may_any k0 c0 (n0 + 1) v0 _).mono ?_
      rintro e w7 ⟨rfl, hg5⟩
      go_wp2_with fail
      refine wpAny_yield (i := 2) (v := ?vc2) rfl rfl (by kernel_rfl) (by kernel_rfl) (by kernel_rfl) (fun _ _ _ h => h) (by rfl) ?hyc2 ?restc2
      case hyc2 =>
        intro w
        go_simp
        try with_reducible rfl
      simp only [Act.put, List.setIfInBounds_toArray, List.set_cons_zero, List.set_cons_succ]
      refine wpAny_yield (i := 3) (v := ?vc3) rfl rfl (by kernel_rfl) (by kernel_rfl) (by kernel_rfl) (fun _ _ _ h => h) (by rfl) ?hyc3 ?restc3
      case hyc3 =>
        intro w
        go_simp
        try with_reducible rfl
      simp only [Act.put, List.setIfInBounds_toArray, List.set_cons_zero, List.set_cons_succ]
      refine wpAny_skip (i := 4) rfl rfl (by kernel_rfl) (by kernel_rfl) (by kernel_rfl) (fun _ _ _ h => h) (by rfl) ?_
      simp only [Act.put, List.setIfInBounds_toArray, List.set_cons_zero, List.set_cons_succ]
      refine wpAny_skip (i := 5) rfl rfl (by kernel_rfl) (by kernel_rfl) (by kernel_rfl) (fun _ _ _ h => h) (by rfl) ?_
      simp only [Act.put, List.setIfInBounds_toArray, List.set_cons_zero, List.set_cons_succ]
      refine wpAny_skip (i := 6) rfl rfl (by kernel_rfl) (by kernel_rfl) (by kernel_rfl) (fun _ _ _ h => h) (by rfl) ?_
      simp only [Act.put, List.setIfInBounds_toArray, List.set_cons_zero, List.set_cons_succ]
      refine wpAny_skip (i := 7) rfl rfl (by kernel_rfl) (by kernel_rfl) (by kernel_rfl) (fun _ _ _ h => h) (by rfl) ?_
      simp only [Act.put, List.setIfInBounds_toArray, List.set_cons_zero, List.set_cons_succ]
      refine wpAny_skip (i := 8) rfl rfl (by kernel_rfl) (by kernel_rfl) (by kernel_rfl) (fun _ _ _ h => h) (by rfl) ?_
      simp only [Act.put, List.setIfInBounds_toArray, List.set_cons_zero, List.set_cons_succ]
      refine wpAny_skip (i := 9) rfl rfl (by kernel_rfl) (by kernel_rfl) (by kernel_rfl) (fun _ _ _ h => h) (by rfl) ?_
      simp only [Act.put, List.setIfInBounds_toArray, List.set_cons_zero, List.set_cons_succ]
      refine wpAny_skip (i := 10) rfl rfl (by kernel_rfl) (by kernel_rfl) (by kernel_rfl) (fun _ _ _ h => h) (by rfl) ?_
      simp only [Act.put, List.setIfInBounds_toArray, List.set_cons_zero, List.set_cons_succ]
      refine wpAny_yield (i := 11) (v := ?vc11) rfl rfl (by kernel_rfl) (by kernel_rfl) (by kernel_rfl) (fun _ _ _ h => h) (by rfl) ?hyc11 ?restc11
      case hyc11 =>
        intro w
        go_simp
        try with_reducible rfl
      simp only [Act.put, List.setIfInBounds_toArray, List.set_cons_zero, List.set_cons_succ]
      refine wpAny_yield (i := 12) (v := ?vc12) rfl rfl (by kernel_rfl) (by kernel_rfl) (by kernel_rfl) (fun _ _ _ h => h) (by rfl) ?hyc12 ?restc12
      case hyc12 =>
        intro w
        go_simp
        try with_reducible rfl
      simp only [Act.put, List.setIfInBounds_toArray, List.set_cons_zero, List.set_cons_succ]
      refine wpAny_done (by kernel_rfl) ?_ _
      have hb7 := hd7.trans (hg5.mono hd7.size)
      clear hg5 hd7 d0 d1 d2 d3 d4 hbq
      obtain ⟨d0, d1, d2, d3⟩ := HKc.out _ hb7
      go_wp2_with fail
      refine (room_any k0 c0 n0 0 _).mono ?_
      rintro e w9 ⟨rfl, hg9⟩
      rw [HR3.out]
      go_wp2
      go_ret
      exact ⟨rfl, by rw [hB]; exact HEnd2.out _ (hb7.trans (hg9.mono hb7.size))⟩
    · have hr2 := HR2.out hm2
      go_wp2_with fail
      go_region_held3 (fun w' => w'.cell? ⟨b5 + 1, 0, none⟩ = some (.int .i64 k0) ∧ w'.cell? ⟨b5 + 1, 1, none⟩ = some (.int .i64 c0) ∧ w'.cell? ⟨b5 + 1, 2, none⟩ = some (.int .i64 (n0 + 1)) ∧ w'.cell? ⟨b5 + 1, 3, none⟩ = some (.int .i64 v0) ∧ w'.cell? ⟨B, 1, none⟩ = some (.int .i64 c0) ∧ Below W4.heap.size W4 w')
        (first
          | exact HKb.out _ hd7
          | exact hS5
          | exact hS6)
        (first
          | (go_at_call 16; refine (may_any k0 c0 (n0 + 1) v0 _).mono ?_; rintro e w7 ⟨rfl, hg5⟩; have hb5 := hd7.trans (hg5.mono hd7.size); have hS5 := HKb.out _ hb5)
          | (go_at_call 18; refine (room_any k0 c0 (n0 + 1) v0 _).mono ?_; rintro e w8 ⟨rfl, hg6⟩; have hb6 := hb5.trans (hg6.mono hb5.size); have hS6 := HKb.out _ hb6))
      have hb7 := hb6
      clear hS5 hS6 hb5 hb6 hg5 hg6 hd7 d0 d1 d2 d3 d4 hbq
      obtain ⟨d0, d1, d2, d3⟩ := HKc.out _ hb7
      go_wp2_with fail
      refine (room_any k0 c0 n0 0 _).mono ?_
      rintro e w9 ⟨rfl, hg9⟩
      rw [HR3.out]
      go_wp2
      go_ret
      exact ⟨rfl, by rw [hB]; exact HEnd2.out _ (hb7.trans (hg9.mono hb7.size))⟩


theorem own : ownKnob Try.prog.godebug = none := by kernel_rfl
theorem laidOut : laidOutB Try.prog = true := by kernel_rfl
set_option maxRecDepth 100000 in
theorem lifted (os : Os) (started : os.Started) (H : Type) (enc : TypeId × Value → H) :
    ReturnsInHanded {} Try.checked os 6 .any (Rows.schemaRoomSpec.pre6 enc Try.prog Try.f6 Rows.schemaRoomRow.domain false) (Rows.schemaRoomSpec.post enc Try.prog Try.f6 false true false false) := by
  refine returnsInHanded_of_change (C := Try.checked) own started (by kernel_rfl) Try.func6
    (ChangeSpec.witness6 (enc := enc) (C := Try.checked) false ⟨#[], #[.agg #[.int .i64 0, .int .i64 0, .int .i64 0, .int .i64 0]], []⟩ 8 (by kernel_rfl) (by kernel_rfl) (by kernel_rfl) (by kernel_rfl)) ?_
  intro W base args ds gs before hval0 hW hcnd _
  have hval : ∀ (j : Nat) t v, Try.f6.params[j]? = some t → args[j]? = some v → Value.okWide Try.prog W .any base t v := hval0
  have hW' := hW
  obtain ⟨p, q, hA0, hV, rfl, hfz, hnd⟩ := hW
  have hA : DataW.TrodAll enc Try.prog W 0 (fun _ => true) true Try.f6.params.toList args.toList ds p := hA0
  rw [Try.params6] at hA hval
  obtain ⟨u0, vs0, e0, ds0, p0, q0, hargs, rfl, rfl, h0, t0⟩ := trodAll_cons hA
  obtain ⟨rfl, rfl, rfl⟩ := trodAll_nil t0
  obtain rfl : args = #[u0] := by cases args; simp_all
  obtain ⟨rfl, rfl⟩ := trodVars_none hV
  have y0 := h0
  have lt0 : ∀ x ∈ p0, x.block < W.heap.size := by obtain ⟨m, hm⟩ := y0; exact DataW.trod_lt m _ _ _ hm
  obtain ⟨k0, c0, n0, v0, rfl⟩ := open_sc (hval 0 25 u0 rfl rfl) h0
  clear hA0 hval0
  refine (walk k0 c0 n0 v0 W).mono fun e W' ⟨he, bel⟩ => ?_
  subst he
  exact ⟨_, rfl, _, _, _, [], _, [], hW', trodAll_mk1 (shut_bool Try.underlying4 _), (trodAll_cons_mk (Below.trod laidOut (by kernel_rfl) (of_decide_eq_true (by kernel_rfl)) y0 bel lt0) trodAll_mk0), rfl, bel.frame _, fun h => by cases h⟩

theorem over : Rows.schemaRoomRow.holds Try.pinned (OpenSpec.ofChange Rows.schemaRoomSpec) :=
  OpenClaim.holds_of_wide 6 Try.f6 rfl rfl rfl rfl rfl rfl rfl ⟨rfl, rfl, rfl, rfl, rfl⟩ rfl rfl rfl rfl rfl (by kernel_rfl) Try.func6 (by kernel_rfl)
    (of_decide_eq_true (by kernel_rfl)) (by unfold Func.isWrapper; first | (rw [if_pos (by decide +kernel)]; kernel_rfl) | (rw [if_neg (by decide +kernel)]; exact ⟨rfl, rfl⟩))
    (fun os started H enc _ => lifted os started H enc)

theorem proved : Rows.SchemaRoomSaid := over
#print axioms proved
end Go.Proofs.Ytbihfaplhjbfeaa.schemaRoom
