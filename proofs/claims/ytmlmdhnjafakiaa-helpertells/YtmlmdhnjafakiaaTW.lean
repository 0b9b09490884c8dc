/-
  What the fifth reference's Own returns, as a contract over the translated program: the same table, in memory of its own.
-/
import Derived.Test.YtmlmdhnjafakiaaTO
namespace Go.Proofs.Ytmlmdhnjafakiaa
open Go Go.RowKit

/- not too many entries, nor too many words -/
def fewE (es : List Ent) : Prop := es.length ≤ 40 ∧ ∀ e ∈ es, e.2.length ≤ 40
/- what Own leaves: a table in rows of its own -/
def OwnPost (s : Sc) (x : Int) (es : List Ent) (w : World) (e : Ending) (w' : World) : Prop :=
  ∃ v xs, e = .returned (tbV s v x) ∧ Below w.heap.size w w' ∧ w'.ownsRow (w.heap.size + 1) 48 2 v es.length xs ∧ Owned w' (w.heap.size + 1) v.ownBlock xs es
theorem own_start (w : World) (s : Sc) (u : Value) (x : Int) : Inv5 (w.alloc (tbO s u x)) (w.heap.size + 1 + 1) (w.heap.size + 1) s x (((w.alloc (tbO s u x)).alloc (.cells zeroTA 44)).alloc (tbO s (.slice none 0 0) x)) 0 (.slice none 0 0) [] [] := by
  have hR := Box.new (w.alloc (tbO s u x)) 44 zeroTA
  have hO := Box.new ((w.alloc (tbO s u x)).alloc (.cells zeroTA 44)) 44 (tbA s (.slice none 0 0) x)
  rw [show ((w.alloc (tbO s u x)).alloc (.cells zeroTA 44)).heap.size = w.heap.size + 1 + 1 by simp] at hO
  rw [show (w.alloc (tbO s u x)).heap.size = w.heap.size + 1 by simp] at hR
  exact ⟨World.ownsRow_nil _ _ _ _, Owned.nil _ _ _, hO, hR.alloc _, ((Below.refl _ _).alloc (Nat.le_refl _) _).alloc (by simp) _, by simp, by omega⟩
theorem take_ent (es : List Ent) (k : Nat) (key : Int) (ws : List Int) (h : k < es.length) (hi : es.getD k zeroE = (key, ws)) : es.take (k + 1) = es.take k ++ [(key, ws)] := by
  rw [take_getD es k zeroE h, hi]

theorem own_new {b : Option Addr} {l cp H : Nat} (h : ∀ z, b = some z → z.block = H) {g : Nat} (hg : (Value.slice b l cp).ownBlock = some g) : H ≤ g := by
  cases b with
  | none => cases hg
  | some z =>
    have e := h z rfl
    have e2 : z.block = g := by simpa [Value.ownBlock] using hg
    omega
set_option maxRecDepth 100000 in
set_option maxHeartbeats 40000000 in
theorem own_any (s : Sc) (a : Option Addr) (len cap : Nat) (x : Int) (es : List Ent) (w : World) (h : EntsAt w a len cap es) (hf : fewE es) :
    Calls Try.prog 32 #[tbV s (.slice a len cap) x] w (OwnPost s x es w) := by
  obtain ⟨iE, hiE, hz0, hz1, hz2⟩ := info_parts infoE
  have hm := h.max
  have hbw : Below w.heap.size w (w.alloc (tbO s (.slice a len cap) x)) := (Below.refl _ _).alloc (Nat.le_refl _) _
  obtain ⟨h1, h2, h3, h5⟩ := h
  have H1 := Lib.hid h1
  have H5 := Lib.hid h5
  have h40 : len ≤ 40 := by rw [← h1]; exact hf.1
  have HF := Lib.hid hf.2
  have HInv := Lib.hid (own_start w s (.slice a len cap) x)
  have HP0 := Lib.hid (Box.new w 44 (tbA s (.slice a len cap) x))
  have HS0 : Hid ((w.alloc (tbO s (.slice a len cap) x)).heap.size = w.heap.size + 1) := Lib.hid (by simp)
  have HBW := Lib.hid hbw
  clear h1 h5 hf hbw h3
  rcases s with ⟨s0, s1, s2, s3⟩
  go_enter Try.func32, Try.ntmps32
  go_wp2_with fail
  obtain ⟨W0, hW0⟩ : ∃ W0, w.alloc (.cells #[.int .i64 s0, .int .i64 s1, .int .i64 s2, .int .i64 s3, .slice a len cap, .int .u32 x] 44) = W0 := ⟨_, rfl⟩
  obtain ⟨W1, hW1⟩ : ∃ W1, (W0.alloc (.cells zeroTA 44)).alloc (.cells #[.int .i64 s0, .int .i64 s1, .int .i64 s2, .int .i64 s3, .slice none 0 0, .int .u32 x] 44) = W1 := ⟨_, rfl⟩
  have HInv1 : Hid (Inv5 W0 (w.heap.size + 1 + 1) (w.heap.size + 1) (s0, s1, s2, s3) x W1 0 (.slice none 0 0) [] []) := by rw [← hW1, ← hW0]; exact HInv
  have HP1 : Hid (Box W0 w.heap.size 44 #[.int .i64 s0, .int .i64 s1, .int .i64 s2, .int .i64 s3, .slice a len cap, .int .u32 x]) := by rw [← hW0]; exact HP0
  have HS1 : Hid (W0.heap.size = w.heap.size + 1) := by rw [← hW0]; exact HS0
  have HBW1 : Hid (Below w.heap.size w W0) := by rw [← hW0]; exact HBW
  clear HInv HP0 HS0 HBW
  rw [hW0, hW1]
  clear hW0 hW1
  obtain ⟨O, hO⟩ : ∃ O, w.heap.size + 1 + 1 = O := ⟨_, rfl⟩
  rw [hO] at HInv1 ⊢
  obtain ⟨R, hR⟩ : ∃ R, w.heap.size + 1 = R := ⟨_, rfl⟩
  rw [hR] at HInv1 ⊢
  have hPO : w.heap.size + 1 < O := by omega
  have hPR : w.heap.size < R := by omega
  have hRO : R < O := by omega
  have HRw : Hid (w.heap.size + 1 = R) := Lib.hid hR
  clear hO hR
  go_loopw [4] (fun i wr => ∃ (k : Nat) (v : Value) (xs : List Value), k ≤ len ∧ i = .int .i64 k ∧ Hid (Inv5 W0 O R (s0, s1, s2, s3) x wr k v xs (es.take k))) (fun i _ => len - (intOf i).toNat)
  case atStart => exact ⟨0, .slice none 0 0, [], by omega, rfl, HInv1⟩
  case round =>
    obtain ⟨k, v, xs, hk, rfl, HI⟩ := hrel
    clear HInv1
    have hb := HI.out.2.2.2.2.1
    have hbw := HBW1.out.trans (hb.mono HBW1.out.size)
    have cb : wr.cell? ⟨w.heap.size, 4, none⟩ = some (.slice a len cap) := (HP1.out.below hb HP1.out.lt).cell rfl
    have HBO := Lib.hid HI.out.2.2.1
    have cO : wr.cell? ⟨O, 4, none⟩ = some v := HBO.out.cell rfl
    have hlt : O < wr.heap.size := HBO.out.lt
    by_cases hkl : k < len
    · have hkI : (k : Int) < (len : Int) := by omega
      have hk0 : (0 : Int) ≤ (k : Int) := Int.natCast_nonneg _
      obtain ⟨y, rfl, hy⟩ := H5.out.resolve_left (by omega)
      have hI := hy k hkl
      have hyb := lt_of_cell hI.1
      have hl40 := HF.out _ (getD_mem es k zeroE (by rw [H1.out]; exact hkl))
      rcases hi : es.getD k zeroE with ⟨key, ws⟩
      rw [hi] at hI hl40
      have HIk := Lib.hid (take_ent es k key ws (by rw [H1.out]; exact hkl) hi)
      have HOk := Lib.hid hI.ok
      obtain ⟨iw0, _, b, l, cc, iw1, hWs⟩ := hI
      simp only at iw0 iw1 hWs hl40
      have HWs : Hid (WordsAt wr.drew b l cc ws) := Lib.hid (hWs.below (hbw.drew))
      have hl : ws.length = l := hWs.1
      rw [hl] at hl40
      have HL := Lib.hid hl
      have HK : Hid (∀ w', Below (w.heap.size + 1) wr w' → w'.cell? ⟨w.heap.size, 4, none⟩ = some (.slice (some y) len cap) ∧ w'.cell? (y.add (k * 2)) = some (.int .u32 key) ∧ w'.cell? ⟨(y.add (k * 2)).block, (y.add (k * 2)).off + 1, none⟩ = some (.slice b l cc) ∧ Below (w.heap.size + 1) wr w') := Lib.hid (fun w' h => ⟨(h.cell (p := ⟨w.heap.size, 4, none⟩) (by simp)).trans cb, (h.cell (by omega)).trans ((hbw.cell (lt_of_cell iw0)).trans iw0), (h.cell (p := ⟨(y.add (k * 2)).block, (y.add (k * 2)).off + 1, none⟩) (by show (y.add (k * 2)).block < _; omega)).trans ((hbw.cell (lt_of_cell iw1)).trans iw1), h⟩)
      have hP0 : Below (w.heap.size + 1) wr wr.drew := (Below.refl _ _).drew
      have hOwn := HI.out.1
      have hnv : v.ownBlock = none ∨ v.ownBlock ≠ none := by
        cases hv : v.ownBlock
        · exact .inl rfl
        · exact .inr (by simp)
      have hvB : ∀ g, v.ownBlock = some g → O + 1 ≤ g := fun g hg => (HI.out.1.lt g hg).1
      have hne2 : some O ≠ v.ownBlock := fun h => by have := hvB _ h.symm; omega
      clear hi hl iw0 iw1 hb hbw hWs hy
      go_wp2_with fail
      refine wp_region_held_drew (S := (fun w' => w'.cell? ⟨w.heap.size, 4, none⟩ = some (.slice (some y) len cap) ∧ w'.cell? (y.add (k * 2)) = some (.int .u32 key) ∧ w'.cell? ⟨(y.add (k * 2)).block, (y.add (k * 2)).off + 1, none⟩ = some (.slice b l cc) ∧ Below (w.heap.size + 1) wr w')) (by kernel_rfl) (HK.out _ hP0) (fun hHeld => ?_)
      refine wpAnyH_yield (i := 0) (v := ?v0) rfl rfl (by kernel_rfl) (by kernel_rfl) (by kernel_rfl) (fun _ _ _ h => h) (by rfl) ?hy0 hHeld ?rest0
      case hy0 =>
        intro w hSw
        (try dsimp only at hSw)
        go_simp
        try with_reducible rfl
      simp only [Act.put, List.setIfInBounds_toArray, List.set_cons_zero, List.set_cons_succ]
      refine wpAnyH_yield (i := 2) (v := ?v2) rfl rfl (by kernel_rfl) (by kernel_rfl) (by kernel_rfl) (fun _ _ _ h => h) (by rfl) ?hy2 hHeld ?rest2
      case hy2 =>
        intro w hSw
        (try dsimp only at hSw)
        go_simp
        try with_reducible rfl
      simp only [Act.put, List.setIfInBounds_toArray, List.set_cons_zero, List.set_cons_succ]
      refine wpAnyH_yield (i := 3) (v := ?v3) rfl rfl (by kernel_rfl) (by kernel_rfl) (by kernel_rfl) (fun _ _ _ h => h) (by rfl) ?hy3 hHeld ?rest3
      case hy3 =>
        intro w hSw
        (try dsimp only at hSw)
        go_simp
        try with_reducible rfl
      simp only [Act.put, List.setIfInBounds_toArray, List.set_cons_zero, List.set_cons_succ]
      refine wpAnyH_yield (i := 4) (v := ?v4) rfl rfl (by kernel_rfl) (by kernel_rfl) (by kernel_rfl) (fun _ _ _ h => h) (by rfl) ?hy4 hHeld ?rest4
      case hy4 =>
        intro w hSw
        (try dsimp only at hSw)
        go_simp
        try with_reducible rfl
      simp only [Act.put, List.setIfInBounds_toArray, List.set_cons_zero, List.set_cons_succ]
      refine wpAnyH_yield (i := 5) (v := ?v5) rfl rfl (by kernel_rfl) (by kernel_rfl) (by kernel_rfl) (fun _ _ _ h => h) (by rfl) ?hy5 hHeld ?rest5
      case hy5 =>
        intro w hSw
        (try dsimp only at hSw)
        go_simp
        try with_reducible rfl
      simp only [Act.put, List.setIfInBounds_toArray, List.set_cons_zero, List.set_cons_succ]
      refine wpAnyH_yield (i := 6) (v := ?v6) rfl rfl (by kernel_rfl) (by kernel_rfl) (by kernel_rfl) (fun _ _ _ h => h) (by rfl) ?hy6 hHeld ?rest6
      case hy6 =>
        intro w hSw
        (try dsimp only at hSw)
        go_simp
        try with_reducible rfl
      simp only [Act.put, List.setIfInBounds_toArray, List.set_cons_zero, List.set_cons_succ]
      refine wpAnyH_yield (i := 7) (v := ?v7) rfl rfl (by kernel_rfl) (by kernel_rfl) (by kernel_rfl) (fun _ _ _ h => h) (by rfl) ?hy7 hHeld ?rest7
      case hy7 =>
        intro w hSw
        (try dsimp only at hSw)
        go_simp
        try with_reducible rfl
      simp only [Act.put, List.setIfInBounds_toArray, List.set_cons_zero, List.set_cons_succ]
      refine wpAnyH_yield (i := 8) (v := ?v8) rfl rfl (by kernel_rfl) (by kernel_rfl) (by kernel_rfl) (fun _ _ _ h => h) (by rfl) ?hy8 hHeld ?rest8
      case hy8 =>
        intro w hSw
        (try dsimp only at hSw)
        go_simp
        try with_reducible rfl
      simp only [Act.put, List.setIfInBounds_toArray, List.set_cons_zero, List.set_cons_succ]
      refine wpAnyH_yield (i := 9) (v := ?v9) rfl rfl (by kernel_rfl) (by kernel_rfl) (by kernel_rfl) (fun _ _ _ h => h) (by rfl) ?hy9 hHeld ?rest9
      case hy9 =>
        intro w hSw
        (try dsimp only at hSw)
        go_simp
        try with_reducible rfl
      simp only [Act.put, List.setIfInBounds_toArray, List.set_cons_zero, List.set_cons_succ]
      refine wpAnyH_yield (i := 10) (v := ?v10) rfl rfl (by kernel_rfl) (by kernel_rfl) (by kernel_rfl) (fun _ _ _ h => h) (by rfl) ?hy10 hHeld ?rest10
      case hy10 =>
        intro w hSw
        (try dsimp only at hSw)
        go_simp
        try with_reducible rfl
      simp only [Act.put, List.setIfInBounds_toArray, List.set_cons_zero, List.set_cons_succ]
      refine wpAnyH_yield (i := 11) (v := ?v11) rfl rfl (by kernel_rfl) (by kernel_rfl) (by kernel_rfl) (fun _ _ _ h => h) (by rfl) ?hy11 hHeld ?rest11
      case hy11 =>
        intro w hSw
        (try dsimp only at hSw)
        go_simp
        try with_reducible rfl
      simp only [Act.put, List.setIfInBounds_toArray, List.set_cons_zero, List.set_cons_succ]
      refine wpAnyH_yield (i := 12) (v := ?v12) rfl rfl (by kernel_rfl) (by kernel_rfl) (by kernel_rfl) (fun _ _ _ h => h) (by rfl) ?hy12 hHeld ?rest12
      case hy12 =>
        intro w hSw
        (try dsimp only at hSw)
        go_simp
        try with_reducible rfl
      simp only [Act.put, List.setIfInBounds_toArray, List.set_cons_zero, List.set_cons_succ]
      refine wpAnyH_yield (i := 13) (v := ?v13) rfl rfl (by kernel_rfl) (by kernel_rfl) (by kernel_rfl) (fun _ _ _ h => h) (by rfl) ?hy13 hHeld ?rest13
      case hy13 =>
        intro w hSw
        (try dsimp only at hSw)
        go_simp
        try with_reducible rfl
      simp only [Act.put, List.setIfInBounds_toArray, List.set_cons_zero, List.set_cons_succ]
      refine wpAnyH_ready (rs := [1, 14]) (by kernel_rfl) (by simp) ?_
      refine AllReadyH.cons rfl (fun K hK => ?_) ?_
      · go_simp
        refine hK.out _ _ (HK.out _ hP0) (fun hHeld => ?_)
        clear hK K
        try simp only [Act.put, List.setIfInBounds_toArray, List.set_cons_zero, List.set_cons_succ]
        refine wpAnyH_ready (rs := [14]) (by kernel_rfl) (by simp) ?_
        refine AllReadyH.cons rfl (fun K hK => ?_) AllReadyH.nil
        refine step_copyW wr.drew (by rfl) _ _ (by rfl) (by rfl) (by rfl) (by rfl) b l cc ws (by rfl) HWs.out (by omega) (O + 1) (by simp; omega) wr.heap.size (by simp) ?_
        intro b4 cp4 w4 hown4 hgrow4 hat4
        have hB4 : Below wr.heap.size wr w4 := ⟨hgrow4.os, hgrow4.tape, hgrow4.output, hgrow4.size, fun j hj => hgrow4.block j hj (by simp)⟩
        have hP4 : Below (w.heap.size + 1) wr w4 := hB4.mono (by omega)
        have HX4 := Lib.hid (HBO.out.below hB4 HBO.out.lt)
        have cO4 : w4.cell? ⟨O, 4, none⟩ = some v := HX4.out.cell rfl
        have hlt4 : O < w4.heap.size := HX4.out.lt
        refine hK.out _ _ (HK.out _ hP4) (fun hHeld => ?_)
        clear hK K
        try simp only [Act.put, List.setIfInBounds_toArray, List.set_cons_zero, List.set_cons_succ]
        refine wpAnyH_yield (i := 15) (v := ?va15) rfl rfl (by kernel_rfl) (by kernel_rfl) (by kernel_rfl) (fun _ _ _ h => h) (by rfl) ?hya15 hHeld ?resta15
        case hya15 =>
          intro w hSw
          (try dsimp only at hSw)
          go_simp
          try with_reducible rfl
        simp only [Act.put, List.setIfInBounds_toArray, List.set_cons_zero, List.set_cons_succ]
        have hP5 : Below (w.heap.size + 1) wr (w4.alloc (.cells #[.int .u32 key, .slice b4 l cp4] 48)) := hP4.alloc (by omega) _
        have cO5 : (w4.alloc (.cells #[.int .u32 key, .slice b4 l cp4] 48)).cell? ⟨O, 4, none⟩ = some v := (HX4.out.alloc _).cell rfl
        refine wpAnyH_ready (rs := [16]) (by kernel_rfl) (by simp) ?_
        refine AllReadyH.cons rfl (fun K hK => ?_) AllReadyH.nil
        go_simp
        refine hK.out _ _ (HK.out _ hP5) (fun hHeld => ?_)
        clear hK K
        try simp only [Act.put, List.setIfInBounds_toArray, List.set_cons_zero, List.set_cons_succ]
        refine wpAnyH_ready (rs := [17]) (by kernel_rfl) (by simp) ?_
        refine AllReadyH.cons rfl (fun K hK => ?_) AllReadyH.nil
        refine step_lies (w4.alloc (.cells #[.int .u32 key, .slice b4 l cp4] 48)) (by rfl) _ _ _ (by rfl) (by rfl) (O + 1) 48 iE _ 2 32 Try.underlying42 hiE hz0 hz1 hz2 rfl (by omega) v k xs (by rfl) ((hOwn.drew.kept hgrow4 hnv).alloc _) ⟨w4.heap.size, 0, none⟩ 1 1 [.int .u32 key, .slice b4 l cp4] (by rfl) (by rfl) (World.news_of_block (cs := #[.int .u32 key, .slice b4 l cp4]) (t := 48) (fr := (0, 0)) (heap_alloc_new w4 _)) (by simp [Value.oneCell']) (by omega) (by unfold maxLen; omega) (by omega) (by simp; omega) (w4.heap.size + 1) (by simp) ?_
        intro g6 cp6 w6 hown6 hgrow6 hat6 hlt6
        have HX6 := Lib.hid ((HX4.out.alloc (.cells #[.int .u32 key, .slice b4 l cp4] 48)).grown hgrow6 hne2)
        have hP6 : Below (w.heap.size + 1) wr w6 := hP5.grown hgrow6 (by simp; omega) (fun g hg => by have := hvB g hg; omega)
        have cO6 : w6.cell? ⟨O, 4, none⟩ = some v := HX6.out.cell rfl
        have fO6 : w6.frozen? ⟨O, 4, none⟩ = false := HX6.out.free 4
        have hP7 : Below (w.heap.size + 1) wr (w6.setCell ⟨O, 4, none⟩ (.slice (some ⟨g6, 0, none⟩) (k + 1) cp6)) := hP6.setCell (by simp; omega) _
        have HInv6 := Lib.hid (pushed5 HI.out hB4 (by rw [HL.out]; exact hown4) HOk.out (fun g hg => own_new hat4 hg) ((Below.refl w4.heap.size w4).alloc (Nat.le_refl _) (.cells #[.int .u32 key, .slice b4 l cp4] 48)) hown6 hgrow6 hat6 (by simp))
        rw [← HIk.out] at HInv6
        refine hK.out _ _ (HK.out _ hP6) (fun hHeld => ?_)
        clear hK K
        try simp only [Act.put, List.setIfInBounds_toArray, List.set_cons_zero, List.set_cons_succ]
        refine wpAnyH_yield (i := 18) (v := ?va18) rfl rfl (by kernel_rfl) (by kernel_rfl) (by kernel_rfl) (fun _ _ _ h => h) (by rfl) ?hya18 hHeld ?resta18
        case hya18 =>
          intro w hSw
          (try dsimp only at hSw)
          go_simp
          try with_reducible rfl
        simp only [Act.put, List.setIfInBounds_toArray, List.set_cons_zero, List.set_cons_succ]
        refine wpAnyH_ready (rs := [19]) (by kernel_rfl) (by simp) ?_
        refine AllReadyH.cons rfl (fun K hK => ?_) AllReadyH.nil
        go_simp
        refine hK.out _ _ (HK.out _ hP7) (fun hHeld => ?_)
        clear hK K
        try simp only [Act.put, List.setIfInBounds_toArray, List.set_cons_zero, List.set_cons_succ]
        refine wpAnyH_done (by kernel_rfl) ?_ _
        clear hown4 hgrow4 hat4 hB4 hP4 hP5 cO4 cO5 hown6 hgrow6 hat6 hlt6 hP6 hP7 cO6 fO6 HX4 HX6 hHeld
        go_wp2
        exact ⟨⟨k + 1, _, _, by omega, by go_num, HInv6⟩, by simp [intOf]; omega⟩
      refine AllReadyH.cons rfl (fun K hK => ?_) AllReadyH.nil
      refine step_copyW wr.drew (by rfl) _ _ (by rfl) (by rfl) (by rfl) (by rfl) b l cc ws (by rfl) HWs.out (by omega) (O + 1) (by simp; omega) wr.heap.size (by simp) ?_
      intro b4 cp4 w4 hown4 hgrow4 hat4
      have hB4 : Below wr.heap.size wr w4 := ⟨hgrow4.os, hgrow4.tape, hgrow4.output, hgrow4.size, fun j hj => hgrow4.block j hj (by simp)⟩
      have hP4 : Below (w.heap.size + 1) wr w4 := hB4.mono (by omega)
      have HX4 := Lib.hid (HBO.out.below hB4 HBO.out.lt)
      have cO4 : w4.cell? ⟨O, 4, none⟩ = some v := HX4.out.cell rfl
      have hlt4 : O < w4.heap.size := HX4.out.lt
      refine hK.out _ _ (HK.out _ hP4) (fun hHeld => ?_)
      clear hK K
      try simp only [Act.put, List.setIfInBounds_toArray, List.set_cons_zero, List.set_cons_succ]
      refine wpAnyH_yield (i := 15) (v := ?vb15) rfl rfl (by kernel_rfl) (by kernel_rfl) (by kernel_rfl) (fun _ _ _ h => h) (by rfl) ?hyb15 hHeld ?restb15
      case hyb15 =>
        intro w hSw
        (try dsimp only at hSw)
        go_simp
        try with_reducible rfl
      simp only [Act.put, List.setIfInBounds_toArray, List.set_cons_zero, List.set_cons_succ]
      have hP5 : Below (w.heap.size + 1) wr (w4.alloc (.cells #[.int .u32 key, .slice b4 l cp4] 48)) := hP4.alloc (by omega) _
      have cO5 : (w4.alloc (.cells #[.int .u32 key, .slice b4 l cp4] 48)).cell? ⟨O, 4, none⟩ = some v := (HX4.out.alloc _).cell rfl
      refine wpAnyH_ready (rs := [1, 16]) (by kernel_rfl) (by simp) ?_
      refine AllReadyH.cons rfl (fun K hK => ?_) ?_
      · go_simp
        refine hK.out _ _ (HK.out _ hP4) (fun hHeld => ?_)
        clear hK K
        try simp only [Act.put, List.setIfInBounds_toArray, List.set_cons_zero, List.set_cons_succ]
        refine wpAnyH_ready (rs := [16]) (by kernel_rfl) (by simp) ?_
        refine AllReadyH.cons rfl (fun K hK => ?_) AllReadyH.nil
        go_simp
        refine hK.out _ _ (HK.out _ hP5) (fun hHeld => ?_)
        clear hK K
        try simp only [Act.put, List.setIfInBounds_toArray, List.set_cons_zero, List.set_cons_succ]
        refine wpAnyH_ready (rs := [17]) (by kernel_rfl) (by simp) ?_
        refine AllReadyH.cons rfl (fun K hK => ?_) AllReadyH.nil
        refine step_lies (w4.alloc (.cells #[.int .u32 key, .slice b4 l cp4] 48)) (by rfl) _ _ _ (by rfl) (by rfl) (O + 1) 48 iE _ 2 32 Try.underlying42 hiE hz0 hz1 hz2 rfl (by omega) v k xs (by rfl) ((hOwn.drew.kept hgrow4 hnv).alloc _) ⟨w4.heap.size, 0, none⟩ 1 1 [.int .u32 key, .slice b4 l cp4] (by rfl) (by rfl) (World.news_of_block (cs := #[.int .u32 key, .slice b4 l cp4]) (t := 48) (fr := (0, 0)) (heap_alloc_new w4 _)) (by simp [Value.oneCell']) (by omega) (by unfold maxLen; omega) (by omega) (by simp; omega) (w4.heap.size + 1) (by simp) ?_
        intro g6 cp6 w6 hown6 hgrow6 hat6 hlt6
        have HX6 := Lib.hid ((HX4.out.alloc (.cells #[.int .u32 key, .slice b4 l cp4] 48)).grown hgrow6 hne2)
        have hP6 : Below (w.heap.size + 1) wr w6 := hP5.grown hgrow6 (by simp; omega) (fun g hg => by have := hvB g hg; omega)
        have cO6 : w6.cell? ⟨O, 4, none⟩ = some v := HX6.out.cell rfl
        have fO6 : w6.frozen? ⟨O, 4, none⟩ = false := HX6.out.free 4
        have hP7 : Below (w.heap.size + 1) wr (w6.setCell ⟨O, 4, none⟩ (.slice (some ⟨g6, 0, none⟩) (k + 1) cp6)) := hP6.setCell (by simp; omega) _
        have HInv6 := Lib.hid (pushed5 HI.out hB4 (by rw [HL.out]; exact hown4) HOk.out (fun g hg => own_new hat4 hg) ((Below.refl w4.heap.size w4).alloc (Nat.le_refl _) (.cells #[.int .u32 key, .slice b4 l cp4] 48)) hown6 hgrow6 hat6 (by simp))
        rw [← HIk.out] at HInv6
        refine hK.out _ _ (HK.out _ hP6) (fun hHeld => ?_)
        clear hK K
        try simp only [Act.put, List.setIfInBounds_toArray, List.set_cons_zero, List.set_cons_succ]
        refine wpAnyH_yield (i := 18) (v := ?vb18) rfl rfl (by kernel_rfl) (by kernel_rfl) (by kernel_rfl) (fun _ _ _ h => h) (by rfl) ?hyb18 hHeld ?restb18
        case hyb18 =>
          intro w hSw
          (try dsimp only at hSw)
          go_simp
          try with_reducible rfl
        simp only [Act.put, List.setIfInBounds_toArray, List.set_cons_zero, List.set_cons_succ]
        refine wpAnyH_ready (rs := [19]) (by kernel_rfl) (by simp) ?_
        refine AllReadyH.cons rfl (fun K hK => ?_) AllReadyH.nil
        go_simp
        refine hK.out _ _ (HK.out _ hP7) (fun hHeld => ?_)
        clear hK K
        try simp only [Act.put, List.setIfInBounds_toArray, List.set_cons_zero, List.set_cons_succ]
        refine wpAnyH_done (by kernel_rfl) ?_ _
        clear hown4 hgrow4 hat4 hB4 hP4 hP5 cO4 cO5 hown6 hgrow6 hat6 hlt6 hP6 hP7 cO6 fO6 HX4 HX6 hHeld
        go_wp2
        exact ⟨⟨k + 1, _, _, by omega, by go_num, HInv6⟩, by simp [intOf]; omega⟩
      refine AllReadyH.cons rfl (fun K hK => ?_) AllReadyH.nil
      go_simp
      refine hK.out _ _ (HK.out _ hP5) (fun hHeld => ?_)
      clear hK K
      try simp only [Act.put, List.setIfInBounds_toArray, List.set_cons_zero, List.set_cons_succ]
      refine wpAnyH_ready (rs := [1]) (by kernel_rfl) (by simp) ?_
      refine AllReadyH.cons rfl (fun K hK => ?_) AllReadyH.nil
      go_simp
      refine hK.out _ _ (HK.out _ hP5) (fun hHeld => ?_)
      clear hK K
      try simp only [Act.put, List.setIfInBounds_toArray, List.set_cons_zero, List.set_cons_succ]
      refine wpAnyH_ready (rs := [17]) (by kernel_rfl) (by simp) ?_
      refine AllReadyH.cons rfl (fun K hK => ?_) AllReadyH.nil
      refine step_lies (w4.alloc (.cells #[.int .u32 key, .slice b4 l cp4] 48)) (by rfl) _ _ _ (by rfl) (by rfl) (O + 1) 48 iE _ 2 32 Try.underlying42 hiE hz0 hz1 hz2 rfl (by omega) v k xs (by rfl) ((hOwn.drew.kept hgrow4 hnv).alloc _) ⟨w4.heap.size, 0, none⟩ 1 1 [.int .u32 key, .slice b4 l cp4] (by rfl) (by rfl) (World.news_of_block (cs := #[.int .u32 key, .slice b4 l cp4]) (t := 48) (fr := (0, 0)) (heap_alloc_new w4 _)) (by simp [Value.oneCell']) (by omega) (by unfold maxLen; omega) (by omega) (by simp; omega) (w4.heap.size + 1) (by simp) ?_
      intro g6 cp6 w6 hown6 hgrow6 hat6 hlt6
      have HX6 := Lib.hid ((HX4.out.alloc (.cells #[.int .u32 key, .slice b4 l cp4] 48)).grown hgrow6 hne2)
      have hP6 : Below (w.heap.size + 1) wr w6 := hP5.grown hgrow6 (by simp; omega) (fun g hg => by have := hvB g hg; omega)
      have cO6 : w6.cell? ⟨O, 4, none⟩ = some v := HX6.out.cell rfl
      have fO6 : w6.frozen? ⟨O, 4, none⟩ = false := HX6.out.free 4
      have hP7 : Below (w.heap.size + 1) wr (w6.setCell ⟨O, 4, none⟩ (.slice (some ⟨g6, 0, none⟩) (k + 1) cp6)) := hP6.setCell (by simp; omega) _
      have HInv6 := Lib.hid (pushed5 HI.out hB4 (by rw [HL.out]; exact hown4) HOk.out (fun g hg => own_new hat4 hg) ((Below.refl w4.heap.size w4).alloc (Nat.le_refl _) (.cells #[.int .u32 key, .slice b4 l cp4] 48)) hown6 hgrow6 hat6 (by simp))
      rw [← HIk.out] at HInv6
      refine hK.out _ _ (HK.out _ hP6) (fun hHeld => ?_)
      clear hK K
      try simp only [Act.put, List.setIfInBounds_toArray, List.set_cons_zero, List.set_cons_succ]
      refine wpAnyH_yield (i := 18) (v := ?vc18) rfl rfl (by kernel_rfl) (by kernel_rfl) (by kernel_rfl) (fun _ _ _ h => h) (by rfl) ?hyc18 hHeld ?restc18
      case hyc18 =>
        intro w hSw
        (try dsimp only at hSw)
        go_simp
        try with_reducible rfl
      simp only [Act.put, List.setIfInBounds_toArray, List.set_cons_zero, List.set_cons_succ]
      refine wpAnyH_ready (rs := [19]) (by kernel_rfl) (by simp) ?_
      refine AllReadyH.cons rfl (fun K hK => ?_) AllReadyH.nil
      go_simp
      refine hK.out _ _ (HK.out _ hP7) (fun hHeld => ?_)
      clear hK K
      try simp only [Act.put, List.setIfInBounds_toArray, List.set_cons_zero, List.set_cons_succ]
      refine wpAnyH_done (by kernel_rfl) ?_ _
      clear hown4 hgrow4 hat4 hB4 hP4 hP5 cO4 cO5 hown6 hgrow6 hat6 hlt6 hP6 hP7 cO6 fO6 HX4 HX6 hHeld
      go_wp2
      exact ⟨⟨k + 1, _, _, by omega, by go_num, HInv6⟩, by simp [intOf]; omega⟩
    · have hkI : ¬ (k : Int) < (len : Int) := by omega
      have hkn : k = len := by omega
      have HE : Hid (es.take k = es) := Lib.hid (List.take_of_length_le (by rw [H1.out]; omega))
      rw [HE.out] at HI
      have HKN := Lib.hid hkn
      have HBR := Lib.hid HI.out.2.2.2.1
      obtain ⟨b, cp, hv, _⟩ := ents_own (by rw [H1.out]; exact hkn.symm) HI.out.1 HI.out.2.1
      subst hv
      obtain ⟨d0, d1, d2, d3, d4, d5⟩ := HBO.out.tb
      simp only at d0 d1 d2 d3 d4 d5
      clear hkn
      go_wp2_with (refine wpList_store_row rfl 44 _ _ rfl R _ rfl rfl 44 _ HBR.out (by kernel_rfl) rfl (by simp [Value.oneCell']) ?_)
      refine bodyPost_ret (v := tbV (s0, s1, s2, s3) (.slice b k cp) x) ?_ rfl ?_
      · exact results_cell_row Try.results32 _ _ R 44 _ (0, 0) _ rfl (setRow_heap _ _ _ _ _ _ HBR.out) Try.underlying44 rfl (by kernel_rfl)
      · obtain ⟨hO, hCd, hBO, hBR', hb', hR1, hR2⟩ := HI.out
        have hgr := grownBy_setRow wr R (tbA (s0, s1, s2, s3) (.slice b k cp) x)
        have hlk : es.length = k := by rw [H1.out, HKN.out]
        refine ⟨_, xs, rfl, HBW1.out.trans ((below_setRow hb' hR1 _).mono HBW1.out.size), ?_, ?_⟩
        · rw [hlk]
          exact own_base (own_far hO hgr (by omega)) (by omega)
        · exact (hCd.grown hgr (.inr (fun g hg => by have := Option.some.inj hg; omega)) (.inl rfl)).base (by omega)
end Go.Proofs.Ytmlmdhnjafakiaa
