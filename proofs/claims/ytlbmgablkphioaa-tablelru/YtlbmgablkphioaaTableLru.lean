/-
  Of keys that are set, one behind the other, an Lru has the last ones, each once, as many as it has room for, the last one last.
  Conditions: none.
-/
import Derived.Test.YtlbmgablkphioaaRows
import Derived.Test.YtlbmgablkphioaaX2
import Derived.Test.YtlbmgablkphioaaPL4
import Derived.WalkKit
import Derived.ProofKit
import Derived.OpenShut
import Derived.ChangeOld
import Derived.Below
namespace Go.Proofs.Ytlbmgablkphioaa.tableLru
open Go.ChangeShapes Go.WideShapes Go.ChangeAt Go.RowKit
set_option linter.unusedVariables false

end Go.Proofs.Ytlbmgablkphioaa.tableLru
namespace Go.Proofs.Ytlbmgablkphioaa
open Go Go.RowKit
set_option linter.unusedVariables false

def Want (W : World) (base : Nat) (v : Value) (wl : List Int) : Prop :=
  ∃ v0 wl0, W.ownsRow base 25 1 v0 wl0.length (wordsV wl0) ∧ wordL wl0 ∧ ((v = v0 ∧ wl = wl0) ∨ ∃ g n p, v0 = .slice (some ⟨g, 0, none⟩) (n + 1) (p + 1) ∧ v = .slice (some ⟨g, 1, none⟩) n p ∧ wl0.length = n + 1 ∧ wl = wl0.tail)
section
variable {w W W' : World} {base : Nat} {v : Value} {wl : List Int}
theorem Want.below (h : Want W base v wl) (hb : Below W.heap.size W W') : Want W' base v wl := by
  obtain ⟨v0, wl0, h1, h2⟩ := h
  exact ⟨v0, wl0, ownsRow_below h1 hb, h2⟩
theorem Want.apart {U : Nat} {cs : Array Value} (h : Want W base v wl) (hB : Box W U 27 cs) (hg : W.grownBy W' (some U)) : Want W' base v wl := by
  obtain ⟨v0, wl0, h1, h2⟩ := h
  exact ⟨v0, wl0, own_apart h1 (by decide) hB hg, h2⟩
theorem Want.nil (W : World) (base : Nat) : Want W base (.slice none 0 0) [] := ⟨_, [], World.ownsRow_nil _ _ _ _, wordL_nil, .inl ⟨rfl, rfl⟩⟩
theorem Want.of (h : W.ownsRow base 25 1 v wl.length (wordsV wl)) (hok : wordL wl) : Want W base v wl := ⟨v, wl, h, hok, .inl ⟨rfl, rfl⟩⟩
theorem Want.rest {g n p : Nat} (h : W.ownsRow base 25 1 (.slice (some ⟨g, 0, none⟩) (n + 1) p) wl.length (wordsV wl)) (hl : wl.length = n + 1) (hok : wordL wl) : Want W base (.slice (some ⟨g, 1, none⟩) n (p - 1)) wl.tail := by
  have hp : n + 1 ≤ p := by
    obtain ⟨_, ⟨h1, _⟩ | ⟨g', cap, cur, h1, _, _, hc, _⟩⟩ := h
    · cases h1
    · simp only [Value.slice.injEq] at h1
      omega
  refine ⟨_, wl, h, hok, .inr ⟨g, n, p - 1, ?_, rfl, hl, rfl⟩⟩
  rw [show p - 1 + 1 = p by omega]
theorem Want.words (h : Want W base v wl) : ∃ b p, v = .slice b wl.length p ∧ WordsAt W b wl.length p wl := by
  obtain ⟨v0, wl0, h1, hok, ⟨rfl, rfl⟩ | ⟨g, n, p, rfl, rfl, hl, rfl⟩⟩ := h
  · obtain ⟨b, cap, rfl, hW, _⟩ := words_own rfl hok h1
    exact ⟨b, cap, rfl, hW⟩
  · obtain ⟨b, cap, hv, ⟨e1, e2, e3, _, e5⟩, _⟩ := words_own rfl hok h1
    simp only [Value.slice.injEq] at hv
    obtain ⟨rfl, _, rfl⟩ := hv
    have hlt : wl0.tail.length = n := by simp [hl]
    refine ⟨some ⟨g, 1, none⟩, p, by rw [hlt], rfl, by omega, by omega, fun z hz => hok z (List.mem_of_mem_tail hz), .inr ⟨_, rfl, fun i hi => ?_⟩⟩
    obtain ⟨x, hx, hc⟩ := e5.resolve_left (by omega)
    have hxe : x = ⟨g, 0, none⟩ := (Option.some.inj hx).symm
    subst hxe
    have h2 := hc (i + 1) (by omega)
    have ea : (⟨g, 0, none⟩ : Addr).add (i + 1) = ⟨g, i + 1, none⟩ := addr_add g (i + 1)
    have eb : (⟨g, 1, none⟩ : Addr).add i = ⟨g, i + 1, none⟩ := by simp [Addr.add, Nat.add_comm]
    rw [ea] at h2
    rw [eb, h2]
    cases wl0 with
    | nil => simp at hl
    | cons z zs => simp [List.getD_eq_getElem?_getD]
end
/- a variable in block T that holds a table of one's own, beside a list of keys -/
def Vw (w W : World) (T : Nat) (t : Tb) (V wv : Value) (wl : List Int) : Prop := Below w.heap.size w W ∧ Box W T 27 (tbA t.1 V t.2.2) ∧ Row W w.heap.size V t.2.1 ∧ w.heap.size ≤ T ∧ Want W w.heap.size wv wl
section
variable {w W W' : World} {T T' : Nat} {t t' : Tb} {V u wv : Value} {wl : List Int} {cs cs' : Array Value}
theorem Vw.vr (h : Vw w W T t V wv wl) : Vr w W T t V := ⟨h.1, h.2.1, h.2.2.1, h.2.2.2.1⟩
theorem Vr.vw (h : Vr w W T t V) (hw : Want W w.heap.size wv wl) : Vw w W T t V wv wl := ⟨h.1, h.2.1, h.2.2.1, h.2.2.2, hw⟩
theorem Vw.later (h : Vw w W T t V wv wl) (hb : Below W.heap.size W W') : Vw w W' T t V wv wl := (h.vr.later hb).vw (h.2.2.2.2.below hb)
theorem Vw.ents {b : Option Addr} {n p : Nat} (h : Vw w W T t (.slice b n p) wv wl) : EntsAt W b n p t.2.1 := h.vr.ents
theorem Vw.put (h : Vw w W T t V wv wl) (hr : Row W w.heap.size u t'.2.1) : Vw w (W.setRow T (tbA t'.1 u t'.2.2)) T t' u wv wl := (h.vr.put hr).vw (h.2.2.2.2.apart h.2.1 (grownBy_setRow _ _ _))
theorem Vw.beside (h : Vw w W T t V wv wl) (hB : Box W T' 27 cs) (hT' : w.heap.size ≤ T') (hne : T ≠ T') : Vw w (W.setRow T' cs') T t V wv wl := (h.vr.beside hB hT' hne).vw (h.2.2.2.2.apart hB (grownBy_setRow _ _ _))
end
theorem leftL_word {wl : List Int} (h : wordL wl) (key : Int) : wordL (leftL wl key) := fun z hz => h z (List.mem_filter.1 hz).1
theorem wordsV_snoc (ws : List Int) (v : Int) : wordsV ws ++ [.int .u32 v] = wordsV (ws ++ [v]) := by simp [wordsV]
end Go.Proofs.Ytlbmgablkphioaa
namespace Go.Proofs.Ytlbmgablkphioaa.tableLru
open Go.ChangeShapes Go.WideShapes Go.ChangeAt Go.RowKit
set_option linter.unusedVariables false

set_option maxRecDepth 100000 in
set_option maxHeartbeats 8000000 in
theorem walk (a0 : Int) (w0 : (Lit.int .i64 a0).wf = true) (a1 : Option Addr) (len1 cap1 : Nat) (z1 : List Int) (w : World) (w1 : WordsAt w a1 len1 cap1 z1) :
    Calls Try.prog 7 #[.int .i64 a0, .slice a1 len1 cap1] w fun e w' => e = .returned (.bool true) ∧ Below w.heap.size w w' := by
  obtain ⟨jW, hiW, hy0, hy1, hy2⟩ := info_parts infoW
  have HWd := Lib.hid w1
  have hlm := w1.max
  clear w0 w1
  go_enter Try.func7, Try.ntmps7
  go_wp2_with fail
  refine (awake_any w).mono ?_
  rintro e m1 ⟨rfl, hb1⟩
  have HB := Lib.hid hb1
  clear hb1
  by_cases h40 : 40 < len1
  · have h40I : (40 : Int) < (len1 : Int) := by omega
    go_wp2_with fail
    go_ret
    exact ⟨rfl, HB.out⟩
  have h40I : ¬ (40 : Int) < (len1 : Int) := by omega
  go_wp2_with fail
  have c2 := tnew_any 2 a0 1 0 m1
  rcases hmay : mayT (2, a0, 1, 0) with _ | _
  · rw [show newT (2, a0, 1, 0) = zeroT by rw [newT, hmay]; rfl, show newE (2, a0, 1, 0) = 1 by rw [newE, hmay]; rfl] at c2
    refine c2.mono ?_
    rintro e m2 ⟨u, rfl, hb, hr0⟩
    clear c2
    have hr : Row m2 _ u [] := hr0
    obtain ⟨jb2, jp2, hu, hE⟩ := hr.at
    subst hu
    replace HB := Lib.hid (HB.out.trans (hb.mono HB.out.size))
    clear hr hr0 hE hb
    have hout : a0 < 1 ∨ ¬ a0 < 1 ∧ 16 < a0 := by
      by_cases h1 : a0 < 1
      · exact Or.inl h1
      · by_cases h2 : 16 < a0
        · exact Or.inr ⟨h1, h2⟩
        · rw [lru_mayT' (by omega) (by omega)] at hmay
          cases hmay
    clear hmay
    rcases hout with h1 | ⟨h1, h2⟩
    · go_wp2_with fail
      go_ret
      exact ⟨rfl, HB.out.alloc HB.out.size _⟩
    · go_wp2_with fail
      go_ret
      exact ⟨rfl, HB.out.alloc HB.out.size _⟩
  rw [show newT (2, a0, 1, 0) = ((2, a0, 1, 0), [], 0) by rw [newT, hmay]; rfl, show newE (2, a0, 1, 0) = 0 by rw [newE, hmay]; rfl] at c2
  have HVK : Hid (VK ((2, a0, 1, 0), [], 0)) := Lib.hid (by
    have := new_vk hmay (by show (2 : Int) ≠ 3; omega)
    rwa [show newT (2, a0, 1, 0) = ((2, a0, 1, 0), [], 0) by rw [newT, hmay]; rfl] at this)
  have hm2 := lru_mayT hmay
  obtain ⟨nc, hnc⟩ : ∃ nc : Nat, a0 = (nc : Int) := ⟨a0.toNat, by omega⟩
  have hnc1 : 1 ≤ nc := by omega
  have hnc16 : nc ≤ 16 := by omega
  have HNc := Lib.hid hnc
  clear hmay hnc hm2
  refine c2.mono ?_
  rintro e m2 ⟨u, rfl, hb, hr0⟩
  clear c2
  have hr : Row m2 _ u [] := hr0
  obtain ⟨jb2, jp2, hu, hE⟩ := hr.at
  subst hu
  clear hE
  have HV : Hid (Vw w (m2.alloc (.cells #[.int .i64 2, .int .i64 a0, .int .i64 1, .int .i64 0, .slice jb2 0 jp2, .int .u32 0] 27)) m2.heap.size ((2, a0, 1, 0), [], 0) (.slice jb2 0 jp2) (.slice none 0 0) []) := Lib.hid ((Vr.new (t := ((2, a0, 1, 0), [], 0)) (HB.out.trans (hb.mono HB.out.size)) hr HB.out.size).vw (Want.nil _ _))
  clear hr hr0 hb HB
  have hz : ((0 : Int) != 0) = false := by simp
  go_wp2_with fail
  clear hz
  generalize hW1 : m2.alloc (.cells #[.int .i64 2, .int .i64 a0, .int .i64 1, .int .i64 0, .slice jb2 0 jp2, .int .u32 0] 27) = W1 at *
  generalize hT : m2.heap.size = T at *
  clear hW1 hT
  go_loopw [8, 9] (fun s i wr => ∃ (k : Nat) (te : List Ent) (V : Value) (wb : Option Addr) (wn wp : Nat), k ≤ len1 ∧ wn ≤ nc ∧ i = .int .i64 k ∧ s = .slice wb wn wp ∧ Hid (VK ((2, a0, 1, 0), te, 0)) ∧ Hid (te.length = wn) ∧ Hid (Vw w wr T ((2, a0, 1, 0), te, 0) V (.slice wb wn wp) (keysOf te))) (fun _ i _ => len1 - (intOf i).toNat)
  case atStart => exact ⟨0, [], _, none, 0, 0, by omega, by omega, rfl, rfl, HVK, Lib.hid rfl, HV⟩
  case round =>
    obtain ⟨k, te, V, wb, wn, wp, hk, hwn, rfl, rfl, HVK2, HWn, HV2⟩ := hrel
    clear HV HVK
    have HV := HV2
    have HVK := HVK2
    clear HV2 HVK2
    obtain ⟨b, p, hq, hE⟩ := HV.out.vr.at
    simp only [HWn.out] at hq hE
    subst hq
    clear hE
    by_cases hkl : k < len1
    · have hkI : (k : Int) < (len1 : Int) := by omega
      obtain ⟨y, rfl, hx1⟩ := HWd.out.2.2.2.2.resolve_left (by omega)
      have hkey : isW (z1.getD k 0) := wordL_getD HWd.out.2.2.2.1 k
      have hc := hx1 k hkl
      obtain ⟨key, hkeq⟩ : ∃ key, z1.getD k 0 = key := ⟨_, rfl⟩
      rw [hkeq] at hc hkey
      have HKW := Lib.hid hkey
      have HC := Lib.hid hc
      have HKeep : Hid (∀ w', Vw w w' T ((2, a0, 1, 0), te, 0) (.slice b wn p) (.slice wb wn wp) (keysOf te) → w'.cell? ⟨T, 0, none⟩ = some (.int .i64 2) ∧ w'.cell? ⟨T, 1, none⟩ = some (.int .i64 a0) ∧ w'.cell? ⟨T, 2, none⟩ = some (.int .i64 1) ∧ w'.cell? ⟨T, 3, none⟩ = some (.int .i64 0) ∧ w'.cell? ⟨T, 4, none⟩ = some (.slice b wn p) ∧ w'.cell? ⟨T, 5, none⟩ = some (.int .u32 0) ∧ w'.cell? (y.add k) = some (.int .u32 key)) := Lib.hid (fun w' h => by
        obtain ⟨k0, k1, k2, k3, k4, k5⟩ := Box.tb (s := (2, a0, 1, 0)) h.2.1
        exact ⟨k0, k1, k2, k3, k4, k5, (h.1.cell (lt_of_cell hc)).trans hc⟩)
      clear hc hkey hkeq hx1
      have hkw : IntKind.u32.wrap (k : Int) = (k : Int) := by rw [wW]; omega
      have hls := lru_set (key := key) (v := (k : Int)) HVK.out rfl
      have hsl := set_law (t := ((2, a0, 1, 0), te, 0)) (key := key) (f := 0) (v := (k : Int)) hls.1 (by omega)
      have hsn := set_next (t := ((2, a0, 1, 0), te, 0)) (key := key) (f := 0) (v := (k : Int)) hls.1
      rcases hg : setT ((2, a0, 1, 0), te, 0) key 0 (k : Int) with ⟨⟨⟨c0, c1, c2, c3⟩, ce, cx⟩, cr⟩
      rw [hg] at hls hsl hsn
      simp only at hls hsl hsn
      obtain ⟨l1, l2, _⟩ := hsl
      obtain ⟨l4, l5⟩ := hls
      simp only [Prod.mk.injEq] at l1
      obtain ⟨e0, e1, e2, e3⟩ := l1
      replace e1 := e1.symm
      subst e0 e1 e2 e3 l4
      subst hsn
      have HSt := Lib.hid hg
      have HVC := Lib.hid l2
      have HCK := Lib.hid l5
      clear hg l2 l5
      obtain ⟨k0, k1, k2, k3, k4, k5, k6⟩ := HKeep.out _ HV.out
      go_wp2_with fail
      clear k0 k1 k2 k3 k4 k5 k6
      refine wp_region_held_drew (S := (fun w' => w'.cell? ⟨T, 0, none⟩ = some (.int .i64 2) ∧ w'.cell? ⟨T, 1, none⟩ = some (.int .i64 a0) ∧ w'.cell? ⟨T, 2, none⟩ = some (.int .i64 1) ∧ w'.cell? ⟨T, 3, none⟩ = some (.int .i64 0) ∧ w'.cell? ⟨T, 4, none⟩ = some (.slice b wn p) ∧ w'.cell? ⟨T, 5, none⟩ = some (.int .u32 0) ∧ w'.cell? (y.add k) = some (.int .u32 key))) (by kernel_rfl) (HKeep.out _ (HV.out.later ((Below.refl _ _).drew))) (fun hHeld => ?_)
      refine wpAnyH_yield (i := 0) (v := ?vr0) rfl rfl (by kernel_rfl) (by kernel_rfl) (by kernel_rfl) (fun _ _ _ h => h) (by rfl) ?hyr0 hHeld ?restr0
      case hyr0 =>
        intro w hSw
        (try dsimp only at hSw)
        go_simp
        try with_reducible rfl
      simp only [Act.put, List.setIfInBounds_toArray, List.set_cons_zero, List.set_cons_succ]
      refine wpAnyH_yield (i := 1) (v := ?vr1) rfl rfl (by kernel_rfl) (by kernel_rfl) (by kernel_rfl) (fun _ _ _ h => h) (by rfl) ?hyr1 hHeld ?restr1
      case hyr1 =>
        intro w hSw
        (try dsimp only at hSw)
        go_simp
        try with_reducible rfl
      simp only [Act.put, List.setIfInBounds_toArray, List.set_cons_zero, List.set_cons_succ]
      refine wpAnyH_yield (i := 2) (v := ?vr2) rfl rfl (by kernel_rfl) (by kernel_rfl) (by kernel_rfl) (fun _ _ _ h => h) (by rfl) ?hyr2 hHeld ?restr2
      case hyr2 =>
        intro w hSw
        (try dsimp only at hSw)
        go_simp
        try with_reducible rfl
      simp only [Act.put, List.setIfInBounds_toArray, List.set_cons_zero, List.set_cons_succ]
      refine wpAnyH_yield (i := 3) (v := ?vr3) rfl rfl (by kernel_rfl) (by kernel_rfl) (by kernel_rfl) (fun _ _ _ h => h) (by rfl) ?hyr3 hHeld ?restr3
      case hyr3 =>
        intro w hSw
        (try dsimp only at hSw)
        go_simp
        try with_reducible rfl
      simp only [Act.put, List.setIfInBounds_toArray, List.set_cons_zero, List.set_cons_succ]
      refine wpAnyH_yield (i := 4) (v := ?vr4) rfl rfl (by kernel_rfl) (by kernel_rfl) (by kernel_rfl) (fun _ _ _ h => h) (by rfl) ?hyr4 hHeld ?restr4
      case hyr4 =>
        intro w hSw
        (try dsimp only at hSw)
        go_simp
        try with_reducible rfl
      simp only [Act.put, List.setIfInBounds_toArray, List.set_cons_zero, List.set_cons_succ]
      refine wpAnyH_yield (i := 5) (v := ?vr5) rfl rfl (by kernel_rfl) (by kernel_rfl) (by kernel_rfl) (fun _ _ _ h => h) (by rfl) ?hyr5 hHeld ?restr5
      case hyr5 =>
        intro w hSw
        (try dsimp only at hSw)
        go_simp
        try with_reducible rfl
      simp only [Act.put, List.setIfInBounds_toArray, List.set_cons_zero, List.set_cons_succ]
      refine wpAnyH_yield (i := 6) (v := ?vr6) rfl rfl (by kernel_rfl) (by kernel_rfl) (by kernel_rfl) (fun _ _ _ h => h) (by rfl) ?hyr6 hHeld ?restr6
      case hyr6 =>
        intro w hSw
        (try dsimp only at hSw)
        go_simp
        try with_reducible rfl
      simp only [Act.put, List.setIfInBounds_toArray, List.set_cons_zero, List.set_cons_succ]
      refine wpAnyH_ready (rs := [7, 11]) (by kernel_rfl) (by simp) ?_
      refine AllReadyH.cons rfl (fun K hK => ?_) ?_
      · go_simp
        have cra := tset_any (2, a0, 1, 0) b wn p 0 te key 0 (k : Int) wr.drew (HV.out.ents.below ((Below.refl _ _).drew)) (may_few HVK.out.may) isW_zero HKW.out isW_zero ⟨by omega, by omega⟩
        rw [HSt.out] at cra
        refine cra.mono ?_
        rintro e mra ⟨u, rfl, hb, hr0⟩
        clear cra
        have HRra : Hid (Row mra wr.drew.heap.size u ce) := Lib.hid hr0
        obtain ⟨bra, pra, hu, _⟩ := HRra.out.at
        subst hu
        clear hr0
        have Hbbra := Lib.hid hb
        clear hb
        have HVra := Lib.hid ((HV.out.later (((Below.refl _ _).drew).trans Hbbra.out)))
        go_wp2_with fail
        refine hK.out _ _ (HKeep.out _ HVra.out) (fun hHeld => ?_)
        clear hK K
        try simp only [Act.put, List.setIfInBounds_toArray, List.set_cons_zero, List.set_cons_succ]
        refine wpAnyH_yield (i := 8) (v := ?vra8) rfl rfl (by kernel_rfl) (by kernel_rfl) (by kernel_rfl) (fun _ _ _ h => h) (by rfl) ?hyra8 hHeld ?restra8
        case hyra8 =>
          intro w hSw
          (try dsimp only at hSw)
          go_simp
          try with_reducible rfl
        simp only [Act.put, List.setIfInBounds_toArray, List.set_cons_zero, List.set_cons_succ]
        refine wpAnyH_yield (i := 9) (v := ?vra9) rfl rfl (by kernel_rfl) (by kernel_rfl) (by kernel_rfl) (fun _ _ _ h => h) (by rfl) ?hyra9 hHeld ?restra9
        case hyra9 =>
          intro w hSw
          (try dsimp only at hSw)
          go_simp
          try with_reducible rfl
        simp only [Act.put, List.setIfInBounds_toArray, List.set_cons_zero, List.set_cons_succ]
        refine wpAnyH_yield (i := 10) (v := ?vra10) rfl rfl (by kernel_rfl) (by kernel_rfl) (by kernel_rfl) (fun _ _ _ h => h) (by rfl) ?hyra10 hHeld ?restra10
        case hyra10 =>
          intro w hSw
          (try dsimp only at hSw)
          go_simp
          try with_reducible rfl
        simp only [Act.put, List.setIfInBounds_toArray, List.set_cons_zero, List.set_cons_succ]
        have HVra2 := Lib.hid (HVra.out.later (belowA mra (.cells #[.int .i64 0, .int .i64 0, .int .i64 0, .int .i64 0, .slice none 0 0, .int .u32 0] 27)))
        have HRra2 := Lib.hid (HRra.out.below (belowA mra (.cells #[.int .i64 0, .int .i64 0, .int .i64 0, .int .i64 0, .slice none 0 0, .int .u32 0] 27)))
        have HZra : Hid (Box (mra.alloc (.cells #[.int .i64 0, .int .i64 0, .int .i64 0, .int .i64 0, .slice none 0 0, .int .u32 0] 27)) mra.heap.size 27 zeroTA) := Lib.hid (Box.new _ _ _)
        refine wpAnyH_ready (rs := [11]) (by kernel_rfl) (by simp) ?_
        refine AllReadyH.cons rfl (fun K hK => ?_) AllReadyH.nil
        go_simp
        refine hK.out _ _ (HKeep.out _ HVra2.out) (fun hHeld => ?_)
        clear hK K
        try simp only [Act.put, List.setIfInBounds_toArray, List.set_cons_zero, List.set_cons_succ]
        have hszra : w.heap.size ≤ mra.heap.size := HVra.out.1.size
        have hnera0 : T ≠ mra.heap.size := by have := HVra.out.2.1.lt; omega
        have HVra3 := Lib.hid (HVra2.out.beside (cs' := #[.int .i64 2, .int .i64 a0, .int .i64 1, .int .i64 0, .slice bra ce.length pra, .int .u32 0]) HZra.out hszra hnera0)
        have HVsra : Hid (Vr w ((mra.alloc (.cells #[.int .i64 0, .int .i64 0, .int .i64 0, .int .i64 0, .slice none 0 0, .int .u32 0] 27)).setRow mra.heap.size #[.int .i64 2, .int .i64 a0, .int .i64 1, .int .i64 0, .slice bra ce.length pra, .int .u32 0]) mra.heap.size ((2, a0, 1, 0), ce, 0) (.slice bra ce.length pra)) := Lib.hid ((Vr.fresh HVra2.out.1 HZra.out hszra).put (t' := ((2, a0, 1, 0), ce, 0)) (HRra2.out.low (by have := HV.out.1.size; show w.heap.size ≤ wr.heap.size; exact this)))
        refine wpAnyH_ready (rs := [12]) (by kernel_rfl) (by simp) ?_
        refine AllReadyH.cons rfl (fun K hK => ?_) AllReadyH.nil
        refine step_row _ (by rfl) 27 _ _ (by rfl) (by rfl) (mra.heap.size) #[.int .i64 2, .int .i64 a0, .int .i64 1, .int .i64 0, .slice bra ce.length pra, .int .u32 0] (by rfl) (by rfl) 27 _ HZra.out (by kernel_rfl) rfl (by simp [Value.oneCell']) ?_
        refine hK.out _ _ (HKeep.out _ HVra3.out) (fun hHeld => ?_)
        clear hK K
        try simp only [Act.put, List.setIfInBounds_toArray, List.set_cons_zero, List.set_cons_succ]
        refine wpAnyH_yield (i := 13) (v := ?vra13) rfl rfl (by kernel_rfl) (by kernel_rfl) (by kernel_rfl) (fun _ _ _ h => h) (by rfl) ?hyra13 hHeld ?restra13
        case hyra13 =>
          intro w hSw
          (try dsimp only at hSw)
          go_simp
          try with_reducible rfl
        simp only [Act.put, List.setIfInBounds_toArray, List.set_cons_zero, List.set_cons_succ]
        refine wpAnyH_done (by kernel_rfl) ?_ _
        replace HV := HVra3
        clear HVra HVra2 HRra HZra Hbbra hszra hnera0 HRra2 HVra3
        have HS := HVsra
        clear HVsra
        generalize hX : World.setRow (mra.alloc (.cells #[.int .i64 0, .int .i64 0, .int .i64 0, .int .i64 0, .slice none 0 0, .int .u32 0] 27)) (mra.heap.size) #[.int .i64 2, .int .i64 a0, .int .i64 1, .int .i64 0, .slice bra ce.length pra, .int .u32 0] = Xra at *
        generalize hT1 : mra.heap.size = Tra at *
        clear hX hT1
        clear hHeld
        obtain ⟨k0, k1, k2, k3, k4, k5, k6⟩ := HKeep.out _ HV.out
        obtain ⟨q0, q1, q2, q3, q4, q5⟩ := Box.tb (s := (2, a0, 1, 0)) HS.out.2.1
        simp only at q0 q1 q2 q3 q4 q5
        have HBx := Lib.hid HV.out.2.1
        have HV5 := Lib.hid (HV.out.put (t' := ((2, a0, 1, 0), ce, 0)) HS.out.2.2.1)
        go_wp2_with (refine wpList_store_row rfl 27 _ _ rfl T _ rfl rfl 27 _ HBx.out (by kernel_rfl) rfl (by simp [Value.oneCell']) ?_)
        clear k0 k1 k2 k3 k4 k5 k6 q0 q1 q2 q3 q4 q5 HBx HV HS HKeep
        have HV := HV5
        clear HV5
        obtain ⟨W5, hW5⟩ : ∃ W5, World.setRow Xra T #[.int .i64 2, .int .i64 a0, .int .i64 1, .int .i64 0, .slice bra ce.length pra, .int .u32 0] = W5 := ⟨_, rfl⟩
        replace HV : Hid (Vw w W5 T ((2, a0, 1, 0), ce, 0) (.slice bra ce.length pra) (.slice wb wn wp) (keysOf te)) := by rw [← hW5]; exact HV
        try rw [hW5]
        clear hW5
        obtain ⟨H5, hH5⟩ : ∃ H5, W5.heap.size = H5 := ⟨_, rfl⟩
        go_loopw [12, 13] (fun s i wr => ∃ (j : Nat) (lb : Option Addr) (ln lp : Nat), j ≤ wn ∧ ln ≤ j ∧ i = .int .i64 j ∧ s = .slice lb ln lp ∧ Hid ((leftL ((keysOf te).take j) key).length = ln) ∧ Hid (wr.ownsRow H5 25 1 (.slice lb ln lp) ln (wordsV (leftL ((keysOf te).take j) key))) ∧ Hid (Below H5 W5 wr)) (fun _ i _ => wn - (intOf i).toNat)
        case atStart => exact ⟨0, none, 0, 0, by omega, by omega, rfl, rfl, Lib.hid (by simp [leftL]), Lib.hid (by simpa [leftL, wordsV] using World.ownsRow_nil _ _ _ _), Lib.hid (Below.refl _ _)⟩
        case round =>
          obtain ⟨j, lb, ln, lp, hj, hlj, rfl, rfl, HLn, HOw, HBe⟩ := hrel
          have HV6 : Hid (Vw w wr T ((2, a0, 1, 0), ce, 0) (.slice bra ce.length pra) (.slice wb wn wp) (keysOf te)) := Lib.hid (HV.out.later (by rw [hH5]; exact HBe.out))
          have hc := (HV6.out.1.cell (lt_of_cell HC.out)).trans HC.out
          have hsz : H5 ≤ wr.heap.size := by have := HBe.out.size; omega
          by_cases hjl : j < wn
          · have hjI : (j : Int) < (wn : Int) := by omega
            obtain ⟨b8, p8, hq8, hW8⟩ := HV6.out.2.2.2.2.words
            simp only [keys_len, HWn.out, Value.slice.injEq] at hq8 hW8
            obtain ⟨rfl, _, rfl⟩ := hq8
            obtain ⟨xw, rfl, hx8⟩ := hW8.2.2.2.2.resolve_left (by omega)
            have hcj := hx8 j hjl
            have hwj : isW ((keysOf te).getD j 0) := wordL_getD hW8.2.2.2.1 j
            have hst := leftL_take (want := keysOf te) (key := key) (k := j) (by rw [keys_len, HWn.out]; exact hjl)
            obtain ⟨wj, hwjq⟩ : ∃ wj, (keysOf te).getD j 0 = wj := ⟨_, rfl⟩
            rw [hwjq] at hcj hwj hst
            have HST := Lib.hid hst
            have HCJ := Lib.hid hcj
            clear hst hx8 hW8 hwjq hwj
            by_cases hwe : wj = key
            · rw [if_pos hwe] at HST
              have hne : (wj != key) = false := by simp [hwe]
              clear hwe
              go_wp2
              go_quiet (fail)
              have hb9 : Below wr.heap.size wr (wr.drewN nq) := below_of_quiet ⟨nq, rfl⟩
              go_wp2
              exact ⟨⟨j + 1, lb, ln, lp, by omega, by omega, by go_num, rfl, Lib.hid (by rw [HST.out]; exact HLn.out), Lib.hid (by rw [HST.out]; exact ownsRow_below HOw.out hb9), Lib.hid (HBe.out.trans (hb9.mono hsz))⟩, by simp [intOf]; omega⟩
            · rw [if_neg hwe] at HST
              have hne : (wj != key) = true := by simp [hwe]
              clear hwe
              go_wp2
              go_quiet (fail)
              have hb9 : Below wr.heap.size wr (wr.drewN nq) := below_of_quiet ⟨nq, rfl⟩
              have HO9 := Lib.hid (ownsRow_below HOw.out hb9)
              have HB9 := Lib.hid (HBe.out.trans (hb9.mono hsz))
              have hcj9 := (hb9.cell (lt_of_cell HCJ.out)).trans HCJ.out
              generalize hW9 : wr.drewN nq = W9 at *
              have hsz9 : H5 ≤ W9.heap.size := by have := HB9.out.size; omega
              clear hW9 hb9 hc hcj
              have HNew : Hid (Box (W9.alloc (.cells #[.int .u32 wj] 25)) W9.heap.size 25 #[.int .u32 wj]) := Lib.hid (Box.new _ _ _)
              go_wp2_with (at_builtin; refine wpList_append_lies _ rfl _ _ _ rfl H5 25 jW _ 1 4 Try.underlying45 hiW hy0 hy1 hy2 rfl (by omega) (.slice lb ln lp) ln (wordsV (leftL ((keysOf te).take j) key)) rfl (HO9.out.alloc (.cells #[.int .u32 wj] 25)) ⟨W9.heap.size, 0, none⟩ 1 1 [.int .u32 wj] rfl rfl (World.news_of_block HNew.out) (by simp [Value.oneCell']) (by omega) (by unfold maxLen; omega) (by omega) (by simp; omega) (W9.heap.size + 1) (by simp) ?_)
              intro g6 cp6 w6 hown6 hgrow6 hat6 hlt6
              have hb6 : Below H5 W5 w6 := (HB9.out.alloc hsz9 (.cells #[.int .u32 wj] 25)).grown hgrow6 (by simp; omega) (fun g hg => (HO9.out.lt g hg).1)
              rw [wordsV_snoc, ← HST.out] at hown6
              have HO6 := Lib.hid hown6
              have HB6 := Lib.hid hb6
              have HL6 : Hid ((leftL ((keysOf te).take (j + 1)) key).length = ln + 1) := Lib.hid (by rw [HST.out]; simp [HLn.out])
              clear hown6 hgrow6 hat6 hlt6 hb6 hcj9 HNew
              go_wp2
              exact ⟨⟨j + 1, some ⟨g6, 0, none⟩, ln + 1, cp6, by omega, by omega, by go_num, by first | rfl | go_num, HL6, HO6, HB6⟩, by simp [intOf]; omega⟩
          · have hjI : ¬ (j : Int) < (wn : Int) := by omega
            have hfull : (keysOf te).take j = keysOf te := List.take_of_length_le (by rw [keys_len, HWn.out]; omega)
            rw [hfull] at HLn HOw
            clear hfull
            obtain ⟨W9, hW9⟩ : ∃ W9, wr = W9 := ⟨_, rfl⟩
            subst hW9
            have HNew : Hid (Box (wr.alloc (.cells #[.int .u32 key] 25)) wr.heap.size 25 #[.int .u32 key]) := Lib.hid (Box.new _ _ _)
            have hc9 := ((belowA wr (.cells #[.int .u32 key] 25)).cell (lt_of_cell hc)).trans hc
            go_wp2_with (at_builtin; refine wpList_append_lies _ rfl _ _ _ rfl H5 25 jW _ 1 4 Try.underlying45 hiW hy0 hy1 hy2 rfl (by omega) (.slice lb ln lp) ln (wordsV (leftL (keysOf te) key)) rfl (HOw.out.alloc (.cells #[.int .u32 key] 25)) ⟨wr.heap.size, 0, none⟩ 1 1 [.int .u32 key] rfl rfl (World.news_of_block HNew.out) (by simp [Value.oneCell']) (by omega) (by unfold maxLen; omega) (by omega) (by simp; omega) (wr.heap.size + 1) (by simp) ?_)
            intro g6 cp6 w6 hown6 hgrow6 hat6 hlt6
            have hb6 : Below H5 W5 w6 := (HBe.out.alloc hsz (.cells #[.int .u32 key] 25)).grown hgrow6 (by simp; omega) (fun g hg => (HOw.out.lt g hg).1)
            rw [wordsV_snoc] at hown6
            have hll : (leftL (keysOf te) key ++ [key]).length = ln + 1 := by simp [HLn.out]
            have hok : wordL (leftL (keysOf te) key ++ [key]) := by
              obtain ⟨_, _, _, hW8⟩ := HV6.out.2.2.2.2.words
              exact wordL_append (leftL_word hW8.2.2.2.1 key) (fun z hz => by rw [List.mem_singleton.1 hz]; exact HKW.out)
            have HOK := Lib.hid hok
            have HLL := Lib.hid hll
            have HO6 : Hid (w6.ownsRow w.heap.size 25 1 (.slice (some ⟨g6, 0, none⟩) (ln + 1) cp6) (leftL (keysOf te) key ++ [key]).length (wordsV (leftL (keysOf te) key ++ [key]))) := Lib.hid (by rw [hll]; exact own_base hown6 (by rw [← hH5]; exact HV.out.1.size))
            have HV7 := Lib.hid (HV.out.later (by rw [hH5]; exact hb6))
            clear hown6 hgrow6 hat6 hlt6 hb6 hc9 hc HNew hll hok
            have hlc : ce.length = (wantL a0 (keysOf te) key).length := by rw [← HCK.out, keys_len]
            by_cases hcap : a0 < ((ln + 1 : Nat) : Int)
            · have hcI : a0 < (ln : Int) + 1 := by omega
              have hwt : keysOf ce = (leftL (keysOf te) key ++ [key]).tail := by rw [HCK.out, wantL, if_pos (by rw [HLL.out]; exact hcap)]
              have hcl : ce.length = ln := by rw [← keys_len, hwt, List.length_tail, HLL.out]; omega
              have HVz : Hid (Vw w w6 T ((2, a0, 1, 0), ce, 0) (.slice bra ce.length pra) (.slice (some ⟨g6, 1, none⟩) ln (cp6 - 1)) (keysOf ce)) := Lib.hid (HV7.out.vr.vw (by rw [hwt]; exact Want.rest HO6.out HLL.out HOK.out))
              have HCL := Lib.hid hcl
              have hcp : ln + 1 ≤ cp6 := by
                obtain ⟨_, ⟨h1, _⟩ | ⟨g', cap, cur, h1, _, _, hc, _⟩⟩ := HO6.out
                · cases h1
                · simp only [Value.slice.injEq] at h1
                  omega
              clear hwt hcl hlc
              have hlnc : ln ≤ nc := by have h1 := HVC.out.2.2.1; have h2 := HCL.out; have h3 := HNc.out; simp only at h1; omega
              go_wp2
              exact ⟨⟨k + 1, ce, _, some ⟨g6, 1, none⟩, ln, cp6 - 1, by omega, hlnc, by go_num, by rw [if_neg (by have := HNc.out; omega)], HVC, HCL, HVz⟩, by simp [intOf]; omega⟩
            · have hcI : ¬ a0 < (ln : Int) + 1 := by omega
              have hwt : keysOf ce = leftL (keysOf te) key ++ [key] := by rw [HCK.out, wantL, if_neg (by rw [HLL.out]; exact hcap)]
              have hcl : ce.length = ln + 1 := by rw [← keys_len, hwt, HLL.out]
              have HVz : Hid (Vw w w6 T ((2, a0, 1, 0), ce, 0) (.slice bra ce.length pra) (.slice (some ⟨g6, 0, none⟩) (ln + 1) cp6) (keysOf ce)) := Lib.hid (HV7.out.vr.vw (by rw [hwt]; exact Want.of HO6.out HOK.out))
              have HCL := Lib.hid hcl
              clear hwt hcl hlc
              have hlnc : ln + 1 ≤ nc := by have h3 := HNc.out; omega
              go_wp2
              exact ⟨⟨k + 1, ce, _, some ⟨g6, 0, none⟩, ln + 1, cp6, by omega, hlnc, by go_num, by first | rfl | go_num, HVC, HCL, HVz⟩, by simp [intOf]; omega⟩
      have HVrb0 := Lib.hid (HV.out.later (((Below.refl _ _).drew).trans (belowA wr.drew (.cells #[.int .i64 0, .int .i64 0, .int .i64 0, .int .i64 0, .slice none 0 0, .int .u32 0] 27))))
      have HZrb0 : Hid (Box (wr.drew.alloc (.cells #[.int .i64 0, .int .i64 0, .int .i64 0, .int .i64 0, .slice none 0 0, .int .u32 0] 27)) wr.heap.size 27 zeroTA) := Lib.hid (Box.new _ _ _)
      refine AllReadyH.cons rfl (fun K hK => ?_) AllReadyH.nil
      go_simp
      refine hK.out _ _ (HKeep.out _ HVrb0.out) (fun hHeld => ?_)
      clear hK K
      try simp only [Act.put, List.setIfInBounds_toArray, List.set_cons_zero, List.set_cons_succ]
      refine wpAnyH_ready (rs := [7]) (by kernel_rfl) (by simp) ?_
      refine AllReadyH.cons rfl (fun K hK => ?_) AllReadyH.nil
      go_simp
      have crb := tset_any (2, a0, 1, 0) b wn p 0 te key 0 (k : Int) (wr.drew.alloc (.cells #[.int .i64 0, .int .i64 0, .int .i64 0, .int .i64 0, .slice none 0 0, .int .u32 0] 27)) (HV.out.ents.below ((((Below.refl _ _).drew).trans (belowA wr.drew (.cells #[.int .i64 0, .int .i64 0, .int .i64 0, .int .i64 0, .slice none 0 0, .int .u32 0] 27))))) (may_few HVK.out.may) isW_zero HKW.out isW_zero ⟨by omega, by omega⟩
      rw [HSt.out] at crb
      refine crb.mono ?_
      rintro e mrb ⟨u, rfl, hb, hr0⟩
      clear crb
      have HRrb : Hid (Row mrb (wr.drew.alloc (.cells #[.int .i64 0, .int .i64 0, .int .i64 0, .int .i64 0, .slice none 0 0, .int .u32 0] 27)).heap.size u ce) := Lib.hid hr0
      obtain ⟨brb, prb, hu, _⟩ := HRrb.out.at
      subst hu
      clear hr0
      have Hbbrb := Lib.hid hb
      clear hb
      have HVrb := Lib.hid (HVrb0.out.later Hbbrb.out)
      have HZrb := Lib.hid (HZrb0.out.later Hbbrb.out)
      go_wp2_with fail
      refine hK.out _ _ (HKeep.out _ HVrb.out) (fun hHeld => ?_)
      clear hK K
      try simp only [Act.put, List.setIfInBounds_toArray, List.set_cons_zero, List.set_cons_succ]
      refine wpAnyH_yield (i := 8) (v := ?vrb8) rfl rfl (by kernel_rfl) (by kernel_rfl) (by kernel_rfl) (fun _ _ _ h => h) (by rfl) ?hyrb8 hHeld ?restrb8
      case hyrb8 =>
        intro w hSw
        (try dsimp only at hSw)
        go_simp
        try with_reducible rfl
      simp only [Act.put, List.setIfInBounds_toArray, List.set_cons_zero, List.set_cons_succ]
      refine wpAnyH_yield (i := 9) (v := ?vrb9) rfl rfl (by kernel_rfl) (by kernel_rfl) (by kernel_rfl) (fun _ _ _ h => h) (by rfl) ?hyrb9 hHeld ?restrb9
      case hyrb9 =>
        intro w hSw
        (try dsimp only at hSw)
        go_simp
        try with_reducible rfl
      simp only [Act.put, List.setIfInBounds_toArray, List.set_cons_zero, List.set_cons_succ]
      refine wpAnyH_yield (i := 10) (v := ?vrb10) rfl rfl (by kernel_rfl) (by kernel_rfl) (by kernel_rfl) (fun _ _ _ h => h) (by rfl) ?hyrb10 hHeld ?restrb10
      case hyrb10 =>
        intro w hSw
        (try dsimp only at hSw)
        go_simp
        try with_reducible rfl
      simp only [Act.put, List.setIfInBounds_toArray, List.set_cons_zero, List.set_cons_succ]
      have hszrb : w.heap.size ≤ wr.heap.size := HV.out.1.size
      have hnerb0 : T ≠ wr.heap.size := by have := HV.out.2.1.lt; omega
      have HVrb3 := Lib.hid (HVrb.out.beside (cs' := #[.int .i64 2, .int .i64 a0, .int .i64 1, .int .i64 0, .slice brb ce.length prb, .int .u32 0]) HZrb.out hszrb hnerb0)
      have HVsrb : Hid (Vr w (mrb.setRow wr.heap.size #[.int .i64 2, .int .i64 a0, .int .i64 1, .int .i64 0, .slice brb ce.length prb, .int .u32 0]) wr.heap.size ((2, a0, 1, 0), ce, 0) (.slice brb ce.length prb)) := Lib.hid ((Vr.fresh HVrb.out.1 HZrb.out hszrb).put (t' := ((2, a0, 1, 0), ce, 0)) (HRrb.out.low (by have := HV.out.1.size; simp; omega)))
      refine wpAnyH_ready (rs := [12]) (by kernel_rfl) (by simp) ?_
      refine AllReadyH.cons rfl (fun K hK => ?_) AllReadyH.nil
      refine step_row _ (by rfl) 27 _ _ (by rfl) (by rfl) (wr.heap.size) #[.int .i64 2, .int .i64 a0, .int .i64 1, .int .i64 0, .slice brb ce.length prb, .int .u32 0] (by rfl) (by rfl) 27 _ HZrb.out (by kernel_rfl) rfl (by simp [Value.oneCell']) ?_
      refine hK.out _ _ (HKeep.out _ HVrb3.out) (fun hHeld => ?_)
      clear hK K
      try simp only [Act.put, List.setIfInBounds_toArray, List.set_cons_zero, List.set_cons_succ]
      refine wpAnyH_yield (i := 13) (v := ?vrb13) rfl rfl (by kernel_rfl) (by kernel_rfl) (by kernel_rfl) (fun _ _ _ h => h) (by rfl) ?hyrb13 hHeld ?restrb13
      case hyrb13 =>
        intro w hSw
        (try dsimp only at hSw)
        go_simp
        try with_reducible rfl
      simp only [Act.put, List.setIfInBounds_toArray, List.set_cons_zero, List.set_cons_succ]
      refine wpAnyH_done (by kernel_rfl) ?_ _
      replace HV := HVrb3
      clear HVrb0 HVrb HRrb HZrb Hbbrb hszrb hnerb0 HZrb0 HVrb3
      have HS := HVsrb
      clear HVsrb
      generalize hX : World.setRow mrb (wr.heap.size) #[.int .i64 2, .int .i64 a0, .int .i64 1, .int .i64 0, .slice brb ce.length prb, .int .u32 0] = Xrb at *
      generalize hT1 : wr.heap.size = Trb at *
      clear hX hT1
      clear hHeld
      obtain ⟨k0, k1, k2, k3, k4, k5, k6⟩ := HKeep.out _ HV.out
      obtain ⟨q0, q1, q2, q3, q4, q5⟩ := Box.tb (s := (2, a0, 1, 0)) HS.out.2.1
      simp only at q0 q1 q2 q3 q4 q5
      have HBx := Lib.hid HV.out.2.1
      have HV5 := Lib.hid (HV.out.put (t' := ((2, a0, 1, 0), ce, 0)) HS.out.2.2.1)
      go_wp2_with (refine wpList_store_row rfl 27 _ _ rfl T _ rfl rfl 27 _ HBx.out (by kernel_rfl) rfl (by simp [Value.oneCell']) ?_)
      clear k0 k1 k2 k3 k4 k5 k6 q0 q1 q2 q3 q4 q5 HBx HV HS HKeep
      have HV := HV5
      clear HV5
      obtain ⟨W5, hW5⟩ : ∃ W5, World.setRow Xrb T #[.int .i64 2, .int .i64 a0, .int .i64 1, .int .i64 0, .slice brb ce.length prb, .int .u32 0] = W5 := ⟨_, rfl⟩
      replace HV : Hid (Vw w W5 T ((2, a0, 1, 0), ce, 0) (.slice brb ce.length prb) (.slice wb wn wp) (keysOf te)) := by rw [← hW5]; exact HV
      try rw [hW5]
      clear hW5
      obtain ⟨H5, hH5⟩ : ∃ H5, W5.heap.size = H5 := ⟨_, rfl⟩
      go_loopw [12, 13] (fun s i wr => ∃ (j : Nat) (lb : Option Addr) (ln lp : Nat), j ≤ wn ∧ ln ≤ j ∧ i = .int .i64 j ∧ s = .slice lb ln lp ∧ Hid ((leftL ((keysOf te).take j) key).length = ln) ∧ Hid (wr.ownsRow H5 25 1 (.slice lb ln lp) ln (wordsV (leftL ((keysOf te).take j) key))) ∧ Hid (Below H5 W5 wr)) (fun _ i _ => wn - (intOf i).toNat)
      case atStart => exact ⟨0, none, 0, 0, by omega, by omega, rfl, rfl, Lib.hid (by simp [leftL]), Lib.hid (by simpa [leftL, wordsV] using World.ownsRow_nil _ _ _ _), Lib.hid (Below.refl _ _)⟩
      case round =>
        obtain ⟨j, lb, ln, lp, hj, hlj, rfl, rfl, HLn, HOw, HBe⟩ := hrel
        have HV6 : Hid (Vw w wr T ((2, a0, 1, 0), ce, 0) (.slice brb ce.length prb) (.slice wb wn wp) (keysOf te)) := Lib.hid (HV.out.later (by rw [hH5]; exact HBe.out))
        have hc := (HV6.out.1.cell (lt_of_cell HC.out)).trans HC.out
        have hsz : H5 ≤ wr.heap.size := by have := HBe.out.size; omega
        by_cases hjl : j < wn
        · have hjI : (j : Int) < (wn : Int) := by omega
          obtain ⟨b8, p8, hq8, hW8⟩ := HV6.out.2.2.2.2.words
          simp only [keys_len, HWn.out, Value.slice.injEq] at hq8 hW8
          obtain ⟨rfl, _, rfl⟩ := hq8
          obtain ⟨xw, rfl, hx8⟩ := hW8.2.2.2.2.resolve_left (by omega)
          have hcj := hx8 j hjl
          have hwj : isW ((keysOf te).getD j 0) := wordL_getD hW8.2.2.2.1 j
          have hst := leftL_take (want := keysOf te) (key := key) (k := j) (by rw [keys_len, HWn.out]; exact hjl)
          obtain ⟨wj, hwjq⟩ : ∃ wj, (keysOf te).getD j 0 = wj := ⟨_, rfl⟩
          rw [hwjq] at hcj hwj hst
          have HST := Lib.hid hst
          have HCJ := Lib.hid hcj
          clear hst hx8 hW8 hwjq hwj
          by_cases hwe : wj = key
          · rw [if_pos hwe] at HST
            have hne : (wj != key) = false := by simp [hwe]
            clear hwe
            go_wp2
            go_quiet (fail)
            have hb9 : Below wr.heap.size wr (wr.drewN nq) := below_of_quiet ⟨nq, rfl⟩
            go_wp2
            exact ⟨⟨j + 1, lb, ln, lp, by omega, by omega, by go_num, rfl, Lib.hid (by rw [HST.out]; exact HLn.out), Lib.hid (by rw [HST.out]; exact ownsRow_below HOw.out hb9), Lib.hid (HBe.out.trans (hb9.mono hsz))⟩, by simp [intOf]; omega⟩
          · rw [if_neg hwe] at HST
            have hne : (wj != key) = true := by simp [hwe]
            clear hwe
            go_wp2
            go_quiet (fail)
            have hb9 : Below wr.heap.size wr (wr.drewN nq) := below_of_quiet ⟨nq, rfl⟩
            have HO9 := Lib.hid (ownsRow_below HOw.out hb9)
            have HB9 := Lib.hid (HBe.out.trans (hb9.mono hsz))
            have hcj9 := (hb9.cell (lt_of_cell HCJ.out)).trans HCJ.out
            generalize hW9 : wr.drewN nq = W9 at *
            have hsz9 : H5 ≤ W9.heap.size := by have := HB9.out.size; omega
            clear hW9 hb9 hc hcj
            have HNew : Hid (Box (W9.alloc (.cells #[.int .u32 wj] 25)) W9.heap.size 25 #[.int .u32 wj]) := Lib.hid (Box.new _ _ _)
            go_wp2_with (at_builtin; refine wpList_append_lies _ rfl _ _ _ rfl H5 25 jW _ 1 4 Try.underlying45 hiW hy0 hy1 hy2 rfl (by omega) (.slice lb ln lp) ln (wordsV (leftL ((keysOf te).take j) key)) rfl (HO9.out.alloc (.cells #[.int .u32 wj] 25)) ⟨W9.heap.size, 0, none⟩ 1 1 [.int .u32 wj] rfl rfl (World.news_of_block HNew.out) (by simp [Value.oneCell']) (by omega) (by unfold maxLen; omega) (by omega) (by simp; omega) (W9.heap.size + 1) (by simp) ?_)
            intro g6 cp6 w6 hown6 hgrow6 hat6 hlt6
            have hb6 : Below H5 W5 w6 := (HB9.out.alloc hsz9 (.cells #[.int .u32 wj] 25)).grown hgrow6 (by simp; omega) (fun g hg => (HO9.out.lt g hg).1)
            rw [wordsV_snoc, ← HST.out] at hown6
            have HO6 := Lib.hid hown6
            have HB6 := Lib.hid hb6
            have HL6 : Hid ((leftL ((keysOf te).take (j + 1)) key).length = ln + 1) := Lib.hid (by rw [HST.out]; simp [HLn.out])
            clear hown6 hgrow6 hat6 hlt6 hb6 hcj9 HNew
            go_wp2
            exact ⟨⟨j + 1, some ⟨g6, 0, none⟩, ln + 1, cp6, by omega, by omega, by go_num, by first | rfl | go_num, HL6, HO6, HB6⟩, by simp [intOf]; omega⟩
        · have hjI : ¬ (j : Int) < (wn : Int) := by omega
          have hfull : (keysOf te).take j = keysOf te := List.take_of_length_le (by rw [keys_len, HWn.out]; omega)
          rw [hfull] at HLn HOw
          clear hfull
          obtain ⟨W9, hW9⟩ : ∃ W9, wr = W9 := ⟨_, rfl⟩
          subst hW9
          have HNew : Hid (Box (wr.alloc (.cells #[.int .u32 key] 25)) wr.heap.size 25 #[.int .u32 key]) := Lib.hid (Box.new _ _ _)
          have hc9 := ((belowA wr (.cells #[.int .u32 key] 25)).cell (lt_of_cell hc)).trans hc
          go_wp2_with (at_builtin; refine wpList_append_lies _ rfl _ _ _ rfl H5 25 jW _ 1 4 Try.underlying45 hiW hy0 hy1 hy2 rfl (by omega) (.slice lb ln lp) ln (wordsV (leftL (keysOf te) key)) rfl (HOw.out.alloc (.cells #[.int .u32 key] 25)) ⟨wr.heap.size, 0, none⟩ 1 1 [.int .u32 key] rfl rfl (World.news_of_block HNew.out) (by simp [Value.oneCell']) (by omega) (by unfold maxLen; omega) (by omega) (by simp; omega) (wr.heap.size + 1) (by simp) ?_)
          intro g6 cp6 w6 hown6 hgrow6 hat6 hlt6
          have hb6 : Below H5 W5 w6 := (HBe.out.alloc hsz (.cells #[.int .u32 key] 25)).grown hgrow6 (by simp; omega) (fun g hg => (HOw.out.lt g hg).1)
          rw [wordsV_snoc] at hown6
          have hll : (leftL (keysOf te) key ++ [key]).length = ln + 1 := by simp [HLn.out]
          have hok : wordL (leftL (keysOf te) key ++ [key]) := by
            obtain ⟨_, _, _, hW8⟩ := HV6.out.2.2.2.2.words
            exact wordL_append (leftL_word hW8.2.2.2.1 key) (fun z hz => by rw [List.mem_singleton.1 hz]; exact HKW.out)
          have HOK := Lib.hid hok
          have HLL := Lib.hid hll
          have HO6 : Hid (w6.ownsRow w.heap.size 25 1 (.slice (some ⟨g6, 0, none⟩) (ln + 1) cp6) (leftL (keysOf te) key ++ [key]).length (wordsV (leftL (keysOf te) key ++ [key]))) := Lib.hid (by rw [hll]; exact own_base hown6 (by rw [← hH5]; exact HV.out.1.size))
          have HV7 := Lib.hid (HV.out.later (by rw [hH5]; exact hb6))
          clear hown6 hgrow6 hat6 hlt6 hb6 hc9 hc HNew hll hok
          have hlc : ce.length = (wantL a0 (keysOf te) key).length := by rw [← HCK.out, keys_len]
          by_cases hcap : a0 < ((ln + 1 : Nat) : Int)
          · have hcI : a0 < (ln : Int) + 1 := by omega
            have hwt : keysOf ce = (leftL (keysOf te) key ++ [key]).tail := by rw [HCK.out, wantL, if_pos (by rw [HLL.out]; exact hcap)]
            have hcl : ce.length = ln := by rw [← keys_len, hwt, List.length_tail, HLL.out]; omega
            have HVz : Hid (Vw w w6 T ((2, a0, 1, 0), ce, 0) (.slice brb ce.length prb) (.slice (some ⟨g6, 1, none⟩) ln (cp6 - 1)) (keysOf ce)) := Lib.hid (HV7.out.vr.vw (by rw [hwt]; exact Want.rest HO6.out HLL.out HOK.out))
            have HCL := Lib.hid hcl
            have hcp : ln + 1 ≤ cp6 := by
              obtain ⟨_, ⟨h1, _⟩ | ⟨g', cap, cur, h1, _, _, hc, _⟩⟩ := HO6.out
              · cases h1
              · simp only [Value.slice.injEq] at h1
                omega
            clear hwt hcl hlc
            have hlnc : ln ≤ nc := by have h1 := HVC.out.2.2.1; have h2 := HCL.out; have h3 := HNc.out; simp only at h1; omega
            go_wp2
            exact ⟨⟨k + 1, ce, _, some ⟨g6, 1, none⟩, ln, cp6 - 1, by omega, hlnc, by go_num, by rw [if_neg (by have := HNc.out; omega)], HVC, HCL, HVz⟩, by simp [intOf]; omega⟩
          · have hcI : ¬ a0 < (ln : Int) + 1 := by omega
            have hwt : keysOf ce = leftL (keysOf te) key ++ [key] := by rw [HCK.out, wantL, if_neg (by rw [HLL.out]; exact hcap)]
            have hcl : ce.length = ln + 1 := by rw [← keys_len, hwt, HLL.out]
            have HVz : Hid (Vw w w6 T ((2, a0, 1, 0), ce, 0) (.slice brb ce.length prb) (.slice (some ⟨g6, 0, none⟩) (ln + 1) cp6) (keysOf ce)) := Lib.hid (HV7.out.vr.vw (by rw [hwt]; exact Want.of HO6.out HOK.out))
            have HCL := Lib.hid hcl
            clear hwt hcl hlc
            have hlnc : ln + 1 ≤ nc := by have h3 := HNc.out; omega
            go_wp2
            exact ⟨⟨k + 1, ce, _, some ⟨g6, 0, none⟩, ln + 1, cp6, by omega, hlnc, by go_num, by first | rfl | go_num, HVC, HCL, HVz⟩, by simp [intOf]; omega⟩
    · have hkI : ¬ (k : Int) < (len1 : Int) := by omega
      obtain ⟨k0, k1, k2, k3, k4, k5⟩ := Box.tb (s := (2, a0, 1, 0)) HV.out.2.1
      simp only at k0 k1 k2 k3 k4 k5
      have hnn : ((wn : Int) != (wn : Int)) = false := by simp
      go_wp2_with fail
      clear hkI hkl hk hnn k0 k1 k2 k3 k4 k5
      go_loopw [14] (fun i wr => ∃ (k : Nat), k ≤ wn ∧ i = .int .i64 k ∧ Hid (Vw w wr T ((2, a0, 1, 0), te, 0) (.slice b wn p) (.slice wb wn wp) (keysOf te))) (fun i _ => wn - (intOf i).toNat)
      case atStart => exact ⟨0, by omega, rfl, HV⟩
      case round =>
        obtain ⟨k, hk, rfl, HV2⟩ := hrel
        clear HV
        have HV := HV2
        clear HV2
        obtain ⟨k0, k1, k2, k3, k4, k5⟩ := Box.tb (s := (2, a0, 1, 0)) HV.out.2.1
        simp only at k0 k1 k2 k3 k4 k5
        by_cases hkl : k < wn
        · have hkI : (k : Int) < (wn : Int) := by omega
          obtain ⟨b8, p8, hq8, hW8⟩ := HV.out.2.2.2.2.words
          simp only [keys_len, HWn.out, Value.slice.injEq] at hq8 hW8
          obtain ⟨rfl, _, rfl⟩ := hq8
          obtain ⟨xw, rfl, hx8⟩ := hW8.2.2.2.2.resolve_left (by omega)
          have hcj := hx8 k hkl
          obtain ⟨y, rfl, hy⟩ := HV.out.ents.2.2.2.resolve_left (by omega)
          obtain ⟨ec, _, _⟩ := hy k hkl
          have hee : (te.getD k zeroE).1 = (keysOf te).getD k 0 := by
            have h9 : k < te.length := by rw [HWn.out]; exact hkl
            simp [keysOf, List.getD_eq_getElem?_getD, h9]
          simp only at ec
          rw [hee] at ec
          generalize (keysOf te).getD k 0 = wj at ec hcj
          have hne : (wj != wj) = false := by simp
          clear hx8 hW8 hy hee
          go_wp2
          go_quiet (fail)
          have hb9 : Below wr.heap.size wr (wr.drewN nq) := below_of_quiet ⟨nq, rfl⟩
          go_wp2
          exact ⟨⟨k + 1, by omega, by go_num, Lib.hid (HV.out.later hb9)⟩, by simp [intOf]; omega⟩
        · have hkI : ¬ (k : Int) < (wn : Int) := by omega
          go_wp2_with fail
          have c9 := tmay_any (2, a0, 1, 0) b wn p 0 te wr HV.out.ents isW_zero
          rw [HVK.out.may] at c9
          refine c9.mono ?_
          rintro e m9 ⟨rfl, hb9⟩
          have HZ9 := Lib.hid (HV.out.1.trans (hb9.mono HV.out.1.size))
          clear c9 hb9 k0 k1 k2 k3 k4 k5
          go_wp2_with fail
          go_ret
          exact ⟨rfl, HZ9.out⟩


theorem own : ownKnob Try.prog.godebug = none := by kernel_rfl
theorem laidOut : laidOutB Try.prog = true := by kernel_rfl
set_option maxRecDepth 100000 in
theorem lifted (os : Os) (started : os.Started) (H : Type) (enc : TypeId × Value → H) :
    ReturnsInHanded {} Try.checked os 7 .any (Rows.tableLruSpec.pre6 enc Try.prog Try.f7 Rows.tableLruRow.domain false) (Rows.tableLruSpec.post enc Try.prog Try.f7 false true false false) := by
  refine returnsInHanded_of_change (C := Try.checked) own started (by kernel_rfl) Try.func7
    (ChangeSpec.witness6 (enc := enc) (C := Try.checked) false ⟨#[], #[.int .i64 0, .slice none 0 0], []⟩ 8 (by kernel_rfl) (by kernel_rfl) (by kernel_rfl) (by kernel_rfl)) ?_
  intro W base args ds gs before hval0 hW hcnd _
  have hval : ∀ (j : Nat) t v, Try.f7.params[j]? = some t → args[j]? = some v → Value.okWide Try.prog W .any base t v := hval0
  have hW' := hW
  obtain ⟨p, q, hA0, hV, rfl, hfz, hnd⟩ := hW
  have hA : DataW.TrodAll enc Try.prog W 0 (fun _ => true) true Try.f7.params.toList args.toList ds p := hA0
  rw [Try.params7] at hA hval
  obtain ⟨u0, vs0, e0, ds0, p0, q0, hargs, rfl, rfl, h0, t0⟩ := trodAll_cons hA
  obtain ⟨u1, vs1, e1, ds1, p1, q1, rfl, rfl, rfl, h1, t1⟩ := trodAll_cons t0
  obtain ⟨rfl, rfl, rfl⟩ := trodAll_nil t1
  obtain rfl : args = #[u0, u1] := by cases args; simp_all
  obtain ⟨rfl, rfl⟩ := trodVars_none hV
  have y0 := h0
  have lt0 : ∀ x ∈ p0, x.block < W.heap.size := by obtain ⟨m, hm⟩ := y0; exact DataW.trod_lt m _ _ _ hm
  have y1 := h1
  have lt1 : ∀ x ∈ p1, x.block < W.heap.size := by obtain ⟨m, hm⟩ := y1; exact DataW.trod_lt m _ _ _ hm
  obtain ⟨a0, rfl, _, _, w0⟩ := open_int Try.underlying3 (hval 0 3 u0 rfl rfl) h0
  obtain ⟨a1, len1, cap1, z1, rfl, w1⟩ := open_words (hval 1 45 u1 rfl rfl) h1
  clear hA0 hval0
  refine (walk a0 w0 a1 len1 cap1 z1 W w1).mono fun e W' ⟨he, bel⟩ => ?_
  subst he
  exact ⟨_, rfl, _, _, _, [], _, [], hW', trodAll_mk1 (shut_bool Try.underlying4 _), (trodAll_cons_mk (Below.trod laidOut (by kernel_rfl) (of_decide_eq_true (by kernel_rfl)) y0 bel lt0) (trodAll_cons_mk (Below.trod laidOut (by kernel_rfl) (of_decide_eq_true (by kernel_rfl)) y1 bel lt1) trodAll_mk0)), rfl, bel.frame _, fun h => by cases h⟩

theorem over : Rows.tableLruRow.holds Try.pinned (OpenSpec.ofChange Rows.tableLruSpec) :=
  OpenClaim.holds_of_wide 7 Try.f7 rfl rfl rfl rfl rfl rfl rfl ⟨rfl, rfl, rfl, rfl, rfl⟩ rfl rfl rfl rfl rfl (by kernel_rfl) Try.func7 (by kernel_rfl)
    (of_decide_eq_true (by kernel_rfl)) (by unfold Func.isWrapper; first | (rw [if_pos (by decide +kernel)]; kernel_rfl) | (rw [if_neg (by decide +kernel)]; exact ⟨rfl, rfl⟩))
    (fun os started H enc _ => lifted os started H enc)

theorem proved : Rows.TableLruSaid := over
#print axioms proved
end Go.Proofs.Ytlbmgablkphioaa.tableLru
