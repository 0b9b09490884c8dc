/-
  What the third reference's Own returns, whatever the program; what its Swap returns where it has no error, as contracts over the translated program.
-/
import Derived.Test.YtlbhmopmfddhjaaDoorZ5
import Derived.Test.YtlbhmopmfddhjaaDoorZ3
import Derived.Test.YtlbhmopmfddhjaaDoorZ7
import Derived.Deep.RegionHeld3
namespace Go.Proofs.YtlbhmopmfddhjaaDoor
open Go.RowKit

theorem own_none (a : Option Addr) (cap : Nat) (w : World) :
    Calls Tryd.prog 11 #[.agg #[.slice a 0 cap]] w (OwnPost [] w) := by
  have hP := ((Box.new w 24 #[.slice a 0 cap]).alloc (.cells #[.slice none 0 0] 24)).alloc (.cells #[.slice none 0 0] 24)
  have hR : Box ((w.alloc (.cells #[.slice a 0 cap] 24)).alloc (.cells #[.slice none 0 0] 24)) (w.heap.size + 1) 24 #[.slice none 0 0] := by
    have := Box.new (w.alloc (.cells #[.slice a 0 cap] 24)) 24 #[.slice none 0 0]
    rwa [show (w.alloc (.cells #[.slice a 0 cap] 24)).heap.size = w.heap.size + 1 by simp] at this
  have hO : Box (((w.alloc (.cells #[.slice a 0 cap] 24)).alloc (.cells #[.slice none 0 0] 24)).alloc (.cells #[.slice none 0 0] 24)) (w.heap.size + 1 + 1) 24 #[.slice none 0 0] := by
    have := Box.new ((w.alloc (.cells #[.slice a 0 cap] 24)).alloc (.cells #[.slice none 0 0] 24)) 24 #[.slice none 0 0]
    rwa [show ((w.alloc (.cells #[.slice a 0 cap] 24)).alloc (.cells #[.slice none 0 0] 24)).heap.size = w.heap.size + 1 + 1 by simp] at this
  have hb : Below w.heap.size w (((w.alloc (.cells #[.slice a 0 cap] 24)).alloc (.cells #[.slice none 0 0] 24)).alloc (.cells #[.slice none 0 0] 24)) := (((Below.refl _ _).alloc (Nat.le_refl _) _).alloc (by simp) _).alloc (by simp; omega) _
  have HP := Lib.hid hP
  have HR := Lib.hid (hR.alloc (.cells #[.slice none 0 0] 24))
  have HO := Lib.hid hO
  have HB := Lib.hid hb
  clear hP hR hO hb
  go_enter Tryd.func11, Tryd.ntmps11
  go_wp2
  generalize (((w.alloc (.cells #[.slice a 0 cap] 24)).alloc (.cells #[.slice none 0 0] 24)).alloc (.cells #[.slice none 0 0] 24)) = W at *
  go_loopw [4] (fun i wr => i = .int .i64 0 ∧ Hid (Box wr w.heap.size 24 #[.slice a 0 cap]) ∧ Hid (Box wr (w.heap.size + 1) 24 #[.slice none 0 0]) ∧ Hid (Box wr (w.heap.size + 1 + 1) 24 #[.slice none 0 0]) ∧ Hid (Below w.heap.size w wr)) (fun _ _ => 0)
  case atStart => exact ⟨rfl, HP, HR, HO, HB⟩
  case round =>
    clear HP HR HO HB
    obtain ⟨rfl, HP, HR, HO, HB⟩ := hrel
    have c0 : wr.cell? ⟨w.heap.size, 0, none⟩ = some (.slice a 0 cap) := HP.out.cell rfl
    have c2 : wr.cell? ⟨w.heap.size + 1 + 1, 0, none⟩ = some (.slice none 0 0) := HO.out.cell rfl
    go_wp2_with (refine wpList_store_row rfl 24 _ _ rfl (w.heap.size + 1) _ rfl rfl 24 _ HR.out (by kernel_rfl) rfl (by simp [Value.oneCell']) ?_)
    refine bodyPost_ret (v := .agg #[.slice none 0 0]) ?_ rfl ?_
    · exact results_cell_row Tryd.results11 _ _ (w.heap.size + 1) 24 _ (0, 0) _ rfl (setRow_heap _ _ _ _ _ _ HR.out) Tryd.underlying24 rfl (by kernel_rfl)
    · exact ⟨_, [], rfl, below_setRow HB.out (by omega) _, World.ownsRow_nil _ _ _ _, Owned.nil _ _ _⟩
theorem own_any (a : Option Addr) (len cap : Nat) (fs : List Fun) (w : World) (h : FnsAt w a len cap fs) (hf : fewP fs = true) : Calls Tryd.prog 11 #[.agg #[.slice a len cap]] w (OwnPost fs w) := by
  by_cases h0 : len = 0
  · subst h0
    have := List.length_eq_zero_iff.1 h.1
    subst this
    exact own_none a cap w
  · obtain ⟨y, rfl, _⟩ := h.2.2.2.resolve_left h0
    exact own_some y len cap fs w h (by omega) hf
theorem own_fns {w w' : World} {v : Value} {xs : List Value} {fs : List Fun} (h : w'.ownsRow (w.heap.size + 1) 28 2 v fs.length xs) (ho : Owned w' (w.heap.size + 1) v.ownBlock xs fs) : ∃ b cap, v = .slice b fs.length cap ∧ FnsAt w' b fs.length cap fs := fns_own rfl h ho.codes

theorem set2_far (W : World) (gv i j : Nat) (u v : Value) {p : Addr} {x : Value} (hp : p.block ≠ gv) (h : W.cell? p = some x) : ((W.setCell ⟨gv, i, none⟩ u).setCell ⟨gv, j, none⟩ v).cell? p = some x := by
  rw [World.cell?_setCell_other _ _ _ _ (fun e => hp (congrArg Addr.block e).symm), World.cell?_setCell_other _ _ _ _ (fun e => hp (congrArg Addr.block e).symm)]
  exact h
/- one function put in another one's place -/
theorem Codes.put {W : World} {base : Nat} {row : Option Nat} {xs : List Value} {fs : List Fun} (h : Codes W base row xs fs) {k : Nat} (hk : k < fs.length) {g : Int} {cv : Value} {c : List I} (h1 : OneFn W base row cv c) : Codes W base row ((xs.set (k * 2) (.int .i64 g)).set (k * 2 + 1) cv) (fs.set k (g, c)) := by
  have hl := h.1
  refine ⟨by simp [hl], fun j hj => ?_⟩
  rw [List.length_set] at hj
  by_cases hkj : k = j
  · subst hkj
    rw [set_getD_self fs k _ hj]
    refine ⟨?_, cv, ?_, h1⟩
    · rw [List.getElem?_set_ne (by omega), List.getElem?_set_self (by omega)]
    · rw [List.getElem?_set_self (by simp; omega)]
  · rw [set_getD_other fs k j _ hkj]
    obtain ⟨e1, cv', e2, e3⟩ := h.2 j hj
    refine ⟨?_, cv', ?_, e3⟩
    · rw [List.getElem?_set_ne (by omega), List.getElem?_set_ne (by omega)]
      exact e1
    · rw [List.getElem?_set_ne (by omega), List.getElem?_set_ne (by omega)]
      exact e2
theorem mayP_few {fs : List Fun} (h : mayP fs = true) : fewP fs = true := by
  have h1 := mayP_len h
  refine fewP_end (by omega) (fun k hk => ?_)
  have := (codeB_len (fnB_facts (mayP_fn h k hk)).1).2
  omega
set_option maxRecDepth 100000 in
set_option maxHeartbeats 8000000 in
theorem rSwap_ok (y : Addr) (len cap : Nat) (fs : List Fun) (k0 : Nat) (g : Int) (b : Option Addr) (l cc : Nat) (c d : List I) (w : World) (hR : RowsIn w) (h : FnsAt w (some y) len cap fs) (hC : CodeAt w b l cc c) (hM : mayP fs = true) (hB : codeB c = true) (hk0 : k0 < len) (hg : fs.getD k0 zeroF = (g, d)) :
    Calls Tryd.prog 19 #[.agg #[.slice (some y) len cap], .int .i64 k0, .agg #[.int .i64 g, .slice b l cc]] w (SwapPost fs k0 g c w) := by
  obtain ⟨i46, hi46, hx0, hx1, hx2⟩ := info_parts info46
  have HS := Lib.hid (Sw.start (a := some y) (len := len) (cap := cap) (g := g) (b := b) (l := l) (cc := cc) hR)
  have HF := Lib.hid h
  have HC := Lib.hid hC
  have H1 := Lib.hid h.1
  have HM := Lib.hid hM
  have HB := Lib.hid hB
  have HG := Lib.hid hg
  have hlen := mayP_len hM
  rw [h.1] at hlen
  obtain ⟨hlen1, hlen8⟩ := hlen
  have hm : len ≤ 9223372036854775807 := by omega
  have HY : Hid (∀ k, k < len → FnHere w (y.add (k * 2)) (fs.getD k zeroF)) := by
    rcases h.2.2.2 with h | ⟨y', h, h6⟩
    · omega
    · cases h
      exact Lib.hid h6
  clear h hC hM hB hg
  go_enter Tryd.func19, Tryd.ntmps19
  go_wp2_with fail
  refine (pmay_any (some y) len cap fs _ (HF.out.below HS.out.1)).mono ?_
  rintro e w1 ⟨rfl, hg⟩
  replace HS := Lib.hid (HS.out.later hg)
  rw [HM.out]
  have c1 := HS.out.c1
  have c2 := HS.out.c2
  clear hg
  go_wp2_with fail
  refine (code_any g b l cc c _ (HC.out.below HS.out.1)).mono ?_
  rintro e w2 ⟨rfl, hg⟩
  replace HS := Lib.hid (HS.out.later hg)
  rw [HB.out]
  clear hg c2 c1
  have c0 := HS.out.c0
  have c1 := HS.out.c1
  have hkI : (k0 : Int) < (len : Int) := by omega
  have hkJ : (0 : Int) ≤ (k0 : Int) := by omega
  have g1 : decide ((k0 : Int) < 0) = false := by simp
  have g2 : decide (len ≤ k0) = false := by simpa using hk0
  have i0 := (FnHere.below (HY.out k0 hk0) HS.out.1).1
  rw [HG.out] at i0
  simp only at i0
  go_wp2_with fail
  go_quiet (fail)
  have hS' : Sw w (w2.drewN nq) (some y) len cap g b l cc := ⟨belowDrewN HS.out.1 nq, HS.out.2⟩
  have HS' := Lib.hid hS'
  clear c0 c1 i0 hS' HS g1 g2
  generalize w2.drewN nq = w3 at *
  have c0 := HS'.out.c0
  have hw3 : w.heap.size + 1 + 1 < w3.heap.size := HS'.out.2.2.2.2.lt
  go_wp2_with fail
  refine (own_any (some y) len cap fs _ (HF.out.below HS'.out.1) (mayP_few HM.out)).mono ?_
  rintro e w4 ⟨v, xs, rfl, hg4, hO4, hOw4⟩
  rw [H1.out] at hO4
  obtain ⟨gv, cpv, rfl, hgv, hgl⟩ := hO4.form (by omega)
  have HO4 := Lib.hid hO4
  have HOw4 := Lib.hid hOw4
  replace HS' := Lib.hid (HS'.out.later hg4)
  clear hg4 hO4 hOw4 c0
  go_wp2_with fail
  have hb5 : Below w4.heap.size w4 (w4.alloc (.cells #[.slice (some ⟨gv, 0, none⟩) len cpv] 24)) := (Below.refl _ _).alloc (Nat.le_refl _) _
  have HX := Lib.hid (Box.new w4 24 #[.slice (some ⟨gv, 0, none⟩) len cpv])
  have HO5 := Lib.hid (ownsRow_below HO4.out hb5)
  have HOw5 := Lib.hid (HOw4.out.below hb5)
  replace HS' := Lib.hid (HS'.out.later hb5)
  clear HO4 HOw4 hb5
  generalize w4.alloc (.cells #[.slice (some ⟨gv, 0, none⟩) len cpv] 24) = w5 at *
  generalize w4.heap.size = xb at *
  have hlc : 1 ≤ l ∧ l ≤ 64 := by rw [← HC.out.1]; exact codeB_len HB.out
  obtain ⟨hl1, hl64⟩ := hlc
  have hCw := HC.out.below HS'.out.1
  obtain ⟨zc, rfl, hzc⟩ := hCw.2.2.2.2.resolve_left (by omega)
  have HZ := Lib.hid (codeV_cells hCw.1 hzc)
  have HL := Lib.hid hCw.1
  have HOk := Lib.hid hCw.2.2.2.1
  have x0 : w5.cell? ⟨xb, 0, none⟩ = some (.slice (some ⟨gv, 0, none⟩) len cpv) := HX.out.cell rfl
  have c1 := HS'.out.c1
  have c2 := HS'.out.c2
  have hxl : xb < w5.heap.size := HX.out.lt
  have hFl : w.heap.size + 1 < w5.heap.size := HS'.out.2.2.2.1.lt
  obtain ⟨cur, hcur, hcs, hct⟩ : ∃ cur : Array Value, Box w5 gv 28 cur ∧ cur.size = cpv * 2 ∧ cur.toList.take (len * 2) = xs := by
    rcases HO5.out.2 with ⟨h, _⟩ | ⟨g', cap', cur, hv, _, hh, _, _, hs, ht⟩
    · cases h
    · simp only [Value.slice.injEq, Option.some.injEq, Addr.mk.injEq, and_true, true_and] at hv
      obtain ⟨rfl, rfl⟩ := hv
      exact ⟨cur, hh, hs, ht⟩
  obtain ⟨hxa, cv0, hxb, _⟩ := HOw5.out.2.1 k0 (by rw [H1.out]; exact hk0)
  rw [HG.out] at hxa
  simp only at hxa
  have ha1 : cur[k0 * 2]? = some (.int .i64 g) := by
    rw [← hxa, ← hct, List.getElem?_take, if_pos (by omega)]
    simp
  have ha2 : cur[k0 * 2 + 1]? = some cv0 := by
    rw [← hxb, ← hct, List.getElem?_take, if_pos (by omega)]
    simp
  have HCur := Lib.hid hcur
  have HA1 := Lib.hid ha1
  have HA2 := Lib.hid ha2
  have HCT := Lib.hid hct
  have HCS := Lib.hid hcs
  have hgl5 : gv < w5.heap.size := hcur.lt
  clear hcur hcs hct hxa hxb ha1 ha2
  have HSa : Hid (w5.drew.cell? ⟨xb, 0, none⟩ = some (.slice (some ⟨gv, 0, none⟩) len cpv) ∧ w5.drew.cell? ⟨w.heap.size + 1, 0, none⟩ = some (.int .i64 g) ∧ w5.drew.cell? ⟨w.heap.size + 1, 1, none⟩ = some (.slice (some zc) l cc)) := Lib.hid ⟨x0, c1, c2⟩
  have hne1 : (⟨xb, 0, none⟩ : Addr).block ≠ gv := by simp; omega
  have hne2 : w.heap.size + 1 ≠ gv := by omega
  clear hCw hzc
  go_region_held3 (fun w' => w'.cell? ⟨xb, 0, none⟩ = some (.slice (some ⟨gv, 0, none⟩) len cpv) ∧ w'.cell? ⟨w.heap.size + 1, 0, none⟩ = some (.int .i64 g) ∧ w'.cell? ⟨w.heap.size + 1, 1, none⟩ = some (.slice (some zc) l cc))
    (first
      | exact HSa.out
      | exact hSb
      | exact And.intro (set2_far _ _ _ _ _ _ hne1 hSb.1) (And.intro (set2_far _ _ _ _ _ _ hne2 hSb.2.1) (set2_far _ _ _ _ _ _ hne2 hSb.2.2)))
    ((refine step_append_lies _ (by rfl) _ _ _ (by rfl) w5.heap.size 46 i46 _ 7 56 Tryd.underlying26 hi46 hx0 hx1 hx2 rfl (by omega) (.slice none 0 0) 0 [] (by rfl) (World.ownsRow_nil _ _ _ _) zc l cc (codeV c) (by rfl) (by rw [codeV_len, HL.out]) HZ.out (codeV_one c) (by omega) (by unfold maxLen; omega) (by omega) (by simp) w5.heap.size (by simp) ?_; intro g6 cp6 w6 hown6 hgrow6 hat6 hlt6; have hb6 := below_of_grown_none hgrow6; have hBg := Box.below (w := w5.drew) HCur.out hb6 hgl5; have s0 := hBg.cell HA1.out; have s1 := hBg.cell HA2.out; have t0 := hBg.free (k0 * 2); have t1 := hBg.free (k0 * 2 + 1); have hSb := And.intro ((hb6.cell (p := ⟨xb, 0, none⟩) hxl).trans HSa.out.1) (And.intro ((hb6.cell (p := ⟨w.heap.size + 1, 0, none⟩) hFl).trans HSa.out.2.1) ((hb6.cell (p := ⟨w.heap.size + 1, 1, none⟩) hFl).trans HSa.out.2.2))))
  rw [Nat.zero_add, List.nil_append] at hown6
  have hb6' : Below w5.heap.size w5 w6 := ⟨hb6.os, hb6.tape, hb6.output, hb6.size, hb6.block⟩
  have hO6 := ownsRow_below HO5.out hb6'
  have hC6 := (HOw5.out.below hb6').codes
  have hS6 := HS'.out.later hb6'
  have hone6 := code_copied HL.out HOk.out hown6
  obtain ⟨ho7, hg7⟩ := hO6.stored (k0 * 2) (.int .i64 g)
  obtain ⟨ho8, hg8⟩ := ho7.stored (k0 * 2 + 1) (.slice (some ⟨g6, 0, none⟩) l cp6)
  have hg78 := hg7.trans hg8
  have hC8 : Codes ((w6.setCell ⟨gv, k0 * 2, none⟩ (.int .i64 g)).setCell ⟨gv, k0 * 2 + 1, none⟩ (.slice (some ⟨g6, 0, none⟩) l cp6)) (w3.heap.size + 1) (some gv) xs fs := hC6.grown hg78 (.inl rfl)
  have hone8 : OneFn ((w6.setCell ⟨gv, k0 * 2, none⟩ (.int .i64 g)).setCell ⟨gv, k0 * 2 + 1, none⟩ (.slice (some ⟨g6, 0, none⟩) l cp6)) (w3.heap.size + 1) (some gv) (.slice (some ⟨g6, 0, none⟩) l cp6) c :=
    hone6.fresh hg78 (by omega) (fun g' hg' => by have := Option.some.inj hg'; omega) (fun g' hg' => by have := Option.some.inj hg'; left; omega)
  have hC9 := hC8.put (k := k0) (by rw [H1.out]; exact hk0) (g := g) hone8
  have hb8 : Below w.heap.size w ((w6.setCell ⟨gv, k0 * 2, none⟩ (.int .i64 g)).setCell ⟨gv, k0 * 2 + 1, none⟩ (.slice (some ⟨g6, 0, none⟩) l cp6)) := (hS6.1.setCell (by simp; omega) _).setCell (by simp; omega) _
  have hRs : Box ((w6.setCell ⟨gv, k0 * 2, none⟩ (.int .i64 g)).setCell ⟨gv, k0 * 2 + 1, none⟩ (.slice (some ⟨g6, 0, none⟩) l cp6)) (w.heap.size + 1 + 1) 24 #[.slice none 0 0] := (hS6.2.2.2.2.other (by simp; omega) _).other (by simp; omega) _
  have x8 : ((w6.setCell ⟨gv, k0 * 2, none⟩ (.int .i64 g)).setCell ⟨gv, k0 * 2 + 1, none⟩ (.slice (some ⟨g6, 0, none⟩) l cp6)).cell? ⟨xb, 0, none⟩ = some (.slice (some ⟨gv, 0, none⟩) len cpv) := set2_far _ _ _ _ _ _ hne1 hSb.1
  have HO8 := Lib.hid ho8
  have HC9 := Lib.hid hC9
  have HB8 := Lib.hid hb8
  have HRs := Lib.hid hRs
  clear hown6 hgrow6 hat6 hlt6 hb6 hBg s0 s1 t0 t1 hSb hb6' hO6 hC6 hS6 hone6 ho7 hg7 ho8 hg8 hg78 hC8 hone8 hC9 hb8 hRs x0 c1 c2
  generalize (w6.setCell ⟨gv, k0 * 2, none⟩ (.int .i64 g)).setCell ⟨gv, k0 * 2 + 1, none⟩ (.slice (some ⟨g6, 0, none⟩) l cp6) = w8 at *
  go_wp2_with (refine wpList_store_row rfl 24 _ _ rfl (w.heap.size + 1 + 1) _ rfl rfl 24 _ HRs.out (by kernel_rfl) rfl (by simp [Value.oneCell']) ?_)
  refine bodyPost_ret (v := .tuple #[.agg #[.slice (some ⟨gv, 0, none⟩) len cpv], .int .i64 0]) ?_ rfl ?_
  · exact results_prog_two Tryd.results19 _ _ (w.heap.size + 1 + 1) 24 _ _ rfl rfl rfl (setRow_heap _ _ _ _ _ _ HRs.out)
  · have hgr := grownBy_setRow w8 (w.heap.size + 1 + 1) #[.slice (some ⟨gv, 0, none⟩) len cpv]
    refine ⟨below_setRow HB8.out (by omega) _, .inr ⟨swapE_ok HM.out HB.out (by rw [H1.out]; exact hk0) HG.out, some ⟨gv, 0, none⟩, cpv, by rw [H1.out], ?_⟩⟩
    obtain ⟨b', cp', hv', hFns'⟩ := fns_own (by rw [List.length_set, H1.out]) (own_far HO8.out hgr (by omega)) (HC9.out.far hgr (by omega))
    simp only [Value.slice.injEq, true_and] at hv'
    obtain ⟨rfl, rfl⟩ := hv'
    rw [H1.out, Int.toNat_natCast]
    exact hFns'
theorem rSwap_any (a : Option Addr) (len cap : Nat) (fs : List Fun) (i g : Int) (b : Option Addr) (l cc : Nat) (c : List I) (w : World) (hR : RowsIn w) (h : FnsAt w a len cap fs) (hC : CodeAt w b l cc c) :
    Calls Tryd.prog 19 #[.agg #[.slice a len cap], .int .i64 i, .agg #[.int .i64 g, .slice b l cc]] w (SwapPost fs i g c w) := by
  by_cases hE : swapE fs i g c = 0
  · obtain ⟨hM, hB, k, rfl, hk, d, hg⟩ := swapE_zero hE
    obtain ⟨y, rfl, _⟩ := h.2.2.2.resolve_left (by have := h.1; omega)
    exact rSwap_ok y len cap fs k g b l cc c d w hR h hC hM hB (by rw [← h.1]; exact hk) hg
  · exact rSwap_err a len cap fs i g b l cc c w hR h hC hE
end Go.Proofs.YtlbhmopmfddhjaaDoor
