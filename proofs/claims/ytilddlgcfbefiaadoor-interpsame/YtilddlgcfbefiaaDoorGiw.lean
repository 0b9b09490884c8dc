/-
  Texts that the laws of this layer stand on, one behind the other.
-/
import Derived.Test.YtilddlgcfbefiaaDoorGia
import Derived.Test.YtilddlgcfbefiaaDoorGta
import Derived.Test.YtilddlgcfbefiaaDoorGf
import Derived.Deep.AppendLies
import Derived.Test.YtilddlgcfbefiaaDoorGcc
import Derived.Test.YtilddlgcfbefiaaDoorGcb
import Derived.Test.YtilddlgcfbefiaaDoorGip
import Derived.Test.YtilddlgcfbefiaaDoorGik
import Derived.Test.YtilddlgcfbefiaaDoorGio
/-
  What the fifth reference's Each and the sixth one's Own return, as contracts over the translated program: the same tables, the same environment, in memory of their own.
-/
namespace Go.Proofs.YtilddlgcfbefiaaDoor
set_option linter.unusedSimpArgs false
set_option linter.unusedVariables false
open Go Go.RowKit
theorem take_tab (ts : List Tb) (k : Nat) (t : Tb) (h : k < ts.length) (hi : ts.getD k zeroT = t) : ts.take (k + 1) = ts.take k ++ [t] := by
  rw [take_getD ts k zeroT h, hi]
set_option maxRecDepth 100000 in
set_option maxHeartbeats 8000000 in
theorem each_any (a : Option Addr) (len cap : Nat) (ts : List Tb) (w : World) (h : TabsAt w a len cap ts) (hf : fewL ts) :
    Calls Tryd.prog 32 #[.slice a len cap] w fun e w' => ∃ V, e = .returned V ∧ Below w.heap.size w w' ∧ TabsN w' (fun n => w.heap.size ≤ n ∧ n < w'.heap.size) V ts := by
  obtain ⟨iT, hiT, hz0, hz1, hz2⟩ := info_parts infoT
  have hm := h.max
  have h40 : len ≤ 40 := by rw [← h.1]; exact hf.1
  have H1 := Lib.hid h.1
  have H5 := Lib.hid h.2.2.2
  have HF := Lib.hid hf.2
  clear h hf
  go_enter Tryd.func32, Tryd.ntmps32
  go_wp2_with fail
  go_loopw [3, 4] (fun o i wr => ∃ (k : Nat) (v : Value), k ≤ len ∧ i = .int .i64 k ∧ v = o ∧ Hid (Below w.heap.size w wr) ∧ Hid (RowT wr w.heap.size v (ts.take k))) (fun _ i _ => len - (intOf i).toNat)
  case atStart => exact ⟨0, .slice none 0 0, by omega, rfl, rfl, Lib.hid (Below.refl _ _), Lib.hid (RowT.nil _ _)⟩
  case round =>
    obtain ⟨k, v, hk, rfl, rfl, HB, HR⟩ := hrel
    by_cases hkl : k < len
    · have hkI : (k : Int) < (len : Int) := by omega
      obtain ⟨y, rfl, hy⟩ := H5.out.resolve_left (by omega)
      have t1 := (hy k hkl).below HB.out
      have hfw := HF.out _ (getD_mem ts k zeroT (by rw [H1.out]; exact hkl))
      rcases e1 : ts.getD k zeroT with ⟨⟨s0, s1, s2, s3⟩, es1, x1⟩
      rw [e1] at t1 hfw
      have HT := Lib.hid (take_tab ts k _ (by rw [H1.out]; exact hkl) e1)
      obtain ⟨p0, p1, p2, p3, ⟨b1, l1, cc1, p4, hE1⟩, p5, hx1⟩ := t1
      simp only at p0 p1 p2 p3 p4 p5 hE1 hx1 hfw
      have HX := Lib.hid hx1
      have c1 := own_any (s0, s1, s2, s3) b1 l1 cc1 x1 es1 wr hE1 hfw
      have HK : Hid ((ts.take k).length = k) := Lib.hid (by rw [List.length_take, H1.out]; omega)
      clear hy hfw e1 hE1 hx1
      go_wp2_with fail
      refine c1.mono ?_
      intro e w5 ho
      obtain ⟨b, n, c, rfl, hb5, hE5⟩ := own_in ho
      clear c1 ho p0 p1 p2 p3 p4 p5
      obtain ⟨xs, r1, r2, r3⟩ := HR.out
      have hb6 : Below wr.heap.size wr (w5.alloc (.cells #[.int .i64 s0, .int .i64 s1, .int .i64 s2, .int .i64 s3, .slice b n c, .int .u32 x1] 42)) := hb5.alloc hb5.size _
      have hO6 := ownsRow_below r1 hb6
      rw [HK.out] at hO6
      have hE6 := hE5.below ((Below.refl w5.heap.size w5).alloc (Nat.le_refl _) (.cells #[.int .i64 s0, .int .i64 s1, .int .i64 s2, .int .i64 s3, .slice b n c, .int .u32 x1] 42))
      have HNew := Lib.hid (Box.new w5 42 #[.int .i64 s0, .int .i64 s1, .int .i64 s2, .int .i64 s3, .slice b n c, .int .u32 x1])
      have HR3 := Lib.hid (And.intro r1 (And.intro r2 r3))
      have HE6 := Lib.hid hE6
      have HB6 := Lib.hid hb6
      have hs := HB.out.size
      have hs5 := hb5.size
      clear r1 r2 r3 hE5 hE6 hb6 hb5
      go_wp2_with (at_builtin; refine wpList_append_lies _ rfl _ _ _ rfl w.heap.size 42 iT _ 6 64 Tryd.underlying27 hiT hz0 hz1 hz2 rfl (by omega) v k xs rfl hO6 ⟨w5.heap.size, 0, none⟩ 1 1 [.int .i64 s0, .int .i64 s1, .int .i64 s2, .int .i64 s3, .slice b n c, .int .u32 x1] rfl rfl (World.news_of_block HNew.out) (by simp [Value.oneCell']) (by omega) (by unfold maxLen; omega) (by omega) (by simp; omega) (w5.heap.size + 1) (by simp) ?_)
      intro g6 cp6 w6 hown6 hgrow6 hat6 hlt6
      have hlt := HR3.out.1.lt
      have hb7 : Below w.heap.size w w6 := (HB.out.trans (HB6.out.mono hs)).grown hgrow6 (by simp; omega) (fun g hg => by have := (hlt g hg).1; omega)
      have hR7 : RowT w6 w.heap.size (.slice (some ⟨g6, 0, none⟩) (k + 1) cp6) (ts.take (k + 1)) := by
        rw [HT.out]
        have := RowT.snoc (W1 := w5.alloc (.cells #[.int .i64 s0, .int .i64 s1, .int .i64 s2, .int .i64 s3, .slice b n c, .int .u32 x1] 42)) (W2 := w6) (g := g6) (cp := cp6) (t := ((s0, s1, s2, s3), es1, x1)) HR3.out.1 HR3.out.2.1 HR3.out.2.2 hs HB6.out HE6.out HX.out (by rw [HK.out]; exact hown6) hgrow6 hat6 (by simp)
        rw [HK.out] at this
        exact this
      have HB7 := Lib.hid hb7
      have HR7 := Lib.hid hR7
      clear hown6 hgrow6 hat6 hlt6 hlt hb7 hR7 hO6 HR3 HB6 HE6
      go_wp2
      exact ⟨⟨k + 1, _, by omega, by go_num, rfl, HB7, HR7⟩, by simp [intOf]; omega⟩
    · have hkI : ¬ (k : Int) < (len : Int) := by omega
      have HE : Hid (ts.take k = ts) := Lib.hid (List.take_of_length_le (by rw [H1.out]; omega))
      rw [HE.out] at HR
      go_wp2
      go_ret
      exact ⟨_, rfl, HB.out, HR.out.tabs⟩
/- what Own leaves: an environment whose tables lie in memory of its own -/
def EOwn (c : Cx) (sd : Int) (ts : List Tb) (w : World) (e : Ending) (w' : World) : Prop :=
  ∃ V, e = .returned (envV c V sd) ∧ Below w.heap.size w w' ∧ TabsN w' (fun n => w.heap.size ≤ n ∧ n < w'.heap.size) V ts
set_option maxRecDepth 100000 in
set_option maxHeartbeats 8000000 in
theorem eown_any (c : Cx) (a : Option Addr) (len cap : Nat) (sd : Int) (ts : List Tb) (w : World) (h : TabsAt w a len cap ts) (hf : fewL ts) :
    Calls Tryd.prog 18 #[envV c (.slice a len cap) sd] w (EOwn c sd ts w) := by
  rcases c with ⟨c0, c1, c2, c3⟩
  have hbW : Below w.heap.size w (((w.alloc (.cells #[.int .u32 c0, .int .u32 c1, .int .u32 c2, .int .u32 c3, .slice a len cap, .int .u32 sd] 29)).alloc (.cells #[.int .u32 0, .int .u32 0, .int .u32 0, .int .u32 0, .slice none 0 0, .int .u32 0] 29)).alloc (.cells #[.int .u32 c0, .int .u32 c1, .int .u32 c2, .int .u32 c3, .slice a len cap, .int .u32 sd] 29)) := (((Below.refl _ _).alloc (Nat.le_refl _) _).alloc (by simp) _).alloc (by simp; omega) _
  have hBR := (Box.new (w.alloc (.cells #[.int .u32 c0, .int .u32 c1, .int .u32 c2, .int .u32 c3, .slice a len cap, .int .u32 sd] 29)) 29 #[.int .u32 0, .int .u32 0, .int .u32 0, .int .u32 0, .slice none 0 0, .int .u32 0]).alloc (.cells #[.int .u32 c0, .int .u32 c1, .int .u32 c2, .int .u32 c3, .slice a len cap, .int .u32 sd] 29)
  have hBO := Box.new ((w.alloc (.cells #[.int .u32 c0, .int .u32 c1, .int .u32 c2, .int .u32 c3, .slice a len cap, .int .u32 sd] 29)).alloc (.cells #[.int .u32 0, .int .u32 0, .int .u32 0, .int .u32 0, .slice none 0 0, .int .u32 0] 29)) 29 #[.int .u32 c0, .int .u32 c1, .int .u32 c2, .int .u32 c3, .slice a len cap, .int .u32 sd]
  rw [show (w.alloc (.cells #[.int .u32 c0, .int .u32 c1, .int .u32 c2, .int .u32 c3, .slice a len cap, .int .u32 sd] 29)).heap.size = w.heap.size + 1 by simp] at hBR
  rw [show ((w.alloc (.cells #[.int .u32 c0, .int .u32 c1, .int .u32 c2, .int .u32 c3, .slice a len cap, .int .u32 sd] 29)).alloc (.cells #[.int .u32 0, .int .u32 0, .int .u32 0, .int .u32 0, .slice none 0 0, .int .u32 0] 29)).heap.size = w.heap.size + 1 + 1 by simp] at hBO
  have hBP := ((Box.new w 29 #[.int .u32 c0, .int .u32 c1, .int .u32 c2, .int .u32 c3, .slice a len cap, .int .u32 sd]).alloc (.cells #[.int .u32 0, .int .u32 0, .int .u32 0, .int .u32 0, .slice none 0 0, .int .u32 0] 29)).alloc (.cells #[.int .u32 c0, .int .u32 c1, .int .u32 c2, .int .u32 c3, .slice a len cap, .int .u32 sd] 29)
  have hsz : (((w.alloc (.cells #[.int .u32 c0, .int .u32 c1, .int .u32 c2, .int .u32 c3, .slice a len cap, .int .u32 sd] 29)).alloc (.cells #[.int .u32 0, .int .u32 0, .int .u32 0, .int .u32 0, .slice none 0 0, .int .u32 0] 29)).alloc (.cells #[.int .u32 c0, .int .u32 c1, .int .u32 c2, .int .u32 c3, .slice a len cap, .int .u32 sd] 29)).heap.size = w.heap.size + 1 + 1 + 1 := by simp
  have hT := h.below hbW
  obtain ⟨W1, hW1⟩ : ∃ W1, ((w.alloc (.cells #[.int .u32 c0, .int .u32 c1, .int .u32 c2, .int .u32 c3, .slice a len cap, .int .u32 sd] 29)).alloc (.cells #[.int .u32 0, .int .u32 0, .int .u32 0, .int .u32 0, .slice none 0 0, .int .u32 0] 29)).alloc (.cells #[.int .u32 c0, .int .u32 c1, .int .u32 c2, .int .u32 c3, .slice a len cap, .int .u32 sd] 29) = W1 := ⟨_, rfl⟩
  rw [hW1] at hbW hBR hBO hsz hT hBP
  have HBW := Lib.hid hbW
  have HBR := Lib.hid hBR
  have HBO := Lib.hid hBO
  have HSZ := Lib.hid hsz
  have k1 := each_any a len cap ts W1 hT hf
  have x4 : W1.cell? ⟨w.heap.size, 4, none⟩ = some (.slice a len cap) := hBP.cell rfl
  clear hbW hBR hBO hsz hT h hf hBP
  go_enter Tryd.func18, Tryd.ntmps18
  go_wp2_with fail
  clear hW1 x4
  refine k1.mono ?_
  rintro e w5 ⟨V, rfl, hb5, hT5⟩
  clear k1
  obtain ⟨b, cc, rfl, hA5⟩ := hT5.at
  have hBO5 := HBO.out.later hb5
  have hBR5 := HBR.out.later hb5
  have f5 := hBO5.free 4
  have e5 : w5.cell? ⟨w.heap.size + 1 + 1, 4, none⟩ = some (.slice a len cap) := hBO5.cell rfl
  have hBO6 := hBO5.set 4 (.slice b ts.length cc)
  have d0 : (w5.setCell ⟨w.heap.size + 1 + 1, 4, none⟩ (.slice b ts.length cc)).cell? ⟨w.heap.size + 1 + 1, 0, none⟩ = some (.int .u32 c0) := hBO6.cell rfl
  have d1 : (w5.setCell ⟨w.heap.size + 1 + 1, 4, none⟩ (.slice b ts.length cc)).cell? ⟨w.heap.size + 1 + 1, 1, none⟩ = some (.int .u32 c1) := hBO6.cell rfl
  have d2 : (w5.setCell ⟨w.heap.size + 1 + 1, 4, none⟩ (.slice b ts.length cc)).cell? ⟨w.heap.size + 1 + 1, 2, none⟩ = some (.int .u32 c2) := hBO6.cell rfl
  have d3 : (w5.setCell ⟨w.heap.size + 1 + 1, 4, none⟩ (.slice b ts.length cc)).cell? ⟨w.heap.size + 1 + 1, 3, none⟩ = some (.int .u32 c3) := hBO6.cell rfl
  have d4 : (w5.setCell ⟨w.heap.size + 1 + 1, 4, none⟩ (.slice b ts.length cc)).cell? ⟨w.heap.size + 1 + 1, 4, none⟩ = some (.slice b ts.length cc) := hBO6.cell rfl
  have d5 : (w5.setCell ⟨w.heap.size + 1 + 1, 4, none⟩ (.slice b ts.length cc)).cell? ⟨w.heap.size + 1 + 1, 5, none⟩ = some (.int .u32 sd) := hBO6.cell rfl
  have hBR6 := hBR5.other (p := ⟨w.heap.size + 1 + 1, 4, none⟩) (by simp) (.slice b ts.length cc)
  have HBR6 := Lib.hid hBR6
  have HB5 := Lib.hid hb5
  have HT5 := Lib.hid hT5
  clear hBO5 hBR5 hBO6 hBR6 hb5 hT5 hA5
  go_wp2_with (refine wpList_store_row rfl 29 _ _ rfl (w.heap.size + 1) _ rfl rfl 29 _ HBR6.out (by kernel_rfl) rfl (by simp [Value.oneCell']) ?_)
  refine bodyPost_ret (v := envV (c0, c1, c2, c3) (.slice b ts.length cc) sd) ?_ rfl ?_
  · exact results_cell_row Tryd.results18 _ _ (w.heap.size + 1) 29 _ (0, 0) _ rfl (setRow_heap _ _ _ _ _ _ HBR6.out) Tryd.underlying29 rfl (by kernel_rfl)
  · have hs := HSZ.out
    have hs5 := HB5.out.size
    have hbw := HBW.out.trans (HB5.out.mono HBW.out.size)
    refine ⟨_, rfl, below_setRow (hbw.setCell (by show w.heap.size ≤ w.heap.size + 1 + 1; omega) _) (by omega) _, ?_⟩
    have hT6 := (HT5.out.grown (grownBy_setCell w5 ⟨w.heap.size + 1 + 1, 4, none⟩ (.slice b ts.length cc)) (fun n hn e => by have := Option.some.inj e; simp at this; omega)).grown (grownBy_setRow _ (w.heap.size + 1) (envA (c0, c1, c2, c3) (.slice b ts.length cc) sd)) (fun n hn e => by have := Option.some.inj e; omega)
    exact hT6.mono (fun n hn => ⟨by omega, by simpa [World.setCell] using hn.2⟩)
end Go.Proofs.YtilddlgcfbefiaaDoor

/-
  What the third reference's Own returns: the same program, in memory that was not there before.
-/
namespace Go.Proofs.YtilddlgcfbefiaaDoor
set_option linter.unusedSimpArgs false
set_option linter.unusedVariables false
open Go Go.RowKit
theorem infoI : (Tryd.prog.info? 50).map (fun i => (i.zero, i.size, i.bytes)) = some (some (.agg #[.int .i64 0, .int .i64 0, .int .i64 0, .int .i64 0, .bool false, .int .i64 0, .int .u32 0]), 7, 56) := by kernel_rfl
theorem infoFn : (Tryd.prog.info? 47).map (fun i => (i.zero, i.size, i.bytes)) = some (some (.agg #[.int .i64 0, .slice none 0 0]), 2, 32) := by kernel_rfl
/- a code that lies in a block of instructions -/
def CodeIn (W : World) (b : Option Addr) (l c : Nat) (code : List I) : Prop := CodeAt W b l c code ∧ (l = 0 ∨ ∃ z, b = some z ∧ Ty1 W 50 z.block)
theorem CodeIn.grown {W W' : World} {b : Option Addr} {l c : Nat} {code : List I} {row : Option Nat} (h : CodeIn W b l c code) (hg : W.grownBy W' row) (hr : ∀ n, Ty1 W 50 n → some n ≠ row) : CodeIn W' b l c code := by
  obtain ⟨⟨h1, h2, h3, h4, h5⟩, h6⟩ := h
  rcases h6 with h6 | ⟨z, rfl, hz⟩
  · exact ⟨⟨h1, h2, h3, h4, .inl h6⟩, .inl h6⟩
  · refine ⟨⟨h1, h2, h3, h4, ?_⟩, .inr ⟨z, rfl, hz.grown hg (hr _ hz)⟩⟩
    rcases h5 with h5 | ⟨y, e, hy⟩
    · exact .inl h5
    · cases e
      refine .inr ⟨z, rfl, fun k hk => ?_⟩
      obtain ⟨c0, c1, c2, c3, c4, c5, c6⟩ := hy k hk
      have hb : some (z.add (k * 7)).block ≠ row := by rw [add_block]; exact hr _ hz
      have far : ∀ {p : Addr} {u : Value}, p.block = (z.add (k * 7)).block → W.cell? p = some u → W'.cell? p = some u := fun hp hu => (hg.cell_far _ (lt_of_cell hu) (by rw [hp]; exact hb)).trans hu
      exact ⟨far rfl c0, far rfl c1, far rfl c2, far rfl c3, far rfl c4, far rfl c5, far rfl c6⟩
theorem code_list {w : World} {y : Addr} {code : List I} (h : ∀ k, k < code.length → InstHere w (y.add (k * 7)) (code.getD k zeroI)) : ∀ j, j < code.length * 7 → ∃ u, w.cell? (y.add j) = some u ∧ u.oneCell' = true := by
  intro j hj
  obtain ⟨c0, c1, c2, c3, c4, c5, c6⟩ := h (j / 7) (by omega)
  have hjr : j = j / 7 * 7 + j % 7 := by omega
  have hr : j % 7 < 7 := Nat.mod_lt _ (by omega)
  rw [hjr]
  generalize j % 7 = r at hr ⊢
  match r, hr with
  | 0, _ => exact ⟨_, c0, rfl⟩
  | 1, _ => exact ⟨_, by rw [add_more _ _ _ (by omega)]; exact c1, rfl⟩
  | 2, _ => exact ⟨_, by rw [add_more _ _ _ (by omega)]; exact c2, rfl⟩
  | 3, _ => exact ⟨_, by rw [add_more _ _ _ (by omega)]; exact c3, rfl⟩
  | 4, _ => exact ⟨_, by rw [add_more _ _ _ (by omega)]; exact c4, rfl⟩
  | 5, _ => exact ⟨_, by rw [add_more _ _ _ (by omega)]; exact c5, rfl⟩
  | 6, _ => exact ⟨_, by rw [add_more _ _ _ (by omega)]; exact c6, rfl⟩
theorem code_new {w W : World} {y : Addr} {l c base g cp : Nat} {code : List I} {xs : List Value} (h : CodeAt w (some y) l c code) (h0 : 0 < l) (hx : ∀ j u, j < l * 7 → w.cell? (y.add j) = some u → xs[j]? = some u) (hown : W.ownsRow base 50 7 (.slice (some ⟨g, 0, none⟩) l cp) l xs) : CodeIn W (some ⟨g, 0, none⟩) l cp code := by
  obtain ⟨h1, h2, h3, h4, h5⟩ := h
  obtain ⟨y', e, hy⟩ := h5.resolve_left (by omega)
  cases e
  have hcell := own_cells hown
  obtain ⟨_, ⟨e, _⟩ | ⟨g', cap', cur, e, hb, hh, hc, hm, hs, ht⟩⟩ := hown
  · cases e
  · simp only [Value.slice.injEq, Option.some.injEq, Addr.mk.injEq, and_true, true_and] at e
    obtain ⟨rfl, rfl⟩ := e
    refine ⟨⟨h1, hc, hm, h4, .inr ⟨_, rfl, fun k hk => ?_⟩⟩, .inr ⟨_, rfl, cur, _, hh⟩⟩
    obtain ⟨c0, c1, c2, c3, c4, c5, c6⟩ := hy k hk
    rw [addr_add]
    have at' : ∀ r u, r < 7 → w.cell? (y.add (k * 7 + r)) = some u → W.cell? ⟨g, k * 7 + r, none⟩ = some u := fun r u hr hu => hcell _ _ (hx _ u (by omega) hu)
    refine ⟨at' 0 _ (by omega) c0, at' 1 _ (by omega) ?_, at' 2 _ (by omega) ?_, at' 3 _ (by omega) ?_, at' 4 _ (by omega) ?_, at' 5 _ (by omega) ?_, at' 6 _ (by omega) ?_⟩
    · rw [add_more _ _ _ (by omega)]; exact c1
    · rw [add_more _ _ _ (by omega)]; exact c2
    · rw [add_more _ _ _ (by omega)]; exact c3
    · rw [add_more _ _ _ (by omega)]; exact c4
    · rw [add_more _ _ _ (by omega)]; exact c5
    · rw [add_more _ _ _ (by omega)]; exact c6
theorem append_emptyI (b : Option Addr) (cc : Nat) (w : World) : (Builtin.append_ #[45, 45] 45 #[.slice none 0 0, .slice b 0 cc]).run Tryd.prog w = .ok (.slice none 0 0) w := by
  cases b <;> kernel_rfl
/- 'append(nil, code...)': nil where there is no instruction, else a new row -/
theorem step_copyI {ops : Array Oper} {o : Oper} {a : Act} {K : Act → World → Prop} {Q : Exit → Act → World → Prop} {E : Prop} (w : World) (hgd : o.guard = none) (s x : Operand)
    (ho : o.op = .call { callee := .builtin .append, args := #[s, x], argTypes := #[45, 45] }) (ht : o.type = 45) (hs : a.eval s = .slice none 0 0) (b : Option Addr) (l cc : Nat) (code : List I) (hx : a.eval x = .slice b l cc) (hC : CodeAt w b l cc code) (hl80 : l ≤ 80)
    (h : ∀ b' cp w', CodeIn w' b' l cp code → Below w.heap.size w w' → K (a.put o.dst (.slice b' l cp)) w') : if Region.wanted o (yielded ops a.tmps) = true then Oper.wp Tryd.prog o a w K Q else E := by
  obtain ⟨i46, hi46, hy0, hy1, hy2⟩ := info_parts infoI
  by_cases hl : l = 0
  · subst hl
    have hw : Region.wanted o (yielded ops a.tmps) = true := by simp [Region.wanted, hgd]
    rw [if_pos hw]
    have hc : code = [] := List.length_eq_zero_iff.1 hC.1
    subst hc
    have hr := append_emptyI b cc w
    unfold Oper.wp execOp
    simp only [ho, ht, resolve, invoke, builtin, Sem.run_bind, Sem.run_pure, Result.andThen_ok, List.map_toArray, List.map_cons, List.map_nil, hs, hx, hr]
    exact h none 0 w ⟨⟨rfl, Nat.le_refl _, Nat.zero_le _, by simp, .inl rfl⟩, .inl rfl⟩ (Below.refl _ _)
  · have hC' := hC
    obtain ⟨z, rfl, hz⟩ := hC.2.2.2.2.resolve_left hl
    have hlen := hC.1
    subst hlen
    obtain ⟨xs, h1, h2, h3, h4⟩ := cells_list w z (code.length * 7) (code_list hz)
    refine step_append_lies w hgd s x 45 ho w.heap.size 50 i46 _ 7 56 Tryd.underlying45 hi46 hy0 hy1 hy2 rfl (by omega) (.slice none 0 0) 0 [] hs (World.ownsRow_nil _ _ _ _) z code.length cc xs hx h1 h4 h2 (by omega) (by unfold maxLen; omega) (by omega) (Nat.le_refl _) w.heap.size rfl ?_
    intro g cp w' hown hgrow hat _
    rw [Nat.zero_add] at hown ⊢
    rw [List.nil_append] at hown
    refine h _ cp w' (code_new hC' (by omega) h3 hown) ?_
    exact ⟨hgrow.os, hgrow.tape, hgrow.output, hgrow.size, fun j hj => hgrow.block j hj (by simp [Value.ownBlock])⟩
/- the cells of a row of functions -/
def FnsX (W : World) (xs : List Value) (fs : List Fun) : Prop := xs.length = fs.length * 2 ∧ ∀ k, k < fs.length → xs[k * 2]? = some (.int .i64 (fs.getD k zeroF).1) ∧ ∃ b l c, xs[k * 2 + 1]? = some (.slice b l c) ∧ CodeIn W b l c (fs.getD k zeroF).2
theorem FnsX.grown {W W' : World} {xs : List Value} {fs : List Fun} {row : Option Nat} (h : FnsX W xs fs) (hg : W.grownBy W' row) (hr : ∀ n, Ty1 W 50 n → some n ≠ row) : FnsX W' xs fs :=
  ⟨h.1, fun k hk => by
    obtain ⟨h1, b, l, c, h2, h3⟩ := h.2 k hk
    exact ⟨h1, b, l, c, h2, h3.grown hg hr⟩⟩
theorem FnsX.snoc {W : World} {xs : List Value} {fs : List Fun} (h : FnsX W xs fs) {args : Int} {b : Option Addr} {l c : Nat} {code : List I} (hC : CodeIn W b l c code) : FnsX W (xs ++ [.int .i64 args, .slice b l c]) (fs ++ [(args, code)]) := by
  have hl := h.1
  refine ⟨by simp [hl]; omega, fun k hkl => ?_⟩
  by_cases hkn : k < fs.length
  · have hg : (fs ++ [(args, code)]).getD k zeroF = fs.getD k zeroF := by simp [List.getD_eq_getElem?_getD, List.getElem?_append_left hkn]
    rw [hg]
    obtain ⟨e1, b', l', c', e3, e4⟩ := h.2 k hkn
    exact ⟨by rw [List.getElem?_append_left (by omega)]; exact e1, b', l', c', by rw [List.getElem?_append_left (by omega)]; exact e3, e4⟩
  · have hk2 : k = fs.length := by simp at hkl; omega
    subst hk2
    have hg : (fs ++ [(args, code)]).getD fs.length zeroF = (args, code) := by simp [List.getD_eq_getElem?_getD]
    rw [hg]
    refine ⟨?_, b, l, c, ?_, hC⟩
    · rw [List.getElem?_append_right (by omega), hl]
      simp
    · rw [List.getElem?_append_right (by omega), hl]
      simp
theorem FnsX.fns {W : World} {base k : Nat} {v : Value} {xs : List Value} {fs : List Fun} (h : FnsX W xs fs) (hk : fs.length = k) (hown : W.ownsRow base 47 2 v k xs) : ∃ b cp, v = .slice b k cp ∧ FnsAt W b k cp fs := by
  subst hk
  have hown' := hown
  obtain ⟨_, ⟨rfl, hn⟩ | ⟨g, cap, cur, rfl, hb, hh, hc, hm, hs, ht⟩⟩ := hown
  · rw [hn]
    exact ⟨none, 0, rfl, hn, Nat.le_refl _, Nat.zero_le _, .inl rfl⟩
  · have hcell := own_cells hown'
    refine ⟨_, cap, rfl, rfl, hc, hm, .inr ⟨_, rfl, fun k hk => ?_⟩⟩
    obtain ⟨h1, b, l, c, h2, h3⟩ := h.2 k hk
    rw [addr_add]
    exact ⟨hcell _ _ h1, b, l, c, hcell _ _ h2, h3.1⟩
theorem own_row_ty {W : World} {t t' : TypeId} {base size n U : Nat} {v : Value} {xs : List Value} {cs : Array Value} (h : W.ownsRow base t size v n xs) (hB : Box W U t' cs) (hne : t' ≠ t) : some U ≠ v.ownBlock := by
  obtain ⟨_, ⟨rfl, _⟩ | ⟨g, cap, cur, rfl, hb, hh, _⟩⟩ := h
  · simp [Value.ownBlock]
  · intro e
    have e' : U = g := Option.some.inj e
    subst e'
    have h2 : some (Obj.cells cur t (0, 0)) = some (Obj.cells cs t' (0, 0)) := hh.symm.trans hB
    simp only [Option.some.injEq, Obj.cells.injEq] at h2
    exact hne h2.2.1.symm
theorem own_row_inst {W : World} {base size n : Nat} {v : Value} {xs : List Value} (h : W.ownsRow base 47 size v n xs) : ∀ m, Ty1 W 50 m → some m ≠ v.ownBlock := by
  obtain ⟨_, ⟨rfl, _⟩ | ⟨g, cap, cur, rfl, hb, hh, _⟩⟩ := h
  · intro m _; simp [Value.ownBlock]
  · intro m hm e
    have e' : m = g := Option.some.inj e
    subst e'
    exact hm.ne hh (by decide) rfl
structure Sw (w wr : World) (y : Addr) (len cap O R : Nat) (v : Value) (k : Nat) (xs : List Value) (fs : List Fun) : Prop where
  below : Below w.heap.size w wr
  own : wr.ownsRow w.heap.size 47 2 v k xs
  fx : FnsX wr xs fs
  p : Box wr w.heap.size 24 #[.slice (some y) len cap]
  r : Box wr R 24 #[.slice none 0 0]
  o : Box wr O 24 #[v]
theorem Sw.push {w wr w4 w7 : World} {y : Addr} {len cap O R k g cp : Nat} {v : Value} {xs : List Value} {fs : List Fun} {args : Int} {code : List I} {b : Option Addr} {l c : Nat} (h : Sw w wr y len cap O R v k xs fs) (hb4 : Below wr.heap.size wr w4) (hC : CodeIn w4 b l c code)
    (hown : w7.ownsRow w.heap.size 47 2 (.slice (some ⟨g, 0, none⟩) (k + 1) cp) (k + 1) (xs ++ [.int .i64 args, .slice b l c])) (hg : (w4.alloc (.cells #[.int .i64 args, .slice b l c] 47)).grownBy w7 v.ownBlock) (hRO : R ≠ O) (hO : w.heap.size ≤ O) (hPO : w.heap.size ≠ O) :
    Sw w (w7.setCell ⟨O, 0, none⟩ (.slice (some ⟨g, 0, none⟩) (k + 1) cp)) y len cap O R (.slice (some ⟨g, 0, none⟩) (k + 1) cp) (k + 1) (xs ++ [.int .i64 args, .slice b l c]) (fs ++ [(args, code)]) ∧ Box w7 O 24 #[v] := by
  have hb5 : Below wr.heap.size wr (w4.alloc (.cells #[.int .i64 args, .slice b l c] 47)) := hb4.alloc hb4.size _
  have ha5 : Below w4.heap.size w4 (w4.alloc (.cells #[.int .i64 args, .slice b l c] 47)) := belowA _ _
  have ho5 := ownsRow_below h.own hb5
  have hlt := h.own.lt
  have hs := h.below.size
  have hO7 : Box w7 O 24 #[v] := (h.o.later hb5).grown hg (own_row_ty ho5 (h.o.later hb5) (by decide))
  have hset := grownBy_setCell w7 ⟨O, 0, none⟩ (.slice (some ⟨g, 0, none⟩) (k + 1) cp)
  have hb7 : Below w.heap.size w w7 := (h.below.trans (hb5.mono hs)).grown hg (Nat.le_trans hs hb5.size) (fun n hn => (hlt n hn).1)
  refine ⟨⟨hb7.setCell (p := ⟨O, 0, none⟩) hO _, ?_, ?_, ?_, ?_, ?_⟩, hO7⟩
  · exact hown.kept hset (.inr (fun e => own_row_ty hown hO7 (by decide) e.symm))
  · have hf : FnsX w7 (xs ++ [.int .i64 args, .slice b l c]) (fs ++ [(args, code)]) :=
      ((h.fx.grown (grownBy_of_below hb5 none) (fun _ _ => by simp)).snoc (hC.grown (grownBy_of_below ha5 none) (fun _ _ => by simp))).grown hg (own_row_inst ho5)
    exact hf.grown hset (fun n hn e => hn.ne hO7 (by decide) (Option.some.inj e))
  · exact ((h.p.later hb5).grown hg (own_row_ty ho5 (h.p.later hb5) (by decide))).other (p := ⟨O, 0, none⟩) hPO _
  · exact ((h.r.later hb5).grown hg (own_row_ty ho5 (h.r.later hb5) (by decide))).other (p := ⟨O, 0, none⟩) hRO _
  · exact hO7.set 0 _
theorem take_fn (fs : List Fun) (k : Nat) (f : Fun) (h : k < fs.length) (hi : fs.getD k zeroF = f) : fs.take (k + 1) = fs.take k ++ [f] := by
  rw [take_getD fs k zeroF h, hi]
set_option maxRecDepth 100000 in
set_option maxHeartbeats 40000000 in
theorem rpown_some (y : Addr) (len cap : Nat) (fs : List Fun) (w : World) (h : FnsAt w (some y) len cap fs) (hf : fewP fs = true) :
    Calls Tryd.prog 17 #[.agg #[.slice (some y) len cap]] w fun e w' => ∃ b cp, e = .returned (.agg #[.slice b len cp]) ∧ Below w.heap.size w w' ∧ FnsAt w' b len cp fs := by
  obtain ⟨i28, hi28, hz0, hz1, hz2⟩ := info_parts infoFn
  obtain ⟨h1, h2, h3, h5⟩ := h
  have H1 := Lib.hid h1
  have hm : len ≤ 9223372036854775807 := by unfold maxLen at h3; omega
  simp only [fewP, Bool.and_eq_true, decide_eq_true_eq, List.all_eq_true] at hf
  have h12 : len ≤ 12 := by rw [← h1]; exact hf.1
  have HF := Lib.hid hf.2
  have HY : Hid (∀ k, k < len → FnHere w (y.add (k * 2)) (fs.getD k zeroF)) := Lib.hid (fun k hk => by
    rcases h5 with h | ⟨y', h, h6⟩
    · omega
    · cases h
      exact h6 k hk)
  clear h1 h2 h3 h5 hf
  obtain ⟨W1, hW1⟩ : ∃ W1, ((w.alloc (.cells #[.slice (some y) len cap] 24)).alloc (.cells #[.slice none 0 0] 24)).alloc (.cells #[.slice none 0 0] 24) = W1 := ⟨_, rfl⟩
  have HI0 : Hid (Sw w W1 y len cap (w.heap.size + 1 + 1) (w.heap.size + 1) (.slice none 0 0) 0 [] []) := Lib.hid (by
    rw [← hW1]
    have e1 := Box.new (w.alloc (.cells #[.slice (some y) len cap] 24)) 24 #[.slice none 0 0]
    rw [show (w.alloc (.cells #[.slice (some y) len cap] 24)).heap.size = w.heap.size + 1 by simp] at e1
    have e2 := Box.new ((w.alloc (.cells #[.slice (some y) len cap] 24)).alloc (.cells #[.slice none 0 0] 24)) 24 #[.slice none 0 0]
    rw [show ((w.alloc (.cells #[.slice (some y) len cap] 24)).alloc (.cells #[.slice none 0 0] 24)).heap.size = w.heap.size + 1 + 1 by simp] at e2
    exact ⟨(box2 (Below.refl _ _) (Nat.le_refl _) _ _).alloc (by simp; omega) _, World.ownsRow_nil _ _ _ _, ⟨rfl, fun k hk => absurd hk (by simp)⟩, ((Box.new w _ _).alloc _).alloc _, e1.alloc _, e2⟩)
  go_enter Tryd.func17, Tryd.ntmps17
  go_wp2
  try rw [hW1]
  obtain ⟨O, hO⟩ : ∃ O, w.heap.size + 1 + 1 = O := ⟨_, rfl⟩
  rw [hO] at HI0 ⊢
  obtain ⟨R, hR⟩ : ∃ R, w.heap.size + 1 = R := ⟨_, rfl⟩
  rw [hR] at HI0 ⊢
  have HRO : Hid (R ≠ O ∧ w.heap.size ≤ O ∧ w.heap.size ≠ O) := Lib.hid (by omega)
  have HR0 : Hid (w.heap.size ≤ R) := Lib.hid (by omega)
  clear hW1 hO hR
  go_loopw [4] (fun i wr => ∃ (k : Nat) (v : Value) (xs : List Value), k ≤ len ∧ i = .int .i64 k ∧ Hid (Sw w wr y len cap O R v k xs (fs.take k))) (fun i _ => len - (intOf i).toNat)
  case atStart => exact ⟨0, .slice none 0 0, [], by omega, rfl, HI0⟩
  case round =>
    obtain ⟨k, v, xs, hk, rfl, HI⟩ := hrel
    clear HI0
    have cb : wr.cell? ⟨w.heap.size, 0, none⟩ = some (.slice (some y) len cap) := HI.out.p.cell rfl
    have hk0 : (0 : Int) ≤ (k : Int) := Int.natCast_nonneg _
    by_cases hkl : k < len
    · have hkI : (k : Int) < (len : Int) := by omega
      have cO : wr.cell? ⟨O, 0, none⟩ = some v := HI.out.o.cell rfl
      have hI := HY.out k hkl
      have hl80 := HF.out _ (getD_mem fs k zeroF (by rw [H1.out]; exact hkl))
      rcases hi : fs.getD k zeroF with ⟨args, code⟩
      rw [hi] at hI hl80
      have HIk := Lib.hid (take_fn fs k _ (by rw [H1.out]; exact hkl) hi)
      obtain ⟨iw0, b, l, cc, iw1, hCode⟩ := hI
      simp only at iw0 iw1 hCode hl80
      have hl : code.length = l := hCode.1
      rw [hl] at hl80
      have HIw := Lib.hid (And.intro iw0 iw1)
      have HCode : Hid (CodeAt wr.drew b l cc code) := Lib.hid (hCode.below HI.out.below.drew)
      have HKc : Hid (∀ w', Below wr.heap.size wr w' → w'.cell? ⟨w.heap.size, 0, none⟩ = some (.slice (some y) len cap) ∧ w'.cell? (y.add (k * 2)) = some (.int .i64 args) ∧ w'.cell? ⟨(y.add (k * 2)).block, (y.add (k * 2)).off + 1, none⟩ = some (.slice b l cc)) := Lib.hid (fun w' hb => by
        have hbw := HI.out.below.trans (hb.mono HI.out.below.size)
        exact ⟨(HI.out.p.later hb).cell rfl, (hbw.cell (lt_of_cell HIw.out.1)).trans HIw.out.1, (hbw.cell (lt_of_cell HIw.out.2)).trans HIw.out.2⟩)
      clear hi hl iw0 iw1 hCode
      go_wp2_with fail
      refine wp_region_held_drew (S := (fun w' => w'.cell? ⟨w.heap.size, 0, none⟩ = some (.slice (some y) len cap) ∧ w'.cell? (y.add (k * 2)) = some (.int .i64 args) ∧ w'.cell? ⟨(y.add (k * 2)).block, (y.add (k * 2)).off + 1, none⟩ = some (.slice b l cc))) (by kernel_rfl) (HKc.out _ (Below.refl _ _).drew) (fun hHeld => ?_)
      refine wpAnyH_yield (i := 0) (v := ?v0) rfl rfl (by kernel_rfl) (by kernel_rfl) (by kernel_rfl) (fun _ _ _ h => h) (by rfl) ?hy0 hHeld ?rest0
      case hy0 =>
        intro w hSw
        (try dsimp only at hSw)
        go_simp
        try with_reducible rfl
      simp only [Act.put, List.setIfInBounds_toArray, List.set_cons_zero, List.set_cons_succ]
      refine wpAnyH_yield (i := 2) (v := ?v2) rfl rfl (by kernel_rfl) (by kernel_rfl) (by kernel_rfl) (fun _ _ _ h => h) (by rfl) ?hy2 hHeld ?rest2
      case hy2 =>
        intro w hSw
        (try dsimp only at hSw)
        go_simp
        try with_reducible rfl
      simp only [Act.put, List.setIfInBounds_toArray, List.set_cons_zero, List.set_cons_succ]
      refine wpAnyH_yield (i := 3) (v := ?v3) rfl rfl (by kernel_rfl) (by kernel_rfl) (by kernel_rfl) (fun _ _ _ h => h) (by rfl) ?hy3 hHeld ?rest3
      case hy3 =>
        intro w hSw
        (try dsimp only at hSw)
        go_simp
        try with_reducible rfl
      simp only [Act.put, List.setIfInBounds_toArray, List.set_cons_zero, List.set_cons_succ]
      refine wpAnyH_yield (i := 4) (v := ?v4) rfl rfl (by kernel_rfl) (by kernel_rfl) (by kernel_rfl) (fun _ _ _ h => h) (by rfl) ?hy4 hHeld ?rest4
      case hy4 =>
        intro w hSw
        (try dsimp only at hSw)
        go_simp
        try with_reducible rfl
      simp only [Act.put, List.setIfInBounds_toArray, List.set_cons_zero, List.set_cons_succ]
      refine wpAnyH_yield (i := 5) (v := ?v5) rfl rfl (by kernel_rfl) (by kernel_rfl) (by kernel_rfl) (fun _ _ _ h => h) (by rfl) ?hy5 hHeld ?rest5
      case hy5 =>
        intro w hSw
        (try dsimp only at hSw)
        go_simp
        try with_reducible rfl
      simp only [Act.put, List.setIfInBounds_toArray, List.set_cons_zero, List.set_cons_succ]
      refine wpAnyH_yield (i := 6) (v := ?v6) rfl rfl (by kernel_rfl) (by kernel_rfl) (by kernel_rfl) (fun _ _ _ h => h) (by rfl) ?hy6 hHeld ?rest6
      case hy6 =>
        intro w hSw
        (try dsimp only at hSw)
        go_simp
        try with_reducible rfl
      simp only [Act.put, List.setIfInBounds_toArray, List.set_cons_zero, List.set_cons_succ]
      refine wpAnyH_yield (i := 7) (v := ?v7) rfl rfl (by kernel_rfl) (by kernel_rfl) (by kernel_rfl) (fun _ _ _ h => h) (by rfl) ?hy7 hHeld ?rest7
      case hy7 =>
        intro w hSw
        (try dsimp only at hSw)
        go_simp
        try with_reducible rfl
      simp only [Act.put, List.setIfInBounds_toArray, List.set_cons_zero, List.set_cons_succ]
      refine wpAnyH_yield (i := 8) (v := ?v8) rfl rfl (by kernel_rfl) (by kernel_rfl) (by kernel_rfl) (fun _ _ _ h => h) (by rfl) ?hy8 hHeld ?rest8
      case hy8 =>
        intro w hSw
        (try dsimp only at hSw)
        go_simp
        try with_reducible rfl
      simp only [Act.put, List.setIfInBounds_toArray, List.set_cons_zero, List.set_cons_succ]
      refine wpAnyH_yield (i := 9) (v := ?v9) rfl rfl (by kernel_rfl) (by kernel_rfl) (by kernel_rfl) (fun _ _ _ h => h) (by rfl) ?hy9 hHeld ?rest9
      case hy9 =>
        intro w hSw
        (try dsimp only at hSw)
        go_simp
        try with_reducible rfl
      simp only [Act.put, List.setIfInBounds_toArray, List.set_cons_zero, List.set_cons_succ]
      refine wpAnyH_yield (i := 10) (v := ?v10) rfl rfl (by kernel_rfl) (by kernel_rfl) (by kernel_rfl) (fun _ _ _ h => h) (by rfl) ?hy10 hHeld ?rest10
      case hy10 =>
        intro w hSw
        (try dsimp only at hSw)
        go_simp
        try with_reducible rfl
      simp only [Act.put, List.setIfInBounds_toArray, List.set_cons_zero, List.set_cons_succ]
      refine wpAnyH_yield (i := 11) (v := ?v11) rfl rfl (by kernel_rfl) (by kernel_rfl) (by kernel_rfl) (fun _ _ _ h => h) (by rfl) ?hy11 hHeld ?rest11
      case hy11 =>
        intro w hSw
        (try dsimp only at hSw)
        go_simp
        try with_reducible rfl
      simp only [Act.put, List.setIfInBounds_toArray, List.set_cons_zero, List.set_cons_succ]
      refine wpAnyH_yield (i := 12) (v := ?v12) rfl rfl (by kernel_rfl) (by kernel_rfl) (by kernel_rfl) (fun _ _ _ h => h) (by rfl) ?hy12 hHeld ?rest12
      case hy12 =>
        intro w hSw
        (try dsimp only at hSw)
        go_simp
        try with_reducible rfl
      simp only [Act.put, List.setIfInBounds_toArray, List.set_cons_zero, List.set_cons_succ]
      refine wpAnyH_yield (i := 13) (v := ?v13) rfl rfl (by kernel_rfl) (by kernel_rfl) (by kernel_rfl) (fun _ _ _ h => h) (by rfl) ?hy13 hHeld ?rest13
      case hy13 =>
        intro w hSw
        (try dsimp only at hSw)
        go_simp
        try with_reducible rfl
      simp only [Act.put, List.setIfInBounds_toArray, List.set_cons_zero, List.set_cons_succ]
      refine wpAnyH_ready (rs := [1, 14]) (by kernel_rfl) (by simp) ?_
      refine AllReadyH.cons rfl (fun K hK => ?_) ?_
      · go_simp
        refine hK.out _ _ (HKc.out _ ((Below.refl _ _).drew)) (fun hHeld => ?_)
        clear hK K
        try simp only [Act.put, List.setIfInBounds_toArray, List.set_cons_zero, List.set_cons_succ]
        refine wpAnyH_ready (rs := [14]) (by kernel_rfl) (by simp) ?_
        refine AllReadyH.cons rfl (fun K hK => ?_) AllReadyH.nil
        refine step_copyI _ (by rfl) _ _ (by rfl) (by rfl) (by rfl) b l cc code (by rfl) HCode.out hl80 ?_
        intro b4 cp4 w4 hC4 hb4
        have HC4 := Lib.hid hC4
        have HB4 : Hid (Below wr.heap.size wr w4) := Lib.hid ((Below.refl _ _).drew.trans hb4)
        have hO4 : w4.cell? ⟨O, 0, none⟩ = some v := (HI.out.o.later HB4.out).cell rfl
        clear hC4 hb4
        refine hK.out _ _ (HKc.out _ (HB4.out)) (fun hHeld => ?_)
        clear hK K
        try simp only [Act.put, List.setIfInBounds_toArray, List.set_cons_zero, List.set_cons_succ]
        refine wpAnyH_yield (i := 15) (v := ?va15) rfl rfl (by kernel_rfl) (by kernel_rfl) (by kernel_rfl) (fun _ _ _ h => h) (by rfl) ?hya15 hHeld ?resta15
        case hya15 =>
          intro w hSw
          (try dsimp only at hSw)
          go_simp
          try with_reducible rfl
        simp only [Act.put, List.setIfInBounds_toArray, List.set_cons_zero, List.set_cons_succ]
        refine wpAnyH_ready (rs := [16]) (by kernel_rfl) (by simp) ?_
        refine AllReadyH.cons rfl (fun K hK => ?_) AllReadyH.nil
        go_simp
        have HB5 : Hid (Below wr.heap.size wr (w4.alloc (.cells #[.int .i64 args, .slice b4 l cp4] 47))) := Lib.hid (HB4.out.alloc HB4.out.size _)
        have hO5 : (w4.alloc (.cells #[.int .i64 args, .slice b4 l cp4] 47)).cell? ⟨O, 0, none⟩ = some v := (HI.out.o.later HB5.out).cell rfl
        refine hK.out _ _ (HKc.out _ (HB5.out)) (fun hHeld => ?_)
        clear hK K
        try simp only [Act.put, List.setIfInBounds_toArray, List.set_cons_zero, List.set_cons_succ]
        refine wpAnyH_ready (rs := [17]) (by kernel_rfl) (by simp) ?_
        refine AllReadyH.cons rfl (fun K hK => ?_) AllReadyH.nil
        refine step_append_lies _ (by rfl) _ _ _ (by rfl) w.heap.size 47 i28 _ 2 32 Tryd.underlying22 hi28 hz0 hz1 hz2 rfl (by omega) v k xs (by rfl) (ownsRow_below HI.out.own HB5.out)
          ⟨w4.heap.size, 0, none⟩ 1 1 [.int .i64 args, .slice b4 l cp4] (by rfl) (by rfl) (World.news_of_block (cs := #[.int .i64 args, .slice b4 l cp4]) (t := 47) (fr := (0, 0)) (heap_alloc_new w4 _)) (by simp [Value.oneCell'])
          (by omega) (by unfold maxLen; omega) (by omega) (Nat.le_trans HI.out.below.size HB5.out.size) (w4.heap.size + 1) (by simp) ?_
        intro g7 cp7 w7 hown7 hgrow7 hat7 hlt7
        obtain ⟨hP7, hBO7⟩ := HI.out.push HB4.out HC4.out hown7 hgrow7 HRO.out.1 HRO.out.2.1 HRO.out.2.2
        have HP7 := Lib.hid hP7
        have HB7 : Hid (Below w.heap.size w w7) := Lib.hid ((HI.out.below.trans (HB5.out.mono HI.out.below.size)).grown hgrow7 (Nat.le_trans HI.out.below.size HB5.out.size) (fun n hn => (HI.out.own.lt n hn).1))
        have HBO7 := Lib.hid hBO7
        have hO7 : w7.cell? ⟨O, 0, none⟩ = some v := hBO7.cell rfl
        have fO7 : w7.frozen? ⟨O, 0, none⟩ = false := hBO7.free 0
        have hp7 : w7.cell? ⟨w.heap.size, 0, none⟩ = some (.slice (some y) len cap) := ((HI.out.p.later HB5.out).grown hgrow7 (own_row_ty (ownsRow_below HI.out.own HB5.out) (HI.out.p.later HB5.out) (by decide))).cell rfl
        clear hown7 hgrow7 hat7 hlt7 hP7 hBO7
        refine hK.out _ _ (⟨hp7, (HB7.out.cell (lt_of_cell HIw.out.1)).trans HIw.out.1, (HB7.out.cell (lt_of_cell HIw.out.2)).trans HIw.out.2⟩) (fun hHeld => ?_)
        clear hK K
        try simp only [Act.put, List.setIfInBounds_toArray, List.set_cons_zero, List.set_cons_succ]
        refine wpAnyH_yield (i := 18) (v := ?va18) rfl rfl (by kernel_rfl) (by kernel_rfl) (by kernel_rfl) (fun _ _ _ h => h) (by rfl) ?hya18 hHeld ?resta18
        case hya18 =>
          intro w hSw
          (try dsimp only at hSw)
          go_simp
          try with_reducible rfl
        simp only [Act.put, List.setIfInBounds_toArray, List.set_cons_zero, List.set_cons_succ]
        refine wpAnyH_ready (rs := [19]) (by kernel_rfl) (by simp) ?_
        refine AllReadyH.cons rfl (fun K hK => ?_) AllReadyH.nil
        go_simp
        have hX : Below w.heap.size w (w7.setCell ⟨O, 0, none⟩ (.slice (some ⟨g7, 0, none⟩) (k + 1) cp7)) := HP7.out.below
        refine hK.out _ _ (⟨HP7.out.p.cell rfl, (hX.cell (lt_of_cell HIw.out.1)).trans HIw.out.1, (hX.cell (lt_of_cell HIw.out.2)).trans HIw.out.2⟩) (fun hHeld => ?_)
        clear hK K
        try simp only [Act.put, List.setIfInBounds_toArray, List.set_cons_zero, List.set_cons_succ]
        refine wpAnyH_done (by kernel_rfl) ?_ _
        rw [← HIk.out] at HP7
        clear hO7 fO7 hp7 hHeld HC4 HB4 HB5 HB7 HBO7
        go_wp2
        exact ⟨⟨k + 1, _, _, by omega, by go_num, HP7⟩, by simp [intOf]; omega⟩
      refine AllReadyH.cons rfl (fun K hK => ?_) AllReadyH.nil
      refine step_copyI _ (by rfl) _ _ (by rfl) (by rfl) (by rfl) b l cc code (by rfl) HCode.out hl80 ?_
      intro b4 cp4 w4 hC4 hb4
      have HC4 := Lib.hid hC4
      have HB4 : Hid (Below wr.heap.size wr w4) := Lib.hid ((Below.refl _ _).drew.trans hb4)
      have hO4 : w4.cell? ⟨O, 0, none⟩ = some v := (HI.out.o.later HB4.out).cell rfl
      clear hC4 hb4
      refine hK.out _ _ (HKc.out _ (HB4.out)) (fun hHeld => ?_)
      clear hK K
      try simp only [Act.put, List.setIfInBounds_toArray, List.set_cons_zero, List.set_cons_succ]
      refine wpAnyH_yield (i := 15) (v := ?vb15) rfl rfl (by kernel_rfl) (by kernel_rfl) (by kernel_rfl) (fun _ _ _ h => h) (by rfl) ?hyb15 hHeld ?restb15
      case hyb15 =>
        intro w hSw
        (try dsimp only at hSw)
        go_simp
        try with_reducible rfl
      simp only [Act.put, List.setIfInBounds_toArray, List.set_cons_zero, List.set_cons_succ]
      refine wpAnyH_ready (rs := [1, 16]) (by kernel_rfl) (by simp) ?_
      refine AllReadyH.cons rfl (fun K hK => ?_) ?_
      · go_simp
        refine hK.out _ _ (HKc.out _ (HB4.out)) (fun hHeld => ?_)
        clear hK K
        try simp only [Act.put, List.setIfInBounds_toArray, List.set_cons_zero, List.set_cons_succ]
        refine wpAnyH_ready (rs := [16]) (by kernel_rfl) (by simp) ?_
        refine AllReadyH.cons rfl (fun K hK => ?_) AllReadyH.nil
        go_simp
        have HB5 : Hid (Below wr.heap.size wr (w4.alloc (.cells #[.int .i64 args, .slice b4 l cp4] 47))) := Lib.hid (HB4.out.alloc HB4.out.size _)
        have hO5 : (w4.alloc (.cells #[.int .i64 args, .slice b4 l cp4] 47)).cell? ⟨O, 0, none⟩ = some v := (HI.out.o.later HB5.out).cell rfl
        refine hK.out _ _ (HKc.out _ (HB5.out)) (fun hHeld => ?_)
        clear hK K
        try simp only [Act.put, List.setIfInBounds_toArray, List.set_cons_zero, List.set_cons_succ]
        refine wpAnyH_ready (rs := [17]) (by kernel_rfl) (by simp) ?_
        refine AllReadyH.cons rfl (fun K hK => ?_) AllReadyH.nil
        refine step_append_lies _ (by rfl) _ _ _ (by rfl) w.heap.size 47 i28 _ 2 32 Tryd.underlying22 hi28 hz0 hz1 hz2 rfl (by omega) v k xs (by rfl) (ownsRow_below HI.out.own HB5.out)
          ⟨w4.heap.size, 0, none⟩ 1 1 [.int .i64 args, .slice b4 l cp4] (by rfl) (by rfl) (World.news_of_block (cs := #[.int .i64 args, .slice b4 l cp4]) (t := 47) (fr := (0, 0)) (heap_alloc_new w4 _)) (by simp [Value.oneCell'])
          (by omega) (by unfold maxLen; omega) (by omega) (Nat.le_trans HI.out.below.size HB5.out.size) (w4.heap.size + 1) (by simp) ?_
        intro g7 cp7 w7 hown7 hgrow7 hat7 hlt7
        obtain ⟨hP7, hBO7⟩ := HI.out.push HB4.out HC4.out hown7 hgrow7 HRO.out.1 HRO.out.2.1 HRO.out.2.2
        have HP7 := Lib.hid hP7
        have HB7 : Hid (Below w.heap.size w w7) := Lib.hid ((HI.out.below.trans (HB5.out.mono HI.out.below.size)).grown hgrow7 (Nat.le_trans HI.out.below.size HB5.out.size) (fun n hn => (HI.out.own.lt n hn).1))
        have HBO7 := Lib.hid hBO7
        have hO7 : w7.cell? ⟨O, 0, none⟩ = some v := hBO7.cell rfl
        have fO7 : w7.frozen? ⟨O, 0, none⟩ = false := hBO7.free 0
        have hp7 : w7.cell? ⟨w.heap.size, 0, none⟩ = some (.slice (some y) len cap) := ((HI.out.p.later HB5.out).grown hgrow7 (own_row_ty (ownsRow_below HI.out.own HB5.out) (HI.out.p.later HB5.out) (by decide))).cell rfl
        clear hown7 hgrow7 hat7 hlt7 hP7 hBO7
        refine hK.out _ _ (⟨hp7, (HB7.out.cell (lt_of_cell HIw.out.1)).trans HIw.out.1, (HB7.out.cell (lt_of_cell HIw.out.2)).trans HIw.out.2⟩) (fun hHeld => ?_)
        clear hK K
        try simp only [Act.put, List.setIfInBounds_toArray, List.set_cons_zero, List.set_cons_succ]
        refine wpAnyH_yield (i := 18) (v := ?vc18) rfl rfl (by kernel_rfl) (by kernel_rfl) (by kernel_rfl) (fun _ _ _ h => h) (by rfl) ?hyc18 hHeld ?restc18
        case hyc18 =>
          intro w hSw
          (try dsimp only at hSw)
          go_simp
          try with_reducible rfl
        simp only [Act.put, List.setIfInBounds_toArray, List.set_cons_zero, List.set_cons_succ]
        refine wpAnyH_ready (rs := [19]) (by kernel_rfl) (by simp) ?_
        refine AllReadyH.cons rfl (fun K hK => ?_) AllReadyH.nil
        go_simp
        have hX : Below w.heap.size w (w7.setCell ⟨O, 0, none⟩ (.slice (some ⟨g7, 0, none⟩) (k + 1) cp7)) := HP7.out.below
        refine hK.out _ _ (⟨HP7.out.p.cell rfl, (hX.cell (lt_of_cell HIw.out.1)).trans HIw.out.1, (hX.cell (lt_of_cell HIw.out.2)).trans HIw.out.2⟩) (fun hHeld => ?_)
        clear hK K
        try simp only [Act.put, List.setIfInBounds_toArray, List.set_cons_zero, List.set_cons_succ]
        refine wpAnyH_done (by kernel_rfl) ?_ _
        rw [← HIk.out] at HP7
        clear hO7 fO7 hp7 hHeld HC4 HB4 HB5 HB7 HBO7
        go_wp2
        exact ⟨⟨k + 1, _, _, by omega, by go_num, HP7⟩, by simp [intOf]; omega⟩
      refine AllReadyH.cons rfl (fun K hK => ?_) AllReadyH.nil
      go_simp
      have HB5 : Hid (Below wr.heap.size wr (w4.alloc (.cells #[.int .i64 args, .slice b4 l cp4] 47))) := Lib.hid (HB4.out.alloc HB4.out.size _)
      have hO5 : (w4.alloc (.cells #[.int .i64 args, .slice b4 l cp4] 47)).cell? ⟨O, 0, none⟩ = some v := (HI.out.o.later HB5.out).cell rfl
      refine hK.out _ _ (HKc.out _ (HB5.out)) (fun hHeld => ?_)
      clear hK K
      try simp only [Act.put, List.setIfInBounds_toArray, List.set_cons_zero, List.set_cons_succ]
      refine wpAnyH_ready (rs := [1]) (by kernel_rfl) (by simp) ?_
      refine AllReadyH.cons rfl (fun K hK => ?_) AllReadyH.nil
      go_simp
      refine hK.out _ _ (HKc.out _ (HB5.out)) (fun hHeld => ?_)
      clear hK K
      try simp only [Act.put, List.setIfInBounds_toArray, List.set_cons_zero, List.set_cons_succ]
      refine wpAnyH_ready (rs := [17]) (by kernel_rfl) (by simp) ?_
      refine AllReadyH.cons rfl (fun K hK => ?_) AllReadyH.nil
      refine step_append_lies _ (by rfl) _ _ _ (by rfl) w.heap.size 47 i28 _ 2 32 Tryd.underlying22 hi28 hz0 hz1 hz2 rfl (by omega) v k xs (by rfl) (ownsRow_below HI.out.own HB5.out)
        ⟨w4.heap.size, 0, none⟩ 1 1 [.int .i64 args, .slice b4 l cp4] (by rfl) (by rfl) (World.news_of_block (cs := #[.int .i64 args, .slice b4 l cp4]) (t := 47) (fr := (0, 0)) (heap_alloc_new w4 _)) (by simp [Value.oneCell'])
        (by omega) (by unfold maxLen; omega) (by omega) (Nat.le_trans HI.out.below.size HB5.out.size) (w4.heap.size + 1) (by simp) ?_
      intro g7 cp7 w7 hown7 hgrow7 hat7 hlt7
      obtain ⟨hP7, hBO7⟩ := HI.out.push HB4.out HC4.out hown7 hgrow7 HRO.out.1 HRO.out.2.1 HRO.out.2.2
      have HP7 := Lib.hid hP7
      have HB7 : Hid (Below w.heap.size w w7) := Lib.hid ((HI.out.below.trans (HB5.out.mono HI.out.below.size)).grown hgrow7 (Nat.le_trans HI.out.below.size HB5.out.size) (fun n hn => (HI.out.own.lt n hn).1))
      have HBO7 := Lib.hid hBO7
      have hO7 : w7.cell? ⟨O, 0, none⟩ = some v := hBO7.cell rfl
      have fO7 : w7.frozen? ⟨O, 0, none⟩ = false := hBO7.free 0
      have hp7 : w7.cell? ⟨w.heap.size, 0, none⟩ = some (.slice (some y) len cap) := ((HI.out.p.later HB5.out).grown hgrow7 (own_row_ty (ownsRow_below HI.out.own HB5.out) (HI.out.p.later HB5.out) (by decide))).cell rfl
      clear hown7 hgrow7 hat7 hlt7 hP7 hBO7
      refine hK.out _ _ (⟨hp7, (HB7.out.cell (lt_of_cell HIw.out.1)).trans HIw.out.1, (HB7.out.cell (lt_of_cell HIw.out.2)).trans HIw.out.2⟩) (fun hHeld => ?_)
      clear hK K
      try simp only [Act.put, List.setIfInBounds_toArray, List.set_cons_zero, List.set_cons_succ]
      refine wpAnyH_yield (i := 18) (v := ?vd18) rfl rfl (by kernel_rfl) (by kernel_rfl) (by kernel_rfl) (fun _ _ _ h => h) (by rfl) ?hyd18 hHeld ?restd18
      case hyd18 =>
        intro w hSw
        (try dsimp only at hSw)
        go_simp
        try with_reducible rfl
      simp only [Act.put, List.setIfInBounds_toArray, List.set_cons_zero, List.set_cons_succ]
      refine wpAnyH_ready (rs := [19]) (by kernel_rfl) (by simp) ?_
      refine AllReadyH.cons rfl (fun K hK => ?_) AllReadyH.nil
      go_simp
      have hX : Below w.heap.size w (w7.setCell ⟨O, 0, none⟩ (.slice (some ⟨g7, 0, none⟩) (k + 1) cp7)) := HP7.out.below
      refine hK.out _ _ (⟨HP7.out.p.cell rfl, (hX.cell (lt_of_cell HIw.out.1)).trans HIw.out.1, (hX.cell (lt_of_cell HIw.out.2)).trans HIw.out.2⟩) (fun hHeld => ?_)
      clear hK K
      try simp only [Act.put, List.setIfInBounds_toArray, List.set_cons_zero, List.set_cons_succ]
      refine wpAnyH_done (by kernel_rfl) ?_ _
      rw [← HIk.out] at HP7
      clear hO7 fO7 hp7 hHeld HC4 HB4 HB5 HB7 HBO7
      go_wp2
      exact ⟨⟨k + 1, _, _, by omega, by go_num, HP7⟩, by simp [intOf]; omega⟩
    · have hkI : ¬ (k : Int) < (len : Int) := by omega
      have hkn : k = len := by omega
      have HE : Hid (fs.take k = fs) := Lib.hid (List.take_of_length_le (by rw [H1.out]; omega))
      rw [HE.out] at HI
      have HKN := Lib.hid hkn
      obtain ⟨b, cp, hv, hFn⟩ := HI.out.fx.fns (by rw [H1.out]; exact hkn.symm) HI.out.own
      subst hv
      have HFn := Lib.hid hFn
      have cO : wr.cell? ⟨O, 0, none⟩ = some (.slice b k cp) := HI.out.o.cell rfl
      have HBR := Lib.hid HI.out.r
      clear hkn hFn
      go_wp2_with (refine wpList_store_row rfl 24 _ _ rfl R _ rfl rfl 24 _ HBR.out (by kernel_rfl) rfl (by simp [Value.oneCell']) ?_)
      refine bodyPost_ret (v := .agg #[.slice b k cp]) ?_ rfl ?_
      · exact results_cell_row Tryd.results17 _ _ R 24 _ (0, 0) _ rfl (setRow_heap _ _ _ _ _ _ HBR.out) Tryd.underlying24 rfl (by kernel_rfl)
      · have hb' := below_setRow HI.out.below HR0.out #[.slice b k cp]
        refine ⟨b, cp, by rw [HKN.out], hb', ?_⟩
        rw [← HKN.out]
        have hgr := grownBy_setRow wr R #[.slice b k cp]
        have hx := HI.out.fx.grown hgr (fun n hn e => hn.ne HBR.out (by decide) (Option.some.inj e))
        have ho := HI.out.own.kept hgr (.inr (fun e => own_row_ty HI.out.own HBR.out (by decide) e.symm))
        obtain ⟨b', cp', hv', hF'⟩ := hx.fns (by rw [H1.out, HKN.out]) ho
        simp only [Value.slice.injEq, true_and] at hv'
        obtain ⟨rfl, rfl⟩ := hv'
        exact hF'
set_option maxRecDepth 100000 in
set_option maxHeartbeats 8000000 in
theorem rpown_no (a : Option Addr) (cap : Nat) (w : World) :
    Calls Tryd.prog 17 #[.agg #[.slice a 0 cap]] w fun e w' => ∃ b cp, e = .returned (.agg #[.slice b 0 cp]) ∧ Below w.heap.size w w' ∧ FnsAt w' b 0 cp [] := by
  obtain ⟨W1, hW1⟩ : ∃ W1, ((w.alloc (.cells #[.slice a 0 cap] 24)).alloc (.cells #[.slice none 0 0] 24)).alloc (.cells #[.slice none 0 0] 24) = W1 := ⟨_, rfl⟩
  have hB : Below w.heap.size w W1 := by rw [← hW1]; exact (box2 (Below.refl _ _) (Nat.le_refl _) _ _).alloc (by simp; omega) _
  have hP : Box W1 w.heap.size 24 #[.slice a 0 cap] := by rw [← hW1]; exact ((Box.new w _ _).alloc _).alloc _
  have hR : Box W1 (w.heap.size + 1) 24 #[.slice none 0 0] := by
    rw [← hW1]
    have e1 := Box.new (w.alloc (.cells #[.slice a 0 cap] 24)) 24 #[.slice none 0 0]
    rw [show (w.alloc (.cells #[.slice a 0 cap] 24)).heap.size = w.heap.size + 1 by simp] at e1
    exact e1.alloc _
  have hO : Box W1 (w.heap.size + 1 + 1) 24 #[.slice none 0 0] := by
    rw [← hW1]
    have e2 := Box.new ((w.alloc (.cells #[.slice a 0 cap] 24)).alloc (.cells #[.slice none 0 0] 24)) 24 #[.slice none 0 0]
    rwa [show ((w.alloc (.cells #[.slice a 0 cap] 24)).alloc (.cells #[.slice none 0 0] 24)).heap.size = w.heap.size + 1 + 1 by simp] at e2
  have HB := Lib.hid hB
  have HP := Lib.hid hP
  have HR := Lib.hid hR
  have HO := Lib.hid hO
  clear hB hP hR hO
  go_enter Tryd.func17, Tryd.ntmps17
  go_wp2
  try rw [hW1]
  clear hW1
  go_loopw [4] (fun i wr => i = .int .i64 0 ∧ Hid (wr = W1)) (fun i _ => 0)
  case atStart => exact ⟨rfl, Lib.hid rfl⟩
  case round =>
    obtain ⟨rfl, HW⟩ := hrel
    obtain rfl := HW.out
    have p0 : wr.cell? ⟨w.heap.size, 0, none⟩ = some (.slice a 0 cap) := HP.out.cell rfl
    have o0 : wr.cell? ⟨w.heap.size + 1 + 1, 0, none⟩ = some (.slice none 0 0) := HO.out.cell rfl
    go_wp2_with (refine wpList_store_row rfl 24 _ _ rfl (w.heap.size + 1) _ rfl rfl 24 _ HR.out (by kernel_rfl) rfl (by simp [Value.oneCell']) ?_)
    refine bodyPost_ret (v := .agg #[.slice none 0 0]) ?_ rfl ?_
    · exact results_cell_row Tryd.results17 _ _ (w.heap.size + 1) 24 _ (0, 0) _ rfl (setRow_heap _ _ _ _ _ _ HR.out) Tryd.underlying24 rfl (by kernel_rfl)
    · exact ⟨none, 0, rfl, below_setRow HB.out (by omega) _, rfl, Nat.le_refl _, Nat.zero_le _, .inl rfl⟩
theorem rpown_any (a : Option Addr) (len cap : Nat) (fs : List Fun) (w : World) (h : FnsAt w a len cap fs) (hf : fewP fs = true) :
    Calls Tryd.prog 17 #[.agg #[.slice a len cap]] w fun e w' => ∃ b cp, e = .returned (.agg #[.slice b len cp]) ∧ Below w.heap.size w w' ∧ FnsAt w' b len cp fs := by
  by_cases hl : len = 0
  · subst hl
    have hfs : fs = [] := List.length_eq_zero_iff.1 h.1
    subst hfs
    exact rpown_no a cap w
  · obtain ⟨y, rfl, _⟩ := h.2.2.2.resolve_left hl
    exact rpown_some y len cap fs w h hf
end Go.Proofs.YtilddlgcfbefiaaDoor

/-
  Runs in plain: the context does not matter to a program that reads none of it.
-/
namespace Go.Proofs.YtilddlgcfbefiaaDoor
set_option linter.unusedSimpArgs false
set_option linter.unusedVariables false
open Go Go.RowKit
def setC (c : Cx) (e : Ev) : Ev := (c, e.2)
def toC (c : Cx) (q : Int × Fr × Ev × Int) : Int × Fr × Ev × Int := (q.1, q.2.1, setC c q.2.2.1, q.2.2.2)
def toX (c : Cx) (q : Int × Int × Ev × Int) : Int × Int × Ev × Int := (q.1, q.2.1, setC c q.2.2.1, q.2.2.2)
theorem outQ_toC (c : Cx) (q : Int × Fr × Ev × Int) : outQ (toC c q) = toX c (outQ q) := by
  unfold outQ
  show (if q.1 = 0 then (0, q.2.1.reg 0, setC c q.2.2.1, q.2.2.2) else (q.1, 0, setC c q.2.2.1, q.2.2.2)) = toX c (if q.1 = 0 then (0, q.2.1.reg 0, q.2.2.1, q.2.2.2) else (q.1, 0, q.2.2.1, q.2.2.2))
  split <;> rfl
theorem callP_setC (n : Int) (c : Cx) (e : Ev) (zs : List Int) : (callP n (setC c e) zs).2 = (callP n e zs).2 ∧ ((callP n e zs).2.2 = 0 → (callP n (setC c e) zs).1 = setC c (callP n e zs).1) := by
  by_cases h1 : (zs.length : Int) ≠ argsP n
  · rw [callP_arg h1, callP_arg h1]
    exact ⟨rfl, fun h => by simp at h⟩
  unfold callP
  rw [if_neg h1, if_neg h1]
  by_cases h4 : n = 4
  · rw [if_pos h4, if_pos h4]
    exact ⟨rfl, fun _ => rfl⟩
  rw [if_neg h4, if_neg h4]
  by_cases hm : mayOp n e.2.1 zs = true
  · rw [if_pos (show mayOp n (setC c e).2.1 zs = true from hm), if_pos hm]
    exact ⟨rfl, fun _ => rfl⟩
  · rw [if_neg (show ¬ mayOp n (setC c e).2.1 zs = true from hm), if_neg hm]
    exact ⟨rfl, fun _ => rfl⟩
theorem helpP_setC (c : Cx) (x : Fr) (e : Ev) (m : Int) : helpP x (setC c e) m = ((helpP x e m).1, (helpP x e m).2.1, setC c (helpP x e m).2.2) := by
  obtain ⟨h1, h2⟩ := callP_setC m c e (regsL x (argsP m).toNat)
  unfold helpP
  split
  · rw [h1]
    split
    · rename_i h0
      rw [h2 h0]
    · rfl
  · rfl
theorem callQ_setC {ex : Exec} {c : Cx} {e : Ev} {us : Int} (h : ∀ fn zs, ex (setC c e) us fn zs = toX c (ex e us fn zs)) (fs : List Fun) (x : Fr) (m : Int) : callQ ex fs x (setC c e) us m = toC c (callQ ex fs x e us m) := by
  unfold callQ
  split
  · rfl
  · split
    · rw [h]
      show (if (ex e us m _).1 = 0 then _ else _) = toC c (if (ex e us m _).1 = 0 then _ else _)
      split <;> rfl
    · rfl
theorem loadP_ctx (x : Fr) {op : Int} (h : op ≠ 2) (d : Nat) (c c' : Nat → Int) (ov : Int) (ob : Bool) : loadP x op d c ov ob = loadP x op d c' ov ob := by
  unfold loadP
  rw [if_neg h, if_neg h]
theorem doQ_setC {ex : Exec} {c : Cx} {e : Ev} {us : Int} (h : ∀ fn zs, ex (setC c e) us fn zs = toX c (ex e us fn zs)) (fs : List Fun) (x : Fr) (i : I) (hi : i.1 ≠ 2) : doQ ex fs x (setC c e) us i = toC c (doQ ex fs x e us i) := by
  unfold doQ
  simp only
  by_cases h0 : i.1 = 0
  · rw [if_pos h0, if_pos h0]; rfl
  rw [if_neg h0, if_neg h0]
  by_cases h1 : i.1 = 1
  · rw [if_pos h1, if_pos h1]; rfl
  rw [if_neg h1, if_neg h1]
  by_cases h2 : i.1 = 2 ∨ i.1 = 3
  · rw [if_pos h2, if_pos h2, loadP_ctx x hi _ (ctxE (setC c e)) (ctxE e)]; rfl
  rw [if_neg h2, if_neg h2]
  by_cases h4 : i.1 = 4
  · rw [if_pos h4, if_pos h4]; rfl
  rw [if_neg h4, if_neg h4]
  by_cases h5 : i.1 = 5
  · rw [if_pos h5, if_pos h5, helpP_setC]; rfl
  rw [if_neg h5, if_neg h5]
  by_cases h6 : i.1 = 6
  · rw [if_pos h6, if_pos h6]
    exact callQ_setC h fs x _
  rw [if_neg h6, if_neg h6]
  rfl
theorem loopQ_setC (c : Cx) (fs : List Fun) (fl : Int) (hN : ∀ k, k < fs.length → ∀ i ∈ (fs.getD k zeroF).2, i.1 ≠ 2) : ∀ (g : Nat) (x : Fr) (e : Ev) (us : Int), loopQ fs fl g x (setC c e) us = toC c (loopQ fs fl g x e us)
  | 0, x, e, us => rfl
  | g + 1, x, e, us => by
    have hx : ∀ e us fn zs, execQ fs fl g (setC c e) us fn zs = toX c (execQ fs fl g e us fn zs) := fun e us fn zs => by
      show outQ _ = toX c (outQ _)
      rw [loopQ_setC c fs fl hN g (newF fn zs) e us, outQ_toC]
    rcases hf : x.fin with _ | _
    · have hs : stepQ (execQ fs fl g) fs fl x (setC c e) us = toC c (stepQ (execQ fs fl g) fs fl x e us) := by
        unfold stepQ
        by_cases hl : fl ≤ us
        · rw [if_pos hl, if_pos hl]; rfl
        rw [if_neg hl, if_neg hl]
        by_cases hp : ((fs.getD x.1.toNat zeroF).2.length : Int) ≤ x.2.1
        · rw [if_pos hp, if_pos hp]; rfl
        rw [if_neg hp, if_neg hp]
        refine doQ_setC (fun fn zs => hx e (us + 1) fn zs) fs _ _ ?_
        by_cases hk : x.1.toNat < fs.length
        · by_cases hpp : x.2.1.toNat < (fs.getD x.1.toNat zeroF).2.length
          · exact hN _ hk _ (getD_mem _ _ _ hpp)
          · rw [List.getD_eq_getElem?_getD, List.getElem?_eq_none (by omega)]
            show (0 : Int) ≠ 2
            decide
        · have hz : fs.getD x.1.toNat zeroF = zeroF := by rw [List.getD_eq_getElem?_getD, List.getElem?_eq_none (by omega)]; rfl
          rw [hz]
          show (([] : List I).getD _ zeroI).1 ≠ 2
          rw [List.getD_eq_getElem?_getD, List.getElem?_eq_none (by simp)]
          show (0 : Int) ≠ 2
          decide
      by_cases h0 : (stepQ (execQ fs fl g) fs fl x e us).1 = 0
      · rw [loopQ_go hf hs h0, loopQ_go hf rfl h0]
        exact loopQ_setC c fs fl hN g _ _ _
      · rw [loopQ_end hf hs h0, loopQ_end hf rfl h0]
    · rw [loopQ_fin hf, loopQ_fin hf]
      rfl
theorem callI_setC (c : Cx) (fs : List Fun) (e : Ev) (fl fn : Int) (zs : List Int) (hN : ∀ k, k < fs.length → ∀ i ∈ (fs.getD k zeroF).2, i.1 ≠ 2) : callI fs fn (setC c e) fl zs = ((callI fs fn e fl zs).1, setC c (callI fs fn e fl zs).2.1, (callI fs fn e fl zs).2.2) := by
  have hx : execQ fs fl (fl.toNat + 1) (setC c e) 0 fn zs = toX c (execQ fs fl (fl.toNat + 1) e 0 fn zs) := by
    show outQ _ = toX c (outQ _)
    rw [loopQ_setC c fs fl hN (fl.toNat + 1) (newF fn zs) e 0, outQ_toC]
  unfold callI
  rw [hx]
  split
  · rfl
  · split
    · rfl
    · rfl
end Go.Proofs.YtilddlgcfbefiaaDoor

/-
  Ahead of InterpSame: variables made and written in a row of steps.
-/
namespace Go.Proofs.YtilddlgcfbefiaaDoor
set_option linter.unusedSimpArgs false
set_option linter.unusedVariables false
open Go Go.RowKit
theorem Ar.begin3 {w : World} {b : Option Addr} {l cp : Nat} {fs : List Fun} (c : Cx) (sd : Int) (d : Cx) {a : Option Addr} {len cap : Nat} {ts : List Tb} (hr : RowsIn w) (hP : FnsAt w b l cp fs) (hT : TabsAt w a len cap ts) : ∃ W, ((w.alloc (.cells #[.slice b l cp] 24)).alloc (.cells #[.int .u32 c.1, .int .u32 c.2.1, .int .u32 c.2.2.1, .int .u32 c.2.2.2, .slice a len cap, .int .u32 sd] 29)).alloc (.cells #[.int .u32 d.1, .int .u32 d.2.1, .int .u32 d.2.2.1, .int .u32 d.2.2.2] 26) = W ∧ Ar w W w.heap.size (w.heap.size + 1) b l cp fs c a len cap sd ts ∧ Box W (w.heap.size + 1 + 1) 26 #[.int .u32 d.1, .int .u32 d.2.1, .int .u32 d.2.2.1, .int .u32 d.2.2.2] := by
  obtain ⟨W, hW, hA⟩ := Ar.begin c sd hr hP hT
  have hsz : W.heap.size = w.heap.size + 1 + 1 := by rw [← hW]; simp
  rw [hW]
  exact ⟨_, rfl, hA.later (belowA _ _), by rw [← hsz]; exact Box.new W _ _⟩
theorem env_row (W : World) (cs : Array Value) : ∃ Y, (W.alloc (.cells #[.int .u32 0, .int .u32 0, .int .u32 0, .int .u32 0, .slice none 0 0, .int .u32 0] 29)).setRow W.heap.size cs = Y ∧ Below W.heap.size W Y ∧ Box Y W.heap.size 29 cs :=
  ⟨_, rfl, below_setRow ((Below.refl _ _).alloc (Nat.le_refl _) _) (Nat.le_refl _) _, setRow_heap _ _ _ _ _ _ (Box.new W _ _)⟩
theorem env_set {Y : World} {F : Nat} {e0 e1 e2 e3 sd : Int} {V : Value} (h : Box Y F 29 #[.int .u32 e0, .int .u32 e1, .int .u32 e2, .int .u32 e3, V, .int .u32 sd]) (d0 d1 d2 d3 : Int) : ∃ X, (((Y.setCell ⟨F, 0, none⟩ (.int .u32 d0)).setCell ⟨F, 1, none⟩ (.int .u32 d1)).setCell ⟨F, 2, none⟩ (.int .u32 d2)).setCell ⟨F, 3, none⟩ (.int .u32 d3) = X ∧ Y.grownBy X (some F) ∧ Box X F 29 #[.int .u32 d0, .int .u32 d1, .int .u32 d2, .int .u32 d3, V, .int .u32 sd] := by
  refine ⟨_, rfl, gBy_trans (gBy_trans (gBy_trans (grownBy_setCell Y ⟨F, 0, none⟩ _) (grownBy_setCell _ ⟨F, 1, none⟩ _)) (grownBy_setCell _ ⟨F, 2, none⟩ _)) (grownBy_setCell _ ⟨F, 3, none⟩ _), ?_⟩
  have := (((h.set 0 (.int .u32 d0)).set 1 (.int .u32 d1)).set 2 (.int .u32 d2)).set 3 (.int .u32 d3)
  simpa using this
theorem set_ctx {w W : World} {T : Nat} {q : Rn} {V : Value} (h : Vn w W T q V) (d : Cx) : ∃ X, (((W.setCell ⟨T, 1, none⟩ (.int .u32 d.1)).setCell ⟨T, 2, none⟩ (.int .u32 d.2.1)).setCell ⟨T, 3, none⟩ (.int .u32 d.2.2.1)).setCell ⟨T, 4, none⟩ (.int .u32 d.2.2.2) = X ∧ W.grownBy X (some T) ∧ Box X T 34 (ranA (q.1, setC d q.2.1, q.2.2) V) ∧ Below w.heap.size w X := by
  have hg : W.grownBy ((((W.setCell ⟨T, 1, none⟩ (.int .u32 d.1)).setCell ⟨T, 2, none⟩ (.int .u32 d.2.1)).setCell ⟨T, 3, none⟩ (.int .u32 d.2.2.1)).setCell ⟨T, 4, none⟩ (.int .u32 d.2.2.2)) (some T) :=
    gBy_trans (gBy_trans (gBy_trans (grownBy_setCell W ⟨T, 1, none⟩ _) (grownBy_setCell _ ⟨T, 2, none⟩ _)) (grownBy_setCell _ ⟨T, 3, none⟩ _)) (grownBy_setCell _ ⟨T, 4, none⟩ _)
  refine ⟨_, rfl, hg, ?_, h.1.grown hg h.1.size (fun k hk => by cases hk; exact h.2.2.1)⟩
  have := (((h.2.1.set 1 (.int .u32 d.1)).set 2 (.int .u32 d.2.1)).set 3 (.int .u32 d.2.2.1)).set 4 (.int .u32 d.2.2.2)
  simpa [ranA, setC] using this
end Go.Proofs.YtilddlgcfbefiaaDoor

/-
  Four words that came in, opened.
-/
namespace Go.Proofs.YtilddlgcfbefiaaDoor
set_option linter.unusedSimpArgs false
set_option linter.unusedVariables false
open Go.ChangeShapes Go.WideShapes Go.ChangeAt Go.RowKit Go.Deep
section
variable {H : Type} {enc : TypeId × Value → H} {w : World} {base : Nat} {spare : Nat → Bool} {held : Bool}
set_option maxRecDepth 100000 in
theorem open_cx {r0 : Reach} {b0 : Nat} {v : Value} {dd : DataW H} {p : List MemPlace} (hv : Value.okWide Tryd.prog w r0 b0 26 v) (h : DataW.Trod enc Tryd.prog w base spare held 26 v dd p) :
    ∃ c : Cx, v = .agg #[.int .u32 c.1, .int .u32 c.2.1, .int .u32 c.2.2.1, .int .u32 c.2.2.2] ∧ isW c.1 ∧ isW c.2.1 ∧ isW c.2.2.1 ∧ isW c.2.2.2 := by
  simp only [Value.okWide, Tryd.underlying26] at hv
  obtain ⟨cs, rfl, _⟩ := hv
  obtain ⟨l⟩ := cs
  obtain ⟨fuel, hf⟩ := h
  obtain ⟨c, hc, hw⟩ := ctx_cells hf
  simp only [Value.cells] at hc
  subst hc
  exact ⟨c, rfl, hw⟩
end
end Go.Proofs.YtilddlgcfbefiaaDoor

