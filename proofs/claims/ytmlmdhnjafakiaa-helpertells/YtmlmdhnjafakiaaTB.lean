/-
  What the fifth reference's behind returns, as a contract over the translated program: the table with one entry more.
-/
import Derived.Test.YtmlmdhnjafakiaaTE
namespace Go.Proofs.Ytmlmdhnjafakiaa
open Go Go.RowKit

abbrev enA (key : Int) (u : Value) : Array Value := #[.int .u32 key, u]
theorem enAt_new (w : World) (key : Int) (u : Value) : Box (w.alloc (.cells (enA key u) 48)) w.heap.size 48 (enA key u) := Box.new w 48 (enA key u)

set_option maxRecDepth 100000 in
set_option maxHeartbeats 4000000 in
theorem behind_any (s : Sc) (a : Option Addr) (len cap : Nat) (x : Int) (es : List Ent) (key : Int) (p : Option Addr) (lp cp : Nat) (ws : List Int) (A0 : Nat → Prop) (w : World) (h : EntsAt w a len cap es) (hf : fewE es) (hk : isW key) (hV0 : WordsIn w A0 p lp cp ws) :
    Calls Try.prog 43 #[tbV s (.slice a len cap) x, .agg #[.int .u32 key, .slice p lp cp]] w (TabPost (behindT (s, es, x) (key, ws)) (fun n => w.heap.size ≤ n ∨ A0 n) w) := by
  have hV := hV0.1
  obtain ⟨iE, hiE, hz0, hz1, hz2⟩ := info_parts infoE
  rcases s with ⟨s0, s1, s2, s3⟩
  have h40 : es.length ≤ 40 := hf.1
  obtain ⟨W0, hW0⟩ : ∃ W0, ((w.alloc (.cells #[.int .i64 s0, .int .i64 s1, .int .i64 s2, .int .i64 s3, .slice a len cap, .int .u32 x] 44)).alloc (.cells #[.int .u32 key, .slice p lp cp] 48)).alloc (.cells zeroTA 44) = W0 := ⟨_, rfl⟩
  have hs0 : W0.heap.size = w.heap.size + 1 + 1 + 1 := by rw [← hW0]; simp
  have hb0 : Below w.heap.size w W0 := by rw [← hW0]; exact (((Below.refl _ _).alloc (Nat.le_refl _) _).alloc (by simp) _).alloc (by simp; omega) _
  have HT : Hid (Box W0 w.heap.size 44 #[.int .i64 s0, .int .i64 s1, .int .i64 s2, .int .i64 s3, .slice a len cap, .int .u32 x]) := by rw [← hW0]; exact Lib.hid (((Box.new w 44 _).alloc _).alloc _)
  have HE : Hid (Box W0 (w.heap.size + 1) 48 #[.int .u32 key, .slice p lp cp]) := by
    rw [← hW0]
    have := Box.new (w.alloc (.cells #[.int .i64 s0, .int .i64 s1, .int .i64 s2, .int .i64 s3, .slice a len cap, .int .u32 x] 44)) 48 #[.int .u32 key, .slice p lp cp]
    rw [show (w.alloc (.cells #[.int .i64 s0, .int .i64 s1, .int .i64 s2, .int .i64 s3, .slice a len cap, .int .u32 x] 44)).heap.size = w.heap.size + 1 by simp] at this
    exact Lib.hid (this.alloc _)
  have HR : Hid (Box W0 (w.heap.size + 1 + 1) 44 zeroTA) := by
    rw [← hW0]
    have := Box.new ((w.alloc (.cells #[.int .i64 s0, .int .i64 s1, .int .i64 s2, .int .i64 s3, .slice a len cap, .int .u32 x] 44)).alloc (.cells #[.int .u32 key, .slice p lp cp] 48)) 44 zeroTA
    rw [show ((w.alloc (.cells #[.int .i64 s0, .int .i64 s1, .int .i64 s2, .int .i64 s3, .slice a len cap, .int .u32 x] 44)).alloc (.cells #[.int .u32 key, .slice p lp cp] 48)).heap.size = w.heap.size + 1 + 1 by simp] at this
    exact Lib.hid this
  have HIn : Hid (WordsIn W0 (fun n => n < w.heap.size ∧ A0 n) p lp cp ws) := Lib.hid ⟨hV.below hb0, by
    rcases hV.2.2.2.2 with e | ⟨z, e, hz⟩
    · exact .inl e
    · by_cases h0 : lp = 0
      · exact .inl h0
      · obtain ⟨z', e', hz'⟩ := hV0.2.resolve_left h0
        rw [e] at e'
        cases e'
        refine .inr ⟨z, e, ?_, hz'⟩
        have := lt_of_cell (hz 0 (by omega))
        rwa [add_block] at this⟩
  have HEs := Lib.hid (h.below hb0)
  have HF := Lib.hid hf
  have HK := Lib.hid hk
  obtain ⟨d0, d1, d2, d3, d4, d5⟩ := Box.tb (s := (s0, s1, s2, s3)) HT.out
  simp only at d0 d1 d2 d3 d4 d5
  clear h hf hV hk hV0
  go_enter Try.func43, Try.ntmps43
  go_wp2_with fail
  refine (own_any (s0, s1, s2, s3) a len cap x es W0 HEs.out HF.out).mono ?_
  rintro e w1 ⟨v, xs, rfl, hg1, hown1, hOd1⟩
  obtain ⟨bv, cv, rfl, _⟩ := ents_own rfl hown1 hOd1
  have hs1 := hg1.size
  have HE1 := Lib.hid (HE.out.later hg1)
  have HR1 := Lib.hid (HR.out.later hg1)
  have HIn1 := Lib.hid (HIn.out.grown (grownBy_of_below hg1 none) (fun _ _ => by simp))
  have hvB := hown1.lt
  obtain ⟨W2, hW2⟩ : ∃ W2, w1.alloc (.cells #[.int .i64 s0, .int .i64 s1, .int .i64 s2, .int .i64 s3, .slice bv es.length cv, .int .u32 x] 44) = W2 := ⟨_, rfl⟩
  have ha2 : Below w1.heap.size w1 W2 := by rw [← hW2]; exact (Below.refl _ _).alloc (Nat.le_refl _) _
  have HO2 : Hid (Box W2 w1.heap.size 44 #[.int .i64 s0, .int .i64 s1, .int .i64 s2, .int .i64 s3, .slice bv es.length cv, .int .u32 x]) := by rw [← hW2]; exact Lib.hid (Box.new w1 44 #[.int .i64 s0, .int .i64 s1, .int .i64 s2, .int .i64 s3, .slice bv es.length cv, .int .u32 x])
  have hs2 : W2.heap.size = w1.heap.size + 1 := by rw [← hW2]; simp
  have HE2 := Lib.hid (HE1.out.later ha2)
  have HR2 := Lib.hid (HR1.out.later ha2)
  have hown2 := ownsRow_below hown1 ha2
  have HOd1 := Lib.hid hOd1.ents
  have HIn2 := Lib.hid (HIn1.out.grown (grownBy_of_below ha2 none) (fun _ _ => by simp))
  have hb2 : Below w.heap.size w W2 := hb0.trans ((hg1.trans (ha2.mono hs1)).mono hb0.size)
  clear d0 d1 d2 d3 d4 d5 hW0 HT HEs HE HE1 HR HR1 HIn HIn1 hown1 hg1 hOd1
  obtain ⟨d0, d1, d2, d3, d4, d5⟩ := Box.tb (s := (s0, s1, s2, s3)) HO2.out
  simp only at d0 d1 d2 d3 d4 d5
  have e0 : W2.cell? ⟨w.heap.size + 1, 0, none⟩ = some (.int .u32 key) := HE2.out.cell rfl
  have e1 : W2.cell? ⟨w.heap.size + 1, 1, none⟩ = some (.slice p lp cp) := HE2.out.cell rfl
  obtain ⟨O, hO⟩ : ∃ O, w1.heap.size = O := ⟨_, rfl⟩
  rw [hO] at d0 d1 d2 d3 d4 d5 hs2 HO2 hvB
  have HA2 := Lib.hid (HOd1.out.below ha2)
  rw [hO] at HA2
  have HNew : Hid (Box (W2.alloc (.cells #[.int .u32 key, .slice p lp cp] 48)) (O + 1) 48 #[.int .u32 key, .slice p lp cp]) := by
    have := Box.new W2 48 #[.int .u32 key, .slice p lp cp]
    rw [hs2] at this
    exact Lib.hid this
  go_wp2_with (at_builtin; refine wpList_append_lies _ rfl _ _ _ rfl (W0.heap.size + 1) 48 iE _ 2 32 Try.underlying42 hiE hz0 hz1 hz2 rfl (by omega) (.slice bv es.length cv) es.length xs rfl (hown2.alloc (.cells #[.int .u32 key, .slice p lp cp] 48)) ⟨O + 1, 0, none⟩ 1 1 [.int .u32 key, .slice p lp cp] rfl rfl (World.news_of_block HNew.out) (by simp [Value.oneCell']) (by omega) (by unfold maxLen; omega) (by omega) (by simp; omega) (O + 1 + 1) (by simp [hs2]) ?_)
  intro g6 cp6 w6 hown6 hgrow6 hat6 hlt6
  have hR0 : w.heap.size + 1 + 1 < W0.heap.size := by omega
  have hneO : some O ≠ (Value.slice bv es.length cv).ownBlock := fun e => by have := hvB _ e.symm; omega
  have hneR : some (w.heap.size + 1 + 1) ≠ (Value.slice bv es.length cv).ownBlock := fun e => by have := hvB _ e.symm; omega
  have HO6 := Lib.hid ((HO2.out.alloc (.cells #[.int .u32 key, .slice p lp cp] 48)).grown hgrow6 hneO)
  have HR6 := Lib.hid ((HR2.out.alloc (.cells #[.int .u32 key, .slice p lp cp] 48)).grown hgrow6 hneR)
  have hg6 : W0.heap.size + 1 ≤ g6 ∧ g6 ≠ O := by
    rcases hat6 with h | h
    · have := hvB _ h
      omega
    · omega
  have hb6 : Below w.heap.size w w6 := (hb2.alloc (by omega) (.cells #[.int .u32 key, .slice p lp cp] 48)).grown hgrow6 (by simp; omega) (fun g hg => by have := hvB _ hg; omega)
  have HA6 : Hid (Ents w6 (fun n => (w.heap.size ≤ n ∨ A0 n) ∧ n ≠ O ∧ n ≠ w.heap.size + 1 + 1) (xs ++ [.int .u32 key, .slice p lp cp]) (es ++ [(key, ws)])) := Lib.hid (Ents.snoc
    (((HA2.out.below ((Below.refl _ _).alloc (Nat.le_refl _) (.cells #[.int .u32 key, .slice p lp cp] 48))).grown hgrow6 (fun n hn => hn.2.2)).mono (fun n hn => ⟨.inl (by omega), by omega, by omega⟩)) HK.out
    (((HIn2.out.grown (grownBy_of_below ((Below.refl _ _).alloc (Nat.le_refl _) (.cells #[.int .u32 key, .slice p lp cp] 48)) none) (fun _ _ => by simp)).grown hgrow6 (fun n hn e => by have := hvB _ e.symm; omega)).mono (fun n hn => ⟨.inr hn.2, by omega, by omega⟩)))
  have c4 : w6.cell? ⟨O, 4, none⟩ = some (.slice bv es.length cv) := HO6.out.cell rfl
  have f4 : w6.frozen? ⟨O, 4, none⟩ = false := HO6.out.free 4
  have HO7 := Lib.hid (HO6.out.set 4 (.slice (some ⟨g6, 0, none⟩) (es.length + 1) cp6))
  have HR7 := Lib.hid (HR6.out.other (p := ⟨O, 4, none⟩) (by show w.heap.size + 1 + 1 ≠ O; omega) (.slice (some ⟨g6, 0, none⟩) (es.length + 1) cp6))
  have hgs := grownBy_setCell w6 ⟨O, 4, none⟩ (.slice (some ⟨g6, 0, none⟩) (es.length + 1) cp6)
  have hown7 := hown6.kept hgs (.inr (fun e => hg6.2 (by simpa [Value.ownBlock] using e)))
  have HA7 := Lib.hid (HA6.out.grown hgs (fun n hn e => hn.2.1 (by simpa using e)))
  have hb7 : Below w.heap.size w (w6.setCell ⟨O, 4, none⟩ (.slice (some ⟨g6, 0, none⟩) (es.length + 1) cp6)) := hb6.setCell (by show w.heap.size ≤ O; omega) _
  have k0 : (w6.setCell ⟨O, 4, none⟩ (.slice (some ⟨g6, 0, none⟩) (es.length + 1) cp6)).cell? ⟨O, 0, none⟩ = some (.int .i64 s0) := HO7.out.cell rfl
  have k1 : (w6.setCell ⟨O, 4, none⟩ (.slice (some ⟨g6, 0, none⟩) (es.length + 1) cp6)).cell? ⟨O, 1, none⟩ = some (.int .i64 s1) := HO7.out.cell rfl
  have k2 : (w6.setCell ⟨O, 4, none⟩ (.slice (some ⟨g6, 0, none⟩) (es.length + 1) cp6)).cell? ⟨O, 2, none⟩ = some (.int .i64 s2) := HO7.out.cell rfl
  have k3 : (w6.setCell ⟨O, 4, none⟩ (.slice (some ⟨g6, 0, none⟩) (es.length + 1) cp6)).cell? ⟨O, 3, none⟩ = some (.int .i64 s3) := HO7.out.cell rfl
  have k4 : (w6.setCell ⟨O, 4, none⟩ (.slice (some ⟨g6, 0, none⟩) (es.length + 1) cp6)).cell? ⟨O, 4, none⟩ = some (.slice (some ⟨g6, 0, none⟩) (es.length + 1) cp6) := HO7.out.cell rfl
  have k5 : (w6.setCell ⟨O, 4, none⟩ (.slice (some ⟨g6, 0, none⟩) (es.length + 1) cp6)).cell? ⟨O, 5, none⟩ = some (.int .u32 x) := HO7.out.cell rfl
  have HOwn7 := Lib.hid hown7
  clear hown6 hgrow6 hat6 hown2 hown7 hgs d0 d1 d2 d3 d4 d5 e0 e1 ha2 HO2 HR2 HE2 HIn2 HA2 HNew HA6 HO6 HR6
  generalize hW7 : w6.setCell ⟨O, 4, none⟩ (.slice (some ⟨g6, 0, none⟩) (es.length + 1) cp6) = W7 at *
  go_wp2_with (refine wpList_store_row rfl 44 _ _ rfl (w.heap.size + 1 + 1) _ rfl rfl 44 _ HR7.out (by kernel_rfl) rfl (by simp [Value.oneCell']) ?_)
  refine bodyPost_ret (v := tbV (s0, s1, s2, s3) (.slice (some ⟨g6, 0, none⟩) (es.length + 1) cp6) x) ?_ rfl ?_
  · exact results_cell_row Try.results43 _ _ (w.heap.size + 1 + 1) 44 _ (0, 0) _ rfl (setRow_heap _ _ _ _ _ _ HR7.out) Try.underlying44 rfl (by kernel_rfl)
  · have hgr := grownBy_setRow W7 (w.heap.size + 1 + 1) #[.int .i64 s0, .int .i64 s1, .int .i64 s2, .int .i64 s3, .slice (some ⟨g6, 0, none⟩) (es.length + 1) cp6, .int .u32 x]
    obtain ⟨b8, c8, e8, hE8⟩ := rows_in (n := es.length + 1) (by simp) (own_far HOwn7.out hgr (by omega)) ((HA7.out.grown hgr (fun n hn e => hn.2.2 (by simpa using e))).mono (fun n hn => hn.1)) (fun n hn => .inl (by omega))
    simp only [Value.slice.injEq, true_and] at e8
    obtain ⟨rfl, rfl⟩ := e8
    exact ⟨_, _, _, rfl, below_setRow hb7 (by omega) _, hE8⟩
end Go.Proofs.Ytmlmdhnjafakiaa
