/-
  What package inst's Get returns, as contracts over the translated program.
-/
import Derived.Test.YtlbhmopmfddhjaaDoorD
namespace Go.Proofs.YtlbhmopmfddhjaaDoor
open Go.RowKit

theorem results_inst_two {fn : Func} {p q : Tmp} (h : fn.results = #[.cell p 46, .tmp q]) (tmps : Array Value) (w : World) (g : Nat) (t : TypeId) (cs : Array Value) (v : Value) (hs : cs.size = 7)
    (hp : tmps.getD p undef = .pointer (some ⟨g, 0, none⟩)) (hq : tmps.getD q undef = v) (hg : w.heap[g]? = some (.cells cs t (0, 0))) : (results fn tmps).run Tryd.prog w = .ok (.tuple #[.agg cs, v]) w := by
  have hp' : tmps[p]?.getD undef = .pointer (some ⟨g, 0, none⟩) := by simpa using hp
  have hq' : tmps[q]?.getD undef = v := by simpa using hq
  have hi : (Tryd.prog.info? 46).map (·.size) = some cs.size := by rw [hs]; kernel_rfl
  simp [results, h, hp', hq', asAddr, run_loadVar_row w g t 46 cs (0, 0) _ hg Tryd.underlying46 rfl hi]

abbrev zeroL : Array Value := #[.int .i64 0, .int .i64 0, .int .i64 0, .int .i64 0, .bool false, .int .i64 0, .int .u32 0]

theorem get_len (a : Option Addr) (len cap : Nat) (w : World) (hl : len ≠ 8) (hm : len ≤ maxLen) :
    Calls Tryd.prog 34 #[.slice a len cap] w fun e w' => e = .returned (.tuple #[instV 0 0 0 0 false 0 0, .int .i64 7]) ∧ Below w.heap.size w w' := by
  have hm' : len ≤ 9223372036854775807 := by unfold maxLen at hm; omega
  have h8 : ¬ (len : Int) = 8 := by omega
  go_enter Tryd.func34, Tryd.ntmps34
  go_wp2
  refine bodyPost_ret (v := .tuple #[instV 0 0 0 0 false 0 0, .int .i64 7]) ?_ ?_ ?_
  · exact results_inst_two Tryd.results34 _ _ w.heap.size 46 _ _ rfl rfl rfl (heap_alloc_new _ _)
  · rfl
  · exact ⟨rfl, (Below.refl _ _).alloc (Nat.le_refl _) _⟩
theorem get_no (x : Addr) (cap : Nat) (w : World) (hR : RowsIn w) (z0 z1 z2 z3 z4 z5 z6 z7 : Int) (hc : 8 ≤ cap) (hz : ∀ i, i < 8 → 0 ≤ [z0, z1, z2, z3, z4, z5, z6, z7].getD i 0 ∧ [z0, z1, z2, z3, z4, z5, z6, z7].getD i 0 ≤ 255) (hb : BytesAt w x [z0, z1, z2, z3, z4, z5, z6, z7])
    (o f d s : Int) (r : Bool) (xo m : Int) (ho : z0 / 16 = o) (hf : z0 % 16 = f) (hd : z1 % 128 / 8 = d) (hs : z1 % 8 = s) (hr : decide (128 ≤ z1) = r) (hx : z2 * 256 + z3 = xo) (him : ((z4 * 256 + z5) * 256 + z6) * 256 + z7 = m)
    (hM : mayB o f d s r xo m = false) :
    Calls Tryd.prog 34 #[.slice (some x) 8 cap] w fun e w' => e = .returned (.tuple #[instV 0 0 0 0 false 0 0, .int .i64 7]) ∧ Below w.heap.size w w' := by
  have hg : Below w.heap.size w (w.alloc (.cells zeroL 46)) := (Below.refl _ _).alloc (Nat.le_refl _) _
  have HB := Lib.hid (hb.below hg)
  have HD := Lib.hid (decode_any x cap (w.alloc (.cells zeroL 46)) z0 z1 z2 z3 z4 z5 z6 z7 hc hz HB.out)
  rw [ho, hf, hd, hs, hr, hx, him] at HD
  clear ho hf hd hs hr hx him hz hb HB
  go_enter Tryd.func34, Tryd.ntmps34
  go_wp2_with fail
  refine HD.out.mono ?_
  rintro e w2 ⟨rfl, hg2⟩
  have hblk : w2.heap[w.heap.size]? = some (.cells zeroL 46 (0, 0)) := (hg2.block _ (by simp)).trans (heap_alloc_new _ _)
  have hlt : w.heap.size < w2.heap.size := (Array.getElem?_eq_some_iff.1 hblk).1
  replace hg := hg.trans (hg2.mono hg.size)
  have hR2 := (hR.later hg).later ((Below.refl _ w2).alloc (Nat.le_refl _) (.cells #[.int .i64 o, .int .i64 f, .int .i64 d, .int .i64 s, .bool r, .int .i64 xo, .int .u32 m] 46))
  have HBK := Lib.hid hblk
  clear hg2 hblk HD
  go_wp2_with fail
  refine (may_any _ _ _ _ _ _ _ _ hR2).mono ?_
  rintro e w3 ⟨rfl, hg3⟩
  have hg4 := (((Below.refl w2.heap.size w2).alloc (Nat.le_refl _) _).trans (hg3.mono (by simp)))
  have HB3 := Lib.hid ((hg4.block _ hlt).trans HBK.out)
  obtain ⟨c0, c1, c2, c3, c4, c5, c6⟩ := (instAt_alloc w2 o f d s r xo m 46).below hg3 (by simp)
  replace hg := hg.trans (hg4.mono hg.size)
  clear hg3 hg4 HBK
  go_wp2_with (refine wpList_store_row rfl 46 _ _ rfl w.heap.size _ rfl rfl 46 _ HB3.out (by kernel_rfl) rfl (by simp [Value.oneCell']) ?_)
  refine bodyPost_ret (v := .tuple #[instV 0 0 0 0 false 0 0, .int .i64 7]) ?_ ?_ ?_
  · exact results_inst_two Tryd.results34 _ _ w.heap.size 46 _ _ rfl rfl rfl (setRow_heap _ _ _ _ _ _ HB3.out)
  · rfl
  · exact ⟨rfl, below_setRow hg (Nat.le_refl _) _⟩
theorem get_yes (x : Addr) (cap : Nat) (w : World) (hR : RowsIn w) (z0 z1 z2 z3 z4 z5 z6 z7 : Int) (hc : 8 ≤ cap) (hz : ∀ i, i < 8 → 0 ≤ [z0, z1, z2, z3, z4, z5, z6, z7].getD i 0 ∧ [z0, z1, z2, z3, z4, z5, z6, z7].getD i 0 ≤ 255) (hb : BytesAt w x [z0, z1, z2, z3, z4, z5, z6, z7])
    (o f d s : Int) (r : Bool) (xo m : Int) (ho : z0 / 16 = o) (hf : z0 % 16 = f) (hd : z1 % 128 / 8 = d) (hs : z1 % 8 = s) (hr : decide (128 ≤ z1) = r) (hx : z2 * 256 + z3 = xo) (him : ((z4 * 256 + z5) * 256 + z6) * 256 + z7 = m)
    (hM : mayB o f d s r xo m = true) :
    Calls Tryd.prog 34 #[.slice (some x) 8 cap] w fun e w' => e = .returned (.tuple #[instV o f d s r xo m, .int .i64 0]) ∧ Below w.heap.size w w' := by
  have hg : Below w.heap.size w (w.alloc (.cells zeroL 46)) := (Below.refl _ _).alloc (Nat.le_refl _) _
  have HB := Lib.hid (hb.below hg)
  have HD := Lib.hid (decode_any x cap (w.alloc (.cells zeroL 46)) z0 z1 z2 z3 z4 z5 z6 z7 hc hz HB.out)
  rw [ho, hf, hd, hs, hr, hx, him] at HD
  clear ho hf hd hs hr hx him hz hb HB
  go_enter Tryd.func34, Tryd.ntmps34
  go_wp2_with fail
  refine HD.out.mono ?_
  rintro e w2 ⟨rfl, hg2⟩
  have hblk : w2.heap[w.heap.size]? = some (.cells zeroL 46 (0, 0)) := (hg2.block _ (by simp)).trans (heap_alloc_new _ _)
  have hlt : w.heap.size < w2.heap.size := (Array.getElem?_eq_some_iff.1 hblk).1
  replace hg := hg.trans (hg2.mono hg.size)
  have hR2 := (hR.later hg).later ((Below.refl _ w2).alloc (Nat.le_refl _) (.cells #[.int .i64 o, .int .i64 f, .int .i64 d, .int .i64 s, .bool r, .int .i64 xo, .int .u32 m] 46))
  have HBK := Lib.hid hblk
  clear hg2 hblk HD
  go_wp2_with fail
  refine (may_any _ _ _ _ _ _ _ _ hR2).mono ?_
  rintro e w3 ⟨rfl, hg3⟩
  have hg4 := (((Below.refl w2.heap.size w2).alloc (Nat.le_refl _) _).trans (hg3.mono (by simp)))
  have HB3 := Lib.hid ((hg4.block _ hlt).trans HBK.out)
  obtain ⟨c0, c1, c2, c3, c4, c5, c6⟩ := (instAt_alloc w2 o f d s r xo m 46).below hg3 (by simp)
  replace hg := hg.trans (hg4.mono hg.size)
  clear hg3 hg4 HBK
  go_wp2_with (refine wpList_store_row rfl 46 _ _ rfl w.heap.size _ rfl rfl 46 _ HB3.out (by kernel_rfl) rfl (by simp [Value.oneCell']) ?_)
  refine bodyPost_ret (v := .tuple #[instV o f d s r xo m, .int .i64 0]) ?_ ?_ ?_
  · exact results_inst_two Tryd.results34 _ _ w.heap.size 46 _ _ rfl rfl rfl (setRow_heap _ _ _ _ _ _ HB3.out)
  · rfl
  · exact ⟨rfl, below_setRow hg (Nat.le_refl _) _⟩
end Go.Proofs.YtlbhmopmfddhjaaDoor
