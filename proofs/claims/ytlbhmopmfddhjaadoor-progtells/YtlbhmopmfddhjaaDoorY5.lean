/-
  Variables in blocks of their own; slices of bytes and what is cut off them; the two packages' Get of one instruction, in plain words.
-/
import Derived.Test.YtlbhmopmfddhjaaDoorY3
import Derived.Test.YtlbhmopmfddhjaaDoorM3
import Derived.Laws.Rows
namespace Go.Proofs.YtlbhmopmfddhjaaDoor
open Go.RowKit

/- block g holds just the cells cs, of type t, and may be written -/
def Box (w : World) (g : Nat) (t : TypeId) (cs : Array Value) : Prop := w.heap[g]? = some (.cells cs t (0, 0))
section
variable {w w' : World} {g : Nat} {t : TypeId} {cs : Array Value}
theorem Box.lt (h : Box w g t cs) : g < w.heap.size := (Array.getElem?_eq_some_iff.1 h).1
theorem Box.cell (h : Box w g t cs) {i : Nat} {v : Value} (hv : cs[i]? = some v) : w.cell? ⟨g, i, none⟩ = some v := (cell_of_row w g i cs t (0, 0) h).trans hv
theorem Box.free (h : Box w g t cs) (i : Nat) : w.frozen? ⟨g, i, none⟩ = false := by
  have h' : w.heap[g]? = some (.cells cs t (0, 0)) := h
  simp [World.frozen?, h']
theorem Box.new (w : World) (t : TypeId) (cs : Array Value) : Box (w.alloc (.cells cs t)) w.heap.size t cs := heap_alloc_new w _
theorem Box.alloc (h : Box w g t cs) (o : Obj) : Box (w.alloc o) g t cs := (Below.heap_alloc w o g h.lt).trans h
theorem Box.below {B : Nat} (h : Box w g t cs) (hb : Below B w w') (hg : g < B) : Box w' g t cs := (hb.block g hg).trans h
theorem Box.grown {row : Option Nat} (h : Box w g t cs) (hb : w.grownBy w' row) (hg : some g ≠ row) : Box w' g t cs := (hb.block g h.lt hg).trans h
theorem Box.set (h : Box w g t cs) (i : Nat) (u : Value) : Box (w.setCell ⟨g, i, none⟩ u) g t (cs.setIfInBounds i u) := by
  have h' : w.heap[g]? = some (.cells cs t (0, 0)) := h
  simp [Box, World.setCell, Array.getElem?_modify, h']
theorem Box.other (h : Box w g t cs) {p : Addr} (hp : g ≠ p.block) (u : Value) : Box (w.setCell p u) g t cs := (Below.heap_setCell w p u g hp).trans h
theorem Box.drewN (h : Box w g t cs) (n : Nat) : Box (w.drewN n) g t cs := h
end
theorem ownsRow_set_other {w : World} {base : Nat} {e : TypeId} {size : Nat} {v : Value} {n : Nat} {xs : List Value} (h : w.ownsRow base e size v n xs) {a : Addr} (ha : some a.block ≠ v.ownBlock) (u : Value) : (w.setCell a u).ownsRow base e size v n xs := by
  obtain ⟨h1, h2 | ⟨g, cap, cur, rfl, hbg, hh, r⟩⟩ := h
  · exact ⟨h1, .inl h2⟩
  · exact ⟨h1, .inr ⟨g, cap, cur, rfl, hbg, (Below.heap_setCell w a u g (fun e => ha (by simp [Value.ownBlock, e]))).trans hh, r⟩⟩
theorem ownsRow_drewN {w : World} {base : Nat} {e : TypeId} {size : Nat} {v : Value} {n : Nat} {xs : List Value} (h : w.ownsRow base e size v n xs) (k : Nat) : (w.drewN k).ownsRow base e size v n xs := h

theorem grownBy_setRow (w : World) (g : Nat) (cs : Array Value) : w.grownBy (w.setRow g cs) (some g) := ⟨rfl, rfl, rfl, by simp, fun k _ hk => setRow_other w g k _ (fun e => hk (by rw [e]))⟩
theorem OneFn.none_ {W : World} {base : Nat} {row : Option Nat} {cv : Value} {code : List I} (h : OneFn W base row cv code) : OneFn W base none cv code := by
  obtain ⟨b, l, c, e, h1, h2⟩ := h
  exact ⟨b, l, c, e, h1, fun z hz => ⟨(h2 z hz).1, (h2 z hz).2.1, by simp⟩⟩
theorem OneFn.set_row {W : World} {base g : Nat} {cv : Value} {code : List I} (h : OneFn W base (some g) cv code) (cs : Array Value) : OneFn (W.setRow g cs) base none cv code :=
  (h.grown (grownBy_setRow W g cs) (.inl rfl)).none_

theorem grownBy_setCell (w : World) (a : Addr) (u : Value) : w.grownBy (w.setCell a u) (some a.block) := ⟨rfl, rfl, rfl, by simp [World.setCell], fun k _ hk => Below.heap_setCell w a u k (fun e => hk (by rw [e]))⟩
theorem OneFn.far {W W' : World} {base g : Nat} {row : Option Nat} {cv : Value} {code : List I} (h : OneFn W base row cv code) (hg : W.grownBy W' (some g)) (hlt : g < base) : OneFn W' base row cv code := by
  obtain ⟨b, l, c, e, h1, h2⟩ := h
  exact ⟨b, l, c, e, h1.grown hg (fun z hz => by have := (h2 z hz).1; simp; omega), fun z hz => ⟨(h2 z hz).1, Nat.lt_of_lt_of_le (h2 z hz).2.1 hg.size, (h2 z hz).2.2⟩⟩
theorem Codes.far {W W' : World} {base g : Nat} {row : Option Nat} {xs : List Value} {fs : List Fun} (h : Codes W base row xs fs) (hg : W.grownBy W' (some g)) (hlt : g < base) : Codes W' base row xs fs :=
  ⟨h.1, fun k hk => ⟨(h.2 k hk).1, by
    obtain ⟨cv, h1, h2⟩ := (h.2 k hk).2
    exact ⟨cv, h1, h2.far hg hlt⟩⟩⟩
/- a code of the call's own, behind an append to a row that lies elsewhere -/
theorem OneFn.fresh {W W' : World} {base base' : Nat} {row row' : Option Nat} {cv : Value} {code : List I} (h : OneFn W base none cv code) (hg : W.grownBy W' row) (hb : base' ≤ base) (hr : ∀ g, row = some g → g < base) (hr' : ∀ g, row' = some g → g < base ∨ W.heap.size ≤ g) : OneFn W' base' row' cv code := by
  obtain ⟨b, l, c, e, h1, h2⟩ := h
  refine ⟨b, l, c, e, h1.grown hg (fun z hz he => ?_), fun z hz => ⟨Nat.le_trans hb (h2 z hz).1, Nat.lt_of_lt_of_le (h2 z hz).2.1 hg.size, fun he => ?_⟩⟩
  · have := hr _ he.symm
    have := (h2 z hz).1
    omega
  · have := hr' _ he.symm
    have := (h2 z hz).1
    have := (h2 z hz).2.1
    omega
theorem own_far {w w' : World} {base g : Nat} {e : TypeId} {size : Nat} {v : Value} {n : Nat} {xs : List Value} (h : w.ownsRow base e size v n xs) (hg : w.grownBy w' (some g)) (hlt : g < base) : w'.ownsRow base e size v n xs :=
  h.kept hg (.inr (fun e => by have := (h.lt g e).1; omega))

/- a slice of bytes -/
def SliceB (w : World) (a : Option Addr) (len cap : Nat) (zs : List Int) : Prop :=
  zs.length = len ∧ len ≤ cap ∧ cap ≤ maxLen ∧ byteL zs ∧ (len = 0 ∨ ∃ x, a = some x ∧ BytesAt w x zs)
theorem SliceB.below {w w' : World} {a : Option Addr} {len cap : Nat} {zs : List Int} (h : SliceB w a len cap zs) (hb : Below w.heap.size w w') : SliceB w' a len cap zs := by
  obtain ⟨h1, h2, h3, h4, h5⟩ := h
  refine ⟨h1, h2, h3, h4, ?_⟩
  rcases h5 with h5 | ⟨x, h5, h6⟩
  · exact .inl h5
  · exact .inr ⟨x, h5, h6.below hb⟩
def cutB (a : Option Addr) (cap k : Nat) : Option Addr := if cap = k then a else a.map (·.add k)
theorem bytesAt_drop {w : World} {x : Addr} {zs : List Int} (h : BytesAt w x zs) (k : Nat) (hk : k ≤ zs.length) : BytesAt w (x.add k) (zs.drop k) := by
  intro i hi
  rw [List.length_drop] at hi
  have := h (k + i) (by omega)
  rw [Go.Deep.add_add, this]
  simp [List.getD_eq_getElem?_getD, List.getElem?_drop]
theorem bytesAt_take {w : World} {x : Addr} {zs : List Int} (h : BytesAt w x zs) (k : Nat) : BytesAt w x (zs.take k) := by
  intro i hi
  rw [List.length_take] at hi
  have := h i (by omega)
  rw [this]
  simp [List.getD_eq_getElem?_getD, show i < k by omega]
theorem SliceB.cut {w : World} {a : Option Addr} {len cap : Nat} {zs : List Int} (h : SliceB w a len cap zs) {k : Nat} (hk : k ≤ len) : SliceB w (cutB a cap k) (len - k) (cap - k) (zs.drop k) := by
  obtain ⟨h1, h2, h3, h4, h5⟩ := h
  refine ⟨by rw [List.length_drop, h1], by omega, by omega, fun z hz => h4 z (List.mem_of_mem_drop hz), ?_⟩
  by_cases he : len = k
  · exact .inl (by omega)
  · obtain ⟨x, rfl, h6⟩ := h5.resolve_left (by omega)
    refine .inr ⟨x.add k, ?_, bytesAt_drop h6 k (by omega)⟩
    unfold cutB
    rw [if_neg (by omega)]
    rfl
theorem sizeOf5 (w : World) : (sizeOf 5).run Tryd.prog w = .ok 1 w := by kernel_rfl
theorem run_cut (a : Option Addr) (len cap k : Nat) (hk : k ≤ len) (w : World) :
    (Instr.sliceAt 25 (.slice a len cap) (some (.int .i64 k)) none none).run Tryd.prog w = .ok (.slice (cutB a cap k) (len - k) (cap - k)) w := by
  have ht : Tryd.prog.underlying 25 = some (.slice (Tryd.prog.elem 25)) := by kernel_rfl
  have he : Tryd.prog.elem 25 = 5 := by kernel_rfl
  rw [run_sliceAt_slice w 25 _ _ _ _ ht, run_slice_l w 25 a len cap ht .i64 k (by omega) (by omega), he, sizeOf5]
  simp [Result.andThen, sliced, cutB]

theorem run_cutI (a : Option Addr) (len cap k : Nat) (i : Int) (hi : i = (k : Int)) (hk : k ≤ len) (w : World) :
    (Instr.sliceAt 25 (.slice a len cap) (some (.int .i64 i)) none none).run Tryd.prog w = .ok (.slice (cutB a cap k) (len - k) (cap - k)) w := by
  rw [hi]
  exact run_cut a len cap k hk w

theorem run_head (x : Addr) (len cap k : Nat) (i : Int) (hi : i = (k : Int)) (hk : k ≤ cap) (h0 : 0 < k) (w : World) :
    (Instr.sliceAt 25 (.slice (some x) len cap) none (some (.int .i64 i)) none).run Tryd.prog w = .ok (.slice (some x) k cap) w := by
  subst hi
  have ht : Tryd.prog.underlying 25 = some (.slice (Tryd.prog.elem 25)) := by kernel_rfl
  have he : Tryd.prog.elem 25 = 5 := by kernel_rfl
  have hc : ¬ cap = 0 := by omega
  rw [run_sliceAt_slice w 25 _ _ _ _ ht, run_slice_h w 25 (some x) len cap ht .i64 k (by omega) (by omega), he, sizeOf5]
  simp [Result.andThen, sliced, hc, Addr.add_zero']

/- the first function of bytes, and what is behind it -/
def readF (zs : List Int) : Option (Fun × List Int) :=
  match zs with
  | a :: l :: r =>
    match parseC l.toNat r with
    | none => none
    | some (c, r') => some ((a, c), r')
  | _ => none
theorem parseF_succ (n : Nat) (zs : List Int) : parseF (n + 1) zs = match readF zs with | none => none | some (f, r) => match parseF n r with | none => none | some (fs, r') => some (f :: fs, r') := by
  match zs with
  | [] => rfl
  | [_] => rfl
  | a :: l :: r =>
    simp only [parseF, readF]
    cases parseC l.toNat r with
    | none => rfl
    | some p => rfl
theorem decI_none_of_len {zs : List Int} (h : zs.length ≠ 8) : decI zs = none := by
  unfold decI
  split
  · exact absurd rfl h
  · rfl
theorem parseF_step_some {n : Nat} {zs r r' : List Int} {fs : List Fun} {f : Fun} {m : Nat} (h : parseF n zs = (parseF (m + 1) r).map (fun p => (fs ++ p.1, p.2))) (hi : readF r = some (f, r')) :
    parseF n zs = (parseF m r').map (fun p => ((fs ++ [f]) ++ p.1, p.2)) := by
  rw [h, parseF_succ, hi]
  simp only
  cases parseF m r' with
  | none => rfl
  | some p => simp
theorem parseF_step_none {n : Nat} {zs r : List Int} {fs : List Fun} {m : Nat} (h : parseF n zs = (parseF (m + 1) r).map (fun p => (fs ++ p.1, p.2))) (hi : readF r = none) : parseF n zs = none := by
  rw [h, parseF_succ, hi]
  rfl
theorem parseF_done {n : Nat} {zs r : List Int} {fs : List Fun} (h : parseF n zs = (parseF 0 r).map (fun p => (fs ++ p.1, p.2))) : parseF n zs = some (fs, r) := by
  rw [h]
  simp [parseF]
theorem getP_cons {n : Int} {zs : List Int} {fs : List Fun} (h : parseF n.toNat zs = some (fs, [])) (hm : mayP fs = true) : getP (88 :: 86 :: n :: zs) = some fs := by simp [getP, h, hm]
theorem getP_cons_none {z0 z1 n : Int} {zs : List Int} (h : parseF n.toNat zs = none) : getP (z0 :: z1 :: n :: zs) = none := by simp [getP, h]
theorem getP_cons_rest {z0 z1 n : Int} {zs r : List Int} {fs : List Fun} (h : parseF n.toNat zs = some (fs, r)) (hr : r ≠ []) : getP (z0 :: z1 :: n :: zs) = none := by
  match r, hr with
  | _ :: _, _ => simp [getP, h]
theorem getP_cons_may {z0 z1 n : Int} {zs r : List Int} {fs : List Fun} (h : parseF n.toNat zs = some (fs, r)) (hm : mayP fs = false) : getP (z0 :: z1 :: n :: zs) = none := by
  match r, h with
  | [], h => simp [getP, h, hm]
  | _ :: _, h => simp [getP, h]
theorem getP_mark {z0 z1 n : Int} {zs : List Int} (h : ¬ (z0 = 88 ∧ z1 = 86)) : getP (z0 :: z1 :: n :: zs) = none := by simp [getP, h]
theorem getP_short {zs : List Int} (h : zs.length < 3) : getP zs = none := by
  match zs, h with
  | [], _ => rfl
  | [_], _ => rfl
  | [_, _], _ => rfl
/- how far a code is read: what is read of it, c; what is left, r; n more to be read -/
theorem parseC_step_some {n : Nat} {zs r : List Int} {c : List I} {i : I} {m : Nat} (h : parseC n zs = (parseC (m + 1) r).map (fun p => (c ++ p.1, p.2))) (hi : decI (r.take 8) = some i) :
    parseC n zs = (parseC m (r.drop 8)).map (fun p => ((c ++ [i]) ++ p.1, p.2)) := by
  rw [h]
  simp only [parseC, hi]
  cases parseC m (r.drop 8) with
  | none => rfl
  | some p => simp
theorem parseC_step_none {n : Nat} {zs r : List Int} {c : List I} {m : Nat} (h : parseC n zs = (parseC (m + 1) r).map (fun p => (c ++ p.1, p.2))) (hi : decI (r.take 8) = none) : parseC n zs = none := by
  rw [h]
  simp only [parseC, hi]
  rfl
theorem parseC_done {n : Nat} {zs r : List Int} {c : List I} (h : parseC n zs = (parseC 0 r).map (fun p => (c ++ p.1, p.2))) : parseC n zs = some (c, r) := by
  rw [h]
  simp [parseC]

/- Get of one instruction -/
theorem list8' (l : List Int) (h : l.length = 8) : ∃ z0 z1 z2 z3 z4 z5 z6 z7, l = [z0, z1, z2, z3, z4, z5, z6, z7] := ⟨_, _, _, _, _, _, _, _, list8 l h⟩
theorem iGet_some (x : Addr) (cap : Nat) (zs : List Int) (o f d s : Int) (r : Bool) (xx m : Int) (w : World) (hR : RowsIn w) (hc : 8 ≤ cap) (hl : zs.length = 8) (hz : byteL zs) (hb : BytesAt w x zs) (hd : decI zs = some (o, f, d, s, r, xx, m)) :
    Calls Tryd.prog 34 #[.slice (some x) 8 cap] w fun e w' => e = .returned (.tuple #[instV o f d s r xx m, .int .i64 0]) ∧ Below w.heap.size w w' := by
  obtain ⟨z0, z1, z2, z3, z4, z5, z6, z7, rfl⟩ := list8' zs hl
  simp only [decI] at hd
  split at hd
  · rename_i hm
    simp only [Option.some.injEq, Prod.mk.injEq] at hd
    obtain ⟨rfl, rfl, rfl, rfl, rfl, rfl, rfl⟩ := hd
    exact get_yes x cap w hR z0 z1 z2 z3 z4 z5 z6 z7 hc (bytes8 hz) hb _ _ _ _ _ _ _ rfl rfl rfl rfl rfl rfl rfl hm
  · cases hd
theorem iGet_none (x : Addr) (cap : Nat) (zs : List Int) (w : World) (hR : RowsIn w) (hc : 8 ≤ cap) (hl : zs.length = 8) (hz : byteL zs) (hb : BytesAt w x zs) (hd : decI zs = none) :
    Calls Tryd.prog 34 #[.slice (some x) 8 cap] w fun e w' => e = .returned (.tuple #[instV 0 0 0 0 false 0 0, .int .i64 7]) ∧ Below w.heap.size w w' := by
  obtain ⟨z0, z1, z2, z3, z4, z5, z6, z7, rfl⟩ := list8' zs hl
  simp only [decI] at hd
  split at hd
  · cases hd
  · rename_i hm
    exact get_no x cap w hR z0 z1 z2 z3 z4 z5 z6 z7 hc (bytes8 hz) hb _ _ _ _ _ _ _ rfl rfl rfl rfl rfl rfl rfl (by simpa using hm)
theorem rGet_some (x : Addr) (cap : Nat) (zs : List Int) (o f d s : Int) (r : Bool) (xx m : Int) (w : World) (hl : zs.length = 8) (hz : byteL zs) (hb : BytesAt w x zs) (hd : decI zs = some (o, f, d, s, r, xx, m)) :
    Calls Tryd.prog 26 #[.slice (some x) 8 cap] w fun e w' => e = .returned (.tuple #[instV o f d s r xx m, .int .i64 0]) ∧ Below w.heap.size w w' := by
  obtain ⟨z0, z1, z2, z3, z4, z5, z6, z7, rfl⟩ := list8' zs hl
  simp only [decI] at hd
  split at hd
  · rename_i hm
    simp only [Option.some.injEq, Prod.mk.injEq] at hd
    obtain ⟨rfl, rfl, rfl, rfl, rfl, rfl, rfl⟩ := hd
    exact rget_yes x cap w z0 z1 z2 z3 z4 z5 z6 z7 (bytes8 hz) hb hm
  · cases hd
theorem rGet_none (x : Addr) (cap : Nat) (zs : List Int) (w : World) (hl : zs.length = 8) (hz : byteL zs) (hb : BytesAt w x zs) (hd : decI zs = none) :
    Calls Tryd.prog 26 #[.slice (some x) 8 cap] w fun e w' => e = .returned (.tuple #[instV 0 0 0 0 false 0 0, .int .i64 7]) ∧ Below w.heap.size w w' := by
  obtain ⟨z0, z1, z2, z3, z4, z5, z6, z7, rfl⟩ := list8' zs hl
  simp only [decI] at hd
  split at hd
  · cases hd
  · rename_i hm
    exact rget_no x cap w z0 z1 z2 z3 z4 z5 z6 z7 (bytes8 hz) hb (by simpa using hm)
theorem results_fn_three {fn : Func} {p q r : Tmp} (h : fn.results = #[.cell p 28, .tmp q, .tmp r]) (tmps : Array Value) (w : World) (g : Nat) (t : TypeId) (cs : Array Value) (u v : Value) (hs : cs.size = 2)
    (hp : tmps.getD p undef = .pointer (some ⟨g, 0, none⟩)) (hq : tmps.getD q undef = u) (hr : tmps.getD r undef = v) (hg : w.heap[g]? = some (.cells cs t (0, 0))) : (results fn tmps).run Tryd.prog w = .ok (.tuple #[.agg cs, u, v]) w := by
  have hp' : tmps[p]?.getD undef = .pointer (some ⟨g, 0, none⟩) := by simpa using hp
  have hq' : tmps[q]?.getD undef = u := by simpa using hq
  have hr' : tmps[r]?.getD undef = v := by simpa using hr
  have hi : (Tryd.prog.info? 28).map (·.size) = some cs.size := by rw [hs]; kernel_rfl
  simp [results, h, hp', hq', hr', asAddr, run_loadVar_row w g t 28 cs (0, 0) _ hg Tryd.underlying28 rfl hi]
theorem results_prog_two {fn : Func} {p q : Tmp} (h : fn.results = #[.cell p 24, .tmp q]) (tmps : Array Value) (w : World) (g : Nat) (t : TypeId) (cs : Array Value) (v : Value) (hs : cs.size = 1)
    (hp : tmps.getD p undef = .pointer (some ⟨g, 0, none⟩)) (hq : tmps.getD q undef = v) (hg : w.heap[g]? = some (.cells cs t (0, 0))) : (results fn tmps).run Tryd.prog w = .ok (.tuple #[.agg cs, v]) w := by
  have hp' : tmps[p]?.getD undef = .pointer (some ⟨g, 0, none⟩) := by simpa using hp
  have hq' : tmps[q]?.getD undef = v := by simpa using hq
  have hi : (Tryd.prog.info? 24).map (·.size) = some cs.size := by rw [hs]; kernel_rfl
  simp [results, h, hp', hq', asAddr, run_loadVar_row w g t 24 cs (0, 0) _ hg Tryd.underlying24 rfl hi]
end Go.Proofs.YtlbhmopmfddhjaaDoor
