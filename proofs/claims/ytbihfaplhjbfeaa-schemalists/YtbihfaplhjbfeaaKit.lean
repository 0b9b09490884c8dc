/-
  Rows of bytes in memory, variables in blocks of their own, and what is cut off a slice of bytes: facts that no package's code enters.
-/
import Derived.Test.YtbihfaplhjbfeaaRows
import Derived.WalkKit
import Derived.ProofKit
import Derived.OpenShut
import Derived.WalkSpells
import Derived.WalkLawsBesides
import Derived.Outline
import Derived.Lib.Hide
import Derived.Below
import Derived.Laws.Rows
import Derived.LoopTactic
import Derived.OwnWalk
import Derived.Laws.BitsAllLaws
import Derived.Laws.CopyOwn
import Derived.Laws.ResultCell
import Derived.Laws.AppendOwn
import Derived.Deep.AppendLies
import Derived.Deep.Slices
import Derived.Deep.Fields
import Derived.Stop.Joined
import Derived.Deep.RegionHeld3
import Derived.BigQuiet
import Derived.BigRegion
namespace Go.Proofs.Ytbihfaplhjbfeaa
open Go.RowKit

theorem lt_of_cell {w : World} {x : Addr} {v : Value} (h : w.cell? x = some v) : x.block < w.heap.size := by
  rcases Nat.lt_or_ge x.block w.heap.size with h1 | h1
  · exact h1
  · exfalso
    simp [World.cell?, h1] at h
theorem add_block (x : Addr) (i : Nat) : (x.add i).block = x.block := by
  unfold Addr.add
  split <;> rfl
theorem addr_add (g i : Nat) : (⟨g, 0, none⟩ : Addr).add i = ⟨g, i, none⟩ := by
  unfold Addr.add
  split <;> simp_all
theorem add_add_cell (a : Addr) (k : Nat) (h : 0 < k) : a.add k = ⟨a.block, a.off + k, none⟩ := by
  unfold Addr.add
  split
  · simp_all
  · rfl
theorem belowDrewN {B : Nat} {a w : World} (h : Below B a w) (n : Nat) : Below B a (w.drewN n) := by
  induction n with
  | zero => exact h
  | succ n ih => exact ih.drew
theorem below_of_quiet {w w' : World} (h : ∃ n, w' = w.drewN n) : Below w.heap.size w w' := by
  obtain ⟨n, rfl⟩ := h
  exact belowDrewN (Below.refl _ _) n
theorem box2 {B : Nat} {W w : World} (h : Below B W w) (hB : B ≤ w.heap.size) (o o' : Obj) : Below B W ((w.alloc o).alloc o') := (h.alloc hB o).alloc (by simp; omega) o'
theorem list_eq_getD {α : Type} (z : α) : ∀ (zs ys : List α), zs.length = ys.length → (∀ j, j < zs.length → zs.getD j z = ys.getD j z) → zs = ys
  | [], [], _, _ => rfl
  | a :: zs, b :: ys, h, hj => by
    have h0 : a = b := by simpa using hj 0 (by simp)
    have h1 : zs = ys := list_eq_getD z zs ys (by simpa using h) (fun j hl => by simpa using hj (j + 1) (by simpa using hl))
    rw [h0, h1]
theorem getD_mem {α : Type} (l : List α) (k : Nat) (z : α) (h : k < l.length) : l.getD k z ∈ l := by
  rw [List.getD_eq_getElem?_getD, List.getElem?_eq_getElem h]
  exact List.getElem_mem h
theorem take_getD {α : Type} (l : List α) (k : Nat) (z : α) (h : k < l.length) : l.take (k + 1) = l.take k ++ [l.getD k z] := by
  rw [List.take_add_one, List.getElem?_eq_getElem h, List.getD_eq_getElem?_getD, List.getElem?_eq_getElem h]
  rfl
theorem exists_list {α : Type} (z : α) (p : Nat → α → Prop) : ∀ n, (∀ k, k < n → ∃ x, p k x) → ∃ l : List α, l.length = n ∧ ∀ k, k < n → p k (l.getD k z)
  | 0, _ => ⟨[], rfl, fun k hk => absurd hk (by omega)⟩
  | n + 1, h => by
    obtain ⟨l, hl, hp⟩ := exists_list z p n (fun k hk => h k (by omega))
    obtain ⟨x, hx⟩ := h n (by omega)
    refine ⟨l ++ [x], by simp [hl], fun k hk => ?_⟩
    by_cases hkn : k < n
    · have : (l ++ [x]).getD k z = l.getD k z := by simp [List.getD_eq_getElem?_getD, List.getElem?_append_left (show k < l.length by omega)]
      rw [this]
      exact hp k hkn
    · obtain rfl : k = n := by omega
      have : (l ++ [x]).getD k z = x := by
        rw [← hl]
        simp [List.getD_eq_getElem?_getD]
      rw [this]
      exact hx
theorem wI (n : Int) (h0 : 0 ≤ n) (h1 : n < 9223372036854775808) : IntKind.i64.wrap n = n := by
  simp [IntKind.wrap, IntKind.bits, IntKind.signed]
  omega
theorem wB (n : Int) (h0 : 0 ≤ n) (h1 : n ≤ 255) : IntKind.u8.wrap n = n := by
  simp [IntKind.wrap, IntKind.bits, IntKind.signed]
  omega

/- the bytes that lie from x on -/
def BytesAt (w : World) (x : Addr) (zs : List Int) : Prop := ∀ i, i < zs.length → w.cell? (x.add i) = some (.int .u8 (zs.getD i 0))
theorem BytesAt.below {w w' : World} {x : Addr} {zs : List Int} (h : BytesAt w x zs) (hb : Below w.heap.size w w') : BytesAt w' x zs := fun i hi =>
  (hb.cell (lt_of_cell (h i hi))).trans (h i hi)
theorem bytesAt_drop {w : World} {x : Addr} {zs : List Int} (h : BytesAt w x zs) (k : Nat) (hk : k ≤ zs.length) : BytesAt w (x.add k) (zs.drop k) := by
  intro i hi
  rw [List.length_drop] at hi
  have := h (k + i) (by omega)
  rw [Go.Deep.add_add, this]
  simp [List.getD_eq_getElem?_getD, List.getElem?_drop]
theorem bytesAt_take {w : World} {x : Addr} {zs : List Int} (h : BytesAt w x zs) (k : Nat) : BytesAt w x (zs.take k) := by
  intro i hi
  rw [List.length_take] at hi
  have := h i (by omega)
  rw [this]
  simp [List.getD_eq_getElem?_getD, show i < k by omega]
/- every one is a byte -/
def byteL (zs : List Int) : Prop := ∀ z ∈ zs, 0 ≤ z ∧ z ≤ 255

/- block g holds just the cells cs, of type t, and may be written -/
def Box (w : World) (g : Nat) (t : TypeId) (cs : Array Value) : Prop := w.heap[g]? = some (.cells cs t (0, 0))
section
variable {w w' : World} {g : Nat} {t : TypeId} {cs : Array Value}
theorem Box.lt (h : Box w g t cs) : g < w.heap.size := (Array.getElem?_eq_some_iff.1 h).1
theorem Box.cell (h : Box w g t cs) {i : Nat} {v : Value} (hv : cs[i]? = some v) : w.cell? ⟨g, i, none⟩ = some v := (cell_of_row w g i cs t (0, 0) h).trans hv
theorem Box.free (h : Box w g t cs) (i : Nat) : w.frozen? ⟨g, i, none⟩ = false := by
  have h' : w.heap[g]? = some (.cells cs t (0, 0)) := h
  simp [World.frozen?, h']
theorem Box.new (w : World) (t : TypeId) (cs : Array Value) : Box (w.alloc (.cells cs t)) w.heap.size t cs := heap_alloc_new w _
theorem Box.alloc (h : Box w g t cs) (o : Obj) : Box (w.alloc o) g t cs := (Below.heap_alloc w o g h.lt).trans h
theorem Box.below {B : Nat} (h : Box w g t cs) (hb : Below B w w') (hg : g < B) : Box w' g t cs := (hb.block g hg).trans h
theorem Box.later (h : Box w g t cs) (hb : Below w.heap.size w w') : Box w' g t cs := h.below hb h.lt
theorem Box.grown {row : Option Nat} (h : Box w g t cs) (hb : w.grownBy w' row) (hg : some g ≠ row) : Box w' g t cs := (hb.block g h.lt hg).trans h
theorem Box.set (h : Box w g t cs) (i : Nat) (u : Value) : Box (w.setCell ⟨g, i, none⟩ u) g t (cs.setIfInBounds i u) := by
  have h' : w.heap[g]? = some (.cells cs t (0, 0)) := h
  simp [Box, World.setCell, Array.getElem?_modify, h']
theorem Box.other (h : Box w g t cs) {p : Addr} (hp : g ≠ p.block) (u : Value) : Box (w.setCell p u) g t cs := (Below.heap_setCell w p u g hp).trans h
theorem Box.drewN (h : Box w g t cs) (n : Nat) : Box (w.drewN n) g t cs := h
end

theorem ownsRow_below {w w' : World} {base : Nat} {e : TypeId} {size : Nat} {v : Value} {n : Nat} {xs : List Value} (h : w.ownsRow base e size v n xs) (hb : Below w.heap.size w w') : w'.ownsRow base e size v n xs := by
  obtain ⟨h1, h2 | ⟨g, cap, cur, hv, hbg, hh, hr⟩⟩ := h
  · exact ⟨h1, .inl h2⟩
  · exact ⟨h1, .inr ⟨g, cap, cur, hv, hbg, (hb.block g (Array.getElem?_eq_some_iff.1 hh).1).trans hh, hr⟩⟩

/- a slice of bytes -/
def SliceB (w : World) (a : Option Addr) (len cap : Nat) (zs : List Int) : Prop :=
  zs.length = len ∧ len ≤ cap ∧ cap ≤ maxLen ∧ byteL zs ∧ (len = 0 ∨ ∃ x, a = some x ∧ BytesAt w x zs)
theorem SliceB.below {w w' : World} {a : Option Addr} {len cap : Nat} {zs : List Int} (h : SliceB w a len cap zs) (hb : Below w.heap.size w w') : SliceB w' a len cap zs := by
  obtain ⟨h1, h2, h3, h4, h5⟩ := h
  refine ⟨h1, h2, h3, h4, ?_⟩
  rcases h5 with h5 | ⟨x, h5, h6⟩
  · exact .inl h5
  · exact .inr ⟨x, h5, h6.below hb⟩
theorem slice_nil (w : World) : SliceB w none 0 0 [] := ⟨rfl, Nat.le_refl _, Nat.zero_le _, by intro z hz; simp at hz, .inl rfl⟩
theorem SliceB.max {w : World} {a : Option Addr} {len cap : Nat} {zs : List Int} (h : SliceB w a len cap zs) : len ≤ 9223372036854775807 := by
  have h1 := h.2.1
  have h2 := h.2.2.1
  unfold maxLen at h2
  omega
def cutB (a : Option Addr) (cap k : Nat) : Option Addr := if cap = k then a else a.map (·.add k)
theorem SliceB.cut {w : World} {a : Option Addr} {len cap : Nat} {zs : List Int} (h : SliceB w a len cap zs) {k : Nat} (hk : k ≤ len) : SliceB w (cutB a cap k) (len - k) (cap - k) (zs.drop k) := by
  obtain ⟨h1, h2, h3, h4, h5⟩ := h
  refine ⟨by rw [List.length_drop, h1], by omega, by omega, fun z hz => h4 z (List.mem_of_mem_drop hz), ?_⟩
  by_cases he : len = k
  · exact .inl (by omega)
  · obtain ⟨x, rfl, h6⟩ := h5.resolve_left (by omega)
    refine .inr ⟨x.add k, ?_, bytesAt_drop h6 k (by omega)⟩
    unfold cutB
    rw [if_neg (by omega)]
    rfl
theorem sizeOf5 (w : World) : (sizeOf 5).run Try.prog w = .ok 1 w := by kernel_rfl
theorem run_cut (a : Option Addr) (len cap k : Nat) (hk : k ≤ len) (w : World) :
    (Instr.sliceAt 23 (.slice a len cap) (some (.int .i64 k)) none none).run Try.prog w = .ok (.slice (cutB a cap k) (len - k) (cap - k)) w := by
  have ht : Try.prog.underlying 23 = some (.slice (Try.prog.elem 23)) := by kernel_rfl
  have he : Try.prog.elem 23 = 5 := by kernel_rfl
  rw [run_sliceAt_slice w 23 _ _ _ _ ht, run_slice_l w 23 a len cap ht .i64 k (by omega) (by omega), he, sizeOf5]
  simp [Result.andThen, sliced, cutB]
theorem run_cutI (a : Option Addr) (len cap k : Nat) (i : Int) (hi : i = (k : Int)) (hk : k ≤ len) (w : World) :
    (Instr.sliceAt 23 (.slice a len cap) (some (.int .i64 i)) none none).run Try.prog w = .ok (.slice (cutB a cap k) (len - k) (cap - k)) w := by
  rw [hi]
  exact run_cut a len cap k hk w

/- bytes as values -/
def bytesV (zs : List Int) : List Value := zs.map (Value.int .u8)
theorem bytesV_len (zs : List Int) : (bytesV zs).length = zs.length := by simp [bytesV]
theorem bytesV_append (xs ys : List Int) : bytesV xs ++ bytesV ys = bytesV (xs ++ ys) := by simp [bytesV]
theorem bytesV_one (zs : List Int) : ∀ u ∈ bytesV zs, u.oneCell' = true := by
  intro u hu
  obtain ⟨a, _, rfl⟩ := List.mem_map.1 hu
  rfl
theorem bytesV_at {w : World} {x : Addr} {zs : List Int} (h : BytesAt w x zs) : ∀ j u, (bytesV zs)[j]? = some u → w.cell? (x.add j) = some u := by
  intro j u hj
  have hj2 : j < zs.length := by
    have := (List.getElem?_eq_some_iff.1 hj).1
    simpa [bytesV] using this
  have h := h j hj2
  rw [List.getD_eq_getElem?_getD, List.getElem?_eq_getElem hj2] at h
  unfold bytesV at hj
  rw [List.getElem?_map, List.getElem?_eq_getElem hj2] at hj
  simp at hj h
  rw [h, hj]
theorem bytesV_own {w : World} {base g n cap : Nat} {zs : List Int} (h : w.ownsRow base 5 1 (.slice (some ⟨g, 0, none⟩) n cap) n (bytesV zs)) (hn : zs.length = n) :
    base ≤ g ∧ n ≤ cap ∧ cap ≤ maxLen ∧ BytesAt w ⟨g, 0, none⟩ zs := by
  obtain ⟨_, ⟨h1, _⟩ | ⟨g', cap', cur, h1, hb, hh, hc, hm, hs, ht⟩⟩ := h
  · cases h1
  · simp only [Value.slice.injEq, Option.some.injEq, Addr.mk.injEq, and_true, true_and] at h1
    obtain ⟨rfl, rfl⟩ := h1
    refine ⟨hb, hc, hm, fun i hi => ?_⟩
    have e : (⟨g, 0, none⟩ : Addr).add i = ⟨g, i, none⟩ := addr_add g i
    rw [e]
    have h2 : (cur.toList.take n)[i]? = (bytesV zs)[i]? := by
      have := congrArg (fun l => l[i]?) ht
      simpa using this
    rw [List.getElem?_take, if_pos (by omega)] at h2
    simp [World.cell?, hh]
    rw [← Array.getElem?_toList, h2]
    simp [bytesV, hi]
theorem info5 : (Try.prog.info? 5).map (fun i => (i.zero, i.size, i.bytes)) = some (some (.int .u8 0), 1, 1) := by kernel_rfl
end Go.Proofs.Ytbihfaplhjbfeaa
