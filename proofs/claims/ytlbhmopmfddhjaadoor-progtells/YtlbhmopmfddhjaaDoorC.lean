/-
  What package inst's Put returns, as a contract over the translated program.
-/
import Derived.Test.YtlbhmopmfddhjaaDoorB
import Derived.Test.YtlbhmopmfddhjaaDoorPlain2
import Derived.OwnWalk
namespace Go.Proofs.YtlbhmopmfddhjaaDoor
open Go.RowKit

/- the seven cells of an instruction in block b -/
def InstAt (w : World) (b : Nat) (o f d s : Int) (r : Bool) (x m : Int) : Prop :=
  w.cell? ⟨b, 0, none⟩ = some (.int .i64 o) ∧ w.cell? ⟨b, 1, none⟩ = some (.int .i64 f) ∧ w.cell? ⟨b, 2, none⟩ = some (.int .i64 d) ∧ w.cell? ⟨b, 3, none⟩ = some (.int .i64 s) ∧
  w.cell? ⟨b, 4, none⟩ = some (.bool r) ∧ w.cell? ⟨b, 5, none⟩ = some (.int .i64 x) ∧ w.cell? ⟨b, 6, none⟩ = some (.int .u32 m)
theorem InstAt.below {w w' : World} {b B : Nat} {o f d s : Int} {r : Bool} {x m : Int} (h : InstAt w b o f d s r x m) (hb : Below B w w') (hlt : b < B) : InstAt w' b o f d s r x m := by
  obtain ⟨c0, c1, c2, c3, c4, c5, c6⟩ := h
  exact ⟨(hb.cell hlt).trans c0, (hb.cell hlt).trans c1, (hb.cell hlt).trans c2, (hb.cell hlt).trans c3, (hb.cell hlt).trans c4, (hb.cell hlt).trans c5, (hb.cell hlt).trans c6⟩
theorem instAt_alloc (w : World) (o f d s : Int) (r : Bool) (x m : Int) (t : TypeId) :
    InstAt (w.alloc (.cells #[.int .i64 o, .int .i64 f, .int .i64 d, .int .i64 s, .bool r, .int .i64 x, .int .u32 m] t)) w.heap.size o f d s r x m := by
  refine ⟨?_, ?_, ?_, ?_, ?_, ?_, ?_⟩ <;> simp

/- the bytes that lie from x on -/
def BytesAt (w : World) (x : Addr) (zs : List Int) : Prop := ∀ i, i < zs.length → w.cell? (x.add i) = some (.int .u8 (zs.getD i 0))
theorem lt_of_cell {w : World} {x : Addr} {v : Value} (h : w.cell? x = some v) : x.block < w.heap.size := by
  rcases Nat.lt_or_ge x.block w.heap.size with h1 | h1
  · exact h1
  · exfalso
    simp [World.cell?, h1] at h
theorem add_block (x : Addr) (i : Nat) : (x.add i).block = x.block := by
  unfold Addr.add
  split <;> rfl
theorem BytesAt.below {w w' : World} {x : Addr} {zs : List Int} (h : BytesAt w x zs) (hb : Below w.heap.size w w') : BytesAt w' x zs := fun i hi =>
  (hb.cell (lt_of_cell (h i hi))).trans (h i hi)
theorem bytesAt_alloc (w : World) (z0 z1 z2 z3 z4 z5 z6 z7 : Int) (t : TypeId) :
    BytesAt (w.alloc (.cells #[.int .u8 z0, .int .u8 z1, .int .u8 z2, .int .u8 z3, .int .u8 z4, .int .u8 z5, .int .u8 z6, .int .u8 z7] t)) ⟨w.heap.size, 0, none⟩ [z0, z1, z2, z3, z4, z5, z6, z7] := by
  intro i hi
  match i, hi with
  | 0, _ | 1, _ | 2, _ | 3, _ | 4, _ | 5, _ | 6, _ | 7, _ => simp [Addr.add]
/- the encoding -/
def encL (o f d s : Int) (r : Bool) (x m : Int) : List Int := [16 * o + f, if r then 8 * d + s + 128 else 8 * d + s, x / 256, x % 256, m / 16777216, m / 65536 % 256, m / 256 % 256, m % 256]

theorem put_no (o f d s : Int) (r : Bool) (x m : Int) (w : World) (hR : RowsIn w) (hM : mayB o f d s r x m = false) :
    Calls Tryd.prog 37 #[instV o f d s r x m] w fun e w' => e = .returned (.tuple #[.slice none 0 0, .int .i64 1]) ∧ Below w.heap.size w w' := by
  have hg : Below w.heap.size w (w.alloc (.cells #[.int .i64 o, .int .i64 f, .int .i64 d, .int .i64 s, .bool r, .int .i64 x, .int .u32 m] 46)) :=
    (Below.refl _ _).alloc (Nat.le_refl _) _
  have hR1 := hR.later hg
  go_enter Tryd.func37, Tryd.ntmps37
  go_wp2_with (go_at_call 35; refine (may_any _ _ _ _ _ _ _ _ hR1).mono ?_; rintro e w' ⟨rfl, hg2⟩; replace hg := hg.trans (hg2.mono hg.size); clear hg2)
  go_ret2
  exact ⟨rfl, hg⟩

theorem put_yes (o f d s : Int) (r : Bool) (x m : Int) (w : World) (hR : RowsIn w) (hM : mayB o f d s r x m = true) (h0 : 0 ≤ m) (hm : m ≤ 4294967295) :
    Calls Tryd.prog 37 #[instV o f d s r x m] w fun e w' => ∃ b, e = .returned (.tuple #[.slice (some ⟨b, 0, none⟩) 8 8, .int .i64 0]) ∧ Below w.heap.size w w' ∧ w.heap.size ≤ b ∧ BytesAt w' ⟨b, 0, none⟩ (encL o f d s r x m) := by
  have hP := (mayB_iff h0 hm).1 hM
  obtain ⟨o0, o7, d0, d7, s0, s7, f0, x0, x7, fa, fb, fc, hrest⟩ := hP
  have f10 : f ≤ 10 := by omega
  clear fa fb fc hrest
  have hg : Below w.heap.size w (w.alloc (.cells #[.int .i64 o, .int .i64 f, .int .i64 d, .int .i64 s, .bool r, .int .i64 x, .int .u32 m] 46)) :=
    (Below.refl _ _).alloc (Nat.le_refl _) _
  have hR1 := hR.later hg
  have HI := Lib.hid (instAt_alloc w o f d s r x m 46)
  cases r
  · go_enter Tryd.func37, Tryd.ntmps37
    go_wp2_with (go_at_call 35; refine (may_any _ _ _ _ _ _ _ _ hR1).mono ?_; rintro e w' ⟨rfl, hg2⟩; replace hg := hg.trans (hg2.mono hg.size); have hI := HI.out.below hg2 (by simp); obtain ⟨c0, c1, c2, c3, c4, c5, c6⟩ := hI; have hsz := hg2.size; clear hg2)
    go_ret2
    exact ⟨_, rfl, hg.alloc hg.size _, hg.size, bytesAt_alloc _ _ _ _ _ _ _ _ _ _⟩
  · go_enter Tryd.func37, Tryd.ntmps37
    go_wp2_with (go_at_call 35; refine (may_any _ _ _ _ _ _ _ _ hR1).mono ?_; rintro e w' ⟨rfl, hg2⟩; replace hg := hg.trans (hg2.mono hg.size); have hI := HI.out.below hg2 (by simp); obtain ⟨c0, c1, c2, c3, c4, c5, c6⟩ := hI; have hsz := hg2.size; clear hg2)
    go_ret2
    exact ⟨_, rfl, hg.alloc hg.size _, hg.size, bytesAt_alloc _ _ _ _ _ _ _ _ _ _⟩
end Go.Proofs.YtlbhmopmfddhjaaDoor
