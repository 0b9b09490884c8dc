/-
  What package schema's Room and Step and the reference's Room and Step return, as contracts over the translated program; '==' on schemas.
-/
import Derived.Test.YtbihfaplhjbfeaaA
namespace Go.Proofs.Ytbihfaplhjbfeaa
open Go.RowKit

theorem fieldsS : (Try.prog.fieldsOf 25).toList = [⟨"Kind", 3, 0, false, "", "", 0⟩, ⟨"Cap", 3, 1, false, "", "", 8⟩, ⟨"Words", 3, 2, false, "", "", 16⟩, ⟨"Ver", 3, 3, false, "", "", 24⟩] := by kernel_rfl
theorem part0 (k c n v : Int) (w : World) : (part 3 (scA k c n v) 0).run Try.prog w = .ok (.int .i64 k) w := by kernel_rfl
theorem part1 (k c n v : Int) (w : World) : (part 3 (scA k c n v) 1).run Try.prog w = .ok (.int .i64 c) w := by kernel_rfl
theorem part2 (k c n v : Int) (w : World) : (part 3 (scA k c n v) 2).run Try.prog w = .ok (.int .i64 n) w := by kernel_rfl
theorem part3 (k c n v : Int) (w : World) : (part 3 (scA k c n v) 3).run Try.prog w = .ok (.int .i64 v) w := by kernel_rfl
theorem eqI3 (a b : Int) (w : World) : (Op.equalIn 9999 3 (.int .i64 a) (.int .i64 b)).run Try.prog w = .ok (a == b) w := run_equalIn_int w 9998 3 _ _ a b Try.underlying3
theorem equal_sc (k c n v k' c' n' v' : Int) (w : World) :
    (Op.equalIn 10000 25 (scV k c n v) (scV k' c' n' v')).run Try.prog w = .ok (scEq k c n v k' c' n' v') w := by
  rw [run_equalIn_agg w 9999 25 _ _ (by kernel_rfl) (by kernel_rfl), fieldsS]
  simp only [Op.eqFields, scEq]
  rcases h0 : (k == k') <;> rcases h1 : (c == c') <;> rcases h2 : (n == n') <;> rcases h3 : (v == v') <;>
    simp [part0, part1, part2, part3, eqI3, h0, h1, h2, h3]
theorem eql_sc (k c n v k' c' n' v' : Int) (w : World) :
    (binOp .eql 25 (scV k c n v) (scV k' c' n' v')).run Try.prog w = .ok (.bool (scEq k c n v k' c' n' v')) w := by
  rw [run_eql_struct, equal_sc]
  rfl
theorem neq_sc (k c n v k' c' n' v' : Int) (w : World) :
    (binOp .neq 25 (scV k c n v) (scV k' c' n' v')).run Try.prog w = .ok (.bool (!scEq k c n v k' c' n' v')) w := by
  rw [run_neq_struct, equal_sc]
  rfl
theorem guardS : Try.prog.eqGuardType Try.prog.depth 25 = false := by kernel_rfl

/- the four cells of a schema in block b -/
def ScAt (w : World) (b : Nat) (k c n v : Int) : Prop :=
  w.cell? ⟨b, 0, none⟩ = some (.int .i64 k) ∧ w.cell? ⟨b, 1, none⟩ = some (.int .i64 c) ∧ w.cell? ⟨b, 2, none⟩ = some (.int .i64 n) ∧ w.cell? ⟨b, 3, none⟩ = some (.int .i64 v)
theorem ScAt.later {w w' : World} {b : Nat} {k c n v : Int} (h : ScAt w b k c n v) (hb : Below w.heap.size w w') : ScAt w' b k c n v := by
  obtain ⟨c0, c1, c2, c3⟩ := h
  exact ⟨(hb.cell (lt_of_cell c0)).trans c0, (hb.cell (lt_of_cell c1)).trans c1, (hb.cell (lt_of_cell c2)).trans c2, (hb.cell (lt_of_cell c3)).trans c3⟩
theorem scAt_new (w : World) (k c n v : Int) : ScAt (w.alloc (scO k c n v)) w.heap.size k c n v := by
  refine ⟨?_, ?_, ?_, ?_⟩ <;> simp
theorem scAt_two (w : World) (k c n v : Int) (o : Obj) : ScAt ((w.alloc o).alloc (scO k c n v)) (w.heap.size + 1) k c n v := by
  have := scAt_new (w.alloc o) k c n v
  rwa [show (w.alloc o).heap.size = w.heap.size + 1 by simp] at this
theorem scAt_old {w : World} {b : Nat} {k c n v : Int} (h : ScAt w b k c n v) (o : Obj) : ScAt (w.alloc o) b k c n v := h.later ((Below.refl _ _).alloc (Nat.le_refl _) _)

theorem room_any (k c n v : Int) (w : World) : Calls Try.prog 18 #[scV k c n v] w fun e w' => e = .returned (.int .i64 (roomS k c n v)) ∧ Below w.heap.size w w' := by
  have hg : Below w.heap.size w (w.alloc (scO k c n v)) := (Below.refl _ _).alloc (Nat.le_refl _) _
  have HA := Lib.hid (scAt_new w k c n v)
  go_enter Try.func18, Try.ntmps18
  go_wp2_with fail
  refine (may_any _ _ _ _ _).mono ?_
  rintro e w1 ⟨rfl, hg1⟩
  obtain ⟨c0, c1, c2, c3⟩ := HA.out.later hg1
  replace hg := hg.trans (hg1.mono hg.size)
  clear hg1 HA
  rcases hM : mayS k c n v with _ | _
  · have HR : Hid (roomS k c n v = 0) := Lib.hid (by simp [roomS, hM])
    go_wp2
    go_ret
    exact ⟨by rw [HR.out]; rfl, hg⟩
  · have HR : Hid (roomS k c n v = c * (n + 1)) := Lib.hid (by simp [roomS, hM])
    have hP := mayS_iff.1 hM
    have hb : 0 ≤ c * (n + 1) ∧ c * (n + 1) ≤ 16 * 5 := ⟨Int.mul_nonneg (by omega) (by omega), Int.mul_le_mul (by omega) (by omega) (by omega) (by omega)⟩
    have hw1 := wI (c * (n + 1)) (by omega) (by omega)
    have hw2 := wI (n + 1) (by omega) (by omega)
    have hc0 : 0 ≤ n ∧ n ≤ 4 := by omega
    clear hP hb
    go_wp2
    go_ret
    exact ⟨by rw [HR.out]; rfl, hg⟩
theorem rroom_any (k c n v : Int) (w : World) : Calls Try.prog 19 #[scV k c n v] w fun e w' => e = .returned (.int .i64 (roomS k c n v)) ∧ Below w.heap.size w w' := by
  have hg : Below w.heap.size w (w.alloc (scO k c n v)) := (Below.refl _ _).alloc (Nat.le_refl _) _
  have HA := Lib.hid (scAt_new w k c n v)
  go_enter Try.func19, Try.ntmps19
  go_wp2_with fail
  refine (rmay_any _ _ _ _ _).mono ?_
  rintro e w1 ⟨rfl, hg1⟩
  obtain ⟨c0, c1, c2, c3⟩ := HA.out.later hg1
  replace hg := hg.trans (hg1.mono hg.size)
  clear hg1 HA
  rcases hM : mayS k c n v with _ | _
  · have HR : Hid (roomS k c n v = 0) := Lib.hid (by simp [roomS, hM])
    go_wp2
    go_ret
    exact ⟨by rw [HR.out]; rfl, hg⟩
  · have HR : Hid (roomS k c n v = c + c * n) := Lib.hid (by simp [roomS, hM, Int.mul_add]; omega)
    have hP := mayS_iff.1 hM
    have hb : 0 ≤ c * n ∧ c * n ≤ 16 * 4 := ⟨Int.mul_nonneg (by omega) (by omega), Int.mul_le_mul (by omega) (by omega) (by omega) (by omega)⟩
    have hw1 := wI (c * n) (by omega) (by omega)
    have hw2 := wI (c + c * n) (by omega) (by omega)
    clear hP hb
    go_wp2
    go_ret
    exact ⟨by rw [HR.out]; rfl, hg⟩
end Go.Proofs.Ytbihfaplhjbfeaa
