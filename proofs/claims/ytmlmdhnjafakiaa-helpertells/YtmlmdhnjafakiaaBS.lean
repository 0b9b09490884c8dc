/-
  '==' on schemas.
-/
import Derived.Test.YtmlmdhnjafakiaaA4
namespace Go.Proofs.Ytmlmdhnjafakiaa
open Go.RowKit

theorem fieldsS : (Try.prog.fieldsOf 29).toList = [⟨"Kind", 3, 0, false, "", "", 0⟩, ⟨"Cap", 3, 1, false, "", "", 8⟩, ⟨"Words", 3, 2, false, "", "", 16⟩, ⟨"Ver", 3, 3, false, "", "", 24⟩] := by kernel_rfl
theorem part0 (k c n v : Int) (w : World) : (part 3 (scA k c n v) 0).run Try.prog w = .ok (.int .i64 k) w := by kernel_rfl
theorem part1 (k c n v : Int) (w : World) : (part 3 (scA k c n v) 1).run Try.prog w = .ok (.int .i64 c) w := by kernel_rfl
theorem part2 (k c n v : Int) (w : World) : (part 3 (scA k c n v) 2).run Try.prog w = .ok (.int .i64 n) w := by kernel_rfl
theorem part3 (k c n v : Int) (w : World) : (part 3 (scA k c n v) 3).run Try.prog w = .ok (.int .i64 v) w := by kernel_rfl
theorem eqI3 (a b : Int) (w : World) : (Op.equalIn 9999 3 (.int .i64 a) (.int .i64 b)).run Try.prog w = .ok (a == b) w := run_equalIn_int w 9998 3 _ _ a b Try.underlying3
theorem equal_sc (k c n v k' c' n' v' : Int) (w : World) :
    (Op.equalIn 10000 29 (scV k c n v) (scV k' c' n' v')).run Try.prog w = .ok (scEq k c n v k' c' n' v') w := by
  rw [run_equalIn_agg w 9999 29 _ _ (by kernel_rfl) (by kernel_rfl), fieldsS]
  simp only [Op.eqFields, scEq]
  rcases h0 : (k == k') <;> rcases h1 : (c == c') <;> rcases h2 : (n == n') <;> rcases h3 : (v == v') <;>
    simp [part0, part1, part2, part3, eqI3, h0, h1, h2, h3]
theorem eql_sc (k c n v k' c' n' v' : Int) (w : World) :
    (binOp .eql 29 (scV k c n v) (scV k' c' n' v')).run Try.prog w = .ok (.bool (scEq k c n v k' c' n' v')) w := by
  rw [run_eql_struct, equal_sc]
  rfl
theorem neq_sc (k c n v k' c' n' v' : Int) (w : World) :
    (binOp .neq 29 (scV k c n v) (scV k' c' n' v')).run Try.prog w = .ok (.bool (!scEq k c n v k' c' n' v')) w := by
  rw [run_neq_struct, equal_sc]
  rfl
theorem guardS : Try.prog.eqGuardType Try.prog.depth 29 = false := by kernel_rfl

end Go.Proofs.Ytmlmdhnjafakiaa
