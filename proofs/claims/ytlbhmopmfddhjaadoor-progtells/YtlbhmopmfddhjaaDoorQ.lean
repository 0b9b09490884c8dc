/-
  Two instructions compared with '==' and '!=', as the translated program does it.
-/
import Derived.Test.YtlbhmopmfddhjaaDoorB
import Derived.Laws.StructEq
namespace Go.Proofs.YtlbhmopmfddhjaaDoor
open Go.RowKit

def instEq (o f d s : Int) (r : Bool) (x m o' f' d' s' : Int) (r' : Bool) (x' m' : Int) : Bool :=
  (o == o') && ((f == f') && ((d == d') && ((s == s') && ((r == r') && ((x == x') && (m == m'))))))

theorem fields24 : (Tryd.prog.fieldsOf 46).toList = [⟨"Op", 3, 0, false, "", "", 0⟩, ⟨"Fn", 3, 1, false, "", "", 8⟩, ⟨"Dst", 3, 2, false, "", "", 16⟩, ⟨"Src", 3, 3, false, "", "", 24⟩, ⟨"Reg", 4, 4, false, "", "", 32⟩, ⟨"Off", 3, 5, false, "", "", 40⟩, ⟨"Imm", 44, 6, false, "", "", 48⟩] := by kernel_rfl
theorem part0 (o f d s : Int) (r : Bool) (x m : Int) (w : World) : (part 3 #[.int .i64 o, .int .i64 f, .int .i64 d, .int .i64 s, .bool r, .int .i64 x, .int .u32 m] 0).run Tryd.prog w = .ok (.int .i64 o) w := by kernel_rfl
theorem part1 (o f d s : Int) (r : Bool) (x m : Int) (w : World) : (part 3 #[.int .i64 o, .int .i64 f, .int .i64 d, .int .i64 s, .bool r, .int .i64 x, .int .u32 m] 1).run Tryd.prog w = .ok (.int .i64 f) w := by kernel_rfl
theorem part2 (o f d s : Int) (r : Bool) (x m : Int) (w : World) : (part 3 #[.int .i64 o, .int .i64 f, .int .i64 d, .int .i64 s, .bool r, .int .i64 x, .int .u32 m] 2).run Tryd.prog w = .ok (.int .i64 d) w := by kernel_rfl
theorem part3 (o f d s : Int) (r : Bool) (x m : Int) (w : World) : (part 3 #[.int .i64 o, .int .i64 f, .int .i64 d, .int .i64 s, .bool r, .int .i64 x, .int .u32 m] 3).run Tryd.prog w = .ok (.int .i64 s) w := by kernel_rfl
theorem part4 (o f d s : Int) (r : Bool) (x m : Int) (w : World) : (part 4 #[.int .i64 o, .int .i64 f, .int .i64 d, .int .i64 s, .bool r, .int .i64 x, .int .u32 m] 4).run Tryd.prog w = .ok (.bool r) w := by kernel_rfl
theorem part5 (o f d s : Int) (r : Bool) (x m : Int) (w : World) : (part 3 #[.int .i64 o, .int .i64 f, .int .i64 d, .int .i64 s, .bool r, .int .i64 x, .int .u32 m] 5).run Tryd.prog w = .ok (.int .i64 x) w := by kernel_rfl
theorem part6 (o f d s : Int) (r : Bool) (x m : Int) (w : World) : (part 44 #[.int .i64 o, .int .i64 f, .int .i64 d, .int .i64 s, .bool r, .int .i64 x, .int .u32 m] 6).run Tryd.prog w = .ok (.int .u32 m) w := by kernel_rfl
theorem eqI3 (a b : Int) (w : World) : (Op.equalIn 9999 3 (.int .i64 a) (.int .i64 b)).run Tryd.prog w = .ok (a == b) w := run_equalIn_int w 9998 3 _ _ a b Tryd.underlying3
theorem eqI22 (a b : Int) (w : World) : (Op.equalIn 9999 44 (.int .u32 a) (.int .u32 b)).run Tryd.prog w = .ok (a == b) w := run_equalIn_int w 9998 44 _ _ a b Tryd.underlying44
theorem eqB4 (a b : Bool) (w : World) : (Op.equalIn 9999 4 (.bool a) (.bool b)).run Tryd.prog w = .ok (a == b) w := run_equalIn_bool' w 9998 4 a b Tryd.underlying4
theorem equal_inst (o f d s : Int) (r : Bool) (x m o' f' d' s' : Int) (r' : Bool) (x' m' : Int) (w : World) :
    (Op.equalIn 10000 46 (instV o f d s r x m) (instV o' f' d' s' r' x' m')).run Tryd.prog w = .ok (instEq o f d s r x m o' f' d' s' r' x' m') w := by
  rw [run_equalIn_agg w 9999 46 _ _ (by kernel_rfl) (by kernel_rfl), fields24]
  simp only [Op.eqFields, instEq]
  rcases h0 : (o == o') <;> rcases h1 : (f == f') <;> rcases h2 : (d == d') <;> rcases h3 : (s == s') <;> rcases h4 : (r == r') <;> rcases h5 : (x == x') <;> rcases h6 : (m == m') <;>
    simp [part0, part1, part2, part3, part4, part5, part6, eqI3, eqI22, eqB4, h0, h1, h2, h3, h4, h5, h6]
theorem eql_inst (o f d s : Int) (r : Bool) (x m o' f' d' s' : Int) (r' : Bool) (x' m' : Int) (w : World) :
    (binOp .eql 46 (instV o f d s r x m) (instV o' f' d' s' r' x' m')).run Tryd.prog w = .ok (.bool (instEq o f d s r x m o' f' d' s' r' x' m')) w := by
  rw [run_eql_struct, equal_inst]
  rfl
theorem neq_inst (o f d s : Int) (r : Bool) (x m o' f' d' s' : Int) (r' : Bool) (x' m' : Int) (w : World) :
    (binOp .neq 46 (instV o f d s r x m) (instV o' f' d' s' r' x' m')).run Tryd.prog w = .ok (.bool (!instEq o f d s r x m o' f' d' s' r' x' m')) w := by
  rw [run_neq_struct, equal_inst]
  rfl
theorem guard24 : Tryd.prog.eqGuardType Tryd.prog.depth 46 = false := by kernel_rfl
theorem instEq_self (o f d s : Int) (r : Bool) (x m : Int) : instEq o f d s r x m o f d s r x m = true := by simp [instEq]
theorem instEq_iff {o f d s : Int} {r : Bool} {x m o' f' d' s' : Int} {r' : Bool} {x' m' : Int} :
    instEq o f d s r x m o' f' d' s' r' x' m' = true ↔ o = o' ∧ f = f' ∧ d = d' ∧ s = s' ∧ r = r' ∧ x = x' ∧ m = m' := by simp [instEq]
end Go.Proofs.YtlbhmopmfddhjaaDoor
