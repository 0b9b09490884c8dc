/-
  NARROWER THAN 'FOR EVERY INPUT', by the rows' own cells (each row's printed sentence says how): CourseTells: laid · CourseForward: laid · CourseBudget: laid · CourseCosts: laid · CourseTail: laid · CourseFine: laid.
  DERIVED. THE GIVEN ROWS OF THIS SEAT. 6 by the template 'for every input the law returns true; each argument reads behind the call as it read before'; 0 by the template 'total and deterministic' (their statements: YtdgfklmbglfbfaaDoorTotals.lean).
  GIVEN WITH THE SEED: the statements are not yours to turn. If you find one false, say at which input.
  Laid BY PROGRAM, IN A SANDBOX (cutbox-rows.mjs): the forced cells as the released guide's own fill.sh prints them over the translation 85acf4489058180a… (all of the seat's roots in one cut). By AI agents, Wed Nov 11 2026. No macro, syntax, notation, axiom, sorry.
-/
import Derived.Test.YtdgfklmbglfbfaaDoorChecked
import GoSem.Claim
import GoSem.ClaimJoined
import GoSem.ClaimMapViews
import Derived.JoinedTies
import Derived.KernelRfl
namespace Go.Proofs.YtdgfklmbglfbfaaDoor
/- THE CELL 'sum', in the pinned program and in every row, IS THE sha256 OF THE DUMP (.gsa) THAT YtdgfklmbglfbfaaDoorProg.lean LOADS. Nothing in Lean hashes anything: it is a label: what it is worth is what the hold of that sum in a sandbox is worth. -/
noncomputable def Tryd.pinned : Pinned := { name := "ytdgfklmbglfbfaadoor", sum := "85acf4489058180a4a34b0d43a8ab5f02cb9461b06dd6d87c5de54d729939ab2", checked := Tryd.checked }
namespace Rows
def none {H : Type} : Left H := { results := [], args := [] }

/- WHAT THE LISTED PACKAGE-LEVEL VARIABLES READ AS WHEN THE CALL BEGINS. Each datum BY PROGRAM (the guide's laid-datum.mjs) off the statement by which the dump's own 'gosem.cut.vars' lays the variable. In a bare row this is a premise. The card (YtdgfklmbglfbfaaDoorCards.lean) ties it to the program's text. -/
def laid_drydock_inst_rows {H : Type} : DataW H := .agg [.agg [.lit (.int .i64 0), .lit (.int .i64 0), .lit (.int .i64 10), .lit (.int .i64 7), .lit (.bool true), .lit (.int .i64 0), .lit (.int .u32 4294967295)], .agg [.lit (.int .i64 1), .lit (.int .i64 0), .lit (.int .i64 0), .lit (.int .i64 0), .lit (.bool false), .lit (.int .i64 65535), .lit (.int .u32 0)], .agg [.lit (.int .i64 1), .lit (.int .i64 1), .lit (.int .i64 4), .lit (.int .i64 7), .lit (.bool true), .lit (.int .i64 65535), .lit (.int .u32 4294967295)], .agg [.lit (.int .i64 2), .lit (.int .i64 0), .lit (.int .i64 0), .lit (.int .i64 7), .lit (.bool true), .lit (.int .i64 0), .lit (.int .u32 4294967295)], .agg [.lit (.int .i64 3), .lit (.int .i64 0), .lit (.int .i64 0), .lit (.int .i64 7), .lit (.bool true), .lit (.int .i64 0), .lit (.int .u32 4294967295)], .agg [.lit (.int .i64 4), .lit (.int .i64 0), .lit (.int .i64 0), .lit (.int .i64 7), .lit (.bool true), .lit (.int .i64 0), .lit (.int .u32 4294967295)], .agg [.lit (.int .i64 5), .lit (.int .i64 0), .lit (.int .i64 0), .lit (.int .i64 0), .lit (.bool false), .lit (.int .i64 0), .lit (.int .u32 4294967295)], .agg [.lit (.int .i64 6), .lit (.int .i64 0), .lit (.int .i64 0), .lit (.int .i64 0), .lit (.bool false), .lit (.int .i64 0), .lit (.int .u32 4294967295)], .agg [.lit (.int .i64 7), .lit (.int .i64 0), .lit (.int .i64 0), .lit (.int .i64 0), .lit (.bool false), .lit (.int .i64 0), .lit (.int .u32 0)]]

/-- 'drydocklaw08.CourseTells': WHATEVER THE INPUT: true; the input reads as it did. -/
def courseTellsSpec : ChangeSpec := { name := "courseTells", fn := fun _ => fun
  | [d1, d2, d3, d4] => { results := [.lit (.bool true)], args := [d1, d2, d3, d4] }
  | _ => none }
def courseTellsRow : OpenClaim := { program := "ytdgfklmbglfbfaadoor", sum := "85acf4489058180a4a34b0d43a8ab5f02cb9461b06dd6d87c5de54d729939ab2", func := "drydock/drydocklaw08.CourseTells", spec := "courseTells", unfollowed := true, recurses := true, named := ["drydock/inst.rows"], apart := false, laid := [("drydock/inst.rows", laid_drydock_inst_rows)] }
def CourseTellsSaid : Prop := courseTellsRow.holds Tryd.pinned (OpenSpec.ofChange courseTellsSpec)

/-- ITS FALSE NEIGHBOUR: 'it returns false'. Refute it at one input. -/
def courseTellsWrong : ChangeSpec := { name := "courseTells", fn := fun _ => fun
  | [d1, d2, d3, d4] => { results := [.lit (.bool false)], args := [d1, d2, d3, d4] }
  | _ => none }
def CourseTellsWrongFalsely : Prop := courseTellsRow.holds Tryd.pinned (OpenSpec.ofChange courseTellsWrong)

/-- 'drydocklaw08.CourseForward': WHATEVER THE INPUT: true; the input reads as it did. -/
def courseForwardSpec : ChangeSpec := { name := "courseForward", fn := fun _ => fun
  | [d] => { results := [.lit (.bool true)], args := [d] }
  | _ => none }
def courseForwardRow : OpenClaim := { program := "ytdgfklmbglfbfaadoor", sum := "85acf4489058180a4a34b0d43a8ab5f02cb9461b06dd6d87c5de54d729939ab2", func := "drydock/drydocklaw08.CourseForward", spec := "courseForward", unfollowed := true, recurses := true, named := ["drydock/inst.rows"], apart := false, laid := [("drydock/inst.rows", laid_drydock_inst_rows)] }
def CourseForwardSaid : Prop := courseForwardRow.holds Tryd.pinned (OpenSpec.ofChange courseForwardSpec)

/-- ITS FALSE NEIGHBOUR: 'it returns false'. Refute it at one input. -/
def courseForwardWrong : ChangeSpec := { name := "courseForward", fn := fun _ => fun
  | [d] => { results := [.lit (.bool false)], args := [d] }
  | _ => none }
def CourseForwardWrongFalsely : Prop := courseForwardRow.holds Tryd.pinned (OpenSpec.ofChange courseForwardWrong)

/-- 'drydocklaw08.CourseBudget': WHATEVER THE INPUT: true; the input reads as it did. -/
def courseBudgetSpec : ChangeSpec := { name := "courseBudget", fn := fun _ => fun
  | [d1, d2] => { results := [.lit (.bool true)], args := [d1, d2] }
  | _ => none }
def courseBudgetRow : OpenClaim := { program := "ytdgfklmbglfbfaadoor", sum := "85acf4489058180a4a34b0d43a8ab5f02cb9461b06dd6d87c5de54d729939ab2", func := "drydock/drydocklaw08.CourseBudget", spec := "courseBudget", unfollowed := true, recurses := true, named := ["drydock/inst.rows"], apart := false, laid := [("drydock/inst.rows", laid_drydock_inst_rows)] }
def CourseBudgetSaid : Prop := courseBudgetRow.holds Tryd.pinned (OpenSpec.ofChange courseBudgetSpec)

/-- ITS FALSE NEIGHBOUR: 'it returns false'. Refute it at one input. -/
def courseBudgetWrong : ChangeSpec := { name := "courseBudget", fn := fun _ => fun
  | [d1, d2] => { results := [.lit (.bool false)], args := [d1, d2] }
  | _ => none }
def CourseBudgetWrongFalsely : Prop := courseBudgetRow.holds Tryd.pinned (OpenSpec.ofChange courseBudgetWrong)

/-- 'drydocklaw08.CourseCosts': WHATEVER THE INPUT: true; the input reads as it did. -/
def courseCostsSpec : ChangeSpec := { name := "courseCosts", fn := fun _ => fun
  | [d1, d2, d3] => { results := [.lit (.bool true)], args := [d1, d2, d3] }
  | _ => none }
def courseCostsRow : OpenClaim := { program := "ytdgfklmbglfbfaadoor", sum := "85acf4489058180a4a34b0d43a8ab5f02cb9461b06dd6d87c5de54d729939ab2", func := "drydock/drydocklaw08.CourseCosts", spec := "courseCosts", unfollowed := true, recurses := true, named := ["drydock/inst.rows"], apart := false, laid := [("drydock/inst.rows", laid_drydock_inst_rows)] }
def CourseCostsSaid : Prop := courseCostsRow.holds Tryd.pinned (OpenSpec.ofChange courseCostsSpec)

/-- ITS FALSE NEIGHBOUR: 'it returns false'. Refute it at one input. -/
def courseCostsWrong : ChangeSpec := { name := "courseCosts", fn := fun _ => fun
  | [d1, d2, d3] => { results := [.lit (.bool false)], args := [d1, d2, d3] }
  | _ => none }
def CourseCostsWrongFalsely : Prop := courseCostsRow.holds Tryd.pinned (OpenSpec.ofChange courseCostsWrong)

/-- 'drydocklaw08.CourseTail': WHATEVER THE INPUT: true; the input reads as it did. -/
def courseTailSpec : ChangeSpec := { name := "courseTail", fn := fun _ => fun
  | [d1, d2] => { results := [.lit (.bool true)], args := [d1, d2] }
  | _ => none }
def courseTailRow : OpenClaim := { program := "ytdgfklmbglfbfaadoor", sum := "85acf4489058180a4a34b0d43a8ab5f02cb9461b06dd6d87c5de54d729939ab2", func := "drydock/drydocklaw08.CourseTail", spec := "courseTail", unfollowed := true, recurses := true, named := ["drydock/inst.rows"], apart := false, laid := [("drydock/inst.rows", laid_drydock_inst_rows)] }
def CourseTailSaid : Prop := courseTailRow.holds Tryd.pinned (OpenSpec.ofChange courseTailSpec)

/-- ITS FALSE NEIGHBOUR: 'it returns false'. Refute it at one input. -/
def courseTailWrong : ChangeSpec := { name := "courseTail", fn := fun _ => fun
  | [d1, d2] => { results := [.lit (.bool false)], args := [d1, d2] }
  | _ => none }
def CourseTailWrongFalsely : Prop := courseTailRow.holds Tryd.pinned (OpenSpec.ofChange courseTailWrong)

/-- 'drydocklaw08.CourseFine': WHATEVER THE INPUT: true; the input reads as it did. -/
def courseFineSpec : ChangeSpec := { name := "courseFine", fn := fun _ => fun
  | [d] => { results := [.lit (.bool true)], args := [d] }
  | _ => none }
def courseFineRow : OpenClaim := { program := "ytdgfklmbglfbfaadoor", sum := "85acf4489058180a4a34b0d43a8ab5f02cb9461b06dd6d87c5de54d729939ab2", func := "drydock/drydocklaw08.CourseFine", spec := "courseFine", unfollowed := true, recurses := true, named := ["drydock/inst.rows"], apart := false, laid := [("drydock/inst.rows", laid_drydock_inst_rows)] }
def CourseFineSaid : Prop := courseFineRow.holds Tryd.pinned (OpenSpec.ofChange courseFineSpec)

/-- ITS FALSE NEIGHBOUR: 'it returns false'. Refute it at one input. -/
def courseFineWrong : ChangeSpec := { name := "courseFine", fn := fun _ => fun
  | [d] => { results := [.lit (.bool false)], args := [d] }
  | _ => none }
def CourseFineWrongFalsely : Prop := courseFineRow.holds Tryd.pinned (OpenSpec.ofChange courseFineWrong)

/- THE SECOND FORM. 'bulk': how many values and letters a reading holds, each counted each time it is reached (what is shared counts as often as it is met; a slice's spare places count too). A statement '..UptoSaid' is the law's where the arguments, and the package variables that the reading takes, are together of bulk at most 1048576: NARROWER than '..Said'. Prove '..Said' where nothing that the law and all that it calls make is longer than what came in: it says more and counts as full. Else prove '..UptoSaid'. A law counts once. -/
mutual
def uptoBulk {H : Type} : DataW H → Nat
  | .lit (.string bytes) => bytes.length + 1
  | .lit _ => 1
  | .nil => 1
  | .ptr d => uptoBulk d + 1
  | .slice elems spare => uptoBulkAll elems + uptoBulkAll spare + 1
  | .agg parts => uptoBulkAll parts + 1
  | .iface _ d => uptoBulk d + 1
  | .map entries => uptoBulkEntries entries + 1
  | .held _ => 1
def uptoBulkAll {H : Type} : List (DataW H) → Nat
  | [] => 0
  | d :: r => uptoBulk d + uptoBulkAll r
def uptoBulkEntries {H : Type} : List (Lit × DataW H) → Nat
  | [] => 0
  | x :: r => uptoBulkEntry x + uptoBulkEntries r
def uptoBulkEntry {H : Type} : Lit × DataW H → Nat
  | (.string bytes, d) => bytes.length + uptoBulk d + 1
  | (_, d) => uptoBulk d + 1
 end
def uptoSmall : (H : Type) → List (DataW H) → Bool := fun _ ds => decide (uptoBulkAll ds ≤ 1048576)
def OpenSpec.upto (s : _root_.Go.ChangeSpec) : _root_.Go.OpenSpec := { _root_.Go.OpenSpec.ofChange s with cond := some uptoSmall }

/-- 'drydocklaw08.CourseTells', WHERE WHAT IT READS IS OF BULK AT MOST 1048576: true; the input reads as it did. -/
def courseTellsUptoRow : OpenClaim := { program := "ytdgfklmbglfbfaadoor", sum := "85acf4489058180a4a34b0d43a8ab5f02cb9461b06dd6d87c5de54d729939ab2", func := "drydock/drydocklaw08.CourseTells", spec := "courseTells", unfollowed := true, recurses := true, named := ["drydock/inst.rows"], apart := false, laid := [("drydock/inst.rows", laid_drydock_inst_rows)], narrowed := true }
def CourseTellsUptoSaid : Prop := courseTellsUptoRow.holds Tryd.pinned (OpenSpec.upto courseTellsSpec)

/-- 'drydocklaw08.CourseForward', WHERE WHAT IT READS IS OF BULK AT MOST 1048576: true; the input reads as it did. -/
def courseForwardUptoRow : OpenClaim := { program := "ytdgfklmbglfbfaadoor", sum := "85acf4489058180a4a34b0d43a8ab5f02cb9461b06dd6d87c5de54d729939ab2", func := "drydock/drydocklaw08.CourseForward", spec := "courseForward", unfollowed := true, recurses := true, named := ["drydock/inst.rows"], apart := false, laid := [("drydock/inst.rows", laid_drydock_inst_rows)], narrowed := true }
def CourseForwardUptoSaid : Prop := courseForwardUptoRow.holds Tryd.pinned (OpenSpec.upto courseForwardSpec)

/-- 'drydocklaw08.CourseBudget', WHERE WHAT IT READS IS OF BULK AT MOST 1048576: true; the input reads as it did. -/
def courseBudgetUptoRow : OpenClaim := { program := "ytdgfklmbglfbfaadoor", sum := "85acf4489058180a4a34b0d43a8ab5f02cb9461b06dd6d87c5de54d729939ab2", func := "drydock/drydocklaw08.CourseBudget", spec := "courseBudget", unfollowed := true, recurses := true, named := ["drydock/inst.rows"], apart := false, laid := [("drydock/inst.rows", laid_drydock_inst_rows)], narrowed := true }
def CourseBudgetUptoSaid : Prop := courseBudgetUptoRow.holds Tryd.pinned (OpenSpec.upto courseBudgetSpec)

/-- 'drydocklaw08.CourseCosts', WHERE WHAT IT READS IS OF BULK AT MOST 1048576: true; the input reads as it did. -/
def courseCostsUptoRow : OpenClaim := { program := "ytdgfklmbglfbfaadoor", sum := "85acf4489058180a4a34b0d43a8ab5f02cb9461b06dd6d87c5de54d729939ab2", func := "drydock/drydocklaw08.CourseCosts", spec := "courseCosts", unfollowed := true, recurses := true, named := ["drydock/inst.rows"], apart := false, laid := [("drydock/inst.rows", laid_drydock_inst_rows)], narrowed := true }
def CourseCostsUptoSaid : Prop := courseCostsUptoRow.holds Tryd.pinned (OpenSpec.upto courseCostsSpec)

/-- 'drydocklaw08.CourseTail', WHERE WHAT IT READS IS OF BULK AT MOST 1048576: true; the input reads as it did. -/
def courseTailUptoRow : OpenClaim := { program := "ytdgfklmbglfbfaadoor", sum := "85acf4489058180a4a34b0d43a8ab5f02cb9461b06dd6d87c5de54d729939ab2", func := "drydock/drydocklaw08.CourseTail", spec := "courseTail", unfollowed := true, recurses := true, named := ["drydock/inst.rows"], apart := false, laid := [("drydock/inst.rows", laid_drydock_inst_rows)], narrowed := true }
def CourseTailUptoSaid : Prop := courseTailUptoRow.holds Tryd.pinned (OpenSpec.upto courseTailSpec)

/-- 'drydocklaw08.CourseFine', WHERE WHAT IT READS IS OF BULK AT MOST 1048576: true; the input reads as it did. -/
def courseFineUptoRow : OpenClaim := { program := "ytdgfklmbglfbfaadoor", sum := "85acf4489058180a4a34b0d43a8ab5f02cb9461b06dd6d87c5de54d729939ab2", func := "drydock/drydocklaw08.CourseFine", spec := "courseFine", unfollowed := true, recurses := true, named := ["drydock/inst.rows"], apart := false, laid := [("drydock/inst.rows", laid_drydock_inst_rows)], narrowed := true }
def CourseFineUptoSaid : Prop := courseFineUptoRow.holds Tryd.pinned (OpenSpec.upto courseFineSpec)

end Rows
end Go.Proofs.YtdgfklmbglfbfaaDoor
