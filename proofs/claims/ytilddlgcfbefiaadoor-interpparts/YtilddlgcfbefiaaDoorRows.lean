/-
  NARROWER THAN 'FOR EVERY INPUT', by the rows' own cells (each row's printed sentence says how): InterpFuel: laid · InterpKeeps: laid · InterpEnds: laid · InterpParts: laid · InterpSame: laid · CourseBudget: laid.
  DERIVED. THE GIVEN ROWS OF THIS SEAT. 6 by the template 'for every input the law returns true; each argument reads behind the call as it read before'; 0 by the template 'total and deterministic' (their statements: YtilddlgcfbefiaaDoorTotals.lean).
  GIVEN WITH THE SEED: the statements are not yours to turn. If you find one false, say at which input.
  Laid BY PROGRAM, IN A SANDBOX (cutbox-rows.mjs): the forced cells as the released guide's own fill.sh prints them over the translation a71a469e905ecdc6… (all of the seat's roots in one cut). By AI agents, Wed Nov 11 2026. No macro, syntax, notation, axiom, sorry.
-/
import Derived.Test.YtilddlgcfbefiaaDoorChecked
import GoSem.Claim
import GoSem.ClaimJoined
import GoSem.ClaimMapViews
import Derived.JoinedTies
import Derived.KernelRfl
namespace Go.Proofs.YtilddlgcfbefiaaDoor
/- THE CELL 'sum', in the pinned program and in every row, IS THE sha256 OF THE DUMP (.gsa) THAT YtilddlgcfbefiaaDoorProg.lean LOADS. Nothing in Lean hashes anything: it is a label: what it is worth is what the hold of that sum in a sandbox is worth. -/
noncomputable def Tryd.pinned : Pinned := { name := "ytilddlgcfbefiaadoor", sum := "a71a469e905ecdc6b54c3bad47c2394901b8f517bc9922160e6168745c727f16", checked := Tryd.checked }
namespace Rows
def none {H : Type} : Left H := { results := [], args := [] }

/- WHAT THE LISTED PACKAGE-LEVEL VARIABLES READ AS WHEN THE CALL BEGINS. Each datum BY PROGRAM (the guide's laid-datum.mjs) off the statement by which the dump's own 'gosem.cut.vars' lays the variable. In a bare row this is a premise. The card (YtilddlgcfbefiaaDoorCards.lean) ties it to the program's text. -/
def laid_drydock_inst_rows {H : Type} : DataW H := .agg [.agg [.lit (.int .i64 0), .lit (.int .i64 0), .lit (.int .i64 10), .lit (.int .i64 7), .lit (.bool true), .lit (.int .i64 0), .lit (.int .u32 4294967295)], .agg [.lit (.int .i64 1), .lit (.int .i64 0), .lit (.int .i64 0), .lit (.int .i64 0), .lit (.bool false), .lit (.int .i64 65535), .lit (.int .u32 0)], .agg [.lit (.int .i64 1), .lit (.int .i64 1), .lit (.int .i64 4), .lit (.int .i64 7), .lit (.bool true), .lit (.int .i64 65535), .lit (.int .u32 4294967295)], .agg [.lit (.int .i64 2), .lit (.int .i64 0), .lit (.int .i64 0), .lit (.int .i64 7), .lit (.bool true), .lit (.int .i64 0), .lit (.int .u32 4294967295)], .agg [.lit (.int .i64 3), .lit (.int .i64 0), .lit (.int .i64 0), .lit (.int .i64 7), .lit (.bool true), .lit (.int .i64 0), .lit (.int .u32 4294967295)], .agg [.lit (.int .i64 4), .lit (.int .i64 0), .lit (.int .i64 0), .lit (.int .i64 7), .lit (.bool true), .lit (.int .i64 0), .lit (.int .u32 4294967295)], .agg [.lit (.int .i64 5), .lit (.int .i64 0), .lit (.int .i64 0), .lit (.int .i64 0), .lit (.bool false), .lit (.int .i64 0), .lit (.int .u32 4294967295)], .agg [.lit (.int .i64 6), .lit (.int .i64 0), .lit (.int .i64 0), .lit (.int .i64 0), .lit (.bool false), .lit (.int .i64 0), .lit (.int .u32 4294967295)], .agg [.lit (.int .i64 7), .lit (.int .i64 0), .lit (.int .i64 0), .lit (.int .i64 0), .lit (.bool false), .lit (.int .i64 0), .lit (.int .u32 0)]]

/-- 'drydocklaw07.InterpFuel': WHATEVER THE INPUT: true; the input reads as it did. -/
def interpFuelSpec : ChangeSpec := { name := "interpFuel", fn := fun _ => fun
  | [d1, d2, d3, d4] => { results := [.lit (.bool true)], args := [d1, d2, d3, d4] }
  | _ => none }
def interpFuelRow : OpenClaim := { program := "ytilddlgcfbefiaadoor", sum := "a71a469e905ecdc6b54c3bad47c2394901b8f517bc9922160e6168745c727f16", func := "drydock/drydocklaw07.InterpFuel", spec := "interpFuel", unfollowed := true, recurses := true, named := ["drydock/inst.rows"], apart := false, laid := [("drydock/inst.rows", laid_drydock_inst_rows)] }
def InterpFuelSaid : Prop := interpFuelRow.holds Tryd.pinned (OpenSpec.ofChange interpFuelSpec)

/-- ITS FALSE NEIGHBOUR: 'it returns false'. Refute it at one input. -/
def interpFuelWrong : ChangeSpec := { name := "interpFuel", fn := fun _ => fun
  | [d1, d2, d3, d4] => { results := [.lit (.bool false)], args := [d1, d2, d3, d4] }
  | _ => none }
def InterpFuelWrongFalsely : Prop := interpFuelRow.holds Tryd.pinned (OpenSpec.ofChange interpFuelWrong)

/-- 'drydocklaw07.InterpKeeps': WHATEVER THE INPUT: true; the input reads as it did. -/
def interpKeepsSpec : ChangeSpec := { name := "interpKeeps", fn := fun _ => fun
  | [d1, d2, d3] => { results := [.lit (.bool true)], args := [d1, d2, d3] }
  | _ => none }
def interpKeepsRow : OpenClaim := { program := "ytilddlgcfbefiaadoor", sum := "a71a469e905ecdc6b54c3bad47c2394901b8f517bc9922160e6168745c727f16", func := "drydock/drydocklaw07.InterpKeeps", spec := "interpKeeps", unfollowed := true, recurses := true, named := ["drydock/inst.rows"], apart := false, laid := [("drydock/inst.rows", laid_drydock_inst_rows)] }
def InterpKeepsSaid : Prop := interpKeepsRow.holds Tryd.pinned (OpenSpec.ofChange interpKeepsSpec)

/-- ITS FALSE NEIGHBOUR: 'it returns false'. Refute it at one input. -/
def interpKeepsWrong : ChangeSpec := { name := "interpKeeps", fn := fun _ => fun
  | [d1, d2, d3] => { results := [.lit (.bool false)], args := [d1, d2, d3] }
  | _ => none }
def InterpKeepsWrongFalsely : Prop := interpKeepsRow.holds Tryd.pinned (OpenSpec.ofChange interpKeepsWrong)

/-- 'drydocklaw07.InterpEnds': WHATEVER THE INPUT: true; the input reads as it did. -/
def interpEndsSpec : ChangeSpec := { name := "interpEnds", fn := fun _ => fun
  | [d1, d2] => { results := [.lit (.bool true)], args := [d1, d2] }
  | _ => none }
def interpEndsRow : OpenClaim := { program := "ytilddlgcfbefiaadoor", sum := "a71a469e905ecdc6b54c3bad47c2394901b8f517bc9922160e6168745c727f16", func := "drydock/drydocklaw07.InterpEnds", spec := "interpEnds", unfollowed := true, recurses := true, named := ["drydock/inst.rows"], apart := false, laid := [("drydock/inst.rows", laid_drydock_inst_rows)] }
def InterpEndsSaid : Prop := interpEndsRow.holds Tryd.pinned (OpenSpec.ofChange interpEndsSpec)

/-- ITS FALSE NEIGHBOUR: 'it returns false'. Refute it at one input. -/
def interpEndsWrong : ChangeSpec := { name := "interpEnds", fn := fun _ => fun
  | [d1, d2] => { results := [.lit (.bool false)], args := [d1, d2] }
  | _ => none }
def InterpEndsWrongFalsely : Prop := interpEndsRow.holds Tryd.pinned (OpenSpec.ofChange interpEndsWrong)

/-- 'drydocklaw07.InterpParts': WHATEVER THE INPUT: true; the input reads as it did. -/
def interpPartsSpec : ChangeSpec := { name := "interpParts", fn := fun _ => fun
  | [d1, d2, d3, d4] => { results := [.lit (.bool true)], args := [d1, d2, d3, d4] }
  | _ => none }
def interpPartsRow : OpenClaim := { program := "ytilddlgcfbefiaadoor", sum := "a71a469e905ecdc6b54c3bad47c2394901b8f517bc9922160e6168745c727f16", func := "drydock/drydocklaw07.InterpParts", spec := "interpParts", unfollowed := true, recurses := true, named := ["drydock/inst.rows"], apart := false, laid := [("drydock/inst.rows", laid_drydock_inst_rows)] }
def InterpPartsSaid : Prop := interpPartsRow.holds Tryd.pinned (OpenSpec.ofChange interpPartsSpec)

/-- ITS FALSE NEIGHBOUR: 'it returns false'. Refute it at one input. -/
def interpPartsWrong : ChangeSpec := { name := "interpParts", fn := fun _ => fun
  | [d1, d2, d3, d4] => { results := [.lit (.bool false)], args := [d1, d2, d3, d4] }
  | _ => none }
def InterpPartsWrongFalsely : Prop := interpPartsRow.holds Tryd.pinned (OpenSpec.ofChange interpPartsWrong)

/-- 'drydocklaw07.InterpSame': WHATEVER THE INPUT: true; the input reads as it did. -/
def interpSameSpec : ChangeSpec := { name := "interpSame", fn := fun _ => fun
  | [d1, d2, d3] => { results := [.lit (.bool true)], args := [d1, d2, d3] }
  | _ => none }
def interpSameRow : OpenClaim := { program := "ytilddlgcfbefiaadoor", sum := "a71a469e905ecdc6b54c3bad47c2394901b8f517bc9922160e6168745c727f16", func := "drydock/drydocklaw07.InterpSame", spec := "interpSame", unfollowed := true, recurses := true, named := ["drydock/inst.rows"], apart := false, laid := [("drydock/inst.rows", laid_drydock_inst_rows)] }
def InterpSameSaid : Prop := interpSameRow.holds Tryd.pinned (OpenSpec.ofChange interpSameSpec)

/-- ITS FALSE NEIGHBOUR: 'it returns false'. Refute it at one input. -/
def interpSameWrong : ChangeSpec := { name := "interpSame", fn := fun _ => fun
  | [d1, d2, d3] => { results := [.lit (.bool false)], args := [d1, d2, d3] }
  | _ => none }
def InterpSameWrongFalsely : Prop := interpSameRow.holds Tryd.pinned (OpenSpec.ofChange interpSameWrong)

/-- 'drydocklaw08.CourseBudget': WHATEVER THE INPUT: true; the input reads as it did. -/
def courseBudgetSpec : ChangeSpec := { name := "courseBudget", fn := fun _ => fun
  | [d1, d2] => { results := [.lit (.bool true)], args := [d1, d2] }
  | _ => none }
def courseBudgetRow : OpenClaim := { program := "ytilddlgcfbefiaadoor", sum := "a71a469e905ecdc6b54c3bad47c2394901b8f517bc9922160e6168745c727f16", func := "drydock/drydocklaw08.CourseBudget", spec := "courseBudget", unfollowed := true, recurses := true, named := ["drydock/inst.rows"], apart := false, laid := [("drydock/inst.rows", laid_drydock_inst_rows)] }
def CourseBudgetSaid : Prop := courseBudgetRow.holds Tryd.pinned (OpenSpec.ofChange courseBudgetSpec)

/-- ITS FALSE NEIGHBOUR: 'it returns false'. Refute it at one input. -/
def courseBudgetWrong : ChangeSpec := { name := "courseBudget", fn := fun _ => fun
  | [d1, d2] => { results := [.lit (.bool false)], args := [d1, d2] }
  | _ => none }
def CourseBudgetWrongFalsely : Prop := courseBudgetRow.holds Tryd.pinned (OpenSpec.ofChange courseBudgetWrong)

/- THE SECOND FORM. 'bulk': how many values and letters a reading holds, each counted each time it is reached (what is shared counts as often as it is met; a slice's spare places count too). A statement '..UptoSaid' is the law's where the arguments, and the package variables that the reading takes, are together of bulk at most 1048576: NARROWER than '..Said'. Prove '..Said' where nothing that the law and all that it calls make is longer than what came in: it says more and counts as full. Else prove '..UptoSaid'. A law counts once. -/
mutual
def uptoBulk {H : Type} : DataW H → Nat
  | .lit (.string bytes) => bytes.length + 1
  | .lit _ => 1
  | .nil => 1
  | .ptr d => uptoBulk d + 1
  | .slice elems spare => uptoBulkAll elems + uptoBulkAll spare + 1
  | .agg parts => uptoBulkAll parts + 1
  | .iface _ d => uptoBulk d + 1
  | .map entries => uptoBulkEntries entries + 1
  | .held _ => 1
def uptoBulkAll {H : Type} : List (DataW H) → Nat
  | [] => 0
  | d :: r => uptoBulk d + uptoBulkAll r
def uptoBulkEntries {H : Type} : List (Lit × DataW H) → Nat
  | [] => 0
  | x :: r => uptoBulkEntry x + uptoBulkEntries r
def uptoBulkEntry {H : Type} : Lit × DataW H → Nat
  | (.string bytes, d) => bytes.length + uptoBulk d + 1
  | (_, d) => uptoBulk d + 1
 end
def uptoSmall : (H : Type) → List (DataW H) → Bool := fun _ ds => decide (uptoBulkAll ds ≤ 1048576)
def OpenSpec.upto (s : _root_.Go.ChangeSpec) : _root_.Go.OpenSpec := { _root_.Go.OpenSpec.ofChange s with cond := some uptoSmall }

/-- 'drydocklaw07.InterpFuel', WHERE WHAT IT READS IS OF BULK AT MOST 1048576: true; the input reads as it did. -/
def interpFuelUptoRow : OpenClaim := { program := "ytilddlgcfbefiaadoor", sum := "a71a469e905ecdc6b54c3bad47c2394901b8f517bc9922160e6168745c727f16", func := "drydock/drydocklaw07.InterpFuel", spec := "interpFuel", unfollowed := true, recurses := true, named := ["drydock/inst.rows"], apart := false, laid := [("drydock/inst.rows", laid_drydock_inst_rows)], narrowed := true }
def InterpFuelUptoSaid : Prop := interpFuelUptoRow.holds Tryd.pinned (OpenSpec.upto interpFuelSpec)

/-- 'drydocklaw07.InterpKeeps', WHERE WHAT IT READS IS OF BULK AT MOST 1048576: true; the input reads as it did. -/
def interpKeepsUptoRow : OpenClaim := { program := "ytilddlgcfbefiaadoor", sum := "a71a469e905ecdc6b54c3bad47c2394901b8f517bc9922160e6168745c727f16", func := "drydock/drydocklaw07.InterpKeeps", spec := "interpKeeps", unfollowed := true, recurses := true, named := ["drydock/inst.rows"], apart := false, laid := [("drydock/inst.rows", laid_drydock_inst_rows)], narrowed := true }
def InterpKeepsUptoSaid : Prop := interpKeepsUptoRow.holds Tryd.pinned (OpenSpec.upto interpKeepsSpec)

/-- 'drydocklaw07.InterpEnds', WHERE WHAT IT READS IS OF BULK AT MOST 1048576: true; the input reads as it did. -/
def interpEndsUptoRow : OpenClaim := { program := "ytilddlgcfbefiaadoor", sum := "a71a469e905ecdc6b54c3bad47c2394901b8f517bc9922160e6168745c727f16", func := "drydock/drydocklaw07.InterpEnds", spec := "interpEnds", unfollowed := true, recurses := true, named := ["drydock/inst.rows"], apart := false, laid := [("drydock/inst.rows", laid_drydock_inst_rows)], narrowed := true }
def InterpEndsUptoSaid : Prop := interpEndsUptoRow.holds Tryd.pinned (OpenSpec.upto interpEndsSpec)

/-- 'drydocklaw07.InterpParts', WHERE WHAT IT READS IS OF BULK AT MOST 1048576: true; the input reads as it did. -/
def interpPartsUptoRow : OpenClaim := { program := "ytilddlgcfbefiaadoor", sum := "a71a469e905ecdc6b54c3bad47c2394901b8f517bc9922160e6168745c727f16", func := "drydock/drydocklaw07.InterpParts", spec := "interpParts", unfollowed := true, recurses := true, named := ["drydock/inst.rows"], apart := false, laid := [("drydock/inst.rows", laid_drydock_inst_rows)], narrowed := true }
def InterpPartsUptoSaid : Prop := interpPartsUptoRow.holds Tryd.pinned (OpenSpec.upto interpPartsSpec)

/-- 'drydocklaw07.InterpSame', WHERE WHAT IT READS IS OF BULK AT MOST 1048576: true; the input reads as it did. -/
def interpSameUptoRow : OpenClaim := { program := "ytilddlgcfbefiaadoor", sum := "a71a469e905ecdc6b54c3bad47c2394901b8f517bc9922160e6168745c727f16", func := "drydock/drydocklaw07.InterpSame", spec := "interpSame", unfollowed := true, recurses := true, named := ["drydock/inst.rows"], apart := false, laid := [("drydock/inst.rows", laid_drydock_inst_rows)], narrowed := true }
def InterpSameUptoSaid : Prop := interpSameUptoRow.holds Tryd.pinned (OpenSpec.upto interpSameSpec)

/-- 'drydocklaw08.CourseBudget', WHERE WHAT IT READS IS OF BULK AT MOST 1048576: true; the input reads as it did. -/
def courseBudgetUptoRow : OpenClaim := { program := "ytilddlgcfbefiaadoor", sum := "a71a469e905ecdc6b54c3bad47c2394901b8f517bc9922160e6168745c727f16", func := "drydock/drydocklaw08.CourseBudget", spec := "courseBudget", unfollowed := true, recurses := true, named := ["drydock/inst.rows"], apart := false, laid := [("drydock/inst.rows", laid_drydock_inst_rows)], narrowed := true }
def CourseBudgetUptoSaid : Prop := courseBudgetUptoRow.holds Tryd.pinned (OpenSpec.upto courseBudgetSpec)

end Rows
end Go.Proofs.YtilddlgcfbefiaaDoor
