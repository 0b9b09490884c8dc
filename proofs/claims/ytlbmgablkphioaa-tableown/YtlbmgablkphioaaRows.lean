/-
  No cell of these rows narrows 'for every input' (looked for: loops, veiled, ifaces, maps, wideKeys, modest, calm, conditions, laid).
  DERIVED. THE GIVEN ROWS OF THIS SEAT. 9 by the template 'for every input the law returns true; each argument reads behind the call as it read before'; 0 by the template 'total and deterministic' (their statements: YtlbmgablkphioaaTotals.lean).
  GIVEN WITH THE SEED: the statements are not yours to turn. If you find one false, say at which input.
  Laid BY PROGRAM, IN A SANDBOX (cutbox-rows.mjs): the forced cells as the released guide's own fill.sh prints them over the translation 83f7de23153169f0… (all of the seat's roots in one cut). By AI agents, Wed Nov 11 2026. No macro, syntax, notation, axiom, sorry.
-/
import Derived.Test.YtlbmgablkphioaaChecked
import GoSem.Claim
import GoSem.ClaimJoined
import GoSem.ClaimMapViews
import Derived.JoinedTies
import Derived.KernelRfl
namespace Go.Proofs.Ytlbmgablkphioaa
/- THE CELL 'sum', in the pinned program and in every row, IS THE sha256 OF THE DUMP (.gsa) THAT YtlbmgablkphioaaProg.lean LOADS. Nothing in Lean hashes anything: it is a label: what it is worth is what the hold of that sum in a sandbox is worth. -/
noncomputable def Try.pinned : Pinned := { name := "ytlbmgablkphioaa", sum := "83f7de23153169f04abac1544bfd5568f3f583921cb6a399d7e97609fceed742", checked := Try.checked }
namespace Rows
def none {H : Type} : Left H := { results := [], args := [] }

/-- 'drydocklaw05.TableTells': WHATEVER THE INPUT: true; the input reads as it did. -/
def tableTellsSpec : ChangeSpec := { name := "tableTells", fn := fun _ => fun
  | [d1, d2, d3, d4] => { results := [.lit (.bool true)], args := [d1, d2, d3, d4] }
  | _ => none }
def tableTellsRow : OpenClaim := { program := "ytlbmgablkphioaa", sum := "83f7de23153169f04abac1544bfd5568f3f583921cb6a399d7e97609fceed742", func := "drydock/drydocklaw05.TableTells", spec := "tableTells", unfollowed := true, recurses := true, apart := false }
def TableTellsSaid : Prop := tableTellsRow.holds Try.pinned (OpenSpec.ofChange tableTellsSpec)

/-- ITS FALSE NEIGHBOUR: 'it returns false'. Refute it at one input. -/
def tableTellsWrong : ChangeSpec := { name := "tableTells", fn := fun _ => fun
  | [d1, d2, d3, d4] => { results := [.lit (.bool false)], args := [d1, d2, d3, d4] }
  | _ => none }
def TableTellsWrongFalsely : Prop := tableTellsRow.holds Try.pinned (OpenSpec.ofChange tableTellsWrong)

/-- 'drydocklaw05.TableBack': WHATEVER THE INPUT: true; the input reads as it did. -/
def tableBackSpec : ChangeSpec := { name := "tableBack", fn := fun _ => fun
  | [d1, d2, d3, d4, d5, d6] => { results := [.lit (.bool true)], args := [d1, d2, d3, d4, d5, d6] }
  | _ => none }
def tableBackRow : OpenClaim := { program := "ytlbmgablkphioaa", sum := "83f7de23153169f04abac1544bfd5568f3f583921cb6a399d7e97609fceed742", func := "drydock/drydocklaw05.TableBack", spec := "tableBack", apart := false }
def TableBackSaid : Prop := tableBackRow.holds Try.pinned (OpenSpec.ofChange tableBackSpec)

/-- ITS FALSE NEIGHBOUR: 'it returns false'. Refute it at one input. -/
def tableBackWrong : ChangeSpec := { name := "tableBack", fn := fun _ => fun
  | [d1, d2, d3, d4, d5, d6] => { results := [.lit (.bool false)], args := [d1, d2, d3, d4, d5, d6] }
  | _ => none }
def TableBackWrongFalsely : Prop := tableBackRow.holds Try.pinned (OpenSpec.ofChange tableBackWrong)

/-- 'drydocklaw05.TableDel': WHATEVER THE INPUT: true; the input reads as it did. -/
def tableDelSpec : ChangeSpec := { name := "tableDel", fn := fun _ => fun
  | [d1, d2, d3] => { results := [.lit (.bool true)], args := [d1, d2, d3] }
  | _ => none }
def tableDelRow : OpenClaim := { program := "ytlbmgablkphioaa", sum := "83f7de23153169f04abac1544bfd5568f3f583921cb6a399d7e97609fceed742", func := "drydock/drydocklaw05.TableDel", spec := "tableDel", unfollowed := true, recurses := true, apart := false }
def TableDelSaid : Prop := tableDelRow.holds Try.pinned (OpenSpec.ofChange tableDelSpec)

/-- ITS FALSE NEIGHBOUR: 'it returns false'. Refute it at one input. -/
def tableDelWrong : ChangeSpec := { name := "tableDel", fn := fun _ => fun
  | [d1, d2, d3] => { results := [.lit (.bool false)], args := [d1, d2, d3] }
  | _ => none }
def TableDelWrongFalsely : Prop := tableDelRow.holds Try.pinned (OpenSpec.ofChange tableDelWrong)

/-- 'drydocklaw05.TableRing': WHATEVER THE INPUT: true; the input reads as it did. -/
def tableRingSpec : ChangeSpec := { name := "tableRing", fn := fun _ => fun
  | [d1, d2] => { results := [.lit (.bool true)], args := [d1, d2] }
  | _ => none }
def tableRingRow : OpenClaim := { program := "ytlbmgablkphioaa", sum := "83f7de23153169f04abac1544bfd5568f3f583921cb6a399d7e97609fceed742", func := "drydock/drydocklaw05.TableRing", spec := "tableRing", apart := false }
def TableRingSaid : Prop := tableRingRow.holds Try.pinned (OpenSpec.ofChange tableRingSpec)

/-- ITS FALSE NEIGHBOUR: 'it returns false'. Refute it at one input. -/
def tableRingWrong : ChangeSpec := { name := "tableRing", fn := fun _ => fun
  | [d1, d2] => { results := [.lit (.bool false)], args := [d1, d2] }
  | _ => none }
def TableRingWrongFalsely : Prop := tableRingRow.holds Try.pinned (OpenSpec.ofChange tableRingWrong)

/-- 'drydocklaw05.TableLru': WHATEVER THE INPUT: true; the input reads as it did. -/
def tableLruSpec : ChangeSpec := { name := "tableLru", fn := fun _ => fun
  | [d1, d2] => { results := [.lit (.bool true)], args := [d1, d2] }
  | _ => none }
def tableLruRow : OpenClaim := { program := "ytlbmgablkphioaa", sum := "83f7de23153169f04abac1544bfd5568f3f583921cb6a399d7e97609fceed742", func := "drydock/drydocklaw05.TableLru", spec := "tableLru", apart := false }
def TableLruSaid : Prop := tableLruRow.holds Try.pinned (OpenSpec.ofChange tableLruSpec)

/-- ITS FALSE NEIGHBOUR: 'it returns false'. Refute it at one input. -/
def tableLruWrong : ChangeSpec := { name := "tableLru", fn := fun _ => fun
  | [d1, d2] => { results := [.lit (.bool false)], args := [d1, d2] }
  | _ => none }
def TableLruWrongFalsely : Prop := tableLruRow.holds Try.pinned (OpenSpec.ofChange tableLruWrong)

/-- 'drydocklaw05.TableGets': WHATEVER THE INPUT: true; the input reads as it did. -/
def tableGetsSpec : ChangeSpec := { name := "tableGets", fn := fun _ => fun
  | [d1, d2, d3] => { results := [.lit (.bool true)], args := [d1, d2, d3] }
  | _ => none }
def tableGetsRow : OpenClaim := { program := "ytlbmgablkphioaa", sum := "83f7de23153169f04abac1544bfd5568f3f583921cb6a399d7e97609fceed742", func := "drydock/drydocklaw05.TableGets", spec := "tableGets", apart := false }
def TableGetsSaid : Prop := tableGetsRow.holds Try.pinned (OpenSpec.ofChange tableGetsSpec)

/-- ITS FALSE NEIGHBOUR: 'it returns false'. Refute it at one input. -/
def tableGetsWrong : ChangeSpec := { name := "tableGets", fn := fun _ => fun
  | [d1, d2, d3] => { results := [.lit (.bool false)], args := [d1, d2, d3] }
  | _ => none }
def TableGetsWrongFalsely : Prop := tableGetsRow.holds Try.pinned (OpenSpec.ofChange tableGetsWrong)

/-- 'drydocklaw05.TableArray': WHATEVER THE INPUT: true; the input reads as it did. -/
def tableArraySpec : ChangeSpec := { name := "tableArray", fn := fun _ => fun
  | [d1, d2, d3] => { results := [.lit (.bool true)], args := [d1, d2, d3] }
  | _ => none }
def tableArrayRow : OpenClaim := { program := "ytlbmgablkphioaa", sum := "83f7de23153169f04abac1544bfd5568f3f583921cb6a399d7e97609fceed742", func := "drydock/drydocklaw05.TableArray", spec := "tableArray", apart := false }
def TableArraySaid : Prop := tableArrayRow.holds Try.pinned (OpenSpec.ofChange tableArraySpec)

/-- ITS FALSE NEIGHBOUR: 'it returns false'. Refute it at one input. -/
def tableArrayWrong : ChangeSpec := { name := "tableArray", fn := fun _ => fun
  | [d1, d2, d3] => { results := [.lit (.bool false)], args := [d1, d2, d3] }
  | _ => none }
def TableArrayWrongFalsely : Prop := tableArrayRow.holds Try.pinned (OpenSpec.ofChange tableArrayWrong)

/-- 'drydocklaw05.TableFull': WHATEVER THE INPUT: true; the input reads as it did. -/
def tableFullSpec : ChangeSpec := { name := "tableFull", fn := fun _ => fun
  | [d1, d2] => { results := [.lit (.bool true)], args := [d1, d2] }
  | _ => none }
def tableFullRow : OpenClaim := { program := "ytlbmgablkphioaa", sum := "83f7de23153169f04abac1544bfd5568f3f583921cb6a399d7e97609fceed742", func := "drydock/drydocklaw05.TableFull", spec := "tableFull", apart := false }
def TableFullSaid : Prop := tableFullRow.holds Try.pinned (OpenSpec.ofChange tableFullSpec)

/-- ITS FALSE NEIGHBOUR: 'it returns false'. Refute it at one input. -/
def tableFullWrong : ChangeSpec := { name := "tableFull", fn := fun _ => fun
  | [d1, d2] => { results := [.lit (.bool false)], args := [d1, d2] }
  | _ => none }
def TableFullWrongFalsely : Prop := tableFullRow.holds Try.pinned (OpenSpec.ofChange tableFullWrong)

/-- 'drydocklaw05.TableOwn': WHATEVER THE INPUT: true; the input reads as it did. -/
def tableOwnSpec : ChangeSpec := { name := "tableOwn", fn := fun _ => fun
  | [d1, d2, d3, d4] => { results := [.lit (.bool true)], args := [d1, d2, d3, d4] }
  | _ => none }
def tableOwnRow : OpenClaim := { program := "ytlbmgablkphioaa", sum := "83f7de23153169f04abac1544bfd5568f3f583921cb6a399d7e97609fceed742", func := "drydock/drydocklaw05.TableOwn", spec := "tableOwn", apart := false }
def TableOwnSaid : Prop := tableOwnRow.holds Try.pinned (OpenSpec.ofChange tableOwnSpec)

/-- ITS FALSE NEIGHBOUR: 'it returns false'. Refute it at one input. -/
def tableOwnWrong : ChangeSpec := { name := "tableOwn", fn := fun _ => fun
  | [d1, d2, d3, d4] => { results := [.lit (.bool false)], args := [d1, d2, d3, d4] }
  | _ => none }
def TableOwnWrongFalsely : Prop := tableOwnRow.holds Try.pinned (OpenSpec.ofChange tableOwnWrong)

/- THE SECOND FORM. 'bulk': how many values and letters a reading holds, each counted each time it is reached (what is shared counts as often as it is met; a slice's spare places count too). A statement '..UptoSaid' is the law's where the arguments, and the package variables that the reading takes, are together of bulk at most 1048576: NARROWER than '..Said'. Prove '..Said' where nothing that the law and all that it calls make is longer than what came in: it says more and counts as full. Else prove '..UptoSaid'. A law counts once. -/
mutual
def uptoBulk {H : Type} : DataW H → Nat
  | .lit (.string bytes) => bytes.length + 1
  | .lit _ => 1
  | .nil => 1
  | .ptr d => uptoBulk d + 1
  | .slice elems spare => uptoBulkAll elems + uptoBulkAll spare + 1
  | .agg parts => uptoBulkAll parts + 1
  | .iface _ d => uptoBulk d + 1
  | .map entries => uptoBulkEntries entries + 1
  | .held _ => 1
def uptoBulkAll {H : Type} : List (DataW H) → Nat
  | [] => 0
  | d :: r => uptoBulk d + uptoBulkAll r
def uptoBulkEntries {H : Type} : List (Lit × DataW H) → Nat
  | [] => 0
  | x :: r => uptoBulkEntry x + uptoBulkEntries r
def uptoBulkEntry {H : Type} : Lit × DataW H → Nat
  | (.string bytes, d) => bytes.length + uptoBulk d + 1
  | (_, d) => uptoBulk d + 1
 end
def uptoSmall : (H : Type) → List (DataW H) → Bool := fun _ ds => decide (uptoBulkAll ds ≤ 1048576)
def OpenSpec.upto (s : _root_.Go.ChangeSpec) : _root_.Go.OpenSpec := { _root_.Go.OpenSpec.ofChange s with cond := some uptoSmall }

/-- 'drydocklaw05.TableTells', WHERE WHAT IT READS IS OF BULK AT MOST 1048576: true; the input reads as it did. -/
def tableTellsUptoRow : OpenClaim := { program := "ytlbmgablkphioaa", sum := "83f7de23153169f04abac1544bfd5568f3f583921cb6a399d7e97609fceed742", func := "drydock/drydocklaw05.TableTells", spec := "tableTells", unfollowed := true, recurses := true, apart := false, narrowed := true }
def TableTellsUptoSaid : Prop := tableTellsUptoRow.holds Try.pinned (OpenSpec.upto tableTellsSpec)

/-- 'drydocklaw05.TableBack', WHERE WHAT IT READS IS OF BULK AT MOST 1048576: true; the input reads as it did. -/
def tableBackUptoRow : OpenClaim := { program := "ytlbmgablkphioaa", sum := "83f7de23153169f04abac1544bfd5568f3f583921cb6a399d7e97609fceed742", func := "drydock/drydocklaw05.TableBack", spec := "tableBack", apart := false, narrowed := true }
def TableBackUptoSaid : Prop := tableBackUptoRow.holds Try.pinned (OpenSpec.upto tableBackSpec)

/-- 'drydocklaw05.TableDel', WHERE WHAT IT READS IS OF BULK AT MOST 1048576: true; the input reads as it did. -/
def tableDelUptoRow : OpenClaim := { program := "ytlbmgablkphioaa", sum := "83f7de23153169f04abac1544bfd5568f3f583921cb6a399d7e97609fceed742", func := "drydock/drydocklaw05.TableDel", spec := "tableDel", unfollowed := true, recurses := true, apart := false, narrowed := true }
def TableDelUptoSaid : Prop := tableDelUptoRow.holds Try.pinned (OpenSpec.upto tableDelSpec)

/-- 'drydocklaw05.TableRing', WHERE WHAT IT READS IS OF BULK AT MOST 1048576: true; the input reads as it did. -/
def tableRingUptoRow : OpenClaim := { program := "ytlbmgablkphioaa", sum := "83f7de23153169f04abac1544bfd5568f3f583921cb6a399d7e97609fceed742", func := "drydock/drydocklaw05.TableRing", spec := "tableRing", apart := false, narrowed := true }
def TableRingUptoSaid : Prop := tableRingUptoRow.holds Try.pinned (OpenSpec.upto tableRingSpec)

/-- 'drydocklaw05.TableLru', WHERE WHAT IT READS IS OF BULK AT MOST 1048576: true; the input reads as it did. -/
def tableLruUptoRow : OpenClaim := { program := "ytlbmgablkphioaa", sum := "83f7de23153169f04abac1544bfd5568f3f583921cb6a399d7e97609fceed742", func := "drydock/drydocklaw05.TableLru", spec := "tableLru", apart := false, narrowed := true }
def TableLruUptoSaid : Prop := tableLruUptoRow.holds Try.pinned (OpenSpec.upto tableLruSpec)

/-- 'drydocklaw05.TableGets', WHERE WHAT IT READS IS OF BULK AT MOST 1048576: true; the input reads as it did. -/
def tableGetsUptoRow : OpenClaim := { program := "ytlbmgablkphioaa", sum := "83f7de23153169f04abac1544bfd5568f3f583921cb6a399d7e97609fceed742", func := "drydock/drydocklaw05.TableGets", spec := "tableGets", apart := false, narrowed := true }
def TableGetsUptoSaid : Prop := tableGetsUptoRow.holds Try.pinned (OpenSpec.upto tableGetsSpec)

/-- 'drydocklaw05.TableArray', WHERE WHAT IT READS IS OF BULK AT MOST 1048576: true; the input reads as it did. -/
def tableArrayUptoRow : OpenClaim := { program := "ytlbmgablkphioaa", sum := "83f7de23153169f04abac1544bfd5568f3f583921cb6a399d7e97609fceed742", func := "drydock/drydocklaw05.TableArray", spec := "tableArray", apart := false, narrowed := true }
def TableArrayUptoSaid : Prop := tableArrayUptoRow.holds Try.pinned (OpenSpec.upto tableArraySpec)

/-- 'drydocklaw05.TableFull', WHERE WHAT IT READS IS OF BULK AT MOST 1048576: true; the input reads as it did. -/
def tableFullUptoRow : OpenClaim := { program := "ytlbmgablkphioaa", sum := "83f7de23153169f04abac1544bfd5568f3f583921cb6a399d7e97609fceed742", func := "drydock/drydocklaw05.TableFull", spec := "tableFull", apart := false, narrowed := true }
def TableFullUptoSaid : Prop := tableFullUptoRow.holds Try.pinned (OpenSpec.upto tableFullSpec)

/-- 'drydocklaw05.TableOwn', WHERE WHAT IT READS IS OF BULK AT MOST 1048576: true; the input reads as it did. -/
def tableOwnUptoRow : OpenClaim := { program := "ytlbmgablkphioaa", sum := "83f7de23153169f04abac1544bfd5568f3f583921cb6a399d7e97609fceed742", func := "drydock/drydocklaw05.TableOwn", spec := "tableOwn", apart := false, narrowed := true }
def TableOwnUptoSaid : Prop := tableOwnUptoRow.holds Try.pinned (OpenSpec.upto tableOwnSpec)

end Rows
end Go.Proofs.Ytlbmgablkphioaa
