/-
  No cell of these rows narrows 'for every input' (looked for: loops, veiled, ifaces, maps, wideKeys, modest, calm, conditions, laid).
  DERIVED. THE GIVEN ROWS OF THIS SEAT. 6 by the template 'for every input the law returns true; each argument reads behind the call as it read before'; 0 by the template 'total and deterministic' (their statements: YthpniennaaihgaaTotals.lean).
  GIVEN WITH THE SEED: the statements are not yours to turn. If you find one false, say at which input.
  Laid BY PROGRAM, IN A SANDBOX (cutbox-rows.mjs): the forced cells as the released guide's own fill.sh prints them over the translation 0ebb9f082ccaadc0… (all of the seat's roots in one cut). By AI agents, Wed Nov 11 2026. No macro, syntax, notation, axiom, sorry.
-/
import Derived.Test.YthpniennaaihgaaChecked
import GoSem.Claim
import GoSem.ClaimJoined
import GoSem.ClaimMapViews
import Derived.JoinedTies
import Derived.KernelRfl
namespace Go.Proofs.Ythpniennaaihgaa
/- THE CELL 'sum', in the pinned program and in every row, IS THE sha256 OF THE DUMP (.gsa) THAT YthpniennaaihgaaProg.lean LOADS. Nothing in Lean hashes anything: it is a label: what it is worth is what the hold of that sum in a sandbox is worth. -/
noncomputable def Try.pinned : Pinned := { name := "ythpniennaaihgaa", sum := "0ebb9f082ccaadc09db2488faa80de2a7cecf11ac1c2146f8d236e86486be9c1", checked := Try.checked }
namespace Rows
def none {H : Type} : Left H := { results := [], args := [] }

/-- 'drydocklaw06.HelperTells': WHATEVER THE INPUT: true; the input reads as it did. -/
def helperTellsSpec : ChangeSpec := { name := "helperTells", fn := fun _ => fun
  | [d1, d2, d3, d4] => { results := [.lit (.bool true)], args := [d1, d2, d3, d4] }
  | _ => none }
def helperTellsRow : OpenClaim := { program := "ythpniennaaihgaa", sum := "0ebb9f082ccaadc09db2488faa80de2a7cecf11ac1c2146f8d236e86486be9c1", func := "drydock/drydocklaw06.HelperTells", spec := "helperTells", unfollowed := true, recurses := true, apart := false }
def HelperTellsSaid : Prop := helperTellsRow.holds Try.pinned (OpenSpec.ofChange helperTellsSpec)

/-- ITS FALSE NEIGHBOUR: 'it returns false'. Refute it at one input. -/
def helperTellsWrong : ChangeSpec := { name := "helperTells", fn := fun _ => fun
  | [d1, d2, d3, d4] => { results := [.lit (.bool false)], args := [d1, d2, d3, d4] }
  | _ => none }
def HelperTellsWrongFalsely : Prop := helperTellsRow.holds Try.pinned (OpenSpec.ofChange helperTellsWrong)

/-- 'drydocklaw06.HelperKeeps': WHATEVER THE INPUT: true; the input reads as it did. -/
def helperKeepsSpec : ChangeSpec := { name := "helperKeeps", fn := fun _ => fun
  | [d1, d2, d3] => { results := [.lit (.bool true)], args := [d1, d2, d3] }
  | _ => none }
def helperKeepsRow : OpenClaim := { program := "ythpniennaaihgaa", sum := "0ebb9f082ccaadc09db2488faa80de2a7cecf11ac1c2146f8d236e86486be9c1", func := "drydock/drydocklaw06.HelperKeeps", spec := "helperKeeps", unfollowed := true, recurses := true, apart := false }
def HelperKeepsSaid : Prop := helperKeepsRow.holds Try.pinned (OpenSpec.ofChange helperKeepsSpec)

/-- ITS FALSE NEIGHBOUR: 'it returns false'. Refute it at one input. -/
def helperKeepsWrong : ChangeSpec := { name := "helperKeeps", fn := fun _ => fun
  | [d1, d2, d3] => { results := [.lit (.bool false)], args := [d1, d2, d3] }
  | _ => none }
def HelperKeepsWrongFalsely : Prop := helperKeepsRow.holds Try.pinned (OpenSpec.ofChange helperKeepsWrong)

/-- 'drydocklaw06.HelperAfter': WHATEVER THE INPUT: true; the input reads as it did. -/
def helperAfterSpec : ChangeSpec := { name := "helperAfter", fn := fun _ => fun
  | [d1, d2, d3, d4, d5] => { results := [.lit (.bool true)], args := [d1, d2, d3, d4, d5] }
  | _ => none }
def helperAfterRow : OpenClaim := { program := "ythpniennaaihgaa", sum := "0ebb9f082ccaadc09db2488faa80de2a7cecf11ac1c2146f8d236e86486be9c1", func := "drydock/drydocklaw06.HelperAfter", spec := "helperAfter", unfollowed := true, recurses := true, apart := false }
def HelperAfterSaid : Prop := helperAfterRow.holds Try.pinned (OpenSpec.ofChange helperAfterSpec)

/-- ITS FALSE NEIGHBOUR: 'it returns false'. Refute it at one input. -/
def helperAfterWrong : ChangeSpec := { name := "helperAfter", fn := fun _ => fun
  | [d1, d2, d3, d4, d5] => { results := [.lit (.bool false)], args := [d1, d2, d3, d4, d5] }
  | _ => none }
def HelperAfterWrongFalsely : Prop := helperAfterRow.holds Try.pinned (OpenSpec.ofChange helperAfterWrong)

/-- 'drydocklaw06.HelperDraws': WHATEVER THE INPUT: true; the input reads as it did. -/
def helperDrawsSpec : ChangeSpec := { name := "helperDraws", fn := fun _ => fun
  | [d1, d2] => { results := [.lit (.bool true)], args := [d1, d2] }
  | _ => none }
def helperDrawsRow : OpenClaim := { program := "ythpniennaaihgaa", sum := "0ebb9f082ccaadc09db2488faa80de2a7cecf11ac1c2146f8d236e86486be9c1", func := "drydock/drydocklaw06.HelperDraws", spec := "helperDraws", unfollowed := true, recurses := true, apart := false }
def HelperDrawsSaid : Prop := helperDrawsRow.holds Try.pinned (OpenSpec.ofChange helperDrawsSpec)

/-- ITS FALSE NEIGHBOUR: 'it returns false'. Refute it at one input. -/
def helperDrawsWrong : ChangeSpec := { name := "helperDraws", fn := fun _ => fun
  | [d1, d2] => { results := [.lit (.bool false)], args := [d1, d2] }
  | _ => none }
def HelperDrawsWrongFalsely : Prop := helperDrawsRow.holds Try.pinned (OpenSpec.ofChange helperDrawsWrong)

/-- 'drydocklaw06.HelperLru': WHATEVER THE INPUT: true; the input reads as it did. -/
def helperLruSpec : ChangeSpec := { name := "helperLru", fn := fun _ => fun
  | [d1, d2] => { results := [.lit (.bool true)], args := [d1, d2] }
  | _ => none }
def helperLruRow : OpenClaim := { program := "ythpniennaaihgaa", sum := "0ebb9f082ccaadc09db2488faa80de2a7cecf11ac1c2146f8d236e86486be9c1", func := "drydock/drydocklaw06.HelperLru", spec := "helperLru", unfollowed := true, recurses := true, apart := false }
def HelperLruSaid : Prop := helperLruRow.holds Try.pinned (OpenSpec.ofChange helperLruSpec)

/-- ITS FALSE NEIGHBOUR: 'it returns false'. Refute it at one input. -/
def helperLruWrong : ChangeSpec := { name := "helperLru", fn := fun _ => fun
  | [d1, d2] => { results := [.lit (.bool false)], args := [d1, d2] }
  | _ => none }
def HelperLruWrongFalsely : Prop := helperLruRow.holds Try.pinned (OpenSpec.ofChange helperLruWrong)

/-- 'drydocklaw06.HelperFits': WHATEVER THE INPUT: true; the input reads as it did. -/
def helperFitsSpec : ChangeSpec := { name := "helperFits", fn := fun _ => fun
  | [d1, d2, d3] => { results := [.lit (.bool true)], args := [d1, d2, d3] }
  | _ => none }
def helperFitsRow : OpenClaim := { program := "ythpniennaaihgaa", sum := "0ebb9f082ccaadc09db2488faa80de2a7cecf11ac1c2146f8d236e86486be9c1", func := "drydock/drydocklaw06.HelperFits", spec := "helperFits", unfollowed := true, recurses := true, apart := false }
def HelperFitsSaid : Prop := helperFitsRow.holds Try.pinned (OpenSpec.ofChange helperFitsSpec)

/-- ITS FALSE NEIGHBOUR: 'it returns false'. Refute it at one input. -/
def helperFitsWrong : ChangeSpec := { name := "helperFits", fn := fun _ => fun
  | [d1, d2, d3] => { results := [.lit (.bool false)], args := [d1, d2, d3] }
  | _ => none }
def HelperFitsWrongFalsely : Prop := helperFitsRow.holds Try.pinned (OpenSpec.ofChange helperFitsWrong)

/- THE SECOND FORM. 'bulk': how many values and letters a reading holds, each counted each time it is reached (what is shared counts as often as it is met; a slice's spare places count too). A statement '..UptoSaid' is the law's where the arguments, and the package variables that the reading takes, are together of bulk at most 1048576: NARROWER than '..Said'. Prove '..Said' where nothing that the law and all that it calls make is longer than what came in: it says more and counts as full. Else prove '..UptoSaid'. A law counts once. -/
mutual
def uptoBulk {H : Type} : DataW H → Nat
  | .lit (.string bytes) => bytes.length + 1
  | .lit _ => 1
  | .nil => 1
  | .ptr d => uptoBulk d + 1
  | .slice elems spare => uptoBulkAll elems + uptoBulkAll spare + 1
  | .agg parts => uptoBulkAll parts + 1
  | .iface _ d => uptoBulk d + 1
  | .map entries => uptoBulkEntries entries + 1
  | .held _ => 1
def uptoBulkAll {H : Type} : List (DataW H) → Nat
  | [] => 0
  | d :: r => uptoBulk d + uptoBulkAll r
def uptoBulkEntries {H : Type} : List (Lit × DataW H) → Nat
  | [] => 0
  | x :: r => uptoBulkEntry x + uptoBulkEntries r
def uptoBulkEntry {H : Type} : Lit × DataW H → Nat
  | (.string bytes, d) => bytes.length + uptoBulk d + 1
  | (_, d) => uptoBulk d + 1
 end
def uptoSmall : (H : Type) → List (DataW H) → Bool := fun _ ds => decide (uptoBulkAll ds ≤ 1048576)
def OpenSpec.upto (s : _root_.Go.ChangeSpec) : _root_.Go.OpenSpec := { _root_.Go.OpenSpec.ofChange s with cond := some uptoSmall }

/-- 'drydocklaw06.HelperTells', WHERE WHAT IT READS IS OF BULK AT MOST 1048576: true; the input reads as it did. -/
def helperTellsUptoRow : OpenClaim := { program := "ythpniennaaihgaa", sum := "0ebb9f082ccaadc09db2488faa80de2a7cecf11ac1c2146f8d236e86486be9c1", func := "drydock/drydocklaw06.HelperTells", spec := "helperTells", unfollowed := true, recurses := true, apart := false, narrowed := true }
def HelperTellsUptoSaid : Prop := helperTellsUptoRow.holds Try.pinned (OpenSpec.upto helperTellsSpec)

/-- 'drydocklaw06.HelperKeeps', WHERE WHAT IT READS IS OF BULK AT MOST 1048576: true; the input reads as it did. -/
def helperKeepsUptoRow : OpenClaim := { program := "ythpniennaaihgaa", sum := "0ebb9f082ccaadc09db2488faa80de2a7cecf11ac1c2146f8d236e86486be9c1", func := "drydock/drydocklaw06.HelperKeeps", spec := "helperKeeps", unfollowed := true, recurses := true, apart := false, narrowed := true }
def HelperKeepsUptoSaid : Prop := helperKeepsUptoRow.holds Try.pinned (OpenSpec.upto helperKeepsSpec)

/-- 'drydocklaw06.HelperAfter', WHERE WHAT IT READS IS OF BULK AT MOST 1048576: true; the input reads as it did. -/
def helperAfterUptoRow : OpenClaim := { program := "ythpniennaaihgaa", sum := "0ebb9f082ccaadc09db2488faa80de2a7cecf11ac1c2146f8d236e86486be9c1", func := "drydock/drydocklaw06.HelperAfter", spec := "helperAfter", unfollowed := true, recurses := true, apart := false, narrowed := true }
def HelperAfterUptoSaid : Prop := helperAfterUptoRow.holds Try.pinned (OpenSpec.upto helperAfterSpec)

/-- 'drydocklaw06.HelperDraws', WHERE WHAT IT READS IS OF BULK AT MOST 1048576: true; the input reads as it did. -/
def helperDrawsUptoRow : OpenClaim := { program := "ythpniennaaihgaa", sum := "0ebb9f082ccaadc09db2488faa80de2a7cecf11ac1c2146f8d236e86486be9c1", func := "drydock/drydocklaw06.HelperDraws", spec := "helperDraws", unfollowed := true, recurses := true, apart := false, narrowed := true }
def HelperDrawsUptoSaid : Prop := helperDrawsUptoRow.holds Try.pinned (OpenSpec.upto helperDrawsSpec)

/-- 'drydocklaw06.HelperLru', WHERE WHAT IT READS IS OF BULK AT MOST 1048576: true; the input reads as it did. -/
def helperLruUptoRow : OpenClaim := { program := "ythpniennaaihgaa", sum := "0ebb9f082ccaadc09db2488faa80de2a7cecf11ac1c2146f8d236e86486be9c1", func := "drydock/drydocklaw06.HelperLru", spec := "helperLru", unfollowed := true, recurses := true, apart := false, narrowed := true }
def HelperLruUptoSaid : Prop := helperLruUptoRow.holds Try.pinned (OpenSpec.upto helperLruSpec)

/-- 'drydocklaw06.HelperFits', WHERE WHAT IT READS IS OF BULK AT MOST 1048576: true; the input reads as it did. -/
def helperFitsUptoRow : OpenClaim := { program := "ythpniennaaihgaa", sum := "0ebb9f082ccaadc09db2488faa80de2a7cecf11ac1c2146f8d236e86486be9c1", func := "drydock/drydocklaw06.HelperFits", spec := "helperFits", unfollowed := true, recurses := true, apart := false, narrowed := true }
def HelperFitsUptoSaid : Prop := helperFitsUptoRow.holds Try.pinned (OpenSpec.upto helperFitsSpec)

end Rows
end Go.Proofs.Ythpniennaaihgaa
