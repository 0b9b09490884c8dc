/-
  DERIVED. GIVEN WITH THE SEED: THE CARDS: each row of YtlbhmopmfddhjaaDoorRows.lean that lists a variable, with what it lists TIED to the program's text (the seventh form; the later family's looks); each row that meets fmt, with fmt's text TOLD by the authors' own Lean function (tested against real Go, not proved from fmt's source: count such statements apart). THE CARD IS WHAT COUNTS. Prove the row's statement (the work); the ties are given (YtlbhmopmfddhjaaDoorTie.lean); close each card by the builder's one call (the guide's Derived/Test/ToyasCard.lean, 'card_holds'). Laid BY PROGRAM, IN A SANDBOX (cutbox-door.mjs). By AI agents, Wed Nov 11 2026. No macro, syntax, notation, axiom, sorry.
-/
import Derived.Test.YtlbhmopmfddhjaaDoorRows
import GoSem.ClaimSeven
namespace Go.Proofs.YtlbhmopmfddhjaaDoor
namespace Rows

/-- THE TIED CARD OF 'drydocklaw03.ProgTells'. -/
def progTellsCard : Claim7 := { stood := { row := progTellsRow, standIns := [], harness := (true, "005222c431c2cc42eadea316407e527a4f754c679d0cdb6607c6a96d36e192ed"), looks := true }, kinds := [], alts := [], laidByText := true, laidKinds := [.data], laidTests := true, laidLooks := .later }
def ProgTellsCardSaid : Prop := Claim7.holds Tryd.pinned (.plain (OpenSpec.ofChange progTellsSpec)) progTellsCard

/-- THE TIED CARD OF 'drydocklaw03.ProgBack'. -/
def progBackCard : Claim7 := { stood := { row := progBackRow, standIns := [], harness := (true, "005222c431c2cc42eadea316407e527a4f754c679d0cdb6607c6a96d36e192ed"), looks := true }, kinds := [], alts := [], laidByText := true, laidKinds := [.data], laidTests := true, laidLooks := .later }
def ProgBackCardSaid : Prop := Claim7.holds Tryd.pinned (.plain (OpenSpec.ofChange progBackSpec)) progBackCard

/-- THE TIED CARD OF 'drydocklaw03.ProgSwap'. -/
def progSwapCard : Claim7 := { stood := { row := progSwapRow, standIns := [], harness := (true, "005222c431c2cc42eadea316407e527a4f754c679d0cdb6607c6a96d36e192ed"), looks := true }, kinds := [], alts := [], laidByText := true, laidKinds := [.data], laidTests := true, laidLooks := .later }
def ProgSwapCardSaid : Prop := Claim7.holds Tryd.pinned (.plain (OpenSpec.ofChange progSwapSpec)) progSwapCard

/-- THE TIED CARD OF 'drydocklaw03.ProgLong'. -/
def progLongCard : Claim7 := { stood := { row := progLongRow, standIns := [], harness := (true, "005222c431c2cc42eadea316407e527a4f754c679d0cdb6607c6a96d36e192ed"), looks := true }, kinds := [], alts := [], laidByText := true, laidKinds := [.data], laidTests := true, laidLooks := .later }
def ProgLongCardSaid : Prop := Claim7.holds Tryd.pinned (.plain (OpenSpec.ofChange progLongSpec)) progLongCard

/-- THE TIED CARD OF 'drydocklaw03.ProgParts'. -/
def progPartsCard : Claim7 := { stood := { row := progPartsRow, standIns := [], harness := (true, "005222c431c2cc42eadea316407e527a4f754c679d0cdb6607c6a96d36e192ed"), looks := true }, kinds := [], alts := [], laidByText := true, laidKinds := [.data], laidTests := true, laidLooks := .later }
def ProgPartsCardSaid : Prop := Claim7.holds Tryd.pinned (.plain (OpenSpec.ofChange progPartsSpec)) progPartsCard

/-- THE TIED CARD OF 'drydocklaw03.ProgSame'. -/
def progSameCard : Claim7 := { stood := { row := progSameRow, standIns := [], harness := (true, "005222c431c2cc42eadea316407e527a4f754c679d0cdb6607c6a96d36e192ed"), looks := true }, kinds := [], alts := [], laidByText := true, laidKinds := [.data], laidTests := true, laidLooks := .later }
def ProgSameCardSaid : Prop := Claim7.holds Tryd.pinned (.plain (OpenSpec.ofChange progSameSpec)) progSameCard

/-- THE SECOND FORM's CARD OF 'drydocklaw03.ProgTells'. -/
def progTellsUptoCard : Claim7 := { stood := { row := progTellsUptoRow, standIns := [], harness := (true, "005222c431c2cc42eadea316407e527a4f754c679d0cdb6607c6a96d36e192ed"), looks := true }, kinds := [], alts := [], laidByText := true, laidKinds := [.data], laidTests := true, laidLooks := .later }
def ProgTellsUptoCardSaid : Prop := Claim7.holds Tryd.pinned (.plain (OpenSpec.upto progTellsSpec)) progTellsUptoCard

/-- THE SECOND FORM's CARD OF 'drydocklaw03.ProgBack'. -/
def progBackUptoCard : Claim7 := { stood := { row := progBackUptoRow, standIns := [], harness := (true, "005222c431c2cc42eadea316407e527a4f754c679d0cdb6607c6a96d36e192ed"), looks := true }, kinds := [], alts := [], laidByText := true, laidKinds := [.data], laidTests := true, laidLooks := .later }
def ProgBackUptoCardSaid : Prop := Claim7.holds Tryd.pinned (.plain (OpenSpec.upto progBackSpec)) progBackUptoCard

/-- THE SECOND FORM's CARD OF 'drydocklaw03.ProgSwap'. -/
def progSwapUptoCard : Claim7 := { stood := { row := progSwapUptoRow, standIns := [], harness := (true, "005222c431c2cc42eadea316407e527a4f754c679d0cdb6607c6a96d36e192ed"), looks := true }, kinds := [], alts := [], laidByText := true, laidKinds := [.data], laidTests := true, laidLooks := .later }
def ProgSwapUptoCardSaid : Prop := Claim7.holds Tryd.pinned (.plain (OpenSpec.upto progSwapSpec)) progSwapUptoCard

/-- THE SECOND FORM's CARD OF 'drydocklaw03.ProgLong'. -/
def progLongUptoCard : Claim7 := { stood := { row := progLongUptoRow, standIns := [], harness := (true, "005222c431c2cc42eadea316407e527a4f754c679d0cdb6607c6a96d36e192ed"), looks := true }, kinds := [], alts := [], laidByText := true, laidKinds := [.data], laidTests := true, laidLooks := .later }
def ProgLongUptoCardSaid : Prop := Claim7.holds Tryd.pinned (.plain (OpenSpec.upto progLongSpec)) progLongUptoCard

/-- THE SECOND FORM's CARD OF 'drydocklaw03.ProgParts'. -/
def progPartsUptoCard : Claim7 := { stood := { row := progPartsUptoRow, standIns := [], harness := (true, "005222c431c2cc42eadea316407e527a4f754c679d0cdb6607c6a96d36e192ed"), looks := true }, kinds := [], alts := [], laidByText := true, laidKinds := [.data], laidTests := true, laidLooks := .later }
def ProgPartsUptoCardSaid : Prop := Claim7.holds Tryd.pinned (.plain (OpenSpec.upto progPartsSpec)) progPartsUptoCard

/-- THE SECOND FORM's CARD OF 'drydocklaw03.ProgSame'. -/
def progSameUptoCard : Claim7 := { stood := { row := progSameUptoRow, standIns := [], harness := (true, "005222c431c2cc42eadea316407e527a4f754c679d0cdb6607c6a96d36e192ed"), looks := true }, kinds := [], alts := [], laidByText := true, laidKinds := [.data], laidTests := true, laidLooks := .later }
def ProgSameUptoCardSaid : Prop := Claim7.holds Tryd.pinned (.plain (OpenSpec.upto progSameSpec)) progSameUptoCard
end Rows
end Go.Proofs.YtlbhmopmfddhjaaDoor
