/-
  DERIVED. GIVEN WITH THE SEED: THE CARDS: each row of YtfkmlkieipoibaaDoorRows.lean that lists a variable, with what it lists TIED to the program's text (the seventh form; the later family's looks); each row that meets fmt, with fmt's text TOLD by the authors' own Lean function (tested against real Go, not proved from fmt's source: count such statements apart). THE CARD IS WHAT COUNTS. Prove the row's statement (the work); the ties are given (YtfkmlkieipoibaaDoorTie.lean); close each card by the builder's one call (the guide's Derived/Test/ToyasCard.lean, 'card_holds'). Laid BY PROGRAM, IN A SANDBOX (cutbox-door.mjs). By AI agents, Wed Nov 11 2026. No macro, syntax, notation, axiom, sorry.
-/
import Derived.Test.YtfkmlkieipoibaaDoorRows
import GoSem.ClaimSeven
namespace Go.Proofs.YtfkmlkieipoibaaDoor
namespace Rows

/-- THE TIED CARD OF 'drydocklaw02.InstTells'. -/
def instTellsCard : Claim7 := { stood := { row := instTellsRow, standIns := [], harness := (true, "c53787b049a8d55b8b8ad79c3807f9aebe7e4b58dc7af991b34b15730efeb0fa"), looks := false }, kinds := [], alts := [], laidByText := true, laidKinds := [.data], laidTests := true, laidLooks := .later }
def InstTellsCardSaid : Prop := Claim7.holds Tryd.pinned (.plain (OpenSpec.ofChange instTellsSpec)) instTellsCard

/-- THE TIED CARD OF 'drydocklaw02.InstBack'. -/
def instBackCard : Claim7 := { stood := { row := instBackRow, standIns := [], harness := (true, "c53787b049a8d55b8b8ad79c3807f9aebe7e4b58dc7af991b34b15730efeb0fa"), looks := false }, kinds := [], alts := [], laidByText := true, laidKinds := [.data], laidTests := true, laidLooks := .later }
def InstBackCardSaid : Prop := Claim7.holds Tryd.pinned (.plain (OpenSpec.ofChange instBackSpec)) instBackCard

/-- THE TIED CARD OF 'drydocklaw02.InstApart'. -/
def instApartCard : Claim7 := { stood := { row := instApartRow, standIns := [], harness := (true, "c53787b049a8d55b8b8ad79c3807f9aebe7e4b58dc7af991b34b15730efeb0fa"), looks := false }, kinds := [], alts := [], laidByText := true, laidKinds := [.data], laidTests := true, laidLooks := .later }
def InstApartCardSaid : Prop := Claim7.holds Tryd.pinned (.plain (OpenSpec.ofChange instApartSpec)) instApartCard

/-- THE TIED CARD OF 'drydocklaw02.InstKinds'. -/
def instKindsCard : Claim7 := { stood := { row := instKindsRow, standIns := [], harness := (true, "c53787b049a8d55b8b8ad79c3807f9aebe7e4b58dc7af991b34b15730efeb0fa"), looks := false }, kinds := [], alts := [], laidByText := true, laidKinds := [.data], laidTests := true, laidLooks := .later }
def InstKindsCardSaid : Prop := Claim7.holds Tryd.pinned (.plain (OpenSpec.ofChange instKindsSpec)) instKindsCard

/-- THE TIED CARD OF 'drydocklaw02.InstWrong'. -/
def instWrongCard : Claim7 := { stood := { row := instWrongRow, standIns := [], harness := (true, "c53787b049a8d55b8b8ad79c3807f9aebe7e4b58dc7af991b34b15730efeb0fa"), looks := false }, kinds := [], alts := [], laidByText := true, laidKinds := [.data], laidTests := true, laidLooks := .later }
def InstWrongCardSaid : Prop := Claim7.holds Tryd.pinned (.plain (OpenSpec.ofChange instWrongSpec)) instWrongCard

/-- THE TIED CARD OF 'drydocklaw02.InstFields'. -/
def instFieldsCard : Claim7 := { stood := { row := instFieldsRow, standIns := [], harness := (true, "c53787b049a8d55b8b8ad79c3807f9aebe7e4b58dc7af991b34b15730efeb0fa"), looks := false }, kinds := [], alts := [], laidByText := true, laidKinds := [.data], laidTests := true, laidLooks := .later }
def InstFieldsCardSaid : Prop := Claim7.holds Tryd.pinned (.plain (OpenSpec.ofChange instFieldsSpec)) instFieldsCard

/-- THE SECOND FORM's CARD OF 'drydocklaw02.InstTells'. -/
def instTellsUptoCard : Claim7 := { stood := { row := instTellsUptoRow, standIns := [], harness := (true, "c53787b049a8d55b8b8ad79c3807f9aebe7e4b58dc7af991b34b15730efeb0fa"), looks := false }, kinds := [], alts := [], laidByText := true, laidKinds := [.data], laidTests := true, laidLooks := .later }
def InstTellsUptoCardSaid : Prop := Claim7.holds Tryd.pinned (.plain (OpenSpec.upto instTellsSpec)) instTellsUptoCard

/-- THE SECOND FORM's CARD OF 'drydocklaw02.InstBack'. -/
def instBackUptoCard : Claim7 := { stood := { row := instBackUptoRow, standIns := [], harness := (true, "c53787b049a8d55b8b8ad79c3807f9aebe7e4b58dc7af991b34b15730efeb0fa"), looks := false }, kinds := [], alts := [], laidByText := true, laidKinds := [.data], laidTests := true, laidLooks := .later }
def InstBackUptoCardSaid : Prop := Claim7.holds Tryd.pinned (.plain (OpenSpec.upto instBackSpec)) instBackUptoCard

/-- THE SECOND FORM's CARD OF 'drydocklaw02.InstApart'. -/
def instApartUptoCard : Claim7 := { stood := { row := instApartUptoRow, standIns := [], harness := (true, "c53787b049a8d55b8b8ad79c3807f9aebe7e4b58dc7af991b34b15730efeb0fa"), looks := false }, kinds := [], alts := [], laidByText := true, laidKinds := [.data], laidTests := true, laidLooks := .later }
def InstApartUptoCardSaid : Prop := Claim7.holds Tryd.pinned (.plain (OpenSpec.upto instApartSpec)) instApartUptoCard

/-- THE SECOND FORM's CARD OF 'drydocklaw02.InstKinds'. -/
def instKindsUptoCard : Claim7 := { stood := { row := instKindsUptoRow, standIns := [], harness := (true, "c53787b049a8d55b8b8ad79c3807f9aebe7e4b58dc7af991b34b15730efeb0fa"), looks := false }, kinds := [], alts := [], laidByText := true, laidKinds := [.data], laidTests := true, laidLooks := .later }
def InstKindsUptoCardSaid : Prop := Claim7.holds Tryd.pinned (.plain (OpenSpec.upto instKindsSpec)) instKindsUptoCard

/-- THE SECOND FORM's CARD OF 'drydocklaw02.InstWrong'. -/
def instWrongUptoCard : Claim7 := { stood := { row := instWrongUptoRow, standIns := [], harness := (true, "c53787b049a8d55b8b8ad79c3807f9aebe7e4b58dc7af991b34b15730efeb0fa"), looks := false }, kinds := [], alts := [], laidByText := true, laidKinds := [.data], laidTests := true, laidLooks := .later }
def InstWrongUptoCardSaid : Prop := Claim7.holds Tryd.pinned (.plain (OpenSpec.upto instWrongSpec)) instWrongUptoCard

/-- THE SECOND FORM's CARD OF 'drydocklaw02.InstFields'. -/
def instFieldsUptoCard : Claim7 := { stood := { row := instFieldsUptoRow, standIns := [], harness := (true, "c53787b049a8d55b8b8ad79c3807f9aebe7e4b58dc7af991b34b15730efeb0fa"), looks := false }, kinds := [], alts := [], laidByText := true, laidKinds := [.data], laidTests := true, laidLooks := .later }
def InstFieldsUptoCardSaid : Prop := Claim7.holds Tryd.pinned (.plain (OpenSpec.upto instFieldsSpec)) instFieldsUptoCard
end Rows
end Go.Proofs.YtfkmlkieipoibaaDoor
