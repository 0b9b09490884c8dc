/-
  DERIVED. GIVEN WITH THE SEED: THE CARDS: each row of YtilddlgcfbefiaaDoorRows.lean that lists a variable, with what it lists TIED to the program's text (the seventh form; the later family's looks); each row that meets fmt, with fmt's text TOLD by the authors' own Lean function (tested against real Go, not proved from fmt's source: count such statements apart). THE CARD IS WHAT COUNTS. Prove the row's statement (the work); the ties are given (YtilddlgcfbefiaaDoorTie.lean); close each card by the builder's one call (the guide's Derived/Test/ToyasCard.lean, 'card_holds'). Laid BY PROGRAM, IN A SANDBOX (cutbox-door.mjs). By AI agents, Wed Nov 11 2026. No macro, syntax, notation, axiom, sorry.
-/
import Derived.Test.YtilddlgcfbefiaaDoorRows
import GoSem.ClaimSeven
namespace Go.Proofs.YtilddlgcfbefiaaDoor
namespace Rows

/-- THE TIED CARD OF 'drydocklaw07.InterpFuel'. -/
def interpFuelCard : Claim7 := { stood := { row := interpFuelRow, standIns := [], harness := (true, "06c1961827986d8c8e50d4b984e0c9bf0d6611e5e24705ee5aae201a4df00376"), looks := false }, kinds := [], alts := [], laidByText := true, laidKinds := [.data], laidTests := true, laidLooks := .later }
def InterpFuelCardSaid : Prop := Claim7.holds Tryd.pinned (.plain (OpenSpec.ofChange interpFuelSpec)) interpFuelCard

/-- THE TIED CARD OF 'drydocklaw07.InterpKeeps'. -/
def interpKeepsCard : Claim7 := { stood := { row := interpKeepsRow, standIns := [], harness := (true, "06c1961827986d8c8e50d4b984e0c9bf0d6611e5e24705ee5aae201a4df00376"), looks := false }, kinds := [], alts := [], laidByText := true, laidKinds := [.data], laidTests := true, laidLooks := .later }
def InterpKeepsCardSaid : Prop := Claim7.holds Tryd.pinned (.plain (OpenSpec.ofChange interpKeepsSpec)) interpKeepsCard

/-- THE TIED CARD OF 'drydocklaw07.InterpEnds'. -/
def interpEndsCard : Claim7 := { stood := { row := interpEndsRow, standIns := [], harness := (true, "06c1961827986d8c8e50d4b984e0c9bf0d6611e5e24705ee5aae201a4df00376"), looks := false }, kinds := [], alts := [], laidByText := true, laidKinds := [.data], laidTests := true, laidLooks := .later }
def InterpEndsCardSaid : Prop := Claim7.holds Tryd.pinned (.plain (OpenSpec.ofChange interpEndsSpec)) interpEndsCard

/-- THE TIED CARD OF 'drydocklaw07.InterpParts'. -/
def interpPartsCard : Claim7 := { stood := { row := interpPartsRow, standIns := [], harness := (true, "06c1961827986d8c8e50d4b984e0c9bf0d6611e5e24705ee5aae201a4df00376"), looks := false }, kinds := [], alts := [], laidByText := true, laidKinds := [.data], laidTests := true, laidLooks := .later }
def InterpPartsCardSaid : Prop := Claim7.holds Tryd.pinned (.plain (OpenSpec.ofChange interpPartsSpec)) interpPartsCard

/-- THE TIED CARD OF 'drydocklaw07.InterpSame'. -/
def interpSameCard : Claim7 := { stood := { row := interpSameRow, standIns := [], harness := (true, "06c1961827986d8c8e50d4b984e0c9bf0d6611e5e24705ee5aae201a4df00376"), looks := false }, kinds := [], alts := [], laidByText := true, laidKinds := [.data], laidTests := true, laidLooks := .later }
def InterpSameCardSaid : Prop := Claim7.holds Tryd.pinned (.plain (OpenSpec.ofChange interpSameSpec)) interpSameCard

/-- THE TIED CARD OF 'drydocklaw08.CourseBudget'. -/
def courseBudgetCard : Claim7 := { stood := { row := courseBudgetRow, standIns := [], harness := (true, "06c1961827986d8c8e50d4b984e0c9bf0d6611e5e24705ee5aae201a4df00376"), looks := false }, kinds := [], alts := [], laidByText := true, laidKinds := [.data], laidTests := true, laidLooks := .later }
def CourseBudgetCardSaid : Prop := Claim7.holds Tryd.pinned (.plain (OpenSpec.ofChange courseBudgetSpec)) courseBudgetCard

/-- THE SECOND FORM's CARD OF 'drydocklaw07.InterpFuel'. -/
def interpFuelUptoCard : Claim7 := { stood := { row := interpFuelUptoRow, standIns := [], harness := (true, "06c1961827986d8c8e50d4b984e0c9bf0d6611e5e24705ee5aae201a4df00376"), looks := false }, kinds := [], alts := [], laidByText := true, laidKinds := [.data], laidTests := true, laidLooks := .later }
def InterpFuelUptoCardSaid : Prop := Claim7.holds Tryd.pinned (.plain (OpenSpec.upto interpFuelSpec)) interpFuelUptoCard

/-- THE SECOND FORM's CARD OF 'drydocklaw07.InterpKeeps'. -/
def interpKeepsUptoCard : Claim7 := { stood := { row := interpKeepsUptoRow, standIns := [], harness := (true, "06c1961827986d8c8e50d4b984e0c9bf0d6611e5e24705ee5aae201a4df00376"), looks := false }, kinds := [], alts := [], laidByText := true, laidKinds := [.data], laidTests := true, laidLooks := .later }
def InterpKeepsUptoCardSaid : Prop := Claim7.holds Tryd.pinned (.plain (OpenSpec.upto interpKeepsSpec)) interpKeepsUptoCard

/-- THE SECOND FORM's CARD OF 'drydocklaw07.InterpEnds'. -/
def interpEndsUptoCard : Claim7 := { stood := { row := interpEndsUptoRow, standIns := [], harness := (true, "06c1961827986d8c8e50d4b984e0c9bf0d6611e5e24705ee5aae201a4df00376"), looks := false }, kinds := [], alts := [], laidByText := true, laidKinds := [.data], laidTests := true, laidLooks := .later }
def InterpEndsUptoCardSaid : Prop := Claim7.holds Tryd.pinned (.plain (OpenSpec.upto interpEndsSpec)) interpEndsUptoCard

/-- THE SECOND FORM's CARD OF 'drydocklaw07.InterpParts'. -/
def interpPartsUptoCard : Claim7 := { stood := { row := interpPartsUptoRow, standIns := [], harness := (true, "06c1961827986d8c8e50d4b984e0c9bf0d6611e5e24705ee5aae201a4df00376"), looks := false }, kinds := [], alts := [], laidByText := true, laidKinds := [.data], laidTests := true, laidLooks := .later }
def InterpPartsUptoCardSaid : Prop := Claim7.holds Tryd.pinned (.plain (OpenSpec.upto interpPartsSpec)) interpPartsUptoCard

/-- THE SECOND FORM's CARD OF 'drydocklaw07.InterpSame'. -/
def interpSameUptoCard : Claim7 := { stood := { row := interpSameUptoRow, standIns := [], harness := (true, "06c1961827986d8c8e50d4b984e0c9bf0d6611e5e24705ee5aae201a4df00376"), looks := false }, kinds := [], alts := [], laidByText := true, laidKinds := [.data], laidTests := true, laidLooks := .later }
def InterpSameUptoCardSaid : Prop := Claim7.holds Tryd.pinned (.plain (OpenSpec.upto interpSameSpec)) interpSameUptoCard

/-- THE SECOND FORM's CARD OF 'drydocklaw08.CourseBudget'. -/
def courseBudgetUptoCard : Claim7 := { stood := { row := courseBudgetUptoRow, standIns := [], harness := (true, "06c1961827986d8c8e50d4b984e0c9bf0d6611e5e24705ee5aae201a4df00376"), looks := false }, kinds := [], alts := [], laidByText := true, laidKinds := [.data], laidTests := true, laidLooks := .later }
def CourseBudgetUptoCardSaid : Prop := Claim7.holds Tryd.pinned (.plain (OpenSpec.upto courseBudgetSpec)) courseBudgetUptoCard
end Rows
end Go.Proofs.YtilddlgcfbefiaaDoor
