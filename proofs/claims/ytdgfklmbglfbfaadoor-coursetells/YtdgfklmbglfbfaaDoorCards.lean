/-
  DERIVED. GIVEN WITH THE SEED: THE CARDS: each row of YtdgfklmbglfbfaaDoorRows.lean that lists a variable, with what it lists TIED to the program's text (the seventh form; the later family's looks); each row that meets fmt, with fmt's text TOLD by the authors' own Lean function (tested against real Go, not proved from fmt's source: count such statements apart). THE CARD IS WHAT COUNTS. Prove the row's statement (the work); the ties are given (YtdgfklmbglfbfaaDoorTie.lean); close each card by the builder's one call (the guide's Derived/Test/ToyasCard.lean, 'card_holds'). Laid BY PROGRAM, IN A SANDBOX (cutbox-door.mjs). By AI agents, Wed Nov 11 2026. No macro, syntax, notation, axiom, sorry.
-/
import Derived.Test.YtdgfklmbglfbfaaDoorRows
import GoSem.ClaimSeven
namespace Go.Proofs.YtdgfklmbglfbfaaDoor
namespace Rows

/-- THE TIED CARD OF 'drydocklaw08.CourseTells'. -/
def courseTellsCard : Claim7 := { stood := { row := courseTellsRow, standIns := [], harness := (true, "7d0a0e285f706a861ae4768e5e684a9390231320807c5470609f1b673339f244"), looks := false }, kinds := [], alts := [], laidByText := true, laidKinds := [.data], laidTests := true, laidLooks := .later }
def CourseTellsCardSaid : Prop := Claim7.holds Tryd.pinned (.plain (OpenSpec.ofChange courseTellsSpec)) courseTellsCard

/-- THE TIED CARD OF 'drydocklaw08.CourseForward'. -/
def courseForwardCard : Claim7 := { stood := { row := courseForwardRow, standIns := [], harness := (true, "7d0a0e285f706a861ae4768e5e684a9390231320807c5470609f1b673339f244"), looks := false }, kinds := [], alts := [], laidByText := true, laidKinds := [.data], laidTests := true, laidLooks := .later }
def CourseForwardCardSaid : Prop := Claim7.holds Tryd.pinned (.plain (OpenSpec.ofChange courseForwardSpec)) courseForwardCard

/-- THE TIED CARD OF 'drydocklaw08.CourseBudget'. -/
def courseBudgetCard : Claim7 := { stood := { row := courseBudgetRow, standIns := [], harness := (true, "7d0a0e285f706a861ae4768e5e684a9390231320807c5470609f1b673339f244"), looks := false }, kinds := [], alts := [], laidByText := true, laidKinds := [.data], laidTests := true, laidLooks := .later }
def CourseBudgetCardSaid : Prop := Claim7.holds Tryd.pinned (.plain (OpenSpec.ofChange courseBudgetSpec)) courseBudgetCard

/-- THE TIED CARD OF 'drydocklaw08.CourseCosts'. -/
def courseCostsCard : Claim7 := { stood := { row := courseCostsRow, standIns := [], harness := (true, "7d0a0e285f706a861ae4768e5e684a9390231320807c5470609f1b673339f244"), looks := false }, kinds := [], alts := [], laidByText := true, laidKinds := [.data], laidTests := true, laidLooks := .later }
def CourseCostsCardSaid : Prop := Claim7.holds Tryd.pinned (.plain (OpenSpec.ofChange courseCostsSpec)) courseCostsCard

/-- THE TIED CARD OF 'drydocklaw08.CourseTail'. -/
def courseTailCard : Claim7 := { stood := { row := courseTailRow, standIns := [], harness := (true, "7d0a0e285f706a861ae4768e5e684a9390231320807c5470609f1b673339f244"), looks := false }, kinds := [], alts := [], laidByText := true, laidKinds := [.data], laidTests := true, laidLooks := .later }
def CourseTailCardSaid : Prop := Claim7.holds Tryd.pinned (.plain (OpenSpec.ofChange courseTailSpec)) courseTailCard

/-- THE TIED CARD OF 'drydocklaw08.CourseFine'. -/
def courseFineCard : Claim7 := { stood := { row := courseFineRow, standIns := [], harness := (true, "7d0a0e285f706a861ae4768e5e684a9390231320807c5470609f1b673339f244"), looks := false }, kinds := [], alts := [], laidByText := true, laidKinds := [.data], laidTests := true, laidLooks := .later }
def CourseFineCardSaid : Prop := Claim7.holds Tryd.pinned (.plain (OpenSpec.ofChange courseFineSpec)) courseFineCard

/-- THE SECOND FORM's CARD OF 'drydocklaw08.CourseTells'. -/
def courseTellsUptoCard : Claim7 := { stood := { row := courseTellsUptoRow, standIns := [], harness := (true, "7d0a0e285f706a861ae4768e5e684a9390231320807c5470609f1b673339f244"), looks := false }, kinds := [], alts := [], laidByText := true, laidKinds := [.data], laidTests := true, laidLooks := .later }
def CourseTellsUptoCardSaid : Prop := Claim7.holds Tryd.pinned (.plain (OpenSpec.upto courseTellsSpec)) courseTellsUptoCard

/-- THE SECOND FORM's CARD OF 'drydocklaw08.CourseForward'. -/
def courseForwardUptoCard : Claim7 := { stood := { row := courseForwardUptoRow, standIns := [], harness := (true, "7d0a0e285f706a861ae4768e5e684a9390231320807c5470609f1b673339f244"), looks := false }, kinds := [], alts := [], laidByText := true, laidKinds := [.data], laidTests := true, laidLooks := .later }
def CourseForwardUptoCardSaid : Prop := Claim7.holds Tryd.pinned (.plain (OpenSpec.upto courseForwardSpec)) courseForwardUptoCard

/-- THE SECOND FORM's CARD OF 'drydocklaw08.CourseBudget'. -/
def courseBudgetUptoCard : Claim7 := { stood := { row := courseBudgetUptoRow, standIns := [], harness := (true, "7d0a0e285f706a861ae4768e5e684a9390231320807c5470609f1b673339f244"), looks := false }, kinds := [], alts := [], laidByText := true, laidKinds := [.data], laidTests := true, laidLooks := .later }
def CourseBudgetUptoCardSaid : Prop := Claim7.holds Tryd.pinned (.plain (OpenSpec.upto courseBudgetSpec)) courseBudgetUptoCard

/-- THE SECOND FORM's CARD OF 'drydocklaw08.CourseCosts'. -/
def courseCostsUptoCard : Claim7 := { stood := { row := courseCostsUptoRow, standIns := [], harness := (true, "7d0a0e285f706a861ae4768e5e684a9390231320807c5470609f1b673339f244"), looks := false }, kinds := [], alts := [], laidByText := true, laidKinds := [.data], laidTests := true, laidLooks := .later }
def CourseCostsUptoCardSaid : Prop := Claim7.holds Tryd.pinned (.plain (OpenSpec.upto courseCostsSpec)) courseCostsUptoCard

/-- THE SECOND FORM's CARD OF 'drydocklaw08.CourseTail'. -/
def courseTailUptoCard : Claim7 := { stood := { row := courseTailUptoRow, standIns := [], harness := (true, "7d0a0e285f706a861ae4768e5e684a9390231320807c5470609f1b673339f244"), looks := false }, kinds := [], alts := [], laidByText := true, laidKinds := [.data], laidTests := true, laidLooks := .later }
def CourseTailUptoCardSaid : Prop := Claim7.holds Tryd.pinned (.plain (OpenSpec.upto courseTailSpec)) courseTailUptoCard

/-- THE SECOND FORM's CARD OF 'drydocklaw08.CourseFine'. -/
def courseFineUptoCard : Claim7 := { stood := { row := courseFineUptoRow, standIns := [], harness := (true, "7d0a0e285f706a861ae4768e5e684a9390231320807c5470609f1b673339f244"), looks := false }, kinds := [], alts := [], laidByText := true, laidKinds := [.data], laidTests := true, laidLooks := .later }
def CourseFineUptoCardSaid : Prop := Claim7.holds Tryd.pinned (.plain (OpenSpec.upto courseFineSpec)) courseFineUptoCard
end Rows
end Go.Proofs.YtdgfklmbglfbfaaDoor
