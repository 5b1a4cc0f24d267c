/-
  DERIVED. GIVEN WITH THE SEED: THE CARDS: each row of YthghodmjpdooaaaDoorRows.lean that lists a variable, with what it lists TIED to the program's text (the seventh form; the later family's looks); each row that meets fmt, with fmt's text TOLD by the authors' own Lean function (tested against real Go, not proved from fmt's source: count such statements apart). THE CARD IS WHAT COUNTS. Prove the row's statement (the work); the ties are given (YthghodmjpdooaaaDoorTie.lean); close each card by the builder's one call (the guide's Derived/Test/ToyasCard.lean, 'card_holds'). Laid BY PROGRAM, IN A SANDBOX (cutbox-door.mjs). By AI agents, Wed Nov 11 2026. No macro, syntax, notation, axiom, sorry.
-/
import Derived.Test.YthghodmjpdooaaaDoorRows
import GoSem.ClaimSeven
namespace Go.Proofs.YthghodmjpdooaaaDoor
namespace Rows

/-- THE TIED CARD OF 'lamellalaw08.SuperPuts'. -/
def superPutsCard : Claim7 := { stood := { row := superPutsRow, standIns := [], harness := (true, "1d10f876d42ff389ab653359da977d18e11526a7d44c562cedd977dd40b5094a"), looks := false }, kinds := [], alts := [], laidByText := true, laidKinds := [.data], laidTests := true, laidLooks := .later }
def SuperPutsCardSaid : Prop := Claim7.holds Tryd.pinned (.plain (OpenSpec.ofChange superPutsSpec)) superPutsCard

/-- THE TIED CARD OF 'lamellalaw08.SuperTakes'. -/
def superTakesCard : Claim7 := { stood := { row := superTakesRow, standIns := [], harness := (true, "1d10f876d42ff389ab653359da977d18e11526a7d44c562cedd977dd40b5094a"), looks := false }, kinds := [], alts := [], laidByText := true, laidKinds := [.data], laidTests := true, laidLooks := .later }
def SuperTakesCardSaid : Prop := Claim7.holds Tryd.pinned (.plain (OpenSpec.ofChange superTakesSpec)) superTakesCard

/-- THE TIED CARD OF 'lamellalaw08.SuperBack'. -/
def superBackCard : Claim7 := { stood := { row := superBackRow, standIns := [], harness := (true, "1d10f876d42ff389ab653359da977d18e11526a7d44c562cedd977dd40b5094a"), looks := false }, kinds := [], alts := [], laidByText := true, laidKinds := [.data], laidTests := true, laidLooks := .later }
def SuperBackCardSaid : Prop := Claim7.holds Tryd.pinned (.plain (OpenSpec.ofChange superBackSpec)) superBackCard

/-- THE TIED CARD OF 'lamellalaw08.SuperTurned'. -/
def superTurnedCard : Claim7 := { stood := { row := superTurnedRow, standIns := [], harness := (true, "1d10f876d42ff389ab653359da977d18e11526a7d44c562cedd977dd40b5094a"), looks := false }, kinds := [], alts := [], laidByText := true, laidKinds := [.data], laidTests := true, laidLooks := .later }
def SuperTurnedCardSaid : Prop := Claim7.holds Tryd.pinned (.plain (OpenSpec.ofChange superTurnedSpec)) superTurnedCard

/-- THE TIED CARD OF 'lamellalaw08.SuperCut'. -/
def superCutCard : Claim7 := { stood := { row := superCutRow, standIns := [], harness := (true, "1d10f876d42ff389ab653359da977d18e11526a7d44c562cedd977dd40b5094a"), looks := false }, kinds := [], alts := [], laidByText := true, laidKinds := [.data], laidTests := true, laidLooks := .later }
def SuperCutCardSaid : Prop := Claim7.holds Tryd.pinned (.plain (OpenSpec.ofChange superCutSpec)) superCutCard

/-- THE SECOND FORM's CARD OF 'lamellalaw08.SuperPuts'. -/
def superPutsUptoCard : Claim7 := { stood := { row := superPutsUptoRow, standIns := [], harness := (true, "1d10f876d42ff389ab653359da977d18e11526a7d44c562cedd977dd40b5094a"), looks := false }, kinds := [], alts := [], laidByText := true, laidKinds := [.data], laidTests := true, laidLooks := .later }
def SuperPutsUptoCardSaid : Prop := Claim7.holds Tryd.pinned (.plain (OpenSpec.upto superPutsSpec)) superPutsUptoCard

/-- THE SECOND FORM's CARD OF 'lamellalaw08.SuperTakes'. -/
def superTakesUptoCard : Claim7 := { stood := { row := superTakesUptoRow, standIns := [], harness := (true, "1d10f876d42ff389ab653359da977d18e11526a7d44c562cedd977dd40b5094a"), looks := false }, kinds := [], alts := [], laidByText := true, laidKinds := [.data], laidTests := true, laidLooks := .later }
def SuperTakesUptoCardSaid : Prop := Claim7.holds Tryd.pinned (.plain (OpenSpec.upto superTakesSpec)) superTakesUptoCard

/-- THE SECOND FORM's CARD OF 'lamellalaw08.SuperBack'. -/
def superBackUptoCard : Claim7 := { stood := { row := superBackUptoRow, standIns := [], harness := (true, "1d10f876d42ff389ab653359da977d18e11526a7d44c562cedd977dd40b5094a"), looks := false }, kinds := [], alts := [], laidByText := true, laidKinds := [.data], laidTests := true, laidLooks := .later }
def SuperBackUptoCardSaid : Prop := Claim7.holds Tryd.pinned (.plain (OpenSpec.upto superBackSpec)) superBackUptoCard

/-- THE SECOND FORM's CARD OF 'lamellalaw08.SuperTurned'. -/
def superTurnedUptoCard : Claim7 := { stood := { row := superTurnedUptoRow, standIns := [], harness := (true, "1d10f876d42ff389ab653359da977d18e11526a7d44c562cedd977dd40b5094a"), looks := false }, kinds := [], alts := [], laidByText := true, laidKinds := [.data], laidTests := true, laidLooks := .later }
def SuperTurnedUptoCardSaid : Prop := Claim7.holds Tryd.pinned (.plain (OpenSpec.upto superTurnedSpec)) superTurnedUptoCard

/-- THE SECOND FORM's CARD OF 'lamellalaw08.SuperCut'. -/
def superCutUptoCard : Claim7 := { stood := { row := superCutUptoRow, standIns := [], harness := (true, "1d10f876d42ff389ab653359da977d18e11526a7d44c562cedd977dd40b5094a"), looks := false }, kinds := [], alts := [], laidByText := true, laidKinds := [.data], laidTests := true, laidLooks := .later }
def SuperCutUptoCardSaid : Prop := Claim7.holds Tryd.pinned (.plain (OpenSpec.upto superCutSpec)) superCutUptoCard
end Rows
end Go.Proofs.YthghodmjpdooaaaDoor
