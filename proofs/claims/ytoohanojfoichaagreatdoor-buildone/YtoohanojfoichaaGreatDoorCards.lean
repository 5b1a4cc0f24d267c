/-
  DERIVED. GIVEN WITH THE SEED: THE CARDS: each row of YtoohanojfoichaaGreatDoorRows.lean that lists a variable, with what it lists TIED to the program's text (the seventh form; the later family's looks); each row that meets fmt, with fmt's text TOLD by the authors' own Lean function (tested against real Go, not proved from fmt's source: count such statements apart). THE CARD IS WHAT COUNTS. Prove the row's statement (the work); the ties are given (YtoohanojfoichaaGreatDoorTie.lean); close each card by the builder's one call (the guide's Derived/Test/ToyasCard.lean, 'card_holds'). Laid BY PROGRAM, IN A SANDBOX (cutbox-door.mjs). By AI agents, Wed Nov 11 2026. No macro, syntax, notation, axiom, sorry.
-/
import Derived.Test.YtoohanojfoichaaGreatDoorRows
import GoSem.ClaimSeven
namespace Go.Proofs.YtoohanojfoichaaGreatDoor
namespace Rows

/-- THE TIED CARD OF 'lamellalaw14.BuildShort'. -/
def buildShortCard : Claim7 := { stood := { row := buildShortRow, standIns := [], harness := (true, "7e39d82880e8e5424c4a602a14f4d13b7a364f74c73ae8ee8ecdf34cb2dcb884"), looks := false }, kinds := [], alts := [], laidByText := true, laidKinds := [.data], laidTests := true, laidLooks := .later }
def BuildShortCardSaid : Prop := Claim7.holds Tryz.pinned (.plain (OpenSpec.ofChange buildShortSpec)) buildShortCard

/-- THE TIED CARD OF 'lamellalaw14.BuildOne'. -/
def buildOneCard : Claim7 := { stood := { row := buildOneRow, standIns := [], harness := (true, "7e39d82880e8e5424c4a602a14f4d13b7a364f74c73ae8ee8ecdf34cb2dcb884"), looks := false }, kinds := [], alts := [], laidByText := true, laidKinds := [.data], laidTests := true, laidLooks := .later }
def BuildOneCardSaid : Prop := Claim7.holds Tryz.pinned (.plain (OpenSpec.ofChange buildOneSpec)) buildOneCard

/-- THE SECOND FORM's CARD OF 'lamellalaw14.BuildShort'. -/
def buildShortUptoCard : Claim7 := { stood := { row := buildShortUptoRow, standIns := [], harness := (true, "7e39d82880e8e5424c4a602a14f4d13b7a364f74c73ae8ee8ecdf34cb2dcb884"), looks := false }, kinds := [], alts := [], laidByText := true, laidKinds := [.data], laidTests := true, laidLooks := .later }
def BuildShortUptoCardSaid : Prop := Claim7.holds Tryz.pinned (.plain (OpenSpec.upto buildShortSpec)) buildShortUptoCard

/-- THE SECOND FORM's CARD OF 'lamellalaw14.BuildOne'. -/
def buildOneUptoCard : Claim7 := { stood := { row := buildOneUptoRow, standIns := [], harness := (true, "7e39d82880e8e5424c4a602a14f4d13b7a364f74c73ae8ee8ecdf34cb2dcb884"), looks := false }, kinds := [], alts := [], laidByText := true, laidKinds := [.data], laidTests := true, laidLooks := .later }
def BuildOneUptoCardSaid : Prop := Claim7.holds Tryz.pinned (.plain (OpenSpec.upto buildOneSpec)) buildOneUptoCard
end Rows
end Go.Proofs.YtoohanojfoichaaGreatDoor
