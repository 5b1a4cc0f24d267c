/-
  NARROWER THAN 'FOR EVERY INPUT', by the rows' own cells (each row's printed sentence says how): SuperPuts: laid · SuperTakes: laid · SuperBack: laid · SuperTurned: laid · SuperCut: laid.
  DERIVED. THE GIVEN ROWS OF THIS SEAT. 5 by the template 'for every input the law returns true; each argument reads behind the call as it read before'; 0 by the template 'total and deterministic' (their statements: YthghodmjpdooaaaDoorTotals.lean).
  GIVEN WITH THE SEED: the statements are not yours to turn. If you find one false, say at which input.
  Laid BY PROGRAM, IN A SANDBOX (cutbox-rows.mjs): the forced cells as the released guide's own fill.sh prints them over the translation 853f790b0dc98397… (all of the seat's roots in one cut). By AI agents, Wed Nov 11 2026. No macro, syntax, notation, axiom, sorry.
-/
import Derived.Test.YthghodmjpdooaaaDoorChecked
import GoSem.Claim
import GoSem.ClaimJoined
import GoSem.ClaimMapViews
import Derived.JoinedTies
import Derived.KernelRfl
namespace Go.Proofs.YthghodmjpdooaaaDoor
/- THE CELL 'sum', in the pinned program and in every row, IS THE sha256 OF THE DUMP (.gsa) THAT YthghodmjpdooaaaDoorProg.lean LOADS. Nothing in Lean hashes anything: it is a label: what it is worth is what the hold of that sum in a sandbox is worth. -/
noncomputable def Tryd.pinned : Pinned := { name := "ythghodmjpdooaaadoor", sum := "853f790b0dc983971f6beec9a873417b9d932e2bd3000f87e5af29b40ca6d603", checked := Tryd.checked }
namespace Rows
def none {H : Type} : Left H := { results := [], args := [] }

/- WHAT THE LISTED PACKAGE-LEVEL VARIABLES READ AS WHEN THE CALL BEGINS. Each datum BY PROGRAM (the guide's laid-datum.mjs) off the statement by which the dump's own 'gosem.cut.vars' lays the variable. In a bare row this is a premise. The card (YthghodmjpdooaaaDoorCards.lean) ties it to the program's text. -/
def laid_lamella_super_widths {H : Type} : DataW H := .agg [.lit (.int .i64 4), .lit (.int .i64 4), .lit (.int .i64 4), .lit (.int .i64 4), .lit (.int .i64 4), .lit (.int .i64 4), .lit (.int .i64 4), .lit (.int .i64 2), .lit (.int .i64 2), .lit (.int .i64 2)]

/-- 'lamellalaw08.SuperPuts': WHATEVER THE INPUT: true; the input reads as it did. -/
def superPutsSpec : ChangeSpec := { name := "superPuts", fn := fun _ => fun
  | [d] => { results := [.lit (.bool true)], args := [d] }
  | _ => none }
def superPutsRow : OpenClaim := { program := "ythghodmjpdooaaadoor", sum := "853f790b0dc983971f6beec9a873417b9d932e2bd3000f87e5af29b40ca6d603", func := "lamella/lamellalaw08.SuperPuts", spec := "superPuts", named := ["lamella/super.widths"], apart := false, laid := [("lamella/super.widths", laid_lamella_super_widths)] }
def SuperPutsSaid : Prop := superPutsRow.holds Tryd.pinned (OpenSpec.ofChange superPutsSpec)

/-- ITS FALSE NEIGHBOUR: 'it returns false'. Refute it at one input. -/
def superPutsWrong : ChangeSpec := { name := "superPuts", fn := fun _ => fun
  | [d] => { results := [.lit (.bool false)], args := [d] }
  | _ => none }
def SuperPutsWrongFalsely : Prop := superPutsRow.holds Tryd.pinned (OpenSpec.ofChange superPutsWrong)

/-- 'lamellalaw08.SuperTakes': WHATEVER THE INPUT: true; the input reads as it did. -/
def superTakesSpec : ChangeSpec := { name := "superTakes", fn := fun _ => fun
  | [d] => { results := [.lit (.bool true)], args := [d] }
  | _ => none }
def superTakesRow : OpenClaim := { program := "ythghodmjpdooaaadoor", sum := "853f790b0dc983971f6beec9a873417b9d932e2bd3000f87e5af29b40ca6d603", func := "lamella/lamellalaw08.SuperTakes", spec := "superTakes", named := ["lamella/super.widths"], apart := false, laid := [("lamella/super.widths", laid_lamella_super_widths)] }
def SuperTakesSaid : Prop := superTakesRow.holds Tryd.pinned (OpenSpec.ofChange superTakesSpec)

/-- ITS FALSE NEIGHBOUR: 'it returns false'. Refute it at one input. -/
def superTakesWrong : ChangeSpec := { name := "superTakes", fn := fun _ => fun
  | [d] => { results := [.lit (.bool false)], args := [d] }
  | _ => none }
def SuperTakesWrongFalsely : Prop := superTakesRow.holds Tryd.pinned (OpenSpec.ofChange superTakesWrong)

/-- 'lamellalaw08.SuperBack': WHATEVER THE INPUT: true; the input reads as it did. -/
def superBackSpec : ChangeSpec := { name := "superBack", fn := fun _ => fun
  | [d1, d2] => { results := [.lit (.bool true)], args := [d1, d2] }
  | _ => none }
def superBackRow : OpenClaim := { program := "ythghodmjpdooaaadoor", sum := "853f790b0dc983971f6beec9a873417b9d932e2bd3000f87e5af29b40ca6d603", func := "lamella/lamellalaw08.SuperBack", spec := "superBack", named := ["lamella/super.widths"], apart := false, laid := [("lamella/super.widths", laid_lamella_super_widths)] }
def SuperBackSaid : Prop := superBackRow.holds Tryd.pinned (OpenSpec.ofChange superBackSpec)

/-- ITS FALSE NEIGHBOUR: 'it returns false'. Refute it at one input. -/
def superBackWrong : ChangeSpec := { name := "superBack", fn := fun _ => fun
  | [d1, d2] => { results := [.lit (.bool false)], args := [d1, d2] }
  | _ => none }
def SuperBackWrongFalsely : Prop := superBackRow.holds Tryd.pinned (OpenSpec.ofChange superBackWrong)

/-- 'lamellalaw08.SuperTurned': WHATEVER THE INPUT: true; the input reads as it did. -/
def superTurnedSpec : ChangeSpec := { name := "superTurned", fn := fun _ => fun
  | [d1, d2, d3] => { results := [.lit (.bool true)], args := [d1, d2, d3] }
  | _ => none }
def superTurnedRow : OpenClaim := { program := "ythghodmjpdooaaadoor", sum := "853f790b0dc983971f6beec9a873417b9d932e2bd3000f87e5af29b40ca6d603", func := "lamella/lamellalaw08.SuperTurned", spec := "superTurned", named := ["lamella/super.widths"], apart := false, laid := [("lamella/super.widths", laid_lamella_super_widths)] }
def SuperTurnedSaid : Prop := superTurnedRow.holds Tryd.pinned (OpenSpec.ofChange superTurnedSpec)

/-- ITS FALSE NEIGHBOUR: 'it returns false'. Refute it at one input. -/
def superTurnedWrong : ChangeSpec := { name := "superTurned", fn := fun _ => fun
  | [d1, d2, d3] => { results := [.lit (.bool false)], args := [d1, d2, d3] }
  | _ => none }
def SuperTurnedWrongFalsely : Prop := superTurnedRow.holds Tryd.pinned (OpenSpec.ofChange superTurnedWrong)

/-- 'lamellalaw08.SuperCut': WHATEVER THE INPUT: true; the input reads as it did. -/
def superCutSpec : ChangeSpec := { name := "superCut", fn := fun _ => fun
  | [d] => { results := [.lit (.bool true)], args := [d] }
  | _ => none }
def superCutRow : OpenClaim := { program := "ythghodmjpdooaaadoor", sum := "853f790b0dc983971f6beec9a873417b9d932e2bd3000f87e5af29b40ca6d603", func := "lamella/lamellalaw08.SuperCut", spec := "superCut", named := ["lamella/super.widths"], apart := false, laid := [("lamella/super.widths", laid_lamella_super_widths)] }
def SuperCutSaid : Prop := superCutRow.holds Tryd.pinned (OpenSpec.ofChange superCutSpec)

/-- ITS FALSE NEIGHBOUR: 'it returns false'. Refute it at one input. -/
def superCutWrong : ChangeSpec := { name := "superCut", fn := fun _ => fun
  | [d] => { results := [.lit (.bool false)], args := [d] }
  | _ => none }
def SuperCutWrongFalsely : Prop := superCutRow.holds Tryd.pinned (OpenSpec.ofChange superCutWrong)

/- THE SECOND FORM. 'bulk': how many values and letters a reading holds, each counted each time it is reached (what is shared counts as often as it is met; a slice's spare places count too). A statement '..UptoSaid' is the law's where the arguments, and the package variables that the reading takes, are together of bulk at most 1048576: NARROWER than '..Said'. Prove '..Said' where nothing that the law and all that it calls make is longer than what came in: it says more and counts as full. Else prove '..UptoSaid'. A law counts once. -/
mutual
def uptoBulk {H : Type} : DataW H → Nat
  | .lit (.string bytes) => bytes.length + 1
  | .lit _ => 1
  | .nil => 1
  | .ptr d => uptoBulk d + 1
  | .slice elems spare => uptoBulkAll elems + uptoBulkAll spare + 1
  | .agg parts => uptoBulkAll parts + 1
  | .iface _ d => uptoBulk d + 1
  | .map entries => uptoBulkEntries entries + 1
  | .held _ => 1
def uptoBulkAll {H : Type} : List (DataW H) → Nat
  | [] => 0
  | d :: r => uptoBulk d + uptoBulkAll r
def uptoBulkEntries {H : Type} : List (Lit × DataW H) → Nat
  | [] => 0
  | x :: r => uptoBulkEntry x + uptoBulkEntries r
def uptoBulkEntry {H : Type} : Lit × DataW H → Nat
  | (.string bytes, d) => bytes.length + uptoBulk d + 1
  | (_, d) => uptoBulk d + 1
 end
def uptoSmall : (H : Type) → List (DataW H) → Bool := fun _ ds => decide (uptoBulkAll ds ≤ 1048576)
def OpenSpec.upto (s : _root_.Go.ChangeSpec) : _root_.Go.OpenSpec := { _root_.Go.OpenSpec.ofChange s with cond := some uptoSmall }

/-- 'lamellalaw08.SuperPuts', WHERE WHAT IT READS IS OF BULK AT MOST 1048576: true; the input reads as it did. -/
def superPutsUptoRow : OpenClaim := { program := "ythghodmjpdooaaadoor", sum := "853f790b0dc983971f6beec9a873417b9d932e2bd3000f87e5af29b40ca6d603", func := "lamella/lamellalaw08.SuperPuts", spec := "superPuts", named := ["lamella/super.widths"], apart := false, laid := [("lamella/super.widths", laid_lamella_super_widths)], narrowed := true }
def SuperPutsUptoSaid : Prop := superPutsUptoRow.holds Tryd.pinned (OpenSpec.upto superPutsSpec)

/-- 'lamellalaw08.SuperTakes', WHERE WHAT IT READS IS OF BULK AT MOST 1048576: true; the input reads as it did. -/
def superTakesUptoRow : OpenClaim := { program := "ythghodmjpdooaaadoor", sum := "853f790b0dc983971f6beec9a873417b9d932e2bd3000f87e5af29b40ca6d603", func := "lamella/lamellalaw08.SuperTakes", spec := "superTakes", named := ["lamella/super.widths"], apart := false, laid := [("lamella/super.widths", laid_lamella_super_widths)], narrowed := true }
def SuperTakesUptoSaid : Prop := superTakesUptoRow.holds Tryd.pinned (OpenSpec.upto superTakesSpec)

/-- 'lamellalaw08.SuperBack', WHERE WHAT IT READS IS OF BULK AT MOST 1048576: true; the input reads as it did. -/
def superBackUptoRow : OpenClaim := { program := "ythghodmjpdooaaadoor", sum := "853f790b0dc983971f6beec9a873417b9d932e2bd3000f87e5af29b40ca6d603", func := "lamella/lamellalaw08.SuperBack", spec := "superBack", named := ["lamella/super.widths"], apart := false, laid := [("lamella/super.widths", laid_lamella_super_widths)], narrowed := true }
def SuperBackUptoSaid : Prop := superBackUptoRow.holds Tryd.pinned (OpenSpec.upto superBackSpec)

/-- 'lamellalaw08.SuperTurned', WHERE WHAT IT READS IS OF BULK AT MOST 1048576: true; the input reads as it did. -/
def superTurnedUptoRow : OpenClaim := { program := "ythghodmjpdooaaadoor", sum := "853f790b0dc983971f6beec9a873417b9d932e2bd3000f87e5af29b40ca6d603", func := "lamella/lamellalaw08.SuperTurned", spec := "superTurned", named := ["lamella/super.widths"], apart := false, laid := [("lamella/super.widths", laid_lamella_super_widths)], narrowed := true }
def SuperTurnedUptoSaid : Prop := superTurnedUptoRow.holds Tryd.pinned (OpenSpec.upto superTurnedSpec)

/-- 'lamellalaw08.SuperCut', WHERE WHAT IT READS IS OF BULK AT MOST 1048576: true; the input reads as it did. -/
def superCutUptoRow : OpenClaim := { program := "ythghodmjpdooaaadoor", sum := "853f790b0dc983971f6beec9a873417b9d932e2bd3000f87e5af29b40ca6d603", func := "lamella/lamellalaw08.SuperCut", spec := "superCut", named := ["lamella/super.widths"], apart := false, laid := [("lamella/super.widths", laid_lamella_super_widths)], narrowed := true }
def SuperCutUptoSaid : Prop := superCutUptoRow.holds Tryd.pinned (OpenSpec.upto superCutSpec)

end Rows
end Go.Proofs.YthghodmjpdooaaaDoor
