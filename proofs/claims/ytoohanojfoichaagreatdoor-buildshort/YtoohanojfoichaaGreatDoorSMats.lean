/- What the proof stands on: Mats, with what the proof reaches of it. -/
import Derived.Test.YtoohanojfoichaaGreatDoorSJBase
import Derived.Deep.Matrix
import Derived.ProofKit

/- Slices of slices of bytes: one that came in, opened; one of the call's own. -/
namespace Go.Proofs.YtoohanojfoichaaGreatDoor
set_option linter.unusedVariables false
open Go.RowKit Go.Maps Go.ChangeShapes Go.WideShapes Go.ChangeAt
open Lz (g)

theorem infoBytes : (Tryz.prog.info? 25).map (fun i => (i.zero, i.size, i.bytes)) = some (some (.slice none 0 0), 1, 24) := by kernel_rfl
end Go.Proofs.YtoohanojfoichaaGreatDoor
