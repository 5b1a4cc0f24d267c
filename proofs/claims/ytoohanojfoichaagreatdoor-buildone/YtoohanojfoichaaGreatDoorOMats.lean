import Derived.Test.YtoohanojfoichaaGreatDoorOJBase
import Derived.Deep.Matrix
import Derived.ProofKit
set_option linter.unusedVariables false
namespace Go.Proofs.YtoohanojfoichaaGreatDoor
open Go.RowKit Go.Maps Go.ChangeShapes Go.WideShapes Go.ChangeAt
open Lz (g)
theorem infoBytes : (Tryz.prog.info? 25).map (fun i => (i.zero, i.size, i.bytes)) = some (some (.slice none 0 0), 1, 24) := by kernel_rfl
end Go.Proofs.YtoohanojfoichaaGreatDoor
