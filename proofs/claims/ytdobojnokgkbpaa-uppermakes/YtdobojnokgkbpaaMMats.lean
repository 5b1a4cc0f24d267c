import Derived.Test.YtdobojnokgkbpaaMJBase
import Derived.Deep.Matrix
import Derived.ProofKit
set_option linter.unusedVariables false
namespace Go.Proofs.Ytdobojnokgkbpaa
open Go.RowKit Go.Maps Go.ChangeShapes Go.WideShapes Go.ChangeAt
open Lz (g)
end Go.Proofs.Ytdobojnokgkbpaa
