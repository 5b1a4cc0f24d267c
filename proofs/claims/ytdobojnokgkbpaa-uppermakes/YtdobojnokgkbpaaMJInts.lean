import Derived.Test.YtdobojnokgkbpaaMJBase
import Derived.ProofKit
import Derived.OpenShut
set_option linter.unusedVariables false
namespace Go.Proofs.Ytdobojnokgkbpaa
set_option maxRecDepth 100000
open Go.RowKit Go.Maps Go.ChangeShapes Go.WideShapes Go.ChangeAt
end Go.Proofs.Ytdobojnokgkbpaa
namespace Go.Proofs.Ytdobojnokgkbpaa
open Go.RowKit Go.Maps
open Lz (g)
end Go.Proofs.Ytdobojnokgkbpaa
