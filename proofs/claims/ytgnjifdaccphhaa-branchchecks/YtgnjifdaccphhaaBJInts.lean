import Derived.Test.YtgnjifdaccphhaaBJBase
import Derived.ProofKit
import Derived.OpenShut
set_option linter.unusedVariables false
namespace Go.Proofs.Ytgnjifdaccphhaa
set_option maxRecDepth 100000
open Go.RowKit Go.Maps Go.ChangeShapes Go.WideShapes Go.ChangeAt
end Go.Proofs.Ytgnjifdaccphhaa
namespace Go.Proofs.Ytgnjifdaccphhaa
open Go.RowKit Go.Maps
open Lz (g)
end Go.Proofs.Ytgnjifdaccphhaa
