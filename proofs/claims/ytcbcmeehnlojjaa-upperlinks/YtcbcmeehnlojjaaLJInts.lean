import Derived.Test.YtcbcmeehnlojjaaLJBase
import Derived.ProofKit
import Derived.OpenShut
set_option linter.unusedVariables false
namespace Go.Proofs.Ytcbcmeehnlojjaa
set_option maxRecDepth 100000
open Go.RowKit Go.Maps Go.ChangeShapes Go.WideShapes Go.ChangeAt
end Go.Proofs.Ytcbcmeehnlojjaa
namespace Go.Proofs.Ytcbcmeehnlojjaa
open Go.RowKit Go.Maps
open Lz (g)
end Go.Proofs.Ytcbcmeehnlojjaa
