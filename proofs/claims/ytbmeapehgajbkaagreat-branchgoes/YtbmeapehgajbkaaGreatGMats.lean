import Derived.Test.YtbmeapehgajbkaaGreatGJBase
import Derived.Deep.Matrix
import Derived.ProofKit
set_option linter.unusedVariables false
namespace Go.Proofs.YtbmeapehgajbkaaGreat
open Go.RowKit Go.Maps Go.ChangeShapes Go.WideShapes Go.ChangeAt
open Lz (g)
end Go.Proofs.YtbmeapehgajbkaaGreat
