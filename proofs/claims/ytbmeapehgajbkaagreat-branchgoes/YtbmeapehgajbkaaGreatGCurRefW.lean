import Derived.Test.YtbmeapehgajbkaaGreatGJBase
import Derived.Deep.RegionLaw
set_option linter.unusedVariables false
namespace Go.Proofs.YtbmeapehgajbkaaGreat
open Go.RowKit Go.Maps
open Lz (g)
open Cur
end Go.Proofs.YtbmeapehgajbkaaGreat
