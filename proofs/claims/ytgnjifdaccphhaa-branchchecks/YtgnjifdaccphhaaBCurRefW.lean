import Derived.Test.YtgnjifdaccphhaaBJBase
import Derived.Deep.RegionLaw
set_option linter.unusedVariables false
namespace Go.Proofs.Ytgnjifdaccphhaa
open Go.RowKit Go.Maps
open Lz (g)
open Cur
end Go.Proofs.Ytgnjifdaccphhaa
