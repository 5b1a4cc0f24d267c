import Derived.Test.YtdobojnokgkbpaaMJBase
import Derived.Deep.RegionLaw
set_option linter.unusedVariables false
namespace Go.Proofs.Ytdobojnokgkbpaa
open Go.RowKit Go.Maps
open Lz (g)
open Cur
end Go.Proofs.Ytdobojnokgkbpaa
