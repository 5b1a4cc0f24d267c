import Derived.Test.YtdobojnokgkbpaaMJTabXat
import Derived.Deep.CutBlock
set_option linter.unusedVariables false
namespace Go.Proofs.Ytdobojnokgkbpaa
open Go.RowKit Go.Maps
open Nam Tre Tab
open Lz (g)
namespace Upr
end Upr
end Go.Proofs.Ytdobojnokgkbpaa
