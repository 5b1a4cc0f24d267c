import Derived.Test.YtdobojnokgkbpaaMJNamRow
import Derived.Laws.CopyOwn
set_option linter.unusedVariables false
namespace Go.Proofs.Ytdobojnokgkbpaa
open Go.RowKit Go.Maps
open Nam Tre
open Lz (g)
namespace Upr
end Upr
end Go.Proofs.Ytdobojnokgkbpaa
