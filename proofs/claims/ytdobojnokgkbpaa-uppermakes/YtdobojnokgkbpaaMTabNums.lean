import Derived.Test.YtdobojnokgkbpaaMJInts
import Derived.Test.YtdobojnokgkbpaaMJCurNew
import Derived.Test.YtdobojnokgkbpaaMCurRefW
import Derived.BigQuiet
set_option linter.unusedVariables false
namespace Go.Proofs.Ytdobojnokgkbpaa
open Go.RowKit Go.Maps
open Lz (g)
open Cur
namespace Tab
end Tab
open Tab
end Go.Proofs.Ytdobojnokgkbpaa
