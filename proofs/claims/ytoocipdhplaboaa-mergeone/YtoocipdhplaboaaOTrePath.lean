import Derived.Test.YtoocipdhplaboaaOJTreAlike
import Derived.Test.YtoocipdhplaboaaOJNamClone
import Derived.Deep.RegionHeld3
set_option linter.unusedVariables false
namespace Go.Proofs.Ytoocipdhplaboaa
open Go.RowKit Go.Maps
open Nam Tre
namespace Tre
end Tre
end Go.Proofs.Ytoocipdhplaboaa
