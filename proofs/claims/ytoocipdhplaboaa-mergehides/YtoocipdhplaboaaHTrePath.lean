import Derived.Test.YtoocipdhplaboaaHJTreAlike
import Derived.Test.YtoocipdhplaboaaHJNamClone
import Derived.Deep.RegionHeld3
set_option linter.unusedVariables false
namespace Go.Proofs.Ytoocipdhplaboaa
open Go.RowKit Go.Maps
open Nam Tre
namespace Tre
end Tre
end Go.Proofs.Ytoocipdhplaboaa
