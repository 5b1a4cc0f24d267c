import Derived.Test.YtoocipdhplaboabSJTreAlike
import Derived.Test.YtoocipdhplaboabSJNamClone
import Derived.Deep.RegionHeld3
set_option linter.unusedVariables false
namespace Go.Proofs.Ytoocipdhplaboab
open Go.RowKit Go.Maps
open Nam Tre
namespace Tre
end Tre
end Go.Proofs.Ytoocipdhplaboab
