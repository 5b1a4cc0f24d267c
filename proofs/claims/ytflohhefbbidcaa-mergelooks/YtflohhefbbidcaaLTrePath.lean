import Derived.Test.YtflohhefbbidcaaLJTreAlike
import Derived.Test.YtflohhefbbidcaaLJNamClone
import Derived.Deep.RegionHeld3
set_option linter.unusedVariables false
namespace Go.Proofs.Ytflohhefbbidcaa
open Go.RowKit Go.Maps
open Nam Tre
namespace Tre
end Tre
end Go.Proofs.Ytflohhefbbidcaa
