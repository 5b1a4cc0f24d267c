import Derived.Test.YtcbcmeehnlojjaaLJInts
import Derived.Test.YtcbcmeehnlojjaaLJCurNew
import Derived.Test.YtcbcmeehnlojjaaLCurRefW
import Derived.BigQuiet
set_option linter.unusedVariables false
namespace Go.Proofs.Ytcbcmeehnlojjaa
open Go.RowKit Go.Maps
open Lz (g)
open Cur
namespace Tab
section
variable {w wX wY : World} {p : Nat} {s : St}
end
end Tab
open Tab
end Go.Proofs.Ytcbcmeehnlojjaa
