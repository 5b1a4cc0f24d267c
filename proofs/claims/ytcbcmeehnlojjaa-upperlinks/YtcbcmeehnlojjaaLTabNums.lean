import Derived.Test.YtcbcmeehnlojjaaLJInts
import Derived.Test.YtcbcmeehnlojjaaLJCurNew
import Derived.Test.YtcbcmeehnlojjaaLCurRefW
import Derived.BigQuiet
set_option linter.unusedVariables false
namespace Go.Proofs.Ytcbcmeehnlojjaa
open Go.RowKit Go.Maps
open Lz (g)
open Cur
namespace Tab
end Tab
open Tab
end Go.Proofs.Ytcbcmeehnlojjaa
