import Derived.Test.YtcbcmeehnlojjaaFJInts
import Derived.Test.YtcbcmeehnlojjaaFJCurNew
import Derived.Test.YtcbcmeehnlojjaaFCurRefW
import Derived.BigQuiet
set_option linter.unusedVariables false
namespace Go.Proofs.Ytcbcmeehnlojjaa
open Go.RowKit Go.Maps
open Lz (g)
open Cur
namespace Tab
end Tab
open Tab
end Go.Proofs.Ytcbcmeehnlojjaa
