import Derived.Test.YtcbcmeehnlojjaaFJBase
import Derived.Deep.RegionLaw
set_option linter.unusedVariables false
namespace Go.Proofs.Ytcbcmeehnlojjaa
open Go.RowKit Go.Maps
open Lz (g)
open Cur
end Go.Proofs.Ytcbcmeehnlojjaa
