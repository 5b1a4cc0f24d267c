import Derived.Test.YtcbcmeehnlojjaaFJBase
import Derived.Laws.CopyOwn
set_option linter.unusedVariables false
namespace Go.Proofs.Ytcbcmeehnlojjaa
open Go.RowKit Go.Maps
open Lz (g)
open Cur
namespace Cur
end Cur
end Go.Proofs.Ytcbcmeehnlojjaa
namespace Go.Proofs.Ytcbcmeehnlojjaa.Cap
open Cur
open Lz (g)
end Go.Proofs.Ytcbcmeehnlojjaa.Cap
