import Derived.Test.YtgnjifdaccphhaaBJBase
import Derived.Laws.CopyOwn
set_option linter.unusedVariables false
namespace Go.Proofs.Ytgnjifdaccphhaa
open Go.RowKit Go.Maps
open Lz (g)
open Cur
namespace Cur
end Cur
end Go.Proofs.Ytgnjifdaccphhaa
namespace Go.Proofs.Ytgnjifdaccphhaa.Cap
open Cur
open Lz (g)
end Go.Proofs.Ytgnjifdaccphhaa.Cap
