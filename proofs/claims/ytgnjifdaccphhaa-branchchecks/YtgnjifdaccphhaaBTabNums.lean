import Derived.Test.YtgnjifdaccphhaaBJInts
import Derived.Test.YtgnjifdaccphhaaBJCurNew
import Derived.Test.YtgnjifdaccphhaaBCurRefW
import Derived.BigQuiet
set_option linter.unusedVariables false
namespace Go.Proofs.Ytgnjifdaccphhaa
open Go.RowKit Go.Maps
open Lz (g)
open Cur
namespace Tab
def KeptB (p : Nat) (wX w' : World) : Prop := ∀ b cs t, wX.heap[b]? = some (.cells cs t (0, 0)) → t ≠ 5 → b ≠ p → w'.heap[b]? = some (.cells cs t (0, 0))
end Tab
open Tab
end Go.Proofs.Ytgnjifdaccphhaa
