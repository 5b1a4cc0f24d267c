/- Layer 6: the walks of the smallest functions: isHere, HasPrefix, few, a name held against another one. -/
import Derived.Test.YtgkclldiphcogaaNamRow
import Derived.Test.YtgkclldiphcogaaNamVal
import Derived.Lib.OthersKept
namespace Go.Proofs.Ytgkclldiphcogaa
set_option linter.unusedVariables false
open Go.RowKit Go.Maps
open Nam

theorem here_eq (l : List UInt8) : (l.isEmpty || l == [46]) = here l := by
  unfold here
  cases l with
  | nil => rfl
  | cons a r => rw [Bool.eq_iff_iff, List.isEmpty_cons, Bool.false_or, beq_iff_eq]; simp
end Go.Proofs.Ytgkclldiphcogaa
