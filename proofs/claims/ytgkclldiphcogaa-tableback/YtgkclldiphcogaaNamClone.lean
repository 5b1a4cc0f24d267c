/- Layer 6: strings.Clone: a copy of a text, in a row of bytes of its own. -/
import Derived.Test.YtgkclldiphcogaaNamLeaf
import Derived.Lib.BufferWrite
import Derived.Lib.UnsafeStr
import Derived.Laws.MakeOwn
namespace Go.Proofs.Ytgkclldiphcogaa
set_option linter.unusedVariables false
open Go.RowKit Go.Maps
open Nam

theorem cellsByte : Try.prog.cellsOf 5 = 1 := by kernel_rfl
end Go.Proofs.Ytgkclldiphcogaa
