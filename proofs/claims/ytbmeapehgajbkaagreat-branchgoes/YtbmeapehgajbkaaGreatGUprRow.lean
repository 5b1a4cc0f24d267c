import Derived.Test.YtbmeapehgajbkaaGreatGJNamRow
import Derived.Laws.CopyOwn
set_option linter.unusedVariables false
namespace Go.Proofs.YtbmeapehgajbkaaGreat
open Go.RowKit Go.Maps
open Nam Tre
open Lz (g)
namespace Upr
end Upr
end Go.Proofs.YtbmeapehgajbkaaGreat
