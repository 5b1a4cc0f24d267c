import Derived.Test.YtbmeapehgajbkaaGreatGJInts
import Derived.Test.YtbmeapehgajbkaaGreatGJCurNew
import Derived.Test.YtbmeapehgajbkaaGreatGCurRefW
import Derived.BigQuiet
set_option linter.unusedVariables false
namespace Go.Proofs.YtbmeapehgajbkaaGreat
open Go.RowKit Go.Maps
open Lz (g)
open Cur
namespace Tab
end Tab
open Tab
end Go.Proofs.YtbmeapehgajbkaaGreat
