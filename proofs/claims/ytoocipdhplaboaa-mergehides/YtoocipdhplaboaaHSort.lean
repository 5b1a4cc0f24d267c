import Derived.Test.YtoocipdhplaboaaRows
namespace Go.Proofs.Ytoocipdhplaboaa
end Go.Proofs.Ytoocipdhplaboaa
