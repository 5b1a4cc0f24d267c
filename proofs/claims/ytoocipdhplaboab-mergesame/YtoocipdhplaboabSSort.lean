import Derived.Test.YtoocipdhplaboabRows
namespace Go.Proofs.Ytoocipdhplaboab
end Go.Proofs.Ytoocipdhplaboab
