/- A list of items around a name. -/
import Derived.Test.YtogfhijfpobhhaaBookCmp
import Derived.Test.YtogfhijfpobhhaaAroundF
namespace Go.Proofs.Ytogfhijfpobhhaa
def posI (x : Itm) : Pos := ⟨x.s, x.n, 0⟩
end Go.Proofs.Ytogfhijfpobhhaa
