/- A list of items around a name. -/
import Derived.Test.YtbpfbebebppleaaBookCmp
import Derived.Test.YtbpfbebebppleaaAroundF
namespace Go.Proofs.Ytbpfbebebppleaa
def posI (x : Itm) : Pos := ⟨x.s, x.n, 0⟩
end Go.Proofs.Ytbpfbebebppleaa
