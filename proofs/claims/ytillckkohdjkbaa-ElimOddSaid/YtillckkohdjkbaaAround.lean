/- A list of items around a name. -/
import Derived.Test.YtillckkohdjkbaaBookCmp
import Derived.Test.YtillckkohdjkbaaAroundF
namespace Go.Proofs.Ytillckkohdjkbaa
def posI (x : Itm) : Pos := ⟨x.s, x.n, 0⟩
end Go.Proofs.Ytillckkohdjkbaa
