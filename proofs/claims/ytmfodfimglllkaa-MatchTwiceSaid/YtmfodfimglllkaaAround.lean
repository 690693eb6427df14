/- A list of items around a name. -/
import Derived.Test.YtmfodfimglllkaaBookCmp
import Derived.Test.YtmfodfimglllkaaAroundF
namespace Go.Proofs.Ytmfodfimglllkaa
def posI (x : Itm) : Pos := ⟨x.s, x.n, 0⟩
end Go.Proofs.Ytmfodfimglllkaa
