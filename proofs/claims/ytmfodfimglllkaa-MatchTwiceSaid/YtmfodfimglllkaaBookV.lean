/- A book by value. -/
import Derived.Test.YtmfodfimglllkaaBookCmp
namespace Go.Proofs.Ytmfodfimglllkaa
open Go.RowKit
def bookV (me : Int) (vi vo : Value) : Value := .agg #[.int .i64 me, vi, vo]
end Go.Proofs.Ytmfodfimglllkaa
