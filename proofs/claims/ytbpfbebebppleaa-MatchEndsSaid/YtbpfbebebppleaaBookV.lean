/- A book by value. -/
import Derived.Test.YtbpfbebebppleaaBookCmp
namespace Go.Proofs.Ytbpfbebebppleaa
open Go.RowKit
def bookV (me : Int) (vi vo : Value) : Value := .agg #[.int .i64 me, vi, vo]
end Go.Proofs.Ytbpfbebebppleaa
