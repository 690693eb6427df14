/- A book by value. -/
import Derived.Test.YtogfhijfpobhhaaBookCmp
namespace Go.Proofs.Ytogfhijfpobhhaa
open Go.RowKit
def bookV (me : Int) (vi vo : Value) : Value := .agg #[.int .i64 me, vi, vo]
end Go.Proofs.Ytogfhijfpobhhaa
