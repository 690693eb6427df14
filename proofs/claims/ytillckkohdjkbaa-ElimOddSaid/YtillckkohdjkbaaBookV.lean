/- A book by value. -/
import Derived.Test.YtillckkohdjkbaaBookCmp
namespace Go.Proofs.Ytillckkohdjkbaa
open Go.RowKit
def bookV (me : Int) (vi vo : Value) : Value := .agg #[.int .i64 me, vi, vo]
end Go.Proofs.Ytillckkohdjkbaa
