/- A book by value. -/
import Derived.Test.YtpapcpjkaehhoaaBookCmp
namespace Go.Proofs.Ytpapcpjkaehhoaa
open Go.RowKit
def bookV (me : Int) (vi vo : Value) : Value := .agg #[.int .i64 me, vi, vo]
end Go.Proofs.Ytpapcpjkaehhoaa
