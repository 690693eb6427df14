/- What fits into a number of 64 bits. -/
import Derived.Test.YtbpfbebebppleaaRow
namespace Go.Proofs.Ytbpfbebebppleaa
open Go.RowKit
def Fits (s : Int) : Prop := -9223372036854775808 ≤ s ∧ s ≤ 9223372036854775807
theorem u64_wrap (x : Int) : IntKind.u64.wrap x = x % 18446744073709551616 := by rfl

end Go.Proofs.Ytbpfbebebppleaa
