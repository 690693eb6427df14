/- Lines as elements of a slice. -/
import Derived.Test.YtbimbpmdiahhbaaMsgData
import Derived.Test.YtbimbpmdiahhbaaTRow2
namespace Go.Proofs.Ytbimbpmdiahhbaa
open Go.RowKit
def zeroVN : Value := .agg #[.int .i64 0, .int .i64 0, .int .i64 0, .int .i64 0]
theorem eltN : EltT encN Try.prog 26 49 zeroVN 32 := eltT_mk Try.underlying26 (by kernel_rfl)
end Go.Proofs.Ytbimbpmdiahhbaa
