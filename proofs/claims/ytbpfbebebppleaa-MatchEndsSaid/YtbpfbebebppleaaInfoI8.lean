/- An item has eight cells. -/
import Derived.Test.YtbpfbebebppleaaItemPure
namespace Go.Proofs.Ytbpfbebebppleaa
open Go.RowKit
theorem infoI8 {cs : Array Value} (h : cs.size = 8) : (Try.prog.info? 64).map (·.size) = some cs.size := by
  rw [h]
  kernel_rfl
end Go.Proofs.Ytbpfbebebppleaa
