/- book.New by contract. -/
import Derived.Test.YtillckkohdjkbaaBookV
namespace Go.Proofs.Ytillckkohdjkbaa
open Go.RowKit
set_option linter.unusedSimpArgs false in
set_option maxHeartbeats 4000000 in
set_option maxRecDepth 100000 in
theorem newB_any (w : World) (me : Int) (h : 0 ≤ me ∧ me < 8) : Calls Try.prog 14 #[.int .i64 me] w fun e w' => e = .returned (.tuple #[bookV me (.slice none 0 0) (.slice none 0 0), .int .i64 0]) ∧ Below w.heap.size w w' := by
  have h1 : ¬ me < 0 := by omega
  have h2 : ¬ (8 : Int) ≤ me := by omega
  unfold bookV
  clear h
  go_enter Try.func14, Try.ntmps14
  go_wp2
  refine bodyPost_ret (v := .tuple #[.agg #[.int .i64 me, .slice none 0 0, .slice none 0 0], .int .i64 0]) (by simp [results, Try.results14, go_sem]) rfl ⟨rfl, ?_⟩
  exact oneB w _
end Go.Proofs.Ytillckkohdjkbaa
