/- money.Near: whether two amounts are at most so far apart. -/
import Derived.Test.YtbpfbebebppleaaFits
namespace Go.Proofs.Ytbpfbebebppleaa
open Go.RowKit
def nearB (a b far : Int) : Bool := decide (a - b ≤ far ∧ b - a ≤ far)
theorem ret_bool {a b : Bool} (h : a = b) : Ending.returned (.bool a) = .returned (.bool b) := by rw [h]
theorem near_any (a b far : Int) (w : World) (ha : Fits a) (hb : Fits b) (hf : Fits far) :
    Calls Try.prog 64 #[.int .i64 a, .int .i64 b, .int .i64 far] w fun e w' => e = .returned (.bool (nearB a b far)) ∧ w = w' := by
  unfold Fits at ha hb hf
  go_enter Try.func64, Try.ntmps64
  go_wp2
  · go_ret
    exact ⟨ret_bool (by unfold nearB; rw [decide_eq_decide]; simp only [u64_wrap]; omega), rfl⟩
  · go_ret
    exact ⟨ret_bool (by unfold nearB; rw [decide_eq_decide]; simp only [u64_wrap]; omega), rfl⟩
  · go_ret
    exact ⟨ret_bool (by unfold nearB; rw [decide_eq_decide]; simp only [u64_wrap]; omega), rfl⟩
  · go_ret
    exact ⟨ret_bool (by unfold nearB; symm; rw [decide_eq_false_iff_not]; omega), rfl⟩
end Go.Proofs.Ytbpfbebebppleaa
