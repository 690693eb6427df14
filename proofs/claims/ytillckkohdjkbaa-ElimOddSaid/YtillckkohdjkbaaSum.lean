/- money.Add by contract. -/
import Derived.Test.YtillckkohdjkbaaSum0
namespace Go.Proofs.Ytillckkohdjkbaa
open Go.RowKit
theorem add_any (a b : Int) (w : World) (ha : Fits a) (hb : Fits b) :
    Calls Try.prog 43 #[.int .i64 a, .int .i64 b] w fun e w' => e = .returned (.tuple #[.int .i64 (sumN (a + b)), .int .i64 (sumE (a + b))]) ∧ Below w.heap.size w w' := by
  have hrow := Row.two w 2 a b 2 (Nat.le_refl _)
  have h64 : All64 [a, b] := by intro x hx; simp at hx; unfold Fits at ha hb; rcases hx with rfl | rfl <;> omega
  have hs : Hid ([a, b].sum = a + b) := by show _ = _; simp
  go_enter Try.func43, Try.ntmps43
  go_wp2_with (go_at_call 28; go_must (refine (sum_any _ [a, b] _ (by simp) h64 hrow).mono ?_; rintro e w1 ⟨rfl, rfl⟩; rw [hs.out]))
  go_ret2
  exact ⟨rfl, (Below.refl _ _).alloc (Nat.le_refl _) _⟩

end Go.Proofs.Ytillckkohdjkbaa
