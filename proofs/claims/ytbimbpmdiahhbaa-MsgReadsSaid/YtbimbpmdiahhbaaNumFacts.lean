/- What is read of a number that was written. -/
import Derived.Test.YtbimbpmdiahhbaaRead
namespace Go.Proofs.Ytbimbpmdiahhbaa
open Go.RowKit
theorem readL_of {n : Int} (h1 : -9223372036854775808 ≤ n) (h2 : n ≤ 9223372036854775807) (ys : List Int) : readL (natsOf (numL n ++ ys)) = (n, (numL n).length, 0) := by
  rw [natsOf_append]
  exact readL_num h1 h2 (natsOf ys) (numL n) rfl
theorem numE_of {n : Int} (h1 : -9223372036854775808 ≤ n) (h2 : n ≤ 9223372036854775807) (ys : List Int) : numE (numL n ++ ys) 0 = 0 := by
  unfold numE; rw [if_pos rfl, readL_of h1 h2]
theorem numV_of {n : Int} (h1 : -9223372036854775808 ≤ n) (h2 : n ≤ 9223372036854775807) (ys : List Int) : numV (numL n ++ ys) 0 = n := by
  unfold numV; rw [if_pos (numE_of h1 h2 ys), readL_of h1 h2]
theorem numR_of {n : Int} (h1 : -9223372036854775808 ≤ n) (h2 : n ≤ 9223372036854775807) (ys : List Int) : numR (numL n ++ ys) 0 = ys := by
  unfold numR; rw [if_pos (numE_of h1 h2 ys), readL_of h1 h2]
  exact List.drop_left
theorem numL_oct (n : Int) : Oct (numL n) := leb_oct _
theorem oct_nil : Oct [] := fun a ha => by cases ha
end Go.Proofs.Ytbimbpmdiahhbaa
