/- What the reader's Int answers over bytes that were written. -/
import Derived.Test.YtbimbpmdiahhbaaReadI
import Derived.Test.YtbimbpmdiahhbaaNumFacts
namespace Go.Proofs.Ytbimbpmdiahhbaa
open Go.RowKit
theorem intV_of {n a b : Int} (h1 : -9223372036854775808 ≤ n) (h2 : n ≤ 9223372036854775807) (ys : List Int) : intV (numL n ++ ys) 0 a b = if outB n a b = true then 0 else n := by
  unfold intV; rw [numV_of h1 h2]
theorem intE_of {n a b : Int} (h1 : -9223372036854775808 ≤ n) (h2 : n ≤ 9223372036854775807) (ys : List Int) : intE (numL n ++ ys) 0 a b = if outB n a b = true then 1 else 0 := by
  unfold intE; rw [numV_of h1 h2, numE_of h1 h2]; rfl
end Go.Proofs.Ytbimbpmdiahhbaa
