/- What the reader's answers are over bytes that were written. -/
import Derived.Test.YtngelpjibgiifaaRead3
import Derived.Test.YtngelpjibgiifaaWrites
namespace Go.Proofs.Ytngelpjibgiifaa
open Go.RowKit
theorem readL_of {n : Int} (h1 : -9223372036854775808 ≤ n) (h2 : n ≤ 9223372036854775807) (ys : List Int) : readL (natsOf (numL n ++ ys)) = (n, (numL n).length, 0) := by
  rw [natsOf_append]
  exact readL_num h1 h2 (natsOf ys) (numL n) rfl
theorem numE_of {n : Int} (h1 : -9223372036854775808 ≤ n) (h2 : n ≤ 9223372036854775807) (ys : List Int) : numE (numL n ++ ys) 0 = 0 := by
  unfold numE; rw [if_pos rfl, readL_of h1 h2]
theorem numV_of {n : Int} (h1 : -9223372036854775808 ≤ n) (h2 : n ≤ 9223372036854775807) (ys : List Int) : numV (numL n ++ ys) 0 = n := by
  unfold numV; rw [if_pos (numE_of h1 h2 ys), readL_of h1 h2]
theorem numR_of {n : Int} (h1 : -9223372036854775808 ≤ n) (h2 : n ≤ 9223372036854775807) (ys : List Int) : numR (numL n ++ ys) 0 = ys := by
  unfold numR; rw [if_pos (numE_of h1 h2 ys), readL_of h1 h2]
  exact List.drop_left
theorem numL_oct (n : Int) : Oct (numL n) := leb_oct _
theorem oct_nil : Oct [] := fun a ha => by cases ha
theorem intV_of {n a b : Int} (h1 : -9223372036854775808 ≤ n) (h2 : n ≤ 9223372036854775807) (ys : List Int) : intV (numL n ++ ys) 0 a b = if outB n a b = true then 0 else n := by
  unfold intV; rw [numV_of h1 h2]
theorem intE_of {n a b : Int} (h1 : -9223372036854775808 ≤ n) (h2 : n ≤ 9223372036854775807) (ys : List Int) : intE (numL n ++ ys) 0 a b = if outB n a b = true then 1 else 0 := by
  unfold intE; rw [numV_of h1 h2, numE_of h1 h2]; rfl
theorem ret_b {a b : Bool} (h : a = b) : Ending.returned (.bool a) = .returned (.bool b) := by rw [h]
end Go.Proofs.Ytngelpjibgiifaa
