/- Two models are equal. -/
import Derived.Test.YtaooiejgigicoaaPutApp
import Derived.Laws.StructEq
namespace Go.Proofs.Ytaooiejgigicoaa
open Go.RowKit
theorem eq_row (d : Nat) (a0 a1 a2 a3 a4 a5 a6 a7 : Int) (w : World) : (Op.equalIn (d + 1 + 1) 28 (.agg #[.int .i64 a0, .int .i64 a1, .int .i64 a2, .int .i64 a3, .int .i64 a4, .int .i64 a5, .int .i64 a6, .int .i64 a7]) (.agg #[.int .i64 a0, .int .i64 a1, .int .i64 a2, .int .i64 a3, .int .i64 a4, .int .i64 a5, .int .i64 a6, .int .i64 a7])).run Try.prog w = .ok true w := by
  have u3 := Try.underlying2
  have a3 := Try.isAgg2
  have z3 := Try.sizeOf2
  rw [Op.equalIn]
  simp only [Sem.run_bind, run_underlying Try.underlying28, Result.andThen_ok]
  simp only [Std.Legacy.Range.forIn_eq_forIn_range', Std.Legacy.Range.size, Nat.sub_zero, Nat.add_sub_cancel, Nat.div_one, List.range'_succ, List.range'_zero, List.forIn_cons, List.forIn_nil]
  go_simp
set_option maxRecDepth 100000 in
set_option maxHeartbeats 4000000 in
theorem eq_rows (g : Nat → Int) (w : World) : (Op.equalIn 10000 30 (.agg #[.int .i64 (g 0), .int .i64 (g 1), .int .i64 (g 2), .int .i64 (g 3), .int .i64 (g 4), .int .i64 (g 5), .int .i64 (g 6), .int .i64 (g 7), .int .i64 (g 8), .int .i64 (g 9), .int .i64 (g 10), .int .i64 (g 11), .int .i64 (g 12), .int .i64 (g 13), .int .i64 (g 14), .int .i64 (g 15), .int .i64 (g 16), .int .i64 (g 17), .int .i64 (g 18), .int .i64 (g 19), .int .i64 (g 20), .int .i64 (g 21), .int .i64 (g 22), .int .i64 (g 23), .int .i64 (g 24), .int .i64 (g 25), .int .i64 (g 26), .int .i64 (g 27), .int .i64 (g 28), .int .i64 (g 29), .int .i64 (g 30), .int .i64 (g 31), .int .i64 (g 32), .int .i64 (g 33), .int .i64 (g 34), .int .i64 (g 35), .int .i64 (g 36), .int .i64 (g 37), .int .i64 (g 38), .int .i64 (g 39), .int .i64 (g 40), .int .i64 (g 41), .int .i64 (g 42), .int .i64 (g 43), .int .i64 (g 44), .int .i64 (g 45), .int .i64 (g 46), .int .i64 (g 47), .int .i64 (g 48), .int .i64 (g 49), .int .i64 (g 50), .int .i64 (g 51), .int .i64 (g 52), .int .i64 (g 53), .int .i64 (g 54), .int .i64 (g 55), .int .i64 (g 56), .int .i64 (g 57), .int .i64 (g 58), .int .i64 (g 59), .int .i64 (g 60), .int .i64 (g 61), .int .i64 (g 62), .int .i64 (g 63)]) (.agg #[.int .i64 (g 0), .int .i64 (g 1), .int .i64 (g 2), .int .i64 (g 3), .int .i64 (g 4), .int .i64 (g 5), .int .i64 (g 6), .int .i64 (g 7), .int .i64 (g 8), .int .i64 (g 9), .int .i64 (g 10), .int .i64 (g 11), .int .i64 (g 12), .int .i64 (g 13), .int .i64 (g 14), .int .i64 (g 15), .int .i64 (g 16), .int .i64 (g 17), .int .i64 (g 18), .int .i64 (g 19), .int .i64 (g 20), .int .i64 (g 21), .int .i64 (g 22), .int .i64 (g 23), .int .i64 (g 24), .int .i64 (g 25), .int .i64 (g 26), .int .i64 (g 27), .int .i64 (g 28), .int .i64 (g 29), .int .i64 (g 30), .int .i64 (g 31), .int .i64 (g 32), .int .i64 (g 33), .int .i64 (g 34), .int .i64 (g 35), .int .i64 (g 36), .int .i64 (g 37), .int .i64 (g 38), .int .i64 (g 39), .int .i64 (g 40), .int .i64 (g 41), .int .i64 (g 42), .int .i64 (g 43), .int .i64 (g 44), .int .i64 (g 45), .int .i64 (g 46), .int .i64 (g 47), .int .i64 (g 48), .int .i64 (g 49), .int .i64 (g 50), .int .i64 (g 51), .int .i64 (g 52), .int .i64 (g 53), .int .i64 (g 54), .int .i64 (g 55), .int .i64 (g 56), .int .i64 (g 57), .int .i64 (g 58), .int .i64 (g 59), .int .i64 (g 60), .int .i64 (g 61), .int .i64 (g 62), .int .i64 (g 63)])).run Try.prog w = .ok true w := by
  have u3 := Try.underlying28
  have a3 := Try.isAgg28
  have z3 := Try.sizeOf28
  have hE := eq_row 9997
  rw [show (10000 : Nat) = 9999 + 1 from rfl, Op.equalIn]
  simp only [Sem.run_bind, run_underlying Try.underlying30, Result.andThen_ok]
  simp only [Std.Legacy.Range.forIn_eq_forIn_range', Std.Legacy.Range.size, Nat.sub_zero, Nat.add_sub_cancel, Nat.div_one, List.range'_succ, List.range'_zero, List.forIn_cons, List.forIn_nil]
  rw [show (9999 : Nat) = 9997 + 1 + 1 from rfl]
  go_simp
end Go.Proofs.Ytaooiejgigicoaa
