/- '==' of two lines. -/
import Derived.Test.YteofblabimneiaaCycD
import Derived.Laws.StructEq
namespace Go.Proofs.Yteofblabimneiaa
open Go.RowKit
def linEq (x y : Lin) : Bool := x.s == y.s && x.n == y.n && x.b == y.b && x.a == y.a
theorem linEq_iff {x y : Lin} : linEq x y = true ↔ x = y := by
  unfold linEq
  simp only [Bool.and_eq_true, beq_iff_eq]
  constructor
  · rintro ⟨⟨⟨h1, h2⟩, h3⟩, h4⟩
    cases x; cases y
    simp only at h1 h2 h3 h4
    rw [h1, h2, h3, h4]
  · rintro rfl
    exact ⟨⟨⟨rfl, rfl⟩, rfl⟩, rfl⟩
instance : DecidableEq Lin := fun x y => decidable_of_iff (linEq x y = true) linEq_iff
theorem linEq_dec (x y : Lin) : linEq x y = decide (x = y) := by
  rw [Bool.eq_iff_iff, linEq_iff, decide_eq_true_eq]
theorem line_eq (x y : Lin) (w : World) : (Op.equalIn 10000 45 (.agg #[.int .i64 x.s, .int .i64 x.n, .int .i64 x.b, .int .i64 x.a]) (.agg #[.int .i64 y.s, .int .i64 y.n, .int .i64 y.b, .int .i64 y.a])).run Try.prog w = .ok (linEq x y) w := by
  cases h1 : x.s == y.s
  · have e : linEq x y = false := by unfold linEq; rw [h1]; rfl
    rw [e]
    go_simp
  cases h2 : x.n == y.n
  · have e : linEq x y = false := by unfold linEq; rw [h1, h2]; rfl
    rw [e]
    go_simp
  cases h3 : x.b == y.b
  · have e : linEq x y = false := by unfold linEq; rw [h1, h2, h3]; rfl
    rw [e]
    go_simp
  cases h4 : x.a == y.a
  · have e : linEq x y = false := by unfold linEq; rw [h1, h2, h3, h4]; rfl
    rw [e]
    go_simp
  · have e : linEq x y = true := by unfold linEq; rw [h1, h2, h3, h4]; rfl
    rw [e]
    go_simp
end Go.Proofs.Yteofblabimneiaa
