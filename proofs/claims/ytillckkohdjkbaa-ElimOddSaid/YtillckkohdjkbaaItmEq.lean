/- '==' of two items. -/
import Derived.Test.YtillckkohdjkbaaItemPure
import Derived.Laws.StructEq
namespace Go.Proofs.Ytillckkohdjkbaa
open Go.RowKit
def itmEq (x y : Itm) : Bool := x.s == y.s && x.n == y.n && x.b == y.b && x.c == y.c && x.a == y.a && x.r == y.r && x.t == y.t && x.y == y.y
theorem itmEq_iff {x y : Itm} : itmEq x y = true ↔ x = y := by
  unfold itmEq
  simp only [Bool.and_eq_true, beq_iff_eq]
  constructor
  · rintro ⟨⟨⟨⟨⟨⟨⟨h1, h2⟩, h3⟩, h4⟩, h5⟩, h6⟩, h7⟩, h8⟩
    cases x; cases y
    simp only at h1 h2 h3 h4 h5 h6 h7 h8
    rw [h1, h2, h3, h4, h5, h6, h7, h8]
  · rintro rfl
    exact ⟨⟨⟨⟨⟨⟨⟨rfl, rfl⟩, rfl⟩, rfl⟩, rfl⟩, rfl⟩, rfl⟩, rfl⟩
theorem itmEq_dec (x y : Itm) : itmEq x y = decide (x = y) := by
  rw [Bool.eq_iff_iff, itmEq_iff, decide_eq_true_eq]
theorem item_eq (x y : Itm) (w : World) : (Op.equalIn 10000 39 (.agg #[.int .i64 x.s, .int .i64 x.n, .int .i64 x.b, .int .i64 x.c, .int .i64 x.a, .int .i64 x.r, .int .i64 x.t, .int .i64 x.y]) (.agg #[.int .i64 y.s, .int .i64 y.n, .int .i64 y.b, .int .i64 y.c, .int .i64 y.a, .int .i64 y.r, .int .i64 y.t, .int .i64 y.y])).run Try.prog w = .ok (itmEq x y) w := by
  cases h0 : x.s == y.s
  · have e : itmEq x y = false := by unfold itmEq; rw [h0]; rfl
    rw [e]
    go_simp
  cases h1 : x.n == y.n
  · have e : itmEq x y = false := by unfold itmEq; rw [h0, h1]; rfl
    rw [e]
    go_simp
  cases h2 : x.b == y.b
  · have e : itmEq x y = false := by unfold itmEq; rw [h0, h1, h2]; rfl
    rw [e]
    go_simp
  cases h3 : x.c == y.c
  · have e : itmEq x y = false := by unfold itmEq; rw [h0, h1, h2, h3]; rfl
    rw [e]
    go_simp
  cases h4 : x.a == y.a
  · have e : itmEq x y = false := by unfold itmEq; rw [h0, h1, h2, h3, h4]; rfl
    rw [e]
    go_simp
  cases h5 : x.r == y.r
  · have e : itmEq x y = false := by unfold itmEq; rw [h0, h1, h2, h3, h4, h5]; rfl
    rw [e]
    go_simp
  cases h6 : x.t == y.t
  · have e : itmEq x y = false := by unfold itmEq; rw [h0, h1, h2, h3, h4, h5, h6]; rfl
    rw [e]
    go_simp
  cases h7 : x.y == y.y
  · have e : itmEq x y = false := by unfold itmEq; rw [h0, h1, h2, h3, h4, h5, h6, h7]; rfl
    rw [e]
    go_simp
  · have e : itmEq x y = true := by unfold itmEq; rw [h0, h1, h2, h3, h4, h5, h6, h7]; rfl
    rw [e]
    go_simp
end Go.Proofs.Ytillckkohdjkbaa
