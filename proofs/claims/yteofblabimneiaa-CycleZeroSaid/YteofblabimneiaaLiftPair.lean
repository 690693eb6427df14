/- From what a reading tells of a pair of numbers to the numbers. -/
import Derived.Test.YteofblabimneiaaLift
import Derived.ChangeSlices
import Derived.ChangeArms
namespace Go.Proofs.Yteofblabimneiaa
open Go.ChangeShapes Go.WideShapes Go.ChangeAt Go.RowKit
theorem two_ints_of_open {H : Type} {enc : TypeId × Value → H} {P : Program} {w : World} {base : Nat} {held : Bool} {t e : TypeId} {fuel : Nat} {c0 c1 : Value} {x : DataW H × List MemPlace}
    (ht : P.underlying t = some (.array 2 e)) (he : P.underlying e = some (.int .i64)) (ce : P.cellsOf e = 1)
    (h : DataW.trod enc P w base (fun _ => true) held fuel t (Value.agg #[c0, c1]).cells.toList = some x) : ∃ a b, c0 = .int .i64 a ∧ c1 = .int .i64 b ∧ (-9223372036854775808 ≤ a ∧ a ≤ 9223372036854775807) ∧ (-9223372036854775808 ≤ b ∧ b ≤ 9223372036854775807) := by
  have h' : DataW.trod enc P w base (fun _ => true) held fuel t [c0, c1] = some x := by simpa [Value.cells] using h
  cases fuel with
  | zero => simp [DataW.trod] at h'
  | succ n =>
    unfold DataW.trod at h'
    rw [ht] at h'
    have r2 : List.range 2 = [0, 1] := rfl
    simp [r2, ce] at h'
    obtain ⟨_, h'⟩ := h'
    cases h0 : DataW.trod enc P w base (fun _ => true) held n e [c0] with
    | none => simp [h0] at h'
    | some y0 =>
      cases h1 : DataW.trod enc P w base (fun _ => true) held n e [c1] with
      | none => simp [h0, h1] at h'
      | some y1 =>
        obtain ⟨z0, q0, _, w0⟩ := DataW.trod_int he h0
        obtain ⟨z1, q1, _, w1⟩ := DataW.trod_int he h1
        simp at q0 q1
        exact ⟨z0, z1, q0, q1, bounds_i64 w0, bounds_i64 w1⟩
end Go.Proofs.Yteofblabimneiaa
