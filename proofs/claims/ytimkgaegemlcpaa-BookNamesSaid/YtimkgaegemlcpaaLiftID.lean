/- From what a reading tells of a struct of two numbers to the numbers. -/
import Derived.Test.YtimkgaegemlcpaaLift
import Derived.Test.YtimkgaegemlcpaaBookCmp
namespace Go.Proofs.Ytimkgaegemlcpaa
open Go.ChangeShapes Go.WideShapes Go.ChangeAt Go.RowKit
theorem two_of_open {H : Type} {enc : TypeId × Value → H} {P : Program} {w : World} {base : Nat} {held : Bool} {t : TypeId} {f0 f1 : Field} {fuel : Nat} {v0 v1 : Value} {x : DataW H × List MemPlace}
    (he : P.underlying t = some (.struct #[f0, f1])) (o0 : f0.offset = 0) (o1 : f1.offset = 1)
    (u0 : P.underlying f0.type = some (.int .i64)) (u1 : P.underlying f1.type = some (.int .i64))
    (cc : P.cellsOf f0.type = 1 ∧ P.cellsOf f1.type = 1)
    (h : DataW.trod enc P w base (fun _ => true) held fuel t (Value.agg #[v0, v1]).cells.toList = some x) : ∃ a b, v0 = .int .i64 a ∧ v1 = .int .i64 b := by
  obtain ⟨c0, c1⟩ := cc
  have h' : DataW.trod enc P w base (fun _ => true) held fuel t [v0, v1] = some x := by simpa [Value.cells] using h
  obtain ⟨xs, k, hk, hxy, _, hxl, hf⟩ := DataW.trod_struct he h'
  match xs, hxl with
  | [y0, y1], _ =>
    have g0 := hf 0 f0 rfl
    have g1 := hf 1 f1 rfl
    simp [o0, o1, c0, c1] at g0 g1
    obtain ⟨z0, q0, _, w0⟩ := DataW.trod_int u0 g0
    obtain ⟨z1, q1, _, w1⟩ := DataW.trod_int u1 g1
    simp at q0 q1
    exact ⟨z0, z1, q0, q1⟩
end Go.Proofs.Ytimkgaegemlcpaa
