/- Slices of items: from what a reading tells of them to rows. -/
import Derived.Test.YtogfhijfpobhhaaLiftT
import Derived.Test.YtogfhijfpobhhaaBookCmp
namespace Go.Proofs.Ytogfhijfpobhhaa
open Go.ChangeShapes Go.WideShapes Go.ChangeAt Go.RowKit
theorem item_read {H : Type} {enc : TypeId × Value → H} {P : Program} {w : World} {base : Nat} {held : Bool} {t : TypeId} {g f0 f1 f2 f3 f4 f5 f6 f7 : Field}
    (ht : P.underlying t = some (.struct #[g, f2, f3, f4, f5, f6, f7])) (hg : P.underlying g.type = some (.struct #[f0, f1]))
    (og : g.offset = 0) (o0 : f0.offset = 0) (o1 : f1.offset = 1) (o2 : f2.offset = 2) (o3 : f3.offset = 3) (o4 : f4.offset = 4) (o5 : f5.offset = 5) (o6 : f6.offset = 6) (o7 : f7.offset = 7)
    (u0 : P.underlying f0.type = some (.int .i64)) (u1 : P.underlying f1.type = some (.int .i64)) (u2 : P.underlying f2.type = some (.int .i64)) (u3 : P.underlying f3.type = some (.int .i64)) (u4 : P.underlying f4.type = some (.int .i64)) (u5 : P.underlying f5.type = some (.int .i64)) (u6 : P.underlying f6.type = some (.int .i64)) (u7 : P.underlying f7.type = some (.int .i64))
    (cc : P.cellsOf g.type = 2 ∧ P.cellsOf f0.type = 1 ∧ P.cellsOf f1.type = 1 ∧ P.cellsOf f2.type = 1 ∧ P.cellsOf f3.type = 1 ∧ P.cellsOf f4.type = 1 ∧ P.cellsOf f5.type = 1 ∧ P.cellsOf f6.type = 1 ∧ P.cellsOf f7.type = 1)
    (fuel : Nat) (cs : List Value) (y : DataW H × List MemPlace) (hl : cs.length = 8) (hf : DataW.trod enc P w base (fun _ => true) held fuel t cs = some y) : ∃ x : Itm, cs = x.cells ∧ True := by
  obtain ⟨cg, c0, c1, c2, c3, c4, c5, c6, c7⟩ := cc
  match cs, hl with
  | [v0, v1, v2, v3, v4, v5, v6, v7], _ =>
    obtain ⟨xs, k, hk, hxy, _, hxl, hf⟩ := DataW.trod_struct ht hf
    match xs, hxl with
    | [yg, y2, y3, y4, y5, y6, y7], _ =>
      have gg := hf 0 g rfl
      have g2 := hf 1 f2 rfl
      have g3 := hf 2 f3 rfl
      have g4 := hf 3 f4 rfl
      have g5 := hf 4 f5 rfl
      have g6 := hf 5 f6 rfl
      have g7 := hf 6 f7 rfl
      simp [og, o2, o3, o4, o5, o6, o7, cg, c2, c3, c4, c5, c6, c7] at gg g2 g3 g4 g5 g6 g7
      obtain ⟨xs', k', hk', hxy', _, hxl', hf'⟩ := DataW.trod_struct hg gg
      match xs', hxl' with
      | [y0, y1], _ =>
        have g0 := hf' 0 f0 rfl
        have g1 := hf' 1 f1 rfl
        simp [o0, o1, c0, c1] at g0 g1
        obtain ⟨z0, q0, _, _⟩ := DataW.trod_int u0 g0
        obtain ⟨z1, q1, _, _⟩ := DataW.trod_int u1 g1
        obtain ⟨z2, q2, _, _⟩ := DataW.trod_int u2 g2
        obtain ⟨z3, q3, _, _⟩ := DataW.trod_int u3 g3
        obtain ⟨z4, q4, _, _⟩ := DataW.trod_int u4 g4
        obtain ⟨z5, q5, _, _⟩ := DataW.trod_int u5 g5
        obtain ⟨z6, q6, _, _⟩ := DataW.trod_int u6 g6
        obtain ⟨z7, q7, _, _⟩ := DataW.trod_int u7 g7
        simp at q0 q1 q2 q3 q4 q5 q6 q7
        subst q0 q1 q2 q3 q4 q5 q6 q7
        exact ⟨⟨z0, z1, z2, z3, z4, z5, z6, z7⟩, rfl, trivial⟩
end Go.Proofs.Ytogfhijfpobhhaa
