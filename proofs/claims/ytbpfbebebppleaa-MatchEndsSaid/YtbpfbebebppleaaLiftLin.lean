/- From what a reading tells of a line, of a slice of lines, to rows. -/
import Derived.Test.YtbpfbebebppleaaMsgData
import Derived.Test.YtbpfbebebppleaaLiftT
import Derived.ChangeSlices
import Derived.ChangeArms
namespace Go.Proofs.Ytbpfbebebppleaa
open Go.ChangeShapes Go.WideShapes Go.ChangeAt Go.RowKit
section
variable {H : Type} {enc : TypeId × Value → H} {P : Program} {w : World} {base : Nat} {held : Bool}
theorem lin_read {t : TypeId} {g f0 f1 f2 f3 : Field}
    (ht : P.underlying t = some (.struct #[g, f2, f3])) (hg : P.underlying g.type = some (.struct #[f0, f1]))
    (og : g.offset = 0) (o0 : f0.offset = 0) (o1 : f1.offset = 1) (o2 : f2.offset = 2) (o3 : f3.offset = 3)
    (u0 : P.underlying f0.type = some (.int .i64)) (u1 : P.underlying f1.type = some (.int .i64)) (u2 : P.underlying f2.type = some (.int .i64)) (u3 : P.underlying f3.type = some (.int .i64))
    (cc : P.cellsOf g.type = 2 ∧ P.cellsOf f0.type = 1 ∧ P.cellsOf f1.type = 1 ∧ P.cellsOf f2.type = 1 ∧ P.cellsOf f3.type = 1)
    (fuel : Nat) (cs : List Value) (y : DataW H × List MemPlace) (hl : cs.length = 4) (hf : DataW.trod enc P w base (fun _ => true) held fuel t cs = some y) : ∃ x : Lin, cs = x.cells ∧ x.Fit := by
  obtain ⟨cg, c0, c1, c2, c3⟩ := cc
  match cs, hl with
  | [v0, v1, v2, v3], _ =>
    obtain ⟨xs, k, hk, hxy, _, hxl, hf⟩ := DataW.trod_struct ht hf
    match xs, hxl with
    | [yg, y2, y3], _ =>
      have gg := hf 0 g rfl
      have g2 := hf 1 f2 rfl
      have g3 := hf 2 f3 rfl
      simp [og, o2, o3, cg, c2, c3] at gg g2 g3
      obtain ⟨xs', k', hk', hxy', _, hxl', hf'⟩ := DataW.trod_struct hg gg
      match xs', hxl' with
      | [y0, y1], _ =>
        have g0 := hf' 0 f0 rfl
        have g1 := hf' 1 f1 rfl
        simp [o0, o1, c0, c1] at g0 g1
        obtain ⟨z0, q0, _, w0⟩ := DataW.trod_int u0 g0
        obtain ⟨z1, q1, _, w1⟩ := DataW.trod_int u1 g1
        obtain ⟨z2, q2, _, w2⟩ := DataW.trod_int u2 g2
        obtain ⟨z3, q3, _, w3⟩ := DataW.trod_int u3 g3
        simp at q0 q1 q2 q3
        subst q0 q1 q2 q3
        exact ⟨⟨z0, z1, z2, z3⟩, rfl, bounds_i64 w0, bounds_i64 w1, bounds_i64 w2, bounds_i64 w3⟩
theorem lines_of_read {s t : TypeId} {fuel : Nat} {c : Value} {y : DataW H × List MemPlace}
    (hs : P.underlying s = some (.slice t)) (ct : P.cellsOf t = 4)
    (rd : ∀ (fuel : Nat) (cs : List Value) (y : DataW H × List MemPlace), cs.length = 4 → DataW.trod enc P w base (fun _ => true) held fuel t cs = some y → ∃ x : Lin, cs = x.cells ∧ x.Fit)
    (h : DataW.trod enc P w base (fun _ => true) held fuel s [c] = some y) : ∃ xs, TRow encN w c xs ∧ ∀ x ∈ xs, x.Fit := by
  have hc : ∃ a l cap, c = .slice a l cap := by
    rcases Go.Deep.open_slice hs h with ⟨hcs, _⟩ | ⟨a', len', cap', m, n, D, Pl, hcs, _⟩
    · simp at hcs; exact ⟨_, _, _, hcs⟩
    · simp at hcs; exact ⟨_, _, _, hcs⟩
  obtain ⟨a, l, cap, rfl⟩ := hc
  exact trow_of_open encN Lin.Fit hs ct rd (by simpa [Value.cells] using h)
end
end Go.Proofs.Ytbpfbebebppleaa
