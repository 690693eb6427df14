/- From what a reading tells of a slice of 64-bit numbers to a row. -/
import Derived.Test.YtbpfbebebppleaaRow
import Derived.ProofKit
import Derived.OpenShut
namespace Go.Proofs.Ytbpfbebebppleaa
open Go.ChangeShapes Go.WideShapes Go.ChangeAt Go.RowKit
theorem row_of_open {W : World} (x : Addr) (zs : List Int) {len cap : Nat} (hz : zs.length = cap) (hl : len ≤ cap) (hcell : ∀ i, i < zs.length → W.cell? (x.add i) = some (.int .i64 (zs.getD i 0))) (hwz : ∀ n ∈ zs, (Lit.int .i64 n).wf = true) :
    ∃ ys, Row .i64 W (.slice (some x) len cap) ys ∧ All64 ys := by
  have hlen : (zs.take len).length = len := by rw [List.length_take]; omega
  refine ⟨zs.take len, ⟨some x, cap, by rw [hlen], by omega, ?_⟩, fun a ha => bounds_i64 (hwz a (List.mem_of_mem_take ha))⟩
  by_cases h0 : len = 0
  · left; subst h0; simp
  · obtain ⟨b, off, rfl, hc⟩ := ints_at hcell (by omega)
    refine .inr ⟨b, off, rfl, fun i hi => ?_⟩
    rw [hlen] at hi
    rw [hc i (by omega), List.getD_eq_getElem?_getD, List.getD_eq_getElem?_getD, List.getElem?_take, if_pos hi]
end Go.Proofs.Ytbpfbebebppleaa
