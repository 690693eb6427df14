/- From what a reading tells of a slice of integers to a row, whatever their kind. -/
import Derived.Test.YtbpfbebebppleaaOct
import Derived.ProofKit
import Derived.OpenShut
namespace Go.Proofs.Ytbpfbebebppleaa
open Go.ChangeShapes Go.WideShapes Go.ChangeAt Go.RowKit
theorem rowK_of_open {W : World} (k : IntKind) (x : Addr) (zs : List Int) {len cap : Nat} (hz : zs.length = cap) (hl : len ≤ cap) (hm : cap ≤ 140737488355328) (hcell : ∀ i, i < zs.length → W.cell? (x.add i) = some (.int k (zs.getD i 0))) (hwz : ∀ n ∈ zs, (Lit.int k n).wf = true) :
    ∃ ys, (∀ n ∈ ys, (Lit.int k n).wf = true) ∧ Row k W (.slice (some x) len cap) ys ∧ ys.length ≤ 140737488355328 := by
  have hlen : (zs.take len).length = len := by rw [List.length_take]; omega
  refine ⟨zs.take len, fun a ha => hwz a (List.mem_of_mem_take ha), ⟨some x, cap, by rw [hlen], by omega, ?_⟩, by omega⟩
  by_cases h0 : len = 0
  · left; subst h0; simp
  · obtain ⟨b, off, rfl, hc⟩ := ints_at hcell (by omega)
    refine .inr ⟨b, off, rfl, fun i hi => ?_⟩
    rw [hlen] at hi
    rw [hc i (by omega), List.getD_eq_getElem?_getD, List.getD_eq_getElem?_getD, List.getElem?_take, if_pos hi]
theorem oct_of_wf {zs : List Int} (h : ∀ n ∈ zs, (Lit.int .u8 n).wf = true) : Oct zs := fun a ha => by have := bounds_u8 (h a ha); omega
end Go.Proofs.Ytbpfbebebppleaa
