/- From what a reading tells of a slice of bools to a row. -/
import Derived.Test.YtjbhcdmeeakdcaaAppB
import Derived.ProofKit
import Derived.OpenShut
import Derived.Deep.Grids
namespace Go.Proofs.Ytjbhcdmeeakdcaa
open Go.ChangeShapes Go.WideShapes Go.ChangeAt Go.RowKit
theorem rowB_of_open {W : World} (x : Addr) (len cap : Nat) (B : Nat → Bool) (hl : len ≤ cap) (hm : cap ≤ maxLen) (hcell : ∀ i, i < cap → W.cell? (x.add i) = some (.bool (B i))) :
    ∃ bs, RowB W (.slice (some x) len cap) bs ∧ bs.length ≤ 9223372036854775807 := by
  refine ⟨(List.range len).map B, ⟨some x, cap, by simp, by simpa using hl, ?_⟩, by simp; unfold maxLen at hm; omega⟩
  by_cases h0 : len = 0
  · left; subst h0; simp
  · right
    obtain ⟨b, off, spot⟩ := x
    have hspot : spot = none := by simpa [Addr.add] using World.cell?_spot (hcell 0 (by omega))
    subst hspot
    refine ⟨b, off, rfl, fun i hi => ?_⟩
    simp at hi
    rw [← addAt, hcell i (by omega), List.getD_eq_getElem?_getD]
    simp [hi]
end Go.Proofs.Ytjbhcdmeeakdcaa
