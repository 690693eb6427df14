/- code.Read by contract. -/
import Derived.Test.YtbimbpmdiahhbaaRdr
import Derived.Test.YtbimbpmdiahhbaaClone
namespace Go.Proofs.Ytbimbpmdiahhbaa
open Go.RowKit
/-- code.Read. -/
theorem read_any (v : Value) (zs : List Int) (w : World) (hrow : Row .u8 w v zs) (hl : zs.length ≤ 140737488355000) :
    Calls Try.prog 9 #[v] w fun x w' => ∃ g g0, x = .returned (.pointer (some ⟨g, 0, none⟩)) ∧ Rdr w' g g0 zs 0 ∧ w.heap.size ≤ g ∧ w.heap.size ≤ g0 ∧ Below w.heap.size w w' := by
  have HROW := Lib.hid hrow
  clear hrow
  go_enter Try.func9, Try.ntmps9
  go_wp2_with fail
  refine (clone_any v zs w HROW.out hl).mono ?_
  rintro x w1 ⟨v1, rfl, ho, hb⟩
  obtain ⟨p1, c1, rfl⟩ := ho.form
  have HO := Lib.hid ho
  have HB := Lib.hid hb
  clear ho hb
  go_wp2_with fail
  go_ret
  obtain ⟨g0, h0, hlt, hat⟩ := HO.out.rowAt
  have hs := HB.out.size
  rcases hlt with hlt | ⟨rfl, rfl⟩
  · exact ⟨_, g0, rfl, ⟨_, Blk.new _ _ _, hat.below (oneB w1 _) (fun h => h), by omega⟩, hs, h0, HB.out.alloc hs _⟩
  · refine ⟨_, w1.heap.size + 1, rfl, ⟨_, Blk.new _ _ _, ?_, by omega⟩, hs, by omega, HB.out.alloc hs _⟩
    obtain ⟨p', c', e, hc, _⟩ := hat
    exact ⟨p', c', e, hc, .inl rfl⟩
end Go.Proofs.Ytbimbpmdiahhbaa
