/- bytes.Clone by contract. -/
import Derived.Test.YtbimbpmdiahhbaaElt
import Derived.Lib.SliceRun
namespace Go.Proofs.Ytbimbpmdiahhbaa
open Go.RowKit
/-- bytes.Clone. -/
theorem clone_any (v : Value) (zs : List Int) (w : World) (hrow : Row .u8 w v zs) (hl : zs.length ≤ 140737488355000) :
    Calls Try.prog 17 #[v] w fun x w' => ∃ v', x = .returned v' ∧ Own .u8 w' w.heap.size 5 v' zs ∧ Below w.heap.size w w' := by
  obtain ⟨p, c, rfl⟩ := hrow.shape
  have HROW := Lib.hid hrow
  cases p with
  | none =>
    have hz : zs = [] := by
      obtain ⟨p, c', e, _, h⟩ := hrow
      cases e
      rcases h with h | ⟨b, o, h, _⟩
      · exact h
      · cases h
    subst hz
    clear hrow
    have kq := Lib.run_eql_slice_nil (P := Try.prog) w 22 5 none 0 c 0 0 Try.underlying22
    simp only [List.length_nil]
    go_enter Try.func17, Try.ntmps17
    go_wp2
    go_ret
    exact ⟨_, rfl, Own.nil_ _ _ _ _, Below.refl _ _⟩
  | some ad =>
    have O0 := Lib.hid (Own.made_at .u8 w w.heap.size w.heap.size 5 (Nat.le_refl _) rfl)
    have HL := Lib.hid hl
    clear hrow hl
    have kq := Lib.run_eql_slice_nil (P := Try.prog) w 22 5 (some ad) zs.length c 0 0 Try.underlying22
    go_enter Try.func17, Try.ntmps17
    go_wp2_with (at_builtin; go_loud (refine wpList_append_row rfl _ _ 22 rfl 5 .u8 1 w.heap.size elt8 _ _ [] zs rfl rfl O0.out (HROW.out.under (oneB w _) (Nat.le_refl _)) (by have := HL.out; simp; omega) (by have := HL.out; simp; omega) (by simp) zs zs.length rfl rfl ?_; intro p2 c2 w2 ho2 hb2; have HO := Lib.hid ho2; have HB := Lib.hid hb2; clear ho2 hb2))
    go_ret
    exact ⟨_, rfl, HO.out, (oneB w _).trans HB.out⟩
end Go.Proofs.Ytbimbpmdiahhbaa
