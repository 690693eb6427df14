/- Slices of integers that are only read: what they hold; and that they hold it behind any call that writes only to memory of its own. -/
import Derived.Test.YtbpfbebebppleaaProg
import Derived.WalkKit
import Derived.WalkSpells
import Derived.WalkLawsBesides
import Derived.Laws.Externs
import Derived.Lib.Hide
namespace Go.Proofs.Ytbpfbebebppleaa
open Go.RowKit

/-- The slice v holds the numbers zs, each of kind k. -/
def Row (k : IntKind) (w : World) (v : Value) (zs : List Int) : Prop :=
  ∃ p c, v = .slice p zs.length c ∧ zs.length ≤ c ∧ (zs = [] ∨ ∃ b o, p = some ⟨b, o, none⟩ ∧ ∀ i, i < zs.length → w.cell? ⟨b, o + i, none⟩ = some (.int k (zs.getD i 0)))

theorem Row.kept {k : IntKind} {w w' : World} {v : Value} {zs : List Int} (h : Row k w v zs) (hb : Below w.heap.size w w') : Row k w' v zs := by
  obtain ⟨p, c, rfl, hc, h⟩ := h
  refine ⟨p, c, rfl, hc, ?_⟩
  rcases h with h | ⟨b, o, rfl, h⟩
  · exact .inl h
  · refine .inr ⟨b, o, rfl, fun i hi => ?_⟩
    have := h i hi
    rw [hb.cell (p := ⟨b, o + i, none⟩) (World.block_lt_of_cell? w _ this)]; exact this

/-- All numbers of the list are of 64 bits. -/
def All64 (zs : List Int) : Prop := ∀ a ∈ zs, -9223372036854775808 ≤ a ∧ a ≤ 9223372036854775807
theorem All64.getD {zs : List Int} (h : All64 zs) (i : Nat) : -9223372036854775808 ≤ zs.getD i 0 ∧ zs.getD i 0 ≤ 9223372036854775807 := by
  rw [List.getD_eq_getElem?_getD]
  by_cases hi : i < zs.length
  · rw [List.getElem?_eq_getElem hi]; exact h _ (List.getElem_mem hi)
  · rw [List.getElem?_eq_none (by omega)]; simp
end Go.Proofs.Ytbpfbebebppleaa
