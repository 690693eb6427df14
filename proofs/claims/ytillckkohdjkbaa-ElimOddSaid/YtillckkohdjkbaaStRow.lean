/- A struct of three cells written beside a row. -/
import Derived.Test.YtillckkohdjkbaaSt3
namespace Go.Proofs.Ytillckkohdjkbaa
open Go.RowKit
theorem TRow.stay {α : Type} {e : Enc α} {w w' : World} {v : Value} {xs : List α} (h : TRow e w v xs) (hk : ∀ k, v.ownBlock = some k → w'.heap[k]? = w.heap[k]?) (hs : w.heap.size ≤ w'.heap.size) : TRow e w' v xs := by
  obtain ⟨p, c, rfl, hc, h⟩ := h
  refine ⟨p, c, rfl, hc, ?_⟩
  rcases h with h | ⟨b, o, rfl, hlt, h⟩
  · exact .inl h
  · exact .inr ⟨b, o, rfl, by omega, fun i hi t ht => (World.cell?_of_block (hk b rfl)).trans (h i hi t ht)⟩
theorem st3_other (w : World) (g k : Nat) (a b c : Value) (h : k ≠ g) : (st3 w g a b c).heap[k]? = w.heap[k]? := by
  show (((w.setCell ⟨g, 0, none⟩ a).setCell ⟨g, 1, none⟩ b).setCell ⟨g, 2, none⟩ c).heap[k]? = _
  rw [Below.heap_setCell _ _ _ k (by show k ≠ g; omega), Below.heap_setCell _ _ _ k (by show k ≠ g; omega), Below.heap_setCell _ _ _ k (by show k ≠ g; omega)]
theorem TRow.st3 {α : Type} {e : Enc α} {w : World} {v : Value} {xs : List α} {g : Nat} (h : TRow e w v xs) (hk : ∀ k, v.ownBlock = some k → k ≠ g) (a b c : Value) : TRow e (st3 w g a b c) v xs :=
  h.stay (fun k hk' => st3_other w g k a b c (hk k hk')) (by rw [st3_size]; exact Nat.le_refl _)
end Go.Proofs.Ytillckkohdjkbaa
