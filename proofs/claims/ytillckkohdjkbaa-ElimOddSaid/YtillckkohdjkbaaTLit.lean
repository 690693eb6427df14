/- A row of structs that lies whole in a block. -/
import Derived.Test.YtillckkohdjkbaaTRow
namespace Go.Proofs.Ytillckkohdjkbaa
open Go.RowKit
theorem TRow.lit {α : Type} (e : Enc α) {w : World} {b : Nat} {cs : Array Value} {ty : TypeId} (xs : List α) (n c : Nat) (hB : Blk w b cs ty) (hcs : cs.toList = xs.flatMap e.E) (hn : n = xs.length) (hc : n ≤ c) : TRow e w (.slice (some ⟨b, 0, none⟩) n c) xs := by
  subst hn
  refine ⟨_, c, rfl, hc, .inr ⟨b, 0, rfl, hB.lt, fun i hi t ht => ?_⟩⟩
  rw [Nat.zero_add, hB.cell, ← Array.getElem?_toList, hcs, flat_get e xs i t hi ht]
end Go.Proofs.Ytillckkohdjkbaa
