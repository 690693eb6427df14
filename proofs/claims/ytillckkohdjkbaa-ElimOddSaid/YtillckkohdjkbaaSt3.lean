/- A struct of three cells, written; an own slice of structs beside it. -/
import Derived.Test.YtillckkohdjkbaaTRow
namespace Go.Proofs.Ytillckkohdjkbaa
open Go.RowKit
def st3 (w : World) (g : Nat) (a b c : Value) : World := ((w.setCell ⟨g, 0, none⟩ a).setCell ⟨g, 1, none⟩ b).setCell ⟨g, 2, none⟩ c
theorem st3_blk {w : World} {g : Nat} {cs : Array Value} {t : TypeId} (h : Blk w g cs t) (hs : cs.size = 3) (a b c : Value) : Blk (st3 w g a b c) g #[a, b, c] t := by
  have h2 := ((h.set 0 a).set 1 b).set 2 c
  have e : ((cs.setIfInBounds 0 a).setIfInBounds 1 b).setIfInBounds 2 c = #[a, b, c] := by
    match cs, hs with
    | ⟨[x, y, z]⟩, _ => rfl
  rw [e] at h2
  exact h2
theorem st3_below {B : Nat} {w w1 : World} {g : Nat} (h : Below B w w1) (hg : B ≤ g) (a b c : Value) : Below B w (st3 w1 g a b c) := h.setCell (p := ⟨g, 0, none⟩) hg a |>.setCell (p := ⟨g, 1, none⟩) hg b |>.setCell (p := ⟨g, 2, none⟩) hg c
theorem st3_size (w : World) (g : Nat) (a b c : Value) : (st3 w g a b c).heap.size = w.heap.size := by unfold st3; simp
theorem OwnT.st3 {α : Type} {e : Enc α} {w : World} {base g : Nat} {ty : TypeId} {v : Value} {xs : List α} (h : OwnT e w base ty v xs) (hg : g < base) (a b c : Value) : OwnT e (st3 w g a b c) base ty v xs := by
  refine h.stay (fun k hk => ?_)
  have hge := h.block_ge k hk
  show (((w.setCell ⟨g, 0, none⟩ a).setCell ⟨g, 1, none⟩ b).setCell ⟨g, 2, none⟩ c).heap[k]? = _
  rw [Below.heap_setCell _ _ _ k (by show k ≠ g; omega), Below.heap_setCell _ _ _ k (by show k ≠ g; omega), Below.heap_setCell _ _ _ k (by show k ≠ g; omega)]
theorem OwnT.len {α : Type} {e : Enc α} {w : World} {base n c : Nat} {ty : TypeId} {p : Option Addr} {xs : List α} (h : OwnT e w base ty (.slice p n c) xs) : n = xs.length := by
  obtain ⟨p', c', e1⟩ := h.form
  exact (Value.slice.inj e1).2.1
end Go.Proofs.Ytillckkohdjkbaa
