/- Two, three or four slices of bytes in an array of their own. -/
import Derived.Test.YtbimbpmdiahhbaaConcat8
namespace Go.Proofs.Ytbimbpmdiahhbaa
open Go.RowKit
theorem Rows8.two (w : World) (T : TypeId) (b : Nat) (hb : b = w.heap.size) (v1 v2 : Value) (z1 z2 : List Int) (h1 : Row .u8 w v1 z1) (h2 : Row .u8 w v2 z2) : Rows8 (w.alloc (.cells #[v1, v2] T)) b 0 [v1, v2] [z1, z2] := by
  subst hb
  refine ⟨rfl, fun i hi => ?_⟩
  have hB := Blk.new w #[v1, v2] T
  match i, hi with
  | 0, _ => exact ⟨hB.cell 0, h1.under (oneB w _) (Nat.le_refl _)⟩
  | 1, _ => exact ⟨hB.cell 1, h2.under (oneB w _) (Nat.le_refl _)⟩
theorem Rows8.three (w : World) (T : TypeId) (b : Nat) (hb : b = w.heap.size) (v1 v2 v3 : Value) (z1 z2 z3 : List Int) (h1 : Row .u8 w v1 z1) (h2 : Row .u8 w v2 z2) (h3 : Row .u8 w v3 z3) : Rows8 (w.alloc (.cells #[v1, v2, v3] T)) b 0 [v1, v2, v3] [z1, z2, z3] := by
  subst hb
  refine ⟨rfl, fun i hi => ?_⟩
  have hB := Blk.new w #[v1, v2, v3] T
  match i, hi with
  | 0, _ => exact ⟨hB.cell 0, h1.under (oneB w _) (Nat.le_refl _)⟩
  | 1, _ => exact ⟨hB.cell 1, h2.under (oneB w _) (Nat.le_refl _)⟩
  | 2, _ => exact ⟨hB.cell 2, h3.under (oneB w _) (Nat.le_refl _)⟩
theorem Rows8.four (w : World) (T : TypeId) (b : Nat) (hb : b = w.heap.size) (v1 v2 v3 v4 : Value) (z1 z2 z3 z4 : List Int) (h1 : Row .u8 w v1 z1) (h2 : Row .u8 w v2 z2) (h3 : Row .u8 w v3 z3) (h4 : Row .u8 w v4 z4) : Rows8 (w.alloc (.cells #[v1, v2, v3, v4] T)) b 0 [v1, v2, v3, v4] [z1, z2, z3, z4] := by
  subst hb
  refine ⟨rfl, fun i hi => ?_⟩
  have hB := Blk.new w #[v1, v2, v3, v4] T
  match i, hi with
  | 0, _ => exact ⟨hB.cell 0, h1.under (oneB w _) (Nat.le_refl _)⟩
  | 1, _ => exact ⟨hB.cell 1, h2.under (oneB w _) (Nat.le_refl _)⟩
  | 2, _ => exact ⟨hB.cell 2, h3.under (oneB w _) (Nat.le_refl _)⟩
  | 3, _ => exact ⟨hB.cell 3, h4.under (oneB w _) (Nat.le_refl _)⟩
theorem own_down {k : IntKind} {w : World} {base base' : Nat} {e : TypeId} {v : Value} {zs : List Int} (h : Own k w base e v zs) (hb : base' ≤ base) : Own k w base' e v zs := by
  refine ⟨h.1, ?_⟩
  rcases h.2 with h | ⟨g, cap, cur, hv, hbg, hr⟩
  · exact .inl h
  · exact .inr ⟨g, cap, cur, hv, by omega, hr⟩
end Go.Proofs.Ytbimbpmdiahhbaa
