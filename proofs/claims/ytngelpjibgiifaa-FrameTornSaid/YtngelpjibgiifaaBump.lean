/- Each byte of a slice one more; where a slice of the call's own lies. -/
import Derived.Test.YtngelpjibgiifaaChg
import Derived.Test.YtngelpjibgiifaaOct
namespace Go.Proofs.Ytngelpjibgiifaa
open Go.RowKit
/-- Each of the first k bytes one more. -/
def bumpTo (zs : List Int) : Nat → List Int
  | 0 => zs
  | k + 1 => (bumpTo zs k).set k (((bumpTo zs k).getD k 0 + 1) % 256)
theorem bumpTo_length (zs : List Int) (k : Nat) : (bumpTo zs k).length = zs.length := by
  induction k with
  | zero => rfl
  | succ k ih => simp [bumpTo, ih]
theorem bumpTo_oct (zs : List Int) (k : Nat) (h : Oct zs) : Oct (bumpTo zs k) := by
  induction k with
  | zero => exact h
  | succ k ih =>
    intro a ha
    rcases List.mem_or_eq_of_mem_set ha with ha | rfl
    · exact ih a ha
    · omega
theorem own_place {k : IntKind} {w : World} {base : Nat} {e : TypeId} {n c : Nat} {p : Option Addr} {zs : List Int} (h : Own k w base e (.slice p n c) zs) : ∃ gx, (0 < n → p = some ⟨gx, 0, none⟩) ∧ base ≤ gx := by
  by_cases hn : 0 < n
  · obtain ⟨g, hp, hb, _⟩ := h.at_ hn
    exact ⟨g, fun _ => hp, hb⟩
  · exact ⟨base, fun h => absurd h hn, Nat.le_refl _⟩
theorem own_place2 {k : IntKind} {w : World} {base : Nat} {e : TypeId} {n c : Nat} {p : Option Addr} {zs : List Int} (h : Own k w base e (.slice p n c) zs) (hw : base < w.heap.size) : ∃ gx, (0 < n → p = some ⟨gx, 0, none⟩) ∧ base ≤ gx ∧ gx < w.heap.size := by
  by_cases hn : 0 < n
  · obtain ⟨g, hp, hb, hl, _⟩ := h.at_ hn
    exact ⟨g, fun _ => hp, hb, hl⟩
  · exact ⟨base, fun h => absurd h hn, Nat.le_refl _, hw⟩
/-- A row of the call's own that lies in another block than the one that changes. -/
theorem Own.chg {k : IntKind} {w w' : World} {base n c g gx : Nat} {e : TypeId} {zs : List Int} (h : Own k w base e (.slice (some ⟨g, 0, none⟩) n c) zs) (hc : Chg gx w w') (hne : g ≠ gx) : Own k w' base e (.slice (some ⟨g, 0, none⟩) n c) zs := by
  obtain ⟨hl, h2⟩ := h
  refine ⟨hl, ?_⟩
  rcases h2 with ⟨e, _⟩ | ⟨g', cap, cur, e, hb, hgg, hr⟩
  · cases e
  · cases e
    exact .inr ⟨g, c, cur, rfl, hb, (hc.2 g (lt_of_block hgg) hne).trans hgg, hr⟩
/-- Own rows that are bumped: the row's block alone changes. -/
def BumpRel2 (w1 : World) (base gx k n c : Nat) (p : Option Addr) (L : List Int) (wr : World) : Prop := Own .u8 wr base 5 (.slice p n c) (bumpTo L k) ∧ Chg gx w1 wr
end Go.Proofs.Ytngelpjibgiifaa
