/- A slice of operations on a disk. -/
import Derived.Test.YtgkikjjgbceopaaOct
import Derived.Test.YtgkikjjgbceopaaChg
namespace Go.Proofs.Ytgkikjjgbceopaa
open Go.RowKit
structure OpV where
  kind : Int
  n : Int
  data : List Int
  turn : Int
def OpV.Fit (o : OpV) : Prop := (-9223372036854775808 ≤ o.kind ∧ o.kind ≤ 9223372036854775807) ∧ (-9223372036854775808 ≤ o.n ∧ o.n ≤ 9223372036854775807) ∧ Oct o.data ∧ 0 ≤ o.turn ∧ o.turn < 256
/-- A slice of operations: kind, number, bytes and turn of each. -/
def OpRow (w : World) (v : Value) (n : Nat) (f : Nat → OpV) : Prop :=
  ∃ p c, v = .slice p n c ∧ n ≤ c ∧ (n = 0 ∨ ∃ b o, p = some ⟨b, o, none⟩ ∧ ∀ i, i < n → (f i).Fit ∧ w.cell? ⟨b, o + i * 4, none⟩ = some (.int .i64 (f i).kind) ∧ w.cell? ⟨b, o + i * 4 + 1, none⟩ = some (.int .i64 (f i).n) ∧
    (∃ dv, w.cell? ⟨b, o + i * 4 + 2, none⟩ = some dv ∧ Row .u8 w dv (f i).data) ∧ w.cell? ⟨b, o + i * 4 + 3, none⟩ = some (.int .u8 (f i).turn))
theorem OpRow.shape {w : World} {v : Value} {n : Nat} {f : Nat → OpV} (h : OpRow w v n f) : ∃ p c, v = .slice p n c := by obtain ⟨p, c, e, _⟩ := h; exact ⟨p, c, e⟩
theorem OpRow.at_ {w : World} {p : Option Addr} {n c : Nat} {f : Nat → OpV} (h : OpRow w (.slice p n c) n f) (i : Nat) (hi : i < n) : ∃ b o q e, p = some ⟨b, o, none⟩ ∧ b < w.heap.size ∧ (f i).Fit ∧ w.cell? ⟨b, o + i * 4, none⟩ = some (.int .i64 (f i).kind) ∧ w.cell? ⟨b, o + i * 4 + 1, none⟩ = some (.int .i64 (f i).n) ∧
    w.cell? ⟨b, o + i * 4 + 2, none⟩ = some (.slice q (f i).data.length e) ∧ Row .u8 w (.slice q (f i).data.length e) (f i).data ∧ w.cell? ⟨b, o + i * 4 + 3, none⟩ = some (.int .u8 (f i).turn) := by
  obtain ⟨p', c', e, _, h⟩ := h
  cases e
  rcases h with h | ⟨b, o, hp, h⟩
  · omega
  · obtain ⟨h1, h2, h3, ⟨dv, h4, h5⟩, h6⟩ := h i hi
    obtain ⟨q, e, rfl⟩ := h5.shape
    exact ⟨b, o, q, e, hp, World.block_lt_of_cell? w _ h2, h1, h2, h3, h4, h5, h6⟩
end Go.Proofs.Ytgkikjjgbceopaa
