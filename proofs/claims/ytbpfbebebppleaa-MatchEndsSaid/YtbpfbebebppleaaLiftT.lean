/- From what a reading tells of a slice of structs or arrays to a row of them. -/
import Derived.Test.YtbpfbebebppleaaTRow
import Derived.Test.YtbpfbebebppleaaLift
import Derived.Deep.SlicePairs
import Derived.ChangeSlices
import Derived.ChangeArms
namespace Go.Proofs.Ytbpfbebebppleaa
open Go.ChangeShapes Go.WideShapes Go.ChangeAt Go.RowKit
theorem trow_of_open {α : Type} {H : Type} {enc : TypeId × Value → H} {P : Program} {w : World} {base : Nat} {held : Bool} {t e : TypeId} {fuel : Nat} {a : Option Addr} {len cap : Nat} {x : DataW H × List MemPlace} (E : Enc α) (F : α → Prop)
    (ht : P.underlying t = some (.slice e)) (ce : P.cellsOf e = E.k)
    (rd : ∀ (fuel : Nat) (cs : List Value) (y : DataW H × List MemPlace), cs.length = E.k → DataW.trod enc P w base (fun _ => true) held fuel e cs = some y → ∃ a, cs = E.E a ∧ F a)
    (h : DataW.trod enc P w base (fun _ => true) held fuel t (Value.slice a len cap).cells.toList = some x) : ∃ xs, TRow E w (.slice a len cap) xs ∧ ∀ x ∈ xs, F x := by
  have h' : DataW.trod enc P w base (fun _ => true) held fuel t [.slice a len cap] = some x := by simpa [Value.cells] using h
  rcases Go.Deep.open_slice ht h' with ⟨hcs, _⟩ | ⟨a', len', cap', m, n, D, Pl, hcs, hb, hl, hm, hmm, rfl, hx⟩
  · simp at hcs
    obtain ⟨rfl, rfl, rfl⟩ := hcs
    exact ⟨[], TRow.nil_ E w, (fun _ h => by cases h)⟩
  · simp at hcs
    obtain ⟨rfl, rfl, rfl⟩ := hcs
    have hlm : len ≤ m := by rw [hmm]; split <;> omega
    have each : ∀ i, i < m → ∃ y : α, F y ∧ ∀ t, t < E.k → w.cell? (a'.add (i * E.k + t)) = (E.E y)[t]? := by
      intro i hi
      obtain ⟨cs', h1, h2⟩ := hx i hi
      rw [ce] at h1
      obtain ⟨_, hlen, hcell⟩ := World.cells?_some h1
      obtain ⟨y, rfl, hF⟩ := rd _ _ _ hlen h2
      refine ⟨y, hF, fun t ht => ?_⟩
      have e0 := hcell t (by omega)
      rw [Go.Deep.add_add] at e0
      rw [e0, List.getElem?_eq_getElem (by rw [E.len]; exact ht)]
    by_cases h0 : len = 0
    · subst h0
      exact ⟨[], ⟨_, _, rfl, Nat.zero_le _, .inl rfl⟩, (fun _ h => by cases h)⟩
    · obtain ⟨q0, _⟩ := each 0 (by omega)
      have each' : ∀ i, ∃ y : α, i < m → F y ∧ ∀ t, t < E.k → w.cell? (a'.add (i * E.k + t)) = (E.E y)[t]? := by
        intro i
        by_cases hi : i < m
        · obtain ⟨y, hy⟩ := each i hi
          exact ⟨y, fun _ => hy⟩
        · exact ⟨q0, fun h => absurd h hi⟩
      let q : Nat → α := fun i => Classical.choose (each' i)
      have hq : ∀ i, i < m → F (q i) ∧ ∀ t, t < E.k → w.cell? (a'.add (i * E.k + t)) = (E.E (q i))[t]? := fun i => Classical.choose_spec (each' i)
      have hL : ((List.range len).map q).length = len := by simp
      refine ⟨(List.range len).map q, ⟨some a', cap, by rw [hL], by rw [hL]; exact hl, .inr ?_⟩, fun z hz => ?_⟩
      · obtain ⟨b, off, spot⟩ := a'
        have hk := E.pos
        have h00 := (hq 0 (by omega)).2 0 hk
        rw [List.getElem?_eq_getElem (by rw [E.len]; exact hk)] at h00
        have hspot : spot = none := by simpa [Addr.add] using World.cell?_spot h00
        subst hspot
        refine ⟨b, off, rfl, ?_, fun i hi t ht => ?_⟩
        · rw [addAt] at h00
          exact World.block_lt_of_cell? w _ h00
        · rw [hL] at hi
          have := (hq i (by omega)).2 t ht
          rw [addAt] at this
          rw [Nat.add_assoc, this]
          simp
      · obtain ⟨i, hi, rfl⟩ := List.mem_map.1 hz
        exact (hq i (by have := List.mem_range.1 hi; omega)).1
end Go.Proofs.Ytbpfbebebppleaa
