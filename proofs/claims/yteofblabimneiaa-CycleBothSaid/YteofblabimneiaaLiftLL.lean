/- From what a reading tells of a slice of slices of lines to rows. -/
import Derived.Test.YteofblabimneiaaLiftLin
import Derived.Test.YteofblabimneiaaCycBothD
namespace Go.Proofs.Yteofblabimneiaa
open Go.ChangeShapes Go.WideShapes Go.ChangeAt Go.RowKit
theorem ll_of_open {H : Type} {enc : TypeId × Value → H} {P : Program} {w : World} {base : Nat} {held : Bool} {t s e : TypeId} {fuel : Nat} {a : Option Addr} {len cap : Nat} {x : DataW H × List MemPlace}
    (ht : P.underlying t = some (.slice s)) (cs : P.cellsOf s = 1) (hs : P.underlying s = some (.slice e)) (ce : P.cellsOf e = 4)
    (rd : ∀ (fuel : Nat) (cs : List Value) (y : DataW H × List MemPlace), cs.length = 4 → DataW.trod enc P w base (fun _ => true) held fuel e cs = some y → ∃ x : Lin, cs = x.cells ∧ x.Fit)
    (h : DataW.trod enc P w base (fun _ => true) held fuel t (Value.slice a len cap).cells.toList = some x) : ∃ xss, LL w (.slice a len cap) xss := by
  have h' : DataW.trod enc P w base (fun _ => true) held fuel t [.slice a len cap] = some x := by simpa [Value.cells] using h
  rcases Go.Deep.open_slice ht h' with ⟨hcs, _⟩ | ⟨a', len', cap', m, n, D, Pl, hcs, hb, hl, hm, hmm, rfl, hx⟩
  · simp at hcs
    obtain ⟨rfl, rfl, rfl⟩ := hcs
    exact ⟨[], _, _, rfl, Nat.le_refl _, .inl rfl⟩
  · simp at hcs
    obtain ⟨rfl, rfl, rfl⟩ := hcs
    have hlm : len ≤ m := by rw [hmm]; split <;> omega
    have each : ∀ i, i < m → ∃ xs : List Lin, ∃ u, w.cell? (a'.add (i * 1)) = some u ∧ TRow encN w u xs := by
      intro i hi
      obtain ⟨cs', h1, h2⟩ := hx i hi
      rw [cs] at h1
      obtain ⟨_, hlen, hcell⟩ := World.cells?_some h1
      match cs', hlen with
      | [u], _ =>
        obtain ⟨xs, h3, _⟩ := lines_of_read hs ce rd h2
        have e0 := hcell 0 (by simp)
        rw [Go.Deep.add_add] at e0
        exact ⟨xs, u, by simpa using e0, h3⟩
    by_cases h0 : len = 0
    · subst h0
      exact ⟨[], ⟨_, _, rfl, Nat.zero_le _, .inl rfl⟩⟩
    · have each' : ∀ i, ∃ xs : List Lin, i < m → ∃ u, w.cell? (a'.add (i * 1)) = some u ∧ TRow encN w u xs := by
        intro i
        by_cases hi : i < m
        · obtain ⟨y, hy⟩ := each i hi
          exact ⟨y, fun _ => hy⟩
        · exact ⟨[], fun h => absurd h hi⟩
      let q : Nat → List Lin := fun i => Classical.choose (each' i)
      have hq : ∀ i, i < m → ∃ u, w.cell? (a'.add (i * 1)) = some u ∧ TRow encN w u (q i) := fun i => Classical.choose_spec (each' i)
      have hL : ((List.range len).map q).length = len := by simp
      refine ⟨(List.range len).map q, some a', cap, by rw [hL], by rw [hL]; exact hl, .inr ?_⟩
      obtain ⟨b, off, spot⟩ := a'
      obtain ⟨u0, h00, _⟩ := hq 0 (by omega)
      have hspot : spot = none := by simpa [Addr.add] using World.cell?_spot h00
      subst hspot
      refine ⟨b, off, rfl, ?_, fun i hi => ?_⟩
      · rw [addAt] at h00
        exact World.block_lt_of_cell? w _ h00
      · rw [hL] at hi
        obtain ⟨u, h1, h2⟩ := hq i (by omega)
        rw [addAt, Nat.mul_one] at h1
        exact ⟨u, h1, by simpa using h2⟩
end Go.Proofs.Yteofblabimneiaa
