/- From what a reading tells of a slice of byte slices to a row. -/
import Derived.Test.YtjbhcdmeeakdcaaAppV
import Derived.Test.YtjbhcdmeeakdcaaLift8
import Derived.Deep.Matrix
namespace Go.Proofs.Ytjbhcdmeeakdcaa
open Go.ChangeShapes Go.WideShapes Go.ChangeAt Go.RowKit
theorem ss_of_open {H : Type} {enc : TypeId × Value → H} {P : Program} {w : World} {base : Nat} {held : Bool} {t e q : TypeId} {fuel : Nat} {a : Option Addr} {len cap : Nat} {x : DataW H × List MemPlace}
    (ht : P.underlying t = some (.slice e)) (he : P.underlying e = some (.slice q)) (hq : P.underlying q = some (.int .u8)) (ce : P.cellsOf e = 1) (cq : P.cellsOf q = 1)
    (h : DataW.trod enc P w base (fun _ => true) held fuel t (Value.slice a len cap).cells.toList = some x) : ∃ dss, (∀ d ∈ dss, Oct d) ∧ RowSS w (.slice a len cap) dss := by
  have h' : DataW.trod enc P w base (fun _ => true) held fuel t [.slice a len cap] = some x := by simpa [Value.cells] using h
  rcases Go.Deep.open_int_rows ht he hq ce cq h' with ⟨hcs, _⟩ | ⟨a', len', cap', A, L, C, Z, hcs, _, hl, _, _, hx⟩
  · simp at hcs
    obtain ⟨rfl, rfl, rfl⟩ := hcs
    exact ⟨[], (fun _ h => by cases h), none, 0, rfl, Nat.le_refl _, .inl rfl⟩
  · simp at hcs
    obtain ⟨rfl, rfl, rfl⟩ := hcs
    have hlen : ((List.range len).map fun r => (Z r).take (L r)).length = len := by simp
    have hget : ∀ i, i < len → ((List.range len).map fun r => (Z r).take (L r)).getD i [] = (Z i).take (L i) := by
      intro i hi
      rw [List.getD_eq_getElem?_getD, List.getElem?_map, List.getElem?_range hi]; rfl
    refine ⟨(List.range len).map fun r => (Z r).take (L r), ?_, some a', cap, by rw [hlen], by rw [hlen]; exact hl, ?_⟩
    · intro d hd
      obtain ⟨r, hr, rfl⟩ := List.mem_map.1 hd
      have h2 := (hx r (by have := List.mem_range.1 hr; omega)).2.2.2.2.1
      exact (oct_of_wf h2).take _
    · by_cases h0 : len = 0
      · left; subst h0; rfl
      · right
        obtain ⟨b, off, spot⟩ := a'
        have hspot : spot = none := by simpa [Addr.add] using World.cell?_spot (hx 0 (by omega)).1
        subst hspot
        refine ⟨b, off, rfl, fun i hi => ?_⟩
        rw [hlen] at hi
        obtain ⟨r0, r1, r2, r3, r4, r5, r6⟩ := hx i (by omega)
        rw [addAt] at r0
        rw [hget i hi]
        have hln : ((Z i).take (L i)).length = L i := by rw [List.length_take]; omega
        refine ⟨_, r0, A i, C i, by rw [hln], by rw [hln]; exact r1, ?_⟩
        by_cases hz : L i = 0
        · left; rw [hz]; rfl
        · right
          cases hA : A i with
          | none => have := r5 hA; omega
          | some a2 =>
            obtain ⟨b2, off2, spot2⟩ := a2
            have hc := (r6 _ hA).2
            have hs2 : spot2 = none := by simpa [Addr.add] using World.cell?_spot (hc 0 (by omega))
            subst hs2
            refine ⟨b2, off2, rfl, fun j hj => ?_⟩
            rw [hln] at hj
            have := hc j (by omega)
            rw [addAt] at this
            rw [this, List.getD_eq_getElem?_getD, List.getD_eq_getElem?_getD, List.getElem?_take, if_pos hj]
end Go.Proofs.Ytjbhcdmeeakdcaa
