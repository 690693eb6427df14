/- From what a reading tells of an array of two byte slices to two rows. -/
import Derived.Test.YtjbhcdmeeakdcaaLift8
import Derived.ChangeSlices
import Derived.ChangeArms
namespace Go.Proofs.Ytjbhcdmeeakdcaa
open Go.ChangeShapes Go.WideShapes Go.ChangeAt Go.RowKit
theorem row_of_read {H : Type} {enc : TypeId × Value → H} {P : Program} {w : World} {base : Nat} {held : Bool} {e q : TypeId} {fuel : Nat} {c : Value} {y : DataW H × List MemPlace}
    (he : P.underlying e = some (.slice q)) (hq : P.underlying q = some (.int .u8)) (cq : P.cellsOf q = 1) (h : DataW.trod enc P w base (fun _ => true) held fuel e [c] = some y) : ∃ zs, Oct zs ∧ Row .u8 w c zs := by
  rcases open_ints he hq cq h with ⟨hcs, _⟩ | ⟨x, l, cap, zs, hcs, _, hl, _, hz, _, hcell, hwz⟩
  · simp at hcs
    subst hcs
    exact ⟨[], (fun _ h => by cases h), none, 0, rfl, Nat.le_refl _, .inl rfl⟩
  · simp at hcs
    subst hcs
    have hcap : zs.length = cap := by simpa using hz
    have hlen : (zs.take l).length = l := by rw [List.length_take]; omega
    refine ⟨zs.take l, (oct_of_wf hwz).take _, some x, cap, by rw [hlen], by rw [hlen]; exact hl, ?_⟩
    by_cases h0 : l = 0
    · left; subst h0; rfl
    · obtain ⟨b, off, rfl, hc⟩ := ints_at hcell (by omega)
      refine .inr ⟨b, off, rfl, fun i hi => ?_⟩
      rw [hlen] at hi
      rw [hc i (by omega), List.getD_eq_getElem?_getD, List.getD_eq_getElem?_getD, List.getElem?_take, if_pos hi]
theorem two_of_open {H : Type} {enc : TypeId × Value → H} {P : Program} {w : World} {base : Nat} {held : Bool} {t e q : TypeId} {fuel : Nat} {c0 c1 : Value} {x : DataW H × List MemPlace}
    (ht : P.underlying t = some (.array 2 e)) (he : P.underlying e = some (.slice q)) (hq : P.underlying q = some (.int .u8)) (ce : P.cellsOf e = 1) (cq : P.cellsOf q = 1)
    (h : DataW.trod enc P w base (fun _ => true) held fuel t (Value.agg #[c0, c1]).cells.toList = some x) : ∃ A B, Oct A ∧ Row .u8 w c0 A ∧ Oct B ∧ Row .u8 w c1 B := by
  have h' : DataW.trod enc P w base (fun _ => true) held fuel t [c0, c1] = some x := by simpa [Value.cells] using h
  cases fuel with
  | zero => simp [DataW.trod] at h'
  | succ n =>
    unfold DataW.trod at h'
    rw [ht] at h'
    have r2 : List.range 2 = [0, 1] := rfl
    simp [r2, ce] at h'
    obtain ⟨_, h'⟩ := h'
    cases h0 : DataW.trod enc P w base (fun _ => true) held n e [c0] with
    | none => simp [h0] at h'
    | some y0 =>
      cases h1 : DataW.trod enc P w base (fun _ => true) held n e [c1] with
      | none => simp [h0, h1] at h'
      | some y1 =>
        obtain ⟨A, oA, rA⟩ := row_of_read he hq cq h0
        obtain ⟨B, oB, rB⟩ := row_of_read he hq cq h1
        exact ⟨A, B, oA, rA, oB, rB⟩
end Go.Proofs.Ytjbhcdmeeakdcaa
