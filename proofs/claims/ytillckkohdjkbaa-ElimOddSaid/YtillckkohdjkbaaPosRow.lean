/- Slices of positions: three cells each. -/
import Derived.Test.YtillckkohdjkbaaVecPure
import Derived.Test.YtillckkohdjkbaaMem
import Derived.Test.YtillckkohdjkbaaChg
namespace Go.Proofs.Ytillckkohdjkbaa
open Go.RowKit
/-- A slice of positions. -/
def PRow (w : World) (v : Value) (ps : List Pos) : Prop :=
  ∃ p c, v = .slice p ps.length c ∧ ps.length ≤ c ∧ (ps = [] ∨ ∃ b o, p = some ⟨b, o, none⟩ ∧ b < w.heap.size ∧ ∀ i (h : i < ps.length), w.cell? ⟨b, o + i * 3, none⟩ = some (.int .i64 ps[i].e) ∧ w.cell? ⟨b, o + i * 3 + 1, none⟩ = some (.int .i64 ps[i].c) ∧ w.cell? ⟨b, o + i * 3 + 2, none⟩ = some (.int .i64 ps[i].a))
theorem PRow.shape {w : World} {v : Value} {ps : List Pos} (h : PRow w v ps) : ∃ p c, v = .slice p ps.length c := by obtain ⟨p, c, e, _⟩ := h; exact ⟨p, c, e⟩
theorem PRow.kept {w w' : World} {v : Value} {ps : List Pos} (h : PRow w v ps) (hb : Below w.heap.size w w') : PRow w' v ps := by
  obtain ⟨p, c, rfl, hc, h⟩ := h
  refine ⟨p, c, rfl, hc, ?_⟩
  rcases h with h | ⟨b, o, rfl, hlt, h⟩
  · exact .inl h
  · refine .inr ⟨b, o, rfl, Nat.lt_of_lt_of_le hlt hb.size, fun i hi => ?_⟩
    obtain ⟨h1, h2, h3⟩ := h i hi
    exact ⟨(hb.cell (p := ⟨b, _, none⟩) hlt).trans h1, (hb.cell (p := ⟨b, _, none⟩) hlt).trans h2, (hb.cell (p := ⟨b, _, none⟩) hlt).trans h3⟩
theorem PRow.nil_ (w : World) : PRow w (.slice none 0 0) [] := ⟨none, 0, rfl, Nat.le_refl _, .inl rfl⟩
theorem PRow.at_ {w : World} {p : Option Addr} {n c : Nat} {ps : List Pos} (h : PRow w (.slice p n c) ps) (i : Nat) (hi : i < ps.length) : ∃ b o, p = some ⟨b, o, none⟩ ∧ b < w.heap.size ∧ w.cell? ⟨b, o + i * 3, none⟩ = some (.int .i64 ps[i].e) ∧ w.cell? ⟨b, o + i * 3 + 1, none⟩ = some (.int .i64 ps[i].c) ∧ w.cell? ⟨b, o + i * 3 + 2, none⟩ = some (.int .i64 ps[i].a) := by
  obtain ⟨p', c', e, _, h⟩ := h
  cases e
  rcases h with h | ⟨b, o, hp, hlt, h⟩
  · subst h; simp at hi
  · exact ⟨b, o, hp, hlt, h i hi⟩
/-- A part of it. -/
theorem PRow.take {w : World} {p : Option Addr} {n c : Nat} {ps : List Pos} (h : PRow w (.slice p n c) ps) (m : Nat) (hm : m ≤ ps.length) : PRow w (.slice p m c) (ps.take m) := by
  obtain ⟨p', c', e, hc, h⟩ := h
  cases e
  have hl : (ps.take m).length = m := by rw [List.length_take]; omega
  refine ⟨p, c, by rw [hl], by omega, ?_⟩
  rcases h with h | ⟨b, o, hp, hlt, h⟩
  · left; rw [h]; simp
  · refine .inr ⟨b, o, hp, hlt, fun i hi => ?_⟩
    rw [List.getElem_take]
    exact h i (by omega)
theorem PRow.drop {w : World} {b o n c : Nat} {ps : List Pos} (h : PRow w (.slice (some ⟨b, o, none⟩) n c) ps) (m : Nat) (hm : m ≤ ps.length) : PRow w (.slice (some ⟨b, o + m * 3, none⟩) (ps.length - m) (c - m)) (ps.drop m) := by
  obtain ⟨p', c', e, hc, h⟩ := h
  cases e
  have hl : (ps.drop m).length = ps.length - m := List.length_drop
  refine ⟨_, _, by rw [hl], by omega, ?_⟩
  rcases h with h | ⟨b', o', hp, hlt, h⟩
  · left; rw [h]; simp
  · cases hp
    refine .inr ⟨b, _, rfl, hlt, fun i hi => ?_⟩
    rw [List.getElem_drop]
    have h2 := h (m + i) (by omega)
    rw [show o + m * 3 + i * 3 = o + (m + i) * 3 by omega]
    exact h2
end Go.Proofs.Ytillckkohdjkbaa
