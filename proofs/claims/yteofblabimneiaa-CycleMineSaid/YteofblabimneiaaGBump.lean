/- Rows of which one cell of each element is changed. -/
import Derived.Test.YteofblabimneiaaMsgData
import Derived.Test.YteofblabimneiaaChg
import Derived.Test.YteofblabimneiaaTRow2
import Derived.Deep.RegionHeld3
namespace Go.Proofs.Yteofblabimneiaa
open Go.RowKit
set_option linter.unusedSimpArgs false
/-- Rows of which one cell of each element is another one. -/
def GBump (s o : Nat) (w1 : World) (g n : Nat) (wr : World) : Prop := Chg g w1 wr ∧ (0 < n → ∃ cs ty, Blk wr g cs ty ∧ ∀ j, j < n → ∃ z, cs[j * s + o]? = some (.int .i64 z))
theorem gbump_set {s o : Nat} {w1 wr : World} {g n : Nat} (hs : o < s) (h : GBump s o w1 g n wr) (k : Nat) (v : Int) : GBump s o w1 g n (wr.setCell ⟨g, k * s + o, none⟩ (.int .i64 v)) := by
  refine ⟨h.1.set _ _, fun hn => ?_⟩
  obtain ⟨cs, ty, hb, hc⟩ := h.2 hn
  refine ⟨_, ty, hb.set (k * s + o) (.int .i64 v), fun j hj => ?_⟩
  obtain ⟨z, hz⟩ := hc j hj
  by_cases hjk : j = k
  · subst hjk
    refine ⟨v, ?_⟩
    rw [Array.getElem?_setIfInBounds_self_of_lt (by
      rcases Nat.lt_or_ge (j * s + o) cs.size with h | h
      · exact h
      · rw [Array.getElem?_eq_none h] at hz; cases hz)]
  · refine ⟨z, ?_⟩
    rw [Array.getElem?_setIfInBounds_ne (fun e => hjk ?_)]
    · exact hz
    · rcases Nat.lt_or_ge j k with h1 | h1
      · have := Nat.mul_le_mul_right s (show j + 1 ≤ k from h1)
        rw [Nat.add_mul] at this
        omega
      · rcases Nat.lt_or_ge k j with h2 | h2
        · have := Nat.mul_le_mul_right s (show k + 1 ≤ j from h2)
          rw [Nat.add_mul] at this
          omega
        · omega
theorem gbump_at {s o : Nat} {w1 wr : World} {g n : Nat} (h : GBump s o w1 g n wr) (k : Nat) (hk : k < n) : ∃ z, wr.cell? ⟨g, k * s + o, none⟩ = some (.int .i64 z) ∧ wr.frozen? ⟨g, k * s + o, none⟩ = false := by
  obtain ⟨cs, ty, hb, hc⟩ := h.2 (by omega)
  obtain ⟨z, hz⟩ := hc k hk
  exact ⟨z, (hb.cell _).trans hz, hb.free _⟩
/-- Where an own slice lies, if it isn't empty: else some block that isn't there. -/
theorem OwnT.gstart {w : World} {base n c : Nat} {ty : TypeId} {p : Option Addr} {xs : List Lin} (h : OwnT encN w base ty (.slice p n c) xs) (hl : xs.length = n) (o : Nat) (ho : o = 3 ∨ o = 1) (d : Nat) (hbs : base ≤ d) : ∃ g, base ≤ g ∧ (0 < n → p = some ⟨g, 0, none⟩ ∧ g < w.heap.size) ∧ (g = d ∨ (Value.slice p n c).ownBlock = some g) ∧ GBump 4 o w g n w := by
  by_cases hn : 0 < n
  · obtain ⟨g, cur, rfl, hb, hB, _⟩ := h.lies hn
    refine ⟨g, hb, fun _ => ⟨rfl, hB.lt⟩, .inr rfl, Chg.refl _ _, fun _ => ⟨cur, _, hB, fun j hj => ?_⟩⟩
    obtain ⟨b', o', e', _, hx⟩ := h.row.at_ j (by omega)
    cases e'
    rcases ho with rfl | rfl
    · have := hx 3 (by decide)
      rw [Nat.zero_add] at this
      exact ⟨xs[j].a, (hB.cell _).symm.trans this⟩
    · have := hx 1 (by decide)
      rw [Nat.zero_add] at this
      exact ⟨xs[j].n, (hB.cell _).symm.trans this⟩
  · exact ⟨d, hbs, fun h => absurd h hn, .inl rfl, Chg.refl _ _, fun h => absurd h hn⟩
theorem Own.gstart {w : World} {base n c : Nat} {ty : TypeId} {p : Option Addr} {zs : List Int} (h : Own .i64 w base ty (.slice p n c) zs) (d : Nat) (hbs : base ≤ d) : ∃ g, base ≤ g ∧ (0 < n → p = some ⟨g, 0, none⟩ ∧ g < w.heap.size) ∧ (g = d ∨ (Value.slice p n c).ownBlock = some g) ∧ GBump 1 0 w g n w := by
  by_cases hn : 0 < n
  · obtain ⟨g, rfl, hb, hlt, _⟩ := h.at_ hn
    rcases h.2 with ⟨h, _⟩ | ⟨g', cap, cur, e1, _, hg, _⟩
    · cases h
    · cases e1
      refine ⟨g, hb, fun _ => ⟨rfl, hlt⟩, .inr rfl, Chg.refl _ _, fun _ => ⟨cur, _, hg, fun j hj => ?_⟩⟩
      have h2 := (h.cell j hj).1
      rw [Nat.mul_one, Nat.add_zero]
      exact ⟨_, (Blk.cell (cs := cur) hg j).symm.trans h2⟩
  · exact ⟨d, hbs, fun h => absurd h hn, .inl rfl, Chg.refl _ _, fun h => absurd h hn⟩
end Go.Proofs.Yteofblabimneiaa
