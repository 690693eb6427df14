/- What a method that writes one block of its own leaves; a row that lies in a known block. -/
import Derived.Test.YtbpfbebebppleaaApp
namespace Go.Proofs.Ytbpfbebebppleaa
open Go.RowKit
/-- Of what was there block g alone may be another one. -/
def Chg (g : Nat) (w w' : World) : Prop := Below 0 w w' ∧ ∀ k, k < w.heap.size → k ≠ g → w'.heap[k]? = w.heap[k]?
theorem Chg.refl (g : Nat) (w : World) : Chg g w w := ⟨Below.refl _ _, fun _ _ _ => rfl⟩
theorem Chg.of_below {g : Nat} {w w' : World} (h : Below w.heap.size w w') : Chg g w w' := ⟨h.mono (Nat.zero_le _), fun k hk _ => h.block k hk⟩
theorem Chg.size {g : Nat} {w w' : World} (h : Chg g w w') : w.heap.size ≤ w'.heap.size := h.1.size
theorem Chg.trans {g : Nat} {w a b : World} (h : Chg g w a) (k : Chg g a b) : Chg g w b := ⟨h.1.trans k.1, fun j hj hg => (k.2 j (Nat.lt_of_lt_of_le hj h.size) hg).trans (h.2 j hj hg)⟩
theorem Chg.set {g : Nat} {w w' : World} (h : Chg g w w') (i : Nat) (v : Value) : Chg g w (w'.setCell ⟨g, i, none⟩ v) :=
  ⟨h.1.setCell (p := ⟨g, i, none⟩) (Nat.zero_le _) v, fun k hk hg => (Below.heap_setCell w' ⟨g, i, none⟩ v k hg).trans (h.2 k hk hg)⟩
theorem Chg.alloc {g : Nat} {w w' : World} (h : Chg g w w') (o : Obj) : Chg g w (w'.alloc o) := h.trans (Chg.of_below (oneB w' o))
theorem Chg.drew {g : Nat} {w w' : World} (h : Chg g w w') : Chg g w w'.drew := ⟨h.1.drew, fun k hk hg => h.2 k hk hg⟩
theorem Chg.below {g B : Nat} {w w' : World} (h : Chg g w w') (hg : B ≤ g) (hB : B ≤ w.heap.size) : Below B w w' :=
  ⟨h.1.1, h.1.2, h.1.3, h.1.4, fun k hk => h.2 k (by omega) (by omega)⟩
theorem Chg.cell {g : Nat} {w w' : World} (h : Chg g w w') {a : Addr} (ha : a.block < w.heap.size) (hg : a.block ≠ g) : w'.cell? a = w.cell? a := World.cell?_of_block (h.2 a.block ha hg)
theorem Blk.chg {w w' : World} {b g : Nat} {cs : Array Value} {t : TypeId} (h : Blk w b cs t) (hc : Chg g w w') (hb : b ≠ g) : Blk w' b cs t := (hc.2 b h.lt hb).trans h
/-- A row that lies in block g0. -/
def RowAt (k : IntKind) (w : World) (g0 : Nat) (v : Value) (zs : List Int) : Prop :=
  ∃ p c, v = .slice p zs.length c ∧ zs.length ≤ c ∧ (zs = [] ∨ ∃ o, p = some ⟨g0, o, none⟩ ∧ ∀ i, i < zs.length → w.cell? ⟨g0, o + i, none⟩ = some (.int k (zs.getD i 0)))
theorem RowAt.row {k : IntKind} {w : World} {g0 : Nat} {v : Value} {zs : List Int} (h : RowAt k w g0 v zs) : Row k w v zs := by
  obtain ⟨p, c, hv, hc, h⟩ := h
  refine ⟨p, c, hv, hc, ?_⟩
  rcases h with h | ⟨o, hp, h⟩
  · exact .inl h
  · exact .inr ⟨g0, o, hp, h⟩
theorem RowAt.shape {k : IntKind} {w : World} {g0 : Nat} {v : Value} {zs : List Int} (h : RowAt k w g0 v zs) : ∃ p c, v = .slice p zs.length c := by obtain ⟨p, c, e, _⟩ := h; exact ⟨p, c, e⟩
theorem RowAt.keep {k : IntKind} {w w' : World} {g0 : Nat} {v : Value} {zs : List Int} (h : RowAt k w g0 v zs) (hk : g0 < w.heap.size → w'.heap[g0]? = w.heap[g0]?) : RowAt k w' g0 v zs := by
  obtain ⟨p, c, hv, hc, h⟩ := h
  refine ⟨p, c, hv, hc, ?_⟩
  rcases h with h | ⟨o, hp, h⟩
  · exact .inl h
  · refine .inr ⟨o, hp, fun i hi => ?_⟩
    have h1 := h i hi
    rw [World.cell?_of_block (hk (World.block_lt_of_cell? w _ h1))]; exact h1
theorem RowAt.chg {k : IntKind} {w w' : World} {g0 g : Nat} {v : Value} {zs : List Int} (h : RowAt k w g0 v zs) (hc : Chg g w w') (hg : g0 ≠ g) : RowAt k w' g0 v zs := h.keep fun hl => hc.2 g0 hl hg
theorem RowAt.below {k : IntKind} {w w' : World} {g0 B : Nat} {v : Value} {zs : List Int} (h : RowAt k w g0 v zs) (hb : Below B w w') (hB : g0 < w.heap.size → g0 < B) : RowAt k w' g0 v zs := h.keep fun hl => hb.block g0 (hB hl)
theorem RowAt.nil_ (k : IntKind) (w : World) (g0 c : Nat) : RowAt k w g0 (.slice none 0 c) [] := ⟨none, c, rfl, Nat.zero_le _, .inl rfl⟩
/-- What is the call's own lies in a block of its own. -/
theorem Own.rowAt {k : IntKind} {w : World} {base : Nat} {e : TypeId} {v : Value} {zs : List Int} (h : Own k w base e v zs) : ∃ g0, base ≤ g0 ∧ (g0 < w.heap.size ∨ zs = [] ∧ g0 = base) ∧ RowAt k w g0 v zs := by
  obtain ⟨p, c, rfl⟩ := h.form
  by_cases hz : zs.length = 0
  · have : zs = [] := List.length_eq_zero_iff.mp hz
    subst this
    exact ⟨base, Nat.le_refl _, .inr ⟨rfl, rfl⟩, p, c, rfl, Nat.zero_le _, .inl rfl⟩
  · obtain ⟨g, rfl, hb, hl, _⟩ := h.at_ (by omega)
    obtain ⟨p', c', e', hc, _⟩ := h.row
    cases e'
    exact ⟨g, hb, .inl hl, _, c, rfl, hc, .inr ⟨0, rfl, fun i hi => by rw [Nat.zero_add]; exact (h.cell i hi).1⟩⟩
/-- A part of a row. -/
theorem RowAt.take {k : IntKind} {w : World} {g0 n c : Nat} {p : Option Addr} {zs : List Int} (h : RowAt k w g0 (.slice p n c) zs) (m : Nat) (hm : m ≤ zs.length) : RowAt k w g0 (.slice p m c) (zs.take m) := by
  obtain ⟨p', c', e, hc, h⟩ := h
  cases e
  refine ⟨p, c, by rw [List.length_take, Nat.min_eq_left hm], by rw [List.length_take]; omega, ?_⟩
  rcases h with h | ⟨o, hp, h⟩
  · left; rw [h]; simp
  · refine .inr ⟨o, hp, fun i hi => ?_⟩
    rw [List.length_take] at hi
    rw [h i (by omega), List.getD_eq_getElem?_getD, List.getD_eq_getElem?_getD, List.getElem?_take, if_pos (by omega)]
/-- What lies behind its first so many. -/
def dropP (p : Option Addr) (c m : Nat) : Option Addr := if c = m then p else p.map (·.add m)
theorem RowAt.drop {k : IntKind} {w : World} {g0 n c : Nat} {p : Option Addr} {zs : List Int} (h : RowAt k w g0 (.slice p n c) zs) (m : Nat) (hm : m ≤ zs.length) : RowAt k w g0 (.slice (dropP p c m) (n - m) (c - m)) (zs.drop m) := by
  obtain ⟨p', c', e, hc, h⟩ := h
  cases e
  refine ⟨_, _, by rw [List.length_drop], by rw [List.length_drop]; omega, ?_⟩
  by_cases hz : zs.length = m
  · left; rw [List.drop_eq_nil_of_le (by omega)]
  · rcases h with h | ⟨o, hp, h⟩
    · left; rw [h]; simp
    · refine .inr ⟨o + m, ?_, fun i hi => ?_⟩
      · unfold dropP
        rw [if_neg (by omega), hp]
        simp [addAt]
      · rw [List.length_drop] at hi
        rw [Nat.add_assoc, h (m + i) (by omega), List.getD_eq_getElem?_getD, List.getD_eq_getElem?_getD, List.getElem?_drop]
end Go.Proofs.Ytbpfbebebppleaa
