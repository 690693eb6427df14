/- The call's own slice of byte slices, each in a block of its own too. -/
import Derived.Test.YtjbhcdmeeakdcaaAppV
namespace Go.Proofs.Ytjbhcdmeeakdcaa
open Go.RowKit
/-- The call's own slice of byte slices. -/
def OwnSB (w : World) (base : Nat) (e : TypeId) (v : Value) (dss : List (List Int)) : Prop :=
  ∃ vs, OwnV w base e v vs ∧ vs.length = dss.length ∧ ∀ i, i < dss.length → ∃ g0, RowAt .u8 w g0 (vs.getD i undef) (dss.getD i []) ∧ (dss.getD i [] = [] ∨ g0 < w.heap.size ∧ v.ownBlock ≠ some g0 ∧ base ≤ g0)
theorem OwnSB.nil_ (w : World) (base : Nat) (e : TypeId) : OwnSB w base e (.slice none 0 0) [] := ⟨[], OwnV.nil_ _ _ _, rfl, fun i hi => by simp at hi⟩
theorem OwnSB.form {w : World} {base : Nat} {e : TypeId} {v : Value} {dss : List (List Int)} (h : OwnSB w base e v dss) : ∃ p c, v = .slice p dss.length c := by
  obtain ⟨vs, h1, h2, _⟩ := h
  rw [← h2]; exact h1.form
theorem OwnSB.later {w w' : World} {base : Nat} {e : TypeId} {v : Value} {dss : List (List Int)} (h : OwnSB w base e v dss) (hb : Below w.heap.size w w') : OwnSB w' base e v dss := by
  obtain ⟨vs, h1, h2, h3⟩ := h
  refine ⟨vs, h1.later hb, h2, fun i hi => ?_⟩
  obtain ⟨g0, h4, h5⟩ := h3 i hi
  rcases h5 with h5 | ⟨h5, h6, h7⟩
  · exact ⟨g0, h4.keep0 (.inl h5), .inl h5⟩
  · exact ⟨g0, h4.keep0 (.inr (hb.block g0 h5)), .inr ⟨Nat.lt_of_lt_of_le h5 hb.size, h6, h7⟩⟩
theorem OwnSB.lt {w : World} {base : Nat} {e : TypeId} {v : Value} {dss : List (List Int)} (h : OwnSB w base e v dss) : ∀ g, v.ownBlock = some g → g < w.heap.size := by
  obtain ⟨vs, h1, _⟩ := h
  exact h1.lt
theorem OwnSB.alloc {w : World} {base : Nat} {e : TypeId} {v : Value} {dss : List (List Int)} (h : OwnSB w base e v dss) (o : Obj) : OwnSB (w.alloc o) base e v dss := h.later (oneB w o)
theorem OwnSB.drew {w : World} {base : Nat} {e : TypeId} {v : Value} {dss : List (List Int)} (h : OwnSB w base e v dss) : OwnSB w.drew base e v dss := h
theorem OwnSB.at_ {w : World} {base n c : Nat} {e : TypeId} {p : Option Addr} {dss : List (List Int)} (h : OwnSB w base e (.slice p n c) dss) (i : Nat) (hi : i < n) : ∃ g q d, p = some ⟨g, 0, none⟩ ∧ w.cell? ⟨g, i, none⟩ = some (.slice q (dss.getD i []).length d) ∧ Row .u8 w (.slice q (dss.getD i []).length d) (dss.getD i []) := by
  obtain ⟨vs, h1, h2, h3⟩ := h
  obtain ⟨p', c', e'⟩ := h1.form
  cases e'
  obtain ⟨g, rfl⟩ := h1.some_ (by omega)
  obtain ⟨g0, h4, _⟩ := h3 i (by omega)
  obtain ⟨q, d, e2⟩ := h4.shape
  have h5 := h4.row
  rw [e2] at h5
  have h6 := (h1.cell i hi).2
  rw [e2] at h6
  exact ⟨g, q, d, rfl, h6, h5⟩
/-- One byte slice more, that lies in a block of its own. -/
theorem OwnSB.push {w w' : World} {base : Nat} {e : TypeId} {v v' : Value} {dss : List (List Int)} {vs : List Value} {u : Value} {d : List Int} {g1 : Nat} (h2 : vs.length = dss.length)
    (h3 : ∀ i, i < dss.length → ∃ g0, RowAt .u8 w g0 (vs.getD i undef) (dss.getD i []) ∧ (dss.getD i [] = [] ∨ g0 < w.heap.size ∧ v.ownBlock ≠ some g0 ∧ base ≤ g0)) (hu : RowAt .u8 w g1 u d) (hg1 : d = [] ∨ g1 < w.heap.size ∧ v.ownBlock ≠ some g1 ∧ base ≤ g1)
    (hown : OwnV w' base e v' (vs ++ [u])) (hg : w.grownBy w' v.ownBlock) (hor : v'.ownBlock = v.ownBlock ∨ v'.ownBlock = some w.heap.size) : OwnSB w' base e v' (dss ++ [d]) := by
  have hsz : w.heap.size ≤ w'.heap.size := ((Below.refl 0 w).grown hg (Nat.zero_le _) (fun _ _ => Nat.zero_le _)).size
  have hmove : ∀ (g0 : Nat) (x : Value) (zs : List Int), RowAt .u8 w g0 x zs → (zs = [] ∨ g0 < w.heap.size ∧ v.ownBlock ≠ some g0 ∧ base ≤ g0) → ∃ g0, RowAt .u8 w' g0 x zs ∧ (zs = [] ∨ g0 < w'.heap.size ∧ v'.ownBlock ≠ some g0 ∧ base ≤ g0) := by
    intro g0 x zs hr hk
    rcases hk with hk | ⟨hk1, hk2, hk3⟩
    · exact ⟨g0, hr.keep0 (.inl hk), .inl hk⟩
    · refine ⟨g0, hr.keep0 (.inr (hg.block g0 hk1 (Ne.symm hk2))), .inr ⟨by omega, ?_, hk3⟩⟩
      rcases hor with ho | ho <;> rw [ho]
      · exact hk2
      · intro e0; cases e0; omega
  refine ⟨vs ++ [u], hown, by simp [h2], fun i hi => ?_⟩
  rw [List.length_append, List.length_singleton] at hi
  by_cases hlt : i < dss.length
  · obtain ⟨g0, h4, h5⟩ := h3 i hlt
    have e1 : (vs ++ [u]).getD i undef = vs.getD i undef := by rw [List.getD_eq_getElem?_getD, List.getD_eq_getElem?_getD, List.getElem?_append_left (by omega)]
    have e2 : (dss ++ [d]).getD i [] = dss.getD i [] := by rw [List.getD_eq_getElem?_getD, List.getD_eq_getElem?_getD, List.getElem?_append_left hlt]
    rw [e1, e2]
    exact hmove g0 _ _ h4 h5
  · obtain rfl : i = dss.length := by omega
    have e1 : (vs ++ [u]).getD dss.length undef = u := by rw [← h2, List.getD_eq_getElem?_getD, List.getElem?_append_right (Nat.le_refl _)]; simp
    have e2 : (dss ++ [d]).getD dss.length [] = d := by rw [List.getD_eq_getElem?_getD, List.getElem?_append_right (Nat.le_refl _)]; simp
    rw [e1, e2]
    exact hmove g1 _ _ hu hg1
/-- One byte slice more, in a plain region. -/
theorem wpList_append_sb {P : Program} {w : World} {ops : Array Oper} {rest : List Oper} {o : Oper} {a : Act} {Q : Exit → Act → World → Prop} (hgd : o.guard = none) (s x : Operand) (t : TypeId)
    (ho : o.op = .call { callee := .builtin .append, args := #[s, x], argTypes := #[t, t] })
    (e e2 : TypeId) (base : Nat) (he : EltV P t e (.slice none 0 0) 24) (v : Value) (dss : List (List Int)) (p : Option Addr) (n c : Nat) (d : List Int) (g1 : Nat) (hr : RowAt .u8 w g1 (.slice p n c) d) (hg1 : d = [] ∨ g1 < w.heap.size ∧ v.ownBlock ≠ some g1 ∧ base ≤ g1) (b : Nat) (hb : b = w.heap.size) (hs : a.eval s = v) (hx : a.eval x = .slice (some ⟨b, 0, none⟩) 1 1) (hown : OwnSB w base e v dss)
    (h63 : dss.length ≤ 1000000) (hbase : base ≤ w.heap.size) (N : Nat) (hN : dss.length + 1 = N)
    (h : ∀ p' c' w', OwnSB w' base e (.slice p' N c') (dss ++ [d]) → Below base w w' → wpList P ops Q rest (a.put o.dst (.slice p' N c')) w') :
    wpList P ops Q (o :: rest) a (w.alloc (.cells #[.slice p n c] e2)) := by
  subst hN
  obtain ⟨vs, h1, h2, h3⟩ := hown
  refine wpList_append_val hgd s x t ho e e2 (.slice none 0 0) 24 base he rfl (by decide) v vs (.slice p n c) rfl b hb hs hx h1 (by omega) hbase ?_
  intro v' w' ho' hg' hor' hb'
  have hmv : ∀ (g0 : Nat) (x : Value) (zs : List Int), RowAt .u8 w g0 x zs → (zs = [] ∨ g0 < w.heap.size ∧ v.ownBlock ≠ some g0 ∧ base ≤ g0) → RowAt .u8 (w.alloc (.cells #[.slice p n c] e2)) g0 x zs ∧ (zs = [] ∨ g0 < (w.alloc (.cells #[.slice p n c] e2)).heap.size ∧ v.ownBlock ≠ some g0 ∧ base ≤ g0) := by
    intro g0 x zs hr0 hk
    rcases hk with hk | ⟨hk1, hk2, hk3⟩
    · exact ⟨hr0.keep0 (.inl hk), .inl hk⟩
    · exact ⟨hr0.keep0 (.inr ((oneB w _).block g0 hk1)), .inr ⟨by simp; omega, hk2, hk3⟩⟩
  have hp := OwnSB.push h2 (fun i hi => by
    obtain ⟨g0, h4, h5⟩ := h3 i hi
    exact ⟨g0, hmv g0 _ _ h4 h5⟩) (hmv g1 _ _ hr hg1).1 (hmv g1 _ _ hr hg1).2 ho' hg' (by
      rcases hor' with h | h
      · exact .inl h
      · exact .inr (by rw [h]; simp))
  obtain ⟨p', c', rfl⟩ := hp.form
  have h9 := h p' c' w'
  rw [List.length_append] at hp ⊢
  exact h9 hp hb'
end Go.Proofs.Ytjbhcdmeeakdcaa
