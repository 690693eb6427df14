/- Rows of bools: of the call's own; that came in. -/
import Derived.Test.YtjbhcdmeeakdcaaApp
namespace Go.Proofs.Ytjbhcdmeeakdcaa
open Go.RowKit
def OwnB (w : World) (base : Nat) (e : TypeId) (v : Value) (bs : List Bool) : Prop := w.ownsRow base e 1 v bs.length (bs.map Value.bool)
theorem OwnB.form {w : World} {base : Nat} {e : TypeId} {v : Value} {bs : List Bool} (h : OwnB w base e v bs) : ∃ p c, v = .slice p bs.length c := owned_slice h
theorem OwnB.nil_ (w : World) (base : Nat) (e : TypeId) : OwnB w base e (.slice none 0 0) [] := ⟨by simp, .inl ⟨rfl, rfl⟩⟩
theorem OwnB.block_ge {w : World} {base : Nat} {e : TypeId} {v : Value} {bs : List Bool} (h : OwnB w base e v bs) : ∀ g, v.ownBlock = some g → base ≤ g := by
  intro g hg
  rcases h.2 with ⟨rfl, _⟩ | ⟨g', cap, cur, rfl, hb, _⟩
  · cases hg
  · cases hg; exact hb
theorem OwnB.below {w w' : World} {base B : Nat} {e : TypeId} {v : Value} {bs : List Bool} (h : OwnB w base e v bs) (hb : Below B w w') (hB : ∀ g, v.ownBlock = some g → g < B) : OwnB w' base e v bs := by
  refine ⟨h.1, ?_⟩
  rcases h.2 with h | ⟨g, cap, cur, rfl, hbg, hg, hr⟩
  · exact .inl h
  · exact .inr ⟨g, cap, cur, rfl, hbg, (hb.block g (hB g rfl)).trans hg, hr⟩
theorem OwnB.lt {w : World} {base : Nat} {e : TypeId} {v : Value} {bs : List Bool} (h : OwnB w base e v bs) : ∀ g, v.ownBlock = some g → g < w.heap.size := fun g hg => (World.ownsRow.lt h g hg).2
theorem OwnB.later {w w' : World} {base : Nat} {e : TypeId} {v : Value} {bs : List Bool} (h : OwnB w base e v bs) (hb : Below w.heap.size w w') : OwnB w' base e v bs := h.below hb h.lt
theorem OwnB.alloc {w : World} {base : Nat} {e : TypeId} {v : Value} {bs : List Bool} (h : OwnB w base e v bs) (o : Obj) : OwnB (w.alloc o) base e v bs := h.later (oneB w o)
theorem OwnB.at_ {w : World} {base n c : Nat} {e : TypeId} {p : Option Addr} {bs : List Bool} (h : OwnB w base e (.slice p n c) bs) (hn : 0 < n) : ∃ g, p = some ⟨g, 0, none⟩ ∧ base ≤ g ∧ g < w.heap.size ∧ bs.length = n := by
  obtain ⟨hl, h⟩ := h
  rcases h with ⟨e, h0⟩ | ⟨g, cap, cur, e, hb, hg, _⟩
  · cases e; omega
  · cases e; exact ⟨g, rfl, hb, lt_of_block hg, rfl⟩
theorem OwnB.cell {w : World} {base n c g : Nat} {e : TypeId} {bs : List Bool} (h : OwnB w base e (.slice (some ⟨g, 0, none⟩) n c) bs) (i : Nat) (hi : i < n) :
    w.cell? ⟨g, i, none⟩ = some (.bool (bs.getD i false)) ∧ w.frozen? ⟨g, i, none⟩ = false := by
  obtain ⟨hl, h⟩ := h
  rcases h with ⟨e, h0⟩ | ⟨g, cap, cur, e, hb, hg, hn, _, _, ht⟩
  · cases e
  · cases e
    refine ⟨?_, by simp [World.frozen?, hg]⟩
    rw [cell_of_row w g i cur _ (0, 0) hg]
    have := congrArg (fun l => l[i]?) ht
    simp only [List.getElem?_take, Nat.mul_one, if_pos hi, List.getElem?_map] at this
    rw [List.getElem?_eq_getElem hi] at this
    rw [List.getD_eq_getElem?_getD, List.getElem?_eq_getElem hi]
    simpa using this
theorem OwnB.set {w : World} {base n c g : Nat} {e : TypeId} {bs : List Bool} (h : OwnB w base e (.slice (some ⟨g, 0, none⟩) n c) bs) (i : Nat) (u : Bool) :
    OwnB (w.setCell ⟨g, i, none⟩ (.bool u)) base e (.slice (some ⟨g, 0, none⟩) n c) (bs.set i u) := by
  obtain ⟨hl, h⟩ := h
  rcases h with ⟨e2, h0⟩ | ⟨g, cap, cur, e2, hb, hg, hn, hm, hs, ht⟩
  · cases e2
  · cases e2
    have hb2 : Blk w g cur e := hg
    refine ⟨by simp, .inr ⟨g, c, cur.setIfInBounds i (.bool u), by rw [List.length_set], hb, hb2.set i (.bool u), by simpa using hn, hm, by simpa using hs, ?_⟩⟩
    rw [List.length_set, Array.toList_setIfInBounds, List.take_set, ht, List.map_set]
def EltB (P : Program) (t e : TypeId) : Prop := ∃ i, P.underlying t = some (.slice e) ∧ P.info? e = some i ∧ i.zero = some (.bool false) ∧ i.size = 1 ∧ i.bytes = 1
/-- One bool more, out of a block of its own. -/
theorem wpList_append_bit {P : Program} {w : World} {ops : Array Oper} {rest : List Oper} {o : Oper} {a : Act} {Q : Exit → Act → World → Prop} (hgd : o.guard = none) (s x : Operand) (t : TypeId)
    (ho : o.op = .call { callee := .builtin .append, args := #[s, x], argTypes := #[t, t] })
    (e e2 : TypeId) (base : Nat) (he : EltB P t e) (v : Value) (bs : List Bool) (u : Bool) (b : Nat) (hb : b = w.heap.size) (hs : a.eval s = v) (hx : a.eval x = .slice (some ⟨b, 0, none⟩) 1 1) (hown : OwnB w base e v bs)
    (h63 : bs.length ≤ 1000000) (hbase : base ≤ w.heap.size) (N : Nat) (hN : bs.length + 1 = N)
    (h : ∀ p' c' w', OwnB w' base e (.slice p' N c') (bs ++ [u]) → Below base w w' → wpList P ops Q rest (a.put o.dst (.slice p' N c')) w') :
    wpList P ops Q (o :: rest) a (w.alloc (.cells #[.bool u] e2)) := by
  subst hb
  subst hN
  obtain ⟨i, ht, hi, hz, hsz, hby⟩ := he
  refine wpList_append_own _ hgd s x t ho base e i (.bool false) 1 1 ht hi hz hsz hby rfl (by decide) v bs.length (bs.map .bool) hs (hown.alloc _) ⟨w.heap.size, 0, none⟩ 1 1 [.bool u] hx rfl (one_new w (.bool u) e2) (by intro u hu; simp at hu; subst hu; rfl) (by unfold maxLen; omega) (by omega) (by simp; omega) ?_
  intro v' w' hown' hg _
  have h2 : OwnB w' base e v' (bs ++ [u]) := by unfold OwnB; rw [List.map_append, List.length_append]; exact hown'
  obtain ⟨p', c', rfl⟩ := h2.form
  have h3 := h p' c' w'
  rw [List.length_append] at h2 ⊢
  exact h3 h2 (((Below.refl _ _).alloc hbase _).grown hg (by simp; omega) (fun g hg' => hown.block_ge g hg'))
/-- A row of bools that came in. -/
def RowB (w : World) (v : Value) (bs : List Bool) : Prop :=
  ∃ p c, v = .slice p bs.length c ∧ bs.length ≤ c ∧ (bs = [] ∨ ∃ b o, p = some ⟨b, o, none⟩ ∧ ∀ i, i < bs.length → w.cell? ⟨b, o + i, none⟩ = some (.bool (bs.getD i false)))
theorem RowB.shape {w : World} {v : Value} {bs : List Bool} (h : RowB w v bs) : ∃ p c, v = .slice p bs.length c := by obtain ⟨p, c, e, _⟩ := h; exact ⟨p, c, e⟩
theorem RowB.kept {w w' : World} {v : Value} {bs : List Bool} (h : RowB w v bs) (hb : Below w.heap.size w w') : RowB w' v bs := by
  obtain ⟨p, c, rfl, hc, h⟩ := h
  refine ⟨p, c, rfl, hc, ?_⟩
  rcases h with h | ⟨b, o, rfl, h⟩
  · exact .inl h
  · refine .inr ⟨b, o, rfl, fun i hi => ?_⟩
    have := h i hi
    rw [hb.cell (p := ⟨b, o + i, none⟩) (World.block_lt_of_cell? w _ this)]; exact this
theorem RowB.cell {w : World} {p : Option Addr} {n c : Nat} {bs : List Bool} (h : RowB w (.slice p n c) bs) (i : Nat) (hi : i < bs.length) : ∃ b o, p = some ⟨b, o, none⟩ ∧ w.cell? ⟨b, o + i, none⟩ = some (.bool (bs.getD i false)) := by
  obtain ⟨p', c', e, hc, h⟩ := h
  cases e
  rcases h with h | ⟨b, o, hp, h⟩
  · rw [h] at hi; simp at hi
  · exact ⟨b, o, hp, h i hi⟩
end Go.Proofs.Ytjbhcdmeeakdcaa
