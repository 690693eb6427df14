/- An append onto a row of integers of the call's own, of any row: nil, empty or not; in a plain region and where the order is open. -/
import Derived.Test.YtbpfbebebppleaaMem
import Derived.Deep.RegionLaw
import Derived.Deep.AppendLies
import Derived.Laws.AppendOwnNone
namespace Go.Proofs.Ytbpfbebebppleaa
open Go.RowKit

/-- A row that is laid out in a block of its own. -/
theorem Row.laid (k : IntKind) (w : World) (T : TypeId) (zs : List Int) (cs : Array Value) (hcs : cs = (zs.map (Value.int k)).toArray) (fz : Nat × Nat) (n c : Nat) (hn : n = zs.length) (hc : zs.length ≤ c) : Row k (w.alloc (.cells cs T fz)) (.slice (some ⟨w.heap.size, 0, none⟩) n c) zs := by
  subst hn
  refine ⟨_, c, rfl, hc, .inr ⟨_, _, rfl, fun i hi => ?_⟩⟩
  rw [Nat.zero_add, cell_of_row _ w.heap.size i cs T fz (heap_alloc_new w _), hcs]
  simp [List.getD_eq_getElem?_getD, hi]
theorem Row.nil_ (k : IntKind) (w : World) (c : Nat) : Row k w (.slice none 0 c) [] := ⟨none, c, rfl, Nat.zero_le _, .inl rfl⟩
/-- The call's own row v holds the integers zs. -/
def Own (k : IntKind) (w : World) (base : Nat) (e : TypeId) (v : Value) (zs : List Int) : Prop := w.ownsRow base e 1 v zs.length (zs.map (Value.int k))
theorem Own.row {k : IntKind} {w : World} {base : Nat} {e : TypeId} {v : Value} {zs : List Int} (h : Own k w base e v zs) : Row k w v zs := by
  obtain ⟨hl, h⟩ := h
  rcases h with ⟨rfl, h0⟩ | ⟨g, cap, cur, rfl, _, hg, hn, _, _, ht⟩
  · have : zs = [] := List.length_eq_zero_iff.mp h0
    subst this
    exact ⟨none, 0, rfl, Nat.zero_le _, .inl rfl⟩
  · refine ⟨_, cap, rfl, hn, .inr ⟨g, 0, rfl, fun i hi => ?_⟩⟩
    rw [Nat.zero_add, cell_of_row w g i cur e (0, 0) hg]
    have := congrArg (fun l => l[i]?) ht
    simp only [List.getElem?_take, Nat.mul_one, if_pos hi, List.getElem?_map] at this
    rw [List.getElem?_eq_getElem hi] at this
    rw [List.getD_eq_getElem?_getD, List.getElem?_eq_getElem hi]
    simpa using this
theorem Row.shape {k : IntKind} {w : World} {v : Value} {zs : List Int} (h : Row k w v zs) : ∃ p c, v = .slice p zs.length c := by obtain ⟨p, c, e, _⟩ := h; exact ⟨p, c, e⟩
theorem Row.under {k : IntKind} {w w' : World} {v : Value} {zs : List Int} {B : Nat} (h : Row k w v zs) (hb : Below B w w') (hB : w.heap.size ≤ B) : Row k w' v zs := h.kept (hb.mono hB)
theorem Own.form {k : IntKind} {w : World} {base : Nat} {e : TypeId} {v : Value} {zs : List Int} (h : Own k w base e v zs) : ∃ p c, v = .slice p zs.length c := owned_slice h
theorem Own.nil_ (k : IntKind) (w : World) (base : Nat) (e : TypeId) : Own k w base e (.slice none 0 0) [] := ⟨by simp, .inl ⟨rfl, rfl⟩⟩
theorem Own.made (k : IntKind) (w : World) (base : Nat) (e : TypeId) (hb : base ≤ w.heap.size) : Own k (w.alloc (.cells #[] e)) base e (.slice (some ⟨w.heap.size, 0, none⟩) 0 0) [] :=
  ⟨by simp, .inr ⟨w.heap.size, 0, #[], rfl, hb, heap_alloc_new w _, Nat.le_refl _, by decide, by simp, by simp⟩⟩
theorem Own.made_at (k : IntKind) (w : World) (b base : Nat) (e : TypeId) (hb : base ≤ b) (h : b = w.heap.size) : Own k (w.alloc (.cells #[] e)) base e (.slice (some ⟨b, 0, none⟩) 0 0) [] := by
  subst h; exact Own.made k w base e hb
theorem Own.block_ge {k : IntKind} {w : World} {base : Nat} {e : TypeId} {v : Value} {zs : List Int} (h : Own k w base e v zs) : ∀ g, v.ownBlock = some g → base ≤ g := by
  intro g hg
  rcases h.2 with ⟨rfl, _⟩ | ⟨g', cap, cur, rfl, hb, _⟩
  · cases hg
  · cases hg; exact hb
/-- It stays behind what leaves all of its block as it is. -/
theorem Own.below {k : IntKind} {w w' : World} {base B : Nat} {e : TypeId} {v : Value} {zs : List Int} (h : Own k w base e v zs) (hb : Below B w w') (hB : ∀ g, v.ownBlock = some g → g < B) : Own k w' base e v zs := by
  refine ⟨h.1, ?_⟩
  rcases h.2 with h | ⟨g, cap, cur, rfl, hbg, hg, hr⟩
  · exact .inl h
  · exact .inr ⟨g, cap, cur, rfl, hbg, (hb.block g (hB g rfl)).trans hg, hr⟩
theorem Own.lt {k : IntKind} {w : World} {base : Nat} {e : TypeId} {v : Value} {zs : List Int} (h : Own k w base e v zs) : ∀ g, v.ownBlock = some g → g < w.heap.size := fun g hg => (World.ownsRow.lt h g hg).2
theorem Own.later {k : IntKind} {w w' : World} {base : Nat} {e : TypeId} {v : Value} {zs : List Int} (h : Own k w base e v zs) (hb : Below w.heap.size w w') : Own k w' base e v zs := h.below hb h.lt
theorem Own.alloc {k : IntKind} {w : World} {base : Nat} {e : TypeId} {v : Value} {zs : List Int} (h : Own k w base e v zs) (o : Obj) : Own k (w.alloc o) base e v zs := h.later (oneB w o)
theorem Own.drew {k : IntKind} {w : World} {base : Nat} {e : TypeId} {v : Value} {zs : List Int} (h : Own k w base e v zs) : Own k w.drew base e v zs := h

theorem addAt (b o j : Nat) : (⟨b, o, none⟩ : Addr).add j = ⟨b, o + j, none⟩ := by
  unfold Addr.add; split <;> simp_all
/-- Where it lies; what a store into it leaves. -/
theorem Own.at_ {k : IntKind} {w : World} {base n c : Nat} {e : TypeId} {p : Option Addr} {zs : List Int} (h : Own k w base e (.slice p n c) zs) (hn : 0 < n) :
    ∃ g, p = some ⟨g, 0, none⟩ ∧ base ≤ g ∧ g < w.heap.size ∧ zs.length = n := by
  obtain ⟨hl, h⟩ := h
  rcases h with ⟨e, h0⟩ | ⟨g, cap, cur, e, hb, hg, _⟩
  · cases e; omega
  · cases e; exact ⟨g, rfl, hb, lt_of_block hg, rfl⟩
theorem Own.cell {k : IntKind} {w : World} {base n c g : Nat} {e : TypeId} {zs : List Int} (h : Own k w base e (.slice (some ⟨g, 0, none⟩) n c) zs) (i : Nat) (hi : i < n) :
    w.cell? ⟨g, i, none⟩ = some (.int k (zs.getD i 0)) ∧ w.frozen? ⟨g, i, none⟩ = false := by
  obtain ⟨hl, h⟩ := h
  rcases h with ⟨e, h0⟩ | ⟨g, cap, cur, e, hb, hg, hn, _, _, ht⟩
  · cases e
  · cases e
    refine ⟨?_, by simp [World.frozen?, hg]⟩
    rw [cell_of_row w g i cur _ (0, 0) hg]
    have := congrArg (fun l => l[i]?) ht
    simp only [List.getElem?_take, Nat.mul_one, if_pos hi, List.getElem?_map] at this
    rw [List.getElem?_eq_getElem hi] at this
    rw [List.getD_eq_getElem?_getD, List.getElem?_eq_getElem hi]
    simpa using this
theorem Own.set {k : IntKind} {w : World} {base n c g : Nat} {e : TypeId} {zs : List Int} (h : Own k w base e (.slice (some ⟨g, 0, none⟩) n c) zs) (i : Nat) (u : Int) :
    Own k (w.setCell ⟨g, i, none⟩ (.int k u)) base e (.slice (some ⟨g, 0, none⟩) n c) (zs.set i u) := by
  obtain ⟨hl, h⟩ := h
  rcases h with ⟨e2, h0⟩ | ⟨g, cap, cur, e2, hb, hg, hn, hm, hs, ht⟩
  · cases e2
  · cases e2
    have hb2 : Blk w g cur e := hg
    refine ⟨by simp, .inr ⟨g, c, cur.setIfInBounds i (.int k u), by rw [List.length_set], hb, hb2.set i (.int k u), by simpa using hn, hm, by simpa using hs, ?_⟩⟩
    rw [List.length_set, Array.toList_setIfInBounds, List.take_set, ht, List.map_set]
/-- The facts of an element's type. -/
def Elt (P : Program) (t e : TypeId) (k : IntKind) (bytes : Nat) : Prop := ∃ i, P.underlying t = some (.slice e) ∧ P.info? e = some i ∧ i.zero = some (.int k 0) ∧ i.size = 1 ∧ i.bytes = bytes
theorem Row.news {k : IntKind} {w : World} {b o n c : Nat} {zs : List Int} (h : Row k w (.slice (some ⟨b, o, none⟩) n c) zs) : ∀ (j : Nat) (u : Value), (zs.map (Value.int k))[j]? = some u → w.cell? ((⟨b, o, none⟩ : Addr).add j) = some u := by
  intro j u hj
  obtain ⟨p, c', e, _, h⟩ := h
  cases e
  rcases h with rfl | ⟨b', o', e, h⟩
  · simp at hj
  · cases e
    have hjl : j < zs.length := by
      rcases Nat.lt_or_ge j zs.length with h | h
      · exact h
      · rw [List.getElem?_eq_none (by simp; omega)] at hj; cases hj
    have hc := h j hjl
    rw [List.getElem?_map, List.getElem?_eq_getElem hjl] at hj
    rw [List.getD_eq_getElem?_getD, List.getElem?_eq_getElem hjl] at hc
    rw [addAt, hc]
    simpa using hj
theorem Row.newsAt {k : IntKind} {w : World} {a : Addr} {n c : Nat} {zs : List Int} (h : Row k w (.slice (some a) n c) zs) : ∀ (j : Nat) (u : Value), (zs.map (Value.int k))[j]? = some u → w.cell? (a.add j) = some u := by
  by_cases h0 : zs = []
  · subst h0; intro j u hj; simp at hj
  · obtain ⟨p, c', e, _, h1⟩ := id h
    cases e
    rcases h1 with h1 | ⟨b', o', e, _⟩
    · exact absurd h1 h0
    · cases e
      exact h.news
theorem ints_onecell (k : IntKind) (zs : List Int) : ∀ u ∈ zs.map (Value.int k), u.oneCell' = true := by
  intro u hu
  obtain ⟨x, _, rfl⟩ := List.mem_map.1 hu
  rfl
/-- The append itself, as a run. -/
theorem run_append_row {P : Program} (w : World) (t ty e : TypeId) (k : IntKind) (bytes base : Nat) (he : Elt P t e k bytes) (v y : Value) (zs ys : List Int) (hown : Own k w base e v zs) (hrow : Row k w y ys)
    (h63 : zs.length + ys.length ≤ 140737488355000) (hbytes : (zs.length + ys.length) * bytes ≤ 140737488355328) (hbase : base ≤ w.heap.size) :
    ∃ v' w', (Builtin.append_ #[t, t] ty #[v, y]).run P w = .ok v' w' ∧ Own k w' base e v' (zs ++ ys) ∧ Below base w w' := by
  obtain ⟨i, ht, hi, hz, hs, hby⟩ := he
  obtain ⟨p, c, rfl, hc, hr⟩ := id hrow
  have h63' : zs.length + ys.length ≤ maxLen := by unfold maxLen; omega
  cases p with
  | some ad =>
    obtain ⟨v', w', hrun, hown', hg, _⟩ := run_append_own_at (P := P) w base t ty e i (.int k 0) 1 bytes ht hi hz hs hby rfl (by decide) v zs.length (zs.map (.int k)) hown ad ys.length c (ys.map (.int k)) (by simp) hrow.newsAt (ints_onecell k ys) h63' hbytes hbase
    refine ⟨v', w', hrun, ?_, (Below.refl _ _).grown hg hbase (fun g hg' => hown.block_ge g hg')⟩
    unfold Own
    rw [List.map_append, List.length_append]
    exact hown'
  | none =>
    have hy : ys = [] := by
      rcases hr with h | ⟨b, o, h, _⟩
      · exact h
      · cases h
    subst hy
    refine ⟨v, w, ?_, by simpa using hown, Below.refl _ _⟩
    rcases hown.2 with ⟨rfl, h0⟩ | ⟨g, cap, cur, rfl, _, _, hnc, _⟩
    · simp [Builtin.append_, run_underlying ht, sizeOf, typeInfo, hi, Builtin.lenOf, Builtin.firstCells]
    · simp [Builtin.append_, run_underlying ht, sizeOf, typeInfo, hi, Builtin.lenOf, Builtin.firstCells, hnc, storeCells]
/-- In a plain region. -/
theorem wpList_append_row {P : Program} {w : World} {ops : Array Oper} {rest : List Oper} {o : Oper} {a : Act} {Q : Exit → Act → World → Prop} (hgd : o.guard = none) (s x : Operand) (t : TypeId)
    (ho : o.op = .call { callee := .builtin .append, args := #[s, x], argTypes := #[t, t] })
    (e : TypeId) (k : IntKind) (bytes base : Nat) (he : Elt P t e k bytes) (v y : Value) (zs ys : List Int) (hs : a.eval s = v) (hx : a.eval x = y) (hown : Own k w base e v zs) (hrow : Row k w y ys)
    (h63 : zs.length + ys.length ≤ 140737488355000) (hbytes : (zs.length + ys.length) * bytes ≤ 140737488355328) (hbase : base ≤ w.heap.size)
    (L : List Int) (N : Nat) (hL : zs ++ ys = L) (hN : L.length = N)
    (h : ∀ p' c' w', Own k w' base e (.slice p' N c') L → Below base w w' → wpList P ops Q rest (a.put o.dst (.slice p' N c')) w') : wpList P ops Q (o :: rest) a w := by
  subst hL
  subst hN
  refine wpList_plain hgd fun K hK => ?_
  obtain ⟨v', w', hrun, h1, h2⟩ := run_append_row w t o.type e k bytes base he v y zs ys hown hrow h63 hbytes hbase
  unfold Oper.wp
  obtain ⟨p', c', rfl⟩ := h1.form
  simp [execOp, ho, resolve, invoke, builtin, hs, hx, hrun, Result.andThen]
  exact hK _ _ (by simpa using h p' c' w' h1 h2)
/-- Where the order is open. -/
theorem step_append_row {P : Program} {w : World} {ops : Array Oper} {o : Oper} {a : Act} {K : Act → World → Prop} {Q : Exit → Act → World → Prop} {E : Prop} (hgd : o.guard = none) (s x : Operand) (t : TypeId)
    (ho : o.op = .call { callee := .builtin .append, args := #[s, x], argTypes := #[t, t] })
    (e : TypeId) (k : IntKind) (bytes base : Nat) (he : Elt P t e k bytes) (v y : Value) (zs ys : List Int) (hs : a.eval s = v) (hx : a.eval x = y) (hown : Own k w base e v zs) (hrow : Row k w y ys)
    (h63 : zs.length + ys.length ≤ 140737488355000) (hbytes : (zs.length + ys.length) * bytes ≤ 140737488355328) (hbase : base ≤ w.heap.size)
    (L : List Int) (N : Nat) (hL : zs ++ ys = L) (hN : L.length = N)
    (h : ∀ p' c' w', Own k w' base e (.slice p' N c') L → Below base w w' → K (a.put o.dst (.slice p' N c')) w') :
    if Region.wanted o (yielded ops a.tmps) = true then Oper.wp P o a w K Q else E := by
  have hw : Region.wanted o (yielded ops a.tmps) = true := by simp [Region.wanted, hgd]
  rw [if_pos hw]
  subst hL
  subst hN
  obtain ⟨v', w', hrun, h1, h2⟩ := run_append_row w t o.type e k bytes base he v y zs ys hown hrow h63 hbytes hbase
  unfold Oper.wp
  obtain ⟨p', c', rfl⟩ := h1.form
  simp [execOp, ho, resolve, invoke, builtin, hs, hx, hrun, Result.andThen]
  have h3 := h p' c' w' h1 h2
  simp only [List.length_append] at h3
  exact h3
end Go.Proofs.Ytbpfbebebppleaa
