/- The call's own row of any values of one cell (slices, strings), one more by append; a row of byte slices. -/
import Derived.Test.YtjbhcdmeeakdcaaChg
import Derived.Laws.AppendOwn
namespace Go.Proofs.Ytjbhcdmeeakdcaa
open Go.RowKit
def OwnV (w : World) (base : Nat) (e : TypeId) (v : Value) (vs : List Value) : Prop := w.ownsRow base e 1 v vs.length vs
theorem OwnV.form {w : World} {base : Nat} {e : TypeId} {v : Value} {vs : List Value} (h : OwnV w base e v vs) : ∃ p c, v = .slice p vs.length c := owned_slice h
theorem OwnV.nil_ (w : World) (base : Nat) (e : TypeId) : OwnV w base e (.slice none 0 0) [] := ⟨by simp, .inl ⟨rfl, rfl⟩⟩
theorem OwnV.block_ge {w : World} {base : Nat} {e : TypeId} {v : Value} {vs : List Value} (h : OwnV w base e v vs) : ∀ g, v.ownBlock = some g → base ≤ g := by
  intro g hg
  rcases h.2 with ⟨rfl, _⟩ | ⟨g', cap, cur, rfl, hb, _⟩
  · cases hg
  · cases hg; exact hb
theorem OwnV.below {w w' : World} {base B : Nat} {e : TypeId} {v : Value} {vs : List Value} (h : OwnV w base e v vs) (hb : Below B w w') (hB : ∀ g, v.ownBlock = some g → g < B) : OwnV w' base e v vs := by
  refine ⟨h.1, ?_⟩
  rcases h.2 with h | ⟨g, cap, cur, rfl, hbg, hg, hr⟩
  · exact .inl h
  · exact .inr ⟨g, cap, cur, rfl, hbg, (hb.block g (hB g rfl)).trans hg, hr⟩
theorem OwnV.lt {w : World} {base : Nat} {e : TypeId} {v : Value} {vs : List Value} (h : OwnV w base e v vs) : ∀ g, v.ownBlock = some g → g < w.heap.size := fun g hg => (World.ownsRow.lt h g hg).2
theorem OwnV.later {w w' : World} {base : Nat} {e : TypeId} {v : Value} {vs : List Value} (h : OwnV w base e v vs) (hb : Below w.heap.size w w') : OwnV w' base e v vs := h.below hb h.lt
theorem OwnV.alloc {w : World} {base : Nat} {e : TypeId} {v : Value} {vs : List Value} (h : OwnV w base e v vs) (o : Obj) : OwnV (w.alloc o) base e v vs := h.later (oneB w o)
theorem OwnV.cell {w : World} {base n c g o : Nat} {e : TypeId} {vs : List Value} (h : OwnV w base e (.slice (some ⟨g, o, none⟩) n c) vs) (i : Nat) (hi : i < n) :
    o = 0 ∧ w.cell? ⟨g, i, none⟩ = some (vs.getD i undef) := by
  obtain ⟨hl, h⟩ := h
  rcases h with ⟨e, h0⟩ | ⟨g, cap, cur, e, hb, hg, hn, _, _, ht⟩
  · cases e
  · cases e
    refine ⟨rfl, ?_⟩
    rw [cell_of_row w g i cur _ (0, 0) hg]
    have := congrArg (fun l => l[i]?) ht
    simp only [List.getElem?_take, Nat.mul_one, if_pos hi] at this
    rw [List.getElem?_eq_getElem hi] at this
    rw [List.getD_eq_getElem?_getD, List.getElem?_eq_getElem hi]
    simpa using this
theorem OwnV.some_ {w : World} {base n c : Nat} {e : TypeId} {p : Option Addr} {vs : List Value} (h : OwnV w base e (.slice p n c) vs) (hn : 0 < n) : ∃ g, p = some ⟨g, 0, none⟩ := by
  obtain ⟨hl, h⟩ := h
  rcases h with ⟨e, h0⟩ | ⟨g, cap, cur, e, _⟩
  · cases e; omega
  · cases e; exact ⟨g, rfl⟩
def EltV (P : Program) (t e : TypeId) (z : Value) (bytes : Nat) : Prop := ∃ i, P.underlying t = some (.slice e) ∧ P.info? e = some i ∧ i.zero = some z ∧ i.size = 1 ∧ i.bytes = bytes
theorem eltV_mk {P : Program} {t e : TypeId} {z : Value} {bytes : Nat} (ht : P.underlying t = some (.slice e)) (h : (P.info? e).map (fun i => (i.zero, i.size, i.bytes)) = some (some z, 1, bytes)) : EltV P t e z bytes := by
  cases hi : P.info? e with
  | none => rw [hi] at h; cases h
  | some i =>
    rw [hi] at h
    simp only [Option.map_some, Option.some.injEq, Prod.mk.injEq] at h
    exact ⟨i, ht, hi, h.1, h.2.1, h.2.2⟩
/-- One value more, out of a block of its own. -/
theorem run_append_val {P : Program} (w : World) (t ty e : TypeId) (z : Value) (bytes base : Nat) (he : EltV P t e z bytes) (hz1 : z.cells.size = 1) (hb8 : bytes ≤ 64) (v : Value) (vs : List Value) (u : Value) (hu : u.oneCell' = true) (ad : Addr) (hcell : w.cell? ad = some u)
    (hown : OwnV w base e v vs) (h63 : vs.length ≤ 1000000) (hbase : base ≤ w.heap.size) :
    ∃ v' w', (Builtin.append_ #[t, t] ty #[v, .slice (some ad) 1 1]).run P w = .ok v' w' ∧ OwnV w' base e v' (vs ++ [u]) ∧ w.grownBy w' v.ownBlock ∧ (v'.ownBlock = v.ownBlock ∨ v'.ownBlock = some w.heap.size) := by
  obtain ⟨i, ht, hi, hz, hs, hby⟩ := he
  have hbytes : (vs.length + 1) * bytes ≤ 140737488355328 := by
    have : (vs.length + 1) * bytes ≤ 1000001 * 64 := Nat.mul_le_mul (by omega) hb8
    omega
  obtain ⟨v', w', hrun, hown', hg, h4, h5⟩ := run_append_own_at (P := P) w base t ty e i z 1 bytes ht hi hz hs hby hz1 (by decide) v vs.length vs hown ad 1 1 [u] (by simp) (by
    intro j x hj
    match j, hj with
    | 0, h => simp at h; subst h; simpa [Addr.add] using hcell) (by intro x hx; simp at hx; subst hx; exact hu) (by unfold maxLen; omega) hbytes hbase
  exact ⟨v', w', hrun, by unfold OwnV; rw [List.length_append]; exact hown', hg, h5⟩
/-- A row of byte slices that came in. -/
def RowSS (w : World) (v : Value) (dss : List (List Int)) : Prop :=
  ∃ p c, v = .slice p dss.length c ∧ dss.length ≤ c ∧ (dss = [] ∨ ∃ b o, p = some ⟨b, o, none⟩ ∧ ∀ i, i < dss.length → ∃ u, w.cell? ⟨b, o + i, none⟩ = some u ∧ Row .u8 w u (dss.getD i []))
theorem RowSS.shape {w : World} {v : Value} {dss : List (List Int)} (h : RowSS w v dss) : ∃ p c, v = .slice p dss.length c := by obtain ⟨p, c, e, _⟩ := h; exact ⟨p, c, e⟩
theorem RowSS.kept {w w' : World} {v : Value} {dss : List (List Int)} (h : RowSS w v dss) (hb : Below w.heap.size w w') : RowSS w' v dss := by
  obtain ⟨p, c, rfl, hc, h⟩ := h
  refine ⟨p, c, rfl, hc, ?_⟩
  rcases h with h | ⟨b, o, rfl, h⟩
  · exact .inl h
  · refine .inr ⟨b, o, rfl, fun i hi => ?_⟩
    obtain ⟨u, h1, h2⟩ := h i hi
    exact ⟨u, (hb.cell (p := ⟨b, o + i, none⟩) (World.block_lt_of_cell? w _ h1)).trans h1, h2.kept hb⟩
theorem RowSS.under {w w' : World} {v : Value} {dss : List (List Int)} {B : Nat} (h : RowSS w v dss) (hb : Below B w w') (hB : w.heap.size ≤ B) : RowSS w' v dss := h.kept (hb.mono hB)
theorem RowSS.at_ {w : World} {p : Option Addr} {n c : Nat} {dss : List (List Int)} (h : RowSS w (.slice p n c) dss) (i : Nat) (hi : i < dss.length) : ∃ b o q d, p = some ⟨b, o, none⟩ ∧ w.cell? ⟨b, o + i, none⟩ = some (.slice q (dss.getD i []).length d) ∧ Row .u8 w (.slice q (dss.getD i []).length d) (dss.getD i []) := by
  obtain ⟨p', c', e, hc, h⟩ := h
  cases e
  rcases h with h | ⟨b, o, hp, h⟩
  · rw [h] at hi; simp at hi
  · obtain ⟨u, h1, h2⟩ := h i hi
    obtain ⟨q, d, rfl⟩ := h2.shape
    exact ⟨b, o, q, d, hp, h1, h2⟩
/-- The call's own slice of byte slices. -/
def OwnSS (w : World) (base : Nat) (e : TypeId) (v : Value) (dss : List (List Int)) : Prop :=
  ∃ vs, OwnV w base e v vs ∧ vs.length = dss.length ∧ ∀ i, i < dss.length → ∃ g0, RowAt .u8 w g0 (vs.getD i undef) (dss.getD i []) ∧ (dss.getD i [] = [] ∨ g0 < w.heap.size ∧ v.ownBlock ≠ some g0)
theorem OwnSS.nil_ (w : World) (base : Nat) (e : TypeId) : OwnSS w base e (.slice none 0 0) [] := ⟨[], OwnV.nil_ _ _ _, rfl, fun i hi => by simp at hi⟩
theorem OwnSS.form {w : World} {base : Nat} {e : TypeId} {v : Value} {dss : List (List Int)} (h : OwnSS w base e v dss) : ∃ p c, v = .slice p dss.length c := by
  obtain ⟨vs, h1, h2, _⟩ := h
  rw [← h2]; exact h1.form
theorem RowAt.keep0 {w w' : World} {g0 : Nat} {v : Value} {zs : List Int} (h : RowAt .u8 w g0 v zs) (hk : zs = [] ∨ w'.heap[g0]? = w.heap[g0]?) : RowAt .u8 w' g0 v zs := by
  rcases hk with rfl | hk
  · obtain ⟨p, c, hv, hc, _⟩ := h
    exact ⟨p, c, hv, hc, .inl rfl⟩
  · exact h.keep fun _ => hk
theorem OwnSS.later {w w' : World} {base : Nat} {e : TypeId} {v : Value} {dss : List (List Int)} (h : OwnSS w base e v dss) (hb : Below w.heap.size w w') : OwnSS w' base e v dss := by
  obtain ⟨vs, h1, h2, h3⟩ := h
  refine ⟨vs, h1.later hb, h2, fun i hi => ?_⟩
  obtain ⟨g0, h4, h5⟩ := h3 i hi
  rcases h5 with h5 | ⟨h5, h6⟩
  · exact ⟨g0, h4.keep0 (.inl h5), .inl h5⟩
  · exact ⟨g0, h4.keep0 (.inr (hb.block g0 h5)), .inr ⟨Nat.lt_of_lt_of_le h5 hb.size, h6⟩⟩
theorem OwnSS.lt {w : World} {base : Nat} {e : TypeId} {v : Value} {dss : List (List Int)} (h : OwnSS w base e v dss) : ∀ g, v.ownBlock = some g → g < w.heap.size := by
  obtain ⟨vs, h1, _⟩ := h
  exact h1.lt
theorem OwnSS.alloc {w : World} {base : Nat} {e : TypeId} {v : Value} {dss : List (List Int)} (h : OwnSS w base e v dss) (o : Obj) : OwnSS (w.alloc o) base e v dss := h.later (oneB w o)
theorem OwnSS.drew {w : World} {base : Nat} {e : TypeId} {v : Value} {dss : List (List Int)} (h : OwnSS w base e v dss) : OwnSS w.drew base e v dss := h
theorem OwnSS.at_ {w : World} {base n c : Nat} {e : TypeId} {p : Option Addr} {dss : List (List Int)} (h : OwnSS w base e (.slice p n c) dss) (i : Nat) (hi : i < n) : ∃ g q d, p = some ⟨g, 0, none⟩ ∧ w.cell? ⟨g, i, none⟩ = some (.slice q (dss.getD i []).length d) ∧ Row .u8 w (.slice q (dss.getD i []).length d) (dss.getD i []) := by
  obtain ⟨vs, h1, h2, h3⟩ := h
  obtain ⟨p', c', e'⟩ := h1.form
  cases e'
  obtain ⟨g, rfl⟩ := h1.some_ (by omega)
  obtain ⟨g0, h4, _⟩ := h3 i (by omega)
  obtain ⟨q, d, e2⟩ := h4.shape
  have h5 := h4.row
  rw [e2] at h5
  have h6 := (h1.cell i hi).2
  rw [e2] at h6
  exact ⟨g, q, d, rfl, h6, h5⟩
/-- One byte slice more, that lies in a block of its own. -/
theorem OwnSS.push {w w' : World} {base : Nat} {e : TypeId} {v v' : Value} {dss : List (List Int)} {vs : List Value} {u : Value} {d : List Int} {g1 : Nat} (h2 : vs.length = dss.length)
    (h3 : ∀ i, i < dss.length → ∃ g0, RowAt .u8 w g0 (vs.getD i undef) (dss.getD i []) ∧ (dss.getD i [] = [] ∨ g0 < w.heap.size ∧ v.ownBlock ≠ some g0)) (hu : RowAt .u8 w g1 u d) (hg1 : d = [] ∨ g1 < w.heap.size ∧ v.ownBlock ≠ some g1)
    (hown : OwnV w' base e v' (vs ++ [u])) (hg : w.grownBy w' v.ownBlock) (hor : v'.ownBlock = v.ownBlock ∨ v'.ownBlock = some w.heap.size) : OwnSS w' base e v' (dss ++ [d]) := by
  have hsz : w.heap.size ≤ w'.heap.size := ((Below.refl 0 w).grown hg (Nat.zero_le _) (fun _ _ => Nat.zero_le _)).size
  have hmove : ∀ (g0 : Nat) (x : Value) (zs : List Int), RowAt .u8 w g0 x zs → (zs = [] ∨ g0 < w.heap.size ∧ v.ownBlock ≠ some g0) → ∃ g0, RowAt .u8 w' g0 x zs ∧ (zs = [] ∨ g0 < w'.heap.size ∧ v'.ownBlock ≠ some g0) := by
    intro g0 x zs hr hk
    rcases hk with hk | ⟨hk1, hk2⟩
    · exact ⟨g0, hr.keep0 (.inl hk), .inl hk⟩
    · refine ⟨g0, hr.keep0 (.inr (hg.block g0 hk1 (Ne.symm hk2))), .inr ⟨by omega, ?_⟩⟩
      rcases hor with ho | ho <;> rw [ho]
      · exact hk2
      · intro e0; cases e0; omega
  refine ⟨vs ++ [u], hown, by simp [h2], fun i hi => ?_⟩
  rw [List.length_append, List.length_singleton] at hi
  by_cases hlt : i < dss.length
  · obtain ⟨g0, h4, h5⟩ := h3 i hlt
    have e1 : (vs ++ [u]).getD i undef = vs.getD i undef := by rw [List.getD_eq_getElem?_getD, List.getD_eq_getElem?_getD, List.getElem?_append_left (by omega)]
    have e2 : (dss ++ [d]).getD i [] = dss.getD i [] := by rw [List.getD_eq_getElem?_getD, List.getD_eq_getElem?_getD, List.getElem?_append_left hlt]
    rw [e1, e2]
    exact hmove g0 _ _ h4 h5
  · obtain rfl : i = dss.length := by omega
    have e1 : (vs ++ [u]).getD dss.length undef = u := by rw [← h2, List.getD_eq_getElem?_getD, List.getElem?_append_right (Nat.le_refl _)]; simp
    have e2 : (dss ++ [d]).getD dss.length [] = d := by rw [List.getD_eq_getElem?_getD, List.getElem?_append_right (Nat.le_refl _)]; simp
    rw [e1, e2]
    exact hmove g1 _ _ hu hg1
/-- An append of one value in a plain region: what it leaves. -/
theorem wpList_append_val {P : Program} {w : World} {ops : Array Oper} {rest : List Oper} {o : Oper} {a : Act} {Q : Exit → Act → World → Prop} (hgd : o.guard = none) (s x : Operand) (t : TypeId)
    (ho : o.op = .call { callee := .builtin .append, args := #[s, x], argTypes := #[t, t] })
    (e e2 : TypeId) (z : Value) (bytes base : Nat) (he : EltV P t e z bytes) (hz1 : z.cells.size = 1) (hb8 : bytes ≤ 64) (v : Value) (vs : List Value) (u : Value) (hu : u.oneCell' = true) (b : Nat) (hb : b = w.heap.size) (hs : a.eval s = v) (hx : a.eval x = .slice (some ⟨b, 0, none⟩) 1 1) (hown : OwnV w base e v vs)
    (h63 : vs.length ≤ 1000000) (hbase : base ≤ w.heap.size)
    (h : ∀ v' w', OwnV w' base e v' (vs ++ [u]) → (w.alloc (.cells #[u] e2)).grownBy w' v.ownBlock → (v'.ownBlock = v.ownBlock ∨ v'.ownBlock = some (w.heap.size + 1)) → Below base w w' → wpList P ops Q rest (a.put o.dst v') w') :
    wpList P ops Q (o :: rest) a (w.alloc (.cells #[u] e2)) := by
  subst hb
  refine wpList_plain hgd fun K hK => ?_
  obtain ⟨v', w', hrun, h1, h2, h3⟩ := run_append_val (P := P) (w.alloc (.cells #[u] e2)) t o.type e z bytes base he hz1 hb8 v vs u hu ⟨w.heap.size, 0, none⟩ (Blk.new w #[u] e2 |>.cell 0) (hown.alloc _) h63 (by simp; omega)
  unfold Oper.wp
  simp [execOp, ho, resolve, invoke, builtin, hs, hx, hrun, Result.andThen]
  refine hK _ _ (h v' w' h1 h2 ?_ (((Below.refl _ _).alloc hbase _).grown h2 (by simp; omega) (fun g hg' => hown.block_ge g hg')))
  rcases h3 with h3 | h3
  · exact .inl h3
  · exact .inr (by rw [h3]; simp)
/-- One byte slice more, in a plain region. -/
theorem wpList_append_ss {P : Program} {w : World} {ops : Array Oper} {rest : List Oper} {o : Oper} {a : Act} {Q : Exit → Act → World → Prop} (hgd : o.guard = none) (s x : Operand) (t : TypeId)
    (ho : o.op = .call { callee := .builtin .append, args := #[s, x], argTypes := #[t, t] })
    (e e2 : TypeId) (base : Nat) (he : EltV P t e (.slice none 0 0) 24) (v : Value) (dss : List (List Int)) (p : Option Addr) (n c : Nat) (d : List Int) (g1 : Nat) (hr : RowAt .u8 w g1 (.slice p n c) d) (hg1 : d = [] ∨ g1 < w.heap.size ∧ v.ownBlock ≠ some g1) (b : Nat) (hb : b = w.heap.size) (hs : a.eval s = v) (hx : a.eval x = .slice (some ⟨b, 0, none⟩) 1 1) (hown : OwnSS w base e v dss)
    (h63 : dss.length ≤ 1000000) (hbase : base ≤ w.heap.size) (N : Nat) (hN : dss.length + 1 = N)
    (h : ∀ p' c' w', OwnSS w' base e (.slice p' N c') (dss ++ [d]) → Below base w w' → wpList P ops Q rest (a.put o.dst (.slice p' N c')) w') :
    wpList P ops Q (o :: rest) a (w.alloc (.cells #[.slice p n c] e2)) := by
  subst hN
  obtain ⟨vs, h1, h2, h3⟩ := hown
  refine wpList_append_val hgd s x t ho e e2 (.slice none 0 0) 24 base he rfl (by decide) v vs (.slice p n c) rfl b hb hs hx h1 (by omega) hbase ?_
  intro v' w' ho' hg' hor' hb'
  have hmv : ∀ (g0 : Nat) (x : Value) (zs : List Int), RowAt .u8 w g0 x zs → (zs = [] ∨ g0 < w.heap.size ∧ v.ownBlock ≠ some g0) → RowAt .u8 (w.alloc (.cells #[.slice p n c] e2)) g0 x zs ∧ (zs = [] ∨ g0 < (w.alloc (.cells #[.slice p n c] e2)).heap.size ∧ v.ownBlock ≠ some g0) := by
    intro g0 x zs hr0 hk
    rcases hk with hk | ⟨hk1, hk2⟩
    · exact ⟨hr0.keep0 (.inl hk), .inl hk⟩
    · exact ⟨hr0.keep0 (.inr ((oneB w _).block g0 hk1)), .inr ⟨by simp; omega, hk2⟩⟩
  have hp := OwnSS.push h2 (fun i hi => by
    obtain ⟨g0, h4, h5⟩ := h3 i hi
    exact ⟨g0, hmv g0 _ _ h4 h5⟩) (hmv g1 _ _ hr hg1).1 (hmv g1 _ _ hr hg1).2 ho' hg' (by
      rcases hor' with h | h
      · exact .inl h
      · exact .inr (by rw [h]; simp))
  obtain ⟨p', c', rfl⟩ := hp.form
  have h9 := h p' c' w'
  rw [List.length_append] at hp ⊢
  exact h9 hp hb'
end Go.Proofs.Ytjbhcdmeeakdcaa
