/- An append onto a row of the call's own: which blocks stay. -/
import Derived.Test.YtbimbpmdiahhbaaChg
namespace Go.Proofs.Ytbimbpmdiahhbaa
open Go.RowKit
theorem run_append_row_g {P : Program} (w : World) (t ty e : TypeId) (k : IntKind) (bytes base : Nat) (he : Elt P t e k bytes) (v y : Value) (zs ys : List Int) (hown : Own k w base e v zs) (hrow : Row k w y ys)
    (h63 : zs.length + ys.length ≤ 140737488355000) (hbytes : (zs.length + ys.length) * bytes ≤ 140737488355328) (hbase : base ≤ w.heap.size) :
    ∃ v' w', (Builtin.append_ #[t, t] ty #[v, y]).run P w = .ok v' w' ∧ Own k w' base e v' (zs ++ ys) ∧ w.grownBy w' v.ownBlock ∧ (v'.ownBlock = v.ownBlock ∨ v'.ownBlock = some w.heap.size) := by
  obtain ⟨i, ht, hi, hz, hs, hby⟩ := he
  obtain ⟨p, c, rfl, hc, hr⟩ := id hrow
  have h63' : zs.length + ys.length ≤ maxLen := by unfold maxLen; omega
  cases p with
  | some ad =>
    obtain ⟨v', w', hrun, hown', hg, _, hor⟩ := run_append_own_at (P := P) w base t ty e i (.int k 0) 1 bytes ht hi hz hs hby rfl (by decide) v zs.length (zs.map (.int k)) hown ad ys.length c (ys.map (.int k)) (by simp) hrow.newsAt (ints_onecell k ys) h63' hbytes hbase
    refine ⟨v', w', hrun, ?_, hg, hor⟩
    unfold Own
    rw [List.map_append, List.length_append]
    exact hown'
  | none =>
    have hy : ys = [] := by
      rcases hr with h | ⟨b, o, h, _⟩
      · exact h
      · cases h
    subst hy
    refine ⟨v, w, ?_, by simpa using hown, ⟨rfl, rfl, rfl, Nat.le_refl _, fun _ _ _ => rfl⟩, .inl rfl⟩
    rcases hown.2 with ⟨rfl, h0⟩ | ⟨g, cap, cur, rfl, _, _, hnc, _⟩
    · simp [Builtin.append_, run_underlying ht, sizeOf, typeInfo, hi, Builtin.lenOf, Builtin.firstCells]
    · simp [Builtin.append_, run_underlying ht, sizeOf, typeInfo, hi, Builtin.lenOf, Builtin.firstCells, hnc, storeCells]
theorem wpList_append_g {P : Program} {w : World} {ops : Array Oper} {rest : List Oper} {o : Oper} {a : Act} {Q : Exit → Act → World → Prop} (hgd : o.guard = none) (s x : Operand) (t : TypeId)
    (ho : o.op = .call { callee := .builtin .append, args := #[s, x], argTypes := #[t, t] })
    (e : TypeId) (k : IntKind) (bytes base : Nat) (he : Elt P t e k bytes) (v y : Value) (zs ys : List Int) (hs : a.eval s = v) (hx : a.eval x = y) (hown : Own k w base e v zs) (hrow : Row k w y ys)
    (h63 : zs.length + ys.length ≤ 140737488355000) (hbytes : (zs.length + ys.length) * bytes ≤ 140737488355328) (hbase : base ≤ w.heap.size)
    (h : ∀ v' w', Own k w' base e v' (zs ++ ys) → w.grownBy w' v.ownBlock → (v'.ownBlock = v.ownBlock ∨ v'.ownBlock = some w.heap.size) → wpList P ops Q rest (a.put o.dst v') w') : wpList P ops Q (o :: rest) a w := by
  refine wpList_plain hgd fun K hK => ?_
  obtain ⟨v', w', hrun, h1, h2, h3⟩ := run_append_row_g w t o.type e k bytes base he v y zs ys hown hrow h63 hbytes hbase
  unfold Oper.wp
  simp [execOp, ho, resolve, invoke, builtin, hs, hx, hrun, Result.andThen]
  exact hK _ _ (h v' w' h1 h2 h3)
/-- Where the order is open. -/
theorem step_append_g {P : Program} {w : World} {ops : Array Oper} {o : Oper} {a : Act} {K : Act → World → Prop} {Q : Exit → Act → World → Prop} {E : Prop} (hgd : o.guard = none) (s x : Operand) (t : TypeId)
    (ho : o.op = .call { callee := .builtin .append, args := #[s, x], argTypes := #[t, t] })
    (e : TypeId) (k : IntKind) (bytes base : Nat) (he : Elt P t e k bytes) (v y : Value) (zs ys : List Int) (hs : a.eval s = v) (hx : a.eval x = y) (hown : Own k w base e v zs) (hrow : Row k w y ys)
    (h63 : zs.length + ys.length ≤ 140737488355000) (hbytes : (zs.length + ys.length) * bytes ≤ 140737488355328) (hbase : base ≤ w.heap.size)
    (h : ∀ v' w', Own k w' base e v' (zs ++ ys) → w.grownBy w' v.ownBlock → (v'.ownBlock = v.ownBlock ∨ v'.ownBlock = some w.heap.size) → K (a.put o.dst v') w') :
    if Region.wanted o (yielded ops a.tmps) = true then Oper.wp P o a w K Q else E := by
  have hw : Region.wanted o (yielded ops a.tmps) = true := by simp [Region.wanted, hgd]
  rw [if_pos hw]
  obtain ⟨v', w', hrun, h1, h2, h3⟩ := run_append_row_g w t o.type e k bytes base he v y zs ys hown hrow h63 hbytes hbase
  unfold Oper.wp
  simp [execOp, ho, resolve, invoke, builtin, hs, hx, hrun, Result.andThen]
  exact h v' w' h1 h2 h3
/-- What an append onto one of the call's own rows leaves of another one, and of a block. -/
theorem Own.grown {k : IntKind} {w w' : World} {base : Nat} {e : TypeId} {v u : Value} {zs : List Int} (h : Own k w base e v zs) (hg : w.grownBy w' u.ownBlock) (hne : ∀ b, v.ownBlock = some b → u.ownBlock ≠ some b) : Own k w' base e v zs := by
  refine World.ownsRow.kept h hg ?_
  cases hv : v.ownBlock with
  | none => exact .inl rfl
  | some b => exact .inr (fun e => hne b hv e.symm)
/-- A row of the call's own that lies elsewhere than what changes. -/
theorem Own.chgV {k : IntKind} {w w' : World} {base gx : Nat} {e : TypeId} {v : Value} {zs : List Int} (h : Own k w base e v zs) (hc : Chg gx w w') (hne : v.ownBlock ≠ some gx) : Own k w' base e v zs := by
  obtain ⟨hl, h2⟩ := h
  refine ⟨hl, ?_⟩
  rcases h2 with h2 | ⟨g', cap, cur, rfl, hb, hgg, hr⟩
  · exact .inl h2
  · exact .inr ⟨g', cap, cur, rfl, hb, (hc.2 g' (lt_of_block hgg) (fun e => hne (by rw [e]; rfl))).trans hgg, hr⟩
end Go.Proofs.Ytbimbpmdiahhbaa
