/- Slices of structs: append, whatever the length. -/
import Derived.Test.YtbpfbebebppleaaTRow2
namespace Go.Proofs.Ytbpfbebebppleaa
open Go.RowKit
section
variable {α : Type} {e : Enc α}
theorem run_append_tb {P : Program} (w : World) (t r ty : TypeId) (z : Value) (bytes base : Nat) (he : EltT e P t ty z bytes) (hzs : z.cells.size = e.k) (v y : Value) (xs ys : List α) (hown : OwnT e w base ty v xs) (hrow : TRow e w y ys)
    (h63 : xs.length + ys.length ≤ 140737488355328) (hbytes : (xs.length + ys.length) * bytes ≤ 140737488355328) (hbase : base ≤ w.heap.size) :
    ∃ v' w', (Builtin.append_ #[t, t] r #[v, y]).run P w = .ok v' w' ∧ OwnT e w' base ty v' (xs ++ ys) ∧ w.grownBy w' v.ownBlock ∧ (v'.ownBlock = v.ownBlock ∨ v'.ownBlock = some w.heap.size) := by
  obtain ⟨i, ht, hi, hz, hs, hby⟩ := he
  obtain ⟨p, c, rfl, hc, hr⟩ := id hrow
  cases p with
  | some ad =>
    obtain ⟨v', w', hrun, hown', hg, _, hor⟩ := run_append_own_at (P := P) w base t r ty i z e.k bytes ht hi hz hs hby hzs e.pos v xs.length (xs.flatMap e.E) hown ad ys.length c (ys.flatMap e.E) (flat_length e ys) hrow.newsAt (flat_one e ys) (by unfold maxLen; omega) hbytes hbase
    refine ⟨v', w', hrun, ?_, hg, hor⟩
    unfold OwnT
    rw [List.flatMap_append, List.length_append]
    exact hown'
  | none =>
    have hy : ys = [] := by
      rcases hr with h | ⟨b, o, h, _⟩
      · exact h
      · cases h
    subst hy
    refine ⟨v, w, ?_, by simpa using hown, World.grownBy.refl _ _, .inl rfl⟩
    rcases hown.2 with ⟨rfl, h0⟩ | ⟨g, cap, cur, rfl, _, _, hnc, _⟩
    · simp [Builtin.append_, run_underlying ht, sizeOf, typeInfo, hi, Builtin.lenOf, Builtin.firstCells]
    · simp [Builtin.append_, run_underlying ht, sizeOf, typeInfo, hi, Builtin.lenOf, Builtin.firstCells, hnc, storeCells]
theorem wpList_append_tb {P : Program} {w : World} {ops : Array Oper} {rest : List Oper} {o : Oper} {a : Act} {Q : Exit → Act → World → Prop} (hgd : o.guard = none) (s x : Operand) (t : TypeId)
    (ho : o.op = .call { callee := .builtin .append, args := #[s, x], argTypes := #[t, t] })
    (ty : TypeId) (z : Value) (bytes base : Nat) (he : EltT e P t ty z bytes) (hzs : z.cells.size = e.k) (v y : Value) (xs ys : List α) (hs : a.eval s = v) (hx : a.eval x = y) (hown : OwnT e w base ty v xs) (hrow : TRow e w y ys)
    (h63 : xs.length + ys.length ≤ 140737488355328) (hbytes : (xs.length + ys.length) * bytes ≤ 140737488355328) (hbase : base ≤ w.heap.size) (L : List α) (N : Nat) (hL : xs ++ ys = L) (hN : L.length = N)
    (h : ∀ p' c' w', OwnT e w' base ty (.slice p' N c') L → w.grownBy w' v.ownBlock → Below base w w' → wpList P ops Q rest (a.put o.dst (.slice p' N c')) w') : wpList P ops Q (o :: rest) a w := by
  subst hL
  subst hN
  refine wpList_plain hgd fun K hK => ?_
  obtain ⟨v', w', hrun, h1, h2, _⟩ := run_append_tb w t o.type ty z bytes base he hzs v y xs ys hown hrow h63 hbytes hbase
  unfold Oper.wp
  obtain ⟨p', c', rfl⟩ := h1.form
  simp [execOp, ho, resolve, invoke, builtin, hs, hx, hrun, Result.andThen]
  exact hK _ _ (by simpa using h p' c' w' h1 h2 ((Below.refl _ _).grown h2 hbase (fun g hg' => hown.block_ge g hg')))
theorem OwnT.madeE (e : Enc α) (w : World) (base : Nat) (ty : TypeId) (hb : base ≤ w.heap.size) : OwnT e (w.alloc (.cells #[] ty)) base ty (.slice (some ⟨w.heap.size, 0, none⟩) 0 0) [] := ⟨by simp, .inr ⟨w.heap.size, 0, #[], rfl, hb, heap_alloc_new w _, Nat.le_refl _, Nat.zero_le _, by simp, by simp⟩⟩
theorem stop_appendT {P : Program} {ops : Array Oper} {rest : List Oper} {o : Oper} {a : Act} {w : World} {Q : Exit → Act → World → Prop} (s x : Operand) (t : TypeId)
    (_ : o.op = .call { callee := .builtin .append, args := #[s, x], argTypes := #[t, t] }) (h : Hid (wpList P ops Q (o :: rest) a w)) : wpList P ops Q (o :: rest) a w := h
end
end Go.Proofs.Ytbpfbebebppleaa
