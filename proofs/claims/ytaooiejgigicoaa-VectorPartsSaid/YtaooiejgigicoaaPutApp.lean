/- Slices of puts: append to a slice of the call's own. -/
import Derived.Test.YtaooiejgigicoaaSumM
namespace Go.Proofs.Ytaooiejgigicoaa
open Go.RowKit
theorem elt_put : EltP Try.prog 22 46 := eltP_mk Try.underlying22 (by kernel_rfl)
theorem ownP_empty (w : World) (e : TypeId) {b : Nat} (hb : b = w.heap.size) : OwnP (w.alloc (.cells #[] e)) b e (.slice (some ⟨b, 0, none⟩) 0 0) [] := by
  subst hb
  exact ⟨by simp [cellsOf], .inr ⟨w.heap.size, 0, #[], rfl, Nat.le_refl _, heap_alloc_new w _, Nat.le_refl _, Nat.zero_le _, rfl, by simp [cellsOf]⟩⟩
/-- Where the order is open. -/
theorem step_append_pos {P : Program} {w : World} {ops : Array Oper} {o : Oper} {a : Act} {K : Act → World → Prop} {Q : Exit → Act → World → Prop} {E : Prop} (hgd : o.guard = none) (s x : Operand) (t : TypeId)
    (ho : o.op = .call { callee := .builtin .append, args := #[s, x], argTypes := #[t, t] })
    (e : TypeId) (base : Nat) (he : EltP P t e) (v y : Value) (ps qs : List Pos) (hs : a.eval s = v) (hx : a.eval x = y) (hown : OwnP w base e v ps) (hrow : PRow w y qs)
    (h63 : ps.length + qs.length ≤ 1000000) (hbase : base ≤ w.heap.size) (L : List Pos) (N : Nat) (hL : ps ++ qs = L) (hN : L.length = N)
    (h : ∀ p' c' w', OwnP w' base e (.slice p' N c') L → Below base w w' → K (a.put o.dst (.slice p' N c')) w') :
    if Region.wanted o (yielded ops a.tmps) = true then Oper.wp P o a w K Q else E := by
  subst hL
  subst hN
  have hw : Region.wanted o (yielded ops a.tmps) = true := by simp [Region.wanted, hgd]
  rw [if_pos hw]
  obtain ⟨v', w', hrun, h1, h2⟩ := run_append_pos w t o.type e base he v y ps qs hown hrow h63 hbase
  have hk : K (a.put o.dst v') w' := by
    obtain ⟨p', c', rfl⟩ := h1.form
    exact h p' c' w' h1 h2
  unfold Oper.wp
  simp [execOp, ho, resolve, invoke, builtin, hs, hx, hrun, Result.andThen]
  exact hk
theorem stop_append {P : Program} {ops : Array Oper} {rest : List Oper} {o : Oper} {a : Act} {w : World} {Q : Exit → Act → World → Prop} (s x : Operand) (t : TypeId)
    (_ : o.op = .call { callee := .builtin .append, args := #[s, x], argTypes := #[t, t] }) (h : Hid (wpList P ops Q (o :: rest) a w)) : wpList P ops Q (o :: rest) a w := h
end Go.Proofs.Ytaooiejgigicoaa
