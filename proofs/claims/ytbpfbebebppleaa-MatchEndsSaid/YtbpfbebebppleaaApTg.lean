/- Append that tells which block is the new one. -/
import Derived.Test.YtbpfbebebppleaaAtP
namespace Go.Proofs.Ytbpfbebebppleaa
open Go.RowKit
set_option linter.unusedSimpArgs false
section
variable {α : Type} {e : Enc α}
theorem wpList_append_tg {P : Program} {w : World} {ops : Array Oper} {rest : List Oper} {o : Oper} {a : Act} {Q : Exit → Act → World → Prop} (hgd : o.guard = none) (s x : Operand) (t : TypeId)
    (ho : o.op = .call { callee := .builtin .append, args := #[s, x], argTypes := #[t, t] })
    (ty : TypeId) (z : Value) (bytes base : Nat) (he : EltT e P t ty z bytes) (hzs : z.cells.size = e.k) (v y : Value) (xs ys : List α) (hs : a.eval s = v) (hx : a.eval x = y) (hown : OwnT e w base ty v xs) (hrow : TRow e w y ys)
    (h63 : xs.length + ys.length ≤ 140737488355328) (hbytes : (xs.length + ys.length) * bytes ≤ 140737488355328) (hbase : base ≤ w.heap.size) (L : List α) (N : Nat) (hL : xs ++ ys = L) (hN : L.length = N)
    (h : ∀ p' c' w', OwnT e w' base ty (.slice p' N c') L → w.grownBy w' v.ownBlock → ((Value.slice p' N c').ownBlock = v.ownBlock ∨ (Value.slice p' N c').ownBlock = some w.heap.size) → Below base w w' → wpList P ops Q rest (a.put o.dst (.slice p' N c')) w') : wpList P ops Q (o :: rest) a w := by
  subst hL
  subst hN
  refine wpList_plain hgd fun K hK => ?_
  obtain ⟨v', w', hrun, h1, h2, h3⟩ := run_append_tb w t o.type ty z bytes base he hzs v y xs ys hown hrow h63 hbytes hbase
  unfold Oper.wp
  obtain ⟨p', c', rfl⟩ := h1.form
  simp [execOp, ho, resolve, invoke, builtin, hs, hx, hrun, Result.andThen]
  exact hK _ _ (by simpa using h p' c' w' h1 h2 h3 ((Below.refl _ _).grown h2 hbase (fun g hg' => hown.block_ge g hg')))
end
theorem OwnT.at_lt {α : Type} {e : Enc α} {w : World} {base : Nat} {ty : TypeId} {v : Value} {xs : List α} (h : OwnT e w base ty v xs) : At (fun b => base ≤ b ∧ b < w.heap.size) v xs.length := by
  rintro b o n c rfl hn
  exact ⟨h.block_ge b rfl, h.lt b rfl⟩
theorem Own.at_lt {k : IntKind} {w : World} {base : Nat} {ty : TypeId} {v : Value} {xs : List Int} (h : Own k w base ty v xs) : At (fun b => base ≤ b ∧ b < w.heap.size) v xs.length := by
  rintro b o n c rfl hn
  exact ⟨h.block_ge b rfl, h.lt b rfl⟩
theorem At.imp {P Q : Nat → Prop} {v : Value} {n : Nat} (h : At P v n) (hq : ∀ b, P b → Q b) : At Q v n := fun b o m c e hn => hq b (h b o m c e hn)
theorem KeepP.weak {P Q : Nat → Prop} {w w' : World} (h : KeepP P w w') (hq : ∀ b, Q b → P b) : KeepP Q w w' := ⟨h.1, fun b hb hp => h.2 b hb (hq b hp)⟩
theorem KeepP.of_grown {P : Nat → Prop} {w w' : World} {r : Option Nat} (h : w.grownBy w' r) (hs : w.heap.size ≤ w'.heap.size) (hr : ∀ b, P b → some b ≠ r) : KeepP P w w' := ⟨hs, fun b hb hp => h.block b hb (hr b hp)⟩
end Go.Proofs.Ytbpfbebebppleaa
