/- slices.Clone of items by contract. -/
import Derived.Test.YtillckkohdjkbaaBookWI
import Derived.Test.YtillckkohdjkbaaTRow2
import Derived.Lib.SliceRun
namespace Go.Proofs.Ytillckkohdjkbaa
open Go.RowKit
theorem retBo {a b : Bool} (h : a = b) : Ending.returned (.bool a) = .returned (.bool b) := by rw [h]
theorem madeT (w : World) (base : Nat) (hb : base ≤ w.heap.size) : OwnT encI (w.alloc (.cells #[] 39)) base 39 (.slice (some ⟨w.heap.size, 0, none⟩) 0 0) [] := ⟨by simp, .inr ⟨w.heap.size, 0, #[], rfl, hb, heap_alloc_new w _, Nat.le_refl _, by decide, by simp, by simp⟩⟩
theorem stop_appendI {P : Program} {ops : Array Oper} {rest : List Oper} {o : Oper} {a : Act} {w : World} {Q : Exit → Act → World → Prop} (s x : Operand) (t : TypeId)
    (_ : o.op = .call { callee := .builtin .append, args := #[s, x], argTypes := #[t, t] }) (h : Hid (wpList P ops Q (o :: rest) a w)) : wpList P ops Q (o :: rest) a w := h
set_option linter.unusedSimpArgs false in
set_option maxHeartbeats 4000000 in
set_option maxRecDepth 100000 in
theorem cloneI_any (w : World) (v : Value) (xs : List Itm) (hr : TRow encI w v xs) (hn : xs.length ≤ 2000) :
    Calls Try.prog 54 #[v] w fun e w' => ∃ v', e = .returned v' ∧ OwnT encI w' w.heap.size 39 v' xs ∧ Below w.heap.size w w' := by
  obtain ⟨p, c, rfl⟩ := hr.shape
  cases p with
  | none =>
    have hx : xs = [] := by
      obtain ⟨p', c', e1, _, h⟩ := hr
      cases e1
      rcases h with h | ⟨b, o, h, _⟩
      · exact h
      · cases h
    subst hx
    clear hr
    have kq := Lib.run_eql_slice_nil (P := Try.prog) w 22 39 none 0 c 0 0 Try.underlying22
    simp only [List.length_nil]
    go_enter Try.func54, Try.ntmps54
    go_wp2
    go_ret
    exact ⟨_, rfl, OwnT.nil_ _ _ _ _, Below.refl _ _⟩
  | some a =>
    have HR := Lib.hid hr
    have HM := Lib.hid (madeT w w.heap.size (Nat.le_refl _))
    have HB := Lib.hid (oneB w (.cells #[] 39))
    clear hr
    generalize hl : xs.length = n at *
    have HL := Lib.hid hl
    clear hl
    have kq := Lib.run_eql_slice_nil (P := Try.prog) w 22 39 (some a) n c 0 0 Try.underlying22
    go_enter Try.func54, Try.ntmps54
    go_wp2_with (at_builtin; with_reducible refine stop_appendI (.tmp 5) (.tmp 6) 22 rfl ?_)
    refine wpList_append_t rfl (.tmp 5) (.tmp 6) 22 rfl 39 zeroVI 64 w.heap.size eltI rfl (by decide) (.slice (some ⟨w.heap.size, 0, none⟩) 0 0) (.slice (some a) n c) [] xs rfl rfl HM.out (HR.out.kept HB.out) (by have := HL.out; simp; omega) HB.out.size xs n (List.nil_append _) HL.out ?_
    intro p' c' w' ho _ hb
    have HO := Lib.hid ho
    have HB2 := Lib.hid (HB.out.trans hb)
    clear ho hb
    go_wp2_with fail
    go_ret
    exact ⟨_, rfl, HO.out, HB2.out⟩
end Go.Proofs.Ytillckkohdjkbaa
