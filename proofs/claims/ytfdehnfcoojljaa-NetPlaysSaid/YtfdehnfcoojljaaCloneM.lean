/- slices.Clone of lines and of numbers by contract. -/
import Derived.Test.YtfdehnfcoojljaaAtP
namespace Go.Proofs.Ytfdehnfcoojljaa
open Go.RowKit
set_option linter.unusedSimpArgs false in
set_option maxHeartbeats 4000000 in
set_option maxRecDepth 100000 in
theorem cloneN_any (w : World) (v : Value) (xs : List Lin) (hr : TRow encN w v xs) (hn : xs.length * 32 ≤ 140737488355000) :
    Calls Try.prog 19 #[v] w fun e w' => ∃ v', e = .returned v' ∧ OwnT encN w' w.heap.size 48 v' xs ∧ Below w.heap.size w w' := by
  obtain ⟨p, c, rfl⟩ := hr.shape
  cases p with
  | none =>
    have hx : xs = [] := by
      obtain ⟨p', c', e1, _, h⟩ := hr
      cases e1
      rcases h with h | ⟨b, o, h, _⟩
      · exact h
      · cases h
    subst hx
    clear hr
    have kq := Lib.run_eql_slice_nil (P := Try.prog) w 33 48 none 0 c 0 0 Try.underlying33
    simp only [List.length_nil]
    go_enter Try.func19, Try.ntmps19
    go_wp2
    go_ret
    exact ⟨_, rfl, OwnT.nil_ _ _ _ _, Below.refl _ _⟩
  | some a =>
    have HR := Lib.hid hr
    have HM := Lib.hid (OwnT.madeE encN w w.heap.size 48 (Nat.le_refl _))
    have HB := Lib.hid (oneB w (.cells #[] 48))
    have HN := Lib.hid hn
    clear hr hn
    generalize hl : xs.length = n at *
    have HL := Lib.hid hl
    clear hl
    have kq := Lib.run_eql_slice_nil (P := Try.prog) w 33 48 (some a) n c 0 0 Try.underlying33
    go_enter Try.func19, Try.ntmps19
    go_wp2_with (at_builtin; with_reducible refine stop_appendT (.tmp 5) (.tmp 6) 33 rfl ?_)
    refine wpList_append_tb rfl (.tmp 5) (.tmp 6) 33 rfl 48 (.agg #[.int .i64 0, .int .i64 0, .int .i64 0, .int .i64 0]) 32 w.heap.size elt_cloneN_any rfl (.slice (some ⟨w.heap.size, 0, none⟩) 0 0) (.slice (some a) n c) [] xs rfl rfl HM.out (HR.out.kept HB.out) (by have := HL.out; have := HN.out; simp; omega) (by have := HL.out; have := HN.out; simp; omega) HB.out.size xs n (List.nil_append _) HL.out ?_
    intro p' c' w' ho _ hb
    have HO := Lib.hid ho
    have HB2 := Lib.hid (HB.out.trans hb)
    clear ho hb
    go_wp2_with fail
    go_ret
    exact ⟨_, rfl, HO.out, HB2.out⟩
set_option linter.unusedSimpArgs false in
set_option maxHeartbeats 4000000 in
set_option maxRecDepth 100000 in
theorem clone64_any (w : World) (v : Value) (xs : List Int) (hr : Row .i64 w v xs) (hn : xs.length * 8 ≤ 140737488355000) :
    Calls Try.prog 20 #[v] w fun e w' => ∃ v', e = .returned v' ∧ Own .i64 w' w.heap.size 2 v' xs ∧ Below w.heap.size w w' := by
  obtain ⟨p, c, rfl⟩ := hr.shape
  cases p with
  | none =>
    have hx : xs = [] := by
      obtain ⟨p', c', e1, _, h⟩ := hr
      cases e1
      rcases h with h | ⟨b, o, h, _⟩
      · exact h
      · cases h
    subst hx
    clear hr
    have kq := Lib.run_eql_slice_nil (P := Try.prog) w 34 2 none 0 c 0 0 Try.underlying34
    simp only [List.length_nil]
    go_enter Try.func20, Try.ntmps20
    go_wp2
    go_ret
    exact ⟨_, rfl, Own.nil_ _ _ _ _, Below.refl _ _⟩
  | some a =>
    have HR := Lib.hid hr
    have HM := Lib.hid (Own.made .i64 w w.heap.size 2 (Nat.le_refl _))
    have HB := Lib.hid (oneB w (.cells #[] 2))
    have HN := Lib.hid hn
    clear hr hn
    generalize hl : xs.length = n at *
    have HL := Lib.hid hl
    clear hl
    have kq := Lib.run_eql_slice_nil (P := Try.prog) w 34 2 (some a) n c 0 0 Try.underlying34
    go_enter Try.func20, Try.ntmps20
    go_wp2_with (at_builtin; with_reducible refine stop_appendT (.tmp 5) (.tmp 6) 34 rfl ?_)
    refine wpList_append_row rfl (.tmp 5) (.tmp 6) 34 rfl 2 .i64 8 w.heap.size elt64M (.slice (some ⟨w.heap.size, 0, none⟩) 0 0) (.slice (some a) n c) [] xs rfl rfl HM.out (HR.out.kept HB.out) (by have := HL.out; have := HN.out; simp; omega) (by have := HL.out; have := HN.out; simp; omega) HB.out.size xs n (List.nil_append _) HL.out ?_
    intro p' c' w' ho hb
    have HO := Lib.hid ho
    have HB2 := Lib.hid (HB.out.trans hb)
    clear ho hb
    go_wp2_with fail
    go_ret
    exact ⟨_, rfl, HO.out, HB2.out⟩
end Go.Proofs.Ytfdehnfcoojljaa
