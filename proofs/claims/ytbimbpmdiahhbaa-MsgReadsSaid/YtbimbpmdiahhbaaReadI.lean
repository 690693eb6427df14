/- code.Reader: Err and Int by contract. -/
import Derived.Test.YtbimbpmdiahhbaaRead
namespace Go.Proofs.Ytbimbpmdiahhbaa
open Go.RowKit
def outB (n a b : Int) : Bool := decide (n < a) || decide (b < n)
def intE (zs : List Int) (e a b : Int) : Int := if outB (numV zs e) a b = true then orE (numE zs e) 1 else numE zs e
def intV (zs : List Int) (e a b : Int) : Int := if outB (numV zs e) a b = true then 0 else numV zs e
theorem err_any (g g0 : Nat) (zs : List Int) (e : Int) (w : World) (hr : Rdr w g g0 zs e) :
    Calls Try.prog 20 #[.pointer (some ⟨g, 0, none⟩)] w fun x w' => x = .returned (.int .i64 e) ∧ w = w' := by
  obtain ⟨v, hb, _, _⟩ := hr
  have hc1 : w.cell? ⟨g, 1, none⟩ = some (.int .i64 e) := hb.cell 1
  clear hb
  go_enter Try.func20, Try.ntmps20
  go_wp2
  go_ret
  exact ⟨rfl, rfl⟩
set_option maxHeartbeats 1000000 in
theorem int_any (g g0 : Nat) (zs : List Int) (e a b : Int) (w : World) (hr : Rdr w g g0 zs e) (h8 : Oct zs) (hl : zs.length ≤ 9223372036854775000) :
    Calls Try.prog 19 #[.pointer (some ⟨g, 0, none⟩), .int .i64 a, .int .i64 b] w fun x w' => x = .returned (.int .i64 (intV zs e a b)) ∧ Chg g w w' ∧ Rdr w' g g0 (numR zs e) (intE zs e a b) := by
  have hfit := numV_fits zs e
  have HR := Lib.hid hr
  clear hr
  by_cases ho : outB (numV zs e) a b = true
  · have HV : Hid (intV zs e a b = 0) := by show _ = _; unfold intV; rw [if_pos ho]
    have HE : Hid (orE (numE zs e) 1 = intE zs e a b) := by show _ = _; unfold intE; rw [if_pos ho]
    unfold outB at ho
    go_enter Try.func19, Try.ntmps19
    go_wp2_with fail
    refine (num_any g g0 zs e w HR.out h8 hl).mono ?_
    rintro x w1 ⟨rfl, hc1, hr1⟩
    generalize numV zs e = nv at *
    have HC1 := Lib.hid hc1
    have HR1 := Lib.hid hr1
    clear hc1 hr1
    go_wp2_with (go_at_call 26; refine (fails_any g g0 _ _ 1 _ HR1.out).mono ?_; rintro x w2 ⟨rfl, hc2, hr2⟩; have HC2 := Lib.hid hc2; have HR2 := Lib.hid hr2; clear hc2 hr2)
    all_goals
      go_ret
      exact ⟨ret_i64e HV.out.symm, HC1.out.trans HC2.out, by rw [← HE.out]; exact HR2.out⟩
  · have HV : Hid (intV zs e a b = numV zs e) := by show _ = _; unfold intV; rw [if_neg ho]
    have HE : Hid (numE zs e = intE zs e a b) := by show _ = _; unfold intE; rw [if_neg ho]
    unfold outB at ho
    have h1 : a ≤ numV zs e := by simp at ho; omega
    have h2 : numV zs e ≤ b := by simp at ho; omega
    clear ho
    go_enter Try.func19, Try.ntmps19
    go_wp2_with fail
    refine (num_any g g0 zs e w HR.out h8 hl).mono ?_
    rintro x w1 ⟨rfl, hc1, hr1⟩
    have HRV := HV
    generalize numV zs e = nv at *
    have HC1 := Lib.hid hc1
    have HR1 := Lib.hid hr1
    clear hc1 hr1
    go_wp2_with fail
    go_ret
    exact ⟨ret_i64e HV.out.symm, HC1.out, by rw [← HE.out]; exact HR1.out⟩
end Go.Proofs.Ytbimbpmdiahhbaa
