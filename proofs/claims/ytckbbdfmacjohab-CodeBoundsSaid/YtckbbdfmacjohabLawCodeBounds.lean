/- CodeBounds: the walk. -/
import Derived.Test.YtckbbdfmacjohabCodeFacts
namespace Go.Proofs.Ytckbbdfmacjohab
open Go.RowKit
set_option maxHeartbeats 2000000 in
set_option maxRecDepth 100000 in
theorem bounds_walk (n a b : Int) (W : World) (hn : -9223372036854775808 ≤ n ∧ n ≤ 9223372036854775807) (ha : -9223372036854775808 ≤ a ∧ a ≤ 9223372036854775807) (hb : -9223372036854775808 ≤ b ∧ b ≤ 9223372036854775807) :
    Calls Try.prog 6 #[.int .i64 n, .int .i64 a, .int .i64 b] W fun e W' => e = .returned (.bool true) ∧ Below W.heap.size W W' := by
  obtain ⟨n1, n2⟩ := hn
  obtain ⟨a1, a2⟩ := ha
  obtain ⟨b1, b2⟩ := hb
  have hten := Lib.hid (numL_len n1 n2)
  have HV := Lib.hid (intV_of (a := a) (b := b) n1 n2 [])
  have HE := Lib.hid (intE_of (a := a) (b := b) n1 n2 [])
  have HR0 := Lib.hid (numR_of n1 n2 [])
  by_cases ho : outB n a b = true
  · have HV2 : Hid (intV (numL n) 0 a b = 0) := by show _ = _; have := HV.out; rw [List.append_nil, if_pos ho] at this; exact this
    have HE2 : Hid (intE (numL n) 0 a b = 1) := by show _ = _; have := HE.out; rw [List.append_nil, if_pos ho] at this; exact this
    unfold outB at ho
    go_enter Try.func6, Try.ntmps6
    go_wp2_with fail
    refine (writes_any W).mono ?_
    rintro y w0 ⟨rfl, hb0⟩
    have B0 := Lib.hid hb0
    clear hb0
    go_wp2_with fail
    refine (wnum_any _ [] n w0 (Row.nil_ _ _ 0) (by simp) n1 n2).mono ?_
    rintro y w1 ⟨v1, rfl, ho1, hb1⟩
    rw [List.nil_append] at ho1
    have B1 := Lib.hid (B0.out.trans (hb1.mono B0.out.size))
    have O1 := Lib.hid ho1.row
    clear ho1 hb1
    go_wp2_with fail
    refine (read_any v1 _ w1 O1.out (by have := hten.out; omega)).mono ?_
    rintro y w2 ⟨g, g0, rfl, hr2, hg, hg0, hb2⟩
    have B2 := Lib.hid (B1.out.trans (hb2.mono B1.out.size))
    have R2 := Lib.hid hr2
    have G := Lib.hid (Nat.le_trans B1.out.size hg)
    clear hr2 hg hg0 hb2
    go_wp2_with fail
    refine (int_any g g0 _ 0 a b w2 R2.out (numL_oct n) (by have := hten.out; omega)).mono ?_
    rintro y w3 ⟨rfl, hc3, hr3⟩
    rw [HV2.out]
    rw [HE2.out] at hr3
    have B3 := Lib.hid (B2.out.trans (hc3.below G.out B2.out.size))
    have R3 := Lib.hid hr3
    clear hc3 hr3
    go_wp2_with (go_at_call 10; refine (err_any g g0 _ 1 _ R3.out).mono ?_; rintro y w4 ⟨rfl, rfl⟩)
    all_goals
      go_ret
      exact ⟨rfl, B3.out⟩
  · have HV2 : Hid (intV (numL n) 0 a b = n) := by show _ = _; have := HV.out; rw [List.append_nil, if_neg ho] at this; exact this
    have HE2 : Hid (intE (numL n) 0 a b = 0) := by show _ = _; have := HE.out; rw [List.append_nil, if_neg ho] at this; exact this
    have HR2 : Hid (numR (numL n) 0 = []) := by show _ = _; have := HR0.out; rw [List.append_nil] at this; exact this
    unfold outB at ho
    have h1 : a ≤ n := by simp at ho; omega
    have h2 : n ≤ b := by simp at ho; omega
    clear ho
    go_enter Try.func6, Try.ntmps6
    go_wp2_with fail
    refine (writes_any W).mono ?_
    rintro y w0 ⟨rfl, hb0⟩
    have B0 := Lib.hid hb0
    clear hb0
    go_wp2_with fail
    refine (wnum_any _ [] n w0 (Row.nil_ _ _ 0) (by simp) n1 n2).mono ?_
    rintro y w1 ⟨v1, rfl, ho1, hb1⟩
    rw [List.nil_append] at ho1
    have B1 := Lib.hid (B0.out.trans (hb1.mono B0.out.size))
    have O1 := Lib.hid ho1.row
    clear ho1 hb1
    go_wp2_with fail
    refine (read_any v1 _ w1 O1.out (by have := hten.out; omega)).mono ?_
    rintro y w2 ⟨g, g0, rfl, hr2, hg, hg0, hb2⟩
    have B2 := Lib.hid (B1.out.trans (hb2.mono B1.out.size))
    have R2 := Lib.hid hr2
    have G := Lib.hid (Nat.le_trans B1.out.size hg)
    clear hr2 hg hg0 hb2
    go_wp2_with fail
    refine (int_any g g0 _ 0 a b w2 R2.out (numL_oct n) (by have := hten.out; omega)).mono ?_
    rintro y w3 ⟨rfl, hc3, hr3⟩
    rw [HV2.out]
    rw [HE2.out, HR2.out] at hr3
    have B3 := Lib.hid (B2.out.trans (hc3.below G.out B2.out.size))
    have R3 := Lib.hid hr3
    clear hc3 hr3
    go_wp2_with (go_at_call 11; refine (end_any g g0 [] 0 _ R3.out (by simp)).mono ?_; rintro y w4 ⟨rfl, hc4, _⟩; rw [show endE [] 0 = 0 from rfl]; have B4 := Lib.hid (B3.out.trans (hc4.below G.out B3.out.size)); clear hc4)
    go_ret
    exact ⟨rfl, B4.out⟩
end Go.Proofs.Ytckbbdfmacjohab
