/- code.Num by contract. -/
import Derived.Test.YtbimbpmdiahhbaaDigits
import Derived.Test.YtbimbpmdiahhbaaRows8
namespace Go.Proofs.Ytbimbpmdiahhbaa
open Go.RowKit
set_option maxHeartbeats 1000000 in
theorem wnum_any (vb : Value) (zs : List Int) (n : Int) (w : World) (hrow : Row .u8 w vb zs) (hl : zs.length ≤ 140737488354000) (h1 : -9223372036854775808 ≤ n) (h2 : n ≤ 9223372036854775807) :
    Calls Try.prog 36 #[vb, .int .i64 n] w fun x w' => ∃ v, x = .returned v ∧ Own .u8 w' w.heap.size 5 v (zs ++ numL n) ∧ Below w.heap.size w w' := by
  obtain ⟨pb, cb, rfl⟩ := hrow.shape
  have HROW := Lib.hid hrow
  have hten := Lib.hid (numL_len h1 h2)
  have HL := Lib.hid hl
  clear hrow hl
  go_enter Try.func36, Try.ntmps36
  go_wp2_with fail
  refine (digits_any n w h1 h2).mono ?_
  rintro y w1 ⟨v1, rfl, ho1, hb1⟩
  obtain ⟨p1, c1, rfl⟩ := ho1.form
  have HB1 := Lib.hid hb1
  have HR := Lib.hid (Rows8.two w1 22 w1.heap.size rfl _ _ zs (numL n) (HROW.out.under hb1 (Nat.le_refl _)) ho1.row)
  clear ho1 hb1
  go_wp2_with fail
  refine (concat8_any _ 0 2 _ _ _ _ HR.out rfl (by decide) (by have := hten.out; have := HL.out; simp; omega)).mono ?_
  rintro y w2 ⟨v2, rfl, ho2, hb2⟩
  have HO2 := Lib.hid ho2
  have HB2 := Lib.hid hb2
  clear ho2 hb2
  go_wp2_with fail
  go_ret
  have hs := HB1.out.size
  refine ⟨_, rfl, own_down (by simpa using HO2.out) ?_, (HB1.out.alloc hs _).trans (HB2.out.mono (by simp; omega))⟩
  omega
end Go.Proofs.Ytbimbpmdiahhbaa
