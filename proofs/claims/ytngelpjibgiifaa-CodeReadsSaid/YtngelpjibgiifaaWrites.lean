/- A row of bytes as a string; the first examples of layer 4 are right. -/
import Derived.Test.YtngelpjibgiifaaWriters
import Derived.Test.YtngelpjibgiifaaStrRow
import Derived.Lib.SlBytesConst
namespace Go.Proofs.Ytngelpjibgiifaa
open Go.RowKit
theorem numL_1 : numL 1 = [2] := by unfold numL; rw [leb_small (by decide)]; rfl
theorem numL_m1 : numL (-1) = [1] := by unfold numL; rw [leb_small (by decide)]; rfl
theorem numL_64 : numL 64 = [128, 1] := by unfold numL; rw [leb_big (by decide), leb_small (by decide)]; rfl
theorem numL_2 : numL 2 = [4] := by unfold numL; rw [leb_small (by decide)]; rfl
set_option maxHeartbeats 2000000 in
set_option maxRecDepth 100000 in
theorem writes_any (w : World) : Calls Try.prog 11 #[] w fun e w' => e = .returned (.bool true) ∧ Below w.heap.size w w' := by
  have kc := fun (w : World) (C : Array Value) (n c : Nat) => Lib.run_convert_bytes_const (P := Try.prog) w 22 5 C n c Try.underlying22 Try.underlying5
  go_enter Try.func11, Try.ntmps11
  go_wp2_with fail
  refine (wnum_any _ [] 1 w (Row.nil_ _ _ 0) (by simp) (by decide) (by decide)).mono ?_
  rintro y w1 ⟨v1, rfl, ho1, hb1⟩
  have k1 := conv_row (P := Try.prog) w1 22 9 5 Try.underlying22 Try.underlying5 Try.underlying9 v1 _ ho1.row
  rw [show strOfNums ([] ++ numL 1) = ⟨#[2]⟩ by rw [numL_1]; rfl] at k1
  have HB1 := Lib.hid hb1
  clear ho1 hb1
  go_wp2_with fail
  refine (wnum_any _ [] (-1) w1 (Row.nil_ _ _ 0) (by simp) (by decide) (by decide)).mono ?_
  rintro y w2 ⟨v2, rfl, ho2, hb2⟩
  have k2 := conv_row (P := Try.prog) w2 22 9 5 Try.underlying22 Try.underlying5 Try.underlying9 v2 _ ho2.row
  rw [show strOfNums ([] ++ numL (-1)) = ⟨#[1]⟩ by rw [numL_m1]; rfl] at k2
  have HB2 := Lib.hid (HB1.out.trans (hb2.mono HB1.out.size))
  clear ho2 hb2 k1
  go_wp2_with fail
  refine (wnum_any _ [] 64 w2 (Row.nil_ _ _ 0) (by simp) (by decide) (by decide)).mono ?_
  rintro y w3 ⟨v3, rfl, ho3, hb3⟩
  have k3 := conv_row (P := Try.prog) w3 22 9 5 Try.underlying22 Try.underlying5 Try.underlying9 v3 _ ho3.row
  rw [show strOfNums ([] ++ numL 64) = ⟨#[128, 1]⟩ by rw [numL_64]; rfl] at k3
  have HB3 := Lib.hid (HB2.out.trans (hb3.mono HB2.out.size))
  clear ho3 hb3 k2
  have hrow := Row.laid .u8 w3 5 [97, 98] #[.int .u8 97, .int .u8 98] rfl (2, 3) 2 2 rfl (Nat.le_refl _)
  have HROW := Lib.hid hrow
  clear hrow
  go_wp2_with fail
  refine (wbytes_any _ _ [] [97, 98] _ (Row.nil_ _ _ 0) HROW.out (by simp)).mono ?_
  rintro y w4 ⟨v4, rfl, ho4, hb4⟩
  have k4 := conv_row (P := Try.prog) w4 22 9 5 Try.underlying22 Try.underlying5 Try.underlying9 v4 _ ho4.row
  rw [show strOfNums ([] ++ (numL ([97, 98] : List Int).length ++ [97, 98])) = ⟨#[4, 97, 98]⟩ by rw [show (([97, 98] : List Int).length : Int) = 2 from rfl, numL_2]; rfl] at k4
  have HB4 := Lib.hid ((HB3.out.alloc HB3.out.size _).trans (hb4.mono (by have := HB3.out.size; simp; omega)))
  clear ho4 hb4 k3
  go_wp2_with fail
  go_ret
  exact ⟨rfl, HB4.out⟩
end Go.Proofs.Ytngelpjibgiifaa
