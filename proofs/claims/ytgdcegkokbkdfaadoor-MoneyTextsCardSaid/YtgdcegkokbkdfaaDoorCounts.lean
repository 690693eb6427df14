/- The head that the statements of amounts ask of the program first. -/
import Derived.Test.YtgdcegkokbkdfaaDoorText
namespace Go.Proofs.YtgdcegkokbkdfaaDoor
open Go.RowKit Go.Lib

theorem text1205 : textL (-1205) = [45, 49, 50, 46, 48, 53] := by
  rw [textL, if_pos (by decide), tailL, show (-1205 : Int).natAbs / 100 = 12 by decide, show (-1205 : Int).natAbs = 1205 by decide, Lib.decDigits_two (by decide) (by decide)]
  decide

set_option maxHeartbeats 2000000 in
set_option maxRecDepth 100000 in
theorem counts_any (w : World) (htab : Pow w) :
    Calls Tryd.prog 10 #[] w fun e w' => e = .returned (.bool true) ∧ Below w.heap.size w w' := by
  have s1 : sumN 7 = 7 := by decide
  have s2 : sumE 7 = 0 := by decide
  have n1 : nearB 10 12 2 = true := by decide
  have n2 : nearB 10 13 2 = false := by decide
  have HA := Lib.hid (add_any 3 4 w (by unfold Fits; decide) (by unfold Fits; decide))
  have HTX := Lib.hid (fun (W : World) (h : Pow W) => by
    have := text_any (-1205) (by unfold Fits; decide) W h
    rw [text1205] at this
    exact this)
  have HN1 := Lib.hid (fun (W : World) => near_any 10 12 2 W (by unfold Fits; decide) (by unfold Fits; decide) (by unfold Fits; decide))
  have HN2 := Lib.hid (fun (W : World) => near_any 10 13 2 W (by unfold Fits; decide) (by unfold Fits; decide) (by unfold Fits; decide))
  have HT := Lib.hid htab
  clear htab
  go_enter Tryd.func10, Tryd.ntmps10
  go_wp2_with fail
  refine HA.out.mono ?_
  rintro e w1 ⟨rfl, hb1⟩
  rw [show (3 : Int) + 4 = 7 from rfl, s1, s2]
  go_wp2_with fail
  refine (HTX.out _ (powBelow HT.out hb1)).mono ?_
  rintro e w2 ⟨rfl, hb2⟩
  go_wp2_with fail
  refine (HN1.out _).mono ?_
  rintro e w3 ⟨rfl, rfl⟩
  rw [n1]
  go_wp2_with fail
  refine (HN2.out _).mono ?_
  rintro e w3 ⟨rfl, rfl⟩
  rw [n2]
  go_wp2
  go_ret
  exact ⟨rfl, hb1.trans (hb2.mono hb1.size)⟩
end Go.Proofs.YtgdcegkokbkdfaaDoor
