/- MoneyAdds: the walk. -/
import Derived.Test.YtgdcegkokbkdfaaDoorCounts
import Derived.Test.YtgdcegkokbkdfaaDoorRefSum
import Derived.Test.YtgdcegkokbkdfaaDoorNeg
namespace Go.Proofs.YtgdcegkokbkdfaaDoor
open Go.RowKit

theorem adds_walk (a b : Int) (w : World) (ha : Fits a) (hb : Fits b) (htab : Pow w) :
    Calls Tryd.prog 3 #[.int .i64 a, .int .i64 b] w fun e w' => e = .returned (.bool true) ∧ Below w.heap.size w w' := by
  have HC := Lib.hid (counts_any w htab)
  have hrow := fun (W : World) => Row.two W 2 a b 2 (Nat.le_refl _)
  have HROW := Lib.hid hrow
  have hs : Hid ([a, b].sum = a + b) := by show _ = _; simp
  have h64 : All64 [a, b] := by intro x hx; simp at hx; unfold Fits at ha hb; rcases hx with rfl | rfl <;> omega
  clear hrow htab
  have HA := Lib.hid ha
  have HB := Lib.hid hb
  go_enter Tryd.func3, Tryd.ntmps3
  go_wp2_with fail
  refine HC.out.mono ?_
  rintro e w1 ⟨rfl, hb1⟩
  go_wp2_with fail
  refine (add_any a b w1 ha hb).mono ?_
  rintro e w2 ⟨rfl, hb2⟩
  go_wp2_with fail
  refine (refsum_any _ [a, b] _ (by simp) h64 (HROW.out w2)).mono ?_
  rintro e w3 ⟨rfl, hb3⟩
  rw [hs.out]
  go_wp2_with fail
  refine (neg_any a w3 ha).mono ?_
  rintro e w4 ⟨rfl, rfl⟩
  go_wp2_with fail
  have hfn : Fits (sumN (-a)) := by
    by_cases h : Fits (-a)
    · rw [sumN_yes h]; exact h
    · rw [sumN_no h]; unfold Fits; decide
  refine (from_any (sumN (-a)) w3 hfn).mono ?_
  rintro e w5 ⟨v5, rfl, hbig5, hb5⟩
  go_wp2_with fail
  refine (from_any a w5 ha).mono ?_
  rintro e w6 ⟨v6, rfl, hbig6, hb6⟩
  go_wp2_with fail
  refine (bigplus_any _ _ (sumN (-a)) a w6 (small_one hfn) (small_one ha) (hbig5.kept hb6) hbig6).mono ?_
  rintro e w7 ⟨v7, rfl, hbig7, hb7⟩
  have hsm : Small (sumN (-a) + a) := by unfold Fits at hfn ha; unfold Small; omega
  go_wp2_with fail
  refine (fits_any _ (sumN (-a) + a) w7 hsm hbig7).mono ?_
  rintro e w8 ⟨rfl, hb8⟩
  have hbel : Hid (Below w.heap.size w w8) := seqB (seqB (seqB (seqB (seqB hb1 hb2) (seqB (oneB _ _) hb3)) hb5) hb6) (seqB hb7 hb8)
  clear hb1 hb2 hb3 hb5 hb6 hb7 hb8 hbig5 hbig6 hbig7 hsm hfn HC HROW h64
  by_cases hmin : a = -9223372036854775808
  · have hnf : ¬ Fits (-a) := by unfold Fits; omega
    have e1 := sumE_no hnf
    have e2 := sumN_no hnf
    have hb0 : (a == -9223372036854775808) = true := by simpa using hmin
    clear hmin hnf
    rw [e1, e2]
    clear e1 e2
    go_wp2
    go_ret
    exact ⟨rfl, hbel.out⟩
  · have hnf : Fits (-a) := by have := ha; unfold Fits at *; omega
    have e1 := sumE_yes hnf
    have e2 := sumN_yes hnf
    have hb0 : (a != -9223372036854775808) = true := by simpa using hmin
    have e3 : sumN (-a + a) = 0 := by rw [show -a + a = 0 by omega]; decide
    have e4 : fitsB (-a + a) = true := by rw [show -a + a = 0 by omega]; decide
    clear hmin hnf
    rw [e1, e2, e3, e4]
    clear e1 e2 e3 e4 hs
    go_wp2
    go_ret
    exact ⟨rfl, hbel.out⟩
end Go.Proofs.YtgdcegkokbkdfaaDoor
