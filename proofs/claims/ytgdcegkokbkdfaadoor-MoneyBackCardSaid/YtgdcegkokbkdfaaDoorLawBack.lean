/- MoneyBack: the walk. -/
import Derived.Test.YtgdcegkokbkdfaaDoorTextInj
import Derived.Test.YtgdcegkokbkdfaaDoorCounts
import Derived.Test.YtgdcegkokbkdfaaDoorNeg
namespace Go.Proofs.YtgdcegkokbkdfaaDoor
open Go.RowKit Go.Lib

theorem Row.three (w : World) (T : TypeId) (a b c : Int) : Row .i64 (w.alloc (.cells #[.int .i64 a, .int .i64 b, .int .i64 c] T)) (.slice (some ⟨w.heap.size, 0, none⟩) 3 3) [a, b, c] := by
  refine ⟨_, 3, rfl, Nat.le_refl _, .inr ⟨_, _, rfl, fun i hi => ?_⟩⟩
  rw [World.cell?_alloc_at _ _ _ _ rfl]
  match i, hi with
  | 0, _ => rfl
  | 1, _ => rfl
  | 2, _ => rfl

set_option maxHeartbeats 2000000 in
set_option maxRecDepth 100000 in
theorem back_walk (a b : Int) (w : World) (ha : Fits a) (hb : Fits b) (htab : Pow w) :
    Calls Tryd.prog 8 #[.int .i64 a, .int .i64 b] w fun e w' => e = .returned (.bool true) ∧ Below w.heap.size w w' := by
  have HC := Lib.hid (counts_any w htab)
  have HT := Lib.hid htab
  clear htab
  have HA := Lib.hid ha
  have HB := Lib.hid hb
  have heq : (!(textL a == textL b) == (a == b)) = false := by
    have : (textL a == textL b) = (a == b) := by
      rw [Bool.eq_iff_iff, beq_iff_eq, beq_iff_eq]
      exact ⟨text_inj, fun h => by rw [h]⟩
    rw [this]; cases (a == b) <;> rfl
  clear ha hb
  go_enter Tryd.func8, Tryd.ntmps8
  go_wp2_with fail
  refine HC.out.mono ?_
  rintro e w1 ⟨rfl, hb1⟩
  go_wp2_with fail
  refine (text_any a HA.out w1 (powBelow HT.out hb1)).mono ?_
  rintro e w2 ⟨rfl, hb2⟩
  go_wp2_with fail
  refine (text_any b HB.out w2 (powBelow HT.out (seqB hb1 hb2))).mono ?_
  rintro e w3 ⟨rfl, hb3⟩
  go_wp2_with fail
  have hB : Hid (Below w.heap.size w w3) := seqB (seqB hb1 hb2) hb3
  clear hb1 hb2 hb3 HC heq
  refine (add_any a b w3 HA.out HB.out).mono ?_
  rintro e w4 ⟨rfl, hb4⟩
  have hB4 : Hid (Below w.heap.size w w4) := seqB hB.out hb4
  clear hB hb4
  go_wp2_with fail
  refine (neg_any b w4 HB.out).mono ?_
  rintro e w5 ⟨rfl, rfl⟩
  by_cases h1 : Fits (a + b)
  · by_cases h2 : Fits (-b)
    · rw [sumN_yes h1, sumE_yes h1, sumN_yes h2, sumE_yes h2]
      have e1 : Hid (a + b + -b = a) := by show _ = _; omega
      have h64 : All64 [a, b, -b] := by
        intro x hx; simp at hx
        rcases hx with rfl | rfl | rfl
        · exact HA.out
        · exact HB.out
        · exact h2
      have hs : Hid ([a, b, -b].sum = a) := by show a + (b + (-b + 0)) = a; omega
      have hadd := add_any (a + b) (-b) w4 h1 h2
      rw [e1.out, sumN_yes HA.out, sumE_yes HA.out] at hadd
      have hn : nearB a a 0 = true := by unfold nearB; simp
      have HADD := Lib.hid hadd
      clear hadd h1 h2
      go_wp2_with fail
      refine HADD.out.mono ?_
      rintro e w5 ⟨rfl, hb5⟩
      go_wp2_with fail
      refine (sum_any _ [a, b, -b] _ (by simp) h64 (Row.three _ _ a b (-b))).mono ?_
      rintro e w6 ⟨rfl, rfl⟩
      rw [hs.out, sumN_yes HA.out, sumE_yes HA.out]
      go_wp2_with fail
      refine (near_any a a 0 _ HA.out HA.out (by unfold Fits; decide)).mono ?_
      rintro e w7 ⟨rfl, rfl⟩
      rw [hn]
      go_wp2
      go_ret
      exact ⟨rfl, (seqB hB4.out (seqB hb5 (oneB _ _)))⟩
    · rw [sumN_yes h1, sumE_yes h1, sumN_no h2, sumE_no h2]
      clear h1 h2
      go_wp2
      go_ret
      exact ⟨rfl, hB4.out⟩
  · rw [sumN_no h1, sumE_no h1]
    clear h1
    generalize sumN (-b) = x at *
    generalize sumE (-b) = y at *
    go_wp2
    go_ret
    exact ⟨rfl, hB4.out⟩
end Go.Proofs.YtgdcegkokbkdfaaDoor
