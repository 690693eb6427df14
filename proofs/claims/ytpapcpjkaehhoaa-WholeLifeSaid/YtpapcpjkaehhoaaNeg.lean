/- money.Neg: what it answers. -/
import Derived.Test.YtpapcpjkaehhoaaSum
namespace Go.Proofs.Ytpapcpjkaehhoaa
open Go.RowKit
theorem neg_any (a : Int) (w : World) (ha : Fits a) :
    Calls Try.prog 17 #[.int .i64 a] w fun e w' => e = .returned (.tuple #[.int .i64 (sumN (-a)), .int .i64 (sumE (-a))]) ∧ w = w' := by
  unfold Fits at ha
  by_cases h : a = -9223372036854775808
  · have hb : (a == -9223372036854775808) = true := by simpa using h
    have hf : ¬ Fits (-a) := by unfold Fits; omega
    have h1 := Lib.hid (sumN_no hf)
    have h2 := Lib.hid (sumE_no hf)
    clear hf h ha
    go_enter Try.func17, Try.ntmps17
    go_wp2
    go_ret2
    rw [h1.out, h2.out]; exact ⟨rfl, rfl⟩
  · have hb : (a == -9223372036854775808) = false := by simpa using h
    have hf : Fits (-a) := by unfold Fits; omega
    have h1 := Lib.hid (sumN_yes hf)
    have h2 := Lib.hid (sumE_yes hf)
    have h3 : -9223372036854775807 ≤ a := by omega
    have h4 : Hid (wrap64 (-a) = -a) := by show _ = _; unfold wrap64; omega
    clear hf h
    go_enter Try.func17, Try.ntmps17
    go_wp2
    go_ret2
    rw [h1.out, h2.out]; exact ⟨rfl, rfl⟩
end Go.Proofs.Ytpapcpjkaehhoaa
