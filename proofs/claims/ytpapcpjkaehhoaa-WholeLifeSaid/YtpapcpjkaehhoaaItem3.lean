/- item.Over by contract. -/
import Derived.Test.YtpapcpjkaehhoaaItem2
namespace Go.Proofs.Ytpapcpjkaehhoaa
open Go.RowKit
def overI (x : Itm) : Bool := decide (x.t = 4 ∨ x.t = 5)
set_option linter.unusedSimpArgs false in
set_option maxHeartbeats 1000000 in
theorem over_any (x : Itm) (w : World) : Calls Try.prog 15 #[x.v] w fun e w' => e = .returned (.bool (overI x)) ∧ Below w.heap.size w w' := by
  have HB := Lib.hid (itemB x w)
  unfold Itm.v at *
  unfold overI
  by_cases h4 : x.t = 4
  · have e4 : (x.t == 4) = true := by simpa using h4
    have HC : Hid (x.t = 4 ∨ x.t = 5) := .inl h4
    clear h4
    go_enter Try.func15, Try.ntmps15
    go_wp2
    go_ret
    exact ⟨retD HC.out, HB.out⟩
  · have e4 : (x.t == 4) = false := by simpa using h4
    by_cases h5 : x.t = 5
    · have e5 : (x.t == 5) = true := by simpa using h5
      have HC : Hid (x.t = 4 ∨ x.t = 5) := .inr h5
      clear h4 h5
      go_enter Try.func15, Try.ntmps15
      go_wp2
      go_ret
      exact ⟨retD HC.out, HB.out⟩
    · have e5 : (x.t == 5) = false := by simpa using h5
      have HC : Hid (¬ (x.t = 4 ∨ x.t = 5)) := fun h => h.elim h4 h5
      clear h4 h5
      go_enter Try.func15, Try.ntmps15
      go_wp2
      go_ret
      exact ⟨retN HC.out, HB.out⟩
end Go.Proofs.Ytpapcpjkaehhoaa
