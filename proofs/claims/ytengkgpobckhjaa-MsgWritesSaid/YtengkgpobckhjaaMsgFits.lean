/- contralaw11.fits by contract. -/
import Derived.Test.YtengkgpobckhjaaMsgSays
import Derived.Test.YtengkgpobckhjaaLiftMsg
namespace Go.Proofs.Ytengkgpobckhjaa
open Go.RowKit
set_option linter.unusedSimpArgs false
theorem fits_any (x : MsgX) (w : World) : Calls Try.prog 11 #[x.m.v x.vl x.vn] w fun e w' => e = .returned (.bool (decide (x.m.ls.length ≤ 1100 ∧ x.m.ns.length ≤ 20))) ∧ Below w.heap.size w w' := by
  obtain ⟨m, pl, cl, pn, cn⟩ := x
  unfold Msg.v MsgX.vl MsgX.vn
  dsimp only
  by_cases h1 : m.ls.length ≤ 1100 <;> by_cases h2 : m.ns.length ≤ 20
  all_goals
    have H : Hid (Ending.returned (.bool (decide (m.ls.length ≤ 1100 ∧ m.ns.length ≤ 20))) = Ending.returned (.bool (decide (m.ls.length ≤ 1100) && decide (m.ns.length ≤ 20)))) := by
      show _ = _
      simp [h1, h2]
    rw [H.out]
    generalize m.ls.length = n1 at *
    generalize m.ns.length = n2 at *
    have i1 : ((n1 : Int) ≤ 1100) = (n1 ≤ 1100) := by simp; omega
    have i2 : ((n2 : Int) ≤ 20) = (n2 ≤ 20) := by simp; omega
    go_enter Try.func11, Try.ntmps11
    go_wp2
    all_goals
      go_ret
      refine ⟨?_, oneB _ _⟩
      congr 1
      simp_all
end Go.Proofs.Ytengkgpobckhjaa
