/- MoneySums: the walk. -/
import Derived.Test.YtgdcegkokbkdfaaDoorCounts
import Derived.Test.YtgdcegkokbkdfaaDoorRefSum
namespace Go.Proofs.YtgdcegkokbkdfaaDoor
open Go.RowKit

theorem sums_walk (v : Value) (zs : List Int) (w : World) (h64 : All64 zs) (hrow : Row .i64 w v zs) (htab : Pow w) :
    Calls Tryd.prog 4 #[v] w fun e w' => e = .returned (.bool true) ∧ Below w.heap.size w w' := by
  obtain ⟨p, c, rfl⟩ := hrow.form
  have HC := Lib.hid (counts_any w htab)
  have HR := Lib.hid hrow
  clear htab hrow
  by_cases hl : 200 < zs.length
  · go_enter Tryd.func4, Tryd.ntmps4
    go_wp2_with fail
    refine HC.out.mono ?_
    rintro e w1 ⟨rfl, hb1⟩
    go_wp2
    go_ret
    exact ⟨rfl, hb1⟩
  · go_enter Tryd.func4, Tryd.ntmps4
    go_wp2_with fail
    refine HC.out.mono ?_
    rintro e w1 ⟨rfl, hb1⟩
    go_wp2_with fail
    refine (sum_any _ zs w1 (by omega) h64 (HR.out.kept hb1)).mono ?_
    rintro e w2 ⟨rfl, rfl⟩
    go_wp2_with fail
    refine (refsum_any _ zs w1 (by omega) h64 (HR.out.kept hb1)).mono ?_
    rintro e w2 ⟨rfl, hb2⟩
    go_wp2
    go_ret
    exact ⟨rfl, hb1.trans (hb2.mono hb1.size)⟩
end Go.Proofs.YtgdcegkokbkdfaaDoor
