/- What taking bytes of a code.Reader answers. -/
import Derived.Test.YtbimbpmdiahhbaaRdr
namespace Go.Proofs.Ytbimbpmdiahhbaa
open Go.RowKit
def takeE (zs : List Int) (e : Int) (n : Nat) : Int := if e ≠ 0 then e else if zs.length < n then 40 else 0
theorem takeE_or1 {zs : List Int} {e : Int} {n : Nat} (h : zs.length < n) : orE e 40 = takeE zs e n := by unfold orE takeE; by_cases he : e = 0 <;> simp [he, h]
theorem takeE_or0 {zs : List Int} {e : Int} {n : Nat} (h : ¬ zs.length < n) : orE e 0 = takeE zs e n := by unfold orE takeE; by_cases he : e = 0 <;> simp [he, h]
theorem errB_yes {e : Int} (h : e ≠ 0) : errB e = true := by simp [errB, h]
theorem errB_no {e : Int} (h : e = 0) : errB e = false := by simp [errB, h]
end Go.Proofs.Ytbimbpmdiahhbaa
