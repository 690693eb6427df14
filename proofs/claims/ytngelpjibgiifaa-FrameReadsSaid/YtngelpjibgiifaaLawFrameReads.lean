/- FrameReads: the walk. -/
import Derived.Test.YtngelpjibgiifaaFrameHead
import Derived.Test.YtngelpjibgiifaaRefFrame
namespace Go.Proofs.Ytngelpjibgiifaa
open Go.RowKit
set_option maxHeartbeats 4000000 in
set_option maxRecDepth 100000 in
theorem freads_walk (vt : Value) (text : List Int) (W : World) (ot : Oct text) (rt : Row .u8 W vt text) (lt : text.length ≤ 140737488355328) :
    Calls Try.prog 6 #[vt] W fun e W' => e = .returned (.bool true) ∧ Below W.heap.size W W' := by
  obtain ⟨pt, ct, rfl⟩ := rt.shape
  have RT := Lib.hid rt
  clear rt
  by_cases hg : (text.length : Int) ≤ 20000
  · have HL : Hid (text.length ≤ 20000) := by show _ ≤ _; omega
    have HS : Hid ((strOfNums text).size ≤ 20000) := by show _ ≤ _; rw [strOfNums_size]; exact HL.out
    have HR := Lib.hid (fun w => refread5_any (strOfNums text) 0 (Nat.zero_le _) HS.out w)
    rw [List.drop_zero, intsOf_str ot] at HR
    go_enter Try.func6, Try.ntmps6
    go_wp2_with fail
    refine (records_any W).mono ?_
    rintro y w0 ⟨rfl, hb0⟩
    have B0 := Lib.hid hb0
    clear hb0
    go_wp2_with fail
    refine (fread_any _ text ot (by have := HL.out; omega) w0 (RT.out.under B0.out (Nat.le_refl _))).mono ?_
    rintro y w1 ⟨v1, rfl, ho1, hb1⟩
    obtain ⟨p1, c1, rfl⟩ := ho1.form
    have B1 := Lib.hid (B0.out.trans (hb1.mono B0.out.size))
    have O1 := Lib.hid ho1
    have kT := conv_row (P := Try.prog) w1 22 9 5 Try.underlying22 Try.underlying5 Try.underlying9 _ _ (RT.out.under B1.out (Nat.le_refl _))
    clear hb1 ho1
    go_wp2_with fail
    refine (HR.out w1).mono ?_
    rintro y w2 ⟨rfl, hb2⟩
    have B2 := Lib.hid (B1.out.trans (hb2.mono B1.out.size))
    have k2 := conv_row (P := Try.prog) w2 22 9 5 Try.underlying22 Try.underlying5 Try.underlying9 _ _ (O1.out.row.kept hb2)
    clear hb2
    generalize frE text = eT at *
    generalize frN text = nT at *
    go_wp2_with fail
    go_ret
    exact ⟨rfl, B2.out⟩
  · have hg' : (20000 : Int) < (text.length : Int) := by omega
    clear hg
    go_enter Try.func6, Try.ntmps6
    go_wp2_with fail
    refine (records_any W).mono ?_
    rintro y w0 ⟨rfl, hb0⟩
    go_wp2_with fail
    go_ret
    exact ⟨rfl, hb0⟩
end Go.Proofs.Ytngelpjibgiifaa
