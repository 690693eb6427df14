/- contralaw11.says and fits by contract. -/
import Derived.Test.YtengkgpobckhjaaMsgBack
namespace Go.Proofs.Ytengkgpobckhjaa
open Go.RowKit
set_option maxHeartbeats 2000000 in
set_option maxRecDepth 100000 in
theorem says_any (w : World) : Calls Try.prog 10 #[] w fun e w' => e = .returned (.bool true) ∧ Below w.heap.size w w' := by
  go_enter Try.func10, Try.ntmps10
  go_wp2_with fail
  refine (write_any _ [] vote3 _ _ w (Row.nil_ _ _ 0) (TRow.nil_ _ _) (Row.nil_ _ _ 0) vote3_F (by simp) (by decide) (by decide)).mono ?_
  rintro y w1 ⟨v1, rfl, ho1, hb1⟩
  rw [vote3_E, show wrL [] vote3 = [26, 0, 0, 0, 0, 0, 6, 0, 1, 0, 0] by unfold wrL; rw [if_pos vote3_E, vote3_L]; rfl] at *
  have HO1 := Lib.hid ho1.row
  have k1 := conv_row (P := Try.prog) w1 22 9 5 Try.underlying22 Try.underlying5 Try.underlying9 v1 _ ho1.row
  have HB1 := Lib.hid hb1
  obtain ⟨p1, c1, rfl⟩ := ho1.form
  clear ho1 hb1
  go_wp2_with fail
  refine (mread_any _ _ w1 HO1.out (by rw [← vote3_L]; exact msgL_oct _) (by decide)).mono ?_
  rintro y w2 ⟨vl, vn, rfl, ol2, on2, hb2⟩
  have hr := rE_w vote3_E vote3_F
  rw [vote3_L] at hr
  rw [hr.2] at ol2 on2
  rw [hr.1, hr.2]
  obtain ⟨pl, cl, rfl⟩ := ol2.form
  obtain ⟨pn, cn, rfl⟩ := on2.form
  have k2 := conv_row (P := Try.prog) (w2.alloc (.cells #[.int .i64 13, .int .i64 0, .int .i64 0, .int .i64 0, .int .i64 0, .int .i64 0, .int .i64 3, .int .i64 0, .bool true, .slice pl 0 cl, .slice pn 0 cn] 28)) 22 9 5 Try.underlying22 Try.underlying5 Try.underlying9 (.slice p1 11 c1) _ ((HO1.out.kept hb2).kept (oneB _ _))
  rw [show strOfNums [26, 0, 0, 0, 0, 0, 6, 0, 1, 0, 0] = ⟨#[26, 0, 0, 0, 0, 0, 6, 0, 1, 0, 0]⟩ from rfl] at k2
  have HB2 := Lib.hid (HB1.out.trans (hb2.mono HB1.out.size))
  clear ol2 on2 hb2 hr k1
  unfold Msg.v vote3
  go_wp2_with fail
  go_ret
  exact ⟨rfl, HB2.out.alloc HB2.out.size _⟩
end Go.Proofs.Ytengkgpobckhjaa
