/- MsgKinds: the walk. -/
import Derived.Test.YtengkgpobckhjaaMsgSays
namespace Go.Proofs.Ytengkgpobckhjaa
open Go.RowKit
set_option linter.unusedSimpArgs false
def kM (k y : Int) : Msg := ⟨k, 0, 0, 0, 0, 0, y, 0, false, [], []⟩
theorem kM_E (k y : Int) : msgE (kM k y) = if okK k = false then 110 else if okN y = false then 1 else 0 := by
  unfold msgE kM Msg.numsOk
  simp [show okN 0 = true from rfl]
theorem kM_F {k y : Int} (hk : -9223372036854775808 ≤ k ∧ k ≤ 9223372036854775807) (hy : -9223372036854775808 ≤ y ∧ y ≤ 9223372036854775807) : (kM k y).Fit := by
  refine ⟨?_, (fun _ h => by cases h), (fun _ h => by cases h)⟩
  unfold kM I64
  dsimp only
  omega
set_option maxHeartbeats 4000000 in
set_option maxRecDepth 100000 in
theorem mkinds_walk (k y : Int) (W : World) (bk : -9223372036854775808 ≤ k ∧ k ≤ 9223372036854775807) (by_ : -9223372036854775808 ≤ y ∧ y ≤ 9223372036854775807) :
    Calls Try.prog 9 #[.int .i64 k, .int .i64 y] W fun e w' => e = .returned (.bool true) ∧ Below W.heap.size W w' := by
  have HF := Lib.hid (kM_F bk by_)
  have HE := Lib.hid (kM_E k y)
  have hdec : k < 1 ∨ 16 < k ∨ (1 ≤ k ∧ k ≤ 16 ∧ (y < 0 ∨ 1073741824 < y ∨ (0 ≤ y ∧ y ≤ 1073741824))) := by omega
  clear bk by_
  rcases hdec with h1 | h1 | ⟨h1, h2, hy⟩
  · have HEV : Hid (msgE (kM k y) = 110) := by
      show _ = _
      rw [HE.out]
      rw [if_pos (by simp [okK]; omega)]
    clear HE
    go_enter Try.func9, Try.ntmps9
    go_wp2_with fail
    refine (says_any W).mono ?_
    rintro z w1 ⟨rfl, hb1⟩
    have B1 := Lib.hid hb1
    clear hb1
    go_wp2_with fail
    refine (write_any _ [] (kM k y) _ _ w1 (Row.nil_ _ _ 0) (TRow.nil_ _ _) (Row.nil_ _ _ 0) HF.out (by simp) (by simp [kM]) (by simp [kM])).mono ?_
    rintro z w2 ⟨v2, rfl, ho2, hb2⟩
    rw [HEV.out]
    rw [show wrL [] (kM k y) = [] by unfold wrL; rw [if_neg (by rw [HEV.out]; decide)]] at ho2
    obtain ⟨p2, c2, rfl⟩ := ho2.form
    have B2 := Lib.hid (B1.out.trans (hb2.mono B1.out.size))
    clear ho2 hb2
    go_wp2_with fail
    go_ret
    exact ⟨rfl, B2.out⟩
  · have h0 : ¬ k < 1 := by omega
    have HEV : Hid (msgE (kM k y) = 110) := by
      show _ = _
      rw [HE.out]
      have h1' : ¬ k < 1 := by omega
      rw [if_pos (by simp [okK]; omega)]
    clear HE
    go_enter Try.func9, Try.ntmps9
    go_wp2_with fail
    refine (says_any W).mono ?_
    rintro z w1 ⟨rfl, hb1⟩
    have B1 := Lib.hid hb1
    clear hb1
    go_wp2_with fail
    refine (write_any _ [] (kM k y) _ _ w1 (Row.nil_ _ _ 0) (TRow.nil_ _ _) (Row.nil_ _ _ 0) HF.out (by simp) (by simp [kM]) (by simp [kM])).mono ?_
    rintro z w2 ⟨v2, rfl, ho2, hb2⟩
    rw [HEV.out]
    rw [show wrL [] (kM k y) = [] by unfold wrL; rw [if_neg (by rw [HEV.out]; decide)]] at ho2
    obtain ⟨p2, c2, rfl⟩ := ho2.form
    have B2 := Lib.hid (B1.out.trans (hb2.mono B1.out.size))
    clear ho2 hb2
    go_wp2_with fail
    go_ret
    exact ⟨rfl, B2.out⟩
  · have h0 : ¬ k < 1 := by omega
    have h0' : ¬ 16 < k := by omega
    have hk : okK k = true := okK_iff.2 ⟨h1, h2⟩
    have HK := Lib.hid hk
    clear h1 h2 hk
    rcases hy with h1 | h1 | ⟨h1, h2⟩
    · have HEV : Hid (msgE (kM k y) = 1) := by
        show _ = _
        rw [HE.out]
        rw [HK.out]
        rw [if_neg (by decide), if_pos (by simp [okN]; omega)]
      clear HE
      go_enter Try.func9, Try.ntmps9
      go_wp2_with fail
      refine (says_any W).mono ?_
      rintro z w1 ⟨rfl, hb1⟩
      have B1 := Lib.hid hb1
      clear hb1
      go_wp2_with fail
      refine (write_any _ [] (kM k y) _ _ w1 (Row.nil_ _ _ 0) (TRow.nil_ _ _) (Row.nil_ _ _ 0) HF.out (by simp) (by simp [kM]) (by simp [kM])).mono ?_
      rintro z w2 ⟨v2, rfl, ho2, hb2⟩
      rw [HEV.out]
      rw [show wrL [] (kM k y) = [] by unfold wrL; rw [if_neg (by rw [HEV.out]; decide)]] at ho2
      obtain ⟨p2, c2, rfl⟩ := ho2.form
      have B2 := Lib.hid (B1.out.trans (hb2.mono B1.out.size))
      clear ho2 hb2
      go_wp2_with fail
      go_ret
      exact ⟨rfl, B2.out⟩
    · have h3 : ¬ y < 0 := by omega
      have HEV : Hid (msgE (kM k y) = 1) := by
        show _ = _
        rw [HE.out]
        rw [HK.out]
        rw [if_neg (by decide), if_pos (by simp [okN]; omega)]
      clear HE
      go_enter Try.func9, Try.ntmps9
      go_wp2_with fail
      refine (says_any W).mono ?_
      rintro z w1 ⟨rfl, hb1⟩
      have B1 := Lib.hid hb1
      clear hb1
      go_wp2_with fail
      refine (write_any _ [] (kM k y) _ _ w1 (Row.nil_ _ _ 0) (TRow.nil_ _ _) (Row.nil_ _ _ 0) HF.out (by simp) (by simp [kM]) (by simp [kM])).mono ?_
      rintro z w2 ⟨v2, rfl, ho2, hb2⟩
      rw [HEV.out]
      rw [show wrL [] (kM k y) = [] by unfold wrL; rw [if_neg (by rw [HEV.out]; decide)]] at ho2
      obtain ⟨p2, c2, rfl⟩ := ho2.form
      have B2 := Lib.hid (B1.out.trans (hb2.mono B1.out.size))
      clear ho2 hb2
      go_wp2_with fail
      go_ret
      exact ⟨rfl, B2.out⟩
    · have h3 : ¬ y < 0 := by omega
      have h4 : ¬ 1073741824 < y := by omega
      have HEV : Hid (msgE (kM k y) = 0) := by
        show _ = _
        rw [HE.out]
        rw [HK.out, if_neg (by decide), if_neg (by rw [okN_iff.2 ⟨h1, h2⟩]; decide)]
      clear HE
      go_enter Try.func9, Try.ntmps9
      go_wp2_with fail
      refine (says_any W).mono ?_
      rintro z w1 ⟨rfl, hb1⟩
      have B1 := Lib.hid hb1
      clear hb1
      go_wp2_with fail
      refine (write_any _ [] (kM k y) _ _ w1 (Row.nil_ _ _ 0) (TRow.nil_ _ _) (Row.nil_ _ _ 0) HF.out (by simp) (by simp [kM]) (by simp [kM])).mono ?_
      rintro z w2 ⟨v2, rfl, ho2, hb2⟩
      rw [HEV.out]
      rw [show wrL [] (kM k y) = msgL (kM k y) by unfold wrL; rw [if_pos HEV.out]; rfl] at ho2
      have HO2 := Lib.hid ho2.row
      obtain ⟨p2, c2, rfl⟩ := ho2.form
      have HL := Lib.hid (msgL_len HF.out (by simp [kM]) (by simp [kM]))
      have HRW := Lib.hid (rE_w HEV.out HF.out)
      generalize hn : (msgL (kM k y)).length = n at HL ⊢
      rw [hn] at HO2
      have B2 := Lib.hid (B1.out.trans (hb2.mono B1.out.size))
      clear ho2 hb2
      go_wp2_with fail
      refine (mread_any _ _ w2 HO2.out (msgL_oct _) (by have := HL.out; rw [hn]; omega)).mono ?_
      rintro z w3 ⟨vl, vn, rfl, ol3, on3, hb3⟩
      rw [HRW.out.2] at ol3 on3
      rw [HRW.out.1, HRW.out.2]
      obtain ⟨pl, cl, rfl⟩ := ol3.form
      obtain ⟨pn, cn, rfl⟩ := on3.form
      have B3 := Lib.hid (B2.out.trans (hb3.mono B2.out.size))
      clear ol3 on3 hb3
      unfold Msg.v kM
      go_wp2_with fail
      go_ret
      exact ⟨rfl, B3.out.alloc B3.out.size _⟩
end Go.Proofs.Ytengkgpobckhjaa
