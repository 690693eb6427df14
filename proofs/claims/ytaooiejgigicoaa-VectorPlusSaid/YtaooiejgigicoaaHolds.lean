/- contralaw02.holds by contract. -/
import Derived.Test.YtaooiejgigicoaaOneP
namespace Go.Proofs.Ytaooiejgigicoaa
open Go.RowKit
set_option maxHeartbeats 4000000 in
set_option maxRecDepth 100000 in
theorem holds_any (W : World) : Calls Try.prog 8 #[] W fun x W' => x = .returned (.bool true) ∧ Below W.heap.size W W' := by
  have hs1 : sumE (0 + 5) = 0 := sumE_yes (by unfold Fits; decide)
  have hf1 : (if Fits ((0 : Int) + 5) then (0 : Int) + 5 else 0) = 5 := by rw [if_pos (by unfold Fits; decide)]; rfl
  have hs2 : sumE (5 + -5) = 0 := sumE_yes (by unfold Fits; decide)
  have hf2 : (if Fits ((5 : Int) + -5) then (5 : Int) + -5 else 5) = 0 := by rw [if_pos (by unfold Fits; decide)]; rfl
  have HA1 := Lib.hid (one_add (W.alloc (.cells #[.slice none 0 0] 27)) (.slice none 0 0) 3 2 0 5 (PRow.nil_ _) (by unfold Fits; decide) (by unfold Fits; decide) (by decide) (by decide))
  unfold vecV at HA1
  rw [hs1, hf1] at HA1
  have h51 : (oneL 3 2 5).length = 1 := rfl
  have h50 : (oneL 3 2 0).length = 0 := rfl
  clear hs1 hf1
  have S2 := Lib.hid hs2
  have F2 := Lib.hid hf2
  have L1 := Lib.hid h51
  have L0 := Lib.hid h50
  clear hs2 hf2 h51 h50
  go_enter Try.func8, Try.ntmps8
  go_wp2_with fail
  refine HA1.out.mono ?_
  rintro y w1 ⟨v1, rfl, ho1, hb1⟩
  have hv1 := (Blk.new W #[.slice none 0 0] 27).below hb1 (by simp)
  have hB1 : Below W.heap.size W w1 := (oneB W (.cells #[.slice none 0 0] 27)).trans (hb1.mono (by simp))
  obtain ⟨p1, c1, hw1⟩ := ho1.form
  rw [L1.out] at hw1
  subst hw1
  have q0 : w1.cell? ⟨W.heap.size, 0, none⟩ = some (.slice none 0 0) := hv1.cell 0
  have fq0 := hv1.free 0
  have lq := hv1.lt
  have HR1 := Lib.hid ((ho1.setLow (a := ⟨W.heap.size, 0, none⟩) (by simp) (.slice p1 1 c1)).row)
  have HV1 := Lib.hid (hv1.set 0 (.slice p1 1 c1))
  have HB1 := Lib.hid (hB1.setCell (p := ⟨W.heap.size, 0, none⟩) (Nat.le_refl _) (.slice p1 1 c1))
  have hA2 := one_add (w1.setCell ⟨W.heap.size, 0, none⟩ (.slice p1 1 c1)) (.slice p1 1 c1) 3 2 5 (-5) HR1.out (by unfold Fits; decide) (by unfold Fits; decide) (by decide) (by decide)
  rw [S2.out, F2.out] at hA2
  have HA2 := Lib.hid hA2
  unfold vecV at HA2
  clear ho1 hb1 hv1 hB1 hA2
  go_wp2_with fail
  refine HA2.out.mono ?_
  rintro y w2 ⟨v2, rfl, ho2, hb2⟩
  obtain ⟨p2, c2, hw2⟩ := ho2.form
  rw [L0.out] at hw2
  subst hw2
  have hv2 := (HV1.out.below hb2 HV1.out.lt).alloc (.cells #[.slice p2 0 c2] 27)
  have hB2 : Below W.heap.size W w2 := HB1.out.trans (hb2.mono HB1.out.size)
  have HR1b := Lib.hid ((HR1.out.kept hb2).kept (oneB w2 (.cells #[.slice p2 0 c2] 27)))
  have HR2 := Lib.hid (ho2.row.kept (oneB w2 (.cells #[.slice p2 0 c2] 27)))
  have HN2 := Lib.hid (Blk.new w2 #[.slice p2 0 c2] 27)
  have HB2 := Lib.hid (hB2.alloc hB2.size (.cells #[.slice p2 0 c2] 27))
  have HV2 := Lib.hid hv2
  have HLL := Lib.hid hv2.lt
  have lvw : W.heap.size < w2.heap.size := (HV1.out.below hb2 HV1.out.lt).lt
  have a0 : w2.cell? ⟨W.heap.size, 0, none⟩ = some (.slice p1 1 c1) := (HV1.out.below hb2 HV1.out.lt).cell 0
  have HOF := Lib.hid (one_of (w2.alloc (.cells #[.slice p2 0 c2] 27)) (.slice p1 1 c1) 3 2 5 HR1b.out)
  unfold vecV at HOF
  clear ho2 hb2 hv2 hB2 q0 fq0 lq
  go_wp2_with fail
  refine HOF.out.mono ?_
  rintro y w3 ⟨rfl, hb3⟩
  have hv3 := HV2.out.below hb3 HV2.out.lt
  have b0 : w3.cell? ⟨W.heap.size, 0, none⟩ = some (.slice p1 1 c1) := hv3.cell 0
  have HV3 := Lib.hid hv3
  have HN3 := Lib.hid (HN2.out.below hb3 HN2.out.lt)
  have hL1 := list_any w3 (.slice p1 1 c1) (oneL 3 2 5) (HR1b.out.kept hb3) (by rw [L1.out]; omega)
  have HR3 := Lib.hid (HR2.out.kept hb3)
  have HB3 := Lib.hid (HB2.out.trans (hb3.mono HB2.out.size))
  have HL1 := Lib.hid hL1
  unfold vecV at HL1
  clear hb3 hv3 hL1 a0
  go_wp2_with fail
  refine HL1.out.mono ?_
  rintro y w4 ⟨v4, rfl, ho4, hb4⟩
  obtain ⟨p4, c4, hw4⟩ := ho4.form
  rw [L1.out] at hw4
  subst hw4
  have hn4 := HN3.out.below hb4 HN3.out.lt
  have n0 : w4.cell? ⟨w2.heap.size, 0, none⟩ = some (.slice p2 0 c2) := hn4.cell 0
  have hL0 := list_any w4 (.slice p2 0 c2) (oneL 3 2 0) (HR3.out.kept hb4) (by rw [L0.out]; omega)
  have HB4 := Lib.hid (HB3.out.trans (hb4.mono HB3.out.size))
  have HL0 := Lib.hid hL0
  unfold vecV at HL0
  clear ho4 hb4 hn4 hL0 b0
  go_wp2_with fail
  refine HL0.out.mono ?_
  rintro y w5 ⟨v5, rfl, ho5, hb5⟩
  obtain ⟨p5, c5, hw5⟩ := ho5.form
  rw [L0.out] at hw5
  subst hw5
  have HB5 := Lib.hid (HB4.out.trans (hb5.mono HB4.out.size))
  clear ho5 hb5
  go_wp2_with fail
  go_ret
  exact ⟨rfl, HB5.out⟩
end Go.Proofs.Ytaooiejgigicoaa
