/- WholeAmounts: the walk. -/
import Derived.Test.YtgdahhbigpcldaaDoorOneP
import Derived.Test.YtgdahhbigpcldaaDoorTextFwd
import Derived.Test.YtgdahhbigpcldaaDoorNeg
namespace Go.Proofs.YtgdahhbigpcldaaDoor
open Go.RowKit
theorem text3 : textL 3 = [48, 46, 48, 51] := by
  rw [textL, if_neg (by decide), tailL, show (3 : Int).natAbs / 100 = 0 by decide, show (3 : Int).natAbs = 3 by decide]
  decide +kernel
/-- What the loop keeps: the vector in its block, what it has. -/
def WholeRel (W : World) (e c s : Int) (wr : World) : Prop :=
  ∃ p n c', Blk wr W.heap.size #[.slice p n c'] 25 ∧ PRow wr (.slice p n c') (oneL e c s) ∧ Below W.heap.size W wr ∧ Fits s
theorem row_at {w : World} {p : Option Addr} {n c : Nat} {zs : List Int} (h : Row .i64 w (.slice p n c) zs) (i : Nat) (hi : i < zs.length) : ∃ b o, p = some ⟨b, o, none⟩ ∧ b < w.heap.size ∧ w.cell? ⟨b, o + i, none⟩ = some (.int .i64 (zs.getD i 0)) := by
  obtain ⟨p', c', e, _, h⟩ := h
  cases e
  rcases h with h | ⟨b, o, hp, h⟩
  · subst h; simp at hi
  · exact ⟨b, o, hp, World.block_lt_of_cell? w _ (h i hi), h i hi⟩
set_option maxHeartbeats 8000000 in
set_option maxRecDepth 100000 in
theorem whole_walk (v : Value) (zs : List Int) (e c : Int) (W : World) (h64 : All64 zs) (hrow : Row .i64 W v zs) (_ : Fits e) (_ : Fits c) (htab : Pow W) :
    Calls Tryd.prog 3 #[v, .int .i64 e, .int .i64 c] W fun x W' => x = .returned (.bool true) ∧ Below W.heap.size W W' := by
  obtain ⟨p, cp, rfl⟩ := hrow.shape
  have HROW := Lib.hid hrow
  have H64 := Lib.hid h64
  have HT := Lib.hid htab
  have T3 : Hid ((ByteArray.mk (textL 3).toArray) = ⟨#[48, 46, 48, 51]⟩) := by show _ = _; rw [text3]
  have hs3 : sumE (0 + 3) = 0 := sumE_yes (by unfold Fits; decide)
  have hf3 : (if Fits ((0 : Int) + 3) then (0 : Int) + 3 else 0) = 3 := by rw [if_pos (by unfold Fits; decide)]; rfl
  have HA1 := Lib.hid (one_add (W.alloc (.cells #[.slice none 0 0] 25)) (.slice none 0 0) 1 1 0 3 (PRow.nil_ _) (by unfold Fits; decide) (by unfold Fits; decide) (by decide) (by decide))
  unfold vecV at HA1
  rw [hs3, hf3] at HA1
  clear hs3 hf3
  generalize hzl : zs.length = n at *
  have HZL := Lib.hid hzl
  clear hzl hrow h64 htab
  by_cases g1 : (n : Int) ≤ 30
  · by_cases g2 : 0 ≤ e
    · by_cases g3 : e ≤ 7
      · by_cases g4 : 0 ≤ c
        · by_cases g5 : c ≤ 7
          · have HEC : Hid ((0 ≤ e ∧ e < 8) ∧ 0 ≤ c ∧ c < 8) := ⟨⟨g2, by omega⟩, g4, by omega⟩
            go_enter Tryd.func3, Tryd.ntmps3
            go_wp2_with fail
            refine HA1.out.mono ?_
            rintro y w1 ⟨v1, rfl, ho1, hb1⟩
            have r1 := ho1.row
            obtain ⟨p1, c1, hv1⟩ := ho1.form
            generalize (oneL 1 1 3).length = n1 at hv1
            subst hv1
            have hb1' := (oneB W (.cells #[.slice none 0 0] 25)).trans (hb1.mono (by simp))
            have HO := Lib.hid (one_of (w1.alloc (.cells #[.slice p1 n1 c1] 25)) (.slice p1 n1 c1) 1 1 3 (r1.kept (oneB w1 _)))
            have HB1 := Lib.hid (hb1'.alloc hb1'.size (.cells #[.slice p1 n1 c1] 25))
            have HV1 := Lib.hid (((Blk.new W #[.slice none 0 0] 25).below hb1 (by simp)).alloc (.cells #[.slice p1 n1 c1] 25))
            clear ho1 hb1 r1 hb1'
            unfold vecV at HO
            go_wp2_with fail
            refine HO.out.mono ?_
            rintro y w2 ⟨rfl, hb2⟩
            have HB2 := Lib.hid (HB1.out.trans (hb2.mono HB1.out.size))
            have HV2 := Lib.hid (HV1.out.below hb2 HV1.out.lt)
            clear hb2
            go_wp2_with fail
            refine (text_any 3 (by unfold Fits; decide) w2 (powBelow HT.out HB2.out)).mono ?_
            rintro y w3 ⟨rfl, hb3⟩
            rw [T3.out]
            have HB3 := Lib.hid (HB2.out.trans (hb3.mono HB2.out.size))
            have HV3 := Lib.hid (HV2.out.below hb3 HV2.out.lt)
            clear hb3
            go_wp2_with fail
            have HR0 : Hid (WholeRel W e c 0 w3) := ⟨none, 0, 0, HV3.out, PRow.nil_ _, HB3.out, by unfold Fits; decide⟩
            clear HV3 HV2 HV1 HO HA1
            go_loopw [10, 11, 60] (fun s f i wr => ∃ k : Nat, k ≤ n ∧ s = .int .i64 (zs.take k).sum ∧ f = .bool true ∧ i = .int .i64 k ∧ Hid (WholeRel W e c (zs.take k).sum wr)) (fun _ _ i _ => n - (intOf i).toNat)
            case atStart => exact ⟨0, by omega, rfl, rfl, rfl, HR0⟩
            case round =>
              obtain ⟨k, hk, rfl, rfl, rfl, HK⟩ := hrel
              obtain ⟨pv, nv, cv, hbv, hrv, hbw, hfs⟩ := HK.out
              have HBV := Lib.hid hbv
              have HRV := Lib.hid hrv
              have HBW := Lib.hid hbw
              have HFS := Lib.hid hfs
              clear HK
              by_cases hlt : k < n
              · obtain ⟨b, o, rfl, hbl, hc0⟩ := row_at HROW.out k (by rw [HZL.out]; exact hlt)
                have c0 := (HBW.out.cell (p := ⟨b, o + k, none⟩) hbl).trans hc0
                have HAK : Hid (Fits (zs.getD k 0)) := H64.out.getD k
                have HTK := Lib.hid (take_succ_sum zs k (by rw [HZL.out]; exact hlt))
                generalize zs.getD k 0 = a at *
                have HP := Lib.hid (fun W' => parse_any ⟨(textL a).toArray⟩ W' (by have := text_len HAK.out; show (textL a).length ≤ _; omega))
                rw [show (ByteArray.mk (textL a).toArray).data.toList = textL a from rfl, runV_text a HAK.out] at HP
                have HTX := Lib.hid (text_any a HAK.out wr (powBelow HT.out HBW.out))
                generalize hS : (zs.take k).sum = S at *
                generalize (ByteArray.mk (textL a).toArray) = str at *
                clear hbl hc0 hbv hrv hbw hfs
                go_wp2_with fail
                refine HTX.out.mono ?_
                rintro y wa ⟨rfl, hba⟩
                have hva := HBV.out.below hba HBV.out.lt
                have hra := HRV.out.kept hba
                have HBA := Lib.hid (HBW.out.trans (hba.mono HBW.out.size))
                clear hba
                go_wp2_with fail
                refine (HP.out wa).mono ?_
                rintro y wb ⟨rfl, hbb⟩
                have hvb := hva.below hbb hva.lt
                have hrb := hra.kept hbb
                have v0 : wb.cell? ⟨W.heap.size, 0, none⟩ = some (.slice pv nv cv) := hvb.cell 0
                have HBB := Lib.hid (HBA.out.trans (hbb.mono HBA.out.size))
                have HADD := Lib.hid (one_add wb (.slice pv nv cv) e c S a hrb HFS.out HAK.out HEC.out.1 HEC.out.2)
                have HVB := Lib.hid hvb
                have HRB := Lib.hid hrb
                unfold vecV at HADD
                clear hbb hva hra hvb hrb
                by_cases hfit : Fits (S + a)
                · rw [sumE_yes hfit, if_pos hfit] at HADD
                  have HFN := Lib.hid hfit
                  have HMA := Lib.hid (fun W' => add_any S a W' HFS.out HAK.out)
                  rw [sumN_yes hfit, sumE_yes hfit] at HMA
                  clear hfit
                  go_wp2_with fail
                  refine HADD.out.mono ?_
                  rintro y wc ⟨v2, rfl, ho2, hb2⟩
                  obtain ⟨p2, c2, hv2⟩ := ho2.form
                  generalize (oneL e c (S + a)).length = n2 at hv2
                  subst hv2
                  have hvc := (HVB.out.below hb2 HVB.out.lt).alloc (.cells #[.slice p2 n2 c2] 25)
                  have HO2 := Lib.hid (ho2.later (oneB wc (.cells #[.slice p2 n2 c2] 25)))
                  have HB2' := Lib.hid ((HBB.out.trans (hb2.mono HBB.out.size)).alloc (HBB.out.trans (hb2.mono HBB.out.size)).size (.cells #[.slice p2 n2 c2] 25))
                  have HVC := Lib.hid hvc
                  have HN2 := Lib.hid (Blk.new wc #[.slice p2 n2 c2] 25)
                  clear ho2 hb2 hvc
                  go_wp2_with fail
                  refine (HMA.out _).mono ?_
                  rintro y wd ⟨rfl, hbd⟩
                  have hvd := HVC.out.below hbd HVC.out.lt
                  have hnd := HN2.out.below hbd HN2.out.lt
                  have d0 : wd.cell? ⟨W.heap.size, 0, none⟩ = some (.slice pv nv cv) := hvd.cell 0
                  have fd0 := hvd.free 0
                  have ld := hvd.lt
                  have n0 : wd.cell? ⟨wc.heap.size, 0, none⟩ = some (.slice p2 n2 c2) := hnd.cell 0
                  have HOD := Lib.hid (HO2.out.later hbd)
                  have HBD := Lib.hid (HB2'.out.trans (hbd.mono HB2'.out.size))
                  have HVD := Lib.hid hvd
                  have HLB : Hid (W.heap.size < wb.heap.size) := HVB.out.lt
                  clear hbd hvd hnd
                  have HN : Hid (WholeRel W e c (zs.take (k + 1)).sum (wd.setCell ⟨W.heap.size, 0, none⟩ (.slice p2 n2 c2))) := by
                    refine ⟨p2, n2, c2, HVD.out.set 0 _, ?_, HBD.out.setCell (p := ⟨W.heap.size, 0, none⟩) (Nat.le_refl _) _, ?_⟩
                    · rw [HTK.out]; exact (HOD.out.setLow HLB.out _).row
                    · rw [HTK.out]; exact HFN.out
                  go_wp2_with fail
                  go_roundw
                  case rel => exact ⟨k + 1, by omega, by rw [HTK.out], rfl, by go_num, HN⟩
                  case measure => simp [intOf]; omega
                · rw [sumE_no hfit, if_neg hfit] at HADD
                  have HMA := Lib.hid (fun W' => add_any S a W' HFS.out HAK.out)
                  rw [sumN_no hfit, sumE_no hfit] at HMA
                  clear hfit
                  go_wp2_with fail
                  refine HADD.out.mono ?_
                  rintro y wc ⟨v2, rfl, ho2, hb2⟩
                  obtain ⟨p2, c2, hv2⟩ := ho2.form
                  generalize (oneL e c S).length = n2 at hv2
                  subst hv2
                  have hvc := (HVB.out.below hb2 HVB.out.lt).alloc (.cells #[.slice p2 n2 c2] 25)
                  have hrc := (HRB.out.kept hb2).kept (oneB wc (.cells #[.slice p2 n2 c2] 25))
                  have HB2' := Lib.hid ((HBB.out.trans (hb2.mono HBB.out.size)).alloc (HBB.out.trans (hb2.mono HBB.out.size)).size (.cells #[.slice p2 n2 c2] 25))
                  have HVC := Lib.hid hvc
                  have HRC := Lib.hid hrc
                  clear ho2 hb2 hvc hrc
                  go_wp2_with fail
                  refine (HMA.out _).mono ?_
                  rintro y wd ⟨rfl, hbd⟩
                  have hvd := HVC.out.below hbd HVC.out.lt
                  have d0 : wd.cell? ⟨W.heap.size, 0, none⟩ = some (.slice pv nv cv) := hvd.cell 0
                  have HOF := Lib.hid (one_of wd (.slice pv nv cv) e c S (HRC.out.kept hbd))
                  have HBD := Lib.hid (HB2'.out.trans (hbd.mono HB2'.out.size))
                  unfold vecV at HOF
                  clear hbd hvd
                  go_wp2_with fail
                  refine HOF.out.mono ?_
                  rintro y we ⟨rfl, hbe⟩
                  have HBE := Lib.hid (HBD.out.trans (hbe.mono HBD.out.size))
                  clear hbe
                  go_wp2_with fail
                  go_ret
                  exact ⟨rfl, HBE.out⟩
              · have hkn : (n : Int) ≤ (k : Int) := by omega
                have hks : (zs.take k).sum = zs.sum := by rw [List.take_of_length_le (by rw [HZL.out]; omega)]
                rw [hks] at HRV HFS ⊢
                clear hks
                have HSM := Lib.hid (sum_any (.slice p n cp) zs wr (by rw [HZL.out]; omega) H64.out (HROW.out.kept HBW.out))
                unfold SumTo at HSM
                rw [sumN_yes HFS.out, sumE_yes HFS.out] at HSM
                generalize zs.sum = S at *
                have v0 : wr.cell? ⟨W.heap.size, 0, none⟩ = some (.slice pv nv cv) := hbv.cell 0
                have HOF := Lib.hid (one_of wr (.slice pv nv cv) e c S HRV.out)
                unfold vecV at HOF
                clear hbv hrv hbw hfs
                go_wp2_with fail
                refine HSM.out.mono ?_
                rintro y w5 ⟨rfl, rfl⟩
                go_wp2_with fail
                refine HOF.out.mono ?_
                rintro y w6 ⟨rfl, hb6⟩
                have hv6 := HBV.out.below hb6 HBV.out.lt
                have v06 : w6.cell? ⟨W.heap.size, 0, none⟩ = some (.slice pv nv cv) := hv6.cell 0
                have hr6 := HRV.out.kept hb6
                have HB6 := Lib.hid (HBW.out.trans (hb6.mono HBW.out.size))
                clear hb6 hv6 v0
                by_cases hneg : Fits (-S)
                · have HNG := Lib.hid (neg_any S w6 HFS.out)
                  rw [sumN_yes hneg, sumE_yes hneg] at HNG
                  have hz : S + -S = 0 := by omega
                  have HAD := Lib.hid (one_add w6 (.slice pv nv cv) e c S (-S) hr6 HFS.out hneg HEC.out.1 HEC.out.2)
                  rw [hz, sumE_yes (by unfold Fits; decide), if_pos (by unfold Fits; decide)] at HAD
                  rw [show oneL e c 0 = [] from if_pos rfl] at HAD
                  unfold vecV at HAD
                  clear hneg hz hr6
                  go_wp2_with fail
                  refine HNG.out.mono ?_
                  rintro y w7 ⟨rfl, rfl⟩
                  go_wp2_with fail
                  refine HAD.out.mono ?_
                  rintro y w8 ⟨v8, rfl, ho8, hb8⟩
                  have r8 := ho8.row
                  obtain ⟨p8, c8, hv8⟩ := ho8.form
                  rw [show ([] : List Pos).length = 0 from rfl] at hv8
                  subst hv8
                  have HLS := Lib.hid (list_any (w8.alloc (.cells #[.slice p8 0 c8] 25)) (.slice p8 0 c8) [] (r8.kept (oneB w8 _)) (by simp))
                  have HB8 := Lib.hid ((HB6.out.trans (hb8.mono HB6.out.size)).alloc (HB6.out.trans (hb8.mono HB6.out.size)).size (.cells #[.slice p8 0 c8] 25))
                  unfold vecV at HLS
                  clear ho8 hb8 r8
                  go_wp2_with fail
                  refine HLS.out.mono ?_
                  rintro y w9 ⟨v9, rfl, ho9, hb9⟩
                  obtain ⟨p9, c9, hv9⟩ := ho9.form
                  rw [show ([] : List Pos).length = 0 from rfl] at hv9
                  subst hv9
                  have HB9 := Lib.hid (HB8.out.trans (hb9.mono HB8.out.size))
                  clear ho9 hb9
                  go_wp2_with fail
                  go_ret
                  exact ⟨rfl, HB9.out⟩
                · have HNG := Lib.hid (neg_any S w6 HFS.out)
                  rw [sumN_no hneg, sumE_no hneg] at HNG
                  clear hneg hr6
                  go_wp2_with fail
                  refine HNG.out.mono ?_
                  rintro y w7 ⟨rfl, rfl⟩
                  go_wp2_with fail
                  go_ret
                  exact ⟨rfl, HB6.out⟩
          · have h : 7 < c := by omega
            go_enter Tryd.func3, Tryd.ntmps3
            go_wp2_with fail
            refine HA1.out.mono ?_
            rintro y w1 ⟨v1, rfl, ho1, hb1⟩
            have r1 := ho1.row
            obtain ⟨p1, c1, hv1⟩ := ho1.form
            generalize (oneL 1 1 3).length = n1 at hv1
            subst hv1
            have hb1' := (oneB W (.cells #[.slice none 0 0] 25)).trans (hb1.mono (by simp))
            have HO := Lib.hid (one_of (w1.alloc (.cells #[.slice p1 n1 c1] 25)) (.slice p1 n1 c1) 1 1 3 (r1.kept (oneB w1 _)))
            have HB1 := Lib.hid (hb1'.alloc hb1'.size (.cells #[.slice p1 n1 c1] 25))
            have HV1 := Lib.hid (((Blk.new W #[.slice none 0 0] 25).below hb1 (by simp)).alloc (.cells #[.slice p1 n1 c1] 25))
            clear ho1 hb1 r1 hb1'
            unfold vecV at HO
            go_wp2_with fail
            refine HO.out.mono ?_
            rintro y w2 ⟨rfl, hb2⟩
            have HB2 := Lib.hid (HB1.out.trans (hb2.mono HB1.out.size))
            have HV2 := Lib.hid (HV1.out.below hb2 HV1.out.lt)
            clear hb2
            go_wp2_with fail
            refine (text_any 3 (by unfold Fits; decide) w2 (powBelow HT.out HB2.out)).mono ?_
            rintro y w3 ⟨rfl, hb3⟩
            rw [T3.out]
            have HB3 := Lib.hid (HB2.out.trans (hb3.mono HB2.out.size))
            have HV3 := Lib.hid (HV2.out.below hb3 HV2.out.lt)
            clear hb3
            go_wp2_with fail
            go_ret
            exact ⟨rfl, HB3.out⟩
        · have h : c < 0 := by omega
          go_enter Tryd.func3, Tryd.ntmps3
          go_wp2_with fail
          refine HA1.out.mono ?_
          rintro y w1 ⟨v1, rfl, ho1, hb1⟩
          have r1 := ho1.row
          obtain ⟨p1, c1, hv1⟩ := ho1.form
          generalize (oneL 1 1 3).length = n1 at hv1
          subst hv1
          have hb1' := (oneB W (.cells #[.slice none 0 0] 25)).trans (hb1.mono (by simp))
          have HO := Lib.hid (one_of (w1.alloc (.cells #[.slice p1 n1 c1] 25)) (.slice p1 n1 c1) 1 1 3 (r1.kept (oneB w1 _)))
          have HB1 := Lib.hid (hb1'.alloc hb1'.size (.cells #[.slice p1 n1 c1] 25))
          have HV1 := Lib.hid (((Blk.new W #[.slice none 0 0] 25).below hb1 (by simp)).alloc (.cells #[.slice p1 n1 c1] 25))
          clear ho1 hb1 r1 hb1'
          unfold vecV at HO
          go_wp2_with fail
          refine HO.out.mono ?_
          rintro y w2 ⟨rfl, hb2⟩
          have HB2 := Lib.hid (HB1.out.trans (hb2.mono HB1.out.size))
          have HV2 := Lib.hid (HV1.out.below hb2 HV1.out.lt)
          clear hb2
          go_wp2_with fail
          refine (text_any 3 (by unfold Fits; decide) w2 (powBelow HT.out HB2.out)).mono ?_
          rintro y w3 ⟨rfl, hb3⟩
          rw [T3.out]
          have HB3 := Lib.hid (HB2.out.trans (hb3.mono HB2.out.size))
          have HV3 := Lib.hid (HV2.out.below hb3 HV2.out.lt)
          clear hb3
          go_wp2_with fail
          go_ret
          exact ⟨rfl, HB3.out⟩
      · have h : 7 < e := by omega
        go_enter Tryd.func3, Tryd.ntmps3
        go_wp2_with fail
        refine HA1.out.mono ?_
        rintro y w1 ⟨v1, rfl, ho1, hb1⟩
        have r1 := ho1.row
        obtain ⟨p1, c1, hv1⟩ := ho1.form
        generalize (oneL 1 1 3).length = n1 at hv1
        subst hv1
        have hb1' := (oneB W (.cells #[.slice none 0 0] 25)).trans (hb1.mono (by simp))
        have HO := Lib.hid (one_of (w1.alloc (.cells #[.slice p1 n1 c1] 25)) (.slice p1 n1 c1) 1 1 3 (r1.kept (oneB w1 _)))
        have HB1 := Lib.hid (hb1'.alloc hb1'.size (.cells #[.slice p1 n1 c1] 25))
        have HV1 := Lib.hid (((Blk.new W #[.slice none 0 0] 25).below hb1 (by simp)).alloc (.cells #[.slice p1 n1 c1] 25))
        clear ho1 hb1 r1 hb1'
        unfold vecV at HO
        go_wp2_with fail
        refine HO.out.mono ?_
        rintro y w2 ⟨rfl, hb2⟩
        have HB2 := Lib.hid (HB1.out.trans (hb2.mono HB1.out.size))
        have HV2 := Lib.hid (HV1.out.below hb2 HV1.out.lt)
        clear hb2
        go_wp2_with fail
        refine (text_any 3 (by unfold Fits; decide) w2 (powBelow HT.out HB2.out)).mono ?_
        rintro y w3 ⟨rfl, hb3⟩
        rw [T3.out]
        have HB3 := Lib.hid (HB2.out.trans (hb3.mono HB2.out.size))
        have HV3 := Lib.hid (HV2.out.below hb3 HV2.out.lt)
        clear hb3
        go_wp2_with fail
        go_ret
        exact ⟨rfl, HB3.out⟩
    · have h : e < 0 := by omega
      go_enter Tryd.func3, Tryd.ntmps3
      go_wp2_with fail
      refine HA1.out.mono ?_
      rintro y w1 ⟨v1, rfl, ho1, hb1⟩
      have r1 := ho1.row
      obtain ⟨p1, c1, hv1⟩ := ho1.form
      generalize (oneL 1 1 3).length = n1 at hv1
      subst hv1
      have hb1' := (oneB W (.cells #[.slice none 0 0] 25)).trans (hb1.mono (by simp))
      have HO := Lib.hid (one_of (w1.alloc (.cells #[.slice p1 n1 c1] 25)) (.slice p1 n1 c1) 1 1 3 (r1.kept (oneB w1 _)))
      have HB1 := Lib.hid (hb1'.alloc hb1'.size (.cells #[.slice p1 n1 c1] 25))
      have HV1 := Lib.hid (((Blk.new W #[.slice none 0 0] 25).below hb1 (by simp)).alloc (.cells #[.slice p1 n1 c1] 25))
      clear ho1 hb1 r1 hb1'
      unfold vecV at HO
      go_wp2_with fail
      refine HO.out.mono ?_
      rintro y w2 ⟨rfl, hb2⟩
      have HB2 := Lib.hid (HB1.out.trans (hb2.mono HB1.out.size))
      have HV2 := Lib.hid (HV1.out.below hb2 HV1.out.lt)
      clear hb2
      go_wp2_with fail
      refine (text_any 3 (by unfold Fits; decide) w2 (powBelow HT.out HB2.out)).mono ?_
      rintro y w3 ⟨rfl, hb3⟩
      rw [T3.out]
      have HB3 := Lib.hid (HB2.out.trans (hb3.mono HB2.out.size))
      have HV3 := Lib.hid (HV2.out.below hb3 HV2.out.lt)
      clear hb3
      go_wp2_with fail
      go_ret
      exact ⟨rfl, HB3.out⟩
  · have h : (30 : Int) < n := by omega
    go_enter Tryd.func3, Tryd.ntmps3
    go_wp2_with fail
    refine HA1.out.mono ?_
    rintro y w1 ⟨v1, rfl, ho1, hb1⟩
    have r1 := ho1.row
    obtain ⟨p1, c1, hv1⟩ := ho1.form
    generalize (oneL 1 1 3).length = n1 at hv1
    subst hv1
    have hb1' := (oneB W (.cells #[.slice none 0 0] 25)).trans (hb1.mono (by simp))
    have HO := Lib.hid (one_of (w1.alloc (.cells #[.slice p1 n1 c1] 25)) (.slice p1 n1 c1) 1 1 3 (r1.kept (oneB w1 _)))
    have HB1 := Lib.hid (hb1'.alloc hb1'.size (.cells #[.slice p1 n1 c1] 25))
    have HV1 := Lib.hid (((Blk.new W #[.slice none 0 0] 25).below hb1 (by simp)).alloc (.cells #[.slice p1 n1 c1] 25))
    clear ho1 hb1 r1 hb1'
    unfold vecV at HO
    go_wp2_with fail
    refine HO.out.mono ?_
    rintro y w2 ⟨rfl, hb2⟩
    have HB2 := Lib.hid (HB1.out.trans (hb2.mono HB1.out.size))
    have HV2 := Lib.hid (HV1.out.below hb2 HV1.out.lt)
    clear hb2
    go_wp2_with fail
    refine (text_any 3 (by unfold Fits; decide) w2 (powBelow HT.out HB2.out)).mono ?_
    rintro y w3 ⟨rfl, hb3⟩
    rw [T3.out]
    have HB3 := Lib.hid (HB2.out.trans (hb3.mono HB2.out.size))
    have HV3 := Lib.hid (HV2.out.below hb3 HV2.out.lt)
    clear hb3
    go_wp2_with fail
    go_ret
    exact ⟨rfl, HB3.out⟩
end Go.Proofs.YtgdahhbigpcldaaDoor
