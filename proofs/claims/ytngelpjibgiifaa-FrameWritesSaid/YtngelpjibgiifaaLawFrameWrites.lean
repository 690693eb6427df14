/- FrameWrites: the walk. -/
import Derived.Test.YtngelpjibgiifaaFrameHead
import Derived.Test.YtngelpjibgiifaaRefFrame
namespace Go.Proofs.Ytngelpjibgiifaa
open Go.RowKit
set_option maxHeartbeats 8000000 in
set_option maxRecDepth 100000 in
theorem fwrites_walk (va : Value) (xs : List Int) (vd : Value) (ds : List Int) (vm : Value) (ms : List Int) (W : World) (oa : Oct xs) (ra : Row .u8 W va xs) (la : xs.length ≤ 140737488355328) (od : Oct ds) (rd : Row .u8 W vd ds) (ld : ds.length ≤ 140737488355328) (om : Oct ms) (rm : Row .u8 W vm ms) (lm : ms.length ≤ 140737488355328) :
    Calls Try.prog 5 #[va, vd, vm] W fun e W' => e = .returned (.bool true) ∧ Below W.heap.size W W' := by
  obtain ⟨pa, ca, rfl⟩ := ra.shape
  obtain ⟨pd, cd, rfl⟩ := rd.shape
  obtain ⟨pm, cm, rfl⟩ := rm.shape
  have RA := Lib.hid ra
  have RD := Lib.hid rd
  have RM := Lib.hid rm
  have OA := Lib.hid oa
  have OD := Lib.hid od
  have OM := Lib.hid om
  clear ra rd rm oa od om
  by_cases h1 : (xs.length : Int) ≤ 500 ∧ (ds.length : Int) ≤ 17000 ∧ (ms.length : Int) ≤ 500
  · obtain ⟨g1, g2, g3⟩ := h1
    have HAP := Lib.hid (fun w (h : Below W.heap.size W w) => fapp_any _ _ xs ds OD.out (by omega) w (RA.out.under h (Nat.le_refl _)) (RD.out.under h (Nat.le_refl _)))
    have HRW := Lib.hid (fun w => refwrite_any (strOfNums ds) (by rw [strOfNums_size]; omega) w)
    have HKD := Lib.hid (fun (w : World) (h : Below W.heap.size W w) => conv_row (P := Try.prog) w 22 9 5 Try.underlying22 Try.underlying5 Try.underlying9 _ _ (RD.out.under h (Nat.le_refl _)))
    have HKA := Lib.hid (fun (w : World) (h : Below W.heap.size W w) => conv_row (P := Try.prog) w 22 9 5 Try.underlying22 Try.underlying5 Try.underlying9 _ _ (RA.out.under h (Nat.le_refl _)))
    rw [strOfNums_size, intsOf_str OD.out] at HRW
    by_cases hbig : 16384 < ds.length
    · have HBIG := Lib.hid hbig
      clear hbig
      go_enter Try.func5, Try.ntmps5
      go_wp2_with fail
      refine (records_any W).mono ?_
      rintro y w0 ⟨rfl, hb0⟩
      have B0 := Lib.hid hb0
      clear hb0
      go_wp2_with fail
      refine (HAP.out w0 B0.out).mono ?_
      rintro y w1 ⟨hb1, hk1, _⟩
      obtain rfl := hk1 HBIG.out
      have B1 := Lib.hid (B0.out.trans (hb1.mono B0.out.size))
      have kd := HKD.out w1 B1.out
      clear hb1 hk1
      go_wp2_with fail
      refine (HRW.out w1).mono ?_
      rintro y w2 ⟨hb2, hk2, _⟩
      obtain rfl := hk2 HBIG.out
      have B2 := Lib.hid (B1.out.trans (hb2.mono B1.out.size))
      clear hb2 hk2
      go_wp2_with fail
      go_ret
      exact ⟨rfl, B2.out⟩
    · have HSM : Hid (ds.length ≤ 16384) := by show _ ≤ _; omega
      have HRR := Lib.hid (rec_read OD.out HSM.out ms)
      have HRL := Lib.hid (recL_length ds)
      have HRO := Lib.hid ((recL_oct OD.out HSM.out).append OM.out)
      have HSZ : Hid ((strOfNums (recL ds)).size = 8 + ds.length) := by show _ = _; rw [strOfNums_size, HRL.out]
      have HAPP := Lib.hid (strOfNums_app xs (recL ds))
      have q1 : (strOfNums xs).size = xs.length := strOfNums_size _
      have q2 : (strOfNums (recL ds)).size = 8 + ds.length := HSZ.out
      have q3 : ¬ 9223372036854775807 < xs.length + (8 + ds.length) := by omega
      clear hbig
      go_enter Try.func5, Try.ntmps5
      go_wp2_with fail
      refine (records_any W).mono ?_
      rintro y w0 ⟨rfl, hb0⟩
      have B0 := Lib.hid hb0
      clear hb0
      go_wp2_with fail
      refine (HAP.out w0 B0.out).mono ?_
      rintro y w1 ⟨hb1, _, hk1⟩
      obtain ⟨v1, rfl, ho1⟩ := hk1 HSM.out
      obtain ⟨L, hL⟩ : ∃ L, L = xs ++ recL ds := ⟨_, rfl⟩
      rw [← hL] at ho1
      have hLL : L.length = xs.length + (8 + ds.length) := by rw [hL, List.length_append, HRL.out]
      have hdrop : L.drop xs.length = recL ds := by rw [hL]; exact List.drop_left
      obtain ⟨M, hM⟩ : ∃ M, M = L.length := ⟨_, rfl⟩
      have HM := Lib.hid hM
      rw [hLL] at hM
      obtain ⟨p1, c1, hv1⟩ := ho1.form
      rw [← HM.out] at hv1
      subst hv1
      obtain ⟨g, rfl, _⟩ := ho1.at_ (by omega)
      have hMc : M ≤ c1 := by
        obtain ⟨_, _, e, h, _⟩ := ho1.row
        cases e
        rw [HM.out]; exact h
      have hMx : (xs.length : Int) ≤ (M : Int) := by omega
      have hcx : ¬ c1 = xs.length := by omega
      have hcx2 : (xs.length : Int) ≤ (c1 : Int) := by omega
      have HMM := Lib.hid hM
      clear hM hLL
      have B1 := Lib.hid (B0.out.trans (hb1.mono B0.out.size))
      have O1 := Lib.hid ho1
      have HL := Lib.hid hL
      have HDR := Lib.hid hdrop
      have kd := HKD.out w1 B1.out
      clear hb1 hk1 ho1 hL hdrop
      go_wp2_with fail
      refine (HRW.out w1).mono ?_
      rintro y w2 ⟨hb2, _, hk2⟩
      obtain rfl := hk2 HSM.out
      have B2 := Lib.hid (B1.out.trans (hb2.mono B1.out.size))
      have O2 := Lib.hid (O1.out.later hb2)
      have kb : (convert 22 9 (.slice (some ⟨g, 0, none⟩) M c1)).run Try.prog w2 = .ok (.string (strOfNums xs ++ strOfNums (recL ds))) w2 := by
        rw [HAPP.out, ← HL.out]
        exact conv_row (P := Try.prog) w2 22 9 5 Try.underlying22 Try.underlying5 Try.underlying9 _ _ O2.out.row
      have ka := HKA.out w2 B2.out
      obtain ⟨g0, hat⟩ := O2.out.row.rowAt
      have hRP := (hat.drop xs.length (by have := HM.out; omega)).row
      unfold dropP at hRP
      rw [if_neg hcx, HDR.out] at hRP
      simp only [Option.map_some, addAt, Nat.zero_add] at hRP
      have RP := Lib.hid hRP
      have O3 := Lib.hid (Own.made_at .u8 w2 w2.heap.size w2.heap.size 5 (Nat.le_refl _) rfl)
      clear hb2 hk2 kd hat hRP
      go_wp2_with (first
        | (at_builtin; refine wpList_append_row rfl _ _ 22 rfl 5 .u8 1 w2.heap.size elt8 _ _ (recL ds) ms rfl rfl O4.out (RM.out.under B4.out (Nat.le_refl _)) (by have := HRL.out; omega) (by have := HRL.out; omega) S4.out (recL ds ++ ms) (8 + ds.length + ms.length) rfl (by rw [List.length_append, HRL.out]) ?_; intro p5 c5 w5 ho5 hb5; have O5 := Lib.hid ho5; have B5 := Lib.hid (B4.out.trans (hb5.mono B2.out.size)); clear ho5 hb5)
        | (at_builtin; refine wpList_append_row rfl _ _ 22 rfl 5 .u8 1 w2.heap.size elt8 _ _ [] (recL ds) rfl rfl O3.out (RP.out.under (oneB w2 _) (Nat.le_refl _)) (by have := HRL.out; simp; omega) (by have := HRL.out; simp; omega) (by simp) (recL ds) (8 + ds.length) rfl HRL.out ?_; intro p4 c4 w4 ho4 hb4; have O4 := Lib.hid ho4; have B4 := Lib.hid (B2.out.trans ((oneB w2 (.cells #[] 5)).trans hb4 |>.mono B2.out.size)); have S4 : Hid (w2.heap.size ≤ w4.heap.size) := ((oneB w2 (.cells #[] 5)).trans hb4).size; clear ho4 hb4))
      refine (fread_any _ (recL ds ++ ms) HRO.out (by rw [List.length_append, HRL.out]; omega) w5 O5.out.row).mono ?_
      rintro y w6 ⟨v6, rfl, ho6, hb6⟩
      rw [HRR.out.2.1] at ho6
      rw [HRR.out.1, HRR.out.2.2]
      obtain ⟨p6, c6, rfl⟩ := ho6.form
      have B6 := Lib.hid (B5.out.trans (hb6.mono B5.out.size))
      have k6 := conv_row (P := Try.prog) w6 22 9 5 Try.underlying22 Try.underlying5 Try.underlying9 _ _ ho6.row
      have kd6 := HKD.out w6 B6.out
      clear hb6 ho6
      go_wp2_with fail
      go_ret
      exact ⟨rfl, B6.out⟩
  · have hg : (500 : Int) < xs.length ∨ (xs.length : Int) ≤ 500 ∧ (17000 : Int) < ds.length ∨ (xs.length : Int) ≤ 500 ∧ (ds.length : Int) ≤ 17000 ∧ (500 : Int) < ms.length := by omega
    clear h1
    rcases hg with hg | ⟨hg, hg2⟩ | ⟨hg, hg2, hg3⟩
    all_goals
      go_enter Try.func5, Try.ntmps5
      go_wp2_with fail
      refine (records_any W).mono ?_
      rintro y w0 ⟨rfl, hb0⟩
      go_wp2_with fail
      go_ret
      exact ⟨rfl, hb0⟩
end Go.Proofs.Ytngelpjibgiifaa
