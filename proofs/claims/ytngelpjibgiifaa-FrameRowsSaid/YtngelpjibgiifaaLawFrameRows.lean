/- FrameRows: the walk. -/
import Derived.Test.YtngelpjibgiifaaFrameHead
import Derived.Test.YtngelpjibgiifaaScanF
import Derived.Test.YtngelpjibgiifaaStrRow
namespace Go.Proofs.Ytngelpjibgiifaa
open Go.RowKit
set_option maxHeartbeats 2000000 in
theorem fapp_long (b v : Value) (pv : Option Addr) (n cv : Nat) (w : World) (hv : v = .slice pv n cv) (h : 16384 < n) (pb : Option Addr) (m cb : Nat) (hb : b = .slice pb m cb) :
    Calls Try.prog 29 #[b, v] w fun x w' => x = .returned (.tuple #[.slice none 0 0, .int .i64 2]) ∧ Below w.heap.size w w' := by
  subst hv hb
  have h' : (16384 : Int) < (n : Int) := by omega
  go_enter Try.func29, Try.ntmps29
  go_wp2_with fail
  go_ret2
  exact ⟨rfl, Below.refl _ _⟩
/-- What the loop has written: the first k records, none long. -/
def WroteRel (W : World) (dss : List (List Int)) (k : Nat) (v : Value) (wr : World) : Prop :=
  Row .u8 wr v (recsL (dss.take k)) ∧ (∀ d ∈ dss.take k, d.length ≤ 1000) ∧ (recsL (dss.take k)).length ≤ 1008 * k ∧ Below W.heap.size W wr
theorem take_get (dss : List (List Int)) (k : Nat) (h : k < dss.length) : dss.take (k + 1) = dss.take k ++ [dss.getD k []] := by
  rw [List.take_succ_eq_append_getElem h, List.getD_eq_getElem?_getD, List.getElem?_eq_getElem h]; rfl
set_option maxHeartbeats 8000000 in
set_option maxRecDepth 100000 in
theorem frows_walk (vl : Value) (dss : List (List Int)) (vm : Value) (ms : List Int) (W : World) (ol : ∀ d ∈ dss, Oct d) (rl : RowSS W vl dss) (om : Oct ms) (rm : Row .u8 W vm ms) (lm : ms.length ≤ 140737488355328) :
    Calls Try.prog 9 #[vl, vm] W fun e W' => e = .returned (.bool true) ∧ Below W.heap.size W W' := by
  obtain ⟨pl, cl, rfl⟩ := rl.shape
  obtain ⟨pm, cm, rfl⟩ := rm.shape
  have RL := Lib.hid rl
  have RM := Lib.hid rm
  have OL := Lib.hid ol
  have OM := Lib.hid om
  clear rl rm ol om
  by_cases h1 : (dss.length : Int) ≤ 20 ∧ (ms.length : Int) ≤ 7
  · obtain ⟨g1, g2⟩ := h1
    generalize hn : dss.length = n at *
    have HN := Lib.hid hn
    clear hn
    go_enter Try.func9, Try.ntmps9
    go_wp2_with fail
    refine (records_any W).mono ?_
    rintro y w0 ⟨rfl, hb0⟩
    have HW0 : Hid (WroteRel W dss 0 (.slice none 0 0) w0) := ⟨Row.nil_ _ _ _, by simp, by simp [recsL], hb0⟩
    clear hb0
    go_wp2_with fail
    go_loopw [5, 25] (fun v i wr => ∃ k : Nat, k ≤ n ∧ i = .int .i64 k ∧ Hid (WroteRel W dss k v wr)) (fun _ i _ => n - (intOf i).toNat)
    case atStart => exact ⟨0, by omega, rfl, HW0⟩
    case round =>
      obtain ⟨k, hk, rfl, HK⟩ := hrel
      obtain ⟨hr, hs, hz, hb⟩ := HK.out
      obtain ⟨pb, cb, rfl⟩ := hr.shape
      have HR := Lib.hid hr
      have HS := Lib.hid hs
      have HZ := Lib.hid hz
      have HB := Lib.hid hb
      clear hr hs hz hb HK
      by_cases hlt : k < n
      · have hkd : k < dss.length := by rw [HN.out]; exact hlt
        obtain ⟨g0, o0, q, d, rfl, hc0, hr0⟩ := RL.out.at_ k hkd
        have HT := Lib.hid (take_get dss k hkd)
        have hod : Oct (dss.getD k []) := by
          refine OL.out _ ?_
          rw [List.getD_eq_getElem?_getD, List.getElem?_eq_getElem hkd]
          exact List.getElem_mem hkd
        have HOD := Lib.hid hod
        have hcw := (HB.out.cell (p := ⟨g0, o0 + k, none⟩) (World.block_lt_of_cell? W _ hc0)).trans hc0
        have HR0 := Lib.hid (hr0.under HB.out (Nat.le_refl _))
        generalize dss.getD k [] = D at *
        clear hc0 hr0 hkd hod
        by_cases hbig : D.length ≤ 1000
        · have hbig' : (D.length : Int) ≤ 1000 := by omega
          go_wp2_with fail
          refine (fapp_any _ _ (recsL (dss.take k)) D HOD.out (by have := HZ.out; omega) _ HR.out HR0.out).mono ?_
          rintro y w1 ⟨hb1, _, hk1⟩
          obtain ⟨v1, rfl, ho1⟩ := hk1 (by omega)
          have HN1 : Hid (WroteRel W dss (k + 1) v1 w1) := by
            refine ⟨?_, ?_, ?_, HB.out.trans (hb1.mono HB.out.size)⟩
            · rw [HT.out, recsL_snoc]; exact ho1.row
            · rw [HT.out]
              intro x hx
              rcases List.mem_append.1 hx with hx | hx
              · exact HS.out x hx
              · rw [List.mem_singleton.1 hx]; exact hbig
            · rw [HT.out, recsL_snoc, List.length_append, recL_length]
              have := HZ.out
              omega
          clear hb1 hk1 ho1
          go_wp2_with fail
          go_roundw
          case rel => exact ⟨k + 1, by omega, by go_num, HN1⟩
          case measure => simp [intOf]; omega
        · have hbig' : (1000 : Int) < (D.length : Int) := by omega
          by_cases hvery : 16384 < D.length
          · go_wp2_with fail
            refine (fapp_long _ _ q D.length d _ rfl hvery _ _ _ rfl).mono ?_
            rintro y w1 ⟨rfl, hb1⟩
            have B1 := Lib.hid (HB.out.trans (hb1.mono HB.out.size))
            clear hb1
            go_wp2_with fail
            go_ret
            exact ⟨rfl, B1.out⟩
          · go_wp2_with fail
            refine (fapp_any _ _ (recsL (dss.take k)) D HOD.out (by have := HZ.out; omega) _ HR.out HR0.out).mono ?_
            rintro y w1 ⟨hb1, _, hk1⟩
            obtain ⟨v1, rfl, ho1⟩ := hk1 (by omega)
            have B1 := Lib.hid (HB.out.trans (hb1.mono HB.out.size))
            clear hb1 hk1 ho1
            go_wp2_with fail
            go_ret
            exact ⟨rfl, B1.out⟩
      · have hkn : k = n := by omega
        subst hkn
        have hta : dss.take k = dss := List.take_of_length_le (by rw [HN.out]; exact Nat.le_refl _)
        rw [hta] at HR HS HZ ⊢
        have HREC : Hid (∀ d ∈ dss, Rec1 16384 d) := fun d hd => ⟨OL.out d hd, by have := HS.out d hd; omega⟩
        have HSC := Lib.hid (sc_recs HREC.out OM.out (by omega))
        have HBO := Lib.hid (recsL_oct HREC.out)
        have hge : (k : Int) ≤ (k : Int) := Int.le_refl _
        generalize hrl : recsL dss = B at *
        generalize hm : B.length = M at *
        have HM := Lib.hid hm
        have hMz : M ≤ 20160 := by have := HZ.out; omega
        clear hrl hm hta
        have O3 := Lib.hid (Own.made_at .u8 wr wr.heap.size wr.heap.size 5 (Nat.le_refl _) rfl)
        go_wp2_with (first
          | (at_builtin; refine wpList_append_row rfl _ _ 22 rfl 5 .u8 1 wr.heap.size elt8 _ _ B ms rfl rfl O4.out (RM.out.under B4.out (Nat.le_refl _)) (by have := HM.out; omega) (by have := HM.out; omega) S4.out (B ++ ms) (M + ms.length) rfl (by rw [List.length_append, HM.out]) ?_; intro p5 c5 w5 ho5 hb5; have O5 := Lib.hid ho5; have B5 := Lib.hid (B4.out.trans (hb5.mono HB.out.size)); clear ho5 hb5)
          | (at_builtin; refine wpList_append_row rfl _ _ 22 rfl 5 .u8 1 wr.heap.size elt8 _ _ [] B rfl rfl O3.out (HR.out.under (oneB wr _) (Nat.le_refl _)) (by have := HM.out; simp; omega) (by have := HM.out; simp; omega) (by simp) B M rfl HM.out ?_; intro p4 c4 w4 ho4 hb4; have O4 := Lib.hid ho4; have B4 := Lib.hid (HB.out.trans ((oneB wr (.cells #[] 5)).trans hb4 |>.mono HB.out.size)); have S4 : Hid (wr.heap.size ≤ w4.heap.size) := ((oneB wr (.cells #[] 5)).trans hb4).size; clear ho4 hb4))
        refine (fscan_any _ (B ++ ms) (HBO.out.append OM.out) (by rw [List.length_append, HM.out]; omega) w5 O5.out.row).mono ?_
        rintro y w6 ⟨v6, rfl, ho6, hb6⟩
        rw [HSC.out.1] at ho6
        rw [HSC.out.2]
        obtain ⟨p6, c6, hv6⟩ := ho6.form
        rw [HN.out] at hv6
        subst hv6
        have B6 := Lib.hid (B5.out.trans (hb6.mono B5.out.size))
        have O6 := Lib.hid ho6
        have hk20 : k ≤ 20 := by omega
        clear ho6 hb6
        go_wp2_with fail
        go_loopw [64] (fun i wq => ∃ j : Nat, j ≤ k ∧ i = .int .i64 j ∧ Hid (Below w6.heap.size w6 wq)) (fun i _ => k - (intOf i).toNat)
        case atStart => exact ⟨0, by omega, rfl, Below.refl _ _⟩
        case round =>
          obtain ⟨j, hj, rfl, HJ⟩ := hrel
          by_cases hlt2 : j < k
          · obtain ⟨g1, q1, d1, rfl, hc1, hr1⟩ := (O6.out.later HJ.out).at_ j hlt2
            have hjd : j < dss.length := by rw [HN.out]; exact hlt2
            obtain ⟨g2, o2, q2, d2, rfl, hc2, hr2⟩ := RL.out.at_ j hjd
            have BJ := Lib.hid (B6.out.trans (HJ.out.mono B6.out.size))
            have hcw := (BJ.out.cell (p := ⟨g2, o2 + j, none⟩) (World.block_lt_of_cell? W _ hc2)).trans hc2
            have k1 := conv_row (P := Try.prog) _ 22 9 5 Try.underlying22 Try.underlying5 Try.underlying9 _ _ (hr1.under (Below.refl _ _).drew (Nat.le_refl _))
            have k2 := conv_row (P := Try.prog) _ 22 9 5 Try.underlying22 Try.underlying5 Try.underlying9 _ _ (hr2.under BJ.out.drew (Nat.le_refl _))
            have HJd := Lib.hid HJ.out.drew
            generalize dss.getD j [] = D at *
            clear hr1 hr2 hc2 hjd
            go_wp2_with fail
            go_region
            go_wp2_with fail
            go_roundw
            case rel => exact ⟨j + 1, by omega, by go_num, HJd⟩
            case measure => simp [intOf]; omega
          · have hkn : (k : Int) ≤ (j : Int) := by omega
            go_wp2_with fail
            go_ret
            exact ⟨rfl, B6.out.trans (HJ.out.mono B6.out.size)⟩
  · have hg : (20 : Int) < dss.length ∨ (dss.length : Int) ≤ 20 ∧ (7 : Int) < ms.length := by omega
    clear h1
    rcases hg with hg | ⟨hg, hg2⟩
    all_goals
      go_enter Try.func9, Try.ntmps9
      go_wp2_with fail
      refine (records_any W).mono ?_
      rintro y w0 ⟨rfl, hb0⟩
      go_wp2_with fail
      go_ret
      exact ⟨rfl, hb0⟩
end Go.Proofs.Ytngelpjibgiifaa
