/- WalDown: the walk. -/
import Derived.Test.YtjbhcdmeeakdcaaLogs
namespace Go.Proofs.Ytjbhcdmeeakdcaa
open Go.RowKit
def m0D : DSt := newD 1000
def m1D : DSt := openD m0D
def m2D : DSt := m1D.crashD 0 0
theorem m_open0 : openE m0D = 0 ∧ scD m0D.all = [] ∧ m0D.all.length ≤ 1000000 := by decide +kernel
theorem m_fits : m1D.Fits := by unfold DSt.Fits; decide +kernel
theorem m_down : m2D.dn = true ∧ m2D.all.length ≤ 1000000 := by decide +kernel
theorem down_put {d : DSt} (h : d.dn = true) {ys : List Int} (hl : ys.length ≤ 16384) : putE d ys = 60 ∧ putD d ys = d ∧ addE d ys = 60 ∧ addD d ys = d := by
  have h1 : putE d ys = 60 := by unfold putE DSt.writeE; rw [if_neg (by omega), if_pos h]
  have h2 : putD d ys = d := by unfold putD DSt.writeD; rw [if_neg (by omega), if_pos (.inl h)]
  refine ⟨h1, h2, ?_, ?_⟩
  · unfold addE; rw [h1]; rfl
  · unfold addD; rw [h1, h2]; rfl
theorem down_renew {d : DSt} (h : d.dn = true) {ys : List Int} (hl : ys.length ≤ 16384) : renewLE d [ys] = 60 ∧ renLE d [ys] = 60 ∧ renLD d [ys] = d := by
  have hs : Short [ys] := fun x hx => by rw [List.mem_singleton.1 hx]; exact hl
  have h1 : renewLE d [ys] = 60 := by unfold renewLE DSt.renewE; rw [if_pos hs, if_pos h]
  have h2 : renewLD d [ys] = d := by unfold renewLD DSt.renewD; rw [if_pos hs, if_pos (.inl h)]
  refine ⟨h1, ?_, ?_⟩
  · unfold renLE; rw [h1]; rfl
  · unfold renLD; rw [h1, h2]; rfl
theorem RowSS.one (w : World) (u : Value) (ys : List Int) (h : Row .u8 w u ys) (T : TypeId) : RowSS (w.alloc (.cells #[u] T)) (.slice (some ⟨w.heap.size, 0, none⟩) 1 1) [ys] := by
  refine ⟨_, 1, rfl, Nat.le_refl _, .inr ⟨w.heap.size, 0, rfl, fun i hi => ?_⟩⟩
  obtain rfl : i = 0 := by simp at hi; omega
  exact ⟨u, (Blk.new w #[u] T).cell 0, h.under (oneB w _) (Nat.le_refl _)⟩
def WdRel (w : World) (P : Nat → Prop) (base gl : Nat) (wr : World) : Prop := Dkp P wr base base m2D ∧ LogB wr gl base 0 ∧ Below w.heap.size w wr ∧ w.heap.size ≤ base
set_option linter.unusedSimpArgs false in
set_option maxHeartbeats 8000000 in
set_option maxRecDepth 100000 in
theorem wdown_walk (v : Value) (dss : List (List Int)) (w : World) (ho : ∀ d ∈ dss, Oct d) (hr : RowSS w v dss) : Calls Try.prog 8 #[v] w fun e w' => e = .returned (.bool true) ∧ Below w.heap.size w w' := by
  have HL := Lib.hid (fun w => logs_any w)
  obtain ⟨pv, cv, rfl⟩ := hr.shape
  have HR := Lib.hid hr
  have HO := Lib.hid ho
  clear hr ho
  generalize hn : dss.length = n at *
  have HN := Lib.hid hn
  clear hn
  by_cases hb : 10 < n
  · have hb' : (10 : Int) < (n : Int) := by omega
    go_enter Try.func8, Try.ntmps8
    go_wp2_with fail
    refine (HL.out _).mono ?_
    rintro y w1 ⟨rfl, hb1⟩
    go_wp2_with fail
    go_ret
    exact ⟨rfl, hb1⟩
  have hb' : ¬ (10 : Int) < (n : Int) := by omega
  go_enter Try.func8, Try.ntmps8
  go_wp2_with fail
  refine (HL.out _).mono ?_
  rintro y w1 ⟨rfl, hb1⟩
  have B1 := Lib.hid hb1
  clear hb1
  go_wp2_with fail
  refine (new_any 1000 w1).mono ?_
  rintro y w2 ⟨hb2, _, hk2⟩
  obtain ⟨rfl, hd2⟩ := hk2 (by decide)
  have D2 : Hid (Dkp none_ w2 w1.heap.size w1.heap.size m0D) := hd2.dkp
  have B2 := Lib.hid hb2
  clear hb2 hk2 hd2
  go_wp2_with fail
  refine (wopen_any none_ w2 w1.heap.size w1.heap.size m0D D2.out m_open0.2.2).mono ?_
  rintro y w3 ⟨_, h0⟩
  obtain ⟨gl, v3, rfl, hgl, hl3, hr3, hd3, hb3⟩ := h0 m_open0.1
  rw [m_open0.2.1] at hl3 hr3
  obtain ⟨p3, c3, rfl⟩ := hr3.shape
  have D3 : Hid (Dkp (addP none_ gl) w3 w1.heap.size w1.heap.size m1D) := hd3
  have L3 : Hid (LogB w3 gl w1.heap.size 0) := hl3
  have B3 := Lib.hid (B2.out.trans hb3.1)
  have GL : Hid (w1.heap.size ≤ gl) := Nat.le_trans B2.out.size hgl
  have PG : Hid (addP none_ gl gl) := .inr rfl
  clear h0 hgl hl3 hr3 hd3 hb3
  go_wp2_with fail
  refine (crash_anyP (addP none_ gl) w3 w1.heap.size w1.heap.size m1D 0 0 (by decide) D3.out m_fits).mono ?_
  rintro y w4 ⟨rfl, hd4, hb4⟩
  have HREL : Hid (WdRel w (addP none_ gl) w1.heap.size gl w4) := ⟨hd4, Blk.belowP L3.out hb4 PG.out, B1.out.trans ((B3.out.trans hb4.1).mono B1.out.size), B1.out.size⟩
  clear hd4 hb4
  go_wp2_with fail
  generalize w1.heap.size = B at *
  go_loopw [32] (fun i wr => ∃ k : Nat, k ≤ n ∧ i = .int .i64 k ∧ Hid (WdRel w (addP none_ gl) B gl wr)) (fun i _ => n - (intOf i).toNat)
  case atStart => exact ⟨0, by omega, rfl, HREL⟩
  case round =>
    obtain ⟨k, hk, rfl, HK⟩ := hrel
    clear HREL
    obtain ⟨hd, hl, hbw, hBs⟩ := HK.out
    have HD := Lib.hid hd
    have HLG := Lib.hid hl
    have HBW := Lib.hid hbw
    have HBS := Lib.hid hBs
    have HBR : Hid (B ≤ wr.heap.size) := Nat.le_trans hd.base_le (Nat.le_of_lt hd.dk.lt)
    clear hd hl hbw hBs HK
    by_cases hlt : k < n
    · have hkl : k < dss.length := by rw [HN.out]; exact hlt
      have hltI : (k : Int) < (n : Int) := by omega
      obtain ⟨b, o, q, dd, rfl, hcw, hrow⟩ := HR.out.at_ k hkl
      have hc := (HBW.out.cell (p := ⟨b, o + k, none⟩) (World.block_lt_of_cell? w _ hcw)).trans hcw
      clear hcw
      have hget : dss.getD k [] = dss[k] := by rw [List.getD_eq_getElem?_getD, List.getElem?_eq_getElem hkl]; rfl
      have HOY := Lib.hid (HO.out _ (List.getElem_mem hkl))
      rw [hget] at hc hrow
      have hbl := World.block_lt_of_cell? wr _ hc
      have HROW := Lib.hid hrow
      clear hget hrow
      generalize dss[k] = ys at *
      by_cases hlong : 1000 < ys.length
      · have hlI : (1000 : Int) < (ys.length : Int) := by omega
        generalize ys.length = yn at *
        go_wp2_with fail
        go_ret
        exact ⟨rfl, HBW.out⟩
      · have hlI : ¬ (1000 : Int) < (ys.length : Int) := by omega
        have HDP := Lib.hid (down_put m_down.1 (ys := ys) (by omega))
        have HDR := Lib.hid (down_renew m_down.1 (ys := ys) (by omega))
        have HP := Lib.hid (wput_any (addP none_ gl) wr B B gl 0 m2D (.slice q ys.length dd) ys HD.out PG.out HLG.out (by omega) GL.out HOY.out (by omega) (HROW.out.kept HBW.out))
        rw [HDP.out.1, HDP.out.2.1, if_neg (by decide)] at HP
        have HYL : Hid (ys.length ≤ 1000) := by show _ ≤ _; omega
        have hYB : (ys.length : Int) ≤ 1000 := by omega
        generalize hyn : ys.length = yn at *
        have HYN := Lib.hid hyn
        clear hyn hlong
        go_wp2_with fail
        refine HP.out.mono ?_
        rintro y w5 ⟨rfl, hd5, hl5, hb5⟩
        have HBW5 := Lib.hid (HBW.out.trans (hb5.1.mono HBS.out))
        have HA := Lib.hid (wadd_any (addP none_ gl) w5 B B gl 0 m2D (.slice q yn dd) ys hd5 PG.out hl5 (by omega) GL.out HOY.out (by have := HYL.out; have := HYN.out; omega) (HROW.out.kept HBW5.out))
        rw [HDP.out.1, HDP.out.2.2.1, HDP.out.2.2.2, if_neg (by decide)] at HA
        clear hd5 hl5 hb5
        go_wp2_with fail
        refine HA.out.mono ?_
        rintro y w6 ⟨rfl, hd6, hl6, hb6⟩
        have HBW6 := Lib.hid (HBW5.out.trans (hb6.1.mono HBS.out))
        have HB6 : Hid (w.heap.size ≤ w6.heap.size) := HBW6.out.size
        have HRN := Lib.hid (wrenew_any (addP none_ gl) (w6.alloc (.cells #[.slice q yn dd] 34)) B B gl 0 m2D (.slice (some ⟨w6.heap.size, 0, none⟩) 1 1) [ys] (hd6.kept (oneB w6 _)) PG.out (hl6.kept (oneB w6 _)) GL.out (fun x hx => by rw [List.mem_singleton.1 hx]; exact HOY.out) (by simp) (fun x hx => by rw [List.mem_singleton.1 hx]; have := HYL.out; have := HYN.out; omega) (RowSS.one w6 _ ys (HROW.out.kept HBW6.out) 34))
        rw [HDR.out.1, HDR.out.2.1, HDR.out.2.2, if_neg (by decide)] at HRN
        clear hd6 hl6 hb6
        go_wp2_with fail
        refine HRN.out.mono ?_
        rintro y w7 ⟨rfl, hd7, hl7, hb7⟩
        have HNX : Hid (WdRel w (addP none_ gl) B gl w7) := ⟨hd7, hl7, (HBW6.out.trans ((oneB w6 _).mono HB6.out)).trans (hb7.1.mono HBS.out), HBS.out⟩
        clear hd7 hl7 hb7
        go_wp2_with fail
        go_roundw
        case rel => exact ⟨k + 1, by omega, by go_num, HNX⟩
        case measure => simp [intOf]; omega
    · have hle : (n : Int) ≤ (k : Int) := by omega
      have hE : openE m2D = 60 := if_pos m_down.1
      have hD : openD m2D = m2D := if_pos m_down.1
      have HS1 : Hid (m2D.syncE = 60) := if_pos m_down.1
      have HOE := Lib.hid hE
      have HOD := Lib.hid hD
      clear hE hD
      go_wp2_with fail
      refine (wopen_any (addP none_ gl) wr B B m2D HD.out m_down.2).mono ?_
      rintro y w5 ⟨h1, _⟩
      obtain ⟨rfl, hd5, hb5⟩ := h1 (by rw [HOE.out]; decide)
      rw [HOE.out]
      rw [HOD.out] at hd5
      have HY := Lib.hid (wsync_any (addP none_ gl) w5 B B gl 0 m2D hd5 PG.out (Blk.belowP HLG.out hb5 PG.out))
      rw [HS1.out] at HY
      have HBW5 := Lib.hid (HBW.out.trans (hb5.1.mono HBS.out))
      clear h1 hd5 hb5
      go_wp2_with fail
      refine HY.out.mono ?_
      rintro y w6 ⟨rfl, _, _, hb6⟩
      have HBW6 := Lib.hid (HBW5.out.trans (hb6.1.mono HBS.out))
      clear hb6
      go_wp2_with fail
      go_ret
      exact ⟨rfl, HBW6.out⟩
end Go.Proofs.Ytjbhcdmeeakdcaa
