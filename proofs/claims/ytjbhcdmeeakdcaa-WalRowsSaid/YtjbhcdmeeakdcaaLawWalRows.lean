/- WalRows: the walk. -/
import Derived.Test.YtjbhcdmeeakdcaaWalState
import Derived.Test.YtjbhcdmeeakdcaaAppB
import Derived.Deep.RegionHeld3
namespace Go.Proofs.Ytjbhcdmeeakdcaa
open Go.RowKit
theorem recsL_short {dss : List (List Int)} {m : Nat} (h : ∀ d ∈ dss, d.length ≤ m) : (recsL dss).length ≤ (8 + m) * dss.length := by
  induction dss with
  | nil => simp [recsL]
  | cons d ds ih =>
    have i := ih (fun x hx => h x (by simp [hx]))
    have h1 := h d (by simp)
    rw [recsL_cons, List.length_append, recL_length, List.length_cons, Nat.mul_succ]
    omega
/-- What the loop keeps. -/
def RwRel (w : World) (B gl : Nat) (dss : List (List Int)) (k : Nat) (v : Value) (wr : World) : Prop :=
  (∀ d ∈ dss.take k, d.length ≤ 1000) ∧ ∃ S R, S ++ R = recsL (dss.take k) ∧ WS w B gl ⟨1048576, S, R, false, false, -1⟩ k v (dss.take k) wr
theorem rw_put {S R ys : List Int} (hl : S.length + R.length ≤ 1000000) (hy : ys.length ≤ 1000) : putE ⟨1048576, S, R, false, false, -1⟩ ys = 0 ∧ putD ⟨1048576, S, R, false, false, -1⟩ ys = ⟨1048576, S, R ++ recL ys, false, false, -1⟩ := by
  have hf : ¬ (⟨1048576, S, R, false, false, -1⟩ : DSt).free < ((recL ys).length : Int) := by
    show ¬ ((1048576 : Nat) : Int) - (S.length : Int) - (R.length : Int) < ((recL ys).length : Int)
    rw [recL_length]
    omega
  have h := calm_write (d := ⟨1048576, S, R, false, false, -1⟩) ⟨rfl, rfl⟩ (zs := recL ys) hf
  exact ⟨by unfold putE; rw [if_neg (by omega)]; exact h.1, by unfold putD; rw [if_neg (by omega)]; exact h.2⟩
theorem rw_sync (S R : List Int) : (⟨1048576, S, R, false, false, -1⟩ : DSt).syncE = 0 ∧ (⟨1048576, S, R, false, false, -1⟩ : DSt).syncD = ⟨1048576, S ++ R, [], false, false, -1⟩ := calm_sync (d := ⟨1048576, S, R, false, false, -1⟩) ⟨rfl, rfl⟩
theorem rw_crash (S : List Int) : (⟨1048576, S, [], false, false, -1⟩ : DSt).crashD 0 9 = ⟨1048576, S, [], false, true, -1⟩ := by
  unfold DSt.crashD DSt.giveD tornL keepN
  simp
theorem rw_up (S : List Int) : (⟨1048576, S, [], false, true, -1⟩ : DSt).upD = ⟨1048576, S, [], false, false, -1⟩ := by
  unfold DSt.upD DSt.giveD DSt.settleD DSt.all DSt.ahead
  simp
set_option linter.unusedSimpArgs false in
set_option maxHeartbeats 16000000 in
set_option maxRecDepth 100000 in
theorem wrows_walk (v u : Value) (dss : List (List Int)) (bs : List Bool) (w : World) (ho : ∀ d ∈ dss, Oct d) (hr : RowSS w v dss) (hbr : RowB w u bs) (hbl : bs.length ≤ 9223372036854775807) : Calls Try.prog 7 #[v, u] w fun e w' => e = .returned (.bool true) ∧ Below w.heap.size w w' := by
  have HL := Lib.hid (fun w => logs_any w)
  obtain ⟨pv, cv, rfl⟩ := hr.shape
  obtain ⟨pu, cu, rfl⟩ := hbr.shape
  have HR := Lib.hid hr
  have HU := Lib.hid hbr
  have HO := Lib.hid ho
  have HBL := Lib.hid hbl
  clear hr ho hbr hbl
  generalize hn : dss.length = n at *
  have HN := Lib.hid hn
  clear hn
  generalize hm : bs.length = m at *
  have HM := Lib.hid hm
  clear hm
  by_cases hb : 20 < n
  · have hb' : (20 : Int) < (n : Int) := by omega
    go_enter Try.func7, Try.ntmps7
    go_wp2_with fail
    refine (HL.out _).mono ?_
    rintro y w1 ⟨rfl, hb1⟩
    go_wp2_with fail
    go_ret
    exact ⟨rfl, hb1⟩
  have hb' : ¬ (20 : Int) < (n : Int) := by omega
  go_enter Try.func7, Try.ntmps7
  go_wp2_with fail
  refine (HL.out _).mono ?_
  rintro y w1 ⟨rfl, hb1⟩
  have B1 := Lib.hid hb1
  clear hb1 HL
  go_wp2_with fail
  refine (new_any 1048576 w1).mono ?_
  rintro y w2 ⟨hb2, _, hk2⟩
  obtain ⟨rfl, hd2⟩ := hk2 (by decide)
  have D2 : Hid (Dkp none_ w2 w1.heap.size w1.heap.size (newD 1048576)) := hd2.dkp
  have C2 := Lib.hid hb2
  clear hb2 hk2 hd2
  have HO0 := Lib.hid (calm_open (d := newD 1048576) ⟨rfl, rfl⟩ (new_ok (by decide)))
  have HA0 : Hid ((newD 1048576).all = []) := rfl
  rw [HA0.out, (sc_short (l := []) (by simp)).2] at HO0
  have HSC0 := Lib.hid (sc_short (l := []) (by simp)).1
  go_wp2_with fail
  refine (wopen_any none_ w2 w1.heap.size w1.heap.size _ D2.out (by rw [HA0.out]; simp)).mono ?_
  rintro y w3 ⟨_, h0⟩
  obtain ⟨gl, v3, rfl, hgl, hl3, hr3, hd3, hb3⟩ := h0 HO0.out.1
  rw [HO0.out.2] at hd3
  rw [HA0.out, HSC0.out] at hl3 hr3
  obtain ⟨p3, c3, rfl⟩ := hr3.shape
  have HREL : Hid (RwRel w w1.heap.size gl dss 0 (.slice none 0 0) w3) := ⟨fun d hd => by simp at hd, [], [], by simp [recsL], B1.out.size, Nat.le_trans C2.out.size hgl, B1.out.trans ((C2.out.trans hb3.1).mono B1.out.size), addP none_ gl, .inr rfl, hd3, hl3, OwnV.nil_ _ _ _, fun g hg => by cases hg⟩
  clear h0 hgl hl3 hr3 hd3 hb3
  go_wp2_with fail
  generalize w1.heap.size = B at *
  go_loopw [10, 33] (fun v i wr => ∃ k : Nat, k ≤ n ∧ i = .int .i64 k ∧ Hid (RwRel w B gl dss k v wr)) (fun _ i _ => n - (intOf i).toNat)
  case atStart => exact ⟨0, by omega, rfl, HREL⟩
  case round =>
    obtain ⟨k, hk, rfl, HK⟩ := hrel
    clear HREL
    obtain ⟨hsh, S, R, hSR, hws⟩ := HK.out
    have HW := Lib.hid hws
    have HSH := Lib.hid hsh
    have HSR := Lib.hid hSR
    have HTL : Hid ((dss.take k).length = k) := by show _ = _; rw [List.length_take, HN.out]; omega
    have hlen := recsL_short hsh
    rw [HTL.out] at hlen
    have HSL : Hid (S.length + R.length ≤ 20160) := by
      have h1 : (S ++ R).length = (recsL (dss.take k)).length := by rw [hSR]
      rw [List.length_append] at h1
      show _ ≤ _
      omega
    obtain ⟨p9, c9, hv9⟩ := hws.form
    rw [HTL.out] at hv9
    subst hv9
    clear hsh hSR hws hlen HK
    by_cases hlt : k < n
    · have hkl : k < dss.length := by rw [HN.out]; exact hlt
      have hltI : (k : Int) < (n : Int) := by omega
      obtain ⟨b, o, q, dd, rfl, hcw, hrow⟩ := HR.out.at_ k hkl
      have hc := (HW.out.bel.cell (p := ⟨b, o + k, none⟩) (World.block_lt_of_cell? w _ hcw)).trans hcw
      have hget : dss.getD k [] = dss[k] := by rw [List.getD_eq_getElem?_getD, List.getElem?_eq_getElem hkl]; rfl
      have HOY := Lib.hid (HO.out _ (List.getElem_mem hkl))
      have HTK : Hid (dss.take (k + 1) = dss.take k ++ [dss[k]]) := List.take_succ_eq_append_getElem hkl
      rw [hget] at hc hrow
      have hbl := World.block_lt_of_cell? wr _ hc
      have HROW := Lib.hid hrow
      clear hget hrow hcw
      generalize dss[k] = ys at *
      by_cases hlong : 1000 < ys.length
      · have hlI : (1000 : Int) < (ys.length : Int) := by omega
        have HBW := Lib.hid HW.out.bel
        generalize ys.length = yn at *
        go_wp2_with fail
        go_ret
        exact ⟨rfl, HBW.out⟩
      have hlI : ¬ (1000 : Int) < (ys.length : Int) := by omega
      have HYL : Hid (ys.length ≤ 1000) := by show _ ≤ _; omega
      have HPU := Lib.hid (rw_put (S := S) (R := R) (ys := ys) (by have := HSL.out; omega) HYL.out)
      have HP := Lib.hid (ws_put HW.out (.slice q ys.length dd) ys (by omega) HOY.out (by have := HYL.out; omega) (HROW.out.kept HW.out.bel))
      rw [HPU.out.1, HPU.out.2, if_pos rfl] at HP
      have HREC : Hid (S ++ (R ++ recL ys) = recsL (dss.take (k + 1))) := by show _ = _; rw [HTK.out, recsL_snoc, ← HSR.out, List.append_assoc]
      have HSHN : Hid (∀ d ∈ dss.take (k + 1), d.length ≤ 1000) := fun d hd => by
        rw [HTK.out] at hd
        rcases List.mem_append.1 hd with h | h
        · exact HSH.out d h
        · rw [List.mem_singleton.1 h]; exact HYL.out
      generalize hyn : ys.length = yn at *
      have HYN := Lib.hid hyn
      clear hyn hlong
      go_wp2_with fail
      refine HP.out.mono ?_
      rintro y w5 ⟨rfl, hw5⟩
      have HW5 := Lib.hid hw5
      clear hw5 HP hc hbl
      by_cases hsy : k < m
      · have hsI : (k : Int) < (m : Int) := by omega
        obtain ⟨b2, o2, rfl, hcb⟩ := RowB.cell (HU.out.kept HW5.out.bel) k (by rw [HM.out]; exact hsy)
        cases hbv : bs.getD k false
        · rw [hbv] at hcb
          clear hbv
          have k8 := conv_row (P := Try.prog) w5 34 9 5 Try.underlying34 Try.underlying5 Try.underlying9 _ _ (HROW.out.kept HW5.out.bel)
          go_wp2_with (at_builtin; with_reducible refine stop_appendW (.tmp 60) (.tmp 63) 33 rfl ?_)
          refine ws_append HW5.out rfl (.tmp 60) (.tmp 63) rfl ys w5.heap.size rfl rfl rfl (by rw [HTL.out]; omega) (k + 1) (by rw [HTL.out]) ?_
          intro p10 c10 w10 hw10
          have HNX : Hid (RwRel w B gl dss (k + 1) (.slice p10 (k + 1) c10) w10) := ⟨HSHN.out, S, R ++ recL ys, HREC.out, by rw [HTK.out]; exact hw10⟩
          clear hw10 k8
          go_wp2_with fail
          go_roundw
          case rel => exact ⟨k + 1, by omega, by go_num, HNX⟩
          case measure => simp [intOf]; omega
        · rw [hbv] at hcb
          clear hbv
          have HY := Lib.hid (ws_sync HW5.out)
          rw [(rw_sync S (R ++ recL ys)).1, (rw_sync S (R ++ recL ys)).2] at HY
          go_wp2_with fail
          refine HY.out.mono ?_
          rintro y w6 ⟨rfl, hw6⟩
          have HW6 := Lib.hid hw6
          clear hw6 hcb
          have k8 := conv_row (P := Try.prog) w6 34 9 5 Try.underlying34 Try.underlying5 Try.underlying9 _ _ (HROW.out.kept HW6.out.bel)
          go_wp2_with (at_builtin; with_reducible refine stop_appendW (.tmp 60) (.tmp 63) 33 rfl ?_)
          refine ws_append HW6.out rfl (.tmp 60) (.tmp 63) rfl ys w6.heap.size rfl rfl rfl (by rw [HTL.out]; omega) (k + 1) (by rw [HTL.out]) ?_
          intro p10 c10 w10 hw10
          have HNX : Hid (RwRel w B gl dss (k + 1) (.slice p10 (k + 1) c10) w10) := ⟨HSHN.out, S ++ (R ++ recL ys), [], by rw [List.append_nil]; exact HREC.out, by rw [HTK.out]; exact hw10⟩
          clear hw10 k8
          go_wp2_with fail
          go_roundw
          case rel => exact ⟨k + 1, by omega, by go_num, HNX⟩
          case measure => simp [intOf]; omega
      · have hsI : ¬ (k : Int) < (m : Int) := by omega
        have k8 := conv_row (P := Try.prog) w5 34 9 5 Try.underlying34 Try.underlying5 Try.underlying9 _ _ (HROW.out.kept HW5.out.bel)
        go_wp2_with (at_builtin; with_reducible refine stop_appendW (.tmp 60) (.tmp 63) 33 rfl ?_)
        refine ws_append HW5.out rfl (.tmp 60) (.tmp 63) rfl ys w5.heap.size rfl rfl rfl (by rw [HTL.out]; omega) (k + 1) (by rw [HTL.out]) ?_
        intro p10 c10 w10 hw10
        have HNX : Hid (RwRel w B gl dss (k + 1) (.slice p10 (k + 1) c10) w10) := ⟨HSHN.out, S, R ++ recL ys, HREC.out, by rw [HTK.out]; exact hw10⟩
        clear hw10 k8
        go_wp2_with fail
        go_roundw
        case rel => exact ⟨k + 1, by omega, by go_num, HNX⟩
        case measure => simp [intOf]; omega
    · have hle : (n : Int) ≤ (k : Int) := by omega
      have hkn : k = dss.length := by rw [HN.out]; omega
      have HSA : Hid (S ++ R = recsL dss) := by have h := HSR.out; rwa [hkn, List.take_length] at h
      have hwe := HW.out
      rw [show dss.take k = dss by rw [hkn, List.take_length]] at hwe
      have HSHD : Hid (∀ d ∈ dss, d.length ≤ 1000) := by have h := HSH.out; rwa [hkn, List.take_length] at h
      have HKN : Hid (k = n) := by show _ = _; omega
      have HY := Lib.hid (ws_sync hwe)
      rw [(rw_sync S R).1, (rw_sync S R).2, HSA.out] at HY
      have HLE : Hid ((recsL dss).length ≤ 20160) := by
        have h := recsL_short HSHD.out
        rw [HN.out] at h
        show _ ≤ _
        omega
      have HSC := Lib.hid (sc_recs (ds := dss) (fun d hd => ⟨HO.out d hd, Nat.le_trans (HSHD.out d hd) (by omega)⟩) (more := []) (fun a ha => by cases ha) (by simp))
      rw [List.append_nil] at HSC
      clear hwe hkn
      go_wp2_with fail
      refine HY.out.mono ?_
      rintro y w5 ⟨rfl, hw5⟩
      have HCR := Lib.hid (ws_crash hw5 0 9 (by decide) (by show (recsL dss).length ≤ 1048576; have := HLE.out; omega))
      rw [rw_crash] at HCR
      clear hw5
      go_wp2_with fail
      refine HCR.out.mono ?_
      rintro y w6 ⟨rfl, hw6⟩
      have HUP := Lib.hid (ws_up hw6 (by show (recsL dss).length ≤ 1048576; have := HLE.out; omega))
      rw [rw_up] at HUP
      clear hw6
      go_wp2_with fail
      refine HUP.out.mono ?_
      rintro y w7 ⟨rfl, hw7⟩
      have HOO := Lib.hid (calm_open (d := ⟨1048576, recsL dss, [], false, false, -1⟩) ⟨rfl, rfl⟩ hw7.ok)
      have HAL : Hid ((⟨1048576, recsL dss, [], false, false, -1⟩ : DSt).all = recsL dss) := by show _ = _; simp [DSt.all, DSt.ahead]
      have HOP := Lib.hid (ws_open hw7 (by rw [HAL.out]; have := HLE.out; omega) HOO.out.1)
      rw [HAL.out, HSC.out.1] at HOP
      clear hw7
      go_wp2_with fail
      refine HOP.out.mono ?_
      rintro y w8 ⟨gm, u8, rfl, hr8, hw8⟩
      obtain ⟨p8, c8, hv8⟩ := hr8.shape
      rw [HN.out] at hv8
      subst hv8
      have HSM := Lib.hid (wsame_any w8 _ _ dss hr8 hw8.strR (by rw [HN.out]; omega))
      have HW8 := Lib.hid hw8
      clear hr8 hw8
      go_wp2_with fail
      refine HSM.out.mono ?_
      rintro y w9 ⟨rfl, hb9⟩
      have HW9 := Lib.hid (HW8.out.kept hb9)
      have HLN := Lib.hid (ws_len HW9.out)
      rw [HN.out] at HLN
      clear hb9
      go_wp2_with fail
      refine HLN.out.mono ?_
      rintro y w10 ⟨rfl, rfl⟩
      go_wp2_with fail
      go_ret
      exact ⟨rfl, HW9.out.bel⟩
end Go.Proofs.Ytjbhcdmeeakdcaa
