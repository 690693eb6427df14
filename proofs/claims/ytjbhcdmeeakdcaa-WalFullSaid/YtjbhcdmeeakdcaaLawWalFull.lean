/- WalFull: the walk. -/
import Derived.Test.YtjbhcdmeeakdcaaWalLong
import Derived.Deep.RegionHeld3
namespace Go.Proofs.Ytjbhcdmeeakdcaa
open Go.RowKit
/-- What the loop keeps. -/
def FlRel (w : World) (B gl room k : Nat) (ess : List (List Int)) (v : Value) (wr : World) : Prop :=
  (∀ d ∈ ess, Rec1 16384 d) ∧ ess.length ≤ k ∧ (recsL ess).length ≤ room ∧ WS w B gl ⟨room, recsL ess, [], false, false, -1⟩ ess.length v ess wr
theorem fl_full {room : Nat} {S ys : List Int} (hy : ys.length ≤ 16384) (hf : (room : Int) - (S.length : Int) < (ys.length : Int) + 8) : putE ⟨room, S, [], false, false, -1⟩ ys = 3 ∧ addE ⟨room, S, [], false, false, -1⟩ ys = 3 ∧ addD ⟨room, S, [], false, false, -1⟩ ys = ⟨room, S, [], false, false, -1⟩ := by
  have hfr : (⟨room, S, [], false, false, -1⟩ : DSt).free < ((recL ys).length : Int) := by
    show (room : Int) - (S.length : Int) - (([] : List Int).length : Int) < ((recL ys).length : Int)
    rw [recL_length]
    simp only [List.length_nil]
    omega
  have h := calm_full (d := ⟨room, S, [], false, false, -1⟩) ⟨rfl, rfl⟩ (zs := recL ys) hfr
  have h1 : putE ⟨room, S, [], false, false, -1⟩ ys = 3 := by unfold putE; rw [if_neg (by omega)]; exact h.1
  have h2 : putD ⟨room, S, [], false, false, -1⟩ ys = ⟨room, S, [], false, false, -1⟩ := by unfold putD; rw [if_neg (by omega)]; exact h.2
  exact ⟨h1, by unfold addE; rw [h1]; rfl, by unfold addD; rw [h1, h2]; rfl⟩
theorem fl_add {room : Nat} {S ys : List Int} (hy : ys.length ≤ 16384) (hf : ¬ (room : Int) - (S.length : Int) < (ys.length : Int) + 8) : putE ⟨room, S, [], false, false, -1⟩ ys = 0 ∧ addE ⟨room, S, [], false, false, -1⟩ ys = 0 ∧ addD ⟨room, S, [], false, false, -1⟩ ys = ⟨room, S ++ recL ys, [], false, false, -1⟩ := by
  have hfr : ¬ (⟨room, S, [], false, false, -1⟩ : DSt).free < ((recL ys).length : Int) := by
    show ¬ (room : Int) - (S.length : Int) - (([] : List Int).length : Int) < ((recL ys).length : Int)
    rw [recL_length]
    simp only [List.length_nil]
    omega
  have h := calm_write (d := ⟨room, S, [], false, false, -1⟩) ⟨rfl, rfl⟩ (zs := recL ys) hfr
  have h1 : putE ⟨room, S, [], false, false, -1⟩ ys = 0 := by unfold putE; rw [if_neg (by omega)]; exact h.1
  have h2 : putD ⟨room, S, [], false, false, -1⟩ ys = ⟨room, S, recL ys, false, false, -1⟩ := by
    unfold putD; rw [if_neg (by omega), h.2]; rfl
  have hs := calm_sync (d := ⟨room, S, recL ys, false, false, -1⟩) ⟨rfl, rfl⟩
  exact ⟨h1, by unfold addE; rw [h1, if_pos rfl, h2]; exact hs.1, by unfold addD; rw [h1, if_pos rfl, h2]; exact hs.2⟩
set_option linter.unusedSimpArgs false in
set_option maxHeartbeats 16000000 in
set_option maxRecDepth 100000 in
theorem wfull_walk (rm : Int) (v : Value) (dss : List (List Int)) (w : World) (_ : -9223372036854775808 ≤ rm ∧ rm ≤ 9223372036854775807) (ho : ∀ d ∈ dss, Oct d) (hr : RowSS w v dss) : Calls Try.prog 6 #[.int .i64 rm, v] w fun e w' => e = .returned (.bool true) ∧ Below w.heap.size w w' := by
  have HL := Lib.hid (fun w => logs_any w)
  obtain ⟨pv, cv, rfl⟩ := hr.shape
  have HR := Lib.hid hr
  have HO := Lib.hid ho
  clear hr ho
  generalize hn : dss.length = n at *
  have HN := Lib.hid hn
  clear hn
  by_cases h1 : 0 ≤ rm
  rotate_left
  · have h1' : rm < 0 := by omega
    go_enter Try.func6, Try.ntmps6
    go_wp2_with fail
    refine (HL.out _).mono ?_
    rintro y w1 ⟨rfl, hb1⟩
    go_wp2_with fail
    go_ret
    exact ⟨rfl, hb1⟩
  have h1' : ¬ rm < 0 := by omega
  by_cases h2 : rm ≤ 1048576
  rotate_left
  · have h2' : 1048576 < rm := by omega
    go_enter Try.func6, Try.ntmps6
    go_wp2_with fail
    refine (HL.out _).mono ?_
    rintro y w1 ⟨rfl, hb1⟩
    go_wp2_with fail
    go_ret
    exact ⟨rfl, hb1⟩
  have h2' : ¬ 1048576 < rm := by omega
  by_cases hb : 20 < n
  · have hb' : (20 : Int) < (n : Int) := by omega
    go_enter Try.func6, Try.ntmps6
    go_wp2_with fail
    refine (HL.out _).mono ?_
    rintro y w1 ⟨rfl, hb1⟩
    go_wp2_with fail
    go_ret
    exact ⟨rfl, hb1⟩
  have hb' : ¬ (20 : Int) < (n : Int) := by omega
  obtain ⟨room, rfl⟩ := Int.eq_ofNat_of_zero_le h1
  have hr20 : (room : Int) ≤ 1048576 := h2
  go_enter Try.func6, Try.ntmps6
  go_wp2_with fail
  refine (HL.out _).mono ?_
  rintro y w1 ⟨rfl, hb1⟩
  have B1 := Lib.hid hb1
  clear hb1 HL
  go_wp2_with fail
  refine (new_any room w1).mono ?_
  rintro y w2 ⟨hb2, _, hk2⟩
  obtain ⟨rfl, hd2⟩ := hk2 ⟨by omega, by omega⟩
  rw [Int.toNat_natCast] at hd2
  have D2 : Hid (Dkp none_ w2 w1.heap.size w1.heap.size (newD room)) := hd2.dkp
  have C2 := Lib.hid hb2
  clear hb2 hk2 hd2
  have HO0 := Lib.hid (calm_open (d := newD room) ⟨rfl, rfl⟩ (new_ok (by omega)))
  have HA0 : Hid ((newD room).all = []) := rfl
  rw [HA0.out, (sc_short (l := []) (by simp)).2] at HO0
  have HSC0 := Lib.hid (sc_short (l := []) (by simp)).1
  go_wp2_with fail
  refine (wopen_any none_ w2 w1.heap.size w1.heap.size _ D2.out (by rw [HA0.out]; simp)).mono ?_
  rintro y w3 ⟨_, h0⟩
  obtain ⟨gl, v3, rfl, hgl, hl3, hr3, hd3, hb3⟩ := h0 HO0.out.1
  rw [HO0.out.2] at hd3
  rw [HA0.out, HSC0.out] at hl3 hr3
  obtain ⟨p3, c3, rfl⟩ := hr3.shape
  have HREL : Hid (FlRel w w1.heap.size gl room 0 [] (.slice none 0 0) w3) := ⟨(fun d hd => by cases hd), Nat.le_refl _, Nat.zero_le _, B1.out.size, Nat.le_trans C2.out.size hgl, B1.out.trans ((C2.out.trans hb3.1).mono B1.out.size), addP none_ gl, .inr rfl, hd3, hl3, OwnV.nil_ _ _ _, (fun g hg => by cases hg)⟩
  clear h0 hgl hl3 hr3 hd3 hb3
  go_wp2_with fail
  generalize w1.heap.size = B at *
  go_loopw [10, 11, 46] (fun v us i wr => ∃ (k : Nat) (ess : List (List Int)), k ≤ n ∧ i = .int .i64 k ∧ us = .int .i64 ((recsL ess).length : Nat) ∧ Hid (FlRel w B gl room k ess v wr)) (fun _ _ i _ => n - (intOf i).toNat)
  case atStart => exact ⟨0, [], by omega, rfl, rfl, HREL⟩
  case round =>
    obtain ⟨k, ess, hk, rfl, rfl, HK⟩ := hrel
    clear HREL
    obtain ⟨hes, hek, hrl, hws⟩ := HK.out
    have HW := Lib.hid hws
    have HES := Lib.hid hes
    have HEK := Lib.hid hek
    have HRL := Lib.hid hrl
    have hul : ((recsL ess).length : Int) ≤ (room : Int) := by omega
    obtain ⟨p9, c9, hv9⟩ := hws.form
    have HSC := Lib.hid (sc_recs hes (more := []) (fun a ha => by cases ha) (by simp))
    rw [List.append_nil] at HSC
    generalize hL : ess.length = L at *
    have HLL := Lib.hid hL
    generalize hU : (recsL ess).length = U at *
    have HUU := Lib.hid hU
    subst hv9
    clear hes hek hrl hws HK hL hU
    by_cases hlt : k < n
    · have hkl : k < dss.length := by rw [HN.out]; exact hlt
      have hltI : (k : Int) < (n : Int) := by omega
      obtain ⟨b, o, q, dd, rfl, hcw, hrow⟩ := HR.out.at_ k hkl
      have hc := (HW.out.bel.cell (p := ⟨b, o + k, none⟩) (World.block_lt_of_cell? w _ hcw)).trans hcw
      have hget : dss.getD k [] = dss[k] := by rw [List.getD_eq_getElem?_getD, List.getElem?_eq_getElem hkl]; rfl
      have HOY := Lib.hid (HO.out _ (List.getElem_mem hkl))
      rw [hget] at hc hrow
      have hbl := World.block_lt_of_cell? wr _ hc
      have HROW := Lib.hid hrow
      have HROWR := Lib.hid (hrow.kept HW.out.bel)
      clear hget hrow hcw
      generalize dss[k] = ys at *
      by_cases hlong : 16384 < ys.length
      · have hlI : (16384 : Int) < (ys.length : Int) := by omega
        have HA := Lib.hid (wadd_long wr gl (.slice q ys.length dd) ys hlong HROWR.out)
        generalize ys.length = yn at *
        clear hlong
        go_wp2_with fail
        refine HA.out.mono ?_
        rintro y w5 ⟨rfl, hb5⟩
        have HW5 := Lib.hid (HW.out.kept hb5)
        have HLE := Lib.hid (ws_len HW5.out)
        have HNX : Hid (FlRel w B gl room (k + 1) ess (.slice p9 L c9) w5) := ⟨HES.out, by rw [HLL.out]; have := HEK.out; omega, by rw [HUU.out]; exact HRL.out, by rw [HLL.out]; exact HW5.out⟩
        clear hb5 hc hbl
        go_wp2_with fail
        refine HLE.out.mono ?_
        rintro y w6 ⟨rfl, rfl⟩
        go_wp2_with fail
        go_roundw
        case rel => exact ⟨k + 1, ess, by omega, by go_num, by rw [HUU.out], HNX⟩
        case measure => simp [intOf]; omega
      have hlI : ¬ (16384 : Int) < (ys.length : Int) := by omega
      have HYL : Hid (ys.length ≤ 16384) := by show _ ≤ _; omega
      have hyI : (ys.length : Int) ≤ 16384 := by omega
      by_cases hfull : (room : Int) - (U : Int) < (ys.length : Int) + 8
      · have HFL := Lib.hid (fl_full (room := room) (S := recsL ess) HYL.out (by rw [HUU.out]; exact hfull))
        have HA := Lib.hid (ws_add HW.out (.slice q ys.length dd) ys (by have := HEK.out; omega) HOY.out (by have := HYL.out; omega) HROWR.out)
        rw [HFL.out.1, HFL.out.2.1, HFL.out.2.2, if_neg (by decide)] at HA
        generalize ys.length = yn at *
        clear hlong
        go_wp2_with fail
        refine HA.out.mono ?_
        rintro y w5 ⟨rfl, hw5⟩
        have HLE := Lib.hid (ws_len hw5)
        have HNX : Hid (FlRel w B gl room (k + 1) ess (.slice p9 L c9) w5) := ⟨HES.out, by rw [HLL.out]; have := HEK.out; omega, by rw [HUU.out]; exact HRL.out, by rw [HLL.out]; exact hw5⟩
        clear hw5 hc hbl
        go_wp2_with fail
        refine HLE.out.mono ?_
        rintro y w6 ⟨rfl, rfl⟩
        go_wp2_with fail
        go_roundw
        case rel => exact ⟨k + 1, ess, by omega, by go_num, by rw [HUU.out], HNX⟩
        case measure => simp [intOf]; omega
      · have HFL := Lib.hid (fl_add (room := room) (S := recsL ess) HYL.out (by rw [HUU.out]; exact hfull))
        have HA := Lib.hid (ws_add HW.out (.slice q ys.length dd) ys (by have := HEK.out; omega) HOY.out (by have := HYL.out; omega) HROWR.out)
        rw [HFL.out.1, HFL.out.2.1, HFL.out.2.2, if_pos rfl, ← recsL_snoc] at HA
        have HUN : Hid ((recsL (ess ++ [ys])).length = U + (ys.length + 8)) := by show _ = _; rw [recsL_snoc, List.length_append, HUU.out, recL_length]; omega
        have HESN : Hid (∀ d ∈ ess ++ [ys], Rec1 16384 d) := fun d hd => by
          rcases List.mem_append.1 hd with h | h
          · exact HES.out d h
          · rw [List.mem_singleton.1 h]; exact ⟨HOY.out, HYL.out⟩
        have HRN : Hid (U + (ys.length + 8) ≤ room) := by show _ ≤ _; omega
        have HLN : Hid ((ess ++ [ys]).length = L + 1) := by show _ = _; rw [List.length_append, HLL.out]; rfl
        generalize ys.length = yn at *
        clear hlong
        go_wp2_with fail
        refine HA.out.mono ?_
        rintro y w5 ⟨rfl, hw5⟩
        have HW5 := Lib.hid hw5
        have k8 := conv_row (P := Try.prog) w5 34 9 5 Try.underlying34 Try.underlying5 Try.underlying9 _ _ (HROW.out.kept hw5.bel)
        clear hw5 hc hbl
        go_wp2_with (at_builtin; with_reducible refine stop_appendW (.tmp 60) (.tmp 63) 33 rfl ?_)
        refine ws_append HW5.out rfl (.tmp 60) (.tmp 63) rfl ys w5.heap.size rfl rfl rfl (by rw [HLL.out]; have := HEK.out; omega) (L + 1) (by rw [HLL.out]) ?_
        intro p10 c10 w10 hw10
        have HLE := Lib.hid (ws_len hw10)
        have HNX : Hid (FlRel w B gl room (k + 1) (ess ++ [ys]) (.slice p10 (L + 1) c10) w10) := ⟨HESN.out, by rw [HLN.out]; have := HEK.out; omega, by rw [HUN.out]; exact HRN.out, by rw [HLN.out]; exact hw10⟩
        clear hw10 k8
        go_wp2_with fail
        refine HLE.out.mono ?_
        rintro y w6 ⟨rfl, rfl⟩
        go_wp2_with fail
        go_roundw
        case rel => exact ⟨k + 1, ess ++ [ys], by omega, by go_num, by rw [HUN.out]; go_num, HNX⟩
        case measure => simp [intOf]; omega
    · have hle : (n : Int) ≤ (k : Int) := by omega
      have HOO := Lib.hid (calm_open (d := ⟨room, recsL ess, [], false, false, -1⟩) ⟨rfl, rfl⟩ HW.out.ok)
      have HAL : Hid ((⟨room, recsL ess, [], false, false, -1⟩ : DSt).all = recsL ess) := by show _ = _; simp [DSt.all, DSt.ahead]
      have HSH : Hid ((recsL ess).length ≤ 1000000) := by
        have h := recsL_len (dss := ess) (fun d hd => (HES.out d hd).2)
        have h2 := HLL.out
        have h3 := HEK.out
        show _ ≤ _
        omega
      have HOP := Lib.hid (ws_open HW.out (by rw [HAL.out]; exact HSH.out) HOO.out.1)
      rw [HAL.out, HSC.out.1] at HOP
      go_wp2_with fail
      refine HOP.out.mono ?_
      rintro y w8 ⟨gm, u8, rfl, hr8, hw8⟩
      obtain ⟨p8, c8, hv8⟩ := hr8.shape
      rw [HLL.out] at hv8
      subst hv8
      have HSM := Lib.hid (wsame_any w8 _ _ ess hr8 hw8.strR (by rw [HLL.out]; have := HEK.out; omega))
      have HW8 := Lib.hid hw8
      clear hr8 hw8
      go_wp2_with fail
      refine HSM.out.mono ?_
      rintro y w9 ⟨rfl, hb9⟩
      have HW9 := Lib.hid (HW8.out.kept hb9)
      clear hb9
      go_wp2_with fail
      go_ret
      exact ⟨rfl, HW9.out.bel⟩
end Go.Proofs.Ytjbhcdmeeakdcaa
