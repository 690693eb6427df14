/- WholeTorn: the walk. -/
import Derived.Test.YtjbhcdmeeakdcaaTornTop
import Derived.Test.YtjbhcdmeeakdcaaNine
import Derived.Test.YtjbhcdmeeakdcaaEndA
import Derived.Test.YtjbhcdmeeakdcaaReadA
import Derived.Test.YtjbhcdmeeakdcaaWNum
import Derived.Test.YtjbhcdmeeakdcaaNumFacts
import Derived.Test.YtjbhcdmeeakdcaaLogs
import Derived.Deep.RegionHeld3
namespace Go.Proofs.Ytjbhcdmeeakdcaa
open Go.RowKit
theorem row_at64 {w : World} {p : Option Addr} {n c : Nat} {zs : List Int} (h : Row .i64 w (.slice p n c) zs) (i : Nat) (hi : i < zs.length) : ∃ b o, p = some ⟨b, o, none⟩ ∧ b < w.heap.size ∧ w.cell? ⟨b, o + i, none⟩ = some (.int .i64 (zs.getD i 0)) := by
  obtain ⟨p', c', e, _, h⟩ := h
  cases e
  rcases h with h | ⟨b, o, hp, h⟩
  · subst h; simp at hi
  · exact ⟨b, o, hp, World.block_lt_of_cell? w _ (h i hi), h i hi⟩
/-- What the loop that writes keeps. -/
def TRel (w : World) (B gl : Nat) (Ls : List (List Int)) (n k sz : Nat) (wr : World) : Prop :=
  (k < n ∧ sz = 0 ∧ WS w B gl (tD (recsL (Ls.take k)) []) k (.slice none 0 0) [] wr) ∨ (k = n ∧ sz = 8 + (Ls.getD (n - 1) []).length ∧ WS w B gl (tD (recsL (Ls.take (n - 1))) (recL (Ls.getD (n - 1) []))) n (.slice none 0 0) [] wr)
set_option linter.unusedSimpArgs false in
set_option maxHeartbeats 16000000 in
set_option maxRecDepth 100000 in
theorem wtorn_walk (v : Value) (zs : List Int) (keep turn : Int) (w : World) (h64 : All64 zs) (hr : Row .i64 w v zs) (bk : -9223372036854775808 ≤ keep ∧ keep ≤ 9223372036854775807) (bt : 0 ≤ turn ∧ turn < 256) : Calls Try.prog 9 #[v, .int .i64 keep, .int .u8 turn] w fun e w' => e = .returned (.bool true) ∧ Below w.heap.size w w' := by
  obtain ⟨pv, cv, rfl⟩ := hr.shape
  have HR := Lib.hid hr
  have H64 := Lib.hid h64
  have HBK := Lib.hid bk
  have HBT := Lib.hid bt
  clear hr h64 bk bt
  have kc := fun (w : World) (C : Array Value) (n c : Nat) => Lib.run_convert_bytes_const (P := Try.prog) w 34 5 C n c Try.underlying34 Try.underlying5
  generalize hn : zs.length = n at *
  have HN := Lib.hid hn
  have HRC := Lib.hid (fun (k : Nat) (hk : k < n) => row_at64 HR.out k (by rw [hn]; exact hk))
  clear hn
  go_enter Try.func9, Try.ntmps9
  go_wp2_with fail
  refine (crcof_nine _ _ (laid_row w [49, 50, 51, 52, 53, 54, 55, 56, 57] _ rfl 5 _)).mono ?_
  rintro y w1 ⟨rfl, hb1⟩
  have B1 : Hid (Below w.heap.size w w1) := ((Below.refl _ _).alloc (Nat.le_refl _) _).trans (hb1.mono (by simp))
  clear hb1
  go_wp2_with fail
  refine (new_any 65536 w1).mono ?_
  rintro y w3 ⟨hb3, _, hk3⟩
  obtain ⟨rfl, hd3⟩ := hk3 (by decide)
  have D3 : Hid (Dkp none_ w3 w1.heap.size w1.heap.size (newD 65536)) := hd3.dkp
  have C3 := Lib.hid hb3
  clear hb3 hk3 hd3
  have HO0 := Lib.hid (calm_open (d := newD 65536) ⟨rfl, rfl⟩ (new_ok (by decide)))
  have HA0 : Hid ((newD 65536).all = []) := rfl
  rw [HA0.out, (sc_short (l := []) (by simp)).2] at HO0
  have HSC0 := Lib.hid (sc_short (l := []) (by simp)).1
  go_wp2_with fail
  refine (wopen_any none_ w3 w1.heap.size w1.heap.size _ D3.out (by rw [HA0.out]; simp)).mono ?_
  rintro y w4 ⟨_, h0⟩
  obtain ⟨gl, v4, rfl, hgl, hl4, hr4, hd4, hb4⟩ := h0 HO0.out.1
  rw [HO0.out.2] at hd4
  rw [HA0.out, HSC0.out] at hl4 hr4
  obtain ⟨p4, c4, rfl⟩ := hr4.shape
  have HREL : Hid (WS w w1.heap.size gl (tD (recsL []) []) 0 (.slice none 0 0) [] w4) := ⟨B1.out.size, Nat.le_trans C3.out.size hgl, B1.out.trans ((C3.out.trans hb4.1).mono B1.out.size), addP none_ gl, .inr rfl, hd4, hl4, OwnV.nil_ _ _ _, fun g hg => by cases hg⟩
  clear h0 hgl hl4 hr4 hd4 hb4 D3 C3 HO0 HA0 HSC0
  generalize w1.heap.size = B at *
  by_cases hsm : n < 1
  · have hsI : (n : Int) < 1 := by omega
    go_wp2_with fail
    go_ret
    exact ⟨rfl, HREL.out.bel⟩
  have hsI : ¬ (n : Int) < 1 := by omega
  by_cases hbg : 30 < n
  · have hbI : (30 : Int) < (n : Int) := by omega
    go_wp2_with fail
    go_ret
    exact ⟨rfl, HREL.out.bel⟩
  have hbI : ¬ (30 : Int) < (n : Int) := by omega
  generalize hLs : zs.map numL = Ls
  have HLL : Hid (Ls.length = n) := by show _ = _; rw [← hLs, List.length_map]; exact HN.out
  have HLG : Hid (∀ k, k < n → Ls.getD k [] = numL (zs.getD k 0)) := fun k hk => by
    rw [← hLs, List.getD_eq_getElem?_getD, List.getElem?_map, List.getD_eq_getElem?_getD, List.getElem?_eq_getElem (by rw [HN.out]; exact hk)]; rfl
  have HLO : Hid (∀ d ∈ Ls, Oct d ∧ d.length ≤ 10) := fun d hd => by
    rw [← hLs] at hd
    obtain ⟨z, hz, rfl⟩ := List.mem_map.1 hd
    have := H64.out z hz
    exact ⟨numL_oct z, numL_len this.1 this.2⟩
  have HLT : Hid (∀ k, k < n → Ls.take (k + 1) = Ls.take k ++ [Ls.getD k []]) := fun k hk => by
    have h : k < Ls.length := by rw [HLL.out]; exact hk
    rw [List.take_succ_eq_append_getElem h, List.getD_eq_getElem?_getD, List.getElem?_eq_getElem h]; rfl
  have HLS : Hid (∀ k, k ≤ n → (recsL (Ls.take k)).length ≤ 540) := fun k hk => by
    have h := recsL_leq (dss := Ls.take k) (m := 10) (fun d hd => (HLO.out d (List.mem_of_mem_take hd)).2)
    rw [List.length_take, HLL.out] at h
    omega
  clear hLs
  have HT0 : Hid (TRel w B gl Ls n 0 0 w4) := .inl ⟨by omega, rfl, HREL.out⟩
  clear HREL
  go_wp2_with fail
  go_loopw [11, 51] (fun s i wr => ∃ k sz : Nat, k ≤ n ∧ s = .int .i64 sz ∧ i = .int .i64 k ∧ Hid (TRel w B gl Ls n k sz wr)) (fun _ i _ => n - (intOf i).toNat)
  case atStart => exact ⟨0, 0, by omega, rfl, rfl, HT0⟩
  case round =>
    obtain ⟨k, sz, hk, rfl, rfl, HK⟩ := hrel
    clear HT0
    by_cases hlt : k < n
    · have hltI : (k : Int) < (n : Int) := by omega
      obtain ⟨b, o, rfl, hbl, hcw⟩ := HRC.out k hlt
      rcases HK.out with ⟨_, rfl, hws⟩ | ⟨h, _⟩
      rotate_left
      · omega
      have HW := Lib.hid hws
      have hc := (hws.bel.cell (p := ⟨b, o + k, none⟩) hbl).trans hcw
      have HZ : Hid (-9223372036854775808 ≤ zs.getD k 0 ∧ zs.getD k 0 ≤ 9223372036854775807) := H64.out.getD k
      have HGK := Lib.hid (HLG.out k hlt)
      have HTK := Lib.hid (HLT.out k hlt)
      have HLK := Lib.hid (HLS.out k hk)
      have HDO : Hid (Oct (Ls.getD k []) ∧ (Ls.getD k []).length ≤ 10) := by
        refine HLO.out _ ?_
        rw [List.getD_eq_getElem?_getD, List.getElem?_eq_getElem (by rw [HLL.out]; exact hlt)]
        exact List.getElem_mem _
      generalize hD : Ls.getD k [] = D at *
      have HD := Lib.hid hD
      generalize zs.getD k 0 = z at *
      clear hws hcw hD HK
      go_wp2_with fail
      refine (wnum_any _ [] z _ (Row.nil_ _ _ 0) (by simp) HZ.out.1 HZ.out.2).mono ?_
      rintro y w5 ⟨v5, rfl, ho5, hb5⟩
      rw [List.nil_append, ← HGK.out] at ho5
      obtain ⟨p5, c5, hv5⟩ := ho5.form
      subst hv5
      have HW5 := Lib.hid (HW.out.kept hb5)
      have HR5 := Lib.hid ho5.row
      clear ho5 hb5 hc hbl HW
      go_wp2_with fail
      refine (fapp_any _ _ [] D HDO.out.1 (by have := HDO.out.2; simp; omega) _ (Row.nil_ _ _ 0) HR5.out).mono ?_
      rintro y w6 ⟨hb6, _, hk6⟩
      obtain ⟨v6, rfl, ho6⟩ := hk6 (by have := HDO.out.2; omega)
      rw [List.nil_append] at ho6
      obtain ⟨p6, c6, hv6⟩ := ho6.form
      rw [recL_length] at hv6
      subst hv6
      have HW6 := Lib.hid (HW5.out.kept hb6)
      have HR6 := Lib.hid (HR5.out.kept hb6)
      have HPU := Lib.hid (tD_put (S := recsL (Ls.take k)) (ys := D) (by have := HLK.out; omega) (by have := HDO.out.2; omega))
      have HP := Lib.hid (ws_put HW6.out _ D (by omega) HDO.out.1 (by have := HDO.out.2; omega) HR6.out)
      have HA := Lib.hid (ws_add HW6.out _ D (by omega) HDO.out.1 (by have := HDO.out.2; omega) HR6.out)
      rw [HPU.out.1, HPU.out.2.1, if_pos rfl] at HP
      rw [HPU.out.2.2.1, HPU.out.2.2.2, HPU.out.1, if_pos rfl, ← recsL_snoc, ← HTK.out] at HA
      have hd10 : D.length ≤ 10 := HDO.out.2
      generalize hdn : D.length = dn at *
      have HDN := Lib.hid hdn
      clear ho6 hb6 hk6 hdn HPU
      have hsum : IntKind.i64.wrap (8 + (dn : Int)) = ((8 + dn : Nat) : Int) := by rw [IntWalk.i64_in _ (by omega)]; omega
      have hsub : IntKind.i64.wrap ((n : Int) - 1) = ((n - 1 : Nat) : Int) := by rw [IntWalk.i64_in _ (by omega)]; omega
      by_cases hlast : k + 1 = n
      · have hlI : (k : Int) = ((n - 1 : Nat) : Int) := by omega
        have hk1 : n - 1 = k := by omega
        go_wp2_with fail
        refine HP.out.mono ?_
        rintro y w7 ⟨rfl, hw7⟩
        have HNX : Hid (TRel w B gl Ls n (k + 1) (8 + dn) w7) := .inr ⟨hlast, by rw [hk1, HD.out, HDN.out], by rw [hk1, HD.out, ← hlast]; exact hw7⟩
        clear hw7 HP HA
        go_wp2_with fail
        go_roundw
        case rel => exact ⟨k + 1, 8 + dn, by omega, rfl, by go_num, HNX⟩
        case measure => simp [intOf]; omega
      · have hlI : ¬ (k : Int) = ((n - 1 : Nat) : Int) := by omega
        go_wp2_with fail
        refine HA.out.mono ?_
        rintro y w7 ⟨rfl, hw7⟩
        have HNX : Hid (TRel w B gl Ls n (k + 1) 0 w7) := .inl ⟨by omega, rfl, hw7⟩
        clear hw7 HP HA
        go_wp2_with fail
        go_roundw
        case rel => exact ⟨k + 1, 0, by omega, rfl, by go_num, HNX⟩
        case measure => simp [intOf]; omega
    · have hle : (n : Int) ≤ (k : Int) := by omega
      have hkn : k = n := by omega
      rcases HK.out with ⟨h, _⟩ | ⟨_, rfl, hws⟩
      · omega
      have HW := Lib.hid hws
      clear hws HK
      have HGM : Hid (gotL (Ls.take (n - 1)) (Ls.getD (n - 1) []) keep turn = Ls.take (if ((8 + (Ls.getD (n - 1) []).length : Nat) : Int) ≤ keep ∧ turn = 0 then n else n - 1)) := by
        show _ = _
        unfold gotL
        split
        · have h := HLT.out (n - 1) (by omega)
          rw [show n - 1 + 1 = n by omega] at h
          exact h.symm
        · rfl
      have HR1 : Hid (∀ d ∈ Ls, Rec1 16384 d) := fun d hd => ⟨(HLO.out d hd).1, Nat.le_trans (HLO.out d hd).2 (by decide)⟩
      have HRD : Hid (Rec1 16384 (Ls.getD (n - 1) [])) := by
        refine HR1.out _ ?_
        rw [List.getD_eq_getElem?_getD, List.getElem?_eq_getElem (by rw [HLL.out]; omega)]
        exact List.getElem_mem _
      have HDL : Hid ((Ls.getD (n - 1) []).length ≤ 10) := by
        refine (HLO.out _ ?_).2
        rw [List.getD_eq_getElem?_getD, List.getElem?_eq_getElem (by rw [HLL.out]; omega)]
        exact List.getElem_mem _
      have HLA := Lib.hid (HLS.out (n - 1) (by omega))
      have HTG := Lib.hid (torn_got (A := Ls.take (n - 1)) (D := Ls.getD (n - 1) []) (fun d hd => HR1.out d (List.mem_of_mem_take hd)) HRD.out keep HBT.out)
      rw [HGM.out] at HTG
      generalize hdn : (Ls.getD (n - 1) []).length = dn at *
      have HDN := Lib.hid hdn
      clear hdn HGM
      have hd10 : dn ≤ 10 := HDL.out
      have hsub : IntKind.i64.wrap ((n : Int) - 1) = ((n - 1 : Nat) : Int) := by rw [IntWalk.i64_in _ (by omega)]; omega
      have HCR := Lib.hid (ws_crash HW.out keep turn HBT.out (by show (recsL (Ls.take (n - 1))).length ≤ 65536; have := HLA.out; omega))
      rw [tD_crash] at HCR
      clear HW
      go_wp2_with fail
      refine HCR.out.mono ?_
      rintro y w5 ⟨rfl, hw5⟩
      have HUP := Lib.hid (ws_up hw5 (by show (recsL (Ls.take (n - 1))).length ≤ 65536; have := HLA.out; omega))
      rw [tC_up] at HUP
      clear hw5 HCR
      go_wp2_with fail
      refine HUP.out.mono ?_
      rintro y w6 ⟨rfl, hw6⟩
      have HOO := Lib.hid (calm_open (d := tD (recsL (Ls.take (n - 1)) ++ tornL (recL (Ls.getD (n - 1) [])) (keepN keep (recL (Ls.getD (n - 1) [])).length) turn) []) ⟨rfl, rfl⟩ hw6.ok)
      have HOP := Lib.hid (ws_openF hw6 (by rw [tD_all, List.append_nil, List.length_append, tornL_length (keepN_le _ _)]; have := HLA.out; have h1 := keepN_le keep (recL (Ls.getD (n - 1) [])).length; rw [recL_length, HDN.out] at h1; rw [recL_length, HDN.out]; omega) HOO.out.1)
      rw [HOO.out.2, tD_all, List.append_nil, HTG.out.1, HTG.out.2] at HOP
      clear hw6 HUP HOO HTG
      generalize hM : (if ((8 + dn : Nat) : Int) ≤ keep ∧ turn = 0 then n else n - 1) = M at *
      have hMn : M ≤ n := by rw [← hM]; split <;> omega
      have HMM := Lib.hid hM
      have HLM : Hid ((Ls.take M).length = M) := by show _ = _; rw [List.length_take, HLL.out]; omega
      rw [HLM.out] at HOP
      clear hM
      go_wp2_with fail
      refine HOP.out.mono ?_
      rintro y w7 ⟨gm, u7, rfl, hr7, hw7⟩
      obtain ⟨p7, c7, hv7⟩ := hr7.shape
      rw [HLM.out] at hv7
      subst hv7
      have HR7 := Lib.hid hr7.ss
      have HW7 : Hid (WS w B gm (tD (recsL (Ls.take M)) []) M (.slice none 0 0) [] w7) := hw7
      have HW7B : Hid (Below w.heap.size w w7) := hw7.bel
      clear hr7 hw7 HOP
      have HGK : Hid (∀ k, k < M → (Ls.take M).getD k [] = numL (zs.getD k 0)) := fun k hk => by
        rw [← HLG.out k (by omega), List.getD_eq_getElem?_getD, List.getD_eq_getElem?_getD, List.getElem?_take, if_pos hk]
      have HGO : Hid (∀ d ∈ Ls.take M, Oct d ∧ d.length ≤ 10) := fun d hd => HLO.out d (List.mem_of_mem_take hd)
      have HGS := Lib.hid (HLS.out M hMn)
      generalize Ls.take M = G at *
      have HB0 := Lib.hid (Below.refl w7.heap.size w7)
      by_cases h1 : ((8 + dn : Nat) : Int) ≤ keep
      · by_cases h2 : turn = 0
        · have hMe : M = n := by rw [← HMM.out, if_pos ⟨h1, h2⟩]
          have hadd : IntKind.i64.wrap (((n - 1 : Nat) : Int) + 1) = (M : Int) := by rw [IntWalk.i64_in _ (by omega)]; omega
          subst h2
          clear hMe
          go_wp2_with fail
          go_loopw [125] (fun i wr => ∃ k : Nat, k ≤ M ∧ i = .int .i64 k ∧ Hid (Below w7.heap.size w7 wr)) (fun i _ => M - (intOf i).toNat)
          case atStart => exact ⟨0, by omega, rfl, HB0⟩
          case round =>
            obtain ⟨k, hk, rfl, HK⟩ := hrel
            clear HB0
            by_cases hlt : k < M
            · have hltI : (k : Int) < (M : Int) := by omega
              obtain ⟨bz, oz, rfl, hbz, hcz0⟩ := HRC.out k (by omega)
              have hcz := (HK.out.cell (p := ⟨bz, oz + k, none⟩) (Nat.lt_of_lt_of_le hbz HW7B.out.size)).trans ((HW7B.out.cell (p := ⟨bz, oz + k, none⟩) hbz).trans hcz0)
              have hbz7 : bz < _ := Nat.lt_of_lt_of_le hbz (Nat.le_trans HW7B.out.size HK.out.size)
              obtain ⟨b, o, q, dd, rfl, hcw, hrow⟩ := (HR7.out.kept HK.out).at_ k (by rw [HLM.out]; exact hlt)
              have HROW := Lib.hid hrow
              have HZ : Hid (-9223372036854775808 ≤ zs.getD k 0 ∧ zs.getD k 0 ≤ 9223372036854775807) := H64.out.getD k
              have HGK1 := Lib.hid (HGK.out k hlt)
              have HGD : Hid (Oct (G.getD k []) ∧ (G.getD k []).length ≤ 10) := by
                refine HGO.out _ ?_
                rw [List.getD_eq_getElem?_getD, List.getElem?_eq_getElem (by rw [HLM.out]; exact hlt)]
                exact List.getElem_mem _
              have HNF : Hid (numV (G.getD k []) 0 = zs.getD k 0 ∧ numE (G.getD k []) 0 = 0 ∧ numR (G.getD k []) 0 = []) := by
                rw [HGK1.out]
                have e1 := numV_of HZ.out.1 HZ.out.2 []
                have e2 := numE_of HZ.out.1 HZ.out.2 []
                have e3 := numR_of HZ.out.1 HZ.out.2 []
                rw [List.append_nil] at e1 e2 e3
                exact ⟨e1, e2, e3⟩
              generalize G.getD k [] = D8 at *
              have h8l := HGD.out.2
              have HCZ := Lib.hid hcz
              clear hcz0 hrow
              go_wp2_with fail
              refine (read_any _ D8 _ HROW.out (by omega)).mono ?_
              rintro y w8 ⟨g, g0, rfl, hr8, hg8, _, hb8⟩
              have HRD8 := Lib.hid hr8
              have HG8 := Lib.hid (Nat.le_trans HK.out.size hg8)
              have HGB := Lib.hid (Nat.lt_of_lt_of_le hbz7 hg8)
              have HB8 := Lib.hid (HK.out.trans (hb8.mono HK.out.size))
              have hcz8 := (hb8.cell (p := ⟨bz, oz + k, none⟩) hbz7).trans HCZ.out
              have HBL8 := Lib.hid (Nat.lt_of_lt_of_le hbz7 hb8.size)
              have hkn8 : k < n := by omega
              clear hr8 hg8 hb8 hcz hcw hbz hbz7
              have HRD8D : Hid (Rdr w8.drew g g0 D8 0) := HRD8.out
              go_wp2_with fail
              refine wp_region_held_drew (S := fun w' => w'.cell? ⟨bz, oz + k, none⟩ = some (.int .i64 (zs.getD k 0))) (by kernel_rfl) (show w8.drew.cell? ⟨bz, oz + k, none⟩ = some (.int .i64 (zs.getD k 0)) from hcz8) (fun hS0 => ?_)
              refine wpAnyH_take (i := 0) (v := ?_) rfl (by kernel_rfl) (by kernel_rfl) (by kernel_rfl) (fun _ _ _ h => h) (Or.inl ⟨by kernel_rfl, ?_⟩) (by first | assumption | trivial) ?_
              rotate_left
              · intro w hSw
                try dsimp only at hSw
                first | (go_simp; done) | (go_simp; with_reducible rfl)
              try simp only [Act.put, List.getElem_toArray, List.getElem_cons_succ, List.getElem_cons_zero, List.setIfInBounds_toArray, List.set_cons_zero, List.set_cons_succ]
              refine wpAnyH_take (i := 2) (v := ?_) rfl (by kernel_rfl) (by kernel_rfl) (by kernel_rfl) (fun _ _ _ h => h) (Or.inl ⟨by kernel_rfl, ?_⟩) (by first | assumption | trivial) ?_
              rotate_left
              · intro w hSw
                try dsimp only at hSw
                first | (go_simp; done) | (go_simp; with_reducible rfl)
              try simp only [Act.put, List.getElem_toArray, List.getElem_cons_succ, List.getElem_cons_zero, List.setIfInBounds_toArray, List.set_cons_zero, List.set_cons_succ]
              refine wpAnyH_take (i := 3) (v := ?_) rfl (by kernel_rfl) (by kernel_rfl) (by kernel_rfl) (fun _ _ _ h => h) (Or.inl ⟨by kernel_rfl, ?_⟩) (by first | assumption | trivial) ?_
              rotate_left
              · intro w hSw
                try dsimp only at hSw
                first | (go_simp; done) | (go_simp; with_reducible rfl)
              try simp only [Act.put, List.getElem_toArray, List.getElem_cons_succ, List.getElem_cons_zero, List.setIfInBounds_toArray, List.set_cons_zero, List.set_cons_succ]
              refine wpAnyH_take (i := 4) (v := ?_) rfl (by kernel_rfl) (by kernel_rfl) (by kernel_rfl) (fun _ _ _ h => h) (Or.inl ⟨by kernel_rfl, ?_⟩) (by first | assumption | trivial) ?_
              rotate_left
              · intro w hSw
                try dsimp only at hSw
                first | (go_simp; done) | (go_simp; with_reducible rfl)
              try simp only [Act.put, List.getElem_toArray, List.getElem_cons_succ, List.getElem_cons_zero, List.setIfInBounds_toArray, List.set_cons_zero, List.set_cons_succ]
              refine wpAnyH_take (i := 5) (v := ?_) rfl (by kernel_rfl) (by kernel_rfl) (by kernel_rfl) (fun _ _ _ h => h) (Or.inl ⟨by kernel_rfl, ?_⟩) (by first | assumption | trivial) ?_
              rotate_left
              · intro w hSw
                try dsimp only at hSw
                first | (go_simp; done) | (go_simp; with_reducible rfl)
              try simp only [Act.put, List.getElem_toArray, List.getElem_cons_succ, List.getElem_cons_zero, List.setIfInBounds_toArray, List.set_cons_zero, List.set_cons_succ]
              refine wpAnyH_ready (rs := [1]) (by kernel_rfl) (by simp) ?_
              refine AllReadyH.cons rfl (fun K hK => ?_) AllReadyH.nil
              go_simp
              go_at_call 32
              refine (num_any g g0 D8 0 w8.drew HRD8D.out HGD.out.1 (by omega)).mono ?_
              rintro y w9 ⟨rfl, hc9, hr9⟩
              rw [HNF.out.2.1, HNF.out.2.2] at hr9
              rw [HNF.out.1]
              have HR9 := Lib.hid hr9
              have HC9 := Lib.hid hc9
              clear hr9 hc9
              try go_wp2_with fail
              refine hK.out _ _ ((HC9.out.cell (a := ⟨bz, oz + k, none⟩) HBL8.out (Nat.ne_of_lt HGB.out)).trans hcz8) (fun hS => ?_)
              clear hK K
              try simp only [Act.put, List.getElem_toArray, List.getElem_cons_succ, List.getElem_cons_zero, List.setIfInBounds_toArray, List.set_cons_zero, List.set_cons_succ]
              refine wpAnyH_take (i := 6) (v := ?_) rfl (by kernel_rfl) (by kernel_rfl) (by kernel_rfl) (fun _ _ _ h => h) (Or.inl ⟨by kernel_rfl, ?_⟩) (by first | assumption | trivial) ?_
              rotate_left
              · intro w hSw
                try dsimp only at hSw
                first | (go_simp; done) | (go_simp; with_reducible rfl)
              try simp only [Act.put, List.getElem_toArray, List.getElem_cons_succ, List.getElem_cons_zero, List.setIfInBounds_toArray, List.set_cons_zero, List.set_cons_succ]
              refine wpAnyH_take (i := 7) (v := ?_) rfl (by kernel_rfl) (by kernel_rfl) (by kernel_rfl) (fun _ _ _ h => h) (Or.inl ⟨by kernel_rfl, ?_⟩) (by first | assumption | trivial) ?_
              rotate_left
              · intro w hSw
                try dsimp only at hSw
                first | (go_simp; done) | (go_simp; with_reducible rfl)
              try simp only [Act.put, List.getElem_toArray, List.getElem_cons_succ, List.getElem_cons_zero, List.setIfInBounds_toArray, List.set_cons_zero, List.set_cons_succ]
              refine wpAnyH_take (i := 8) (v := ?_) rfl (by kernel_rfl) (by kernel_rfl) (by kernel_rfl) (fun _ _ _ h => h) (Or.inl ⟨by kernel_rfl, ?_⟩) (by first | assumption | trivial) ?_
              rotate_left
              · intro w hSw
                try dsimp only at hSw
                first | (go_simp; done) | (go_simp; with_reducible rfl)
              try simp only [Act.put, List.getElem_toArray, List.getElem_cons_succ, List.getElem_cons_zero, List.setIfInBounds_toArray, List.set_cons_zero, List.set_cons_succ]
              refine wpAnyH_ready (rs := [9]) (by kernel_rfl) (by simp) ?_
              refine AllReadyH.cons rfl (fun K hK => ?_) AllReadyH.nil
              go_simp
              go_at_call 33
              refine (end_any g g0 [] 0 w9 HR9.out (by simp)).mono ?_
              rintro y w10 ⟨rfl, hc10, hr10⟩
              rw [show endE [] 0 = 0 from rfl]
              have HC10 := Lib.hid (HC9.out.trans hc10)
              clear hc10 hr10
              try go_wp2_with fail
              refine hK.out _ _ ((HC10.out.cell (a := ⟨bz, oz + k, none⟩) HBL8.out (Nat.ne_of_lt HGB.out)).trans hcz8) (fun hS => ?_)
              clear hK K
              try simp only [Act.put, List.getElem_toArray, List.getElem_cons_succ, List.getElem_cons_zero, List.setIfInBounds_toArray, List.set_cons_zero, List.set_cons_succ]
              refine wpAnyH_take (i := 10) (v := ?_) rfl (by kernel_rfl) (by kernel_rfl) (by kernel_rfl) (fun _ _ _ h => h) (Or.inl ⟨by kernel_rfl, ?_⟩) (by first | assumption | trivial) ?_
              rotate_left
              · intro w hSw
                try dsimp only at hSw
                first | (go_simp; done) | (go_simp; with_reducible rfl)
              try simp only [Act.put, List.getElem_toArray, List.getElem_cons_succ, List.getElem_cons_zero, List.setIfInBounds_toArray, List.set_cons_zero, List.set_cons_succ]
              refine wpAnyH_take (i := 11) (v := ?_) rfl (by kernel_rfl) (by kernel_rfl) (by kernel_rfl) (fun _ _ _ h => h) (Or.inl ⟨by kernel_rfl, ?_⟩) (by first | assumption | trivial) ?_
              rotate_left
              · intro w hSw
                try dsimp only at hSw
                first | (go_simp; done) | (go_simp; with_reducible rfl)
              try simp only [Act.put, List.getElem_toArray, List.getElem_cons_succ, List.getElem_cons_zero, List.setIfInBounds_toArray, List.set_cons_zero, List.set_cons_succ]
              refine wpAnyH_done (by kernel_rfl) ?_ _
              have HNX : Hid (Below w7.heap.size w7 w10) := HB8.out.drew.trans (HC10.out.below HG8.out HB8.out.size)
              go_wp2_with fail
              go_roundw
              case rel => exact ⟨k + 1, by omega, by go_num, HNX⟩
              case measure => simp [intOf]; omega
            · have hle : (M : Int) ≤ (k : Int) := by omega
              have HW8 := Lib.hid (HW7.out.kept HK.out)
              have HWA := Lib.hid (fun (x : Obj) => HW8.out.kept (oneB _ x))
              have HPU := Lib.hid (tD_put (S := recsL G) (ys := [122]) (by have := HGS.out; omega) (by decide))
              go_wp2_with fail
              refine (ws_add (HWA.out _) _ [122] (by omega) (fun a ha => by simp at ha; omega) (by decide) (laid_row _ [122] _ rfl 5 (1, 2))).mono ?_
              rw [HPU.out.1, HPU.out.2.2.1, HPU.out.2.2.2, if_pos rfl, ← recsL_snoc]
              rintro y w11 ⟨rfl, hw11⟩
              have HSC := Lib.hid (sc_recs (ds := G ++ [[122]]) (fun d hd => by
                rcases List.mem_append.1 hd with h | h
                · exact ⟨(HGO.out d h).1, Nat.le_trans (HGO.out d h).2 (by decide)⟩
                · rw [List.mem_singleton.1 h]; exact ⟨(fun a ha => by simp at ha; omega), by decide⟩) (more := []) (fun a ha => by cases ha) (by simp))
              rw [List.append_nil] at HSC
              have HLZ : Hid ((G ++ [[122]]).length = M + 1) := by show _ = _; rw [List.length_append, HLM.out]; rfl
              have HLE : Hid ((recsL (G ++ [[122]])).length ≤ 6000) := by show _ ≤ _; rw [recsL_snoc, List.length_append, recL_length]; have := HGS.out; simp; omega
              have HGZ : Hid ((G ++ [[122]]).getD M [] = [122]) := by
                show _ = _
                rw [List.getD_eq_getElem?_getD, List.getElem?_append_right (by rw [HLM.out]; exact Nat.le_refl _), HLM.out, Nat.sub_self]; rfl
              have HOZ := Lib.hid (calm_open (d := tD (recsL (G ++ [[122]])) []) ⟨rfl, rfl⟩ hw11.ok)
              have HOP := Lib.hid (ws_open hw11 (by rw [tD_all, List.append_nil]; have := HLE.out; omega) HOZ.out.1)
              rw [HOZ.out.2, tD_all, List.append_nil, HSC.out.1, HSC.out.2, List.take_length, HLZ.out] at HOP
              clear hw11 HSC HOZ HPU HWA HW8 kc
              go_wp2_with fail
              refine HOP.out.mono ?_
              rintro y w12 ⟨gz, u12, rfl, hr12, hw12⟩
              obtain ⟨p2, c2, hv12⟩ := hr12.shape
              rw [HLZ.out] at hv12
              subst hv12
              obtain ⟨b, o, q, dd, rfl, hc12, hrow12⟩ := hr12.at_ M (by rw [HLZ.out]; omega)
              rw [HGZ.out] at hc12 hrow12
              have hcl : ([122] : List Int).length = 1 := rfl
              rw [hcl] at hc12 hrow12
              have HB12 := Lib.hid hw12.bel
              have k8 := conv_row (P := Try.prog) w12.drew 34 9 5 Try.underlying34 Try.underlying5 Try.underlying9 _ _ hrow12
              have k9 := conv_row (P := Try.prog) w12 34 9 5 Try.underlying34 Try.underlying5 Try.underlying9 _ _ hrow12
              have hadd9 : IntKind.i64.wrap ((M : Int) + 1) = ((M + 1 : Nat) : Int) := by rw [IntWalk.i64_in _ (by omega)]; omega
              have hM1 : M < M + 1 := by omega
              have hz : ((strOfNums [122]).toList == [122]) = true := by decide +kernel
              clear hr12 hw12 hrow12 HOP
              go_wp2_with fail
              go_ret
              exact ⟨rfl, HB12.out⟩
        · have hMe : M = n - 1 := by rw [← HMM.out, if_neg (fun h => h2 h.2)]
          rw [← hMe] at hsub
          have h2b : (turn == 0) = false := by simpa using h2
          clear h2
          clear hMe
          go_wp2_with fail
          go_loopw [125] (fun i wr => ∃ k : Nat, k ≤ M ∧ i = .int .i64 k ∧ Hid (Below w7.heap.size w7 wr)) (fun i _ => M - (intOf i).toNat)
          case atStart => exact ⟨0, by omega, rfl, HB0⟩
          case round =>
            obtain ⟨k, hk, rfl, HK⟩ := hrel
            clear HB0
            by_cases hlt : k < M
            · have hltI : (k : Int) < (M : Int) := by omega
              obtain ⟨bz, oz, rfl, hbz, hcz0⟩ := HRC.out k (by omega)
              have hcz := (HK.out.cell (p := ⟨bz, oz + k, none⟩) (Nat.lt_of_lt_of_le hbz HW7B.out.size)).trans ((HW7B.out.cell (p := ⟨bz, oz + k, none⟩) hbz).trans hcz0)
              have hbz7 : bz < _ := Nat.lt_of_lt_of_le hbz (Nat.le_trans HW7B.out.size HK.out.size)
              obtain ⟨b, o, q, dd, rfl, hcw, hrow⟩ := (HR7.out.kept HK.out).at_ k (by rw [HLM.out]; exact hlt)
              have HROW := Lib.hid hrow
              have HZ : Hid (-9223372036854775808 ≤ zs.getD k 0 ∧ zs.getD k 0 ≤ 9223372036854775807) := H64.out.getD k
              have HGK1 := Lib.hid (HGK.out k hlt)
              have HGD : Hid (Oct (G.getD k []) ∧ (G.getD k []).length ≤ 10) := by
                refine HGO.out _ ?_
                rw [List.getD_eq_getElem?_getD, List.getElem?_eq_getElem (by rw [HLM.out]; exact hlt)]
                exact List.getElem_mem _
              have HNF : Hid (numV (G.getD k []) 0 = zs.getD k 0 ∧ numE (G.getD k []) 0 = 0 ∧ numR (G.getD k []) 0 = []) := by
                rw [HGK1.out]
                have e1 := numV_of HZ.out.1 HZ.out.2 []
                have e2 := numE_of HZ.out.1 HZ.out.2 []
                have e3 := numR_of HZ.out.1 HZ.out.2 []
                rw [List.append_nil] at e1 e2 e3
                exact ⟨e1, e2, e3⟩
              generalize G.getD k [] = D8 at *
              have h8l := HGD.out.2
              have HCZ := Lib.hid hcz
              clear hcz0 hrow
              go_wp2_with fail
              refine (read_any _ D8 _ HROW.out (by omega)).mono ?_
              rintro y w8 ⟨g, g0, rfl, hr8, hg8, _, hb8⟩
              have HRD8 := Lib.hid hr8
              have HG8 := Lib.hid (Nat.le_trans HK.out.size hg8)
              have HGB := Lib.hid (Nat.lt_of_lt_of_le hbz7 hg8)
              have HB8 := Lib.hid (HK.out.trans (hb8.mono HK.out.size))
              have hcz8 := (hb8.cell (p := ⟨bz, oz + k, none⟩) hbz7).trans HCZ.out
              have HBL8 := Lib.hid (Nat.lt_of_lt_of_le hbz7 hb8.size)
              have hkn8 : k < n := by omega
              clear hr8 hg8 hb8 hcz hcw hbz hbz7
              have HRD8D : Hid (Rdr w8.drew g g0 D8 0) := HRD8.out
              go_wp2_with fail
              refine wp_region_held_drew (S := fun w' => w'.cell? ⟨bz, oz + k, none⟩ = some (.int .i64 (zs.getD k 0))) (by kernel_rfl) (show w8.drew.cell? ⟨bz, oz + k, none⟩ = some (.int .i64 (zs.getD k 0)) from hcz8) (fun hS0 => ?_)
              refine wpAnyH_take (i := 0) (v := ?_) rfl (by kernel_rfl) (by kernel_rfl) (by kernel_rfl) (fun _ _ _ h => h) (Or.inl ⟨by kernel_rfl, ?_⟩) (by first | assumption | trivial) ?_
              rotate_left
              · intro w hSw
                try dsimp only at hSw
                first | (go_simp; done) | (go_simp; with_reducible rfl)
              try simp only [Act.put, List.getElem_toArray, List.getElem_cons_succ, List.getElem_cons_zero, List.setIfInBounds_toArray, List.set_cons_zero, List.set_cons_succ]
              refine wpAnyH_take (i := 2) (v := ?_) rfl (by kernel_rfl) (by kernel_rfl) (by kernel_rfl) (fun _ _ _ h => h) (Or.inl ⟨by kernel_rfl, ?_⟩) (by first | assumption | trivial) ?_
              rotate_left
              · intro w hSw
                try dsimp only at hSw
                first | (go_simp; done) | (go_simp; with_reducible rfl)
              try simp only [Act.put, List.getElem_toArray, List.getElem_cons_succ, List.getElem_cons_zero, List.setIfInBounds_toArray, List.set_cons_zero, List.set_cons_succ]
              refine wpAnyH_take (i := 3) (v := ?_) rfl (by kernel_rfl) (by kernel_rfl) (by kernel_rfl) (fun _ _ _ h => h) (Or.inl ⟨by kernel_rfl, ?_⟩) (by first | assumption | trivial) ?_
              rotate_left
              · intro w hSw
                try dsimp only at hSw
                first | (go_simp; done) | (go_simp; with_reducible rfl)
              try simp only [Act.put, List.getElem_toArray, List.getElem_cons_succ, List.getElem_cons_zero, List.setIfInBounds_toArray, List.set_cons_zero, List.set_cons_succ]
              refine wpAnyH_take (i := 4) (v := ?_) rfl (by kernel_rfl) (by kernel_rfl) (by kernel_rfl) (fun _ _ _ h => h) (Or.inl ⟨by kernel_rfl, ?_⟩) (by first | assumption | trivial) ?_
              rotate_left
              · intro w hSw
                try dsimp only at hSw
                first | (go_simp; done) | (go_simp; with_reducible rfl)
              try simp only [Act.put, List.getElem_toArray, List.getElem_cons_succ, List.getElem_cons_zero, List.setIfInBounds_toArray, List.set_cons_zero, List.set_cons_succ]
              refine wpAnyH_take (i := 5) (v := ?_) rfl (by kernel_rfl) (by kernel_rfl) (by kernel_rfl) (fun _ _ _ h => h) (Or.inl ⟨by kernel_rfl, ?_⟩) (by first | assumption | trivial) ?_
              rotate_left
              · intro w hSw
                try dsimp only at hSw
                first | (go_simp; done) | (go_simp; with_reducible rfl)
              try simp only [Act.put, List.getElem_toArray, List.getElem_cons_succ, List.getElem_cons_zero, List.setIfInBounds_toArray, List.set_cons_zero, List.set_cons_succ]
              refine wpAnyH_ready (rs := [1]) (by kernel_rfl) (by simp) ?_
              refine AllReadyH.cons rfl (fun K hK => ?_) AllReadyH.nil
              go_simp
              go_at_call 32
              refine (num_any g g0 D8 0 w8.drew HRD8D.out HGD.out.1 (by omega)).mono ?_
              rintro y w9 ⟨rfl, hc9, hr9⟩
              rw [HNF.out.2.1, HNF.out.2.2] at hr9
              rw [HNF.out.1]
              have HR9 := Lib.hid hr9
              have HC9 := Lib.hid hc9
              clear hr9 hc9
              try go_wp2_with fail
              refine hK.out _ _ ((HC9.out.cell (a := ⟨bz, oz + k, none⟩) HBL8.out (Nat.ne_of_lt HGB.out)).trans hcz8) (fun hS => ?_)
              clear hK K
              try simp only [Act.put, List.getElem_toArray, List.getElem_cons_succ, List.getElem_cons_zero, List.setIfInBounds_toArray, List.set_cons_zero, List.set_cons_succ]
              refine wpAnyH_take (i := 6) (v := ?_) rfl (by kernel_rfl) (by kernel_rfl) (by kernel_rfl) (fun _ _ _ h => h) (Or.inl ⟨by kernel_rfl, ?_⟩) (by first | assumption | trivial) ?_
              rotate_left
              · intro w hSw
                try dsimp only at hSw
                first | (go_simp; done) | (go_simp; with_reducible rfl)
              try simp only [Act.put, List.getElem_toArray, List.getElem_cons_succ, List.getElem_cons_zero, List.setIfInBounds_toArray, List.set_cons_zero, List.set_cons_succ]
              refine wpAnyH_take (i := 7) (v := ?_) rfl (by kernel_rfl) (by kernel_rfl) (by kernel_rfl) (fun _ _ _ h => h) (Or.inl ⟨by kernel_rfl, ?_⟩) (by first | assumption | trivial) ?_
              rotate_left
              · intro w hSw
                try dsimp only at hSw
                first | (go_simp; done) | (go_simp; with_reducible rfl)
              try simp only [Act.put, List.getElem_toArray, List.getElem_cons_succ, List.getElem_cons_zero, List.setIfInBounds_toArray, List.set_cons_zero, List.set_cons_succ]
              refine wpAnyH_take (i := 8) (v := ?_) rfl (by kernel_rfl) (by kernel_rfl) (by kernel_rfl) (fun _ _ _ h => h) (Or.inl ⟨by kernel_rfl, ?_⟩) (by first | assumption | trivial) ?_
              rotate_left
              · intro w hSw
                try dsimp only at hSw
                first | (go_simp; done) | (go_simp; with_reducible rfl)
              try simp only [Act.put, List.getElem_toArray, List.getElem_cons_succ, List.getElem_cons_zero, List.setIfInBounds_toArray, List.set_cons_zero, List.set_cons_succ]
              refine wpAnyH_ready (rs := [9]) (by kernel_rfl) (by simp) ?_
              refine AllReadyH.cons rfl (fun K hK => ?_) AllReadyH.nil
              go_simp
              go_at_call 33
              refine (end_any g g0 [] 0 w9 HR9.out (by simp)).mono ?_
              rintro y w10 ⟨rfl, hc10, hr10⟩
              rw [show endE [] 0 = 0 from rfl]
              have HC10 := Lib.hid (HC9.out.trans hc10)
              clear hc10 hr10
              try go_wp2_with fail
              refine hK.out _ _ ((HC10.out.cell (a := ⟨bz, oz + k, none⟩) HBL8.out (Nat.ne_of_lt HGB.out)).trans hcz8) (fun hS => ?_)
              clear hK K
              try simp only [Act.put, List.getElem_toArray, List.getElem_cons_succ, List.getElem_cons_zero, List.setIfInBounds_toArray, List.set_cons_zero, List.set_cons_succ]
              refine wpAnyH_take (i := 10) (v := ?_) rfl (by kernel_rfl) (by kernel_rfl) (by kernel_rfl) (fun _ _ _ h => h) (Or.inl ⟨by kernel_rfl, ?_⟩) (by first | assumption | trivial) ?_
              rotate_left
              · intro w hSw
                try dsimp only at hSw
                first | (go_simp; done) | (go_simp; with_reducible rfl)
              try simp only [Act.put, List.getElem_toArray, List.getElem_cons_succ, List.getElem_cons_zero, List.setIfInBounds_toArray, List.set_cons_zero, List.set_cons_succ]
              refine wpAnyH_take (i := 11) (v := ?_) rfl (by kernel_rfl) (by kernel_rfl) (by kernel_rfl) (fun _ _ _ h => h) (Or.inl ⟨by kernel_rfl, ?_⟩) (by first | assumption | trivial) ?_
              rotate_left
              · intro w hSw
                try dsimp only at hSw
                first | (go_simp; done) | (go_simp; with_reducible rfl)
              try simp only [Act.put, List.getElem_toArray, List.getElem_cons_succ, List.getElem_cons_zero, List.setIfInBounds_toArray, List.set_cons_zero, List.set_cons_succ]
              refine wpAnyH_done (by kernel_rfl) ?_ _
              have HNX : Hid (Below w7.heap.size w7 w10) := HB8.out.drew.trans (HC10.out.below HG8.out HB8.out.size)
              go_wp2_with fail
              go_roundw
              case rel => exact ⟨k + 1, by omega, by go_num, HNX⟩
              case measure => simp [intOf]; omega
            · have hle : (M : Int) ≤ (k : Int) := by omega
              have HW8 := Lib.hid (HW7.out.kept HK.out)
              have HWA := Lib.hid (fun (x : Obj) => HW8.out.kept (oneB _ x))
              have HPU := Lib.hid (tD_put (S := recsL G) (ys := [122]) (by have := HGS.out; omega) (by decide))
              go_wp2_with fail
              refine (ws_add (HWA.out _) _ [122] (by omega) (fun a ha => by simp at ha; omega) (by decide) (laid_row _ [122] _ rfl 5 (1, 2))).mono ?_
              rw [HPU.out.1, HPU.out.2.2.1, HPU.out.2.2.2, if_pos rfl, ← recsL_snoc]
              rintro y w11 ⟨rfl, hw11⟩
              have HSC := Lib.hid (sc_recs (ds := G ++ [[122]]) (fun d hd => by
                rcases List.mem_append.1 hd with h | h
                · exact ⟨(HGO.out d h).1, Nat.le_trans (HGO.out d h).2 (by decide)⟩
                · rw [List.mem_singleton.1 h]; exact ⟨(fun a ha => by simp at ha; omega), by decide⟩) (more := []) (fun a ha => by cases ha) (by simp))
              rw [List.append_nil] at HSC
              have HLZ : Hid ((G ++ [[122]]).length = M + 1) := by show _ = _; rw [List.length_append, HLM.out]; rfl
              have HLE : Hid ((recsL (G ++ [[122]])).length ≤ 6000) := by show _ ≤ _; rw [recsL_snoc, List.length_append, recL_length]; have := HGS.out; simp; omega
              have HGZ : Hid ((G ++ [[122]]).getD M [] = [122]) := by
                show _ = _
                rw [List.getD_eq_getElem?_getD, List.getElem?_append_right (by rw [HLM.out]; exact Nat.le_refl _), HLM.out, Nat.sub_self]; rfl
              have HOZ := Lib.hid (calm_open (d := tD (recsL (G ++ [[122]])) []) ⟨rfl, rfl⟩ hw11.ok)
              have HOP := Lib.hid (ws_open hw11 (by rw [tD_all, List.append_nil]; have := HLE.out; omega) HOZ.out.1)
              rw [HOZ.out.2, tD_all, List.append_nil, HSC.out.1, HSC.out.2, List.take_length, HLZ.out] at HOP
              clear hw11 HSC HOZ HPU HWA HW8 kc
              go_wp2_with fail
              refine HOP.out.mono ?_
              rintro y w12 ⟨gz, u12, rfl, hr12, hw12⟩
              obtain ⟨p2, c2, hv12⟩ := hr12.shape
              rw [HLZ.out] at hv12
              subst hv12
              obtain ⟨b, o, q, dd, rfl, hc12, hrow12⟩ := hr12.at_ M (by rw [HLZ.out]; omega)
              rw [HGZ.out] at hc12 hrow12
              have hcl : ([122] : List Int).length = 1 := rfl
              rw [hcl] at hc12 hrow12
              have HB12 := Lib.hid hw12.bel
              have k8 := conv_row (P := Try.prog) w12.drew 34 9 5 Try.underlying34 Try.underlying5 Try.underlying9 _ _ hrow12
              have k9 := conv_row (P := Try.prog) w12 34 9 5 Try.underlying34 Try.underlying5 Try.underlying9 _ _ hrow12
              have hadd9 : IntKind.i64.wrap ((M : Int) + 1) = ((M + 1 : Nat) : Int) := by rw [IntWalk.i64_in _ (by omega)]; omega
              have hM1 : M < M + 1 := by omega
              have hz : ((strOfNums [122]).toList == [122]) = true := by decide +kernel
              clear hr12 hw12 hrow12 HOP
              go_wp2_with fail
              go_ret
              exact ⟨rfl, HB12.out⟩
      · have hMe : M = n - 1 := by rw [← HMM.out, if_neg (fun h => h1 h.1)]
        rw [← hMe] at hsub
        clear hMe
        go_wp2_with fail
        go_loopw [125] (fun i wr => ∃ k : Nat, k ≤ M ∧ i = .int .i64 k ∧ Hid (Below w7.heap.size w7 wr)) (fun i _ => M - (intOf i).toNat)
        case atStart => exact ⟨0, by omega, rfl, HB0⟩
        case round =>
          obtain ⟨k, hk, rfl, HK⟩ := hrel
          clear HB0
          by_cases hlt : k < M
          · have hltI : (k : Int) < (M : Int) := by omega
            obtain ⟨bz, oz, rfl, hbz, hcz0⟩ := HRC.out k (by omega)
            have hcz := (HK.out.cell (p := ⟨bz, oz + k, none⟩) (Nat.lt_of_lt_of_le hbz HW7B.out.size)).trans ((HW7B.out.cell (p := ⟨bz, oz + k, none⟩) hbz).trans hcz0)
            have hbz7 : bz < _ := Nat.lt_of_lt_of_le hbz (Nat.le_trans HW7B.out.size HK.out.size)
            obtain ⟨b, o, q, dd, rfl, hcw, hrow⟩ := (HR7.out.kept HK.out).at_ k (by rw [HLM.out]; exact hlt)
            have HROW := Lib.hid hrow
            have HZ : Hid (-9223372036854775808 ≤ zs.getD k 0 ∧ zs.getD k 0 ≤ 9223372036854775807) := H64.out.getD k
            have HGK1 := Lib.hid (HGK.out k hlt)
            have HGD : Hid (Oct (G.getD k []) ∧ (G.getD k []).length ≤ 10) := by
              refine HGO.out _ ?_
              rw [List.getD_eq_getElem?_getD, List.getElem?_eq_getElem (by rw [HLM.out]; exact hlt)]
              exact List.getElem_mem _
            have HNF : Hid (numV (G.getD k []) 0 = zs.getD k 0 ∧ numE (G.getD k []) 0 = 0 ∧ numR (G.getD k []) 0 = []) := by
              rw [HGK1.out]
              have e1 := numV_of HZ.out.1 HZ.out.2 []
              have e2 := numE_of HZ.out.1 HZ.out.2 []
              have e3 := numR_of HZ.out.1 HZ.out.2 []
              rw [List.append_nil] at e1 e2 e3
              exact ⟨e1, e2, e3⟩
            generalize G.getD k [] = D8 at *
            have h8l := HGD.out.2
            have HCZ := Lib.hid hcz
            clear hcz0 hrow
            go_wp2_with fail
            refine (read_any _ D8 _ HROW.out (by omega)).mono ?_
            rintro y w8 ⟨g, g0, rfl, hr8, hg8, _, hb8⟩
            have HRD8 := Lib.hid hr8
            have HG8 := Lib.hid (Nat.le_trans HK.out.size hg8)
            have HGB := Lib.hid (Nat.lt_of_lt_of_le hbz7 hg8)
            have HB8 := Lib.hid (HK.out.trans (hb8.mono HK.out.size))
            have hcz8 := (hb8.cell (p := ⟨bz, oz + k, none⟩) hbz7).trans HCZ.out
            have HBL8 := Lib.hid (Nat.lt_of_lt_of_le hbz7 hb8.size)
            have hkn8 : k < n := by omega
            clear hr8 hg8 hb8 hcz hcw hbz hbz7
            have HRD8D : Hid (Rdr w8.drew g g0 D8 0) := HRD8.out
            go_wp2_with fail
            refine wp_region_held_drew (S := fun w' => w'.cell? ⟨bz, oz + k, none⟩ = some (.int .i64 (zs.getD k 0))) (by kernel_rfl) (show w8.drew.cell? ⟨bz, oz + k, none⟩ = some (.int .i64 (zs.getD k 0)) from hcz8) (fun hS0 => ?_)
            refine wpAnyH_take (i := 0) (v := ?_) rfl (by kernel_rfl) (by kernel_rfl) (by kernel_rfl) (fun _ _ _ h => h) (Or.inl ⟨by kernel_rfl, ?_⟩) (by first | assumption | trivial) ?_
            rotate_left
            · intro w hSw
              try dsimp only at hSw
              first | (go_simp; done) | (go_simp; with_reducible rfl)
            try simp only [Act.put, List.getElem_toArray, List.getElem_cons_succ, List.getElem_cons_zero, List.setIfInBounds_toArray, List.set_cons_zero, List.set_cons_succ]
            refine wpAnyH_take (i := 2) (v := ?_) rfl (by kernel_rfl) (by kernel_rfl) (by kernel_rfl) (fun _ _ _ h => h) (Or.inl ⟨by kernel_rfl, ?_⟩) (by first | assumption | trivial) ?_
            rotate_left
            · intro w hSw
              try dsimp only at hSw
              first | (go_simp; done) | (go_simp; with_reducible rfl)
            try simp only [Act.put, List.getElem_toArray, List.getElem_cons_succ, List.getElem_cons_zero, List.setIfInBounds_toArray, List.set_cons_zero, List.set_cons_succ]
            refine wpAnyH_take (i := 3) (v := ?_) rfl (by kernel_rfl) (by kernel_rfl) (by kernel_rfl) (fun _ _ _ h => h) (Or.inl ⟨by kernel_rfl, ?_⟩) (by first | assumption | trivial) ?_
            rotate_left
            · intro w hSw
              try dsimp only at hSw
              first | (go_simp; done) | (go_simp; with_reducible rfl)
            try simp only [Act.put, List.getElem_toArray, List.getElem_cons_succ, List.getElem_cons_zero, List.setIfInBounds_toArray, List.set_cons_zero, List.set_cons_succ]
            refine wpAnyH_take (i := 4) (v := ?_) rfl (by kernel_rfl) (by kernel_rfl) (by kernel_rfl) (fun _ _ _ h => h) (Or.inl ⟨by kernel_rfl, ?_⟩) (by first | assumption | trivial) ?_
            rotate_left
            · intro w hSw
              try dsimp only at hSw
              first | (go_simp; done) | (go_simp; with_reducible rfl)
            try simp only [Act.put, List.getElem_toArray, List.getElem_cons_succ, List.getElem_cons_zero, List.setIfInBounds_toArray, List.set_cons_zero, List.set_cons_succ]
            refine wpAnyH_take (i := 5) (v := ?_) rfl (by kernel_rfl) (by kernel_rfl) (by kernel_rfl) (fun _ _ _ h => h) (Or.inl ⟨by kernel_rfl, ?_⟩) (by first | assumption | trivial) ?_
            rotate_left
            · intro w hSw
              try dsimp only at hSw
              first | (go_simp; done) | (go_simp; with_reducible rfl)
            try simp only [Act.put, List.getElem_toArray, List.getElem_cons_succ, List.getElem_cons_zero, List.setIfInBounds_toArray, List.set_cons_zero, List.set_cons_succ]
            refine wpAnyH_ready (rs := [1]) (by kernel_rfl) (by simp) ?_
            refine AllReadyH.cons rfl (fun K hK => ?_) AllReadyH.nil
            go_simp
            go_at_call 32
            refine (num_any g g0 D8 0 w8.drew HRD8D.out HGD.out.1 (by omega)).mono ?_
            rintro y w9 ⟨rfl, hc9, hr9⟩
            rw [HNF.out.2.1, HNF.out.2.2] at hr9
            rw [HNF.out.1]
            have HR9 := Lib.hid hr9
            have HC9 := Lib.hid hc9
            clear hr9 hc9
            try go_wp2_with fail
            refine hK.out _ _ ((HC9.out.cell (a := ⟨bz, oz + k, none⟩) HBL8.out (Nat.ne_of_lt HGB.out)).trans hcz8) (fun hS => ?_)
            clear hK K
            try simp only [Act.put, List.getElem_toArray, List.getElem_cons_succ, List.getElem_cons_zero, List.setIfInBounds_toArray, List.set_cons_zero, List.set_cons_succ]
            refine wpAnyH_take (i := 6) (v := ?_) rfl (by kernel_rfl) (by kernel_rfl) (by kernel_rfl) (fun _ _ _ h => h) (Or.inl ⟨by kernel_rfl, ?_⟩) (by first | assumption | trivial) ?_
            rotate_left
            · intro w hSw
              try dsimp only at hSw
              first | (go_simp; done) | (go_simp; with_reducible rfl)
            try simp only [Act.put, List.getElem_toArray, List.getElem_cons_succ, List.getElem_cons_zero, List.setIfInBounds_toArray, List.set_cons_zero, List.set_cons_succ]
            refine wpAnyH_take (i := 7) (v := ?_) rfl (by kernel_rfl) (by kernel_rfl) (by kernel_rfl) (fun _ _ _ h => h) (Or.inl ⟨by kernel_rfl, ?_⟩) (by first | assumption | trivial) ?_
            rotate_left
            · intro w hSw
              try dsimp only at hSw
              first | (go_simp; done) | (go_simp; with_reducible rfl)
            try simp only [Act.put, List.getElem_toArray, List.getElem_cons_succ, List.getElem_cons_zero, List.setIfInBounds_toArray, List.set_cons_zero, List.set_cons_succ]
            refine wpAnyH_take (i := 8) (v := ?_) rfl (by kernel_rfl) (by kernel_rfl) (by kernel_rfl) (fun _ _ _ h => h) (Or.inl ⟨by kernel_rfl, ?_⟩) (by first | assumption | trivial) ?_
            rotate_left
            · intro w hSw
              try dsimp only at hSw
              first | (go_simp; done) | (go_simp; with_reducible rfl)
            try simp only [Act.put, List.getElem_toArray, List.getElem_cons_succ, List.getElem_cons_zero, List.setIfInBounds_toArray, List.set_cons_zero, List.set_cons_succ]
            refine wpAnyH_ready (rs := [9]) (by kernel_rfl) (by simp) ?_
            refine AllReadyH.cons rfl (fun K hK => ?_) AllReadyH.nil
            go_simp
            go_at_call 33
            refine (end_any g g0 [] 0 w9 HR9.out (by simp)).mono ?_
            rintro y w10 ⟨rfl, hc10, hr10⟩
            rw [show endE [] 0 = 0 from rfl]
            have HC10 := Lib.hid (HC9.out.trans hc10)
            clear hc10 hr10
            try go_wp2_with fail
            refine hK.out _ _ ((HC10.out.cell (a := ⟨bz, oz + k, none⟩) HBL8.out (Nat.ne_of_lt HGB.out)).trans hcz8) (fun hS => ?_)
            clear hK K
            try simp only [Act.put, List.getElem_toArray, List.getElem_cons_succ, List.getElem_cons_zero, List.setIfInBounds_toArray, List.set_cons_zero, List.set_cons_succ]
            refine wpAnyH_take (i := 10) (v := ?_) rfl (by kernel_rfl) (by kernel_rfl) (by kernel_rfl) (fun _ _ _ h => h) (Or.inl ⟨by kernel_rfl, ?_⟩) (by first | assumption | trivial) ?_
            rotate_left
            · intro w hSw
              try dsimp only at hSw
              first | (go_simp; done) | (go_simp; with_reducible rfl)
            try simp only [Act.put, List.getElem_toArray, List.getElem_cons_succ, List.getElem_cons_zero, List.setIfInBounds_toArray, List.set_cons_zero, List.set_cons_succ]
            refine wpAnyH_take (i := 11) (v := ?_) rfl (by kernel_rfl) (by kernel_rfl) (by kernel_rfl) (fun _ _ _ h => h) (Or.inl ⟨by kernel_rfl, ?_⟩) (by first | assumption | trivial) ?_
            rotate_left
            · intro w hSw
              try dsimp only at hSw
              first | (go_simp; done) | (go_simp; with_reducible rfl)
            try simp only [Act.put, List.getElem_toArray, List.getElem_cons_succ, List.getElem_cons_zero, List.setIfInBounds_toArray, List.set_cons_zero, List.set_cons_succ]
            refine wpAnyH_done (by kernel_rfl) ?_ _
            have HNX : Hid (Below w7.heap.size w7 w10) := HB8.out.drew.trans (HC10.out.below HG8.out HB8.out.size)
            go_wp2_with fail
            go_roundw
            case rel => exact ⟨k + 1, by omega, by go_num, HNX⟩
            case measure => simp [intOf]; omega
          · have hle : (M : Int) ≤ (k : Int) := by omega
            have HW8 := Lib.hid (HW7.out.kept HK.out)
            have HWA := Lib.hid (fun (x : Obj) => HW8.out.kept (oneB _ x))
            have HPU := Lib.hid (tD_put (S := recsL G) (ys := [122]) (by have := HGS.out; omega) (by decide))
            go_wp2_with fail
            refine (ws_add (HWA.out _) _ [122] (by omega) (fun a ha => by simp at ha; omega) (by decide) (laid_row _ [122] _ rfl 5 (1, 2))).mono ?_
            rw [HPU.out.1, HPU.out.2.2.1, HPU.out.2.2.2, if_pos rfl, ← recsL_snoc]
            rintro y w11 ⟨rfl, hw11⟩
            have HSC := Lib.hid (sc_recs (ds := G ++ [[122]]) (fun d hd => by
              rcases List.mem_append.1 hd with h | h
              · exact ⟨(HGO.out d h).1, Nat.le_trans (HGO.out d h).2 (by decide)⟩
              · rw [List.mem_singleton.1 h]; exact ⟨(fun a ha => by simp at ha; omega), by decide⟩) (more := []) (fun a ha => by cases ha) (by simp))
            rw [List.append_nil] at HSC
            have HLZ : Hid ((G ++ [[122]]).length = M + 1) := by show _ = _; rw [List.length_append, HLM.out]; rfl
            have HLE : Hid ((recsL (G ++ [[122]])).length ≤ 6000) := by show _ ≤ _; rw [recsL_snoc, List.length_append, recL_length]; have := HGS.out; simp; omega
            have HGZ : Hid ((G ++ [[122]]).getD M [] = [122]) := by
              show _ = _
              rw [List.getD_eq_getElem?_getD, List.getElem?_append_right (by rw [HLM.out]; exact Nat.le_refl _), HLM.out, Nat.sub_self]; rfl
            have HOZ := Lib.hid (calm_open (d := tD (recsL (G ++ [[122]])) []) ⟨rfl, rfl⟩ hw11.ok)
            have HOP := Lib.hid (ws_open hw11 (by rw [tD_all, List.append_nil]; have := HLE.out; omega) HOZ.out.1)
            rw [HOZ.out.2, tD_all, List.append_nil, HSC.out.1, HSC.out.2, List.take_length, HLZ.out] at HOP
            clear hw11 HSC HOZ HPU HWA HW8 kc
            go_wp2_with fail
            refine HOP.out.mono ?_
            rintro y w12 ⟨gz, u12, rfl, hr12, hw12⟩
            obtain ⟨p2, c2, hv12⟩ := hr12.shape
            rw [HLZ.out] at hv12
            subst hv12
            obtain ⟨b, o, q, dd, rfl, hc12, hrow12⟩ := hr12.at_ M (by rw [HLZ.out]; omega)
            rw [HGZ.out] at hc12 hrow12
            have hcl : ([122] : List Int).length = 1 := rfl
            rw [hcl] at hc12 hrow12
            have HB12 := Lib.hid hw12.bel
            have k8 := conv_row (P := Try.prog) w12.drew 34 9 5 Try.underlying34 Try.underlying5 Try.underlying9 _ _ hrow12
            have k9 := conv_row (P := Try.prog) w12 34 9 5 Try.underlying34 Try.underlying5 Try.underlying9 _ _ hrow12
            have hadd9 : IntKind.i64.wrap ((M : Int) + 1) = ((M + 1 : Nat) : Int) := by rw [IntWalk.i64_in _ (by omega)]; omega
            have hM1 : M < M + 1 := by omega
            have hz : ((strOfNums [122]).toList == [122]) = true := by decide +kernel
            clear hr12 hw12 hrow12 HOP
            go_wp2_with fail
            go_ret
            exact ⟨rfl, HB12.out⟩
end Go.Proofs.Ytjbhcdmeeakdcaa
