/- WalRenews: the walk. -/
import Derived.Test.YtjbhcdmeeakdcaaWalMore
import Derived.Test.YtjbhcdmeeakdcaaFits
import Derived.Deep.RegionHeld3
namespace Go.Proofs.Ytjbhcdmeeakdcaa
open Go.RowKit
theorem recsL_leq {dss : List (List Int)} {m : Nat} (h : ∀ d ∈ dss, d.length ≤ m) : (recsL dss).length ≤ (8 + m) * dss.length := by
  induction dss with
  | nil => simp [recsL]
  | cons d ds ih =>
    have i := ih (fun x hx => h x (by simp [hx]))
    have h1 := h d (by simp)
    rw [recsL_cons, List.length_append, recL_length, List.length_cons, Nat.mul_succ]
    omega
/-- A calm disk with these bytes, a crash due in f bytes. -/
def cD (S : List Int) (f : Int) : DSt := ⟨1048576, S, [], false, false, f⟩
theorem cD_add {S ys : List Int} (hl : S.length ≤ 100000) (hy : ys.length ≤ 16384) : putE (cD S (-1)) ys = 0 ∧ addE (cD S (-1)) ys = 0 ∧ addD (cD S (-1)) ys = cD (S ++ recL ys) (-1) := by
  have hf : ¬ (cD S (-1)).free < ((recL ys).length : Int) := by
    show ¬ ((1048576 : Nat) : Int) - (S.length : Int) - (([] : List Int).length : Int) < ((recL ys).length : Int)
    rw [recL_length]
    simp
    omega
  have h := calm_write (d := cD S (-1)) ⟨rfl, rfl⟩ (zs := recL ys) hf
  have e1 : putE (cD S (-1)) ys = 0 := by unfold putE; rw [if_neg (by omega)]; exact h.1
  have e2 : putD (cD S (-1)) ys = ⟨1048576, S, recL ys, false, false, -1⟩ := by unfold putD; rw [if_neg (by omega)]; exact h.2
  have hs := calm_sync (d := ⟨1048576, S, recL ys, false, false, -1⟩) ⟨rfl, rfl⟩
  refine ⟨e1, ?_, ?_⟩
  · unfold addE; rw [if_pos e1, e2]; exact hs.1
  · unfold addD; rw [if_pos e1, e2]; exact hs.2
theorem cD_renew {W : List Int} {dss : List (List Int)} (f : Int) (hs : Short dss) (hl : (recsL dss).length ≤ 1048576) :
    (renewLE (cD W f) dss = 0 ∧ renLE (cD W f) dss = 0 ∧ ∃ g, renLD (cD W f) dss = cD (recsL dss) g) ∨ (renewLE (cD W f) dss = 60 ∧ renLE (cD W f) dss = 60 ∧ renLD (cD W f) dss = ⟨1048576, W, [], false, true, -1⟩) := by
  have hnd : ¬ (cD W f).dn = true := Bool.false_ne_true
  have hr : ¬ (cD W f).room < (recsL dss).length := by show ¬ 1048576 < _; omega
  have hE : renewLE (cD W f) dss = (cD W f).renewE (recsL dss).length := if_pos hs
  have hD : renewLD (cD W f) dss = (cD W f).renewD (recsL dss) := if_pos hs
  by_cases hsp : spendE f (recsL dss).length = true
  · right
    have e1 : (cD W f).renewE (recsL dss).length = 60 := by
      unfold DSt.renewE
      rw [if_neg hnd, if_neg hr]
      exact if_pos hsp
    have e2 : (cD W f).renewD (recsL dss) = ⟨1048576, W, [], false, true, -1⟩ := by
      unfold DSt.renewD
      rw [if_neg (by intro h; rcases h with h | h; exact hnd h; exact hr h)]
      exact if_pos hsp
    rw [e1] at hE
    rw [e2] at hD
    refine ⟨hE, ?_, ?_⟩
    · unfold renLE; rw [hE]; rfl
    · unfold renLD; rw [hE, hD]; rfl
  · left
    have e1 : (cD W f).renewE (recsL dss).length = 0 := by
      unfold DSt.renewE
      rw [if_neg hnd, if_neg hr]
      exact if_neg hsp
    have e2 : (cD W f).renewD (recsL dss) = ⟨1048576, W, recsL dss, true, false, spendL f (recsL dss).length⟩ := by
      unfold DSt.renewD
      rw [if_neg (by intro h; rcases h with h | h; exact hnd h; exact hr h)]
      exact if_neg hsp
    rw [e1] at hE
    rw [e2] at hD
    refine ⟨hE, ?_, spendL f (recsL dss).length, ?_⟩
    · unfold renLE; rw [hE, hD]; rfl
    · unfold renLD; rw [hE, hD]
      rw [if_pos rfl]
      unfold DSt.syncD DSt.settleD DSt.all DSt.ahead cD
      simp
theorem cD_up (W : List Int) : (⟨1048576, W, [], false, true, -1⟩ : DSt).upD = cD W (-1) := by
  unfold DSt.upD DSt.giveD DSt.settleD DSt.all DSt.ahead cD
  simp
theorem cD_fuse (W : List Int) (f g : Int) : (cD W f).fuseD g = cD W g := rfl
theorem cD_all (W : List Int) (f : Int) : (cD W f).all = W := by unfold DSt.all DSt.ahead cD; simp
theorem fits_two {dss ess : List (List Int)} (h : fitsB 2 (fun i => ⟨0, 0, [], if i = 0 then dss else ess, 0⟩) = true) : (dss.length ≤ 10 ∧ ∀ d ∈ dss, d.length ≤ 500) ∧ (ess.length ≤ 10 ∧ ∀ d ∈ ess, d.length ≤ 500) := by
  unfold fitsB at h
  rw [if_neg (by decide)] at h
  have e : (List.range 2).map (fun i => (⟨0, 0, [], if i = 0 then dss else ess, 0⟩ : OpW)) = [⟨0, 0, [], dss, 0⟩, ⟨0, 0, [], ess, 0⟩] := rfl
  rw [e] at h
  clear e
  have key : ∀ (n : Nat) (l : List (List Int)) (os : List OpW), fitE n (⟨0, 0, [], l, 0⟩ :: os) = true → (l.length ≤ 10 ∧ ∀ d ∈ l, d.length ≤ 500) ∧ ∃ m, fitE m os = true := by
    intro n l os h
    unfold fitE at h
    by_cases h1 : 17000 < ([] : List Int).length ∨ 10 < l.length
    · rw [if_pos h1] at h; cases h
    · rw [if_neg h1] at h
      cases h2 : inE (n + ([] : List Int).length) l with
      | none => rw [h2] at h; cases h
      | some t =>
        rw [h2] at h
        by_cases h3 : 40000 < t
        · simp only [h3, if_true] at h; cases h
        · simp only [h3, if_false] at h
          exact ⟨⟨by omega, (inE_short h2).1⟩, t, h⟩
  obtain ⟨h1, m, h2⟩ := key _ _ _ h
  obtain ⟨h3, _⟩ := key _ _ _ h2
  exact ⟨h1, h3⟩
theorem fit_list {l : List (List Int)} (h : ∀ d ∈ l, Oct d) : OpW.Fit ⟨0, 0, [], l, 0⟩ := by
  refine ⟨?_, ?_, (fun a ha => by cases ha), h, ?_, ?_⟩
  · show (-9223372036854775808 : Int) ≤ 0 ∧ (0 : Int) ≤ 9223372036854775807; decide
  · show (-9223372036854775808 : Int) ≤ 0 ∧ (0 : Int) ≤ 9223372036854775807; decide
  · show (0 : Int) ≤ 0; decide
  · show (0 : Int) < 256; decide
theorem two_row (w : World) (pv pu : Option Addr) (n m cv cu : Nat) (dss ess : List (List Int)) (ho : ∀ d ∈ dss, Oct d) (ho' : ∀ d ∈ ess, Oct d) (hr : RowSS w (.slice pv n cv) dss) (hr' : RowSS w (.slice pu m cu) ess) :
    OpRowW (w.alloc (.cells #[.int .i64 0, .int .i64 0, .slice none 0 0, .slice pv n cv, .int .u8 0, .int .i64 0, .int .i64 0, .slice none 0 0, .slice pu m cu, .int .u8 0] 36)) (.slice (some ⟨w.heap.size, 0, none⟩) 2 2) 2 (fun i => ⟨0, 0, [], if i = 0 then dss else ess, 0⟩) := by
  have hb := Blk.new w #[.int .i64 0, .int .i64 0, .slice none 0 0, .slice pv n cv, .int .u8 0, .int .i64 0, .int .i64 0, .slice none 0 0, .slice pu m cu, .int .u8 0] 36
  refine ⟨_, _, rfl, Nat.le_refl _, .inr ⟨w.heap.size, 0, rfl, fun i hi => ?_⟩⟩
  have hk := oneB w (.cells #[.int .i64 0, .int .i64 0, .slice none 0 0, .slice pv n cv, .int .u8 0, .int .i64 0, .int .i64 0, .slice none 0 0, .slice pu m cu, .int .u8 0] 36)
  match i, hi with
  | 0, _ => exact ⟨fit_list ho, hb.cell 0, hb.cell 1, ⟨_, hb.cell 2, Row.nil_ _ _ _⟩, ⟨_, hb.cell 3, hr.kept hk⟩, hb.cell 4⟩
  | 1, _ => exact ⟨fit_list ho', hb.cell 5, hb.cell 6, ⟨_, hb.cell 7, Row.nil_ _ _ _⟩, ⟨_, hb.cell 8, hr'.kept hk⟩, hb.cell 9⟩
set_option linter.unusedSimpArgs false in
set_option maxHeartbeats 16000000 in
set_option maxRecDepth 100000 in
theorem wrenews_walk (v u : Value) (dss ess : List (List Int)) (fuse : Int) (w : World) (ho : ∀ d ∈ dss, Oct d) (hr : RowSS w v dss) (ho' : ∀ d ∈ ess, Oct d) (hr' : RowSS w u ess) (bf : -9223372036854775808 ≤ fuse ∧ fuse ≤ 9223372036854775807) : Calls Try.prog 5 #[v, u, .int .i64 fuse] w fun e w' => e = .returned (.bool true) ∧ Below w.heap.size w w' := by
  have HL := Lib.hid (fun w => logs_any w)
  obtain ⟨pv, cv, rfl⟩ := hr.shape
  obtain ⟨pu, cu, rfl⟩ := hr'.shape
  have HR := Lib.hid hr
  have HU := Lib.hid hr'
  have HO := Lib.hid ho
  have HO' := Lib.hid ho'
  have HBF := Lib.hid bf
  clear hr ho hr' ho' bf
  generalize hn : dss.length = n at *
  have HN := Lib.hid hn
  clear hn
  generalize hm : ess.length = m at *
  have HM := Lib.hid hm
  clear hm
  go_enter Try.func5, Try.ntmps5
  go_wp2_with fail
  refine (HL.out _).mono ?_
  rintro y w1 ⟨rfl, hb1⟩
  have B1 := Lib.hid hb1
  clear hb1 HL
  go_wp2_with fail
  refine (fits_any _ _ 2 _ (two_row w1 pv pu n m cv cu dss ess HO.out HO'.out (HR.out.kept B1.out) (HU.out.kept B1.out))).mono ?_
  rintro y w2 ⟨rfl, hb2⟩
  have B2 : Hid (Below w.heap.size w w2) := (B1.out.alloc B1.out.size _).trans (hb2.mono (B1.out.alloc B1.out.size _).size)
  clear hb2
  by_cases hf : fitsB 2 (fun i => ⟨0, 0, [], if i = 0 then dss else ess, 0⟩) = true
  rotate_left
  · have hf' : fitsB 2 (fun i => ⟨0, 0, [], if i = 0 then dss else ess, 0⟩) = false := by simpa using hf
    rw [hf']
    clear hf hf'
    go_wp2_with fail
    go_ret
    exact ⟨rfl, B2.out⟩
  have HFT := Lib.hid (fits_two hf)
  have HSD : Hid (∀ d ∈ dss, d.length ≤ 500) := HFT.out.1.2
  have HSE : Hid (∀ d ∈ ess, d.length ≤ 500) := HFT.out.2.2
  have hn10 : n ≤ 10 := by rw [← HN.out]; exact HFT.out.1.1
  have hm10 : m ≤ 10 := by rw [← HM.out]; exact HFT.out.2.1
  rw [hf]
  clear hf HFT
  go_wp2_with fail
  refine (new_any 1048576 w2).mono ?_
  rintro y w3 ⟨hb3, _, hk3⟩
  obtain ⟨rfl, hd3⟩ := hk3 (by decide)
  have D3 : Hid (Dkp none_ w3 w2.heap.size w2.heap.size (newD 1048576)) := hd3.dkp
  have C3 := Lib.hid hb3
  clear hb3 hk3 hd3
  have HO0 := Lib.hid (calm_open (d := newD 1048576) ⟨rfl, rfl⟩ (new_ok (by decide)))
  have HA0 : Hid ((newD 1048576).all = []) := rfl
  rw [HA0.out, (sc_short (l := []) (by simp)).2] at HO0
  have HSC0 := Lib.hid (sc_short (l := []) (by simp)).1
  go_wp2_with fail
  refine (wopen_any none_ w3 w2.heap.size w2.heap.size _ D3.out (by rw [HA0.out]; simp)).mono ?_
  rintro y w4 ⟨_, h0⟩
  obtain ⟨gl, v4, rfl, hgl, hl4, hr4, hd4, hb4⟩ := h0 HO0.out.1
  rw [HO0.out.2] at hd4
  rw [HA0.out, HSC0.out] at hl4 hr4
  obtain ⟨p4, c4, rfl⟩ := hr4.shape
  have HREL : Hid (WS w w2.heap.size gl (cD (recsL (dss.take 0)) (-1)) 0 (.slice none 0 0) [] w4) := ⟨B2.out.size, Nat.le_trans C3.out.size hgl, B2.out.trans ((C3.out.trans hb4.1).mono B2.out.size), addP none_ gl, .inr rfl, hd4, hl4, OwnV.nil_ _ _ _, fun g hg => by cases hg⟩
  clear h0 hgl hl4 hr4 hd4 hb4
  go_wp2_with fail
  generalize w2.heap.size = B at *
  go_loopw [43] (fun i wr => ∃ k : Nat, k ≤ n ∧ i = .int .i64 k ∧ Hid (WS w B gl (cD (recsL (dss.take k)) (-1)) k (.slice none 0 0) [] wr)) (fun i _ => n - (intOf i).toNat)
  case atStart => exact ⟨0, by omega, rfl, HREL⟩
  case round =>
    obtain ⟨k, hk, rfl, HK⟩ := hrel
    clear HREL
    have HTL : Hid ((recsL (dss.take k)).length ≤ 5080) := by
      have h := recsL_leq (dss := dss.take k) (m := 500) (fun d hd => HSD.out d (List.mem_of_mem_take hd))
      rw [List.length_take, HN.out] at h
      show _ ≤ _
      omega
    by_cases hlt : k < n
    · have hkl : k < dss.length := by rw [HN.out]; exact hlt
      have hltI : (k : Int) < (n : Int) := by omega
      obtain ⟨b, o, q, dd, rfl, hcw, hrow⟩ := HR.out.at_ k hkl
      have hc := (HK.out.bel.cell (p := ⟨b, o + k, none⟩) (World.block_lt_of_cell? w _ hcw)).trans hcw
      have hget : dss.getD k [] = dss[k] := by rw [List.getD_eq_getElem?_getD, List.getElem?_eq_getElem hkl]; rfl
      have HOY := Lib.hid (HO.out _ (List.getElem_mem hkl))
      have HYL := Lib.hid (HSD.out _ (List.getElem_mem hkl))
      have HTK : Hid (dss.take (k + 1) = dss.take k ++ [dss[k]]) := List.take_succ_eq_append_getElem hkl
      rw [hget] at hc hrow
      have hbl := World.block_lt_of_cell? wr _ hc
      have HROW := Lib.hid hrow
      clear hget hrow hcw
      generalize dss[k] = ys at *
      have HPU := Lib.hid (cD_add (S := recsL (dss.take k)) (ys := ys) (by have := HTL.out; omega) (by have := HYL.out; omega))
      have HP := Lib.hid (ws_add HK.out (.slice q ys.length dd) ys (by omega) HOY.out (by have := HYL.out; omega) (HROW.out.kept HK.out.bel))
      rw [HPU.out.1, HPU.out.2.1, HPU.out.2.2, if_pos rfl, ← recsL_snoc, ← HTK.out] at HP
      generalize hyn : ys.length = yn at *
      go_wp2_with fail
      refine HP.out.mono ?_
      rintro y w5 ⟨rfl, hw5⟩
      have HNX := Lib.hid hw5
      clear hw5 HP hc hbl
      go_wp2_with fail
      go_roundw
      case rel => exact ⟨k + 1, by omega, by go_num, HNX⟩
      case measure => simp [intOf]; omega
    · have hle : (n : Int) ≤ (k : Int) := by omega
      have hkn : k = n := by omega
      have hw4 := HK.out
      rw [hkn, show dss.take n = dss by rw [← HN.out, List.take_length]] at hw4
      have HLD : Hid ((recsL dss).length ≤ 5080) := by have h := HTL.out; rw [hkn, show dss.take n = dss by rw [← HN.out, List.take_length]] at h; exact h
      have HLE : Hid ((recsL ess).length ≤ 5080) := by
        have h := recsL_leq HSE.out
        rw [HM.out] at h
        show _ ≤ _
        omega
      have HFU := Lib.hid (ws_fuse hw4 fuse HBF.out.1 HBF.out.2)
      rw [cD_fuse] at HFU
      clear hw4 HK HTL
      go_wp2_with fail
      refine HFU.out.mono ?_
      rintro y w5 ⟨rfl, hw5⟩
      have HRN := Lib.hid (ws_renew hw5 (.slice pu m cu) ess HO'.out (by rw [HM.out]; omega) (fun d hd => Nat.le_trans (HSE.out d hd) (by decide)) (HU.out.kept hw5.bel))
      have HCS := Lib.hid (cD_renew (W := recsL dss) fuse (dss := ess) (fun d hd => Nat.le_trans (HSE.out d hd) (by decide)) (by have := HLE.out; omega))
      clear hw5 HFU hkn hle hk
      rcases HCS.out with ⟨e1, e2, g, e3⟩ | ⟨e1, e2, e3⟩
      · rw [e1, e2, e3, if_pos rfl, HM.out] at HRN
        clear e1 e2 e3 HCS
        go_wp2_with fail
        refine HRN.out.mono ?_
        rintro y w6 ⟨rfl, hw6⟩
        have HW5 : Hid (WS w B gl (cD (recsL ess) g) m (.slice none 0 0) (ess.take 0) w6) := hw6
        clear hw6 HRN
        go_wp2_with fail
        go_loopw [16, 64] (fun v i wr => ∃ k : Nat, k ≤ m ∧ i = .int .i64 k ∧ Hid (WS w B gl (cD (recsL ess) g) m v (ess.take k) wr)) (fun _ i _ => m - (intOf i).toNat)
        case atStart => exact ⟨0, by omega, rfl, HW5⟩
        case round =>
          obtain ⟨k, hk, rfl, HK⟩ := hrel
          clear HW5
          have HTL : Hid ((ess.take k).length = k) := by show _ = _; rw [List.length_take, HM.out]; omega
          obtain ⟨p9, c9, hv9⟩ := HK.out.form
          rw [HTL.out] at hv9
          subst hv9
          by_cases hlt : k < m
          · have hkl : k < ess.length := by rw [HM.out]; exact hlt
            have hltI : (k : Int) < (m : Int) := by omega
            obtain ⟨b, o, q, dd, rfl, hcw, hrow⟩ := HU.out.at_ k hkl
            have hc := (HK.out.bel.cell (p := ⟨b, o + k, none⟩) (World.block_lt_of_cell? w _ hcw)).trans hcw
            have hget : ess.getD k [] = ess[k] := by rw [List.getD_eq_getElem?_getD, List.getElem?_eq_getElem hkl]; rfl
            have HTK : Hid (ess.take (k + 1) = ess.take k ++ [ess[k]]) := List.take_succ_eq_append_getElem hkl
            rw [hget] at hc hrow
            have hbl := World.block_lt_of_cell? _ _ hc
            have HROW := Lib.hid hrow
            clear hget hrow hcw
            generalize ess[k] = ys at *
            have k8 := conv_row (P := Try.prog) _ 34 9 5 Try.underlying34 Try.underlying5 Try.underlying9 _ _ (HROW.out.kept HK.out.bel)
            go_wp2_with (at_builtin; with_reducible refine stop_appendW (.tmp 68) (.tmp 71) 33 rfl ?_)
            refine ws_append HK.out rfl (.tmp 68) (.tmp 71) rfl ys _ rfl rfl rfl (by rw [HTL.out]; omega) (k + 1) (by rw [HTL.out]) ?_
            intro p10 c10 w10 hw10
            rw [← HTK.out] at hw10
            have HNX := Lib.hid hw10
            clear hw10 k8
            go_wp2_with fail
            go_roundw
            case rel => exact ⟨k + 1, by omega, by go_num, HNX⟩
            case measure => simp [intOf]; omega
          · have hle : (m : Int) ≤ (k : Int) := by omega
            have hkn : k = m := by omega
            have hw6 := HK.out
            rw [hkn, show ess.take m = ess by rw [← HM.out, List.take_length]] at hw6
            have HW6 := Lib.hid hw6
            clear hw6 HK HTL
            rw [hkn]
            clear hkn hle hk
            go_wp2_with fail
            have HW7 := HW6
            have HFU := Lib.hid (ws_fuse HW7.out (-1) (by decide) (by decide))
            rw [cD_fuse] at HFU
            refine HFU.out.mono ?_
            rintro y w8 ⟨rfl, hw8⟩
            have HSC := Lib.hid (sc_recs (ds := ess) (fun d hd => ⟨HO'.out d hd, Nat.le_trans (HSE.out d hd) (by omega)⟩) (more := []) (fun a ha => by cases ha) (by simp))
            rw [List.append_nil] at HSC
            have HOO := Lib.hid (calm_open (d := cD (recsL ess) (-1)) ⟨rfl, rfl⟩ hw8.ok)
            have HOP := Lib.hid (ws_open hw8 (by rw [cD_all]; have := HLE.out; omega) HOO.out.1)
            rw [HOO.out.2, cD_all, HSC.out.1, HSC.out.2, List.take_length, HM.out] at HOP
            clear hw8 HFU HW7 HSC HOO
            go_wp2_with fail
            refine HOP.out.mono ?_
            rintro y w9 ⟨gm, u9, rfl, hr9, hw9⟩
            obtain ⟨p0, c0, hv9⟩ := hr9.shape
            rw [HM.out] at hv9
            subst hv9
            have HSM := Lib.hid (wsame_any w9 _ _ ess hr9 hw9.strR (by rw [HM.out]; omega))
            have HW9 := Lib.hid hw9
            clear hr9 hw9 HOP
            go_wp2_with fail
            refine HSM.out.mono ?_
            rintro y w10 ⟨rfl, hb10⟩
            have HW10 : Hid (WS w B gm (cD (recsL ess) (-1)) m (.slice p9 m c9) ess w10) := HW9.out.kept hb10
            have HWA := Lib.hid (fun (x : Obj) => HW10.out.kept (oneB w10 x))
            have HPU := Lib.hid (cD_add (S := recsL ess) (ys := [122]) (by have := HLE.out; omega) (by decide))
            have kc := fun (w : World) (C : Array Value) (n c : Nat) => Lib.run_convert_bytes_const (P := Try.prog) w 34 5 C n c Try.underlying34 Try.underlying5
            clear hb10 HSM HW9
            go_wp2_with fail
            refine (ws_add (HWA.out _) _ [122] (by omega) (fun a ha => by simp at ha; omega) (by decide) (laid_row w10 [122] _ rfl 5 (1, 2))).mono ?_
            rw [HPU.out.1, HPU.out.2.1, HPU.out.2.2, if_pos rfl, ← recsL_snoc]
            rintro y w11 ⟨rfl, hw11⟩
            have HSC := Lib.hid (sc_recs (ds := ess ++ [[122]]) (fun d hd => by
              rcases List.mem_append.1 hd with h | h
              · exact ⟨HO'.out d h, Nat.le_trans (HSE.out d h) (by omega)⟩
              · rw [List.mem_singleton.1 h]; exact ⟨(fun a ha => by simp at ha; omega), by decide⟩) (more := []) (fun a ha => by cases ha) (by simp))
            rw [List.append_nil] at HSC
            have HLZ : Hid ((ess ++ [[122]]).length = m + 1) := by show _ = _; rw [List.length_append, HM.out]; rfl
            have HLL : Hid ((recsL (ess ++ [[122]])).length ≤ 6000) := by show _ ≤ _; rw [recsL_snoc, List.length_append, recL_length]; have := HLE.out; simp; omega
            have HOO := Lib.hid (calm_open (d := cD (recsL (ess ++ [[122]])) (-1)) ⟨rfl, rfl⟩ hw11.ok)
            have HVL := Lib.hid hw11.vlt
            have HOP := Lib.hid (ws_openF hw11 (by rw [cD_all]; have := HLL.out; omega) HOO.out.1)
            rw [HOO.out.2, cD_all, HSC.out.1, HSC.out.2, List.take_length, HLZ.out] at HOP
            clear hw11 HSC HOO HPU HWA HW10 kc
            go_wp2_with fail
            refine HOP.out.mono ?_
            rintro y w12 ⟨gz, u12, rfl, hr12, hw12⟩
            obtain ⟨p2, c2, hv12⟩ := hr12.shape
            rw [HLZ.out] at hv12
            subst hv12
            have HR12 := Lib.hid hr12
            have HW12 := Lib.hid hw12
            clear hr12 hw12 HOP
            go_wp2_with (at_builtin; with_reducible refine stop_appendW (.tmp 111) (.tmp 112) 33 rfl ?_)
            refine ws_appendW HW12.out (by first | rfl | decide | simp [Region.wanted, yielded]) (.tmp 111) (.tmp 112) rfl [122] _ rfl w12.heap.size rfl rfl rfl (by rw [HM.out]; omega) (m + 1) (by rw [HM.out]) ?_
            intro p13 c13 w13 hw13 hs13 hk13
            have HSM := Lib.hid (wsame_any w13 _ _ (ess ++ [[122]]) (HR12.out.stays hs13 (fun b hb hl => hk13 b (fun e => by have := HVL.out b e; omega) hl)).ss hw13.strR (by rw [HLZ.out]; omega))
            have HW13 := Lib.hid hw13
            clear hw13 hs13 hk13
            go_wp2_with fail
            refine HSM.out.mono ?_
            rintro y w14 ⟨rfl, hb14⟩
            have HW14 := Lib.hid (HW13.out.kept hb14)
            clear hb14
            go_wp2_with fail
            go_ret
            exact ⟨rfl, HW14.out.bel⟩
      · rw [e1, e2, e3, if_neg (by decide)] at HRN
        clear e1 e2 e3 HCS
        go_wp2_with fail
        refine HRN.out.mono ?_
        rintro y w6 ⟨rfl, hw6⟩
        have HW5 : Hid (WS w B gl ⟨1048576, recsL dss, [], false, true, -1⟩ n (.slice none 0 0) (dss.take 0) w6) := hw6
        clear hw6 HRN
        go_wp2_with fail
        go_loopw [16, 64] (fun v i wr => ∃ k : Nat, k ≤ n ∧ i = .int .i64 k ∧ Hid (WS w B gl (⟨1048576, recsL dss, [], false, true, -1⟩) n v (dss.take k) wr)) (fun _ i _ => n - (intOf i).toNat)
        case atStart => exact ⟨0, by omega, rfl, HW5⟩
        case round =>
          obtain ⟨k, hk, rfl, HK⟩ := hrel
          clear HW5
          have HTL : Hid ((dss.take k).length = k) := by show _ = _; rw [List.length_take, HN.out]; omega
          obtain ⟨p9, c9, hv9⟩ := HK.out.form
          rw [HTL.out] at hv9
          subst hv9
          by_cases hlt : k < n
          · have hkl : k < dss.length := by rw [HN.out]; exact hlt
            have hltI : (k : Int) < (n : Int) := by omega
            obtain ⟨b, o, q, dd, rfl, hcw, hrow⟩ := HR.out.at_ k hkl
            have hc := (HK.out.bel.cell (p := ⟨b, o + k, none⟩) (World.block_lt_of_cell? w _ hcw)).trans hcw
            have hget : dss.getD k [] = dss[k] := by rw [List.getD_eq_getElem?_getD, List.getElem?_eq_getElem hkl]; rfl
            have HTK : Hid (dss.take (k + 1) = dss.take k ++ [dss[k]]) := List.take_succ_eq_append_getElem hkl
            rw [hget] at hc hrow
            have hbl := World.block_lt_of_cell? _ _ hc
            have HROW := Lib.hid hrow
            clear hget hrow hcw
            generalize dss[k] = ys at *
            have k8 := conv_row (P := Try.prog) _ 34 9 5 Try.underlying34 Try.underlying5 Try.underlying9 _ _ (HROW.out.kept HK.out.bel)
            go_wp2_with (at_builtin; with_reducible refine stop_appendW (.tmp 68) (.tmp 71) 33 rfl ?_)
            refine ws_append HK.out rfl (.tmp 68) (.tmp 71) rfl ys _ rfl rfl rfl (by rw [HTL.out]; omega) (k + 1) (by rw [HTL.out]) ?_
            intro p10 c10 w10 hw10
            rw [← HTK.out] at hw10
            have HNX := Lib.hid hw10
            clear hw10 k8
            go_wp2_with fail
            go_roundw
            case rel => exact ⟨k + 1, by omega, by go_num, HNX⟩
            case measure => simp [intOf]; omega
          · have hle : (n : Int) ≤ (k : Int) := by omega
            have hkn : k = n := by omega
            have hw6 := HK.out
            rw [hkn, show dss.take n = dss by rw [← HN.out, List.take_length]] at hw6
            have HW6 := Lib.hid hw6
            clear hw6 HK HTL
            rw [hkn]
            clear hkn hle hk
            go_wp2_with fail
            have HUP := Lib.hid (ws_up HW6.out (by show (recsL dss).length ≤ 1048576; have := HLD.out; omega))
            rw [cD_up] at HUP
            refine HUP.out.mono ?_
            rintro y w7 ⟨rfl, hw7⟩
            have HW7 := Lib.hid hw7
            clear hw7 HUP HW6
            go_wp2_with fail
            have HFU := Lib.hid (ws_fuse HW7.out (-1) (by decide) (by decide))
            rw [cD_fuse] at HFU
            refine HFU.out.mono ?_
            rintro y w8 ⟨rfl, hw8⟩
            have HSC := Lib.hid (sc_recs (ds := dss) (fun d hd => ⟨HO.out d hd, Nat.le_trans (HSD.out d hd) (by omega)⟩) (more := []) (fun a ha => by cases ha) (by simp))
            rw [List.append_nil] at HSC
            have HOO := Lib.hid (calm_open (d := cD (recsL dss) (-1)) ⟨rfl, rfl⟩ hw8.ok)
            have HOP := Lib.hid (ws_open hw8 (by rw [cD_all]; have := HLD.out; omega) HOO.out.1)
            rw [HOO.out.2, cD_all, HSC.out.1, HSC.out.2, List.take_length, HN.out] at HOP
            clear hw8 HFU HW7 HSC HOO
            go_wp2_with fail
            refine HOP.out.mono ?_
            rintro y w9 ⟨gm, u9, rfl, hr9, hw9⟩
            obtain ⟨p0, c0, hv9⟩ := hr9.shape
            rw [HN.out] at hv9
            subst hv9
            have HSM := Lib.hid (wsame_any w9 _ _ dss hr9 hw9.strR (by rw [HN.out]; omega))
            have HW9 := Lib.hid hw9
            clear hr9 hw9 HOP
            go_wp2_with fail
            refine HSM.out.mono ?_
            rintro y w10 ⟨rfl, hb10⟩
            have HW10 : Hid (WS w B gm (cD (recsL dss) (-1)) n (.slice p9 n c9) dss w10) := HW9.out.kept hb10
            have HWA := Lib.hid (fun (x : Obj) => HW10.out.kept (oneB w10 x))
            have HPU := Lib.hid (cD_add (S := recsL dss) (ys := [122]) (by have := HLD.out; omega) (by decide))
            have kc := fun (w : World) (C : Array Value) (n c : Nat) => Lib.run_convert_bytes_const (P := Try.prog) w 34 5 C n c Try.underlying34 Try.underlying5
            clear hb10 HSM HW9
            go_wp2_with fail
            refine (ws_add (HWA.out _) _ [122] (by omega) (fun a ha => by simp at ha; omega) (by decide) (laid_row w10 [122] _ rfl 5 (1, 2))).mono ?_
            rw [HPU.out.1, HPU.out.2.1, HPU.out.2.2, if_pos rfl, ← recsL_snoc]
            rintro y w11 ⟨rfl, hw11⟩
            have HSC := Lib.hid (sc_recs (ds := dss ++ [[122]]) (fun d hd => by
              rcases List.mem_append.1 hd with h | h
              · exact ⟨HO.out d h, Nat.le_trans (HSD.out d h) (by omega)⟩
              · rw [List.mem_singleton.1 h]; exact ⟨(fun a ha => by simp at ha; omega), by decide⟩) (more := []) (fun a ha => by cases ha) (by simp))
            rw [List.append_nil] at HSC
            have HLZ : Hid ((dss ++ [[122]]).length = n + 1) := by show _ = _; rw [List.length_append, HN.out]; rfl
            have HLL : Hid ((recsL (dss ++ [[122]])).length ≤ 6000) := by show _ ≤ _; rw [recsL_snoc, List.length_append, recL_length]; have := HLD.out; simp; omega
            have HOO := Lib.hid (calm_open (d := cD (recsL (dss ++ [[122]])) (-1)) ⟨rfl, rfl⟩ hw11.ok)
            have HVL := Lib.hid hw11.vlt
            have HOP := Lib.hid (ws_openF hw11 (by rw [cD_all]; have := HLL.out; omega) HOO.out.1)
            rw [HOO.out.2, cD_all, HSC.out.1, HSC.out.2, List.take_length, HLZ.out] at HOP
            clear hw11 HSC HOO HPU HWA HW10 kc
            go_wp2_with fail
            refine HOP.out.mono ?_
            rintro y w12 ⟨gz, u12, rfl, hr12, hw12⟩
            obtain ⟨p2, c2, hv12⟩ := hr12.shape
            rw [HLZ.out] at hv12
            subst hv12
            have HR12 := Lib.hid hr12
            have HW12 := Lib.hid hw12
            clear hr12 hw12 HOP
            go_wp2_with (at_builtin; with_reducible refine stop_appendW (.tmp 111) (.tmp 112) 33 rfl ?_)
            refine ws_appendW HW12.out (by first | rfl | decide | simp [Region.wanted, yielded]) (.tmp 111) (.tmp 112) rfl [122] _ rfl w12.heap.size rfl rfl rfl (by rw [HN.out]; omega) (n + 1) (by rw [HN.out]) ?_
            intro p13 c13 w13 hw13 hs13 hk13
            have HSM := Lib.hid (wsame_any w13 _ _ (dss ++ [[122]]) (HR12.out.stays hs13 (fun b hb hl => hk13 b (fun e => by have := HVL.out b e; omega) hl)).ss hw13.strR (by rw [HLZ.out]; omega))
            have HW13 := Lib.hid hw13
            clear hw13 hs13 hk13
            go_wp2_with fail
            refine HSM.out.mono ?_
            rintro y w14 ⟨rfl, hb14⟩
            have HW14 := Lib.hid (HW13.out.kept hb14)
            clear hb14
            go_wp2_with fail
            go_ret
            exact ⟨rfl, HW14.out.bel⟩
end Go.Proofs.Ytjbhcdmeeakdcaa
