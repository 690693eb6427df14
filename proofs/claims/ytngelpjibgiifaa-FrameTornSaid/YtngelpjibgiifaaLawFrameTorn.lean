/- FrameTorn: the walk. -/
import Derived.Test.YtngelpjibgiifaaFrameHead
import Derived.Test.YtngelpjibgiifaaScanF
import Derived.Test.YtngelpjibgiifaaStrRow
import Derived.Test.YtngelpjibgiifaaTornPure
import Derived.Test.YtngelpjibgiifaaBump
namespace Go.Proofs.Ytngelpjibgiifaa
open Go.RowKit
theorem eltInt : EltV Try.prog 68 3 (.int .i64 0) 8 := eltV_mk Try.underlying68 (by kernel_rfl)
/-- What the loop has written: the first k records, none long, and where each ends. -/
def TornRel (W : World) (dss : List (List Int)) (k : Nat) (v e : Value) (wr : World) : Prop :=
  (∃ g0, RowAt .u8 wr g0 v (recsL (dss.take k)) ∧ (k = 0 ∨ g0 < wr.heap.size ∧ e.ownBlock ≠ some g0)) ∧ (∀ d ∈ dss.take k, d.length ≤ 300) ∧ (recsL (dss.take k)).length ≤ 308 * k ∧
    Own .i64 wr W.heap.size 3 e (endsF 0 (dss.take k)) ∧ Below W.heap.size W wr
theorem take_get (dss : List (List Int)) (k : Nat) (h : k < dss.length) : dss.take (k + 1) = dss.take k ++ [dss.getD k []] := by
  rw [List.take_succ_eq_append_getElem h, List.getD_eq_getElem?_getD, List.getElem?_eq_getElem h]; rfl
theorem Own.val {k : IntKind} {w : World} {base : Nat} {e : TypeId} {v : Value} {zs : List Int} (h : Own k w base e v zs) : OwnV w base e v (zs.map (Value.int k)) := by
  unfold OwnV; rw [List.length_map]; exact h
theorem Own.ofVal {k : IntKind} {w : World} {base : Nat} {e : TypeId} {v : Value} {zs : List Int} (h : OwnV w base e v (zs.map (Value.int k))) : Own k w base e v zs := by
  unfold OwnV at h; rw [List.length_map] at h; exact h
theorem whole_step (cut t : Int) (E : List Int) (j : Nat) (h : j < E.length) : wholeL cut t (E.take (j + 1)) = wholeL cut t (E.take j) + (if goodE cut t (E.getD j 0) = true then 1 else 0) := by
  unfold wholeL
  rw [List.take_succ_eq_append_getElem h, List.countP_append, List.countP_singleton, List.getD_eq_getElem?_getD, List.getElem?_eq_getElem h]
  simp
theorem whole_le (cut t : Int) (E : List Int) : wholeL cut t E ≤ E.length := List.countP_le_length
theorem xor8_I (x t : Int) (hx : 0 ≤ x ∧ x < 256) (ht : 0 ≤ t ∧ t < 256) : bits .xor .u8 x t = xorI x t := by
  obtain ⟨X, rfl⟩ : ∃ X : Nat, x = X := ⟨x.toNat, by omega⟩
  obtain ⟨T, rfl⟩ : ∃ T : Nat, t = T := ⟨t.toNat, by omega⟩
  unfold xorI
  rw [u8_xor_nat X T (by omega) (by omega)]
  simp
/-- What stands while the ends are counted. -/
def CountRel (W : World) (base c cT k ce : Nat) (pT pe : Option Addr) (T E : List Int) (wq : World) : Prop :=
  Own .u8 wq base 5 (.slice pT c cT) T ∧ Own .i64 wq W.heap.size 3 (.slice pe k ce) E ∧ Below W.heap.size W wq
theorem CountRel.drew {W : World} {base c cT k ce : Nat} {pT pe : Option Addr} {T E : List Int} {wq : World} (h : CountRel W base c cT k ce pT pe T E wq) : CountRel W base c cT k ce pT pe T E wq.drew := ⟨h.1.drew, h.2.1.drew, h.2.2.drew⟩
theorem torn_step {W wr w1 w2 : World} {dss : List (List Int)} {D : List Int} {k M c1 ga ne ce : Nat} {pe : Option Addr} {v2 : Value} (HT : dss.take (k + 1) = dss.take k ++ [D]) (hD : D.length ≤ 300) (HS : ∀ d ∈ dss.take k, d.length ≤ 300) (HZ : (recsL (dss.take k)).length ≤ 308 * k)
    (HM : M = (recsL (dss.take k)).length + (8 + D.length)) (HR : RowAt .u8 w1 ga (.slice (some ⟨ga, 0, none⟩) M c1) (recsL (dss.take k) ++ recL D)) (HG : wr.heap.size ≤ ga ∧ ga < w1.heap.size) (HEL : ∀ g, (Value.slice pe ne ce).ownBlock = some g → g < wr.heap.size)
    (ho : OwnV w2 W.heap.size 3 v2 ((endsF 0 (dss.take k)).map (Value.int .i64) ++ [.int .i64 M])) (hg : (w1.alloc (.cells #[.int .i64 M] 3)).grownBy w2 (Value.slice pe ne ce).ownBlock)
    (hor : v2.ownBlock = (Value.slice pe ne ce).ownBlock ∨ v2.ownBlock = some (w1.heap.size + 1)) (hb : Below W.heap.size W w2) :
    TornRel W dss (k + 1) (.slice (some ⟨ga, 0, none⟩) M c1) v2 w2 := by
  have hne : (Value.slice pe ne ce).ownBlock ≠ some ga := by
    intro e
    have := HEL ga e
    omega
  have h1 := ((oneB w1 (.cells #[.int .i64 M] 3)).block ga HG.2)
  have h2 := hg.block ga (by simp; omega) (Ne.symm hne)
  have hsz : w1.heap.size + 1 ≤ w2.heap.size := by
    have := ((Below.refl 0 (w1.alloc (.cells #[.int .i64 M] 3))).grown hg (Nat.zero_le _) (fun _ _ => Nat.zero_le _)).size
    simpa using this
  refine ⟨⟨ga, ?_, .inr ⟨by omega, ?_⟩⟩, ?_, ?_, ?_, hb⟩
  · rw [HT, recsL_snoc]
    exact HR.keep0 (.inr (h2.trans h1))
  · rcases hor with h | h <;> rw [h]
    · exact hne
    · intro e; cases e; omega
  · rw [HT]
    intro x hx
    rcases List.mem_append.1 hx with hx | hx
    · exact HS x hx
    · rw [List.mem_singleton.1 hx]; exact hD
  · rw [HT, recsL_snoc, List.length_append, recL_length]; omega
  · rw [HT, endsF_snoc]
    refine Own.ofVal ?_
    rw [List.map_append, List.map_singleton, Nat.zero_add, ← HM]
    exact ho
set_option maxHeartbeats 8000000 in
set_option maxRecDepth 100000 in
theorem ftorn_walk (vl : Value) (dss : List (List Int)) (cut t : Int) (W : World) (ol : ∀ d ∈ dss, Oct d) (rl : RowSS W vl dss) (bc : -9223372036854775808 ≤ cut ∧ cut ≤ 9223372036854775807) (bt : 0 ≤ t ∧ t < 256) :
    Calls Try.prog 8 #[vl, .int .i64 cut, .int .u8 t] W fun e W' => e = .returned (.bool true) ∧ Below W.heap.size W W' := by
  obtain ⟨pl, cl, rfl⟩ := rl.shape
  have RL := Lib.hid rl
  have OL := Lib.hid ol
  clear rl ol
  by_cases h1 : (dss.length : Int) ≤ 10
  · generalize hn : dss.length = n at *
    have HN := Lib.hid hn
    clear hn
    go_enter Try.func8, Try.ntmps8
    go_wp2_with fail
    refine (records_any W).mono ?_
    rintro y w0 ⟨rfl, hb0⟩
    have HW0 : Hid (TornRel W dss 0 (.slice none 0 0) (.slice none 0 0) w0) := ⟨⟨0, RowAt.nil_ _ _ _ _, .inl rfl⟩, by simp, by simp [recsL], Own.nil_ _ _ _ _, hb0⟩
    clear hb0
    go_wp2_with fail
    go_loopw [7, 8, 27] (fun v e i wr => ∃ k : Nat, k ≤ n ∧ i = .int .i64 k ∧ Hid (TornRel W dss k v e wr)) (fun _ _ i _ => n - (intOf i).toNat)
    case atStart => exact ⟨0, by omega, rfl, HW0⟩
    case round =>
      obtain ⟨k, hk, rfl, HK⟩ := hrel
      obtain ⟨⟨gb, hr, hgb⟩, hs, hz, he, hb⟩ := HK.out
      obtain ⟨pb, cb, rfl⟩ := hr.shape
      obtain ⟨pe, ce, rfl⟩ := he.form
      have HR := Lib.hid hr
      have HG := Lib.hid hgb
      have HS := Lib.hid hs
      have HZ := Lib.hid hz
      have HE := Lib.hid he
      have HB := Lib.hid hb
      clear hr hgb hs hz he hb HK
      by_cases hlt : k < n
      · have hkd : k < dss.length := by rw [HN.out]; exact hlt
        obtain ⟨g0, o0, q, d, rfl, hc0, hr0⟩ := RL.out.at_ k hkd
        have HT := Lib.hid (take_get dss k hkd)
        have hod : Oct (dss.getD k []) := by
          refine OL.out _ ?_
          rw [List.getD_eq_getElem?_getD, List.getElem?_eq_getElem hkd]
          exact List.getElem_mem hkd
        have HOD := Lib.hid hod
        have hcw := (HB.out.cell (p := ⟨g0, o0 + k, none⟩) (World.block_lt_of_cell? W _ hc0)).trans hc0
        have HR0 := Lib.hid (hr0.under HB.out (Nat.le_refl _))
        generalize dss.getD k [] = D at *
        clear hc0 hr0 hkd hod
        by_cases hbig : D.length ≤ 300
        · have hbig' : (D.length : Int) ≤ 300 := by omega
          have HBIG := Lib.hid hbig
          go_wp2_with fail
          refine (fapp_any _ _ (recsL (dss.take k)) D HOD.out (by have := HZ.out; omega) _ HR.out.row HR0.out).mono ?_
          rintro y w1 ⟨hb1, _, hk1⟩
          obtain ⟨v1, rfl, ho1⟩ := hk1 (by omega)
          obtain ⟨M, hM⟩ : ∃ M, M = (recsL (dss.take k) ++ recL D).length := ⟨_, rfl⟩
          have hMl : M = (recsL (dss.take k)).length + (8 + D.length) := by rw [hM, List.length_append, recL_length]
          obtain ⟨p1, c1, hv1⟩ := ho1.form
          rw [← hM] at hv1
          subst hv1
          obtain ⟨g1, rfl, hg1, hg1l, _⟩ := ho1.at_ (by omega)
          obtain ⟨ga, hga, hgal, hra⟩ := ho1.rowAt
          have hgg : ga = g1 := by
            obtain ⟨p', c', e', _, h⟩ := hra
            cases e'
            rcases h with h | ⟨o, h, _⟩
            · have hz0 := congrArg List.length h
              rw [← hM, List.length_nil] at hz0
              omega
            · cases h; rfl
          subst hgg
          have HRA := Lib.hid hra
          have HGA : Hid (wr.heap.size ≤ ga ∧ ga < w1.heap.size) := ⟨hg1, hg1l⟩
          have B1 := Lib.hid (HB.out.trans (hb1.mono HB.out.size))
          have HE1 := Lib.hid (HE.out.later hb1)
          have HEL := Lib.hid (fun g h => HE.out.lt g h)
          have HML := Lib.hid hMl
          clear hb1 hk1 ho1 hM hra hga hgal hg1 hg1l
          have hM4 : M ≤ 4000 := by have := HZ.out; omega
          have hM0 : 0 < M := by omega
          clear hMl
          go_wp2_with (at_builtin; go_loud (refine wpList_append_val rfl (.tmp 43) (.tmp 46) 68 rfl 3 3 (.int .i64 0) 8 W.heap.size eltInt rfl (by decide) _ ((endsF 0 (dss.take k)).map (Value.int .i64)) (.int .i64 M) rfl _ rfl rfl rfl HE1.out.val (by simp only [List.length_map, endsF_length, List.length_take]; omega) B1.out.size ?_; intro v2 w2 ho2 hg2 hor2 hb2; have HN1 : Hid (TornRel W dss (k + 1) (.slice (some ⟨ga, 0, none⟩) M c1) v2 w2) := (torn_step HT.out HBIG.out HS.out HZ.out HML.out HRA.out HGA.out HEL.out ho2 hg2 hor2 (B1.out.trans (hb2.mono (Nat.le_refl _)))); clear ho2 hg2 hor2 hb2))
          go_roundw
          case rel => exact ⟨k + 1, by omega, by go_num, HN1⟩
          case measure => simp [intOf]; omega
        · have hbig' : (300 : Int) < (D.length : Int) := by omega
          go_wp2_with fail
          go_ret
          exact ⟨rfl, HB.out⟩
      · have hkn : k = n := by omega
        subst hkn
        have hta : dss.take k = dss := List.take_of_length_le (by rw [HN.out]; exact Nat.le_refl _)
        rw [hta] at HR HS HZ HE ⊢
        have HREC : Hid (∀ d ∈ dss, Rec1 16384 d) := fun d hd => ⟨OL.out d hd, by have := HS.out d hd; omega⟩
        have HBO := Lib.hid (recsL_oct HREC.out)
        have HTA := Lib.hid (fun c hc => torn_any dss HREC.out 0 c hc bt)
        have hEl := endsF_length 0 dss
        rw [HN.out] at hEl
        have HEG := Lib.hid (endsF_gt 0 dss)
        generalize endsF 0 dss = E at *
        generalize recsL dss = B at *
        generalize hm : B.length = M at *
        have HM := Lib.hid hm
        have hMz : M ≤ 3080 := by have := HZ.out; omega
        have hk10 : k ≤ 10 := by omega
        rw [hEl]
        rw [hEl] at HE
        have HEl := Lib.hid hEl
        clear hm hta hlt h1 hEl
        have hge : (k : Int) ≤ (k : Int) := Int.le_refl _
        by_cases hc0 : cut < 0
        · go_wp2_with fail
          go_ret
          exact ⟨rfl, HB.out⟩
        · by_cases hc1 : (M : Int) < cut
          · have hc0' : (0 : Int) ≤ cut := by omega
            clear hc0
            go_wp2_with fail
            go_ret
            exact ⟨rfl, HB.out⟩
          · obtain ⟨c, rfl⟩ : ∃ c : Nat, cut = c := ⟨cut.toNat, by omega⟩
            have hcM : c ≤ M := by omega
            have hcM' : (c : Int) ≤ (M : Int) := by omega
            have HRT := Lib.hid (HR.out.take c (by rw [HM.out]; exact hcM)).row
            have hTl : (B.take c).length = c := by rw [List.length_take, HM.out]; omega
            have HTL := Lib.hid hTl
            have HTA2 := Lib.hid (HTA.out c hcM)
            rw [Nat.zero_add, Nat.zero_add] at HTA2
            have HTO := Lib.hid (tornL_oct HBO.out c bt)
            have HTLL := Lib.hid (tornL_length (by rw [HM.out]; exact hcM) t)
            have O3 := Lib.hid (Own.made_at .u8 wr wr.heap.size wr.heap.size 5 (Nat.le_refl _) rfl)
            clear hc0 hc1 hTl
            rcases Nat.eq_zero_or_pos c with hcz | hcz
            · subst hcz
              have hT0 : tornL B 0 t = [] := rfl
              go_wp2_with (at_builtin; refine wpList_append_row rfl _ _ 22 rfl 5 .u8 1 wr.heap.size elt8 _ _ [] (B.take 0) rfl rfl O3.out (HRT.out.under (oneB wr _) (Nat.le_refl _)) (by simp) (by simp) (by simp) [] 0 rfl rfl ?_; intro p4 c4 w4 ho4 hb4; have hb0 := (oneB wr (.cells #[] 5)).trans hb4; have HCR : Hid (CountRel W wr.heap.size 0 c4 k ce p4 pe (tornL B 0 t) E w4) := ⟨by rw [hT0]; exact ho4, HE.out.later hb0, HB.out.trans (hb0.mono HB.out.size)⟩; clear ho4 hb4 hb0)
              rw [show ((0 : Nat) : Int) = 0 from rfl] at HTA2
              go_loopw [14, 74] (fun wh i wq => ∃ j : Nat, j ≤ k ∧ i = .int .i64 j ∧ wh = .int .i64 (wholeL 0 t (E.take j) : Nat) ∧ Hid (CountRel W wr.heap.size 0 c4 k ce p4 pe (tornL B 0 t) E wq)) (fun _ i _ => k - (intOf i).toNat)
              case atStart => exact ⟨0, by omega, rfl, rfl, HCR⟩
              case round =>
                obtain ⟨j, hj, rfl, rfl, HJ⟩ := hrel
                by_cases hlt2 : j < k
                · obtain ⟨gE, rfl, _⟩ := HJ.out.2.1.at_ (by omega)
                  obtain ⟨hcell, _⟩ := HJ.out.2.1.cell j hlt2
                  have HST := Lib.hid (whole_step 0 t E j (by rw [HEl.out]; exact hlt2))
                  have hwl := whole_le 0 t (E.take j)
                  rw [List.length_take] at hwl
                  have hwl2 : wholeL 0 t (E.take j) ≤ 10 := by omega
                  generalize wholeL 0 t (E.take j) = wj at *
                  generalize E.getD j 0 = x at *
                  clear hwl
                  rcases Int.lt_trichotomy x 0 with hx | hx | hx
                  · have HG : Hid (goodE 0 t x = true) := by show _ = _; unfold goodE; rw [decide_eq_true_eq]; omega
                    go_wp2_with fail
                    go_roundw
                    case rel => exact ⟨j + 1, by omega, by go_num, by rw [HST.out, if_pos HG.out]; go_num, HJ⟩
                    case measure => simp [intOf]; omega
                  · subst hx
                    by_cases ht : t = 0
                    · have HG : Hid (goodE 0 t 0 = true) := by show _ = _; unfold goodE; rw [decide_eq_true_eq]; omega
                      have ht2 : (t == 0) = true := by simpa using ht
                      clear ht
                      go_wp2_with fail
                      go_roundw
                      case rel => exact ⟨j + 1, by omega, by go_num, by rw [HST.out, if_pos HG.out]; go_num, HJ⟩
                      case measure => simp [intOf]; omega
                    · have HG : Hid (¬ goodE 0 t 0 = true) := by show ¬ _ = _; unfold goodE; rw [decide_eq_true_eq]; omega
                      have ht2 : (t == 0) = false := by simpa using ht
                      clear ht
                      go_wp2_with fail
                      go_roundw
                      case rel => exact ⟨j + 1, by omega, by go_num, by rw [HST.out, if_neg HG.out]; go_num, HJ⟩
                      case measure => simp [intOf]; omega
                  · have HG : Hid (¬ goodE 0 t x = true) := by show ¬ _ = _; unfold goodE; rw [decide_eq_true_eq]; omega
                    have hx2 : (x == 0) = false := by simp; omega
                    have hx3 : (0 : Int) ≤ x := by omega
                    go_wp2_with fail
                    go_roundw
                    case rel => exact ⟨j + 1, by omega, by go_num, by rw [HST.out, if_neg HG.out]; go_num, HJ⟩
                    case measure => simp [intOf]; omega
                · have hjk : (k : Int) ≤ (j : Int) := by omega
                  have hET : E.take j = E := List.take_of_length_le (by rw [HEl.out]; omega)
                  rw [hET]
                  have hwl := whole_le 0 t E
                  rw [HEl.out] at hwl
                  have HSC := Lib.hid (fscan_any _ (tornL B 0 t) HTO.out (by rw [HTLL.out]; omega) _ HJ.out.1.row)
                  rw [HTA2.out.1] at HSC
                  have HSN := Lib.hid HTA2.out.2
                  have HWH := Lib.hid hwl
                  have hlen : (dss.take (wholeL 0 t E)).length = wholeL 0 t E := by rw [List.length_take, HN.out]; omega
                  have HLN := Lib.hid hlen
                  generalize scN (tornL B 0 t) = sn at *
                  generalize wholeL 0 t E = wh at *
                  clear hET hlen
                  go_wp2_with fail
                  refine HSC.out.mono ?_
                  rintro y w6 ⟨v6, rfl, ho6, hb6⟩
                  obtain ⟨p6, c6, hv6⟩ := ho6.form
                  rw [HLN.out] at hv6
                  subst hv6
                  have B6 := Lib.hid (HJ.out.2.2.trans (hb6.mono HJ.out.2.2.size))
                  have O6 := Lib.hid ho6
                  have E6 := Lib.hid (HJ.out.2.1.later hb6)
                  clear ho6 hb6 HSC
                  go_wp2_with fail
                  go_loopw [104] (fun i wq => ∃ m : Nat, m ≤ wh ∧ i = .int .i64 m ∧ Hid (Below w6.heap.size w6 wq)) (fun i _ => wh - (intOf i).toNat)
                  case atStart => exact ⟨0, by omega, rfl, Below.refl _ _⟩
                  case round =>
                    obtain ⟨m, hm, rfl, HM6⟩ := hrel
                    by_cases hlt3 : m < wh
                    · obtain ⟨g1, q1, d1, rfl, hc1, hr1⟩ := (O6.out.later HM6.out).at_ m hlt3
                      have hjd : m < dss.length := by rw [HN.out]; omega
                      have hgd : (dss.take wh).getD m [] = dss.getD m [] := by rw [List.getD_eq_getElem?_getD, List.getD_eq_getElem?_getD, List.getElem?_take, if_pos hlt3]
                      rw [hgd] at hc1 hr1
                      obtain ⟨g2, o2, q2, d2, rfl, hc2, hr2⟩ := RL.out.at_ m hjd
                      have BJ := Lib.hid (B6.out.trans (HM6.out.mono B6.out.size))
                      have hcw := (BJ.out.cell (p := ⟨g2, o2 + m, none⟩) (World.block_lt_of_cell? W _ hc2)).trans hc2
                      have k1 := conv_row (P := Try.prog) _ 22 9 5 Try.underlying22 Try.underlying5 Try.underlying9 _ _ (hr1.under (Below.refl _ _).drew (Nat.le_refl _))
                      have k2 := conv_row (P := Try.prog) _ 22 9 5 Try.underlying22 Try.underlying5 Try.underlying9 _ _ (hr2.under BJ.out.drew (Nat.le_refl _))
                      have HJd := Lib.hid HM6.out.drew
                      have hm10 : m ≤ 10 := by omega
                      generalize dss.getD m [] = D at *
                      clear hr1 hr2 hc2 hjd hgd
                      go_wp2_with fail
                      go_region
                      go_wp2_with fail
                      go_roundw
                      case rel => exact ⟨m + 1, by omega, by go_num, HJd⟩
                      case measure => simp [intOf]; omega
                    · have hkm : (wh : Int) ≤ (m : Int) := by omega
                      have BE := Lib.hid (B6.out.trans (HM6.out.mono B6.out.size))
                      have EE := Lib.hid (E6.out.later HM6.out)
                      have hsn := HSN.out
                      by_cases hw0 : wh = 0
                      · subst hw0
                        rw [if_pos rfl] at hsn
                        obtain rfl : sn = 0 := by omega
                        go_wp2_with fail
                        go_ret
                        exact ⟨rfl, BE.out⟩
                      · rw [if_neg hw0] at hsn
                        obtain ⟨gE, rfl, _⟩ := EE.out.at_ (by omega)
                        obtain ⟨hcell, _⟩ := EE.out.cell (wh - 1) (by omega)
                        rw [← hsn] at hcell
                        have hw1 : (0 : Int) < (wh : Int) := by omega
                        have hw2 : ((wh : Int) - 1).toNat = wh - 1 := by omega
                        have hw3 : (0 : Int) ≤ (wh : Int) - 1 := by omega
                        have hw4 : (wh : Int) - 1 < (k : Int) := by omega
                        have hw5 : ((wh : Int) == 0) = false := by simp; omega
                        go_wp2_with fail
                        go_ret
                        exact ⟨rfl, BE.out⟩
            · have hcp : (0 : Int) < (c : Int) := by omega
              obtain ⟨ob, hpb, hMcb⟩ : ∃ ob, pb = some ⟨gb, ob, none⟩ ∧ M ≤ cb := by
                obtain ⟨p', c', e, hc, h⟩ := HR.out
                cases e
                rw [HM.out] at hc
                rcases h with h | ⟨o, h, _⟩
                · exfalso
                  have h0 : B.length = 0 := by rw [h]; rfl
                  have := HM.out
                  omega
                · exact ⟨o, h, hc⟩
              subst hpb
              have hcb : (c : Int) ≤ (cb : Int) := by omega
              have hcs : ((c : Int) - 1).toNat = c - 1 := by omega
              have hc1 : (0 : Int) ≤ (c : Int) - 1 := by omega
              have hc2 : (c : Int) - 1 < (c : Int) := by omega
              have hc3 : c - 1 < c := by omega
              have hgd : (B.take c).getD (c - 1) 0 = B.getD (c - 1) 0 := getD_take hc3
              have hxx := xor8_I (B.getD (c - 1) 0) t (HBO.out.getD _) bt
              have hTo : tornL B c t = (B.take c).set (c - 1) (xorI (B.getD (c - 1) 0) t) := by unfold tornL; rw [if_neg (by omega)]
              have HTo := Lib.hid hTo
              have HGD := Lib.hid hgd
              generalize hbx : B.getD (c - 1) 0 = bx at *
              clear hTo hgd hbx
              go_wp2_with (at_builtin; refine wpList_append_row rfl _ _ 22 rfl 5 .u8 1 wr.heap.size elt8 _ _ [] (B.take c) rfl rfl O3.out (HRT.out.under (oneB wr _) (Nat.le_refl _)) (by have := HTL.out; simp; omega) (by have := HTL.out; simp; omega) (by simp) (B.take c) c rfl HTL.out ?_; intro p4 c4 w4 ho4 hb4; obtain ⟨g4, rfl, hg4, hg4l, _⟩ := ho4.at_ hcz; obtain ⟨hcell, hfree⟩ := ho4.cell (c - 1) hc3; rw [HGD.out] at hcell; have hb0 := (oneB wr (.cells #[] 5)).trans hb4; have HCR : Hid (CountRel W wr.heap.size c c4 k ce (some ⟨g4, 0, none⟩) pe (tornL B c t) E (w4.setCell ⟨g4, c - 1, none⟩ (.int .u8 (xorI bx t)))) := ⟨by rw [HTo.out]; exact ho4.set (c - 1) _, (HE.out.later hb0).below ((Below.refl wr.heap.size w4).setCell (p := ⟨g4, c - 1, none⟩) hg4 _) HE.out.lt, (HB.out.trans (hb0.mono HB.out.size)).setCell (p := ⟨g4, c - 1, none⟩) (Nat.le_trans HB.out.size hg4) _⟩; clear ho4 hb4 hb0)
              go_loopw [14, 74] (fun wh i wq => ∃ j : Nat, j ≤ k ∧ i = .int .i64 j ∧ wh = .int .i64 (wholeL c t (E.take j) : Nat) ∧ Hid (CountRel W wr.heap.size c c4 k ce (some ⟨g4, 0, none⟩) pe (tornL B c t) E wq)) (fun _ i _ => k - (intOf i).toNat)
              case atStart => exact ⟨0, by omega, rfl, rfl, HCR⟩
              case round =>
                obtain ⟨j, hj, rfl, rfl, HJ⟩ := hrel
                by_cases hlt2 : j < k
                · obtain ⟨gE, rfl, _⟩ := HJ.out.2.1.at_ (by omega)
                  obtain ⟨hcell, _⟩ := HJ.out.2.1.cell j hlt2
                  have HST := Lib.hid (whole_step c t E j (by rw [HEl.out]; exact hlt2))
                  have hwl := whole_le c t (E.take j)
                  rw [List.length_take] at hwl
                  have hwl2 : wholeL c t (E.take j) ≤ 10 := by omega
                  generalize wholeL c t (E.take j) = wj at *
                  generalize E.getD j 0 = x at *
                  clear hwl
                  rcases Int.lt_trichotomy x c with hx | hx | hx
                  · have HG : Hid (goodE c t x = true) := by show _ = _; unfold goodE; rw [decide_eq_true_eq]; omega
                    go_wp2_with fail
                    go_roundw
                    case rel => exact ⟨j + 1, by omega, by go_num, by rw [HST.out, if_pos HG.out]; go_num, HJ⟩
                    case measure => simp [intOf]; omega
                  · subst hx
                    by_cases ht : t = 0
                    · have HG : Hid (goodE c t c = true) := by show _ = _; unfold goodE; rw [decide_eq_true_eq]; omega
                      have ht2 : (t == 0) = true := by simpa using ht
                      clear ht
                      go_wp2_with fail
                      go_roundw
                      case rel => exact ⟨j + 1, by omega, by go_num, by rw [HST.out, if_pos HG.out]; go_num, HJ⟩
                      case measure => simp [intOf]; omega
                    · have HG : Hid (¬ goodE c t c = true) := by show ¬ _ = _; unfold goodE; rw [decide_eq_true_eq]; omega
                      have ht2 : (t == 0) = false := by simpa using ht
                      clear ht
                      go_wp2_with fail
                      go_roundw
                      case rel => exact ⟨j + 1, by omega, by go_num, by rw [HST.out, if_neg HG.out]; go_num, HJ⟩
                      case measure => simp [intOf]; omega
                  · have HG : Hid (¬ goodE c t x = true) := by show ¬ _ = _; unfold goodE; rw [decide_eq_true_eq]; omega
                    have hx2 : (x == c) = false := by simp; omega
                    have hx3 : (c : Int) ≤ x := by omega
                    go_wp2_with fail
                    go_roundw
                    case rel => exact ⟨j + 1, by omega, by go_num, by rw [HST.out, if_neg HG.out]; go_num, HJ⟩
                    case measure => simp [intOf]; omega
                · have hjk : (k : Int) ≤ (j : Int) := by omega
                  have hET : E.take j = E := List.take_of_length_le (by rw [HEl.out]; omega)
                  rw [hET]
                  have hwl := whole_le c t E
                  rw [HEl.out] at hwl
                  have HSC := Lib.hid (fscan_any _ (tornL B c t) HTO.out (by rw [HTLL.out]; omega) _ HJ.out.1.row)
                  rw [HTA2.out.1] at HSC
                  have HSN := Lib.hid HTA2.out.2
                  have HWH := Lib.hid hwl
                  have hlen : (dss.take (wholeL c t E)).length = wholeL c t E := by rw [List.length_take, HN.out]; omega
                  have HLN := Lib.hid hlen
                  generalize scN (tornL B c t) = sn at *
                  generalize wholeL c t E = wh at *
                  clear hET hlen
                  go_wp2_with fail
                  refine HSC.out.mono ?_
                  rintro y w6 ⟨v6, rfl, ho6, hb6⟩
                  obtain ⟨p6, c6, hv6⟩ := ho6.form
                  rw [HLN.out] at hv6
                  subst hv6
                  have B6 := Lib.hid (HJ.out.2.2.trans (hb6.mono HJ.out.2.2.size))
                  have O6 := Lib.hid ho6
                  have E6 := Lib.hid (HJ.out.2.1.later hb6)
                  clear ho6 hb6 HSC
                  go_wp2_with fail
                  go_loopw [104] (fun i wq => ∃ m : Nat, m ≤ wh ∧ i = .int .i64 m ∧ Hid (Below w6.heap.size w6 wq)) (fun i _ => wh - (intOf i).toNat)
                  case atStart => exact ⟨0, by omega, rfl, Below.refl _ _⟩
                  case round =>
                    obtain ⟨m, hm, rfl, HM6⟩ := hrel
                    by_cases hlt3 : m < wh
                    · obtain ⟨g1, q1, d1, rfl, hc1, hr1⟩ := (O6.out.later HM6.out).at_ m hlt3
                      have hjd : m < dss.length := by rw [HN.out]; omega
                      have hgd : (dss.take wh).getD m [] = dss.getD m [] := by rw [List.getD_eq_getElem?_getD, List.getD_eq_getElem?_getD, List.getElem?_take, if_pos hlt3]
                      rw [hgd] at hc1 hr1
                      obtain ⟨g2, o2, q2, d2, rfl, hc2, hr2⟩ := RL.out.at_ m hjd
                      have BJ := Lib.hid (B6.out.trans (HM6.out.mono B6.out.size))
                      have hcw := (BJ.out.cell (p := ⟨g2, o2 + m, none⟩) (World.block_lt_of_cell? W _ hc2)).trans hc2
                      have k1 := conv_row (P := Try.prog) _ 22 9 5 Try.underlying22 Try.underlying5 Try.underlying9 _ _ (hr1.under (Below.refl _ _).drew (Nat.le_refl _))
                      have k2 := conv_row (P := Try.prog) _ 22 9 5 Try.underlying22 Try.underlying5 Try.underlying9 _ _ (hr2.under BJ.out.drew (Nat.le_refl _))
                      have HJd := Lib.hid HM6.out.drew
                      have hm10 : m ≤ 10 := by omega
                      generalize dss.getD m [] = D at *
                      clear hr1 hr2 hc2 hjd hgd
                      go_wp2_with fail
                      go_region
                      go_wp2_with fail
                      go_roundw
                      case rel => exact ⟨m + 1, by omega, by go_num, HJd⟩
                      case measure => simp [intOf]; omega
                    · have hkm : (wh : Int) ≤ (m : Int) := by omega
                      have BE := Lib.hid (B6.out.trans (HM6.out.mono B6.out.size))
                      have EE := Lib.hid (E6.out.later HM6.out)
                      have hsn := HSN.out
                      by_cases hw0 : wh = 0
                      · subst hw0
                        rw [if_pos rfl] at hsn
                        obtain rfl : sn = 0 := by omega
                        go_wp2_with fail
                        go_ret
                        exact ⟨rfl, BE.out⟩
                      · rw [if_neg hw0] at hsn
                        obtain ⟨gE, rfl, _⟩ := EE.out.at_ (by omega)
                        obtain ⟨hcell, _⟩ := EE.out.cell (wh - 1) (by omega)
                        rw [← hsn] at hcell
                        have hw1 : (0 : Int) < (wh : Int) := by omega
                        have hw2 : ((wh : Int) - 1).toNat = wh - 1 := by omega
                        have hw3 : (0 : Int) ≤ (wh : Int) - 1 := by omega
                        have hw4 : (wh : Int) - 1 < (k : Int) := by omega
                        have hw5 : ((wh : Int) == 0) = false := by simp; omega
                        go_wp2_with fail
                        go_ret
                        exact ⟨rfl, BE.out⟩
  · have hg : (10 : Int) < dss.length := by omega
    clear h1
    go_enter Try.func8, Try.ntmps8
    go_wp2_with fail
    refine (records_any W).mono ?_
    rintro y w0 ⟨rfl, hb0⟩
    go_wp2_with fail
    go_ret
    exact ⟨rfl, hb0⟩
end Go.Proofs.Ytngelpjibgiifaa
