/- contralaw18.fits by contract. (Chief).Waits, and where its answer lies. A map of truths by number, as a set that is filled. A map of numbers by number. ChiefOpen: its walk. A word of a law, read, with what its lists hold. -/
import Derived.Test.YtpddmcimmkepfaaQ1
import Derived.Test.YtpddmcimmkepfaaQ4
import Derived.Maps.OwnSet
import Derived.WalkArith
namespace Go.Proofs.Ytpddmcimmkepfaa
open Go.RowKit
set_option linter.unusedSimpArgs false
def fitZ (z : SdX) : Bool := decide (z.x.m.ls.length ≤ 60) && decide (z.x.m.ns.length ≤ 12)
def fitsC (ws : List SdX) : Bool := decide (ws.length ≤ 60) && ws.all fitZ
theorem fitsC_ok {ws : List SdX} (h : fitsC ws = true) : ws.length ≤ 60 ∧ ∀ z ∈ ws, z.x.m.ls.length ≤ 60 ∧ z.x.m.ns.length ≤ 12 := by
 unfold fitsC fitZ at h
 simp only [Bool.and_eq_true, decide_eq_true_eq, List.all_eq_true] at h
 exact ⟨h.1, h.2⟩
set_option linter.unusedSimpArgs false in
set_option maxHeartbeats 4000000 in
set_option maxRecDepth 100000 in
theorem cfits_any (w : World) (vw : Value) (ws : List SdX) (hw : TRow encS w vw ws) :
  Calls Try.prog 9 #[vw] w fun e w' => e = .returned (.bool (fitsC ws)) ∧ Below w.heap.size w w' := by
 obtain ⟨p2, c2, rfl⟩ := hw.shape
 by_cases h2 : 60 < ws.length
 ·have e : fitsC ws = false := by unfold fitsC; rw [show decide (ws.length ≤ 60) = false by simp; omega]; rfl
  rw [e]
  have hI : (60 : Int) < (ws.length : Int) := by omega
  clear hw h2 e
  go_enter Try.func9, Try.ntmps9
  go_wp2_with fail
  go_ret
  exact ⟨rfl, Below.refl _ _⟩
 have e2 : decide (ws.length ≤ 60) = true := by simp; omega
 have hI2 : ¬ (60 : Int) < (ws.length : Int) := by omega
 have HE : Hid (fitsC ws = ws.all fitZ) := by show _ = _; unfold fitsC; rw [e2]; rfl
 have HW := Lib.hid hw
 have HWN : Hid (ws.length ≤ 60) := by show _ ≤ _; omega
 clear hw h2 e2
 generalize hn : ws.length = n at *
 have HL : Hid (ws.length = n) := Lib.hid hn
 clear hn
 have HREL : Hid (Below w.heap.size w w ∧ (ws.take 0).all fitZ = true) := ⟨Below.refl _ _, rfl⟩
 go_enter Try.func9, Try.ntmps9
 go_upto_region 3 with fail
 clear hI2
 go_wp2_with fail
 go_loopw [10] (fun i wr => ∃ k : Nat, k ≤ n ∧ i = .int .i64 k ∧ Hid (Below w.heap.size w wr ∧ (ws.take k).all fitZ = true)) (fun i _ => n - (intOf i).toNat)
 case atStart => exact ⟨0, by omega, rfl, HREL⟩
 case round =>
  clear HREL
  obtain ⟨k, hk, rfl, HK⟩ := hrel
  have hk9 : k + 1 ≤ 61 := by have := HWN.out; omega
  by_cases hlt : k < n
  ·have hkl : k < ws.length := by rw [HL.out]; exact hlt
   have hltI : (k : Int) < (n : Int) := by omega
   have HTA : Hid ((ws.take (k + 1)).all fitZ = fitZ ws[k]) := by show _ = _; rw [List.take_succ_eq_append_getElem hkl, List.all_append, HK.out.2]; simp
   have HNO : Hid (fitZ ws[k] = false → ws.all fitZ = false) := fun h => by
    cases ha : ws.all fitZ
    ·rfl
    ·rw [List.all_eq_true] at ha
     rw [ha _ (List.getElem_mem hkl)] at h
     cases h
   obtain ⟨b, o, rfl, hbl, hcs⟩ := (HW.out.kept HK.out.1).at_ k hkl
   generalize ws[k] = z at *
   have c0 : wr.cell? ⟨b, o + k * 12, none⟩ = some (.int .i64 z.tw) := hcs 0 (by decide)
   have c1 : wr.cell? ⟨b, o + k * 12 + 1, none⟩ = some (.int .i64 z.x.m.k) := hcs 1 (by decide)
   have c2 : wr.cell? ⟨b, o + k * 12 + 2, none⟩ = some (.int .i64 z.x.m.s) := hcs 2 (by decide)
   have c3 : wr.cell? ⟨b, o + k * 12 + 3, none⟩ = some (.int .i64 z.x.m.n) := hcs 3 (by decide)
   have c4 : wr.cell? ⟨b, o + k * 12 + 4, none⟩ = some (.int .i64 z.x.m.b) := hcs 4 (by decide)
   have c5 : wr.cell? ⟨b, o + k * 12 + 5, none⟩ = some (.int .i64 z.x.m.c) := hcs 5 (by decide)
   have c6 : wr.cell? ⟨b, o + k * 12 + 6, none⟩ = some (.int .i64 z.x.m.r) := hcs 6 (by decide)
   have c7 : wr.cell? ⟨b, o + k * 12 + 7, none⟩ = some (.int .i64 z.x.m.y) := hcs 7 (by decide)
   have c8 : wr.cell? ⟨b, o + k * 12 + 8, none⟩ = some (.int .i64 z.x.m.a) := hcs 8 (by decide)
   have c9 : wr.cell? ⟨b, o + k * 12 + 9, none⟩ = some (.bool z.x.m.t) := hcs 9 (by decide)
   have c10 : wr.cell? ⟨b, o + k * 12 + 10, none⟩ = some (.slice z.x.pl z.x.m.ls.length z.x.cl) := hcs 10 (by decide)
   have c11 : wr.cell? ⟨b, o + k * 12 + 11, none⟩ = some (.slice z.x.pn z.x.m.ns.length z.x.cn) := hcs 11 (by decide)
   have HX := Lib.hid (Blk.new wr #[.int .i64 z.tw, .int .i64 z.x.m.k, .int .i64 z.x.m.s, .int .i64 z.x.m.n, .int .i64 z.x.m.b, .int .i64 z.x.m.c, .int .i64 z.x.m.r, .int .i64 z.x.m.y, .int .i64 z.x.m.a, .bool z.x.m.t, .slice z.x.pl z.x.m.ls.length z.x.cl, .slice z.x.pn z.x.m.ns.length z.x.cn] 38)
   have HB1 := Lib.hid (HK.out.1.alloc HK.out.1.size (.cells #[.int .i64 z.tw, .int .i64 z.x.m.k, .int .i64 z.x.m.s, .int .i64 z.x.m.n, .int .i64 z.x.m.b, .int .i64 z.x.m.c, .int .i64 z.x.m.r, .int .i64 z.x.m.y, .int .i64 z.x.m.a, .bool z.x.m.t, .slice z.x.pl z.x.m.ls.length z.x.cl, .slice z.x.pn z.x.m.ns.length z.x.cn] 38))
   clear hcs
   go_upto_region 6 with fail
   clear c0 c1 c2 c3 c4 c5 c6 c7 c8 c9 c10 c11
   generalize (wr.alloc (.cells #[.int .i64 z.tw, .int .i64 z.x.m.k, .int .i64 z.x.m.s, .int .i64 z.x.m.n, .int .i64 z.x.m.b, .int .i64 z.x.m.c, .int .i64 z.x.m.r, .int .i64 z.x.m.y, .int .i64 z.x.m.a, .bool z.x.m.t, .slice z.x.pl z.x.m.ls.length z.x.cl, .slice z.x.pn z.x.m.ns.length z.x.cn] 38)) = W2 at *
   generalize wr.heap.size = gx at *
   have c10 : W2.cell? ⟨gx, 10, none⟩ = some (.slice z.x.pl z.x.m.ls.length z.x.cl) := HX.out.cell 10
   have c11 : W2.cell? ⟨gx, 11, none⟩ = some (.slice z.x.pn z.x.m.ns.length z.x.cn) := HX.out.cell 11
   by_cases hl : 60 < z.x.m.ls.length
   ·have hlI : (60 : Int) < (z.x.m.ls.length : Int) := by omega
    have HF : Hid (fitsC ws = false) := by
     show _ = _
     rw [HE.out, HNO.out (by unfold fitZ; rw [show decide (z.x.m.ls.length ≤ 60) = false by simp; omega]; rfl)]
    clear hl
    go_wp2_with fail
    go_ret
    exact ⟨by rw [HF.out]; rfl, HB1.out⟩
   ·have hlI : ¬ (60 : Int) < (z.x.m.ls.length : Int) := by omega
    by_cases hm : 12 < z.x.m.ns.length
    ·have hmI : (12 : Int) < (z.x.m.ns.length : Int) := by omega
     have HF : Hid (fitsC ws = false) := by
      show _ = _
      rw [HE.out, HNO.out (by unfold fitZ; rw [show decide (z.x.m.ns.length ≤ 12) = false by simp; omega, Bool.and_false])]
     clear hl hm
     go_wp2_with fail
     go_ret
     exact ⟨by rw [HF.out]; rfl, HB1.out⟩
    ·have hmI : ¬ (12 : Int) < (z.x.m.ns.length : Int) := by omega
     have HNX : Hid (Below w.heap.size w W2 ∧ (ws.take (k + 1)).all fitZ = true) := ⟨HB1.out, by rw [HTA.out]; unfold fitZ; rw [show decide (z.x.m.ls.length ≤ 60) = true by simp; omega, show decide (z.x.m.ns.length ≤ 12) = true by simp; omega]; rfl⟩
     clear hl hm
     go_wp2_with fail
     go_roundw
     case rel => exact ⟨k + 1, by omega, by go_num, HNX⟩
     case measure => simp [intOf]; omega
  ·have hltI : ¬ (k : Int) < (n : Int) := by omega
   have HF : Hid (fitsC ws = true) := by
    show _ = _
    rw [HE.out, ← HK.out.2, List.take_of_length_le (by rw [HL.out]; omega)]
   go_wp2_with fail
   go_ret
   exact ⟨by rw [HF.out]; rfl, HK.out.1⟩
end Go.Proofs.Ytpddmcimmkepfaa
namespace Go.Proofs.Ytpddmcimmkepfaa
open Go.RowKit
set_option linter.unusedSimpArgs false
set_option linter.unusedSimpArgs false in
set_option maxHeartbeats 4000000 in
set_option maxRecDepth 100000 in
theorem cwaitsA_any (w : World) (P : Nat → Prop) (N : Nat) (p : Option Addr) (n c : Nat) (rs : List Rn) (hrs : RsR P w (.slice p n c) rs) (hn : n = rs.length) (hl : n ≤ 2000) :
  Calls Try.prog 16 #[.agg #[.int .i64 (N : Int), .slice p n c]] w fun e w' => ∃ p' c', e = .returned (.slice p' (waitC rs n).length c') ∧ (Row .i64 w' (.slice p' (waitC rs n).length c') (waitC rs n) ∧ At (fun b => w.heap.size ≤ b) (.slice p' (waitC rs n).length c') (waitC rs n).length) ∧ Below w.heap.size w w' := by
 obtain ⟨xs, hr, _, hin, hm⟩ := hrs
 have HR := Lib.hid hr
 have HXM := Lib.hid hm
 have HXL : Hid (xs.length = n ∧ n ≤ 2000) := Lib.hid ⟨by rw [hn, ← hm, List.length_map], hl⟩
 clear hr hin hm hn hl
 have HB0 : Hid (Below w.heap.size w (w.alloc (.cells #[.int .i64 (N : Int), .slice p n c] 27))) := Lib.hid ((oneB w _))
 have Hc0 : Hid (Blk (w.alloc (.cells #[.int .i64 (N : Int), .slice p n c] 27)) w.heap.size #[.int .i64 (N : Int), .slice p n c] 27) := Lib.hid (Blk.new w #[.int .i64 (N : Int), .slice p n c] 27)
 have HZ0 : Hid (w.heap.size ≤ (w.alloc (.cells #[.int .i64 (N : Int), .slice p n c] 27)).heap.size) := Lib.hid HB0.out.size
 go_enter Try.func16, Try.ntmps16
 go_upto_region 2 with fail
 generalize (w.alloc (.cells #[.int .i64 (N : Int), .slice p n c] 27)) = W at *
 have HRW := Lib.hid (HR.out.kept HB0.out)
 have HREL : Hid (Own .i64 W W.heap.size 3 (.slice none 0 0) (waitC rs 0) ∧ Below W.heap.size W W) := Lib.hid ⟨Own.nil_ _ _ _ _, Below.refl _ _⟩
 have a1 : W.cell? ⟨w.heap.size, 1, none⟩ = some (.slice p n c) := Hc0.out.cell 1
 go_wp2_with fail
 clear a1
 go_loopw [3, 9] (fun v i wr => ∃ k : Nat, k ≤ n ∧ i = .int .i64 k ∧ Hid (Own .i64 wr W.heap.size 3 v (waitC rs k) ∧ Below W.heap.size W wr)) (fun _ i _ => n - (intOf i).toNat)
 case atStart => exact ⟨0, by omega, rfl, HREL⟩
 case round =>
  clear HREL
  obtain ⟨k, hk, rfl, HK⟩ := hrel
  obtain ⟨pz, cz, hvz⟩ := HK.out.1.form
  have HLZ : Hid ((waitC rs k).length ≤ k) := Lib.hid (waitC_len rs k)
  generalize hmz : (waitC rs k).length = mz at *
  subst hvz
  have HMZ := Lib.hid hmz
  clear hmz
  by_cases hlt : k < n
  ·have hkl : k < xs.length := by have := HXL.out; omega
   have hltI : (k : Int) < (n : Int) := by omega
   have hk9 : k + 1 ≤ 2001 := by have := HXL.out; omega
   have HWT := Lib.hid (waitC_succ rs k)
   have hgx : rs.getD k ⟨0, 0, [], [], []⟩ = (xs[k]).r := by rw [← HXM.out, List.getD_eq_getElem?_getD, List.getElem?_map, List.getElem?_eq_getElem hkl]; rfl
   rw [hgx] at HWT
   clear hgx
   obtain ⟨b, o, rfl, hbl, hcs⟩ := (HRW.out.kept HK.out.2).at_ k hkl
   generalize xs[k] = x at *
   have c0 : wr.cell? ⟨b, o + k * 5, none⟩ = some (.int .i64 x.r.cu) := hcs 0 (by decide)
   have c1 : wr.cell? ⟨b, o + k * 5 + 1, none⟩ = some (.int .i64 x.r.st) := hcs 1 (by decide)
   have c2 : wr.cell? ⟨b, o + k * 5 + 2, none⟩ = some (.slice x.pf x.r.hs.length x.cf) := hcs 2 (by decide)
   have c3 : wr.cell? ⟨b, o + k * 5 + 3, none⟩ = some (.slice x.pl x.r.ls.length x.cl) := hcs 3 (by decide)
   have c4 : wr.cell? ⟨b, o + k * 5 + 4, none⟩ = some (.slice x.pn x.r.ns.length x.cn) := hcs 4 (by decide)
   have HB0 := Lib.hid (Below.refl wr.heap.size wr)
   have HZ0 : Hid (wr.heap.size ≤ wr.heap.size) := Lib.hid (Nat.le_refl _)
   clear hcs hbl
   have hba := oneB wr (.cells #[.int .i64 x.r.cu, .int .i64 x.r.st, .slice x.pf x.r.hs.length x.cf, .slice x.pl x.r.ls.length x.cl, .slice x.pn x.r.ns.length x.cn] 56)
   have Hx1 := Lib.hid (Blk.new wr #[.int .i64 x.r.cu, .int .i64 x.r.st, .slice x.pf x.r.hs.length x.cf, .slice x.pl x.r.ls.length x.cl, .slice x.pn x.r.ns.length x.cn] 56)
   have HB1 := Lib.hid (HB0.out.alloc HB0.out.size (.cells #[.int .i64 x.r.cu, .int .i64 x.r.st, .slice x.pf x.r.hs.length x.cf, .slice x.pl x.r.ls.length x.cl, .slice x.pn x.r.ns.length x.cn] 56))
   have HZ1 := kzq HZ0 hba.size
   have HGgx : Hid (wr.heap.size ≤ wr.heap.size) := Lib.hid HB0.out.size
   clear hba HB0 HZ0
   go_upto_region 5 with fail
   clear c0 c1 c2 c3 c4 hltI
   generalize (wr.alloc (.cells #[.int .i64 x.r.cu, .int .i64 x.r.st, .slice x.pf x.r.hs.length x.cf, .slice x.pl x.r.ls.length x.cl, .slice x.pn x.r.ns.length x.cn] 56)) = W2 at *
   have HG := Lib.hid (copen_any W2 x)
   unfold RunX.v at HG
   have c0 : W2.cell? ⟨wr.heap.size, 0, none⟩ = some (.int .i64 x.r.cu) := Hx1.out.cell 0
   have c1 : W2.cell? ⟨wr.heap.size, 1, none⟩ = some (.int .i64 x.r.st) := Hx1.out.cell 1
   have c2 : W2.cell? ⟨wr.heap.size, 2, none⟩ = some (.slice x.pf x.r.hs.length x.cf) := Hx1.out.cell 2
   have c3 : W2.cell? ⟨wr.heap.size, 3, none⟩ = some (.slice x.pl x.r.ls.length x.cl) := Hx1.out.cell 3
   have c4 : W2.cell? ⟨wr.heap.size, 4, none⟩ = some (.slice x.pn x.r.ns.length x.cn) := Hx1.out.cell 4
   go_wp2_with fail
   clear c0 c1 c2 c3 c4
   refine HG.out.mono ?_
   rintro y9 w3 ⟨rfl, hb⟩
   clear HG
   have Hx2 := kbq Hx1 hb
   have HB2 := ktq HB1 hb
   have HZ2 := kzq HZ1 hb.size
   clear Hx1 HB1 HZ1
   clear hb
   obtain ⟨bo, hbo⟩ : ∃ bo, openB x.r = bo := ⟨_, rfl⟩
   rw [hbo] at HWT ⊢
   clear hbo
   cases bo
   ·have HNX : Hid (Own .i64 w3 W.heap.size 3 (.slice pz mz cz) (waitC rs (k + 1)) ∧ Below W.heap.size W w3) := Lib.hid ⟨by rw [HWT.out]; simpa using HK.out.1.later HB2.out, HK.out.2.trans (HB2.out.mono HK.out.2.size)⟩
    clear HWT
    go_wp2_with fail
    go_roundw
    case rel => exact ⟨k + 1, by omega, by go_num, HNX⟩
    case measure => simp [intOf]; omega
   ·have hw1 : wrap64 ((k : Int) + 1) = (k : Int) + 1 := by unfold wrap64; omega
    have HO3 := Lib.hid (HK.out.1.later HB2.out)
    have HWS : Hid (W.heap.size ≤ w3.heap.size) := Lib.hid (by have := HK.out.2.size; have := HB2.out.size; omega)
    go_wp2_with (at_builtin; with_reducible refine stop_appendT (.tmp 16) (.tmp 19) 68 rfl ?_)
    refine wpList_append_row rfl (.tmp 16) (.tmp 19) 68 rfl 3 .i64 8 W.heap.size eltInC (.slice pz mz cz) (.slice (some ⟨w3.heap.size, 0, none⟩) 1 1) (waitC rs k) [(k : Int) + 1] rfl rfl (HO3.out.alloc (.cells #[.int .i64 ((k : Int) + 1)] 3)) ⟨some ⟨w3.heap.size, 0, none⟩, 1, rfl, Nat.le_refl _, .inr ⟨w3.heap.size, 0, rfl, fun i hi => ?_⟩⟩ (by rw [HMZ.out]; have := HLZ.out; simp; omega) (by rw [HMZ.out]; have := HLZ.out; simp; omega) (by have := HWS.out; have := (oneB w3 (.cells #[.int .i64 ((k : Int) + 1)] 3)).size; omega) (waitC rs k ++ [(k : Int) + 1]) (mz + 1) rfl (by rw [List.length_append, HMZ.out]; rfl) ?_
    ·obtain rfl : i = 0 := by simp at hi; omega
     exact (Blk.new w3 #[.int .i64 ((k : Int) + 1)] 3).cell 0
    intro p9 c9 w9 ho9 hb9
    have HNX : Hid (Own .i64 w9 W.heap.size 3 (.slice p9 (mz + 1) c9) (waitC rs (k + 1)) ∧ Below W.heap.size W w9) := Lib.hid ⟨by rw [HWT.out]; exact ho9, ((HK.out.2.trans (HB2.out.mono HK.out.2.size)).trans ((oneB w3 (.cells #[.int .i64 ((k : Int) + 1)] 3)).mono HWS.out)).trans hb9⟩
    clear ho9 hb9 HWT
    go_wp2_with fail
    go_roundw
    case rel => exact ⟨k + 1, by omega, by go_num, HNX⟩
    case measure => simp [intOf]; omega
  ·have hltI : ¬ (k : Int) < (n : Int) := by omega
   obtain rfl : k = n := by omega
   go_wp2_with fail
   go_ret
   exact ⟨pz, cz, by rw [HMZ.out]; rfl, ⟨by rw [HMZ.out]; exact HK.out.1.row, by have h4 := HK.out.1.at_lt; rw [HMZ.out] at h4 ⊢; exact h4.imp (fun b h => Nat.le_trans HZ0.out h.1)⟩, HB0.out.trans (HK.out.2.mono HB0.out.size)⟩
theorem cwaitsA_q (w : World) (Q : Nat → Prop) (N : Nat) (NI : Int) (hNI : NI = (N : Int)) (p : Option Addr) (n c : Nat) (rs : List Rn) (h : Ct Q w N p n c rs) (hl : n ≤ 2000) (L : List Int) (hL : waitC rs n = L) :
  Calls Try.prog 16 #[.agg #[.int .i64 NI, .slice p n c]] w fun a w' => Below w.heap.size w w' ∧ ∃ p' n' c', a = .returned (.slice p' n' c') ∧ n' = L.length ∧ Row .i64 w' (.slice p' n' c') L ∧ At (fun b => w.heap.size ≤ b) (.slice p' n' c') L.length := by
 subst hNI
 subst hL
 refine (cwaitsA_any w Q N p n c rs h.rs h.n hl).mono ?_
 rintro a w' ⟨p', c', rfl, hr, hb⟩
 exact ⟨hb, p', _, c', rfl, rfl, hr.1, hr.2⟩
end Go.Proofs.Ytpddmcimmkepfaa
namespace Go.Proofs.Ytpddmcimmkepfaa
open Go.RowKit Go.Maps
set_option linter.unusedSimpArgs false
theorem lawInt : Keyed Try.prog 3 := int_keyed Try.underlying3
/-- Block b is a map of at most n entries, of sz keys, that has j just if f j. -/
def MpB (Q : Nat → Prop) (b n : Nat) (f : Int → Bool) (sz : Nat) (w : World) : Prop := Q b ∧ ∃ D : DataW Unit, w.ownsMap Try.prog 3 (plainElem Try.prog 4) b n D ∧ (∀ j : Int, Maps.has D (.int .i64 j) = f j) ∧ Maps.size D = sz
theorem ownsMap_block {w w' : World} {P : Program} {k : TypeId} {R : Value → Option (DataW Unit × List MemPlace)} {b n : Nat} {D : DataW Unit} (h : w.ownsMap P k R b n D) (hb : w'.heap[b]? = w.heap[b]?) : w'.ownsMap P k R b n D := by
 obtain ⟨es, clock, h1, h2⟩ := h
 exact ⟨es, clock, hb.trans h1, h2⟩
theorem MpB.kept {Q : Nat → Prop} {b n : Nat} {f : Int → Bool} {sz : Nat} {w w' : World} (h : MpB Q b n f sz w) (hb : Below w.heap.size w w') : MpB Q b n f sz w' := by
 obtain ⟨hq, D, h1, h2⟩ := h
 exact ⟨hq, D, ownsMap_block h1 (hb.block b h1.lt), h2⟩
theorem MpB.chg {Q : Nat → Prop} {b n : Nat} {f : Int → Bool} {sz : Nat} {w w' : World} {g : Nat} (h : MpB Q b n f sz w) (hc : Chg g w w') (hg : ¬ Q g) : MpB Q b n f sz w' := by
 obtain ⟨hq, D, h1, h2⟩ := h
 exact ⟨hq, D, ownsMap_block h1 (hc.2 b h1.lt (fun e => hg (e ▸ hq))), h2⟩
theorem MpB.lt {Q : Nat → Prop} {b n : Nat} {f : Int → Bool} {sz : Nat} {w : World} (h : MpB Q b n f sz w) : b < w.heap.size := by
 obtain ⟨_, D, h1, _⟩ := h
 exact h1.lt
theorem MpB.mono {Q : Nat → Prop} {b n m : Nat} {f : Int → Bool} {sz : Nat} {w : World} (h : MpB Q b n f sz w) (hm : n ≤ m) : MpB Q b m f sz w := by
 obtain ⟨hq, D, h1, h2⟩ := h
 exact ⟨hq, D, h1.mono hm, h2⟩
theorem MpB.made (Q : Nat → Prop) (w : World) (hq : Q w.heap.size) : MpB Q w.heap.size 0 (fun _ => false) 0 (w.alloc (.map #[] 0)) := ⟨hq, .map [], World.ownsMap_made _ _ _ _, fun _ => rfl, rfl⟩
theorem MpB.len {Q : Nat → Prop} {b n : Nat} {f : Int → Bool} {sz : Nat} {w : World} (h : MpB Q b n f sz w) (ty : TypeId) : (Builtin.len_ #[52] ty #[.map (some b)]).run Try.prog w = .ok (.int .i64 (sz : Int)) w := by
 obtain ⟨_, D, h1, _, rfl⟩ := h
 exact h1.len Try.underlying52 ty
/-- A key is put in. -/
theorem MpB.put {Q : Nat → Prop} {b n : Nat} {f : Int → Bool} {sz : Nat} {w' : World} {D : DataW Unit} {i : Int} (hq : Q b) (h0 : ∀ j : Int, Maps.has D (.int .i64 j) = f j) (hs : Maps.size D = sz) (ht : Maps.Tidy D) (h : w'.ownsMap Try.prog 3 (plainElem Try.prog 4) b n (D.put (.int .i64 i) (.lit (.bool true)))) : MpB Q b n (fun j => f j || j == i) (if f i then sz else sz + 1) w' := by
 refine ⟨hq, _, h, fun j => ?_, ?_⟩
 ·by_cases hj : j = i
  ·subst hj
   rw [Maps.has_put_same ht.isMap (by constructor)]
   simp
  ·rw [Maps.has_put_other (by intro e; cases e; exact hj rfl), h0]
   have : (j == i) = false := by simpa using hj
   show f j = (f j || j == i)
   rw [this, Bool.or_false]
 ·rw [Maps.size_put ht, h0, hs]
end Go.Proofs.Ytpddmcimmkepfaa
namespace Go.Proofs.Ytpddmcimmkepfaa
open Go.RowKit Go.Maps
set_option linter.unusedSimpArgs false
theorem zeroInt (w : World) : (zeroValue 3).run Try.prog w = .ok (.int .i64 0) w := by kernel_rfl
/-- Block b is a map of at most n entries, that has f j at j. -/
def MpI (Q : Nat → Prop) (b n : Nat) (f : Int → Int) (w : World) : Prop := Q b ∧ ∃ D : DataW Unit, w.ownsMap Try.prog 3 (plainElem Try.prog 3) b n D ∧ ∀ j : Int, D.atKey (.int .i64 j) (.lit (.int .i64 0)) = .lit (.int .i64 (f j))
theorem MpI.kept {Q : Nat → Prop} {b n : Nat} {f : Int → Int} {w w' : World} (h : MpI Q b n f w) (hb : Below w.heap.size w w') : MpI Q b n f w' := by
 obtain ⟨hq, D, h1, h2⟩ := h
 exact ⟨hq, D, ownsMap_block h1 (hb.block b h1.lt), h2⟩
theorem MpI.chg {Q : Nat → Prop} {b n : Nat} {f : Int → Int} {w w' : World} {g : Nat} (h : MpI Q b n f w) (hc : Chg g w w') (hg : ¬ Q g) : MpI Q b n f w' := by
 obtain ⟨hq, D, h1, h2⟩ := h
 exact ⟨hq, D, ownsMap_block h1 (hc.2 b h1.lt (fun e => hg (e ▸ hq))), h2⟩
theorem MpI.lt {Q : Nat → Prop} {b n : Nat} {f : Int → Int} {w : World} (h : MpI Q b n f w) : b < w.heap.size := by
 obtain ⟨_, D, h1, _⟩ := h
 exact h1.lt
theorem MpI.made (Q : Nat → Prop) (w : World) (hq : Q w.heap.size) : MpI Q w.heap.size 0 (fun _ => 0) (w.alloc (.map #[] 0)) := ⟨hq, .map [], World.ownsMap_made _ _ _ _, fun _ => rfl⟩
theorem wf64 {j : Int} (h : 0 ≤ j ∧ j ≤ 1000000) : (Lit.int .i64 j).wf = true := by
 exact WalkArith.wf_i64 (by omega)
theorem MpI.look {Q : Nat → Prop} {b n : Nat} {f : Int → Int} {w : World} (h : MpI Q b n f w) (j : Int) (hj : 0 ≤ j ∧ j ≤ 1000000) : (Instr.lookup 71 (.map (some b)) (.int .i64 j) false).run Try.prog w = .ok (.int .i64 (f j)) w := by
 obtain ⟨_, D, h1, h2⟩ := h
 obtain ⟨c, hrun, hat, _⟩ := h1.lookup_int lawInt Try.underlying71 Try.underlying3 (zeroInt w) (keyOf_int_mk Try.underlying3 (wf64 hj))
 rw [h2 j] at hat
 cases hat
 exact hrun
theorem MpI.put {Q : Nat → Prop} {b n : Nat} {f : Int → Int} {w' : World} {D : DataW Unit} {i v : Int} (hq : Q b) (h0 : ∀ j : Int, D.atKey (.int .i64 j) (.lit (.int .i64 0)) = .lit (.int .i64 (f j))) (ht : Maps.IsMap D) (h : w'.ownsMap Try.prog 3 (plainElem Try.prog 3) b n (D.put (.int .i64 i) (.lit (.int .i64 v)))) : MpI Q b n (fun j => if j = i then v else f j) w' := by
 refine ⟨hq, _, h, fun j => ?_⟩
 by_cases hj : j = i
 ·subst hj
  rw [Maps.atKey_put_same ht (by constructor)]
  simp
 ·rw [Maps.atKey_put_other (by intro e; cases e; exact hj rfl), h0]
  simp [hj]
end Go.Proofs.Ytpddmcimmkepfaa
namespace Go.Proofs.Ytpddmcimmkepfaa
open Go.RowKit Go.Maps
set_option linter.unusedSimpArgs false
def mSt (c : Int) : Msg := ⟨5, 0, 0, 0, c, 0, 0, 0, false, [], []⟩
theorem start_out {rs : List Rn} {c : Int} (h0 : 0 ≤ c ∧ c < 8) : ∃ rs2 out e, doC 3 rs (mSt c) (-1) = (rs2, out, e) ∧ (e == 0) = !(decide (c ∈ openCu rs)) ∧ (e = 0 ∨ e = 90) := by
 show ∃ rs2 out e, startC 3 rs (mSt c) = (rs2, out, e) ∧ _
 unfold startC
 rw [if_neg (show ¬ ((mSt c).c < 0 ∨ 8 ≤ (mSt c).c) by show ¬ (c < 0 ∨ 8 ≤ c); omega), show (mSt c).c = c from rfl, any_openCu]
 cases decide (c ∈ openCu rs) with
 | true => exact ⟨_, _, _, rfl, rfl, .inr rfl⟩
 | false => exact ⟨_, _, _, rfl, rfl, .inl rfl⟩
/-- A row of numbers in blocks of Q. -/
def RowQ (Q : Nat → Prop) (w : World) (v : Value) (zs : List Int) : Prop := Row .i64 w v zs ∧ At Q v zs.length
theorem RowQ.kept {Q : Nat → Prop} {w w' : World} {v : Value} {zs : List Int} (h : RowQ Q w v zs) (hb : Below w.heap.size w w') : RowQ Q w' v zs := ⟨h.1.kept hb, h.2⟩
theorem RowQ.chg {Q : Nat → Prop} {w w' : World} {v : Value} {zs : List Int} {g : Nat} (h : RowQ Q w v zs) (hc : Chg g w w') (hg : ¬ Q g) : RowQ Q w' v zs := ⟨h.1.keepP h.2 (KeepP.of_chg hc hg), h.2⟩
set_option linter.unusedSimpArgs false in
set_option maxHeartbeats 4000000 in
set_option maxRecDepth 100000 in
theorem open_walk (v : Value) (ws : List SdX) (w : World) (hw : TRow encS w v ws) (hin : ∀ z ∈ ws, z.x.In w) :
  Calls Try.prog 7 #[v] w fun e w' => e = .returned (.bool true) ∧ Below w.heap.size w w' := by
 obtain ⟨wp, wc, hv⟩ := hw.shape
 generalize hwn : ws.length = wn at hv
 subst hv
 have HWR := Lib.hid hw
 have HWI := Lib.hid hin
 have HWN : Hid (ws.length = wn) := Lib.hid hwn
 clear hw hin hwn
 have HL := Lib.hid (fun W => leads_any W)
 go_enter Try.func7, Try.ntmps7
 go_wp2_with fail
 refine (HL.out w).mono ?_
 rintro y9 W ⟨rfl, hb⟩
 clear HL
 have HB0 := Lib.hid hb
 have HG := Lib.hid (cfits_any W (.slice wp wn wc) ws (HWR.out.kept hb))
 clear hb
 obtain ⟨bf, hbf⟩ : ∃ bf, fitsC ws = bf := ⟨_, rfl⟩
 rw [hbf] at HG
 have HBF := Lib.hid hbf
 clear hbf
 go_wp2_with fail
 refine HG.out.mono ?_
 rintro y9 W1 ⟨rfl, hb⟩
 clear HG
 have HB1 := ktq HB0 hb
 clear hb HB0
 cases bf
 ·go_wp2_with fail
  go_ret
  exact ⟨rfl, HB1.out⟩
 have HFT := Lib.hid (fitsC_ok HBF.out)
 have HN60 : Hid (wn ≤ 60) := Lib.hid (by have := HFT.out.1; have := HWN.out; omega)
 clear HBF
 go_upto_region 5 with fail
 have HZ1 : Hid (w.heap.size ≤ W1.heap.size) := Lib.hid HB1.out.size
 have hba := oneB W1 (.cells #[.int .i64 3, .slice none 0 0] 27)
 have Hc2 := Lib.hid (Blk.new W1 #[.int .i64 3, .slice none 0 0] 27)
 have HB2 := Lib.hid (HB1.out.alloc HB1.out.size (.cells #[.int .i64 3, .slice none 0 0] 27))
 have HZ2 := kzq HZ1 hba.size
 have HGgc : Hid (w.heap.size ≤ W1.heap.size) := Lib.hid HB1.out.size
 clear hba HB1 HZ1
 go_upto_region 6 with fail
 generalize (W1.alloc (.cells #[.int .i64 3, .slice none 0 0] 27)) = W2 at *
 generalize hggc : W1.heap.size = gc at *
 clear hggc
 have HREL : Hid (∃ (rs : List Rn) (p : Option Addr) (m c : Nat), Blk W2 gc #[.int .i64 3, .slice p m c] 27 ∧ Ct (NotIn [gc]) W2 3 p m c rs ∧ OpenInv rs ∧ rs.length ≤ 0 ∧ Below w.heap.size w W2) := Lib.hid ⟨[], none, 0, 0, Hc2.out, Ct.nil_ _ _ _, ⟨List.Pairwise.nil, fun _ h => nomatch h⟩, Nat.le_refl _, HB2.out⟩
 clear Hc2 HB2 HZ2
 go_wp2_with fail
 go_loopw [23] (fun i wr => ∃ k : Nat, k ≤ wn ∧ i = .int .i64 k ∧ Hid (∃ (rs : List Rn) (p : Option Addr) (m c : Nat), Blk wr gc #[.int .i64 3, .slice p m c] 27 ∧ Ct (NotIn [gc]) wr 3 p m c rs ∧ OpenInv rs ∧ rs.length ≤ k ∧ Below w.heap.size w wr)) (fun i _ => wn - (intOf i).toNat)
 case atStart => exact ⟨0, by omega, rfl, HREL⟩
 case round =>
  clear HREL
  obtain ⟨k, hk, rfl, HK⟩ := hrel
  have hk9 : k + 1 ≤ 61 := by have := HN60.out; omega
  by_cases hlt : k < wn
  ·skip
   have hltI : (k : Int) < (wn : Int) := by omega
   have HLT : Hid (k < wn) := Lib.hid hlt
   obtain ⟨rs, p0, m0, q0, hk1, hk2, hk3, hk5, hk4⟩ := HK.out
   have Hc20 := Lib.hid hk1
   have Qc20 := Lib.hid hk2
   have HOI := Lib.hid hk3
   have HRL := Lib.hid hk5
   have HB20 := Lib.hid hk4
   have HZ20 : Hid (w.heap.size ≤ wr.heap.size) := Lib.hid hk4.size
   clear HK hk1 hk2 hk3 hk4 hk5
   have hkl : k < ws.length := by have := HWN.out; omega
   obtain ⟨zb, zo, hzp, hzl, hzc⟩ := (HWR.out.kept HB20.out).at_ k hkl
   subst hzp
   have HZI : Hid (ws[k].x.In w) := Lib.hid (HWI.out _ (List.getElem_mem hkl))
   have HZF := Lib.hid (HFT.out.2 _ (List.getElem_mem hkl))
   generalize ws[k] = z at *
   clear hkl hlt hk hzl
   have c0 : wr.cell? ⟨zb, zo + k * 12, none⟩ = some (.int .i64 z.tw) := hzc 0 (by decide)
   have c1 : wr.cell? ⟨zb, zo + k * 12 + 1, none⟩ = some (.int .i64 z.x.m.k) := hzc 1 (by decide)
   have c2 : wr.cell? ⟨zb, zo + k * 12 + 2, none⟩ = some (.int .i64 z.x.m.s) := hzc 2 (by decide)
   have c3 : wr.cell? ⟨zb, zo + k * 12 + 3, none⟩ = some (.int .i64 z.x.m.n) := hzc 3 (by decide)
   have c4 : wr.cell? ⟨zb, zo + k * 12 + 4, none⟩ = some (.int .i64 z.x.m.b) := hzc 4 (by decide)
   have c5 : wr.cell? ⟨zb, zo + k * 12 + 5, none⟩ = some (.int .i64 z.x.m.c) := hzc 5 (by decide)
   have c6 : wr.cell? ⟨zb, zo + k * 12 + 6, none⟩ = some (.int .i64 z.x.m.r) := hzc 6 (by decide)
   have c7 : wr.cell? ⟨zb, zo + k * 12 + 7, none⟩ = some (.int .i64 z.x.m.y) := hzc 7 (by decide)
   have c8 : wr.cell? ⟨zb, zo + k * 12 + 8, none⟩ = some (.int .i64 z.x.m.a) := hzc 8 (by decide)
   have c9 : wr.cell? ⟨zb, zo + k * 12 + 9, none⟩ = some (.bool z.x.m.t) := hzc 9 (by decide)
   have c10 : wr.cell? ⟨zb, zo + k * 12 + 10, none⟩ = some (.slice z.x.pl z.x.m.ls.length z.x.cl) := hzc 10 (by decide)
   have c11 : wr.cell? ⟨zb, zo + k * 12 + 11, none⟩ = some (.slice z.x.pn z.x.m.ns.length z.x.cn) := hzc 11 (by decide)
   clear hzc
   have HGZ : Hid (gc < wr.heap.size) := Lib.hid Hc20.out.lt
   have hba := oneB wr (.cells #[.int .i64 z.tw, .int .i64 z.x.m.k, .int .i64 z.x.m.s, .int .i64 z.x.m.n, .int .i64 z.x.m.b, .int .i64 z.x.m.c, .int .i64 z.x.m.r, .int .i64 z.x.m.y, .int .i64 z.x.m.a, .bool z.x.m.t, .slice z.x.pl z.x.m.ls.length z.x.cl, .slice z.x.pn z.x.m.ns.length z.x.cn] 38)
   have Hc21 := kbq Hc20 hba
   have Qc21 := Lib.hid (Qc20.out.kept hba)
   have Hz21 := Lib.hid (Blk.new wr #[.int .i64 z.tw, .int .i64 z.x.m.k, .int .i64 z.x.m.s, .int .i64 z.x.m.n, .int .i64 z.x.m.b, .int .i64 z.x.m.c, .int .i64 z.x.m.r, .int .i64 z.x.m.y, .int .i64 z.x.m.a, .bool z.x.m.t, .slice z.x.pl z.x.m.ls.length z.x.cl, .slice z.x.pn z.x.m.ns.length z.x.cn] 38)
   have HB21 := Lib.hid (HB20.out.alloc HB20.out.size (.cells #[.int .i64 z.tw, .int .i64 z.x.m.k, .int .i64 z.x.m.s, .int .i64 z.x.m.n, .int .i64 z.x.m.b, .int .i64 z.x.m.c, .int .i64 z.x.m.r, .int .i64 z.x.m.y, .int .i64 z.x.m.a, .bool z.x.m.t, .slice z.x.pl z.x.m.ls.length z.x.cl, .slice z.x.pn z.x.m.ns.length z.x.cn] 38))
   have HZ21 := kzq HZ20 hba.size
   have HGgz : Hid (w.heap.size ≤ wr.heap.size) := Lib.hid HB20.out.size
   clear hba Hc20 Qc20 HB20 HZ20
   go_upto_region 9 with fail
   clear hltI c0 c1 c2 c3 c4 c5 c6 c7 c8 c9 c10 c11
   generalize (wr.alloc (.cells #[.int .i64 z.tw, .int .i64 z.x.m.k, .int .i64 z.x.m.s, .int .i64 z.x.m.n, .int .i64 z.x.m.b, .int .i64 z.x.m.c, .int .i64 z.x.m.r, .int .i64 z.x.m.y, .int .i64 z.x.m.a, .bool z.x.m.t, .slice z.x.pl z.x.m.ls.length z.x.cl, .slice z.x.pn z.x.m.ns.length z.x.cn] 38)) = W3 at *
   generalize hggz : wr.heap.size = gz at *
   clear hggz
   obtain ⟨⟨rs2, out2, e2⟩, hA⟩ : ∃ A, doC 3 rs z.x.m z.tw = A := ⟨_, rfl⟩
   have HA := Lib.hid hA
   have HOI2 : Hid (OpenInv rs2) := Lib.hid (by have h := do_open (N := 3) HOI.out z.x.m z.tw; rw [hA] at h; exact h)
   have HRL2 : Hid (rs2.length ≤ k + 1) := Lib.hid (by have h := (do_ok Qc21.out.ok (by decide) z.x.m HZF.out.1 z.tw).2.2; rw [hA] at h; have h : rs2.length ≤ rs.length + 1 := h; have := HRL.out; omega)
   clear hA HOI
   have HG := Lib.hid (cdo_q W3 (NotIn [gc]) 3 3 rfl p0 m0 q0 rs z.x z.tw Qc21.out (fun b hb hm => by have h0 := Hc21.out.lt; simp only [List.mem_cons, List.not_mem_nil, or_false] at hm; omega) (by rw [Qc21.out.n]; have := HRL.out; have := HN60.out; have := HLT.out; omega) (by decide) (by decide) (fun _ => True) ⟨(HZI.out.ls.kept HB21.out), (HZI.out.ns.kept HB21.out), fun _ _ _ _ _ _ => trivial, fun _ _ _ _ _ _ => trivial, ⟨by have := HZF.out.1; omega, by have := HZF.out.2; omega⟩⟩ HZF.out.1 rs2 out2 e2 HA.out)
   simp only [Msg.v] at HG
   have a0 : W3.cell? ⟨gc, 0, none⟩ = some (.int .i64 3) := Hc21.out.cell 0
   have a1 : W3.cell? ⟨gc, 1, none⟩ = some (.slice p0 m0 q0) := Hc21.out.cell 1
   have z0 : W3.cell? ⟨gz, 0, none⟩ = some (.int .i64 z.tw) := Hz21.out.cell 0
   have z1 : W3.cell? ⟨gz, 1, none⟩ = some (.int .i64 z.x.m.k) := Hz21.out.cell 1
   have z2 : W3.cell? ⟨gz, 2, none⟩ = some (.int .i64 z.x.m.s) := Hz21.out.cell 2
   have z3 : W3.cell? ⟨gz, 3, none⟩ = some (.int .i64 z.x.m.n) := Hz21.out.cell 3
   have z4 : W3.cell? ⟨gz, 4, none⟩ = some (.int .i64 z.x.m.b) := Hz21.out.cell 4
   have z5 : W3.cell? ⟨gz, 5, none⟩ = some (.int .i64 z.x.m.c) := Hz21.out.cell 5
   have z6 : W3.cell? ⟨gz, 6, none⟩ = some (.int .i64 z.x.m.r) := Hz21.out.cell 6
   have z7 : W3.cell? ⟨gz, 7, none⟩ = some (.int .i64 z.x.m.y) := Hz21.out.cell 7
   have z8 : W3.cell? ⟨gz, 8, none⟩ = some (.int .i64 z.x.m.a) := Hz21.out.cell 8
   have z9 : W3.cell? ⟨gz, 9, none⟩ = some (.bool z.x.m.t) := Hz21.out.cell 9
   have z10 : W3.cell? ⟨gz, 10, none⟩ = some (.slice z.x.pl z.x.m.ls.length z.x.cl) := Hz21.out.cell 10
   have z11 : W3.cell? ⟨gz, 11, none⟩ = some (.slice z.x.pn z.x.m.ns.length z.x.cn) := Hz21.out.cell 11
   go_wp2_with fail
   clear a0 a1 z0 z1 z2 z3 z4 z5 z6 z7 z8 z9 z10 z11
   refine HG.out.mono ?_
   rintro y9 w4 ⟨hb, p4, n4, c4, pv4, nv4, cv4, rfl, hc, hnv, hsd⟩
   clear HG Qc21
   have Hc22 := kbq Hc21 hb
   have Hz22 := kbq Hz21 hb
   have HB22 := ktq HB21 hb
   have HZ22 := kzq HZ21 hb.size
   clear Hc21 Hz21 HB21 HZ21
   clear hb
   have Qc22 := Lib.hid hc
   have Qs22 := Lib.hid hsd
   clear hc hsd
   have HNV4 := Lib.hid hnv
   clear hnv
   go_wp2_with (with_reducible refine stop_storeT 27 (.tmp 3) (.tmp 34) rfl ?_)
   have HTH : Hid (w4.there gc 0 2) := Hc22.out.thereAt
   have hch : Hid (Chg gc w4 (w4.setCells gc 0 (#[.int .i64 3, .slice p4 n4 c4] : Array Value).toList)) := Lib.hid (chg_putL _ _ _ _ _ (Chg.refl _ w4))
   have Hc23 : Hid (Blk (w4.setCells gc 0 (#[.int .i64 3, .slice p4 n4 c4] : Array Value).toList) gc #[.int .i64 3, .slice p4 n4 c4] 27) := Lib.hid (blk_put_all Hc22.out _ rfl)
   have HB23 : Hid (Below w.heap.size w (w4.setCells gc 0 (#[.int .i64 3, .slice p4 n4 c4] : Array Value).toList)) := Lib.hid (below_put (by have := HGgc.out; have := HGZ.out; omega) _ _ _ _ HB22.out)
   have HZ23 := kzq HZ22 hch.out.size
   have Hz23 := kcq Hz22 hch (by have := HGgc.out; have := HGZ.out; omega)
   have Qc23 := Lib.hid (Qc22.out.chg hch.out (notIn_self (by simp)))
   have Qs23 := Lib.hid (Qs22.out.chg hch.out (notIn_self (by simp)))
   clear hch Hc22 Hz22 Qc22 Qs22 HB22 HZ22
   refine wpList_store_mid rfl 27 (.tmp 3) (.tmp 34) rfl gc 0 #[.int .i64 3, .slice p4 n4 c4] rfl rfl HTH.out (infoC2 rfl) (all_oneCell_toArray (by intro u hu; simp at hu; rcases hu with rfl | rfl <;> rfl)) ?_
   generalize (w4.setCells gc 0 (#[.int .i64 3, .slice p4 n4 c4] : Array Value).toList) = W5 at *
   clear HTH
   clear Qs23 HNV4 HA HRL HZI HZF
   clear Hz23
   have HGM : Hid (gc < W5.heap.size) := Lib.hid Hc23.out.lt
   have Qc23 : Hid (Ct (NotIn [gc, W5.heap.size]) W5 3 p4 n4 c4 rs2) := Lib.hid ⟨Qc23.out.rs.lt.imp (fun b hb hm => by
    simp only [List.mem_cons, List.not_mem_nil, or_false] at hm
    rcases hm with h | h
    ·exact hb.1 (by rw [h]; simp)
    ·have := hb.2; omega), Qc23.out.n, Qc23.out.ok⟩
   have hmm := @run_makeMap Try.prog
   go_upto_region 11 with fail
   clear hmm
   have hba := oneB W5 (.map #[] 0)
   have Qm24 : Hid (MpI (NotIn [gc]) W5.heap.size 0 (fun _ => 0) (W5.alloc (.map #[] 0))) := Lib.hid (MpI.made (NotIn [gc]) W5 (fun hm => by have := HGM.out; simp only [List.mem_cons, List.not_mem_nil, or_false] at hm; omega))
   have Hc24 := kbq Hc23 hba
   have Qc24 := Lib.hid (Qc23.out.kept hba)
   have HB24 := ktq HB23 hba
   have HZ24 : Hid (w.heap.size ≤ (W5.alloc (.map #[] 0)).heap.size) := Lib.hid HB24.out.size
   clear hba Hc23 Qc23 HB23 HZ23
   generalize (W5.alloc (.map #[] 0)) = W6 at *
   generalize hgm : W5.heap.size = gm at *
   clear hgm
   obtain ⟨L, hL⟩ : ∃ L, waitC rs2 rs2.length = L := ⟨_, rfl⟩
   have HLW := Lib.hid hL
   clear hL
   have HCU : Hid (L.map (fun n => (rnAt rs2 n).cu) = openCu rs2) := Lib.hid (by rw [← HLW.out, wait_open rs2 _ (Nat.le_refl _), List.take_of_length_le (Nat.le_refl _)])
   have HG := Lib.hid (cwaitsA_q W6 (NotIn [gc, gm]) 3 3 rfl p4 n4 c4 rs2 Qc24.out (by rw [Qc24.out.n]; have := HRL2.out; have := HN60.out; have := HLT.out; omega) L (by rw [Qc24.out.n]; exact HLW.out))
   have a0 : W6.cell? ⟨gc, 0, none⟩ = some (.int .i64 3) := Hc24.out.cell 0
   have a1 : W6.cell? ⟨gc, 1, none⟩ = some (.slice p4 n4 c4) := Hc24.out.cell 1
   go_wp2_with fail
   clear a0 a1
   refine HG.out.mono ?_
   rintro y9 w7 ⟨hb, pw, nw, cw, rfl, hnw, hrw, haw⟩
   clear HG
   have HNW : Hid (nw = L.length) := Lib.hid hnw
   have HRW0 : Hid (Row .i64 w7 (.slice pw nw cw) L) := Lib.hid hrw
   have HAW : Hid (At (NotIn [gc, gm]) (.slice pw nw cw) L.length) := Lib.hid (haw.imp (fun b hb hm => by have h8 := Qm24.out.lt; have h9 := Hc24.out.lt; simp only [List.mem_cons, List.not_mem_nil, or_false] at hm; omega))
   clear hnw hrw haw
   have Hc25 := kbq Hc24 hb
   have Qc25 := Lib.hid (Qc24.out.kept hb)
   have Qm25 := Lib.hid (Qm24.out.kept hb)
   have HB25 := ktq HB24 hb
   have HZ25 := kzq HZ24 hb.size
   clear Hc24 Qc24 Qm24 HB24 HZ24
   clear hb
   have HNL : Hid (L.length = (openCu rs2).length ∧ nw ≤ 61) := Lib.hid (by
    have h1 := congrArg List.length HCU.out
    rw [List.length_map] at h1
    have h2 : (openCu rs2).length ≤ rs2.length := by unfold openCu; rw [List.length_map]; exact List.length_filter_le _ _
    have := HRL2.out; have := HN60.out; have := HLT.out; have := HNW.out
    exact ⟨h1, by omega⟩)
   have HREL : Hid (Blk w7 gc #[.int .i64 3, .slice p4 n4 c4] 27 ∧ Ct (NotIn [gc, gm]) w7 3 p4 n4 c4 rs2 ∧ MpI (NotIn [gc]) gm 0 (cuF (openCu rs2) 0) w7 ∧ (Row .i64 w7 (.slice pw nw cw) L) ∧ Below w.heap.size w w7) := Lib.hid ⟨Hc25.out, Qc25.out, (by have h := Qm25.out; rw [show cuF (openCu rs2) 0 = (fun _ => 0) from by funext j; unfold cuF; simp]; exact h), HRW0.out, HB25.out⟩
   clear Hc25 Qc25 Qm25 HB25 HZ25 HRW0
   go_wp2_with fail
   go_loopw [41] (fun i wr => ∃ t : Nat, t ≤ nw ∧ i = .int .i64 t ∧ Hid (Blk wr gc #[.int .i64 3, .slice p4 n4 c4] 27 ∧ Ct (NotIn [gc, gm]) wr 3 p4 n4 c4 rs2 ∧ MpI (NotIn [gc]) gm t (cuF (openCu rs2) t) wr ∧ (Row .i64 wr (.slice pw nw cw) L) ∧ Below w.heap.size w wr)) (fun i _ => nw - (intOf i).toNat)
   case atStart => exact ⟨0, by omega, rfl, HREL⟩
   case round =>
    clear HREL
    obtain ⟨t, ht, rfl, HT⟩ := hrel
    have ht9 : t + 1 ≤ 62 := by have := HNL.out.2; omega
    have Hc40 := Lib.hid HT.out.1
    have Qc40 := Lib.hid HT.out.2.1
    have Qm40 := Lib.hid HT.out.2.2.1
    have Qo40 : Hid (RowQ (NotIn [gc, gm]) wr (.slice pw nw cw) L) := Lib.hid ⟨HT.out.2.2.2.1, HAW.out⟩
    have HB40 := Lib.hid HT.out.2.2.2.2
    have HZ40 : Hid (w.heap.size ≤ wr.heap.size) := Lib.hid HB40.out.size
    clear HT
    by_cases htl : t < nw
    ·skip
     have htI : (t : Int) < (nw : Int) := by omega
     have HTL : Hid (t < L.length) := Lib.hid (by have := HNW.out; omega)
     have HTN : Hid (t < nw) := Lib.hid htl
     have HTC : Hid (t < (openCu rs2).length) := Lib.hid (by have := HNL.out.1; have := HTL.out; omega)
     obtain ⟨lb, lo, hlp, hll, hlc⟩ := Row.atc Qo40.out.1 t HTL.out
     have HLB : Hid (lb ≠ gm) := Lib.hid (fun e => by
      have h := HAW.out lb lo nw cw (by rw [hlp]) (by have := HTL.out; omega)
      exact h (by rw [e]; simp))
     obtain ⟨ln, hln⟩ : ∃ ln, L[t]'HTL.out = ln := ⟨_, rfl⟩
     have hlg : L.getD t 0 = ln := by rw [List.getD_eq_getElem?_getD, List.getElem?_eq_getElem HTL.out, ← hln]; rfl
     rw [hlg] at hlc
     have HLH : Hid (hasB rs2 ln = true) := Lib.hid (by rw [← hln]; exact wait_has rs2 _ (Nat.le_refl _) _ (by rw [HLW.out]; exact List.getElem_mem _))
     have HLC : Hid ((rnAt rs2 ln).cu = (openCu rs2)[t]'HTC.out) := Lib.hid (by
      have h := HCU.out
      have h2 : ((L.map (fun n => (rnAt rs2 n).cu))[t]'(by rw [List.length_map]; exact HTL.out)) = (openCu rs2)[t]'HTC.out := by simp only [h]
      rw [List.getElem_map, hln] at h2
      exact h2)
     subst hlp
     clear hln hlg hll htl
     go_upto_region 14 with fail
     clear hlc htI
     have HG := Lib.hid (cget_q wr (NotIn [gc, gm]) 3 3 rfl ln p4 n4 c4 rs2 Qc40.out (by rw [Qc40.out.n]; have := HRL2.out; have := HN60.out; have := HLT.out; omega) (by decide) (by decide) true HLH.out)
     have a0 : wr.cell? ⟨gc, 0, none⟩ = some (.int .i64 3) := Hc40.out.cell 0
     have a1 : wr.cell? ⟨gc, 1, none⟩ = some (.slice p4 n4 c4) := Hc40.out.cell 1
     go_wp2_with fail
     clear a0 a1
     refine HG.out.mono ?_
     rintro y9 w8 ⟨hb, x, rfl, hg⟩
     clear HG
     have HXR : Hid (x.r.cu = (openCu rs2)[t]'HTC.out) := Lib.hid (by rw [(hg.1 rfl).1]; exact HLC.out)
     clear hg
     unfold RunX.v
     have Hc41 := kbq Hc40 hb
     have Qc41 := Lib.hid (Qc40.out.kept hb)
     have Qm41 := Lib.hid (Qm40.out.kept hb)
     have Qo41 := Lib.hid (Qo40.out.kept hb)
     have HB41 := ktq HB40 hb
     have HZ41 := kzq HZ40 hb.size
     clear Hc40 Qc40 Qm40 Qo40 HB40 HZ40
     clear hb
     have HGX : Hid (gm < w8.heap.size) := Lib.hid Qm41.out.lt
     have hba := oneB w8 (.cells #[.int .i64 x.r.cu, .int .i64 x.r.st, .slice x.pf x.r.hs.length x.cf, .slice x.pl x.r.ls.length x.cl, .slice x.pn x.r.ns.length x.cn] 56)
     have Hc42 := kbq Hc41 hba
     have Qc42 := Lib.hid (Qc41.out.kept hba)
     have Qm42 := Lib.hid (Qm41.out.kept hba)
     have Qo42 := Lib.hid (Qo41.out.kept hba)
     have Hx42 := Lib.hid (Blk.new w8 #[.int .i64 x.r.cu, .int .i64 x.r.st, .slice x.pf x.r.hs.length x.cf, .slice x.pl x.r.ls.length x.cl, .slice x.pn x.r.ns.length x.cn] 56)
     have HB42 := Lib.hid (HB41.out.alloc HB41.out.size (.cells #[.int .i64 x.r.cu, .int .i64 x.r.st, .slice x.pf x.r.hs.length x.cf, .slice x.pl x.r.ls.length x.cl, .slice x.pn x.r.ns.length x.cn] 56))
     have HZ42 := kzq HZ41 hba.size
     have HGgx : Hid (w.heap.size ≤ w8.heap.size) := Lib.hid HB41.out.size
     clear hba Hc41 Qc41 Qm41 Qo41 HB41 HZ41
     go_upto_region 15 with fail
     generalize (w8.alloc (.cells #[.int .i64 x.r.cu, .int .i64 x.r.st, .slice x.pf x.r.hs.length x.cf, .slice x.pl x.r.ls.length x.cl, .slice x.pn x.r.ns.length x.cn] 56)) = W9 at *
     generalize hggx : w8.heap.size = gx at *
     clear hggx
     obtain ⟨cu, hcu⟩ : ∃ cu, x.r.cu = cu := ⟨_, rfl⟩
     rw [hcu] at HXR
     have HCR : Hid (0 ≤ cu ∧ cu ≤ 1000000) := Lib.hid (by
      have h1 := rnAt_mem HLH.out
      have h2 := HOI2.out.2 _ h1
      have h3 := HXR.out.trans HLC.out.symm
      omega)
     have x0 : W9.cell? ⟨gx, 0, none⟩ = some (.int .i64 cu) := by have h := Hx42.out.cell 0; rw [h, ← hcu]; rfl
     have HXC := Lib.hid hcu
     clear hcu
     have HF0 : Hid (cuF (openCu rs2) t cu = 0) := Lib.hid (by rw [HXR.out]; exact cuF_new HOI2.out.1 HTC.out)
     have hlook := Qm42.out.look cu HCR.out
     rw [HF0.out] at hlook
     obtain ⟨hmq, D, hmo, hmh⟩ := Qm42.out
     have HKEY : Hid (keyOf Try.prog 3 (.int .i64 cu) = some (.int .i64 cu)) := Lib.hid (keyOf_int_mk Try.underlying3 (wf64 HCR.out))
     have HMH := Lib.hid hmh
     have HMO := Lib.hid hmo
     have HMQ := Lib.hid hmq
     clear hmh hmo hmq
     go_wp2_with (at_mapUpdate; refine wpList_mapUpdate_own _ rfl _ _ _ 71 rfl 3 3 lawInt Try.underlying71 _ gm t _ rfl HMO.out (by have := HNL.out; have := HTN.out; unfold maxLen; omega) _ _ _ rfl rfl HKEY.out _ [] (plainElem_int Try.underlying3 (wf64 (j := 1) (by decide))) ?_)
     clear hlook
     intro W10 hown8 hgrow8
     have hch : Hid (Chg gm W9 W10) := Lib.hid ⟨Below.grown (Below.refl _ _) hgrow8 (Nat.zero_le _) (fun _ _ => Nat.zero_le _), fun b hb hne => hgrow8.block b hb (by intro e; cases e; exact hne rfl)⟩
     have hcg : gc ≠ gm := by have := HGM.out; omega
     have Hc43 := Lib.hid (Hc42.out.chg hch.out hcg)
     have Hx43 := kcq Hx42 hch (by have := HGX.out; omega)
     have HB43 : Hid (Below w.heap.size w W10) := Lib.hid (HB42.out.trans (hch.out.below (by have := HGgc.out; have := HGM.out; omega) HB42.out.size))
     have HZ43 : Hid (w.heap.size ≤ W10.heap.size) := Lib.hid HB43.out.size
     have Qm43 : Hid (MpI (NotIn [gc]) gm (t + 1) (cuF (openCu rs2) (t + 1)) W10) := Lib.hid (by
      have h1 := MpI.put HMQ.out HMH.out HMO.out.isMap hown8
      rw [← cuF_succ HTC.out, ← HXR.out]
      exact h1)
     have Qc43 : Hid (Ct (NotIn [gc, gm]) W10 3 p4 n4 c4 rs2) := Lib.hid (Qc42.out.chg hch.out (notIn_self (by simp)))
     have Qo43 : Hid (RowQ (NotIn [gc, gm]) W10 (.slice (some ⟨lb, lo, none⟩) nw cw) L) := Lib.hid (Qo42.out.chg hch.out (notIn_self (by simp)))
     clear hch hcg HMH HMO HMQ HKEY hgrow8 hown8 Hc42 Hx42 Qc42 Qm42 Qo42 HB42 HZ42 x0
     have HF1 : Hid (cuF (openCu rs2) (t + 1) cu = 1) := Lib.hid (by rw [← cuF_succ HTC.out, ← HXR.out]; simp)
     have hlook := Qm43.out.look cu HCR.out
     rw [HF1.out] at hlook
     have x0 : W10.cell? ⟨gx, 0, none⟩ = some (.int .i64 cu) := by have h := Hx43.out.cell 0; rw [h, ← HXC.out]; rfl
     go_upto_region 18 with fail
     clear hlook x0
     have HNX : Hid (Blk W10 gc #[.int .i64 3, .slice p4 n4 c4] 27 ∧ Ct (NotIn [gc, gm]) W10 3 p4 n4 c4 rs2 ∧ MpI (NotIn [gc]) gm (t + 1) (cuF (openCu rs2) (t + 1)) W10 ∧ (Row .i64 W10 (.slice (some ⟨lb, lo, none⟩) nw cw) L) ∧ Below w.heap.size w W10) := Lib.hid ⟨Hc43.out, Qc43.out, Qm43.out, Qo43.out.1, HB43.out⟩
     clear Hc43 Hx43 Qc43 Qm43 Qo43 HB43 HZ43 HF0 HF1 HXC HXR HCR HLC HLH HTC HTL
     go_wp2_with fail
     go_roundw
     case rel => exact ⟨t + 1, by have := HTN.out; omega, by go_num, HNX⟩
     case measure => have := HTN.out; simp [intOf]; omega
    ·skip
     have htI : ¬ (t : Int) < (nw : Int) := by omega
     have htn : t = nw := by omega
     have HRL3 : Hid (Blk wr gc #[.int .i64 3, .slice p4 n4 c4] 27 ∧ Ct (NotIn [gc, gm]) wr 3 p4 n4 c4 rs2 ∧ MpI (NotIn [gc]) gm nw (cuF (openCu rs2) nw) wr ∧ Below w.heap.size w wr) := Lib.hid (by rw [htn] at Qm40; exact ⟨Hc40.out, Qc40.out, Qm40.out, HB40.out⟩)
     clear Hc40 Qc40 Qm40 Qo40 HB40 HZ40 htl ht htn
     go_upto_region 20 with fail
     clear htI
     go_loopw [66] (fun i wr => ∃ j : Nat, j ≤ 8 ∧ i = .int .i64 j ∧ Hid (Blk wr gc #[.int .i64 3, .slice p4 n4 c4] 27 ∧ Ct (NotIn [gc, gm]) wr 3 p4 n4 c4 rs2 ∧ MpI (NotIn [gc]) gm nw (cuF (openCu rs2) nw) wr ∧ Below w.heap.size w wr)) (fun i _ => 8 - (intOf i).toNat)
     case atStart => exact ⟨0, by omega, rfl, HRL3⟩
     case round =>
      clear HRL3
      obtain ⟨j, hj, rfl, HJ⟩ := hrel
      have hj9 : j + 1 ≤ 9 := by omega
      have Hc60 := Lib.hid HJ.out.1
      have Qc60 := Lib.hid HJ.out.2.1
      have Qm60 := Lib.hid HJ.out.2.2.1
      have HB60 := Lib.hid HJ.out.2.2.2
      have HZ60 : Hid (w.heap.size ≤ wr.heap.size) := Lib.hid HB60.out.size
      by_cases hj8 : j < 8
      ·skip
       have hjI : (j : Int) < 8 := by omega
       have HJ8 : Hid (j < 8) := Lib.hid hj8
       obtain ⟨rs3, out3, e3, hA3, he3, he4⟩ := start_out (rs := rs2) (c := (j : Int)) (by omega)
       have HA3 := Lib.hid hA3
       have HE3 := Lib.hid he3
       clear hA3 he3 he4 hj8 hj
       have HJF : Hid (cuF (openCu rs2) nw (j : Int) = if (j : Int) ∈ openCu rs2 then 1 else 0) := Lib.hid (by unfold cuF; rw [List.take_of_length_le (by have := HNL.out.1; have := HNW.out; omega)])
       have HG := Lib.hid (cdo_q wr (NotIn [gc, gm]) 3 3 rfl p4 n4 c4 rs2 (⟨mSt (j : Int), none, 0, none, 0⟩ : MsgX) (-1) Qc60.out (fun b hb hm => by have h8 := Qm60.out.lt; have h0 := Hc60.out.lt; simp only [List.mem_cons, List.not_mem_nil, or_false] at hm; omega) (by rw [Qc60.out.n]; have := HRL2.out; have := HN60.out; have := HLT.out; omega) (by decide) (by decide) (fun _ => True) ⟨TRow.nil_ _ _, Row.nil_ _ _ 0, At.nil_ _ _, At.nil_ _ _, ⟨by show 0 * 32 ≤ _; decide, by show 0 * 8 ≤ _; decide⟩⟩ (by show 0 ≤ 60; decide) rs3 out3 e3 HA3.out)
       simp only [mSt, Msg.v, List.length_cons, List.length_nil, Nat.zero_add] at HG
       have a0 : wr.cell? ⟨gc, 0, none⟩ = some (.int .i64 3) := Hc60.out.cell 0
       have a1 : wr.cell? ⟨gc, 1, none⟩ = some (.slice p4 n4 c4) := Hc60.out.cell 1
       go_wp2_with fail
       clear a0 a1 
       refine HG.out.mono ?_
       rintro y9 w8 ⟨hb, p8, n8, c8, pv8, nv8, cv8, rfl, hc, hnv, hsd⟩
       have HC8 : Hid (Ct (NotIn [gc, gm]) w8 3 p4 n4 c4 rs2) := Lib.hid (HJ.out.2.1.kept hb)
       clear HG Qc60
       have Hc61 := kbq Hc60 hb
       have Qm61 := Lib.hid (Qm60.out.kept hb)
       have HB61 := ktq HB60 hb
       have HZ61 := kzq HZ60 hb.size
       clear Hc60 Qm60 HB60 HZ60
       clear hb
       have Qc61 := Lib.hid hc
       have Qs61 := Lib.hid hsd
       clear hc hsd
       have HNV8 := Lib.hid hnv
       clear hnv
       clear Qc61 Qs61 HNV8
       have hba := oneB w8 (.cells #[.int .i64 3, .slice p8 n8 c8] 27)
       have Hc62 := kbq Hc61 hba
       have Qm62 := Lib.hid (Qm61.out.kept hba)
       have Hr62 := Lib.hid (Blk.new w8 #[.int .i64 3, .slice p8 n8 c8] 27)
       have HB62 := Lib.hid (HB61.out.alloc HB61.out.size (.cells #[.int .i64 3, .slice p8 n8 c8] 27))
       have HZ62 := kzq HZ61 hba.size
       have HGgr : Hid (w.heap.size ≤ w8.heap.size) := Lib.hid HB61.out.size
       clear hba Hc61 Qm61 HB61 HZ61
       go_upto_region 23 with fail
       have HC9X := Lib.hid (HC8.out.kept (oneB w8 (.cells #[.int .i64 3, .slice p8 n8 c8] 27)))
       generalize (w8.alloc (.cells #[.int .i64 3, .slice p8 n8 c8] 27)) = W9 at *
       generalize hggr : w8.heap.size = gr at *
       clear hggr
       have HC9 : Hid (Ct (NotIn [gc, gm]) W9 3 p4 n4 c4 rs2) := Lib.hid HC9X.out
       clear HC8
       have hlook := Qm62.out.look (j : Int) (by have := HJ8.out; omega)
       rw [HJF.out] at hlook
       obtain ⟨be, hbe⟩ : ∃ be, decide ((j : Int) ∈ openCu rs2) = be := ⟨_, rfl⟩
       have HE4 : Hid ((e3 == 0) = !be) := Lib.hid (by rw [← hbe]; exact HE3.out)
       have he5 : (e3 == 0) = !be := HE4.out
       have HNX : Hid (Blk W9 gc #[.int .i64 3, .slice p4 n4 c4] 27 ∧ Ct (NotIn [gc, gm]) W9 3 p4 n4 c4 rs2 ∧ MpI (NotIn [gc]) gm nw (cuF (openCu rs2) nw) W9 ∧ Below w.heap.size w W9) := Lib.hid ⟨Hc62.out, HC9.out, Qm62.out, HB62.out⟩
       clear Hc62 Hr62 HC9 Qm62 HB62 HZ62 HJ HA3 HE3 HE4 HJF
       cases be
       ·rw [if_neg (of_decide_eq_false hbe)] at hlook
        have he6 : (e3 == 0) = true := he5
        clear hbe he5
        go_upto_region 25 with fail
        clear hlook he6 hjI
        go_wp2_with fail
        go_roundw
        case rel => exact ⟨j + 1, by have := HJ8.out; omega, by go_num, HNX⟩
        case measure => have := HJ8.out; simp [intOf]; omega
       ·rw [if_pos (of_decide_eq_true hbe)] at hlook
        have he6 : (e3 == 0) = false := he5
        clear hbe he5
        go_upto_region 25 with fail
        clear hlook he6 hjI
        go_wp2_with fail
        go_roundw
        case rel => exact ⟨j + 1, by have := HJ8.out; omega, by go_num, HNX⟩
        case measure => have := HJ8.out; simp [intOf]; omega
      ·have hjI : ¬ (j : Int) < 8 := by omega
       have HNX : Hid (∃ (rs : List Rn) (p : Option Addr) (m c : Nat), Blk wr gc #[.int .i64 3, .slice p m c] 27 ∧ Ct (NotIn [gc]) wr 3 p m c rs ∧ OpenInv rs ∧ rs.length ≤ (k + 1) ∧ Below w.heap.size w wr) := Lib.hid ⟨rs2, p4, n4, c4, Hc60.out, ⟨Qc60.out.rs.imp (fun b h hm => h (by simp only [List.mem_singleton] at hm; rw [hm]; simp)), Qc60.out.n, Qc60.out.ok⟩, HOI2.out, HRL2.out, HB60.out⟩
       clear Hc60 Qc60 Qm60 HB60 HZ60 HJ hj hj8
       go_upto_region 26 with fail
       clear hjI
       go_wp2_with fail
       go_roundw
       case rel => exact ⟨k + 1, by have := HLT.out; omega, by go_num, HNX⟩
       case measure => have := HLT.out; simp [intOf]; omega
  ·have hltI : ¬ (k : Int) < (wn : Int) := by omega
   obtain ⟨rs, p0, m0, q0, hk1, hk2, hk3, hk5, hk4⟩ := HK.out
   have HBE := Lib.hid hk4
   clear hk1 hk2 hk3 hk4 hk5 HK
   go_wp2_with fail
   go_ret
   exact ⟨rfl, HBE.out⟩
end Go.Proofs.Ytpddmcimmkepfaa
namespace Go.Proofs.Ytpddmcimmkepfaa
open Go.ChangeShapes Go.WideShapes Go.ChangeAt Go.RowKit
section
variable {H : Type} {enc : TypeId × Value → H} {P : Program} {w : World} {base : Nat} {held : Bool}
theorem wd_readI {t tm : TypeId} {f0 fm : Field} (ht : P.underlying t = some (.struct #[f0, fm])) (o0 : f0.offset = 0) (om : fm.offset = 1)
  (u0 : P.underlying f0.type = some (.int .i64)) (tm' : fm.type = tm) (cc : P.cellsOf f0.type = 1 ∧ P.cellsOf tm = 11)
  (rd : ∀ (fuel : Nat) (cs : List Value) (y : DataW H × List MemPlace), cs.length = 11 → DataW.trod enc P w base (fun _ => true) held fuel tm cs = some y → ∃ x : MsgX, cs = x.cells ∧ x.In w)
  (fuel : Nat) (cs : List Value) (y : DataW H × List MemPlace) (hl : cs.length = 12) (hf : DataW.trod enc P w base (fun _ => true) held fuel t cs = some y) : ∃ x : SdX, cs = x.cells ∧ x.x.In w := by
 obtain ⟨c0, cm⟩ := cc
 match cs, hl with
 | v0 :: ms, hl =>
  have hml : ms.length = 11 := by simpa using hl
  obtain ⟨xs, k, hk, hxy, _, hxl, hf⟩ := DataW.trod_struct ht hf
  match xs, hxl with
  | [y0, ym], _ =>
   have g0 := hf 0 f0 rfl
   have gm := hf 1 fm rfl
   subst tm'
   simp [o0, om, c0, cm] at g0 gm
   rw [List.take_of_length_le (by omega)] at gm
   obtain ⟨z0, q0, _, w0⟩ := DataW.trod_int u0 g0
   simp at q0
   obtain ⟨x, rfl, hin⟩ := rd _ _ _ hml gm
   subst q0
   exact ⟨⟨z0, x⟩, rfl, hin⟩
end
end Go.Proofs.Ytpddmcimmkepfaa
