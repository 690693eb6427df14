/- ChiefLate: its walk. -/
import Derived.Test.YtpddmcimmkepfaaQ4
import Derived.Test.YtpddmcimmkepfaaQ1
namespace Go.Proofs.Ytpddmcimmkepfaa
open Go.RowKit Go.Maps
set_option linter.unusedSimpArgs false
theorem hasB_late {v0 v1 v2 b : Bool} : hasB (lateV v0 v1 v2 b) 1 = true := rfl
theorem st_late {v0 v1 v2 b : Bool} : (rnAt (lateV v0 v1 v2 b) 1).st = if b then 4 else if v0 && v1 && v2 then 3 else 2 := rfl
theorem len_late {v0 v1 v2 b : Bool} : (lateV v0 v1 v2 b).length = 1 := rfl
theorem len_lateO (k : Nat) : (lateO k).length = 1 := by
 match k with
 | 0 => rfl
 | 1 => rfl
 | 2 => rfl
 | _ + 3 => rfl
theorem wait_late {v0 v1 v2 : Bool} (h : cnt3 v0 v1 v2 < 3) : waitC (lateV v0 v1 v2 false) 1 = [1] := by
 have h1 := cnt3_lt.1 h
 unfold waitC lateV openB
 rw [h1]
 rfl
/-- A row of numbers in blocks of Q. -/
def RowQ (Q : Nat → Prop) (w : World) (v : Value) (zs : List Int) : Prop := Row .i64 w v zs ∧ At Q v zs.length
theorem RowQ.kept {Q : Nat → Prop} {w w' : World} {v : Value} {zs : List Int} (h : RowQ Q w v zs) (hb : Below w.heap.size w w') : RowQ Q w' v zs := ⟨h.1.kept hb, h.2⟩
theorem RowQ.chg {Q : Nat → Prop} {w w' : World} {v : Value} {zs : List Int} {g : Nat} (h : RowQ Q w v zs) (hc : Chg g w w') (hg : ¬ Q g) : RowQ Q w' v zs := ⟨h.1.keepP h.2 (KeepP.of_chg hc hg), h.2⟩
set_option linter.unusedSimpArgs false in
set_option maxHeartbeats 4000000 in
set_option maxRecDepth 100000 in
theorem late_walk (zp : Option Addr) (zn zc : Nat) (zs : List Int) (no due : Int) (w : World) (hz : Row .i64 w (.slice zp zn zc) zs) (hzn : zn = zs.length) (hno : -9223372036854775808 ≤ no ∧ no ≤ 9223372036854775807) (hdu : -9223372036854775808 ≤ due ∧ due ≤ 9223372036854775807) :
  Calls Try.prog 6 #[.slice zp zn zc, .int .i64 no, .int .i64 due] w fun e w' => e = .returned (.bool true) ∧ Below w.heap.size w w' := by
 have HZS := Lib.hid hz
 have HAW : Hid (At (fun b => b < w.heap.size) (.slice zp zn zc) zs.length) := Lib.hid (fun b o n c e hn => by rw [e] at hz; exact hz.lt_ hn)
 have HZN : Hid (zs.length = zn) := Lib.hid hzn.symm
 have HNO : Hid (-9223372036854775808 ≤ no ∧ no ≤ 9223372036854775807) := Lib.hid hno
 have HDU : Hid (-9223372036854775808 ≤ due ∧ due ≤ 9223372036854775807) := Lib.hid hdu
 clear hz hzn hno hdu
 have HL := Lib.hid (fun W => leads_any W)
 go_enter Try.func6, Try.ntmps6
 go_wp2_with fail
 refine (HL.out w).mono ?_
 rintro y9 W ⟨rfl, hb⟩
 clear HL
 have HB0 := Lib.hid hb
 have HZ0 : Hid (w.heap.size ≤ W.heap.size) := Lib.hid hb.size
 have HZW := Lib.hid (HZS.out.kept hb)
 have HZ0Q : Hid (w.heap.size ≤ W.heap.size) := Lib.hid hb.size
 clear hb HZS
 by_cases h20 : 20 < zn
 ·have h20I : (20 : Int) < (zn : Int) := by omega
  go_wp2_with fail
  go_ret
  exact ⟨rfl, HB0.out⟩
 have h20I : ¬ (20 : Int) < (zn : Int) := by omega
 have HN20 : Hid (zn ≤ 20) := Lib.hid (by omega)
 clear h20
 go_upto_region 5 with fail
 clear h20I
 have hba := oneB W (.cells #[.int .i64 3, .slice none 0 0] 27)
 have Hc1 := Lib.hid (Blk.new W #[.int .i64 3, .slice none 0 0] 27)
 have HB1 := Lib.hid (HB0.out.alloc HB0.out.size (.cells #[.int .i64 3, .slice none 0 0] 27))
 have HZ1 := kzq HZ0 hba.size
 have HGgc : Hid (w.heap.size ≤ W.heap.size) := Lib.hid HB0.out.size
 clear hba HB0 HZ0
 go_upto_region 6 with fail
 have hzo := HZW.out.kept (oneB W (.cells #[.int .i64 3, .slice none 0 0] 27))
 generalize (W.alloc (.cells #[.int .i64 3, .slice none 0 0] 27)) = W0 at *
 have HAT : Hid (At (NotIn [W.heap.size]) (.slice zp zn zc) zs.length) := Lib.hid (HAW.out.imp (fun b hb hm => by have := HZ0Q.out; simp only [List.mem_cons, List.not_mem_nil, or_false] at hm; omega))
 clear HAW
 generalize hggc : W.heap.size = gc at *
 clear hggc
 have Qc1 : Hid (Ct (NotIn [gc]) W0 3 none 0 0 []) := Lib.hid (Ct.nil_ _ _ _)
 obtain ⟨out0, hA0⟩ := late_start
 have HA0 := Lib.hid hA0
 clear hA0
 have Qo1 : Hid (RowQ (NotIn [gc]) W0 (.slice zp zn zc) zs) := Lib.hid ⟨hzo, HAT.out⟩
 clear hzo HZW HAT
 have HG := Lib.hid (cdo_q W0 (NotIn [gc]) 3 3 rfl none 0 0 [] (⟨mS, none, 0, none, 0⟩ : MsgX) (-1) Qc1.out (fun b hb hm => by have h0 := Hc1.out.lt; simp only [List.mem_cons, List.not_mem_nil, or_false] at hm; omega) (by rw [Qc1.out.n]; decide) (by decide) (by decide) (fun _ => True) ⟨TRow.nil_ _ _, Row.nil_ _ _ 0, At.nil_ _ _, At.nil_ _ _, ⟨by show 0 * 32 ≤ _; decide, by show 0 * 8 ≤ _; decide⟩⟩ (by decide) (lateO 0) out0 0 HA0.out)
 simp only [mS, Msg.v, List.length_cons, List.length_nil, Nat.zero_add] at HG
 have a0 : W0.cell? ⟨gc, 0, none⟩ = some (.int .i64 3) := Hc1.out.cell 0
 have a1 : W0.cell? ⟨gc, 1, none⟩ = some (.slice none 0 0) := Hc1.out.cell 1
 go_wp2_with fail
 clear a0 a1 
 refine HG.out.mono ?_
 rintro y9 w1 ⟨hb, p1, n1, c1, pv1, nv1, cv1, rfl, hc, hnv, hsd⟩
 clear HG Qc1
 have Hc2 := kbq Hc1 hb
 have Qo2 := Lib.hid (Qo1.out.kept hb)
 have HB2 := ktq HB1 hb
 have HZ2 := kzq HZ1 hb.size
 clear Hc1 Qo1 HB1 HZ1
 clear hb
 have Qc2 := Lib.hid hc
 have Qs2 := Lib.hid hsd
 clear hc hsd
 have HNV1 := Lib.hid hnv
 clear hnv
 go_wp2_with (with_reducible refine stop_storeT 27 (.tmp 7) (.tmp 30) rfl ?_)
 have HTH : Hid (w1.there gc 0 2) := Hc2.out.thereAt
 have hch : Hid (Chg gc w1 (w1.setCells gc 0 (#[.int .i64 3, .slice p1 n1 c1] : Array Value).toList)) := Lib.hid (chg_putL _ _ _ _ _ (Chg.refl _ w1))
 have Hc3 : Hid (Blk (w1.setCells gc 0 (#[.int .i64 3, .slice p1 n1 c1] : Array Value).toList) gc #[.int .i64 3, .slice p1 n1 c1] 27) := Lib.hid (blk_put_all Hc2.out _ rfl)
 have HB3 : Hid (Below w.heap.size w (w1.setCells gc 0 (#[.int .i64 3, .slice p1 n1 c1] : Array Value).toList)) := Lib.hid (below_put (by have := HGgc.out; omega) _ _ _ _ HB2.out)
 have HZ3 := kzq HZ2 hch.out.size
 have Qo3 := Lib.hid (Qo2.out.chg hch.out (notIn_self (by simp)))
 have Qc3 := Lib.hid (Qc2.out.chg hch.out (notIn_self (by simp)))
 have Qs3 := Lib.hid (Qs2.out.chg hch.out (notIn_self (by simp)))
 clear hch Hc2 Qo2 Qc2 Qs2 HB2 HZ2
 refine wpList_store_mid rfl 27 (.tmp 7) (.tmp 30) rfl gc 0 #[.int .i64 3, .slice p1 n1 c1] rfl rfl HTH.out (infoC2 rfl) (all_oneCell_toArray (by intro u hu; simp at hu; rcases hu with rfl | rfl <;> rfl)) ?_
 generalize (w1.setCells gc 0 (#[.int .i64 3, .slice p1 n1 c1] : Array Value).toList) = W1 at *
 clear HTH
 clear Qs3 HNV1
 have HREL : Hid (∃ (p : Option Addr) (m c : Nat), Blk W1 gc #[.int .i64 3, .slice p m c] 27 ∧ Ct (NotIn [gc]) W1 3 p m c (lateO 0) ∧ RowQ (NotIn [gc]) W1 (.slice zp zn zc) zs ∧ Below w.heap.size w W1) := Lib.hid ⟨p1, n1, c1, Hc3.out, Qc3.out, Qo3.out, HB3.out⟩
 clear Hc3 Qc3 Qo3 HB3 HZ3
 go_wp2_with fail
 go_loopw [33] (fun i wr => ∃ k : Nat, k ≤ 3 ∧ i = .int .i64 k ∧ Hid (∃ (p : Option Addr) (m c : Nat), Blk wr gc #[.int .i64 3, .slice p m c] 27 ∧ Ct (NotIn [gc]) wr 3 p m c (lateO k) ∧ RowQ (NotIn [gc]) wr (.slice zp zn zc) zs ∧ Below w.heap.size w wr)) (fun i _ => 3 - (intOf i).toNat)
 case atStart => exact ⟨0, by omega, rfl, HREL⟩
 case round =>
  clear HREL
  obtain ⟨k, hk, rfl, HK⟩ := hrel
  by_cases hlt : k < 3
  ·have hltI : (k : Int) < 3 := by omega
   obtain ⟨p0, m0, q0, hk1, hk2, hk3, hk4⟩ := HK.out
   have Hc20 := Lib.hid hk1
   have Qc20 := Lib.hid hk2
   have Qo20 := Lib.hid hk3
   have HB20 := Lib.hid hk4
   have HZ20 : Hid (w.heap.size ≤ wr.heap.size) := Lib.hid hk4.size
   clear HK hk1 hk2 hk3 hk4
   obtain ⟨out1, hA1⟩ := late_offer k hlt
   have HA1 := Lib.hid hA1
   clear hA1
   have HG := Lib.hid (cdo_q wr (NotIn [gc]) 3 3 rfl p0 m0 q0 (lateO k) (⟨mE, none, 0, none, 0⟩ : MsgX) (k : Int) Qc20.out (fun b hb hm => by have h0 := Hc20.out.lt; simp only [List.mem_cons, List.not_mem_nil, or_false] at hm; omega) (by rw [Qc20.out.n, len_lateO]; decide) (by decide) (by decide) (fun _ => True) ⟨TRow.nil_ _ _, Row.nil_ _ _ 0, At.nil_ _ _, At.nil_ _ _, ⟨by show 0 * 32 ≤ _; decide, by show 0 * 8 ≤ _; decide⟩⟩ (by decide) (lateO (k + 1)) out1 0 HA1.out)
   simp only [mE, Msg.v, List.length_cons, List.length_nil, Nat.zero_add] at HG
   have a0 : wr.cell? ⟨gc, 0, none⟩ = some (.int .i64 3) := Hc20.out.cell 0
   have a1 : wr.cell? ⟨gc, 1, none⟩ = some (.slice p0 m0 q0) := Hc20.out.cell 1
   go_wp2_with fail
   clear a0 a1 
   refine HG.out.mono ?_
   rintro y9 w2 ⟨hb, p2, n2, c2, pv2, nv2, cv2, rfl, hc, hnv, hsd⟩
   clear HG Qc20
   have Hc21 := kbq Hc20 hb
   have Qo21 := Lib.hid (Qo20.out.kept hb)
   have HB21 := ktq HB20 hb
   have HZ21 := kzq HZ20 hb.size
   clear Hc20 Qo20 HB20 HZ20
   clear hb
   have Qc21 := Lib.hid hc
   have Qs21 := Lib.hid hsd
   clear hc hsd
   have HNV2 := Lib.hid hnv
   clear hnv
   go_wp2_with (with_reducible refine stop_storeT 27 (.tmp 7) (.tmp 41) rfl ?_)
   have HTH : Hid (w2.there gc 0 2) := Hc21.out.thereAt
   have hch : Hid (Chg gc w2 (w2.setCells gc 0 (#[.int .i64 3, .slice p2 n2 c2] : Array Value).toList)) := Lib.hid (chg_putL _ _ _ _ _ (Chg.refl _ w2))
   have Hc22 : Hid (Blk (w2.setCells gc 0 (#[.int .i64 3, .slice p2 n2 c2] : Array Value).toList) gc #[.int .i64 3, .slice p2 n2 c2] 27) := Lib.hid (blk_put_all Hc21.out _ rfl)
   have HB22 : Hid (Below w.heap.size w (w2.setCells gc 0 (#[.int .i64 3, .slice p2 n2 c2] : Array Value).toList)) := Lib.hid (below_put (by have := HGgc.out; omega) _ _ _ _ HB21.out)
   have HZ22 := kzq HZ21 hch.out.size
   have Qo22 := Lib.hid (Qo21.out.chg hch.out (notIn_self (by simp)))
   have Qc22 := Lib.hid (Qc21.out.chg hch.out (notIn_self (by simp)))
   have Qs22 := Lib.hid (Qs21.out.chg hch.out (notIn_self (by simp)))
   clear hch Hc21 Qo21 Qc21 Qs21 HB21 HZ21
   refine wpList_store_mid rfl 27 (.tmp 7) (.tmp 41) rfl gc 0 #[.int .i64 3, .slice p2 n2 c2] rfl rfl HTH.out (infoC2 rfl) (all_oneCell_toArray (by intro u hu; simp at hu; rcases hu with rfl | rfl <;> rfl)) ?_
   generalize (w2.setCells gc 0 (#[.int .i64 3, .slice p2 n2 c2] : Array Value).toList) = W2 at *
   clear HTH
   have HNX : Hid (∃ (p : Option Addr) (m c : Nat), Blk W2 gc #[.int .i64 3, .slice p m c] 27 ∧ Ct (NotIn [gc]) W2 3 p m c (lateO (k + 1)) ∧ RowQ (NotIn [gc]) W2 (.slice zp zn zc) zs ∧ Below w.heap.size w W2) := Lib.hid ⟨p2, n2, c2, Hc22.out, Qc22.out, Qo22.out, HB22.out⟩
   clear Hc22 Qc22 Qo22 Qs22 HB22 HZ22 HNV2 HA1 hltI
   have hk9 : k + 1 ≤ 4 := by omega
   go_wp2_with fail
   go_roundw
   case rel => exact ⟨k + 1, by omega, by go_num, HNX⟩
   case measure => simp [intOf]; omega
  ·skip
   have hltI : ¬ (k : Int) < 3 := by omega
   have hk3e : lateO k = lateV false false false false := by
    rw [show k = 3 by omega]
    exact late_first
   have HKE3 := Lib.hid hk3e
   clear hk3e
   obtain ⟨p0, m0, q0, hk1, hk2, hk3, hk4⟩ := HK.out
   have Hc40 := Lib.hid hk1
   have Qc40 := Lib.hid hk2
   have Qo40 := Lib.hid hk3
   have HB40 := Lib.hid hk4
   have HZ40 : Hid (w.heap.size ≤ wr.heap.size) := Lib.hid hk4.size
   clear HK hk1 hk2 hk3 hk4 hlt hk HA0
   rw [HKE3.out] at Qc40
   clear HKE3
   have HGM0 : Hid (gc < wr.heap.size) := Lib.hid Hc40.out.lt
   have HQ2 : Hid (∀ b, NotIn [gc] b ∧ b < wr.heap.size → NotIn [gc, wr.heap.size] b) := Lib.hid (fun b hb hm => by
    simp only [List.mem_cons, List.not_mem_nil, or_false] at hm
    rcases hm with h | h
    ·exact hb.1 (by rw [h]; simp)
    ·have := hb.2; omega)
   have Qc40 : Hid (Ct (NotIn [gc, wr.heap.size]) wr 3 p0 m0 q0 (lateV false false false false)) := Lib.hid ⟨Qc40.out.rs.lt.imp HQ2.out, Qc40.out.n, Qc40.out.ok⟩
   have Qo40 : Hid (RowQ (NotIn [gc, wr.heap.size]) wr (.slice zp zn zc) zs) := Lib.hid ⟨Qo40.out.1, (Qo40.out.2.ltR Qo40.out.1).imp HQ2.out⟩
   clear HQ2 HGM0
   have hmm := @run_makeMap Try.prog
   go_upto_region 14 with fail
   clear hltI hmm
   have hba := oneB wr (.map #[] 0)
   have HGM : Hid (gc < wr.heap.size) := Lib.hid Hc40.out.lt
   have Qm41 : Hid (MpB (NotIn [gc]) wr.heap.size 0 (vf false false false) (cnt3 false false false) (wr.alloc (.map #[] 0))) := Lib.hid (by
    have h := MpB.made (NotIn [gc]) wr (fun hm => by have := HGM.out; simp only [List.mem_cons, List.not_mem_nil, or_false] at hm; omega)
    exact h)
   have Hc41 := kbq Hc40 hba
   have Qc41 := Lib.hid (Qc40.out.kept hba)
   have Qo41 := Lib.hid (Qo40.out.kept hba)
   have HB41 := ktq HB40 hba
   have HZ41 : Hid (w.heap.size ≤ (wr.alloc (.map #[] 0)).heap.size) := Lib.hid HB41.out.size
   clear hba Hc40 Qc40 Qo40 HB40 HZ40
   generalize (wr.alloc (.map #[] 0)) = WM at *
   generalize hgm : wr.heap.size = gm at *
   clear hgm
   have HREL : Hid (LInv no false false false false ∧ ∃ (p : Option Addr) (m c : Nat), Blk WM gc #[.int .i64 3, .slice p m c] 27 ∧ Ct (NotIn [gc, gm]) WM 3 p m c (lateV false false false false) ∧ MpB (NotIn [gc]) gm 0 (vf false false false) (cnt3 false false false) WM ∧ RowQ (NotIn [gc, gm]) WM (.slice zp zn zc) zs ∧ Below w.heap.size w WM) := Lib.hid ⟨(fun j h _ => by unfold vf at h; simp at h), p0, m0, q0, Hc41.out, Qc41.out, Qm41.out, Qo41.out, HB41.out⟩
   clear Hc41 Qc41 Qm41 Qo41 HB41 HZ41
   go_wp2_with fail
   go_loopw [10, 48] (fun sd i wr => ∃ (k : Nat) (v0 v1 v2 bb : Bool), k ≤ zn ∧ i = .int .i64 k ∧ sd = .bool bb ∧ Hid (LInv no v0 v1 v2 bb ∧ ∃ (p : Option Addr) (m c : Nat), Blk wr gc #[.int .i64 3, .slice p m c] 27 ∧ Ct (NotIn [gc, gm]) wr 3 p m c (lateV v0 v1 v2 bb) ∧ MpB (NotIn [gc]) gm k (vf v0 v1 v2) (cnt3 v0 v1 v2) wr ∧ RowQ (NotIn [gc, gm]) wr (.slice zp zn zc) zs ∧ Below w.heap.size w wr)) (fun _ i _ => zn - (intOf i).toNat)
   case atStart => exact ⟨0, false, false, false, false, by omega, rfl, rfl, HREL⟩
   case round =>
    clear HREL
    obtain ⟨k, v0, v1, v2, bb, hk, rfl, rfl, HK⟩ := hrel
    obtain ⟨p0, m0, q0, hk1, hk2, hk5, hk3, hk4⟩ := HK.out.2
    have HIV := Lib.hid HK.out.1
    have Hc60 := Lib.hid hk1
    have Qc60 := Lib.hid hk2
    have Qo60 := Lib.hid hk3
    have Qm60 := Lib.hid hk5
    have HB60 := Lib.hid hk4
    have HZ60 : Hid (w.heap.size ≤ wr.heap.size) := Lib.hid hk4.size
    clear HK hk1 hk2 hk3 hk4 hk5
    have hk9 : k + 1 ≤ 22 := by have := HN20.out; omega
    have HKN : Hid (k ≤ zn) := Lib.hid hk
    by_cases hlt : k < zn
    ·skip
     have hltI : (k : Int) < (zn : Int) := by omega
     have HLT : Hid (k < zn) := Lib.hid hlt
     have hkl : k < zs.length := by have := HZN.out; omega
     obtain ⟨zb, zo, hzp, hzl, hzc⟩ := Row.atc Qo60.out.1 k hkl
     subst hzp
     obtain ⟨zi, hzi⟩ : ∃ zi, zs.getD k 0 = zi := ⟨_, rfl⟩
     rw [hzi] at hzc
     clear hzi hkl hzl hlt hk
     by_cases hi : 0 ≤ zi ∧ zi ≤ 2
     ·skip
      obtain ⟨i, hii⟩ : ∃ i : Nat, zi = i := ⟨zi.toNat, by omega⟩
      subst hii
      have HI3 : Hid (i < 3) := Lib.hid (by omega)
      have hi1 : ¬ (i : Int) < 0 := by omega
      have hi2 : ¬ (2 : Int) < (i : Int) := by omega
      clear hi
      obtain ⟨cq, hcq⟩ : ∃ cq, cnt3 v0 v1 v2 = cq := ⟨_, rfl⟩
      have HCQ := Lib.hid hcq
      clear hcq
      have HCL : Hid (cq ≤ 3) := Lib.hid (by rw [← HCQ.out]; exact cnt3_le _ _ _)
      rw [HCQ.out] at Qm60
      have hlen := Qm60.out.len
      by_cases hdue : (k : Int) = due ∧ bb = false ∧ cq < 3
      ·skip
       obtain ⟨hd1, hd2, hd3⟩ := hdue
       subst hd2
       have hdI : ((k : Int) == due) = true := by simpa using hd1
       have hcI : (cq : Int) < 3 := by omega
       have HA3 := Lib.hid (late_due (v0 := v0) (v1 := v1) (v2 := v2) (by rw [HCQ.out]; exact hd3))
       clear hd1 hd3
       go_upto_region 19 with fail
       clear hlen hdI hcI hltI hzc hi1 hi2
       have HG := Lib.hid (cdo_q wr (NotIn [gc, gm]) 3 3 rfl p0 m0 q0 (lateV v0 v1 v2 false) (⟨mDu, none, 0, none, 0⟩ : MsgX) (-1) Qc60.out (fun b hb hm => by have h8 := Qm60.out.lt; have h0 := Hc60.out.lt; simp only [List.mem_cons, List.not_mem_nil, or_false] at hm; omega) (by rw [Qc60.out.n, len_late]; decide) (by decide) (by decide) (fun _ => True) ⟨TRow.nil_ _ _, Row.nil_ _ _ 0, At.nil_ _ _, At.nil_ _ _, ⟨by show 0 * 32 ≤ _; decide, by show 0 * 8 ≤ _; decide⟩⟩ (by decide) (lateV v0 v1 v2 true) [(0, mAb), (1, mAb), (2, mAb)] 0 HA3.out)
       simp only [mDu, Msg.v, List.length_cons, List.length_nil, Nat.zero_add] at HG
       have a0 : wr.cell? ⟨gc, 0, none⟩ = some (.int .i64 3) := Hc60.out.cell 0
       have a1 : wr.cell? ⟨gc, 1, none⟩ = some (.slice p0 m0 q0) := Hc60.out.cell 1
       go_wp2_with fail
       clear a0 a1 
       refine HG.out.mono ?_
       rintro y9 w3 ⟨hb, p3, n3, c3, pv3, nv3, cv3, rfl, hc, hnv, hsd⟩
       clear HG Qc60
       have Hc61 := kbq Hc60 hb
       have Qo61 := Lib.hid (Qo60.out.kept hb)
       have Qm61 := Lib.hid (Qm60.out.kept hb)
       have HB61 := ktq HB60 hb
       have HZ61 := kzq HZ60 hb.size
       clear Hc60 Qo60 Qm60 HB60 HZ60
       clear hb
       have Qc61 := Lib.hid hc
       have Qs61 := Lib.hid hsd
       clear hc hsd
       replace hnv : nv3 = 3 := hnv
       subst hnv
       obtain ⟨bd, od, hpv, hsa⟩ := Qs61.out.at_ (by decide)
       subst hpv
       obtain ⟨zd, hz1, hz2, hz3⟩ := hsa 0 (by decide)
       have HMd : Hid (zd.x.m = mAb) := Lib.hid hz2
       have Qzd61 := Lib.hid hz3
       clear hz1 hz2 hz3
       clear hsa Qs61
       have hba := oneB w3 (.cells #[.int .i64 3, .slice p3 n3 c3] 27)
       have Hc62 := kbq Hc61 hba
       have Qo62 := Lib.hid (Qo61.out.kept hba)
       have Qm62 := Lib.hid (Qm61.out.kept hba)
       have Qc62 := Lib.hid (Qc61.out.kept hba)
       have Qzd62 := Lib.hid (Qzd61.out.kept hba)
       have Hk62 := Lib.hid (Blk.new w3 #[.int .i64 3, .slice p3 n3 c3] 27)
       have HB62 := Lib.hid (HB61.out.alloc HB61.out.size (.cells #[.int .i64 3, .slice p3 n3 c3] 27))
       have HZ62 := kzq HZ61 hba.size
       have HGgk : Hid (w.heap.size ≤ w3.heap.size) := Lib.hid HB61.out.size
       clear hba Hc61 Qo61 Qm61 Qc61 Qzd61 HB61 HZ61
       go_upto_region 20 with fail
       generalize (w3.alloc (.cells #[.int .i64 3, .slice p3 n3 c3] 27)) = W4 at *
       generalize hggk : w3.heap.size = gk at *
       clear hggk
       have HG := Lib.hid (cget_q W4 (NotIn [gc, gm]) 3 3 rfl 1 p3 n3 c3 (lateV v0 v1 v2 true) Qc62.out (by rw [Qc62.out.n, len_late]; decide) (by decide) (by decide) true hasB_late)
       have a0 : W4.cell? ⟨gk, 0, none⟩ = some (.int .i64 3) := Hk62.out.cell 0
       have a1 : W4.cell? ⟨gk, 1, none⟩ = some (.slice p3 n3 c3) := Hk62.out.cell 1
       go_wp2_with fail
       clear a0 a1
       refine HG.out.mono ?_
       rintro y9 w5 ⟨hb, x, rfl, hg⟩
       clear HG
       have HXR : Hid (x.r.st = 4) := Lib.hid (by rw [(hg.1 rfl).1]; rfl)
       clear hg
       unfold RunX.v
       have Hc63 := kbq Hc62 hb
       have Hk63 := kbq Hk62 hb
       have Qo63 := Lib.hid (Qo62.out.kept hb)
       have Qm63 := Lib.hid (Qm62.out.kept hb)
       have Qc63 := Lib.hid (Qc62.out.kept hb)
       have Qzd63 := Lib.hid (Qzd62.out.kept hb)
       have HB63 := ktq HB62 hb
       have HZ63 := kzq HZ62 hb.size
       clear Hc62 Hk62 Qo62 Qm62 Qc62 Qzd62 HB62 HZ62
       clear hb
       have hba := oneB w5 (.cells #[.int .i64 x.r.cu, .int .i64 x.r.st, .slice x.pf x.r.hs.length x.cf, .slice x.pl x.r.ls.length x.cl, .slice x.pn x.r.ns.length x.cn] 56)
       have Hc64 := kbq Hc63 hba
       have Hk64 := kbq Hk63 hba
       have Qo64 := Lib.hid (Qo63.out.kept hba)
       have Qm64 := Lib.hid (Qm63.out.kept hba)
       have Qc64 := Lib.hid (Qc63.out.kept hba)
       have Qzd64 := Lib.hid (Qzd63.out.kept hba)
       have Hx64 := Lib.hid (Blk.new w5 #[.int .i64 x.r.cu, .int .i64 x.r.st, .slice x.pf x.r.hs.length x.cf, .slice x.pl x.r.ls.length x.cl, .slice x.pn x.r.ns.length x.cn] 56)
       have HB64 := Lib.hid (HB63.out.alloc HB63.out.size (.cells #[.int .i64 x.r.cu, .int .i64 x.r.st, .slice x.pf x.r.hs.length x.cf, .slice x.pl x.r.ls.length x.cl, .slice x.pn x.r.ns.length x.cn] 56))
       have HZ64 := kzq HZ63 hba.size
       have HGgx : Hid (w.heap.size ≤ w5.heap.size) := Lib.hid HB63.out.size
       clear hba Hc63 Hk63 Qo63 Qm63 Qc63 Qzd63 HB63 HZ63
       go_upto_region 21 with fail
       generalize (w5.alloc (.cells #[.int .i64 x.r.cu, .int .i64 x.r.st, .slice x.pf x.r.hs.length x.cf, .slice x.pl x.r.ls.length x.cl, .slice x.pn x.r.ns.length x.cn] 56)) = W6 at *
       generalize hggx : w5.heap.size = gx at *
       clear hggx
       have e1 : W6.cell? ⟨gx, 1, none⟩ = some (.int .i64 4) := by have h := Hx64.out.cell 1; have h2 := HXR.out; rw [h]; show some (Value.int .i64 x.r.st) = _; rw [h2]
       have e9 : W6.cell? ⟨bd, od + 9, none⟩ = some (.bool false) := by
        have h := Qzd64.out.1.2.2 9 (by decide)
        have h2 : (SdX.cells zd)[9]? = some (.bool zd.x.m.t) := rfl
        rw [HMd.out] at h2
        rw [Nat.zero_mul, Nat.add_zero] at h
        exact h.trans h2
       go_wp2_with fail
       go_ret
       exact ⟨rfl, HB64.out⟩
      by_cases hop : bb = false ∧ cq < 3
      ·skip
       obtain ⟨ho1, ho2⟩ := hop
       subst ho1
       have hdI : ((k : Int) == due) = false := by
        rw [beq_eq_false_iff_ne]
        exact fun h => hdue ⟨h, rfl, ho2⟩
       have hcI : (cq : Int) < 3 := by omega
       have HOP : Hid (cnt3 v0 v1 v2 < 3) := Lib.hid (by rw [HCQ.out]; exact ho2)
       obtain ⟨out4, e4, hA4⟩ := late_vote HOP.out i HI3.out HIV.out
       have HA4 := Lib.hid hA4
       have HNI := Lib.hid (inv_or HIV.out i HI3.out)
       clear hA4 hdue ho2
       go_upto_region 22 with fail
       clear hdI hlen hi1 hi2 hzc hltI
       have HG := Lib.hid (cdo_q wr (NotIn [gc, gm]) 3 3 rfl p0 m0 q0 (lateV v0 v1 v2 false) (⟨mVt ((i : Int) != no), none, 0, none, 0⟩ : MsgX) (i : Int) Qc60.out (fun b hb hm => by have h8 := Qm60.out.lt; have h0 := Hc60.out.lt; simp only [List.mem_cons, List.not_mem_nil, or_false] at hm; omega) (by rw [Qc60.out.n, len_late]; decide) (by decide) (by decide) (fun _ => True) ⟨TRow.nil_ _ _, Row.nil_ _ _ 0, At.nil_ _ _, At.nil_ _ _, ⟨by show 0 * 32 ≤ _; decide, by show 0 * 8 ≤ _; decide⟩⟩ (by show 0 ≤ 60; decide) (lateV (orAt i 0 v0) (orAt i 1 v1) (orAt i 2 v2) ((i : Int) == no)) out4 e4 HA4.out)
       simp only [mVt, Msg.v, List.length_cons, List.length_nil, Nat.zero_add] at HG
       have a0 : wr.cell? ⟨gc, 0, none⟩ = some (.int .i64 3) := Hc60.out.cell 0
       have a1 : wr.cell? ⟨gc, 1, none⟩ = some (.slice p0 m0 q0) := Hc60.out.cell 1
       go_wp2_with fail
       clear a0 a1 
       refine HG.out.mono ?_
       rintro y9 w4 ⟨hb, p4, n4, c4, pv4, nv4, cv4, rfl, hc, hnv, hsd⟩
       clear HG Qc60
       have Hc61 := kbq Hc60 hb
       have Qo61 := Lib.hid (Qo60.out.kept hb)
       have Qm61 := Lib.hid (Qm60.out.kept hb)
       have HB61 := ktq HB60 hb
       have HZ61 := kzq HZ60 hb.size
       clear Hc60 Qo60 Qm60 HB60 HZ60
       clear hb
       have Qc61 := Lib.hid hc
       have Qs61 := Lib.hid hsd
       clear hc hsd
       have HNV4 := Lib.hid hnv
       clear hnv
       go_wp2_with (with_reducible refine stop_storeT 27 (.tmp 7) (.tmp 111) rfl ?_)
       have HTH : Hid (w4.there gc 0 2) := Hc61.out.thereAt
       have hch : Hid (Chg gc w4 (w4.setCells gc 0 (#[.int .i64 3, .slice p4 n4 c4] : Array Value).toList)) := Lib.hid (chg_putL _ _ _ _ _ (Chg.refl _ w4))
       have Hc62 : Hid (Blk (w4.setCells gc 0 (#[.int .i64 3, .slice p4 n4 c4] : Array Value).toList) gc #[.int .i64 3, .slice p4 n4 c4] 27) := Lib.hid (blk_put_all Hc61.out _ rfl)
       have HB62 : Hid (Below w.heap.size w (w4.setCells gc 0 (#[.int .i64 3, .slice p4 n4 c4] : Array Value).toList)) := Lib.hid (below_put (by have := HGgc.out; omega) _ _ _ _ HB61.out)
       have HZ62 := kzq HZ61 hch.out.size
       have Qo62 := Lib.hid (Qo61.out.chg hch.out (notIn_self (by simp)))
       have Qm62 := Lib.hid (Qm61.out.chg hch.out (notIn_self (by simp)))
       have Qc62 := Lib.hid (Qc61.out.chg hch.out (notIn_self (by simp)))
       have Qs62 := Lib.hid (Qs61.out.chg hch.out (notIn_self (by simp)))
       clear hch Hc61 Qo61 Qm61 Qc61 Qs61 HB61 HZ61
       refine wpList_store_mid rfl 27 (.tmp 7) (.tmp 111) rfl gc 0 #[.int .i64 3, .slice p4 n4 c4] rfl rfl HTH.out (infoC2 rfl) (all_oneCell_toArray (by intro u hu; simp at hu; rcases hu with rfl | rfl <;> rfl)) ?_
       generalize (w4.setCells gc 0 (#[.int .i64 3, .slice p4 n4 c4] : Array Value).toList) = W7 at *
       clear HTH
       clear Qs62 HNV4
       have hlen := Qm62.out.len
       go_upto_region 24 with fail
       clear hlen hcI
       obtain ⟨hmq, D, hmo, hmh, hms⟩ := Qm62.out
       have hkey : keyOf Try.prog 3 (.int .i64 (i : Int)) = some (.int .i64 (i : Int)) := keyOf_int_mk Try.underlying3 (by have h3 := HI3.out; have h4 : i = 0 ∨ i = 1 ∨ i = 2 := (by omega); rcases h4 with rfl | rfl | rfl <;> decide)
       have HMH := Lib.hid hmh
       have HMS := Lib.hid hms
       have HMO := Lib.hid hmo
       have HMQ := Lib.hid hmq
       have HKEY := Lib.hid hkey
       clear hmh hms hmo hmq hkey
       go_wp2_with (at_mapUpdate; refine wpList_mapUpdate_own _ rfl _ _ _ 52 rfl 3 4 lawInt Try.underlying52 _ gm k _ rfl HMO.out (by have := HN20.out; have := HKN.out; unfold maxLen; omega) _ _ _ rfl rfl HKEY.out _ [] (plainElem_bool Try.underlying4 true) ?_)
       intro W8 hown8 hgrow8
       have hsz8 : W7.heap.size ≤ W8.heap.size := hgrow8.size
       have hch : Hid (Chg gm W7 W8) := Lib.hid ⟨Below.grown (Below.refl _ _) hgrow8 (Nat.zero_le _) (fun _ _ => Nat.zero_le _), fun b hb hne => hgrow8.block b hb (by intro e; cases e; exact hne rfl)⟩
       have hcg : gc ≠ gm := by have := HGM.out; omega
       have Hc63 := Lib.hid (Hc62.out.chg hch.out hcg)
       have HB63 : Hid (Below w.heap.size w W8) := Lib.hid (HB62.out.trans (hch.out.below (by have := HGgc.out; have := HGM.out; omega) HB62.out.size))
       have HZ63 : Hid (w.heap.size ≤ W8.heap.size) := Lib.hid HB63.out.size
       have Qm63 : Hid (MpB (NotIn [gc]) gm (k + 1) (vf (orAt i 0 v0) (orAt i 1 v1) (orAt i 2 v2)) (cnt3 (orAt i 0 v0) (orAt i 1 v1) (orAt i 2 v2)) W8) := Lib.hid (by
        have h1 := MpB.put HMQ.out HMH.out HMS.out (HMO.out.tidy lawInt) hown8
        rw [← vf_or v0 v1 v2 i HI3.out, ← cnt_or v0 v1 v2 i HI3.out, HCQ.out]
        exact h1)
       have Qc63 : Hid (Ct (NotIn [gc, gm]) W8 3 p4 n4 c4 (lateV (orAt i 0 v0) (orAt i 1 v1) (orAt i 2 v2) ((i : Int) == no))) := Lib.hid (Qc62.out.chg hch.out (notIn_self (by simp)))
       have Qo63 : Hid (RowQ (NotIn [gc, gm]) W8 (.slice (some ⟨zb, zo, none⟩) zn zc) zs) := Lib.hid (Qo62.out.chg hch.out (notIn_self (by simp)))
       clear hch hcg HMH HMS HMO HMQ HKEY hsz8 hgrow8 hown8 Hc62 Qo62 Qm62 Qc62 HB62 HZ62
       have HNX : Hid (LInv no (orAt i 0 v0) (orAt i 1 v1) (orAt i 2 v2) ((i : Int) == no) ∧ ∃ (p : Option Addr) (m c : Nat), Blk W8 gc #[.int .i64 3, .slice p m c] 27 ∧ Ct (NotIn [gc, gm]) W8 3 p m c (lateV (orAt i 0 v0) (orAt i 1 v1) (orAt i 2 v2) ((i : Int) == no)) ∧ MpB (NotIn [gc]) gm (k + 1) (vf (orAt i 0 v0) (orAt i 1 v1) (orAt i 2 v2)) (cnt3 (orAt i 0 v0) (orAt i 1 v1) (orAt i 2 v2)) W8 ∧ RowQ (NotIn [gc, gm]) W8 (.slice (some ⟨zb, zo, none⟩) zn zc) zs ∧ Below w.heap.size w W8) := Lib.hid ⟨HNI.out, p4, n4, c4, Hc63.out, Qc63.out, Qm63.out.mono (by omega), Qo63.out, HB63.out⟩
       clear Hc63 Qc63 Qm63 Qo63 HB63 HZ63
       go_wp2_with fail
       go_roundw
       case rel => exact ⟨k + 1, (orAt i 0 v0), (orAt i 1 v1), (orAt i 2 v2), ((i : Int) == no), by have := HLT.out; omega, by go_num, rfl, HNX⟩
       case measure => have := HLT.out; simp [intOf]; omega
      ·skip
       have HDN : Hid (¬ (bb = false ∧ cnt3 v0 v1 v2 < 3)) := Lib.hid (by rw [HCQ.out]; exact hop)
       have HNI : Hid (LInv no v0 v1 v2 bb) := Lib.hid HIV.out
       obtain ⟨out4, e4, hA4⟩ := late_done HDN.out ((i : Int) != no) i HI3.out
       have HA4 := Lib.hid hA4
       clear hA4 hdue hop
       cases bb
       ·have hcI : ¬ (cq : Int) < 3 := by have := HDN.out; have := HCQ.out; have h4 : ¬ cq < 3 := fun h => HDN.out ⟨rfl, by omega⟩; omega
        by_cases hdI : (k : Int) = due
        ·have hdb : ((k : Int) == due) = true := by simpa using hdI
         clear hdI
         go_upto_region 22 with fail
         clear hdb hlen hi1 hi2 hzc hltI
         have HG := Lib.hid (cdo_q wr (NotIn [gc, gm]) 3 3 rfl p0 m0 q0 (lateV v0 v1 v2 false) (⟨mVt ((i : Int) != no), none, 0, none, 0⟩ : MsgX) (i : Int) Qc60.out (fun b hb hm => by have h8 := Qm60.out.lt; have h0 := Hc60.out.lt; simp only [List.mem_cons, List.not_mem_nil, or_false] at hm; omega) (by rw [Qc60.out.n, len_late]; decide) (by decide) (by decide) (fun _ => True) ⟨TRow.nil_ _ _, Row.nil_ _ _ 0, At.nil_ _ _, At.nil_ _ _, ⟨by show 0 * 32 ≤ _; decide, by show 0 * 8 ≤ _; decide⟩⟩ (by show 0 ≤ 60; decide) (lateV v0 v1 v2 false) out4 e4 HA4.out)
         simp only [mVt, Msg.v, List.length_cons, List.length_nil, Nat.zero_add] at HG
         have a0 : wr.cell? ⟨gc, 0, none⟩ = some (.int .i64 3) := Hc60.out.cell 0
         have a1 : wr.cell? ⟨gc, 1, none⟩ = some (.slice p0 m0 q0) := Hc60.out.cell 1
         go_wp2_with fail
         clear a0 a1 
         refine HG.out.mono ?_
         rintro y9 w4 ⟨hb, p4, n4, c4, pv4, nv4, cv4, rfl, hc, hnv, hsd⟩
         clear HG Qc60
         have Hc61 := kbq Hc60 hb
         have Qo61 := Lib.hid (Qo60.out.kept hb)
         have Qm61 := Lib.hid (Qm60.out.kept hb)
         have HB61 := ktq HB60 hb
         have HZ61 := kzq HZ60 hb.size
         clear Hc60 Qo60 Qm60 HB60 HZ60
         clear hb
         have Qc61 := Lib.hid hc
         have Qs61 := Lib.hid hsd
         clear hc hsd
         have HNV4 := Lib.hid hnv
         clear hnv
         go_wp2_with (with_reducible refine stop_storeT 27 (.tmp 7) (.tmp 111) rfl ?_)
         have HTH : Hid (w4.there gc 0 2) := Hc61.out.thereAt
         have hch : Hid (Chg gc w4 (w4.setCells gc 0 (#[.int .i64 3, .slice p4 n4 c4] : Array Value).toList)) := Lib.hid (chg_putL _ _ _ _ _ (Chg.refl _ w4))
         have Hc62 : Hid (Blk (w4.setCells gc 0 (#[.int .i64 3, .slice p4 n4 c4] : Array Value).toList) gc #[.int .i64 3, .slice p4 n4 c4] 27) := Lib.hid (blk_put_all Hc61.out _ rfl)
         have HB62 : Hid (Below w.heap.size w (w4.setCells gc 0 (#[.int .i64 3, .slice p4 n4 c4] : Array Value).toList)) := Lib.hid (below_put (by have := HGgc.out; omega) _ _ _ _ HB61.out)
         have HZ62 := kzq HZ61 hch.out.size
         have Qo62 := Lib.hid (Qo61.out.chg hch.out (notIn_self (by simp)))
         have Qm62 := Lib.hid (Qm61.out.chg hch.out (notIn_self (by simp)))
         have Qc62 := Lib.hid (Qc61.out.chg hch.out (notIn_self (by simp)))
         have Qs62 := Lib.hid (Qs61.out.chg hch.out (notIn_self (by simp)))
         clear hch Hc61 Qo61 Qm61 Qc61 Qs61 HB61 HZ61
         refine wpList_store_mid rfl 27 (.tmp 7) (.tmp 111) rfl gc 0 #[.int .i64 3, .slice p4 n4 c4] rfl rfl HTH.out (infoC2 rfl) (all_oneCell_toArray (by intro u hu; simp at hu; rcases hu with rfl | rfl <;> rfl)) ?_
         generalize (w4.setCells gc 0 (#[.int .i64 3, .slice p4 n4 c4] : Array Value).toList) = W7 at *
         clear HTH
         clear Qs62 HNV4
         have hlen := Qm62.out.len
         go_upto_region 26 with fail
         clear hlen hcI
         rw [← HCQ.out] at Qm62
         have HNX : Hid (LInv no v0 v1 v2 false ∧ ∃ (p : Option Addr) (m c : Nat), Blk W7 gc #[.int .i64 3, .slice p m c] 27 ∧ Ct (NotIn [gc, gm]) W7 3 p m c (lateV v0 v1 v2 false) ∧ MpB (NotIn [gc]) gm (k + 1) (vf v0 v1 v2) (cnt3 v0 v1 v2) W7 ∧ RowQ (NotIn [gc, gm]) W7 (.slice (some ⟨zb, zo, none⟩) zn zc) zs ∧ Below w.heap.size w W7) := Lib.hid ⟨HNI.out, p4, n4, c4, Hc62.out, Qc62.out, Qm62.out.mono (by omega), Qo62.out, HB62.out⟩
         clear Hc62 Qc62 Qm62 Qo62 HB62 HZ62
         go_wp2_with fail
         go_roundw
         case rel => exact ⟨k + 1, v0, v1, v2, false, by have := HLT.out; omega, by go_num, rfl, HNX⟩
         case measure => have := HLT.out; simp [intOf]; omega
        ·have hdb : ((k : Int) == due) = false := by simpa using hdI
         clear hdI
         go_upto_region 22 with fail
         clear hdb hlen hi1 hi2 hzc hltI
         have HG := Lib.hid (cdo_q wr (NotIn [gc, gm]) 3 3 rfl p0 m0 q0 (lateV v0 v1 v2 false) (⟨mVt ((i : Int) != no), none, 0, none, 0⟩ : MsgX) (i : Int) Qc60.out (fun b hb hm => by have h8 := Qm60.out.lt; have h0 := Hc60.out.lt; simp only [List.mem_cons, List.not_mem_nil, or_false] at hm; omega) (by rw [Qc60.out.n, len_late]; decide) (by decide) (by decide) (fun _ => True) ⟨TRow.nil_ _ _, Row.nil_ _ _ 0, At.nil_ _ _, At.nil_ _ _, ⟨by show 0 * 32 ≤ _; decide, by show 0 * 8 ≤ _; decide⟩⟩ (by show 0 ≤ 60; decide) (lateV v0 v1 v2 false) out4 e4 HA4.out)
         simp only [mVt, Msg.v, List.length_cons, List.length_nil, Nat.zero_add] at HG
         have a0 : wr.cell? ⟨gc, 0, none⟩ = some (.int .i64 3) := Hc60.out.cell 0
         have a1 : wr.cell? ⟨gc, 1, none⟩ = some (.slice p0 m0 q0) := Hc60.out.cell 1
         go_wp2_with fail
         clear a0 a1 
         refine HG.out.mono ?_
         rintro y9 w4 ⟨hb, p4, n4, c4, pv4, nv4, cv4, rfl, hc, hnv, hsd⟩
         clear HG Qc60
         have Hc61 := kbq Hc60 hb
         have Qo61 := Lib.hid (Qo60.out.kept hb)
         have Qm61 := Lib.hid (Qm60.out.kept hb)
         have HB61 := ktq HB60 hb
         have HZ61 := kzq HZ60 hb.size
         clear Hc60 Qo60 Qm60 HB60 HZ60
         clear hb
         have Qc61 := Lib.hid hc
         have Qs61 := Lib.hid hsd
         clear hc hsd
         have HNV4 := Lib.hid hnv
         clear hnv
         go_wp2_with (with_reducible refine stop_storeT 27 (.tmp 7) (.tmp 111) rfl ?_)
         have HTH : Hid (w4.there gc 0 2) := Hc61.out.thereAt
         have hch : Hid (Chg gc w4 (w4.setCells gc 0 (#[.int .i64 3, .slice p4 n4 c4] : Array Value).toList)) := Lib.hid (chg_putL _ _ _ _ _ (Chg.refl _ w4))
         have Hc62 : Hid (Blk (w4.setCells gc 0 (#[.int .i64 3, .slice p4 n4 c4] : Array Value).toList) gc #[.int .i64 3, .slice p4 n4 c4] 27) := Lib.hid (blk_put_all Hc61.out _ rfl)
         have HB62 : Hid (Below w.heap.size w (w4.setCells gc 0 (#[.int .i64 3, .slice p4 n4 c4] : Array Value).toList)) := Lib.hid (below_put (by have := HGgc.out; omega) _ _ _ _ HB61.out)
         have HZ62 := kzq HZ61 hch.out.size
         have Qo62 := Lib.hid (Qo61.out.chg hch.out (notIn_self (by simp)))
         have Qm62 := Lib.hid (Qm61.out.chg hch.out (notIn_self (by simp)))
         have Qc62 := Lib.hid (Qc61.out.chg hch.out (notIn_self (by simp)))
         have Qs62 := Lib.hid (Qs61.out.chg hch.out (notIn_self (by simp)))
         clear hch Hc61 Qo61 Qm61 Qc61 Qs61 HB61 HZ61
         refine wpList_store_mid rfl 27 (.tmp 7) (.tmp 111) rfl gc 0 #[.int .i64 3, .slice p4 n4 c4] rfl rfl HTH.out (infoC2 rfl) (all_oneCell_toArray (by intro u hu; simp at hu; rcases hu with rfl | rfl <;> rfl)) ?_
         generalize (w4.setCells gc 0 (#[.int .i64 3, .slice p4 n4 c4] : Array Value).toList) = W7 at *
         clear HTH
         clear Qs62 HNV4
         have hlen := Qm62.out.len
         go_upto_region 26 with fail
         clear hlen hcI
         rw [← HCQ.out] at Qm62
         have HNX : Hid (LInv no v0 v1 v2 false ∧ ∃ (p : Option Addr) (m c : Nat), Blk W7 gc #[.int .i64 3, .slice p m c] 27 ∧ Ct (NotIn [gc, gm]) W7 3 p m c (lateV v0 v1 v2 false) ∧ MpB (NotIn [gc]) gm (k + 1) (vf v0 v1 v2) (cnt3 v0 v1 v2) W7 ∧ RowQ (NotIn [gc, gm]) W7 (.slice (some ⟨zb, zo, none⟩) zn zc) zs ∧ Below w.heap.size w W7) := Lib.hid ⟨HNI.out, p4, n4, c4, Hc62.out, Qc62.out, Qm62.out.mono (by omega), Qo62.out, HB62.out⟩
         clear Hc62 Qc62 Qm62 Qo62 HB62 HZ62
         go_wp2_with fail
         go_roundw
         case rel => exact ⟨k + 1, v0, v1, v2, false, by have := HLT.out; omega, by go_num, rfl, HNX⟩
         case measure => have := HLT.out; simp [intOf]; omega
       ·by_cases hdI : (k : Int) = due
        ·have hdb : ((k : Int) == due) = true := by simpa using hdI
         clear hdI
         go_upto_region 22 with fail
         clear hdb hlen hi1 hi2 hzc hltI
         have HG := Lib.hid (cdo_q wr (NotIn [gc, gm]) 3 3 rfl p0 m0 q0 (lateV v0 v1 v2 true) (⟨mVt ((i : Int) != no), none, 0, none, 0⟩ : MsgX) (i : Int) Qc60.out (fun b hb hm => by have h8 := Qm60.out.lt; have h0 := Hc60.out.lt; simp only [List.mem_cons, List.not_mem_nil, or_false] at hm; omega) (by rw [Qc60.out.n, len_late]; decide) (by decide) (by decide) (fun _ => True) ⟨TRow.nil_ _ _, Row.nil_ _ _ 0, At.nil_ _ _, At.nil_ _ _, ⟨by show 0 * 32 ≤ _; decide, by show 0 * 8 ≤ _; decide⟩⟩ (by show 0 ≤ 60; decide) (lateV v0 v1 v2 true) out4 e4 HA4.out)
         simp only [mVt, Msg.v, List.length_cons, List.length_nil, Nat.zero_add] at HG
         have a0 : wr.cell? ⟨gc, 0, none⟩ = some (.int .i64 3) := Hc60.out.cell 0
         have a1 : wr.cell? ⟨gc, 1, none⟩ = some (.slice p0 m0 q0) := Hc60.out.cell 1
         go_wp2_with fail
         clear a0 a1 
         refine HG.out.mono ?_
         rintro y9 w4 ⟨hb, p4, n4, c4, pv4, nv4, cv4, rfl, hc, hnv, hsd⟩
         clear HG Qc60
         have Hc61 := kbq Hc60 hb
         have Qo61 := Lib.hid (Qo60.out.kept hb)
         have Qm61 := Lib.hid (Qm60.out.kept hb)
         have HB61 := ktq HB60 hb
         have HZ61 := kzq HZ60 hb.size
         clear Hc60 Qo60 Qm60 HB60 HZ60
         clear hb
         have Qc61 := Lib.hid hc
         have Qs61 := Lib.hid hsd
         clear hc hsd
         have HNV4 := Lib.hid hnv
         clear hnv
         go_wp2_with (with_reducible refine stop_storeT 27 (.tmp 7) (.tmp 111) rfl ?_)
         have HTH : Hid (w4.there gc 0 2) := Hc61.out.thereAt
         have hch : Hid (Chg gc w4 (w4.setCells gc 0 (#[.int .i64 3, .slice p4 n4 c4] : Array Value).toList)) := Lib.hid (chg_putL _ _ _ _ _ (Chg.refl _ w4))
         have Hc62 : Hid (Blk (w4.setCells gc 0 (#[.int .i64 3, .slice p4 n4 c4] : Array Value).toList) gc #[.int .i64 3, .slice p4 n4 c4] 27) := Lib.hid (blk_put_all Hc61.out _ rfl)
         have HB62 : Hid (Below w.heap.size w (w4.setCells gc 0 (#[.int .i64 3, .slice p4 n4 c4] : Array Value).toList)) := Lib.hid (below_put (by have := HGgc.out; omega) _ _ _ _ HB61.out)
         have HZ62 := kzq HZ61 hch.out.size
         have Qo62 := Lib.hid (Qo61.out.chg hch.out (notIn_self (by simp)))
         have Qm62 := Lib.hid (Qm61.out.chg hch.out (notIn_self (by simp)))
         have Qc62 := Lib.hid (Qc61.out.chg hch.out (notIn_self (by simp)))
         have Qs62 := Lib.hid (Qs61.out.chg hch.out (notIn_self (by simp)))
         clear hch Hc61 Qo61 Qm61 Qc61 Qs61 HB61 HZ61
         refine wpList_store_mid rfl 27 (.tmp 7) (.tmp 111) rfl gc 0 #[.int .i64 3, .slice p4 n4 c4] rfl rfl HTH.out (infoC2 rfl) (all_oneCell_toArray (by intro u hu; simp at hu; rcases hu with rfl | rfl <;> rfl)) ?_
         generalize (w4.setCells gc 0 (#[.int .i64 3, .slice p4 n4 c4] : Array Value).toList) = W7 at *
         clear HTH
         clear Qs62 HNV4
         have hlen := Qm62.out.len
         go_upto_region 26 with fail
         clear hlen
         rw [← HCQ.out] at Qm62
         have HNX : Hid (LInv no v0 v1 v2 true ∧ ∃ (p : Option Addr) (m c : Nat), Blk W7 gc #[.int .i64 3, .slice p m c] 27 ∧ Ct (NotIn [gc, gm]) W7 3 p m c (lateV v0 v1 v2 true) ∧ MpB (NotIn [gc]) gm (k + 1) (vf v0 v1 v2) (cnt3 v0 v1 v2) W7 ∧ RowQ (NotIn [gc, gm]) W7 (.slice (some ⟨zb, zo, none⟩) zn zc) zs ∧ Below w.heap.size w W7) := Lib.hid ⟨HNI.out, p4, n4, c4, Hc62.out, Qc62.out, Qm62.out.mono (by omega), Qo62.out, HB62.out⟩
         clear Hc62 Qc62 Qm62 Qo62 HB62 HZ62
         go_wp2_with fail
         go_roundw
         case rel => exact ⟨k + 1, v0, v1, v2, true, by have := HLT.out; omega, by go_num, rfl, HNX⟩
         case measure => have := HLT.out; simp [intOf]; omega
        ·have hdb : ((k : Int) == due) = false := by simpa using hdI
         clear hdI
         go_upto_region 22 with fail
         clear hdb hlen hi1 hi2 hzc hltI
         have HG := Lib.hid (cdo_q wr (NotIn [gc, gm]) 3 3 rfl p0 m0 q0 (lateV v0 v1 v2 true) (⟨mVt ((i : Int) != no), none, 0, none, 0⟩ : MsgX) (i : Int) Qc60.out (fun b hb hm => by have h8 := Qm60.out.lt; have h0 := Hc60.out.lt; simp only [List.mem_cons, List.not_mem_nil, or_false] at hm; omega) (by rw [Qc60.out.n, len_late]; decide) (by decide) (by decide) (fun _ => True) ⟨TRow.nil_ _ _, Row.nil_ _ _ 0, At.nil_ _ _, At.nil_ _ _, ⟨by show 0 * 32 ≤ _; decide, by show 0 * 8 ≤ _; decide⟩⟩ (by show 0 ≤ 60; decide) (lateV v0 v1 v2 true) out4 e4 HA4.out)
         simp only [mVt, Msg.v, List.length_cons, List.length_nil, Nat.zero_add] at HG
         have a0 : wr.cell? ⟨gc, 0, none⟩ = some (.int .i64 3) := Hc60.out.cell 0
         have a1 : wr.cell? ⟨gc, 1, none⟩ = some (.slice p0 m0 q0) := Hc60.out.cell 1
         go_wp2_with fail
         clear a0 a1 
         refine HG.out.mono ?_
         rintro y9 w4 ⟨hb, p4, n4, c4, pv4, nv4, cv4, rfl, hc, hnv, hsd⟩
         clear HG Qc60
         have Hc61 := kbq Hc60 hb
         have Qo61 := Lib.hid (Qo60.out.kept hb)
         have Qm61 := Lib.hid (Qm60.out.kept hb)
         have HB61 := ktq HB60 hb
         have HZ61 := kzq HZ60 hb.size
         clear Hc60 Qo60 Qm60 HB60 HZ60
         clear hb
         have Qc61 := Lib.hid hc
         have Qs61 := Lib.hid hsd
         clear hc hsd
         have HNV4 := Lib.hid hnv
         clear hnv
         go_wp2_with (with_reducible refine stop_storeT 27 (.tmp 7) (.tmp 111) rfl ?_)
         have HTH : Hid (w4.there gc 0 2) := Hc61.out.thereAt
         have hch : Hid (Chg gc w4 (w4.setCells gc 0 (#[.int .i64 3, .slice p4 n4 c4] : Array Value).toList)) := Lib.hid (chg_putL _ _ _ _ _ (Chg.refl _ w4))
         have Hc62 : Hid (Blk (w4.setCells gc 0 (#[.int .i64 3, .slice p4 n4 c4] : Array Value).toList) gc #[.int .i64 3, .slice p4 n4 c4] 27) := Lib.hid (blk_put_all Hc61.out _ rfl)
         have HB62 : Hid (Below w.heap.size w (w4.setCells gc 0 (#[.int .i64 3, .slice p4 n4 c4] : Array Value).toList)) := Lib.hid (below_put (by have := HGgc.out; omega) _ _ _ _ HB61.out)
         have HZ62 := kzq HZ61 hch.out.size
         have Qo62 := Lib.hid (Qo61.out.chg hch.out (notIn_self (by simp)))
         have Qm62 := Lib.hid (Qm61.out.chg hch.out (notIn_self (by simp)))
         have Qc62 := Lib.hid (Qc61.out.chg hch.out (notIn_self (by simp)))
         have Qs62 := Lib.hid (Qs61.out.chg hch.out (notIn_self (by simp)))
         clear hch Hc61 Qo61 Qm61 Qc61 Qs61 HB61 HZ61
         refine wpList_store_mid rfl 27 (.tmp 7) (.tmp 111) rfl gc 0 #[.int .i64 3, .slice p4 n4 c4] rfl rfl HTH.out (infoC2 rfl) (all_oneCell_toArray (by intro u hu; simp at hu; rcases hu with rfl | rfl <;> rfl)) ?_
         generalize (w4.setCells gc 0 (#[.int .i64 3, .slice p4 n4 c4] : Array Value).toList) = W7 at *
         clear HTH
         clear Qs62 HNV4
         have hlen := Qm62.out.len
         go_upto_region 26 with fail
         clear hlen
         rw [← HCQ.out] at Qm62
         have HNX : Hid (LInv no v0 v1 v2 true ∧ ∃ (p : Option Addr) (m c : Nat), Blk W7 gc #[.int .i64 3, .slice p m c] 27 ∧ Ct (NotIn [gc, gm]) W7 3 p m c (lateV v0 v1 v2 true) ∧ MpB (NotIn [gc]) gm (k + 1) (vf v0 v1 v2) (cnt3 v0 v1 v2) W7 ∧ RowQ (NotIn [gc, gm]) W7 (.slice (some ⟨zb, zo, none⟩) zn zc) zs ∧ Below w.heap.size w W7) := Lib.hid ⟨HNI.out, p4, n4, c4, Hc62.out, Qc62.out, Qm62.out.mono (by omega), Qo62.out, HB62.out⟩
         clear Hc62 Qc62 Qm62 Qo62 HB62 HZ62
         go_wp2_with fail
         go_roundw
         case rel => exact ⟨k + 1, v0, v1, v2, true, by have := HLT.out; omega, by go_num, rfl, HNX⟩
         case measure => have := HLT.out; simp [intOf]; omega
     ·skip
      have HNI : Hid (LInv no v0 v1 v2 bb) := Lib.hid HIV.out
      by_cases hi1 : zi < 0
      ·skip
       go_upto_region 26 with fail
       clear hzc hi1 hi hltI
       have HNX : Hid (LInv no v0 v1 v2 bb ∧ ∃ (p : Option Addr) (m c : Nat), Blk wr gc #[.int .i64 3, .slice p m c] 27 ∧ Ct (NotIn [gc, gm]) wr 3 p m c (lateV v0 v1 v2 bb) ∧ MpB (NotIn [gc]) gm (k + 1) (vf v0 v1 v2) (cnt3 v0 v1 v2) wr ∧ RowQ (NotIn [gc, gm]) wr (.slice (some ⟨zb, zo, none⟩) zn zc) zs ∧ Below w.heap.size w wr) := Lib.hid ⟨HNI.out, p0, m0, q0, Hc60.out, Qc60.out, Qm60.out.mono (by omega), Qo60.out, HB60.out⟩
       clear Hc60 Qc60 Qm60 Qo60 HB60 HZ60
       go_wp2_with fail
       go_roundw
       case rel => exact ⟨k + 1, v0, v1, v2, bb, by have := HLT.out; omega, by go_num, rfl, HNX⟩
       case measure => have := HLT.out; simp [intOf]; omega
      ·have hi2 : (2 : Int) < zi := by omega
       go_upto_region 26 with fail
       clear hzc hi1 hi2 hi hltI
       have HNX : Hid (LInv no v0 v1 v2 bb ∧ ∃ (p : Option Addr) (m c : Nat), Blk wr gc #[.int .i64 3, .slice p m c] 27 ∧ Ct (NotIn [gc, gm]) wr 3 p m c (lateV v0 v1 v2 bb) ∧ MpB (NotIn [gc]) gm (k + 1) (vf v0 v1 v2) (cnt3 v0 v1 v2) wr ∧ RowQ (NotIn [gc, gm]) wr (.slice (some ⟨zb, zo, none⟩) zn zc) zs ∧ Below w.heap.size w wr) := Lib.hid ⟨HNI.out, p0, m0, q0, Hc60.out, Qc60.out, Qm60.out.mono (by omega), Qo60.out, HB60.out⟩
       clear Hc60 Qc60 Qm60 Qo60 HB60 HZ60
       go_wp2_with fail
       go_roundw
       case rel => exact ⟨k + 1, v0, v1, v2, bb, by have := HLT.out; omega, by go_num, rfl, HNX⟩
       case measure => have := HLT.out; simp [intOf]; omega
    ·skip
     have hltI : ¬ (k : Int) < (zn : Int) := by omega
     go_upto_region 27 with fail
     clear hltI hlt hk
     have HG := Lib.hid (cget_q wr (NotIn [gc, gm]) 3 3 rfl 1 p0 m0 q0 (lateV v0 v1 v2 bb) Qc60.out (by rw [Qc60.out.n, len_late]; decide) (by decide) (by decide) true hasB_late)
     have a0 : wr.cell? ⟨gc, 0, none⟩ = some (.int .i64 3) := Hc60.out.cell 0
     have a1 : wr.cell? ⟨gc, 1, none⟩ = some (.slice p0 m0 q0) := Hc60.out.cell 1
     go_wp2_with fail
     clear a0 a1
     refine HG.out.mono ?_
     rintro y9 w5 ⟨hb, x, rfl, hg⟩
     clear HG
     have HXR : Hid (x.r.st = (if bb then 4 else if v0 && v1 && v2 then 3 else 2)) := Lib.hid (by rw [(hg.1 rfl).1]; exact st_late)
     clear hg
     unfold RunX.v
     have Hc61 := kbq Hc60 hb
     have Qc61 := Lib.hid (Qc60.out.kept hb)
     have Qo61 := Lib.hid (Qo60.out.kept hb)
     have Qm61 := Lib.hid (Qm60.out.kept hb)
     have HB61 := ktq HB60 hb
     have HZ61 := kzq HZ60 hb.size
     clear Hc60 Qc60 Qo60 Qm60 HB60 HZ60
     clear hb
     have hba := oneB w5 (.cells #[.int .i64 x.r.cu, .int .i64 x.r.st, .slice x.pf x.r.hs.length x.cf, .slice x.pl x.r.ls.length x.cl, .slice x.pn x.r.ns.length x.cn] 56)
     have Hc62 := kbq Hc61 hba
     have Qc62 := Lib.hid (Qc61.out.kept hba)
     have Qo62 := Lib.hid (Qo61.out.kept hba)
     have Qm62 := Lib.hid (Qm61.out.kept hba)
     have Hx62 := Lib.hid (Blk.new w5 #[.int .i64 x.r.cu, .int .i64 x.r.st, .slice x.pf x.r.hs.length x.cf, .slice x.pl x.r.ls.length x.cl, .slice x.pn x.r.ns.length x.cn] 56)
     have HB62 := Lib.hid (HB61.out.alloc HB61.out.size (.cells #[.int .i64 x.r.cu, .int .i64 x.r.st, .slice x.pf x.r.hs.length x.cf, .slice x.pl x.r.ls.length x.cl, .slice x.pn x.r.ns.length x.cn] 56))
     have HZ62 := kzq HZ61 hba.size
     have HGgx : Hid (w.heap.size ≤ w5.heap.size) := Lib.hid HB61.out.size
     clear hba Hc61 Qc61 Qo61 Qm61 HB61 HZ61
     go_upto_region 28 with fail
     generalize (w5.alloc (.cells #[.int .i64 x.r.cu, .int .i64 x.r.st, .slice x.pf x.r.hs.length x.cf, .slice x.pl x.r.ls.length x.cl, .slice x.pn x.r.ns.length x.cn] 56)) = W6 at *
     generalize hggx : w5.heap.size = gx at *
     clear hggx
     obtain ⟨st, hst⟩ : ∃ st, x.r.st = st := ⟨_, rfl⟩
     rw [hst] at HXR
     have e1 : W6.cell? ⟨gx, 1, none⟩ = some (.int .i64 st) := by have h := Hx62.out.cell 1; rw [h]; show some (Value.int .i64 x.r.st) = _; rw [hst]
     clear hst
     cases bb
     ·obtain ⟨cq, hcq⟩ : ∃ cq, cnt3 v0 v1 v2 = cq := ⟨_, rfl⟩
      have HCQ := Lib.hid hcq
      rw [hcq] at Qm62
      clear hcq
      have hlen := Qm62.out.len
      by_cases hc : cq = 3
      ·have hcI : ((cq : Int) == 3) = true := by rw [hc]; rfl
       have hst : st = 3 := by
        have h1 := HXR.out
        have h2 : (v0 && v1 && v2) = true := by
         cases h3 : (v0 && v1 && v2) with
         | true => rfl
         | false => have := cnt3_lt.2 h3; have := HCQ.out; omega
        rw [h2] at h1
        exact h1
       subst hst
       clear hc
       go_wp2_with fail
       go_ret
       exact ⟨rfl, HB62.out⟩
      ·have hcI : ((cq : Int) == 3) = false := by rw [beq_eq_false_iff_ne]; omega
       have HC3 : Hid (cnt3 v0 v1 v2 < 3) := Lib.hid (by have := cnt3_le v0 v1 v2; have := HCQ.out; omega)
       have hst : st = 2 := by
        have h1 := HXR.out
        rw [cnt3_lt.1 HC3.out] at h1
        exact h1
       subst hst
       clear hc
       have HG := Lib.hid (cwaits_q W6 (NotIn [gc, gm]) 3 3 rfl p0 m0 q0 (lateV v0 v1 v2 false) Qc62.out (by rw [Qc62.out.n, len_late]; decide) [1] (by rw [Qc62.out.n, len_late]; exact wait_late HC3.out))
       have a0 : W6.cell? ⟨gc, 0, none⟩ = some (.int .i64 3) := Hc62.out.cell 0
       have a1 : W6.cell? ⟨gc, 1, none⟩ = some (.slice p0 m0 q0) := Hc62.out.cell 1
       go_wp2_with fail
       clear a0 a1 e1 hcI hlen
       refine HG.out.mono ?_
       rintro y9 w9 ⟨hb, pw, nw, cw, rfl, hnw, hrw⟩
       clear HG hrw
       replace hnw : nw = 1 := hnw
       subst hnw
       have HBF := ktq HB62 hb
       clear hb
       go_wp2_with fail
       go_ret
       exact ⟨rfl, HBF.out⟩
     ·have hst : st = 4 := HXR.out
      subst hst
      go_wp2_with fail
      go_ret
      exact ⟨rfl, HB62.out⟩
theorem late_all (v : Value) (zs : List Int) (no due : Int) (w : World) (_ : All64 zs) (hz : Row .i64 w v zs) (hno : -9223372036854775808 ≤ no ∧ no ≤ 9223372036854775807) (hdu : -9223372036854775808 ≤ due ∧ due ≤ 9223372036854775807) :
  Calls Try.prog 6 #[v, .int .i64 no, .int .i64 due] w fun e w' => e = .returned (.bool true) ∧ Below w.heap.size w w' := by
 obtain ⟨p, c, rfl⟩ := hz.shape
 exact late_walk p zs.length c zs no due w hz rfl hno hdu
end Go.Proofs.Ytpddmcimmkepfaa
