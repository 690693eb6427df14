/- contralaw17.votes by contract. VoteKeeps: what stays of what was voted for, in plain words. VoteKeeps: what is reckoned of lines, in bounds. VoteOnce: what holds of each item behind a word, in plain words. contralaw17.fits by contract. -/
import Derived.Test.YtmhocihajobkkaaR8
import Derived.Test.YtmhocihajobkkaaR3
import Derived.Test.YtmhocihajobkkaaR1
namespace Go.Proofs.Ytmhocihajobkkaa
open Go.RowKit
set_option linter.unusedSimpArgs false
set_option linter.unusedSimpArgs false in
set_option maxHeartbeats 4000000 in
set_option maxRecDepth 100000 in
theorem votes_any (w : World) : Calls Try.prog 6 #[] w fun y w' => y = .returned (.bool true) ∧ Below w.heap.size w w' := by
 go_enter Try.func6, Try.ntmps6
 go_wp2_with fail
 have HB0 := Lib.hid (oneB w (.cells #[.int .i64 0, .int .i64 1, .int .i64 1, .int .i64 0, .int .i64 70, .int .i64 0, .int .i64 3, .int .i64 0] 54))
 have HZ0 : Hid (w.heap.size ≤ (w.alloc (.cells #[.int .i64 0, .int .i64 1, .int .i64 1, .int .i64 0, .int .i64 70, .int .i64 0, .int .i64 3, .int .i64 0] 54)).heap.size) := Lib.hid HB0.out.size
 have HR : Hid (TRow encI (w.alloc (.cells #[.int .i64 0, .int .i64 1, .int .i64 1, .int .i64 0, .int .i64 70, .int .i64 0, .int .i64 3, .int .i64 0] 54)) (.slice (some ⟨w.heap.size, 0, none⟩) 1 1) v1) := Lib.hid (TRow.lit encI v1 1 1 (Blk.new w #[.int .i64 0, .int .i64 1, .int .i64 1, .int .i64 0, .int .i64 70, .int .i64 0, .int .i64 3, .int .i64 0] 54) rfl rfl (Nat.le_refl _))
 generalize (w.alloc (.cells #[.int .i64 0, .int .i64 1, .int .i64 1, .int .i64 0, .int .i64 70, .int .i64 0, .int .i64 3, .int .i64 0] 54)) = WA at *
 have HG := Lib.hid (filled_any WA _ v1 HR.out (by decide))
 refine HG.out.mono ?_
 rintro y9 w1 ⟨hb, pi, ni, ci, pd, nd, cd, rfl, hx, hnx, -, -⟩
 clear HG
 have hgd := foldX_good (l := v1) (goodB_nil 0)
 rw [show foldX 0 [] v1 = v1 from (by decide +kernel)] at hx hnx hgd
 have HGD := Lib.hid hgd
 have Qx1 := Lib.hid (hx.imp (R := fun b => b < w1.heap.size) (fun b h _ => h))
 have HNX := Lib.hid hnx
 clear hx hnx hgd
 have HB1 := ktq HB0 hb
 have HZ1 := kzq HZ0 hb.size
 clear HB0 HZ0
 clear hb
 have hba : Below w1.heap.size w1 ((w1.alloc (.cells #[.int .i64 0, .slice pi ni ci, .slice none 0 0] 28)).alloc (.cells #[.int .i64 0, .int .i64 0, .slice pd nd cd, .slice none 0 0] 31)) := (oneB w1 (.cells #[.int .i64 0, .slice pi ni ci, .slice none 0 0] 28)).alloc (by simp) _
 have Qx2 := Lib.hid (Qx1.out.kept hba)
 have Hb2 : Hid (Blk ((w1.alloc (.cells #[.int .i64 0, .slice pi ni ci, .slice none 0 0] 28)).alloc (.cells #[.int .i64 0, .int .i64 0, .slice pd nd cd, .slice none 0 0] 31)) w1.heap.size #[.int .i64 0, .slice pi ni ci, .slice none 0 0] 28) := Lib.hid ((Blk.new w1 #[.int .i64 0, .slice pi ni ci, .slice none 0 0] 28).alloc _)
 have HB2 := ktq HB1 hba
 have HZ2 : Hid (w.heap.size ≤ ((w1.alloc (.cells #[.int .i64 0, .slice pi ni ci, .slice none 0 0] 28)).alloc (.cells #[.int .i64 0, .int .i64 0, .slice pd nd cd, .slice none 0 0] 31)).heap.size) := Lib.hid HB2.out.size
 have HGB : Hid (w1.heap.size < ((w1.alloc (.cells #[.int .i64 0, .slice pi ni ci, .slice none 0 0] 28)).alloc (.cells #[.int .i64 0, .int .i64 0, .slice pd nd cd, .slice none 0 0] 31)).heap.size ∧ w.heap.size ≤ w1.heap.size) := Lib.hid ⟨Hb2.out.lt, HB1.out.size⟩
 clear hba Qx1 HB1 HZ1
 go_upto_region 2 with fail
 generalize ((w1.alloc (.cells #[.int .i64 0, .slice pi ni ci, .slice none 0 0] 28)).alloc (.cells #[.int .i64 0, .int .i64 0, .slice pd nd cd, .slice none 0 0] 31)) = W2 at *
 generalize hgb : w1.heap.size = gb at *
 clear hgb
 have hba := oneB W2 (.cells #[.int .i64 0, .int .i64 2, .slice none 0 0] 36)
 have Hb3 := kbq Hb2 hba
 have Qx3 := Lib.hid (Qx2.out.kept hba)
 have Hp3 := Lib.hid (Blk.new W2 #[.int .i64 0, .int .i64 2, .slice none 0 0] 36)
 have HB3 := Lib.hid (HB2.out.alloc HB2.out.size (.cells #[.int .i64 0, .int .i64 2, .slice none 0 0] 36))
 have HZ3 := kzq HZ2 hba.size
 have HGgp : Hid (w.heap.size ≤ W2.heap.size) := Lib.hid HB2.out.size
 clear hba Hb2 Qx2 HB2 HZ2
 go_upto_region 3 with fail
 generalize (W2.alloc (.cells #[.int .i64 0, .int .i64 2, .slice none 0 0] 36)) = W3 at *
 generalize hggp : W2.heap.size = gp at *
 clear hggp
 have Qv3 : Hid (Vt (NotIn [gb, gp]) W3 0 none 0 0 pi ni ci [] v1) := Lib.hid (Vt.mk (PtsR.nil_ _ _) (Qx3.out.imp (fun b _ h hm => by have h2 := HGB.out; simp only [List.mem_cons, List.not_mem_nil, or_false] at hm; omega)) HGD.out rfl HNX.out (fun _ h => by cases h))
 clear Qx3 HGgp
 have HG := Lib.hid (vdo_q W3 (NotIn [gb, gp]) 0 2 0 none 0 0 pi ni ci none 0 0 [] v1 (sayX 10 1 false) (2) Qv3.out (fun b hb hm => by have h1 := Hp3.out.lt; have h2 := HGB.out; simp only [List.mem_cons, List.not_mem_nil, or_false] at hm; omega) (by decide) (by decide) (sayX_in _ _ _ _ (by decide) (by decide)) (by decide) (by decide))
 unfold sayX Msg.v at HG
 have a0 : W3.cell? ⟨gp, 0, none⟩ = some (.int .i64 0) := Hp3.out.cell 0
 have a1 : W3.cell? ⟨gp, 1, none⟩ = some (.int .i64 2) := Hp3.out.cell 1
 have a2 : W3.cell? ⟨gp, 2, none⟩ = some (.slice none 0 0) := Hp3.out.cell 2
 have b0 : W3.cell? ⟨gb, 0, none⟩ = some (.int .i64 0) := Hb3.out.cell 0
 have b1 : W3.cell? ⟨gb, 1, none⟩ = some (.slice pi ni ci) := Hb3.out.cell 1
 have b2 : W3.cell? ⟨gb, 2, none⟩ = some (.slice none 0 0) := Hb3.out.cell 2
 go_wp2_with fail
 clear a0 a1 a2 b0 b1 b2 
 refine HG.out.mono ?_
 rintro y9 w5 ⟨hb, p5, n5, c5, pi5, ni5, ci5, pv5, nv5, cv5, ps5, xs5, out5, e5, rfl, hv, hnv, hsd, hG⟩
 clear HG Qv3
 obtain ⟨rfl, rfl, rfl, lp, lc, rfl⟩ := votes1 hG
 clear hG
 have hn9 : nv5 = 1 := hnv
 clear hnv
 subst hn9
 have Hb4 := kbq Hb3 hb
 have Hp4 := kbq Hp3 hb
 have HB4 := ktq HB3 hb
 have HZ4 := kzq HZ3 hb.size
 clear Hb3 Hp3 HB3 HZ3
 clear hb
 have Qv4 := Lib.hid hv
 have Qs4 := Lib.hid hsd
 clear hv hsd
 go_wp2_with (with_reducible refine stop_storeT 36 (.tmp 4) (.tmp 25) rfl ?_)
 have HTH : Hid (w5.there gp 0 3) := Hp4.out.thereAt
 have hch : Hid (Chg gp w5 (w5.setCells gp 0 (#[.int .i64 0, .int .i64 2, .slice p5 n5 c5] : Array Value).toList)) := Lib.hid (chg_putL _ _ _ _ _ (Chg.refl _ w5))
 have Hp5 : Hid (Blk (w5.setCells gp 0 (#[.int .i64 0, .int .i64 2, .slice p5 n5 c5] : Array Value).toList) gp #[.int .i64 0, .int .i64 2, .slice p5 n5 c5] 36) := Lib.hid (blk_put_all Hp4.out _ rfl)
 have HB5 : Hid (Below w.heap.size w (w5.setCells gp 0 (#[.int .i64 0, .int .i64 2, .slice p5 n5 c5] : Array Value).toList)) := Lib.hid (below_put (by have h9 := HGB.out; omega) _ _ _ _ HB4.out)
 have HZ5 := kzq HZ4 hch.out.size
 have Hb5 := kcq Hb4 hch (by have h9 := HGB.out; omega)
 have Qv5 := Lib.hid (Qv4.out.chg hch.out (notIn_self (by simp)))
 have Qs5 := Lib.hid (Qs4.out.chg hch.out (notIn_self (by simp)))
 clear hch Hb4 Hp4 Qv4 Qs4 HB4 HZ4
 refine wpList_store_mid rfl 36 (.tmp 4) (.tmp 25) rfl gp 0 #[.int .i64 0, .int .i64 2, .slice p5 n5 c5] rfl rfl HTH.out (infoP3 rfl) (all_oneCell_toArray (by intro u hu; simp at hu; rcases hu with rfl | rfl | rfl <;> rfl)) ?_
 generalize (w5.setCells gp 0 (#[.int .i64 0, .int .i64 2, .slice p5 n5 c5] : Array Value).toList) = W6 at *
 clear HTH
 go_wp2_with (with_reducible refine stop_storeT 28 (.tmp 1) (.tmp 26) rfl ?_)
 have HTH : Hid (W6.there gb 0 3) := Hb5.out.thereAt
 have hch : Hid (Chg gb W6 (W6.setCells gb 0 (#[.int .i64 0, .slice pi5 ni5 ci5, .slice none 0 0] : Array Value).toList)) := Lib.hid (chg_putL _ _ _ _ _ (Chg.refl _ W6))
 have Hb6 : Hid (Blk (W6.setCells gb 0 (#[.int .i64 0, .slice pi5 ni5 ci5, .slice none 0 0] : Array Value).toList) gb #[.int .i64 0, .slice pi5 ni5 ci5, .slice none 0 0] 28) := Lib.hid (blk_put_all Hb5.out _ rfl)
 have HB6 : Hid (Below w.heap.size w (W6.setCells gb 0 (#[.int .i64 0, .slice pi5 ni5 ci5, .slice none 0 0] : Array Value).toList)) := Lib.hid (below_put (by have h9 := HGB.out; omega) _ _ _ _ HB5.out)
 have HZ6 := kzq HZ5 hch.out.size
 have Hp6 := kcq Hp5 hch (by have h9 := HGB.out; omega)
 have Qv6 := Lib.hid (Qv5.out.chg hch.out (notIn_self (by simp)))
 have Qs6 := Lib.hid (Qs5.out.chg hch.out (notIn_self (by simp)))
 clear hch Hb5 Hp5 Qv5 Qs5 HB5 HZ5
 refine wpList_store_mid rfl 28 (.tmp 1) (.tmp 26) rfl gb 0 #[.int .i64 0, .slice pi5 ni5 ci5, .slice none 0 0] rfl rfl HTH.out (infoB3 rfl) (all_oneCell_toArray (by intro u hu; simp at hu; rcases hu with rfl | rfl | rfl <;> rfl)) ?_
 generalize (W6.setCells gb 0 (#[.int .i64 0, .slice pi5 ni5 ci5, .slice none 0 0] : Array Value).toList) = W7 at *
 clear HTH
 obtain ⟨bo, oo, hpv, hsc⟩ := sd_one Qs6.out
 subst hpv
 have Qo6 := Lib.hid hsc
 clear hsc Qs6
 have e0 : W7.cell? ⟨bo, oo, none⟩ = some (.int .i64 2) := Qo6.out.cell 0 (by decide)
 have e10 : W7.cell? ⟨bo, oo + 10, none⟩ = some (.slice lp 1 lc) := Qo6.out.cell 10 (by decide)
 go_upto_region 6 with fail
 clear e0 e10
 go_cut [5, 6] from 57 (fun vo ve wx => ∃ (p6 : Option Addr) (n6 c6 : Nat) (pi6 : Option Addr) (ni6 ci6 : Nat) (bq oq cv6 : Nat) (lq : Option Addr) (lk : Nat), vo = .slice (some ⟨bq, oq, none⟩) 1 cv6 ∧ ve = .int .i64 0 ∧ Blk wx gp #[.int .i64 0, .int .i64 2, .slice p6 n6 c6] 36 ∧ Blk wx gb #[.int .i64 0, .slice pi6 ni6 ci6, .slice none 0 0] 28 ∧ Vt (NotIn [gb, gp]) wx 0 p6 n6 c6 pi6 ni6 ci6 [⟨1, 0, 2, lq, lk, [vl]⟩] v2 ∧ SdC (NotIn [gb, gp]) bq oq ⟨2, sayX 13 1 true⟩ wx ∧ Below w.heap.size w wx)
 case first =>
  have hbd := (Below.refl W7.heap.size W7).drew
  have Hb7 := kbq Hb6 hbd
  have Hp7 := kbq Hp6 hbd
  have Qv7 := Lib.hid (Qv6.out.kept hbd)
  have Qo7 := Lib.hid (Qo6.out.kept hbd)
  have HB7 := ktq HB6 hbd
  have HZ7 := kzq HZ6 hbd.size
  clear Hb6 Hp6 Qv6 Qo6 HB6 HZ6
  refine wp_region_held_drew (S := fun w' => w'.cell? ⟨bo, oo + 10, none⟩ = some (.slice lp 1 lc)) (by kernel_rfl) (Qo7.out.cell 10 (by decide)) (fun hS0 => ?_)
  generalize W7.drew = WD at *
  clear hbd
  refine tkq 2 ?_
  refine tkq 3 ?_
  refine tkq 4 ?_
  refine tkq 5 ?_
  refine tkq 6 ?_
  have a0 : WD.cell? ⟨gp, 0, none⟩ = some (.int .i64 0) := Hp7.out.cell 0
  have a0n : (WD.alloc (.cells #[.int .i64 70, .int .i64 (-70)] 2)).cell? ⟨gp, 0, none⟩ = some (.int .i64 0) := (Hp7.out.alloc _).cell 0
  have a1 : WD.cell? ⟨gp, 1, none⟩ = some (.int .i64 2) := Hp7.out.cell 1
  have a1n : (WD.alloc (.cells #[.int .i64 70, .int .i64 (-70)] 2)).cell? ⟨gp, 1, none⟩ = some (.int .i64 2) := (Hp7.out.alloc _).cell 1
  have a2 : WD.cell? ⟨gp, 2, none⟩ = some (.slice p5 n5 c5) := Hp7.out.cell 2
  have a2n : (WD.alloc (.cells #[.int .i64 70, .int .i64 (-70)] 2)).cell? ⟨gp, 2, none⟩ = some (.slice p5 n5 c5) := (Hp7.out.alloc _).cell 2
  have b0 : WD.cell? ⟨gb, 0, none⟩ = some (.int .i64 0) := Hb7.out.cell 0
  have b0n : (WD.alloc (.cells #[.int .i64 70, .int .i64 (-70)] 2)).cell? ⟨gb, 0, none⟩ = some (.int .i64 0) := (Hb7.out.alloc _).cell 0
  have b1 : WD.cell? ⟨gb, 1, none⟩ = some (.slice pi5 ni5 ci5) := Hb7.out.cell 1
  have b1n : (WD.alloc (.cells #[.int .i64 70, .int .i64 (-70)] 2)).cell? ⟨gb, 1, none⟩ = some (.slice pi5 ni5 ci5) := (Hb7.out.alloc _).cell 1
  have b2 : WD.cell? ⟨gb, 2, none⟩ = some (.slice none 0 0) := Hb7.out.cell 2
  have b2n : (WD.alloc (.cells #[.int .i64 70, .int .i64 (-70)] 2)).cell? ⟨gb, 2, none⟩ = some (.slice none 0 0) := (Hb7.out.alloc _).cell 2
  have e10n : (WD.alloc (.cells #[.int .i64 70, .int .i64 (-70)] 2)).cell? ⟨bo, oo + 10, none⟩ = some (.slice lp 1 lc) := (Qo7.out.kept (oneB WD (.cells #[.int .i64 70, .int .i64 (-70)] 2))).cell 10 (by decide)
  refine wpAnyH_ready (rs := [0, 1, 7]) (by kernel_rfl) (by simp) ?_
  refine AllReadyH.cons rfl (fun K hK => ?_) (AllReadyH.cons rfl (fun K hK => ?_) (AllReadyH.cons rfl (fun K hK => ?_) AllReadyH.nil))
  ·skip
   go_simp
   refine hK.out _ _ (Qo7.out.cell 10 (by decide)) (fun hS => ?_)
   clear hK K
   try simp only [Act.put, List.getElem_toArray, List.getElem_cons_succ, List.getElem_cons_zero, List.setIfInBounds_toArray, List.set_cons_zero, List.set_cons_succ]
   refine wpAnyH_ready (rs := [1, 7]) (by kernel_rfl) (by simp) ?_
   refine AllReadyH.cons rfl (fun K hK => ?_) (AllReadyH.cons rfl (fun K hK => ?_) AllReadyH.nil)
   ·skip
    go_simp
    refine hK.out _ _ (Qo7.out.cell 10 (by decide)) (fun hS => ?_)
    clear hK K
    try simp only [Act.put, List.getElem_toArray, List.getElem_cons_succ, List.getElem_cons_zero, List.setIfInBounds_toArray, List.set_cons_zero, List.set_cons_succ]
    refine rdq 7 (fun K hK => ?_)
    go_simp
    refine hK.out _ _ e10n (fun hS => ?_)
    clear hK K
    try simp only [Act.put, List.getElem_toArray, List.getElem_cons_succ, List.getElem_cons_zero, List.setIfInBounds_toArray, List.set_cons_zero, List.set_cons_succ]
    refine tkq 8 ?_
    clear hS
    have hbm := oneB WD (.cells #[.int .i64 70, .int .i64 (-70)] 2)
    have Hb8 := kbq Hb7 hbm
    have Hp8 := kbq Hp7 hbm
    have Qv8 := Lib.hid (Qv7.out.kept hbm)
    have Qo8 := Lib.hid (Qo7.out.kept hbm)
    have HB8 := ktq HB7 hbm
    have HZ8 : Hid (w.heap.size ≤ (WD.alloc (.cells #[.int .i64 70, .int .i64 (-70)] 2)).heap.size) := Lib.hid HB8.out.size
    have HNS : Hid (Row .i64 (WD.alloc (.cells #[.int .i64 70, .int .i64 (-70)] 2)) (.slice (some ⟨WD.heap.size, 0, none⟩) 2 2) [70, -70]) := Lib.hid row_two (Blk.new WD #[.int .i64 70, .int .i64 (-70)] 2)
    have hS0 := e10n
    clear hbm a0 a0n a1 a1n a2 a2n b0 b0n b1 b1n b2 b2n e10n Hb7 Hp7 Qv7 Qo7 HB7 HZ7
    generalize (WD.alloc (.cells #[.int .i64 70, .int .i64 (-70)] 2)) = WN at *
    generalize WD.heap.size = gn at *
    refine rdq 9 (fun K hK => ?_)
    have HG := Lib.hid (vdo_q WN (NotIn [gb, gp]) 0 2 0 p5 n5 c5 pi5 ni5 ci5 none 0 0 _ _ (⟨mPre, lp, lc, some ⟨gn, 0, none⟩, 2⟩ : MsgX) 2 Qv8.out (fun b hb hm => by have h1 := Hp8.out.lt; have h2 := HGB.out; simp only [List.mem_cons, List.not_mem_nil, or_false] at hm; omega) (by decide) (by decide) ⟨Qo8.out.2.1, HNS.out, mPre_fit⟩ (by show 1 ≤ 2000; decide) (by show 2 ≤ 100000; decide))
    unfold Msg.v at HG
    go_simp
    go_at_call 9
    refine HG.out.mono ?_
    rintro y9 w6 ⟨hb, p6, n6, c6, pi6, ni6, ci6, pv6, nv6, cv6, ps6, xs6, out6, e6, rfl, hv, hnv, hsd, hG⟩
    clear HG
    obtain ⟨rfl, rfl, rfl, lq, lk, rfl⟩ := votes2 hG
    clear hG
    have hn9 : nv6 = 1 := hnv
    clear hnv
    subst hn9
    obtain ⟨bq, oq, hpv, hsc⟩ := sd_one hsd
    subst hpv
    clear Qv8 hsd HNS
    have Hb9 := kbq Hb8 hb
    have Hp9 := kbq Hp8 hb
    have Qo9 := Lib.hid (Qo8.out.kept hb)
    have HB9 := ktq HB8 hb
    have HZ9 := kzq HZ8 hb.size
    clear Hb8 Hp8 Qo8 HB8 HZ8
    clear hb hS0
    have Qv9 := Lib.hid hv
    have Qs9 := Lib.hid hsc
    clear hv hsc
    try go_wp2_with fail
    refine hK.out _ _ (Qo9.out.cell 10 (by decide)) (fun hS0 => ?_)
    clear hK K
    try simp only [Act.put, List.getElem_toArray, List.getElem_cons_succ, List.getElem_cons_zero, List.setIfInBounds_toArray, List.set_cons_zero, List.set_cons_succ]
    refine tkq 10 ?_
    refine tkq 11 ?_
    refine tkq 12 ?_
    refine tkq 13 ?_
    refine tkq 14 ?_
    refine rdq 15 (fun K hK => ?_)
    have z0 : w6.cell? ⟨gp, 0, none⟩ = some (.int .i64 0) := Hp9.out.cell 0
    have z1 : w6.cell? ⟨gp, 1, none⟩ = some (.int .i64 2) := Hp9.out.cell 1
    have z2 : w6.cell? ⟨gp, 2, none⟩ = some (.slice p5 n5 c5) := Hp9.out.cell 2
    have f0 := Hp9.out.free 0
    have f1 := Hp9.out.free 1
    have f2 := Hp9.out.free 2
    go_simp
    clear z0 f0 z1 f1 z2 f2
    have hch := Lib.hid ((((Chg.refl gp w6).set 0 (.int .i64 0)).set 1 (.int .i64 2)).set 2 (.slice p6 n6 c6))
    have Hp10 : Hid (Blk _ gp #[.int .i64 0, .int .i64 2, .slice p6 n6 c6] 36) := Lib.hid (((Hp9.out.set 0 (.int .i64 0)).set 1 (.int .i64 2)).set 2 (.slice p6 n6 c6))
    have HB10 := ksq HB9 hch (by show w.heap.size ≤ gp; have h9 := HGB.out; omega)
    have HZ10 := kzq HZ9 hch.out.size
    have Hb10 := kcq Hb9 hch (by have h9 := HGB.out; omega)
    have Qo10 := Lib.hid (Qo9.out.chg hch.out (notIn_self (by simp)))
    have Qv10 := Lib.hid (Qv9.out.chg hch.out (notIn_self (by simp)))
    have Qs10 := Lib.hid (Qs9.out.chg hch.out (notIn_self (by simp)))
    clear hch hS0 Hb9 Hp9 Qo9 Qv9 Qs9 HB9 HZ9
    generalize (((w6.setCell ⟨gp, 0, none⟩ (.int .i64 0)).setCell ⟨gp, 1, none⟩ (.int .i64 2)).setCell ⟨gp, 2, none⟩ (.slice p6 n6 c6)) = WP at *
    refine hK.out _ _ (Qo10.out.cell 10 (by decide)) (fun hS0 => ?_)
    clear hK K
    try simp only [Act.put, List.getElem_toArray, List.getElem_cons_succ, List.getElem_cons_zero, List.setIfInBounds_toArray, List.set_cons_zero, List.set_cons_succ]
    refine rdq 16 (fun K hK => ?_)
    have z0 : WP.cell? ⟨gb, 0, none⟩ = some (.int .i64 0) := Hb10.out.cell 0
    have z1 : WP.cell? ⟨gb, 1, none⟩ = some (.slice pi5 ni5 ci5) := Hb10.out.cell 1
    have z2 : WP.cell? ⟨gb, 2, none⟩ = some (.slice none 0 0) := Hb10.out.cell 2
    have f0 := Hb10.out.free 0
    have f1 := Hb10.out.free 1
    have f2 := Hb10.out.free 2
    go_simp
    clear z0 f0 z1 f1 z2 f2
    have hch := Lib.hid ((((Chg.refl gb WP).set 0 (.int .i64 0)).set 1 (.slice pi6 ni6 ci6)).set 2 (.slice none 0 0))
    have Hb11 : Hid (Blk _ gb #[.int .i64 0, .slice pi6 ni6 ci6, .slice none 0 0] 28) := Lib.hid (((Hb10.out.set 0 (.int .i64 0)).set 1 (.slice pi6 ni6 ci6)).set 2 (.slice none 0 0))
    have HB11 := ksq HB10 hch (by show w.heap.size ≤ gb; have h9 := HGB.out; omega)
    have HZ11 := kzq HZ10 hch.out.size
    have Hp11 := kcq Hp10 hch (by have h9 := HGB.out; omega)
    have Qo11 := Lib.hid (Qo10.out.chg hch.out (notIn_self (by simp)))
    have Qv11 := Lib.hid (Qv10.out.chg hch.out (notIn_self (by simp)))
    have Qs11 := Lib.hid (Qs10.out.chg hch.out (notIn_self (by simp)))
    clear hch hS0 Hb10 Hp10 Qo10 Qv10 Qs10 HB10 HZ10
    generalize (((WP.setCell ⟨gb, 0, none⟩ (.int .i64 0)).setCell ⟨gb, 1, none⟩ (.slice pi6 ni6 ci6)).setCell ⟨gb, 2, none⟩ (.slice none 0 0)) = WQ at *
    refine hK.out _ _ (Qo11.out.cell 10 (by decide)) (fun hS0 => ?_)
    clear hK K
    try simp only [Act.put, List.getElem_toArray, List.getElem_cons_succ, List.getElem_cons_zero, List.setIfInBounds_toArray, List.set_cons_zero, List.set_cons_succ]
    refine tkq 17 ?_
    refine tkq 18 ?_
    refine wpAnyH_done (by kernel_rfl) ?_ _
    clear hS0
    go_wp2_with fail
    go_meet
    case rel => exact ⟨p6, n6, c6, pi6, ni6, ci6, bq, oq, cv6, lq, lk, rfl, rfl, Hp11.out, Hb11.out, Qv11.out, Qs11.out, HB11.out⟩
   ·skip
    go_simp
    refine hK.out _ _ e10n (fun hS => ?_)
    clear hK K
    try simp only [Act.put, List.getElem_toArray, List.getElem_cons_succ, List.getElem_cons_zero, List.setIfInBounds_toArray, List.set_cons_zero, List.set_cons_succ]
    refine tkq 8 ?_
    refine rdq 1 (fun K hK => ?_)
    go_simp
    refine hK.out _ _ e10n (fun hS => ?_)
    clear hK K
    try simp only [Act.put, List.getElem_toArray, List.getElem_cons_succ, List.getElem_cons_zero, List.setIfInBounds_toArray, List.set_cons_zero, List.set_cons_succ]
    clear hS
    have hbm := oneB WD (.cells #[.int .i64 70, .int .i64 (-70)] 2)
    have Hb8 := kbq Hb7 hbm
    have Hp8 := kbq Hp7 hbm
    have Qv8 := Lib.hid (Qv7.out.kept hbm)
    have Qo8 := Lib.hid (Qo7.out.kept hbm)
    have HB8 := ktq HB7 hbm
    have HZ8 : Hid (w.heap.size ≤ (WD.alloc (.cells #[.int .i64 70, .int .i64 (-70)] 2)).heap.size) := Lib.hid HB8.out.size
    have HNS : Hid (Row .i64 (WD.alloc (.cells #[.int .i64 70, .int .i64 (-70)] 2)) (.slice (some ⟨WD.heap.size, 0, none⟩) 2 2) [70, -70]) := Lib.hid row_two (Blk.new WD #[.int .i64 70, .int .i64 (-70)] 2)
    have hS0 := e10n
    clear hbm a0 a0n a1 a1n a2 a2n b0 b0n b1 b1n b2 b2n e10n Hb7 Hp7 Qv7 Qo7 HB7 HZ7
    generalize (WD.alloc (.cells #[.int .i64 70, .int .i64 (-70)] 2)) = WN at *
    generalize WD.heap.size = gn at *
    refine rdq 9 (fun K hK => ?_)
    have HG := Lib.hid (vdo_q WN (NotIn [gb, gp]) 0 2 0 p5 n5 c5 pi5 ni5 ci5 none 0 0 _ _ (⟨mPre, lp, lc, some ⟨gn, 0, none⟩, 2⟩ : MsgX) 2 Qv8.out (fun b hb hm => by have h1 := Hp8.out.lt; have h2 := HGB.out; simp only [List.mem_cons, List.not_mem_nil, or_false] at hm; omega) (by decide) (by decide) ⟨Qo8.out.2.1, HNS.out, mPre_fit⟩ (by show 1 ≤ 2000; decide) (by show 2 ≤ 100000; decide))
    unfold Msg.v at HG
    go_simp
    go_at_call 9
    refine HG.out.mono ?_
    rintro y9 w6 ⟨hb, p6, n6, c6, pi6, ni6, ci6, pv6, nv6, cv6, ps6, xs6, out6, e6, rfl, hv, hnv, hsd, hG⟩
    clear HG
    obtain ⟨rfl, rfl, rfl, lq, lk, rfl⟩ := votes2 hG
    clear hG
    have hn9 : nv6 = 1 := hnv
    clear hnv
    subst hn9
    obtain ⟨bq, oq, hpv, hsc⟩ := sd_one hsd
    subst hpv
    clear Qv8 hsd HNS
    have Hb9 := kbq Hb8 hb
    have Hp9 := kbq Hp8 hb
    have Qo9 := Lib.hid (Qo8.out.kept hb)
    have HB9 := ktq HB8 hb
    have HZ9 := kzq HZ8 hb.size
    clear Hb8 Hp8 Qo8 HB8 HZ8
    clear hb hS0
    have Qv9 := Lib.hid hv
    have Qs9 := Lib.hid hsc
    clear hv hsc
    try go_wp2_with fail
    refine hK.out _ _ (Qo9.out.cell 10 (by decide)) (fun hS0 => ?_)
    clear hK K
    try simp only [Act.put, List.getElem_toArray, List.getElem_cons_succ, List.getElem_cons_zero, List.setIfInBounds_toArray, List.set_cons_zero, List.set_cons_succ]
    refine tkq 10 ?_
    refine tkq 11 ?_
    refine tkq 12 ?_
    refine tkq 13 ?_
    refine tkq 14 ?_
    refine rdq 15 (fun K hK => ?_)
    have z0 : w6.cell? ⟨gp, 0, none⟩ = some (.int .i64 0) := Hp9.out.cell 0
    have z1 : w6.cell? ⟨gp, 1, none⟩ = some (.int .i64 2) := Hp9.out.cell 1
    have z2 : w6.cell? ⟨gp, 2, none⟩ = some (.slice p5 n5 c5) := Hp9.out.cell 2
    have f0 := Hp9.out.free 0
    have f1 := Hp9.out.free 1
    have f2 := Hp9.out.free 2
    go_simp
    clear z0 f0 z1 f1 z2 f2
    have hch := Lib.hid ((((Chg.refl gp w6).set 0 (.int .i64 0)).set 1 (.int .i64 2)).set 2 (.slice p6 n6 c6))
    have Hp10 : Hid (Blk _ gp #[.int .i64 0, .int .i64 2, .slice p6 n6 c6] 36) := Lib.hid (((Hp9.out.set 0 (.int .i64 0)).set 1 (.int .i64 2)).set 2 (.slice p6 n6 c6))
    have HB10 := ksq HB9 hch (by show w.heap.size ≤ gp; have h9 := HGB.out; omega)
    have HZ10 := kzq HZ9 hch.out.size
    have Hb10 := kcq Hb9 hch (by have h9 := HGB.out; omega)
    have Qo10 := Lib.hid (Qo9.out.chg hch.out (notIn_self (by simp)))
    have Qv10 := Lib.hid (Qv9.out.chg hch.out (notIn_self (by simp)))
    have Qs10 := Lib.hid (Qs9.out.chg hch.out (notIn_self (by simp)))
    clear hch hS0 Hb9 Hp9 Qo9 Qv9 Qs9 HB9 HZ9
    generalize (((w6.setCell ⟨gp, 0, none⟩ (.int .i64 0)).setCell ⟨gp, 1, none⟩ (.int .i64 2)).setCell ⟨gp, 2, none⟩ (.slice p6 n6 c6)) = WP at *
    refine hK.out _ _ (Qo10.out.cell 10 (by decide)) (fun hS0 => ?_)
    clear hK K
    try simp only [Act.put, List.getElem_toArray, List.getElem_cons_succ, List.getElem_cons_zero, List.setIfInBounds_toArray, List.set_cons_zero, List.set_cons_succ]
    refine rdq 16 (fun K hK => ?_)
    have z0 : WP.cell? ⟨gb, 0, none⟩ = some (.int .i64 0) := Hb10.out.cell 0
    have z1 : WP.cell? ⟨gb, 1, none⟩ = some (.slice pi5 ni5 ci5) := Hb10.out.cell 1
    have z2 : WP.cell? ⟨gb, 2, none⟩ = some (.slice none 0 0) := Hb10.out.cell 2
    have f0 := Hb10.out.free 0
    have f1 := Hb10.out.free 1
    have f2 := Hb10.out.free 2
    go_simp
    clear z0 f0 z1 f1 z2 f2
    have hch := Lib.hid ((((Chg.refl gb WP).set 0 (.int .i64 0)).set 1 (.slice pi6 ni6 ci6)).set 2 (.slice none 0 0))
    have Hb11 : Hid (Blk _ gb #[.int .i64 0, .slice pi6 ni6 ci6, .slice none 0 0] 28) := Lib.hid (((Hb10.out.set 0 (.int .i64 0)).set 1 (.slice pi6 ni6 ci6)).set 2 (.slice none 0 0))
    have HB11 := ksq HB10 hch (by show w.heap.size ≤ gb; have h9 := HGB.out; omega)
    have HZ11 := kzq HZ10 hch.out.size
    have Hp11 := kcq Hp10 hch (by have h9 := HGB.out; omega)
    have Qo11 := Lib.hid (Qo10.out.chg hch.out (notIn_self (by simp)))
    have Qv11 := Lib.hid (Qv10.out.chg hch.out (notIn_self (by simp)))
    have Qs11 := Lib.hid (Qs10.out.chg hch.out (notIn_self (by simp)))
    clear hch hS0 Hb10 Hp10 Qo10 Qv10 Qs10 HB10 HZ10
    generalize (((WP.setCell ⟨gb, 0, none⟩ (.int .i64 0)).setCell ⟨gb, 1, none⟩ (.slice pi6 ni6 ci6)).setCell ⟨gb, 2, none⟩ (.slice none 0 0)) = WQ at *
    refine hK.out _ _ (Qo11.out.cell 10 (by decide)) (fun hS0 => ?_)
    clear hK K
    try simp only [Act.put, List.getElem_toArray, List.getElem_cons_succ, List.getElem_cons_zero, List.setIfInBounds_toArray, List.set_cons_zero, List.set_cons_succ]
    refine tkq 17 ?_
    refine tkq 18 ?_
    refine wpAnyH_done (by kernel_rfl) ?_ _
    clear hS0
    go_wp2_with fail
    go_meet
    case rel => exact ⟨p6, n6, c6, pi6, ni6, ci6, bq, oq, cv6, lq, lk, rfl, rfl, Hp11.out, Hb11.out, Qv11.out, Qs11.out, HB11.out⟩
  ·skip
   go_simp
   refine hK.out _ _ (Qo7.out.cell 10 (by decide)) (fun hS => ?_)
   clear hK K
   try simp only [Act.put, List.getElem_toArray, List.getElem_cons_succ, List.getElem_cons_zero, List.setIfInBounds_toArray, List.set_cons_zero, List.set_cons_succ]
   refine wpAnyH_ready (rs := [0, 7]) (by kernel_rfl) (by simp) ?_
   refine AllReadyH.cons rfl (fun K hK => ?_) (AllReadyH.cons rfl (fun K hK => ?_) AllReadyH.nil)
   ·skip
    go_simp
    refine hK.out _ _ (Qo7.out.cell 10 (by decide)) (fun hS => ?_)
    clear hK K
    try simp only [Act.put, List.getElem_toArray, List.getElem_cons_succ, List.getElem_cons_zero, List.setIfInBounds_toArray, List.set_cons_zero, List.set_cons_succ]
    refine rdq 7 (fun K hK => ?_)
    go_simp
    refine hK.out _ _ e10n (fun hS => ?_)
    clear hK K
    try simp only [Act.put, List.getElem_toArray, List.getElem_cons_succ, List.getElem_cons_zero, List.setIfInBounds_toArray, List.set_cons_zero, List.set_cons_succ]
    refine tkq 8 ?_
    clear hS
    have hbm := oneB WD (.cells #[.int .i64 70, .int .i64 (-70)] 2)
    have Hb8 := kbq Hb7 hbm
    have Hp8 := kbq Hp7 hbm
    have Qv8 := Lib.hid (Qv7.out.kept hbm)
    have Qo8 := Lib.hid (Qo7.out.kept hbm)
    have HB8 := ktq HB7 hbm
    have HZ8 : Hid (w.heap.size ≤ (WD.alloc (.cells #[.int .i64 70, .int .i64 (-70)] 2)).heap.size) := Lib.hid HB8.out.size
    have HNS : Hid (Row .i64 (WD.alloc (.cells #[.int .i64 70, .int .i64 (-70)] 2)) (.slice (some ⟨WD.heap.size, 0, none⟩) 2 2) [70, -70]) := Lib.hid row_two (Blk.new WD #[.int .i64 70, .int .i64 (-70)] 2)
    have hS0 := e10n
    clear hbm a0 a0n a1 a1n a2 a2n b0 b0n b1 b1n b2 b2n e10n Hb7 Hp7 Qv7 Qo7 HB7 HZ7
    generalize (WD.alloc (.cells #[.int .i64 70, .int .i64 (-70)] 2)) = WN at *
    generalize WD.heap.size = gn at *
    refine rdq 9 (fun K hK => ?_)
    have HG := Lib.hid (vdo_q WN (NotIn [gb, gp]) 0 2 0 p5 n5 c5 pi5 ni5 ci5 none 0 0 _ _ (⟨mPre, lp, lc, some ⟨gn, 0, none⟩, 2⟩ : MsgX) 2 Qv8.out (fun b hb hm => by have h1 := Hp8.out.lt; have h2 := HGB.out; simp only [List.mem_cons, List.not_mem_nil, or_false] at hm; omega) (by decide) (by decide) ⟨Qo8.out.2.1, HNS.out, mPre_fit⟩ (by show 1 ≤ 2000; decide) (by show 2 ≤ 100000; decide))
    unfold Msg.v at HG
    go_simp
    go_at_call 9
    refine HG.out.mono ?_
    rintro y9 w6 ⟨hb, p6, n6, c6, pi6, ni6, ci6, pv6, nv6, cv6, ps6, xs6, out6, e6, rfl, hv, hnv, hsd, hG⟩
    clear HG
    obtain ⟨rfl, rfl, rfl, lq, lk, rfl⟩ := votes2 hG
    clear hG
    have hn9 : nv6 = 1 := hnv
    clear hnv
    subst hn9
    obtain ⟨bq, oq, hpv, hsc⟩ := sd_one hsd
    subst hpv
    clear Qv8 hsd HNS
    have Hb9 := kbq Hb8 hb
    have Hp9 := kbq Hp8 hb
    have Qo9 := Lib.hid (Qo8.out.kept hb)
    have HB9 := ktq HB8 hb
    have HZ9 := kzq HZ8 hb.size
    clear Hb8 Hp8 Qo8 HB8 HZ8
    clear hb hS0
    have Qv9 := Lib.hid hv
    have Qs9 := Lib.hid hsc
    clear hv hsc
    try go_wp2_with fail
    refine hK.out _ _ (Qo9.out.cell 10 (by decide)) (fun hS0 => ?_)
    clear hK K
    try simp only [Act.put, List.getElem_toArray, List.getElem_cons_succ, List.getElem_cons_zero, List.setIfInBounds_toArray, List.set_cons_zero, List.set_cons_succ]
    refine tkq 10 ?_
    refine tkq 11 ?_
    refine tkq 12 ?_
    refine tkq 13 ?_
    refine tkq 14 ?_
    refine rdq 15 (fun K hK => ?_)
    have z0 : w6.cell? ⟨gp, 0, none⟩ = some (.int .i64 0) := Hp9.out.cell 0
    have z1 : w6.cell? ⟨gp, 1, none⟩ = some (.int .i64 2) := Hp9.out.cell 1
    have z2 : w6.cell? ⟨gp, 2, none⟩ = some (.slice p5 n5 c5) := Hp9.out.cell 2
    have f0 := Hp9.out.free 0
    have f1 := Hp9.out.free 1
    have f2 := Hp9.out.free 2
    go_simp
    clear z0 f0 z1 f1 z2 f2
    have hch := Lib.hid ((((Chg.refl gp w6).set 0 (.int .i64 0)).set 1 (.int .i64 2)).set 2 (.slice p6 n6 c6))
    have Hp10 : Hid (Blk _ gp #[.int .i64 0, .int .i64 2, .slice p6 n6 c6] 36) := Lib.hid (((Hp9.out.set 0 (.int .i64 0)).set 1 (.int .i64 2)).set 2 (.slice p6 n6 c6))
    have HB10 := ksq HB9 hch (by show w.heap.size ≤ gp; have h9 := HGB.out; omega)
    have HZ10 := kzq HZ9 hch.out.size
    have Hb10 := kcq Hb9 hch (by have h9 := HGB.out; omega)
    have Qo10 := Lib.hid (Qo9.out.chg hch.out (notIn_self (by simp)))
    have Qv10 := Lib.hid (Qv9.out.chg hch.out (notIn_self (by simp)))
    have Qs10 := Lib.hid (Qs9.out.chg hch.out (notIn_self (by simp)))
    clear hch hS0 Hb9 Hp9 Qo9 Qv9 Qs9 HB9 HZ9
    generalize (((w6.setCell ⟨gp, 0, none⟩ (.int .i64 0)).setCell ⟨gp, 1, none⟩ (.int .i64 2)).setCell ⟨gp, 2, none⟩ (.slice p6 n6 c6)) = WP at *
    refine hK.out _ _ (Qo10.out.cell 10 (by decide)) (fun hS0 => ?_)
    clear hK K
    try simp only [Act.put, List.getElem_toArray, List.getElem_cons_succ, List.getElem_cons_zero, List.setIfInBounds_toArray, List.set_cons_zero, List.set_cons_succ]
    refine rdq 16 (fun K hK => ?_)
    have z0 : WP.cell? ⟨gb, 0, none⟩ = some (.int .i64 0) := Hb10.out.cell 0
    have z1 : WP.cell? ⟨gb, 1, none⟩ = some (.slice pi5 ni5 ci5) := Hb10.out.cell 1
    have z2 : WP.cell? ⟨gb, 2, none⟩ = some (.slice none 0 0) := Hb10.out.cell 2
    have f0 := Hb10.out.free 0
    have f1 := Hb10.out.free 1
    have f2 := Hb10.out.free 2
    go_simp
    clear z0 f0 z1 f1 z2 f2
    have hch := Lib.hid ((((Chg.refl gb WP).set 0 (.int .i64 0)).set 1 (.slice pi6 ni6 ci6)).set 2 (.slice none 0 0))
    have Hb11 : Hid (Blk _ gb #[.int .i64 0, .slice pi6 ni6 ci6, .slice none 0 0] 28) := Lib.hid (((Hb10.out.set 0 (.int .i64 0)).set 1 (.slice pi6 ni6 ci6)).set 2 (.slice none 0 0))
    have HB11 := ksq HB10 hch (by show w.heap.size ≤ gb; have h9 := HGB.out; omega)
    have HZ11 := kzq HZ10 hch.out.size
    have Hp11 := kcq Hp10 hch (by have h9 := HGB.out; omega)
    have Qo11 := Lib.hid (Qo10.out.chg hch.out (notIn_self (by simp)))
    have Qv11 := Lib.hid (Qv10.out.chg hch.out (notIn_self (by simp)))
    have Qs11 := Lib.hid (Qs10.out.chg hch.out (notIn_self (by simp)))
    clear hch hS0 Hb10 Hp10 Qo10 Qv10 Qs10 HB10 HZ10
    generalize (((WP.setCell ⟨gb, 0, none⟩ (.int .i64 0)).setCell ⟨gb, 1, none⟩ (.slice pi6 ni6 ci6)).setCell ⟨gb, 2, none⟩ (.slice none 0 0)) = WQ at *
    refine hK.out _ _ (Qo11.out.cell 10 (by decide)) (fun hS0 => ?_)
    clear hK K
    try simp only [Act.put, List.getElem_toArray, List.getElem_cons_succ, List.getElem_cons_zero, List.setIfInBounds_toArray, List.set_cons_zero, List.set_cons_succ]
    refine tkq 17 ?_
    refine tkq 18 ?_
    refine wpAnyH_done (by kernel_rfl) ?_ _
    clear hS0
    go_wp2_with fail
    go_meet
    case rel => exact ⟨p6, n6, c6, pi6, ni6, ci6, bq, oq, cv6, lq, lk, rfl, rfl, Hp11.out, Hb11.out, Qv11.out, Qs11.out, HB11.out⟩
   ·skip
    go_simp
    refine hK.out _ _ e10n (fun hS => ?_)
    clear hK K
    try simp only [Act.put, List.getElem_toArray, List.getElem_cons_succ, List.getElem_cons_zero, List.setIfInBounds_toArray, List.set_cons_zero, List.set_cons_succ]
    refine tkq 8 ?_
    refine rdq 0 (fun K hK => ?_)
    go_simp
    refine hK.out _ _ e10n (fun hS => ?_)
    clear hK K
    try simp only [Act.put, List.getElem_toArray, List.getElem_cons_succ, List.getElem_cons_zero, List.setIfInBounds_toArray, List.set_cons_zero, List.set_cons_succ]
    clear hS
    have hbm := oneB WD (.cells #[.int .i64 70, .int .i64 (-70)] 2)
    have Hb8 := kbq Hb7 hbm
    have Hp8 := kbq Hp7 hbm
    have Qv8 := Lib.hid (Qv7.out.kept hbm)
    have Qo8 := Lib.hid (Qo7.out.kept hbm)
    have HB8 := ktq HB7 hbm
    have HZ8 : Hid (w.heap.size ≤ (WD.alloc (.cells #[.int .i64 70, .int .i64 (-70)] 2)).heap.size) := Lib.hid HB8.out.size
    have HNS : Hid (Row .i64 (WD.alloc (.cells #[.int .i64 70, .int .i64 (-70)] 2)) (.slice (some ⟨WD.heap.size, 0, none⟩) 2 2) [70, -70]) := Lib.hid row_two (Blk.new WD #[.int .i64 70, .int .i64 (-70)] 2)
    have hS0 := e10n
    clear hbm a0 a0n a1 a1n a2 a2n b0 b0n b1 b1n b2 b2n e10n Hb7 Hp7 Qv7 Qo7 HB7 HZ7
    generalize (WD.alloc (.cells #[.int .i64 70, .int .i64 (-70)] 2)) = WN at *
    generalize WD.heap.size = gn at *
    refine rdq 9 (fun K hK => ?_)
    have HG := Lib.hid (vdo_q WN (NotIn [gb, gp]) 0 2 0 p5 n5 c5 pi5 ni5 ci5 none 0 0 _ _ (⟨mPre, lp, lc, some ⟨gn, 0, none⟩, 2⟩ : MsgX) 2 Qv8.out (fun b hb hm => by have h1 := Hp8.out.lt; have h2 := HGB.out; simp only [List.mem_cons, List.not_mem_nil, or_false] at hm; omega) (by decide) (by decide) ⟨Qo8.out.2.1, HNS.out, mPre_fit⟩ (by show 1 ≤ 2000; decide) (by show 2 ≤ 100000; decide))
    unfold Msg.v at HG
    go_simp
    go_at_call 9
    refine HG.out.mono ?_
    rintro y9 w6 ⟨hb, p6, n6, c6, pi6, ni6, ci6, pv6, nv6, cv6, ps6, xs6, out6, e6, rfl, hv, hnv, hsd, hG⟩
    clear HG
    obtain ⟨rfl, rfl, rfl, lq, lk, rfl⟩ := votes2 hG
    clear hG
    have hn9 : nv6 = 1 := hnv
    clear hnv
    subst hn9
    obtain ⟨bq, oq, hpv, hsc⟩ := sd_one hsd
    subst hpv
    clear Qv8 hsd HNS
    have Hb9 := kbq Hb8 hb
    have Hp9 := kbq Hp8 hb
    have Qo9 := Lib.hid (Qo8.out.kept hb)
    have HB9 := ktq HB8 hb
    have HZ9 := kzq HZ8 hb.size
    clear Hb8 Hp8 Qo8 HB8 HZ8
    clear hb hS0
    have Qv9 := Lib.hid hv
    have Qs9 := Lib.hid hsc
    clear hv hsc
    try go_wp2_with fail
    refine hK.out _ _ (Qo9.out.cell 10 (by decide)) (fun hS0 => ?_)
    clear hK K
    try simp only [Act.put, List.getElem_toArray, List.getElem_cons_succ, List.getElem_cons_zero, List.setIfInBounds_toArray, List.set_cons_zero, List.set_cons_succ]
    refine tkq 10 ?_
    refine tkq 11 ?_
    refine tkq 12 ?_
    refine tkq 13 ?_
    refine tkq 14 ?_
    refine rdq 15 (fun K hK => ?_)
    have z0 : w6.cell? ⟨gp, 0, none⟩ = some (.int .i64 0) := Hp9.out.cell 0
    have z1 : w6.cell? ⟨gp, 1, none⟩ = some (.int .i64 2) := Hp9.out.cell 1
    have z2 : w6.cell? ⟨gp, 2, none⟩ = some (.slice p5 n5 c5) := Hp9.out.cell 2
    have f0 := Hp9.out.free 0
    have f1 := Hp9.out.free 1
    have f2 := Hp9.out.free 2
    go_simp
    clear z0 f0 z1 f1 z2 f2
    have hch := Lib.hid ((((Chg.refl gp w6).set 0 (.int .i64 0)).set 1 (.int .i64 2)).set 2 (.slice p6 n6 c6))
    have Hp10 : Hid (Blk _ gp #[.int .i64 0, .int .i64 2, .slice p6 n6 c6] 36) := Lib.hid (((Hp9.out.set 0 (.int .i64 0)).set 1 (.int .i64 2)).set 2 (.slice p6 n6 c6))
    have HB10 := ksq HB9 hch (by show w.heap.size ≤ gp; have h9 := HGB.out; omega)
    have HZ10 := kzq HZ9 hch.out.size
    have Hb10 := kcq Hb9 hch (by have h9 := HGB.out; omega)
    have Qo10 := Lib.hid (Qo9.out.chg hch.out (notIn_self (by simp)))
    have Qv10 := Lib.hid (Qv9.out.chg hch.out (notIn_self (by simp)))
    have Qs10 := Lib.hid (Qs9.out.chg hch.out (notIn_self (by simp)))
    clear hch hS0 Hb9 Hp9 Qo9 Qv9 Qs9 HB9 HZ9
    generalize (((w6.setCell ⟨gp, 0, none⟩ (.int .i64 0)).setCell ⟨gp, 1, none⟩ (.int .i64 2)).setCell ⟨gp, 2, none⟩ (.slice p6 n6 c6)) = WP at *
    refine hK.out _ _ (Qo10.out.cell 10 (by decide)) (fun hS0 => ?_)
    clear hK K
    try simp only [Act.put, List.getElem_toArray, List.getElem_cons_succ, List.getElem_cons_zero, List.setIfInBounds_toArray, List.set_cons_zero, List.set_cons_succ]
    refine rdq 16 (fun K hK => ?_)
    have z0 : WP.cell? ⟨gb, 0, none⟩ = some (.int .i64 0) := Hb10.out.cell 0
    have z1 : WP.cell? ⟨gb, 1, none⟩ = some (.slice pi5 ni5 ci5) := Hb10.out.cell 1
    have z2 : WP.cell? ⟨gb, 2, none⟩ = some (.slice none 0 0) := Hb10.out.cell 2
    have f0 := Hb10.out.free 0
    have f1 := Hb10.out.free 1
    have f2 := Hb10.out.free 2
    go_simp
    clear z0 f0 z1 f1 z2 f2
    have hch := Lib.hid ((((Chg.refl gb WP).set 0 (.int .i64 0)).set 1 (.slice pi6 ni6 ci6)).set 2 (.slice none 0 0))
    have Hb11 : Hid (Blk _ gb #[.int .i64 0, .slice pi6 ni6 ci6, .slice none 0 0] 28) := Lib.hid (((Hb10.out.set 0 (.int .i64 0)).set 1 (.slice pi6 ni6 ci6)).set 2 (.slice none 0 0))
    have HB11 := ksq HB10 hch (by show w.heap.size ≤ gb; have h9 := HGB.out; omega)
    have HZ11 := kzq HZ10 hch.out.size
    have Hp11 := kcq Hp10 hch (by have h9 := HGB.out; omega)
    have Qo11 := Lib.hid (Qo10.out.chg hch.out (notIn_self (by simp)))
    have Qv11 := Lib.hid (Qv10.out.chg hch.out (notIn_self (by simp)))
    have Qs11 := Lib.hid (Qs10.out.chg hch.out (notIn_self (by simp)))
    clear hch hS0 Hb10 Hp10 Qo10 Qv10 Qs10 HB10 HZ10
    generalize (((WP.setCell ⟨gb, 0, none⟩ (.int .i64 0)).setCell ⟨gb, 1, none⟩ (.slice pi6 ni6 ci6)).setCell ⟨gb, 2, none⟩ (.slice none 0 0)) = WQ at *
    refine hK.out _ _ (Qo11.out.cell 10 (by decide)) (fun hS0 => ?_)
    clear hK K
    try simp only [Act.put, List.getElem_toArray, List.getElem_cons_succ, List.getElem_cons_zero, List.setIfInBounds_toArray, List.set_cons_zero, List.set_cons_succ]
    refine tkq 17 ?_
    refine tkq 18 ?_
    refine wpAnyH_done (by kernel_rfl) ?_ _
    clear hS0
    go_wp2_with fail
    go_meet
    case rel => exact ⟨p6, n6, c6, pi6, ni6, ci6, bq, oq, cv6, lq, lk, rfl, rfl, Hp11.out, Hb11.out, Qv11.out, Qs11.out, HB11.out⟩
  ·skip
   go_simp
   refine hK.out _ _ e10n (fun hS => ?_)
   clear hK K
   try simp only [Act.put, List.getElem_toArray, List.getElem_cons_succ, List.getElem_cons_zero, List.setIfInBounds_toArray, List.set_cons_zero, List.set_cons_succ]
   refine tkq 8 ?_
   refine wpAnyH_ready (rs := [0, 1]) (by kernel_rfl) (by simp) ?_
   refine AllReadyH.cons rfl (fun K hK => ?_) (AllReadyH.cons rfl (fun K hK => ?_) AllReadyH.nil)
   ·skip
    go_simp
    refine hK.out _ _ e10n (fun hS => ?_)
    clear hK K
    try simp only [Act.put, List.getElem_toArray, List.getElem_cons_succ, List.getElem_cons_zero, List.setIfInBounds_toArray, List.set_cons_zero, List.set_cons_succ]
    refine rdq 1 (fun K hK => ?_)
    go_simp
    refine hK.out _ _ e10n (fun hS => ?_)
    clear hK K
    try simp only [Act.put, List.getElem_toArray, List.getElem_cons_succ, List.getElem_cons_zero, List.setIfInBounds_toArray, List.set_cons_zero, List.set_cons_succ]
    clear hS
    have hbm := oneB WD (.cells #[.int .i64 70, .int .i64 (-70)] 2)
    have Hb8 := kbq Hb7 hbm
    have Hp8 := kbq Hp7 hbm
    have Qv8 := Lib.hid (Qv7.out.kept hbm)
    have Qo8 := Lib.hid (Qo7.out.kept hbm)
    have HB8 := ktq HB7 hbm
    have HZ8 : Hid (w.heap.size ≤ (WD.alloc (.cells #[.int .i64 70, .int .i64 (-70)] 2)).heap.size) := Lib.hid HB8.out.size
    have HNS : Hid (Row .i64 (WD.alloc (.cells #[.int .i64 70, .int .i64 (-70)] 2)) (.slice (some ⟨WD.heap.size, 0, none⟩) 2 2) [70, -70]) := Lib.hid row_two (Blk.new WD #[.int .i64 70, .int .i64 (-70)] 2)
    have hS0 := e10n
    clear hbm a0 a0n a1 a1n a2 a2n b0 b0n b1 b1n b2 b2n e10n Hb7 Hp7 Qv7 Qo7 HB7 HZ7
    generalize (WD.alloc (.cells #[.int .i64 70, .int .i64 (-70)] 2)) = WN at *
    generalize WD.heap.size = gn at *
    refine rdq 9 (fun K hK => ?_)
    have HG := Lib.hid (vdo_q WN (NotIn [gb, gp]) 0 2 0 p5 n5 c5 pi5 ni5 ci5 none 0 0 _ _ (⟨mPre, lp, lc, some ⟨gn, 0, none⟩, 2⟩ : MsgX) 2 Qv8.out (fun b hb hm => by have h1 := Hp8.out.lt; have h2 := HGB.out; simp only [List.mem_cons, List.not_mem_nil, or_false] at hm; omega) (by decide) (by decide) ⟨Qo8.out.2.1, HNS.out, mPre_fit⟩ (by show 1 ≤ 2000; decide) (by show 2 ≤ 100000; decide))
    unfold Msg.v at HG
    go_simp
    go_at_call 9
    refine HG.out.mono ?_
    rintro y9 w6 ⟨hb, p6, n6, c6, pi6, ni6, ci6, pv6, nv6, cv6, ps6, xs6, out6, e6, rfl, hv, hnv, hsd, hG⟩
    clear HG
    obtain ⟨rfl, rfl, rfl, lq, lk, rfl⟩ := votes2 hG
    clear hG
    have hn9 : nv6 = 1 := hnv
    clear hnv
    subst hn9
    obtain ⟨bq, oq, hpv, hsc⟩ := sd_one hsd
    subst hpv
    clear Qv8 hsd HNS
    have Hb9 := kbq Hb8 hb
    have Hp9 := kbq Hp8 hb
    have Qo9 := Lib.hid (Qo8.out.kept hb)
    have HB9 := ktq HB8 hb
    have HZ9 := kzq HZ8 hb.size
    clear Hb8 Hp8 Qo8 HB8 HZ8
    clear hb hS0
    have Qv9 := Lib.hid hv
    have Qs9 := Lib.hid hsc
    clear hv hsc
    try go_wp2_with fail
    refine hK.out _ _ (Qo9.out.cell 10 (by decide)) (fun hS0 => ?_)
    clear hK K
    try simp only [Act.put, List.getElem_toArray, List.getElem_cons_succ, List.getElem_cons_zero, List.setIfInBounds_toArray, List.set_cons_zero, List.set_cons_succ]
    refine tkq 10 ?_
    refine tkq 11 ?_
    refine tkq 12 ?_
    refine tkq 13 ?_
    refine tkq 14 ?_
    refine rdq 15 (fun K hK => ?_)
    have z0 : w6.cell? ⟨gp, 0, none⟩ = some (.int .i64 0) := Hp9.out.cell 0
    have z1 : w6.cell? ⟨gp, 1, none⟩ = some (.int .i64 2) := Hp9.out.cell 1
    have z2 : w6.cell? ⟨gp, 2, none⟩ = some (.slice p5 n5 c5) := Hp9.out.cell 2
    have f0 := Hp9.out.free 0
    have f1 := Hp9.out.free 1
    have f2 := Hp9.out.free 2
    go_simp
    clear z0 f0 z1 f1 z2 f2
    have hch := Lib.hid ((((Chg.refl gp w6).set 0 (.int .i64 0)).set 1 (.int .i64 2)).set 2 (.slice p6 n6 c6))
    have Hp10 : Hid (Blk _ gp #[.int .i64 0, .int .i64 2, .slice p6 n6 c6] 36) := Lib.hid (((Hp9.out.set 0 (.int .i64 0)).set 1 (.int .i64 2)).set 2 (.slice p6 n6 c6))
    have HB10 := ksq HB9 hch (by show w.heap.size ≤ gp; have h9 := HGB.out; omega)
    have HZ10 := kzq HZ9 hch.out.size
    have Hb10 := kcq Hb9 hch (by have h9 := HGB.out; omega)
    have Qo10 := Lib.hid (Qo9.out.chg hch.out (notIn_self (by simp)))
    have Qv10 := Lib.hid (Qv9.out.chg hch.out (notIn_self (by simp)))
    have Qs10 := Lib.hid (Qs9.out.chg hch.out (notIn_self (by simp)))
    clear hch hS0 Hb9 Hp9 Qo9 Qv9 Qs9 HB9 HZ9
    generalize (((w6.setCell ⟨gp, 0, none⟩ (.int .i64 0)).setCell ⟨gp, 1, none⟩ (.int .i64 2)).setCell ⟨gp, 2, none⟩ (.slice p6 n6 c6)) = WP at *
    refine hK.out _ _ (Qo10.out.cell 10 (by decide)) (fun hS0 => ?_)
    clear hK K
    try simp only [Act.put, List.getElem_toArray, List.getElem_cons_succ, List.getElem_cons_zero, List.setIfInBounds_toArray, List.set_cons_zero, List.set_cons_succ]
    refine rdq 16 (fun K hK => ?_)
    have z0 : WP.cell? ⟨gb, 0, none⟩ = some (.int .i64 0) := Hb10.out.cell 0
    have z1 : WP.cell? ⟨gb, 1, none⟩ = some (.slice pi5 ni5 ci5) := Hb10.out.cell 1
    have z2 : WP.cell? ⟨gb, 2, none⟩ = some (.slice none 0 0) := Hb10.out.cell 2
    have f0 := Hb10.out.free 0
    have f1 := Hb10.out.free 1
    have f2 := Hb10.out.free 2
    go_simp
    clear z0 f0 z1 f1 z2 f2
    have hch := Lib.hid ((((Chg.refl gb WP).set 0 (.int .i64 0)).set 1 (.slice pi6 ni6 ci6)).set 2 (.slice none 0 0))
    have Hb11 : Hid (Blk _ gb #[.int .i64 0, .slice pi6 ni6 ci6, .slice none 0 0] 28) := Lib.hid (((Hb10.out.set 0 (.int .i64 0)).set 1 (.slice pi6 ni6 ci6)).set 2 (.slice none 0 0))
    have HB11 := ksq HB10 hch (by show w.heap.size ≤ gb; have h9 := HGB.out; omega)
    have HZ11 := kzq HZ10 hch.out.size
    have Hp11 := kcq Hp10 hch (by have h9 := HGB.out; omega)
    have Qo11 := Lib.hid (Qo10.out.chg hch.out (notIn_self (by simp)))
    have Qv11 := Lib.hid (Qv10.out.chg hch.out (notIn_self (by simp)))
    have Qs11 := Lib.hid (Qs10.out.chg hch.out (notIn_self (by simp)))
    clear hch hS0 Hb10 Hp10 Qo10 Qv10 Qs10 HB10 HZ10
    generalize (((WP.setCell ⟨gb, 0, none⟩ (.int .i64 0)).setCell ⟨gb, 1, none⟩ (.slice pi6 ni6 ci6)).setCell ⟨gb, 2, none⟩ (.slice none 0 0)) = WQ at *
    refine hK.out _ _ (Qo11.out.cell 10 (by decide)) (fun hS0 => ?_)
    clear hK K
    try simp only [Act.put, List.getElem_toArray, List.getElem_cons_succ, List.getElem_cons_zero, List.setIfInBounds_toArray, List.set_cons_zero, List.set_cons_succ]
    refine tkq 17 ?_
    refine tkq 18 ?_
    refine wpAnyH_done (by kernel_rfl) ?_ _
    clear hS0
    go_wp2_with fail
    go_meet
    case rel => exact ⟨p6, n6, c6, pi6, ni6, ci6, bq, oq, cv6, lq, lk, rfl, rfl, Hp11.out, Hb11.out, Qv11.out, Qs11.out, HB11.out⟩
   ·skip
    go_simp
    refine hK.out _ _ e10n (fun hS => ?_)
    clear hK K
    try simp only [Act.put, List.getElem_toArray, List.getElem_cons_succ, List.getElem_cons_zero, List.setIfInBounds_toArray, List.set_cons_zero, List.set_cons_succ]
    refine rdq 0 (fun K hK => ?_)
    go_simp
    refine hK.out _ _ e10n (fun hS => ?_)
    clear hK K
    try simp only [Act.put, List.getElem_toArray, List.getElem_cons_succ, List.getElem_cons_zero, List.setIfInBounds_toArray, List.set_cons_zero, List.set_cons_succ]
    clear hS
    have hbm := oneB WD (.cells #[.int .i64 70, .int .i64 (-70)] 2)
    have Hb8 := kbq Hb7 hbm
    have Hp8 := kbq Hp7 hbm
    have Qv8 := Lib.hid (Qv7.out.kept hbm)
    have Qo8 := Lib.hid (Qo7.out.kept hbm)
    have HB8 := ktq HB7 hbm
    have HZ8 : Hid (w.heap.size ≤ (WD.alloc (.cells #[.int .i64 70, .int .i64 (-70)] 2)).heap.size) := Lib.hid HB8.out.size
    have HNS : Hid (Row .i64 (WD.alloc (.cells #[.int .i64 70, .int .i64 (-70)] 2)) (.slice (some ⟨WD.heap.size, 0, none⟩) 2 2) [70, -70]) := Lib.hid row_two (Blk.new WD #[.int .i64 70, .int .i64 (-70)] 2)
    have hS0 := e10n
    clear hbm a0 a0n a1 a1n a2 a2n b0 b0n b1 b1n b2 b2n e10n Hb7 Hp7 Qv7 Qo7 HB7 HZ7
    generalize (WD.alloc (.cells #[.int .i64 70, .int .i64 (-70)] 2)) = WN at *
    generalize WD.heap.size = gn at *
    refine rdq 9 (fun K hK => ?_)
    have HG := Lib.hid (vdo_q WN (NotIn [gb, gp]) 0 2 0 p5 n5 c5 pi5 ni5 ci5 none 0 0 _ _ (⟨mPre, lp, lc, some ⟨gn, 0, none⟩, 2⟩ : MsgX) 2 Qv8.out (fun b hb hm => by have h1 := Hp8.out.lt; have h2 := HGB.out; simp only [List.mem_cons, List.not_mem_nil, or_false] at hm; omega) (by decide) (by decide) ⟨Qo8.out.2.1, HNS.out, mPre_fit⟩ (by show 1 ≤ 2000; decide) (by show 2 ≤ 100000; decide))
    unfold Msg.v at HG
    go_simp
    go_at_call 9
    refine HG.out.mono ?_
    rintro y9 w6 ⟨hb, p6, n6, c6, pi6, ni6, ci6, pv6, nv6, cv6, ps6, xs6, out6, e6, rfl, hv, hnv, hsd, hG⟩
    clear HG
    obtain ⟨rfl, rfl, rfl, lq, lk, rfl⟩ := votes2 hG
    clear hG
    have hn9 : nv6 = 1 := hnv
    clear hnv
    subst hn9
    obtain ⟨bq, oq, hpv, hsc⟩ := sd_one hsd
    subst hpv
    clear Qv8 hsd HNS
    have Hb9 := kbq Hb8 hb
    have Hp9 := kbq Hp8 hb
    have Qo9 := Lib.hid (Qo8.out.kept hb)
    have HB9 := ktq HB8 hb
    have HZ9 := kzq HZ8 hb.size
    clear Hb8 Hp8 Qo8 HB8 HZ8
    clear hb hS0
    have Qv9 := Lib.hid hv
    have Qs9 := Lib.hid hsc
    clear hv hsc
    try go_wp2_with fail
    refine hK.out _ _ (Qo9.out.cell 10 (by decide)) (fun hS0 => ?_)
    clear hK K
    try simp only [Act.put, List.getElem_toArray, List.getElem_cons_succ, List.getElem_cons_zero, List.setIfInBounds_toArray, List.set_cons_zero, List.set_cons_succ]
    refine tkq 10 ?_
    refine tkq 11 ?_
    refine tkq 12 ?_
    refine tkq 13 ?_
    refine tkq 14 ?_
    refine rdq 15 (fun K hK => ?_)
    have z0 : w6.cell? ⟨gp, 0, none⟩ = some (.int .i64 0) := Hp9.out.cell 0
    have z1 : w6.cell? ⟨gp, 1, none⟩ = some (.int .i64 2) := Hp9.out.cell 1
    have z2 : w6.cell? ⟨gp, 2, none⟩ = some (.slice p5 n5 c5) := Hp9.out.cell 2
    have f0 := Hp9.out.free 0
    have f1 := Hp9.out.free 1
    have f2 := Hp9.out.free 2
    go_simp
    clear z0 f0 z1 f1 z2 f2
    have hch := Lib.hid ((((Chg.refl gp w6).set 0 (.int .i64 0)).set 1 (.int .i64 2)).set 2 (.slice p6 n6 c6))
    have Hp10 : Hid (Blk _ gp #[.int .i64 0, .int .i64 2, .slice p6 n6 c6] 36) := Lib.hid (((Hp9.out.set 0 (.int .i64 0)).set 1 (.int .i64 2)).set 2 (.slice p6 n6 c6))
    have HB10 := ksq HB9 hch (by show w.heap.size ≤ gp; have h9 := HGB.out; omega)
    have HZ10 := kzq HZ9 hch.out.size
    have Hb10 := kcq Hb9 hch (by have h9 := HGB.out; omega)
    have Qo10 := Lib.hid (Qo9.out.chg hch.out (notIn_self (by simp)))
    have Qv10 := Lib.hid (Qv9.out.chg hch.out (notIn_self (by simp)))
    have Qs10 := Lib.hid (Qs9.out.chg hch.out (notIn_self (by simp)))
    clear hch hS0 Hb9 Hp9 Qo9 Qv9 Qs9 HB9 HZ9
    generalize (((w6.setCell ⟨gp, 0, none⟩ (.int .i64 0)).setCell ⟨gp, 1, none⟩ (.int .i64 2)).setCell ⟨gp, 2, none⟩ (.slice p6 n6 c6)) = WP at *
    refine hK.out _ _ (Qo10.out.cell 10 (by decide)) (fun hS0 => ?_)
    clear hK K
    try simp only [Act.put, List.getElem_toArray, List.getElem_cons_succ, List.getElem_cons_zero, List.setIfInBounds_toArray, List.set_cons_zero, List.set_cons_succ]
    refine rdq 16 (fun K hK => ?_)
    have z0 : WP.cell? ⟨gb, 0, none⟩ = some (.int .i64 0) := Hb10.out.cell 0
    have z1 : WP.cell? ⟨gb, 1, none⟩ = some (.slice pi5 ni5 ci5) := Hb10.out.cell 1
    have z2 : WP.cell? ⟨gb, 2, none⟩ = some (.slice none 0 0) := Hb10.out.cell 2
    have f0 := Hb10.out.free 0
    have f1 := Hb10.out.free 1
    have f2 := Hb10.out.free 2
    go_simp
    clear z0 f0 z1 f1 z2 f2
    have hch := Lib.hid ((((Chg.refl gb WP).set 0 (.int .i64 0)).set 1 (.slice pi6 ni6 ci6)).set 2 (.slice none 0 0))
    have Hb11 : Hid (Blk _ gb #[.int .i64 0, .slice pi6 ni6 ci6, .slice none 0 0] 28) := Lib.hid (((Hb10.out.set 0 (.int .i64 0)).set 1 (.slice pi6 ni6 ci6)).set 2 (.slice none 0 0))
    have HB11 := ksq HB10 hch (by show w.heap.size ≤ gb; have h9 := HGB.out; omega)
    have HZ11 := kzq HZ10 hch.out.size
    have Hp11 := kcq Hp10 hch (by have h9 := HGB.out; omega)
    have Qo11 := Lib.hid (Qo10.out.chg hch.out (notIn_self (by simp)))
    have Qv11 := Lib.hid (Qv10.out.chg hch.out (notIn_self (by simp)))
    have Qs11 := Lib.hid (Qs10.out.chg hch.out (notIn_self (by simp)))
    clear hch hS0 Hb10 Hp10 Qo10 Qv10 Qs10 HB10 HZ10
    generalize (((WP.setCell ⟨gb, 0, none⟩ (.int .i64 0)).setCell ⟨gb, 1, none⟩ (.slice pi6 ni6 ci6)).setCell ⟨gb, 2, none⟩ (.slice none 0 0)) = WQ at *
    refine hK.out _ _ (Qo11.out.cell 10 (by decide)) (fun hS0 => ?_)
    clear hK K
    try simp only [Act.put, List.getElem_toArray, List.getElem_cons_succ, List.getElem_cons_zero, List.setIfInBounds_toArray, List.set_cons_zero, List.set_cons_succ]
    refine tkq 17 ?_
    refine tkq 18 ?_
    refine wpAnyH_done (by kernel_rfl) ?_ _
    clear hS0
    go_wp2_with fail
    go_meet
    case rel => exact ⟨p6, n6, c6, pi6, ni6, ci6, bq, oq, cv6, lq, lk, rfl, rfl, Hp11.out, Hb11.out, Qv11.out, Qs11.out, HB11.out⟩
 case rest =>
  obtain ⟨p6, n6, c6, pi6, ni6, ci6, bq, oq, cv6, lq, lk, rfl, rfl, hp, hbb, hv, hsc, hbl⟩ := hcut
  have Hp7 := Lib.hid hp
  have Hb7 := Lib.hid hbb
  have Qv7 := Lib.hid hv
  have Qo7 := Lib.hid hsc
  have HB7 := Lib.hid hbl
  have HZ7 : Hid (w.heap.size ≤ wc.heap.size) := Lib.hid hbl.size
  clear hp hbb hv hsc hbl Hb6 Hp6 Qv6 Qo6 HB6 HZ6
  have HG := Lib.hid (vwaits_any wc 0 2 p6 n6 c6 _ Qv7.out.pts.row Qv7.out.np (by have h := Qv7.out.np; rw [h]; first | decide | simp))
  have e9 : wc.cell? ⟨bq, oq + 9, none⟩ = some (.bool true) := Qo7.out.cell 9 (by decide)
  have a0 : wc.cell? ⟨gp, 0, none⟩ = some (.int .i64 0) := Hp7.out.cell 0
  have a1 : wc.cell? ⟨gp, 1, none⟩ = some (.int .i64 2) := Hp7.out.cell 1
  have a2 : wc.cell? ⟨gp, 2, none⟩ = some (.slice p6 n6 c6) := Hp7.out.cell 2
  go_wp2_with fail
  clear a0 a1 a2 e9
  refine HG.out.mono ?_
  rintro y9 w7 ⟨pq7, nq7, cq7, rfl, hn7, hb⟩
  clear HG
  have hn8 : nq7 = 1 := hn7
  clear hn7
  subst hn8
  have Hp8 := kbq Hp7 hb
  have Hb8 := kbq Hb7 hb
  have Qv8 := Lib.hid (Qv7.out.kept hb)
  have Qo8 := Lib.hid (Qo7.out.kept hb)
  have HB8 := ktq HB7 hb
  have HZ8 := kzq HZ7 hb.size
  clear Hp7 Hb7 Qv7 Qo7 HB7 HZ7
  clear hb
  go_upto_region 9 with fail
  clear Qo8
  have HG := Lib.hid (vdo_q w7 (NotIn [gb, gp]) 0 2 0 p6 n6 c6 pi6 ni6 ci6 none 0 0 [⟨1, 0, 2, lq, lk, [vl]⟩] v2 (sayX 14 1 true) (2) Qv8.out (fun b hb hm => by have h1 := Hp8.out.lt; have h2 := HGB.out; simp only [List.mem_cons, List.not_mem_nil, or_false] at hm; omega) (by simp) (by decide) (sayX_in _ _ _ _ (by decide) (by decide)) (by decide) (by decide))
  unfold sayX Msg.v at HG
  have a0 : w7.cell? ⟨gp, 0, none⟩ = some (.int .i64 0) := Hp8.out.cell 0
  have a1 : w7.cell? ⟨gp, 1, none⟩ = some (.int .i64 2) := Hp8.out.cell 1
  have a2 : w7.cell? ⟨gp, 2, none⟩ = some (.slice p6 n6 c6) := Hp8.out.cell 2
  have b0 : w7.cell? ⟨gb, 0, none⟩ = some (.int .i64 0) := Hb8.out.cell 0
  have b1 : w7.cell? ⟨gb, 1, none⟩ = some (.slice pi6 ni6 ci6) := Hb8.out.cell 1
  have b2 : w7.cell? ⟨gb, 2, none⟩ = some (.slice none 0 0) := Hb8.out.cell 2
  go_wp2_with fail
  clear a0 a1 a2 b0 b1 b2 
  refine HG.out.mono ?_
  rintro y9 w8 ⟨hb, p8, n8, c8, pi8, ni8, ci8, pv8, nv8, cv8, ps8, xs8, out8, e8, rfl, hv, hnv, hsd, hG⟩
  clear HG Qv8
  obtain ⟨rfl, rfl, rfl⟩ := votes3 hG
  clear hG hnv
  have Hp9 := kbq Hp8 hb
  have Hb9 := kbq Hb8 hb
  have HB9 := ktq HB8 hb
  have HZ9 := kzq HZ8 hb.size
  clear Hp8 Hb8 HB8 HZ8
  clear hb
  have Qv9 := Lib.hid hv
  have Qs9 := Lib.hid hsd
  clear hv hsd
  go_wp2_with (with_reducible refine stop_storeT 36 (.tmp 4) (.tmp 97) rfl ?_)
  have HTH : Hid (w8.there gp 0 3) := Hp9.out.thereAt
  have hch : Hid (Chg gp w8 (w8.setCells gp 0 (#[.int .i64 0, .int .i64 2, .slice p8 n8 c8] : Array Value).toList)) := Lib.hid (chg_putL _ _ _ _ _ (Chg.refl _ w8))
  have Hp10 : Hid (Blk (w8.setCells gp 0 (#[.int .i64 0, .int .i64 2, .slice p8 n8 c8] : Array Value).toList) gp #[.int .i64 0, .int .i64 2, .slice p8 n8 c8] 36) := Lib.hid (blk_put_all Hp9.out _ rfl)
  have HB10 : Hid (Below w.heap.size w (w8.setCells gp 0 (#[.int .i64 0, .int .i64 2, .slice p8 n8 c8] : Array Value).toList)) := Lib.hid (below_put (by have h9 := HGB.out; omega) _ _ _ _ HB9.out)
  have HZ10 := kzq HZ9 hch.out.size
  have Hb10 := kcq Hb9 hch (by have h9 := HGB.out; omega)
  have Qv10 := Lib.hid (Qv9.out.chg hch.out (notIn_self (by simp)))
  have Qs10 := Lib.hid (Qs9.out.chg hch.out (notIn_self (by simp)))
  clear hch Hp9 Hb9 Qv9 Qs9 HB9 HZ9
  refine wpList_store_mid rfl 36 (.tmp 4) (.tmp 97) rfl gp 0 #[.int .i64 0, .int .i64 2, .slice p8 n8 c8] rfl rfl HTH.out (infoP3 rfl) (all_oneCell_toArray (by intro u hu; simp at hu; rcases hu with rfl | rfl | rfl <;> rfl)) ?_
  generalize (w8.setCells gp 0 (#[.int .i64 0, .int .i64 2, .slice p8 n8 c8] : Array Value).toList) = W10 at *
  clear HTH
  go_wp2_with (with_reducible refine stop_storeT 28 (.tmp 1) (.tmp 98) rfl ?_)
  have HTH : Hid (W10.there gb 0 3) := Hb10.out.thereAt
  have hch : Hid (Chg gb W10 (W10.setCells gb 0 (#[.int .i64 0, .slice pi8 ni8 ci8, .slice none 0 0] : Array Value).toList)) := Lib.hid (chg_putL _ _ _ _ _ (Chg.refl _ W10))
  have Hb11 : Hid (Blk (W10.setCells gb 0 (#[.int .i64 0, .slice pi8 ni8 ci8, .slice none 0 0] : Array Value).toList) gb #[.int .i64 0, .slice pi8 ni8 ci8, .slice none 0 0] 28) := Lib.hid (blk_put_all Hb10.out _ rfl)
  have HB11 : Hid (Below w.heap.size w (W10.setCells gb 0 (#[.int .i64 0, .slice pi8 ni8 ci8, .slice none 0 0] : Array Value).toList)) := Lib.hid (below_put (by have h9 := HGB.out; omega) _ _ _ _ HB10.out)
  have HZ11 := kzq HZ10 hch.out.size
  have Hp11 := kcq Hp10 hch (by have h9 := HGB.out; omega)
  have Qv11 := Lib.hid (Qv10.out.chg hch.out (notIn_self (by simp)))
  have Qs11 := Lib.hid (Qs10.out.chg hch.out (notIn_self (by simp)))
  clear hch Hp10 Hb10 Qv10 Qs10 HB10 HZ10
  refine wpList_store_mid rfl 28 (.tmp 1) (.tmp 98) rfl gb 0 #[.int .i64 0, .slice pi8 ni8 ci8, .slice none 0 0] rfl rfl HTH.out (infoB3 rfl) (all_oneCell_toArray (by intro u hu; simp at hu; rcases hu with rfl | rfl | rfl <;> rfl)) ?_
  generalize (W10.setCells gb 0 (#[.int .i64 0, .slice pi8 ni8 ci8, .slice none 0 0] : Array Value).toList) = W11 at *
  clear HTH
  clear Qs11
  have HG := Lib.hid (dget_any W11 0 pi8 none ni8 ci8 0 0 0 1 v3 Qv11.out.its.1 Qv11.out.nx.symm Qv11.out.good.1 (by have h := Qv11.out.nx; rw [h]; first | decide | simp))
  rw [show findX v3 0 1 = some ⟨0, 1, 1, 0, 70, 0, 5, 1⟩ from rfl] at HG
  simp only [Option.getD_some, Option.isSome_some] at HG
  unfold bookV idV Itm.v at HG
  have a0 : W11.cell? ⟨gb, 0, none⟩ = some (.int .i64 0) := Hb11.out.cell 0
  have a1 : W11.cell? ⟨gb, 1, none⟩ = some (.slice pi8 ni8 ci8) := Hb11.out.cell 1
  have a2 : W11.cell? ⟨gb, 2, none⟩ = some (.slice none 0 0) := Hb11.out.cell 2
  go_wp2_with fail
  clear a0 a1 a2
  refine HG.out.mono ?_
  rintro y9 w12 ⟨rfl, hb⟩
  clear HG
  have Hp12 := kbq Hp11 hb
  have Hb12 := kbq Hb11 hb
  have Qv12 := Lib.hid (Qv11.out.kept hb)
  have HB12 := ktq HB11 hb
  have HZ12 := kzq HZ11 hb.size
  clear Hp11 Hb11 Qv11 HB11 HZ11
  clear hb
  have hba := oneB w12 (.cells #[.int .i64 0, .int .i64 1, .int .i64 1, .int .i64 0, .int .i64 70, .int .i64 0, .int .i64 5, .int .i64 1] 54)
  have Hp13 := kbq Hp12 hba
  have Hb13 := kbq Hb12 hba
  have Qv13 := Lib.hid (Qv12.out.kept hba)
  have Hx13 := Lib.hid (Blk.new w12 #[.int .i64 0, .int .i64 1, .int .i64 1, .int .i64 0, .int .i64 70, .int .i64 0, .int .i64 5, .int .i64 1] 54)
  have HB13 := Lib.hid (HB12.out.alloc HB12.out.size (.cells #[.int .i64 0, .int .i64 1, .int .i64 1, .int .i64 0, .int .i64 70, .int .i64 0, .int .i64 5, .int .i64 1] 54))
  have HZ13 := kzq HZ12 hba.size
  have HGgx : Hid (w.heap.size ≤ w12.heap.size) := Lib.hid HB12.out.size
  clear hba Hp12 Hb12 Qv12 HB12 HZ12
  go_upto_region 11 with fail
  generalize (w12.alloc (.cells #[.int .i64 0, .int .i64 1, .int .i64 1, .int .i64 0, .int .i64 70, .int .i64 0, .int .i64 5, .int .i64 1] 54)) = W13 at *
  generalize hggx : w12.heap.size = gx at *
  clear hggx
  clear HGgx
  have HG := Lib.hid (vget_any W13 0 2 p8 n8 c8 [⟨1, 0, 4, lq, lk, [vl]⟩] 1 _ Qv13.out.pts Qv13.out.np (by simp) Qv13.out.ql)
  rw [show findC [⟨1, 0, 4, lq, lk, [vl]⟩] 1 = some ⟨1, 0, 4, lq, lk, [vl]⟩ from rfl] at HG
  dsimp only at HG
  have a0 : W13.cell? ⟨gp, 0, none⟩ = some (.int .i64 0) := Hp13.out.cell 0
  have a1 : W13.cell? ⟨gp, 1, none⟩ = some (.int .i64 2) := Hp13.out.cell 1
  have a2 : W13.cell? ⟨gp, 2, none⟩ = some (.slice p8 n8 c8) := Hp13.out.cell 2
  go_wp2_with fail
  clear a0 a1 a2
  refine HG.out.mono ?_
  rintro y9 w14 ⟨⟨pg, cg, rfl⟩, hb⟩
  clear HG
  have Hp14 := kbq Hp13 hb
  have Hb14 := kbq Hb13 hb
  have Hx14 := kbq Hx13 hb
  have Qv14 := Lib.hid (Qv13.out.kept hb)
  have HB14 := ktq HB13 hb
  have HZ14 := kzq HZ13 hb.size
  clear Hp13 Hb13 Hx13 Qv13 HB13 HZ13
  clear hb
  have hba := oneB w14 (.cells #[.int .i64 1, .int .i64 0, .int .i64 4, .slice pg [vl].length cg] 58)
  have Hp15 := kbq Hp14 hba
  have Hb15 := kbq Hb14 hba
  have Hx15 := kbq Hx14 hba
  have Qv15 := Lib.hid (Qv14.out.kept hba)
  have Hy15 := Lib.hid (Blk.new w14 #[.int .i64 1, .int .i64 0, .int .i64 4, .slice pg [vl].length cg] 58)
  have HB15 := Lib.hid (HB14.out.alloc HB14.out.size (.cells #[.int .i64 1, .int .i64 0, .int .i64 4, .slice pg [vl].length cg] 58))
  have HZ15 := kzq HZ14 hba.size
  have HGgy : Hid (w.heap.size ≤ w14.heap.size) := Lib.hid HB14.out.size
  clear hba Hp14 Hb14 Hx14 Qv14 HB14 HZ14
  go_upto_region 12 with fail
  generalize (w14.alloc (.cells #[.int .i64 1, .int .i64 0, .int .i64 4, .slice pg [vl].length cg] 58)) = W15 at *
  generalize hggy : w14.heap.size = gy at *
  clear hggy
  clear HGgy
  have HG := Lib.hid (vwaits_any W15 0 2 p8 n8 c8 _ Qv15.out.pts.row Qv15.out.np (by have h := Qv15.out.np; rw [h]; first | decide | simp))
  have e6 : W15.cell? ⟨gx, 6, none⟩ = some (.int .i64 5) := Hx15.out.cell 6
  have f2 : W15.cell? ⟨gy, 2, none⟩ = some (.int .i64 4) := Hy15.out.cell 2
  have a0 : W15.cell? ⟨gp, 0, none⟩ = some (.int .i64 0) := Hp15.out.cell 0
  have a1 : W15.cell? ⟨gp, 1, none⟩ = some (.int .i64 2) := Hp15.out.cell 1
  have a2 : W15.cell? ⟨gp, 2, none⟩ = some (.slice p8 n8 c8) := Hp15.out.cell 2
  go_wp2_with fail
  clear e6 f2 a0 a1 a2
  refine HG.out.mono ?_
  rintro y9 w16 ⟨pq9, nq9, cq9, rfl, hn9, hb⟩
  clear HG
  have hn7 : nq9 = 0 := hn9
  clear hn9
  subst hn7
  have Hp16 := kbq Hp15 hb
  have Hb16 := kbq Hb15 hb
  have Hx16 := kbq Hx15 hb
  have Hy16 := kbq Hy15 hb
  have Qv16 := Lib.hid (Qv15.out.kept hb)
  have HB16 := ktq HB15 hb
  have HZ16 := kzq HZ15 hb.size
  clear Hp15 Hb15 Hx15 Hy15 Qv15 HB15 HZ15
  clear hb
  go_wp2_with fail
  go_ret
  exact ⟨rfl, HB16.out⟩
end Go.Proofs.Ytmhocihajobkkaa
namespace Go.Proofs.Ytmhocihajobkkaa
open Go.RowKit
theorem find_insC (X : List PtX) (x : PtX) (c : Int) : findC (insC X x) c = if x.cy = c then some x else findC X c := by
 have hp : ∀ (p q : PtX → Bool) (X : List PtX), (∀ z ∈ X, q z = true → p z = true) → (X.filter p).find? q = X.find? q := fun p q X h => by
  induction X with
  | nil => rfl
  | cons y X ih =>
   have ih := ih (fun z hz => h z (List.mem_cons_of_mem _ hz))
   by_cases h1 : p y = true
   ·rw [List.filter_cons_of_pos h1, List.find?_cons, List.find?_cons, ih]
   ·rw [List.filter_cons_of_neg h1, List.find?_cons]
    have hq : q y = false := by
     cases hq : q y
     ·rfl
     ·exact absurd (h y (List.mem_cons_self ..) hq) h1
    rw [hq, ih]
 have hno : ∀ (p q : PtX → Bool) (X : List PtX), (∀ z ∈ X, p z = true → q z = false) → (X.filter p).find? q = none := fun p q X h => by
  rw [List.find?_eq_none]
  intro z hz h1
  rw [h z (List.mem_filter.1 hz).1 (List.mem_filter.1 hz).2] at h1
  cases h1
 unfold findC insC
 rw [List.append_assoc, List.find?_append, List.find?_append]
 by_cases hx : x.cy = c
 ·rw [if_pos hx, hno _ _ _ (fun z _ hz => decide_eq_false (by have := of_decide_eq_true hz; omega))]
  simp [hx]
 ·rw [if_neg hx]
  have h3 : [x].find? (fun z => decide (z.cy = c ∧ (0 : Int) = 0)) = none := by
   rw [List.find?_eq_none]
   intro z hz
   rw [List.mem_singleton.1 hz]
   simpa using hx
  rw [h3, Option.none_or]
  by_cases hlt : c < x.cy
  ·rw [hp _ _ _ (fun z _ hz => decide_eq_true (by have := of_decide_eq_true hz; omega))]
   cases hf : X.find? (fun z => decide (z.cy = c ∧ (0 : Int) = 0)) with
   | some q => rfl
   | none =>
    rw [Option.none_or, List.find?_eq_none]
    rw [List.find?_eq_none] at hf
    exact fun z hz => hf z (List.mem_filter.1 hz).1
  ·rw [hno _ _ _ (fun z _ hz => decide_eq_false (by have := of_decide_eq_true hz; omega)), Option.none_or]
   exact hp _ _ _ (fun z _ hz => decide_eq_true (by have := of_decide_eq_true hz; omega))
theorem findC_cy {X : List PtX} {c : Int} {q : PtX} (h : findC X c = some q) : q.cy = c := by
 unfold findC at h
 have h2 := List.find?_some h
 exact (of_decide_eq_true h2).1
theorem open_find {ps : List PtX} {cy : Int} (h : (openP ps cy).2 = 0) : findC ps cy = some (openP ps cy).1 ∧ (openP ps cy).1.cy = cy := by
 unfold openP at h ⊢
 cases hf : findC ps cy with
 | none => rw [hf] at h; cases h
 | some q =>
  rw [hf] at h
  by_cases hd : decB q = true
  ·dsimp only at h
   rw [if_pos hd] at h
   cases h
  ·dsimp only
   rw [if_neg hd]
   exact ⟨rfl, findC_cy hf⟩
theorem find_open {ps : List PtX} {cy : Int} {q : PtX} (h : findC ps cy = some q) (hd : decB q = false) : openP ps cy = (q, 0) := by
 unfold openP
 rw [h]
 dsimp only
 rw [hd]
 rfl
/-- A cycle to which was said yes stays as it is, whatever is said but its decision. -/
theorem act_keepC {me N e c : Int} {ps ps2 : List PtX} {xs xs2 : List Itm} {m : Msg} {out : List SdX} {q : PtX} (hq : findC ps c = some q) (h2 : q.st = 2) (hm : ¬ (m.k = 14 ∧ m.y = c)) (h : actG me N ps xs m ps2 xs2 out e) : findC ps2 c = some q := by
 unfold actG at h
 split at h
 ·obtain ⟨h1, h3, h4⟩ := h
  by_cases hb : askBad m
  ·rw [(h1 hb).1]; exact hq
  ·by_cases hf : findC ps m.y = none
   ·rw [(h4 hb hf).2.1, find_insC, if_neg]
    ·exact hq
    ·intro hc
     have hc : m.y = c := hc
     rw [hc, hq] at hf
     cases hf
   ·rw [(h3 hb hf).1]; exact hq
 ·split at h
  ·obtain ⟨_, h1, h3, h4⟩ := h
   by_cases h0 : (openP ps m.y).2 = 0
   ·obtain ⟨hf, hcy⟩ := open_find h0
    by_cases hs : (openP ps m.y).1.st = 1
    ·have hne : (openP ps m.y).1.cy ≠ c := by
      intro hc
      rw [hcy] at hc
      rw [hc, hq] at hf
      rw [hc, ← Option.some.inj hf] at hs
      omega
     obtain ⟨_, _, h5, h6⟩ := h4 h0 hs
     cases hb : prepB me N xs m
     ·rw [h5 hb, find_insC, if_neg hne]; exact hq
     ·obtain ⟨lp, lc, h7⟩ := h6 hb
      rw [h7, find_insC, if_neg hne]; exact hq
    ·rw [(h3 h0 hs).1]; exact hq
   ·rw [(h1 h0).1]; exact hq
  ·split at h
   ·rename_i h14
    obtain ⟨_, h1, h3, h4⟩ := h
    by_cases h0 : (openP ps m.y).2 = 0
    ·obtain ⟨hf, hcy⟩ := open_find h0
     by_cases hy : m.t = true → (openP ps m.y).1.st = 2
     ·rw [(h4 h0 hy).2.1, find_insC, if_neg]
      ·exact hq
      ·intro hc
       have hc : (openP ps m.y).1.cy = c := hc
       rw [hcy] at hc
       exact hm ⟨h14, hc⟩
     ·have hy2 : m.t = true ∧ (openP ps m.y).1.st ≠ 2 := by
       by_cases ht : m.t = true
       ·exact ⟨ht, fun h => hy (fun _ => h)⟩
       ·exact absurd (fun h => absurd h ht) hy
      rw [(h3 h0 hy2.1 hy2.2).1]; exact hq
    ·rw [(h1 h0).1]; exact hq
   ·rw [h.1]; exact hq
theorem vote_keepC {me N fro e c : Int} {ps ps2 : List PtX} {xs xs2 : List Itm} {m : Msg} {out : List SdX} {q : PtX} (hq : findC ps c = some q) (h2 : q.st = 2) (hm : ¬ (m.k = 14 ∧ m.y = c)) (h : VoteG me N ps xs m fro ps2 xs2 out e) : findC ps2 c = some q := by
 obtain ⟨h1, h3, h4⟩ := h
 by_cases hb : kindBad m fro
 ·rw [(h1 hb).1]; exact hq
 ·by_cases hf : fro = -1 ∨ fro = N
  ·obtain ⟨ps3, xs3, out3, e3, h5, h6, h7⟩ := h4 hb hf
   by_cases h0 : e3 = 0
   ·rw [(h7 h0).1]; exact act_keepC hq h2 hm h5
   ·rw [(h6 h0).1]; exact hq
  ·rw [(h3 hb (fun h => hf (.inl h)) (fun h => hf (.inr h))).1]; exact hq
/-- The items that were offered are locked, else unchanged. -/
def KeptI (L xs : List Itm) : Prop := ∀ x ∈ L, x.t = 3 ∧ findX xs x.s x.n = some { x with y := 77 }
/-- The cycle is voted for, with these lines. -/
def KeptP (ls : List Lin) (ps : List PtX) : Prop := ∃ cu lp lc, findC ps 77 = some ⟨77, cu, 2, lp, lc, ls⟩
theorem kept_word {me N mb fro e : Int} {ps ps2 : List PtX} {xs xs2 L : List Itm} {ls : List Lin} {m : Msg} {out : List SdX} (hg : GoodB mb xs) (hi : KeptI L xs) (hp : KeptP ls ps) (hm : ¬ (m.k = 14 ∧ m.y = 77)) (h : VoteG me N ps xs m fro ps2 xs2 out e) : KeptI L xs2 ∧ KeptP ls ps2 := by
 constructor
 ·intro x hx
  obtain ⟨h3, hf⟩ := hi x hx
  refine ⟨h3, ?_⟩
  obtain ⟨h1, hs, hn⟩ := findX_inj hf
  obtain ⟨_, _, h2⟩ := vote_items hg h
  obtain ⟨y, hy, ha⟩ := h2 _ h1
  rw [hs, hn] at hy
  rw [hy]
  rcases ha with rfl | ⟨_, _, h0, _⟩ | ⟨hk, _, h0, _⟩
  ·rfl
  ·exact absurd (show (77 : Int) = 0 from h0) (by decide)
  ·exact absurd ⟨hk, (show (77 : Int) = m.y from h0).symm⟩ hm
 ·obtain ⟨cu, lp, lc, hq⟩ := hp
  exact ⟨cu, lp, lc, vote_keepC hq rfl hm h⟩
def mKA : Msg := ⟨10, 0, 0, 0, 0, 0, 77, 0, false, [], []⟩
def mKP (ls : List Lin) (ns : List Int) : Msg := ⟨12, 0, 0, 0, 0, 0, 77, 0, false, ls, ns⟩
def mKD (t : Bool) : Msg := ⟨14, 0, 0, 0, 0, 0, 77, 0, t, [], []⟩
theorem keeps1 {X : List Itm} (hg : GoodB 0 X) {ps2 : List PtX} {xs2 : List Itm} {out : List SdX} {e : Int} (h : VoteG 0 3 [] X mKA 3 ps2 xs2 out e) : e = 0 ∧ ps2 = [⟨77, 0, 1, none, 0, []⟩] ∧ KeptI (offerL X mKA) xs2 ∧ ∃ lp lc, out = [⟨3, ⟨⟨11, 0, 0, 0, 0, 0, 77, 0, false, (offerL X mKA).map lineOf, []⟩, lp, lc, none, 0⟩⟩] := by
 obtain ⟨_, _, h3⟩ := h
 have hk : ¬ kindBad mKA 3 := by unfold kindBad mKA; simp
 obtain ⟨ps3, xs3, out3, e3, hgg, h4, h5⟩ := h3 hk (.inr rfl)
 unfold actG at hgg
 rw [if_pos (show mKA.k = 10 from rfl)] at hgg
 obtain ⟨_, _, h6⟩ := hgg
 obtain ⟨h7, h8, h9, lp, lc, h10⟩ := h6 (by unfold askBad mKA; decide) rfl
 obtain ⟨rfl, rfl, rfl, rfl⟩ := h5 h7
 refine ⟨rfl, h8.trans rfl, ?_, lp, lc, h10⟩
 rw [h9]
 intro x hx
 have hkp := keepF_ok (offer_keep hx)
 refine ⟨hkp.1, ?_⟩
 rcases each_item (f := fun x => lockI x mKA.y) hg.1 (offer_sub X mKA) (fun y hy => by
  have h1 := keepF_ok (offer_keep hy)
  rw [lock_is h1.1 h1.2.2 (by decide)]
  exact ⟨rfl, rfl⟩) ((offer_sub X mKA).subset hx) with ⟨_, h2⟩ | ⟨h1, _⟩
 ·rw [h2, lock_is hkp.1 hkp.2.2 (by decide)]
  rfl
 ·exact absurd hx h1
theorem keep_within {X : List Itm} (hg : GoodB 0 X) {x : Itm} (hx : x ∈ X) (h : x.s ≤ 2 ∧ x.b ≤ 2) : withinB 3 (lineOf x) = true := by
 obtain ⟨h1, h2, _⟩ := chk_ok (hg.2 x hx).1
 unfold partsOk at h1
 unfold numsOk at h2
 unfold withinB lineOf
 apply decide_eq_true
 dsimp only
 omega
theorem keep_fit {X : List Itm} (hg : GoodB 0 X) {L : List Itm} (hL : L.Sublist X) (h : ∀ x ∈ L, x.s ≤ 2 ∧ x.b ≤ 2) : fitE 3 (L.map lineOf) = 0 := by
 refine fitE_of (fun l hl => ?_) (fun j hj => ?_)
 ·obtain ⟨x, hx, rfl⟩ := List.mem_map.1 hl
  exact keep_within hg (hL.subset hx) (h x hx)
 ·have hs : SortX L := List.Pairwise.sublist (hL.map posI) hg.1
  rw [List.length_map] at hj
  rw [List.getElem_map, List.getElem_map]
  unfold SortX SortedP at hs
  rw [List.pairwise_map] at hs
  have h2 := List.pairwise_iff_getElem.1 hs j (j + 1) (by omega) hj (by omega)
  rw [ordP_lt] at h2
  unfold posI at h2
  unfold aheadB lineOf
  apply decide_eq_true
  dsimp only at h2 ⊢
  omega
theorem keep_mine {X : List Itm} (hg : GoodB 0 X) {L : List Itm} (hL : L.Sublist X) : mineL 0 (L.map lineOf) = L.map lineOf := by
 unfold mineL
 rw [List.filter_eq_self]
 intro l hl
 obtain ⟨x, hx, rfl⟩ := List.mem_map.1 hl
 exact decide_eq_true (hg.2 x (hL.subset hx)).2
theorem keeps2 {X xs L : List Itm} (hg : GoodB 0 X) (hL : L.Sublist X) (hi : KeptI L xs) (h : ∀ x ∈ L, x.s ≤ 2 ∧ x.b ≤ 2) {ns : List Int} (hn : ns = netsL 3 (L.map lineOf)) {ps2 : List PtX} {xs2 : List Itm} {out : List SdX} {e : Int}
  (hv : VoteG 0 3 [⟨77, 0, 1, none, 0, []⟩] xs (mKP (L.map lineOf) ns) 3 ps2 xs2 out e) : e = 0 ∧ xs2 = xs ∧ out = [⟨3, sayX 13 77 true⟩] ∧ KeptP (L.map lineOf) ps2 := by
 obtain ⟨_, _, h3⟩ := hv
 have hk : ¬ kindBad (mKP (L.map lineOf) ns) 3 := by unfold kindBad mKP; simp
 obtain ⟨ps3, xs3, out3, e3, hgg, h4, h5⟩ := h3 hk (.inr rfl)
 unfold actG at hgg
 rw [if_neg (show (mKP (L.map lineOf) ns).k ≠ 10 from (by decide : (12 : Int) ≠ 10)), if_pos (show (mKP (L.map lineOf) ns).k = 12 from rfl)] at hgg
 obtain ⟨h6, _, _, h7⟩ := hgg
 obtain ⟨h8, h9, _, h10⟩ := h7 rfl rfl
 obtain ⟨rfl, rfl, rfl, rfl⟩ := h5 h8
 have hnl : ns.length = 3 := by rw [hn, netsL_len]
 have hf := keep_fit hg hL h
 have hb : prepB 0 3 xs (mKP (L.map lineOf) ns) = true := by
  unfold prepB mKP
  dsimp only
  have hr : rightE (L.map lineOf) ns = 0 := by
   unfold rightE netsE
   rw [hnl, if_neg (show ¬ (((3 : Nat) : Int) < 0 ∨ 8 < ((3 : Nat) : Int)) by omega), if_neg (by rw [show (((3 : Nat) : Int)) = 3 from rfl, hf]; simp), if_pos hn]
  have hh : holdsB xs 77 (mineL 0 (L.map lineOf)) = true := by
   rw [keep_mine hg hL]
   unfold holdsB
   rw [List.all_eq_true]
   intro l hl
   obtain ⟨x, hx, rfl⟩ := List.mem_map.1 hl
   obtain ⟨ht, hfx⟩ := hi x hx
   unfold holdsOne
   rw [show (lineOf x).s = x.s from rfl, show (lineOf x).n = x.n from rfl, hfx]
   simp [ht, lineOf]
  rw [hr, hh, hnl]
  decide
 obtain ⟨lp, lc, h11⟩ := h10 hb
 rw [hb] at h9
 refine ⟨rfl, h6, h9, 0, lp, lc, ?_⟩
 rw [h11, find_insC, if_pos (by rfl)]
 show some (⟨77, 0, 2, lp, lc, mineL 0 (L.map lineOf)⟩ : PtX) = _
 rw [keep_mine hg hL]
theorem keeps4 {xs L : List Itm} {ps : List PtX} (hg : GoodB 0 xs) (hi : KeptI L xs) (hp : KeptP (L.map lineOf) ps) {t : Bool} {ps2 : List PtX} {xs2 : List Itm} {out : List SdX} {e : Int}
  (hv : VoteG 0 3 ps xs (mKD t) 3 ps2 xs2 out e) : e = 0 ∧ (∀ x ∈ L, ∃ y, findX xs2 x.s x.n = some y ∧ (t = true → y.t = 5 ∧ y.y = 77) ∧ (t = false → y.t = 3 ∧ y.y = 0)) ∧ ∃ q, findC ps2 77 = some q ∧ q.st = if t = true then 4 else 5 := by
 obtain ⟨_, _, h3⟩ := hv
 have hk : ¬ kindBad (mKD t) 3 := by unfold kindBad mKD; simp
 obtain ⟨ps3, xs3, out3, e3, hgg, h4, h5⟩ := h3 hk (.inr rfl)
 unfold actG at hgg
 rw [if_neg (show (mKD t).k ≠ 10 from (by decide : (14 : Int) ≠ 10)), if_neg (show (mKD t).k ≠ 12 from (by decide : (14 : Int) ≠ 12)), if_pos (show (mKD t).k = 14 from rfl)] at hgg
 obtain ⟨_, _, _, h6⟩ := hgg
 obtain ⟨cu, lp, lc, hq⟩ := hp
 have ho : openP ps (mKD t).y = (⟨77, cu, 2, lp, lc, L.map lineOf⟩, 0) := find_open hq rfl
 rw [ho] at h6
 obtain ⟨h7, h8, h9⟩ := h6 rfl (fun _ => rfl)
 obtain ⟨rfl, rfl, rfl, rfl⟩ := h5 h7
 refine ⟨rfl, fun x hx => ?_, _, by rw [h8, find_insC, if_pos rfl], rfl⟩
 obtain ⟨ht3, hf⟩ := hi x hx
 obtain ⟨hm, hs, hn⟩ := findX_inj hf
 rw [h9]
 have hfil : ({ x with y := 77 } : Itm) ∈ xs.filter (keepL (mKD t).y) := by
  refine List.mem_filter.2 ⟨hm, ?_⟩
  unfold keepL outL mKD
  dsimp only
  rw [ht3]
  rfl
 rcases each_item (f := decF (mKD t).t (L.map lineOf)) hg.1 (its := xs.filter (keepL (mKD t).y)) List.filter_sublist (fun y hy => by
  obtain ⟨h1, h2, h3⟩ := keepL_ok (List.mem_filter.1 hy).2
  rw [dec_is h1 h3]
  split <;> exact ⟨rfl, rfl⟩) hm with ⟨_, h2⟩ | ⟨h1, _⟩
 ·refine ⟨_, h2, fun ht => ?_, fun ht => ?_⟩
  ·subst ht
   rw [dec_is (show ({ x with y := 77 } : Itm).t = 3 from ht3) (by show (77 : Int) ≠ 0; decide), if_pos ⟨rfl, List.mem_map.2 ⟨x, hx, rfl⟩⟩]
   exact ⟨rfl, rfl⟩
  ·subst ht
   rw [dec_is (show ({ x with y := 77 } : Itm).t = 3 from ht3) (by show (77 : Int) ≠ 0; decide), if_neg (fun h => by cases h.1)]
   exact ⟨ht3, rfl⟩
 ·exact absurd hfil h1
/-- One more line: what each has to have. -/
theorem net_snoc (me : Int) (xs : List Lin) (l : Lin) : netS me (xs ++ [l]) = netS me xs + (if mineB me l = true then gives me l else 0) := by
 unfold netS netL mineL
 rw [List.filter_append, List.map_append, List.sum_append]
 congr 1
 cases h : mineB me l <;> simp [h]
theorem nets3 (ls : List Lin) : netsL 3 ls = [netS 0 ls, netS 1 ls, netS 2 ls] := rfl
end Go.Proofs.Ytmhocihajobkkaa
namespace Go.Proofs.Ytmhocihajobkkaa
open Go.RowKit
theorem net_small {me : Int} {ls : List Lin} (h : ∀ l ∈ ls, 1 ≤ l.a ∧ l.a ≤ 1125899906842624) (hl : ls.length ≤ 40) : -45035996273704960 ≤ netS me ls ∧ netS me ls ≤ 45035996273704960 := by
 have h1 := sum_small (zs := netL me ls) (B := 1125899906842624) (fun z hz => by
  obtain ⟨x, hx, rfl⟩ := List.mem_map.1 hz
  have h2 := h x (List.mem_filter.1 hx).1
  unfold gives
  split <;> constructor <;> omega)
 have h2 := netL_len me ls
 have h3 : (1125899906842624 : Int) * ((netL me ls).length : Int) ≤ 1125899906842624 * 40 := Int.mul_le_mul_of_nonneg_left (by omega) (by omega)
 unfold netS
 omega
/-- What is known of each line that is offered. -/
def LineK (l : Lin) : Prop := 0 ≤ l.s ∧ 0 ≤ l.b ∧ l.s ≠ l.b ∧ (l.s = 0 ∨ l.b = 0) ∧ (1 ≤ l.a ∧ l.a ≤ 1125899906842624) ∧ l.Fit
theorem line_k {X : List Itm} (hg : GoodB 0 X) {L : List Itm} (hL : L.Sublist X) : ∀ l ∈ L.map lineOf, LineK l := by
 intro l hl
 obtain ⟨x, hx, rfl⟩ := List.mem_map.1 hl
 obtain ⟨h1, h2, _⟩ := chk_ok (hg.2 x (hL.subset hx)).1
 have h3 := (hg.2 x (hL.subset hx)).2
 unfold partsOk at h1
 unfold numsOk at h2
 unfold LineK lineOf Lin.Fit I64
 dsimp only
 omega
theorem row_three {w : World} {g : Nat} {a b c : Int} {T : TypeId} (h : Blk w g #[.int .i64 a, .int .i64 b, .int .i64 c] T) : Row .i64 w (.slice (some ⟨g, 0, none⟩) 3 3) [a, b, c] := by
 refine ⟨some ⟨g, 0, none⟩, 3, rfl, Nat.le_refl _, .inr ⟨g, 0, rfl, fun i hi => ?_⟩⟩
 match i, hi with
 | 0, _ => exact h.cell 0
 | 1, _ => exact h.cell 1
 | 2, _ => exact h.cell 2
 | i + 3, hi => exact absurd hi (by simp)
theorem net_step {me : Int} {ls : List Lin} {k : Nat} (hk : k < ls.length) {z : Int} (hz : z = netS me (ls.take k)) {d : Int} (hd : (if mineB me ls[k] = true then gives me ls[k] else 0) = d) : z + d = netS me (ls.take (k + 1)) := by
 rw [List.take_succ_eq_append_getElem hk, net_snoc, hz, hd]
theorem Vt.imp {Q R : Nat → Prop} {w : World} {mb : Int} {p : Option Addr} {n c : Nat} {pi : Option Addr} {ni ci : Nat} {ps : List PtX} {xs : List Itm} (h : Vt Q w mb p n c pi ni ci ps xs) (hq : ∀ b, b < w.heap.size → Q b → R b) : Vt R w mb p n c pi ni ci ps xs :=
 ⟨h.pts.lt.imp (fun b hb => hq b hb.1 hb.2), h.its.imp hq, h.good, h.np, h.nx, h.ql⟩
/-- Of each line that was offered: the item in the book, as long as it is locked. -/
theorem kept_line {L xs : List Itm} (hi : KeptI L xs) : ∀ l ∈ L.map lineOf, ∃ q, findX xs l.s l.n = some q ∧ q.t = 3 ∧ q.y = 77 ∧ q.a = l.a := by
 intro l hl
 obtain ⟨x, hx, rfl⟩ := List.mem_map.1 hl
 obtain ⟨h1, h2⟩ := hi x hx
 exact ⟨_, h2, h1, rfl, rfl⟩
theorem done_line {L xs : List Itm} {t : Bool} (hi : ∀ x ∈ L, ∃ y, findX xs x.s x.n = some y ∧ (t = true → y.t = 5 ∧ y.y = 77) ∧ (t = false → y.t = 3 ∧ y.y = 0)) : ∀ l ∈ L.map lineOf, ∃ y, findX xs l.s l.n = some y ∧ (t = true → y.t = 5 ∧ y.y = 77) ∧ (t = false → y.t = 3 ∧ y.y = 0) := by
 intro l hl
 obtain ⟨x, hx, rfl⟩ := List.mem_map.1 hl
 exact hi x hx
theorem make3 (w : World) : (Instr.makeSlice 44 (.int .i64 3) (.int .i64 3)).run Try.prog w = .ok (.slice (some ⟨w.heap.size, 0, none⟩) 3 3) (w.alloc (.cells #[.int .i64 0, .int .i64 0, .int .i64 0] 2)) := by
 have h : (Try.prog.info? 2).map (fun i => (i.zero, i.size, i.bytes)) = some (some (.int .i64 0), 1, 8) := by kernel_rfl
 cases hi : Try.prog.info? 2 with
 | none => rw [hi] at h; cases h
 | some i =>
  rw [hi] at h
  simp only [Option.map_some, Option.some.injEq, Prod.mk.injEq] at h
  have hmk := run_make (P := Try.prog) w 44 2 i _ Try.underlying44 hi h.1 .i64 .i64 3 3 (by omega) (Int.le_refl _) (by rw [h.2.2]; omega) (by omega)
  rw [h.2.1, show madeCells (Value.int .i64 0).cells ((3 : Int).toNat * 1) = #[.int .i64 0, .int .i64 0, .int .i64 0] by kernel_rfl] at hmk
  exact hmk
theorem mKP_fit {ls : List Lin} {z0 z1 z2 : Int} (h : ∀ l ∈ ls, LineK l) (h0 : -45035996273704960 ≤ z0 ∧ z0 ≤ 45035996273704960) (h1 : -45035996273704960 ≤ z1 ∧ z1 ≤ 45035996273704960) (h2 : -45035996273704960 ≤ z2 ∧ z2 ≤ 45035996273704960) : (mKP ls [z0, z1, z2]).Fit := by
 refine ⟨by unfold mKP I64; dsimp only; omega, fun l hl => (h l hl).2.2.2.2.2, fun z hz => ?_⟩
 have hz : z ∈ [z0, z1, z2] := hz
 simp only [List.mem_cons, List.not_mem_nil, or_false] at hz
 unfold I64
 rcases hz with rfl | rfl | rfl <;> omega
theorem keeps2b {X xs L : List Itm} {LS : List Lin} (hg : GoodB 0 X) (hL : L.Sublist X) (hi : KeptI L xs) (hls : L.map lineOf = LS) {z0 z1 z2 : Int} (hz : z0 = netS 0 LS ∧ z1 = netS 1 LS ∧ z2 = netS 2 LS ∧ ∀ l ∈ LS, l.s ≤ 2 ∧ l.b ≤ 2) {ps2 : List PtX} {xs2 : List Itm} {out : List SdX} {e : Int}
  (hv : VoteG 0 3 [⟨77, 0, 1, none, 0, []⟩] xs (mKP LS [z0, z1, z2]) 3 ps2 xs2 out e) : e = 0 ∧ xs2 = xs ∧ out = [⟨3, sayX 13 77 true⟩] ∧ KeptP LS ps2 := by
 subst hls
 exact keeps2 hg hL hi (fun x hx => hz.2.2.2 (lineOf x) (List.mem_map_of_mem hx)) (by rw [nets3, hz.1, hz.2.1, hz.2.2.1]) hv
theorem keeps4b {xs L : List Itm} {LS : List Lin} {ps : List PtX} (hg : GoodB 0 xs) (hi : KeptI L xs) (hls : L.map lineOf = LS) (hp : KeptP LS ps) {t : Bool} {ps2 : List PtX} {xs2 : List Itm} {out : List SdX} {e : Int}
  (hv : VoteG 0 3 ps xs (mKD t) 3 ps2 xs2 out e) : e = 0 ∧ (∀ l ∈ LS, ∃ y, findX xs2 l.s l.n = some y ∧ (t = true → y.t = 5 ∧ y.y = 77) ∧ (t = false → y.t = 3 ∧ y.y = 0)) ∧ ∃ q, findC ps2 77 = some q ∧ q.st = if t = true then 4 else 5 := by
 subst hls
 obtain ⟨h1, h2, h3⟩ := keeps4 hg hi hp hv
 exact ⟨h1, done_line h2, h3⟩
theorem kept_lineb {L xs : List Itm} {LS : List Lin} (hi : KeptI L xs) (hls : L.map lineOf = LS) : ∀ l ∈ LS, ∃ q, findX xs l.s l.n = some q ∧ q.t = 3 ∧ q.y = 77 ∧ q.a = l.a := by
 subst hls
 exact kept_line hi
end Go.Proofs.Ytmhocihajobkkaa
namespace Go.Proofs.Ytmhocihajobkkaa
open Go.RowKit
theorem act_once {m : Msg} {x y : Itm} (h : ActX m x y) : rankI x ≤ rankI y ∧ (x.t = 5 → y = x) ∧ (x.y ≠ 0 → y.y ≠ 0 → x.y = y.y) ∧ y.r = x.r := by
 rcases h with rfl | ⟨_, h3, h0, _, _, rfl⟩ | ⟨_, h3, hy, h0, rfl | rfl⟩
 ·exact ⟨Int.le_refl _, fun _ => rfl, fun _ _ => rfl, rfl⟩
 ·refine ⟨?_, fun h => by omega, fun h => absurd h0 h, rfl⟩
  unfold rankI
  dsimp only
  exact Int.le_refl _
 ·refine ⟨?_, fun h => by omega, fun _ _ => rfl, rfl⟩
  unfold rankI
  dsimp only
  rw [h3]
  simp
 ·refine ⟨?_, fun h => by omega, fun _ h => absurd rfl h, rfl⟩
  unfold rankI
  dsimp only
  exact Int.le_refl _
theorem good_r {me : Int} {X : List Itm} (h : GoodB me X) {x : Itm} (hx : x ∈ X) : -1073741824 ≤ x.r ∧ x.r ≤ 1073741824 := by
 obtain ⟨_, h2, _⟩ := chk_ok (h.2 x hx).1
 unfold numsOk at h2
 omega
/-- Of each item of the book: what has become of it. -/
theorem once_item {me N mb fro e : Int} {ps ps2 : List PtX} {xs xs2 : List Itm} {m : Msg} {out : List SdX} (hg : GoodB mb xs) (h : VoteG me N ps xs m fro ps2 xs2 out e) {x : Itm} (hx : x ∈ xs) :
  ∃ y, findX xs2 x.s x.n = some y ∧ (-1073741824 ≤ x.r ∧ x.r ≤ 1073741824) ∧ (-1073741824 ≤ y.r ∧ y.r ≤ 1073741824) ∧ rankI x ≤ rankI y ∧ (x.t = 5 → y = x) ∧ (x.y ≠ 0 → y.y ≠ 0 → x.y = y.y) := by
 obtain ⟨_, _, h1⟩ := vote_items hg h
 obtain ⟨y, hy, ha⟩ := h1 x hx
 obtain ⟨h2, h3, h4, h5⟩ := act_once ha
 have hr := good_r hg hx
 exact ⟨y, hy, hr, by rw [h5]; exact hr, h2, h3, h4⟩
/-- Of each line of what is said: the item that it is of. -/
theorem once_line {N : Int} {mb : Int} {xs : List Itm} {m : Msg} {z : SdX} (hg : GoodB mb xs) (h : SayOne N xs m [z]) : z.tw = N ∧ z.x.m.y = m.y ∧ ∀ l ∈ z.x.m.ls, ∃ q, findX xs l.s l.n = some q ∧ q.t = 3 ∧ q.y = 0 := by
 rcases h with h | ⟨z2, h, h1, h2, os, h3, h4⟩
 ·cases h
 ·have e : z = z2 := by simpa using h
  subst e
  refine ⟨h1, h2, fun l hl => ?_⟩
  rw [h3] at hl
  obtain ⟨q, hq, rfl⟩ := List.mem_map.1 hl
  obtain ⟨h5, h6, h7⟩ := h4 q hq
  exact ⟨q, find_sort hg.1 h5, h6, h7⟩
theorem once_out {N : Int} {xs : List Itm} {m : Msg} {out : List SdX} (h : SayOne N xs m out) : out = [] ∨ ∃ z, out = [z] := by
 rcases h with h | ⟨z, h, _⟩
 ·exact .inl h
 ·exact .inr ⟨z, h⟩
theorem once_at {N : Int} {mb : Int} {xs : List Itm} {m : Msg} {out : List SdX} (hg : GoodB mb xs) (h : SayOne N xs m out) : ∀ z ∈ out, z.tw = N ∧ z.x.m.y = m.y ∧ ∀ l ∈ z.x.m.ls, ∃ q, findX xs l.s l.n = some q ∧ q.t = 3 ∧ q.y = 0 := by
 intro z hz
 rcases once_out h with rfl | ⟨z2, rfl⟩
 ·cases hz
 ·rw [List.mem_singleton.1 hz]
  exact once_line hg h
theorem act_short {me N e : Int} {ps ps2 : List PtX} {xs xs2 : List Itm} {m : Msg} {out : List SdX} (h : actG me N ps xs m ps2 xs2 out e) : ∀ z ∈ out, z.x.m.ls.length ≤ 128 := by
 unfold actG at h
 split at h
 ·obtain ⟨h1, h2, h3⟩ := h
  by_cases hb : askBad m
  ·rw [(h1 hb).2.2.1]; exact fun _ hz => by cases hz
  ·by_cases hf : findC ps m.y = none
   ·obtain ⟨_, _, _, lp, lc, h4⟩ := h3 hb hf
    rw [h4]
    intro z hz
    rw [List.mem_singleton.1 hz]
    dsimp only
    unfold offerL
    rw [List.length_map, List.length_take]
    omega
   ·rw [(h2 hb hf).2.2.1]; exact fun _ hz => by cases hz
 ·split at h
  ·obtain ⟨_, h1, h2, h3⟩ := h
   by_cases h0 : (openP ps m.y).2 = 0
   ·by_cases hs : (openP ps m.y).1.st = 1
    ·rw [(h3 h0 hs).2.1]
     intro z hz
     rw [List.mem_singleton.1 hz]
     exact Nat.zero_le _
    ·rw [(h2 h0 hs).2.1]; exact fun _ hz => by cases hz
   ·rw [(h1 h0).2.1]; exact fun _ hz => by cases hz
  ·split at h
   ·rw [h.1]; exact fun _ hz => by cases hz
   ·rw [h.2.2.1]
    intro z hz
    rw [List.mem_singleton.1 hz]
    exact Nat.zero_le _
theorem vote_short {me N fro e : Int} {ps ps2 : List PtX} {xs xs2 : List Itm} {m : Msg} {out : List SdX} (h : VoteG me N ps xs m fro ps2 xs2 out e) : out.length ≤ 1 ∧ ∀ z ∈ out, z.x.m.ls.length ≤ 128 := by
 refine ⟨by rcases once_out (vote_says h) with h1 | ⟨z, h1⟩ <;> rw [h1] <;> simp, ?_⟩
 obtain ⟨h1, h2, h3⟩ := h
 by_cases hb : kindBad m fro
 ·rw [(h1 hb).2.2.1]; exact fun _ hz => by cases hz
 ·by_cases hf : fro = -1 ∨ fro = N
  ·obtain ⟨ps3, xs3, out3, e3, h4, h5, h6⟩ := h3 hb hf
   by_cases h0 : e3 = 0
   ·rw [(h6 h0).2.2.1]; exact act_short h4
   ·rw [(h5 h0).2.2.1]; exact fun _ hz => by cases hz
  ·rw [(h2 hb (fun h => hf (.inl h)) (fun h => hf (.inr h))).2.2.1]; exact fun _ hz => by cases hz
/-- Since a world nothing that was there has changed. -/
def BelB (A w : World) : Prop := Below A.heap.size A w
theorem BelB.kept {A w w' : World} (h : BelB A w) (hb : Below w.heap.size w w') : BelB A w' := Below.trans h (hb.mono h.size)
theorem BelB.refl (A : World) : BelB A A := Below.refl _ _
end Go.Proofs.Ytmhocihajobkkaa
namespace Go.Proofs.Ytmhocihajobkkaa
open Go.RowKit
set_option linter.unusedSimpArgs false
def fitZ (z : SdX) : Bool := decide (z.x.m.ls.length ≤ 60) && decide (z.x.m.ns.length ≤ 12)
def fitsW (its : List Itm) (ws : List SdX) : Bool := decide (its.length ≤ 40) && (decide (ws.length ≤ 40) && ws.all fitZ)
theorem fitsW_ok {its : List Itm} {ws : List SdX} (h : fitsW its ws = true) : its.length ≤ 40 ∧ ws.length ≤ 40 ∧ ∀ z ∈ ws, z.x.m.ls.length ≤ 60 ∧ z.x.m.ns.length ≤ 12 := by
 unfold fitsW fitZ at h
 simp only [Bool.and_eq_true, decide_eq_true_eq, List.all_eq_true] at h
 exact ⟨h.1, h.2.1, h.2.2⟩
set_option linter.unusedSimpArgs false in
set_option maxHeartbeats 4000000 in
set_option maxRecDepth 100000 in
theorem vfits_any (w : World) (vi vw : Value) (its : List Itm) (ws : List SdX) (hi : TRow encI w vi its) (hw : TRow encS w vw ws) :
  Calls Try.prog 7 #[vi, vw] w fun e w' => e = .returned (.bool (fitsW its ws)) ∧ Below w.heap.size w w' := by
 obtain ⟨p1, c1, rfl⟩ := hi.shape
 obtain ⟨p2, c2, rfl⟩ := hw.shape
 by_cases h1 : 40 < its.length
 ·have e : fitsW its ws = false := by unfold fitsW; rw [show decide (its.length ≤ 40) = false by simp; omega]; rfl
  rw [e]
  have hI : (40 : Int) < (its.length : Int) := by omega
  clear hi hw h1 e
  go_enter Try.func7, Try.ntmps7
  go_wp2_with fail
  go_ret
  exact ⟨rfl, Below.refl _ _⟩
 have e1 : decide (its.length ≤ 40) = true := by simp; omega
 have hI1 : ¬ (40 : Int) < (its.length : Int) := by omega
 by_cases h2 : 40 < ws.length
 ·have e : fitsW its ws = false := by unfold fitsW; rw [e1, show decide (ws.length ≤ 40) = false by simp; omega]; rfl
  rw [e]
  have hI : (40 : Int) < (ws.length : Int) := by omega
  clear hi hw h1 h2 e e1
  go_enter Try.func7, Try.ntmps7
  go_wp2_with fail
  go_ret
  exact ⟨rfl, Below.refl _ _⟩
 have e2 : decide (ws.length ≤ 40) = true := by simp; omega
 have hI2 : ¬ (40 : Int) < (ws.length : Int) := by omega
 have HE : Hid (fitsW its ws = ws.all fitZ) := by show _ = _; unfold fitsW; rw [e1, e2]; rfl
 have HW := Lib.hid hw
 have HWN : Hid (ws.length ≤ 40) := by show _ ≤ _; omega
 clear hi hw h1 h2 e1 e2
 generalize hn : ws.length = n at *
 have HL : Hid (ws.length = n) := Lib.hid hn
 clear hn
 have HREL : Hid (Below w.heap.size w w ∧ (ws.take 0).all fitZ = true) := ⟨Below.refl _ _, rfl⟩
 go_enter Try.func7, Try.ntmps7
 go_upto_region 4 with fail
 clear hI1 hI2
 go_loopw [17] (fun i wr => ∃ k : Nat, k ≤ n ∧ i = .int .i64 k ∧ Hid (Below w.heap.size w wr ∧ (ws.take k).all fitZ = true)) (fun i _ => n - (intOf i).toNat)
 case atStart => exact ⟨0, by omega, rfl, HREL⟩
 case round =>
  clear HREL
  obtain ⟨k, hk, rfl, HK⟩ := hrel
  have hk9 : k + 1 ≤ 41 := by have := HWN.out; omega
  by_cases hlt : k < n
  ·have hkl : k < ws.length := by rw [HL.out]; exact hlt
   have hltI : (k : Int) < (n : Int) := by omega
   have HTA : Hid ((ws.take (k + 1)).all fitZ = fitZ ws[k]) := by show _ = _; rw [List.take_succ_eq_append_getElem hkl, List.all_append, HK.out.2]; simp
   have HNO : Hid (fitZ ws[k] = false → ws.all fitZ = false) := fun h => by
    cases ha : ws.all fitZ
    ·rfl
    ·rw [List.all_eq_true] at ha
     rw [ha _ (List.getElem_mem hkl)] at h
     cases h
   obtain ⟨b, o, rfl, hbl, hcs⟩ := (HW.out.kept HK.out.1).at_ k hkl
   generalize ws[k] = z at *
   have c0 : wr.cell? ⟨b, o + k * 12, none⟩ = some (.int .i64 z.tw) := hcs 0 (by decide)
   have c1 : wr.cell? ⟨b, o + k * 12 + 1, none⟩ = some (.int .i64 z.x.m.k) := hcs 1 (by decide)
   have c2 : wr.cell? ⟨b, o + k * 12 + 2, none⟩ = some (.int .i64 z.x.m.s) := hcs 2 (by decide)
   have c3 : wr.cell? ⟨b, o + k * 12 + 3, none⟩ = some (.int .i64 z.x.m.n) := hcs 3 (by decide)
   have c4 : wr.cell? ⟨b, o + k * 12 + 4, none⟩ = some (.int .i64 z.x.m.b) := hcs 4 (by decide)
   have c5 : wr.cell? ⟨b, o + k * 12 + 5, none⟩ = some (.int .i64 z.x.m.c) := hcs 5 (by decide)
   have c6 : wr.cell? ⟨b, o + k * 12 + 6, none⟩ = some (.int .i64 z.x.m.r) := hcs 6 (by decide)
   have c7 : wr.cell? ⟨b, o + k * 12 + 7, none⟩ = some (.int .i64 z.x.m.y) := hcs 7 (by decide)
   have c8 : wr.cell? ⟨b, o + k * 12 + 8, none⟩ = some (.int .i64 z.x.m.a) := hcs 8 (by decide)
   have c9 : wr.cell? ⟨b, o + k * 12 + 9, none⟩ = some (.bool z.x.m.t) := hcs 9 (by decide)
   have c10 : wr.cell? ⟨b, o + k * 12 + 10, none⟩ = some (.slice z.x.pl z.x.m.ls.length z.x.cl) := hcs 10 (by decide)
   have c11 : wr.cell? ⟨b, o + k * 12 + 11, none⟩ = some (.slice z.x.pn z.x.m.ns.length z.x.cn) := hcs 11 (by decide)
   have HX := Lib.hid (Blk.new wr #[.int .i64 z.tw, .int .i64 z.x.m.k, .int .i64 z.x.m.s, .int .i64 z.x.m.n, .int .i64 z.x.m.b, .int .i64 z.x.m.c, .int .i64 z.x.m.r, .int .i64 z.x.m.y, .int .i64 z.x.m.a, .bool z.x.m.t, .slice z.x.pl z.x.m.ls.length z.x.cl, .slice z.x.pn z.x.m.ns.length z.x.cn] 52)
   have HB1 := Lib.hid (HK.out.1.alloc HK.out.1.size (.cells #[.int .i64 z.tw, .int .i64 z.x.m.k, .int .i64 z.x.m.s, .int .i64 z.x.m.n, .int .i64 z.x.m.b, .int .i64 z.x.m.c, .int .i64 z.x.m.r, .int .i64 z.x.m.y, .int .i64 z.x.m.a, .bool z.x.m.t, .slice z.x.pl z.x.m.ls.length z.x.cl, .slice z.x.pn z.x.m.ns.length z.x.cn] 52))
   clear hcs
   go_upto_region 6 with fail
   clear c0 c1 c2 c3 c4 c5 c6 c7 c8 c9 c10 c11
   generalize (wr.alloc (.cells #[.int .i64 z.tw, .int .i64 z.x.m.k, .int .i64 z.x.m.s, .int .i64 z.x.m.n, .int .i64 z.x.m.b, .int .i64 z.x.m.c, .int .i64 z.x.m.r, .int .i64 z.x.m.y, .int .i64 z.x.m.a, .bool z.x.m.t, .slice z.x.pl z.x.m.ls.length z.x.cl, .slice z.x.pn z.x.m.ns.length z.x.cn] 52)) = W2 at *
   generalize wr.heap.size = gx at *
   have c10 : W2.cell? ⟨gx, 10, none⟩ = some (.slice z.x.pl z.x.m.ls.length z.x.cl) := HX.out.cell 10
   have c11 : W2.cell? ⟨gx, 11, none⟩ = some (.slice z.x.pn z.x.m.ns.length z.x.cn) := HX.out.cell 11
   by_cases hl : 60 < z.x.m.ls.length
   ·have hlI : (60 : Int) < (z.x.m.ls.length : Int) := by omega
    have HF : Hid (fitsW its ws = false) := by
     show _ = _
     rw [HE.out, HNO.out (by unfold fitZ; rw [show decide (z.x.m.ls.length ≤ 60) = false by simp; omega]; rfl)]
    clear hl
    go_wp2_with fail
    go_ret
    exact ⟨by rw [HF.out]; rfl, HB1.out⟩
   ·have hlI : ¬ (60 : Int) < (z.x.m.ls.length : Int) := by omega
    by_cases hm : 12 < z.x.m.ns.length
    ·have hmI : (12 : Int) < (z.x.m.ns.length : Int) := by omega
     have HF : Hid (fitsW its ws = false) := by
      show _ = _
      rw [HE.out, HNO.out (by unfold fitZ; rw [show decide (z.x.m.ns.length ≤ 12) = false by simp; omega, Bool.and_false])]
     clear hl hm
     go_wp2_with fail
     go_ret
     exact ⟨by rw [HF.out]; rfl, HB1.out⟩
    ·have hmI : ¬ (12 : Int) < (z.x.m.ns.length : Int) := by omega
     have HNX : Hid (Below w.heap.size w W2 ∧ (ws.take (k + 1)).all fitZ = true) := ⟨HB1.out, by rw [HTA.out]; unfold fitZ; rw [show decide (z.x.m.ls.length ≤ 60) = true by simp; omega, show decide (z.x.m.ns.length ≤ 12) = true by simp; omega]; rfl⟩
     clear hl hm
     go_wp2_with fail
     go_roundw
     case rel => exact ⟨k + 1, by omega, by go_num, HNX⟩
     case measure => simp [intOf]; omega
  ·have hltI : ¬ (k : Int) < (n : Int) := by omega
   have HF : Hid (fitsW its ws = true) := by
    show _ = _
    rw [HE.out, ← HK.out.2, List.take_of_length_le (by rw [HL.out]; omega)]
   go_wp2_with fail
   go_ret
   exact ⟨by rw [HF.out]; rfl, HK.out.1⟩
end Go.Proofs.Ytmhocihajobkkaa
