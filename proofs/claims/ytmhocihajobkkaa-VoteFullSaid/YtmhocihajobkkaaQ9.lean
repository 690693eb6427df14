/- contralaw17.votes by contract. VoteFull: what is offered of many items, in plain words. VoteFull: its walk. -/
import Derived.Test.YtmhocihajobkkaaQ8
import Derived.Test.YtmhocihajobkkaaQ5
import Derived.Test.YtmhocihajobkkaaQ1
namespace Go.Proofs.Ytmhocihajobkkaa
open Go.RowKit
set_option linter.unusedSimpArgs false
set_option linter.unusedSimpArgs false in
set_option maxHeartbeats 4000000 in
set_option maxRecDepth 100000 in
theorem votes_any (w : World) : Calls Try.prog 6 #[] w fun y w' => y = .returned (.bool true) ∧ Below w.heap.size w w' := by
 go_enter Try.func6, Try.ntmps6
 go_wp2_with fail
 have HB0 := Lib.hid (oneB w (.cells #[.int .i64 0, .int .i64 1, .int .i64 1, .int .i64 0, .int .i64 70, .int .i64 0, .int .i64 3, .int .i64 0] 54))
 have HZ0 : Hid (w.heap.size ≤ (w.alloc (.cells #[.int .i64 0, .int .i64 1, .int .i64 1, .int .i64 0, .int .i64 70, .int .i64 0, .int .i64 3, .int .i64 0] 54)).heap.size) := Lib.hid HB0.out.size
 have HR : Hid (TRow encI (w.alloc (.cells #[.int .i64 0, .int .i64 1, .int .i64 1, .int .i64 0, .int .i64 70, .int .i64 0, .int .i64 3, .int .i64 0] 54)) (.slice (some ⟨w.heap.size, 0, none⟩) 1 1) v1) := Lib.hid (TRow.lit encI v1 1 1 (Blk.new w #[.int .i64 0, .int .i64 1, .int .i64 1, .int .i64 0, .int .i64 70, .int .i64 0, .int .i64 3, .int .i64 0] 54) rfl rfl (Nat.le_refl _))
 generalize (w.alloc (.cells #[.int .i64 0, .int .i64 1, .int .i64 1, .int .i64 0, .int .i64 70, .int .i64 0, .int .i64 3, .int .i64 0] 54)) = WA at *
 have HG := Lib.hid (filled_any WA _ v1 HR.out (by decide))
 refine HG.out.mono ?_
 rintro y9 w1 ⟨hb, pi, ni, ci, pd, nd, cd, rfl, hx, hnx, -, -⟩
 clear HG
 have hgd := foldX_good (l := v1) (goodB_nil 0)
 rw [show foldX 0 [] v1 = v1 from (by decide +kernel)] at hx hnx hgd
 have HGD := Lib.hid hgd
 have Qx1 := Lib.hid (hx.imp (R := fun b => b < w1.heap.size) (fun b h _ => h))
 have HNX := Lib.hid hnx
 clear hx hnx hgd
 have HB1 := ktq HB0 hb
 have HZ1 := kzq HZ0 hb.size
 clear HB0 HZ0
 clear hb
 have hba : Below w1.heap.size w1 ((w1.alloc (.cells #[.int .i64 0, .slice pi ni ci, .slice none 0 0] 28)).alloc (.cells #[.int .i64 0, .int .i64 0, .slice pd nd cd, .slice none 0 0] 31)) := (oneB w1 (.cells #[.int .i64 0, .slice pi ni ci, .slice none 0 0] 28)).alloc (by simp) _
 have Qx2 := Lib.hid (Qx1.out.kept hba)
 have Hb2 : Hid (Blk ((w1.alloc (.cells #[.int .i64 0, .slice pi ni ci, .slice none 0 0] 28)).alloc (.cells #[.int .i64 0, .int .i64 0, .slice pd nd cd, .slice none 0 0] 31)) w1.heap.size #[.int .i64 0, .slice pi ni ci, .slice none 0 0] 28) := Lib.hid ((Blk.new w1 #[.int .i64 0, .slice pi ni ci, .slice none 0 0] 28).alloc _)
 have HB2 := ktq HB1 hba
 have HZ2 : Hid (w.heap.size ≤ ((w1.alloc (.cells #[.int .i64 0, .slice pi ni ci, .slice none 0 0] 28)).alloc (.cells #[.int .i64 0, .int .i64 0, .slice pd nd cd, .slice none 0 0] 31)).heap.size) := Lib.hid HB2.out.size
 have HGB : Hid (w1.heap.size < ((w1.alloc (.cells #[.int .i64 0, .slice pi ni ci, .slice none 0 0] 28)).alloc (.cells #[.int .i64 0, .int .i64 0, .slice pd nd cd, .slice none 0 0] 31)).heap.size ∧ w.heap.size ≤ w1.heap.size) := Lib.hid ⟨Hb2.out.lt, HB1.out.size⟩
 clear hba Qx1 HB1 HZ1
 go_upto_region 2 with fail
 generalize ((w1.alloc (.cells #[.int .i64 0, .slice pi ni ci, .slice none 0 0] 28)).alloc (.cells #[.int .i64 0, .int .i64 0, .slice pd nd cd, .slice none 0 0] 31)) = W2 at *
 generalize hgb : w1.heap.size = gb at *
 clear hgb
 have hba := oneB W2 (.cells #[.int .i64 0, .int .i64 2, .slice none 0 0] 36)
 have Hb3 := kbq Hb2 hba
 have Qx3 := Lib.hid (Qx2.out.kept hba)
 have Hp3 := Lib.hid (Blk.new W2 #[.int .i64 0, .int .i64 2, .slice none 0 0] 36)
 have HB3 := Lib.hid (HB2.out.alloc HB2.out.size (.cells #[.int .i64 0, .int .i64 2, .slice none 0 0] 36))
 have HZ3 := kzq HZ2 hba.size
 have HGgp : Hid (w.heap.size ≤ W2.heap.size) := Lib.hid HB2.out.size
 clear hba Hb2 Qx2 HB2 HZ2
 go_upto_region 3 with fail
 generalize (W2.alloc (.cells #[.int .i64 0, .int .i64 2, .slice none 0 0] 36)) = W3 at *
 generalize hggp : W2.heap.size = gp at *
 clear hggp
 have Qv3 : Hid (Vt (NotIn [gb, gp]) W3 0 none 0 0 pi ni ci [] v1) := Lib.hid (Vt.mk (PtsR.nil_ _ _) (Qx3.out.imp (fun b _ h hm => by have h2 := HGB.out; simp only [List.mem_cons, List.not_mem_nil, or_false] at hm; omega)) HGD.out rfl HNX.out (fun _ h => by cases h))
 clear Qx3 HGgp
 have HG := Lib.hid (vdo_q W3 (NotIn [gb, gp]) 0 2 0 none 0 0 pi ni ci none 0 0 [] v1 (sayX 10 1 false) (2) Qv3.out (fun b hb hm => by have h1 := Hp3.out.lt; have h2 := HGB.out; simp only [List.mem_cons, List.not_mem_nil, or_false] at hm; omega) (by decide) (by decide) (sayX_in _ _ _ _ (by decide) (by decide)) (by decide) (by decide))
 unfold sayX Msg.v at HG
 have a0 : W3.cell? ⟨gp, 0, none⟩ = some (.int .i64 0) := Hp3.out.cell 0
 have a1 : W3.cell? ⟨gp, 1, none⟩ = some (.int .i64 2) := Hp3.out.cell 1
 have a2 : W3.cell? ⟨gp, 2, none⟩ = some (.slice none 0 0) := Hp3.out.cell 2
 have b0 : W3.cell? ⟨gb, 0, none⟩ = some (.int .i64 0) := Hb3.out.cell 0
 have b1 : W3.cell? ⟨gb, 1, none⟩ = some (.slice pi ni ci) := Hb3.out.cell 1
 have b2 : W3.cell? ⟨gb, 2, none⟩ = some (.slice none 0 0) := Hb3.out.cell 2
 go_wp2_with fail
 clear a0 a1 a2 b0 b1 b2 
 refine HG.out.mono ?_
 rintro y9 w5 ⟨hb, p5, n5, c5, pi5, ni5, ci5, pv5, nv5, cv5, ps5, xs5, out5, e5, rfl, hv, hnv, hsd, hG⟩
 clear HG Qv3
 obtain ⟨rfl, rfl, rfl, lp, lc, rfl⟩ := votes1 hG
 clear hG
 have hn9 : nv5 = 1 := hnv
 clear hnv
 subst hn9
 have Hb4 := kbq Hb3 hb
 have Hp4 := kbq Hp3 hb
 have HB4 := ktq HB3 hb
 have HZ4 := kzq HZ3 hb.size
 clear Hb3 Hp3 HB3 HZ3
 clear hb
 have Qv4 := Lib.hid hv
 have Qs4 := Lib.hid hsd
 clear hv hsd
 go_wp2_with (with_reducible refine stop_storeT 36 (.tmp 4) (.tmp 25) rfl ?_)
 have HTH : Hid (w5.there gp 0 3) := Hp4.out.thereAt
 have hch : Hid (Chg gp w5 (w5.setCells gp 0 (#[.int .i64 0, .int .i64 2, .slice p5 n5 c5] : Array Value).toList)) := Lib.hid (chg_putL _ _ _ _ _ (Chg.refl _ w5))
 have Hp5 : Hid (Blk (w5.setCells gp 0 (#[.int .i64 0, .int .i64 2, .slice p5 n5 c5] : Array Value).toList) gp #[.int .i64 0, .int .i64 2, .slice p5 n5 c5] 36) := Lib.hid (blk_put_all Hp4.out _ rfl)
 have HB5 : Hid (Below w.heap.size w (w5.setCells gp 0 (#[.int .i64 0, .int .i64 2, .slice p5 n5 c5] : Array Value).toList)) := Lib.hid (below_put (by have h9 := HGB.out; omega) _ _ _ _ HB4.out)
 have HZ5 := kzq HZ4 hch.out.size
 have Hb5 := kcq Hb4 hch (by have h9 := HGB.out; omega)
 have Qv5 := Lib.hid (Qv4.out.chg hch.out (notIn_self (by simp)))
 have Qs5 := Lib.hid (Qs4.out.chg hch.out (notIn_self (by simp)))
 clear hch Hb4 Hp4 Qv4 Qs4 HB4 HZ4
 refine wpList_store_mid rfl 36 (.tmp 4) (.tmp 25) rfl gp 0 #[.int .i64 0, .int .i64 2, .slice p5 n5 c5] rfl rfl HTH.out (infoP3 rfl) (all_oneCell_toArray (by intro u hu; simp at hu; rcases hu with rfl | rfl | rfl <;> rfl)) ?_
 generalize (w5.setCells gp 0 (#[.int .i64 0, .int .i64 2, .slice p5 n5 c5] : Array Value).toList) = W6 at *
 clear HTH
 go_wp2_with (with_reducible refine stop_storeT 28 (.tmp 1) (.tmp 26) rfl ?_)
 have HTH : Hid (W6.there gb 0 3) := Hb5.out.thereAt
 have hch : Hid (Chg gb W6 (W6.setCells gb 0 (#[.int .i64 0, .slice pi5 ni5 ci5, .slice none 0 0] : Array Value).toList)) := Lib.hid (chg_putL _ _ _ _ _ (Chg.refl _ W6))
 have Hb6 : Hid (Blk (W6.setCells gb 0 (#[.int .i64 0, .slice pi5 ni5 ci5, .slice none 0 0] : Array Value).toList) gb #[.int .i64 0, .slice pi5 ni5 ci5, .slice none 0 0] 28) := Lib.hid (blk_put_all Hb5.out _ rfl)
 have HB6 : Hid (Below w.heap.size w (W6.setCells gb 0 (#[.int .i64 0, .slice pi5 ni5 ci5, .slice none 0 0] : Array Value).toList)) := Lib.hid (below_put (by have h9 := HGB.out; omega) _ _ _ _ HB5.out)
 have HZ6 := kzq HZ5 hch.out.size
 have Hp6 := kcq Hp5 hch (by have h9 := HGB.out; omega)
 have Qv6 := Lib.hid (Qv5.out.chg hch.out (notIn_self (by simp)))
 have Qs6 := Lib.hid (Qs5.out.chg hch.out (notIn_self (by simp)))
 clear hch Hb5 Hp5 Qv5 Qs5 HB5 HZ5
 refine wpList_store_mid rfl 28 (.tmp 1) (.tmp 26) rfl gb 0 #[.int .i64 0, .slice pi5 ni5 ci5, .slice none 0 0] rfl rfl HTH.out (infoB3 rfl) (all_oneCell_toArray (by intro u hu; simp at hu; rcases hu with rfl | rfl | rfl <;> rfl)) ?_
 generalize (W6.setCells gb 0 (#[.int .i64 0, .slice pi5 ni5 ci5, .slice none 0 0] : Array Value).toList) = W7 at *
 clear HTH
 obtain ⟨bo, oo, hpv, hsc⟩ := sd_one Qs6.out
 subst hpv
 have Qo6 := Lib.hid hsc
 clear hsc Qs6
 have e0 : W7.cell? ⟨bo, oo, none⟩ = some (.int .i64 2) := Qo6.out.cell 0 (by decide)
 have e10 : W7.cell? ⟨bo, oo + 10, none⟩ = some (.slice lp 1 lc) := Qo6.out.cell 10 (by decide)
 go_upto_region 6 with fail
 clear e0 e10
 go_cut [5, 6] from 57 (fun vo ve wx => ∃ (p6 : Option Addr) (n6 c6 : Nat) (pi6 : Option Addr) (ni6 ci6 : Nat) (bq oq cv6 : Nat) (lq : Option Addr) (lk : Nat), vo = .slice (some ⟨bq, oq, none⟩) 1 cv6 ∧ ve = .int .i64 0 ∧ Blk wx gp #[.int .i64 0, .int .i64 2, .slice p6 n6 c6] 36 ∧ Blk wx gb #[.int .i64 0, .slice pi6 ni6 ci6, .slice none 0 0] 28 ∧ Vt (NotIn [gb, gp]) wx 0 p6 n6 c6 pi6 ni6 ci6 [⟨1, 0, 2, lq, lk, [vl]⟩] v2 ∧ SdC (NotIn [gb, gp]) bq oq ⟨2, sayX 13 1 true⟩ wx ∧ Below w.heap.size w wx)
 case first =>
  have hbd := (Below.refl W7.heap.size W7).drew
  have Hb7 := kbq Hb6 hbd
  have Hp7 := kbq Hp6 hbd
  have Qv7 := Lib.hid (Qv6.out.kept hbd)
  have Qo7 := Lib.hid (Qo6.out.kept hbd)
  have HB7 := ktq HB6 hbd
  have HZ7 := kzq HZ6 hbd.size
  clear Hb6 Hp6 Qv6 Qo6 HB6 HZ6
  refine wp_region_held_drew (S := fun w' => w'.cell? ⟨bo, oo + 10, none⟩ = some (.slice lp 1 lc)) (by kernel_rfl) (Qo7.out.cell 10 (by decide)) (fun hS0 => ?_)
  generalize W7.drew = WD at *
  clear hbd
  refine tkq 2 ?_
  refine tkq 3 ?_
  refine tkq 4 ?_
  refine tkq 5 ?_
  refine tkq 6 ?_
  have a0 : WD.cell? ⟨gp, 0, none⟩ = some (.int .i64 0) := Hp7.out.cell 0
  have a0n : (WD.alloc (.cells #[.int .i64 70, .int .i64 (-70)] 2)).cell? ⟨gp, 0, none⟩ = some (.int .i64 0) := (Hp7.out.alloc _).cell 0
  have a1 : WD.cell? ⟨gp, 1, none⟩ = some (.int .i64 2) := Hp7.out.cell 1
  have a1n : (WD.alloc (.cells #[.int .i64 70, .int .i64 (-70)] 2)).cell? ⟨gp, 1, none⟩ = some (.int .i64 2) := (Hp7.out.alloc _).cell 1
  have a2 : WD.cell? ⟨gp, 2, none⟩ = some (.slice p5 n5 c5) := Hp7.out.cell 2
  have a2n : (WD.alloc (.cells #[.int .i64 70, .int .i64 (-70)] 2)).cell? ⟨gp, 2, none⟩ = some (.slice p5 n5 c5) := (Hp7.out.alloc _).cell 2
  have b0 : WD.cell? ⟨gb, 0, none⟩ = some (.int .i64 0) := Hb7.out.cell 0
  have b0n : (WD.alloc (.cells #[.int .i64 70, .int .i64 (-70)] 2)).cell? ⟨gb, 0, none⟩ = some (.int .i64 0) := (Hb7.out.alloc _).cell 0
  have b1 : WD.cell? ⟨gb, 1, none⟩ = some (.slice pi5 ni5 ci5) := Hb7.out.cell 1
  have b1n : (WD.alloc (.cells #[.int .i64 70, .int .i64 (-70)] 2)).cell? ⟨gb, 1, none⟩ = some (.slice pi5 ni5 ci5) := (Hb7.out.alloc _).cell 1
  have b2 : WD.cell? ⟨gb, 2, none⟩ = some (.slice none 0 0) := Hb7.out.cell 2
  have b2n : (WD.alloc (.cells #[.int .i64 70, .int .i64 (-70)] 2)).cell? ⟨gb, 2, none⟩ = some (.slice none 0 0) := (Hb7.out.alloc _).cell 2
  have e10n : (WD.alloc (.cells #[.int .i64 70, .int .i64 (-70)] 2)).cell? ⟨bo, oo + 10, none⟩ = some (.slice lp 1 lc) := (Qo7.out.kept (oneB WD (.cells #[.int .i64 70, .int .i64 (-70)] 2))).cell 10 (by decide)
  refine wpAnyH_ready (rs := [0, 1, 7]) (by kernel_rfl) (by simp) ?_
  refine AllReadyH.cons rfl (fun K hK => ?_) (AllReadyH.cons rfl (fun K hK => ?_) (AllReadyH.cons rfl (fun K hK => ?_) AllReadyH.nil))
  ·skip
   go_simp
   refine hK.out _ _ (Qo7.out.cell 10 (by decide)) (fun hS => ?_)
   clear hK K
   try simp only [Act.put, List.getElem_toArray, List.getElem_cons_succ, List.getElem_cons_zero, List.setIfInBounds_toArray, List.set_cons_zero, List.set_cons_succ]
   refine wpAnyH_ready (rs := [1, 7]) (by kernel_rfl) (by simp) ?_
   refine AllReadyH.cons rfl (fun K hK => ?_) (AllReadyH.cons rfl (fun K hK => ?_) AllReadyH.nil)
   ·skip
    go_simp
    refine hK.out _ _ (Qo7.out.cell 10 (by decide)) (fun hS => ?_)
    clear hK K
    try simp only [Act.put, List.getElem_toArray, List.getElem_cons_succ, List.getElem_cons_zero, List.setIfInBounds_toArray, List.set_cons_zero, List.set_cons_succ]
    refine rdq 7 (fun K hK => ?_)
    go_simp
    refine hK.out _ _ e10n (fun hS => ?_)
    clear hK K
    try simp only [Act.put, List.getElem_toArray, List.getElem_cons_succ, List.getElem_cons_zero, List.setIfInBounds_toArray, List.set_cons_zero, List.set_cons_succ]
    refine tkq 8 ?_
    clear hS
    have hbm := oneB WD (.cells #[.int .i64 70, .int .i64 (-70)] 2)
    have Hb8 := kbq Hb7 hbm
    have Hp8 := kbq Hp7 hbm
    have Qv8 := Lib.hid (Qv7.out.kept hbm)
    have Qo8 := Lib.hid (Qo7.out.kept hbm)
    have HB8 := ktq HB7 hbm
    have HZ8 : Hid (w.heap.size ≤ (WD.alloc (.cells #[.int .i64 70, .int .i64 (-70)] 2)).heap.size) := Lib.hid HB8.out.size
    have HNS : Hid (Row .i64 (WD.alloc (.cells #[.int .i64 70, .int .i64 (-70)] 2)) (.slice (some ⟨WD.heap.size, 0, none⟩) 2 2) [70, -70]) := Lib.hid row_two (Blk.new WD #[.int .i64 70, .int .i64 (-70)] 2)
    have hS0 := e10n
    clear hbm a0 a0n a1 a1n a2 a2n b0 b0n b1 b1n b2 b2n e10n Hb7 Hp7 Qv7 Qo7 HB7 HZ7
    generalize (WD.alloc (.cells #[.int .i64 70, .int .i64 (-70)] 2)) = WN at *
    generalize WD.heap.size = gn at *
    refine rdq 9 (fun K hK => ?_)
    have HG := Lib.hid (vdo_q WN (NotIn [gb, gp]) 0 2 0 p5 n5 c5 pi5 ni5 ci5 none 0 0 _ _ (⟨mPre, lp, lc, some ⟨gn, 0, none⟩, 2⟩ : MsgX) 2 Qv8.out (fun b hb hm => by have h1 := Hp8.out.lt; have h2 := HGB.out; simp only [List.mem_cons, List.not_mem_nil, or_false] at hm; omega) (by decide) (by decide) ⟨Qo8.out.2.1, HNS.out, mPre_fit⟩ (by show 1 ≤ 2000; decide) (by show 2 ≤ 100000; decide))
    unfold Msg.v at HG
    go_simp
    go_at_call 9
    refine HG.out.mono ?_
    rintro y9 w6 ⟨hb, p6, n6, c6, pi6, ni6, ci6, pv6, nv6, cv6, ps6, xs6, out6, e6, rfl, hv, hnv, hsd, hG⟩
    clear HG
    obtain ⟨rfl, rfl, rfl, lq, lk, rfl⟩ := votes2 hG
    clear hG
    have hn9 : nv6 = 1 := hnv
    clear hnv
    subst hn9
    obtain ⟨bq, oq, hpv, hsc⟩ := sd_one hsd
    subst hpv
    clear Qv8 hsd HNS
    have Hb9 := kbq Hb8 hb
    have Hp9 := kbq Hp8 hb
    have Qo9 := Lib.hid (Qo8.out.kept hb)
    have HB9 := ktq HB8 hb
    have HZ9 := kzq HZ8 hb.size
    clear Hb8 Hp8 Qo8 HB8 HZ8
    clear hb hS0
    have Qv9 := Lib.hid hv
    have Qs9 := Lib.hid hsc
    clear hv hsc
    try go_wp2_with fail
    refine hK.out _ _ (Qo9.out.cell 10 (by decide)) (fun hS0 => ?_)
    clear hK K
    try simp only [Act.put, List.getElem_toArray, List.getElem_cons_succ, List.getElem_cons_zero, List.setIfInBounds_toArray, List.set_cons_zero, List.set_cons_succ]
    refine tkq 10 ?_
    refine tkq 11 ?_
    refine tkq 12 ?_
    refine tkq 13 ?_
    refine tkq 14 ?_
    refine rdq 15 (fun K hK => ?_)
    have z0 : w6.cell? ⟨gp, 0, none⟩ = some (.int .i64 0) := Hp9.out.cell 0
    have z1 : w6.cell? ⟨gp, 1, none⟩ = some (.int .i64 2) := Hp9.out.cell 1
    have z2 : w6.cell? ⟨gp, 2, none⟩ = some (.slice p5 n5 c5) := Hp9.out.cell 2
    have f0 := Hp9.out.free 0
    have f1 := Hp9.out.free 1
    have f2 := Hp9.out.free 2
    go_simp
    clear z0 f0 z1 f1 z2 f2
    have hch := Lib.hid ((((Chg.refl gp w6).set 0 (.int .i64 0)).set 1 (.int .i64 2)).set 2 (.slice p6 n6 c6))
    have Hp10 : Hid (Blk _ gp #[.int .i64 0, .int .i64 2, .slice p6 n6 c6] 36) := Lib.hid (((Hp9.out.set 0 (.int .i64 0)).set 1 (.int .i64 2)).set 2 (.slice p6 n6 c6))
    have HB10 := ksq HB9 hch (by show w.heap.size ≤ gp; have h9 := HGB.out; omega)
    have HZ10 := kzq HZ9 hch.out.size
    have Hb10 := kcq Hb9 hch (by have h9 := HGB.out; omega)
    have Qo10 := Lib.hid (Qo9.out.chg hch.out (notIn_self (by simp)))
    have Qv10 := Lib.hid (Qv9.out.chg hch.out (notIn_self (by simp)))
    have Qs10 := Lib.hid (Qs9.out.chg hch.out (notIn_self (by simp)))
    clear hch hS0 Hb9 Hp9 Qo9 Qv9 Qs9 HB9 HZ9
    generalize (((w6.setCell ⟨gp, 0, none⟩ (.int .i64 0)).setCell ⟨gp, 1, none⟩ (.int .i64 2)).setCell ⟨gp, 2, none⟩ (.slice p6 n6 c6)) = WP at *
    refine hK.out _ _ (Qo10.out.cell 10 (by decide)) (fun hS0 => ?_)
    clear hK K
    try simp only [Act.put, List.getElem_toArray, List.getElem_cons_succ, List.getElem_cons_zero, List.setIfInBounds_toArray, List.set_cons_zero, List.set_cons_succ]
    refine rdq 16 (fun K hK => ?_)
    have z0 : WP.cell? ⟨gb, 0, none⟩ = some (.int .i64 0) := Hb10.out.cell 0
    have z1 : WP.cell? ⟨gb, 1, none⟩ = some (.slice pi5 ni5 ci5) := Hb10.out.cell 1
    have z2 : WP.cell? ⟨gb, 2, none⟩ = some (.slice none 0 0) := Hb10.out.cell 2
    have f0 := Hb10.out.free 0
    have f1 := Hb10.out.free 1
    have f2 := Hb10.out.free 2
    go_simp
    clear z0 f0 z1 f1 z2 f2
    have hch := Lib.hid ((((Chg.refl gb WP).set 0 (.int .i64 0)).set 1 (.slice pi6 ni6 ci6)).set 2 (.slice none 0 0))
    have Hb11 : Hid (Blk _ gb #[.int .i64 0, .slice pi6 ni6 ci6, .slice none 0 0] 28) := Lib.hid (((Hb10.out.set 0 (.int .i64 0)).set 1 (.slice pi6 ni6 ci6)).set 2 (.slice none 0 0))
    have HB11 := ksq HB10 hch (by show w.heap.size ≤ gb; have h9 := HGB.out; omega)
    have HZ11 := kzq HZ10 hch.out.size
    have Hp11 := kcq Hp10 hch (by have h9 := HGB.out; omega)
    have Qo11 := Lib.hid (Qo10.out.chg hch.out (notIn_self (by simp)))
    have Qv11 := Lib.hid (Qv10.out.chg hch.out (notIn_self (by simp)))
    have Qs11 := Lib.hid (Qs10.out.chg hch.out (notIn_self (by simp)))
    clear hch hS0 Hb10 Hp10 Qo10 Qv10 Qs10 HB10 HZ10
    generalize (((WP.setCell ⟨gb, 0, none⟩ (.int .i64 0)).setCell ⟨gb, 1, none⟩ (.slice pi6 ni6 ci6)).setCell ⟨gb, 2, none⟩ (.slice none 0 0)) = WQ at *
    refine hK.out _ _ (Qo11.out.cell 10 (by decide)) (fun hS0 => ?_)
    clear hK K
    try simp only [Act.put, List.getElem_toArray, List.getElem_cons_succ, List.getElem_cons_zero, List.setIfInBounds_toArray, List.set_cons_zero, List.set_cons_succ]
    refine tkq 17 ?_
    refine tkq 18 ?_
    refine wpAnyH_done (by kernel_rfl) ?_ _
    clear hS0
    go_wp2_with fail
    go_meet
    case rel => exact ⟨p6, n6, c6, pi6, ni6, ci6, bq, oq, cv6, lq, lk, rfl, rfl, Hp11.out, Hb11.out, Qv11.out, Qs11.out, HB11.out⟩
   ·skip
    go_simp
    refine hK.out _ _ e10n (fun hS => ?_)
    clear hK K
    try simp only [Act.put, List.getElem_toArray, List.getElem_cons_succ, List.getElem_cons_zero, List.setIfInBounds_toArray, List.set_cons_zero, List.set_cons_succ]
    refine tkq 8 ?_
    refine rdq 1 (fun K hK => ?_)
    go_simp
    refine hK.out _ _ e10n (fun hS => ?_)
    clear hK K
    try simp only [Act.put, List.getElem_toArray, List.getElem_cons_succ, List.getElem_cons_zero, List.setIfInBounds_toArray, List.set_cons_zero, List.set_cons_succ]
    clear hS
    have hbm := oneB WD (.cells #[.int .i64 70, .int .i64 (-70)] 2)
    have Hb8 := kbq Hb7 hbm
    have Hp8 := kbq Hp7 hbm
    have Qv8 := Lib.hid (Qv7.out.kept hbm)
    have Qo8 := Lib.hid (Qo7.out.kept hbm)
    have HB8 := ktq HB7 hbm
    have HZ8 : Hid (w.heap.size ≤ (WD.alloc (.cells #[.int .i64 70, .int .i64 (-70)] 2)).heap.size) := Lib.hid HB8.out.size
    have HNS : Hid (Row .i64 (WD.alloc (.cells #[.int .i64 70, .int .i64 (-70)] 2)) (.slice (some ⟨WD.heap.size, 0, none⟩) 2 2) [70, -70]) := Lib.hid row_two (Blk.new WD #[.int .i64 70, .int .i64 (-70)] 2)
    have hS0 := e10n
    clear hbm a0 a0n a1 a1n a2 a2n b0 b0n b1 b1n b2 b2n e10n Hb7 Hp7 Qv7 Qo7 HB7 HZ7
    generalize (WD.alloc (.cells #[.int .i64 70, .int .i64 (-70)] 2)) = WN at *
    generalize WD.heap.size = gn at *
    refine rdq 9 (fun K hK => ?_)
    have HG := Lib.hid (vdo_q WN (NotIn [gb, gp]) 0 2 0 p5 n5 c5 pi5 ni5 ci5 none 0 0 _ _ (⟨mPre, lp, lc, some ⟨gn, 0, none⟩, 2⟩ : MsgX) 2 Qv8.out (fun b hb hm => by have h1 := Hp8.out.lt; have h2 := HGB.out; simp only [List.mem_cons, List.not_mem_nil, or_false] at hm; omega) (by decide) (by decide) ⟨Qo8.out.2.1, HNS.out, mPre_fit⟩ (by show 1 ≤ 2000; decide) (by show 2 ≤ 100000; decide))
    unfold Msg.v at HG
    go_simp
    go_at_call 9
    refine HG.out.mono ?_
    rintro y9 w6 ⟨hb, p6, n6, c6, pi6, ni6, ci6, pv6, nv6, cv6, ps6, xs6, out6, e6, rfl, hv, hnv, hsd, hG⟩
    clear HG
    obtain ⟨rfl, rfl, rfl, lq, lk, rfl⟩ := votes2 hG
    clear hG
    have hn9 : nv6 = 1 := hnv
    clear hnv
    subst hn9
    obtain ⟨bq, oq, hpv, hsc⟩ := sd_one hsd
    subst hpv
    clear Qv8 hsd HNS
    have Hb9 := kbq Hb8 hb
    have Hp9 := kbq Hp8 hb
    have Qo9 := Lib.hid (Qo8.out.kept hb)
    have HB9 := ktq HB8 hb
    have HZ9 := kzq HZ8 hb.size
    clear Hb8 Hp8 Qo8 HB8 HZ8
    clear hb hS0
    have Qv9 := Lib.hid hv
    have Qs9 := Lib.hid hsc
    clear hv hsc
    try go_wp2_with fail
    refine hK.out _ _ (Qo9.out.cell 10 (by decide)) (fun hS0 => ?_)
    clear hK K
    try simp only [Act.put, List.getElem_toArray, List.getElem_cons_succ, List.getElem_cons_zero, List.setIfInBounds_toArray, List.set_cons_zero, List.set_cons_succ]
    refine tkq 10 ?_
    refine tkq 11 ?_
    refine tkq 12 ?_
    refine tkq 13 ?_
    refine tkq 14 ?_
    refine rdq 15 (fun K hK => ?_)
    have z0 : w6.cell? ⟨gp, 0, none⟩ = some (.int .i64 0) := Hp9.out.cell 0
    have z1 : w6.cell? ⟨gp, 1, none⟩ = some (.int .i64 2) := Hp9.out.cell 1
    have z2 : w6.cell? ⟨gp, 2, none⟩ = some (.slice p5 n5 c5) := Hp9.out.cell 2
    have f0 := Hp9.out.free 0
    have f1 := Hp9.out.free 1
    have f2 := Hp9.out.free 2
    go_simp
    clear z0 f0 z1 f1 z2 f2
    have hch := Lib.hid ((((Chg.refl gp w6).set 0 (.int .i64 0)).set 1 (.int .i64 2)).set 2 (.slice p6 n6 c6))
    have Hp10 : Hid (Blk _ gp #[.int .i64 0, .int .i64 2, .slice p6 n6 c6] 36) := Lib.hid (((Hp9.out.set 0 (.int .i64 0)).set 1 (.int .i64 2)).set 2 (.slice p6 n6 c6))
    have HB10 := ksq HB9 hch (by show w.heap.size ≤ gp; have h9 := HGB.out; omega)
    have HZ10 := kzq HZ9 hch.out.size
    have Hb10 := kcq Hb9 hch (by have h9 := HGB.out; omega)
    have Qo10 := Lib.hid (Qo9.out.chg hch.out (notIn_self (by simp)))
    have Qv10 := Lib.hid (Qv9.out.chg hch.out (notIn_self (by simp)))
    have Qs10 := Lib.hid (Qs9.out.chg hch.out (notIn_self (by simp)))
    clear hch hS0 Hb9 Hp9 Qo9 Qv9 Qs9 HB9 HZ9
    generalize (((w6.setCell ⟨gp, 0, none⟩ (.int .i64 0)).setCell ⟨gp, 1, none⟩ (.int .i64 2)).setCell ⟨gp, 2, none⟩ (.slice p6 n6 c6)) = WP at *
    refine hK.out _ _ (Qo10.out.cell 10 (by decide)) (fun hS0 => ?_)
    clear hK K
    try simp only [Act.put, List.getElem_toArray, List.getElem_cons_succ, List.getElem_cons_zero, List.setIfInBounds_toArray, List.set_cons_zero, List.set_cons_succ]
    refine rdq 16 (fun K hK => ?_)
    have z0 : WP.cell? ⟨gb, 0, none⟩ = some (.int .i64 0) := Hb10.out.cell 0
    have z1 : WP.cell? ⟨gb, 1, none⟩ = some (.slice pi5 ni5 ci5) := Hb10.out.cell 1
    have z2 : WP.cell? ⟨gb, 2, none⟩ = some (.slice none 0 0) := Hb10.out.cell 2
    have f0 := Hb10.out.free 0
    have f1 := Hb10.out.free 1
    have f2 := Hb10.out.free 2
    go_simp
    clear z0 f0 z1 f1 z2 f2
    have hch := Lib.hid ((((Chg.refl gb WP).set 0 (.int .i64 0)).set 1 (.slice pi6 ni6 ci6)).set 2 (.slice none 0 0))
    have Hb11 : Hid (Blk _ gb #[.int .i64 0, .slice pi6 ni6 ci6, .slice none 0 0] 28) := Lib.hid (((Hb10.out.set 0 (.int .i64 0)).set 1 (.slice pi6 ni6 ci6)).set 2 (.slice none 0 0))
    have HB11 := ksq HB10 hch (by show w.heap.size ≤ gb; have h9 := HGB.out; omega)
    have HZ11 := kzq HZ10 hch.out.size
    have Hp11 := kcq Hp10 hch (by have h9 := HGB.out; omega)
    have Qo11 := Lib.hid (Qo10.out.chg hch.out (notIn_self (by simp)))
    have Qv11 := Lib.hid (Qv10.out.chg hch.out (notIn_self (by simp)))
    have Qs11 := Lib.hid (Qs10.out.chg hch.out (notIn_self (by simp)))
    clear hch hS0 Hb10 Hp10 Qo10 Qv10 Qs10 HB10 HZ10
    generalize (((WP.setCell ⟨gb, 0, none⟩ (.int .i64 0)).setCell ⟨gb, 1, none⟩ (.slice pi6 ni6 ci6)).setCell ⟨gb, 2, none⟩ (.slice none 0 0)) = WQ at *
    refine hK.out _ _ (Qo11.out.cell 10 (by decide)) (fun hS0 => ?_)
    clear hK K
    try simp only [Act.put, List.getElem_toArray, List.getElem_cons_succ, List.getElem_cons_zero, List.setIfInBounds_toArray, List.set_cons_zero, List.set_cons_succ]
    refine tkq 17 ?_
    refine tkq 18 ?_
    refine wpAnyH_done (by kernel_rfl) ?_ _
    clear hS0
    go_wp2_with fail
    go_meet
    case rel => exact ⟨p6, n6, c6, pi6, ni6, ci6, bq, oq, cv6, lq, lk, rfl, rfl, Hp11.out, Hb11.out, Qv11.out, Qs11.out, HB11.out⟩
  ·skip
   go_simp
   refine hK.out _ _ (Qo7.out.cell 10 (by decide)) (fun hS => ?_)
   clear hK K
   try simp only [Act.put, List.getElem_toArray, List.getElem_cons_succ, List.getElem_cons_zero, List.setIfInBounds_toArray, List.set_cons_zero, List.set_cons_succ]
   refine wpAnyH_ready (rs := [0, 7]) (by kernel_rfl) (by simp) ?_
   refine AllReadyH.cons rfl (fun K hK => ?_) (AllReadyH.cons rfl (fun K hK => ?_) AllReadyH.nil)
   ·skip
    go_simp
    refine hK.out _ _ (Qo7.out.cell 10 (by decide)) (fun hS => ?_)
    clear hK K
    try simp only [Act.put, List.getElem_toArray, List.getElem_cons_succ, List.getElem_cons_zero, List.setIfInBounds_toArray, List.set_cons_zero, List.set_cons_succ]
    refine rdq 7 (fun K hK => ?_)
    go_simp
    refine hK.out _ _ e10n (fun hS => ?_)
    clear hK K
    try simp only [Act.put, List.getElem_toArray, List.getElem_cons_succ, List.getElem_cons_zero, List.setIfInBounds_toArray, List.set_cons_zero, List.set_cons_succ]
    refine tkq 8 ?_
    clear hS
    have hbm := oneB WD (.cells #[.int .i64 70, .int .i64 (-70)] 2)
    have Hb8 := kbq Hb7 hbm
    have Hp8 := kbq Hp7 hbm
    have Qv8 := Lib.hid (Qv7.out.kept hbm)
    have Qo8 := Lib.hid (Qo7.out.kept hbm)
    have HB8 := ktq HB7 hbm
    have HZ8 : Hid (w.heap.size ≤ (WD.alloc (.cells #[.int .i64 70, .int .i64 (-70)] 2)).heap.size) := Lib.hid HB8.out.size
    have HNS : Hid (Row .i64 (WD.alloc (.cells #[.int .i64 70, .int .i64 (-70)] 2)) (.slice (some ⟨WD.heap.size, 0, none⟩) 2 2) [70, -70]) := Lib.hid row_two (Blk.new WD #[.int .i64 70, .int .i64 (-70)] 2)
    have hS0 := e10n
    clear hbm a0 a0n a1 a1n a2 a2n b0 b0n b1 b1n b2 b2n e10n Hb7 Hp7 Qv7 Qo7 HB7 HZ7
    generalize (WD.alloc (.cells #[.int .i64 70, .int .i64 (-70)] 2)) = WN at *
    generalize WD.heap.size = gn at *
    refine rdq 9 (fun K hK => ?_)
    have HG := Lib.hid (vdo_q WN (NotIn [gb, gp]) 0 2 0 p5 n5 c5 pi5 ni5 ci5 none 0 0 _ _ (⟨mPre, lp, lc, some ⟨gn, 0, none⟩, 2⟩ : MsgX) 2 Qv8.out (fun b hb hm => by have h1 := Hp8.out.lt; have h2 := HGB.out; simp only [List.mem_cons, List.not_mem_nil, or_false] at hm; omega) (by decide) (by decide) ⟨Qo8.out.2.1, HNS.out, mPre_fit⟩ (by show 1 ≤ 2000; decide) (by show 2 ≤ 100000; decide))
    unfold Msg.v at HG
    go_simp
    go_at_call 9
    refine HG.out.mono ?_
    rintro y9 w6 ⟨hb, p6, n6, c6, pi6, ni6, ci6, pv6, nv6, cv6, ps6, xs6, out6, e6, rfl, hv, hnv, hsd, hG⟩
    clear HG
    obtain ⟨rfl, rfl, rfl, lq, lk, rfl⟩ := votes2 hG
    clear hG
    have hn9 : nv6 = 1 := hnv
    clear hnv
    subst hn9
    obtain ⟨bq, oq, hpv, hsc⟩ := sd_one hsd
    subst hpv
    clear Qv8 hsd HNS
    have Hb9 := kbq Hb8 hb
    have Hp9 := kbq Hp8 hb
    have Qo9 := Lib.hid (Qo8.out.kept hb)
    have HB9 := ktq HB8 hb
    have HZ9 := kzq HZ8 hb.size
    clear Hb8 Hp8 Qo8 HB8 HZ8
    clear hb hS0
    have Qv9 := Lib.hid hv
    have Qs9 := Lib.hid hsc
    clear hv hsc
    try go_wp2_with fail
    refine hK.out _ _ (Qo9.out.cell 10 (by decide)) (fun hS0 => ?_)
    clear hK K
    try simp only [Act.put, List.getElem_toArray, List.getElem_cons_succ, List.getElem_cons_zero, List.setIfInBounds_toArray, List.set_cons_zero, List.set_cons_succ]
    refine tkq 10 ?_
    refine tkq 11 ?_
    refine tkq 12 ?_
    refine tkq 13 ?_
    refine tkq 14 ?_
    refine rdq 15 (fun K hK => ?_)
    have z0 : w6.cell? ⟨gp, 0, none⟩ = some (.int .i64 0) := Hp9.out.cell 0
    have z1 : w6.cell? ⟨gp, 1, none⟩ = some (.int .i64 2) := Hp9.out.cell 1
    have z2 : w6.cell? ⟨gp, 2, none⟩ = some (.slice p5 n5 c5) := Hp9.out.cell 2
    have f0 := Hp9.out.free 0
    have f1 := Hp9.out.free 1
    have f2 := Hp9.out.free 2
    go_simp
    clear z0 f0 z1 f1 z2 f2
    have hch := Lib.hid ((((Chg.refl gp w6).set 0 (.int .i64 0)).set 1 (.int .i64 2)).set 2 (.slice p6 n6 c6))
    have Hp10 : Hid (Blk _ gp #[.int .i64 0, .int .i64 2, .slice p6 n6 c6] 36) := Lib.hid (((Hp9.out.set 0 (.int .i64 0)).set 1 (.int .i64 2)).set 2 (.slice p6 n6 c6))
    have HB10 := ksq HB9 hch (by show w.heap.size ≤ gp; have h9 := HGB.out; omega)
    have HZ10 := kzq HZ9 hch.out.size
    have Hb10 := kcq Hb9 hch (by have h9 := HGB.out; omega)
    have Qo10 := Lib.hid (Qo9.out.chg hch.out (notIn_self (by simp)))
    have Qv10 := Lib.hid (Qv9.out.chg hch.out (notIn_self (by simp)))
    have Qs10 := Lib.hid (Qs9.out.chg hch.out (notIn_self (by simp)))
    clear hch hS0 Hb9 Hp9 Qo9 Qv9 Qs9 HB9 HZ9
    generalize (((w6.setCell ⟨gp, 0, none⟩ (.int .i64 0)).setCell ⟨gp, 1, none⟩ (.int .i64 2)).setCell ⟨gp, 2, none⟩ (.slice p6 n6 c6)) = WP at *
    refine hK.out _ _ (Qo10.out.cell 10 (by decide)) (fun hS0 => ?_)
    clear hK K
    try simp only [Act.put, List.getElem_toArray, List.getElem_cons_succ, List.getElem_cons_zero, List.setIfInBounds_toArray, List.set_cons_zero, List.set_cons_succ]
    refine rdq 16 (fun K hK => ?_)
    have z0 : WP.cell? ⟨gb, 0, none⟩ = some (.int .i64 0) := Hb10.out.cell 0
    have z1 : WP.cell? ⟨gb, 1, none⟩ = some (.slice pi5 ni5 ci5) := Hb10.out.cell 1
    have z2 : WP.cell? ⟨gb, 2, none⟩ = some (.slice none 0 0) := Hb10.out.cell 2
    have f0 := Hb10.out.free 0
    have f1 := Hb10.out.free 1
    have f2 := Hb10.out.free 2
    go_simp
    clear z0 f0 z1 f1 z2 f2
    have hch := Lib.hid ((((Chg.refl gb WP).set 0 (.int .i64 0)).set 1 (.slice pi6 ni6 ci6)).set 2 (.slice none 0 0))
    have Hb11 : Hid (Blk _ gb #[.int .i64 0, .slice pi6 ni6 ci6, .slice none 0 0] 28) := Lib.hid (((Hb10.out.set 0 (.int .i64 0)).set 1 (.slice pi6 ni6 ci6)).set 2 (.slice none 0 0))
    have HB11 := ksq HB10 hch (by show w.heap.size ≤ gb; have h9 := HGB.out; omega)
    have HZ11 := kzq HZ10 hch.out.size
    have Hp11 := kcq Hp10 hch (by have h9 := HGB.out; omega)
    have Qo11 := Lib.hid (Qo10.out.chg hch.out (notIn_self (by simp)))
    have Qv11 := Lib.hid (Qv10.out.chg hch.out (notIn_self (by simp)))
    have Qs11 := Lib.hid (Qs10.out.chg hch.out (notIn_self (by simp)))
    clear hch hS0 Hb10 Hp10 Qo10 Qv10 Qs10 HB10 HZ10
    generalize (((WP.setCell ⟨gb, 0, none⟩ (.int .i64 0)).setCell ⟨gb, 1, none⟩ (.slice pi6 ni6 ci6)).setCell ⟨gb, 2, none⟩ (.slice none 0 0)) = WQ at *
    refine hK.out _ _ (Qo11.out.cell 10 (by decide)) (fun hS0 => ?_)
    clear hK K
    try simp only [Act.put, List.getElem_toArray, List.getElem_cons_succ, List.getElem_cons_zero, List.setIfInBounds_toArray, List.set_cons_zero, List.set_cons_succ]
    refine tkq 17 ?_
    refine tkq 18 ?_
    refine wpAnyH_done (by kernel_rfl) ?_ _
    clear hS0
    go_wp2_with fail
    go_meet
    case rel => exact ⟨p6, n6, c6, pi6, ni6, ci6, bq, oq, cv6, lq, lk, rfl, rfl, Hp11.out, Hb11.out, Qv11.out, Qs11.out, HB11.out⟩
   ·skip
    go_simp
    refine hK.out _ _ e10n (fun hS => ?_)
    clear hK K
    try simp only [Act.put, List.getElem_toArray, List.getElem_cons_succ, List.getElem_cons_zero, List.setIfInBounds_toArray, List.set_cons_zero, List.set_cons_succ]
    refine tkq 8 ?_
    refine rdq 0 (fun K hK => ?_)
    go_simp
    refine hK.out _ _ e10n (fun hS => ?_)
    clear hK K
    try simp only [Act.put, List.getElem_toArray, List.getElem_cons_succ, List.getElem_cons_zero, List.setIfInBounds_toArray, List.set_cons_zero, List.set_cons_succ]
    clear hS
    have hbm := oneB WD (.cells #[.int .i64 70, .int .i64 (-70)] 2)
    have Hb8 := kbq Hb7 hbm
    have Hp8 := kbq Hp7 hbm
    have Qv8 := Lib.hid (Qv7.out.kept hbm)
    have Qo8 := Lib.hid (Qo7.out.kept hbm)
    have HB8 := ktq HB7 hbm
    have HZ8 : Hid (w.heap.size ≤ (WD.alloc (.cells #[.int .i64 70, .int .i64 (-70)] 2)).heap.size) := Lib.hid HB8.out.size
    have HNS : Hid (Row .i64 (WD.alloc (.cells #[.int .i64 70, .int .i64 (-70)] 2)) (.slice (some ⟨WD.heap.size, 0, none⟩) 2 2) [70, -70]) := Lib.hid row_two (Blk.new WD #[.int .i64 70, .int .i64 (-70)] 2)
    have hS0 := e10n
    clear hbm a0 a0n a1 a1n a2 a2n b0 b0n b1 b1n b2 b2n e10n Hb7 Hp7 Qv7 Qo7 HB7 HZ7
    generalize (WD.alloc (.cells #[.int .i64 70, .int .i64 (-70)] 2)) = WN at *
    generalize WD.heap.size = gn at *
    refine rdq 9 (fun K hK => ?_)
    have HG := Lib.hid (vdo_q WN (NotIn [gb, gp]) 0 2 0 p5 n5 c5 pi5 ni5 ci5 none 0 0 _ _ (⟨mPre, lp, lc, some ⟨gn, 0, none⟩, 2⟩ : MsgX) 2 Qv8.out (fun b hb hm => by have h1 := Hp8.out.lt; have h2 := HGB.out; simp only [List.mem_cons, List.not_mem_nil, or_false] at hm; omega) (by decide) (by decide) ⟨Qo8.out.2.1, HNS.out, mPre_fit⟩ (by show 1 ≤ 2000; decide) (by show 2 ≤ 100000; decide))
    unfold Msg.v at HG
    go_simp
    go_at_call 9
    refine HG.out.mono ?_
    rintro y9 w6 ⟨hb, p6, n6, c6, pi6, ni6, ci6, pv6, nv6, cv6, ps6, xs6, out6, e6, rfl, hv, hnv, hsd, hG⟩
    clear HG
    obtain ⟨rfl, rfl, rfl, lq, lk, rfl⟩ := votes2 hG
    clear hG
    have hn9 : nv6 = 1 := hnv
    clear hnv
    subst hn9
    obtain ⟨bq, oq, hpv, hsc⟩ := sd_one hsd
    subst hpv
    clear Qv8 hsd HNS
    have Hb9 := kbq Hb8 hb
    have Hp9 := kbq Hp8 hb
    have Qo9 := Lib.hid (Qo8.out.kept hb)
    have HB9 := ktq HB8 hb
    have HZ9 := kzq HZ8 hb.size
    clear Hb8 Hp8 Qo8 HB8 HZ8
    clear hb hS0
    have Qv9 := Lib.hid hv
    have Qs9 := Lib.hid hsc
    clear hv hsc
    try go_wp2_with fail
    refine hK.out _ _ (Qo9.out.cell 10 (by decide)) (fun hS0 => ?_)
    clear hK K
    try simp only [Act.put, List.getElem_toArray, List.getElem_cons_succ, List.getElem_cons_zero, List.setIfInBounds_toArray, List.set_cons_zero, List.set_cons_succ]
    refine tkq 10 ?_
    refine tkq 11 ?_
    refine tkq 12 ?_
    refine tkq 13 ?_
    refine tkq 14 ?_
    refine rdq 15 (fun K hK => ?_)
    have z0 : w6.cell? ⟨gp, 0, none⟩ = some (.int .i64 0) := Hp9.out.cell 0
    have z1 : w6.cell? ⟨gp, 1, none⟩ = some (.int .i64 2) := Hp9.out.cell 1
    have z2 : w6.cell? ⟨gp, 2, none⟩ = some (.slice p5 n5 c5) := Hp9.out.cell 2
    have f0 := Hp9.out.free 0
    have f1 := Hp9.out.free 1
    have f2 := Hp9.out.free 2
    go_simp
    clear z0 f0 z1 f1 z2 f2
    have hch := Lib.hid ((((Chg.refl gp w6).set 0 (.int .i64 0)).set 1 (.int .i64 2)).set 2 (.slice p6 n6 c6))
    have Hp10 : Hid (Blk _ gp #[.int .i64 0, .int .i64 2, .slice p6 n6 c6] 36) := Lib.hid (((Hp9.out.set 0 (.int .i64 0)).set 1 (.int .i64 2)).set 2 (.slice p6 n6 c6))
    have HB10 := ksq HB9 hch (by show w.heap.size ≤ gp; have h9 := HGB.out; omega)
    have HZ10 := kzq HZ9 hch.out.size
    have Hb10 := kcq Hb9 hch (by have h9 := HGB.out; omega)
    have Qo10 := Lib.hid (Qo9.out.chg hch.out (notIn_self (by simp)))
    have Qv10 := Lib.hid (Qv9.out.chg hch.out (notIn_self (by simp)))
    have Qs10 := Lib.hid (Qs9.out.chg hch.out (notIn_self (by simp)))
    clear hch hS0 Hb9 Hp9 Qo9 Qv9 Qs9 HB9 HZ9
    generalize (((w6.setCell ⟨gp, 0, none⟩ (.int .i64 0)).setCell ⟨gp, 1, none⟩ (.int .i64 2)).setCell ⟨gp, 2, none⟩ (.slice p6 n6 c6)) = WP at *
    refine hK.out _ _ (Qo10.out.cell 10 (by decide)) (fun hS0 => ?_)
    clear hK K
    try simp only [Act.put, List.getElem_toArray, List.getElem_cons_succ, List.getElem_cons_zero, List.setIfInBounds_toArray, List.set_cons_zero, List.set_cons_succ]
    refine rdq 16 (fun K hK => ?_)
    have z0 : WP.cell? ⟨gb, 0, none⟩ = some (.int .i64 0) := Hb10.out.cell 0
    have z1 : WP.cell? ⟨gb, 1, none⟩ = some (.slice pi5 ni5 ci5) := Hb10.out.cell 1
    have z2 : WP.cell? ⟨gb, 2, none⟩ = some (.slice none 0 0) := Hb10.out.cell 2
    have f0 := Hb10.out.free 0
    have f1 := Hb10.out.free 1
    have f2 := Hb10.out.free 2
    go_simp
    clear z0 f0 z1 f1 z2 f2
    have hch := Lib.hid ((((Chg.refl gb WP).set 0 (.int .i64 0)).set 1 (.slice pi6 ni6 ci6)).set 2 (.slice none 0 0))
    have Hb11 : Hid (Blk _ gb #[.int .i64 0, .slice pi6 ni6 ci6, .slice none 0 0] 28) := Lib.hid (((Hb10.out.set 0 (.int .i64 0)).set 1 (.slice pi6 ni6 ci6)).set 2 (.slice none 0 0))
    have HB11 := ksq HB10 hch (by show w.heap.size ≤ gb; have h9 := HGB.out; omega)
    have HZ11 := kzq HZ10 hch.out.size
    have Hp11 := kcq Hp10 hch (by have h9 := HGB.out; omega)
    have Qo11 := Lib.hid (Qo10.out.chg hch.out (notIn_self (by simp)))
    have Qv11 := Lib.hid (Qv10.out.chg hch.out (notIn_self (by simp)))
    have Qs11 := Lib.hid (Qs10.out.chg hch.out (notIn_self (by simp)))
    clear hch hS0 Hb10 Hp10 Qo10 Qv10 Qs10 HB10 HZ10
    generalize (((WP.setCell ⟨gb, 0, none⟩ (.int .i64 0)).setCell ⟨gb, 1, none⟩ (.slice pi6 ni6 ci6)).setCell ⟨gb, 2, none⟩ (.slice none 0 0)) = WQ at *
    refine hK.out _ _ (Qo11.out.cell 10 (by decide)) (fun hS0 => ?_)
    clear hK K
    try simp only [Act.put, List.getElem_toArray, List.getElem_cons_succ, List.getElem_cons_zero, List.setIfInBounds_toArray, List.set_cons_zero, List.set_cons_succ]
    refine tkq 17 ?_
    refine tkq 18 ?_
    refine wpAnyH_done (by kernel_rfl) ?_ _
    clear hS0
    go_wp2_with fail
    go_meet
    case rel => exact ⟨p6, n6, c6, pi6, ni6, ci6, bq, oq, cv6, lq, lk, rfl, rfl, Hp11.out, Hb11.out, Qv11.out, Qs11.out, HB11.out⟩
  ·skip
   go_simp
   refine hK.out _ _ e10n (fun hS => ?_)
   clear hK K
   try simp only [Act.put, List.getElem_toArray, List.getElem_cons_succ, List.getElem_cons_zero, List.setIfInBounds_toArray, List.set_cons_zero, List.set_cons_succ]
   refine tkq 8 ?_
   refine wpAnyH_ready (rs := [0, 1]) (by kernel_rfl) (by simp) ?_
   refine AllReadyH.cons rfl (fun K hK => ?_) (AllReadyH.cons rfl (fun K hK => ?_) AllReadyH.nil)
   ·skip
    go_simp
    refine hK.out _ _ e10n (fun hS => ?_)
    clear hK K
    try simp only [Act.put, List.getElem_toArray, List.getElem_cons_succ, List.getElem_cons_zero, List.setIfInBounds_toArray, List.set_cons_zero, List.set_cons_succ]
    refine rdq 1 (fun K hK => ?_)
    go_simp
    refine hK.out _ _ e10n (fun hS => ?_)
    clear hK K
    try simp only [Act.put, List.getElem_toArray, List.getElem_cons_succ, List.getElem_cons_zero, List.setIfInBounds_toArray, List.set_cons_zero, List.set_cons_succ]
    clear hS
    have hbm := oneB WD (.cells #[.int .i64 70, .int .i64 (-70)] 2)
    have Hb8 := kbq Hb7 hbm
    have Hp8 := kbq Hp7 hbm
    have Qv8 := Lib.hid (Qv7.out.kept hbm)
    have Qo8 := Lib.hid (Qo7.out.kept hbm)
    have HB8 := ktq HB7 hbm
    have HZ8 : Hid (w.heap.size ≤ (WD.alloc (.cells #[.int .i64 70, .int .i64 (-70)] 2)).heap.size) := Lib.hid HB8.out.size
    have HNS : Hid (Row .i64 (WD.alloc (.cells #[.int .i64 70, .int .i64 (-70)] 2)) (.slice (some ⟨WD.heap.size, 0, none⟩) 2 2) [70, -70]) := Lib.hid row_two (Blk.new WD #[.int .i64 70, .int .i64 (-70)] 2)
    have hS0 := e10n
    clear hbm a0 a0n a1 a1n a2 a2n b0 b0n b1 b1n b2 b2n e10n Hb7 Hp7 Qv7 Qo7 HB7 HZ7
    generalize (WD.alloc (.cells #[.int .i64 70, .int .i64 (-70)] 2)) = WN at *
    generalize WD.heap.size = gn at *
    refine rdq 9 (fun K hK => ?_)
    have HG := Lib.hid (vdo_q WN (NotIn [gb, gp]) 0 2 0 p5 n5 c5 pi5 ni5 ci5 none 0 0 _ _ (⟨mPre, lp, lc, some ⟨gn, 0, none⟩, 2⟩ : MsgX) 2 Qv8.out (fun b hb hm => by have h1 := Hp8.out.lt; have h2 := HGB.out; simp only [List.mem_cons, List.not_mem_nil, or_false] at hm; omega) (by decide) (by decide) ⟨Qo8.out.2.1, HNS.out, mPre_fit⟩ (by show 1 ≤ 2000; decide) (by show 2 ≤ 100000; decide))
    unfold Msg.v at HG
    go_simp
    go_at_call 9
    refine HG.out.mono ?_
    rintro y9 w6 ⟨hb, p6, n6, c6, pi6, ni6, ci6, pv6, nv6, cv6, ps6, xs6, out6, e6, rfl, hv, hnv, hsd, hG⟩
    clear HG
    obtain ⟨rfl, rfl, rfl, lq, lk, rfl⟩ := votes2 hG
    clear hG
    have hn9 : nv6 = 1 := hnv
    clear hnv
    subst hn9
    obtain ⟨bq, oq, hpv, hsc⟩ := sd_one hsd
    subst hpv
    clear Qv8 hsd HNS
    have Hb9 := kbq Hb8 hb
    have Hp9 := kbq Hp8 hb
    have Qo9 := Lib.hid (Qo8.out.kept hb)
    have HB9 := ktq HB8 hb
    have HZ9 := kzq HZ8 hb.size
    clear Hb8 Hp8 Qo8 HB8 HZ8
    clear hb hS0
    have Qv9 := Lib.hid hv
    have Qs9 := Lib.hid hsc
    clear hv hsc
    try go_wp2_with fail
    refine hK.out _ _ (Qo9.out.cell 10 (by decide)) (fun hS0 => ?_)
    clear hK K
    try simp only [Act.put, List.getElem_toArray, List.getElem_cons_succ, List.getElem_cons_zero, List.setIfInBounds_toArray, List.set_cons_zero, List.set_cons_succ]
    refine tkq 10 ?_
    refine tkq 11 ?_
    refine tkq 12 ?_
    refine tkq 13 ?_
    refine tkq 14 ?_
    refine rdq 15 (fun K hK => ?_)
    have z0 : w6.cell? ⟨gp, 0, none⟩ = some (.int .i64 0) := Hp9.out.cell 0
    have z1 : w6.cell? ⟨gp, 1, none⟩ = some (.int .i64 2) := Hp9.out.cell 1
    have z2 : w6.cell? ⟨gp, 2, none⟩ = some (.slice p5 n5 c5) := Hp9.out.cell 2
    have f0 := Hp9.out.free 0
    have f1 := Hp9.out.free 1
    have f2 := Hp9.out.free 2
    go_simp
    clear z0 f0 z1 f1 z2 f2
    have hch := Lib.hid ((((Chg.refl gp w6).set 0 (.int .i64 0)).set 1 (.int .i64 2)).set 2 (.slice p6 n6 c6))
    have Hp10 : Hid (Blk _ gp #[.int .i64 0, .int .i64 2, .slice p6 n6 c6] 36) := Lib.hid (((Hp9.out.set 0 (.int .i64 0)).set 1 (.int .i64 2)).set 2 (.slice p6 n6 c6))
    have HB10 := ksq HB9 hch (by show w.heap.size ≤ gp; have h9 := HGB.out; omega)
    have HZ10 := kzq HZ9 hch.out.size
    have Hb10 := kcq Hb9 hch (by have h9 := HGB.out; omega)
    have Qo10 := Lib.hid (Qo9.out.chg hch.out (notIn_self (by simp)))
    have Qv10 := Lib.hid (Qv9.out.chg hch.out (notIn_self (by simp)))
    have Qs10 := Lib.hid (Qs9.out.chg hch.out (notIn_self (by simp)))
    clear hch hS0 Hb9 Hp9 Qo9 Qv9 Qs9 HB9 HZ9
    generalize (((w6.setCell ⟨gp, 0, none⟩ (.int .i64 0)).setCell ⟨gp, 1, none⟩ (.int .i64 2)).setCell ⟨gp, 2, none⟩ (.slice p6 n6 c6)) = WP at *
    refine hK.out _ _ (Qo10.out.cell 10 (by decide)) (fun hS0 => ?_)
    clear hK K
    try simp only [Act.put, List.getElem_toArray, List.getElem_cons_succ, List.getElem_cons_zero, List.setIfInBounds_toArray, List.set_cons_zero, List.set_cons_succ]
    refine rdq 16 (fun K hK => ?_)
    have z0 : WP.cell? ⟨gb, 0, none⟩ = some (.int .i64 0) := Hb10.out.cell 0
    have z1 : WP.cell? ⟨gb, 1, none⟩ = some (.slice pi5 ni5 ci5) := Hb10.out.cell 1
    have z2 : WP.cell? ⟨gb, 2, none⟩ = some (.slice none 0 0) := Hb10.out.cell 2
    have f0 := Hb10.out.free 0
    have f1 := Hb10.out.free 1
    have f2 := Hb10.out.free 2
    go_simp
    clear z0 f0 z1 f1 z2 f2
    have hch := Lib.hid ((((Chg.refl gb WP).set 0 (.int .i64 0)).set 1 (.slice pi6 ni6 ci6)).set 2 (.slice none 0 0))
    have Hb11 : Hid (Blk _ gb #[.int .i64 0, .slice pi6 ni6 ci6, .slice none 0 0] 28) := Lib.hid (((Hb10.out.set 0 (.int .i64 0)).set 1 (.slice pi6 ni6 ci6)).set 2 (.slice none 0 0))
    have HB11 := ksq HB10 hch (by show w.heap.size ≤ gb; have h9 := HGB.out; omega)
    have HZ11 := kzq HZ10 hch.out.size
    have Hp11 := kcq Hp10 hch (by have h9 := HGB.out; omega)
    have Qo11 := Lib.hid (Qo10.out.chg hch.out (notIn_self (by simp)))
    have Qv11 := Lib.hid (Qv10.out.chg hch.out (notIn_self (by simp)))
    have Qs11 := Lib.hid (Qs10.out.chg hch.out (notIn_self (by simp)))
    clear hch hS0 Hb10 Hp10 Qo10 Qv10 Qs10 HB10 HZ10
    generalize (((WP.setCell ⟨gb, 0, none⟩ (.int .i64 0)).setCell ⟨gb, 1, none⟩ (.slice pi6 ni6 ci6)).setCell ⟨gb, 2, none⟩ (.slice none 0 0)) = WQ at *
    refine hK.out _ _ (Qo11.out.cell 10 (by decide)) (fun hS0 => ?_)
    clear hK K
    try simp only [Act.put, List.getElem_toArray, List.getElem_cons_succ, List.getElem_cons_zero, List.setIfInBounds_toArray, List.set_cons_zero, List.set_cons_succ]
    refine tkq 17 ?_
    refine tkq 18 ?_
    refine wpAnyH_done (by kernel_rfl) ?_ _
    clear hS0
    go_wp2_with fail
    go_meet
    case rel => exact ⟨p6, n6, c6, pi6, ni6, ci6, bq, oq, cv6, lq, lk, rfl, rfl, Hp11.out, Hb11.out, Qv11.out, Qs11.out, HB11.out⟩
   ·skip
    go_simp
    refine hK.out _ _ e10n (fun hS => ?_)
    clear hK K
    try simp only [Act.put, List.getElem_toArray, List.getElem_cons_succ, List.getElem_cons_zero, List.setIfInBounds_toArray, List.set_cons_zero, List.set_cons_succ]
    refine rdq 0 (fun K hK => ?_)
    go_simp
    refine hK.out _ _ e10n (fun hS => ?_)
    clear hK K
    try simp only [Act.put, List.getElem_toArray, List.getElem_cons_succ, List.getElem_cons_zero, List.setIfInBounds_toArray, List.set_cons_zero, List.set_cons_succ]
    clear hS
    have hbm := oneB WD (.cells #[.int .i64 70, .int .i64 (-70)] 2)
    have Hb8 := kbq Hb7 hbm
    have Hp8 := kbq Hp7 hbm
    have Qv8 := Lib.hid (Qv7.out.kept hbm)
    have Qo8 := Lib.hid (Qo7.out.kept hbm)
    have HB8 := ktq HB7 hbm
    have HZ8 : Hid (w.heap.size ≤ (WD.alloc (.cells #[.int .i64 70, .int .i64 (-70)] 2)).heap.size) := Lib.hid HB8.out.size
    have HNS : Hid (Row .i64 (WD.alloc (.cells #[.int .i64 70, .int .i64 (-70)] 2)) (.slice (some ⟨WD.heap.size, 0, none⟩) 2 2) [70, -70]) := Lib.hid row_two (Blk.new WD #[.int .i64 70, .int .i64 (-70)] 2)
    have hS0 := e10n
    clear hbm a0 a0n a1 a1n a2 a2n b0 b0n b1 b1n b2 b2n e10n Hb7 Hp7 Qv7 Qo7 HB7 HZ7
    generalize (WD.alloc (.cells #[.int .i64 70, .int .i64 (-70)] 2)) = WN at *
    generalize WD.heap.size = gn at *
    refine rdq 9 (fun K hK => ?_)
    have HG := Lib.hid (vdo_q WN (NotIn [gb, gp]) 0 2 0 p5 n5 c5 pi5 ni5 ci5 none 0 0 _ _ (⟨mPre, lp, lc, some ⟨gn, 0, none⟩, 2⟩ : MsgX) 2 Qv8.out (fun b hb hm => by have h1 := Hp8.out.lt; have h2 := HGB.out; simp only [List.mem_cons, List.not_mem_nil, or_false] at hm; omega) (by decide) (by decide) ⟨Qo8.out.2.1, HNS.out, mPre_fit⟩ (by show 1 ≤ 2000; decide) (by show 2 ≤ 100000; decide))
    unfold Msg.v at HG
    go_simp
    go_at_call 9
    refine HG.out.mono ?_
    rintro y9 w6 ⟨hb, p6, n6, c6, pi6, ni6, ci6, pv6, nv6, cv6, ps6, xs6, out6, e6, rfl, hv, hnv, hsd, hG⟩
    clear HG
    obtain ⟨rfl, rfl, rfl, lq, lk, rfl⟩ := votes2 hG
    clear hG
    have hn9 : nv6 = 1 := hnv
    clear hnv
    subst hn9
    obtain ⟨bq, oq, hpv, hsc⟩ := sd_one hsd
    subst hpv
    clear Qv8 hsd HNS
    have Hb9 := kbq Hb8 hb
    have Hp9 := kbq Hp8 hb
    have Qo9 := Lib.hid (Qo8.out.kept hb)
    have HB9 := ktq HB8 hb
    have HZ9 := kzq HZ8 hb.size
    clear Hb8 Hp8 Qo8 HB8 HZ8
    clear hb hS0
    have Qv9 := Lib.hid hv
    have Qs9 := Lib.hid hsc
    clear hv hsc
    try go_wp2_with fail
    refine hK.out _ _ (Qo9.out.cell 10 (by decide)) (fun hS0 => ?_)
    clear hK K
    try simp only [Act.put, List.getElem_toArray, List.getElem_cons_succ, List.getElem_cons_zero, List.setIfInBounds_toArray, List.set_cons_zero, List.set_cons_succ]
    refine tkq 10 ?_
    refine tkq 11 ?_
    refine tkq 12 ?_
    refine tkq 13 ?_
    refine tkq 14 ?_
    refine rdq 15 (fun K hK => ?_)
    have z0 : w6.cell? ⟨gp, 0, none⟩ = some (.int .i64 0) := Hp9.out.cell 0
    have z1 : w6.cell? ⟨gp, 1, none⟩ = some (.int .i64 2) := Hp9.out.cell 1
    have z2 : w6.cell? ⟨gp, 2, none⟩ = some (.slice p5 n5 c5) := Hp9.out.cell 2
    have f0 := Hp9.out.free 0
    have f1 := Hp9.out.free 1
    have f2 := Hp9.out.free 2
    go_simp
    clear z0 f0 z1 f1 z2 f2
    have hch := Lib.hid ((((Chg.refl gp w6).set 0 (.int .i64 0)).set 1 (.int .i64 2)).set 2 (.slice p6 n6 c6))
    have Hp10 : Hid (Blk _ gp #[.int .i64 0, .int .i64 2, .slice p6 n6 c6] 36) := Lib.hid (((Hp9.out.set 0 (.int .i64 0)).set 1 (.int .i64 2)).set 2 (.slice p6 n6 c6))
    have HB10 := ksq HB9 hch (by show w.heap.size ≤ gp; have h9 := HGB.out; omega)
    have HZ10 := kzq HZ9 hch.out.size
    have Hb10 := kcq Hb9 hch (by have h9 := HGB.out; omega)
    have Qo10 := Lib.hid (Qo9.out.chg hch.out (notIn_self (by simp)))
    have Qv10 := Lib.hid (Qv9.out.chg hch.out (notIn_self (by simp)))
    have Qs10 := Lib.hid (Qs9.out.chg hch.out (notIn_self (by simp)))
    clear hch hS0 Hb9 Hp9 Qo9 Qv9 Qs9 HB9 HZ9
    generalize (((w6.setCell ⟨gp, 0, none⟩ (.int .i64 0)).setCell ⟨gp, 1, none⟩ (.int .i64 2)).setCell ⟨gp, 2, none⟩ (.slice p6 n6 c6)) = WP at *
    refine hK.out _ _ (Qo10.out.cell 10 (by decide)) (fun hS0 => ?_)
    clear hK K
    try simp only [Act.put, List.getElem_toArray, List.getElem_cons_succ, List.getElem_cons_zero, List.setIfInBounds_toArray, List.set_cons_zero, List.set_cons_succ]
    refine rdq 16 (fun K hK => ?_)
    have z0 : WP.cell? ⟨gb, 0, none⟩ = some (.int .i64 0) := Hb10.out.cell 0
    have z1 : WP.cell? ⟨gb, 1, none⟩ = some (.slice pi5 ni5 ci5) := Hb10.out.cell 1
    have z2 : WP.cell? ⟨gb, 2, none⟩ = some (.slice none 0 0) := Hb10.out.cell 2
    have f0 := Hb10.out.free 0
    have f1 := Hb10.out.free 1
    have f2 := Hb10.out.free 2
    go_simp
    clear z0 f0 z1 f1 z2 f2
    have hch := Lib.hid ((((Chg.refl gb WP).set 0 (.int .i64 0)).set 1 (.slice pi6 ni6 ci6)).set 2 (.slice none 0 0))
    have Hb11 : Hid (Blk _ gb #[.int .i64 0, .slice pi6 ni6 ci6, .slice none 0 0] 28) := Lib.hid (((Hb10.out.set 0 (.int .i64 0)).set 1 (.slice pi6 ni6 ci6)).set 2 (.slice none 0 0))
    have HB11 := ksq HB10 hch (by show w.heap.size ≤ gb; have h9 := HGB.out; omega)
    have HZ11 := kzq HZ10 hch.out.size
    have Hp11 := kcq Hp10 hch (by have h9 := HGB.out; omega)
    have Qo11 := Lib.hid (Qo10.out.chg hch.out (notIn_self (by simp)))
    have Qv11 := Lib.hid (Qv10.out.chg hch.out (notIn_self (by simp)))
    have Qs11 := Lib.hid (Qs10.out.chg hch.out (notIn_self (by simp)))
    clear hch hS0 Hb10 Hp10 Qo10 Qv10 Qs10 HB10 HZ10
    generalize (((WP.setCell ⟨gb, 0, none⟩ (.int .i64 0)).setCell ⟨gb, 1, none⟩ (.slice pi6 ni6 ci6)).setCell ⟨gb, 2, none⟩ (.slice none 0 0)) = WQ at *
    refine hK.out _ _ (Qo11.out.cell 10 (by decide)) (fun hS0 => ?_)
    clear hK K
    try simp only [Act.put, List.getElem_toArray, List.getElem_cons_succ, List.getElem_cons_zero, List.setIfInBounds_toArray, List.set_cons_zero, List.set_cons_succ]
    refine tkq 17 ?_
    refine tkq 18 ?_
    refine wpAnyH_done (by kernel_rfl) ?_ _
    clear hS0
    go_wp2_with fail
    go_meet
    case rel => exact ⟨p6, n6, c6, pi6, ni6, ci6, bq, oq, cv6, lq, lk, rfl, rfl, Hp11.out, Hb11.out, Qv11.out, Qs11.out, HB11.out⟩
 case rest =>
  obtain ⟨p6, n6, c6, pi6, ni6, ci6, bq, oq, cv6, lq, lk, rfl, rfl, hp, hbb, hv, hsc, hbl⟩ := hcut
  have Hp7 := Lib.hid hp
  have Hb7 := Lib.hid hbb
  have Qv7 := Lib.hid hv
  have Qo7 := Lib.hid hsc
  have HB7 := Lib.hid hbl
  have HZ7 : Hid (w.heap.size ≤ wc.heap.size) := Lib.hid hbl.size
  clear hp hbb hv hsc hbl Hb6 Hp6 Qv6 Qo6 HB6 HZ6
  have HG := Lib.hid (vwaits_any wc 0 2 p6 n6 c6 _ Qv7.out.pts.row Qv7.out.np (by have h := Qv7.out.np; rw [h]; first | decide | simp))
  have e9 : wc.cell? ⟨bq, oq + 9, none⟩ = some (.bool true) := Qo7.out.cell 9 (by decide)
  have a0 : wc.cell? ⟨gp, 0, none⟩ = some (.int .i64 0) := Hp7.out.cell 0
  have a1 : wc.cell? ⟨gp, 1, none⟩ = some (.int .i64 2) := Hp7.out.cell 1
  have a2 : wc.cell? ⟨gp, 2, none⟩ = some (.slice p6 n6 c6) := Hp7.out.cell 2
  go_wp2_with fail
  clear a0 a1 a2 e9
  refine HG.out.mono ?_
  rintro y9 w7 ⟨pq7, nq7, cq7, rfl, hn7, hb⟩
  clear HG
  have hn8 : nq7 = 1 := hn7
  clear hn7
  subst hn8
  have Hp8 := kbq Hp7 hb
  have Hb8 := kbq Hb7 hb
  have Qv8 := Lib.hid (Qv7.out.kept hb)
  have Qo8 := Lib.hid (Qo7.out.kept hb)
  have HB8 := ktq HB7 hb
  have HZ8 := kzq HZ7 hb.size
  clear Hp7 Hb7 Qv7 Qo7 HB7 HZ7
  clear hb
  go_upto_region 9 with fail
  clear Qo8
  have HG := Lib.hid (vdo_q w7 (NotIn [gb, gp]) 0 2 0 p6 n6 c6 pi6 ni6 ci6 none 0 0 [⟨1, 0, 2, lq, lk, [vl]⟩] v2 (sayX 14 1 true) (2) Qv8.out (fun b hb hm => by have h1 := Hp8.out.lt; have h2 := HGB.out; simp only [List.mem_cons, List.not_mem_nil, or_false] at hm; omega) (by simp) (by decide) (sayX_in _ _ _ _ (by decide) (by decide)) (by decide) (by decide))
  unfold sayX Msg.v at HG
  have a0 : w7.cell? ⟨gp, 0, none⟩ = some (.int .i64 0) := Hp8.out.cell 0
  have a1 : w7.cell? ⟨gp, 1, none⟩ = some (.int .i64 2) := Hp8.out.cell 1
  have a2 : w7.cell? ⟨gp, 2, none⟩ = some (.slice p6 n6 c6) := Hp8.out.cell 2
  have b0 : w7.cell? ⟨gb, 0, none⟩ = some (.int .i64 0) := Hb8.out.cell 0
  have b1 : w7.cell? ⟨gb, 1, none⟩ = some (.slice pi6 ni6 ci6) := Hb8.out.cell 1
  have b2 : w7.cell? ⟨gb, 2, none⟩ = some (.slice none 0 0) := Hb8.out.cell 2
  go_wp2_with fail
  clear a0 a1 a2 b0 b1 b2 
  refine HG.out.mono ?_
  rintro y9 w8 ⟨hb, p8, n8, c8, pi8, ni8, ci8, pv8, nv8, cv8, ps8, xs8, out8, e8, rfl, hv, hnv, hsd, hG⟩
  clear HG Qv8
  obtain ⟨rfl, rfl, rfl⟩ := votes3 hG
  clear hG hnv
  have Hp9 := kbq Hp8 hb
  have Hb9 := kbq Hb8 hb
  have HB9 := ktq HB8 hb
  have HZ9 := kzq HZ8 hb.size
  clear Hp8 Hb8 HB8 HZ8
  clear hb
  have Qv9 := Lib.hid hv
  have Qs9 := Lib.hid hsd
  clear hv hsd
  go_wp2_with (with_reducible refine stop_storeT 36 (.tmp 4) (.tmp 97) rfl ?_)
  have HTH : Hid (w8.there gp 0 3) := Hp9.out.thereAt
  have hch : Hid (Chg gp w8 (w8.setCells gp 0 (#[.int .i64 0, .int .i64 2, .slice p8 n8 c8] : Array Value).toList)) := Lib.hid (chg_putL _ _ _ _ _ (Chg.refl _ w8))
  have Hp10 : Hid (Blk (w8.setCells gp 0 (#[.int .i64 0, .int .i64 2, .slice p8 n8 c8] : Array Value).toList) gp #[.int .i64 0, .int .i64 2, .slice p8 n8 c8] 36) := Lib.hid (blk_put_all Hp9.out _ rfl)
  have HB10 : Hid (Below w.heap.size w (w8.setCells gp 0 (#[.int .i64 0, .int .i64 2, .slice p8 n8 c8] : Array Value).toList)) := Lib.hid (below_put (by have h9 := HGB.out; omega) _ _ _ _ HB9.out)
  have HZ10 := kzq HZ9 hch.out.size
  have Hb10 := kcq Hb9 hch (by have h9 := HGB.out; omega)
  have Qv10 := Lib.hid (Qv9.out.chg hch.out (notIn_self (by simp)))
  have Qs10 := Lib.hid (Qs9.out.chg hch.out (notIn_self (by simp)))
  clear hch Hp9 Hb9 Qv9 Qs9 HB9 HZ9
  refine wpList_store_mid rfl 36 (.tmp 4) (.tmp 97) rfl gp 0 #[.int .i64 0, .int .i64 2, .slice p8 n8 c8] rfl rfl HTH.out (infoP3 rfl) (all_oneCell_toArray (by intro u hu; simp at hu; rcases hu with rfl | rfl | rfl <;> rfl)) ?_
  generalize (w8.setCells gp 0 (#[.int .i64 0, .int .i64 2, .slice p8 n8 c8] : Array Value).toList) = W10 at *
  clear HTH
  go_wp2_with (with_reducible refine stop_storeT 28 (.tmp 1) (.tmp 98) rfl ?_)
  have HTH : Hid (W10.there gb 0 3) := Hb10.out.thereAt
  have hch : Hid (Chg gb W10 (W10.setCells gb 0 (#[.int .i64 0, .slice pi8 ni8 ci8, .slice none 0 0] : Array Value).toList)) := Lib.hid (chg_putL _ _ _ _ _ (Chg.refl _ W10))
  have Hb11 : Hid (Blk (W10.setCells gb 0 (#[.int .i64 0, .slice pi8 ni8 ci8, .slice none 0 0] : Array Value).toList) gb #[.int .i64 0, .slice pi8 ni8 ci8, .slice none 0 0] 28) := Lib.hid (blk_put_all Hb10.out _ rfl)
  have HB11 : Hid (Below w.heap.size w (W10.setCells gb 0 (#[.int .i64 0, .slice pi8 ni8 ci8, .slice none 0 0] : Array Value).toList)) := Lib.hid (below_put (by have h9 := HGB.out; omega) _ _ _ _ HB10.out)
  have HZ11 := kzq HZ10 hch.out.size
  have Hp11 := kcq Hp10 hch (by have h9 := HGB.out; omega)
  have Qv11 := Lib.hid (Qv10.out.chg hch.out (notIn_self (by simp)))
  have Qs11 := Lib.hid (Qs10.out.chg hch.out (notIn_self (by simp)))
  clear hch Hp10 Hb10 Qv10 Qs10 HB10 HZ10
  refine wpList_store_mid rfl 28 (.tmp 1) (.tmp 98) rfl gb 0 #[.int .i64 0, .slice pi8 ni8 ci8, .slice none 0 0] rfl rfl HTH.out (infoB3 rfl) (all_oneCell_toArray (by intro u hu; simp at hu; rcases hu with rfl | rfl | rfl <;> rfl)) ?_
  generalize (W10.setCells gb 0 (#[.int .i64 0, .slice pi8 ni8 ci8, .slice none 0 0] : Array Value).toList) = W11 at *
  clear HTH
  clear Qs11
  have HG := Lib.hid (dget_any W11 0 pi8 none ni8 ci8 0 0 0 1 v3 Qv11.out.its.1 Qv11.out.nx.symm Qv11.out.good.1 (by have h := Qv11.out.nx; rw [h]; first | decide | simp))
  rw [show findX v3 0 1 = some ⟨0, 1, 1, 0, 70, 0, 5, 1⟩ from rfl] at HG
  simp only [Option.getD_some, Option.isSome_some] at HG
  unfold bookV idV Itm.v at HG
  have a0 : W11.cell? ⟨gb, 0, none⟩ = some (.int .i64 0) := Hb11.out.cell 0
  have a1 : W11.cell? ⟨gb, 1, none⟩ = some (.slice pi8 ni8 ci8) := Hb11.out.cell 1
  have a2 : W11.cell? ⟨gb, 2, none⟩ = some (.slice none 0 0) := Hb11.out.cell 2
  go_wp2_with fail
  clear a0 a1 a2
  refine HG.out.mono ?_
  rintro y9 w12 ⟨rfl, hb⟩
  clear HG
  have Hp12 := kbq Hp11 hb
  have Hb12 := kbq Hb11 hb
  have Qv12 := Lib.hid (Qv11.out.kept hb)
  have HB12 := ktq HB11 hb
  have HZ12 := kzq HZ11 hb.size
  clear Hp11 Hb11 Qv11 HB11 HZ11
  clear hb
  have hba := oneB w12 (.cells #[.int .i64 0, .int .i64 1, .int .i64 1, .int .i64 0, .int .i64 70, .int .i64 0, .int .i64 5, .int .i64 1] 54)
  have Hp13 := kbq Hp12 hba
  have Hb13 := kbq Hb12 hba
  have Qv13 := Lib.hid (Qv12.out.kept hba)
  have Hx13 := Lib.hid (Blk.new w12 #[.int .i64 0, .int .i64 1, .int .i64 1, .int .i64 0, .int .i64 70, .int .i64 0, .int .i64 5, .int .i64 1] 54)
  have HB13 := Lib.hid (HB12.out.alloc HB12.out.size (.cells #[.int .i64 0, .int .i64 1, .int .i64 1, .int .i64 0, .int .i64 70, .int .i64 0, .int .i64 5, .int .i64 1] 54))
  have HZ13 := kzq HZ12 hba.size
  have HGgx : Hid (w.heap.size ≤ w12.heap.size) := Lib.hid HB12.out.size
  clear hba Hp12 Hb12 Qv12 HB12 HZ12
  go_upto_region 11 with fail
  generalize (w12.alloc (.cells #[.int .i64 0, .int .i64 1, .int .i64 1, .int .i64 0, .int .i64 70, .int .i64 0, .int .i64 5, .int .i64 1] 54)) = W13 at *
  generalize hggx : w12.heap.size = gx at *
  clear hggx
  clear HGgx
  have HG := Lib.hid (vget_any W13 0 2 p8 n8 c8 [⟨1, 0, 4, lq, lk, [vl]⟩] 1 _ Qv13.out.pts Qv13.out.np (by simp) Qv13.out.ql)
  rw [show findC [⟨1, 0, 4, lq, lk, [vl]⟩] 1 = some ⟨1, 0, 4, lq, lk, [vl]⟩ from rfl] at HG
  dsimp only at HG
  have a0 : W13.cell? ⟨gp, 0, none⟩ = some (.int .i64 0) := Hp13.out.cell 0
  have a1 : W13.cell? ⟨gp, 1, none⟩ = some (.int .i64 2) := Hp13.out.cell 1
  have a2 : W13.cell? ⟨gp, 2, none⟩ = some (.slice p8 n8 c8) := Hp13.out.cell 2
  go_wp2_with fail
  clear a0 a1 a2
  refine HG.out.mono ?_
  rintro y9 w14 ⟨⟨pg, cg, rfl⟩, hb⟩
  clear HG
  have Hp14 := kbq Hp13 hb
  have Hb14 := kbq Hb13 hb
  have Hx14 := kbq Hx13 hb
  have Qv14 := Lib.hid (Qv13.out.kept hb)
  have HB14 := ktq HB13 hb
  have HZ14 := kzq HZ13 hb.size
  clear Hp13 Hb13 Hx13 Qv13 HB13 HZ13
  clear hb
  have hba := oneB w14 (.cells #[.int .i64 1, .int .i64 0, .int .i64 4, .slice pg [vl].length cg] 58)
  have Hp15 := kbq Hp14 hba
  have Hb15 := kbq Hb14 hba
  have Hx15 := kbq Hx14 hba
  have Qv15 := Lib.hid (Qv14.out.kept hba)
  have Hy15 := Lib.hid (Blk.new w14 #[.int .i64 1, .int .i64 0, .int .i64 4, .slice pg [vl].length cg] 58)
  have HB15 := Lib.hid (HB14.out.alloc HB14.out.size (.cells #[.int .i64 1, .int .i64 0, .int .i64 4, .slice pg [vl].length cg] 58))
  have HZ15 := kzq HZ14 hba.size
  have HGgy : Hid (w.heap.size ≤ w14.heap.size) := Lib.hid HB14.out.size
  clear hba Hp14 Hb14 Hx14 Qv14 HB14 HZ14
  go_upto_region 12 with fail
  generalize (w14.alloc (.cells #[.int .i64 1, .int .i64 0, .int .i64 4, .slice pg [vl].length cg] 58)) = W15 at *
  generalize hggy : w14.heap.size = gy at *
  clear hggy
  clear HGgy
  have HG := Lib.hid (vwaits_any W15 0 2 p8 n8 c8 _ Qv15.out.pts.row Qv15.out.np (by have h := Qv15.out.np; rw [h]; first | decide | simp))
  have e6 : W15.cell? ⟨gx, 6, none⟩ = some (.int .i64 5) := Hx15.out.cell 6
  have f2 : W15.cell? ⟨gy, 2, none⟩ = some (.int .i64 4) := Hy15.out.cell 2
  have a0 : W15.cell? ⟨gp, 0, none⟩ = some (.int .i64 0) := Hp15.out.cell 0
  have a1 : W15.cell? ⟨gp, 1, none⟩ = some (.int .i64 2) := Hp15.out.cell 1
  have a2 : W15.cell? ⟨gp, 2, none⟩ = some (.slice p8 n8 c8) := Hp15.out.cell 2
  go_wp2_with fail
  clear e6 f2 a0 a1 a2
  refine HG.out.mono ?_
  rintro y9 w16 ⟨pq9, nq9, cq9, rfl, hn9, hb⟩
  clear HG
  have hn7 : nq9 = 0 := hn9
  clear hn9
  subst hn7
  have Hp16 := kbq Hp15 hb
  have Hb16 := kbq Hb15 hb
  have Hx16 := kbq Hx15 hb
  have Hy16 := kbq Hy15 hb
  have Qv16 := Lib.hid (Qv15.out.kept hb)
  have HB16 := ktq HB15 hb
  have HZ16 := kzq HZ15 hb.size
  clear Hp15 Hb15 Hx15 Hy15 Qv15 HB15 HZ15
  clear hb
  go_wp2_with fail
  go_ret
  exact ⟨rfl, HB16.out⟩
end Go.Proofs.Ytmhocihajobkkaa
namespace Go.Proofs.Ytmhocihajobkkaa
open Go.RowKit
/-- So many items that are free. -/
def fullX (i : Nat) : Itm := ⟨0, (i : Int) + 1, 1, 0, 5, 0, 3, 0⟩
def fullL (k : Nat) : List Itm := (List.range k).map fullX
theorem fullL_succ (k : Nat) : fullL (k + 1) = fullL k ++ [fullX k] := by
 unfold fullL
 rw [List.range_succ, List.map_append]
 rfl
theorem fullL_len (k : Nat) : (fullL k).length = k := by unfold fullL; simp
theorem fullX_ok (i : Nat) (h : i < 1000) : chkI (fullX i) = 0 ∧ ((fullX i).s = 0 ∨ (fullX i).b = 0) := by
 refine ⟨?_, .inl rfl⟩
 unfold chkI
 rw [if_pos, if_neg]
 ·unfold cycBad fullX; simp
 ·refine ⟨by unfold partsOk fullX; dsimp only; omega, ?_⟩
  unfold numsOk fullX
  dsimp only
  omega
theorem fullL_sort : ∀ k, SortX (fullL k) := by
 intro k
 unfold SortX SortedP fullL
 rw [List.map_map, List.pairwise_map]
 refine List.Pairwise.imp ?_ List.pairwise_lt_range
 intro a b hab
 rw [ordP_lt]
 unfold posI fullX
 dsimp only [Function.comp_apply]
 omega
theorem fullL_good (k : Nat) (hk : k ≤ 1000) : GoodB 0 (fullL k) := by
 refine ⟨fullL_sort k, fun x hx => ?_⟩
 unfold fullL at hx
 obtain ⟨i, hi, rfl⟩ := List.mem_map.1 hx
 exact fullX_ok i (by have := List.mem_range.1 hi; omega)
theorem ins_end {X : List Itm} {x : Itm} (h : ∀ z ∈ X, ordP (posI z) (posI x) < 0) : insX X x = X ++ [x] := by
 unfold insX
 rw [List.filter_eq_self.2 (fun z hz => decide_eq_true (h z hz)), List.filter_eq_nil_iff.2 (fun z hz => by have := h z hz; simp; omega), List.append_nil]
theorem fold_good {me : Int} : ∀ (l P : List Itm), GoodB me (P ++ l) → foldX me P l = P ++ l
 | [], P, _ => by rw [List.append_nil]; rfl
 | x :: l, P, h => by
  have hx := h.2 x (by simp)
  have hs : ∀ z ∈ P, ordP (posI z) (posI x) < 0 := by
   have h1 := h.1
   unfold SortedP at h1
   rw [List.map_append, List.pairwise_append] at h1
   intro z hz
   exact h1.2.2 (posI z) (List.mem_map_of_mem hz) (posI x) (by simp)
  have e : foldX me P (x :: l) = foldX me (putX me P x) l := rfl
  have e2 : putX me P x = P ++ [x] := by unfold putX; rw [if_pos hx, ins_end hs]
  rw [e, e2, fold_good l (P ++ [x]) (by rw [List.append_assoc]; exact h), List.append_assoc]
  rfl
theorem full_fold (k : Nat) (hk : k ≤ 1000) : foldX 0 [] (fullL k) = fullL k := fold_good _ [] (fullL_good k hk)
/-- Something is done to the items in a row, each in its place. -/
theorem each_row {f : Itm → Itm × Int} : ∀ (its P S : List Itm), SortX (P ++ its ++ S) → (∀ x ∈ its, (f x).1.s = x.s ∧ (f x).1.n = x.n) → eachX f (P ++ its ++ S) its = P ++ its.map (fun x => (f x).1) ++ S
 | [], P, S, _, _ => by simp [eachX]
 | x :: its, P, S, hs, hf => by
  have e : eachX f (P ++ (x :: its) ++ S) (x :: its) = eachX f (insX (P ++ (x :: its) ++ S) (f x).1) its := rfl
  have hx := hf x (by simp)
  have hpos : posI (f x).1 = posI x := by unfold posI; rw [hx.1, hx.2]
  have h1 := hs
  unfold SortX SortedP at h1
  rw [show P ++ (x :: its) ++ S = P ++ (x :: (its ++ S)) by simp, List.map_append, List.map_cons, List.pairwise_append, List.pairwise_cons] at h1
  have hA : ∀ z ∈ P, ordP (posI z) (posI x) < 0 := fun z hz => h1.2.2 _ (List.mem_map_of_mem hz) _ (by simp)
  have hB : ∀ z ∈ its ++ S, 0 < ordP (posI z) (posI x) := fun z hz => by
   have h2 := h1.2.1.1 _ (List.mem_map_of_mem hz)
   rw [ordP_lt] at h2
   rw [ordP_gt]
   omega
  have hi : insX (P ++ (x :: its) ++ S) (f x).1 = P ++ [(f x).1] ++ (its ++ S) := by
   unfold insX
   rw [hpos, show P ++ (x :: its) ++ S = P ++ ([x] ++ (its ++ S)) by simp]
   generalize its ++ S = T at *
   have h0 : ordP (posI x) (posI x) = 0 := by rw [ordP_eq]; exact ⟨rfl, rfl⟩
   have p1 : P.filter (fun z => decide (ordP (posI z) (posI x) < 0)) = P := List.filter_eq_self.2 (fun z hz => decide_eq_true (hA z hz))
   have p2 : P.filter (fun z => decide (0 < ordP (posI z) (posI x))) = [] := List.filter_eq_nil_iff.2 (fun z hz => by have := hA z hz; simp; omega)
   have t1 : T.filter (fun z => decide (ordP (posI z) (posI x) < 0)) = [] := List.filter_eq_nil_iff.2 (fun z hz => by have := hB z hz; simp; omega)
   have t2 : T.filter (fun z => decide (0 < ordP (posI z) (posI x))) = T := List.filter_eq_self.2 (fun z hz => decide_eq_true (hB z hz))
   simp only [List.filter_append, p1, p2, t1, t2]
   simp [h0]
  have hs2 : SortX (insX (P ++ (x :: its) ++ S) (f x).1) := ins_sorted hs
  rw [hi] at hs2
  rw [e, hi, show P ++ [(f x).1] ++ (its ++ S) = (P ++ [(f x).1]) ++ its ++ S by simp, each_row its (P ++ [(f x).1]) S (by rw [show (P ++ [(f x).1]) ++ its ++ S = P ++ [(f x).1] ++ (its ++ S) by simp]; exact hs2) (fun y hy => hf y (List.mem_cons_of_mem _ hy))]
  simp
theorem full_mem {k : Nat} {x : Itm} (h : x ∈ fullL k) : x.t = 3 ∧ x.c = 0 ∧ x.y = 0 := by
 unfold fullL at h
 obtain ⟨i, _, rfl⟩ := List.mem_map.1 h
 exact ⟨rfl, rfl, rfl⟩
theorem keepF_free {x : Itm} (h : x.t = 3 ∧ x.c = 0 ∧ x.y = 0) : keepF 0 x = true := by
 unfold keepF outF
 rw [h.1, h.2.1, h.2.2]
 rfl
theorem full_offer (k : Nat) (m : Msg) (hm : m.c = 0) : offerL (fullL k) m = (fullL k).take 128 := by
 unfold offerL
 rw [hm, List.filter_eq_self.2 (fun x hx => keepF_free (full_mem hx))]
/-- What has become of the items: so many are locked, the others free. -/
def fullY (k : Nat) : List Itm := ((fullL k).take 128).map (fun x => { x with y := 1 }) ++ (fullL k).drop 128
def mFull : Msg := ⟨10, 0, 0, 0, 0, 0, 1, 0, false, [], []⟩
theorem full_each (k : Nat) (_ : k ≤ 1000) : eachX (fun x => lockI x mFull.y) (fullL k) (offerL (fullL k) mFull) = fullY k := by
 rw [full_offer k mFull rfl]
 have hlock : ∀ x ∈ (fullL k).take 128, (lockI x mFull.y).1 = { x with y := 1 } := fun x hx => by
  have h := full_mem ((List.take_sublist _ _).subset hx)
  rw [lock_is h.1 h.2.2 (by decide)]
  rfl
 have h1 := each_row (f := fun x => lockI x mFull.y) ((fullL k).take 128) [] ((fullL k).drop 128) (by rw [List.nil_append, List.take_append_drop]; exact fullL_sort k) (fun x hx => by rw [hlock x hx]; exact ⟨rfl, rfl⟩)
 rw [List.nil_append, List.nil_append, List.take_append_drop] at h1
 rw [h1]
 unfold fullY
 congr 1
 exact List.map_congr_left (fun x hx => hlock x hx)
theorem full_locked (k : Nat) : ((fullY k).filter (keepL 1)).length = min k 128 := by
 unfold fullY
 rw [List.filter_append, List.filter_eq_self.2 (fun z hz => by
  obtain ⟨x, hx, rfl⟩ := List.mem_map.1 hz
  have h := full_mem ((List.take_sublist _ _).subset hx)
  unfold keepL outL
  dsimp only
  rw [h.1]
  rfl), List.filter_eq_nil_iff.2 (fun z hz => by
  have h := full_mem ((List.drop_sublist _ _).subset hz)
  unfold keepL outL
  rw [h.1, h.2.2]
  decide)]
 rw [List.append_nil, List.length_map, List.length_take, fullL_len]
 omega
theorem full_free (k : Nat) : ((fullY k).filter (keepF 0)).length = k - 128 := by
 unfold fullY
 rw [List.filter_append, List.filter_eq_nil_iff.2 (fun z hz => by
  obtain ⟨x, hx, rfl⟩ := List.mem_map.1 hz
  have h := full_mem ((List.take_sublist _ _).subset hx)
  unfold keepF outF
  dsimp only
  rw [h.1, h.2.1]
  decide), List.filter_eq_self.2 (fun z hz => keepF_free (full_mem ((List.drop_sublist _ _).subset hz)))]
 rw [List.nil_append, List.length_drop, fullL_len]
theorem fullY_len (k : Nat) : (fullY k).length = k := by
 unfold fullY
 rw [List.length_append, List.length_map, ← List.length_append, List.take_append_drop, fullL_len]
theorem full_ask {k : Nat} (hk : k ≤ 1000) {ps2 : List PtX} {xs2 : List Itm} {out : List SdX} {e : Int} (h : VoteG 0 2 [] (fullL k) mFull 2 ps2 xs2 out e) : e = 0 ∧ xs2 = fullY k ∧ ∃ lp lc ls, ls.length = min k 128 ∧ out = [⟨2, ⟨⟨11, 0, 0, 0, 0, 0, 1, 0, false, ls, []⟩, lp, lc, none, 0⟩⟩] := by
 obtain ⟨_, _, h3⟩ := h
 have hkb : ¬ kindBad mFull 2 := by unfold kindBad mFull; simp
 obtain ⟨ps3, xs3, out3, e3, hg, h4, h5⟩ := h3 hkb (.inr rfl)
 unfold actG at hg
 rw [if_pos (show mFull.k = 10 from rfl)] at hg
 obtain ⟨_, _, h6⟩ := hg
 obtain ⟨h7, h8, h9, lp, lc, h10⟩ := h6 (by unfold askBad mFull; decide) rfl
 obtain ⟨rfl, rfl, rfl, rfl⟩ := h5 h7
 refine ⟨rfl, h9.trans (full_each k hk), lp, lc, _, ?_, h10⟩
 rw [full_offer k mFull rfl, List.length_map, List.length_take, fullL_len]
 omega
end Go.Proofs.Ytmhocihajobkkaa
namespace Go.Proofs.Ytmhocihajobkkaa
open Go.RowKit
set_option linter.unusedSimpArgs false
set_option linter.unusedSimpArgs false in
set_option maxHeartbeats 4000000 in
set_option maxRecDepth 100000 in
theorem full_walk (n : Int) (w : World) (hb : -9223372036854775808 ≤ n ∧ n ≤ 9223372036854775807) : Calls Try.prog 5 #[.int .i64 n] w fun e w' => e = .returned (.bool true) ∧ Below w.heap.size w w' := by
 have HVT := Lib.hid (fun W => votes_any W)
 have HNB := Lib.hid hb
 clear hb
 go_enter Try.func5, Try.ntmps5
 go_wp2_with fail
 refine (HVT.out w).mono ?_
 rintro y9 W ⟨rfl, hb⟩
 clear HVT
 have HB0 := Lib.hid hb
 have HZ0 : Hid (w.heap.size ≤ W.heap.size) := Lib.hid hb.size
 clear hb
 go_upto_region 3 with fail
 by_cases h1 : n < 120
 ·go_wp2_with fail
  go_ret
  exact ⟨rfl, HB0.out⟩
 by_cases h2 : 140 < n
 ·go_wp2_with fail
  go_ret
  exact ⟨rfl, HB0.out⟩
 obtain ⟨N, rfl⟩ : ∃ N : Nat, n = N := ⟨n.toNat, by omega⟩
 have HNN : Hid (120 ≤ N ∧ N ≤ 140) := Lib.hid ⟨by omega, by omega⟩
 have hN1 : ¬ (N : Int) < 120 := h1
 have hN2 : ¬ (140 : Int) < (N : Int) := h2
 clear h1 h2
 have HWW : Hid (w.heap.size ≤ W.heap.size) := HZ0
 have HREL : Hid (OwnT encI W W.heap.size 54 (.slice none 0 0) (fullL 0) ∧ Below w.heap.size w W ∧ W.heap.size ≤ W.heap.size) := ⟨OwnT.nil_ _ _ _ _, HB0.out, Nat.le_refl _⟩
 go_upto_region 7 with fail
 clear hN1 hN2 HB0 HZ0
 go_loopw [3, 21] (fun v i wr => ∃ k : Nat, k ≤ N ∧ i = .int .i64 k ∧ Hid (OwnT encI wr W.heap.size 54 v (fullL k) ∧ Below w.heap.size w wr ∧ W.heap.size ≤ wr.heap.size)) (fun _ i _ => N - (intOf i).toNat)
 case atStart => exact ⟨0, by omega, rfl, HREL⟩
 case round =>
  clear HREL
  obtain ⟨k, hk, rfl, HK⟩ := hrel
  have hk9 : k + 1 ≤ 141 := by have := HNN.out; omega
  obtain ⟨pz, cz, hvz⟩ := HK.out.1.form
  rw [fullL_len] at hvz
  subst hvz
  by_cases hlt : k < N
  ·have hltI : (k : Int) < (N : Int) := by omega
   have HB1 := Lib.hid (oneB wr (.cells #[.int .i64 0, .int .i64 (k + 1), .int .i64 1, .int .i64 0, .int .i64 5, .int .i64 0, .int .i64 3, .int .i64 0] 54))
   go_wp2_with (at_builtin; with_reducible refine stop_appendI (.tmp 24) (.tmp 29) 22 rfl ?_)
   refine wpList_append_t rfl (.tmp 24) (.tmp 29) 22 rfl 54 zeroVI 64 W.heap.size eltI rfl (by decide) (.slice pz k cz) (.slice (some ⟨wr.heap.size, 0, none⟩) 1 1) (fullL k) [fullX k] rfl rfl (HK.out.1.later HB1.out) (TRow.one_ encI (fullX k) (Blk.new wr #[.int .i64 0, .int .i64 (k + 1), .int .i64 1, .int .i64 0, .int .i64 5, .int .i64 0, .int .i64 3, .int .i64 0] 54) rfl (Nat.le_refl _)) (by rw [fullL_len]; simp; omega) (Nat.le_trans HK.out.2.2 HB1.out.size) (fullL (k + 1)) (k + 1) (fullL_succ k).symm (fullL_len _) ?_
   intro p3 c3 w3 ho _ hb3
   have HNX : Hid (OwnT encI w3 W.heap.size 54 (.slice p3 (k + 1) c3) (fullL (k + 1)) ∧ Below w.heap.size w w3 ∧ W.heap.size ≤ w3.heap.size) := ⟨ho, HK.out.2.1.trans ((HB1.out.mono HK.out.2.1.size).trans (hb3.mono (by have h7 := HWW.out; omega))), Nat.le_trans (Nat.le_trans HK.out.2.2 HB1.out.size) hb3.size⟩
   clear ho hb3 HB1
   go_wp2_with fail
   go_roundw
   case rel => exact ⟨k + 1, by omega, by go_num, HNX⟩
   case measure => simp [intOf]; omega
  ·skip
   have hltI : ¬ (k : Int) < (N : Int) := by omega
   obtain rfl : k = N := by omega
   have HROW : Hid (TRow encI wr (.slice pz k cz) (fullL k)) := Lib.hid HK.out.1.row
   have HB0 := Lib.hid HK.out.2.1
   have HZ0 : Hid (w.heap.size ≤ wr.heap.size) := Lib.hid HK.out.2.1.size
   have HKB : Hid (k ≤ 140) := Lib.hid HNN.out.2
   clear HK hk hk9
   have HG := Lib.hid (filled_any wr _ (fullL k) HROW.out (by rw [fullL_len]; have := HKB.out; omega))
   go_wp2_with fail
   refine HG.out.mono ?_
   rintro y9 w1 ⟨hb, pi, ni, ci, pd, nd, cd, rfl, hx, hnx, -, -⟩
   clear HG hltI HROW
   have hgd := foldX_good (l := (fullL k)) (goodB_nil 0)
   rw [show foldX 0 [] (fullL k) = (fullL k) from full_fold k (by have := HKB.out; omega)] at hx hnx hgd
   have HGD := Lib.hid hgd
   have Qx1 := Lib.hid (hx.imp (R := fun b => b < w1.heap.size) (fun b h _ => h))
   have HNX := Lib.hid hnx
   clear hx hnx hgd
   have HB1 := ktq HB0 hb
   have HZ1 := kzq HZ0 hb.size
   clear HB0 HZ0
   clear hb
   have hba : Below w1.heap.size w1 ((w1.alloc (.cells #[.int .i64 0, .slice pi ni ci, .slice none 0 0] 28)).alloc (.cells #[.int .i64 0, .int .i64 0, .slice pd nd cd, .slice none 0 0] 31)) := (oneB w1 (.cells #[.int .i64 0, .slice pi ni ci, .slice none 0 0] 28)).alloc (by simp) _
   have Qx2 := Lib.hid (Qx1.out.kept hba)
   have Hb2 : Hid (Blk ((w1.alloc (.cells #[.int .i64 0, .slice pi ni ci, .slice none 0 0] 28)).alloc (.cells #[.int .i64 0, .int .i64 0, .slice pd nd cd, .slice none 0 0] 31)) w1.heap.size #[.int .i64 0, .slice pi ni ci, .slice none 0 0] 28) := Lib.hid ((Blk.new w1 #[.int .i64 0, .slice pi ni ci, .slice none 0 0] 28).alloc _)
   have HB2 := ktq HB1 hba
   have HZ2 : Hid (w.heap.size ≤ ((w1.alloc (.cells #[.int .i64 0, .slice pi ni ci, .slice none 0 0] 28)).alloc (.cells #[.int .i64 0, .int .i64 0, .slice pd nd cd, .slice none 0 0] 31)).heap.size) := Lib.hid HB2.out.size
   have HGB : Hid (w1.heap.size < ((w1.alloc (.cells #[.int .i64 0, .slice pi ni ci, .slice none 0 0] 28)).alloc (.cells #[.int .i64 0, .int .i64 0, .slice pd nd cd, .slice none 0 0] 31)).heap.size ∧ w.heap.size ≤ w1.heap.size) := Lib.hid ⟨Hb2.out.lt, HB1.out.size⟩
   clear hba Qx1 HB1 HZ1
   go_upto_region 12 with fail
   generalize ((w1.alloc (.cells #[.int .i64 0, .slice pi ni ci, .slice none 0 0] 28)).alloc (.cells #[.int .i64 0, .int .i64 0, .slice pd nd cd, .slice none 0 0] 31)) = W2 at *
   generalize hgb : w1.heap.size = gb at *
   clear hgb
   have hba := oneB W2 (.cells #[.int .i64 0, .int .i64 2, .slice none 0 0] 36)
   have Hb3 := kbq Hb2 hba
   have Qx3 := Lib.hid (Qx2.out.kept hba)
   have Hp3 := Lib.hid (Blk.new W2 #[.int .i64 0, .int .i64 2, .slice none 0 0] 36)
   have HB3 := Lib.hid (HB2.out.alloc HB2.out.size (.cells #[.int .i64 0, .int .i64 2, .slice none 0 0] 36))
   have HZ3 := kzq HZ2 hba.size
   have HGgp : Hid (w.heap.size ≤ W2.heap.size) := Lib.hid HB2.out.size
   clear hba Hb2 Qx2 HB2 HZ2
   go_upto_region 13 with fail
   generalize (W2.alloc (.cells #[.int .i64 0, .int .i64 2, .slice none 0 0] 36)) = W3 at *
   generalize hggp : W2.heap.size = gp at *
   clear hggp
   have Qv3 : Hid (Vt (NotIn [gb, gp]) W3 0 none 0 0 pi ni ci [] (fullL k)) := Lib.hid (Vt.mk (PtsR.nil_ _ _) (Qx3.out.imp (fun b _ h hm => by have h2 := HGB.out; simp only [List.mem_cons, List.not_mem_nil, or_false] at hm; omega)) HGD.out rfl HNX.out (fun _ h => by cases h))
   clear Qx3 HGgp
   have HG := Lib.hid (vdo_q W3 (NotIn [gb, gp]) 0 2 0 none 0 0 pi ni ci none 0 0 [] (fullL k) (sayX 10 1 false) (2) Qv3.out (fun b hb hm => by have h1 := Hp3.out.lt; have h2 := HGB.out; simp only [List.mem_cons, List.not_mem_nil, or_false] at hm; omega) (by decide) (by rw [fullL_len]; have := HKB.out; omega) (sayX_in _ _ _ _ (by decide) (by decide)) (by decide) (by decide))
   unfold sayX Msg.v at HG
   have a0 : W3.cell? ⟨gp, 0, none⟩ = some (.int .i64 0) := Hp3.out.cell 0
   have a1 : W3.cell? ⟨gp, 1, none⟩ = some (.int .i64 2) := Hp3.out.cell 1
   have a2 : W3.cell? ⟨gp, 2, none⟩ = some (.slice none 0 0) := Hp3.out.cell 2
   have b0 : W3.cell? ⟨gb, 0, none⟩ = some (.int .i64 0) := Hb3.out.cell 0
   have b1 : W3.cell? ⟨gb, 1, none⟩ = some (.slice pi ni ci) := Hb3.out.cell 1
   have b2 : W3.cell? ⟨gb, 2, none⟩ = some (.slice none 0 0) := Hb3.out.cell 2
   go_wp2_with fail
   clear a0 a1 a2 b0 b1 b2 
   refine HG.out.mono ?_
   rintro y9 w5 ⟨hb, p5, n5, c5, pi5, ni5, ci5, pv5, nv5, cv5, ps5, xs5, out5, e5, rfl, hv, hnv, hsd, hG⟩
   clear HG Qv3
   obtain ⟨rfl, rfl, lp, lc, ls, hls, rfl⟩ := full_ask (by have := HKB.out; omega) hG
   clear hG
   have hn9 : nv5 = 1 := hnv
   clear hnv
   subst hn9
   have HLS := Lib.hid hls
   clear hls
   have Hb4 := kbq Hb3 hb
   have Hp4 := kbq Hp3 hb
   have HB4 := ktq HB3 hb
   have HZ4 := kzq HZ3 hb.size
   clear Hb3 Hp3 HB3 HZ3
   clear hb
   have Qv4 := Lib.hid hv
   have Qs4 := Lib.hid hsd
   clear hv hsd
   have hba := oneB w5 (.cells #[.int .i64 0, .int .i64 2, .slice p5 n5 c5] 36)
   have Hb5 := kbq Hb4 hba
   have Hp5 := kbq Hp4 hba
   have Qv5 := Lib.hid (Qv4.out.kept hba)
   have Qs5 := Lib.hid (Qs4.out.kept hba)
   have Hp25 := Lib.hid (Blk.new w5 #[.int .i64 0, .int .i64 2, .slice p5 n5 c5] 36)
   have HB5 := Lib.hid (HB4.out.alloc HB4.out.size (.cells #[.int .i64 0, .int .i64 2, .slice p5 n5 c5] 36))
   have HZ5 := kzq HZ4 hba.size
   have HGgq : Hid (w.heap.size ≤ w5.heap.size) := Lib.hid HB4.out.size
   clear hba Hb4 Hp4 Qv4 Qs4 HB4 HZ4
   go_wp2_with (with_reducible refine stop_storeT 28 (.tmp 5) (.tmp 45) rfl ?_)
   generalize (w5.alloc (.cells #[.int .i64 0, .int .i64 2, .slice p5 n5 c5] 36)) = W6 at *
   generalize hggq : w5.heap.size = gq at *
   clear hggq
   clear HGgq
   clear Hp25
   have HTH : Hid (W6.there gb 0 3) := Hb5.out.thereAt
   have hch : Hid (Chg gb W6 (W6.setCells gb 0 (#[.int .i64 0, .slice pi5 ni5 ci5, .slice none 0 0] : Array Value).toList)) := Lib.hid (chg_putL _ _ _ _ _ (Chg.refl _ W6))
   have Hb6 : Hid (Blk (W6.setCells gb 0 (#[.int .i64 0, .slice pi5 ni5 ci5, .slice none 0 0] : Array Value).toList) gb #[.int .i64 0, .slice pi5 ni5 ci5, .slice none 0 0] 28) := Lib.hid (blk_put_all Hb5.out _ rfl)
   have HB6 : Hid (Below w.heap.size w (W6.setCells gb 0 (#[.int .i64 0, .slice pi5 ni5 ci5, .slice none 0 0] : Array Value).toList)) := Lib.hid (below_put (by have h9 := HGB.out; omega) _ _ _ _ HB5.out)
   have HZ6 := kzq HZ5 hch.out.size
   have Hp6 := kcq Hp5 hch (by have h9 := HGB.out; omega)
   have Qv6 := Lib.hid (Qv5.out.chg hch.out (notIn_self (by simp)))
   have Qs6 := Lib.hid (Qs5.out.chg hch.out (notIn_self (by simp)))
   clear hch Hb5 Hp5 Qv5 Qs5 HB5 HZ5
   refine wpList_store_mid rfl 28 (.tmp 5) (.tmp 45) rfl gb 0 #[.int .i64 0, .slice pi5 ni5 ci5, .slice none 0 0] rfl rfl HTH.out (infoB3 rfl) (all_oneCell_toArray (by intro u hu; simp at hu; rcases hu with rfl | rfl | rfl <;> rfl)) ?_
   generalize (W6.setCells gb 0 (#[.int .i64 0, .slice pi5 ni5 ci5, .slice none 0 0] : Array Value).toList) = W7 at *
   clear HTH
   obtain ⟨bo, oo, hpv, hsc⟩ := sd_one Qs6.out
   subst hpv
   have Qo6 := Lib.hid hsc
   clear hsc Qs6
   have e10 : W7.cell? ⟨bo, oo + 10, none⟩ = some (.slice lp ls.length lc) := Qo6.out.cell 10 (by decide)
   rw [HLS.out] at e10
   have HLK := Lib.hid (blocked_any W7 0 pi5 none ni5 ci5 0 0 (fullY k) 1 Qv6.out.its.1 (by rw [fullY_len]; have := HKB.out; omega))
   unfold bookV at HLK
   have b0 : W7.cell? ⟨gb, 0, none⟩ = some (.int .i64 0) := Hb6.out.cell 0
   have b1 : W7.cell? ⟨gb, 1, none⟩ = some (.slice pi5 ni5 ci5) := Hb6.out.cell 1
   have b2 : W7.cell? ⟨gb, 2, none⟩ = some (.slice none 0 0) := Hb6.out.cell 2
   by_cases hbig : 128 < k
   ·skip
    have hm1 : (128 : Int) < (k : Int) := by omega
    have hmin : min k 128 = 128 := by omega
    rw [hmin] at e10
    have hm2 : (0 : Int) < (k : Int) - 128 := by omega
    have hm3 : IntKind.i64.wrap ((k : Int) - 128) = (k : Int) - 128 := IntWalk.i64_in _ (by have := HKB.out; omega)
    clear hbig hmin
    go_wp2_with fail
    refine HLK.out.mono ?_
    rintro y9 w8 ⟨v8, rfl, ho, hb⟩
    clear HLK b0 b1 b2 e10
    obtain ⟨p8, c8, rfl⟩ := ho.form
    clear ho
    have HL8 : Hid (((fullY k).filter (keepL 1)).length = 128) := by show _ = _; rw [full_locked]; omega
    rw [HL8.out]
    have Hb7 := kbq Hb6 hb
    have Hp7 := kbq Hp6 hb
    have Qv7 := Lib.hid (Qv6.out.kept hb)
    have Qo7 := Lib.hid (Qo6.out.kept hb)
    have HB7 := ktq HB6 hb
    have HZ7 := kzq HZ6 hb.size
    clear Hb6 Hp6 Qv6 Qo6 HB6 HZ6
    clear hb
    have HFR := Lib.hid (bfree_any w8 0 pi5 none ni5 ci5 0 0 (fullY k) 0 Qv7.out.its.1 (by rw [fullY_len]; have := HKB.out; omega))
    unfold bookV at HFR
    have b0 : w8.cell? ⟨gb, 0, none⟩ = some (.int .i64 0) := Hb7.out.cell 0
    have b1 : w8.cell? ⟨gb, 1, none⟩ = some (.slice pi5 ni5 ci5) := Hb7.out.cell 1
    have b2 : w8.cell? ⟨gb, 2, none⟩ = some (.slice none 0 0) := Hb7.out.cell 2
    go_wp2_with fail
    refine HFR.out.mono ?_
    rintro y9 w9 ⟨v9, rfl, ho, hb⟩
    clear HFR b0 b1 b2
    obtain ⟨p9, c9, rfl⟩ := ho.form
    clear ho
    have HL9 : Hid (((fullY k).filter (keepF 0)).length = k - 128) := full_free k
    rw [HL9.out]
    have Hb8 := kbq Hb7 hb
    have Hp8 := kbq Hp7 hb
    have Qv8 := Lib.hid (Qv7.out.kept hb)
    have Qo8 := Lib.hid (Qo7.out.kept hb)
    have HB8 := ktq HB7 hb
    have HZ8 := kzq HZ7 hb.size
    clear Hb7 Hp7 Qv7 Qo7 HB7 HZ7
    clear hb
    obtain ⟨j, hj⟩ : ∃ j, k - 128 = j := ⟨_, rfl⟩
    rw [hj]
    have hjb : ((j : Int) == (k : Int) - 128) = true := by rw [beq_iff_eq]; omega
    clear hj
    go_wp2_with fail
    go_ret
    exact ⟨rfl, HB8.out⟩
   ·skip
    have hm1 : ¬ (128 : Int) < (k : Int) := by omega
    have hmin : min k 128 = k := by omega
    rw [hmin] at e10
    have hm2 : ¬ (0 : Int) < (k : Int) - 128 := by omega
    have hm3 : IntKind.i64.wrap ((k : Int) - 128) = (k : Int) - 128 := IntWalk.i64_in _ (by have := HKB.out; omega)
    clear hbig hmin
    go_wp2_with fail
    refine HLK.out.mono ?_
    rintro y9 w8 ⟨v8, rfl, ho, hb⟩
    clear HLK b0 b1 b2 e10
    obtain ⟨p8, c8, rfl⟩ := ho.form
    clear ho
    have HL8 : Hid (((fullY k).filter (keepL 1)).length = k) := by show _ = _; rw [full_locked]; omega
    rw [HL8.out]
    have Hb7 := kbq Hb6 hb
    have Hp7 := kbq Hp6 hb
    have Qv7 := Lib.hid (Qv6.out.kept hb)
    have Qo7 := Lib.hid (Qo6.out.kept hb)
    have HB7 := ktq HB6 hb
    have HZ7 := kzq HZ6 hb.size
    clear Hb6 Hp6 Qv6 Qo6 HB6 HZ6
    clear hb
    have HFR := Lib.hid (bfree_any w8 0 pi5 none ni5 ci5 0 0 (fullY k) 0 Qv7.out.its.1 (by rw [fullY_len]; have := HKB.out; omega))
    unfold bookV at HFR
    have b0 : w8.cell? ⟨gb, 0, none⟩ = some (.int .i64 0) := Hb7.out.cell 0
    have b1 : w8.cell? ⟨gb, 1, none⟩ = some (.slice pi5 ni5 ci5) := Hb7.out.cell 1
    have b2 : w8.cell? ⟨gb, 2, none⟩ = some (.slice none 0 0) := Hb7.out.cell 2
    go_wp2_with fail
    refine HFR.out.mono ?_
    rintro y9 w9 ⟨v9, rfl, ho, hb⟩
    clear HFR b0 b1 b2
    obtain ⟨p9, c9, rfl⟩ := ho.form
    clear ho
    have HL9 : Hid (((fullY k).filter (keepF 0)).length = k - 128) := full_free k
    rw [HL9.out]
    have Hb8 := kbq Hb7 hb
    have Hp8 := kbq Hp7 hb
    have Qv8 := Lib.hid (Qv7.out.kept hb)
    have Qo8 := Lib.hid (Qo7.out.kept hb)
    have HB8 := ktq HB7 hb
    have HZ8 := kzq HZ7 hb.size
    clear Hb7 Hp7 Qv7 Qo7 HB7 HZ7
    clear hb
    obtain ⟨j, hj⟩ : ∃ j, k - 128 = j := ⟨_, rfl⟩
    rw [hj]
    obtain rfl : j = 0 := by omega
    clear hj
    go_wp2_with fail
    go_ret
    exact ⟨rfl, HB8.out⟩
end Go.Proofs.Ytmhocihajobkkaa
