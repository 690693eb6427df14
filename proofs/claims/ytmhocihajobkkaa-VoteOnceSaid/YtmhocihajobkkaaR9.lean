/- contralaw17.votes by contract. VoteOnce: what holds of each item behind a word, in plain words. contralaw17.fits by contract. contraref09.Rank by contract. '==' of two items. VoteOnce: its walk. Slices of items: from what a reading tells of them to rows. A word of a law, read, with what its lists hold. -/
import Derived.Test.YtmhocihajobkkaaR8
import Derived.Test.YtmhocihajobkkaaR3
import Derived.Test.YtmhocihajobkkaaR1
import Derived.Test.YtmhocihajobkkaaR2
import Derived.Laws.StructEq
namespace Go.Proofs.Ytmhocihajobkkaa
open Go.RowKit
set_option linter.unusedSimpArgs false
set_option linter.unusedSimpArgs false in
set_option maxHeartbeats 4000000 in
set_option maxRecDepth 100000 in
theorem votes_any (w : World) : Calls Try.prog 6 #[] w fun y w' => y = .returned (.bool true) ∧ Below w.heap.size w w' := by
 go_enter Try.func6, Try.ntmps6
 go_wp2_with fail
 have HB0 := Lib.hid (oneB w (.cells #[.int .i64 0, .int .i64 1, .int .i64 1, .int .i64 0, .int .i64 70, .int .i64 0, .int .i64 3, .int .i64 0] 54))
 have HZ0 : Hid (w.heap.size ≤ (w.alloc (.cells #[.int .i64 0, .int .i64 1, .int .i64 1, .int .i64 0, .int .i64 70, .int .i64 0, .int .i64 3, .int .i64 0] 54)).heap.size) := Lib.hid HB0.out.size
 have HR : Hid (TRow encI (w.alloc (.cells #[.int .i64 0, .int .i64 1, .int .i64 1, .int .i64 0, .int .i64 70, .int .i64 0, .int .i64 3, .int .i64 0] 54)) (.slice (some ⟨w.heap.size, 0, none⟩) 1 1) v1) := Lib.hid (TRow.lit encI v1 1 1 (Blk.new w #[.int .i64 0, .int .i64 1, .int .i64 1, .int .i64 0, .int .i64 70, .int .i64 0, .int .i64 3, .int .i64 0] 54) rfl rfl (Nat.le_refl _))
 generalize (w.alloc (.cells #[.int .i64 0, .int .i64 1, .int .i64 1, .int .i64 0, .int .i64 70, .int .i64 0, .int .i64 3, .int .i64 0] 54)) = WA at *
 have HG := Lib.hid (filled_any WA _ v1 HR.out (by decide))
 refine HG.out.mono ?_
 rintro y9 w1 ⟨hb, pi, ni, ci, pd, nd, cd, rfl, hx, hnx, -, -⟩
 clear HG
 have hgd := foldX_good (l := v1) (goodB_nil 0)
 rw [show foldX 0 [] v1 = v1 from (by decide +kernel)] at hx hnx hgd
 have HGD := Lib.hid hgd
 have Qx1 := Lib.hid (hx.imp (R := fun b => b < w1.heap.size) (fun b h _ => h))
 have HNX := Lib.hid hnx
 clear hx hnx hgd
 have HB1 := ktq HB0 hb
 have HZ1 := kzq HZ0 hb.size
 clear HB0 HZ0
 clear hb
 have hba : Below w1.heap.size w1 ((w1.alloc (.cells #[.int .i64 0, .slice pi ni ci, .slice none 0 0] 28)).alloc (.cells #[.int .i64 0, .int .i64 0, .slice pd nd cd, .slice none 0 0] 31)) := (oneB w1 (.cells #[.int .i64 0, .slice pi ni ci, .slice none 0 0] 28)).alloc (by simp) _
 have Qx2 := Lib.hid (Qx1.out.kept hba)
 have Hb2 : Hid (Blk ((w1.alloc (.cells #[.int .i64 0, .slice pi ni ci, .slice none 0 0] 28)).alloc (.cells #[.int .i64 0, .int .i64 0, .slice pd nd cd, .slice none 0 0] 31)) w1.heap.size #[.int .i64 0, .slice pi ni ci, .slice none 0 0] 28) := Lib.hid ((Blk.new w1 #[.int .i64 0, .slice pi ni ci, .slice none 0 0] 28).alloc _)
 have HB2 := ktq HB1 hba
 have HZ2 : Hid (w.heap.size ≤ ((w1.alloc (.cells #[.int .i64 0, .slice pi ni ci, .slice none 0 0] 28)).alloc (.cells #[.int .i64 0, .int .i64 0, .slice pd nd cd, .slice none 0 0] 31)).heap.size) := Lib.hid HB2.out.size
 have HGB : Hid (w1.heap.size < ((w1.alloc (.cells #[.int .i64 0, .slice pi ni ci, .slice none 0 0] 28)).alloc (.cells #[.int .i64 0, .int .i64 0, .slice pd nd cd, .slice none 0 0] 31)).heap.size ∧ w.heap.size ≤ w1.heap.size) := Lib.hid ⟨Hb2.out.lt, HB1.out.size⟩
 clear hba Qx1 HB1 HZ1
 go_upto_region 2 with fail
 generalize ((w1.alloc (.cells #[.int .i64 0, .slice pi ni ci, .slice none 0 0] 28)).alloc (.cells #[.int .i64 0, .int .i64 0, .slice pd nd cd, .slice none 0 0] 31)) = W2 at *
 generalize hgb : w1.heap.size = gb at *
 clear hgb
 have hba := oneB W2 (.cells #[.int .i64 0, .int .i64 2, .slice none 0 0] 36)
 have Hb3 := kbq Hb2 hba
 have Qx3 := Lib.hid (Qx2.out.kept hba)
 have Hp3 := Lib.hid (Blk.new W2 #[.int .i64 0, .int .i64 2, .slice none 0 0] 36)
 have HB3 := Lib.hid (HB2.out.alloc HB2.out.size (.cells #[.int .i64 0, .int .i64 2, .slice none 0 0] 36))
 have HZ3 := kzq HZ2 hba.size
 have HGgp : Hid (w.heap.size ≤ W2.heap.size) := Lib.hid HB2.out.size
 clear hba Hb2 Qx2 HB2 HZ2
 go_upto_region 3 with fail
 generalize (W2.alloc (.cells #[.int .i64 0, .int .i64 2, .slice none 0 0] 36)) = W3 at *
 generalize hggp : W2.heap.size = gp at *
 clear hggp
 have Qv3 : Hid (Vt (NotIn [gb, gp]) W3 0 none 0 0 pi ni ci [] v1) := Lib.hid (Vt.mk (PtsR.nil_ _ _) (Qx3.out.imp (fun b _ h hm => by have h2 := HGB.out; simp only [List.mem_cons, List.not_mem_nil, or_false] at hm; omega)) HGD.out rfl HNX.out (fun _ h => by cases h))
 clear Qx3 HGgp
 have HG := Lib.hid (vdo_q W3 (NotIn [gb, gp]) 0 2 0 none 0 0 pi ni ci none 0 0 [] v1 (sayX 10 1 false) (2) Qv3.out (fun b hb hm => by have h1 := Hp3.out.lt; have h2 := HGB.out; simp only [List.mem_cons, List.not_mem_nil, or_false] at hm; omega) (by decide) (by decide) (sayX_in _ _ _ _ (by decide) (by decide)) (by decide) (by decide))
 unfold sayX Msg.v at HG
 have a0 : W3.cell? ⟨gp, 0, none⟩ = some (.int .i64 0) := Hp3.out.cell 0
 have a1 : W3.cell? ⟨gp, 1, none⟩ = some (.int .i64 2) := Hp3.out.cell 1
 have a2 : W3.cell? ⟨gp, 2, none⟩ = some (.slice none 0 0) := Hp3.out.cell 2
 have b0 : W3.cell? ⟨gb, 0, none⟩ = some (.int .i64 0) := Hb3.out.cell 0
 have b1 : W3.cell? ⟨gb, 1, none⟩ = some (.slice pi ni ci) := Hb3.out.cell 1
 have b2 : W3.cell? ⟨gb, 2, none⟩ = some (.slice none 0 0) := Hb3.out.cell 2
 go_wp2_with fail
 clear a0 a1 a2 b0 b1 b2 
 refine HG.out.mono ?_
 rintro y9 w5 ⟨hb, p5, n5, c5, pi5, ni5, ci5, pv5, nv5, cv5, ps5, xs5, out5, e5, rfl, hv, hnv, hsd, hG⟩
 clear HG Qv3
 obtain ⟨rfl, rfl, rfl, lp, lc, rfl⟩ := votes1 hG
 clear hG
 have hn9 : nv5 = 1 := hnv
 clear hnv
 subst hn9
 have Hb4 := kbq Hb3 hb
 have Hp4 := kbq Hp3 hb
 have HB4 := ktq HB3 hb
 have HZ4 := kzq HZ3 hb.size
 clear Hb3 Hp3 HB3 HZ3
 clear hb
 have Qv4 := Lib.hid hv
 have Qs4 := Lib.hid hsd
 clear hv hsd
 go_wp2_with (with_reducible refine stop_storeT 36 (.tmp 4) (.tmp 25) rfl ?_)
 have HTH : Hid (w5.there gp 0 3) := Hp4.out.thereAt
 have hch : Hid (Chg gp w5 (w5.setCells gp 0 (#[.int .i64 0, .int .i64 2, .slice p5 n5 c5] : Array Value).toList)) := Lib.hid (chg_putL _ _ _ _ _ (Chg.refl _ w5))
 have Hp5 : Hid (Blk (w5.setCells gp 0 (#[.int .i64 0, .int .i64 2, .slice p5 n5 c5] : Array Value).toList) gp #[.int .i64 0, .int .i64 2, .slice p5 n5 c5] 36) := Lib.hid (blk_put_all Hp4.out _ rfl)
 have HB5 : Hid (Below w.heap.size w (w5.setCells gp 0 (#[.int .i64 0, .int .i64 2, .slice p5 n5 c5] : Array Value).toList)) := Lib.hid (below_put (by have h9 := HGB.out; omega) _ _ _ _ HB4.out)
 have HZ5 := kzq HZ4 hch.out.size
 have Hb5 := kcq Hb4 hch (by have h9 := HGB.out; omega)
 have Qv5 := Lib.hid (Qv4.out.chg hch.out (notIn_self (by simp)))
 have Qs5 := Lib.hid (Qs4.out.chg hch.out (notIn_self (by simp)))
 clear hch Hb4 Hp4 Qv4 Qs4 HB4 HZ4
 refine wpList_store_mid rfl 36 (.tmp 4) (.tmp 25) rfl gp 0 #[.int .i64 0, .int .i64 2, .slice p5 n5 c5] rfl rfl HTH.out (infoP3 rfl) (all_oneCell_toArray (by intro u hu; simp at hu; rcases hu with rfl | rfl | rfl <;> rfl)) ?_
 generalize (w5.setCells gp 0 (#[.int .i64 0, .int .i64 2, .slice p5 n5 c5] : Array Value).toList) = W6 at *
 clear HTH
 go_wp2_with (with_reducible refine stop_storeT 28 (.tmp 1) (.tmp 26) rfl ?_)
 have HTH : Hid (W6.there gb 0 3) := Hb5.out.thereAt
 have hch : Hid (Chg gb W6 (W6.setCells gb 0 (#[.int .i64 0, .slice pi5 ni5 ci5, .slice none 0 0] : Array Value).toList)) := Lib.hid (chg_putL _ _ _ _ _ (Chg.refl _ W6))
 have Hb6 : Hid (Blk (W6.setCells gb 0 (#[.int .i64 0, .slice pi5 ni5 ci5, .slice none 0 0] : Array Value).toList) gb #[.int .i64 0, .slice pi5 ni5 ci5, .slice none 0 0] 28) := Lib.hid (blk_put_all Hb5.out _ rfl)
 have HB6 : Hid (Below w.heap.size w (W6.setCells gb 0 (#[.int .i64 0, .slice pi5 ni5 ci5, .slice none 0 0] : Array Value).toList)) := Lib.hid (below_put (by have h9 := HGB.out; omega) _ _ _ _ HB5.out)
 have HZ6 := kzq HZ5 hch.out.size
 have Hp6 := kcq Hp5 hch (by have h9 := HGB.out; omega)
 have Qv6 := Lib.hid (Qv5.out.chg hch.out (notIn_self (by simp)))
 have Qs6 := Lib.hid (Qs5.out.chg hch.out (notIn_self (by simp)))
 clear hch Hb5 Hp5 Qv5 Qs5 HB5 HZ5
 refine wpList_store_mid rfl 28 (.tmp 1) (.tmp 26) rfl gb 0 #[.int .i64 0, .slice pi5 ni5 ci5, .slice none 0 0] rfl rfl HTH.out (infoB3 rfl) (all_oneCell_toArray (by intro u hu; simp at hu; rcases hu with rfl | rfl | rfl <;> rfl)) ?_
 generalize (W6.setCells gb 0 (#[.int .i64 0, .slice pi5 ni5 ci5, .slice none 0 0] : Array Value).toList) = W7 at *
 clear HTH
 obtain ⟨bo, oo, hpv, hsc⟩ := sd_one Qs6.out
 subst hpv
 have Qo6 := Lib.hid hsc
 clear hsc Qs6
 have e0 : W7.cell? ⟨bo, oo, none⟩ = some (.int .i64 2) := Qo6.out.cell 0 (by decide)
 have e10 : W7.cell? ⟨bo, oo + 10, none⟩ = some (.slice lp 1 lc) := Qo6.out.cell 10 (by decide)
 go_upto_region 6 with fail
 clear e0 e10
 go_cut [5, 6] from 57 (fun vo ve wx => ∃ (p6 : Option Addr) (n6 c6 : Nat) (pi6 : Option Addr) (ni6 ci6 : Nat) (bq oq cv6 : Nat) (lq : Option Addr) (lk : Nat), vo = .slice (some ⟨bq, oq, none⟩) 1 cv6 ∧ ve = .int .i64 0 ∧ Blk wx gp #[.int .i64 0, .int .i64 2, .slice p6 n6 c6] 36 ∧ Blk wx gb #[.int .i64 0, .slice pi6 ni6 ci6, .slice none 0 0] 28 ∧ Vt (NotIn [gb, gp]) wx 0 p6 n6 c6 pi6 ni6 ci6 [⟨1, 0, 2, lq, lk, [vl]⟩] v2 ∧ SdC (NotIn [gb, gp]) bq oq ⟨2, sayX 13 1 true⟩ wx ∧ Below w.heap.size w wx)
 case first =>
  have hbd := (Below.refl W7.heap.size W7).drew
  have Hb7 := kbq Hb6 hbd
  have Hp7 := kbq Hp6 hbd
  have Qv7 := Lib.hid (Qv6.out.kept hbd)
  have Qo7 := Lib.hid (Qo6.out.kept hbd)
  have HB7 := ktq HB6 hbd
  have HZ7 := kzq HZ6 hbd.size
  clear Hb6 Hp6 Qv6 Qo6 HB6 HZ6
  refine wp_region_held_drew (S := fun w' => w'.cell? ⟨bo, oo + 10, none⟩ = some (.slice lp 1 lc)) (by kernel_rfl) (Qo7.out.cell 10 (by decide)) (fun hS0 => ?_)
  generalize W7.drew = WD at *
  clear hbd
  refine tkq 2 ?_
  refine tkq 3 ?_
  refine tkq 4 ?_
  refine tkq 5 ?_
  refine tkq 6 ?_
  have a0 : WD.cell? ⟨gp, 0, none⟩ = some (.int .i64 0) := Hp7.out.cell 0
  have a0n : (WD.alloc (.cells #[.int .i64 70, .int .i64 (-70)] 2)).cell? ⟨gp, 0, none⟩ = some (.int .i64 0) := (Hp7.out.alloc _).cell 0
  have a1 : WD.cell? ⟨gp, 1, none⟩ = some (.int .i64 2) := Hp7.out.cell 1
  have a1n : (WD.alloc (.cells #[.int .i64 70, .int .i64 (-70)] 2)).cell? ⟨gp, 1, none⟩ = some (.int .i64 2) := (Hp7.out.alloc _).cell 1
  have a2 : WD.cell? ⟨gp, 2, none⟩ = some (.slice p5 n5 c5) := Hp7.out.cell 2
  have a2n : (WD.alloc (.cells #[.int .i64 70, .int .i64 (-70)] 2)).cell? ⟨gp, 2, none⟩ = some (.slice p5 n5 c5) := (Hp7.out.alloc _).cell 2
  have b0 : WD.cell? ⟨gb, 0, none⟩ = some (.int .i64 0) := Hb7.out.cell 0
  have b0n : (WD.alloc (.cells #[.int .i64 70, .int .i64 (-70)] 2)).cell? ⟨gb, 0, none⟩ = some (.int .i64 0) := (Hb7.out.alloc _).cell 0
  have b1 : WD.cell? ⟨gb, 1, none⟩ = some (.slice pi5 ni5 ci5) := Hb7.out.cell 1
  have b1n : (WD.alloc (.cells #[.int .i64 70, .int .i64 (-70)] 2)).cell? ⟨gb, 1, none⟩ = some (.slice pi5 ni5 ci5) := (Hb7.out.alloc _).cell 1
  have b2 : WD.cell? ⟨gb, 2, none⟩ = some (.slice none 0 0) := Hb7.out.cell 2
  have b2n : (WD.alloc (.cells #[.int .i64 70, .int .i64 (-70)] 2)).cell? ⟨gb, 2, none⟩ = some (.slice none 0 0) := (Hb7.out.alloc _).cell 2
  have e10n : (WD.alloc (.cells #[.int .i64 70, .int .i64 (-70)] 2)).cell? ⟨bo, oo + 10, none⟩ = some (.slice lp 1 lc) := (Qo7.out.kept (oneB WD (.cells #[.int .i64 70, .int .i64 (-70)] 2))).cell 10 (by decide)
  refine wpAnyH_ready (rs := [0, 1, 7]) (by kernel_rfl) (by simp) ?_
  refine AllReadyH.cons rfl (fun K hK => ?_) (AllReadyH.cons rfl (fun K hK => ?_) (AllReadyH.cons rfl (fun K hK => ?_) AllReadyH.nil))
  ·skip
   go_simp
   refine hK.out _ _ (Qo7.out.cell 10 (by decide)) (fun hS => ?_)
   clear hK K
   try simp only [Act.put, List.getElem_toArray, List.getElem_cons_succ, List.getElem_cons_zero, List.setIfInBounds_toArray, List.set_cons_zero, List.set_cons_succ]
   refine wpAnyH_ready (rs := [1, 7]) (by kernel_rfl) (by simp) ?_
   refine AllReadyH.cons rfl (fun K hK => ?_) (AllReadyH.cons rfl (fun K hK => ?_) AllReadyH.nil)
   ·skip
    go_simp
    refine hK.out _ _ (Qo7.out.cell 10 (by decide)) (fun hS => ?_)
    clear hK K
    try simp only [Act.put, List.getElem_toArray, List.getElem_cons_succ, List.getElem_cons_zero, List.setIfInBounds_toArray, List.set_cons_zero, List.set_cons_succ]
    refine rdq 7 (fun K hK => ?_)
    go_simp
    refine hK.out _ _ e10n (fun hS => ?_)
    clear hK K
    try simp only [Act.put, List.getElem_toArray, List.getElem_cons_succ, List.getElem_cons_zero, List.setIfInBounds_toArray, List.set_cons_zero, List.set_cons_succ]
    refine tkq 8 ?_
    clear hS
    have hbm := oneB WD (.cells #[.int .i64 70, .int .i64 (-70)] 2)
    have Hb8 := kbq Hb7 hbm
    have Hp8 := kbq Hp7 hbm
    have Qv8 := Lib.hid (Qv7.out.kept hbm)
    have Qo8 := Lib.hid (Qo7.out.kept hbm)
    have HB8 := ktq HB7 hbm
    have HZ8 : Hid (w.heap.size ≤ (WD.alloc (.cells #[.int .i64 70, .int .i64 (-70)] 2)).heap.size) := Lib.hid HB8.out.size
    have HNS : Hid (Row .i64 (WD.alloc (.cells #[.int .i64 70, .int .i64 (-70)] 2)) (.slice (some ⟨WD.heap.size, 0, none⟩) 2 2) [70, -70]) := Lib.hid row_two (Blk.new WD #[.int .i64 70, .int .i64 (-70)] 2)
    have hS0 := e10n
    clear hbm a0 a0n a1 a1n a2 a2n b0 b0n b1 b1n b2 b2n e10n Hb7 Hp7 Qv7 Qo7 HB7 HZ7
    generalize (WD.alloc (.cells #[.int .i64 70, .int .i64 (-70)] 2)) = WN at *
    generalize WD.heap.size = gn at *
    refine rdq 9 (fun K hK => ?_)
    have HG := Lib.hid (vdo_q WN (NotIn [gb, gp]) 0 2 0 p5 n5 c5 pi5 ni5 ci5 none 0 0 _ _ (⟨mPre, lp, lc, some ⟨gn, 0, none⟩, 2⟩ : MsgX) 2 Qv8.out (fun b hb hm => by have h1 := Hp8.out.lt; have h2 := HGB.out; simp only [List.mem_cons, List.not_mem_nil, or_false] at hm; omega) (by decide) (by decide) ⟨Qo8.out.2.1, HNS.out, mPre_fit⟩ (by show 1 ≤ 2000; decide) (by show 2 ≤ 100000; decide))
    unfold Msg.v at HG
    go_simp
    go_at_call 9
    refine HG.out.mono ?_
    rintro y9 w6 ⟨hb, p6, n6, c6, pi6, ni6, ci6, pv6, nv6, cv6, ps6, xs6, out6, e6, rfl, hv, hnv, hsd, hG⟩
    clear HG
    obtain ⟨rfl, rfl, rfl, lq, lk, rfl⟩ := votes2 hG
    clear hG
    have hn9 : nv6 = 1 := hnv
    clear hnv
    subst hn9
    obtain ⟨bq, oq, hpv, hsc⟩ := sd_one hsd
    subst hpv
    clear Qv8 hsd HNS
    have Hb9 := kbq Hb8 hb
    have Hp9 := kbq Hp8 hb
    have Qo9 := Lib.hid (Qo8.out.kept hb)
    have HB9 := ktq HB8 hb
    have HZ9 := kzq HZ8 hb.size
    clear Hb8 Hp8 Qo8 HB8 HZ8
    clear hb hS0
    have Qv9 := Lib.hid hv
    have Qs9 := Lib.hid hsc
    clear hv hsc
    try go_wp2_with fail
    refine hK.out _ _ (Qo9.out.cell 10 (by decide)) (fun hS0 => ?_)
    clear hK K
    try simp only [Act.put, List.getElem_toArray, List.getElem_cons_succ, List.getElem_cons_zero, List.setIfInBounds_toArray, List.set_cons_zero, List.set_cons_succ]
    refine tkq 10 ?_
    refine tkq 11 ?_
    refine tkq 12 ?_
    refine tkq 13 ?_
    refine tkq 14 ?_
    refine rdq 15 (fun K hK => ?_)
    have z0 : w6.cell? ⟨gp, 0, none⟩ = some (.int .i64 0) := Hp9.out.cell 0
    have z1 : w6.cell? ⟨gp, 1, none⟩ = some (.int .i64 2) := Hp9.out.cell 1
    have z2 : w6.cell? ⟨gp, 2, none⟩ = some (.slice p5 n5 c5) := Hp9.out.cell 2
    have f0 := Hp9.out.free 0
    have f1 := Hp9.out.free 1
    have f2 := Hp9.out.free 2
    go_simp
    clear z0 f0 z1 f1 z2 f2
    have hch := Lib.hid ((((Chg.refl gp w6).set 0 (.int .i64 0)).set 1 (.int .i64 2)).set 2 (.slice p6 n6 c6))
    have Hp10 : Hid (Blk _ gp #[.int .i64 0, .int .i64 2, .slice p6 n6 c6] 36) := Lib.hid (((Hp9.out.set 0 (.int .i64 0)).set 1 (.int .i64 2)).set 2 (.slice p6 n6 c6))
    have HB10 := ksq HB9 hch (by show w.heap.size ≤ gp; have h9 := HGB.out; omega)
    have HZ10 := kzq HZ9 hch.out.size
    have Hb10 := kcq Hb9 hch (by have h9 := HGB.out; omega)
    have Qo10 := Lib.hid (Qo9.out.chg hch.out (notIn_self (by simp)))
    have Qv10 := Lib.hid (Qv9.out.chg hch.out (notIn_self (by simp)))
    have Qs10 := Lib.hid (Qs9.out.chg hch.out (notIn_self (by simp)))
    clear hch hS0 Hb9 Hp9 Qo9 Qv9 Qs9 HB9 HZ9
    generalize (((w6.setCell ⟨gp, 0, none⟩ (.int .i64 0)).setCell ⟨gp, 1, none⟩ (.int .i64 2)).setCell ⟨gp, 2, none⟩ (.slice p6 n6 c6)) = WP at *
    refine hK.out _ _ (Qo10.out.cell 10 (by decide)) (fun hS0 => ?_)
    clear hK K
    try simp only [Act.put, List.getElem_toArray, List.getElem_cons_succ, List.getElem_cons_zero, List.setIfInBounds_toArray, List.set_cons_zero, List.set_cons_succ]
    refine rdq 16 (fun K hK => ?_)
    have z0 : WP.cell? ⟨gb, 0, none⟩ = some (.int .i64 0) := Hb10.out.cell 0
    have z1 : WP.cell? ⟨gb, 1, none⟩ = some (.slice pi5 ni5 ci5) := Hb10.out.cell 1
    have z2 : WP.cell? ⟨gb, 2, none⟩ = some (.slice none 0 0) := Hb10.out.cell 2
    have f0 := Hb10.out.free 0
    have f1 := Hb10.out.free 1
    have f2 := Hb10.out.free 2
    go_simp
    clear z0 f0 z1 f1 z2 f2
    have hch := Lib.hid ((((Chg.refl gb WP).set 0 (.int .i64 0)).set 1 (.slice pi6 ni6 ci6)).set 2 (.slice none 0 0))
    have Hb11 : Hid (Blk _ gb #[.int .i64 0, .slice pi6 ni6 ci6, .slice none 0 0] 28) := Lib.hid (((Hb10.out.set 0 (.int .i64 0)).set 1 (.slice pi6 ni6 ci6)).set 2 (.slice none 0 0))
    have HB11 := ksq HB10 hch (by show w.heap.size ≤ gb; have h9 := HGB.out; omega)
    have HZ11 := kzq HZ10 hch.out.size
    have Hp11 := kcq Hp10 hch (by have h9 := HGB.out; omega)
    have Qo11 := Lib.hid (Qo10.out.chg hch.out (notIn_self (by simp)))
    have Qv11 := Lib.hid (Qv10.out.chg hch.out (notIn_self (by simp)))
    have Qs11 := Lib.hid (Qs10.out.chg hch.out (notIn_self (by simp)))
    clear hch hS0 Hb10 Hp10 Qo10 Qv10 Qs10 HB10 HZ10
    generalize (((WP.setCell ⟨gb, 0, none⟩ (.int .i64 0)).setCell ⟨gb, 1, none⟩ (.slice pi6 ni6 ci6)).setCell ⟨gb, 2, none⟩ (.slice none 0 0)) = WQ at *
    refine hK.out _ _ (Qo11.out.cell 10 (by decide)) (fun hS0 => ?_)
    clear hK K
    try simp only [Act.put, List.getElem_toArray, List.getElem_cons_succ, List.getElem_cons_zero, List.setIfInBounds_toArray, List.set_cons_zero, List.set_cons_succ]
    refine tkq 17 ?_
    refine tkq 18 ?_
    refine wpAnyH_done (by kernel_rfl) ?_ _
    clear hS0
    go_wp2_with fail
    go_meet
    case rel => exact ⟨p6, n6, c6, pi6, ni6, ci6, bq, oq, cv6, lq, lk, rfl, rfl, Hp11.out, Hb11.out, Qv11.out, Qs11.out, HB11.out⟩
   ·skip
    go_simp
    refine hK.out _ _ e10n (fun hS => ?_)
    clear hK K
    try simp only [Act.put, List.getElem_toArray, List.getElem_cons_succ, List.getElem_cons_zero, List.setIfInBounds_toArray, List.set_cons_zero, List.set_cons_succ]
    refine tkq 8 ?_
    refine rdq 1 (fun K hK => ?_)
    go_simp
    refine hK.out _ _ e10n (fun hS => ?_)
    clear hK K
    try simp only [Act.put, List.getElem_toArray, List.getElem_cons_succ, List.getElem_cons_zero, List.setIfInBounds_toArray, List.set_cons_zero, List.set_cons_succ]
    clear hS
    have hbm := oneB WD (.cells #[.int .i64 70, .int .i64 (-70)] 2)
    have Hb8 := kbq Hb7 hbm
    have Hp8 := kbq Hp7 hbm
    have Qv8 := Lib.hid (Qv7.out.kept hbm)
    have Qo8 := Lib.hid (Qo7.out.kept hbm)
    have HB8 := ktq HB7 hbm
    have HZ8 : Hid (w.heap.size ≤ (WD.alloc (.cells #[.int .i64 70, .int .i64 (-70)] 2)).heap.size) := Lib.hid HB8.out.size
    have HNS : Hid (Row .i64 (WD.alloc (.cells #[.int .i64 70, .int .i64 (-70)] 2)) (.slice (some ⟨WD.heap.size, 0, none⟩) 2 2) [70, -70]) := Lib.hid row_two (Blk.new WD #[.int .i64 70, .int .i64 (-70)] 2)
    have hS0 := e10n
    clear hbm a0 a0n a1 a1n a2 a2n b0 b0n b1 b1n b2 b2n e10n Hb7 Hp7 Qv7 Qo7 HB7 HZ7
    generalize (WD.alloc (.cells #[.int .i64 70, .int .i64 (-70)] 2)) = WN at *
    generalize WD.heap.size = gn at *
    refine rdq 9 (fun K hK => ?_)
    have HG := Lib.hid (vdo_q WN (NotIn [gb, gp]) 0 2 0 p5 n5 c5 pi5 ni5 ci5 none 0 0 _ _ (⟨mPre, lp, lc, some ⟨gn, 0, none⟩, 2⟩ : MsgX) 2 Qv8.out (fun b hb hm => by have h1 := Hp8.out.lt; have h2 := HGB.out; simp only [List.mem_cons, List.not_mem_nil, or_false] at hm; omega) (by decide) (by decide) ⟨Qo8.out.2.1, HNS.out, mPre_fit⟩ (by show 1 ≤ 2000; decide) (by show 2 ≤ 100000; decide))
    unfold Msg.v at HG
    go_simp
    go_at_call 9
    refine HG.out.mono ?_
    rintro y9 w6 ⟨hb, p6, n6, c6, pi6, ni6, ci6, pv6, nv6, cv6, ps6, xs6, out6, e6, rfl, hv, hnv, hsd, hG⟩
    clear HG
    obtain ⟨rfl, rfl, rfl, lq, lk, rfl⟩ := votes2 hG
    clear hG
    have hn9 : nv6 = 1 := hnv
    clear hnv
    subst hn9
    obtain ⟨bq, oq, hpv, hsc⟩ := sd_one hsd
    subst hpv
    clear Qv8 hsd HNS
    have Hb9 := kbq Hb8 hb
    have Hp9 := kbq Hp8 hb
    have Qo9 := Lib.hid (Qo8.out.kept hb)
    have HB9 := ktq HB8 hb
    have HZ9 := kzq HZ8 hb.size
    clear Hb8 Hp8 Qo8 HB8 HZ8
    clear hb hS0
    have Qv9 := Lib.hid hv
    have Qs9 := Lib.hid hsc
    clear hv hsc
    try go_wp2_with fail
    refine hK.out _ _ (Qo9.out.cell 10 (by decide)) (fun hS0 => ?_)
    clear hK K
    try simp only [Act.put, List.getElem_toArray, List.getElem_cons_succ, List.getElem_cons_zero, List.setIfInBounds_toArray, List.set_cons_zero, List.set_cons_succ]
    refine tkq 10 ?_
    refine tkq 11 ?_
    refine tkq 12 ?_
    refine tkq 13 ?_
    refine tkq 14 ?_
    refine rdq 15 (fun K hK => ?_)
    have z0 : w6.cell? ⟨gp, 0, none⟩ = some (.int .i64 0) := Hp9.out.cell 0
    have z1 : w6.cell? ⟨gp, 1, none⟩ = some (.int .i64 2) := Hp9.out.cell 1
    have z2 : w6.cell? ⟨gp, 2, none⟩ = some (.slice p5 n5 c5) := Hp9.out.cell 2
    have f0 := Hp9.out.free 0
    have f1 := Hp9.out.free 1
    have f2 := Hp9.out.free 2
    go_simp
    clear z0 f0 z1 f1 z2 f2
    have hch := Lib.hid ((((Chg.refl gp w6).set 0 (.int .i64 0)).set 1 (.int .i64 2)).set 2 (.slice p6 n6 c6))
    have Hp10 : Hid (Blk _ gp #[.int .i64 0, .int .i64 2, .slice p6 n6 c6] 36) := Lib.hid (((Hp9.out.set 0 (.int .i64 0)).set 1 (.int .i64 2)).set 2 (.slice p6 n6 c6))
    have HB10 := ksq HB9 hch (by show w.heap.size ≤ gp; have h9 := HGB.out; omega)
    have HZ10 := kzq HZ9 hch.out.size
    have Hb10 := kcq Hb9 hch (by have h9 := HGB.out; omega)
    have Qo10 := Lib.hid (Qo9.out.chg hch.out (notIn_self (by simp)))
    have Qv10 := Lib.hid (Qv9.out.chg hch.out (notIn_self (by simp)))
    have Qs10 := Lib.hid (Qs9.out.chg hch.out (notIn_self (by simp)))
    clear hch hS0 Hb9 Hp9 Qo9 Qv9 Qs9 HB9 HZ9
    generalize (((w6.setCell ⟨gp, 0, none⟩ (.int .i64 0)).setCell ⟨gp, 1, none⟩ (.int .i64 2)).setCell ⟨gp, 2, none⟩ (.slice p6 n6 c6)) = WP at *
    refine hK.out _ _ (Qo10.out.cell 10 (by decide)) (fun hS0 => ?_)
    clear hK K
    try simp only [Act.put, List.getElem_toArray, List.getElem_cons_succ, List.getElem_cons_zero, List.setIfInBounds_toArray, List.set_cons_zero, List.set_cons_succ]
    refine rdq 16 (fun K hK => ?_)
    have z0 : WP.cell? ⟨gb, 0, none⟩ = some (.int .i64 0) := Hb10.out.cell 0
    have z1 : WP.cell? ⟨gb, 1, none⟩ = some (.slice pi5 ni5 ci5) := Hb10.out.cell 1
    have z2 : WP.cell? ⟨gb, 2, none⟩ = some (.slice none 0 0) := Hb10.out.cell 2
    have f0 := Hb10.out.free 0
    have f1 := Hb10.out.free 1
    have f2 := Hb10.out.free 2
    go_simp
    clear z0 f0 z1 f1 z2 f2
    have hch := Lib.hid ((((Chg.refl gb WP).set 0 (.int .i64 0)).set 1 (.slice pi6 ni6 ci6)).set 2 (.slice none 0 0))
    have Hb11 : Hid (Blk _ gb #[.int .i64 0, .slice pi6 ni6 ci6, .slice none 0 0] 28) := Lib.hid (((Hb10.out.set 0 (.int .i64 0)).set 1 (.slice pi6 ni6 ci6)).set 2 (.slice none 0 0))
    have HB11 := ksq HB10 hch (by show w.heap.size ≤ gb; have h9 := HGB.out; omega)
    have HZ11 := kzq HZ10 hch.out.size
    have Hp11 := kcq Hp10 hch (by have h9 := HGB.out; omega)
    have Qo11 := Lib.hid (Qo10.out.chg hch.out (notIn_self (by simp)))
    have Qv11 := Lib.hid (Qv10.out.chg hch.out (notIn_self (by simp)))
    have Qs11 := Lib.hid (Qs10.out.chg hch.out (notIn_self (by simp)))
    clear hch hS0 Hb10 Hp10 Qo10 Qv10 Qs10 HB10 HZ10
    generalize (((WP.setCell ⟨gb, 0, none⟩ (.int .i64 0)).setCell ⟨gb, 1, none⟩ (.slice pi6 ni6 ci6)).setCell ⟨gb, 2, none⟩ (.slice none 0 0)) = WQ at *
    refine hK.out _ _ (Qo11.out.cell 10 (by decide)) (fun hS0 => ?_)
    clear hK K
    try simp only [Act.put, List.getElem_toArray, List.getElem_cons_succ, List.getElem_cons_zero, List.setIfInBounds_toArray, List.set_cons_zero, List.set_cons_succ]
    refine tkq 17 ?_
    refine tkq 18 ?_
    refine wpAnyH_done (by kernel_rfl) ?_ _
    clear hS0
    go_wp2_with fail
    go_meet
    case rel => exact ⟨p6, n6, c6, pi6, ni6, ci6, bq, oq, cv6, lq, lk, rfl, rfl, Hp11.out, Hb11.out, Qv11.out, Qs11.out, HB11.out⟩
  ·skip
   go_simp
   refine hK.out _ _ (Qo7.out.cell 10 (by decide)) (fun hS => ?_)
   clear hK K
   try simp only [Act.put, List.getElem_toArray, List.getElem_cons_succ, List.getElem_cons_zero, List.setIfInBounds_toArray, List.set_cons_zero, List.set_cons_succ]
   refine wpAnyH_ready (rs := [0, 7]) (by kernel_rfl) (by simp) ?_
   refine AllReadyH.cons rfl (fun K hK => ?_) (AllReadyH.cons rfl (fun K hK => ?_) AllReadyH.nil)
   ·skip
    go_simp
    refine hK.out _ _ (Qo7.out.cell 10 (by decide)) (fun hS => ?_)
    clear hK K
    try simp only [Act.put, List.getElem_toArray, List.getElem_cons_succ, List.getElem_cons_zero, List.setIfInBounds_toArray, List.set_cons_zero, List.set_cons_succ]
    refine rdq 7 (fun K hK => ?_)
    go_simp
    refine hK.out _ _ e10n (fun hS => ?_)
    clear hK K
    try simp only [Act.put, List.getElem_toArray, List.getElem_cons_succ, List.getElem_cons_zero, List.setIfInBounds_toArray, List.set_cons_zero, List.set_cons_succ]
    refine tkq 8 ?_
    clear hS
    have hbm := oneB WD (.cells #[.int .i64 70, .int .i64 (-70)] 2)
    have Hb8 := kbq Hb7 hbm
    have Hp8 := kbq Hp7 hbm
    have Qv8 := Lib.hid (Qv7.out.kept hbm)
    have Qo8 := Lib.hid (Qo7.out.kept hbm)
    have HB8 := ktq HB7 hbm
    have HZ8 : Hid (w.heap.size ≤ (WD.alloc (.cells #[.int .i64 70, .int .i64 (-70)] 2)).heap.size) := Lib.hid HB8.out.size
    have HNS : Hid (Row .i64 (WD.alloc (.cells #[.int .i64 70, .int .i64 (-70)] 2)) (.slice (some ⟨WD.heap.size, 0, none⟩) 2 2) [70, -70]) := Lib.hid row_two (Blk.new WD #[.int .i64 70, .int .i64 (-70)] 2)
    have hS0 := e10n
    clear hbm a0 a0n a1 a1n a2 a2n b0 b0n b1 b1n b2 b2n e10n Hb7 Hp7 Qv7 Qo7 HB7 HZ7
    generalize (WD.alloc (.cells #[.int .i64 70, .int .i64 (-70)] 2)) = WN at *
    generalize WD.heap.size = gn at *
    refine rdq 9 (fun K hK => ?_)
    have HG := Lib.hid (vdo_q WN (NotIn [gb, gp]) 0 2 0 p5 n5 c5 pi5 ni5 ci5 none 0 0 _ _ (⟨mPre, lp, lc, some ⟨gn, 0, none⟩, 2⟩ : MsgX) 2 Qv8.out (fun b hb hm => by have h1 := Hp8.out.lt; have h2 := HGB.out; simp only [List.mem_cons, List.not_mem_nil, or_false] at hm; omega) (by decide) (by decide) ⟨Qo8.out.2.1, HNS.out, mPre_fit⟩ (by show 1 ≤ 2000; decide) (by show 2 ≤ 100000; decide))
    unfold Msg.v at HG
    go_simp
    go_at_call 9
    refine HG.out.mono ?_
    rintro y9 w6 ⟨hb, p6, n6, c6, pi6, ni6, ci6, pv6, nv6, cv6, ps6, xs6, out6, e6, rfl, hv, hnv, hsd, hG⟩
    clear HG
    obtain ⟨rfl, rfl, rfl, lq, lk, rfl⟩ := votes2 hG
    clear hG
    have hn9 : nv6 = 1 := hnv
    clear hnv
    subst hn9
    obtain ⟨bq, oq, hpv, hsc⟩ := sd_one hsd
    subst hpv
    clear Qv8 hsd HNS
    have Hb9 := kbq Hb8 hb
    have Hp9 := kbq Hp8 hb
    have Qo9 := Lib.hid (Qo8.out.kept hb)
    have HB9 := ktq HB8 hb
    have HZ9 := kzq HZ8 hb.size
    clear Hb8 Hp8 Qo8 HB8 HZ8
    clear hb hS0
    have Qv9 := Lib.hid hv
    have Qs9 := Lib.hid hsc
    clear hv hsc
    try go_wp2_with fail
    refine hK.out _ _ (Qo9.out.cell 10 (by decide)) (fun hS0 => ?_)
    clear hK K
    try simp only [Act.put, List.getElem_toArray, List.getElem_cons_succ, List.getElem_cons_zero, List.setIfInBounds_toArray, List.set_cons_zero, List.set_cons_succ]
    refine tkq 10 ?_
    refine tkq 11 ?_
    refine tkq 12 ?_
    refine tkq 13 ?_
    refine tkq 14 ?_
    refine rdq 15 (fun K hK => ?_)
    have z0 : w6.cell? ⟨gp, 0, none⟩ = some (.int .i64 0) := Hp9.out.cell 0
    have z1 : w6.cell? ⟨gp, 1, none⟩ = some (.int .i64 2) := Hp9.out.cell 1
    have z2 : w6.cell? ⟨gp, 2, none⟩ = some (.slice p5 n5 c5) := Hp9.out.cell 2
    have f0 := Hp9.out.free 0
    have f1 := Hp9.out.free 1
    have f2 := Hp9.out.free 2
    go_simp
    clear z0 f0 z1 f1 z2 f2
    have hch := Lib.hid ((((Chg.refl gp w6).set 0 (.int .i64 0)).set 1 (.int .i64 2)).set 2 (.slice p6 n6 c6))
    have Hp10 : Hid (Blk _ gp #[.int .i64 0, .int .i64 2, .slice p6 n6 c6] 36) := Lib.hid (((Hp9.out.set 0 (.int .i64 0)).set 1 (.int .i64 2)).set 2 (.slice p6 n6 c6))
    have HB10 := ksq HB9 hch (by show w.heap.size ≤ gp; have h9 := HGB.out; omega)
    have HZ10 := kzq HZ9 hch.out.size
    have Hb10 := kcq Hb9 hch (by have h9 := HGB.out; omega)
    have Qo10 := Lib.hid (Qo9.out.chg hch.out (notIn_self (by simp)))
    have Qv10 := Lib.hid (Qv9.out.chg hch.out (notIn_self (by simp)))
    have Qs10 := Lib.hid (Qs9.out.chg hch.out (notIn_self (by simp)))
    clear hch hS0 Hb9 Hp9 Qo9 Qv9 Qs9 HB9 HZ9
    generalize (((w6.setCell ⟨gp, 0, none⟩ (.int .i64 0)).setCell ⟨gp, 1, none⟩ (.int .i64 2)).setCell ⟨gp, 2, none⟩ (.slice p6 n6 c6)) = WP at *
    refine hK.out _ _ (Qo10.out.cell 10 (by decide)) (fun hS0 => ?_)
    clear hK K
    try simp only [Act.put, List.getElem_toArray, List.getElem_cons_succ, List.getElem_cons_zero, List.setIfInBounds_toArray, List.set_cons_zero, List.set_cons_succ]
    refine rdq 16 (fun K hK => ?_)
    have z0 : WP.cell? ⟨gb, 0, none⟩ = some (.int .i64 0) := Hb10.out.cell 0
    have z1 : WP.cell? ⟨gb, 1, none⟩ = some (.slice pi5 ni5 ci5) := Hb10.out.cell 1
    have z2 : WP.cell? ⟨gb, 2, none⟩ = some (.slice none 0 0) := Hb10.out.cell 2
    have f0 := Hb10.out.free 0
    have f1 := Hb10.out.free 1
    have f2 := Hb10.out.free 2
    go_simp
    clear z0 f0 z1 f1 z2 f2
    have hch := Lib.hid ((((Chg.refl gb WP).set 0 (.int .i64 0)).set 1 (.slice pi6 ni6 ci6)).set 2 (.slice none 0 0))
    have Hb11 : Hid (Blk _ gb #[.int .i64 0, .slice pi6 ni6 ci6, .slice none 0 0] 28) := Lib.hid (((Hb10.out.set 0 (.int .i64 0)).set 1 (.slice pi6 ni6 ci6)).set 2 (.slice none 0 0))
    have HB11 := ksq HB10 hch (by show w.heap.size ≤ gb; have h9 := HGB.out; omega)
    have HZ11 := kzq HZ10 hch.out.size
    have Hp11 := kcq Hp10 hch (by have h9 := HGB.out; omega)
    have Qo11 := Lib.hid (Qo10.out.chg hch.out (notIn_self (by simp)))
    have Qv11 := Lib.hid (Qv10.out.chg hch.out (notIn_self (by simp)))
    have Qs11 := Lib.hid (Qs10.out.chg hch.out (notIn_self (by simp)))
    clear hch hS0 Hb10 Hp10 Qo10 Qv10 Qs10 HB10 HZ10
    generalize (((WP.setCell ⟨gb, 0, none⟩ (.int .i64 0)).setCell ⟨gb, 1, none⟩ (.slice pi6 ni6 ci6)).setCell ⟨gb, 2, none⟩ (.slice none 0 0)) = WQ at *
    refine hK.out _ _ (Qo11.out.cell 10 (by decide)) (fun hS0 => ?_)
    clear hK K
    try simp only [Act.put, List.getElem_toArray, List.getElem_cons_succ, List.getElem_cons_zero, List.setIfInBounds_toArray, List.set_cons_zero, List.set_cons_succ]
    refine tkq 17 ?_
    refine tkq 18 ?_
    refine wpAnyH_done (by kernel_rfl) ?_ _
    clear hS0
    go_wp2_with fail
    go_meet
    case rel => exact ⟨p6, n6, c6, pi6, ni6, ci6, bq, oq, cv6, lq, lk, rfl, rfl, Hp11.out, Hb11.out, Qv11.out, Qs11.out, HB11.out⟩
   ·skip
    go_simp
    refine hK.out _ _ e10n (fun hS => ?_)
    clear hK K
    try simp only [Act.put, List.getElem_toArray, List.getElem_cons_succ, List.getElem_cons_zero, List.setIfInBounds_toArray, List.set_cons_zero, List.set_cons_succ]
    refine tkq 8 ?_
    refine rdq 0 (fun K hK => ?_)
    go_simp
    refine hK.out _ _ e10n (fun hS => ?_)
    clear hK K
    try simp only [Act.put, List.getElem_toArray, List.getElem_cons_succ, List.getElem_cons_zero, List.setIfInBounds_toArray, List.set_cons_zero, List.set_cons_succ]
    clear hS
    have hbm := oneB WD (.cells #[.int .i64 70, .int .i64 (-70)] 2)
    have Hb8 := kbq Hb7 hbm
    have Hp8 := kbq Hp7 hbm
    have Qv8 := Lib.hid (Qv7.out.kept hbm)
    have Qo8 := Lib.hid (Qo7.out.kept hbm)
    have HB8 := ktq HB7 hbm
    have HZ8 : Hid (w.heap.size ≤ (WD.alloc (.cells #[.int .i64 70, .int .i64 (-70)] 2)).heap.size) := Lib.hid HB8.out.size
    have HNS : Hid (Row .i64 (WD.alloc (.cells #[.int .i64 70, .int .i64 (-70)] 2)) (.slice (some ⟨WD.heap.size, 0, none⟩) 2 2) [70, -70]) := Lib.hid row_two (Blk.new WD #[.int .i64 70, .int .i64 (-70)] 2)
    have hS0 := e10n
    clear hbm a0 a0n a1 a1n a2 a2n b0 b0n b1 b1n b2 b2n e10n Hb7 Hp7 Qv7 Qo7 HB7 HZ7
    generalize (WD.alloc (.cells #[.int .i64 70, .int .i64 (-70)] 2)) = WN at *
    generalize WD.heap.size = gn at *
    refine rdq 9 (fun K hK => ?_)
    have HG := Lib.hid (vdo_q WN (NotIn [gb, gp]) 0 2 0 p5 n5 c5 pi5 ni5 ci5 none 0 0 _ _ (⟨mPre, lp, lc, some ⟨gn, 0, none⟩, 2⟩ : MsgX) 2 Qv8.out (fun b hb hm => by have h1 := Hp8.out.lt; have h2 := HGB.out; simp only [List.mem_cons, List.not_mem_nil, or_false] at hm; omega) (by decide) (by decide) ⟨Qo8.out.2.1, HNS.out, mPre_fit⟩ (by show 1 ≤ 2000; decide) (by show 2 ≤ 100000; decide))
    unfold Msg.v at HG
    go_simp
    go_at_call 9
    refine HG.out.mono ?_
    rintro y9 w6 ⟨hb, p6, n6, c6, pi6, ni6, ci6, pv6, nv6, cv6, ps6, xs6, out6, e6, rfl, hv, hnv, hsd, hG⟩
    clear HG
    obtain ⟨rfl, rfl, rfl, lq, lk, rfl⟩ := votes2 hG
    clear hG
    have hn9 : nv6 = 1 := hnv
    clear hnv
    subst hn9
    obtain ⟨bq, oq, hpv, hsc⟩ := sd_one hsd
    subst hpv
    clear Qv8 hsd HNS
    have Hb9 := kbq Hb8 hb
    have Hp9 := kbq Hp8 hb
    have Qo9 := Lib.hid (Qo8.out.kept hb)
    have HB9 := ktq HB8 hb
    have HZ9 := kzq HZ8 hb.size
    clear Hb8 Hp8 Qo8 HB8 HZ8
    clear hb hS0
    have Qv9 := Lib.hid hv
    have Qs9 := Lib.hid hsc
    clear hv hsc
    try go_wp2_with fail
    refine hK.out _ _ (Qo9.out.cell 10 (by decide)) (fun hS0 => ?_)
    clear hK K
    try simp only [Act.put, List.getElem_toArray, List.getElem_cons_succ, List.getElem_cons_zero, List.setIfInBounds_toArray, List.set_cons_zero, List.set_cons_succ]
    refine tkq 10 ?_
    refine tkq 11 ?_
    refine tkq 12 ?_
    refine tkq 13 ?_
    refine tkq 14 ?_
    refine rdq 15 (fun K hK => ?_)
    have z0 : w6.cell? ⟨gp, 0, none⟩ = some (.int .i64 0) := Hp9.out.cell 0
    have z1 : w6.cell? ⟨gp, 1, none⟩ = some (.int .i64 2) := Hp9.out.cell 1
    have z2 : w6.cell? ⟨gp, 2, none⟩ = some (.slice p5 n5 c5) := Hp9.out.cell 2
    have f0 := Hp9.out.free 0
    have f1 := Hp9.out.free 1
    have f2 := Hp9.out.free 2
    go_simp
    clear z0 f0 z1 f1 z2 f2
    have hch := Lib.hid ((((Chg.refl gp w6).set 0 (.int .i64 0)).set 1 (.int .i64 2)).set 2 (.slice p6 n6 c6))
    have Hp10 : Hid (Blk _ gp #[.int .i64 0, .int .i64 2, .slice p6 n6 c6] 36) := Lib.hid (((Hp9.out.set 0 (.int .i64 0)).set 1 (.int .i64 2)).set 2 (.slice p6 n6 c6))
    have HB10 := ksq HB9 hch (by show w.heap.size ≤ gp; have h9 := HGB.out; omega)
    have HZ10 := kzq HZ9 hch.out.size
    have Hb10 := kcq Hb9 hch (by have h9 := HGB.out; omega)
    have Qo10 := Lib.hid (Qo9.out.chg hch.out (notIn_self (by simp)))
    have Qv10 := Lib.hid (Qv9.out.chg hch.out (notIn_self (by simp)))
    have Qs10 := Lib.hid (Qs9.out.chg hch.out (notIn_self (by simp)))
    clear hch hS0 Hb9 Hp9 Qo9 Qv9 Qs9 HB9 HZ9
    generalize (((w6.setCell ⟨gp, 0, none⟩ (.int .i64 0)).setCell ⟨gp, 1, none⟩ (.int .i64 2)).setCell ⟨gp, 2, none⟩ (.slice p6 n6 c6)) = WP at *
    refine hK.out _ _ (Qo10.out.cell 10 (by decide)) (fun hS0 => ?_)
    clear hK K
    try simp only [Act.put, List.getElem_toArray, List.getElem_cons_succ, List.getElem_cons_zero, List.setIfInBounds_toArray, List.set_cons_zero, List.set_cons_succ]
    refine rdq 16 (fun K hK => ?_)
    have z0 : WP.cell? ⟨gb, 0, none⟩ = some (.int .i64 0) := Hb10.out.cell 0
    have z1 : WP.cell? ⟨gb, 1, none⟩ = some (.slice pi5 ni5 ci5) := Hb10.out.cell 1
    have z2 : WP.cell? ⟨gb, 2, none⟩ = some (.slice none 0 0) := Hb10.out.cell 2
    have f0 := Hb10.out.free 0
    have f1 := Hb10.out.free 1
    have f2 := Hb10.out.free 2
    go_simp
    clear z0 f0 z1 f1 z2 f2
    have hch := Lib.hid ((((Chg.refl gb WP).set 0 (.int .i64 0)).set 1 (.slice pi6 ni6 ci6)).set 2 (.slice none 0 0))
    have Hb11 : Hid (Blk _ gb #[.int .i64 0, .slice pi6 ni6 ci6, .slice none 0 0] 28) := Lib.hid (((Hb10.out.set 0 (.int .i64 0)).set 1 (.slice pi6 ni6 ci6)).set 2 (.slice none 0 0))
    have HB11 := ksq HB10 hch (by show w.heap.size ≤ gb; have h9 := HGB.out; omega)
    have HZ11 := kzq HZ10 hch.out.size
    have Hp11 := kcq Hp10 hch (by have h9 := HGB.out; omega)
    have Qo11 := Lib.hid (Qo10.out.chg hch.out (notIn_self (by simp)))
    have Qv11 := Lib.hid (Qv10.out.chg hch.out (notIn_self (by simp)))
    have Qs11 := Lib.hid (Qs10.out.chg hch.out (notIn_self (by simp)))
    clear hch hS0 Hb10 Hp10 Qo10 Qv10 Qs10 HB10 HZ10
    generalize (((WP.setCell ⟨gb, 0, none⟩ (.int .i64 0)).setCell ⟨gb, 1, none⟩ (.slice pi6 ni6 ci6)).setCell ⟨gb, 2, none⟩ (.slice none 0 0)) = WQ at *
    refine hK.out _ _ (Qo11.out.cell 10 (by decide)) (fun hS0 => ?_)
    clear hK K
    try simp only [Act.put, List.getElem_toArray, List.getElem_cons_succ, List.getElem_cons_zero, List.setIfInBounds_toArray, List.set_cons_zero, List.set_cons_succ]
    refine tkq 17 ?_
    refine tkq 18 ?_
    refine wpAnyH_done (by kernel_rfl) ?_ _
    clear hS0
    go_wp2_with fail
    go_meet
    case rel => exact ⟨p6, n6, c6, pi6, ni6, ci6, bq, oq, cv6, lq, lk, rfl, rfl, Hp11.out, Hb11.out, Qv11.out, Qs11.out, HB11.out⟩
  ·skip
   go_simp
   refine hK.out _ _ e10n (fun hS => ?_)
   clear hK K
   try simp only [Act.put, List.getElem_toArray, List.getElem_cons_succ, List.getElem_cons_zero, List.setIfInBounds_toArray, List.set_cons_zero, List.set_cons_succ]
   refine tkq 8 ?_
   refine wpAnyH_ready (rs := [0, 1]) (by kernel_rfl) (by simp) ?_
   refine AllReadyH.cons rfl (fun K hK => ?_) (AllReadyH.cons rfl (fun K hK => ?_) AllReadyH.nil)
   ·skip
    go_simp
    refine hK.out _ _ e10n (fun hS => ?_)
    clear hK K
    try simp only [Act.put, List.getElem_toArray, List.getElem_cons_succ, List.getElem_cons_zero, List.setIfInBounds_toArray, List.set_cons_zero, List.set_cons_succ]
    refine rdq 1 (fun K hK => ?_)
    go_simp
    refine hK.out _ _ e10n (fun hS => ?_)
    clear hK K
    try simp only [Act.put, List.getElem_toArray, List.getElem_cons_succ, List.getElem_cons_zero, List.setIfInBounds_toArray, List.set_cons_zero, List.set_cons_succ]
    clear hS
    have hbm := oneB WD (.cells #[.int .i64 70, .int .i64 (-70)] 2)
    have Hb8 := kbq Hb7 hbm
    have Hp8 := kbq Hp7 hbm
    have Qv8 := Lib.hid (Qv7.out.kept hbm)
    have Qo8 := Lib.hid (Qo7.out.kept hbm)
    have HB8 := ktq HB7 hbm
    have HZ8 : Hid (w.heap.size ≤ (WD.alloc (.cells #[.int .i64 70, .int .i64 (-70)] 2)).heap.size) := Lib.hid HB8.out.size
    have HNS : Hid (Row .i64 (WD.alloc (.cells #[.int .i64 70, .int .i64 (-70)] 2)) (.slice (some ⟨WD.heap.size, 0, none⟩) 2 2) [70, -70]) := Lib.hid row_two (Blk.new WD #[.int .i64 70, .int .i64 (-70)] 2)
    have hS0 := e10n
    clear hbm a0 a0n a1 a1n a2 a2n b0 b0n b1 b1n b2 b2n e10n Hb7 Hp7 Qv7 Qo7 HB7 HZ7
    generalize (WD.alloc (.cells #[.int .i64 70, .int .i64 (-70)] 2)) = WN at *
    generalize WD.heap.size = gn at *
    refine rdq 9 (fun K hK => ?_)
    have HG := Lib.hid (vdo_q WN (NotIn [gb, gp]) 0 2 0 p5 n5 c5 pi5 ni5 ci5 none 0 0 _ _ (⟨mPre, lp, lc, some ⟨gn, 0, none⟩, 2⟩ : MsgX) 2 Qv8.out (fun b hb hm => by have h1 := Hp8.out.lt; have h2 := HGB.out; simp only [List.mem_cons, List.not_mem_nil, or_false] at hm; omega) (by decide) (by decide) ⟨Qo8.out.2.1, HNS.out, mPre_fit⟩ (by show 1 ≤ 2000; decide) (by show 2 ≤ 100000; decide))
    unfold Msg.v at HG
    go_simp
    go_at_call 9
    refine HG.out.mono ?_
    rintro y9 w6 ⟨hb, p6, n6, c6, pi6, ni6, ci6, pv6, nv6, cv6, ps6, xs6, out6, e6, rfl, hv, hnv, hsd, hG⟩
    clear HG
    obtain ⟨rfl, rfl, rfl, lq, lk, rfl⟩ := votes2 hG
    clear hG
    have hn9 : nv6 = 1 := hnv
    clear hnv
    subst hn9
    obtain ⟨bq, oq, hpv, hsc⟩ := sd_one hsd
    subst hpv
    clear Qv8 hsd HNS
    have Hb9 := kbq Hb8 hb
    have Hp9 := kbq Hp8 hb
    have Qo9 := Lib.hid (Qo8.out.kept hb)
    have HB9 := ktq HB8 hb
    have HZ9 := kzq HZ8 hb.size
    clear Hb8 Hp8 Qo8 HB8 HZ8
    clear hb hS0
    have Qv9 := Lib.hid hv
    have Qs9 := Lib.hid hsc
    clear hv hsc
    try go_wp2_with fail
    refine hK.out _ _ (Qo9.out.cell 10 (by decide)) (fun hS0 => ?_)
    clear hK K
    try simp only [Act.put, List.getElem_toArray, List.getElem_cons_succ, List.getElem_cons_zero, List.setIfInBounds_toArray, List.set_cons_zero, List.set_cons_succ]
    refine tkq 10 ?_
    refine tkq 11 ?_
    refine tkq 12 ?_
    refine tkq 13 ?_
    refine tkq 14 ?_
    refine rdq 15 (fun K hK => ?_)
    have z0 : w6.cell? ⟨gp, 0, none⟩ = some (.int .i64 0) := Hp9.out.cell 0
    have z1 : w6.cell? ⟨gp, 1, none⟩ = some (.int .i64 2) := Hp9.out.cell 1
    have z2 : w6.cell? ⟨gp, 2, none⟩ = some (.slice p5 n5 c5) := Hp9.out.cell 2
    have f0 := Hp9.out.free 0
    have f1 := Hp9.out.free 1
    have f2 := Hp9.out.free 2
    go_simp
    clear z0 f0 z1 f1 z2 f2
    have hch := Lib.hid ((((Chg.refl gp w6).set 0 (.int .i64 0)).set 1 (.int .i64 2)).set 2 (.slice p6 n6 c6))
    have Hp10 : Hid (Blk _ gp #[.int .i64 0, .int .i64 2, .slice p6 n6 c6] 36) := Lib.hid (((Hp9.out.set 0 (.int .i64 0)).set 1 (.int .i64 2)).set 2 (.slice p6 n6 c6))
    have HB10 := ksq HB9 hch (by show w.heap.size ≤ gp; have h9 := HGB.out; omega)
    have HZ10 := kzq HZ9 hch.out.size
    have Hb10 := kcq Hb9 hch (by have h9 := HGB.out; omega)
    have Qo10 := Lib.hid (Qo9.out.chg hch.out (notIn_self (by simp)))
    have Qv10 := Lib.hid (Qv9.out.chg hch.out (notIn_self (by simp)))
    have Qs10 := Lib.hid (Qs9.out.chg hch.out (notIn_self (by simp)))
    clear hch hS0 Hb9 Hp9 Qo9 Qv9 Qs9 HB9 HZ9
    generalize (((w6.setCell ⟨gp, 0, none⟩ (.int .i64 0)).setCell ⟨gp, 1, none⟩ (.int .i64 2)).setCell ⟨gp, 2, none⟩ (.slice p6 n6 c6)) = WP at *
    refine hK.out _ _ (Qo10.out.cell 10 (by decide)) (fun hS0 => ?_)
    clear hK K
    try simp only [Act.put, List.getElem_toArray, List.getElem_cons_succ, List.getElem_cons_zero, List.setIfInBounds_toArray, List.set_cons_zero, List.set_cons_succ]
    refine rdq 16 (fun K hK => ?_)
    have z0 : WP.cell? ⟨gb, 0, none⟩ = some (.int .i64 0) := Hb10.out.cell 0
    have z1 : WP.cell? ⟨gb, 1, none⟩ = some (.slice pi5 ni5 ci5) := Hb10.out.cell 1
    have z2 : WP.cell? ⟨gb, 2, none⟩ = some (.slice none 0 0) := Hb10.out.cell 2
    have f0 := Hb10.out.free 0
    have f1 := Hb10.out.free 1
    have f2 := Hb10.out.free 2
    go_simp
    clear z0 f0 z1 f1 z2 f2
    have hch := Lib.hid ((((Chg.refl gb WP).set 0 (.int .i64 0)).set 1 (.slice pi6 ni6 ci6)).set 2 (.slice none 0 0))
    have Hb11 : Hid (Blk _ gb #[.int .i64 0, .slice pi6 ni6 ci6, .slice none 0 0] 28) := Lib.hid (((Hb10.out.set 0 (.int .i64 0)).set 1 (.slice pi6 ni6 ci6)).set 2 (.slice none 0 0))
    have HB11 := ksq HB10 hch (by show w.heap.size ≤ gb; have h9 := HGB.out; omega)
    have HZ11 := kzq HZ10 hch.out.size
    have Hp11 := kcq Hp10 hch (by have h9 := HGB.out; omega)
    have Qo11 := Lib.hid (Qo10.out.chg hch.out (notIn_self (by simp)))
    have Qv11 := Lib.hid (Qv10.out.chg hch.out (notIn_self (by simp)))
    have Qs11 := Lib.hid (Qs10.out.chg hch.out (notIn_self (by simp)))
    clear hch hS0 Hb10 Hp10 Qo10 Qv10 Qs10 HB10 HZ10
    generalize (((WP.setCell ⟨gb, 0, none⟩ (.int .i64 0)).setCell ⟨gb, 1, none⟩ (.slice pi6 ni6 ci6)).setCell ⟨gb, 2, none⟩ (.slice none 0 0)) = WQ at *
    refine hK.out _ _ (Qo11.out.cell 10 (by decide)) (fun hS0 => ?_)
    clear hK K
    try simp only [Act.put, List.getElem_toArray, List.getElem_cons_succ, List.getElem_cons_zero, List.setIfInBounds_toArray, List.set_cons_zero, List.set_cons_succ]
    refine tkq 17 ?_
    refine tkq 18 ?_
    refine wpAnyH_done (by kernel_rfl) ?_ _
    clear hS0
    go_wp2_with fail
    go_meet
    case rel => exact ⟨p6, n6, c6, pi6, ni6, ci6, bq, oq, cv6, lq, lk, rfl, rfl, Hp11.out, Hb11.out, Qv11.out, Qs11.out, HB11.out⟩
   ·skip
    go_simp
    refine hK.out _ _ e10n (fun hS => ?_)
    clear hK K
    try simp only [Act.put, List.getElem_toArray, List.getElem_cons_succ, List.getElem_cons_zero, List.setIfInBounds_toArray, List.set_cons_zero, List.set_cons_succ]
    refine rdq 0 (fun K hK => ?_)
    go_simp
    refine hK.out _ _ e10n (fun hS => ?_)
    clear hK K
    try simp only [Act.put, List.getElem_toArray, List.getElem_cons_succ, List.getElem_cons_zero, List.setIfInBounds_toArray, List.set_cons_zero, List.set_cons_succ]
    clear hS
    have hbm := oneB WD (.cells #[.int .i64 70, .int .i64 (-70)] 2)
    have Hb8 := kbq Hb7 hbm
    have Hp8 := kbq Hp7 hbm
    have Qv8 := Lib.hid (Qv7.out.kept hbm)
    have Qo8 := Lib.hid (Qo7.out.kept hbm)
    have HB8 := ktq HB7 hbm
    have HZ8 : Hid (w.heap.size ≤ (WD.alloc (.cells #[.int .i64 70, .int .i64 (-70)] 2)).heap.size) := Lib.hid HB8.out.size
    have HNS : Hid (Row .i64 (WD.alloc (.cells #[.int .i64 70, .int .i64 (-70)] 2)) (.slice (some ⟨WD.heap.size, 0, none⟩) 2 2) [70, -70]) := Lib.hid row_two (Blk.new WD #[.int .i64 70, .int .i64 (-70)] 2)
    have hS0 := e10n
    clear hbm a0 a0n a1 a1n a2 a2n b0 b0n b1 b1n b2 b2n e10n Hb7 Hp7 Qv7 Qo7 HB7 HZ7
    generalize (WD.alloc (.cells #[.int .i64 70, .int .i64 (-70)] 2)) = WN at *
    generalize WD.heap.size = gn at *
    refine rdq 9 (fun K hK => ?_)
    have HG := Lib.hid (vdo_q WN (NotIn [gb, gp]) 0 2 0 p5 n5 c5 pi5 ni5 ci5 none 0 0 _ _ (⟨mPre, lp, lc, some ⟨gn, 0, none⟩, 2⟩ : MsgX) 2 Qv8.out (fun b hb hm => by have h1 := Hp8.out.lt; have h2 := HGB.out; simp only [List.mem_cons, List.not_mem_nil, or_false] at hm; omega) (by decide) (by decide) ⟨Qo8.out.2.1, HNS.out, mPre_fit⟩ (by show 1 ≤ 2000; decide) (by show 2 ≤ 100000; decide))
    unfold Msg.v at HG
    go_simp
    go_at_call 9
    refine HG.out.mono ?_
    rintro y9 w6 ⟨hb, p6, n6, c6, pi6, ni6, ci6, pv6, nv6, cv6, ps6, xs6, out6, e6, rfl, hv, hnv, hsd, hG⟩
    clear HG
    obtain ⟨rfl, rfl, rfl, lq, lk, rfl⟩ := votes2 hG
    clear hG
    have hn9 : nv6 = 1 := hnv
    clear hnv
    subst hn9
    obtain ⟨bq, oq, hpv, hsc⟩ := sd_one hsd
    subst hpv
    clear Qv8 hsd HNS
    have Hb9 := kbq Hb8 hb
    have Hp9 := kbq Hp8 hb
    have Qo9 := Lib.hid (Qo8.out.kept hb)
    have HB9 := ktq HB8 hb
    have HZ9 := kzq HZ8 hb.size
    clear Hb8 Hp8 Qo8 HB8 HZ8
    clear hb hS0
    have Qv9 := Lib.hid hv
    have Qs9 := Lib.hid hsc
    clear hv hsc
    try go_wp2_with fail
    refine hK.out _ _ (Qo9.out.cell 10 (by decide)) (fun hS0 => ?_)
    clear hK K
    try simp only [Act.put, List.getElem_toArray, List.getElem_cons_succ, List.getElem_cons_zero, List.setIfInBounds_toArray, List.set_cons_zero, List.set_cons_succ]
    refine tkq 10 ?_
    refine tkq 11 ?_
    refine tkq 12 ?_
    refine tkq 13 ?_
    refine tkq 14 ?_
    refine rdq 15 (fun K hK => ?_)
    have z0 : w6.cell? ⟨gp, 0, none⟩ = some (.int .i64 0) := Hp9.out.cell 0
    have z1 : w6.cell? ⟨gp, 1, none⟩ = some (.int .i64 2) := Hp9.out.cell 1
    have z2 : w6.cell? ⟨gp, 2, none⟩ = some (.slice p5 n5 c5) := Hp9.out.cell 2
    have f0 := Hp9.out.free 0
    have f1 := Hp9.out.free 1
    have f2 := Hp9.out.free 2
    go_simp
    clear z0 f0 z1 f1 z2 f2
    have hch := Lib.hid ((((Chg.refl gp w6).set 0 (.int .i64 0)).set 1 (.int .i64 2)).set 2 (.slice p6 n6 c6))
    have Hp10 : Hid (Blk _ gp #[.int .i64 0, .int .i64 2, .slice p6 n6 c6] 36) := Lib.hid (((Hp9.out.set 0 (.int .i64 0)).set 1 (.int .i64 2)).set 2 (.slice p6 n6 c6))
    have HB10 := ksq HB9 hch (by show w.heap.size ≤ gp; have h9 := HGB.out; omega)
    have HZ10 := kzq HZ9 hch.out.size
    have Hb10 := kcq Hb9 hch (by have h9 := HGB.out; omega)
    have Qo10 := Lib.hid (Qo9.out.chg hch.out (notIn_self (by simp)))
    have Qv10 := Lib.hid (Qv9.out.chg hch.out (notIn_self (by simp)))
    have Qs10 := Lib.hid (Qs9.out.chg hch.out (notIn_self (by simp)))
    clear hch hS0 Hb9 Hp9 Qo9 Qv9 Qs9 HB9 HZ9
    generalize (((w6.setCell ⟨gp, 0, none⟩ (.int .i64 0)).setCell ⟨gp, 1, none⟩ (.int .i64 2)).setCell ⟨gp, 2, none⟩ (.slice p6 n6 c6)) = WP at *
    refine hK.out _ _ (Qo10.out.cell 10 (by decide)) (fun hS0 => ?_)
    clear hK K
    try simp only [Act.put, List.getElem_toArray, List.getElem_cons_succ, List.getElem_cons_zero, List.setIfInBounds_toArray, List.set_cons_zero, List.set_cons_succ]
    refine rdq 16 (fun K hK => ?_)
    have z0 : WP.cell? ⟨gb, 0, none⟩ = some (.int .i64 0) := Hb10.out.cell 0
    have z1 : WP.cell? ⟨gb, 1, none⟩ = some (.slice pi5 ni5 ci5) := Hb10.out.cell 1
    have z2 : WP.cell? ⟨gb, 2, none⟩ = some (.slice none 0 0) := Hb10.out.cell 2
    have f0 := Hb10.out.free 0
    have f1 := Hb10.out.free 1
    have f2 := Hb10.out.free 2
    go_simp
    clear z0 f0 z1 f1 z2 f2
    have hch := Lib.hid ((((Chg.refl gb WP).set 0 (.int .i64 0)).set 1 (.slice pi6 ni6 ci6)).set 2 (.slice none 0 0))
    have Hb11 : Hid (Blk _ gb #[.int .i64 0, .slice pi6 ni6 ci6, .slice none 0 0] 28) := Lib.hid (((Hb10.out.set 0 (.int .i64 0)).set 1 (.slice pi6 ni6 ci6)).set 2 (.slice none 0 0))
    have HB11 := ksq HB10 hch (by show w.heap.size ≤ gb; have h9 := HGB.out; omega)
    have HZ11 := kzq HZ10 hch.out.size
    have Hp11 := kcq Hp10 hch (by have h9 := HGB.out; omega)
    have Qo11 := Lib.hid (Qo10.out.chg hch.out (notIn_self (by simp)))
    have Qv11 := Lib.hid (Qv10.out.chg hch.out (notIn_self (by simp)))
    have Qs11 := Lib.hid (Qs10.out.chg hch.out (notIn_self (by simp)))
    clear hch hS0 Hb10 Hp10 Qo10 Qv10 Qs10 HB10 HZ10
    generalize (((WP.setCell ⟨gb, 0, none⟩ (.int .i64 0)).setCell ⟨gb, 1, none⟩ (.slice pi6 ni6 ci6)).setCell ⟨gb, 2, none⟩ (.slice none 0 0)) = WQ at *
    refine hK.out _ _ (Qo11.out.cell 10 (by decide)) (fun hS0 => ?_)
    clear hK K
    try simp only [Act.put, List.getElem_toArray, List.getElem_cons_succ, List.getElem_cons_zero, List.setIfInBounds_toArray, List.set_cons_zero, List.set_cons_succ]
    refine tkq 17 ?_
    refine tkq 18 ?_
    refine wpAnyH_done (by kernel_rfl) ?_ _
    clear hS0
    go_wp2_with fail
    go_meet
    case rel => exact ⟨p6, n6, c6, pi6, ni6, ci6, bq, oq, cv6, lq, lk, rfl, rfl, Hp11.out, Hb11.out, Qv11.out, Qs11.out, HB11.out⟩
 case rest =>
  obtain ⟨p6, n6, c6, pi6, ni6, ci6, bq, oq, cv6, lq, lk, rfl, rfl, hp, hbb, hv, hsc, hbl⟩ := hcut
  have Hp7 := Lib.hid hp
  have Hb7 := Lib.hid hbb
  have Qv7 := Lib.hid hv
  have Qo7 := Lib.hid hsc
  have HB7 := Lib.hid hbl
  have HZ7 : Hid (w.heap.size ≤ wc.heap.size) := Lib.hid hbl.size
  clear hp hbb hv hsc hbl Hb6 Hp6 Qv6 Qo6 HB6 HZ6
  have HG := Lib.hid (vwaits_any wc 0 2 p6 n6 c6 _ Qv7.out.pts.row Qv7.out.np (by have h := Qv7.out.np; rw [h]; first | decide | simp))
  have e9 : wc.cell? ⟨bq, oq + 9, none⟩ = some (.bool true) := Qo7.out.cell 9 (by decide)
  have a0 : wc.cell? ⟨gp, 0, none⟩ = some (.int .i64 0) := Hp7.out.cell 0
  have a1 : wc.cell? ⟨gp, 1, none⟩ = some (.int .i64 2) := Hp7.out.cell 1
  have a2 : wc.cell? ⟨gp, 2, none⟩ = some (.slice p6 n6 c6) := Hp7.out.cell 2
  go_wp2_with fail
  clear a0 a1 a2 e9
  refine HG.out.mono ?_
  rintro y9 w7 ⟨pq7, nq7, cq7, rfl, hn7, hb⟩
  clear HG
  have hn8 : nq7 = 1 := hn7
  clear hn7
  subst hn8
  have Hp8 := kbq Hp7 hb
  have Hb8 := kbq Hb7 hb
  have Qv8 := Lib.hid (Qv7.out.kept hb)
  have Qo8 := Lib.hid (Qo7.out.kept hb)
  have HB8 := ktq HB7 hb
  have HZ8 := kzq HZ7 hb.size
  clear Hp7 Hb7 Qv7 Qo7 HB7 HZ7
  clear hb
  go_upto_region 9 with fail
  clear Qo8
  have HG := Lib.hid (vdo_q w7 (NotIn [gb, gp]) 0 2 0 p6 n6 c6 pi6 ni6 ci6 none 0 0 [⟨1, 0, 2, lq, lk, [vl]⟩] v2 (sayX 14 1 true) (2) Qv8.out (fun b hb hm => by have h1 := Hp8.out.lt; have h2 := HGB.out; simp only [List.mem_cons, List.not_mem_nil, or_false] at hm; omega) (by simp) (by decide) (sayX_in _ _ _ _ (by decide) (by decide)) (by decide) (by decide))
  unfold sayX Msg.v at HG
  have a0 : w7.cell? ⟨gp, 0, none⟩ = some (.int .i64 0) := Hp8.out.cell 0
  have a1 : w7.cell? ⟨gp, 1, none⟩ = some (.int .i64 2) := Hp8.out.cell 1
  have a2 : w7.cell? ⟨gp, 2, none⟩ = some (.slice p6 n6 c6) := Hp8.out.cell 2
  have b0 : w7.cell? ⟨gb, 0, none⟩ = some (.int .i64 0) := Hb8.out.cell 0
  have b1 : w7.cell? ⟨gb, 1, none⟩ = some (.slice pi6 ni6 ci6) := Hb8.out.cell 1
  have b2 : w7.cell? ⟨gb, 2, none⟩ = some (.slice none 0 0) := Hb8.out.cell 2
  go_wp2_with fail
  clear a0 a1 a2 b0 b1 b2 
  refine HG.out.mono ?_
  rintro y9 w8 ⟨hb, p8, n8, c8, pi8, ni8, ci8, pv8, nv8, cv8, ps8, xs8, out8, e8, rfl, hv, hnv, hsd, hG⟩
  clear HG Qv8
  obtain ⟨rfl, rfl, rfl⟩ := votes3 hG
  clear hG hnv
  have Hp9 := kbq Hp8 hb
  have Hb9 := kbq Hb8 hb
  have HB9 := ktq HB8 hb
  have HZ9 := kzq HZ8 hb.size
  clear Hp8 Hb8 HB8 HZ8
  clear hb
  have Qv9 := Lib.hid hv
  have Qs9 := Lib.hid hsd
  clear hv hsd
  go_wp2_with (with_reducible refine stop_storeT 36 (.tmp 4) (.tmp 97) rfl ?_)
  have HTH : Hid (w8.there gp 0 3) := Hp9.out.thereAt
  have hch : Hid (Chg gp w8 (w8.setCells gp 0 (#[.int .i64 0, .int .i64 2, .slice p8 n8 c8] : Array Value).toList)) := Lib.hid (chg_putL _ _ _ _ _ (Chg.refl _ w8))
  have Hp10 : Hid (Blk (w8.setCells gp 0 (#[.int .i64 0, .int .i64 2, .slice p8 n8 c8] : Array Value).toList) gp #[.int .i64 0, .int .i64 2, .slice p8 n8 c8] 36) := Lib.hid (blk_put_all Hp9.out _ rfl)
  have HB10 : Hid (Below w.heap.size w (w8.setCells gp 0 (#[.int .i64 0, .int .i64 2, .slice p8 n8 c8] : Array Value).toList)) := Lib.hid (below_put (by have h9 := HGB.out; omega) _ _ _ _ HB9.out)
  have HZ10 := kzq HZ9 hch.out.size
  have Hb10 := kcq Hb9 hch (by have h9 := HGB.out; omega)
  have Qv10 := Lib.hid (Qv9.out.chg hch.out (notIn_self (by simp)))
  have Qs10 := Lib.hid (Qs9.out.chg hch.out (notIn_self (by simp)))
  clear hch Hp9 Hb9 Qv9 Qs9 HB9 HZ9
  refine wpList_store_mid rfl 36 (.tmp 4) (.tmp 97) rfl gp 0 #[.int .i64 0, .int .i64 2, .slice p8 n8 c8] rfl rfl HTH.out (infoP3 rfl) (all_oneCell_toArray (by intro u hu; simp at hu; rcases hu with rfl | rfl | rfl <;> rfl)) ?_
  generalize (w8.setCells gp 0 (#[.int .i64 0, .int .i64 2, .slice p8 n8 c8] : Array Value).toList) = W10 at *
  clear HTH
  go_wp2_with (with_reducible refine stop_storeT 28 (.tmp 1) (.tmp 98) rfl ?_)
  have HTH : Hid (W10.there gb 0 3) := Hb10.out.thereAt
  have hch : Hid (Chg gb W10 (W10.setCells gb 0 (#[.int .i64 0, .slice pi8 ni8 ci8, .slice none 0 0] : Array Value).toList)) := Lib.hid (chg_putL _ _ _ _ _ (Chg.refl _ W10))
  have Hb11 : Hid (Blk (W10.setCells gb 0 (#[.int .i64 0, .slice pi8 ni8 ci8, .slice none 0 0] : Array Value).toList) gb #[.int .i64 0, .slice pi8 ni8 ci8, .slice none 0 0] 28) := Lib.hid (blk_put_all Hb10.out _ rfl)
  have HB11 : Hid (Below w.heap.size w (W10.setCells gb 0 (#[.int .i64 0, .slice pi8 ni8 ci8, .slice none 0 0] : Array Value).toList)) := Lib.hid (below_put (by have h9 := HGB.out; omega) _ _ _ _ HB10.out)
  have HZ11 := kzq HZ10 hch.out.size
  have Hp11 := kcq Hp10 hch (by have h9 := HGB.out; omega)
  have Qv11 := Lib.hid (Qv10.out.chg hch.out (notIn_self (by simp)))
  have Qs11 := Lib.hid (Qs10.out.chg hch.out (notIn_self (by simp)))
  clear hch Hp10 Hb10 Qv10 Qs10 HB10 HZ10
  refine wpList_store_mid rfl 28 (.tmp 1) (.tmp 98) rfl gb 0 #[.int .i64 0, .slice pi8 ni8 ci8, .slice none 0 0] rfl rfl HTH.out (infoB3 rfl) (all_oneCell_toArray (by intro u hu; simp at hu; rcases hu with rfl | rfl | rfl <;> rfl)) ?_
  generalize (W10.setCells gb 0 (#[.int .i64 0, .slice pi8 ni8 ci8, .slice none 0 0] : Array Value).toList) = W11 at *
  clear HTH
  clear Qs11
  have HG := Lib.hid (dget_any W11 0 pi8 none ni8 ci8 0 0 0 1 v3 Qv11.out.its.1 Qv11.out.nx.symm Qv11.out.good.1 (by have h := Qv11.out.nx; rw [h]; first | decide | simp))
  rw [show findX v3 0 1 = some ⟨0, 1, 1, 0, 70, 0, 5, 1⟩ from rfl] at HG
  simp only [Option.getD_some, Option.isSome_some] at HG
  unfold bookV idV Itm.v at HG
  have a0 : W11.cell? ⟨gb, 0, none⟩ = some (.int .i64 0) := Hb11.out.cell 0
  have a1 : W11.cell? ⟨gb, 1, none⟩ = some (.slice pi8 ni8 ci8) := Hb11.out.cell 1
  have a2 : W11.cell? ⟨gb, 2, none⟩ = some (.slice none 0 0) := Hb11.out.cell 2
  go_wp2_with fail
  clear a0 a1 a2
  refine HG.out.mono ?_
  rintro y9 w12 ⟨rfl, hb⟩
  clear HG
  have Hp12 := kbq Hp11 hb
  have Hb12 := kbq Hb11 hb
  have Qv12 := Lib.hid (Qv11.out.kept hb)
  have HB12 := ktq HB11 hb
  have HZ12 := kzq HZ11 hb.size
  clear Hp11 Hb11 Qv11 HB11 HZ11
  clear hb
  have hba := oneB w12 (.cells #[.int .i64 0, .int .i64 1, .int .i64 1, .int .i64 0, .int .i64 70, .int .i64 0, .int .i64 5, .int .i64 1] 54)
  have Hp13 := kbq Hp12 hba
  have Hb13 := kbq Hb12 hba
  have Qv13 := Lib.hid (Qv12.out.kept hba)
  have Hx13 := Lib.hid (Blk.new w12 #[.int .i64 0, .int .i64 1, .int .i64 1, .int .i64 0, .int .i64 70, .int .i64 0, .int .i64 5, .int .i64 1] 54)
  have HB13 := Lib.hid (HB12.out.alloc HB12.out.size (.cells #[.int .i64 0, .int .i64 1, .int .i64 1, .int .i64 0, .int .i64 70, .int .i64 0, .int .i64 5, .int .i64 1] 54))
  have HZ13 := kzq HZ12 hba.size
  have HGgx : Hid (w.heap.size ≤ w12.heap.size) := Lib.hid HB12.out.size
  clear hba Hp12 Hb12 Qv12 HB12 HZ12
  go_upto_region 11 with fail
  generalize (w12.alloc (.cells #[.int .i64 0, .int .i64 1, .int .i64 1, .int .i64 0, .int .i64 70, .int .i64 0, .int .i64 5, .int .i64 1] 54)) = W13 at *
  generalize hggx : w12.heap.size = gx at *
  clear hggx
  clear HGgx
  have HG := Lib.hid (vget_any W13 0 2 p8 n8 c8 [⟨1, 0, 4, lq, lk, [vl]⟩] 1 _ Qv13.out.pts Qv13.out.np (by simp) Qv13.out.ql)
  rw [show findC [⟨1, 0, 4, lq, lk, [vl]⟩] 1 = some ⟨1, 0, 4, lq, lk, [vl]⟩ from rfl] at HG
  dsimp only at HG
  have a0 : W13.cell? ⟨gp, 0, none⟩ = some (.int .i64 0) := Hp13.out.cell 0
  have a1 : W13.cell? ⟨gp, 1, none⟩ = some (.int .i64 2) := Hp13.out.cell 1
  have a2 : W13.cell? ⟨gp, 2, none⟩ = some (.slice p8 n8 c8) := Hp13.out.cell 2
  go_wp2_with fail
  clear a0 a1 a2
  refine HG.out.mono ?_
  rintro y9 w14 ⟨⟨pg, cg, rfl⟩, hb⟩
  clear HG
  have Hp14 := kbq Hp13 hb
  have Hb14 := kbq Hb13 hb
  have Hx14 := kbq Hx13 hb
  have Qv14 := Lib.hid (Qv13.out.kept hb)
  have HB14 := ktq HB13 hb
  have HZ14 := kzq HZ13 hb.size
  clear Hp13 Hb13 Hx13 Qv13 HB13 HZ13
  clear hb
  have hba := oneB w14 (.cells #[.int .i64 1, .int .i64 0, .int .i64 4, .slice pg [vl].length cg] 58)
  have Hp15 := kbq Hp14 hba
  have Hb15 := kbq Hb14 hba
  have Hx15 := kbq Hx14 hba
  have Qv15 := Lib.hid (Qv14.out.kept hba)
  have Hy15 := Lib.hid (Blk.new w14 #[.int .i64 1, .int .i64 0, .int .i64 4, .slice pg [vl].length cg] 58)
  have HB15 := Lib.hid (HB14.out.alloc HB14.out.size (.cells #[.int .i64 1, .int .i64 0, .int .i64 4, .slice pg [vl].length cg] 58))
  have HZ15 := kzq HZ14 hba.size
  have HGgy : Hid (w.heap.size ≤ w14.heap.size) := Lib.hid HB14.out.size
  clear hba Hp14 Hb14 Hx14 Qv14 HB14 HZ14
  go_upto_region 12 with fail
  generalize (w14.alloc (.cells #[.int .i64 1, .int .i64 0, .int .i64 4, .slice pg [vl].length cg] 58)) = W15 at *
  generalize hggy : w14.heap.size = gy at *
  clear hggy
  clear HGgy
  have HG := Lib.hid (vwaits_any W15 0 2 p8 n8 c8 _ Qv15.out.pts.row Qv15.out.np (by have h := Qv15.out.np; rw [h]; first | decide | simp))
  have e6 : W15.cell? ⟨gx, 6, none⟩ = some (.int .i64 5) := Hx15.out.cell 6
  have f2 : W15.cell? ⟨gy, 2, none⟩ = some (.int .i64 4) := Hy15.out.cell 2
  have a0 : W15.cell? ⟨gp, 0, none⟩ = some (.int .i64 0) := Hp15.out.cell 0
  have a1 : W15.cell? ⟨gp, 1, none⟩ = some (.int .i64 2) := Hp15.out.cell 1
  have a2 : W15.cell? ⟨gp, 2, none⟩ = some (.slice p8 n8 c8) := Hp15.out.cell 2
  go_wp2_with fail
  clear e6 f2 a0 a1 a2
  refine HG.out.mono ?_
  rintro y9 w16 ⟨pq9, nq9, cq9, rfl, hn9, hb⟩
  clear HG
  have hn7 : nq9 = 0 := hn9
  clear hn9
  subst hn7
  have Hp16 := kbq Hp15 hb
  have Hb16 := kbq Hb15 hb
  have Hx16 := kbq Hx15 hb
  have Hy16 := kbq Hy15 hb
  have Qv16 := Lib.hid (Qv15.out.kept hb)
  have HB16 := ktq HB15 hb
  have HZ16 := kzq HZ15 hb.size
  clear Hp15 Hb15 Hx15 Hy15 Qv15 HB15 HZ15
  clear hb
  go_wp2_with fail
  go_ret
  exact ⟨rfl, HB16.out⟩
end Go.Proofs.Ytmhocihajobkkaa
namespace Go.Proofs.Ytmhocihajobkkaa
open Go.RowKit
theorem act_once {m : Msg} {x y : Itm} (h : ActX m x y) : rankI x ≤ rankI y ∧ (x.t = 5 → y = x) ∧ (x.y ≠ 0 → y.y ≠ 0 → x.y = y.y) ∧ y.r = x.r := by
 rcases h with rfl | ⟨_, h3, h0, _, _, rfl⟩ | ⟨_, h3, hy, h0, rfl | rfl⟩
 ·exact ⟨Int.le_refl _, fun _ => rfl, fun _ _ => rfl, rfl⟩
 ·refine ⟨?_, fun h => by omega, fun h => absurd h0 h, rfl⟩
  unfold rankI
  dsimp only
  exact Int.le_refl _
 ·refine ⟨?_, fun h => by omega, fun _ _ => rfl, rfl⟩
  unfold rankI
  dsimp only
  rw [h3]
  simp
 ·refine ⟨?_, fun h => by omega, fun _ h => absurd rfl h, rfl⟩
  unfold rankI
  dsimp only
  exact Int.le_refl _
theorem good_r {me : Int} {X : List Itm} (h : GoodB me X) {x : Itm} (hx : x ∈ X) : -1073741824 ≤ x.r ∧ x.r ≤ 1073741824 := by
 obtain ⟨_, h2, _⟩ := chk_ok (h.2 x hx).1
 unfold numsOk at h2
 omega
/-- Of each item of the book: what has become of it. -/
theorem once_item {me N mb fro e : Int} {ps ps2 : List PtX} {xs xs2 : List Itm} {m : Msg} {out : List SdX} (hg : GoodB mb xs) (h : VoteG me N ps xs m fro ps2 xs2 out e) {x : Itm} (hx : x ∈ xs) :
  ∃ y, findX xs2 x.s x.n = some y ∧ (-1073741824 ≤ x.r ∧ x.r ≤ 1073741824) ∧ (-1073741824 ≤ y.r ∧ y.r ≤ 1073741824) ∧ rankI x ≤ rankI y ∧ (x.t = 5 → y = x) ∧ (x.y ≠ 0 → y.y ≠ 0 → x.y = y.y) := by
 obtain ⟨_, _, h1⟩ := vote_items hg h
 obtain ⟨y, hy, ha⟩ := h1 x hx
 obtain ⟨h2, h3, h4, h5⟩ := act_once ha
 have hr := good_r hg hx
 exact ⟨y, hy, hr, by rw [h5]; exact hr, h2, h3, h4⟩
/-- Of each line of what is said: the item that it is of. -/
theorem once_line {N : Int} {mb : Int} {xs : List Itm} {m : Msg} {z : SdX} (hg : GoodB mb xs) (h : SayOne N xs m [z]) : z.tw = N ∧ z.x.m.y = m.y ∧ ∀ l ∈ z.x.m.ls, ∃ q, findX xs l.s l.n = some q ∧ q.t = 3 ∧ q.y = 0 := by
 rcases h with h | ⟨z2, h, h1, h2, os, h3, h4⟩
 ·cases h
 ·have e : z = z2 := by simpa using h
  subst e
  refine ⟨h1, h2, fun l hl => ?_⟩
  rw [h3] at hl
  obtain ⟨q, hq, rfl⟩ := List.mem_map.1 hl
  obtain ⟨h5, h6, h7⟩ := h4 q hq
  exact ⟨q, find_sort hg.1 h5, h6, h7⟩
theorem once_out {N : Int} {xs : List Itm} {m : Msg} {out : List SdX} (h : SayOne N xs m out) : out = [] ∨ ∃ z, out = [z] := by
 rcases h with h | ⟨z, h, _⟩
 ·exact .inl h
 ·exact .inr ⟨z, h⟩
theorem once_at {N : Int} {mb : Int} {xs : List Itm} {m : Msg} {out : List SdX} (hg : GoodB mb xs) (h : SayOne N xs m out) : ∀ z ∈ out, z.tw = N ∧ z.x.m.y = m.y ∧ ∀ l ∈ z.x.m.ls, ∃ q, findX xs l.s l.n = some q ∧ q.t = 3 ∧ q.y = 0 := by
 intro z hz
 rcases once_out h with rfl | ⟨z2, rfl⟩
 ·cases hz
 ·rw [List.mem_singleton.1 hz]
  exact once_line hg h
theorem act_short {me N e : Int} {ps ps2 : List PtX} {xs xs2 : List Itm} {m : Msg} {out : List SdX} (h : actG me N ps xs m ps2 xs2 out e) : ∀ z ∈ out, z.x.m.ls.length ≤ 128 := by
 unfold actG at h
 split at h
 ·obtain ⟨h1, h2, h3⟩ := h
  by_cases hb : askBad m
  ·rw [(h1 hb).2.2.1]; exact fun _ hz => by cases hz
  ·by_cases hf : findC ps m.y = none
   ·obtain ⟨_, _, _, lp, lc, h4⟩ := h3 hb hf
    rw [h4]
    intro z hz
    rw [List.mem_singleton.1 hz]
    dsimp only
    unfold offerL
    rw [List.length_map, List.length_take]
    omega
   ·rw [(h2 hb hf).2.2.1]; exact fun _ hz => by cases hz
 ·split at h
  ·obtain ⟨_, h1, h2, h3⟩ := h
   by_cases h0 : (openP ps m.y).2 = 0
   ·by_cases hs : (openP ps m.y).1.st = 1
    ·rw [(h3 h0 hs).2.1]
     intro z hz
     rw [List.mem_singleton.1 hz]
     exact Nat.zero_le _
    ·rw [(h2 h0 hs).2.1]; exact fun _ hz => by cases hz
   ·rw [(h1 h0).2.1]; exact fun _ hz => by cases hz
  ·split at h
   ·rw [h.1]; exact fun _ hz => by cases hz
   ·rw [h.2.2.1]
    intro z hz
    rw [List.mem_singleton.1 hz]
    exact Nat.zero_le _
theorem vote_short {me N fro e : Int} {ps ps2 : List PtX} {xs xs2 : List Itm} {m : Msg} {out : List SdX} (h : VoteG me N ps xs m fro ps2 xs2 out e) : out.length ≤ 1 ∧ ∀ z ∈ out, z.x.m.ls.length ≤ 128 := by
 refine ⟨by rcases once_out (vote_says h) with h1 | ⟨z, h1⟩ <;> rw [h1] <;> simp, ?_⟩
 obtain ⟨h1, h2, h3⟩ := h
 by_cases hb : kindBad m fro
 ·rw [(h1 hb).2.2.1]; exact fun _ hz => by cases hz
 ·by_cases hf : fro = -1 ∨ fro = N
  ·obtain ⟨ps3, xs3, out3, e3, h4, h5, h6⟩ := h3 hb hf
   by_cases h0 : e3 = 0
   ·rw [(h6 h0).2.2.1]; exact act_short h4
   ·rw [(h5 h0).2.2.1]; exact fun _ hz => by cases hz
  ·rw [(h2 hb (fun h => hf (.inl h)) (fun h => hf (.inr h))).2.2.1]; exact fun _ hz => by cases hz
/-- Since a world nothing that was there has changed. -/
def BelB (A w : World) : Prop := Below A.heap.size A w
theorem BelB.kept {A w w' : World} (h : BelB A w) (hb : Below w.heap.size w w') : BelB A w' := Below.trans h (hb.mono h.size)
theorem BelB.refl (A : World) : BelB A A := Below.refl _ _
end Go.Proofs.Ytmhocihajobkkaa
namespace Go.Proofs.Ytmhocihajobkkaa
open Go.RowKit
set_option linter.unusedSimpArgs false
def fitZ (z : SdX) : Bool := decide (z.x.m.ls.length ≤ 60) && decide (z.x.m.ns.length ≤ 12)
def fitsW (its : List Itm) (ws : List SdX) : Bool := decide (its.length ≤ 40) && (decide (ws.length ≤ 40) && ws.all fitZ)
theorem fitsW_ok {its : List Itm} {ws : List SdX} (h : fitsW its ws = true) : its.length ≤ 40 ∧ ws.length ≤ 40 ∧ ∀ z ∈ ws, z.x.m.ls.length ≤ 60 ∧ z.x.m.ns.length ≤ 12 := by
 unfold fitsW fitZ at h
 simp only [Bool.and_eq_true, decide_eq_true_eq, List.all_eq_true] at h
 exact ⟨h.1, h.2.1, h.2.2⟩
set_option linter.unusedSimpArgs false in
set_option maxHeartbeats 4000000 in
set_option maxRecDepth 100000 in
theorem vfits_any (w : World) (vi vw : Value) (its : List Itm) (ws : List SdX) (hi : TRow encI w vi its) (hw : TRow encS w vw ws) :
  Calls Try.prog 7 #[vi, vw] w fun e w' => e = .returned (.bool (fitsW its ws)) ∧ Below w.heap.size w w' := by
 obtain ⟨p1, c1, rfl⟩ := hi.shape
 obtain ⟨p2, c2, rfl⟩ := hw.shape
 by_cases h1 : 40 < its.length
 ·have e : fitsW its ws = false := by unfold fitsW; rw [show decide (its.length ≤ 40) = false by simp; omega]; rfl
  rw [e]
  have hI : (40 : Int) < (its.length : Int) := by omega
  clear hi hw h1 e
  go_enter Try.func7, Try.ntmps7
  go_wp2_with fail
  go_ret
  exact ⟨rfl, Below.refl _ _⟩
 have e1 : decide (its.length ≤ 40) = true := by simp; omega
 have hI1 : ¬ (40 : Int) < (its.length : Int) := by omega
 by_cases h2 : 40 < ws.length
 ·have e : fitsW its ws = false := by unfold fitsW; rw [e1, show decide (ws.length ≤ 40) = false by simp; omega]; rfl
  rw [e]
  have hI : (40 : Int) < (ws.length : Int) := by omega
  clear hi hw h1 h2 e e1
  go_enter Try.func7, Try.ntmps7
  go_wp2_with fail
  go_ret
  exact ⟨rfl, Below.refl _ _⟩
 have e2 : decide (ws.length ≤ 40) = true := by simp; omega
 have hI2 : ¬ (40 : Int) < (ws.length : Int) := by omega
 have HE : Hid (fitsW its ws = ws.all fitZ) := by show _ = _; unfold fitsW; rw [e1, e2]; rfl
 have HW := Lib.hid hw
 have HWN : Hid (ws.length ≤ 40) := by show _ ≤ _; omega
 clear hi hw h1 h2 e1 e2
 generalize hn : ws.length = n at *
 have HL : Hid (ws.length = n) := Lib.hid hn
 clear hn
 have HREL : Hid (Below w.heap.size w w ∧ (ws.take 0).all fitZ = true) := ⟨Below.refl _ _, rfl⟩
 go_enter Try.func7, Try.ntmps7
 go_upto_region 4 with fail
 clear hI1 hI2
 go_loopw [17] (fun i wr => ∃ k : Nat, k ≤ n ∧ i = .int .i64 k ∧ Hid (Below w.heap.size w wr ∧ (ws.take k).all fitZ = true)) (fun i _ => n - (intOf i).toNat)
 case atStart => exact ⟨0, by omega, rfl, HREL⟩
 case round =>
  clear HREL
  obtain ⟨k, hk, rfl, HK⟩ := hrel
  have hk9 : k + 1 ≤ 41 := by have := HWN.out; omega
  by_cases hlt : k < n
  ·have hkl : k < ws.length := by rw [HL.out]; exact hlt
   have hltI : (k : Int) < (n : Int) := by omega
   have HTA : Hid ((ws.take (k + 1)).all fitZ = fitZ ws[k]) := by show _ = _; rw [List.take_succ_eq_append_getElem hkl, List.all_append, HK.out.2]; simp
   have HNO : Hid (fitZ ws[k] = false → ws.all fitZ = false) := fun h => by
    cases ha : ws.all fitZ
    ·rfl
    ·rw [List.all_eq_true] at ha
     rw [ha _ (List.getElem_mem hkl)] at h
     cases h
   obtain ⟨b, o, rfl, hbl, hcs⟩ := (HW.out.kept HK.out.1).at_ k hkl
   generalize ws[k] = z at *
   have c0 : wr.cell? ⟨b, o + k * 12, none⟩ = some (.int .i64 z.tw) := hcs 0 (by decide)
   have c1 : wr.cell? ⟨b, o + k * 12 + 1, none⟩ = some (.int .i64 z.x.m.k) := hcs 1 (by decide)
   have c2 : wr.cell? ⟨b, o + k * 12 + 2, none⟩ = some (.int .i64 z.x.m.s) := hcs 2 (by decide)
   have c3 : wr.cell? ⟨b, o + k * 12 + 3, none⟩ = some (.int .i64 z.x.m.n) := hcs 3 (by decide)
   have c4 : wr.cell? ⟨b, o + k * 12 + 4, none⟩ = some (.int .i64 z.x.m.b) := hcs 4 (by decide)
   have c5 : wr.cell? ⟨b, o + k * 12 + 5, none⟩ = some (.int .i64 z.x.m.c) := hcs 5 (by decide)
   have c6 : wr.cell? ⟨b, o + k * 12 + 6, none⟩ = some (.int .i64 z.x.m.r) := hcs 6 (by decide)
   have c7 : wr.cell? ⟨b, o + k * 12 + 7, none⟩ = some (.int .i64 z.x.m.y) := hcs 7 (by decide)
   have c8 : wr.cell? ⟨b, o + k * 12 + 8, none⟩ = some (.int .i64 z.x.m.a) := hcs 8 (by decide)
   have c9 : wr.cell? ⟨b, o + k * 12 + 9, none⟩ = some (.bool z.x.m.t) := hcs 9 (by decide)
   have c10 : wr.cell? ⟨b, o + k * 12 + 10, none⟩ = some (.slice z.x.pl z.x.m.ls.length z.x.cl) := hcs 10 (by decide)
   have c11 : wr.cell? ⟨b, o + k * 12 + 11, none⟩ = some (.slice z.x.pn z.x.m.ns.length z.x.cn) := hcs 11 (by decide)
   have HX := Lib.hid (Blk.new wr #[.int .i64 z.tw, .int .i64 z.x.m.k, .int .i64 z.x.m.s, .int .i64 z.x.m.n, .int .i64 z.x.m.b, .int .i64 z.x.m.c, .int .i64 z.x.m.r, .int .i64 z.x.m.y, .int .i64 z.x.m.a, .bool z.x.m.t, .slice z.x.pl z.x.m.ls.length z.x.cl, .slice z.x.pn z.x.m.ns.length z.x.cn] 52)
   have HB1 := Lib.hid (HK.out.1.alloc HK.out.1.size (.cells #[.int .i64 z.tw, .int .i64 z.x.m.k, .int .i64 z.x.m.s, .int .i64 z.x.m.n, .int .i64 z.x.m.b, .int .i64 z.x.m.c, .int .i64 z.x.m.r, .int .i64 z.x.m.y, .int .i64 z.x.m.a, .bool z.x.m.t, .slice z.x.pl z.x.m.ls.length z.x.cl, .slice z.x.pn z.x.m.ns.length z.x.cn] 52))
   clear hcs
   go_upto_region 6 with fail
   clear c0 c1 c2 c3 c4 c5 c6 c7 c8 c9 c10 c11
   generalize (wr.alloc (.cells #[.int .i64 z.tw, .int .i64 z.x.m.k, .int .i64 z.x.m.s, .int .i64 z.x.m.n, .int .i64 z.x.m.b, .int .i64 z.x.m.c, .int .i64 z.x.m.r, .int .i64 z.x.m.y, .int .i64 z.x.m.a, .bool z.x.m.t, .slice z.x.pl z.x.m.ls.length z.x.cl, .slice z.x.pn z.x.m.ns.length z.x.cn] 52)) = W2 at *
   generalize wr.heap.size = gx at *
   have c10 : W2.cell? ⟨gx, 10, none⟩ = some (.slice z.x.pl z.x.m.ls.length z.x.cl) := HX.out.cell 10
   have c11 : W2.cell? ⟨gx, 11, none⟩ = some (.slice z.x.pn z.x.m.ns.length z.x.cn) := HX.out.cell 11
   by_cases hl : 60 < z.x.m.ls.length
   ·have hlI : (60 : Int) < (z.x.m.ls.length : Int) := by omega
    have HF : Hid (fitsW its ws = false) := by
     show _ = _
     rw [HE.out, HNO.out (by unfold fitZ; rw [show decide (z.x.m.ls.length ≤ 60) = false by simp; omega]; rfl)]
    clear hl
    go_wp2_with fail
    go_ret
    exact ⟨by rw [HF.out]; rfl, HB1.out⟩
   ·have hlI : ¬ (60 : Int) < (z.x.m.ls.length : Int) := by omega
    by_cases hm : 12 < z.x.m.ns.length
    ·have hmI : (12 : Int) < (z.x.m.ns.length : Int) := by omega
     have HF : Hid (fitsW its ws = false) := by
      show _ = _
      rw [HE.out, HNO.out (by unfold fitZ; rw [show decide (z.x.m.ns.length ≤ 12) = false by simp; omega, Bool.and_false])]
     clear hl hm
     go_wp2_with fail
     go_ret
     exact ⟨by rw [HF.out]; rfl, HB1.out⟩
    ·have hmI : ¬ (12 : Int) < (z.x.m.ns.length : Int) := by omega
     have HNX : Hid (Below w.heap.size w W2 ∧ (ws.take (k + 1)).all fitZ = true) := ⟨HB1.out, by rw [HTA.out]; unfold fitZ; rw [show decide (z.x.m.ls.length ≤ 60) = true by simp; omega, show decide (z.x.m.ns.length ≤ 12) = true by simp; omega]; rfl⟩
     clear hl hm
     go_wp2_with fail
     go_roundw
     case rel => exact ⟨k + 1, by omega, by go_num, HNX⟩
     case measure => simp [intOf]; omega
  ·have hltI : ¬ (k : Int) < (n : Int) := by omega
   have HF : Hid (fitsW its ws = true) := by
    show _ = _
    rw [HE.out, ← HK.out.2, List.take_of_length_le (by rw [HL.out]; omega)]
   go_wp2_with fail
   go_ret
   exact ⟨by rw [HF.out]; rfl, HK.out.1⟩
end Go.Proofs.Ytmhocihajobkkaa
namespace Go.Proofs.Ytmhocihajobkkaa
open Go.RowKit
set_option linter.unusedSimpArgs false in
set_option maxHeartbeats 2000000 in
theorem rankr_any (x : Itm) (w : World) (hr : -1073741824 ≤ x.r ∧ x.r ≤ 1073741824) : Calls Try.prog 12 #[x.v] w fun e w' => e = .returned (.int .i64 (rankI x)) ∧ Below w.heap.size w w' := by
 unfold Itm.v at *
 go_enter Try.func12, Try.ntmps12
 go_wp2
 all_goals
  go_ret
  refine ⟨retI ?_, oneB w _⟩
  try simp only [beq_iff_eq, beq_eq_false_iff_ne, bne_iff_ne, bne_eq_false_iff_eq, ne_eq] at *
  unfold rankI
  try unfold wrap64
  repeat' split
  all_goals omega
end Go.Proofs.Ytmhocihajobkkaa
namespace Go.Proofs.Ytmhocihajobkkaa
open Go.RowKit
def itmEq (x y : Itm) : Bool := x.s == y.s && x.n == y.n && x.b == y.b && x.c == y.c && x.a == y.a && x.r == y.r && x.t == y.t && x.y == y.y
theorem itmEq_iff {x y : Itm} : itmEq x y = true ↔ x = y := by
 unfold itmEq
 simp only [Bool.and_eq_true, beq_iff_eq]
 constructor
 ·rintro ⟨⟨⟨⟨⟨⟨⟨h1, h2⟩, h3⟩, h4⟩, h5⟩, h6⟩, h7⟩, h8⟩
  cases x; cases y
  simp only at h1 h2 h3 h4 h5 h6 h7 h8
  rw [h1, h2, h3, h4, h5, h6, h7, h8]
 ·rintro rfl
  exact ⟨⟨⟨⟨⟨⟨⟨rfl, rfl⟩, rfl⟩, rfl⟩, rfl⟩, rfl⟩, rfl⟩, rfl⟩
theorem itmEq_dec (x y : Itm) : itmEq x y = decide (x = y) := by
 rw [Bool.eq_iff_iff, itmEq_iff, decide_eq_true_eq]
theorem item_eq (x y : Itm) (w : World) : (Op.equalIn 10000 54 (.agg #[.int .i64 x.s, .int .i64 x.n, .int .i64 x.b, .int .i64 x.c, .int .i64 x.a, .int .i64 x.r, .int .i64 x.t, .int .i64 x.y]) (.agg #[.int .i64 y.s, .int .i64 y.n, .int .i64 y.b, .int .i64 y.c, .int .i64 y.a, .int .i64 y.r, .int .i64 y.t, .int .i64 y.y])).run Try.prog w = .ok (itmEq x y) w := by
 cases h0 : x.s == y.s
 ·have e : itmEq x y = false := by unfold itmEq; rw [h0]; rfl
  rw [e]
  go_simp
 cases h1 : x.n == y.n
 ·have e : itmEq x y = false := by unfold itmEq; rw [h0, h1]; rfl
  rw [e]
  go_simp
 cases h2 : x.b == y.b
 ·have e : itmEq x y = false := by unfold itmEq; rw [h0, h1, h2]; rfl
  rw [e]
  go_simp
 cases h3 : x.c == y.c
 ·have e : itmEq x y = false := by unfold itmEq; rw [h0, h1, h2, h3]; rfl
  rw [e]
  go_simp
 cases h4 : x.a == y.a
 ·have e : itmEq x y = false := by unfold itmEq; rw [h0, h1, h2, h3, h4]; rfl
  rw [e]
  go_simp
 cases h5 : x.r == y.r
 ·have e : itmEq x y = false := by unfold itmEq; rw [h0, h1, h2, h3, h4, h5]; rfl
  rw [e]
  go_simp
 cases h6 : x.t == y.t
 ·have e : itmEq x y = false := by unfold itmEq; rw [h0, h1, h2, h3, h4, h5, h6]; rfl
  rw [e]
  go_simp
 cases h7 : x.y == y.y
 ·have e : itmEq x y = false := by unfold itmEq; rw [h0, h1, h2, h3, h4, h5, h6, h7]; rfl
  rw [e]
  go_simp
 ·have e : itmEq x y = true := by unfold itmEq; rw [h0, h1, h2, h3, h4, h5, h6, h7]; rfl
  rw [e]
  go_simp
end Go.Proofs.Ytmhocihajobkkaa
namespace Go.Proofs.Ytmhocihajobkkaa
open Go.RowKit
set_option linter.unusedSimpArgs false
set_option linter.unusedSimpArgs false in
set_option maxHeartbeats 4000000 in
set_option maxRecDepth 100000 in
theorem once_walk (vi : Value) (its : List Itm) (vw : Value) (ws : List SdX) (w : World) (hi : TRow encI w vi its) (hw : TRow encS w vw ws) (hin : ∀ z ∈ ws, z.x.In w) : Calls Try.prog 4 #[vi, vw] w fun e w' => e = .returned (.bool true) ∧ Below w.heap.size w w' := by
 obtain ⟨p1, c1, rfl⟩ := hi.shape
 obtain ⟨p2, c2, rfl⟩ := hw.shape
 have HVT := Lib.hid (fun W => votes_any W)
 have HFT := Lib.hid (fun W (h : Below w.heap.size w W) => vfits_any W _ _ its ws (hi.kept h) (hw.kept h))
 have HI := Lib.hid hi
 have HW := Lib.hid hw
 have HIN := Lib.hid hin
 clear hi hw hin
 go_enter Try.func4, Try.ntmps4
 go_wp2_with fail
 refine (HVT.out w).mono ?_
 rintro y9 W ⟨rfl, hb⟩
 clear HVT
 have HB0 := Lib.hid hb
 have HZ0 : Hid (w.heap.size ≤ W.heap.size) := Lib.hid hb.size
 clear hb
 go_wp2_with fail
 refine (HFT.out W HB0.out).mono ?_
 rintro y9 W1 ⟨rfl, hb⟩
 clear HFT
 have HB1 := ktq HB0 hb
 have HZ1 := kzq HZ0 hb.size
 clear HB0 HZ0
 clear hb
 cases hf : fitsW its ws
 ·go_wp2_with fail
  go_ret
  exact ⟨rfl, HB1.out⟩
 ·skip
  have HFW := Lib.hid (fitsW_ok hf)
  clear hf
  generalize hl1 : its.length = n1 at *
  generalize hl2 : ws.length = n2 at *
  have HL1 : Hid (its.length = n1) := Lib.hid hl1
  have HL2 : Hid (ws.length = n2) := Lib.hid hl2
  clear hl1 hl2
  have HG := Lib.hid (filled_any W1 _ its (HI.out.kept HB1.out) (by have h1 := HFW.out.1; have h2 := HL1.out; omega))
  go_wp2_with fail
  refine HG.out.mono ?_
  rintro y9 w2 ⟨hb, pi, ni, ci, pd, nd, cd, rfl, hx, hnx, -, -⟩
  clear HG
  have hgd := foldX_good (l := its) (goodB_nil 0)
  have HGD := Lib.hid hgd
  have Qx2 := Lib.hid (hx.imp (R := fun b => b < w2.heap.size) (fun b h _ => h))
  have HNX := Lib.hid hnx
  clear hx hnx hgd
  have HB2 := ktq HB1 hb
  have HZ2 := kzq HZ1 hb.size
  clear HB1 HZ1
  clear hb
  have hba : Below w2.heap.size w2 ((w2.alloc (.cells #[.int .i64 0, .slice pi ni ci, .slice none 0 0] 28)).alloc (.cells #[.int .i64 0, .int .i64 0, .slice pd nd cd, .slice none 0 0] 31)) := (oneB w2 (.cells #[.int .i64 0, .slice pi ni ci, .slice none 0 0] 28)).alloc (by simp) _
  have Qx3 := Lib.hid (Qx2.out.kept hba)
  have Hb3 : Hid (Blk ((w2.alloc (.cells #[.int .i64 0, .slice pi ni ci, .slice none 0 0] 28)).alloc (.cells #[.int .i64 0, .int .i64 0, .slice pd nd cd, .slice none 0 0] 31)) w2.heap.size #[.int .i64 0, .slice pi ni ci, .slice none 0 0] 28) := Lib.hid ((Blk.new w2 #[.int .i64 0, .slice pi ni ci, .slice none 0 0] 28).alloc _)
  have HB3 := ktq HB2 hba
  have HZ3 : Hid (w.heap.size ≤ ((w2.alloc (.cells #[.int .i64 0, .slice pi ni ci, .slice none 0 0] 28)).alloc (.cells #[.int .i64 0, .int .i64 0, .slice pd nd cd, .slice none 0 0] 31)).heap.size) := Lib.hid HB3.out.size
  have HGB : Hid (w2.heap.size < ((w2.alloc (.cells #[.int .i64 0, .slice pi ni ci, .slice none 0 0] 28)).alloc (.cells #[.int .i64 0, .int .i64 0, .slice pd nd cd, .slice none 0 0] 31)).heap.size ∧ w.heap.size ≤ w2.heap.size) := Lib.hid ⟨Hb3.out.lt, HB2.out.size⟩
  clear hba Qx2 HB2 HZ2
  go_upto_region 6 with fail
  generalize ((w2.alloc (.cells #[.int .i64 0, .slice pi ni ci, .slice none 0 0] 28)).alloc (.cells #[.int .i64 0, .int .i64 0, .slice pd nd cd, .slice none 0 0] 31)) = W2 at *
  generalize hgb : w2.heap.size = gb at *
  clear hgb
  have hba := oneB W2 (.cells #[.int .i64 0, .int .i64 3, .slice none 0 0] 36)
  have Hb4 := kbq Hb3 hba
  have Qx4 := Lib.hid (Qx3.out.kept hba)
  have Hp4 := Lib.hid (Blk.new W2 #[.int .i64 0, .int .i64 3, .slice none 0 0] 36)
  have HB4 := Lib.hid (HB3.out.alloc HB3.out.size (.cells #[.int .i64 0, .int .i64 3, .slice none 0 0] 36))
  have HZ4 := kzq HZ3 hba.size
  have HGgp : Hid (w.heap.size ≤ W2.heap.size) := Lib.hid HB3.out.size
  clear hba Hb3 Qx3 HB3 HZ3
  go_upto_region 7 with fail
  generalize (W2.alloc (.cells #[.int .i64 0, .int .i64 3, .slice none 0 0] 36)) = W3 at *
  generalize hggp : W2.heap.size = gp at *
  clear hggp
  have Qv4 : Hid (Vt (NotIn [gb, gp]) W3 0 none 0 0 pi ni ci [] (foldX 0 [] its)) := Lib.hid (Vt.mk (PtsR.nil_ _ _) (Qx4.out.imp (fun b _ h hm => by have h2 := HGB.out; simp only [List.mem_cons, List.not_mem_nil, or_false] at hm; omega)) HGD.out rfl HNX.out (fun _ h => by cases h))
  clear Qx4 HGgp
  have HX40 : Hid ((foldX 0 [] its).length ≤ 40) := by show _ ≤ _; have h1 := foldX_len (l := its) (goodB_nil 0); have h2 := HFW.out.1; have h3 := HL1.out; rw [List.length_nil] at h1; omega
  have HREL : Hid (Blk W3 gp #[.int .i64 0, .int .i64 3, .slice none 0 0] 36 ∧ Blk W3 gb #[.int .i64 0, .slice pi ni ci, .slice none 0 0] 28 ∧ Vt (NotIn [gb, gp]) W3 0 none 0 0 pi ni ci [] (foldX 0 [] its) ∧ Below w.heap.size w W3) := ⟨Hp4.out, Hb4.out, Qv4.out, HB4.out⟩
  clear Hb4 Hp4 Qv4 HB4 HZ4
  go_upto_region 8 with fail
  go_loopw [41] (fun i wr => ∃ (k : Nat) (p : Option Addr) (n c : Nat) (pi : Option Addr) (ni ci : Nat) (ps : List PtX) (xs : List Itm), k ≤ n2 ∧ i = .int .i64 k ∧ Hid (ps.length ≤ k ∧ xs.length ≤ 40) ∧ Hid (Blk wr gp #[.int .i64 0, .int .i64 3, .slice p n c] 36 ∧ Blk wr gb #[.int .i64 0, .slice pi ni ci, .slice none 0 0] 28 ∧ Vt (NotIn [gb, gp]) wr 0 p n c pi ni ci ps xs ∧ Below w.heap.size w wr)) (fun i _ => n2 - (intOf i).toNat)
  case atStart => exact ⟨0, none, 0, 0, pi, ni, ci, [], _, by omega, rfl, Lib.hid ⟨Nat.le_refl _, HX40.out⟩, HREL⟩
  case round =>
   clear HREL HX40
   obtain ⟨k, p, n, c, pi, ni, ci, ps, xs, hk, rfl, HLN, HK⟩ := hrel
   have Hp5 := Lib.hid HK.out.1
   have Hb5 := Lib.hid HK.out.2.1
   have Qv5 := Lib.hid HK.out.2.2.1
   have HB5 := Lib.hid HK.out.2.2.2
   have HZ5 : Hid (w.heap.size ≤ wr.heap.size) := Lib.hid HB5.out.size
   clear HK
   have hk9 : k + 1 ≤ 41 := by have h1 := HFW.out.2.1; have h2 := HL2.out; omega
   by_cases hlt : k < n2
   ·skip
    have hkl : k < ws.length := by rw [HL2.out]; exact hlt
    have hltI : (k : Int) < (n2 : Int) := by omega
    have HZI := Lib.hid (show (ws[k]).x.In w ∧ (ws[k]).x.m.ls.length ≤ 60 ∧ (ws[k]).x.m.ns.length ≤ 12 from ⟨HIN.out _ (List.getElem_mem hkl), HFW.out.2.2 _ (List.getElem_mem hkl)⟩)
    obtain ⟨bw, ow, rfl, hbl, hcs⟩ := (HW.out.kept HB5.out).at_ k hkl
    generalize ws[k] = z at *
    have c0 : wr.cell? ⟨bw, ow + k * 12, none⟩ = some (.int .i64 z.tw) := hcs 0 (by decide)
    have c1 : wr.cell? ⟨bw, ow + k * 12 + 1, none⟩ = some (.int .i64 z.x.m.k) := hcs 1 (by decide)
    have c2 : wr.cell? ⟨bw, ow + k * 12 + 2, none⟩ = some (.int .i64 z.x.m.s) := hcs 2 (by decide)
    have c3 : wr.cell? ⟨bw, ow + k * 12 + 3, none⟩ = some (.int .i64 z.x.m.n) := hcs 3 (by decide)
    have c4 : wr.cell? ⟨bw, ow + k * 12 + 4, none⟩ = some (.int .i64 z.x.m.b) := hcs 4 (by decide)
    have c5 : wr.cell? ⟨bw, ow + k * 12 + 5, none⟩ = some (.int .i64 z.x.m.c) := hcs 5 (by decide)
    have c6 : wr.cell? ⟨bw, ow + k * 12 + 6, none⟩ = some (.int .i64 z.x.m.r) := hcs 6 (by decide)
    have c7 : wr.cell? ⟨bw, ow + k * 12 + 7, none⟩ = some (.int .i64 z.x.m.y) := hcs 7 (by decide)
    have c8 : wr.cell? ⟨bw, ow + k * 12 + 8, none⟩ = some (.int .i64 z.x.m.a) := hcs 8 (by decide)
    have c9 : wr.cell? ⟨bw, ow + k * 12 + 9, none⟩ = some (.bool z.x.m.t) := hcs 9 (by decide)
    have c10 : wr.cell? ⟨bw, ow + k * 12 + 10, none⟩ = some (.slice z.x.pl z.x.m.ls.length z.x.cl) := hcs 10 (by decide)
    have c11 : wr.cell? ⟨bw, ow + k * 12 + 11, none⟩ = some (.slice z.x.pn z.x.m.ns.length z.x.cn) := hcs 11 (by decide)
    clear hcs hbl
    have HGD : Hid (gp < wr.heap.size) := Lib.hid Hp5.out.lt
    have hba := oneB wr (.cells #[.int .i64 z.tw, .int .i64 z.x.m.k, .int .i64 z.x.m.s, .int .i64 z.x.m.n, .int .i64 z.x.m.b, .int .i64 z.x.m.c, .int .i64 z.x.m.r, .int .i64 z.x.m.y, .int .i64 z.x.m.a, .bool z.x.m.t, .slice z.x.pl z.x.m.ls.length z.x.cl, .slice z.x.pn z.x.m.ns.length z.x.cn] 52)
    have Hp6 := kbq Hp5 hba
    have Hb6 := kbq Hb5 hba
    have Qv6 := Lib.hid (Qv5.out.kept hba)
    have Hd6 := Lib.hid (Blk.new wr #[.int .i64 z.tw, .int .i64 z.x.m.k, .int .i64 z.x.m.s, .int .i64 z.x.m.n, .int .i64 z.x.m.b, .int .i64 z.x.m.c, .int .i64 z.x.m.r, .int .i64 z.x.m.y, .int .i64 z.x.m.a, .bool z.x.m.t, .slice z.x.pl z.x.m.ls.length z.x.cl, .slice z.x.pn z.x.m.ns.length z.x.cn] 52)
    have HB6 := Lib.hid (HB5.out.alloc HB5.out.size (.cells #[.int .i64 z.tw, .int .i64 z.x.m.k, .int .i64 z.x.m.s, .int .i64 z.x.m.n, .int .i64 z.x.m.b, .int .i64 z.x.m.c, .int .i64 z.x.m.r, .int .i64 z.x.m.y, .int .i64 z.x.m.a, .bool z.x.m.t, .slice z.x.pl z.x.m.ls.length z.x.cl, .slice z.x.pn z.x.m.ns.length z.x.cn] 52))
    have HZ6 := kzq HZ5 hba.size
    have HGgd : Hid (w.heap.size ≤ wr.heap.size) := Lib.hid HB5.out.size
    clear hba Hp5 Hb5 Qv5 HB5 HZ5
    go_upto_region 10 with fail
    clear c0 c1 c2 c3 c4 c5 c6 c7 c8 c9 c10 c11
    generalize (wr.alloc (.cells #[.int .i64 z.tw, .int .i64 z.x.m.k, .int .i64 z.x.m.s, .int .i64 z.x.m.n, .int .i64 z.x.m.b, .int .i64 z.x.m.c, .int .i64 z.x.m.r, .int .i64 z.x.m.y, .int .i64 z.x.m.a, .bool z.x.m.t, .slice z.x.pl z.x.m.ls.length z.x.cl, .slice z.x.pn z.x.m.ns.length z.x.cn] 52)) = V1 at *
    generalize hggd : wr.heap.size = gd at *
    clear hggd
    clear HGgd
    have HGF : Hid (gp < V1.heap.size) := Lib.hid Hp6.out.lt
    have b0 : V1.cell? ⟨gb, 0, none⟩ = some (.int .i64 0) := Hb6.out.cell 0
    have b1 : V1.cell? ⟨gb, 1, none⟩ = some (.slice pi ni ci) := Hb6.out.cell 1
    have b2 : V1.cell? ⟨gb, 2, none⟩ = some (.slice none 0 0) := Hb6.out.cell 2
    have hba := oneB V1 (.cells #[.int .i64 0, .slice pi ni ci, .slice none 0 0] 28)
    have Hp7 := kbq Hp6 hba
    have Hb7 := kbq Hb6 hba
    have Hd7 := kbq Hd6 hba
    have Qv7 := Lib.hid (Qv6.out.kept hba)
    have He7 := Lib.hid (Blk.new V1 #[.int .i64 0, .slice pi ni ci, .slice none 0 0] 28)
    have HB7 := Lib.hid (HB6.out.alloc HB6.out.size (.cells #[.int .i64 0, .slice pi ni ci, .slice none 0 0] 28))
    have HZ7 := kzq HZ6 hba.size
    have HGge : Hid (w.heap.size ≤ V1.heap.size) := Lib.hid HB6.out.size
    clear hba Hp6 Hb6 Hd6 Qv6 HB6 HZ6
    go_upto_region 11 with fail
    clear b0 b1 b2
    generalize (V1.alloc (.cells #[.int .i64 0, .slice pi ni ci, .slice none 0 0] 28)) = V2 at *
    generalize hgge : V1.heap.size = ge at *
    clear hgge
    clear HGge
    have Qx7 := Lib.hid Qv7.out.its
    have HGX := Lib.hid Qv7.out.good
    have HNX := Lib.hid Qv7.out.nx
    have HQL := Lib.hid Qv7.out.ql
    have HSP := Lib.hid Qv7.out.pts.srt
    have HG := Lib.hid (vdo_q V2 (NotIn [gb, gp]) 0 3 0 p n c pi ni ci none 0 0 ps xs (z.x) (z.tw) Qv7.out (fun b hb hm => by have h1 := Hp7.out.lt; have h2 := HGB.out; simp only [List.mem_cons, List.not_mem_nil, or_false] at hm; omega) (by have h1 := HLN.out.1; omega) (by have h1 := HLN.out.2; omega) (HZI.out.1.kept HB7.out) (by have h1 := HZI.out.2.1; omega) (by have h1 := HZI.out.2.2; omega))
    unfold Msg.v at HG
    have a0 : V2.cell? ⟨gp, 0, none⟩ = some (.int .i64 0) := Hp7.out.cell 0
    have a1 : V2.cell? ⟨gp, 1, none⟩ = some (.int .i64 3) := Hp7.out.cell 1
    have a2 : V2.cell? ⟨gp, 2, none⟩ = some (.slice p n c) := Hp7.out.cell 2
    have b0 : V2.cell? ⟨gb, 0, none⟩ = some (.int .i64 0) := Hb7.out.cell 0
    have b1 : V2.cell? ⟨gb, 1, none⟩ = some (.slice pi ni ci) := Hb7.out.cell 1
    have b2 : V2.cell? ⟨gb, 2, none⟩ = some (.slice none 0 0) := Hb7.out.cell 2
    have c0 : V2.cell? ⟨gd, 0, none⟩ = some (.int .i64 z.tw) := Hd7.out.cell 0
    have c1 : V2.cell? ⟨gd, 1, none⟩ = some (.int .i64 z.x.m.k) := Hd7.out.cell 1
    have c2 : V2.cell? ⟨gd, 2, none⟩ = some (.int .i64 z.x.m.s) := Hd7.out.cell 2
    have c3 : V2.cell? ⟨gd, 3, none⟩ = some (.int .i64 z.x.m.n) := Hd7.out.cell 3
    have c4 : V2.cell? ⟨gd, 4, none⟩ = some (.int .i64 z.x.m.b) := Hd7.out.cell 4
    have c5 : V2.cell? ⟨gd, 5, none⟩ = some (.int .i64 z.x.m.c) := Hd7.out.cell 5
    have c6 : V2.cell? ⟨gd, 6, none⟩ = some (.int .i64 z.x.m.r) := Hd7.out.cell 6
    have c7 : V2.cell? ⟨gd, 7, none⟩ = some (.int .i64 z.x.m.y) := Hd7.out.cell 7
    have c8 : V2.cell? ⟨gd, 8, none⟩ = some (.int .i64 z.x.m.a) := Hd7.out.cell 8
    have c9 : V2.cell? ⟨gd, 9, none⟩ = some (.bool z.x.m.t) := Hd7.out.cell 9
    have c10 : V2.cell? ⟨gd, 10, none⟩ = some (.slice z.x.pl z.x.m.ls.length z.x.cl) := Hd7.out.cell 10
    have c11 : V2.cell? ⟨gd, 11, none⟩ = some (.slice z.x.pn z.x.m.ns.length z.x.cn) := Hd7.out.cell 11
    go_wp2_with fail
    clear a0 a1 a2 b0 b1 b2 c0 c1 c2 c3 c4 c5 c6 c7 c8 c9 c10 c11
    refine HG.out.mono ?_
    rintro y9 w5 ⟨hb, p5, n5, c5, pi5, ni5, ci5, pv5, nv5, cv5, ps5, xs5, out5, e5, rfl, hv, hnv, hsd, hG⟩
    clear HG Qv7
    have HVG := Lib.hid hG
    have HXL := Lib.hid (vote_items HGX.out hG).2.1
    have HPL := Lib.hid ((vote_puts HQL.out (by have h1 := HZI.out.2.1; omega) hG).len HSP.out)
    have HSH := Lib.hid (vote_short hG)
    have HSY := Lib.hid (once_at HGX.out (vote_says hG))
    have HNV := Lib.hid hnv
    clear hG hnv HQL HSP
    have Hp8 := kbq Hp7 hb
    have Hb8 := kbq Hb7 hb
    have Hd8 := kbq Hd7 hb
    have He8 := kbq He7 hb
    have Qx8 := Lib.hid (Qx7.out.kept hb)
    have HB8 := ktq HB7 hb
    have HZ8 := kzq HZ7 hb.size
    clear Hp7 Hb7 Hd7 He7 Qx7 HB7 HZ7
    clear hb
    have Qv8 := Lib.hid hv
    have Qs8 := Lib.hid hsd
    clear hv hsd
    have HGE : Hid (gp < w5.heap.size) := Lib.hid Hp8.out.lt
    have hba : Below w5.heap.size w5 ((w5.alloc (.cells #[.int .i64 0, .int .i64 3, .slice p5 n5 c5] 36)).alloc (.cells #[.int .i64 0, .slice pi5 ni5 ci5, .slice none 0 0] 28)) := (oneB w5 (.cells #[.int .i64 0, .int .i64 3, .slice p5 n5 c5] 36)).alloc (by simp) _
    have Hp9 := kbq Hp8 hba
    have Hb9 := kbq Hb8 hba
    have Hd9 := kbq Hd8 hba
    have He9 := kbq He8 hba
    have Qx9 := Lib.hid (Qx8.out.kept hba)
    have Qv9 := Lib.hid (Qv8.out.kept hba)
    have Qs9 := Lib.hid (Qs8.out.kept hba)
    have Hnx9 : Hid (Blk ((w5.alloc (.cells #[.int .i64 0, .int .i64 3, .slice p5 n5 c5] 36)).alloc (.cells #[.int .i64 0, .slice pi5 ni5 ci5, .slice none 0 0] 28)) w5.heap.size #[.int .i64 0, .int .i64 3, .slice p5 n5 c5] 36) := Lib.hid ((Blk.new w5 #[.int .i64 0, .int .i64 3, .slice p5 n5 c5] 36).alloc _)
    have Hth9 : Hid (Blk ((w5.alloc (.cells #[.int .i64 0, .int .i64 3, .slice p5 n5 c5] 36)).alloc (.cells #[.int .i64 0, .slice pi5 ni5 ci5, .slice none 0 0] 28)) (w5.heap.size + 1) #[.int .i64 0, .slice pi5 ni5 ci5, .slice none 0 0] 28) := Lib.hid (Blk.new' _ _ _ (by simp))
    have HB9 := ktq HB8 hba
    have HZ9 : Hid (w.heap.size ≤ ((w5.alloc (.cells #[.int .i64 0, .int .i64 3, .slice p5 n5 c5] 36)).alloc (.cells #[.int .i64 0, .slice pi5 ni5 ci5, .slice none 0 0] 28)).heap.size) := Lib.hid HB9.out.size
    clear hba Hp8 Hb8 Hd8 He8 Qx8 Qv8 Qs8 HB8 HZ8
    go_upto_region 12 with fail
    generalize ((w5.alloc (.cells #[.int .i64 0, .int .i64 3, .slice p5 n5 c5] 36)).alloc (.cells #[.int .i64 0, .slice pi5 ni5 ci5, .slice none 0 0] 28)) = W6 at *
    generalize w5.heap.size = gn at *
    have hbd := (Below.refl W6.heap.size W6).drew
    have Hp10 := kbq Hp9 hbd
    have Hb10 := kbq Hb9 hbd
    have Hd10 := kbq Hd9 hbd
    have He10 := kbq He9 hbd
    have Hnx10 := kbq Hnx9 hbd
    have Hth10 := kbq Hth9 hbd
    have Qx10 := Lib.hid (Qx9.out.kept hbd)
    have Qv10 := Lib.hid (Qv9.out.kept hbd)
    have Qs10 := Lib.hid (Qs9.out.kept hbd)
    have HB10 := ktq HB9 hbd
    have HZ10 := kzq HZ9 hbd.size
    clear Hp9 Hb9 Hd9 He9 Hnx9 Hth9 Qx9 Qv9 Qs9 HB9 HZ9
    refine wp_region_held_drew (S := fun w' => w'.cell? ⟨gn, 0, none⟩ = some (.int .i64 0) ∧ w'.cell? ⟨gn, 1, none⟩ = some (.int .i64 3) ∧ w'.cell? ⟨gn, 2, none⟩ = some (.slice p5 n5 c5) ∧ w'.cell? ⟨gn + 1, 0, none⟩ = some (.int .i64 0) ∧ w'.cell? ⟨gn + 1, 1, none⟩ = some (.slice pi5 ni5 ci5) ∧ w'.cell? ⟨gn + 1, 2, none⟩ = some (.slice none 0 0)) (by kernel_rfl) ⟨Hnx10.out.cell 0, Hnx10.out.cell 1, Hnx10.out.cell 2, Hth10.out.cell 0, Hth10.out.cell 1, Hth10.out.cell 2⟩ (fun hS0 => ?_)
    generalize W6.drew = WD at *
    clear hbd
    refine tkq 0 ?_
    refine tkq 1 ?_
    refine rdq 2 (fun K hK => ?_)
    have z0 : WD.cell? ⟨gp, 0, none⟩ = some (.int .i64 0) := Hp10.out.cell 0
    have z1 : WD.cell? ⟨gp, 1, none⟩ = some (.int .i64 3) := Hp10.out.cell 1
    have z2 : WD.cell? ⟨gp, 2, none⟩ = some (.slice p n c) := Hp10.out.cell 2
    have f0 := Hp10.out.free 0
    have f1 := Hp10.out.free 1
    have f2 := Hp10.out.free 2
    go_simp
    clear z0 f0 z1 f1 z2 f2
    have hch := Lib.hid ((((Chg.refl gp WD).set 0 (.int .i64 0)).set 1 (.int .i64 3)).set 2 (.slice p5 n5 c5))
    have Hp11 : Hid (Blk _ gp #[.int .i64 0, .int .i64 3, .slice p5 n5 c5] 36) := Lib.hid (((Hp10.out.set 0 (.int .i64 0)).set 1 (.int .i64 3)).set 2 (.slice p5 n5 c5))
    have HB11 := ksq HB10 hch (by show w.heap.size ≤ gp; have h9 := HGB.out; have h8 := HGE.out; have h7 := HGD.out; have h6 := HGF.out; omega)
    have HZ11 := kzq HZ10 hch.out.size
    have Hb11 := kcq Hb10 hch (by have h9 := HGB.out; have h8 := HGE.out; have h7 := HGD.out; have h6 := HGF.out; omega)
    have Hd11 := kcq Hd10 hch (by have h9 := HGB.out; have h8 := HGE.out; have h7 := HGD.out; have h6 := HGF.out; omega)
    have He11 := kcq He10 hch (by have h9 := HGB.out; have h8 := HGE.out; have h7 := HGD.out; have h6 := HGF.out; omega)
    have Hnx11 := kcq Hnx10 hch (by have h9 := HGB.out; have h8 := HGE.out; have h7 := HGD.out; have h6 := HGF.out; omega)
    have Hth11 := kcq Hth10 hch (by have h9 := HGB.out; have h8 := HGE.out; have h7 := HGD.out; have h6 := HGF.out; omega)
    have Qx11 := Lib.hid (Qx10.out.chg hch.out (notIn_self (by simp)))
    have Qv11 := Lib.hid (Qv10.out.chg hch.out (notIn_self (by simp)))
    have Qs11 := Lib.hid (Qs10.out.chg hch.out (notIn_self (by simp)))
    clear hch hS0 Hp10 Hb10 Hd10 He10 Hnx10 Hth10 Qx10 Qv10 Qs10 HB10 HZ10
    generalize (((WD.setCell ⟨gp, 0, none⟩ (.int .i64 0)).setCell ⟨gp, 1, none⟩ (.int .i64 3)).setCell ⟨gp, 2, none⟩ (.slice p5 n5 c5)) = WP at *
    refine hK.out _ _ ⟨Hnx11.out.cell 0, Hnx11.out.cell 1, Hnx11.out.cell 2, Hth11.out.cell 0, Hth11.out.cell 1, Hth11.out.cell 2⟩ (fun hS0 => ?_)
    clear hK K
    try simp only [Act.put, List.getElem_toArray, List.getElem_cons_succ, List.getElem_cons_zero, List.setIfInBounds_toArray, List.set_cons_zero, List.set_cons_succ]
    refine rdq 3 (fun K hK => ?_)
    have z0 : WP.cell? ⟨gb, 0, none⟩ = some (.int .i64 0) := Hb11.out.cell 0
    have z1 : WP.cell? ⟨gb, 1, none⟩ = some (.slice pi ni ci) := Hb11.out.cell 1
    have z2 : WP.cell? ⟨gb, 2, none⟩ = some (.slice none 0 0) := Hb11.out.cell 2
    have f0 := Hb11.out.free 0
    have f1 := Hb11.out.free 1
    have f2 := Hb11.out.free 2
    go_simp
    clear z0 f0 z1 f1 z2 f2
    have hch := Lib.hid ((((Chg.refl gb WP).set 0 (.int .i64 0)).set 1 (.slice pi5 ni5 ci5)).set 2 (.slice none 0 0))
    have Hb12 : Hid (Blk _ gb #[.int .i64 0, .slice pi5 ni5 ci5, .slice none 0 0] 28) := Lib.hid (((Hb11.out.set 0 (.int .i64 0)).set 1 (.slice pi5 ni5 ci5)).set 2 (.slice none 0 0))
    have HB12 := ksq HB11 hch (by show w.heap.size ≤ gb; have h9 := HGB.out; have h8 := HGE.out; have h7 := HGD.out; have h6 := HGF.out; omega)
    have HZ12 := kzq HZ11 hch.out.size
    have Hp12 := kcq Hp11 hch (by have h9 := HGB.out; have h8 := HGE.out; have h7 := HGD.out; have h6 := HGF.out; omega)
    have Hd12 := kcq Hd11 hch (by have h9 := HGB.out; have h8 := HGE.out; have h7 := HGD.out; have h6 := HGF.out; omega)
    have He12 := kcq He11 hch (by have h9 := HGB.out; have h8 := HGE.out; have h7 := HGD.out; have h6 := HGF.out; omega)
    have Hnx12 := kcq Hnx11 hch (by have h9 := HGB.out; have h8 := HGE.out; have h7 := HGD.out; have h6 := HGF.out; omega)
    have Hth12 := kcq Hth11 hch (by have h9 := HGB.out; have h8 := HGE.out; have h7 := HGD.out; have h6 := HGF.out; omega)
    have Qx12 := Lib.hid (Qx11.out.chg hch.out (notIn_self (by simp)))
    have Qv12 := Lib.hid (Qv11.out.chg hch.out (notIn_self (by simp)))
    have Qs12 := Lib.hid (Qs11.out.chg hch.out (notIn_self (by simp)))
    clear hch hS0 Hp11 Hb11 Hd11 He11 Hnx11 Hth11 Qx11 Qv11 Qs11 HB11 HZ11
    generalize (((WP.setCell ⟨gb, 0, none⟩ (.int .i64 0)).setCell ⟨gb, 1, none⟩ (.slice pi5 ni5 ci5)).setCell ⟨gb, 2, none⟩ (.slice none 0 0)) = WQ at *
    refine hK.out _ _ ⟨Hnx12.out.cell 0, Hnx12.out.cell 1, Hnx12.out.cell 2, Hth12.out.cell 0, Hth12.out.cell 1, Hth12.out.cell 2⟩ (fun hS0 => ?_)
    clear hK K
    try simp only [Act.put, List.getElem_toArray, List.getElem_cons_succ, List.getElem_cons_zero, List.setIfInBounds_toArray, List.set_cons_zero, List.set_cons_succ]
    refine wpAnyH_done (by kernel_rfl) ?_ _
    clear hS0
    clear Hnx12 Hth12
    clear HGE HGD HGF
    have HJ : Hid (BelB WQ WQ) := Lib.hid (BelB.refl _)
    have a1 : WQ.cell? ⟨ge, 1, none⟩ = some (.slice pi ni ci) := He12.out.cell 1
    go_upto_region 14 with fail
    clear a1
    go_loopw [63] (fun i wr => ∃ j : Nat, j ≤ ni ∧ i = .int .i64 j ∧ Hid (BelB WQ wr)) (fun i _ => ni - (intOf i).toNat)
    case atStart => exact ⟨0, by omega, rfl, HJ⟩
    case round =>
     clear HJ
     obtain ⟨j, hj, rfl, HJ⟩ := hrel
     have hbj := HJ.out
     unfold BelB at hbj
     have Hp13 := kbq Hp12 hbj
     have Hb13 := kbq Hb12 hbj
     have Hd13 := kbq Hd12 hbj
     have He13 := kbq He12 hbj
     have Qx13 := Lib.hid (Qx12.out.kept hbj)
     have Qv13 := Lib.hid (Qv12.out.kept hbj)
     have Qs13 := Lib.hid (Qs12.out.kept hbj)
     have HB13 := ktq HB12 hbj
     have HZ13 := kzq HZ12 hbj.size
     clear Hp12 Hb12 Hd12 He12 Qx12 Qv12 Qs12 HB12 HZ12
     clear hbj
     have Qj13 := HJ
     clear HJ
     have hj9 : j + 1 ≤ 41 := by have h1 := HNX.out; have h2 := HLN.out.2; omega
     by_cases hlj : j < ni
     ·skip
      have hjl : j < xs.length := by rw [← HNX.out]; exact hlj
      have hljI : (j : Int) < (ni : Int) := by omega
      have HIT := Lib.hid (once_item HGX.out HVG.out (List.getElem_mem hjl))
      obtain ⟨bi, oi, hpi, hbl, hcs⟩ := Qx13.out.1.at_ j hjl
      subst hpi
      generalize xs[j] = x at *
      obtain ⟨y, hfy, hrx, hry, hrk, h5, hyy⟩ := HIT.out
      have HFY := Lib.hid hfy
      have HRR := Lib.hid (And.intro hrx hry)
      have HRK := Lib.hid hrk
      have H5 := Lib.hid h5
      have HYY := Lib.hid hyy
      clear HIT hfy hrx hry hrk h5 hyy
      have c0 : wr.cell? ⟨bi, oi + j * 8, none⟩ = some (.int .i64 x.s) := hcs 0 (by decide)
      have c1 : wr.cell? ⟨bi, oi + j * 8 + 1, none⟩ = some (.int .i64 x.n) := hcs 1 (by decide)
      have c2 : wr.cell? ⟨bi, oi + j * 8 + 2, none⟩ = some (.int .i64 x.b) := hcs 2 (by decide)
      have c3 : wr.cell? ⟨bi, oi + j * 8 + 3, none⟩ = some (.int .i64 x.c) := hcs 3 (by decide)
      have c4 : wr.cell? ⟨bi, oi + j * 8 + 4, none⟩ = some (.int .i64 x.a) := hcs 4 (by decide)
      have c5 : wr.cell? ⟨bi, oi + j * 8 + 5, none⟩ = some (.int .i64 x.r) := hcs 5 (by decide)
      have c6 : wr.cell? ⟨bi, oi + j * 8 + 6, none⟩ = some (.int .i64 x.t) := hcs 6 (by decide)
      have c7 : wr.cell? ⟨bi, oi + j * 8 + 7, none⟩ = some (.int .i64 x.y) := hcs 7 (by decide)
      clear hcs hbl
      have hba := oneB wr (.cells #[.int .i64 x.s, .int .i64 x.n, .int .i64 x.b, .int .i64 x.c, .int .i64 x.a, .int .i64 x.r, .int .i64 x.t, .int .i64 x.y] 54)
      have Hp14 := kbq Hp13 hba
      have Hb14 := kbq Hb13 hba
      have Hd14 := kbq Hd13 hba
      have He14 := kbq He13 hba
      have Qx14 := Lib.hid (Qx13.out.kept hba)
      have Qv14 := Lib.hid (Qv13.out.kept hba)
      have Qs14 := Lib.hid (Qs13.out.kept hba)
      have Qj14 := Lib.hid (Qj13.out.kept hba)
      have Hix14 := Lib.hid (Blk.new wr #[.int .i64 x.s, .int .i64 x.n, .int .i64 x.b, .int .i64 x.c, .int .i64 x.a, .int .i64 x.r, .int .i64 x.t, .int .i64 x.y] 54)
      have HB14 := Lib.hid (HB13.out.alloc HB13.out.size (.cells #[.int .i64 x.s, .int .i64 x.n, .int .i64 x.b, .int .i64 x.c, .int .i64 x.a, .int .i64 x.r, .int .i64 x.t, .int .i64 x.y] 54))
      have HZ14 := kzq HZ13 hba.size
      have HGgx : Hid (w.heap.size ≤ wr.heap.size) := Lib.hid HB13.out.size
      clear hba Hp13 Hb13 Hd13 He13 Qx13 Qv13 Qs13 Qj13 HB13 HZ13
      go_upto_region 16 with fail
      clear c0 c1 c2 c3 c4 c5 c6 c7
      generalize (wr.alloc (.cells #[.int .i64 x.s, .int .i64 x.n, .int .i64 x.b, .int .i64 x.c, .int .i64 x.a, .int .i64 x.r, .int .i64 x.t, .int .i64 x.y] 54)) = V3 at *
      generalize hggx : wr.heap.size = gx at *
      clear hggx
      clear HGgx
      have HG := Lib.hid (dget_any V3 0 pi5 none ni5 ci5 0 0 x.s x.n xs5 Qv14.out.its.1 Qv14.out.nx.symm Qv14.out.good.1 (by have h1 := Qv14.out.nx; have h2 := HXL.out; have h3 := HLN.out.2; omega))
      rw [HFY.out] at HG
      simp only [Option.getD_some, Option.isSome_some] at HG
      unfold bookV idV Itm.v at HG
      have a0 : V3.cell? ⟨gb, 0, none⟩ = some (.int .i64 0) := Hb14.out.cell 0
      have a1 : V3.cell? ⟨gb, 1, none⟩ = some (.slice pi5 ni5 ci5) := Hb14.out.cell 1
      have a2 : V3.cell? ⟨gb, 2, none⟩ = some (.slice none 0 0) := Hb14.out.cell 2
      have i0 : V3.cell? ⟨gx, 0, none⟩ = some (.int .i64 x.s) := Hix14.out.cell 0
      have i1 : V3.cell? ⟨gx, 1, none⟩ = some (.int .i64 x.n) := Hix14.out.cell 1
      go_wp2_with fail
      clear a0 a1 a2 i0 i1
      refine HG.out.mono ?_
      rintro y9 w7 ⟨rfl, hb⟩
      clear HG
      have Hp15 := kbq Hp14 hb
      have Hb15 := kbq Hb14 hb
      have Hd15 := kbq Hd14 hb
      have He15 := kbq He14 hb
      have Hix15 := kbq Hix14 hb
      have Qx15 := Lib.hid (Qx14.out.kept hb)
      have Qv15 := Lib.hid (Qv14.out.kept hb)
      have Qs15 := Lib.hid (Qs14.out.kept hb)
      have Qj15 := Lib.hid (Qj14.out.kept hb)
      have HB15 := ktq HB14 hb
      have HZ15 := kzq HZ14 hb.size
      clear Hp14 Hb14 Hd14 He14 Hix14 Qx14 Qv14 Qs14 Qj14 HB14 HZ14
      clear hb
      have hba := oneB w7 (.cells #[.int .i64 y.s, .int .i64 y.n, .int .i64 y.b, .int .i64 y.c, .int .i64 y.a, .int .i64 y.r, .int .i64 y.t, .int .i64 y.y] 54)
      have Hp16 := kbq Hp15 hba
      have Hb16 := kbq Hb15 hba
      have Hd16 := kbq Hd15 hba
      have He16 := kbq He15 hba
      have Hix16 := kbq Hix15 hba
      have Qx16 := Lib.hid (Qx15.out.kept hba)
      have Qv16 := Lib.hid (Qv15.out.kept hba)
      have Qs16 := Lib.hid (Qs15.out.kept hba)
      have Qj16 := Lib.hid (Qj15.out.kept hba)
      have Hiy16 := Lib.hid (Blk.new w7 #[.int .i64 y.s, .int .i64 y.n, .int .i64 y.b, .int .i64 y.c, .int .i64 y.a, .int .i64 y.r, .int .i64 y.t, .int .i64 y.y] 54)
      have HB16 := Lib.hid (HB15.out.alloc HB15.out.size (.cells #[.int .i64 y.s, .int .i64 y.n, .int .i64 y.b, .int .i64 y.c, .int .i64 y.a, .int .i64 y.r, .int .i64 y.t, .int .i64 y.y] 54))
      have HZ16 := kzq HZ15 hba.size
      have HGgy : Hid (w.heap.size ≤ w7.heap.size) := Lib.hid HB15.out.size
      clear hba Hp15 Hb15 Hd15 He15 Hix15 Qx15 Qv15 Qs15 Qj15 HB15 HZ15
      go_upto_region 17 with fail
      generalize (w7.alloc (.cells #[.int .i64 y.s, .int .i64 y.n, .int .i64 y.b, .int .i64 y.c, .int .i64 y.a, .int .i64 y.r, .int .i64 y.t, .int .i64 y.y] 54)) = V4 at *
      generalize hggy : w7.heap.size = gy at *
      clear hggy
      clear HGgy
      by_cases hA : x.t = 5
      ·skip
       obtain rfl : y = x := H5.out hA
       have eA : (y.t == 5) = true := by simpa using hA
       have hrk : ¬ rankI y < rankI y := by omega
       have kne : ((!itmEq y y) : Bool) = false := by rw [itmEq_iff.2 rfl]; rfl
       have keq := fun (w : World) => item_eq y y w
       rw [itmEq_iff.2 rfl] at keq
       clear hA H5 HYY kne
       by_cases h0 : y.y ≠ 0
       ·skip
        have e1 : (y.y != 0) = true := by simpa using h0
        have e3 : (y.y != y.y) = false := by simp
        clear h0
        have hbd := (Below.refl V4.heap.size V4).drew
        have Hp17 := kbq Hp16 hbd
        have Hb17 := kbq Hb16 hbd
        have Hd17 := kbq Hd16 hbd
        have He17 := kbq He16 hbd
        have Hix17 := kbq Hix16 hbd
        have Hiy17 := kbq Hiy16 hbd
        have Qx17 := Lib.hid (Qx16.out.kept hbd)
        have Qv17 := Lib.hid (Qv16.out.kept hbd)
        have Qs17 := Lib.hid (Qs16.out.kept hbd)
        have Qj17 := Lib.hid (Qj16.out.kept hbd)
        have HB17 := ktq HB16 hbd
        have HZ17 := kzq HZ16 hbd.size
        clear Hp16 Hb16 Hd16 He16 Hix16 Hiy16 Qx16 Qv16 Qs16 Qj16 HB16 HZ16
        refine wp_region_held_drew (S := fun w' => w'.cell? ⟨gx, 0, none⟩ = some (.int .i64 y.s) ∧ w'.cell? ⟨gx, 1, none⟩ = some (.int .i64 y.n) ∧ w'.cell? ⟨gx, 2, none⟩ = some (.int .i64 y.b) ∧ w'.cell? ⟨gx, 3, none⟩ = some (.int .i64 y.c) ∧ w'.cell? ⟨gx, 4, none⟩ = some (.int .i64 y.a) ∧ w'.cell? ⟨gx, 5, none⟩ = some (.int .i64 y.r) ∧ w'.cell? ⟨gx, 6, none⟩ = some (.int .i64 y.t) ∧ w'.cell? ⟨gx, 7, none⟩ = some (.int .i64 y.y) ∧ w'.cell? ⟨gy, 0, none⟩ = some (.int .i64 y.s) ∧ w'.cell? ⟨gy, 1, none⟩ = some (.int .i64 y.n) ∧ w'.cell? ⟨gy, 2, none⟩ = some (.int .i64 y.b) ∧ w'.cell? ⟨gy, 3, none⟩ = some (.int .i64 y.c) ∧ w'.cell? ⟨gy, 4, none⟩ = some (.int .i64 y.a) ∧ w'.cell? ⟨gy, 5, none⟩ = some (.int .i64 y.r) ∧ w'.cell? ⟨gy, 6, none⟩ = some (.int .i64 y.t) ∧ w'.cell? ⟨gy, 7, none⟩ = some (.int .i64 y.y)) (by kernel_rfl) ⟨Hix17.out.cell 0, Hix17.out.cell 1, Hix17.out.cell 2, Hix17.out.cell 3, Hix17.out.cell 4, Hix17.out.cell 5, Hix17.out.cell 6, Hix17.out.cell 7, Hiy17.out.cell 0, Hiy17.out.cell 1, Hiy17.out.cell 2, Hiy17.out.cell 3, Hiy17.out.cell 4, Hiy17.out.cell 5, Hiy17.out.cell 6, Hiy17.out.cell 7⟩ (fun hS0 => ?_)
        generalize V4.drew = WR at *
        clear hbd
        refine tkq 0 ?_
        refine tkq 1 ?_
        refine tkq 2 ?_
        refine tkq 3 ?_
        refine tkq 5 ?_
        refine rdq 4 (fun K hK => ?_)
        have HG := Lib.hid (rankr_any y WR HRR.out.1)
        unfold Itm.v at HG
        go_simp
        go_at_call 12
        refine HG.out.mono ?_
        rintro y9 w8 ⟨rfl, hb⟩
        clear HG
        have Hp18 := kbq Hp17 hb
        have Hb18 := kbq Hb17 hb
        have Hd18 := kbq Hd17 hb
        have He18 := kbq He17 hb
        have Hix18 := kbq Hix17 hb
        have Hiy18 := kbq Hiy17 hb
        have Qx18 := Lib.hid (Qx17.out.kept hb)
        have Qv18 := Lib.hid (Qv17.out.kept hb)
        have Qs18 := Lib.hid (Qs17.out.kept hb)
        have Qj18 := Lib.hid (Qj17.out.kept hb)
        have HB18 := ktq HB17 hb
        have HZ18 := kzq HZ17 hb.size
        clear Hp17 Hb17 Hd17 He17 Hix17 Hiy17 Qx17 Qv17 Qs17 Qj17 HB17 HZ17
        clear hb hS0
        try go_wp2_with fail
        refine hK.out _ _ ⟨Hix18.out.cell 0, Hix18.out.cell 1, Hix18.out.cell 2, Hix18.out.cell 3, Hix18.out.cell 4, Hix18.out.cell 5, Hix18.out.cell 6, Hix18.out.cell 7, Hiy18.out.cell 0, Hiy18.out.cell 1, Hiy18.out.cell 2, Hiy18.out.cell 3, Hiy18.out.cell 4, Hiy18.out.cell 5, Hiy18.out.cell 6, Hiy18.out.cell 7⟩ (fun hS0 => ?_)
        clear hK K
        try simp only [Act.put, List.getElem_toArray, List.getElem_cons_succ, List.getElem_cons_zero, List.setIfInBounds_toArray, List.set_cons_zero, List.set_cons_succ]
        refine rdq 6 (fun K hK => ?_)
        have HG := Lib.hid (rankr_any y w8 HRR.out.1)
        unfold Itm.v at HG
        go_simp
        go_at_call 12
        refine HG.out.mono ?_
        rintro y9 w9 ⟨rfl, hb⟩
        clear HG
        have Hp19 := kbq Hp18 hb
        have Hb19 := kbq Hb18 hb
        have Hd19 := kbq Hd18 hb
        have He19 := kbq He18 hb
        have Hix19 := kbq Hix18 hb
        have Hiy19 := kbq Hiy18 hb
        have Qx19 := Lib.hid (Qx18.out.kept hb)
        have Qv19 := Lib.hid (Qv18.out.kept hb)
        have Qs19 := Lib.hid (Qs18.out.kept hb)
        have Qj19 := Lib.hid (Qj18.out.kept hb)
        have HB19 := ktq HB18 hb
        have HZ19 := kzq HZ18 hb.size
        clear Hp18 Hb18 Hd18 He18 Hix18 Hiy18 Qx18 Qv18 Qs18 Qj18 HB18 HZ18
        clear hb hS0
        try go_wp2_with fail
        refine hK.out _ _ ⟨Hix19.out.cell 0, Hix19.out.cell 1, Hix19.out.cell 2, Hix19.out.cell 3, Hix19.out.cell 4, Hix19.out.cell 5, Hix19.out.cell 6, Hix19.out.cell 7, Hiy19.out.cell 0, Hiy19.out.cell 1, Hiy19.out.cell 2, Hiy19.out.cell 3, Hiy19.out.cell 4, Hiy19.out.cell 5, Hiy19.out.cell 6, Hiy19.out.cell 7⟩ (fun hS0 => ?_)
        clear hK K
        try simp only [Act.put, List.getElem_toArray, List.getElem_cons_succ, List.getElem_cons_zero, List.setIfInBounds_toArray, List.set_cons_zero, List.set_cons_succ]
        refine tkq 7 ?_
        refine tkq 8 ?_
        refine tkq 9 ?_
        refine tkq 10 ?_
        refine tkq 11 ?_
        refine tkq 12 ?_
        refine tkq 13 ?_
        refine tkq 14 ?_
        refine tkq 15 ?_
        refine tkq 16 ?_
        refine tkq 17 ?_
        refine tkq 18 ?_
        refine tkq 19 ?_
        refine tkq 20 ?_
        refine tkq 21 ?_
        refine tkq 22 ?_
        refine tkq 23 ?_
        refine tkq 24 ?_
        refine tkq 25 ?_
        refine tkq 26 ?_
        refine tkq 27 ?_
        refine tkq 28 ?_
        refine tkq 29 ?_
        refine tkq 30 ?_
        refine tkq 31 ?_
        refine tkq 32 ?_
        refine tkq 33 ?_
        refine tkq 34 ?_
        refine tkq 35 ?_
        refine wpAnyH_done (by kernel_rfl) ?_ _
        clear hS0
        have HNJ := Lib.hid Qj19.out
        go_wp2_with fail
        go_roundw
        case rel => exact ⟨j + 1, by omega, by go_num, HNJ⟩
        case measure => simp [intOf]; omega
       ·skip
        have e1 : (y.y != 0) = false := by simpa using h0
        clear h0
        have hbd := (Below.refl V4.heap.size V4).drew
        have Hp17 := kbq Hp16 hbd
        have Hb17 := kbq Hb16 hbd
        have Hd17 := kbq Hd16 hbd
        have He17 := kbq He16 hbd
        have Hix17 := kbq Hix16 hbd
        have Hiy17 := kbq Hiy16 hbd
        have Qx17 := Lib.hid (Qx16.out.kept hbd)
        have Qv17 := Lib.hid (Qv16.out.kept hbd)
        have Qs17 := Lib.hid (Qs16.out.kept hbd)
        have Qj17 := Lib.hid (Qj16.out.kept hbd)
        have HB17 := ktq HB16 hbd
        have HZ17 := kzq HZ16 hbd.size
        clear Hp16 Hb16 Hd16 He16 Hix16 Hiy16 Qx16 Qv16 Qs16 Qj16 HB16 HZ16
        refine wp_region_held_drew (S := fun w' => w'.cell? ⟨gx, 0, none⟩ = some (.int .i64 y.s) ∧ w'.cell? ⟨gx, 1, none⟩ = some (.int .i64 y.n) ∧ w'.cell? ⟨gx, 2, none⟩ = some (.int .i64 y.b) ∧ w'.cell? ⟨gx, 3, none⟩ = some (.int .i64 y.c) ∧ w'.cell? ⟨gx, 4, none⟩ = some (.int .i64 y.a) ∧ w'.cell? ⟨gx, 5, none⟩ = some (.int .i64 y.r) ∧ w'.cell? ⟨gx, 6, none⟩ = some (.int .i64 y.t) ∧ w'.cell? ⟨gx, 7, none⟩ = some (.int .i64 y.y) ∧ w'.cell? ⟨gy, 0, none⟩ = some (.int .i64 y.s) ∧ w'.cell? ⟨gy, 1, none⟩ = some (.int .i64 y.n) ∧ w'.cell? ⟨gy, 2, none⟩ = some (.int .i64 y.b) ∧ w'.cell? ⟨gy, 3, none⟩ = some (.int .i64 y.c) ∧ w'.cell? ⟨gy, 4, none⟩ = some (.int .i64 y.a) ∧ w'.cell? ⟨gy, 5, none⟩ = some (.int .i64 y.r) ∧ w'.cell? ⟨gy, 6, none⟩ = some (.int .i64 y.t) ∧ w'.cell? ⟨gy, 7, none⟩ = some (.int .i64 y.y)) (by kernel_rfl) ⟨Hix17.out.cell 0, Hix17.out.cell 1, Hix17.out.cell 2, Hix17.out.cell 3, Hix17.out.cell 4, Hix17.out.cell 5, Hix17.out.cell 6, Hix17.out.cell 7, Hiy17.out.cell 0, Hiy17.out.cell 1, Hiy17.out.cell 2, Hiy17.out.cell 3, Hiy17.out.cell 4, Hiy17.out.cell 5, Hiy17.out.cell 6, Hiy17.out.cell 7⟩ (fun hS0 => ?_)
        generalize V4.drew = WR at *
        clear hbd
        refine tkq 0 ?_
        refine tkq 1 ?_
        refine tkq 2 ?_
        refine tkq 3 ?_
        refine tkq 5 ?_
        refine rdq 4 (fun K hK => ?_)
        have HG := Lib.hid (rankr_any y WR HRR.out.1)
        unfold Itm.v at HG
        go_simp
        go_at_call 12
        refine HG.out.mono ?_
        rintro y9 w8 ⟨rfl, hb⟩
        clear HG
        have Hp18 := kbq Hp17 hb
        have Hb18 := kbq Hb17 hb
        have Hd18 := kbq Hd17 hb
        have He18 := kbq He17 hb
        have Hix18 := kbq Hix17 hb
        have Hiy18 := kbq Hiy17 hb
        have Qx18 := Lib.hid (Qx17.out.kept hb)
        have Qv18 := Lib.hid (Qv17.out.kept hb)
        have Qs18 := Lib.hid (Qs17.out.kept hb)
        have Qj18 := Lib.hid (Qj17.out.kept hb)
        have HB18 := ktq HB17 hb
        have HZ18 := kzq HZ17 hb.size
        clear Hp17 Hb17 Hd17 He17 Hix17 Hiy17 Qx17 Qv17 Qs17 Qj17 HB17 HZ17
        clear hb hS0
        try go_wp2_with fail
        refine hK.out _ _ ⟨Hix18.out.cell 0, Hix18.out.cell 1, Hix18.out.cell 2, Hix18.out.cell 3, Hix18.out.cell 4, Hix18.out.cell 5, Hix18.out.cell 6, Hix18.out.cell 7, Hiy18.out.cell 0, Hiy18.out.cell 1, Hiy18.out.cell 2, Hiy18.out.cell 3, Hiy18.out.cell 4, Hiy18.out.cell 5, Hiy18.out.cell 6, Hiy18.out.cell 7⟩ (fun hS0 => ?_)
        clear hK K
        try simp only [Act.put, List.getElem_toArray, List.getElem_cons_succ, List.getElem_cons_zero, List.setIfInBounds_toArray, List.set_cons_zero, List.set_cons_succ]
        refine rdq 6 (fun K hK => ?_)
        have HG := Lib.hid (rankr_any y w8 HRR.out.1)
        unfold Itm.v at HG
        go_simp
        go_at_call 12
        refine HG.out.mono ?_
        rintro y9 w9 ⟨rfl, hb⟩
        clear HG
        have Hp19 := kbq Hp18 hb
        have Hb19 := kbq Hb18 hb
        have Hd19 := kbq Hd18 hb
        have He19 := kbq He18 hb
        have Hix19 := kbq Hix18 hb
        have Hiy19 := kbq Hiy18 hb
        have Qx19 := Lib.hid (Qx18.out.kept hb)
        have Qv19 := Lib.hid (Qv18.out.kept hb)
        have Qs19 := Lib.hid (Qs18.out.kept hb)
        have Qj19 := Lib.hid (Qj18.out.kept hb)
        have HB19 := ktq HB18 hb
        have HZ19 := kzq HZ18 hb.size
        clear Hp18 Hb18 Hd18 He18 Hix18 Hiy18 Qx18 Qv18 Qs18 Qj18 HB18 HZ18
        clear hb hS0
        try go_wp2_with fail
        refine hK.out _ _ ⟨Hix19.out.cell 0, Hix19.out.cell 1, Hix19.out.cell 2, Hix19.out.cell 3, Hix19.out.cell 4, Hix19.out.cell 5, Hix19.out.cell 6, Hix19.out.cell 7, Hiy19.out.cell 0, Hiy19.out.cell 1, Hiy19.out.cell 2, Hiy19.out.cell 3, Hiy19.out.cell 4, Hiy19.out.cell 5, Hiy19.out.cell 6, Hiy19.out.cell 7⟩ (fun hS0 => ?_)
        clear hK K
        try simp only [Act.put, List.getElem_toArray, List.getElem_cons_succ, List.getElem_cons_zero, List.setIfInBounds_toArray, List.set_cons_zero, List.set_cons_succ]
        refine tkq 7 ?_
        refine tkq 8 ?_
        refine tkq 9 ?_
        refine tkq 10 ?_
        refine tkq 11 ?_
        refine tkq 12 ?_
        refine tkq 13 ?_
        refine tkq 14 ?_
        refine tkq 15 ?_
        refine tkq 16 ?_
        refine tkq 17 ?_
        refine tkq 18 ?_
        refine tkq 19 ?_
        refine tkq 20 ?_
        refine tkq 21 ?_
        refine tkq 22 ?_
        refine tkq 23 ?_
        refine tnq 24 ?_
        refine tnq 25 ?_
        refine tnq 26 ?_
        refine tkq 27 ?_
        refine tkq 28 ?_
        refine tnq 29 ?_
        refine tnq 30 ?_
        refine tnq 31 ?_
        refine tnq 32 ?_
        refine tnq 33 ?_
        refine tkq 34 ?_
        refine tkq 35 ?_
        refine wpAnyH_done (by kernel_rfl) ?_ _
        clear hS0
        have HNJ := Lib.hid Qj19.out
        go_wp2_with fail
        go_roundw
        case rel => exact ⟨j + 1, by omega, by go_num, HNJ⟩
        case measure => simp [intOf]; omega
      ·skip
       have eA : (x.t == 5) = false := by simpa using hA
       have hrk : decide (rankI y < rankI x) = false := decide_eq_false (by have h1 := HRK.out; omega)
       clear hA H5
       by_cases h0 : x.y ≠ 0
       ·skip
        have e1 : (x.y != 0) = true := by simpa using h0
        by_cases h1 : y.y ≠ 0
        ·skip
         have e2 : (y.y != 0) = true := by simpa using h1
         have e3 : (x.y != y.y) = false := by simpa using HYY.out h0 h1
         clear h0 h1 HYY
         have hbd := (Below.refl V4.heap.size V4).drew
         have Hp17 := kbq Hp16 hbd
         have Hb17 := kbq Hb16 hbd
         have Hd17 := kbq Hd16 hbd
         have He17 := kbq He16 hbd
         have Hix17 := kbq Hix16 hbd
         have Hiy17 := kbq Hiy16 hbd
         have Qx17 := Lib.hid (Qx16.out.kept hbd)
         have Qv17 := Lib.hid (Qv16.out.kept hbd)
         have Qs17 := Lib.hid (Qs16.out.kept hbd)
         have Qj17 := Lib.hid (Qj16.out.kept hbd)
         have HB17 := ktq HB16 hbd
         have HZ17 := kzq HZ16 hbd.size
         clear Hp16 Hb16 Hd16 He16 Hix16 Hiy16 Qx16 Qv16 Qs16 Qj16 HB16 HZ16
         refine wp_region_held_drew (S := fun w' => w'.cell? ⟨gx, 0, none⟩ = some (.int .i64 x.s) ∧ w'.cell? ⟨gx, 1, none⟩ = some (.int .i64 x.n) ∧ w'.cell? ⟨gx, 2, none⟩ = some (.int .i64 x.b) ∧ w'.cell? ⟨gx, 3, none⟩ = some (.int .i64 x.c) ∧ w'.cell? ⟨gx, 4, none⟩ = some (.int .i64 x.a) ∧ w'.cell? ⟨gx, 5, none⟩ = some (.int .i64 x.r) ∧ w'.cell? ⟨gx, 6, none⟩ = some (.int .i64 x.t) ∧ w'.cell? ⟨gx, 7, none⟩ = some (.int .i64 x.y) ∧ w'.cell? ⟨gy, 0, none⟩ = some (.int .i64 y.s) ∧ w'.cell? ⟨gy, 1, none⟩ = some (.int .i64 y.n) ∧ w'.cell? ⟨gy, 2, none⟩ = some (.int .i64 y.b) ∧ w'.cell? ⟨gy, 3, none⟩ = some (.int .i64 y.c) ∧ w'.cell? ⟨gy, 4, none⟩ = some (.int .i64 y.a) ∧ w'.cell? ⟨gy, 5, none⟩ = some (.int .i64 y.r) ∧ w'.cell? ⟨gy, 6, none⟩ = some (.int .i64 y.t) ∧ w'.cell? ⟨gy, 7, none⟩ = some (.int .i64 y.y)) (by kernel_rfl) ⟨Hix17.out.cell 0, Hix17.out.cell 1, Hix17.out.cell 2, Hix17.out.cell 3, Hix17.out.cell 4, Hix17.out.cell 5, Hix17.out.cell 6, Hix17.out.cell 7, Hiy17.out.cell 0, Hiy17.out.cell 1, Hiy17.out.cell 2, Hiy17.out.cell 3, Hiy17.out.cell 4, Hiy17.out.cell 5, Hiy17.out.cell 6, Hiy17.out.cell 7⟩ (fun hS0 => ?_)
         generalize V4.drew = WR at *
         clear hbd
         refine tkq 0 ?_
         refine tkq 1 ?_
         refine tkq 2 ?_
         refine tkq 3 ?_
         refine tkq 5 ?_
         refine rdq 4 (fun K hK => ?_)
         have HG := Lib.hid (rankr_any y WR HRR.out.2)
         unfold Itm.v at HG
         go_simp
         go_at_call 12
         refine HG.out.mono ?_
         rintro y9 w8 ⟨rfl, hb⟩
         clear HG
         have Hp18 := kbq Hp17 hb
         have Hb18 := kbq Hb17 hb
         have Hd18 := kbq Hd17 hb
         have He18 := kbq He17 hb
         have Hix18 := kbq Hix17 hb
         have Hiy18 := kbq Hiy17 hb
         have Qx18 := Lib.hid (Qx17.out.kept hb)
         have Qv18 := Lib.hid (Qv17.out.kept hb)
         have Qs18 := Lib.hid (Qs17.out.kept hb)
         have Qj18 := Lib.hid (Qj17.out.kept hb)
         have HB18 := ktq HB17 hb
         have HZ18 := kzq HZ17 hb.size
         clear Hp17 Hb17 Hd17 He17 Hix17 Hiy17 Qx17 Qv17 Qs17 Qj17 HB17 HZ17
         clear hb hS0
         try go_wp2_with fail
         refine hK.out _ _ ⟨Hix18.out.cell 0, Hix18.out.cell 1, Hix18.out.cell 2, Hix18.out.cell 3, Hix18.out.cell 4, Hix18.out.cell 5, Hix18.out.cell 6, Hix18.out.cell 7, Hiy18.out.cell 0, Hiy18.out.cell 1, Hiy18.out.cell 2, Hiy18.out.cell 3, Hiy18.out.cell 4, Hiy18.out.cell 5, Hiy18.out.cell 6, Hiy18.out.cell 7⟩ (fun hS0 => ?_)
         clear hK K
         try simp only [Act.put, List.getElem_toArray, List.getElem_cons_succ, List.getElem_cons_zero, List.setIfInBounds_toArray, List.set_cons_zero, List.set_cons_succ]
         refine rdq 6 (fun K hK => ?_)
         have HG := Lib.hid (rankr_any x w8 HRR.out.1)
         unfold Itm.v at HG
         go_simp
         go_at_call 12
         refine HG.out.mono ?_
         rintro y9 w9 ⟨rfl, hb⟩
         clear HG
         have Hp19 := kbq Hp18 hb
         have Hb19 := kbq Hb18 hb
         have Hd19 := kbq Hd18 hb
         have He19 := kbq He18 hb
         have Hix19 := kbq Hix18 hb
         have Hiy19 := kbq Hiy18 hb
         have Qx19 := Lib.hid (Qx18.out.kept hb)
         have Qv19 := Lib.hid (Qv18.out.kept hb)
         have Qs19 := Lib.hid (Qs18.out.kept hb)
         have Qj19 := Lib.hid (Qj18.out.kept hb)
         have HB19 := ktq HB18 hb
         have HZ19 := kzq HZ18 hb.size
         clear Hp18 Hb18 Hd18 He18 Hix18 Hiy18 Qx18 Qv18 Qs18 Qj18 HB18 HZ18
         clear hb hS0
         try go_wp2_with fail
         refine hK.out _ _ ⟨Hix19.out.cell 0, Hix19.out.cell 1, Hix19.out.cell 2, Hix19.out.cell 3, Hix19.out.cell 4, Hix19.out.cell 5, Hix19.out.cell 6, Hix19.out.cell 7, Hiy19.out.cell 0, Hiy19.out.cell 1, Hiy19.out.cell 2, Hiy19.out.cell 3, Hiy19.out.cell 4, Hiy19.out.cell 5, Hiy19.out.cell 6, Hiy19.out.cell 7⟩ (fun hS0 => ?_)
         clear hK K
         try simp only [Act.put, List.getElem_toArray, List.getElem_cons_succ, List.getElem_cons_zero, List.setIfInBounds_toArray, List.set_cons_zero, List.set_cons_succ]
         refine tkq 7 ?_
         refine tkq 8 ?_
         refine tkq 9 ?_
         refine tkq 10 ?_
         refine tkq 11 ?_
         refine tkq 12 ?_
         refine tkq 13 ?_
         refine tnq 14 ?_
         refine tnq 15 ?_
         refine tnq 16 ?_
         refine tkq 17 ?_
         refine tkq 18 ?_
         refine tkq 19 ?_
         refine tkq 20 ?_
         refine tkq 21 ?_
         refine tkq 22 ?_
         refine tkq 23 ?_
         refine tkq 24 ?_
         refine tkq 25 ?_
         refine tkq 26 ?_
         refine tkq 27 ?_
         refine tkq 28 ?_
         refine tkq 29 ?_
         refine tkq 30 ?_
         refine tkq 31 ?_
         refine tkq 32 ?_
         refine tkq 33 ?_
         refine tkq 34 ?_
         refine tkq 35 ?_
         refine wpAnyH_done (by kernel_rfl) ?_ _
         clear hS0
         have HNJ := Lib.hid Qj19.out
         go_wp2_with fail
         go_roundw
         case rel => exact ⟨j + 1, by omega, by go_num, HNJ⟩
         case measure => simp [intOf]; omega
        ·skip
         have e2 : (y.y != 0) = false := by simpa using h1
         clear h0 h1 HYY
         have hbd := (Below.refl V4.heap.size V4).drew
         have Hp17 := kbq Hp16 hbd
         have Hb17 := kbq Hb16 hbd
         have Hd17 := kbq Hd16 hbd
         have He17 := kbq He16 hbd
         have Hix17 := kbq Hix16 hbd
         have Hiy17 := kbq Hiy16 hbd
         have Qx17 := Lib.hid (Qx16.out.kept hbd)
         have Qv17 := Lib.hid (Qv16.out.kept hbd)
         have Qs17 := Lib.hid (Qs16.out.kept hbd)
         have Qj17 := Lib.hid (Qj16.out.kept hbd)
         have HB17 := ktq HB16 hbd
         have HZ17 := kzq HZ16 hbd.size
         clear Hp16 Hb16 Hd16 He16 Hix16 Hiy16 Qx16 Qv16 Qs16 Qj16 HB16 HZ16
         refine wp_region_held_drew (S := fun w' => w'.cell? ⟨gx, 0, none⟩ = some (.int .i64 x.s) ∧ w'.cell? ⟨gx, 1, none⟩ = some (.int .i64 x.n) ∧ w'.cell? ⟨gx, 2, none⟩ = some (.int .i64 x.b) ∧ w'.cell? ⟨gx, 3, none⟩ = some (.int .i64 x.c) ∧ w'.cell? ⟨gx, 4, none⟩ = some (.int .i64 x.a) ∧ w'.cell? ⟨gx, 5, none⟩ = some (.int .i64 x.r) ∧ w'.cell? ⟨gx, 6, none⟩ = some (.int .i64 x.t) ∧ w'.cell? ⟨gx, 7, none⟩ = some (.int .i64 x.y) ∧ w'.cell? ⟨gy, 0, none⟩ = some (.int .i64 y.s) ∧ w'.cell? ⟨gy, 1, none⟩ = some (.int .i64 y.n) ∧ w'.cell? ⟨gy, 2, none⟩ = some (.int .i64 y.b) ∧ w'.cell? ⟨gy, 3, none⟩ = some (.int .i64 y.c) ∧ w'.cell? ⟨gy, 4, none⟩ = some (.int .i64 y.a) ∧ w'.cell? ⟨gy, 5, none⟩ = some (.int .i64 y.r) ∧ w'.cell? ⟨gy, 6, none⟩ = some (.int .i64 y.t) ∧ w'.cell? ⟨gy, 7, none⟩ = some (.int .i64 y.y)) (by kernel_rfl) ⟨Hix17.out.cell 0, Hix17.out.cell 1, Hix17.out.cell 2, Hix17.out.cell 3, Hix17.out.cell 4, Hix17.out.cell 5, Hix17.out.cell 6, Hix17.out.cell 7, Hiy17.out.cell 0, Hiy17.out.cell 1, Hiy17.out.cell 2, Hiy17.out.cell 3, Hiy17.out.cell 4, Hiy17.out.cell 5, Hiy17.out.cell 6, Hiy17.out.cell 7⟩ (fun hS0 => ?_)
         generalize V4.drew = WR at *
         clear hbd
         refine tkq 0 ?_
         refine tkq 1 ?_
         refine tkq 2 ?_
         refine tkq 3 ?_
         refine tkq 5 ?_
         refine rdq 4 (fun K hK => ?_)
         have HG := Lib.hid (rankr_any y WR HRR.out.2)
         unfold Itm.v at HG
         go_simp
         go_at_call 12
         refine HG.out.mono ?_
         rintro y9 w8 ⟨rfl, hb⟩
         clear HG
         have Hp18 := kbq Hp17 hb
         have Hb18 := kbq Hb17 hb
         have Hd18 := kbq Hd17 hb
         have He18 := kbq He17 hb
         have Hix18 := kbq Hix17 hb
         have Hiy18 := kbq Hiy17 hb
         have Qx18 := Lib.hid (Qx17.out.kept hb)
         have Qv18 := Lib.hid (Qv17.out.kept hb)
         have Qs18 := Lib.hid (Qs17.out.kept hb)
         have Qj18 := Lib.hid (Qj17.out.kept hb)
         have HB18 := ktq HB17 hb
         have HZ18 := kzq HZ17 hb.size
         clear Hp17 Hb17 Hd17 He17 Hix17 Hiy17 Qx17 Qv17 Qs17 Qj17 HB17 HZ17
         clear hb hS0
         try go_wp2_with fail
         refine hK.out _ _ ⟨Hix18.out.cell 0, Hix18.out.cell 1, Hix18.out.cell 2, Hix18.out.cell 3, Hix18.out.cell 4, Hix18.out.cell 5, Hix18.out.cell 6, Hix18.out.cell 7, Hiy18.out.cell 0, Hiy18.out.cell 1, Hiy18.out.cell 2, Hiy18.out.cell 3, Hiy18.out.cell 4, Hiy18.out.cell 5, Hiy18.out.cell 6, Hiy18.out.cell 7⟩ (fun hS0 => ?_)
         clear hK K
         try simp only [Act.put, List.getElem_toArray, List.getElem_cons_succ, List.getElem_cons_zero, List.setIfInBounds_toArray, List.set_cons_zero, List.set_cons_succ]
         refine rdq 6 (fun K hK => ?_)
         have HG := Lib.hid (rankr_any x w8 HRR.out.1)
         unfold Itm.v at HG
         go_simp
         go_at_call 12
         refine HG.out.mono ?_
         rintro y9 w9 ⟨rfl, hb⟩
         clear HG
         have Hp19 := kbq Hp18 hb
         have Hb19 := kbq Hb18 hb
         have Hd19 := kbq Hd18 hb
         have He19 := kbq He18 hb
         have Hix19 := kbq Hix18 hb
         have Hiy19 := kbq Hiy18 hb
         have Qx19 := Lib.hid (Qx18.out.kept hb)
         have Qv19 := Lib.hid (Qv18.out.kept hb)
         have Qs19 := Lib.hid (Qs18.out.kept hb)
         have Qj19 := Lib.hid (Qj18.out.kept hb)
         have HB19 := ktq HB18 hb
         have HZ19 := kzq HZ18 hb.size
         clear Hp18 Hb18 Hd18 He18 Hix18 Hiy18 Qx18 Qv18 Qs18 Qj18 HB18 HZ18
         clear hb hS0
         try go_wp2_with fail
         refine hK.out _ _ ⟨Hix19.out.cell 0, Hix19.out.cell 1, Hix19.out.cell 2, Hix19.out.cell 3, Hix19.out.cell 4, Hix19.out.cell 5, Hix19.out.cell 6, Hix19.out.cell 7, Hiy19.out.cell 0, Hiy19.out.cell 1, Hiy19.out.cell 2, Hiy19.out.cell 3, Hiy19.out.cell 4, Hiy19.out.cell 5, Hiy19.out.cell 6, Hiy19.out.cell 7⟩ (fun hS0 => ?_)
         clear hK K
         try simp only [Act.put, List.getElem_toArray, List.getElem_cons_succ, List.getElem_cons_zero, List.setIfInBounds_toArray, List.set_cons_zero, List.set_cons_succ]
         refine tkq 7 ?_
         refine tkq 8 ?_
         refine tkq 9 ?_
         refine tkq 10 ?_
         refine tkq 11 ?_
         refine tkq 12 ?_
         refine tkq 13 ?_
         refine tnq 14 ?_
         refine tnq 15 ?_
         refine tnq 16 ?_
         refine tkq 17 ?_
         refine tkq 18 ?_
         refine tkq 19 ?_
         refine tkq 20 ?_
         refine tkq 21 ?_
         refine tkq 22 ?_
         refine tkq 23 ?_
         refine tkq 24 ?_
         refine tkq 25 ?_
         refine tkq 26 ?_
         refine tkq 27 ?_
         refine tkq 28 ?_
         refine tnq 29 ?_
         refine tnq 30 ?_
         refine tnq 31 ?_
         refine tnq 32 ?_
         refine tnq 33 ?_
         refine tkq 34 ?_
         refine tkq 35 ?_
         refine wpAnyH_done (by kernel_rfl) ?_ _
         clear hS0
         have HNJ := Lib.hid Qj19.out
         go_wp2_with fail
         go_roundw
         case rel => exact ⟨j + 1, by omega, by go_num, HNJ⟩
         case measure => simp [intOf]; omega
       ·skip
        have e1 : (x.y != 0) = false := by simpa using h0
        clear h0 HYY
        have hbd := (Below.refl V4.heap.size V4).drew
        have Hp17 := kbq Hp16 hbd
        have Hb17 := kbq Hb16 hbd
        have Hd17 := kbq Hd16 hbd
        have He17 := kbq He16 hbd
        have Hix17 := kbq Hix16 hbd
        have Hiy17 := kbq Hiy16 hbd
        have Qx17 := Lib.hid (Qx16.out.kept hbd)
        have Qv17 := Lib.hid (Qv16.out.kept hbd)
        have Qs17 := Lib.hid (Qs16.out.kept hbd)
        have Qj17 := Lib.hid (Qj16.out.kept hbd)
        have HB17 := ktq HB16 hbd
        have HZ17 := kzq HZ16 hbd.size
        clear Hp16 Hb16 Hd16 He16 Hix16 Hiy16 Qx16 Qv16 Qs16 Qj16 HB16 HZ16
        refine wp_region_held_drew (S := fun w' => w'.cell? ⟨gx, 0, none⟩ = some (.int .i64 x.s) ∧ w'.cell? ⟨gx, 1, none⟩ = some (.int .i64 x.n) ∧ w'.cell? ⟨gx, 2, none⟩ = some (.int .i64 x.b) ∧ w'.cell? ⟨gx, 3, none⟩ = some (.int .i64 x.c) ∧ w'.cell? ⟨gx, 4, none⟩ = some (.int .i64 x.a) ∧ w'.cell? ⟨gx, 5, none⟩ = some (.int .i64 x.r) ∧ w'.cell? ⟨gx, 6, none⟩ = some (.int .i64 x.t) ∧ w'.cell? ⟨gx, 7, none⟩ = some (.int .i64 x.y) ∧ w'.cell? ⟨gy, 0, none⟩ = some (.int .i64 y.s) ∧ w'.cell? ⟨gy, 1, none⟩ = some (.int .i64 y.n) ∧ w'.cell? ⟨gy, 2, none⟩ = some (.int .i64 y.b) ∧ w'.cell? ⟨gy, 3, none⟩ = some (.int .i64 y.c) ∧ w'.cell? ⟨gy, 4, none⟩ = some (.int .i64 y.a) ∧ w'.cell? ⟨gy, 5, none⟩ = some (.int .i64 y.r) ∧ w'.cell? ⟨gy, 6, none⟩ = some (.int .i64 y.t) ∧ w'.cell? ⟨gy, 7, none⟩ = some (.int .i64 y.y)) (by kernel_rfl) ⟨Hix17.out.cell 0, Hix17.out.cell 1, Hix17.out.cell 2, Hix17.out.cell 3, Hix17.out.cell 4, Hix17.out.cell 5, Hix17.out.cell 6, Hix17.out.cell 7, Hiy17.out.cell 0, Hiy17.out.cell 1, Hiy17.out.cell 2, Hiy17.out.cell 3, Hiy17.out.cell 4, Hiy17.out.cell 5, Hiy17.out.cell 6, Hiy17.out.cell 7⟩ (fun hS0 => ?_)
        generalize V4.drew = WR at *
        clear hbd
        refine tkq 0 ?_
        refine tkq 1 ?_
        refine tkq 2 ?_
        refine tkq 3 ?_
        refine tkq 5 ?_
        refine rdq 4 (fun K hK => ?_)
        have HG := Lib.hid (rankr_any y WR HRR.out.2)
        unfold Itm.v at HG
        go_simp
        go_at_call 12
        refine HG.out.mono ?_
        rintro y9 w8 ⟨rfl, hb⟩
        clear HG
        have Hp18 := kbq Hp17 hb
        have Hb18 := kbq Hb17 hb
        have Hd18 := kbq Hd17 hb
        have He18 := kbq He17 hb
        have Hix18 := kbq Hix17 hb
        have Hiy18 := kbq Hiy17 hb
        have Qx18 := Lib.hid (Qx17.out.kept hb)
        have Qv18 := Lib.hid (Qv17.out.kept hb)
        have Qs18 := Lib.hid (Qs17.out.kept hb)
        have Qj18 := Lib.hid (Qj17.out.kept hb)
        have HB18 := ktq HB17 hb
        have HZ18 := kzq HZ17 hb.size
        clear Hp17 Hb17 Hd17 He17 Hix17 Hiy17 Qx17 Qv17 Qs17 Qj17 HB17 HZ17
        clear hb hS0
        try go_wp2_with fail
        refine hK.out _ _ ⟨Hix18.out.cell 0, Hix18.out.cell 1, Hix18.out.cell 2, Hix18.out.cell 3, Hix18.out.cell 4, Hix18.out.cell 5, Hix18.out.cell 6, Hix18.out.cell 7, Hiy18.out.cell 0, Hiy18.out.cell 1, Hiy18.out.cell 2, Hiy18.out.cell 3, Hiy18.out.cell 4, Hiy18.out.cell 5, Hiy18.out.cell 6, Hiy18.out.cell 7⟩ (fun hS0 => ?_)
        clear hK K
        try simp only [Act.put, List.getElem_toArray, List.getElem_cons_succ, List.getElem_cons_zero, List.setIfInBounds_toArray, List.set_cons_zero, List.set_cons_succ]
        refine rdq 6 (fun K hK => ?_)
        have HG := Lib.hid (rankr_any x w8 HRR.out.1)
        unfold Itm.v at HG
        go_simp
        go_at_call 12
        refine HG.out.mono ?_
        rintro y9 w9 ⟨rfl, hb⟩
        clear HG
        have Hp19 := kbq Hp18 hb
        have Hb19 := kbq Hb18 hb
        have Hd19 := kbq Hd18 hb
        have He19 := kbq He18 hb
        have Hix19 := kbq Hix18 hb
        have Hiy19 := kbq Hiy18 hb
        have Qx19 := Lib.hid (Qx18.out.kept hb)
        have Qv19 := Lib.hid (Qv18.out.kept hb)
        have Qs19 := Lib.hid (Qs18.out.kept hb)
        have Qj19 := Lib.hid (Qj18.out.kept hb)
        have HB19 := ktq HB18 hb
        have HZ19 := kzq HZ18 hb.size
        clear Hp18 Hb18 Hd18 He18 Hix18 Hiy18 Qx18 Qv18 Qs18 Qj18 HB18 HZ18
        clear hb hS0
        try go_wp2_with fail
        refine hK.out _ _ ⟨Hix19.out.cell 0, Hix19.out.cell 1, Hix19.out.cell 2, Hix19.out.cell 3, Hix19.out.cell 4, Hix19.out.cell 5, Hix19.out.cell 6, Hix19.out.cell 7, Hiy19.out.cell 0, Hiy19.out.cell 1, Hiy19.out.cell 2, Hiy19.out.cell 3, Hiy19.out.cell 4, Hiy19.out.cell 5, Hiy19.out.cell 6, Hiy19.out.cell 7⟩ (fun hS0 => ?_)
        clear hK K
        try simp only [Act.put, List.getElem_toArray, List.getElem_cons_succ, List.getElem_cons_zero, List.setIfInBounds_toArray, List.set_cons_zero, List.set_cons_succ]
        refine tkq 7 ?_
        refine tkq 8 ?_
        refine tkq 9 ?_
        refine tkq 10 ?_
        refine tkq 11 ?_
        refine tkq 12 ?_
        refine tkq 13 ?_
        refine tnq 14 ?_
        refine tnq 15 ?_
        refine tnq 16 ?_
        refine tkq 17 ?_
        refine tkq 18 ?_
        refine tkq 19 ?_
        refine tkq 20 ?_
        refine tkq 21 ?_
        refine tkq 22 ?_
        refine tkq 23 ?_
        refine tnq 24 ?_
        refine tnq 25 ?_
        refine tnq 26 ?_
        refine tkq 27 ?_
        refine tkq 28 ?_
        refine tnq 29 ?_
        refine tnq 30 ?_
        refine tnq 31 ?_
        refine tnq 32 ?_
        refine tnq 33 ?_
        refine tkq 34 ?_
        refine tkq 35 ?_
        refine wpAnyH_done (by kernel_rfl) ?_ _
        clear hS0
        have HNJ := Lib.hid Qj19.out
        go_wp2_with fail
        go_roundw
        case rel => exact ⟨j + 1, by omega, by go_num, HNJ⟩
        case measure => simp [intOf]; omega
     ·skip
      have hljI : ¬ (j : Int) < (ni : Int) := by omega
      clear hj9
      clear Qj13
      obtain ⟨WI, hWI⟩ : ∃ W, W = wr := ⟨_, rfl⟩
      subst hWI
      by_cases he : e5 = 0
      ·skip
       have heb : (e5 != 0) = false := by simpa using he
       clear he
       have HJ : Hid (BelB WI WI) := Lib.hid (BelB.refl _)
       go_upto_region 22 with fail
       clear heb hljI hlj
       go_loopw [115] (fun i wr => ∃ q : Nat, q ≤ nv5 ∧ i = .int .i64 q ∧ Hid (BelB WI wr)) (fun i _ => nv5 - (intOf i).toNat)
       case atStart => exact ⟨0, by omega, rfl, HJ⟩
       case round =>
        clear HJ
        obtain ⟨q, hq, rfl, HJ⟩ := hrel
        have hbj := HJ.out
        unfold BelB at hbj
        have Hp14 := kbq Hp13 hbj
        have Hb14 := kbq Hb13 hbj
        have Hd14 := kbq Hd13 hbj
        have He14 := kbq He13 hbj
        have Qx14 := Lib.hid (Qx13.out.kept hbj)
        have Qv14 := Lib.hid (Qv13.out.kept hbj)
        have Qs14 := Lib.hid (Qs13.out.kept hbj)
        have HB14 := ktq HB13 hbj
        have HZ14 := kzq HZ13 hbj.size
        clear Hp13 Hb13 Hd13 He13 Qx13 Qv13 Qs13 HB13 HZ13
        clear hbj
        have Qj14 := HJ
        clear HJ
        have hq9 : q + 1 ≤ 2 := by have h1 := HNV.out; have h2 := HSH.out.1; omega
        by_cases hlq : q < nv5
        ·skip
         have hql : q < out5.length := by rw [← HNV.out]; exact hlq
         have hlqI : (q : Int) < (nv5 : Int) := by omega
         have HS1 := Lib.hid (HSY.out _ (List.getElem_mem hql))
         have HS2 := Lib.hid (HSH.out.2 _ (List.getElem_mem hql))
         have Ql14 : Hid (RwN encN (NotIn [gb, gp]) wr (.slice (out5[q]).x.pl (out5[q]).x.m.ls.length (out5[q]).x.cl) (out5[q]).x.m.ls) := Lib.hid (Qs14.out.2 _ (List.getElem_mem hql))
         obtain ⟨bs, os, hps, hbl, hcs⟩ := Qs14.out.1.1.at_ q hql
         subst hps
         generalize out5[q] = z1 at *
         have c0 : wr.cell? ⟨bs, os + q * 12, none⟩ = some (.int .i64 z1.tw) := hcs 0 (by decide)
         have c1 : wr.cell? ⟨bs, os + q * 12 + 1, none⟩ = some (.int .i64 z1.x.m.k) := hcs 1 (by decide)
         have c2 : wr.cell? ⟨bs, os + q * 12 + 2, none⟩ = some (.int .i64 z1.x.m.s) := hcs 2 (by decide)
         have c3 : wr.cell? ⟨bs, os + q * 12 + 3, none⟩ = some (.int .i64 z1.x.m.n) := hcs 3 (by decide)
         have c4 : wr.cell? ⟨bs, os + q * 12 + 4, none⟩ = some (.int .i64 z1.x.m.b) := hcs 4 (by decide)
         have c5 : wr.cell? ⟨bs, os + q * 12 + 5, none⟩ = some (.int .i64 z1.x.m.c) := hcs 5 (by decide)
         have c6 : wr.cell? ⟨bs, os + q * 12 + 6, none⟩ = some (.int .i64 z1.x.m.r) := hcs 6 (by decide)
         have c7 : wr.cell? ⟨bs, os + q * 12 + 7, none⟩ = some (.int .i64 z1.x.m.y) := hcs 7 (by decide)
         have c8 : wr.cell? ⟨bs, os + q * 12 + 8, none⟩ = some (.int .i64 z1.x.m.a) := hcs 8 (by decide)
         have c9 : wr.cell? ⟨bs, os + q * 12 + 9, none⟩ = some (.bool z1.x.m.t) := hcs 9 (by decide)
         have c10 : wr.cell? ⟨bs, os + q * 12 + 10, none⟩ = some (.slice z1.x.pl z1.x.m.ls.length z1.x.cl) := hcs 10 (by decide)
         have c11 : wr.cell? ⟨bs, os + q * 12 + 11, none⟩ = some (.slice z1.x.pn z1.x.m.ns.length z1.x.cn) := hcs 11 (by decide)
         clear hcs hbl
         have hba := oneB wr (.cells #[.int .i64 z1.tw, .int .i64 z1.x.m.k, .int .i64 z1.x.m.s, .int .i64 z1.x.m.n, .int .i64 z1.x.m.b, .int .i64 z1.x.m.c, .int .i64 z1.x.m.r, .int .i64 z1.x.m.y, .int .i64 z1.x.m.a, .bool z1.x.m.t, .slice z1.x.pl z1.x.m.ls.length z1.x.cl, .slice z1.x.pn z1.x.m.ns.length z1.x.cn] 48)
         have Hp15 := kbq Hp14 hba
         have Hb15 := kbq Hb14 hba
         have Hd15 := kbq Hd14 hba
         have He15 := kbq He14 hba
         have Qx15 := Lib.hid (Qx14.out.kept hba)
         have Qv15 := Lib.hid (Qv14.out.kept hba)
         have Qs15 := Lib.hid (Qs14.out.kept hba)
         have Qj15 := Lib.hid (Qj14.out.kept hba)
         have Ql15 := Lib.hid (Ql14.out.kept hba)
         have His15 := Lib.hid (Blk.new wr #[.int .i64 z1.tw, .int .i64 z1.x.m.k, .int .i64 z1.x.m.s, .int .i64 z1.x.m.n, .int .i64 z1.x.m.b, .int .i64 z1.x.m.c, .int .i64 z1.x.m.r, .int .i64 z1.x.m.y, .int .i64 z1.x.m.a, .bool z1.x.m.t, .slice z1.x.pl z1.x.m.ls.length z1.x.cl, .slice z1.x.pn z1.x.m.ns.length z1.x.cn] 48)
         have HB15 := Lib.hid (HB14.out.alloc HB14.out.size (.cells #[.int .i64 z1.tw, .int .i64 z1.x.m.k, .int .i64 z1.x.m.s, .int .i64 z1.x.m.n, .int .i64 z1.x.m.b, .int .i64 z1.x.m.c, .int .i64 z1.x.m.r, .int .i64 z1.x.m.y, .int .i64 z1.x.m.a, .bool z1.x.m.t, .slice z1.x.pl z1.x.m.ls.length z1.x.cl, .slice z1.x.pn z1.x.m.ns.length z1.x.cn] 48))
         have HZ15 := kzq HZ14 hba.size
         have HGgs : Hid (w.heap.size ≤ wr.heap.size) := Lib.hid HB14.out.size
         clear hba Hp14 Hb14 Hd14 He14 Qx14 Qv14 Qs14 Qj14 Ql14 HB14 HZ14
         go_upto_region 24 with fail
         clear c0 c1 c2 c3 c4 c5 c6 c7 c8 c9 c10 c11
         generalize (wr.alloc (.cells #[.int .i64 z1.tw, .int .i64 z1.x.m.k, .int .i64 z1.x.m.s, .int .i64 z1.x.m.n, .int .i64 z1.x.m.b, .int .i64 z1.x.m.c, .int .i64 z1.x.m.r, .int .i64 z1.x.m.y, .int .i64 z1.x.m.a, .bool z1.x.m.t, .slice z1.x.pl z1.x.m.ls.length z1.x.cl, .slice z1.x.pn z1.x.m.ns.length z1.x.cn] 48)) = X1 at *
         generalize hggs : wr.heap.size = gs at *
         clear hggs
         clear HGgs
         have e10 : X1.cell? ⟨gs, 10, none⟩ = some (.slice z1.x.pl z1.x.m.ls.length z1.x.cl) := His15.out.cell 10
         go_upto_region 25 with fail
         clear e10
         have HJ : Hid (BelB X1 X1) := Lib.hid (BelB.refl _)
         go_loopw [123] (fun i wr => ∃ r : Nat, r ≤ z1.x.m.ls.length ∧ i = .int .i64 r ∧ Hid (BelB X1 wr)) (fun i _ => z1.x.m.ls.length - (intOf i).toNat)
         case atStart => exact ⟨0, by omega, rfl, HJ⟩
         case round =>
          clear HJ
          obtain ⟨r, hr, rfl, HJ⟩ := hrel
          have hbj := HJ.out
          unfold BelB at hbj
          have Hp16 := kbq Hp15 hbj
          have Hb16 := kbq Hb15 hbj
          have Hd16 := kbq Hd15 hbj
          have He16 := kbq He15 hbj
          have His16 := kbq His15 hbj
          have Qx16 := Lib.hid (Qx15.out.kept hbj)
          have Qv16 := Lib.hid (Qv15.out.kept hbj)
          have Qs16 := Lib.hid (Qs15.out.kept hbj)
          have Qj16 := Lib.hid (Qj15.out.kept hbj)
          have Ql16 := Lib.hid (Ql15.out.kept hbj)
          have HB16 := ktq HB15 hbj
          have HZ16 := kzq HZ15 hbj.size
          clear Hp15 Hb15 Hd15 He15 His15 Qx15 Qv15 Qs15 Qj15 Ql15 HB15 HZ15
          clear hbj
          have Qi16 := HJ
          clear HJ
          have hr9 : r + 1 ≤ 129 := by have h1 := HS2.out; omega
          by_cases hlr : r < z1.x.m.ls.length
          ·skip
           have hlrI : (r : Int) < (z1.x.m.ls.length : Int) := by omega
           have HQ1 := Lib.hid (HS1.out.2.2 _ (List.getElem_mem hlr))
           obtain ⟨bz, oz, hpz, hbl, hcs⟩ := Ql16.out.1.at_ r hlr
           rw [hpz]
           generalize (z1.x.m.ls[r]) = l at *
           obtain ⟨qi, hfq, hq3, hq0⟩ := HQ1.out
           have HFQ := Lib.hid hfq
           have HQT := Lib.hid (And.intro hq3 hq0)
           clear HQ1 hfq hq3 hq0
           have c0 : wr.cell? ⟨bz, oz + r * 4, none⟩ = some (.int .i64 l.s) := hcs 0 (by decide)
           have c1 : wr.cell? ⟨bz, oz + r * 4 + 1, none⟩ = some (.int .i64 l.n) := hcs 1 (by decide)
           have c2 : wr.cell? ⟨bz, oz + r * 4 + 2, none⟩ = some (.int .i64 l.b) := hcs 2 (by decide)
           have c3 : wr.cell? ⟨bz, oz + r * 4 + 3, none⟩ = some (.int .i64 l.a) := hcs 3 (by decide)
           clear hcs hbl
           have hba := oneB wr (.cells #[.int .i64 l.s, .int .i64 l.n, .int .i64 l.b, .int .i64 l.a] 50)
           have Hp17 := kbq Hp16 hba
           have Hb17 := kbq Hb16 hba
           have Hd17 := kbq Hd16 hba
           have He17 := kbq He16 hba
           have His17 := kbq His16 hba
           have Qx17 := Lib.hid (Qx16.out.kept hba)
           have Qv17 := Lib.hid (Qv16.out.kept hba)
           have Qs17 := Lib.hid (Qs16.out.kept hba)
           have Qj17 := Lib.hid (Qj16.out.kept hba)
           have Ql17 := Lib.hid (Ql16.out.kept hba)
           have Qi17 := Lib.hid (Qi16.out.kept hba)
           have Hil17 := Lib.hid (Blk.new wr #[.int .i64 l.s, .int .i64 l.n, .int .i64 l.b, .int .i64 l.a] 50)
           have HB17 := Lib.hid (HB16.out.alloc HB16.out.size (.cells #[.int .i64 l.s, .int .i64 l.n, .int .i64 l.b, .int .i64 l.a] 50))
           have HZ17 := kzq HZ16 hba.size
           have HGgl : Hid (w.heap.size ≤ wr.heap.size) := Lib.hid HB16.out.size
           clear hba Hp16 Hb16 Hd16 He16 His16 Qx16 Qv16 Qs16 Qj16 Ql16 Qi16 HB16 HZ16
           go_upto_region 27 with fail
           clear c0 c1 c2 c3
           generalize (wr.alloc (.cells #[.int .i64 l.s, .int .i64 l.n, .int .i64 l.b, .int .i64 l.a] 50)) = X2 at *
           generalize hggl : wr.heap.size = gl at *
           clear hggl
           clear HGgl
           have HG := Lib.hid (dget_any X2 0 pi none ni ci 0 0 l.s l.n xs Qx17.out.1 HNX.out.symm HGX.out.1 (by have h1 := HNX.out; have h3 := HLN.out.2; omega))
           rw [HFQ.out] at HG
           simp only [Option.getD_some, Option.isSome_some] at HG
           unfold bookV idV Itm.v at HG
           have a0 : X2.cell? ⟨ge, 0, none⟩ = some (.int .i64 0) := He17.out.cell 0
           have a1 : X2.cell? ⟨ge, 1, none⟩ = some (.slice pi ni ci) := He17.out.cell 1
           have a2 : X2.cell? ⟨ge, 2, none⟩ = some (.slice none 0 0) := He17.out.cell 2
           have i0 : X2.cell? ⟨gl, 0, none⟩ = some (.int .i64 l.s) := Hil17.out.cell 0
           have i1 : X2.cell? ⟨gl, 1, none⟩ = some (.int .i64 l.n) := Hil17.out.cell 1
           go_wp2_with fail
           clear a0 a1 a2 i0 i1
           refine HG.out.mono ?_
           rintro y9 w8 ⟨rfl, hb⟩
           clear HG
           have Hp18 := kbq Hp17 hb
           have Hb18 := kbq Hb17 hb
           have Hd18 := kbq Hd17 hb
           have He18 := kbq He17 hb
           have His18 := kbq His17 hb
           have Hil18 := kbq Hil17 hb
           have Qx18 := Lib.hid (Qx17.out.kept hb)
           have Qv18 := Lib.hid (Qv17.out.kept hb)
           have Qs18 := Lib.hid (Qs17.out.kept hb)
           have Qj18 := Lib.hid (Qj17.out.kept hb)
           have Ql18 := Lib.hid (Ql17.out.kept hb)
           have Qi18 := Lib.hid (Qi17.out.kept hb)
           have HB18 := ktq HB17 hb
           have HZ18 := kzq HZ17 hb.size
           clear Hp17 Hb17 Hd17 He17 His17 Hil17 Qx17 Qv17 Qs17 Qj17 Ql17 Qi17 HB17 HZ17
           clear hb
           have hba := oneB w8 (.cells #[.int .i64 qi.s, .int .i64 qi.n, .int .i64 qi.b, .int .i64 qi.c, .int .i64 qi.a, .int .i64 qi.r, .int .i64 qi.t, .int .i64 qi.y] 54)
           have Hp19 := kbq Hp18 hba
           have Hb19 := kbq Hb18 hba
           have Hd19 := kbq Hd18 hba
           have He19 := kbq He18 hba
           have His19 := kbq His18 hba
           have Hil19 := kbq Hil18 hba
           have Qx19 := Lib.hid (Qx18.out.kept hba)
           have Qv19 := Lib.hid (Qv18.out.kept hba)
           have Qs19 := Lib.hid (Qs18.out.kept hba)
           have Qj19 := Lib.hid (Qj18.out.kept hba)
           have Ql19 := Lib.hid (Ql18.out.kept hba)
           have Qi19 := Lib.hid (Qi18.out.kept hba)
           have Hiq19 := Lib.hid (Blk.new w8 #[.int .i64 qi.s, .int .i64 qi.n, .int .i64 qi.b, .int .i64 qi.c, .int .i64 qi.a, .int .i64 qi.r, .int .i64 qi.t, .int .i64 qi.y] 54)
           have HB19 := Lib.hid (HB18.out.alloc HB18.out.size (.cells #[.int .i64 qi.s, .int .i64 qi.n, .int .i64 qi.b, .int .i64 qi.c, .int .i64 qi.a, .int .i64 qi.r, .int .i64 qi.t, .int .i64 qi.y] 54))
           have HZ19 := kzq HZ18 hba.size
           have HGgq : Hid (w.heap.size ≤ w8.heap.size) := Lib.hid HB18.out.size
           clear hba Hp18 Hb18 Hd18 He18 His18 Hil18 Qx18 Qv18 Qs18 Qj18 Ql18 Qi18 HB18 HZ18
           go_upto_region 28 with fail
           generalize (w8.alloc (.cells #[.int .i64 qi.s, .int .i64 qi.n, .int .i64 qi.b, .int .i64 qi.c, .int .i64 qi.a, .int .i64 qi.r, .int .i64 qi.t, .int .i64 qi.y] 54)) = X3 at *
           generalize hggq : w8.heap.size = gq at *
           clear hggq
           clear HGgq
           have hqa : (qi.t != 3) = false := by rw [HQT.out.1]; rfl
           have hqb : (qi.y != 0) = false := by rw [HQT.out.2]; rfl
           have e1 : X3.cell? ⟨gs, 1, none⟩ = some (.int .i64 z1.x.m.k) := His19.out.cell 1
           have f6 : X3.cell? ⟨gq, 6, none⟩ = some (.int .i64 qi.t) := Hiq19.out.cell 6
           have f7 : X3.cell? ⟨gq, 7, none⟩ = some (.int .i64 qi.y) := Hiq19.out.cell 7
           have HNJ := Lib.hid Qi19.out
           cases hkk : (z1.x.m.k == 11)
           all_goals
            go_wp2_with fail
            go_roundw
            case rel => exact ⟨r + 1, by omega, by go_num, HNJ⟩
            case measure => simp [intOf]; omega
          ·skip
           have hlrI : ¬ (r : Int) < (z1.x.m.ls.length : Int) := by omega
           have e0 : wr.cell? ⟨gs, 0, none⟩ = some (.int .i64 z1.tw) := His16.out.cell 0
           have e7 : wr.cell? ⟨gs, 7, none⟩ = some (.int .i64 z1.x.m.y) := His16.out.cell 7
           have f7 : wr.cell? ⟨gd, 7, none⟩ = some (.int .i64 z.x.m.y) := Hd16.out.cell 7
           rw [HS1.out.1] at e0
           rw [HS1.out.2.1] at e7
           have hne : (z.x.m.y != z.x.m.y) = false := by simp
           have HNJ := Lib.hid Qj16.out
           go_wp2_with fail
           go_roundw
           case rel => exact ⟨q + 1, by omega, by go_num, HNJ⟩
           case measure => simp [intOf]; omega
        ·skip
         have hlqI : ¬ (q : Int) < (nv5 : Int) := by omega
         have HNX9 : Hid (Blk wr gp #[.int .i64 0, .int .i64 3, .slice p5 n5 c5] 36 ∧ Blk wr gb #[.int .i64 0, .slice pi5 ni5 ci5, .slice none 0 0] 28 ∧ Vt (NotIn [gb, gp]) wr 0 p5 n5 c5 pi5 ni5 ci5 ps5 xs5 ∧ Below w.heap.size w wr) := ⟨Hp14.out, Hb14.out, Qv14.out, HB14.out⟩
         have HLN9 : Hid (ps5.length ≤ k + 1 ∧ xs5.length ≤ 40) := Lib.hid ⟨by have h1 := HPL.out; have h2 := HLN.out.1; omega, by have h1 := HXL.out; have h2 := HLN.out.2; omega⟩
         go_wp2_with fail
         go_roundw
         case rel => exact ⟨k + 1, p5, n5, c5, pi5, ni5, ci5, ps5, xs5, by omega, by go_num, HLN9, HNX9⟩
         case measure => simp [intOf]; omega
      ·skip
       have heb : (e5 != 0) = true := by simpa using he
       clear he
       have HNX9 : Hid (Blk WI gp #[.int .i64 0, .int .i64 3, .slice p5 n5 c5] 36 ∧ Blk WI gb #[.int .i64 0, .slice pi5 ni5 ci5, .slice none 0 0] 28 ∧ Vt (NotIn [gb, gp]) WI 0 p5 n5 c5 pi5 ni5 ci5 ps5 xs5 ∧ Below w.heap.size w WI) := ⟨Hp13.out, Hb13.out, Qv13.out, HB13.out⟩
       have HLN9 : Hid (ps5.length ≤ k + 1 ∧ xs5.length ≤ 40) := Lib.hid ⟨by have h1 := HPL.out; have h2 := HLN.out.1; omega, by have h1 := HXL.out; have h2 := HLN.out.2; omega⟩
       go_wp2_with fail
       go_roundw
       case rel => exact ⟨k + 1, p5, n5, c5, pi5, ni5, ci5, ps5, xs5, by omega, by go_num, HLN9, HNX9⟩
       case measure => simp [intOf]; omega
   ·skip
    have hltI : ¬ (k : Int) < (n2 : Int) := by omega
    go_upto_region 35 with fail
    clear hltI
    have hbd := (Below.refl wr.heap.size wr).drew
    have Hp6 := kbq Hp5 hbd
    have Hb6 := kbq Hb5 hbd
    have Qv6 := Lib.hid (Qv5.out.kept hbd)
    have HB6 := ktq HB5 hbd
    have HZ6 := kzq HZ5 hbd.size
    clear Hp5 Hb5 Qv5 HB5 HZ5
    refine wp_region_held_drew (S := fun w' => w'.cell? ⟨gp, 0, none⟩ = some (.int .i64 0) ∧ w'.cell? ⟨gp, 1, none⟩ = some (.int .i64 3) ∧ w'.cell? ⟨gp, 2, none⟩ = some (.slice p n c)) (by kernel_rfl) ⟨Hp6.out.cell 0, Hp6.out.cell 1, Hp6.out.cell 2⟩ (fun hS0 => ?_)
    generalize wr.drew = WE at *
    clear hbd
    refine tkq 0 ?_
    refine tkq 3 ?_
    refine tkq 4 ?_
    refine tkq 5 ?_
    refine rdq 1 (fun K hK => ?_)
    have HG := Lib.hid (vwaits_any WE 0 3 p n c ps Qv6.out.pts.row Qv6.out.np (by have h1 := Qv6.out.np; have h2 := HLN.out.1; omega))
    go_simp
    go_at_call 13
    refine HG.out.mono ?_
    rintro y9 w6 ⟨pw, nw, cw, rfl, hnw, hb⟩
    clear HG
    have hle := waitL_len ps
    have hle2 : (nw : Int) ≤ (n : Int) := by have h1 := Qv6.out.np; omega
    clear hnw hle
    have Hp7 := kbq Hp6 hb
    have Hb7 := kbq Hb6 hb
    have Qv7 := Lib.hid (Qv6.out.kept hb)
    have HB7 := ktq HB6 hb
    have HZ7 := kzq HZ6 hb.size
    clear Hp6 Hb6 Qv6 HB6 HZ6
    clear hb hS0
    try go_wp2_with fail
    refine hK.out _ _ ⟨Hp7.out.cell 0, Hp7.out.cell 1, Hp7.out.cell 2⟩ (fun hS0 => ?_)
    clear hK K
    try simp only [Act.put, List.getElem_toArray, List.getElem_cons_succ, List.getElem_cons_zero, List.setIfInBounds_toArray, List.set_cons_zero, List.set_cons_succ]
    refine tkq 2 ?_
    refine tkq 6 ?_
    refine tkq 7 ?_
    refine tkq 8 ?_
    refine tkq 9 ?_
    refine wpAnyH_done (by kernel_rfl) ?_ _
    clear hS0
    go_wp2_with fail
    go_ret
    exact ⟨rfl, HB7.out⟩
end Go.Proofs.Ytmhocihajobkkaa
namespace Go.Proofs.Ytmhocihajobkkaa
open Go.ChangeShapes Go.WideShapes Go.ChangeAt Go.RowKit
theorem item_read {H : Type} {enc : TypeId × Value → H} {P : Program} {w : World} {base : Nat} {held : Bool} {t : TypeId} {g f0 f1 f2 f3 f4 f5 f6 f7 : Field}
  (ht : P.underlying t = some (.struct #[g, f2, f3, f4, f5, f6, f7])) (hg : P.underlying g.type = some (.struct #[f0, f1]))
  (og : g.offset = 0) (o0 : f0.offset = 0) (o1 : f1.offset = 1) (o2 : f2.offset = 2) (o3 : f3.offset = 3) (o4 : f4.offset = 4) (o5 : f5.offset = 5) (o6 : f6.offset = 6) (o7 : f7.offset = 7)
  (u0 : P.underlying f0.type = some (.int .i64)) (u1 : P.underlying f1.type = some (.int .i64)) (u2 : P.underlying f2.type = some (.int .i64)) (u3 : P.underlying f3.type = some (.int .i64)) (u4 : P.underlying f4.type = some (.int .i64)) (u5 : P.underlying f5.type = some (.int .i64)) (u6 : P.underlying f6.type = some (.int .i64)) (u7 : P.underlying f7.type = some (.int .i64))
  (cc : P.cellsOf g.type = 2 ∧ P.cellsOf f0.type = 1 ∧ P.cellsOf f1.type = 1 ∧ P.cellsOf f2.type = 1 ∧ P.cellsOf f3.type = 1 ∧ P.cellsOf f4.type = 1 ∧ P.cellsOf f5.type = 1 ∧ P.cellsOf f6.type = 1 ∧ P.cellsOf f7.type = 1)
  (fuel : Nat) (cs : List Value) (y : DataW H × List MemPlace) (hl : cs.length = 8) (hf : DataW.trod enc P w base (fun _ => true) held fuel t cs = some y) : ∃ x : Itm, cs = x.cells ∧ True := by
 obtain ⟨cg, c0, c1, c2, c3, c4, c5, c6, c7⟩ := cc
 match cs, hl with
 | [v0, v1, v2, v3, v4, v5, v6, v7], _ =>
  obtain ⟨xs, k, hk, hxy, _, hxl, hf⟩ := DataW.trod_struct ht hf
  match xs, hxl with
  | [yg, y2, y3, y4, y5, y6, y7], _ =>
   have gg := hf 0 g rfl
   have g2 := hf 1 f2 rfl
   have g3 := hf 2 f3 rfl
   have g4 := hf 3 f4 rfl
   have g5 := hf 4 f5 rfl
   have g6 := hf 5 f6 rfl
   have g7 := hf 6 f7 rfl
   simp [og, o2, o3, o4, o5, o6, o7, cg, c2, c3, c4, c5, c6, c7] at gg g2 g3 g4 g5 g6 g7
   obtain ⟨xs', k', hk', hxy', _, hxl', hf'⟩ := DataW.trod_struct hg gg
   match xs', hxl' with
   | [y0, y1], _ =>
    have g0 := hf' 0 f0 rfl
    have g1 := hf' 1 f1 rfl
    simp [o0, o1, c0, c1] at g0 g1
    obtain ⟨z0, q0, _, _⟩ := DataW.trod_int u0 g0
    obtain ⟨z1, q1, _, _⟩ := DataW.trod_int u1 g1
    obtain ⟨z2, q2, _, _⟩ := DataW.trod_int u2 g2
    obtain ⟨z3, q3, _, _⟩ := DataW.trod_int u3 g3
    obtain ⟨z4, q4, _, _⟩ := DataW.trod_int u4 g4
    obtain ⟨z5, q5, _, _⟩ := DataW.trod_int u5 g5
    obtain ⟨z6, q6, _, _⟩ := DataW.trod_int u6 g6
    obtain ⟨z7, q7, _, _⟩ := DataW.trod_int u7 g7
    simp at q0 q1 q2 q3 q4 q5 q6 q7
    subst q0 q1 q2 q3 q4 q5 q6 q7
    exact ⟨⟨z0, z1, z2, z3, z4, z5, z6, z7⟩, rfl, trivial⟩
end Go.Proofs.Ytmhocihajobkkaa
namespace Go.Proofs.Ytmhocihajobkkaa
open Go.ChangeShapes Go.WideShapes Go.ChangeAt Go.RowKit
section
variable {H : Type} {enc : TypeId × Value → H} {P : Program} {w : World} {base : Nat} {held : Bool}
theorem wd_readI {t tm : TypeId} {f0 fm : Field} (ht : P.underlying t = some (.struct #[f0, fm])) (o0 : f0.offset = 0) (om : fm.offset = 1)
  (u0 : P.underlying f0.type = some (.int .i64)) (tm' : fm.type = tm) (cc : P.cellsOf f0.type = 1 ∧ P.cellsOf tm = 11)
  (rd : ∀ (fuel : Nat) (cs : List Value) (y : DataW H × List MemPlace), cs.length = 11 → DataW.trod enc P w base (fun _ => true) held fuel tm cs = some y → ∃ x : MsgX, cs = x.cells ∧ x.In w)
  (fuel : Nat) (cs : List Value) (y : DataW H × List MemPlace) (hl : cs.length = 12) (hf : DataW.trod enc P w base (fun _ => true) held fuel t cs = some y) : ∃ x : SdX, cs = x.cells ∧ x.x.In w := by
 obtain ⟨c0, cm⟩ := cc
 match cs, hl with
 | v0 :: ms, hl =>
  have hml : ms.length = 11 := by simpa using hl
  obtain ⟨xs, k, hk, hxy, _, hxl, hf⟩ := DataW.trod_struct ht hf
  match xs, hxl with
  | [y0, ym], _ =>
   have g0 := hf 0 f0 rfl
   have gm := hf 1 fm rfl
   subst tm'
   simp [o0, om, c0, cm] at g0 gm
   rw [List.take_of_length_le (by omega)] at gm
   obtain ⟨z0, q0, _, w0⟩ := DataW.trod_int u0 g0
   simp at q0
   obtain ⟨x, rfl, hin⟩ := rd _ _ _ hml gm
   subst q0
   exact ⟨⟨z0, x⟩, rfl, hin⟩
end
end Go.Proofs.Ytmhocihajobkkaa
