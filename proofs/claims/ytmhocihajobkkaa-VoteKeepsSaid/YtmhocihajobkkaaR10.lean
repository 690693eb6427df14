/- VoteKeeps: its walk. Slices of items: from what a reading tells of them to rows. A word of a law, read, with what its lists hold. -/
import Derived.Test.YtmhocihajobkkaaR9
import Derived.Test.YtmhocihajobkkaaR1
import Derived.Test.YtmhocihajobkkaaR3
namespace Go.Proofs.Ytmhocihajobkkaa
open Go.RowKit
set_option linter.unusedSimpArgs false
set_option linter.unusedSimpArgs false in
set_option maxHeartbeats 4000000 in
set_option maxRecDepth 100000 in
theorem keeps_walk (vi : Value) (its : List Itm) (vw : Value) (ws : List SdX) (yes : Bool) (w : World) (hi : TRow encI w vi its) (hw : TRow encS w vw ws) (hin : ∀ z ∈ ws, z.x.In w) : Calls Try.prog 3 #[vi, vw, .bool yes] w fun e w' => e = .returned (.bool true) ∧ Below w.heap.size w w' := by
 obtain ⟨p1, c1, rfl⟩ := hi.shape
 obtain ⟨p2, c2, rfl⟩ := hw.shape
 have HVT := Lib.hid (fun W => votes_any W)
 have HFT := Lib.hid (fun W (h : Below w.heap.size w W) => vfits_any W _ _ its ws (hi.kept h) (hw.kept h))
 have HI := Lib.hid hi
 have HW := Lib.hid hw
 have HIN := Lib.hid hin
 clear hi hw hin
 go_enter Try.func3, Try.ntmps3
 go_wp2_with fail
 refine (HVT.out w).mono ?_
 rintro y9 W ⟨rfl, hb⟩
 clear HVT
 have HB0 := Lib.hid hb
 have HZ0 : Hid (w.heap.size ≤ W.heap.size) := Lib.hid hb.size
 clear hb
 go_wp2_with fail
 refine (HFT.out W HB0.out).mono ?_
 rintro y9 W1 ⟨rfl, hb⟩
 clear HFT
 have HB1 := ktq HB0 hb
 have HZ1 := kzq HZ0 hb.size
 clear HB0 HZ0
 clear hb
 cases hf : fitsW its ws
 ·go_wp2_with fail
  go_ret
  exact ⟨rfl, HB1.out⟩
 ·skip
  have HFW := Lib.hid (fitsW_ok hf)
  clear hf
  generalize hl1 : its.length = n1 at *
  generalize hl2 : ws.length = n2 at *
  have HL1 : Hid (its.length = n1) := Lib.hid hl1
  have HL2 : Hid (ws.length = n2) := Lib.hid hl2
  clear hl1 hl2
  have HG := Lib.hid (filled_any W1 _ its (HI.out.kept HB1.out) (by have h1 := HFW.out.1; have h2 := HL1.out; omega))
  go_wp2_with fail
  refine HG.out.mono ?_
  rintro y9 w2 ⟨hb, pi, ni, ci, pd, nd, cd, rfl, hx, hnx, -, -⟩
  clear HG
  have hgd := foldX_good (l := its) (goodB_nil 0)
  have HGD := Lib.hid hgd
  have Qx2 := Lib.hid (hx.imp (R := fun b => b < w2.heap.size) (fun b h _ => h))
  have HNX := Lib.hid hnx
  clear hx hnx hgd
  have HB2 := ktq HB1 hb
  have HZ2 := kzq HZ1 hb.size
  clear HB1 HZ1
  clear hb
  have hba : Below w2.heap.size w2 ((w2.alloc (.cells #[.int .i64 0, .slice pi ni ci, .slice none 0 0] 28)).alloc (.cells #[.int .i64 0, .int .i64 0, .slice pd nd cd, .slice none 0 0] 31)) := (oneB w2 (.cells #[.int .i64 0, .slice pi ni ci, .slice none 0 0] 28)).alloc (by simp) _
  have Qx3 := Lib.hid (Qx2.out.kept hba)
  have Hb3 : Hid (Blk ((w2.alloc (.cells #[.int .i64 0, .slice pi ni ci, .slice none 0 0] 28)).alloc (.cells #[.int .i64 0, .int .i64 0, .slice pd nd cd, .slice none 0 0] 31)) w2.heap.size #[.int .i64 0, .slice pi ni ci, .slice none 0 0] 28) := Lib.hid ((Blk.new w2 #[.int .i64 0, .slice pi ni ci, .slice none 0 0] 28).alloc _)
  have HB3 := ktq HB2 hba
  have HZ3 : Hid (w.heap.size ≤ ((w2.alloc (.cells #[.int .i64 0, .slice pi ni ci, .slice none 0 0] 28)).alloc (.cells #[.int .i64 0, .int .i64 0, .slice pd nd cd, .slice none 0 0] 31)).heap.size) := Lib.hid HB3.out.size
  have HGB : Hid (w2.heap.size < ((w2.alloc (.cells #[.int .i64 0, .slice pi ni ci, .slice none 0 0] 28)).alloc (.cells #[.int .i64 0, .int .i64 0, .slice pd nd cd, .slice none 0 0] 31)).heap.size ∧ w.heap.size ≤ w2.heap.size) := Lib.hid ⟨Hb3.out.lt, HB2.out.size⟩
  clear hba Qx2 HB2 HZ2
  go_upto_region 6 with fail
  generalize ((w2.alloc (.cells #[.int .i64 0, .slice pi ni ci, .slice none 0 0] 28)).alloc (.cells #[.int .i64 0, .int .i64 0, .slice pd nd cd, .slice none 0 0] 31)) = W2 at *
  generalize hgb : w2.heap.size = gb at *
  clear hgb
  have hba := oneB W2 (.cells #[.int .i64 0, .int .i64 3, .slice none 0 0] 36)
  have Hb4 := kbq Hb3 hba
  have Qx4 := Lib.hid (Qx3.out.kept hba)
  have Hp4 := Lib.hid (Blk.new W2 #[.int .i64 0, .int .i64 3, .slice none 0 0] 36)
  have HB4 := Lib.hid (HB3.out.alloc HB3.out.size (.cells #[.int .i64 0, .int .i64 3, .slice none 0 0] 36))
  have HZ4 := kzq HZ3 hba.size
  have HGgp : Hid (w.heap.size ≤ W2.heap.size) := Lib.hid HB3.out.size
  clear hba Hb3 Qx3 HB3 HZ3
  go_upto_region 7 with fail
  generalize (W2.alloc (.cells #[.int .i64 0, .int .i64 3, .slice none 0 0] 36)) = W3 at *
  generalize hggp : W2.heap.size = gp at *
  clear hggp
  have Qv4 : Hid (Vt (NotIn [gb, gp]) W3 0 none 0 0 pi ni ci [] (foldX 0 [] its)) := Lib.hid (Vt.mk (PtsR.nil_ _ _) (Qx4.out.imp (fun b _ h hm => by have h2 := HGB.out; simp only [List.mem_cons, List.not_mem_nil, or_false] at hm; omega)) HGD.out rfl HNX.out (fun _ h => by cases h))
  clear Qx4 HGgp
  have HX40 : Hid ((foldX 0 [] its).length ≤ 40) := by show _ ≤ _; have h1 := foldX_len (l := its) (goodB_nil 0); have h2 := HFW.out.1; have h3 := HL1.out; rw [List.length_nil] at h1; omega
  obtain ⟨X, hX⟩ : ∃ X, foldX 0 [] its = X := ⟨_, rfl⟩
  rw [hX] at HX40 HGD Qv4 HNX
  clear hX
  have HLO : Hid ((offerL X mKA).length ≤ 40) := by show _ ≤ _; have h1 := (offer_sub X mKA).length_le; have h2 := HX40.out; omega
  obtain ⟨L, hL⟩ : ∃ L, offerL X mKA = L := ⟨_, rfl⟩
  have HSB : Hid (L.Sublist X) := by show L.Sublist X; rw [← hL]; exact offer_sub X mKA
  have HK1 := Lib.hid (fun (ps2 : List PtX) (xs2 : List Itm) (out : List SdX) (e : Int) (h : VoteG 0 3 [] X mKA 3 ps2 xs2 out e) => keeps1 HGD.out h)
  rw [hL] at HK1 HLO
  clear hL
  obtain ⟨LS, hLS⟩ : ∃ LS, L.map lineOf = LS := ⟨_, rfl⟩
  have HLS := Lib.hid hLS
  rw [hLS] at HK1
  clear hLS
  have HLK : Hid (∀ l ∈ LS, LineK l) := by show ∀ l ∈ LS, LineK l; rw [← HLS.out]; exact line_k HGD.out HSB.out
  have HLL : Hid (LS.length ≤ 40) := by show _ ≤ _; rw [← HLS.out, List.length_map]; exact HLO.out
  have HG := Lib.hid (vdo_q W3 (NotIn [gb, gp]) 0 3 0 none 0 0 pi ni ci none 0 0 [] X (sayX 10 77 false) (3) Qv4.out (fun b hb hm => by have h1 := Hp4.out.lt; have h2 := HGB.out; simp only [List.mem_cons, List.not_mem_nil, or_false] at hm; omega) (by decide) (by have h1 := HX40.out; omega) (sayX_in _ _ _ _ (by decide) (by decide)) (by decide) (by decide))
  unfold sayX Msg.v at HG
  have a0 : W3.cell? ⟨gp, 0, none⟩ = some (.int .i64 0) := Hp4.out.cell 0
  have a1 : W3.cell? ⟨gp, 1, none⟩ = some (.int .i64 3) := Hp4.out.cell 1
  have a2 : W3.cell? ⟨gp, 2, none⟩ = some (.slice none 0 0) := Hp4.out.cell 2
  have b0 : W3.cell? ⟨gb, 0, none⟩ = some (.int .i64 0) := Hb4.out.cell 0
  have b1 : W3.cell? ⟨gb, 1, none⟩ = some (.slice pi ni ci) := Hb4.out.cell 1
  have b2 : W3.cell? ⟨gb, 2, none⟩ = some (.slice none 0 0) := Hb4.out.cell 2
  go_wp2_with fail
  clear a0 a1 a2 b0 b1 b2 
  refine HG.out.mono ?_
  rintro y9 w5 ⟨hb, p5, n5, c5, pi5, ni5, ci5, pv5, nv5, cv5, ps5, xs5, out5, e5, rfl, hv, hnv, hsd, hG⟩
  clear HG Qv4
  obtain ⟨rfl, rfl, hk1, lp, lc, rfl⟩ := HK1.out _ _ _ _ hG
  have HXL := Lib.hid (vote_items HGD.out hG).2.1
  have HXX := HX40
  clear hG
  have HKI := Lib.hid hk1
  have hn9 : nv5 = 1 := hnv
  clear hnv hk1
  subst hn9
  have Hb5 := kbq Hb4 hb
  have Hp5 := kbq Hp4 hb
  have HB5 := ktq HB4 hb
  have HZ5 := kzq HZ4 hb.size
  clear Hb4 Hp4 HB4 HZ4
  clear hb
  have Qv5 := Lib.hid hv
  have Qs5 := Lib.hid hsd
  clear hv hsd
  go_wp2_with (with_reducible refine stop_storeT 36 (.tmp 10) (.tmp 47) rfl ?_)
  have HTH : Hid (w5.there gp 0 3) := Hp5.out.thereAt
  have hch : Hid (Chg gp w5 (w5.setCells gp 0 (#[.int .i64 0, .int .i64 3, .slice p5 n5 c5] : Array Value).toList)) := Lib.hid (chg_putL _ _ _ _ _ (Chg.refl _ w5))
  have Hp6 : Hid (Blk (w5.setCells gp 0 (#[.int .i64 0, .int .i64 3, .slice p5 n5 c5] : Array Value).toList) gp #[.int .i64 0, .int .i64 3, .slice p5 n5 c5] 36) := Lib.hid (blk_put_all Hp5.out _ rfl)
  have HB6 : Hid (Below w.heap.size w (w5.setCells gp 0 (#[.int .i64 0, .int .i64 3, .slice p5 n5 c5] : Array Value).toList)) := Lib.hid (below_put (by have h9 := HGB.out; omega) _ _ _ _ HB5.out)
  have HZ6 := kzq HZ5 hch.out.size
  have Hb6 := kcq Hb5 hch (by have h9 := HGB.out; omega)
  have Qv6 := Lib.hid (Qv5.out.chg hch.out (notIn_self (by simp)))
  have Qs6 := Lib.hid (Qs5.out.chg hch.out (notIn_self (by simp)))
  clear hch Hb5 Hp5 Qv5 Qs5 HB5 HZ5
  refine wpList_store_mid rfl 36 (.tmp 10) (.tmp 47) rfl gp 0 #[.int .i64 0, .int .i64 3, .slice p5 n5 c5] rfl rfl HTH.out (infoP3 rfl) (all_oneCell_toArray (by intro u hu; simp at hu; rcases hu with rfl | rfl | rfl <;> rfl)) ?_
  generalize (w5.setCells gp 0 (#[.int .i64 0, .int .i64 3, .slice p5 n5 c5] : Array Value).toList) = W5 at *
  clear HTH
  go_wp2_with (with_reducible refine stop_storeT 28 (.tmp 7) (.tmp 48) rfl ?_)
  have HTH : Hid (W5.there gb 0 3) := Hb6.out.thereAt
  have hch : Hid (Chg gb W5 (W5.setCells gb 0 (#[.int .i64 0, .slice pi5 ni5 ci5, .slice none 0 0] : Array Value).toList)) := Lib.hid (chg_putL _ _ _ _ _ (Chg.refl _ W5))
  have Hb7 : Hid (Blk (W5.setCells gb 0 (#[.int .i64 0, .slice pi5 ni5 ci5, .slice none 0 0] : Array Value).toList) gb #[.int .i64 0, .slice pi5 ni5 ci5, .slice none 0 0] 28) := Lib.hid (blk_put_all Hb6.out _ rfl)
  have HB7 : Hid (Below w.heap.size w (W5.setCells gb 0 (#[.int .i64 0, .slice pi5 ni5 ci5, .slice none 0 0] : Array Value).toList)) := Lib.hid (below_put (by have h9 := HGB.out; omega) _ _ _ _ HB6.out)
  have HZ7 := kzq HZ6 hch.out.size
  have Hp7 := kcq Hp6 hch (by have h9 := HGB.out; omega)
  have Qv7 := Lib.hid (Qv6.out.chg hch.out (notIn_self (by simp)))
  have Qs7 := Lib.hid (Qs6.out.chg hch.out (notIn_self (by simp)))
  clear hch Hb6 Hp6 Qv6 Qs6 HB6 HZ6
  refine wpList_store_mid rfl 28 (.tmp 7) (.tmp 48) rfl gb 0 #[.int .i64 0, .slice pi5 ni5 ci5, .slice none 0 0] rfl rfl HTH.out (infoB3 rfl) (all_oneCell_toArray (by intro u hu; simp at hu; rcases hu with rfl | rfl | rfl <;> rfl)) ?_
  generalize (W5.setCells gb 0 (#[.int .i64 0, .slice pi5 ni5 ci5, .slice none 0 0] : Array Value).toList) = W6 at *
  clear HTH
  obtain ⟨bo, oo, hpv, hsc⟩ := sd_one Qs7.out
  subst hpv
  have Qo7 := Lib.hid hsc
  clear hsc Qs7 HK1
  have e10 : W6.cell? ⟨bo, oo + 10, none⟩ = some (.slice lp LS.length lc) := Qo7.out.cell 10 (by decide)
  have Ql7 := Lib.hid Qo7.out.2
  have HLPN : Hid (LS.length = LS.length) := Lib.hid rfl
  clear HLPN
  clear HX40 HLO
  clear Qo7
  have hmk := make3
  have HGP9 : Hid (gp < W6.heap.size) := Lib.hid Hp7.out.lt
  have QV3 : Hid (Vt (NotIn [gb, gp, W6.heap.size]) (W6.alloc (.cells #[.int .i64 0, .int .i64 0, .int .i64 0] 2)) 0 p5 n5 c5 pi5 ni5 ci5 [⟨77, 0, 1, none, 0, []⟩] xs5) := Lib.hid ((Qv7.out.imp (fun b h hq hm => by
   simp only [List.mem_cons, List.not_mem_nil, or_false] at hm
   rcases hm with rfl | rfl | rfl
   ·exact hq (by simp)
   ·exact hq (by simp)
   ·omega)).kept (oneB W6 _))
  have QL3 : Hid (RwN encN (NotIn [gb, gp, W6.heap.size]) (W6.alloc (.cells #[.int .i64 0, .int .i64 0, .int .i64 0] 2)) (.slice lp LS.length lc) LS) := Lib.hid ((Ql7.out.imp (fun b h hq hm => by
   simp only [List.mem_cons, List.not_mem_nil, or_false] at hm
   rcases hm with rfl | rfl | rfl
   ·exact hq (by simp)
   ·exact hq (by simp)
   ·omega)).kept (oneB W6 _))
  clear Qv7 Ql7
  have hba := oneB W6 (.cells #[.int .i64 0, .int .i64 0, .int .i64 0] 2)
  have Hb8 := kbq Hb7 hba
  have Hp8 := kbq Hp7 hba
  have Hn8 := Lib.hid (Blk.new W6 #[.int .i64 0, .int .i64 0, .int .i64 0] 2)
  have HB8 := Lib.hid (HB7.out.alloc HB7.out.size (.cells #[.int .i64 0, .int .i64 0, .int .i64 0] 2))
  have HZ8 := kzq HZ7 hba.size
  have HGgn : Hid (w.heap.size ≤ W6.heap.size) := Lib.hid HB7.out.size
  clear hba Hb7 Hp7 HB7 HZ7
  go_upto_region 12 with fail
  clear e10 hmk
  generalize (W6.alloc (.cells #[.int .i64 0, .int .i64 0, .int .i64 0] 2)) = W7 at *
  generalize hggn : W6.heap.size = gn at *
  clear hggn
  have Qv8 := QV3
  have Ql8 := QL3
  have HGN : Hid (gb < gp ∧ gp < gn ∧ w.heap.size ≤ gb) := Lib.hid ⟨HGB.out.1, HGP9.out, HGB.out.2⟩
  clear QV3 QL3 HGP9 HGgn
  clear HGB
  have HREL : Hid (Blk W7 gp #[.int .i64 0, .int .i64 3, .slice p5 n5 c5] 36 ∧ Blk W7 gb #[.int .i64 0, .slice pi5 ni5 ci5, .slice none 0 0] 28 ∧ Blk W7 gn #[.int .i64 0, .int .i64 0, .int .i64 0] 2 ∧ Vt (NotIn [gb, gp, gn]) W7 0 p5 n5 c5 pi5 ni5 ci5 [⟨77, 0, 1, none, 0, []⟩] xs5 ∧ RwN encN (NotIn [gb, gp, gn]) W7 (.slice lp LS.length lc) LS ∧ Below w.heap.size w W7) := ⟨Hp8.out, Hb8.out, Hn8.out, Qv8.out, Ql8.out, HB8.out⟩
  clear Hb8 Hp8 Hn8 Qv8 Ql8 HB8 HZ8
  have HZR : Hid ((0 : Int) = netS 0 (LS.take 0) ∧ (0 : Int) = netS 1 (LS.take 0) ∧ (0 : Int) = netS 2 (LS.take 0) ∧ ∀ l ∈ LS.take 0, l.s ≤ 2 ∧ l.b ≤ 2) := Lib.hid ⟨rfl, rfl, rfl, fun _ h => by cases h⟩
  go_upto_region 13 with fail
  go_loopw [66] (fun i wr => ∃ (k : Nat) (z0 z1 z2 : Int), k ≤ LS.length ∧ i = .int .i64 k ∧ Hid (z0 = netS 0 (LS.take k) ∧ z1 = netS 1 (LS.take k) ∧ z2 = netS 2 (LS.take k) ∧ ∀ l ∈ LS.take k, l.s ≤ 2 ∧ l.b ≤ 2) ∧ Hid (Blk wr gp #[.int .i64 0, .int .i64 3, .slice p5 n5 c5] 36 ∧ Blk wr gb #[.int .i64 0, .slice pi5 ni5 ci5, .slice none 0 0] 28 ∧ Blk wr gn #[.int .i64 z0, .int .i64 z1, .int .i64 z2] 2 ∧ Vt (NotIn [gb, gp, gn]) wr 0 p5 n5 c5 pi5 ni5 ci5 [⟨77, 0, 1, none, 0, []⟩] xs5 ∧ RwN encN (NotIn [gb, gp, gn]) wr (.slice lp LS.length lc) LS ∧ Below w.heap.size w wr)) (fun i _ => LS.length - (intOf i).toNat)
  case atStart => exact ⟨0, 0, 0, 0, by omega, rfl, HZR, HREL⟩
  case round =>
   clear HREL HZR
   obtain ⟨k, z0, z1, z2, hk, rfl, HZR, HK⟩ := hrel
   have Hp9 := Lib.hid HK.out.1
   have Hb9 := Lib.hid HK.out.2.1
   have Hn9 := Lib.hid HK.out.2.2.1
   have Qv9 := Lib.hid HK.out.2.2.2.1
   have Ql9 := Lib.hid HK.out.2.2.2.2.1
   have HB9 := Lib.hid HK.out.2.2.2.2.2
   have HZ9 : Hid (w.heap.size ≤ wr.heap.size) := Lib.hid HB9.out.size
   clear HK
   have hk9 : k + 1 ≤ 41 := by have h1 := HLL.out; omega
   by_cases hlt : k < LS.length
   ·skip
    have hltI : (k : Int) < (LS.length : Int) := by omega
    have HLM := Lib.hid (HLK.out _ (List.getElem_mem hlt))
    have HTK : Hid (LS.take (k + 1) = LS.take k ++ [LS[k]]) := Lib.hid (List.take_succ_eq_append_getElem hlt)
    have HST := Lib.hid (fun (me z d : Int) (h1 : z = netS me (LS.take k)) (h2 : (if mineB me LS[k] = true then gives me LS[k] else 0) = d) => net_step hlt h1 h2)
    obtain ⟨bz, oz, hpz, hbl, hcs⟩ := Ql9.out.1.at_ k hlt
    subst hpz
    obtain ⟨⟨vs, vn, vb, va⟩, hlk⟩ : ∃ l, LS[k] = l := ⟨_, rfl⟩
    rw [hlk] at HLM HTK HST hcs
    clear hlk
    have c0 : wr.cell? ⟨bz, oz + k * 4, none⟩ = some (.int .i64 vs) := hcs 0 (by decide)
    have c1 : wr.cell? ⟨bz, oz + k * 4 + 1, none⟩ = some (.int .i64 vn) := hcs 1 (by decide)
    have c2 : wr.cell? ⟨bz, oz + k * 4 + 2, none⟩ = some (.int .i64 vb) := hcs 2 (by decide)
    have c3 : wr.cell? ⟨bz, oz + k * 4 + 3, none⟩ = some (.int .i64 va) := hcs 3 (by decide)
    clear hcs hbl
    have HGI : Hid (gn < wr.heap.size) := Lib.hid Hn9.out.lt
    have hba := oneB wr (.cells #[.int .i64 vs, .int .i64 vn, .int .i64 vb, .int .i64 va] 50)
    have Hb10 := kbq Hb9 hba
    have Hp10 := kbq Hp9 hba
    have Hn10 := kbq Hn9 hba
    have Qv10 := Lib.hid (Qv9.out.kept hba)
    have Ql10 := Lib.hid (Ql9.out.kept hba)
    have Hi10 := Lib.hid (Blk.new wr #[.int .i64 vs, .int .i64 vn, .int .i64 vb, .int .i64 va] 50)
    have HB10 := Lib.hid (HB9.out.alloc HB9.out.size (.cells #[.int .i64 vs, .int .i64 vn, .int .i64 vb, .int .i64 va] 50))
    have HZ10 := kzq HZ9 hba.size
    have HGgi : Hid (w.heap.size ≤ wr.heap.size) := Lib.hid HB9.out.size
    clear hba Hb9 Hp9 Hn9 Qv9 Ql9 HB9 HZ9
    go_upto_region 15 with fail
    clear c0 c1 c2 c3
    generalize (wr.alloc (.cells #[.int .i64 vs, .int .i64 vn, .int .i64 vb, .int .i64 va] 50)) = X1 at *
    generalize hggi : wr.heap.size = gi at *
    clear hggi
    clear HGgi
    have e0 : X1.cell? ⟨gi, 0, none⟩ = some (.int .i64 vs) := Hi10.out.cell 0
    have e2 : X1.cell? ⟨gi, 2, none⟩ = some (.int .i64 vb) := Hi10.out.cell 2
    by_cases h2s : 2 < vs
    ·go_wp2_with fail
     go_ret
     exact ⟨rfl, HB10.out⟩
    by_cases h2b : 2 < vb
    ·go_wp2_with fail
     go_ret
     exact ⟨rfl, HB10.out⟩
    have HVB : Hid (vs ≤ 2 ∧ vb ≤ 2) := Lib.hid ⟨by omega, by omega⟩
    go_upto_region 17 with fail
    clear e0 e2 h2s h2b
    have HZB : Hid ((-45035996273704960 ≤ z0 ∧ z0 ≤ 45035996273704960) ∧ (-45035996273704960 ≤ z1 ∧ z1 ≤ 45035996273704960) ∧ (-45035996273704960 ≤ z2 ∧ z2 ≤ 45035996273704960)) := by
     have hs : ∀ me, -45035996273704960 ≤ netS me (LS.take k) ∧ netS me (LS.take k) ≤ 45035996273704960 := fun me => net_small (fun l hl => (HLK.out l ((List.take_sublist _ _).subset hl)).2.2.2.2.1) (by rw [List.length_take]; have := HLL.out; omega)
     refine Lib.hid ⟨?_, ?_, ?_⟩
     ·rw [HZR.out.1]; exact hs 0
     ·rw [HZR.out.2.1]; exact hs 1
     ·rw [HZR.out.2.2.1]; exact hs 2
    have hcases : (vs = 0 ∧ vb = 1) ∨ (vs = 0 ∧ vb = 2) ∨ (vs = 1 ∧ vb = 0) ∨ (vs = 2 ∧ vb = 0) := by have h1 := HLM.out; unfold LineK at h1; dsimp only at h1; have h2 := HVB.out; omega
    rcases hcases with ⟨rfl, rfl⟩ | ⟨rfl, rfl⟩ | ⟨rfl, rfl⟩ | ⟨rfl, rfl⟩
    ·skip
     have hw1 : IntKind.i64.wrap (z0 + va) = z0 + va := IntWalk.i64_in _ (by have h1 := HZB.out; have h2 := HLM.out.2.2.2.2.1; dsimp only at h2; omega)
     have hw2 : IntKind.i64.wrap (z1 - va) = z1 - va := IntWalk.i64_in _ (by have h1 := HZB.out; have h2 := HLM.out.2.2.2.2.1; dsimp only at h2; omega)
     have hbd := (Below.refl X1.heap.size X1).drew
     have Hb11 := kbq Hb10 hbd
     have Hp11 := kbq Hp10 hbd
     have Hn11 := kbq Hn10 hbd
     have Hi11 := kbq Hi10 hbd
     have Qv11 := Lib.hid (Qv10.out.kept hbd)
     have Ql11 := Lib.hid (Ql10.out.kept hbd)
     have HB11 := ktq HB10 hbd
     have HZ11 := kzq HZ10 hbd.size
     clear Hb10 Hp10 Hn10 Hi10 Qv10 Ql10 HB10 HZ10
     refine wp_region_held_drew (S := fun w' => w'.cell? ⟨gi, 0, none⟩ = some (.int .i64 0) ∧ w'.cell? ⟨gi, 1, none⟩ = some (.int .i64 vn) ∧ w'.cell? ⟨gi, 2, none⟩ = some (.int .i64 1) ∧ w'.cell? ⟨gi, 3, none⟩ = some (.int .i64 va)) (by kernel_rfl) ⟨Hi11.out.cell 0, Hi11.out.cell 1, Hi11.out.cell 2, Hi11.out.cell 3⟩ (fun hS0 => ?_)
     generalize X1.drew = WDa at *
     clear hbd
     refine tkq 0 ?_
     refine tkq 1 ?_
     refine tkq 2 ?_
     refine tkq 3 ?_
     refine tkq 4 ?_
     refine tkq 6 ?_
     refine tkq 7 ?_
     refine rdq 5 (fun K hK => ?_)
     have y0 : WDa.cell? ⟨gn, 0, none⟩ = some (.int .i64 z0) := Hn11.out.cell 0
     go_simp
     clear y0 hS0
     refine hK.out _ _ ⟨Hi11.out.cell 0, Hi11.out.cell 1, Hi11.out.cell 2, Hi11.out.cell 3⟩ (fun hS0 => ?_)
     clear hK K
     try simp only [Act.put, List.getElem_toArray, List.getElem_cons_succ, List.getElem_cons_zero, List.setIfInBounds_toArray, List.set_cons_zero, List.set_cons_succ]
     refine tkq 8 ?_
     refine tkq 9 ?_
     refine rdq 10 (fun K hK => ?_)
     have y0 : WDa.cell? ⟨gn, 0, none⟩ = some (.int .i64 z0) := Hn11.out.cell 0
     have f0 := Hn11.out.free 0
     go_simp
     clear y0 f0
     have hch := Lib.hid ((Chg.refl gn WDa).set 0 (.int .i64 (z0 + va)))
     have Hn12 : Hid (Blk _ gn #[.int .i64 (z0 + va), .int .i64 z1, .int .i64 z2] 2) := Lib.hid (Hn11.out.set 0 (.int .i64 (z0 + va)))
     have HB12 := ksq HB11 hch (by show w.heap.size ≤ gn; have h9 := HGN.out; have h8 := HGI.out; omega)
     have HZ12 := kzq HZ11 hch.out.size
     have Hb12 := kcq Hb11 hch (by have h9 := HGN.out; have h8 := HGI.out; omega)
     have Hp12 := kcq Hp11 hch (by have h9 := HGN.out; have h8 := HGI.out; omega)
     have Hi12 := kcq Hi11 hch (by have h9 := HGN.out; have h8 := HGI.out; omega)
     have Qv12 := Lib.hid (Qv11.out.chg hch.out (notIn_self (by simp)))
     have Ql12 := Lib.hid (Ql11.out.chg hch.out (notIn_self (by simp)))
     clear hch hS0 Hb11 Hp11 Hn11 Hi11 Qv11 Ql11 HB11 HZ11
     generalize (WDa.setCell ⟨gn, 0, none⟩ (.int .i64 (z0 + va))) = WSa at *
     refine hK.out _ _ ⟨Hi12.out.cell 0, Hi12.out.cell 1, Hi12.out.cell 2, Hi12.out.cell 3⟩ (fun hS0 => ?_)
     clear hK K
     try simp only [Act.put, List.getElem_toArray, List.getElem_cons_succ, List.getElem_cons_zero, List.setIfInBounds_toArray, List.set_cons_zero, List.set_cons_succ]
     refine wpAnyH_done (by kernel_rfl) ?_ _
     clear hS0
     go_upto_region 18 with fail
     have hbd := (Below.refl WSa.heap.size WSa).drew
     have Hb13 := kbq Hb12 hbd
     have Hp13 := kbq Hp12 hbd
     have Hn13 := kbq Hn12 hbd
     have Hi13 := kbq Hi12 hbd
     have Qv13 := Lib.hid (Qv12.out.kept hbd)
     have Ql13 := Lib.hid (Ql12.out.kept hbd)
     have HB13 := ktq HB12 hbd
     have HZ13 := kzq HZ12 hbd.size
     clear Hb12 Hp12 Hn12 Hi12 Qv12 Ql12 HB12 HZ12
     refine wp_region_held_drew (S := fun w' => w'.cell? ⟨gi, 0, none⟩ = some (.int .i64 0) ∧ w'.cell? ⟨gi, 1, none⟩ = some (.int .i64 vn) ∧ w'.cell? ⟨gi, 2, none⟩ = some (.int .i64 1) ∧ w'.cell? ⟨gi, 3, none⟩ = some (.int .i64 va)) (by kernel_rfl) ⟨Hi13.out.cell 0, Hi13.out.cell 1, Hi13.out.cell 2, Hi13.out.cell 3⟩ (fun hS0 => ?_)
     generalize WSa.drew = WDb at *
     clear hbd
     refine tkq 0 ?_
     refine tkq 1 ?_
     refine tkq 2 ?_
     refine tkq 3 ?_
     refine tkq 5 ?_
     refine tkq 6 ?_
     refine rdq 4 (fun K hK => ?_)
     have y0 : WDb.cell? ⟨gn, 1, none⟩ = some (.int .i64 z1) := Hn13.out.cell 1
     go_simp
     clear y0 hS0
     refine hK.out _ _ ⟨Hi13.out.cell 0, Hi13.out.cell 1, Hi13.out.cell 2, Hi13.out.cell 3⟩ (fun hS0 => ?_)
     clear hK K
     try simp only [Act.put, List.getElem_toArray, List.getElem_cons_succ, List.getElem_cons_zero, List.setIfInBounds_toArray, List.set_cons_zero, List.set_cons_succ]
     refine tkq 7 ?_
     refine tkq 8 ?_
     refine rdq 9 (fun K hK => ?_)
     have y0 : WDb.cell? ⟨gn, 1, none⟩ = some (.int .i64 z1) := Hn13.out.cell 1
     have f0 := Hn13.out.free 1
     go_simp
     clear y0 f0
     have hch := Lib.hid ((Chg.refl gn WDb).set 1 (.int .i64 (z1 - va)))
     have Hn14 : Hid (Blk _ gn #[.int .i64 (z0 + va), .int .i64 (z1 - va), .int .i64 z2] 2) := Lib.hid (Hn13.out.set 1 (.int .i64 (z1 - va)))
     have HB14 := ksq HB13 hch (by show w.heap.size ≤ gn; have h9 := HGN.out; have h8 := HGI.out; omega)
     have HZ14 := kzq HZ13 hch.out.size
     have Hb14 := kcq Hb13 hch (by have h9 := HGN.out; have h8 := HGI.out; omega)
     have Hp14 := kcq Hp13 hch (by have h9 := HGN.out; have h8 := HGI.out; omega)
     have Hi14 := kcq Hi13 hch (by have h9 := HGN.out; have h8 := HGI.out; omega)
     have Qv14 := Lib.hid (Qv13.out.chg hch.out (notIn_self (by simp)))
     have Ql14 := Lib.hid (Ql13.out.chg hch.out (notIn_self (by simp)))
     clear hch hS0 Hb13 Hp13 Hn13 Hi13 Qv13 Ql13 HB13 HZ13
     generalize (WDb.setCell ⟨gn, 1, none⟩ (.int .i64 (z1 - va))) = WSb at *
     refine hK.out _ _ ⟨Hi14.out.cell 0, Hi14.out.cell 1, Hi14.out.cell 2, Hi14.out.cell 3⟩ (fun hS0 => ?_)
     clear hK K
     try simp only [Act.put, List.getElem_toArray, List.getElem_cons_succ, List.getElem_cons_zero, List.setIfInBounds_toArray, List.set_cons_zero, List.set_cons_succ]
     refine wpAnyH_done (by kernel_rfl) ?_ _
     clear hS0
     clear Hi14
     have HZR2 : Hid ((z0 + va) = netS 0 (LS.take (k + 1)) ∧ (z1 - va) = netS 1 (LS.take (k + 1)) ∧ z2 = netS 2 (LS.take (k + 1)) ∧ ∀ l ∈ LS.take (k + 1), l.s ≤ 2 ∧ l.b ≤ 2) := Lib.hid ⟨(HST.out 0 z0 (va) HZR.out.1 (by unfold mineB gives; simp)), (by have h1 := (HST.out 1 z1 (-va) HZR.out.2.1 (by unfold mineB gives; simp)); rw [← h1]; omega), (by have h1 := (HST.out 2 z2 (0) HZR.out.2.2.1 (by unfold mineB gives; simp)); rw [← h1]; omega), fun l hl => by
      rw [HTK.out] at hl
      rcases List.mem_append.1 hl with h | h
      ·exact HZR.out.2.2.2 l h
      ·rw [List.mem_singleton.1 h]; exact HVB.out⟩
     have HNX : Hid (Blk WSb gp #[.int .i64 0, .int .i64 3, .slice p5 n5 c5] 36 ∧ Blk WSb gb #[.int .i64 0, .slice pi5 ni5 ci5, .slice none 0 0] 28 ∧ Blk WSb gn #[.int .i64 (z0 + va), .int .i64 (z1 - va), .int .i64 z2] 2 ∧ Vt (NotIn [gb, gp, gn]) WSb 0 p5 n5 c5 pi5 ni5 ci5 [⟨77, 0, 1, none, 0, []⟩] xs5 ∧ RwN encN (NotIn [gb, gp, gn]) WSb (.slice (some ⟨bz, oz, none⟩) LS.length lc) LS ∧ Below w.heap.size w WSb) := ⟨Hp14.out, Hb14.out, Hn14.out, Qv14.out, Ql14.out, HB14.out⟩
     clear Hb14 Hp14 Hn14 Qv14 Ql14 HB14 HZ14
     go_wp2_with fail
     go_roundw
     case rel => exact ⟨k + 1, _, _, _, by omega, by go_num, HZR2, HNX⟩
     case measure => simp [intOf]; omega
    ·skip
     have hw1 : IntKind.i64.wrap (z0 + va) = z0 + va := IntWalk.i64_in _ (by have h1 := HZB.out; have h2 := HLM.out.2.2.2.2.1; dsimp only at h2; omega)
     have hw2 : IntKind.i64.wrap (z2 - va) = z2 - va := IntWalk.i64_in _ (by have h1 := HZB.out; have h2 := HLM.out.2.2.2.2.1; dsimp only at h2; omega)
     have hbd := (Below.refl X1.heap.size X1).drew
     have Hb11 := kbq Hb10 hbd
     have Hp11 := kbq Hp10 hbd
     have Hn11 := kbq Hn10 hbd
     have Hi11 := kbq Hi10 hbd
     have Qv11 := Lib.hid (Qv10.out.kept hbd)
     have Ql11 := Lib.hid (Ql10.out.kept hbd)
     have HB11 := ktq HB10 hbd
     have HZ11 := kzq HZ10 hbd.size
     clear Hb10 Hp10 Hn10 Hi10 Qv10 Ql10 HB10 HZ10
     refine wp_region_held_drew (S := fun w' => w'.cell? ⟨gi, 0, none⟩ = some (.int .i64 0) ∧ w'.cell? ⟨gi, 1, none⟩ = some (.int .i64 vn) ∧ w'.cell? ⟨gi, 2, none⟩ = some (.int .i64 2) ∧ w'.cell? ⟨gi, 3, none⟩ = some (.int .i64 va)) (by kernel_rfl) ⟨Hi11.out.cell 0, Hi11.out.cell 1, Hi11.out.cell 2, Hi11.out.cell 3⟩ (fun hS0 => ?_)
     generalize X1.drew = WDa at *
     clear hbd
     refine tkq 0 ?_
     refine tkq 1 ?_
     refine tkq 2 ?_
     refine tkq 3 ?_
     refine tkq 4 ?_
     refine tkq 6 ?_
     refine tkq 7 ?_
     refine rdq 5 (fun K hK => ?_)
     have y0 : WDa.cell? ⟨gn, 0, none⟩ = some (.int .i64 z0) := Hn11.out.cell 0
     go_simp
     clear y0 hS0
     refine hK.out _ _ ⟨Hi11.out.cell 0, Hi11.out.cell 1, Hi11.out.cell 2, Hi11.out.cell 3⟩ (fun hS0 => ?_)
     clear hK K
     try simp only [Act.put, List.getElem_toArray, List.getElem_cons_succ, List.getElem_cons_zero, List.setIfInBounds_toArray, List.set_cons_zero, List.set_cons_succ]
     refine tkq 8 ?_
     refine tkq 9 ?_
     refine rdq 10 (fun K hK => ?_)
     have y0 : WDa.cell? ⟨gn, 0, none⟩ = some (.int .i64 z0) := Hn11.out.cell 0
     have f0 := Hn11.out.free 0
     go_simp
     clear y0 f0
     have hch := Lib.hid ((Chg.refl gn WDa).set 0 (.int .i64 (z0 + va)))
     have Hn12 : Hid (Blk _ gn #[.int .i64 (z0 + va), .int .i64 z1, .int .i64 z2] 2) := Lib.hid (Hn11.out.set 0 (.int .i64 (z0 + va)))
     have HB12 := ksq HB11 hch (by show w.heap.size ≤ gn; have h9 := HGN.out; have h8 := HGI.out; omega)
     have HZ12 := kzq HZ11 hch.out.size
     have Hb12 := kcq Hb11 hch (by have h9 := HGN.out; have h8 := HGI.out; omega)
     have Hp12 := kcq Hp11 hch (by have h9 := HGN.out; have h8 := HGI.out; omega)
     have Hi12 := kcq Hi11 hch (by have h9 := HGN.out; have h8 := HGI.out; omega)
     have Qv12 := Lib.hid (Qv11.out.chg hch.out (notIn_self (by simp)))
     have Ql12 := Lib.hid (Ql11.out.chg hch.out (notIn_self (by simp)))
     clear hch hS0 Hb11 Hp11 Hn11 Hi11 Qv11 Ql11 HB11 HZ11
     generalize (WDa.setCell ⟨gn, 0, none⟩ (.int .i64 (z0 + va))) = WSa at *
     refine hK.out _ _ ⟨Hi12.out.cell 0, Hi12.out.cell 1, Hi12.out.cell 2, Hi12.out.cell 3⟩ (fun hS0 => ?_)
     clear hK K
     try simp only [Act.put, List.getElem_toArray, List.getElem_cons_succ, List.getElem_cons_zero, List.setIfInBounds_toArray, List.set_cons_zero, List.set_cons_succ]
     refine wpAnyH_done (by kernel_rfl) ?_ _
     clear hS0
     go_upto_region 18 with fail
     have hbd := (Below.refl WSa.heap.size WSa).drew
     have Hb13 := kbq Hb12 hbd
     have Hp13 := kbq Hp12 hbd
     have Hn13 := kbq Hn12 hbd
     have Hi13 := kbq Hi12 hbd
     have Qv13 := Lib.hid (Qv12.out.kept hbd)
     have Ql13 := Lib.hid (Ql12.out.kept hbd)
     have HB13 := ktq HB12 hbd
     have HZ13 := kzq HZ12 hbd.size
     clear Hb12 Hp12 Hn12 Hi12 Qv12 Ql12 HB12 HZ12
     refine wp_region_held_drew (S := fun w' => w'.cell? ⟨gi, 0, none⟩ = some (.int .i64 0) ∧ w'.cell? ⟨gi, 1, none⟩ = some (.int .i64 vn) ∧ w'.cell? ⟨gi, 2, none⟩ = some (.int .i64 2) ∧ w'.cell? ⟨gi, 3, none⟩ = some (.int .i64 va)) (by kernel_rfl) ⟨Hi13.out.cell 0, Hi13.out.cell 1, Hi13.out.cell 2, Hi13.out.cell 3⟩ (fun hS0 => ?_)
     generalize WSa.drew = WDb at *
     clear hbd
     refine tkq 0 ?_
     refine tkq 1 ?_
     refine tkq 2 ?_
     refine tkq 3 ?_
     refine tkq 5 ?_
     refine tkq 6 ?_
     refine rdq 4 (fun K hK => ?_)
     have y0 : WDb.cell? ⟨gn, 2, none⟩ = some (.int .i64 z2) := Hn13.out.cell 2
     go_simp
     clear y0 hS0
     refine hK.out _ _ ⟨Hi13.out.cell 0, Hi13.out.cell 1, Hi13.out.cell 2, Hi13.out.cell 3⟩ (fun hS0 => ?_)
     clear hK K
     try simp only [Act.put, List.getElem_toArray, List.getElem_cons_succ, List.getElem_cons_zero, List.setIfInBounds_toArray, List.set_cons_zero, List.set_cons_succ]
     refine tkq 7 ?_
     refine tkq 8 ?_
     refine rdq 9 (fun K hK => ?_)
     have y0 : WDb.cell? ⟨gn, 2, none⟩ = some (.int .i64 z2) := Hn13.out.cell 2
     have f0 := Hn13.out.free 2
     go_simp
     clear y0 f0
     have hch := Lib.hid ((Chg.refl gn WDb).set 2 (.int .i64 (z2 - va)))
     have Hn14 : Hid (Blk _ gn #[.int .i64 (z0 + va), .int .i64 z1, .int .i64 (z2 - va)] 2) := Lib.hid (Hn13.out.set 2 (.int .i64 (z2 - va)))
     have HB14 := ksq HB13 hch (by show w.heap.size ≤ gn; have h9 := HGN.out; have h8 := HGI.out; omega)
     have HZ14 := kzq HZ13 hch.out.size
     have Hb14 := kcq Hb13 hch (by have h9 := HGN.out; have h8 := HGI.out; omega)
     have Hp14 := kcq Hp13 hch (by have h9 := HGN.out; have h8 := HGI.out; omega)
     have Hi14 := kcq Hi13 hch (by have h9 := HGN.out; have h8 := HGI.out; omega)
     have Qv14 := Lib.hid (Qv13.out.chg hch.out (notIn_self (by simp)))
     have Ql14 := Lib.hid (Ql13.out.chg hch.out (notIn_self (by simp)))
     clear hch hS0 Hb13 Hp13 Hn13 Hi13 Qv13 Ql13 HB13 HZ13
     generalize (WDb.setCell ⟨gn, 2, none⟩ (.int .i64 (z2 - va))) = WSb at *
     refine hK.out _ _ ⟨Hi14.out.cell 0, Hi14.out.cell 1, Hi14.out.cell 2, Hi14.out.cell 3⟩ (fun hS0 => ?_)
     clear hK K
     try simp only [Act.put, List.getElem_toArray, List.getElem_cons_succ, List.getElem_cons_zero, List.setIfInBounds_toArray, List.set_cons_zero, List.set_cons_succ]
     refine wpAnyH_done (by kernel_rfl) ?_ _
     clear hS0
     clear Hi14
     have HZR2 : Hid ((z0 + va) = netS 0 (LS.take (k + 1)) ∧ z1 = netS 1 (LS.take (k + 1)) ∧ (z2 - va) = netS 2 (LS.take (k + 1)) ∧ ∀ l ∈ LS.take (k + 1), l.s ≤ 2 ∧ l.b ≤ 2) := Lib.hid ⟨(HST.out 0 z0 (va) HZR.out.1 (by unfold mineB gives; simp)), (by have h1 := (HST.out 1 z1 (0) HZR.out.2.1 (by unfold mineB gives; simp)); rw [← h1]; omega), (by have h1 := (HST.out 2 z2 (-va) HZR.out.2.2.1 (by unfold mineB gives; simp)); rw [← h1]; omega), fun l hl => by
      rw [HTK.out] at hl
      rcases List.mem_append.1 hl with h | h
      ·exact HZR.out.2.2.2 l h
      ·rw [List.mem_singleton.1 h]; exact HVB.out⟩
     have HNX : Hid (Blk WSb gp #[.int .i64 0, .int .i64 3, .slice p5 n5 c5] 36 ∧ Blk WSb gb #[.int .i64 0, .slice pi5 ni5 ci5, .slice none 0 0] 28 ∧ Blk WSb gn #[.int .i64 (z0 + va), .int .i64 z1, .int .i64 (z2 - va)] 2 ∧ Vt (NotIn [gb, gp, gn]) WSb 0 p5 n5 c5 pi5 ni5 ci5 [⟨77, 0, 1, none, 0, []⟩] xs5 ∧ RwN encN (NotIn [gb, gp, gn]) WSb (.slice (some ⟨bz, oz, none⟩) LS.length lc) LS ∧ Below w.heap.size w WSb) := ⟨Hp14.out, Hb14.out, Hn14.out, Qv14.out, Ql14.out, HB14.out⟩
     clear Hb14 Hp14 Hn14 Qv14 Ql14 HB14 HZ14
     go_wp2_with fail
     go_roundw
     case rel => exact ⟨k + 1, _, _, _, by omega, by go_num, HZR2, HNX⟩
     case measure => simp [intOf]; omega
    ·skip
     have hw1 : IntKind.i64.wrap (z1 + va) = z1 + va := IntWalk.i64_in _ (by have h1 := HZB.out; have h2 := HLM.out.2.2.2.2.1; dsimp only at h2; omega)
     have hw2 : IntKind.i64.wrap (z0 - va) = z0 - va := IntWalk.i64_in _ (by have h1 := HZB.out; have h2 := HLM.out.2.2.2.2.1; dsimp only at h2; omega)
     have hbd := (Below.refl X1.heap.size X1).drew
     have Hb11 := kbq Hb10 hbd
     have Hp11 := kbq Hp10 hbd
     have Hn11 := kbq Hn10 hbd
     have Hi11 := kbq Hi10 hbd
     have Qv11 := Lib.hid (Qv10.out.kept hbd)
     have Ql11 := Lib.hid (Ql10.out.kept hbd)
     have HB11 := ktq HB10 hbd
     have HZ11 := kzq HZ10 hbd.size
     clear Hb10 Hp10 Hn10 Hi10 Qv10 Ql10 HB10 HZ10
     refine wp_region_held_drew (S := fun w' => w'.cell? ⟨gi, 0, none⟩ = some (.int .i64 1) ∧ w'.cell? ⟨gi, 1, none⟩ = some (.int .i64 vn) ∧ w'.cell? ⟨gi, 2, none⟩ = some (.int .i64 0) ∧ w'.cell? ⟨gi, 3, none⟩ = some (.int .i64 va)) (by kernel_rfl) ⟨Hi11.out.cell 0, Hi11.out.cell 1, Hi11.out.cell 2, Hi11.out.cell 3⟩ (fun hS0 => ?_)
     generalize X1.drew = WDa at *
     clear hbd
     refine tkq 0 ?_
     refine tkq 1 ?_
     refine tkq 2 ?_
     refine tkq 3 ?_
     refine tkq 4 ?_
     refine tkq 6 ?_
     refine tkq 7 ?_
     refine rdq 5 (fun K hK => ?_)
     have y0 : WDa.cell? ⟨gn, 1, none⟩ = some (.int .i64 z1) := Hn11.out.cell 1
     go_simp
     clear y0 hS0
     refine hK.out _ _ ⟨Hi11.out.cell 0, Hi11.out.cell 1, Hi11.out.cell 2, Hi11.out.cell 3⟩ (fun hS0 => ?_)
     clear hK K
     try simp only [Act.put, List.getElem_toArray, List.getElem_cons_succ, List.getElem_cons_zero, List.setIfInBounds_toArray, List.set_cons_zero, List.set_cons_succ]
     refine tkq 8 ?_
     refine tkq 9 ?_
     refine rdq 10 (fun K hK => ?_)
     have y0 : WDa.cell? ⟨gn, 1, none⟩ = some (.int .i64 z1) := Hn11.out.cell 1
     have f0 := Hn11.out.free 1
     go_simp
     clear y0 f0
     have hch := Lib.hid ((Chg.refl gn WDa).set 1 (.int .i64 (z1 + va)))
     have Hn12 : Hid (Blk _ gn #[.int .i64 z0, .int .i64 (z1 + va), .int .i64 z2] 2) := Lib.hid (Hn11.out.set 1 (.int .i64 (z1 + va)))
     have HB12 := ksq HB11 hch (by show w.heap.size ≤ gn; have h9 := HGN.out; have h8 := HGI.out; omega)
     have HZ12 := kzq HZ11 hch.out.size
     have Hb12 := kcq Hb11 hch (by have h9 := HGN.out; have h8 := HGI.out; omega)
     have Hp12 := kcq Hp11 hch (by have h9 := HGN.out; have h8 := HGI.out; omega)
     have Hi12 := kcq Hi11 hch (by have h9 := HGN.out; have h8 := HGI.out; omega)
     have Qv12 := Lib.hid (Qv11.out.chg hch.out (notIn_self (by simp)))
     have Ql12 := Lib.hid (Ql11.out.chg hch.out (notIn_self (by simp)))
     clear hch hS0 Hb11 Hp11 Hn11 Hi11 Qv11 Ql11 HB11 HZ11
     generalize (WDa.setCell ⟨gn, 1, none⟩ (.int .i64 (z1 + va))) = WSa at *
     refine hK.out _ _ ⟨Hi12.out.cell 0, Hi12.out.cell 1, Hi12.out.cell 2, Hi12.out.cell 3⟩ (fun hS0 => ?_)
     clear hK K
     try simp only [Act.put, List.getElem_toArray, List.getElem_cons_succ, List.getElem_cons_zero, List.setIfInBounds_toArray, List.set_cons_zero, List.set_cons_succ]
     refine wpAnyH_done (by kernel_rfl) ?_ _
     clear hS0
     go_upto_region 18 with fail
     have hbd := (Below.refl WSa.heap.size WSa).drew
     have Hb13 := kbq Hb12 hbd
     have Hp13 := kbq Hp12 hbd
     have Hn13 := kbq Hn12 hbd
     have Hi13 := kbq Hi12 hbd
     have Qv13 := Lib.hid (Qv12.out.kept hbd)
     have Ql13 := Lib.hid (Ql12.out.kept hbd)
     have HB13 := ktq HB12 hbd
     have HZ13 := kzq HZ12 hbd.size
     clear Hb12 Hp12 Hn12 Hi12 Qv12 Ql12 HB12 HZ12
     refine wp_region_held_drew (S := fun w' => w'.cell? ⟨gi, 0, none⟩ = some (.int .i64 1) ∧ w'.cell? ⟨gi, 1, none⟩ = some (.int .i64 vn) ∧ w'.cell? ⟨gi, 2, none⟩ = some (.int .i64 0) ∧ w'.cell? ⟨gi, 3, none⟩ = some (.int .i64 va)) (by kernel_rfl) ⟨Hi13.out.cell 0, Hi13.out.cell 1, Hi13.out.cell 2, Hi13.out.cell 3⟩ (fun hS0 => ?_)
     generalize WSa.drew = WDb at *
     clear hbd
     refine tkq 0 ?_
     refine tkq 1 ?_
     refine tkq 2 ?_
     refine tkq 3 ?_
     refine tkq 5 ?_
     refine tkq 6 ?_
     refine rdq 4 (fun K hK => ?_)
     have y0 : WDb.cell? ⟨gn, 0, none⟩ = some (.int .i64 z0) := Hn13.out.cell 0
     go_simp
     clear y0 hS0
     refine hK.out _ _ ⟨Hi13.out.cell 0, Hi13.out.cell 1, Hi13.out.cell 2, Hi13.out.cell 3⟩ (fun hS0 => ?_)
     clear hK K
     try simp only [Act.put, List.getElem_toArray, List.getElem_cons_succ, List.getElem_cons_zero, List.setIfInBounds_toArray, List.set_cons_zero, List.set_cons_succ]
     refine tkq 7 ?_
     refine tkq 8 ?_
     refine rdq 9 (fun K hK => ?_)
     have y0 : WDb.cell? ⟨gn, 0, none⟩ = some (.int .i64 z0) := Hn13.out.cell 0
     have f0 := Hn13.out.free 0
     go_simp
     clear y0 f0
     have hch := Lib.hid ((Chg.refl gn WDb).set 0 (.int .i64 (z0 - va)))
     have Hn14 : Hid (Blk _ gn #[.int .i64 (z0 - va), .int .i64 (z1 + va), .int .i64 z2] 2) := Lib.hid (Hn13.out.set 0 (.int .i64 (z0 - va)))
     have HB14 := ksq HB13 hch (by show w.heap.size ≤ gn; have h9 := HGN.out; have h8 := HGI.out; omega)
     have HZ14 := kzq HZ13 hch.out.size
     have Hb14 := kcq Hb13 hch (by have h9 := HGN.out; have h8 := HGI.out; omega)
     have Hp14 := kcq Hp13 hch (by have h9 := HGN.out; have h8 := HGI.out; omega)
     have Hi14 := kcq Hi13 hch (by have h9 := HGN.out; have h8 := HGI.out; omega)
     have Qv14 := Lib.hid (Qv13.out.chg hch.out (notIn_self (by simp)))
     have Ql14 := Lib.hid (Ql13.out.chg hch.out (notIn_self (by simp)))
     clear hch hS0 Hb13 Hp13 Hn13 Hi13 Qv13 Ql13 HB13 HZ13
     generalize (WDb.setCell ⟨gn, 0, none⟩ (.int .i64 (z0 - va))) = WSb at *
     refine hK.out _ _ ⟨Hi14.out.cell 0, Hi14.out.cell 1, Hi14.out.cell 2, Hi14.out.cell 3⟩ (fun hS0 => ?_)
     clear hK K
     try simp only [Act.put, List.getElem_toArray, List.getElem_cons_succ, List.getElem_cons_zero, List.setIfInBounds_toArray, List.set_cons_zero, List.set_cons_succ]
     refine wpAnyH_done (by kernel_rfl) ?_ _
     clear hS0
     clear Hi14
     have HZR2 : Hid ((z0 - va) = netS 0 (LS.take (k + 1)) ∧ (z1 + va) = netS 1 (LS.take (k + 1)) ∧ z2 = netS 2 (LS.take (k + 1)) ∧ ∀ l ∈ LS.take (k + 1), l.s ≤ 2 ∧ l.b ≤ 2) := Lib.hid ⟨(by have h1 := (HST.out 0 z0 (-va) HZR.out.1 (by unfold mineB gives; simp)); rw [← h1]; omega), (HST.out 1 z1 (va) HZR.out.2.1 (by unfold mineB gives; simp)), (by have h1 := (HST.out 2 z2 (0) HZR.out.2.2.1 (by unfold mineB gives; simp)); rw [← h1]; omega), fun l hl => by
      rw [HTK.out] at hl
      rcases List.mem_append.1 hl with h | h
      ·exact HZR.out.2.2.2 l h
      ·rw [List.mem_singleton.1 h]; exact HVB.out⟩
     have HNX : Hid (Blk WSb gp #[.int .i64 0, .int .i64 3, .slice p5 n5 c5] 36 ∧ Blk WSb gb #[.int .i64 0, .slice pi5 ni5 ci5, .slice none 0 0] 28 ∧ Blk WSb gn #[.int .i64 (z0 - va), .int .i64 (z1 + va), .int .i64 z2] 2 ∧ Vt (NotIn [gb, gp, gn]) WSb 0 p5 n5 c5 pi5 ni5 ci5 [⟨77, 0, 1, none, 0, []⟩] xs5 ∧ RwN encN (NotIn [gb, gp, gn]) WSb (.slice (some ⟨bz, oz, none⟩) LS.length lc) LS ∧ Below w.heap.size w WSb) := ⟨Hp14.out, Hb14.out, Hn14.out, Qv14.out, Ql14.out, HB14.out⟩
     clear Hb14 Hp14 Hn14 Qv14 Ql14 HB14 HZ14
     go_wp2_with fail
     go_roundw
     case rel => exact ⟨k + 1, _, _, _, by omega, by go_num, HZR2, HNX⟩
     case measure => simp [intOf]; omega
    ·skip
     have hw1 : IntKind.i64.wrap (z2 + va) = z2 + va := IntWalk.i64_in _ (by have h1 := HZB.out; have h2 := HLM.out.2.2.2.2.1; dsimp only at h2; omega)
     have hw2 : IntKind.i64.wrap (z0 - va) = z0 - va := IntWalk.i64_in _ (by have h1 := HZB.out; have h2 := HLM.out.2.2.2.2.1; dsimp only at h2; omega)
     have hbd := (Below.refl X1.heap.size X1).drew
     have Hb11 := kbq Hb10 hbd
     have Hp11 := kbq Hp10 hbd
     have Hn11 := kbq Hn10 hbd
     have Hi11 := kbq Hi10 hbd
     have Qv11 := Lib.hid (Qv10.out.kept hbd)
     have Ql11 := Lib.hid (Ql10.out.kept hbd)
     have HB11 := ktq HB10 hbd
     have HZ11 := kzq HZ10 hbd.size
     clear Hb10 Hp10 Hn10 Hi10 Qv10 Ql10 HB10 HZ10
     refine wp_region_held_drew (S := fun w' => w'.cell? ⟨gi, 0, none⟩ = some (.int .i64 2) ∧ w'.cell? ⟨gi, 1, none⟩ = some (.int .i64 vn) ∧ w'.cell? ⟨gi, 2, none⟩ = some (.int .i64 0) ∧ w'.cell? ⟨gi, 3, none⟩ = some (.int .i64 va)) (by kernel_rfl) ⟨Hi11.out.cell 0, Hi11.out.cell 1, Hi11.out.cell 2, Hi11.out.cell 3⟩ (fun hS0 => ?_)
     generalize X1.drew = WDa at *
     clear hbd
     refine tkq 0 ?_
     refine tkq 1 ?_
     refine tkq 2 ?_
     refine tkq 3 ?_
     refine tkq 4 ?_
     refine tkq 6 ?_
     refine tkq 7 ?_
     refine rdq 5 (fun K hK => ?_)
     have y0 : WDa.cell? ⟨gn, 2, none⟩ = some (.int .i64 z2) := Hn11.out.cell 2
     go_simp
     clear y0 hS0
     refine hK.out _ _ ⟨Hi11.out.cell 0, Hi11.out.cell 1, Hi11.out.cell 2, Hi11.out.cell 3⟩ (fun hS0 => ?_)
     clear hK K
     try simp only [Act.put, List.getElem_toArray, List.getElem_cons_succ, List.getElem_cons_zero, List.setIfInBounds_toArray, List.set_cons_zero, List.set_cons_succ]
     refine tkq 8 ?_
     refine tkq 9 ?_
     refine rdq 10 (fun K hK => ?_)
     have y0 : WDa.cell? ⟨gn, 2, none⟩ = some (.int .i64 z2) := Hn11.out.cell 2
     have f0 := Hn11.out.free 2
     go_simp
     clear y0 f0
     have hch := Lib.hid ((Chg.refl gn WDa).set 2 (.int .i64 (z2 + va)))
     have Hn12 : Hid (Blk _ gn #[.int .i64 z0, .int .i64 z1, .int .i64 (z2 + va)] 2) := Lib.hid (Hn11.out.set 2 (.int .i64 (z2 + va)))
     have HB12 := ksq HB11 hch (by show w.heap.size ≤ gn; have h9 := HGN.out; have h8 := HGI.out; omega)
     have HZ12 := kzq HZ11 hch.out.size
     have Hb12 := kcq Hb11 hch (by have h9 := HGN.out; have h8 := HGI.out; omega)
     have Hp12 := kcq Hp11 hch (by have h9 := HGN.out; have h8 := HGI.out; omega)
     have Hi12 := kcq Hi11 hch (by have h9 := HGN.out; have h8 := HGI.out; omega)
     have Qv12 := Lib.hid (Qv11.out.chg hch.out (notIn_self (by simp)))
     have Ql12 := Lib.hid (Ql11.out.chg hch.out (notIn_self (by simp)))
     clear hch hS0 Hb11 Hp11 Hn11 Hi11 Qv11 Ql11 HB11 HZ11
     generalize (WDa.setCell ⟨gn, 2, none⟩ (.int .i64 (z2 + va))) = WSa at *
     refine hK.out _ _ ⟨Hi12.out.cell 0, Hi12.out.cell 1, Hi12.out.cell 2, Hi12.out.cell 3⟩ (fun hS0 => ?_)
     clear hK K
     try simp only [Act.put, List.getElem_toArray, List.getElem_cons_succ, List.getElem_cons_zero, List.setIfInBounds_toArray, List.set_cons_zero, List.set_cons_succ]
     refine wpAnyH_done (by kernel_rfl) ?_ _
     clear hS0
     go_upto_region 18 with fail
     have hbd := (Below.refl WSa.heap.size WSa).drew
     have Hb13 := kbq Hb12 hbd
     have Hp13 := kbq Hp12 hbd
     have Hn13 := kbq Hn12 hbd
     have Hi13 := kbq Hi12 hbd
     have Qv13 := Lib.hid (Qv12.out.kept hbd)
     have Ql13 := Lib.hid (Ql12.out.kept hbd)
     have HB13 := ktq HB12 hbd
     have HZ13 := kzq HZ12 hbd.size
     clear Hb12 Hp12 Hn12 Hi12 Qv12 Ql12 HB12 HZ12
     refine wp_region_held_drew (S := fun w' => w'.cell? ⟨gi, 0, none⟩ = some (.int .i64 2) ∧ w'.cell? ⟨gi, 1, none⟩ = some (.int .i64 vn) ∧ w'.cell? ⟨gi, 2, none⟩ = some (.int .i64 0) ∧ w'.cell? ⟨gi, 3, none⟩ = some (.int .i64 va)) (by kernel_rfl) ⟨Hi13.out.cell 0, Hi13.out.cell 1, Hi13.out.cell 2, Hi13.out.cell 3⟩ (fun hS0 => ?_)
     generalize WSa.drew = WDb at *
     clear hbd
     refine tkq 0 ?_
     refine tkq 1 ?_
     refine tkq 2 ?_
     refine tkq 3 ?_
     refine tkq 5 ?_
     refine tkq 6 ?_
     refine rdq 4 (fun K hK => ?_)
     have y0 : WDb.cell? ⟨gn, 0, none⟩ = some (.int .i64 z0) := Hn13.out.cell 0
     go_simp
     clear y0 hS0
     refine hK.out _ _ ⟨Hi13.out.cell 0, Hi13.out.cell 1, Hi13.out.cell 2, Hi13.out.cell 3⟩ (fun hS0 => ?_)
     clear hK K
     try simp only [Act.put, List.getElem_toArray, List.getElem_cons_succ, List.getElem_cons_zero, List.setIfInBounds_toArray, List.set_cons_zero, List.set_cons_succ]
     refine tkq 7 ?_
     refine tkq 8 ?_
     refine rdq 9 (fun K hK => ?_)
     have y0 : WDb.cell? ⟨gn, 0, none⟩ = some (.int .i64 z0) := Hn13.out.cell 0
     have f0 := Hn13.out.free 0
     go_simp
     clear y0 f0
     have hch := Lib.hid ((Chg.refl gn WDb).set 0 (.int .i64 (z0 - va)))
     have Hn14 : Hid (Blk _ gn #[.int .i64 (z0 - va), .int .i64 z1, .int .i64 (z2 + va)] 2) := Lib.hid (Hn13.out.set 0 (.int .i64 (z0 - va)))
     have HB14 := ksq HB13 hch (by show w.heap.size ≤ gn; have h9 := HGN.out; have h8 := HGI.out; omega)
     have HZ14 := kzq HZ13 hch.out.size
     have Hb14 := kcq Hb13 hch (by have h9 := HGN.out; have h8 := HGI.out; omega)
     have Hp14 := kcq Hp13 hch (by have h9 := HGN.out; have h8 := HGI.out; omega)
     have Hi14 := kcq Hi13 hch (by have h9 := HGN.out; have h8 := HGI.out; omega)
     have Qv14 := Lib.hid (Qv13.out.chg hch.out (notIn_self (by simp)))
     have Ql14 := Lib.hid (Ql13.out.chg hch.out (notIn_self (by simp)))
     clear hch hS0 Hb13 Hp13 Hn13 Hi13 Qv13 Ql13 HB13 HZ13
     generalize (WDb.setCell ⟨gn, 0, none⟩ (.int .i64 (z0 - va))) = WSb at *
     refine hK.out _ _ ⟨Hi14.out.cell 0, Hi14.out.cell 1, Hi14.out.cell 2, Hi14.out.cell 3⟩ (fun hS0 => ?_)
     clear hK K
     try simp only [Act.put, List.getElem_toArray, List.getElem_cons_succ, List.getElem_cons_zero, List.setIfInBounds_toArray, List.set_cons_zero, List.set_cons_succ]
     refine wpAnyH_done (by kernel_rfl) ?_ _
     clear hS0
     clear Hi14
     have HZR2 : Hid ((z0 - va) = netS 0 (LS.take (k + 1)) ∧ z1 = netS 1 (LS.take (k + 1)) ∧ (z2 + va) = netS 2 (LS.take (k + 1)) ∧ ∀ l ∈ LS.take (k + 1), l.s ≤ 2 ∧ l.b ≤ 2) := Lib.hid ⟨(by have h1 := (HST.out 0 z0 (-va) HZR.out.1 (by unfold mineB gives; simp)); rw [← h1]; omega), (by have h1 := (HST.out 1 z1 (0) HZR.out.2.1 (by unfold mineB gives; simp)); rw [← h1]; omega), (HST.out 2 z2 (va) HZR.out.2.2.1 (by unfold mineB gives; simp)), fun l hl => by
      rw [HTK.out] at hl
      rcases List.mem_append.1 hl with h | h
      ·exact HZR.out.2.2.2 l h
      ·rw [List.mem_singleton.1 h]; exact HVB.out⟩
     have HNX : Hid (Blk WSb gp #[.int .i64 0, .int .i64 3, .slice p5 n5 c5] 36 ∧ Blk WSb gb #[.int .i64 0, .slice pi5 ni5 ci5, .slice none 0 0] 28 ∧ Blk WSb gn #[.int .i64 (z0 - va), .int .i64 z1, .int .i64 (z2 + va)] 2 ∧ Vt (NotIn [gb, gp, gn]) WSb 0 p5 n5 c5 pi5 ni5 ci5 [⟨77, 0, 1, none, 0, []⟩] xs5 ∧ RwN encN (NotIn [gb, gp, gn]) WSb (.slice (some ⟨bz, oz, none⟩) LS.length lc) LS ∧ Below w.heap.size w WSb) := ⟨Hp14.out, Hb14.out, Hn14.out, Qv14.out, Ql14.out, HB14.out⟩
     clear Hb14 Hp14 Hn14 Qv14 Ql14 HB14 HZ14
     go_wp2_with fail
     go_roundw
     case rel => exact ⟨k + 1, _, _, _, by omega, by go_num, HZR2, HNX⟩
     case measure => simp [intOf]; omega
   ·skip
    have hltI : ¬ (k : Int) < (LS.length : Int) := by omega
    have HTL : Hid (LS.take k = LS) := Lib.hid (List.take_of_length_le (by omega))
    rw [HTL.out] at HZR
    clear HTL hk hk9 hlt
    have HZB : Hid ((-45035996273704960 ≤ z0 ∧ z0 ≤ 45035996273704960) ∧ (-45035996273704960 ≤ z1 ∧ z1 ≤ 45035996273704960) ∧ (-45035996273704960 ≤ z2 ∧ z2 ≤ 45035996273704960)) := by
     have hs : ∀ me, -45035996273704960 ≤ netS me LS ∧ netS me LS ≤ 45035996273704960 := fun me => net_small (fun l hl => (HLK.out l hl).2.2.2.2.1) HLL.out
     refine Lib.hid ⟨?_, ?_, ?_⟩
     ·rw [HZR.out.1]; exact hs 0
     ·rw [HZR.out.2.1]; exact hs 1
     ·rw [HZR.out.2.2.1]; exact hs 2
    have HG := Lib.hid (vdo_q wr (NotIn [gb, gp, gn]) 0 3 0 p5 n5 c5 pi5 ni5 ci5 none 0 0 [⟨77, 0, 1, none, 0, []⟩] xs5 ((⟨mKP LS [z0, z1, z2], lp, lc, some ⟨gn, 0, none⟩, 3⟩ : MsgX)) (3) Qv9.out (fun b hb hm => by have h1 := Hn9.out.lt; have h2 := HGN.out; simp only [List.mem_cons, List.not_mem_nil, or_false] at hm; omega) (by simp) (by have h1 := HXL.out; have h2 := HXX.out; omega) ⟨Ql9.out.1, row_three Hn9.out, mKP_fit HLK.out HZB.out.1 HZB.out.2.1 HZB.out.2.2⟩ (by have h1 := HLL.out; show LS.length ≤ 2000; omega) (by show 3 ≤ 100000; decide))
    unfold mKP Msg.v at HG
    have a0 : wr.cell? ⟨gp, 0, none⟩ = some (.int .i64 0) := Hp9.out.cell 0
    have a1 : wr.cell? ⟨gp, 1, none⟩ = some (.int .i64 3) := Hp9.out.cell 1
    have a2 : wr.cell? ⟨gp, 2, none⟩ = some (.slice p5 n5 c5) := Hp9.out.cell 2
    have b0 : wr.cell? ⟨gb, 0, none⟩ = some (.int .i64 0) := Hb9.out.cell 0
    have b1 : wr.cell? ⟨gb, 1, none⟩ = some (.slice pi5 ni5 ci5) := Hb9.out.cell 1
    have b2 : wr.cell? ⟨gb, 2, none⟩ = some (.slice none 0 0) := Hb9.out.cell 2
    go_wp2_with fail
    clear a0 a1 a2 b0 b1 b2 
    refine HG.out.mono ?_
    rintro y9 w6 ⟨hb, p6, n6, c6, pi6, ni6, ci6, pv6, nv6, cv6, ps6, xs6, out6, e6, rfl, hv, hnv, hsd, hG⟩
    clear HG Qv9
    obtain ⟨rfl, hxe, rfl, hkp⟩ := keeps2b HGD.out HSB.out HKI.out HLS.out HZR.out hG
    have HPL := Lib.hid ((vote_puts (fun _ h => by rw [List.mem_singleton.1 h]; simp) (by have h1 := HLL.out; show LS.length ≤ 2000; omega) hG).len (by simp [SortedP]))
    clear hG hltI
    subst hxe
    have HKP := Lib.hid hkp
    have hn9 : nv6 = 1 := hnv
    clear hnv hkp
    subst hn9
    have Hb10 := kbq Hb9 hb
    have Hp10 := kbq Hp9 hb
    have Hn10 := kbq Hn9 hb
    have Ql10 := Lib.hid (Ql9.out.kept hb)
    have HB10 := ktq HB9 hb
    have HZ10 := kzq HZ9 hb.size
    clear Hb9 Hp9 Hn9 Ql9 HB9 HZ9
    clear hb
    have Qv10 := Lib.hid hv
    have Qs10 := Lib.hid hsd
    clear hv hsd
    go_wp2_with (with_reducible refine stop_storeT 36 (.tmp 10) (.tmp 106) rfl ?_)
    have HTH : Hid (w6.there gp 0 3) := Hp10.out.thereAt
    have hch : Hid (Chg gp w6 (w6.setCells gp 0 (#[.int .i64 0, .int .i64 3, .slice p6 n6 c6] : Array Value).toList)) := Lib.hid (chg_putL _ _ _ _ _ (Chg.refl _ w6))
    have Hp11 : Hid (Blk (w6.setCells gp 0 (#[.int .i64 0, .int .i64 3, .slice p6 n6 c6] : Array Value).toList) gp #[.int .i64 0, .int .i64 3, .slice p6 n6 c6] 36) := Lib.hid (blk_put_all Hp10.out _ rfl)
    have HB11 : Hid (Below w.heap.size w (w6.setCells gp 0 (#[.int .i64 0, .int .i64 3, .slice p6 n6 c6] : Array Value).toList)) := Lib.hid (below_put (by have h9 := HGN.out; omega) _ _ _ _ HB10.out)
    have HZ11 := kzq HZ10 hch.out.size
    have Hb11 := kcq Hb10 hch (by have h9 := HGN.out; omega)
    have Hn11 := kcq Hn10 hch (by have h9 := HGN.out; omega)
    have Ql11 := Lib.hid (Ql10.out.chg hch.out (notIn_self (by simp)))
    have Qv11 := Lib.hid (Qv10.out.chg hch.out (notIn_self (by simp)))
    have Qs11 := Lib.hid (Qs10.out.chg hch.out (notIn_self (by simp)))
    clear hch Hb10 Hp10 Hn10 Ql10 Qv10 Qs10 HB10 HZ10
    refine wpList_store_mid rfl 36 (.tmp 10) (.tmp 106) rfl gp 0 #[.int .i64 0, .int .i64 3, .slice p6 n6 c6] rfl rfl HTH.out (infoP3 rfl) (all_oneCell_toArray (by intro u hu; simp at hu; rcases hu with rfl | rfl | rfl <;> rfl)) ?_
    generalize (w6.setCells gp 0 (#[.int .i64 0, .int .i64 3, .slice p6 n6 c6] : Array Value).toList) = W8 at *
    clear HTH
    go_wp2_with (with_reducible refine stop_storeT 28 (.tmp 7) (.tmp 107) rfl ?_)
    have HTH : Hid (W8.there gb 0 3) := Hb11.out.thereAt
    have hch : Hid (Chg gb W8 (W8.setCells gb 0 (#[.int .i64 0, .slice pi6 ni6 ci6, .slice none 0 0] : Array Value).toList)) := Lib.hid (chg_putL _ _ _ _ _ (Chg.refl _ W8))
    have Hb12 : Hid (Blk (W8.setCells gb 0 (#[.int .i64 0, .slice pi6 ni6 ci6, .slice none 0 0] : Array Value).toList) gb #[.int .i64 0, .slice pi6 ni6 ci6, .slice none 0 0] 28) := Lib.hid (blk_put_all Hb11.out _ rfl)
    have HB12 : Hid (Below w.heap.size w (W8.setCells gb 0 (#[.int .i64 0, .slice pi6 ni6 ci6, .slice none 0 0] : Array Value).toList)) := Lib.hid (below_put (by have h9 := HGN.out; omega) _ _ _ _ HB11.out)
    have HZ12 := kzq HZ11 hch.out.size
    have Hp12 := kcq Hp11 hch (by have h9 := HGN.out; omega)
    have Hn12 := kcq Hn11 hch (by have h9 := HGN.out; omega)
    have Ql12 := Lib.hid (Ql11.out.chg hch.out (notIn_self (by simp)))
    have Qv12 := Lib.hid (Qv11.out.chg hch.out (notIn_self (by simp)))
    have Qs12 := Lib.hid (Qs11.out.chg hch.out (notIn_self (by simp)))
    clear hch Hb11 Hp11 Hn11 Ql11 Qv11 Qs11 HB11 HZ11
    refine wpList_store_mid rfl 28 (.tmp 7) (.tmp 107) rfl gb 0 #[.int .i64 0, .slice pi6 ni6 ci6, .slice none 0 0] rfl rfl HTH.out (infoB3 rfl) (all_oneCell_toArray (by intro u hu; simp at hu; rcases hu with rfl | rfl | rfl <;> rfl)) ?_
    generalize (W8.setCells gb 0 (#[.int .i64 0, .slice pi6 ni6 ci6, .slice none 0 0] : Array Value).toList) = W9 at *
    clear HTH
    obtain ⟨bq, oq, hpv, hsc⟩ := sd_one Qs12.out
    subst hpv
    have Qo12 := Lib.hid hsc
    clear hsc Qs12
    have e9 : W9.cell? ⟨bq, oq + 9, none⟩ = some (.bool true) := Qo12.out.cell 9 (by decide)
    go_upto_region 24 with fail
    clear e9 Qo12
    have HX6 : Hid (xs6.length ≤ 40) := by show _ ≤ _; have h1 := HXL.out; have h2 := HXX.out; omega
    clear HXL HZR HZB HXX HGD
    have HREL : Hid (Blk W9 gp #[.int .i64 0, .int .i64 3, .slice p6 n6 c6] 36 ∧ Blk W9 gb #[.int .i64 0, .slice pi6 ni6 ci6, .slice none 0 0] 28 ∧ Blk W9 gn #[.int .i64 z0, .int .i64 z1, .int .i64 z2] 2 ∧ Vt (NotIn [gb, gp, gn]) W9 0 p6 n6 c6 pi6 ni6 ci6 ps6 xs6 ∧ RwN encN (NotIn [gb, gp, gn]) W9 (.slice lp LS.length lc) LS ∧ Below w.heap.size w W9) := ⟨Hp12.out, Hb12.out, Hn12.out, Qv12.out, Ql12.out, HB12.out⟩
    clear Hb12 Hp12 Hn12 Ql12 Qv12 HB12 HZ12
    have HKK : Hid (KeptI L xs6 ∧ KeptP LS ps6) := Lib.hid ⟨HKI.out, HKP.out⟩
    clear HKI HKP
    go_loopw [122] (fun i wr => ∃ (k : Nat) (p : Option Addr) (n c : Nat) (pi : Option Addr) (ni ci : Nat) (ps : List PtX) (xs : List Itm), k ≤ n2 ∧ i = .int .i64 k ∧ Hid (ps.length ≤ k + 2 ∧ xs.length ≤ 40) ∧ Hid (KeptI L xs ∧ KeptP LS ps) ∧ Hid (Blk wr gp #[.int .i64 0, .int .i64 3, .slice p n c] 36 ∧ Blk wr gb #[.int .i64 0, .slice pi ni ci, .slice none 0 0] 28 ∧ Blk wr gn #[.int .i64 z0, .int .i64 z1, .int .i64 z2] 2 ∧ Vt (NotIn [gb, gp, gn]) wr 0 p n c pi ni ci ps xs ∧ RwN encN (NotIn [gb, gp, gn]) wr (.slice lp LS.length lc) LS ∧ Below w.heap.size w wr)) (fun i _ => n2 - (intOf i).toNat)
    case atStart => exact ⟨0, _, _, _, _, _, _, ps6, xs6, by omega, rfl, Lib.hid ⟨by have h1 := HPL.out; simpa using h1, HX6.out⟩, HKK, HREL⟩
    case round =>
     clear HREL HKK HPL HX6
     obtain ⟨k, p, n, c, pi, ni, ci, ps, xs, hk, rfl, HLN, HKK, HK⟩ := hrel
     have Hp13 := Lib.hid HK.out.1
     have Hb13 := Lib.hid HK.out.2.1
     have Hn13 := Lib.hid HK.out.2.2.1
     have Qv13 := Lib.hid HK.out.2.2.2.1
     have Ql13 := Lib.hid HK.out.2.2.2.2.1
     have HB13 := Lib.hid HK.out.2.2.2.2.2
     have HZ13 : Hid (w.heap.size ≤ wr.heap.size) := Lib.hid HB13.out.size
     clear HK
     have hk9 : k + 1 ≤ 41 := by have h1 := HFW.out.2.1; have h2 := HL2.out; omega
     by_cases hlt : k < n2
     ·skip
      have hkl : k < ws.length := by rw [HL2.out]; exact hlt
      have hltI : (k : Int) < (n2 : Int) := by omega
      have HZI := Lib.hid (show (ws[k]).x.In w ∧ (ws[k]).x.m.ls.length ≤ 60 ∧ (ws[k]).x.m.ns.length ≤ 12 from ⟨HIN.out _ (List.getElem_mem hkl), HFW.out.2.2 _ (List.getElem_mem hkl)⟩)
      obtain ⟨bw, ow, rfl, hbl, hcs⟩ := (HW.out.kept HB13.out).at_ k hkl
      generalize ws[k] = z at *
      have c0 : wr.cell? ⟨bw, ow + k * 12, none⟩ = some (.int .i64 z.tw) := hcs 0 (by decide)
      have c1 : wr.cell? ⟨bw, ow + k * 12 + 1, none⟩ = some (.int .i64 z.x.m.k) := hcs 1 (by decide)
      have c2 : wr.cell? ⟨bw, ow + k * 12 + 2, none⟩ = some (.int .i64 z.x.m.s) := hcs 2 (by decide)
      have c3 : wr.cell? ⟨bw, ow + k * 12 + 3, none⟩ = some (.int .i64 z.x.m.n) := hcs 3 (by decide)
      have c4 : wr.cell? ⟨bw, ow + k * 12 + 4, none⟩ = some (.int .i64 z.x.m.b) := hcs 4 (by decide)
      have c5 : wr.cell? ⟨bw, ow + k * 12 + 5, none⟩ = some (.int .i64 z.x.m.c) := hcs 5 (by decide)
      have c6 : wr.cell? ⟨bw, ow + k * 12 + 6, none⟩ = some (.int .i64 z.x.m.r) := hcs 6 (by decide)
      have c7 : wr.cell? ⟨bw, ow + k * 12 + 7, none⟩ = some (.int .i64 z.x.m.y) := hcs 7 (by decide)
      have c8 : wr.cell? ⟨bw, ow + k * 12 + 8, none⟩ = some (.int .i64 z.x.m.a) := hcs 8 (by decide)
      have c9 : wr.cell? ⟨bw, ow + k * 12 + 9, none⟩ = some (.bool z.x.m.t) := hcs 9 (by decide)
      have c10 : wr.cell? ⟨bw, ow + k * 12 + 10, none⟩ = some (.slice z.x.pl z.x.m.ls.length z.x.cl) := hcs 10 (by decide)
      have c11 : wr.cell? ⟨bw, ow + k * 12 + 11, none⟩ = some (.slice z.x.pn z.x.m.ns.length z.x.cn) := hcs 11 (by decide)
      clear hcs hbl
      have HGD9 : Hid (gn < wr.heap.size) := Lib.hid Hn13.out.lt
      have hba := oneB wr (.cells #[.int .i64 z.tw, .int .i64 z.x.m.k, .int .i64 z.x.m.s, .int .i64 z.x.m.n, .int .i64 z.x.m.b, .int .i64 z.x.m.c, .int .i64 z.x.m.r, .int .i64 z.x.m.y, .int .i64 z.x.m.a, .bool z.x.m.t, .slice z.x.pl z.x.m.ls.length z.x.cl, .slice z.x.pn z.x.m.ns.length z.x.cn] 52)
      have Hb14 := kbq Hb13 hba
      have Hp14 := kbq Hp13 hba
      have Hn14 := kbq Hn13 hba
      have Qv14 := Lib.hid (Qv13.out.kept hba)
      have Ql14 := Lib.hid (Ql13.out.kept hba)
      have Hd14 := Lib.hid (Blk.new wr #[.int .i64 z.tw, .int .i64 z.x.m.k, .int .i64 z.x.m.s, .int .i64 z.x.m.n, .int .i64 z.x.m.b, .int .i64 z.x.m.c, .int .i64 z.x.m.r, .int .i64 z.x.m.y, .int .i64 z.x.m.a, .bool z.x.m.t, .slice z.x.pl z.x.m.ls.length z.x.cl, .slice z.x.pn z.x.m.ns.length z.x.cn] 52)
      have HB14 := Lib.hid (HB13.out.alloc HB13.out.size (.cells #[.int .i64 z.tw, .int .i64 z.x.m.k, .int .i64 z.x.m.s, .int .i64 z.x.m.n, .int .i64 z.x.m.b, .int .i64 z.x.m.c, .int .i64 z.x.m.r, .int .i64 z.x.m.y, .int .i64 z.x.m.a, .bool z.x.m.t, .slice z.x.pl z.x.m.ls.length z.x.cl, .slice z.x.pn z.x.m.ns.length z.x.cn] 52))
      have HZ14 := kzq HZ13 hba.size
      have HGgd : Hid (w.heap.size ≤ wr.heap.size) := Lib.hid HB13.out.size
      clear hba Hb13 Hp13 Hn13 Qv13 Ql13 HB13 HZ13
      go_upto_region 26 with fail
      clear c0 c1 c2 c3 c4 c5 c6 c7 c8 c9 c10 c11
      generalize (wr.alloc (.cells #[.int .i64 z.tw, .int .i64 z.x.m.k, .int .i64 z.x.m.s, .int .i64 z.x.m.n, .int .i64 z.x.m.b, .int .i64 z.x.m.c, .int .i64 z.x.m.r, .int .i64 z.x.m.y, .int .i64 z.x.m.a, .bool z.x.m.t, .slice z.x.pl z.x.m.ls.length z.x.cl, .slice z.x.pn z.x.m.ns.length z.x.cn] 52)) = V1 at *
      generalize hggd : wr.heap.size = gd at *
      clear hggd
      clear HGgd
      have d1 : V1.cell? ⟨gd, 1, none⟩ = some (.int .i64 z.x.m.k) := Hd14.out.cell 1
      have d7 : V1.cell? ⟨gd, 7, none⟩ = some (.int .i64 z.x.m.y) := Hd14.out.cell 7
      cases hkk : (z.x.m.k == 14)
      ·skip
       have HNO : Hid (¬ (z.x.m.k = 14 ∧ z.x.m.y = 77)) := Lib.hid (fun h => by rw [h.1] at hkk; cases hkk)
       go_upto_region 27 with fail
       clear d1 d7 hkk
       have HGX := Lib.hid Qv14.out.good
       have HQL := Lib.hid Qv14.out.ql
       have HSP := Lib.hid Qv14.out.pts.srt
       have HG := Lib.hid (vdo_q V1 (NotIn [gb, gp, gn]) 0 3 0 p n c pi ni ci none 0 0 ps xs (z.x) (z.tw) Qv14.out (fun b hb hm => by have h1 := Hn14.out.lt; have h2 := HGN.out; simp only [List.mem_cons, List.not_mem_nil, or_false] at hm; omega) (by have h1 := HLN.out.1; omega) (by have h1 := HLN.out.2; omega) (HZI.out.1.kept HB14.out) (by have h1 := HZI.out.2.1; omega) (by have h1 := HZI.out.2.2; omega))
       unfold Msg.v at HG
       have a0 : V1.cell? ⟨gp, 0, none⟩ = some (.int .i64 0) := Hp14.out.cell 0
       have a1 : V1.cell? ⟨gp, 1, none⟩ = some (.int .i64 3) := Hp14.out.cell 1
       have a2 : V1.cell? ⟨gp, 2, none⟩ = some (.slice p n c) := Hp14.out.cell 2
       have b0 : V1.cell? ⟨gb, 0, none⟩ = some (.int .i64 0) := Hb14.out.cell 0
       have b1 : V1.cell? ⟨gb, 1, none⟩ = some (.slice pi ni ci) := Hb14.out.cell 1
       have b2 : V1.cell? ⟨gb, 2, none⟩ = some (.slice none 0 0) := Hb14.out.cell 2
       have c0 : V1.cell? ⟨gd, 0, none⟩ = some (.int .i64 z.tw) := Hd14.out.cell 0
       have c1 : V1.cell? ⟨gd, 1, none⟩ = some (.int .i64 z.x.m.k) := Hd14.out.cell 1
       have c2 : V1.cell? ⟨gd, 2, none⟩ = some (.int .i64 z.x.m.s) := Hd14.out.cell 2
       have c3 : V1.cell? ⟨gd, 3, none⟩ = some (.int .i64 z.x.m.n) := Hd14.out.cell 3
       have c4 : V1.cell? ⟨gd, 4, none⟩ = some (.int .i64 z.x.m.b) := Hd14.out.cell 4
       have c5 : V1.cell? ⟨gd, 5, none⟩ = some (.int .i64 z.x.m.c) := Hd14.out.cell 5
       have c6 : V1.cell? ⟨gd, 6, none⟩ = some (.int .i64 z.x.m.r) := Hd14.out.cell 6
       have c7 : V1.cell? ⟨gd, 7, none⟩ = some (.int .i64 z.x.m.y) := Hd14.out.cell 7
       have c8 : V1.cell? ⟨gd, 8, none⟩ = some (.int .i64 z.x.m.a) := Hd14.out.cell 8
       have c9 : V1.cell? ⟨gd, 9, none⟩ = some (.bool z.x.m.t) := Hd14.out.cell 9
       have c10 : V1.cell? ⟨gd, 10, none⟩ = some (.slice z.x.pl z.x.m.ls.length z.x.cl) := Hd14.out.cell 10
       have c11 : V1.cell? ⟨gd, 11, none⟩ = some (.slice z.x.pn z.x.m.ns.length z.x.cn) := Hd14.out.cell 11
       go_wp2_with fail
       clear a0 a1 a2 b0 b1 b2 c0 c1 c2 c3 c4 c5 c6 c7 c8 c9 c10 c11
       refine HG.out.mono ?_
       rintro y9 w7 ⟨hb, p7, n7, c7, pi7, ni7, ci7, pv7, nv7, cv7, ps7, xs7, out7, e7, rfl, hv, hnv, hsd, hG⟩
       clear HG Qv14
       have HXL := Lib.hid (vote_items HGX.out hG).2.1
       have HPL := Lib.hid ((vote_puts HQL.out (by have h1 := HZI.out.2.1; omega) hG).len HSP.out)
       have HKW := Lib.hid (kept_word HGX.out HKK.out.1 HKK.out.2 HNO.out hG)
       clear hG hnv HQL HSP HGX HNO
       have Hb15 := kbq Hb14 hb
       have Hp15 := kbq Hp14 hb
       have Hn15 := kbq Hn14 hb
       have Hd15 := kbq Hd14 hb
       have Ql15 := Lib.hid (Ql14.out.kept hb)
       have HB15 := ktq HB14 hb
       have HZ15 := kzq HZ14 hb.size
       clear Hb14 Hp14 Hn14 Hd14 Ql14 HB14 HZ14
       clear hb
       have Qv15 := Lib.hid hv
       have Qs15 := Lib.hid hsd
       clear hv hsd
       clear Qs15
       go_wp2_with (with_reducible refine stop_storeT 36 (.tmp 10) (.tmp 144) rfl ?_)
       have HTH : Hid (w7.there gp 0 3) := Hp15.out.thereAt
       have hch : Hid (Chg gp w7 (w7.setCells gp 0 (#[.int .i64 0, .int .i64 3, .slice p7 n7 c7] : Array Value).toList)) := Lib.hid (chg_putL _ _ _ _ _ (Chg.refl _ w7))
       have Hp16 : Hid (Blk (w7.setCells gp 0 (#[.int .i64 0, .int .i64 3, .slice p7 n7 c7] : Array Value).toList) gp #[.int .i64 0, .int .i64 3, .slice p7 n7 c7] 36) := Lib.hid (blk_put_all Hp15.out _ rfl)
       have HB16 : Hid (Below w.heap.size w (w7.setCells gp 0 (#[.int .i64 0, .int .i64 3, .slice p7 n7 c7] : Array Value).toList)) := Lib.hid (below_put (by have h9 := HGN.out; have h8 := HGD9.out; omega) _ _ _ _ HB15.out)
       have HZ16 := kzq HZ15 hch.out.size
       have Hb16 := kcq Hb15 hch (by have h9 := HGN.out; have h8 := HGD9.out; omega)
       have Hn16 := kcq Hn15 hch (by have h9 := HGN.out; have h8 := HGD9.out; omega)
       have Hd16 := kcq Hd15 hch (by have h9 := HGN.out; have h8 := HGD9.out; omega)
       have Ql16 := Lib.hid (Ql15.out.chg hch.out (notIn_self (by simp)))
       have Qv16 := Lib.hid (Qv15.out.chg hch.out (notIn_self (by simp)))
       clear hch Hb15 Hp15 Hn15 Hd15 Ql15 Qv15 HB15 HZ15
       refine wpList_store_mid rfl 36 (.tmp 10) (.tmp 144) rfl gp 0 #[.int .i64 0, .int .i64 3, .slice p7 n7 c7] rfl rfl HTH.out (infoP3 rfl) (all_oneCell_toArray (by intro u hu; simp at hu; rcases hu with rfl | rfl | rfl <;> rfl)) ?_
       generalize (w7.setCells gp 0 (#[.int .i64 0, .int .i64 3, .slice p7 n7 c7] : Array Value).toList) = X1 at *
       clear HTH
       go_wp2_with (with_reducible refine stop_storeT 28 (.tmp 7) (.tmp 145) rfl ?_)
       have HTH : Hid (X1.there gb 0 3) := Hb16.out.thereAt
       have hch : Hid (Chg gb X1 (X1.setCells gb 0 (#[.int .i64 0, .slice pi7 ni7 ci7, .slice none 0 0] : Array Value).toList)) := Lib.hid (chg_putL _ _ _ _ _ (Chg.refl _ X1))
       have Hb17 : Hid (Blk (X1.setCells gb 0 (#[.int .i64 0, .slice pi7 ni7 ci7, .slice none 0 0] : Array Value).toList) gb #[.int .i64 0, .slice pi7 ni7 ci7, .slice none 0 0] 28) := Lib.hid (blk_put_all Hb16.out _ rfl)
       have HB17 : Hid (Below w.heap.size w (X1.setCells gb 0 (#[.int .i64 0, .slice pi7 ni7 ci7, .slice none 0 0] : Array Value).toList)) := Lib.hid (below_put (by have h9 := HGN.out; have h8 := HGD9.out; omega) _ _ _ _ HB16.out)
       have HZ17 := kzq HZ16 hch.out.size
       have Hp17 := kcq Hp16 hch (by have h9 := HGN.out; have h8 := HGD9.out; omega)
       have Hn17 := kcq Hn16 hch (by have h9 := HGN.out; have h8 := HGD9.out; omega)
       have Hd17 := kcq Hd16 hch (by have h9 := HGN.out; have h8 := HGD9.out; omega)
       have Ql17 := Lib.hid (Ql16.out.chg hch.out (notIn_self (by simp)))
       have Qv17 := Lib.hid (Qv16.out.chg hch.out (notIn_self (by simp)))
       clear hch Hb16 Hp16 Hn16 Hd16 Ql16 Qv16 HB16 HZ16
       refine wpList_store_mid rfl 28 (.tmp 7) (.tmp 145) rfl gb 0 #[.int .i64 0, .slice pi7 ni7 ci7, .slice none 0 0] rfl rfl HTH.out (infoB3 rfl) (all_oneCell_toArray (by intro u hu; simp at hu; rcases hu with rfl | rfl | rfl <;> rfl)) ?_
       generalize (X1.setCells gb 0 (#[.int .i64 0, .slice pi7 ni7 ci7, .slice none 0 0] : Array Value).toList) = X2 at *
       clear HTH
       clear Hd17
       have HLI := Lib.hid (kept_lineb HKW.out.1 HLS.out)
       have HJ : Hid (BelB X2 X2) := Lib.hid (BelB.refl _)
       go_upto_region 29 with fail
       go_loopw [150] (fun i wr => ∃ r : Nat, r ≤ LS.length ∧ i = .int .i64 r ∧ Hid (BelB X2 wr)) (fun i _ => LS.length - (intOf i).toNat)
       case atStart => exact ⟨0, by omega, rfl, HJ⟩
       case round =>
        clear HJ
        obtain ⟨r, hr, rfl, HJ⟩ := hrel
        have hbj := HJ.out
        unfold BelB at hbj
        have Hb18 := kbq Hb17 hbj
        have Hp18 := kbq Hp17 hbj
        have Hn18 := kbq Hn17 hbj
        have Ql18 := Lib.hid (Ql17.out.kept hbj)
        have Qv18 := Lib.hid (Qv17.out.kept hbj)
        have HB18 := ktq HB17 hbj
        have HZ18 := kzq HZ17 hbj.size
        clear Hb17 Hp17 Hn17 Ql17 Qv17 HB17 HZ17
        clear hbj
        have Qi18 := HJ
        clear HJ
        have hr9 : r + 1 ≤ 41 := by have h1 := HLL.out; omega
        by_cases hlr : r < LS.length
        ·skip
         have hlrI : (r : Int) < (LS.length : Int) := by omega
         have HQ1 := Lib.hid (HLI.out _ (List.getElem_mem hlr))
         obtain ⟨bz, oz, hpz, hbl, hcs⟩ := Ql18.out.1.at_ r hlr
         rw [hpz]
         generalize (LS[r]) = l at *
         obtain ⟨qi, hfq, hqr⟩ := HQ1.out
         have HFQ := Lib.hid hfq
         have HQT := Lib.hid hqr
         clear HQ1 hfq hqr
         have c0 : wr.cell? ⟨bz, oz + r * 4, none⟩ = some (.int .i64 l.s) := hcs 0 (by decide)
         have c1 : wr.cell? ⟨bz, oz + r * 4 + 1, none⟩ = some (.int .i64 l.n) := hcs 1 (by decide)
         have c2 : wr.cell? ⟨bz, oz + r * 4 + 2, none⟩ = some (.int .i64 l.b) := hcs 2 (by decide)
         have c3 : wr.cell? ⟨bz, oz + r * 4 + 3, none⟩ = some (.int .i64 l.a) := hcs 3 (by decide)
         clear hcs hbl
         have hba := oneB wr (.cells #[.int .i64 l.s, .int .i64 l.n, .int .i64 l.b, .int .i64 l.a] 50)
         have Hb19 := kbq Hb18 hba
         have Hp19 := kbq Hp18 hba
         have Hn19 := kbq Hn18 hba
         have Ql19 := Lib.hid (Ql18.out.kept hba)
         have Qv19 := Lib.hid (Qv18.out.kept hba)
         have Qi19 := Lib.hid (Qi18.out.kept hba)
         have Hil19 := Lib.hid (Blk.new wr #[.int .i64 l.s, .int .i64 l.n, .int .i64 l.b, .int .i64 l.a] 50)
         have HB19 := Lib.hid (HB18.out.alloc HB18.out.size (.cells #[.int .i64 l.s, .int .i64 l.n, .int .i64 l.b, .int .i64 l.a] 50))
         have HZ19 := kzq HZ18 hba.size
         have HGgl : Hid (w.heap.size ≤ wr.heap.size) := Lib.hid HB18.out.size
         clear hba Hb18 Hp18 Hn18 Ql18 Qv18 Qi18 HB18 HZ18
         go_upto_region 31 with fail
         clear c0 c1 c2 c3
         generalize (wr.alloc (.cells #[.int .i64 l.s, .int .i64 l.n, .int .i64 l.b, .int .i64 l.a] 50)) = Y2 at *
         generalize hggl : wr.heap.size = gl at *
         clear hggl
         clear HGgl
         have HG := Lib.hid (dget_any Y2 0 pi7 none ni7 ci7 0 0 l.s l.n xs7 Qv19.out.its.1 Qv19.out.nx.symm Qv19.out.good.1 (by have h1 := Qv19.out.nx; have h2 := HXL.out; have h3 := HLN.out.2; omega))
         rw [HFQ.out] at HG
         simp only [Option.getD_some, Option.isSome_some] at HG
         unfold bookV idV Itm.v at HG
         have a0 : Y2.cell? ⟨gb, 0, none⟩ = some (.int .i64 0) := Hb19.out.cell 0
         have a1 : Y2.cell? ⟨gb, 1, none⟩ = some (.slice pi7 ni7 ci7) := Hb19.out.cell 1
         have a2 : Y2.cell? ⟨gb, 2, none⟩ = some (.slice none 0 0) := Hb19.out.cell 2
         have i0 : Y2.cell? ⟨gl, 0, none⟩ = some (.int .i64 l.s) := Hil19.out.cell 0
         have i1 : Y2.cell? ⟨gl, 1, none⟩ = some (.int .i64 l.n) := Hil19.out.cell 1
         go_wp2_with fail
         clear a0 a1 a2 i0 i1
         refine HG.out.mono ?_
         rintro y9 w8 ⟨rfl, hb⟩
         clear HG
         have Hb20 := kbq Hb19 hb
         have Hp20 := kbq Hp19 hb
         have Hn20 := kbq Hn19 hb
         have Hil20 := kbq Hil19 hb
         have Ql20 := Lib.hid (Ql19.out.kept hb)
         have Qv20 := Lib.hid (Qv19.out.kept hb)
         have Qi20 := Lib.hid (Qi19.out.kept hb)
         have HB20 := ktq HB19 hb
         have HZ20 := kzq HZ19 hb.size
         clear Hb19 Hp19 Hn19 Hil19 Ql19 Qv19 Qi19 HB19 HZ19
         clear hb
         have hba := oneB w8 (.cells #[.int .i64 qi.s, .int .i64 qi.n, .int .i64 qi.b, .int .i64 qi.c, .int .i64 qi.a, .int .i64 qi.r, .int .i64 qi.t, .int .i64 qi.y] 54)
         have Hb21 := kbq Hb20 hba
         have Hp21 := kbq Hp20 hba
         have Hn21 := kbq Hn20 hba
         have Hil21 := kbq Hil20 hba
         have Ql21 := Lib.hid (Ql20.out.kept hba)
         have Qv21 := Lib.hid (Qv20.out.kept hba)
         have Qi21 := Lib.hid (Qi20.out.kept hba)
         have Hiq21 := Lib.hid (Blk.new w8 #[.int .i64 qi.s, .int .i64 qi.n, .int .i64 qi.b, .int .i64 qi.c, .int .i64 qi.a, .int .i64 qi.r, .int .i64 qi.t, .int .i64 qi.y] 54)
         have HB21 := Lib.hid (HB20.out.alloc HB20.out.size (.cells #[.int .i64 qi.s, .int .i64 qi.n, .int .i64 qi.b, .int .i64 qi.c, .int .i64 qi.a, .int .i64 qi.r, .int .i64 qi.t, .int .i64 qi.y] 54))
         have HZ21 := kzq HZ20 hba.size
         have HGgq : Hid (w.heap.size ≤ w8.heap.size) := Lib.hid HB20.out.size
         clear hba Hb20 Hp20 Hn20 Hil20 Ql20 Qv20 Qi20 HB20 HZ20
         go_upto_region 32 with fail
         generalize (w8.alloc (.cells #[.int .i64 qi.s, .int .i64 qi.n, .int .i64 qi.b, .int .i64 qi.c, .int .i64 qi.a, .int .i64 qi.r, .int .i64 qi.t, .int .i64 qi.y] 54)) = Y3 at *
         generalize hggq : w8.heap.size = gq at *
         clear hggq
         clear HGgq
         have hqa : (qi.t != 3) = false := by rw [HQT.out.1]; rfl
         have hqb : (qi.y != 77) = false := by rw [HQT.out.2.1]; rfl
         have hqc : (qi.a != l.a) = false := by rw [HQT.out.2.2]; simp
         have e3 : Y3.cell? ⟨gl, 3, none⟩ = some (.int .i64 l.a) := Hil21.out.cell 3
         have f4 : Y3.cell? ⟨gq, 4, none⟩ = some (.int .i64 qi.a) := Hiq21.out.cell 4
         have f6 : Y3.cell? ⟨gq, 6, none⟩ = some (.int .i64 qi.t) := Hiq21.out.cell 6
         have f7 : Y3.cell? ⟨gq, 7, none⟩ = some (.int .i64 qi.y) := Hiq21.out.cell 7
         have HNJ := Lib.hid Qi21.out
         go_wp2_with fail
         go_roundw
         case rel => exact ⟨r + 1, by omega, by go_num, HNJ⟩
         case measure => simp [intOf]; omega
        ·skip
         have hlrI : ¬ (r : Int) < (LS.length : Int) := by omega
         clear Qi18
         have HNX9 : Hid (Blk wr gp #[.int .i64 0, .int .i64 3, .slice p7 n7 c7] 36 ∧ Blk wr gb #[.int .i64 0, .slice pi7 ni7 ci7, .slice none 0 0] 28 ∧ Blk wr gn #[.int .i64 z0, .int .i64 z1, .int .i64 z2] 2 ∧ Vt (NotIn [gb, gp, gn]) wr 0 p7 n7 c7 pi7 ni7 ci7 ps7 xs7 ∧ RwN encN (NotIn [gb, gp, gn]) wr (.slice lp LS.length lc) LS ∧ Below w.heap.size w wr) := ⟨Hp18.out, Hb18.out, Hn18.out, Qv18.out, Ql18.out, HB18.out⟩
         have HLN9 : Hid (ps7.length ≤ k + 1 + 2 ∧ xs7.length ≤ 40) := Lib.hid ⟨by have h1 := HPL.out; have h2 := HLN.out.1; omega, by have h1 := HXL.out; have h2 := HLN.out.2; omega⟩
         have HKK9 := HKW
         clear Hb18 Hp18 Hn18 Ql18 Qv18 HB18 HZ18
         go_wp2_with fail
         go_roundw
         case rel => exact ⟨k + 1, _, _, _, _, _, _, _, _, by omega, by go_num, HLN9, HKK9, HNX9⟩
         case measure => simp [intOf]; omega
      ·skip
       cases hky : (z.x.m.y == 77)
       ·skip
        have HNO : Hid (¬ (z.x.m.k = 14 ∧ z.x.m.y = 77)) := Lib.hid (fun h => by rw [h.2] at hky; cases hky)
        go_upto_region 27 with fail
        clear d1 d7 hkk hky
        have HGX := Lib.hid Qv14.out.good
        have HQL := Lib.hid Qv14.out.ql
        have HSP := Lib.hid Qv14.out.pts.srt
        have HG := Lib.hid (vdo_q V1 (NotIn [gb, gp, gn]) 0 3 0 p n c pi ni ci none 0 0 ps xs (z.x) (z.tw) Qv14.out (fun b hb hm => by have h1 := Hn14.out.lt; have h2 := HGN.out; simp only [List.mem_cons, List.not_mem_nil, or_false] at hm; omega) (by have h1 := HLN.out.1; omega) (by have h1 := HLN.out.2; omega) (HZI.out.1.kept HB14.out) (by have h1 := HZI.out.2.1; omega) (by have h1 := HZI.out.2.2; omega))
        unfold Msg.v at HG
        have a0 : V1.cell? ⟨gp, 0, none⟩ = some (.int .i64 0) := Hp14.out.cell 0
        have a1 : V1.cell? ⟨gp, 1, none⟩ = some (.int .i64 3) := Hp14.out.cell 1
        have a2 : V1.cell? ⟨gp, 2, none⟩ = some (.slice p n c) := Hp14.out.cell 2
        have b0 : V1.cell? ⟨gb, 0, none⟩ = some (.int .i64 0) := Hb14.out.cell 0
        have b1 : V1.cell? ⟨gb, 1, none⟩ = some (.slice pi ni ci) := Hb14.out.cell 1
        have b2 : V1.cell? ⟨gb, 2, none⟩ = some (.slice none 0 0) := Hb14.out.cell 2
        have c0 : V1.cell? ⟨gd, 0, none⟩ = some (.int .i64 z.tw) := Hd14.out.cell 0
        have c1 : V1.cell? ⟨gd, 1, none⟩ = some (.int .i64 z.x.m.k) := Hd14.out.cell 1
        have c2 : V1.cell? ⟨gd, 2, none⟩ = some (.int .i64 z.x.m.s) := Hd14.out.cell 2
        have c3 : V1.cell? ⟨gd, 3, none⟩ = some (.int .i64 z.x.m.n) := Hd14.out.cell 3
        have c4 : V1.cell? ⟨gd, 4, none⟩ = some (.int .i64 z.x.m.b) := Hd14.out.cell 4
        have c5 : V1.cell? ⟨gd, 5, none⟩ = some (.int .i64 z.x.m.c) := Hd14.out.cell 5
        have c6 : V1.cell? ⟨gd, 6, none⟩ = some (.int .i64 z.x.m.r) := Hd14.out.cell 6
        have c7 : V1.cell? ⟨gd, 7, none⟩ = some (.int .i64 z.x.m.y) := Hd14.out.cell 7
        have c8 : V1.cell? ⟨gd, 8, none⟩ = some (.int .i64 z.x.m.a) := Hd14.out.cell 8
        have c9 : V1.cell? ⟨gd, 9, none⟩ = some (.bool z.x.m.t) := Hd14.out.cell 9
        have c10 : V1.cell? ⟨gd, 10, none⟩ = some (.slice z.x.pl z.x.m.ls.length z.x.cl) := Hd14.out.cell 10
        have c11 : V1.cell? ⟨gd, 11, none⟩ = some (.slice z.x.pn z.x.m.ns.length z.x.cn) := Hd14.out.cell 11
        go_wp2_with fail
        clear a0 a1 a2 b0 b1 b2 c0 c1 c2 c3 c4 c5 c6 c7 c8 c9 c10 c11
        refine HG.out.mono ?_
        rintro y9 w7 ⟨hb, p7, n7, c7, pi7, ni7, ci7, pv7, nv7, cv7, ps7, xs7, out7, e7, rfl, hv, hnv, hsd, hG⟩
        clear HG Qv14
        have HXL := Lib.hid (vote_items HGX.out hG).2.1
        have HPL := Lib.hid ((vote_puts HQL.out (by have h1 := HZI.out.2.1; omega) hG).len HSP.out)
        have HKW := Lib.hid (kept_word HGX.out HKK.out.1 HKK.out.2 HNO.out hG)
        clear hG hnv HQL HSP HGX HNO
        have Hb15 := kbq Hb14 hb
        have Hp15 := kbq Hp14 hb
        have Hn15 := kbq Hn14 hb
        have Hd15 := kbq Hd14 hb
        have Ql15 := Lib.hid (Ql14.out.kept hb)
        have HB15 := ktq HB14 hb
        have HZ15 := kzq HZ14 hb.size
        clear Hb14 Hp14 Hn14 Hd14 Ql14 HB14 HZ14
        clear hb
        have Qv15 := Lib.hid hv
        have Qs15 := Lib.hid hsd
        clear hv hsd
        clear Qs15
        go_wp2_with (with_reducible refine stop_storeT 36 (.tmp 10) (.tmp 144) rfl ?_)
        have HTH : Hid (w7.there gp 0 3) := Hp15.out.thereAt
        have hch : Hid (Chg gp w7 (w7.setCells gp 0 (#[.int .i64 0, .int .i64 3, .slice p7 n7 c7] : Array Value).toList)) := Lib.hid (chg_putL _ _ _ _ _ (Chg.refl _ w7))
        have Hp16 : Hid (Blk (w7.setCells gp 0 (#[.int .i64 0, .int .i64 3, .slice p7 n7 c7] : Array Value).toList) gp #[.int .i64 0, .int .i64 3, .slice p7 n7 c7] 36) := Lib.hid (blk_put_all Hp15.out _ rfl)
        have HB16 : Hid (Below w.heap.size w (w7.setCells gp 0 (#[.int .i64 0, .int .i64 3, .slice p7 n7 c7] : Array Value).toList)) := Lib.hid (below_put (by have h9 := HGN.out; have h8 := HGD9.out; omega) _ _ _ _ HB15.out)
        have HZ16 := kzq HZ15 hch.out.size
        have Hb16 := kcq Hb15 hch (by have h9 := HGN.out; have h8 := HGD9.out; omega)
        have Hn16 := kcq Hn15 hch (by have h9 := HGN.out; have h8 := HGD9.out; omega)
        have Hd16 := kcq Hd15 hch (by have h9 := HGN.out; have h8 := HGD9.out; omega)
        have Ql16 := Lib.hid (Ql15.out.chg hch.out (notIn_self (by simp)))
        have Qv16 := Lib.hid (Qv15.out.chg hch.out (notIn_self (by simp)))
        clear hch Hb15 Hp15 Hn15 Hd15 Ql15 Qv15 HB15 HZ15
        refine wpList_store_mid rfl 36 (.tmp 10) (.tmp 144) rfl gp 0 #[.int .i64 0, .int .i64 3, .slice p7 n7 c7] rfl rfl HTH.out (infoP3 rfl) (all_oneCell_toArray (by intro u hu; simp at hu; rcases hu with rfl | rfl | rfl <;> rfl)) ?_
        generalize (w7.setCells gp 0 (#[.int .i64 0, .int .i64 3, .slice p7 n7 c7] : Array Value).toList) = X1 at *
        clear HTH
        go_wp2_with (with_reducible refine stop_storeT 28 (.tmp 7) (.tmp 145) rfl ?_)
        have HTH : Hid (X1.there gb 0 3) := Hb16.out.thereAt
        have hch : Hid (Chg gb X1 (X1.setCells gb 0 (#[.int .i64 0, .slice pi7 ni7 ci7, .slice none 0 0] : Array Value).toList)) := Lib.hid (chg_putL _ _ _ _ _ (Chg.refl _ X1))
        have Hb17 : Hid (Blk (X1.setCells gb 0 (#[.int .i64 0, .slice pi7 ni7 ci7, .slice none 0 0] : Array Value).toList) gb #[.int .i64 0, .slice pi7 ni7 ci7, .slice none 0 0] 28) := Lib.hid (blk_put_all Hb16.out _ rfl)
        have HB17 : Hid (Below w.heap.size w (X1.setCells gb 0 (#[.int .i64 0, .slice pi7 ni7 ci7, .slice none 0 0] : Array Value).toList)) := Lib.hid (below_put (by have h9 := HGN.out; have h8 := HGD9.out; omega) _ _ _ _ HB16.out)
        have HZ17 := kzq HZ16 hch.out.size
        have Hp17 := kcq Hp16 hch (by have h9 := HGN.out; have h8 := HGD9.out; omega)
        have Hn17 := kcq Hn16 hch (by have h9 := HGN.out; have h8 := HGD9.out; omega)
        have Hd17 := kcq Hd16 hch (by have h9 := HGN.out; have h8 := HGD9.out; omega)
        have Ql17 := Lib.hid (Ql16.out.chg hch.out (notIn_self (by simp)))
        have Qv17 := Lib.hid (Qv16.out.chg hch.out (notIn_self (by simp)))
        clear hch Hb16 Hp16 Hn16 Hd16 Ql16 Qv16 HB16 HZ16
        refine wpList_store_mid rfl 28 (.tmp 7) (.tmp 145) rfl gb 0 #[.int .i64 0, .slice pi7 ni7 ci7, .slice none 0 0] rfl rfl HTH.out (infoB3 rfl) (all_oneCell_toArray (by intro u hu; simp at hu; rcases hu with rfl | rfl | rfl <;> rfl)) ?_
        generalize (X1.setCells gb 0 (#[.int .i64 0, .slice pi7 ni7 ci7, .slice none 0 0] : Array Value).toList) = X2 at *
        clear HTH
        clear Hd17
        have HLI := Lib.hid (kept_lineb HKW.out.1 HLS.out)
        have HJ : Hid (BelB X2 X2) := Lib.hid (BelB.refl _)
        go_upto_region 29 with fail
        go_loopw [150] (fun i wr => ∃ r : Nat, r ≤ LS.length ∧ i = .int .i64 r ∧ Hid (BelB X2 wr)) (fun i _ => LS.length - (intOf i).toNat)
        case atStart => exact ⟨0, by omega, rfl, HJ⟩
        case round =>
         clear HJ
         obtain ⟨r, hr, rfl, HJ⟩ := hrel
         have hbj := HJ.out
         unfold BelB at hbj
         have Hb18 := kbq Hb17 hbj
         have Hp18 := kbq Hp17 hbj
         have Hn18 := kbq Hn17 hbj
         have Ql18 := Lib.hid (Ql17.out.kept hbj)
         have Qv18 := Lib.hid (Qv17.out.kept hbj)
         have HB18 := ktq HB17 hbj
         have HZ18 := kzq HZ17 hbj.size
         clear Hb17 Hp17 Hn17 Ql17 Qv17 HB17 HZ17
         clear hbj
         have Qi18 := HJ
         clear HJ
         have hr9 : r + 1 ≤ 41 := by have h1 := HLL.out; omega
         by_cases hlr : r < LS.length
         ·skip
          have hlrI : (r : Int) < (LS.length : Int) := by omega
          have HQ1 := Lib.hid (HLI.out _ (List.getElem_mem hlr))
          obtain ⟨bz, oz, hpz, hbl, hcs⟩ := Ql18.out.1.at_ r hlr
          rw [hpz]
          generalize (LS[r]) = l at *
          obtain ⟨qi, hfq, hqr⟩ := HQ1.out
          have HFQ := Lib.hid hfq
          have HQT := Lib.hid hqr
          clear HQ1 hfq hqr
          have c0 : wr.cell? ⟨bz, oz + r * 4, none⟩ = some (.int .i64 l.s) := hcs 0 (by decide)
          have c1 : wr.cell? ⟨bz, oz + r * 4 + 1, none⟩ = some (.int .i64 l.n) := hcs 1 (by decide)
          have c2 : wr.cell? ⟨bz, oz + r * 4 + 2, none⟩ = some (.int .i64 l.b) := hcs 2 (by decide)
          have c3 : wr.cell? ⟨bz, oz + r * 4 + 3, none⟩ = some (.int .i64 l.a) := hcs 3 (by decide)
          clear hcs hbl
          have hba := oneB wr (.cells #[.int .i64 l.s, .int .i64 l.n, .int .i64 l.b, .int .i64 l.a] 50)
          have Hb19 := kbq Hb18 hba
          have Hp19 := kbq Hp18 hba
          have Hn19 := kbq Hn18 hba
          have Ql19 := Lib.hid (Ql18.out.kept hba)
          have Qv19 := Lib.hid (Qv18.out.kept hba)
          have Qi19 := Lib.hid (Qi18.out.kept hba)
          have Hil19 := Lib.hid (Blk.new wr #[.int .i64 l.s, .int .i64 l.n, .int .i64 l.b, .int .i64 l.a] 50)
          have HB19 := Lib.hid (HB18.out.alloc HB18.out.size (.cells #[.int .i64 l.s, .int .i64 l.n, .int .i64 l.b, .int .i64 l.a] 50))
          have HZ19 := kzq HZ18 hba.size
          have HGgl : Hid (w.heap.size ≤ wr.heap.size) := Lib.hid HB18.out.size
          clear hba Hb18 Hp18 Hn18 Ql18 Qv18 Qi18 HB18 HZ18
          go_upto_region 31 with fail
          clear c0 c1 c2 c3
          generalize (wr.alloc (.cells #[.int .i64 l.s, .int .i64 l.n, .int .i64 l.b, .int .i64 l.a] 50)) = Y2 at *
          generalize hggl : wr.heap.size = gl at *
          clear hggl
          clear HGgl
          have HG := Lib.hid (dget_any Y2 0 pi7 none ni7 ci7 0 0 l.s l.n xs7 Qv19.out.its.1 Qv19.out.nx.symm Qv19.out.good.1 (by have h1 := Qv19.out.nx; have h2 := HXL.out; have h3 := HLN.out.2; omega))
          rw [HFQ.out] at HG
          simp only [Option.getD_some, Option.isSome_some] at HG
          unfold bookV idV Itm.v at HG
          have a0 : Y2.cell? ⟨gb, 0, none⟩ = some (.int .i64 0) := Hb19.out.cell 0
          have a1 : Y2.cell? ⟨gb, 1, none⟩ = some (.slice pi7 ni7 ci7) := Hb19.out.cell 1
          have a2 : Y2.cell? ⟨gb, 2, none⟩ = some (.slice none 0 0) := Hb19.out.cell 2
          have i0 : Y2.cell? ⟨gl, 0, none⟩ = some (.int .i64 l.s) := Hil19.out.cell 0
          have i1 : Y2.cell? ⟨gl, 1, none⟩ = some (.int .i64 l.n) := Hil19.out.cell 1
          go_wp2_with fail
          clear a0 a1 a2 i0 i1
          refine HG.out.mono ?_
          rintro y9 w8 ⟨rfl, hb⟩
          clear HG
          have Hb20 := kbq Hb19 hb
          have Hp20 := kbq Hp19 hb
          have Hn20 := kbq Hn19 hb
          have Hil20 := kbq Hil19 hb
          have Ql20 := Lib.hid (Ql19.out.kept hb)
          have Qv20 := Lib.hid (Qv19.out.kept hb)
          have Qi20 := Lib.hid (Qi19.out.kept hb)
          have HB20 := ktq HB19 hb
          have HZ20 := kzq HZ19 hb.size
          clear Hb19 Hp19 Hn19 Hil19 Ql19 Qv19 Qi19 HB19 HZ19
          clear hb
          have hba := oneB w8 (.cells #[.int .i64 qi.s, .int .i64 qi.n, .int .i64 qi.b, .int .i64 qi.c, .int .i64 qi.a, .int .i64 qi.r, .int .i64 qi.t, .int .i64 qi.y] 54)
          have Hb21 := kbq Hb20 hba
          have Hp21 := kbq Hp20 hba
          have Hn21 := kbq Hn20 hba
          have Hil21 := kbq Hil20 hba
          have Ql21 := Lib.hid (Ql20.out.kept hba)
          have Qv21 := Lib.hid (Qv20.out.kept hba)
          have Qi21 := Lib.hid (Qi20.out.kept hba)
          have Hiq21 := Lib.hid (Blk.new w8 #[.int .i64 qi.s, .int .i64 qi.n, .int .i64 qi.b, .int .i64 qi.c, .int .i64 qi.a, .int .i64 qi.r, .int .i64 qi.t, .int .i64 qi.y] 54)
          have HB21 := Lib.hid (HB20.out.alloc HB20.out.size (.cells #[.int .i64 qi.s, .int .i64 qi.n, .int .i64 qi.b, .int .i64 qi.c, .int .i64 qi.a, .int .i64 qi.r, .int .i64 qi.t, .int .i64 qi.y] 54))
          have HZ21 := kzq HZ20 hba.size
          have HGgq : Hid (w.heap.size ≤ w8.heap.size) := Lib.hid HB20.out.size
          clear hba Hb20 Hp20 Hn20 Hil20 Ql20 Qv20 Qi20 HB20 HZ20
          go_upto_region 32 with fail
          generalize (w8.alloc (.cells #[.int .i64 qi.s, .int .i64 qi.n, .int .i64 qi.b, .int .i64 qi.c, .int .i64 qi.a, .int .i64 qi.r, .int .i64 qi.t, .int .i64 qi.y] 54)) = Y3 at *
          generalize hggq : w8.heap.size = gq at *
          clear hggq
          clear HGgq
          have hqa : (qi.t != 3) = false := by rw [HQT.out.1]; rfl
          have hqb : (qi.y != 77) = false := by rw [HQT.out.2.1]; rfl
          have hqc : (qi.a != l.a) = false := by rw [HQT.out.2.2]; simp
          have e3 : Y3.cell? ⟨gl, 3, none⟩ = some (.int .i64 l.a) := Hil21.out.cell 3
          have f4 : Y3.cell? ⟨gq, 4, none⟩ = some (.int .i64 qi.a) := Hiq21.out.cell 4
          have f6 : Y3.cell? ⟨gq, 6, none⟩ = some (.int .i64 qi.t) := Hiq21.out.cell 6
          have f7 : Y3.cell? ⟨gq, 7, none⟩ = some (.int .i64 qi.y) := Hiq21.out.cell 7
          have HNJ := Lib.hid Qi21.out
          go_wp2_with fail
          go_roundw
          case rel => exact ⟨r + 1, by omega, by go_num, HNJ⟩
          case measure => simp [intOf]; omega
         ·skip
          have hlrI : ¬ (r : Int) < (LS.length : Int) := by omega
          clear Qi18
          have HNX9 : Hid (Blk wr gp #[.int .i64 0, .int .i64 3, .slice p7 n7 c7] 36 ∧ Blk wr gb #[.int .i64 0, .slice pi7 ni7 ci7, .slice none 0 0] 28 ∧ Blk wr gn #[.int .i64 z0, .int .i64 z1, .int .i64 z2] 2 ∧ Vt (NotIn [gb, gp, gn]) wr 0 p7 n7 c7 pi7 ni7 ci7 ps7 xs7 ∧ RwN encN (NotIn [gb, gp, gn]) wr (.slice lp LS.length lc) LS ∧ Below w.heap.size w wr) := ⟨Hp18.out, Hb18.out, Hn18.out, Qv18.out, Ql18.out, HB18.out⟩
          have HLN9 : Hid (ps7.length ≤ k + 1 + 2 ∧ xs7.length ≤ 40) := Lib.hid ⟨by have h1 := HPL.out; have h2 := HLN.out.1; omega, by have h1 := HXL.out; have h2 := HLN.out.2; omega⟩
          have HKK9 := HKW
          clear Hb18 Hp18 Hn18 Ql18 Qv18 HB18 HZ18
          go_wp2_with fail
          go_roundw
          case rel => exact ⟨k + 1, _, _, _, _, _, _, _, _, by omega, by go_num, HLN9, HKK9, HNX9⟩
          case measure => simp [intOf]; omega
       ·skip
        clear Hd14
        have HNX9 : Hid (Blk V1 gp #[.int .i64 0, .int .i64 3, .slice p n c] 36 ∧ Blk V1 gb #[.int .i64 0, .slice pi ni ci, .slice none 0 0] 28 ∧ Blk V1 gn #[.int .i64 z0, .int .i64 z1, .int .i64 z2] 2 ∧ Vt (NotIn [gb, gp, gn]) V1 0 p n c pi ni ci ps xs ∧ RwN encN (NotIn [gb, gp, gn]) V1 (.slice lp LS.length lc) LS ∧ Below w.heap.size w V1) := ⟨Hp14.out, Hb14.out, Hn14.out, Qv14.out, Ql14.out, HB14.out⟩
        have HLN9 : Hid (ps.length ≤ k + 1 + 2 ∧ xs.length ≤ 40) := Lib.hid ⟨by have h1 := HLN.out.1; omega, HLN.out.2⟩
        have HKK9 := HKK
        clear Hb14 Hp14 Hn14 Qv14 Ql14 HB14 HZ14
        go_wp2_with fail
        go_roundw
        case rel => exact ⟨k + 1, _, _, _, _, _, _, _, _, by omega, by go_num, HLN9, HKK9, HNX9⟩
        case measure => simp [intOf]; omega
     ·skip
      have hltI : ¬ (k : Int) < (n2 : Int) := by omega
      cases yes
      ·skip
       have HGX := Lib.hid Qv13.out.good
       have HG := Lib.hid (vdo_q wr (NotIn [gb, gp, gn]) 0 3 0 p n c pi ni ci none 0 0 ps xs (sayX 14 77 false) (3) Qv13.out (fun b hb hm => by have h1 := Hn13.out.lt; have h2 := HGN.out; simp only [List.mem_cons, List.not_mem_nil, or_false] at hm; omega) (by have h1 := HLN.out.1; have h2 := HFW.out.2.1; have h3 := HL2.out; omega) (by have h1 := HLN.out.2; omega) (sayX_in _ _ _ _ (by decide) (by decide)) (by decide) (by decide))
       unfold sayX Msg.v at HG
       have a0 : wr.cell? ⟨gp, 0, none⟩ = some (.int .i64 0) := Hp13.out.cell 0
       have a1 : wr.cell? ⟨gp, 1, none⟩ = some (.int .i64 3) := Hp13.out.cell 1
       have a2 : wr.cell? ⟨gp, 2, none⟩ = some (.slice p n c) := Hp13.out.cell 2
       have b0 : wr.cell? ⟨gb, 0, none⟩ = some (.int .i64 0) := Hb13.out.cell 0
       have b1 : wr.cell? ⟨gb, 1, none⟩ = some (.slice pi ni ci) := Hb13.out.cell 1
       have b2 : wr.cell? ⟨gb, 2, none⟩ = some (.slice none 0 0) := Hb13.out.cell 2
       go_wp2_with fail
       clear a0 a1 a2 b0 b1 b2 
       refine HG.out.mono ?_
       rintro y9 w7 ⟨hb, p7, n7, c7, pi7, ni7, ci7, pv7, nv7, cv7, ps7, xs7, out7, e7, rfl, hv, hnv, hsd, hG⟩
       clear HG
       have HXL := Lib.hid (vote_items HGX.out hG).2.1
       have HPL := Lib.hid ((vote_puts Qv13.out.ql (by decide) hG).len Qv13.out.pts.srt)
       obtain ⟨rfl, hdl, hdq⟩ := keeps4b (t := false) HGX.out HKK.out.1 HLS.out HKK.out.2 hG
       have HLI := Lib.hid hdl
       have HDQ := Lib.hid hdq
       clear hG hnv HGX hdl hdq Qv13
       have Hb14 := kbq Hb13 hb
       have Hp14 := kbq Hp13 hb
       have Hn14 := kbq Hn13 hb
       have Ql14 := Lib.hid (Ql13.out.kept hb)
       have HB14 := ktq HB13 hb
       have HZ14 := kzq HZ13 hb.size
       clear Hb13 Hp13 Hn13 Ql13 HB13 HZ13
       clear hb
       have Qv14 := Lib.hid hv
       have Qs14 := Lib.hid hsd
       clear hv hsd
       clear Qs14 hltI
       go_wp2_with (with_reducible refine stop_storeT 36 (.tmp 10) (.tmp 188) rfl ?_)
       have HTH : Hid (w7.there gp 0 3) := Hp14.out.thereAt
       have hch : Hid (Chg gp w7 (w7.setCells gp 0 (#[.int .i64 0, .int .i64 3, .slice p7 n7 c7] : Array Value).toList)) := Lib.hid (chg_putL _ _ _ _ _ (Chg.refl _ w7))
       have Hp15 : Hid (Blk (w7.setCells gp 0 (#[.int .i64 0, .int .i64 3, .slice p7 n7 c7] : Array Value).toList) gp #[.int .i64 0, .int .i64 3, .slice p7 n7 c7] 36) := Lib.hid (blk_put_all Hp14.out _ rfl)
       have HB15 : Hid (Below w.heap.size w (w7.setCells gp 0 (#[.int .i64 0, .int .i64 3, .slice p7 n7 c7] : Array Value).toList)) := Lib.hid (below_put (by have h9 := HGN.out; omega) _ _ _ _ HB14.out)
       have HZ15 := kzq HZ14 hch.out.size
       have Hb15 := kcq Hb14 hch (by have h9 := HGN.out; omega)
       have Hn15 := kcq Hn14 hch (by have h9 := HGN.out; omega)
       have Ql15 := Lib.hid (Ql14.out.chg hch.out (notIn_self (by simp)))
       have Qv15 := Lib.hid (Qv14.out.chg hch.out (notIn_self (by simp)))
       clear hch Hb14 Hp14 Hn14 Ql14 Qv14 HB14 HZ14
       refine wpList_store_mid rfl 36 (.tmp 10) (.tmp 188) rfl gp 0 #[.int .i64 0, .int .i64 3, .slice p7 n7 c7] rfl rfl HTH.out (infoP3 rfl) (all_oneCell_toArray (by intro u hu; simp at hu; rcases hu with rfl | rfl | rfl <;> rfl)) ?_
       generalize (w7.setCells gp 0 (#[.int .i64 0, .int .i64 3, .slice p7 n7 c7] : Array Value).toList) = X1 at *
       clear HTH
       go_wp2_with (with_reducible refine stop_storeT 28 (.tmp 7) (.tmp 189) rfl ?_)
       have HTH : Hid (X1.there gb 0 3) := Hb15.out.thereAt
       have hch : Hid (Chg gb X1 (X1.setCells gb 0 (#[.int .i64 0, .slice pi7 ni7 ci7, .slice none 0 0] : Array Value).toList)) := Lib.hid (chg_putL _ _ _ _ _ (Chg.refl _ X1))
       have Hb16 : Hid (Blk (X1.setCells gb 0 (#[.int .i64 0, .slice pi7 ni7 ci7, .slice none 0 0] : Array Value).toList) gb #[.int .i64 0, .slice pi7 ni7 ci7, .slice none 0 0] 28) := Lib.hid (blk_put_all Hb15.out _ rfl)
       have HB16 : Hid (Below w.heap.size w (X1.setCells gb 0 (#[.int .i64 0, .slice pi7 ni7 ci7, .slice none 0 0] : Array Value).toList)) := Lib.hid (below_put (by have h9 := HGN.out; omega) _ _ _ _ HB15.out)
       have HZ16 := kzq HZ15 hch.out.size
       have Hp16 := kcq Hp15 hch (by have h9 := HGN.out; omega)
       have Hn16 := kcq Hn15 hch (by have h9 := HGN.out; omega)
       have Ql16 := Lib.hid (Ql15.out.chg hch.out (notIn_self (by simp)))
       have Qv16 := Lib.hid (Qv15.out.chg hch.out (notIn_self (by simp)))
       clear hch Hb15 Hp15 Hn15 Ql15 Qv15 HB15 HZ15
       refine wpList_store_mid rfl 28 (.tmp 7) (.tmp 189) rfl gb 0 #[.int .i64 0, .slice pi7 ni7 ci7, .slice none 0 0] rfl rfl HTH.out (infoB3 rfl) (all_oneCell_toArray (by intro u hu; simp at hu; rcases hu with rfl | rfl | rfl <;> rfl)) ?_
       generalize (X1.setCells gb 0 (#[.int .i64 0, .slice pi7 ni7 ci7, .slice none 0 0] : Array Value).toList) = X2 at *
       clear HTH
       go_upto_region 37 with fail
       go_cut [192, 193, 194] from 29 (fun a1 a2 a3 wx => a1 = .slice lp LS.length lc ∧ a2 = .int .i64 LS.length ∧ a3 = .int .i64 0 ∧ wx = X2)
       case first =>
        go_wp2_with fail
        go_meet
        case rel => exact ⟨rfl, rfl, rfl, rfl⟩
       case rest =>
        obtain ⟨rfl, rfl, rfl, hwc⟩ := hcut
        replace hwc := hwc.symm
        subst hwc
        have HJ : Hid (BelB X2 X2) := Lib.hid (BelB.refl _)
        go_upto_region 38 with fail
        go_loopw [194] (fun i wr => ∃ r : Nat, r ≤ LS.length ∧ i = .int .i64 r ∧ Hid (BelB X2 wr)) (fun i _ => LS.length - (intOf i).toNat)
        case atStart => exact ⟨0, by omega, rfl, HJ⟩
        case round =>
         clear HJ
         obtain ⟨r, hr, rfl, HJ⟩ := hrel
         have hbj := HJ.out
         unfold BelB at hbj
         have Hb17 := kbq Hb16 hbj
         have Hp17 := kbq Hp16 hbj
         have Hn17 := kbq Hn16 hbj
         have Ql17 := Lib.hid (Ql16.out.kept hbj)
         have Qv17 := Lib.hid (Qv16.out.kept hbj)
         have HB17 := ktq HB16 hbj
         have HZ17 := kzq HZ16 hbj.size
         clear Hb16 Hp16 Hn16 Ql16 Qv16 HB16 HZ16
         clear hbj
         have Qi17 := HJ
         clear HJ
         have hr9 : r + 1 ≤ 41 := by have h1 := HLL.out; omega
         by_cases hlr : r < LS.length
         ·skip
          have hlrI : (r : Int) < (LS.length : Int) := by omega
          have HQ1 := Lib.hid (HLI.out _ (List.getElem_mem hlr))
          obtain ⟨bz, oz, hpz, hbl, hcs⟩ := Ql17.out.1.at_ r hlr
          rw [hpz]
          generalize (LS[r]) = l at *
          obtain ⟨qi, hfq, hqr⟩ := HQ1.out
          have HFQ := Lib.hid hfq
          have HQT := Lib.hid hqr
          clear HQ1 hfq hqr
          have c0 : wr.cell? ⟨bz, oz + r * 4, none⟩ = some (.int .i64 l.s) := hcs 0 (by decide)
          have c1 : wr.cell? ⟨bz, oz + r * 4 + 1, none⟩ = some (.int .i64 l.n) := hcs 1 (by decide)
          have c2 : wr.cell? ⟨bz, oz + r * 4 + 2, none⟩ = some (.int .i64 l.b) := hcs 2 (by decide)
          have c3 : wr.cell? ⟨bz, oz + r * 4 + 3, none⟩ = some (.int .i64 l.a) := hcs 3 (by decide)
          clear hcs hbl
          have hba := oneB wr (.cells #[.int .i64 l.s, .int .i64 l.n, .int .i64 l.b, .int .i64 l.a] 50)
          have Hb18 := kbq Hb17 hba
          have Hp18 := kbq Hp17 hba
          have Hn18 := kbq Hn17 hba
          have Ql18 := Lib.hid (Ql17.out.kept hba)
          have Qv18 := Lib.hid (Qv17.out.kept hba)
          have Qi18 := Lib.hid (Qi17.out.kept hba)
          have Hil18 := Lib.hid (Blk.new wr #[.int .i64 l.s, .int .i64 l.n, .int .i64 l.b, .int .i64 l.a] 50)
          have HB18 := Lib.hid (HB17.out.alloc HB17.out.size (.cells #[.int .i64 l.s, .int .i64 l.n, .int .i64 l.b, .int .i64 l.a] 50))
          have HZ18 := kzq HZ17 hba.size
          have HGgl : Hid (w.heap.size ≤ wr.heap.size) := Lib.hid HB17.out.size
          clear hba Hb17 Hp17 Hn17 Ql17 Qv17 Qi17 HB17 HZ17
          go_upto_region 40 with fail
          clear c0 c1 c2 c3
          generalize (wr.alloc (.cells #[.int .i64 l.s, .int .i64 l.n, .int .i64 l.b, .int .i64 l.a] 50)) = Y2 at *
          generalize hggl : wr.heap.size = gl at *
          clear hggl
          clear HGgl
          have HG := Lib.hid (dget_any Y2 0 pi7 none ni7 ci7 0 0 l.s l.n xs7 Qv18.out.its.1 Qv18.out.nx.symm Qv18.out.good.1 (by have h1 := Qv18.out.nx; have h2 := HXL.out; have h3 := HLN.out.2; omega))
          rw [HFQ.out] at HG
          simp only [Option.getD_some, Option.isSome_some] at HG
          unfold bookV idV Itm.v at HG
          have a0 : Y2.cell? ⟨gb, 0, none⟩ = some (.int .i64 0) := Hb18.out.cell 0
          have a1 : Y2.cell? ⟨gb, 1, none⟩ = some (.slice pi7 ni7 ci7) := Hb18.out.cell 1
          have a2 : Y2.cell? ⟨gb, 2, none⟩ = some (.slice none 0 0) := Hb18.out.cell 2
          have i0 : Y2.cell? ⟨gl, 0, none⟩ = some (.int .i64 l.s) := Hil18.out.cell 0
          have i1 : Y2.cell? ⟨gl, 1, none⟩ = some (.int .i64 l.n) := Hil18.out.cell 1
          go_wp2_with fail
          clear a0 a1 a2 i0 i1
          refine HG.out.mono ?_
          rintro y9 w8 ⟨rfl, hb⟩
          clear HG
          have Hb19 := kbq Hb18 hb
          have Hp19 := kbq Hp18 hb
          have Hn19 := kbq Hn18 hb
          have Hil19 := kbq Hil18 hb
          have Ql19 := Lib.hid (Ql18.out.kept hb)
          have Qv19 := Lib.hid (Qv18.out.kept hb)
          have Qi19 := Lib.hid (Qi18.out.kept hb)
          have HB19 := ktq HB18 hb
          have HZ19 := kzq HZ18 hb.size
          clear Hb18 Hp18 Hn18 Hil18 Ql18 Qv18 Qi18 HB18 HZ18
          clear hb
          have hba := oneB w8 (.cells #[.int .i64 qi.s, .int .i64 qi.n, .int .i64 qi.b, .int .i64 qi.c, .int .i64 qi.a, .int .i64 qi.r, .int .i64 qi.t, .int .i64 qi.y] 54)
          have Hb20 := kbq Hb19 hba
          have Hp20 := kbq Hp19 hba
          have Hn20 := kbq Hn19 hba
          have Hil20 := kbq Hil19 hba
          have Ql20 := Lib.hid (Ql19.out.kept hba)
          have Qv20 := Lib.hid (Qv19.out.kept hba)
          have Qi20 := Lib.hid (Qi19.out.kept hba)
          have Hiq20 := Lib.hid (Blk.new w8 #[.int .i64 qi.s, .int .i64 qi.n, .int .i64 qi.b, .int .i64 qi.c, .int .i64 qi.a, .int .i64 qi.r, .int .i64 qi.t, .int .i64 qi.y] 54)
          have HB20 := Lib.hid (HB19.out.alloc HB19.out.size (.cells #[.int .i64 qi.s, .int .i64 qi.n, .int .i64 qi.b, .int .i64 qi.c, .int .i64 qi.a, .int .i64 qi.r, .int .i64 qi.t, .int .i64 qi.y] 54))
          have HZ20 := kzq HZ19 hba.size
          have HGgq : Hid (w.heap.size ≤ w8.heap.size) := Lib.hid HB19.out.size
          clear hba Hb19 Hp19 Hn19 Hil19 Ql19 Qv19 Qi19 HB19 HZ19
          go_upto_region 41 with fail
          generalize (w8.alloc (.cells #[.int .i64 qi.s, .int .i64 qi.n, .int .i64 qi.b, .int .i64 qi.c, .int .i64 qi.a, .int .i64 qi.r, .int .i64 qi.t, .int .i64 qi.y] 54)) = Y3 at *
          generalize hggq : w8.heap.size = gq at *
          clear hggq
          clear HGgq
          have hq9 := HQT.out.2 (by trivial)
          have HQ9 := Lib.hid hq9
          clear hq9
          have hqa : (qi.t != 3) = false := by rw [HQ9.out.1]; rfl
          have hqb : (qi.y != 0) = false := by rw [HQ9.out.2]; rfl
          have f6 : Y3.cell? ⟨gq, 6, none⟩ = some (.int .i64 qi.t) := Hiq20.out.cell 6
          have f7 : Y3.cell? ⟨gq, 7, none⟩ = some (.int .i64 qi.y) := Hiq20.out.cell 7
          have HNJ := Lib.hid Qi20.out
          go_wp2_with fail
          go_roundw
          case rel => exact ⟨r + 1, by omega, by go_num, HNJ⟩
          case measure => simp [intOf]; omega
         ·skip
          have hlrI : ¬ (r : Int) < (LS.length : Int) := by omega
          clear hr9
          clear Qi17
          obtain ⟨⟨qy, qu, qt, qp, qc, ql⟩, hfc, hst0⟩ := HDQ.out
          have hst : qt = 5 := hst0
          clear hst0
          subst hst
          have HFC := Lib.hid hfc
          clear hfc HDQ
          have HG := Lib.hid (vget_any wr 0 3 p7 n7 c7 ps7 77 _ Qv17.out.pts Qv17.out.np (by have h1 := HPL.out; have h2 := HLN.out.1; have h3 := HFW.out.2.1; have h4 := HL2.out; omega) Qv17.out.ql)
          rw [HFC.out] at HG
          dsimp only at HG
          have a0 : wr.cell? ⟨gp, 0, none⟩ = some (.int .i64 0) := Hp17.out.cell 0
          have a1 : wr.cell? ⟨gp, 1, none⟩ = some (.int .i64 3) := Hp17.out.cell 1
          have a2 : wr.cell? ⟨gp, 2, none⟩ = some (.slice p7 n7 c7) := Hp17.out.cell 2
          go_wp2_with fail
          clear a0 a1 a2
          refine HG.out.mono ?_
          rintro y9 w9 ⟨⟨pg, cg, rfl⟩, hb⟩
          clear HG
          have Hb18 := kbq Hb17 hb
          have Hp18 := kbq Hp17 hb
          have Hn18 := kbq Hn17 hb
          have Ql18 := Lib.hid (Ql17.out.kept hb)
          have Qv18 := Lib.hid (Qv17.out.kept hb)
          have HB18 := ktq HB17 hb
          have HZ18 := kzq HZ17 hb.size
          clear Hb17 Hp17 Hn17 Ql17 Qv17 HB17 HZ17
          clear hb
          have hba := oneB w9 (.cells #[.int .i64 qy, .int .i64 qu, .int .i64 5, .slice pg ql.length cg] 58)
          have Hb19 := kbq Hb18 hba
          have Hp19 := kbq Hp18 hba
          have Hn19 := kbq Hn18 hba
          have Ql19 := Lib.hid (Ql18.out.kept hba)
          have Qv19 := Lib.hid (Qv18.out.kept hba)
          have Hy19 := Lib.hid (Blk.new w9 #[.int .i64 qy, .int .i64 qu, .int .i64 5, .slice pg ql.length cg] 58)
          have HB19 := Lib.hid (HB18.out.alloc HB18.out.size (.cells #[.int .i64 qy, .int .i64 qu, .int .i64 5, .slice pg ql.length cg] 58))
          have HZ19 := kzq HZ18 hba.size
          have HGgy : Hid (w.heap.size ≤ w9.heap.size) := Lib.hid HB18.out.size
          clear hba Hb18 Hp18 Hn18 Ql18 Qv18 HB18 HZ18
          go_upto_region 45 with fail
          generalize (w9.alloc (.cells #[.int .i64 qy, .int .i64 qu, .int .i64 5, .slice pg ql.length cg] 58)) = Y9 at *
          generalize hggy : w9.heap.size = gy at *
          clear hggy
          clear HGgy
          have f2 : Y9.cell? ⟨gy, 2, none⟩ = some (.int .i64 5) := Hy19.out.cell 2
          go_wp2_with fail
          go_ret
          exact ⟨rfl, HB19.out⟩
      ·skip
       have HGX := Lib.hid Qv13.out.good
       have HG := Lib.hid (vdo_q wr (NotIn [gb, gp, gn]) 0 3 0 p n c pi ni ci none 0 0 ps xs (sayX 14 77 true) (3) Qv13.out (fun b hb hm => by have h1 := Hn13.out.lt; have h2 := HGN.out; simp only [List.mem_cons, List.not_mem_nil, or_false] at hm; omega) (by have h1 := HLN.out.1; have h2 := HFW.out.2.1; have h3 := HL2.out; omega) (by have h1 := HLN.out.2; omega) (sayX_in _ _ _ _ (by decide) (by decide)) (by decide) (by decide))
       unfold sayX Msg.v at HG
       have a0 : wr.cell? ⟨gp, 0, none⟩ = some (.int .i64 0) := Hp13.out.cell 0
       have a1 : wr.cell? ⟨gp, 1, none⟩ = some (.int .i64 3) := Hp13.out.cell 1
       have a2 : wr.cell? ⟨gp, 2, none⟩ = some (.slice p n c) := Hp13.out.cell 2
       have b0 : wr.cell? ⟨gb, 0, none⟩ = some (.int .i64 0) := Hb13.out.cell 0
       have b1 : wr.cell? ⟨gb, 1, none⟩ = some (.slice pi ni ci) := Hb13.out.cell 1
       have b2 : wr.cell? ⟨gb, 2, none⟩ = some (.slice none 0 0) := Hb13.out.cell 2
       go_wp2_with fail
       clear a0 a1 a2 b0 b1 b2 
       refine HG.out.mono ?_
       rintro y9 w7 ⟨hb, p7, n7, c7, pi7, ni7, ci7, pv7, nv7, cv7, ps7, xs7, out7, e7, rfl, hv, hnv, hsd, hG⟩
       clear HG
       have HXL := Lib.hid (vote_items HGX.out hG).2.1
       have HPL := Lib.hid ((vote_puts Qv13.out.ql (by decide) hG).len Qv13.out.pts.srt)
       obtain ⟨rfl, hdl, hdq⟩ := keeps4b (t := true) HGX.out HKK.out.1 HLS.out HKK.out.2 hG
       have HLI := Lib.hid hdl
       have HDQ := Lib.hid hdq
       clear hG hnv HGX hdl hdq Qv13
       have Hb14 := kbq Hb13 hb
       have Hp14 := kbq Hp13 hb
       have Hn14 := kbq Hn13 hb
       have Ql14 := Lib.hid (Ql13.out.kept hb)
       have HB14 := ktq HB13 hb
       have HZ14 := kzq HZ13 hb.size
       clear Hb13 Hp13 Hn13 Ql13 HB13 HZ13
       clear hb
       have Qv14 := Lib.hid hv
       have Qs14 := Lib.hid hsd
       clear hv hsd
       clear Qs14 hltI
       go_wp2_with (with_reducible refine stop_storeT 36 (.tmp 10) (.tmp 188) rfl ?_)
       have HTH : Hid (w7.there gp 0 3) := Hp14.out.thereAt
       have hch : Hid (Chg gp w7 (w7.setCells gp 0 (#[.int .i64 0, .int .i64 3, .slice p7 n7 c7] : Array Value).toList)) := Lib.hid (chg_putL _ _ _ _ _ (Chg.refl _ w7))
       have Hp15 : Hid (Blk (w7.setCells gp 0 (#[.int .i64 0, .int .i64 3, .slice p7 n7 c7] : Array Value).toList) gp #[.int .i64 0, .int .i64 3, .slice p7 n7 c7] 36) := Lib.hid (blk_put_all Hp14.out _ rfl)
       have HB15 : Hid (Below w.heap.size w (w7.setCells gp 0 (#[.int .i64 0, .int .i64 3, .slice p7 n7 c7] : Array Value).toList)) := Lib.hid (below_put (by have h9 := HGN.out; omega) _ _ _ _ HB14.out)
       have HZ15 := kzq HZ14 hch.out.size
       have Hb15 := kcq Hb14 hch (by have h9 := HGN.out; omega)
       have Hn15 := kcq Hn14 hch (by have h9 := HGN.out; omega)
       have Ql15 := Lib.hid (Ql14.out.chg hch.out (notIn_self (by simp)))
       have Qv15 := Lib.hid (Qv14.out.chg hch.out (notIn_self (by simp)))
       clear hch Hb14 Hp14 Hn14 Ql14 Qv14 HB14 HZ14
       refine wpList_store_mid rfl 36 (.tmp 10) (.tmp 188) rfl gp 0 #[.int .i64 0, .int .i64 3, .slice p7 n7 c7] rfl rfl HTH.out (infoP3 rfl) (all_oneCell_toArray (by intro u hu; simp at hu; rcases hu with rfl | rfl | rfl <;> rfl)) ?_
       generalize (w7.setCells gp 0 (#[.int .i64 0, .int .i64 3, .slice p7 n7 c7] : Array Value).toList) = X1 at *
       clear HTH
       go_wp2_with (with_reducible refine stop_storeT 28 (.tmp 7) (.tmp 189) rfl ?_)
       have HTH : Hid (X1.there gb 0 3) := Hb15.out.thereAt
       have hch : Hid (Chg gb X1 (X1.setCells gb 0 (#[.int .i64 0, .slice pi7 ni7 ci7, .slice none 0 0] : Array Value).toList)) := Lib.hid (chg_putL _ _ _ _ _ (Chg.refl _ X1))
       have Hb16 : Hid (Blk (X1.setCells gb 0 (#[.int .i64 0, .slice pi7 ni7 ci7, .slice none 0 0] : Array Value).toList) gb #[.int .i64 0, .slice pi7 ni7 ci7, .slice none 0 0] 28) := Lib.hid (blk_put_all Hb15.out _ rfl)
       have HB16 : Hid (Below w.heap.size w (X1.setCells gb 0 (#[.int .i64 0, .slice pi7 ni7 ci7, .slice none 0 0] : Array Value).toList)) := Lib.hid (below_put (by have h9 := HGN.out; omega) _ _ _ _ HB15.out)
       have HZ16 := kzq HZ15 hch.out.size
       have Hp16 := kcq Hp15 hch (by have h9 := HGN.out; omega)
       have Hn16 := kcq Hn15 hch (by have h9 := HGN.out; omega)
       have Ql16 := Lib.hid (Ql15.out.chg hch.out (notIn_self (by simp)))
       have Qv16 := Lib.hid (Qv15.out.chg hch.out (notIn_self (by simp)))
       clear hch Hb15 Hp15 Hn15 Ql15 Qv15 HB15 HZ15
       refine wpList_store_mid rfl 28 (.tmp 7) (.tmp 189) rfl gb 0 #[.int .i64 0, .slice pi7 ni7 ci7, .slice none 0 0] rfl rfl HTH.out (infoB3 rfl) (all_oneCell_toArray (by intro u hu; simp at hu; rcases hu with rfl | rfl | rfl <;> rfl)) ?_
       generalize (X1.setCells gb 0 (#[.int .i64 0, .slice pi7 ni7 ci7, .slice none 0 0] : Array Value).toList) = X2 at *
       clear HTH
       go_upto_region 37 with fail
       go_cut [192, 193, 194] from 29 (fun a1 a2 a3 wx => a1 = .slice lp LS.length lc ∧ a2 = .int .i64 LS.length ∧ a3 = .int .i64 0 ∧ wx = X2)
       case first =>
        go_wp2_with fail
        go_meet
        case rel => exact ⟨rfl, rfl, rfl, rfl⟩
       case rest =>
        obtain ⟨rfl, rfl, rfl, hwc⟩ := hcut
        replace hwc := hwc.symm
        subst hwc
        have HJ : Hid (BelB X2 X2) := Lib.hid (BelB.refl _)
        go_upto_region 38 with fail
        go_loopw [194] (fun i wr => ∃ r : Nat, r ≤ LS.length ∧ i = .int .i64 r ∧ Hid (BelB X2 wr)) (fun i _ => LS.length - (intOf i).toNat)
        case atStart => exact ⟨0, by omega, rfl, HJ⟩
        case round =>
         clear HJ
         obtain ⟨r, hr, rfl, HJ⟩ := hrel
         have hbj := HJ.out
         unfold BelB at hbj
         have Hb17 := kbq Hb16 hbj
         have Hp17 := kbq Hp16 hbj
         have Hn17 := kbq Hn16 hbj
         have Ql17 := Lib.hid (Ql16.out.kept hbj)
         have Qv17 := Lib.hid (Qv16.out.kept hbj)
         have HB17 := ktq HB16 hbj
         have HZ17 := kzq HZ16 hbj.size
         clear Hb16 Hp16 Hn16 Ql16 Qv16 HB16 HZ16
         clear hbj
         have Qi17 := HJ
         clear HJ
         have hr9 : r + 1 ≤ 41 := by have h1 := HLL.out; omega
         by_cases hlr : r < LS.length
         ·skip
          have hlrI : (r : Int) < (LS.length : Int) := by omega
          have HQ1 := Lib.hid (HLI.out _ (List.getElem_mem hlr))
          obtain ⟨bz, oz, hpz, hbl, hcs⟩ := Ql17.out.1.at_ r hlr
          rw [hpz]
          generalize (LS[r]) = l at *
          obtain ⟨qi, hfq, hqr⟩ := HQ1.out
          have HFQ := Lib.hid hfq
          have HQT := Lib.hid hqr
          clear HQ1 hfq hqr
          have c0 : wr.cell? ⟨bz, oz + r * 4, none⟩ = some (.int .i64 l.s) := hcs 0 (by decide)
          have c1 : wr.cell? ⟨bz, oz + r * 4 + 1, none⟩ = some (.int .i64 l.n) := hcs 1 (by decide)
          have c2 : wr.cell? ⟨bz, oz + r * 4 + 2, none⟩ = some (.int .i64 l.b) := hcs 2 (by decide)
          have c3 : wr.cell? ⟨bz, oz + r * 4 + 3, none⟩ = some (.int .i64 l.a) := hcs 3 (by decide)
          clear hcs hbl
          have hba := oneB wr (.cells #[.int .i64 l.s, .int .i64 l.n, .int .i64 l.b, .int .i64 l.a] 50)
          have Hb18 := kbq Hb17 hba
          have Hp18 := kbq Hp17 hba
          have Hn18 := kbq Hn17 hba
          have Ql18 := Lib.hid (Ql17.out.kept hba)
          have Qv18 := Lib.hid (Qv17.out.kept hba)
          have Qi18 := Lib.hid (Qi17.out.kept hba)
          have Hil18 := Lib.hid (Blk.new wr #[.int .i64 l.s, .int .i64 l.n, .int .i64 l.b, .int .i64 l.a] 50)
          have HB18 := Lib.hid (HB17.out.alloc HB17.out.size (.cells #[.int .i64 l.s, .int .i64 l.n, .int .i64 l.b, .int .i64 l.a] 50))
          have HZ18 := kzq HZ17 hba.size
          have HGgl : Hid (w.heap.size ≤ wr.heap.size) := Lib.hid HB17.out.size
          clear hba Hb17 Hp17 Hn17 Ql17 Qv17 Qi17 HB17 HZ17
          go_upto_region 40 with fail
          clear c0 c1 c2 c3
          generalize (wr.alloc (.cells #[.int .i64 l.s, .int .i64 l.n, .int .i64 l.b, .int .i64 l.a] 50)) = Y2 at *
          generalize hggl : wr.heap.size = gl at *
          clear hggl
          clear HGgl
          have HG := Lib.hid (dget_any Y2 0 pi7 none ni7 ci7 0 0 l.s l.n xs7 Qv18.out.its.1 Qv18.out.nx.symm Qv18.out.good.1 (by have h1 := Qv18.out.nx; have h2 := HXL.out; have h3 := HLN.out.2; omega))
          rw [HFQ.out] at HG
          simp only [Option.getD_some, Option.isSome_some] at HG
          unfold bookV idV Itm.v at HG
          have a0 : Y2.cell? ⟨gb, 0, none⟩ = some (.int .i64 0) := Hb18.out.cell 0
          have a1 : Y2.cell? ⟨gb, 1, none⟩ = some (.slice pi7 ni7 ci7) := Hb18.out.cell 1
          have a2 : Y2.cell? ⟨gb, 2, none⟩ = some (.slice none 0 0) := Hb18.out.cell 2
          have i0 : Y2.cell? ⟨gl, 0, none⟩ = some (.int .i64 l.s) := Hil18.out.cell 0
          have i1 : Y2.cell? ⟨gl, 1, none⟩ = some (.int .i64 l.n) := Hil18.out.cell 1
          go_wp2_with fail
          clear a0 a1 a2 i0 i1
          refine HG.out.mono ?_
          rintro y9 w8 ⟨rfl, hb⟩
          clear HG
          have Hb19 := kbq Hb18 hb
          have Hp19 := kbq Hp18 hb
          have Hn19 := kbq Hn18 hb
          have Hil19 := kbq Hil18 hb
          have Ql19 := Lib.hid (Ql18.out.kept hb)
          have Qv19 := Lib.hid (Qv18.out.kept hb)
          have Qi19 := Lib.hid (Qi18.out.kept hb)
          have HB19 := ktq HB18 hb
          have HZ19 := kzq HZ18 hb.size
          clear Hb18 Hp18 Hn18 Hil18 Ql18 Qv18 Qi18 HB18 HZ18
          clear hb
          have hba := oneB w8 (.cells #[.int .i64 qi.s, .int .i64 qi.n, .int .i64 qi.b, .int .i64 qi.c, .int .i64 qi.a, .int .i64 qi.r, .int .i64 qi.t, .int .i64 qi.y] 54)
          have Hb20 := kbq Hb19 hba
          have Hp20 := kbq Hp19 hba
          have Hn20 := kbq Hn19 hba
          have Hil20 := kbq Hil19 hba
          have Ql20 := Lib.hid (Ql19.out.kept hba)
          have Qv20 := Lib.hid (Qv19.out.kept hba)
          have Qi20 := Lib.hid (Qi19.out.kept hba)
          have Hiq20 := Lib.hid (Blk.new w8 #[.int .i64 qi.s, .int .i64 qi.n, .int .i64 qi.b, .int .i64 qi.c, .int .i64 qi.a, .int .i64 qi.r, .int .i64 qi.t, .int .i64 qi.y] 54)
          have HB20 := Lib.hid (HB19.out.alloc HB19.out.size (.cells #[.int .i64 qi.s, .int .i64 qi.n, .int .i64 qi.b, .int .i64 qi.c, .int .i64 qi.a, .int .i64 qi.r, .int .i64 qi.t, .int .i64 qi.y] 54))
          have HZ20 := kzq HZ19 hba.size
          have HGgq : Hid (w.heap.size ≤ w8.heap.size) := Lib.hid HB19.out.size
          clear hba Hb19 Hp19 Hn19 Hil19 Ql19 Qv19 Qi19 HB19 HZ19
          go_upto_region 41 with fail
          generalize (w8.alloc (.cells #[.int .i64 qi.s, .int .i64 qi.n, .int .i64 qi.b, .int .i64 qi.c, .int .i64 qi.a, .int .i64 qi.r, .int .i64 qi.t, .int .i64 qi.y] 54)) = Y3 at *
          generalize hggq : w8.heap.size = gq at *
          clear hggq
          clear HGgq
          have hq9 := HQT.out.1 (by trivial)
          have HQ9 := Lib.hid hq9
          clear hq9
          have hqa : (qi.t != 5) = false := by rw [HQ9.out.1]; rfl
          have hqb : (qi.y != 77) = false := by rw [HQ9.out.2]; rfl
          have f6 : Y3.cell? ⟨gq, 6, none⟩ = some (.int .i64 qi.t) := Hiq20.out.cell 6
          have f7 : Y3.cell? ⟨gq, 7, none⟩ = some (.int .i64 qi.y) := Hiq20.out.cell 7
          have HNJ := Lib.hid Qi20.out
          go_wp2_with fail
          go_roundw
          case rel => exact ⟨r + 1, by omega, by go_num, HNJ⟩
          case measure => simp [intOf]; omega
         ·skip
          have hlrI : ¬ (r : Int) < (LS.length : Int) := by omega
          clear hr9
          clear Qi17
          obtain ⟨⟨qy, qu, qt, qp, qc, ql⟩, hfc, hst0⟩ := HDQ.out
          have hst : qt = 4 := hst0
          clear hst0
          subst hst
          have HFC := Lib.hid hfc
          clear hfc HDQ
          have HG := Lib.hid (vget_any wr 0 3 p7 n7 c7 ps7 77 _ Qv17.out.pts Qv17.out.np (by have h1 := HPL.out; have h2 := HLN.out.1; have h3 := HFW.out.2.1; have h4 := HL2.out; omega) Qv17.out.ql)
          rw [HFC.out] at HG
          dsimp only at HG
          have a0 : wr.cell? ⟨gp, 0, none⟩ = some (.int .i64 0) := Hp17.out.cell 0
          have a1 : wr.cell? ⟨gp, 1, none⟩ = some (.int .i64 3) := Hp17.out.cell 1
          have a2 : wr.cell? ⟨gp, 2, none⟩ = some (.slice p7 n7 c7) := Hp17.out.cell 2
          go_wp2_with fail
          clear a0 a1 a2
          refine HG.out.mono ?_
          rintro y9 w9 ⟨⟨pg, cg, rfl⟩, hb⟩
          clear HG
          have Hb18 := kbq Hb17 hb
          have Hp18 := kbq Hp17 hb
          have Hn18 := kbq Hn17 hb
          have Ql18 := Lib.hid (Ql17.out.kept hb)
          have Qv18 := Lib.hid (Qv17.out.kept hb)
          have HB18 := ktq HB17 hb
          have HZ18 := kzq HZ17 hb.size
          clear Hb17 Hp17 Hn17 Ql17 Qv17 HB17 HZ17
          clear hb
          have hba := oneB w9 (.cells #[.int .i64 qy, .int .i64 qu, .int .i64 4, .slice pg ql.length cg] 58)
          have Hb19 := kbq Hb18 hba
          have Hp19 := kbq Hp18 hba
          have Hn19 := kbq Hn18 hba
          have Ql19 := Lib.hid (Ql18.out.kept hba)
          have Qv19 := Lib.hid (Qv18.out.kept hba)
          have Hy19 := Lib.hid (Blk.new w9 #[.int .i64 qy, .int .i64 qu, .int .i64 4, .slice pg ql.length cg] 58)
          have HB19 := Lib.hid (HB18.out.alloc HB18.out.size (.cells #[.int .i64 qy, .int .i64 qu, .int .i64 4, .slice pg ql.length cg] 58))
          have HZ19 := kzq HZ18 hba.size
          have HGgy : Hid (w.heap.size ≤ w9.heap.size) := Lib.hid HB18.out.size
          clear hba Hb18 Hp18 Hn18 Ql18 Qv18 HB18 HZ18
          go_upto_region 45 with fail
          generalize (w9.alloc (.cells #[.int .i64 qy, .int .i64 qu, .int .i64 4, .slice pg ql.length cg] 58)) = Y9 at *
          generalize hggy : w9.heap.size = gy at *
          clear hggy
          clear HGgy
          have f2 : Y9.cell? ⟨gy, 2, none⟩ = some (.int .i64 4) := Hy19.out.cell 2
          go_wp2_with fail
          go_ret
          exact ⟨rfl, HB19.out⟩
end Go.Proofs.Ytmhocihajobkkaa
namespace Go.Proofs.Ytmhocihajobkkaa
open Go.ChangeShapes Go.WideShapes Go.ChangeAt Go.RowKit
theorem item_read {H : Type} {enc : TypeId × Value → H} {P : Program} {w : World} {base : Nat} {held : Bool} {t : TypeId} {g f0 f1 f2 f3 f4 f5 f6 f7 : Field}
  (ht : P.underlying t = some (.struct #[g, f2, f3, f4, f5, f6, f7])) (hg : P.underlying g.type = some (.struct #[f0, f1]))
  (og : g.offset = 0) (o0 : f0.offset = 0) (o1 : f1.offset = 1) (o2 : f2.offset = 2) (o3 : f3.offset = 3) (o4 : f4.offset = 4) (o5 : f5.offset = 5) (o6 : f6.offset = 6) (o7 : f7.offset = 7)
  (u0 : P.underlying f0.type = some (.int .i64)) (u1 : P.underlying f1.type = some (.int .i64)) (u2 : P.underlying f2.type = some (.int .i64)) (u3 : P.underlying f3.type = some (.int .i64)) (u4 : P.underlying f4.type = some (.int .i64)) (u5 : P.underlying f5.type = some (.int .i64)) (u6 : P.underlying f6.type = some (.int .i64)) (u7 : P.underlying f7.type = some (.int .i64))
  (cc : P.cellsOf g.type = 2 ∧ P.cellsOf f0.type = 1 ∧ P.cellsOf f1.type = 1 ∧ P.cellsOf f2.type = 1 ∧ P.cellsOf f3.type = 1 ∧ P.cellsOf f4.type = 1 ∧ P.cellsOf f5.type = 1 ∧ P.cellsOf f6.type = 1 ∧ P.cellsOf f7.type = 1)
  (fuel : Nat) (cs : List Value) (y : DataW H × List MemPlace) (hl : cs.length = 8) (hf : DataW.trod enc P w base (fun _ => true) held fuel t cs = some y) : ∃ x : Itm, cs = x.cells ∧ True := by
 obtain ⟨cg, c0, c1, c2, c3, c4, c5, c6, c7⟩ := cc
 match cs, hl with
 | [v0, v1, v2, v3, v4, v5, v6, v7], _ =>
  obtain ⟨xs, k, hk, hxy, _, hxl, hf⟩ := DataW.trod_struct ht hf
  match xs, hxl with
  | [yg, y2, y3, y4, y5, y6, y7], _ =>
   have gg := hf 0 g rfl
   have g2 := hf 1 f2 rfl
   have g3 := hf 2 f3 rfl
   have g4 := hf 3 f4 rfl
   have g5 := hf 4 f5 rfl
   have g6 := hf 5 f6 rfl
   have g7 := hf 6 f7 rfl
   simp [og, o2, o3, o4, o5, o6, o7, cg, c2, c3, c4, c5, c6, c7] at gg g2 g3 g4 g5 g6 g7
   obtain ⟨xs', k', hk', hxy', _, hxl', hf'⟩ := DataW.trod_struct hg gg
   match xs', hxl' with
   | [y0, y1], _ =>
    have g0 := hf' 0 f0 rfl
    have g1 := hf' 1 f1 rfl
    simp [o0, o1, c0, c1] at g0 g1
    obtain ⟨z0, q0, _, _⟩ := DataW.trod_int u0 g0
    obtain ⟨z1, q1, _, _⟩ := DataW.trod_int u1 g1
    obtain ⟨z2, q2, _, _⟩ := DataW.trod_int u2 g2
    obtain ⟨z3, q3, _, _⟩ := DataW.trod_int u3 g3
    obtain ⟨z4, q4, _, _⟩ := DataW.trod_int u4 g4
    obtain ⟨z5, q5, _, _⟩ := DataW.trod_int u5 g5
    obtain ⟨z6, q6, _, _⟩ := DataW.trod_int u6 g6
    obtain ⟨z7, q7, _, _⟩ := DataW.trod_int u7 g7
    simp at q0 q1 q2 q3 q4 q5 q6 q7
    subst q0 q1 q2 q3 q4 q5 q6 q7
    exact ⟨⟨z0, z1, z2, z3, z4, z5, z6, z7⟩, rfl, trivial⟩
end Go.Proofs.Ytmhocihajobkkaa
namespace Go.Proofs.Ytmhocihajobkkaa
open Go.ChangeShapes Go.WideShapes Go.ChangeAt Go.RowKit
section
variable {H : Type} {enc : TypeId × Value → H} {P : Program} {w : World} {base : Nat} {held : Bool}
theorem wd_readI {t tm : TypeId} {f0 fm : Field} (ht : P.underlying t = some (.struct #[f0, fm])) (o0 : f0.offset = 0) (om : fm.offset = 1)
  (u0 : P.underlying f0.type = some (.int .i64)) (tm' : fm.type = tm) (cc : P.cellsOf f0.type = 1 ∧ P.cellsOf tm = 11)
  (rd : ∀ (fuel : Nat) (cs : List Value) (y : DataW H × List MemPlace), cs.length = 11 → DataW.trod enc P w base (fun _ => true) held fuel tm cs = some y → ∃ x : MsgX, cs = x.cells ∧ x.In w)
  (fuel : Nat) (cs : List Value) (y : DataW H × List MemPlace) (hl : cs.length = 12) (hf : DataW.trod enc P w base (fun _ => true) held fuel t cs = some y) : ∃ x : SdX, cs = x.cells ∧ x.x.In w := by
 obtain ⟨c0, cm⟩ := cc
 match cs, hl with
 | v0 :: ms, hl =>
  have hml : ms.length = 11 := by simpa using hl
  obtain ⟨xs, k, hk, hxy, _, hxl, hf⟩ := DataW.trod_struct ht hf
  match xs, hxl with
  | [y0, ym], _ =>
   have g0 := hf 0 f0 rfl
   have gm := hf 1 fm rfl
   subst tm'
   simp [o0, om, c0, cm] at g0 gm
   rw [List.take_of_length_le (by omega)] at gm
   obtain ⟨z0, q0, _, w0⟩ := DataW.trod_int u0 g0
   simp at q0
   obtain ⟨x, rfl, hin⟩ := rd _ _ _ hml gm
   subst q0
   exact ⟨⟨z0, x⟩, rfl, hin⟩
end
end Go.Proofs.Ytmhocihajobkkaa
