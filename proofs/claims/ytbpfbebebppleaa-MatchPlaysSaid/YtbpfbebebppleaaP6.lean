/- contraref14.node by contract. contraref14.Do by contract. contraref11.Same by contract: a message is the same as itself. contralaw14.told, like by contract. Rows that lie in no block of a list. MatchPlays: its walk. -/
import Derived.Test.YtbpfbebebppleaaP5
import Derived.Test.YtbpfbebebppleaaP2
import Derived.Test.YtbpfbebebppleaaP1
import Derived.Deep.RegionHeld3
import Derived.Deep.CutRange
import Derived.Deep.CutBlock
import Derived.Test.YtbpfbebebppleaaP4
namespace Go.Proofs.Ytbpfbebebppleaa
open Go.RowKit
set_option linter.unusedSimpArgs false
set_option linter.unusedSimpArgs false in
set_option maxHeartbeats 4000000 in
set_option maxRecDepth 100000 in
theorem rnode_any (w : World) (P : Nat → Prop) (p po : Option Addr) (c co : Nat) (xs : List Itm) (os : List Ord) (d : Dsk) (m : Msg) (vl vn : Value) (fro : Int) (h : DdX P w p c po co xs os d) (hs : SortX d.xs) (ho : SortO d.os) (hok : d.Ok) (hoo : OrdOk d.os) (hn : d.xs.length ≤ 1024) (hno : d.os.length ≤ 1024) (hk : m.k = 6 ∨ m.k = 7 ∨ m.k = 8 ∨ m.k = 9) :
  Calls Try.prog 22 #[.agg #[.int .i64 d.me, .int .i64 d.far, .slice p xs.length c, .slice po os.length co], m.v vl vn, .int .i64 fro] w (DPm w P (nodeM d m fro)) := by
 have HKK := Lib.hid hk
 have HNN : Hid (d.xs.length ≤ 1024 ∧ d.os.length ≤ 1024) := Lib.hid ⟨hn, hno⟩
 clear hk
 have HD := Lib.hid h.lt
 have HSX := Lib.hid hs
 have HSO := Lib.hid ho
 have HOK := Lib.hid hok
 have HOO := Lib.hid hoo
 have HLN : Hid (xs.length ≤ 1024 ∧ os.length ≤ 1024) := Lib.hid ⟨by rw [h.px.length_eq]; exact hn, by rw [h.po.length_eq]; exact hno⟩
 clear h hs ho hok hoo hn hno
 obtain ⟨R, hR⟩ : ∃ R, nodeM d m fro = R := ⟨_, rfl⟩
 rw [hR]
 have HA := Lib.hid hR
 clear hR
 unfold Msg.v
 have HB0 : Hid (Below w.heap.size w (((w.alloc (.cells #[.int .i64 d.me, .int .i64 d.far, .slice p xs.length c, .slice po os.length co] 34)).alloc (.cells #[.int .i64 m.k, .int .i64 m.s, .int .i64 m.n, .int .i64 m.b, .int .i64 m.c, .int .i64 m.r, .int .i64 m.y, .int .i64 m.a, .bool m.t, vl, vn] 40)).alloc (.cells #[.int .i64 0, .int .i64 0, .slice none 0 0, .slice none 0 0] 34))) := Lib.hid ((((oneB w _).alloc (by simp <;> omega) _).alloc (by simp <;> omega) _))
 have Hd0 : Hid (Blk (((w.alloc (.cells #[.int .i64 d.me, .int .i64 d.far, .slice p xs.length c, .slice po os.length co] 34)).alloc (.cells #[.int .i64 m.k, .int .i64 m.s, .int .i64 m.n, .int .i64 m.b, .int .i64 m.c, .int .i64 m.r, .int .i64 m.y, .int .i64 m.a, .bool m.t, vl, vn] 40)).alloc (.cells #[.int .i64 0, .int .i64 0, .slice none 0 0, .slice none 0 0] 34)) w.heap.size #[.int .i64 d.me, .int .i64 d.far, .slice p xs.length c, .slice po os.length co] 34) := Lib.hid (((Blk.new w #[.int .i64 d.me, .int .i64 d.far, .slice p xs.length c, .slice po os.length co] 34).alloc _).alloc _)
 have Hm0 : Hid (Blk (((w.alloc (.cells #[.int .i64 d.me, .int .i64 d.far, .slice p xs.length c, .slice po os.length co] 34)).alloc (.cells #[.int .i64 m.k, .int .i64 m.s, .int .i64 m.n, .int .i64 m.b, .int .i64 m.c, .int .i64 m.r, .int .i64 m.y, .int .i64 m.a, .bool m.t, vl, vn] 40)).alloc (.cells #[.int .i64 0, .int .i64 0, .slice none 0 0, .slice none 0 0] 34)) (w.heap.size + 1) #[.int .i64 m.k, .int .i64 m.s, .int .i64 m.n, .int .i64 m.b, .int .i64 m.c, .int .i64 m.r, .int .i64 m.y, .int .i64 m.a, .bool m.t, vl, vn] 40) := Lib.hid ((Blk.new' (w.alloc (.cells #[.int .i64 d.me, .int .i64 d.far, .slice p xs.length c, .slice po os.length co] 34)) #[.int .i64 m.k, .int .i64 m.s, .int .i64 m.n, .int .i64 m.b, .int .i64 m.c, .int .i64 m.r, .int .i64 m.y, .int .i64 m.a, .bool m.t, vl, vn] 40 (by simp)).alloc _)
 have Hr0 : Hid (Blk (((w.alloc (.cells #[.int .i64 d.me, .int .i64 d.far, .slice p xs.length c, .slice po os.length co] 34)).alloc (.cells #[.int .i64 m.k, .int .i64 m.s, .int .i64 m.n, .int .i64 m.b, .int .i64 m.c, .int .i64 m.r, .int .i64 m.y, .int .i64 m.a, .bool m.t, vl, vn] 40)).alloc (.cells #[.int .i64 0, .int .i64 0, .slice none 0 0, .slice none 0 0] 34)) (w.heap.size + 1 + 1) #[.int .i64 0, .int .i64 0, .slice none 0 0, .slice none 0 0] 34) := Lib.hid (Blk.new' ((w.alloc (.cells #[.int .i64 d.me, .int .i64 d.far, .slice p xs.length c, .slice po os.length co] 34)).alloc (.cells #[.int .i64 m.k, .int .i64 m.s, .int .i64 m.n, .int .i64 m.b, .int .i64 m.c, .int .i64 m.r, .int .i64 m.y, .int .i64 m.a, .bool m.t, vl, vn] 40)) #[.int .i64 0, .int .i64 0, .slice none 0 0, .slice none 0 0] 34 (by simp))
 have HZ0 : Hid (w.heap.size ≤ (((w.alloc (.cells #[.int .i64 d.me, .int .i64 d.far, .slice p xs.length c, .slice po os.length co] 34)).alloc (.cells #[.int .i64 m.k, .int .i64 m.s, .int .i64 m.n, .int .i64 m.b, .int .i64 m.c, .int .i64 m.r, .int .i64 m.y, .int .i64 m.a, .bool m.t, vl, vn] 40)).alloc (.cells #[.int .i64 0, .int .i64 0, .slice none 0 0, .slice none 0 0] 34)).heap.size) := Lib.hid HB0.out.size
 go_enter Try.func22, Try.ntmps22
 go_upto_region 1 with fail
 generalize (((w.alloc (.cells #[.int .i64 d.me, .int .i64 d.far, .slice p xs.length c, .slice po os.length co] 34)).alloc (.cells #[.int .i64 m.k, .int .i64 m.s, .int .i64 m.n, .int .i64 m.b, .int .i64 m.c, .int .i64 m.r, .int .i64 m.y, .int .i64 m.a, .bool m.t, vl, vn] 40)).alloc (.cells #[.int .i64 0, .int .i64 0, .slice none 0 0, .slice none 0 0] 34)) = W at *
 have HWL : Hid (w.heap.size + 1 + 1 < W.heap.size) := Lib.hid Hr0.out.lt
 have m0 : W.cell? ⟨(w.heap.size + 1), 0, none⟩ = some (.int .i64 m.k) := Hm0.out.cell 0
 by_cases hk6 : m.k = 6
 ·skip
  have hk7 : (m.k == 6) = true := by simpa using hk6
  have HK6 := Lib.hid hk6
  clear hk6
  go_upto_region 2 with fail
  clear hk7 m0
  have HG := Lib.hid (rpropose_any W (fun b => P b ∧ b < w.heap.size) p po c co xs os d m vl vn fro (HD.out.kept HB0.out) HSX.out HSO.out HOK.out HOO.out HNN.out.1 HNN.out.2 HK6.out)
  rw [HA.out] at HG
  have HWC : Hid (w.heap.size ≤ W.heap.size ∧ w.heap.size + 1 + 1 < W.heap.size) := Lib.hid ⟨HZ0.out, Hr0.out.lt⟩
  unfold Msg.v at HG
  have a0 : W.cell? ⟨w.heap.size, 0, none⟩ = some (.int .i64 d.me) := Hd0.out.cell 0
  have a1 : W.cell? ⟨w.heap.size, 1, none⟩ = some (.int .i64 d.far) := Hd0.out.cell 1
  have a2 : W.cell? ⟨w.heap.size, 2, none⟩ = some (.slice p xs.length c) := Hd0.out.cell 2
  have a3 : W.cell? ⟨w.heap.size, 3, none⟩ = some (.slice po os.length co) := Hd0.out.cell 3
  have m0 : W.cell? ⟨(w.heap.size + 1), 0, none⟩ = some (.int .i64 m.k) := Hm0.out.cell 0
  have m1 : W.cell? ⟨(w.heap.size + 1), 1, none⟩ = some (.int .i64 m.s) := Hm0.out.cell 1
  have m2 : W.cell? ⟨(w.heap.size + 1), 2, none⟩ = some (.int .i64 m.n) := Hm0.out.cell 2
  have m3 : W.cell? ⟨(w.heap.size + 1), 3, none⟩ = some (.int .i64 m.b) := Hm0.out.cell 3
  have m4 : W.cell? ⟨(w.heap.size + 1), 4, none⟩ = some (.int .i64 m.c) := Hm0.out.cell 4
  have m5 : W.cell? ⟨(w.heap.size + 1), 5, none⟩ = some (.int .i64 m.r) := Hm0.out.cell 5
  have m6 : W.cell? ⟨(w.heap.size + 1), 6, none⟩ = some (.int .i64 m.y) := Hm0.out.cell 6
  have m7 : W.cell? ⟨(w.heap.size + 1), 7, none⟩ = some (.int .i64 m.a) := Hm0.out.cell 7
  have m8 : W.cell? ⟨(w.heap.size + 1), 8, none⟩ = some (.bool m.t) := Hm0.out.cell 8
  have m9 : W.cell? ⟨(w.heap.size + 1), 9, none⟩ = some (vl) := Hm0.out.cell 9
  have m10 : W.cell? ⟨(w.heap.size + 1), 10, none⟩ = some (vn) := Hm0.out.cell 10
  go_wp2_with fail
  clear a0 a1 a2 a3 m0 m1 m2 m3 m4 m5 m6 m7 m8 m9 m10
  refine HG.out.mono ?_
  rintro y9 w9 ⟨p9, c9, po9, co9, xs9, os9, vs9, rfl, hdx, hown, hb⟩
  clear HG
  have HQ := Lib.hid hdx
  have HO := Lib.hid hown
  clear hdx hown
  have Hd1 := kbq Hd0 hb
  have Hm1 := kbq Hm0 hb
  have Hr1 := kbq Hr0 hb
  have HB1 := ktq HB0 hb
  have HZ1 := kzq HZ0 hb.size
  clear Hd0 Hm0 Hr0 HB0 HZ0
  clear hb
  go_wp2_with (with_reducible refine stop_storeT 34 (.tmp 6) (.tmp 21) rfl ?_)
  have HTH : Hid (w9.there (w.heap.size + 1 + 1) 0 4) := Hr1.out.thereAt
  have hch : Hid (Chg (w.heap.size + 1 + 1) w9 (w9.setCells (w.heap.size + 1 + 1) 0 (#[.int .i64 R.1.me, .int .i64 R.1.far, .slice p9 xs9.length c9, .slice po9 os9.length co9] : Array Value).toList)) := Lib.hid (chg_putL _ _ _ _ _ (Chg.refl _ w9))
  have Hr2 : Hid (Blk (w9.setCells (w.heap.size + 1 + 1) 0 (#[.int .i64 R.1.me, .int .i64 R.1.far, .slice p9 xs9.length c9, .slice po9 os9.length co9] : Array Value).toList) (w.heap.size + 1 + 1) #[.int .i64 R.1.me, .int .i64 R.1.far, .slice p9 xs9.length c9, .slice po9 os9.length co9] 34) := Lib.hid (blk_put_all Hr1.out _ rfl)
  have HB2 : Hid (Below w.heap.size w (w9.setCells (w.heap.size + 1 + 1) 0 (#[.int .i64 R.1.me, .int .i64 R.1.far, .slice p9 xs9.length c9, .slice po9 os9.length co9] : Array Value).toList)) := Lib.hid (below_put (by omega) _ _ _ _ HB1.out)
  have HZ2 := kzq HZ1 hch.out.size
  have Hd2 := kcq Hd1 hch (by omega)
  have Hm2 := kcq Hm1 hch (by omega)
  have HQ4 := Lib.hid (HQ.out.chg hch.out (by intro h; (try dsimp only at h); have h1 := HWC.out; rcases h with h3 | h3; (have := h3.2; omega); omega))
  have HO4 := Lib.hid (HO.out.stay (fun b hb => hch.out.2 b (HO.out.lt b hb) (by have h1 := HO.out.block_ge b hb; have := HWC.out; omega)))
  clear HQ HO
  clear hch Hd1 Hm1 Hr1 HB1 HZ1
  refine wpList_store_mid rfl 34 (.tmp 6) (.tmp 21) rfl (w.heap.size + 1 + 1) 0 #[.int .i64 R.1.me, .int .i64 R.1.far, .slice p9 xs9.length c9, .slice po9 os9.length co9] rfl rfl HTH.out (infoDC rfl) (all_oneCell_toArray (by intro u hu; simp at hu; rcases hu with rfl | rfl | rfl | rfl <;> rfl)) ?_
  generalize (w9.setCells (w.heap.size + 1 + 1) 0 (#[.int .i64 R.1.me, .int .i64 R.1.far, .slice p9 xs9.length c9, .slice po9 os9.length co9] : Array Value).toList) = W9 at *
  clear HTH
  go_wp2_with fail
  have hfr := Hr2.out
  refine bodyPost_ret (v := .tuple #[.agg #[.int .i64 R.1.me, .int .i64 R.1.far, .slice p9 xs9.length c9, .slice po9 os9.length co9], vs9, .int .i64 R.2.2]) (by simp [results, Try.results22, go_sem, hfr.cell 0, hfr.cell 1, hfr.cell 2, hfr.cell 3]) rfl ⟨_, _, _, _, _, _, _, rfl, HQ4.out.imp (fun b h => by have h1 := HWC.out; rcases h with h2 | h2; exact .inl h2.1; exact .inr (by omega)), HO4.out.less (by have h1 := HWC.out; omega), HB2.out⟩
 ·skip
  have hk7 : (m.k == 6) = false := by simpa using hk6
  have HK3 : Hid (m.k = 7 ∨ m.k = 8 ∨ m.k = 9) := Lib.hid (by have := HKK.out; omega)
  clear hk6
  go_upto_region 3 with fail
  clear hk7 m0
  have HG := Lib.hid (cfind_any W d.me d.far m.s m.n p po xs.length c os.length co xs (HD.out.kept HB0.out).row rfl (by have := HLN.out; omega))
  have a0 : W.cell? ⟨w.heap.size, 0, none⟩ = some (.int .i64 d.me) := Hd0.out.cell 0
  have a1 : W.cell? ⟨w.heap.size, 1, none⟩ = some (.int .i64 d.far) := Hd0.out.cell 1
  have a2 : W.cell? ⟨w.heap.size, 2, none⟩ = some (.slice p xs.length c) := Hd0.out.cell 2
  have a3 : W.cell? ⟨w.heap.size, 3, none⟩ = some (.slice po os.length co) := Hd0.out.cell 3
  have m1 : W.cell? ⟨(w.heap.size + 1), 1, none⟩ = some (.int .i64 m.s) := Hm0.out.cell 1
  have m2 : W.cell? ⟨(w.heap.size + 1), 2, none⟩ = some (.int .i64 m.n) := Hm0.out.cell 2
  go_wp2_with fail
  clear a0 a1 a2 a3 m1 m2
  refine HG.out.mono ?_
  rintro y9 w1 ⟨⟨r1, rfl, hat⟩, hb⟩
  clear HG
  have Hd1 := kbq Hd0 hb
  have Hm1 := kbq Hm0 hb
  have Hr1 := kbq Hr0 hb
  have HB1 := ktq HB0 hb
  have HZ1 := kzq HZ0 hb.size
  clear Hd0 Hm0 Hr0 HB0 HZ0
  clear hb
  rcases at_findX hat with ⟨rfl, hfx⟩ | ⟨k, hk, rfl, hfx⟩
  ·skip
   rw [perm_findX HD.out.px HSX.out] at hfx
   have HFX := Lib.hid hfx
   clear hat hfx
   go_upto_region 5 with fail
   obtain rfl : R = (d, [], 4) := by
    rw [← HA.out]
    have h2 : ∀ f, thenA (itm0, 4) f = (itm0, 4) := fun f => rfl
    have h1 : ∀ r a c, betwA d m.s m.n r a c = (itm0, 4) := fun r a c => by unfold betwA; rw [HFX.out]
    have h3 : dispI d m fro = (itm0, 4) := by unfold dispI; rw [h1, h2]
    have h4 : dispR (itm0, 4) = (itm0, 4) := rfl
    unfold nodeM
    rw [if_neg (by have := HK3.out; omega), h1, h1, h2, h2, h3, h4, beh_err (show (4 : Int) ≠ 0 by decide), beh_err (show (4 : Int) ≠ 0 by decide)]
    rcases HK3.out with h | h | h
    ·rw [if_pos h]
    ·rw [if_neg (by omega), if_pos h]
    ·rw [if_neg (by omega), if_neg (by omega), if_pos h]
   have a0 : w1.cell? ⟨w.heap.size, 0, none⟩ = some (.int .i64 d.me) := Hd1.out.cell 0
   have a1 : w1.cell? ⟨w.heap.size, 1, none⟩ = some (.int .i64 d.far) := Hd1.out.cell 1
   have a2 : w1.cell? ⟨w.heap.size, 2, none⟩ = some (.slice p xs.length c) := Hd1.out.cell 2
   have a3 : w1.cell? ⟨w.heap.size, 3, none⟩ = some (.slice po os.length co) := Hd1.out.cell 3
   go_wp2_with (with_reducible refine stop_storeT 34 (.tmp 6) (.tmp 30) rfl ?_)
   clear a0 a1 a2 a3
   have HTH : Hid (w1.there (w.heap.size + 1 + 1) 0 4) := Hr1.out.thereAt
   have hch : Hid (Chg (w.heap.size + 1 + 1) w1 (w1.setCells (w.heap.size + 1 + 1) 0 (#[.int .i64 d.me, .int .i64 d.far, .slice p xs.length c, .slice po os.length co] : Array Value).toList)) := Lib.hid (chg_putL _ _ _ _ _ (Chg.refl _ w1))
   have Hr2 : Hid (Blk (w1.setCells (w.heap.size + 1 + 1) 0 (#[.int .i64 d.me, .int .i64 d.far, .slice p xs.length c, .slice po os.length co] : Array Value).toList) (w.heap.size + 1 + 1) #[.int .i64 d.me, .int .i64 d.far, .slice p xs.length c, .slice po os.length co] 34) := Lib.hid (blk_put_all Hr1.out _ rfl)
   have HB2 : Hid (Below w.heap.size w (w1.setCells (w.heap.size + 1 + 1) 0 (#[.int .i64 d.me, .int .i64 d.far, .slice p xs.length c, .slice po os.length co] : Array Value).toList)) := Lib.hid (below_put (by omega) _ _ _ _ HB1.out)
   have HZ2 := kzq HZ1 hch.out.size
   have Hd2 := kcq Hd1 hch (by omega)
   have Hm2 := kcq Hm1 hch (by omega)
   clear hch Hd1 Hm1 Hr1 HB1 HZ1
   refine wpList_store_mid rfl 34 (.tmp 6) (.tmp 30) rfl (w.heap.size + 1 + 1) 0 #[.int .i64 d.me, .int .i64 d.far, .slice p xs.length c, .slice po os.length co] rfl rfl HTH.out (infoDC rfl) (all_oneCell_toArray (by intro u hu; simp at hu; rcases hu with rfl | rfl | rfl | rfl <;> rfl)) ?_
   generalize (w1.setCells (w.heap.size + 1 + 1) 0 (#[.int .i64 d.me, .int .i64 d.far, .slice p xs.length c, .slice po os.length co] : Array Value).toList) = WR at *
   clear HTH
   go_wp2_with fail
   have hfr := Hr2.out
   refine bodyPost_ret (v := .tuple #[.agg #[.int .i64 d.me, .int .i64 d.far, .slice p xs.length c, .slice po os.length co], .slice none 0 0, .int .i64 4]) (by simp [results, Try.results22, go_sem, hfr.cell 0, hfr.cell 1, hfr.cell 2, hfr.cell 3]) rfl ⟨_, _, _, _, _, _, _, rfl, (HD.out.kept HB2.out).imp (fun b h => .inl h.1), OwnT.nil_ _ _ _ _, HB2.out⟩
  ·skip
   rw [perm_findX HD.out.px HSX.out] at hfx
   obtain ⟨q, hq⟩ : ∃ q, xs[k] = q := ⟨_, rfl⟩
   rw [hq] at hfx
   have HFX := Lib.hid hfx
   have HQ := Lib.hid hq
   have HKL := Lib.hid hk
   have HQC : Hid (chkI q = 0 ∧ (q.s = d.me ∨ q.b = d.me)) := Lib.hid (HOK.out.its q (findX_mem hfx).1)
   have HQN : Hid (q.s = m.s ∧ q.n = m.n) := Lib.hid (findX_mem hfx).2
   have HQR : Hid (F64 (q.r + 1)) := Lib.hid (by have h1 := (chk_ok HQC.out.1).2.1.2.2.2.1; unfold F64; omega)
   have hkI : (k : Int) < (xs.length : Int) := by omega
   have hk0 : ¬ (k : Int) < 0 := by omega
   obtain ⟨b, o, hpe, hbl, hcs⟩ := (HD.out.kept HB1.out).row.at_ k hk
   subst hpe
   clear hat hfx hq hbl hcs
   go_upto_region 6 with fail
   have a2 : w1.cell? ⟨w.heap.size, 2, none⟩ = some (.slice (some ⟨b, o, none⟩) xs.length c) := Hd1.out.cell 2
   have c0 : w1.cell? ⟨b, o + k * 8, none⟩ = some (.int .i64 q.s) := trow_cell (HD.out.kept HB1.out).row k HKL.out HQ.out 0 (by decide)
   have c1 : w1.cell? ⟨b, o + k * 8 + 1, none⟩ = some (.int .i64 q.n) := trow_cell (HD.out.kept HB1.out).row k HKL.out HQ.out 1 (by decide)
   have c2 : w1.cell? ⟨b, o + k * 8 + 2, none⟩ = some (.int .i64 q.b) := trow_cell (HD.out.kept HB1.out).row k HKL.out HQ.out 2 (by decide)
   have c3 : w1.cell? ⟨b, o + k * 8 + 3, none⟩ = some (.int .i64 q.c) := trow_cell (HD.out.kept HB1.out).row k HKL.out HQ.out 3 (by decide)
   have c4 : w1.cell? ⟨b, o + k * 8 + 4, none⟩ = some (.int .i64 q.a) := trow_cell (HD.out.kept HB1.out).row k HKL.out HQ.out 4 (by decide)
   have c5 : w1.cell? ⟨b, o + k * 8 + 5, none⟩ = some (.int .i64 q.r) := trow_cell (HD.out.kept HB1.out).row k HKL.out HQ.out 5 (by decide)
   have c6 : w1.cell? ⟨b, o + k * 8 + 6, none⟩ = some (.int .i64 q.t) := trow_cell (HD.out.kept HB1.out).row k HKL.out HQ.out 6 (by decide)
   have c7 : w1.cell? ⟨b, o + k * 8 + 7, none⟩ = some (.int .i64 q.y) := trow_cell (HD.out.kept HB1.out).row k HKL.out HQ.out 7 (by decide)
   have hba := oneB w1 (.cells #[.int .i64 q.s, .int .i64 q.n, .int .i64 q.b, .int .i64 q.c, .int .i64 q.a, .int .i64 q.r, .int .i64 q.t, .int .i64 q.y] 64)
   have Hd2 := kbq Hd1 hba
   have Hm2 := kbq Hm1 hba
   have Hr2 := kbq Hr1 hba
   have Hx2 := Lib.hid (Blk.new w1 #[.int .i64 q.s, .int .i64 q.n, .int .i64 q.b, .int .i64 q.c, .int .i64 q.a, .int .i64 q.r, .int .i64 q.t, .int .i64 q.y] 64)
   have HB2 := Lib.hid (HB1.out.alloc HB1.out.size (.cells #[.int .i64 q.s, .int .i64 q.n, .int .i64 q.b, .int .i64 q.c, .int .i64 q.a, .int .i64 q.r, .int .i64 q.t, .int .i64 q.y] 64))
   have HZ2 := kzq HZ1 hba.size
   have HGgx : Hid (w.heap.size + 1 + 1 < w1.heap.size) := Lib.hid Hr1.out.lt
   clear hba Hd1 Hm1 Hr1 HB1 HZ1
   go_upto_region 7 with fail
   clear a2 c0 c1 c2 c3 c4 c5 c6 c7 hk0 hkI
   generalize (w1.alloc (.cells #[.int .i64 q.s, .int .i64 q.n, .int .i64 q.b, .int .i64 q.c, .int .i64 q.a, .int .i64 q.r, .int .i64 q.t, .int .i64 q.y] 64)) = W3 at *
   generalize hggx : w1.heap.size = gx at *
   clear hggx
   rcases HK3.out with hk7 | hk7 | hk7
   ·skip
    have HK7 : Hid (m.k = 7) := Lib.hid hk7
    have e9 : (m.k == 9) = false := by rw [hk7]; rfl
    have n9 : (m.k != 9) = true := by rw [hk7]; rfl
    have e7 : (m.k == 7) = true := by rw [hk7]; rfl
    have e8 : (m.k == 8) = false := by rw [hk7]; rfl
    clear hk7
    have m0 : W3.cell? ⟨(w.heap.size + 1), 0, none⟩ = some (.int .i64 m.k) := Hm2.out.cell 0
    have x0 : W3.cell? ⟨gx, 0, none⟩ = some (.int .i64 q.s) := Hx2.out.cell 0
    have x2 : W3.cell? ⟨gx, 2, none⟩ = some (.int .i64 q.b) := Hx2.out.cell 2
    have a0 : W3.cell? ⟨w.heap.size, 0, none⟩ = some (.int .i64 d.me) := Hd2.out.cell 0
    by_cases h1 : q.s = d.me
    ·skip
     have h1q : (q.s != d.me) = false := by simpa using h1
     have H1 := Lib.hid h1
     clear h1
     by_cases h2 : fro = q.b
     ·skip
      have h2q : (fro != q.b) = false := by simpa using h2
      have H2 := Lib.hid h2
      clear h2
      go_upto_region 9 with fail
      clear h1q h2q m0 x0 x2 a0
      have x5 : W3.cell? ⟨gx, 5, none⟩ = some (.int .i64 q.r) := Hx2.out.cell 5
      have m5 : W3.cell? ⟨(w.heap.size + 1), 5, none⟩ = some (.int .i64 m.r) := Hm2.out.cell 5
      by_cases hr0 : q.r = m.r
      ·skip
       have hr1 : (q.r != m.r) = false := by simpa using hr0
       have HR0 := Lib.hid hr0
       clear hr0
       have HBW0 : Hid (betwA d m.s m.n m.r d.me fro = (q, 0)) := Lib.hid (by
        unfold betwA
        rw [HFX.out]
        dsimp only
        rw [if_neg (by rintro (h | h); exact h H1.out; exact h H2.out.symm), if_neg (fun h => h HR0.out)])
       have m0 : W3.cell? ⟨(w.heap.size + 1), 0, none⟩ = some (.int .i64 m.k) := Hm2.out.cell 0
       go_upto_region 16 with fail
       clear hr1 x5 m5
       have HG := Lib.hid (refact_any q 2 (0) W3 HQR.out)
       obtain ⟨pa, hpa⟩ : ∃ pa, actI q 2 (0) = pa := ⟨_, rfl⟩
       rw [hpa] at HG
       have HPA := Lib.hid hpa
       clear hpa
       obtain ⟨y, e⟩ := pa
       unfold ansI Itm.v at HG
       have x0 : W3.cell? ⟨gx, 0, none⟩ = some (.int .i64 q.s) := Hx2.out.cell 0
       have x1 : W3.cell? ⟨gx, 1, none⟩ = some (.int .i64 q.n) := Hx2.out.cell 1
       have x2 : W3.cell? ⟨gx, 2, none⟩ = some (.int .i64 q.b) := Hx2.out.cell 2
       have x3 : W3.cell? ⟨gx, 3, none⟩ = some (.int .i64 q.c) := Hx2.out.cell 3
       have x4 : W3.cell? ⟨gx, 4, none⟩ = some (.int .i64 q.a) := Hx2.out.cell 4
       have x5 : W3.cell? ⟨gx, 5, none⟩ = some (.int .i64 q.r) := Hx2.out.cell 5
       have x6 : W3.cell? ⟨gx, 6, none⟩ = some (.int .i64 q.t) := Hx2.out.cell 6
       have x7 : W3.cell? ⟨gx, 7, none⟩ = some (.int .i64 q.y) := Hx2.out.cell 7
       go_wp2_with fail
       clear x0 x1 x2 x3 x4 x5 x6 x7 
       refine HG.out.mono ?_
       rintro y9 W5a ⟨rfl, hb⟩
       clear HG
       have Hd3 := kbq Hd2 hb
       have Hm3 := kbq Hm2 hb
       have Hr3 := kbq Hr2 hb
       have Hx3 := kbq Hx2 hb
       have HB3 := ktq HB2 hb
       have HZ3 := kzq HZ2 hb.size
       clear Hd2 Hm2 Hr2 Hx2 HB2 HZ2
       clear hb
       have hba := oneB W5a (.cells #[.int .i64 y.s, .int .i64 y.n, .int .i64 y.b, .int .i64 y.c, .int .i64 y.a, .int .i64 y.r, .int .i64 y.t, .int .i64 y.y] 64)
       have Hd4 := kbq Hd3 hba
       have Hm4 := kbq Hm3 hba
       have Hr4 := kbq Hr3 hba
       have Hx4 := kbq Hx3 hba
       have Hy4 := Lib.hid (Blk.new W5a #[.int .i64 y.s, .int .i64 y.n, .int .i64 y.b, .int .i64 y.c, .int .i64 y.a, .int .i64 y.r, .int .i64 y.t, .int .i64 y.y] 64)
       have HB4 := Lib.hid (HB3.out.alloc HB3.out.size (.cells #[.int .i64 y.s, .int .i64 y.n, .int .i64 y.b, .int .i64 y.c, .int .i64 y.a, .int .i64 y.r, .int .i64 y.t, .int .i64 y.y] 64))
       have HZ4 := kzq HZ3 hba.size
       have HGgy : Hid (w.heap.size + 1 + 1 < W5a.heap.size) := Lib.hid Hr3.out.lt
       clear hba Hd3 Hm3 Hr3 Hx3 HB3 HZ3
       go_upto_region 17 with fail
       generalize (W5a.alloc (.cells #[.int .i64 y.s, .int .i64 y.n, .int .i64 y.b, .int .i64 y.c, .int .i64 y.a, .int .i64 y.r, .int .i64 y.t, .int .i64 y.y] 64)) = W5 at *
       generalize hggy : W5a.heap.size = gy at *
       clear hggy
       clear m0
       have m0 : W5.cell? ⟨(w.heap.size + 1), 0, none⟩ = some (.int .i64 m.k) := Hm4.out.cell 0
       have HYC : Hid (chkI y = 0 ∧ y.s = q.s ∧ y.b = q.b) := Lib.hid (by
        have h1 := turn_chk (x := q) (f := 1) (t := 3) (.inr (.inl ⟨rfl, rfl⟩)) HQC.out.1
        have h2 : turnI q 1 3 = (y, e) := HPA.out
        rw [h2] at h1
        exact h1)
       by_cases he0 : e = 0
       ·skip
        subst he0
        go_upto_region 22 with fail
        clear m0 e9 n9 e7 e8
        have Hx4q := Hy4
        clear Hx4 Hy4
        have Hx4 := Hx4q
        clear Hx4q
        obtain rfl : R = (d.put y, [], 0) := by
         rw [← HA.out]
         have HBW := HBW0.out
         have h7 : thenA (q, 0) (fun x => turnI x 1 3) = (y, 0) := by rw [← HPA.out]; unfold thenA; rw [if_pos rfl]; rfl
         unfold nodeM
         rw [if_neg (by rw [HK7.out]; decide), if_pos HK7.out, HBW]
         rw [h7]
         rfl
        have HWL3 : Hid (w.heap.size + 1 + 1 + 1 ≤ W5.heap.size) := Lib.hid Hr4.out.lt
        have HG := Lib.hid (ckeep_any W5 d.me d.far (some ⟨b, o, none⟩) po xs.length c os.length co y xs (HD.out.kept HB4.out).row rfl (by have := HLN.out; omega))
        unfold Itm.v at HG
        have a0 : W5.cell? ⟨w.heap.size, 0, none⟩ = some (.int .i64 d.me) := Hd4.out.cell 0
        have a1 : W5.cell? ⟨w.heap.size, 1, none⟩ = some (.int .i64 d.far) := Hd4.out.cell 1
        have a2 : W5.cell? ⟨w.heap.size, 2, none⟩ = some (.slice (some ⟨b, o, none⟩) xs.length c) := Hd4.out.cell 2
        have a3 : W5.cell? ⟨w.heap.size, 3, none⟩ = some (.slice po os.length co) := Hd4.out.cell 3
        have x0 : W5.cell? ⟨gy, 0, none⟩ = some (.int .i64 y.s) := Hx4.out.cell 0
        have x1 : W5.cell? ⟨gy, 1, none⟩ = some (.int .i64 y.n) := Hx4.out.cell 1
        have x2 : W5.cell? ⟨gy, 2, none⟩ = some (.int .i64 y.b) := Hx4.out.cell 2
        have x3 : W5.cell? ⟨gy, 3, none⟩ = some (.int .i64 y.c) := Hx4.out.cell 3
        have x4 : W5.cell? ⟨gy, 4, none⟩ = some (.int .i64 y.a) := Hx4.out.cell 4
        have x5 : W5.cell? ⟨gy, 5, none⟩ = some (.int .i64 y.r) := Hx4.out.cell 5
        have x6 : W5.cell? ⟨gy, 6, none⟩ = some (.int .i64 y.t) := Hx4.out.cell 6
        have x7 : W5.cell? ⟨gy, 7, none⟩ = some (.int .i64 y.y) := Hx4.out.cell 7
        go_wp2_with fail
        clear a0 a1 a2 a3 x0 x1 x2 x3 x4 x5 x6 x7
        refine HG.out.mono ?_
        rintro y9 w7 ⟨r9, p9, n9, c9, ha9, rfl, hown9, hn9, hb⟩
        clear HG
        have HP9 := Lib.hid (cput_perm (x := y) HD.out.px HSX.out ha9)
        have HO9 := Lib.hid (hown9.less (base' := w.heap.size + 1 + 1 + 1) HWL3.out)
        generalize cputL xs y r9 = ys at *
        subst hn9
        clear ha9 hown9
        have Hd5 := kbq Hd4 hb
        have Hm5 := kbq Hm4 hb
        have Hr5 := kbq Hr4 hb
        have Hx5 := kbq Hx4 hb
        have HB5 := ktq HB4 hb
        have HZ5 := kzq HZ4 hb.size
        clear Hd4 Hm4 Hr4 Hx4 HB4 HZ4
        clear hb
        have Sy5 := HO9
        clear HO9
        go_wp2_with (with_reducible refine stop_storeT 34 (.tmp 6) (.tmp 112) rfl ?_)
        have HTH : Hid (w7.there (w.heap.size + 1 + 1) 0 4) := Hr5.out.thereAt
        have hch : Hid (Chg (w.heap.size + 1 + 1) w7 (w7.setCells (w.heap.size + 1 + 1) 0 (#[.int .i64 d.me, .int .i64 d.far, .slice p9 ys.length c9, .slice po os.length co] : Array Value).toList)) := Lib.hid (chg_putL _ _ _ _ _ (Chg.refl _ w7))
        have Hr6 : Hid (Blk (w7.setCells (w.heap.size + 1 + 1) 0 (#[.int .i64 d.me, .int .i64 d.far, .slice p9 ys.length c9, .slice po os.length co] : Array Value).toList) (w.heap.size + 1 + 1) #[.int .i64 d.me, .int .i64 d.far, .slice p9 ys.length c9, .slice po os.length co] 34) := Lib.hid (blk_put_all Hr5.out _ rfl)
        have HB6 : Hid (Below w.heap.size w (w7.setCells (w.heap.size + 1 + 1) 0 (#[.int .i64 d.me, .int .i64 d.far, .slice p9 ys.length c9, .slice po os.length co] : Array Value).toList)) := Lib.hid (below_put (by have := HGgx.out; have := HGgy.out; omega) _ _ _ _ HB5.out)
        have HZ6 := kzq HZ5 hch.out.size
        have Hd6 := kcq Hd5 hch (by have := HGgx.out; have := HGgy.out; omega)
        have Hm6 := kcq Hm5 hch (by have := HGgx.out; have := HGgy.out; omega)
        have Hx6 := kcq Hx5 hch (by have := HGgx.out; have := HGgy.out; omega)
        have Sy6 := Lib.hid (Sy5.out.stay (fun b hb => hch.out.2 b (Sy5.out.lt b hb) (by have h1 := Sy5.out.block_ge b hb; have := HGgx.out; have := HGgy.out; omega)))
        clear hch Hd5 Hm5 Hr5 Hx5 Sy5 HB5 HZ5
        refine wpList_store_mid rfl 34 (.tmp 6) (.tmp 112) rfl (w.heap.size + 1 + 1) 0 #[.int .i64 d.me, .int .i64 d.far, .slice p9 ys.length c9, .slice po os.length co] rfl rfl HTH.out (infoDC rfl) (all_oneCell_toArray (by intro u hu; simp at hu; rcases hu with rfl | rfl | rfl | rfl <;> rfl)) ?_
        generalize (w7.setCells (w.heap.size + 1 + 1) 0 (#[.int .i64 d.me, .int .i64 d.far, .slice p9 ys.length c9, .slice po os.length co] : Array Value).toList) = W9 at *
        clear HTH
        go_wp2_with fail
        have hfr := Hr6.out
        refine bodyPost_ret (v := .tuple #[.agg #[.int .i64 d.me, .int .i64 d.far, .slice p9 ys.length c9, .slice po os.length co], .slice none 0 0, .int .i64 0]) (by simp [results, Try.results22, go_sem, hfr.cell 0, hfr.cell 1, hfr.cell 2, hfr.cell 3]) rfl ⟨_, _, _, _, _, _, _, rfl, ⟨Sy6.out.row, (HD.out.kept HB6.out).rowo, Sy6.out.at_P (fun b h => .inr (by omega)), HD.out.ao.imp (fun b h => .inl h.1), HP9.out, HD.out.po⟩, OwnT.nil_ _ _ _ _, HB6.out⟩
       ·skip
        have he1 : (e != 0) = true := by simpa using he0
        go_upto_region 18 with fail
        clear he1 m0 e9 n9 e7 e8
        obtain rfl : R = (d, [], e) := by
         rw [← HA.out]
         have HBW := HBW0.out
         have h7 : thenA (q, 0) (fun x => turnI x 1 3) = (y, e) := by rw [← HPA.out]; unfold thenA; rw [if_pos rfl]; rfl
         unfold nodeM
         rw [if_neg (by rw [HK7.out]; decide), if_pos HK7.out, HBW]
         rw [h7]
         exact beh_err he0
        have a0 : W5.cell? ⟨w.heap.size, 0, none⟩ = some (.int .i64 d.me) := Hd4.out.cell 0
        have a1 : W5.cell? ⟨w.heap.size, 1, none⟩ = some (.int .i64 d.far) := Hd4.out.cell 1
        have a2 : W5.cell? ⟨w.heap.size, 2, none⟩ = some (.slice (some ⟨b, o, none⟩) xs.length c) := Hd4.out.cell 2
        have a3 : W5.cell? ⟨w.heap.size, 3, none⟩ = some (.slice po os.length co) := Hd4.out.cell 3
        go_wp2_with (with_reducible refine stop_storeT 34 (.tmp 6) (.tmp 93) rfl ?_)
        clear a0 a1 a2 a3
        have HTH : Hid (W5.there (w.heap.size + 1 + 1) 0 4) := Hr4.out.thereAt
        have hch : Hid (Chg (w.heap.size + 1 + 1) W5 (W5.setCells (w.heap.size + 1 + 1) 0 (#[.int .i64 d.me, .int .i64 d.far, .slice (some ⟨b, o, none⟩) xs.length c, .slice po os.length co] : Array Value).toList)) := Lib.hid (chg_putL _ _ _ _ _ (Chg.refl _ W5))
        have Hr5 : Hid (Blk (W5.setCells (w.heap.size + 1 + 1) 0 (#[.int .i64 d.me, .int .i64 d.far, .slice (some ⟨b, o, none⟩) xs.length c, .slice po os.length co] : Array Value).toList) (w.heap.size + 1 + 1) #[.int .i64 d.me, .int .i64 d.far, .slice (some ⟨b, o, none⟩) xs.length c, .slice po os.length co] 34) := Lib.hid (blk_put_all Hr4.out _ rfl)
        have HB5 : Hid (Below w.heap.size w (W5.setCells (w.heap.size + 1 + 1) 0 (#[.int .i64 d.me, .int .i64 d.far, .slice (some ⟨b, o, none⟩) xs.length c, .slice po os.length co] : Array Value).toList)) := Lib.hid (below_put (by have := HGgx.out; have := HGgy.out; omega) _ _ _ _ HB4.out)
        have HZ5 := kzq HZ4 hch.out.size
        have Hd5 := kcq Hd4 hch (by have := HGgx.out; have := HGgy.out; omega)
        have Hm5 := kcq Hm4 hch (by have := HGgx.out; have := HGgy.out; omega)
        have Hx5 := kcq Hx4 hch (by have := HGgx.out; have := HGgy.out; omega)
        have Hy5 := kcq Hy4 hch (by have := HGgx.out; have := HGgy.out; omega)
        clear hch Hd4 Hm4 Hr4 Hx4 Hy4 HB4 HZ4
        refine wpList_store_mid rfl 34 (.tmp 6) (.tmp 93) rfl (w.heap.size + 1 + 1) 0 #[.int .i64 d.me, .int .i64 d.far, .slice (some ⟨b, o, none⟩) xs.length c, .slice po os.length co] rfl rfl HTH.out (infoDC rfl) (all_oneCell_toArray (by intro u hu; simp at hu; rcases hu with rfl | rfl | rfl | rfl <;> rfl)) ?_
        generalize (W5.setCells (w.heap.size + 1 + 1) 0 (#[.int .i64 d.me, .int .i64 d.far, .slice (some ⟨b, o, none⟩) xs.length c, .slice po os.length co] : Array Value).toList) = WR at *
        clear HTH
        go_wp2_with fail
        have hfr := Hr5.out
        refine bodyPost_ret (v := .tuple #[.agg #[.int .i64 d.me, .int .i64 d.far, .slice (some ⟨b, o, none⟩) xs.length c, .slice po os.length co], .slice none 0 0, .int .i64 e]) (by simp [results, Try.results22, go_sem, hfr.cell 0, hfr.cell 1, hfr.cell 2, hfr.cell 3]) rfl ⟨_, _, _, _, _, _, _, rfl, (HD.out.kept HB5.out).imp (fun b h => .inl h.1), OwnT.nil_ _ _ _ _, HB5.out⟩
      ·skip
       have hr1 : (q.r != m.r) = true := by simpa using hr0
       have HR0 := Lib.hid hr0
       go_upto_region 10 with fail
       clear hr0 hr1 x5 m5 e9 n9 e7 e8
       obtain rfl : R = (d, [], 90) := by
        rw [← HA.out]
        have HBW : betwA d m.s m.n m.r d.me fro = (q, 90) := by
         unfold betwA
         rw [HFX.out]
         dsimp only
         rw [if_neg (by rintro (h | h); exact h H1.out; exact h H2.out.symm), if_pos HR0.out]
        unfold nodeM
        rw [if_neg (by rw [HK7.out]; decide), if_pos HK7.out, HBW]
        have h2 : ∀ f, thenA (q, 90) f = (q, 90) := fun f => rfl
        rw [h2]
        exact beh_err (show (90 : Int) ≠ 0 by decide)
       have a0 : W3.cell? ⟨w.heap.size, 0, none⟩ = some (.int .i64 d.me) := Hd2.out.cell 0
       have a1 : W3.cell? ⟨w.heap.size, 1, none⟩ = some (.int .i64 d.far) := Hd2.out.cell 1
       have a2 : W3.cell? ⟨w.heap.size, 2, none⟩ = some (.slice (some ⟨b, o, none⟩) xs.length c) := Hd2.out.cell 2
       have a3 : W3.cell? ⟨w.heap.size, 3, none⟩ = some (.slice po os.length co) := Hd2.out.cell 3
       go_wp2_with (with_reducible refine stop_storeT 34 (.tmp 6) (.tmp 78) rfl ?_)
       clear a0 a1 a2 a3
       have HTH : Hid (W3.there (w.heap.size + 1 + 1) 0 4) := Hr2.out.thereAt
       have hch : Hid (Chg (w.heap.size + 1 + 1) W3 (W3.setCells (w.heap.size + 1 + 1) 0 (#[.int .i64 d.me, .int .i64 d.far, .slice (some ⟨b, o, none⟩) xs.length c, .slice po os.length co] : Array Value).toList)) := Lib.hid (chg_putL _ _ _ _ _ (Chg.refl _ W3))
       have Hr3 : Hid (Blk (W3.setCells (w.heap.size + 1 + 1) 0 (#[.int .i64 d.me, .int .i64 d.far, .slice (some ⟨b, o, none⟩) xs.length c, .slice po os.length co] : Array Value).toList) (w.heap.size + 1 + 1) #[.int .i64 d.me, .int .i64 d.far, .slice (some ⟨b, o, none⟩) xs.length c, .slice po os.length co] 34) := Lib.hid (blk_put_all Hr2.out _ rfl)
       have HB3 : Hid (Below w.heap.size w (W3.setCells (w.heap.size + 1 + 1) 0 (#[.int .i64 d.me, .int .i64 d.far, .slice (some ⟨b, o, none⟩) xs.length c, .slice po os.length co] : Array Value).toList)) := Lib.hid (below_put (by have := HGgx.out; omega) _ _ _ _ HB2.out)
       have HZ3 := kzq HZ2 hch.out.size
       have Hd3 := kcq Hd2 hch (by have := HGgx.out; omega)
       have Hm3 := kcq Hm2 hch (by have := HGgx.out; omega)
       have Hx3 := kcq Hx2 hch (by have := HGgx.out; omega)
       clear hch Hd2 Hm2 Hr2 Hx2 HB2 HZ2
       refine wpList_store_mid rfl 34 (.tmp 6) (.tmp 78) rfl (w.heap.size + 1 + 1) 0 #[.int .i64 d.me, .int .i64 d.far, .slice (some ⟨b, o, none⟩) xs.length c, .slice po os.length co] rfl rfl HTH.out (infoDC rfl) (all_oneCell_toArray (by intro u hu; simp at hu; rcases hu with rfl | rfl | rfl | rfl <;> rfl)) ?_
       generalize (W3.setCells (w.heap.size + 1 + 1) 0 (#[.int .i64 d.me, .int .i64 d.far, .slice (some ⟨b, o, none⟩) xs.length c, .slice po os.length co] : Array Value).toList) = WR at *
       clear HTH
       go_wp2_with fail
       have hfr := Hr3.out
       refine bodyPost_ret (v := .tuple #[.agg #[.int .i64 d.me, .int .i64 d.far, .slice (some ⟨b, o, none⟩) xs.length c, .slice po os.length co], .slice none 0 0, .int .i64 90]) (by simp [results, Try.results22, go_sem, hfr.cell 0, hfr.cell 1, hfr.cell 2, hfr.cell 3]) rfl ⟨_, _, _, _, _, _, _, rfl, (HD.out.kept HB3.out).imp (fun b h => .inl h.1), OwnT.nil_ _ _ _ _, HB3.out⟩
     ·skip
      have h2q : (fro != q.b) = true := by simpa using h2
      have H2 := Lib.hid h2
      clear h2
      go_upto_region 8 with fail
      clear h1q h2q m0 x0 x2 a0 e9 n9 e7 e8
      obtain rfl : R = (d, [], 140) := by
       rw [← HA.out]
       have HBW : betwA d m.s m.n m.r d.me fro = (q, 140) := by
        unfold betwA
        rw [HFX.out]
        dsimp only
        rw [if_pos (.inr (fun h => H2.out h.symm))]
       unfold nodeM
       rw [if_neg (by rw [HK7.out]; decide), if_pos HK7.out, HBW]
       have h2 : ∀ f, thenA (q, 140) f = (q, 140) := fun f => rfl
       rw [h2]
       exact beh_err (show (140 : Int) ≠ 0 by decide)
      have a0 : W3.cell? ⟨w.heap.size, 0, none⟩ = some (.int .i64 d.me) := Hd2.out.cell 0
      have a1 : W3.cell? ⟨w.heap.size, 1, none⟩ = some (.int .i64 d.far) := Hd2.out.cell 1
      have a2 : W3.cell? ⟨w.heap.size, 2, none⟩ = some (.slice (some ⟨b, o, none⟩) xs.length c) := Hd2.out.cell 2
      have a3 : W3.cell? ⟨w.heap.size, 3, none⟩ = some (.slice po os.length co) := Hd2.out.cell 3
      go_wp2_with (with_reducible refine stop_storeT 34 (.tmp 6) (.tmp 72) rfl ?_)
      clear a0 a1 a2 a3
      have HTH : Hid (W3.there (w.heap.size + 1 + 1) 0 4) := Hr2.out.thereAt
      have hch : Hid (Chg (w.heap.size + 1 + 1) W3 (W3.setCells (w.heap.size + 1 + 1) 0 (#[.int .i64 d.me, .int .i64 d.far, .slice (some ⟨b, o, none⟩) xs.length c, .slice po os.length co] : Array Value).toList)) := Lib.hid (chg_putL _ _ _ _ _ (Chg.refl _ W3))
      have Hr3 : Hid (Blk (W3.setCells (w.heap.size + 1 + 1) 0 (#[.int .i64 d.me, .int .i64 d.far, .slice (some ⟨b, o, none⟩) xs.length c, .slice po os.length co] : Array Value).toList) (w.heap.size + 1 + 1) #[.int .i64 d.me, .int .i64 d.far, .slice (some ⟨b, o, none⟩) xs.length c, .slice po os.length co] 34) := Lib.hid (blk_put_all Hr2.out _ rfl)
      have HB3 : Hid (Below w.heap.size w (W3.setCells (w.heap.size + 1 + 1) 0 (#[.int .i64 d.me, .int .i64 d.far, .slice (some ⟨b, o, none⟩) xs.length c, .slice po os.length co] : Array Value).toList)) := Lib.hid (below_put (by have := HGgx.out; omega) _ _ _ _ HB2.out)
      have HZ3 := kzq HZ2 hch.out.size
      have Hd3 := kcq Hd2 hch (by have := HGgx.out; omega)
      have Hm3 := kcq Hm2 hch (by have := HGgx.out; omega)
      have Hx3 := kcq Hx2 hch (by have := HGgx.out; omega)
      clear hch Hd2 Hm2 Hr2 Hx2 HB2 HZ2
      refine wpList_store_mid rfl 34 (.tmp 6) (.tmp 72) rfl (w.heap.size + 1 + 1) 0 #[.int .i64 d.me, .int .i64 d.far, .slice (some ⟨b, o, none⟩) xs.length c, .slice po os.length co] rfl rfl HTH.out (infoDC rfl) (all_oneCell_toArray (by intro u hu; simp at hu; rcases hu with rfl | rfl | rfl | rfl <;> rfl)) ?_
      generalize (W3.setCells (w.heap.size + 1 + 1) 0 (#[.int .i64 d.me, .int .i64 d.far, .slice (some ⟨b, o, none⟩) xs.length c, .slice po os.length co] : Array Value).toList) = WR at *
      clear HTH
      go_wp2_with fail
      have hfr := Hr3.out
      refine bodyPost_ret (v := .tuple #[.agg #[.int .i64 d.me, .int .i64 d.far, .slice (some ⟨b, o, none⟩) xs.length c, .slice po os.length co], .slice none 0 0, .int .i64 140]) (by simp [results, Try.results22, go_sem, hfr.cell 0, hfr.cell 1, hfr.cell 2, hfr.cell 3]) rfl ⟨_, _, _, _, _, _, _, rfl, (HD.out.kept HB3.out).imp (fun b h => .inl h.1), OwnT.nil_ _ _ _ _, HB3.out⟩
    ·skip
     have h1q : (q.s != d.me) = true := by simpa using h1
     have H1 := Lib.hid h1
     clear h1
     go_upto_region 8 with fail
     clear h1q m0 x0 x2 a0 e9 n9 e7 e8
     obtain rfl : R = (d, [], 140) := by
      rw [← HA.out]
      have HBW : betwA d m.s m.n m.r d.me fro = (q, 140) := by
       unfold betwA
       rw [HFX.out]
       dsimp only
       rw [if_pos (.inl (fun h => H1.out h))]
      unfold nodeM
      rw [if_neg (by rw [HK7.out]; decide), if_pos HK7.out, HBW]
      have h2 : ∀ f, thenA (q, 140) f = (q, 140) := fun f => rfl
      rw [h2]
      exact beh_err (show (140 : Int) ≠ 0 by decide)
     have a0 : W3.cell? ⟨w.heap.size, 0, none⟩ = some (.int .i64 d.me) := Hd2.out.cell 0
     have a1 : W3.cell? ⟨w.heap.size, 1, none⟩ = some (.int .i64 d.far) := Hd2.out.cell 1
     have a2 : W3.cell? ⟨w.heap.size, 2, none⟩ = some (.slice (some ⟨b, o, none⟩) xs.length c) := Hd2.out.cell 2
     have a3 : W3.cell? ⟨w.heap.size, 3, none⟩ = some (.slice po os.length co) := Hd2.out.cell 3
     go_wp2_with (with_reducible refine stop_storeT 34 (.tmp 6) (.tmp 72) rfl ?_)
     clear a0 a1 a2 a3
     have HTH : Hid (W3.there (w.heap.size + 1 + 1) 0 4) := Hr2.out.thereAt
     have hch : Hid (Chg (w.heap.size + 1 + 1) W3 (W3.setCells (w.heap.size + 1 + 1) 0 (#[.int .i64 d.me, .int .i64 d.far, .slice (some ⟨b, o, none⟩) xs.length c, .slice po os.length co] : Array Value).toList)) := Lib.hid (chg_putL _ _ _ _ _ (Chg.refl _ W3))
     have Hr3 : Hid (Blk (W3.setCells (w.heap.size + 1 + 1) 0 (#[.int .i64 d.me, .int .i64 d.far, .slice (some ⟨b, o, none⟩) xs.length c, .slice po os.length co] : Array Value).toList) (w.heap.size + 1 + 1) #[.int .i64 d.me, .int .i64 d.far, .slice (some ⟨b, o, none⟩) xs.length c, .slice po os.length co] 34) := Lib.hid (blk_put_all Hr2.out _ rfl)
     have HB3 : Hid (Below w.heap.size w (W3.setCells (w.heap.size + 1 + 1) 0 (#[.int .i64 d.me, .int .i64 d.far, .slice (some ⟨b, o, none⟩) xs.length c, .slice po os.length co] : Array Value).toList)) := Lib.hid (below_put (by have := HGgx.out; omega) _ _ _ _ HB2.out)
     have HZ3 := kzq HZ2 hch.out.size
     have Hd3 := kcq Hd2 hch (by have := HGgx.out; omega)
     have Hm3 := kcq Hm2 hch (by have := HGgx.out; omega)
     have Hx3 := kcq Hx2 hch (by have := HGgx.out; omega)
     clear hch Hd2 Hm2 Hr2 Hx2 HB2 HZ2
     refine wpList_store_mid rfl 34 (.tmp 6) (.tmp 72) rfl (w.heap.size + 1 + 1) 0 #[.int .i64 d.me, .int .i64 d.far, .slice (some ⟨b, o, none⟩) xs.length c, .slice po os.length co] rfl rfl HTH.out (infoDC rfl) (all_oneCell_toArray (by intro u hu; simp at hu; rcases hu with rfl | rfl | rfl | rfl <;> rfl)) ?_
     generalize (W3.setCells (w.heap.size + 1 + 1) 0 (#[.int .i64 d.me, .int .i64 d.far, .slice (some ⟨b, o, none⟩) xs.length c, .slice po os.length co] : Array Value).toList) = WR at *
     clear HTH
     go_wp2_with fail
     have hfr := Hr3.out
     refine bodyPost_ret (v := .tuple #[.agg #[.int .i64 d.me, .int .i64 d.far, .slice (some ⟨b, o, none⟩) xs.length c, .slice po os.length co], .slice none 0 0, .int .i64 140]) (by simp [results, Try.results22, go_sem, hfr.cell 0, hfr.cell 1, hfr.cell 2, hfr.cell 3]) rfl ⟨_, _, _, _, _, _, _, rfl, (HD.out.kept HB3.out).imp (fun b h => .inl h.1), OwnT.nil_ _ _ _ _, HB3.out⟩
   ·skip
    have HK7 : Hid (m.k = 8) := Lib.hid hk7
    have e9 : (m.k == 9) = false := by rw [hk7]; rfl
    have n9 : (m.k != 9) = true := by rw [hk7]; rfl
    have e7 : (m.k == 7) = false := by rw [hk7]; rfl
    have e8 : (m.k == 8) = true := by rw [hk7]; rfl
    clear hk7
    have m0 : W3.cell? ⟨(w.heap.size + 1), 0, none⟩ = some (.int .i64 m.k) := Hm2.out.cell 0
    have x0 : W3.cell? ⟨gx, 0, none⟩ = some (.int .i64 q.s) := Hx2.out.cell 0
    have x2 : W3.cell? ⟨gx, 2, none⟩ = some (.int .i64 q.b) := Hx2.out.cell 2
    have a0 : W3.cell? ⟨w.heap.size, 0, none⟩ = some (.int .i64 d.me) := Hd2.out.cell 0
    by_cases h1 : q.s = d.me
    ·skip
     have h1q : (q.s != d.me) = false := by simpa using h1
     have H1 := Lib.hid h1
     clear h1
     by_cases h2 : fro = q.b
     ·skip
      have h2q : (fro != q.b) = false := by simpa using h2
      have H2 := Lib.hid h2
      clear h2
      go_upto_region 9 with fail
      clear h1q h2q m0 x0 x2 a0
      have x5 : W3.cell? ⟨gx, 5, none⟩ = some (.int .i64 q.r) := Hx2.out.cell 5
      have m5 : W3.cell? ⟨(w.heap.size + 1), 5, none⟩ = some (.int .i64 m.r) := Hm2.out.cell 5
      by_cases hr0 : q.r = m.r
      ·skip
       have hr1 : (q.r != m.r) = false := by simpa using hr0
       have HR0 := Lib.hid hr0
       clear hr0
       have HBW0 : Hid (betwA d m.s m.n m.r d.me fro = (q, 0)) := Lib.hid (by
        unfold betwA
        rw [HFX.out]
        dsimp only
        rw [if_neg (by rintro (h | h); exact h H1.out; exact h H2.out.symm), if_neg (fun h => h HR0.out)])
       have m0 : W3.cell? ⟨(w.heap.size + 1), 0, none⟩ = some (.int .i64 m.k) := Hm2.out.cell 0
       go_upto_region 16 with fail
       clear hr1 x5 m5
       have HG := Lib.hid (refact_any q 1 (0) W3 HQR.out)
       obtain ⟨pa, hpa⟩ : ∃ pa, actI q 1 (0) = pa := ⟨_, rfl⟩
       rw [hpa] at HG
       have HPA := Lib.hid hpa
       clear hpa
       obtain ⟨y, e⟩ := pa
       unfold ansI Itm.v at HG
       have x0 : W3.cell? ⟨gx, 0, none⟩ = some (.int .i64 q.s) := Hx2.out.cell 0
       have x1 : W3.cell? ⟨gx, 1, none⟩ = some (.int .i64 q.n) := Hx2.out.cell 1
       have x2 : W3.cell? ⟨gx, 2, none⟩ = some (.int .i64 q.b) := Hx2.out.cell 2
       have x3 : W3.cell? ⟨gx, 3, none⟩ = some (.int .i64 q.c) := Hx2.out.cell 3
       have x4 : W3.cell? ⟨gx, 4, none⟩ = some (.int .i64 q.a) := Hx2.out.cell 4
       have x5 : W3.cell? ⟨gx, 5, none⟩ = some (.int .i64 q.r) := Hx2.out.cell 5
       have x6 : W3.cell? ⟨gx, 6, none⟩ = some (.int .i64 q.t) := Hx2.out.cell 6
       have x7 : W3.cell? ⟨gx, 7, none⟩ = some (.int .i64 q.y) := Hx2.out.cell 7
       go_wp2_with fail
       clear x0 x1 x2 x3 x4 x5 x6 x7 
       refine HG.out.mono ?_
       rintro y9 W5a ⟨rfl, hb⟩
       clear HG
       have Hd3 := kbq Hd2 hb
       have Hm3 := kbq Hm2 hb
       have Hr3 := kbq Hr2 hb
       have Hx3 := kbq Hx2 hb
       have HB3 := ktq HB2 hb
       have HZ3 := kzq HZ2 hb.size
       clear Hd2 Hm2 Hr2 Hx2 HB2 HZ2
       clear hb
       have hba := oneB W5a (.cells #[.int .i64 y.s, .int .i64 y.n, .int .i64 y.b, .int .i64 y.c, .int .i64 y.a, .int .i64 y.r, .int .i64 y.t, .int .i64 y.y] 64)
       have Hd4 := kbq Hd3 hba
       have Hm4 := kbq Hm3 hba
       have Hr4 := kbq Hr3 hba
       have Hx4 := kbq Hx3 hba
       have Hy4 := Lib.hid (Blk.new W5a #[.int .i64 y.s, .int .i64 y.n, .int .i64 y.b, .int .i64 y.c, .int .i64 y.a, .int .i64 y.r, .int .i64 y.t, .int .i64 y.y] 64)
       have HB4 := Lib.hid (HB3.out.alloc HB3.out.size (.cells #[.int .i64 y.s, .int .i64 y.n, .int .i64 y.b, .int .i64 y.c, .int .i64 y.a, .int .i64 y.r, .int .i64 y.t, .int .i64 y.y] 64))
       have HZ4 := kzq HZ3 hba.size
       have HGgy : Hid (w.heap.size + 1 + 1 < W5a.heap.size) := Lib.hid Hr3.out.lt
       clear hba Hd3 Hm3 Hr3 Hx3 HB3 HZ3
       go_upto_region 17 with fail
       generalize (W5a.alloc (.cells #[.int .i64 y.s, .int .i64 y.n, .int .i64 y.b, .int .i64 y.c, .int .i64 y.a, .int .i64 y.r, .int .i64 y.t, .int .i64 y.y] 64)) = W5 at *
       generalize hggy : W5a.heap.size = gy at *
       clear hggy
       clear m0
       have m0 : W5.cell? ⟨(w.heap.size + 1), 0, none⟩ = some (.int .i64 m.k) := Hm4.out.cell 0
       have HYC : Hid (chkI y = 0 ∧ y.s = q.s ∧ y.b = q.b) := Lib.hid (by
        have h1 := turn_chk (x := q) (f := 1) (t := 2) (.inl ⟨rfl, rfl⟩) HQC.out.1
        have h2 : turnI q 1 2 = (y, e) := HPA.out
        rw [h2] at h1
        exact h1)
       by_cases he0 : e = 0
       ·skip
        subst he0
        have HYT : Hid (y.t = 2 ∧ y.r ≤ 3) := Lib.hid (by
         have h2 : turnI q 1 2 = (y, 0) := HPA.out
         have h3 := (chk_ok HYC.out.1).2.1.2.2.2.1
         refine ⟨?_, h3.2⟩
         unfold turnI at h2
         split at h2
         ·rw [← (Prod.mk.inj h2).1]
         ·exact absurd (Prod.mk.inj h2).2 (by decide))
        have y5 : W5.cell? ⟨gy, 5, none⟩ = some (.int .i64 y.r) := Hy4.out.cell 5
        by_cases hy3 : y.r = 3
        ·skip
         have hy4 : (y.r == 3) = true := by simpa using hy3
         have HY3 := Lib.hid hy3
         clear hy3
         go_upto_region 20 with fail
         clear hy4 y5 m0 e9 n9 e7 e8
         have Hx4q := Hy4
         clear Hx4 Hy4
         have Hx4 := Hx4q
         clear Hx4q
         have z6 : W5.cell? ⟨gy, 6, none⟩ = some (.int .i64 y.t) := Hx4.out.cell 6
         have f6 := Hx4.out.free 6
         go_upto_region 21 with fail
         clear z6 f6
         have hch := Lib.hid ((Chg.refl gy W5).set 6 (.int .i64 4))
         have Hx5 : Hid (Blk _ gy #[.int .i64 y.s, .int .i64 y.n, .int .i64 y.b, .int .i64 y.c, .int .i64 y.a, .int .i64 y.r, .int .i64 4, .int .i64 y.y] 64) := Lib.hid (Hx4.out.set 6 (.int .i64 4))
         have HB5 := ksq HB4 hch (by show w.heap.size ≤ gy; have := HGgx.out; have := HGgy.out; omega)
         have HZ5 := kzq HZ4 hch.out.size
         have Hd5 := kcq Hd4 hch (by have := HGgx.out; have := HGgy.out; omega)
         have Hm5 := kcq Hm4 hch (by have := HGgx.out; have := HGgy.out; omega)
         have Hr5 := kcq Hr4 hch (by have := HGgx.out; have := HGgy.out; omega)
         clear hch Hd4 Hm4 Hr4 Hx4 HB4 HZ4
         generalize (W5.setCell ⟨gy, 6, none⟩ (.int .i64 4)) = W6 at *
         obtain rfl : R = (d.put ({ y with t := 4 } : Itm), [(fro, aboutM 9 ({ y with t := 4 } : Itm))], 0) := by
          rw [← HA.out]
          have HBW := HBW0.out
          have h7 : thenA (q, 0) (fun x => turnI x 1 2) = (y, 0) := by rw [← HPA.out]; unfold thenA; rw [if_pos rfl]; rfl
          unfold nodeM
          rw [if_neg (by rw [HK7.out]; decide), if_neg (by rw [HK7.out]; decide), if_pos HK7.out]
          unfold dispI
          rw [HBW]
          rw [h7]
          have h8 : ¬ ((y, (0 : Int)).2 ≠ 0 ∨ (y, (0 : Int)).1.r < 3) := by
           have h2 := HY3.out
           show ¬ ((0 : Int) ≠ 0 ∨ y.r < 3)
           omega
          unfold dispR dispK
          rw [if_neg h8, if_neg h8]
          have h9 : turnI (y, (0 : Int)).1 2 4 = (({ y with t := 4 } : Itm), 0) := by unfold turnI; rw [if_pos HYT.out.1]
          rw [h9]
          refine beh_ok0 ?_
          unfold toI
          rw [if_neg (fun h => ?_)]
          ·exact HYC.out.2.2.trans H2.out.symm
          ·have h10 : y.b = d.me := h
           exact (chk_ok HYC.out.1).1.2.2 ((HYC.out.2.1.trans H1.out).trans h10.symm)
         have HWL3 : Hid (w.heap.size + 1 + 1 + 1 ≤ W6.heap.size) := Lib.hid Hr5.out.lt
         have hbd := (Below.refl W6.heap.size W6).drew
         have Hd6 := kbq Hd5 hbd
         have Hm6 := kbq Hm5 hbd
         have Hr6 := kbq Hr5 hbd
         have Hx6 := kbq Hx5 hbd
         have HB6 := ktq HB5 hbd
         have HZ6 := kzq HZ5 hbd.size
         clear Hd5 Hm5 Hr5 Hx5 HB5 HZ5
         refine wp_region_held_drew (S := fun w' => w'.cell? ⟨w.heap.size, 0, none⟩ = some (.int .i64 d.me) ∧ w'.cell? ⟨w.heap.size, 1, none⟩ = some (.int .i64 d.far) ∧ w'.cell? ⟨w.heap.size, 2, none⟩ = some (.slice (some ⟨b, o, none⟩) xs.length c) ∧ w'.cell? ⟨w.heap.size, 3, none⟩ = some (.slice po os.length co) ∧ w'.cell? ⟨gy, 0, none⟩ = some (.int .i64 y.s) ∧ w'.cell? ⟨gy, 1, none⟩ = some (.int .i64 y.n) ∧ w'.cell? ⟨gy, 2, none⟩ = some (.int .i64 y.b) ∧ w'.cell? ⟨gy, 3, none⟩ = some (.int .i64 y.c) ∧ w'.cell? ⟨gy, 4, none⟩ = some (.int .i64 y.a) ∧ w'.cell? ⟨gy, 5, none⟩ = some (.int .i64 y.r) ∧ w'.cell? ⟨gy, 6, none⟩ = some (.int .i64 4) ∧ w'.cell? ⟨gy, 7, none⟩ = some (.int .i64 y.y)) (by kernel_rfl) ⟨Hd6.out.cell 0, Hd6.out.cell 1, Hd6.out.cell 2, Hd6.out.cell 3, Hx6.out.cell 0, Hx6.out.cell 1, Hx6.out.cell 2, Hx6.out.cell 3, Hx6.out.cell 4, Hx6.out.cell 5, Hx6.out.cell 6, Hx6.out.cell 7⟩ (fun hS0 => ?_)
         have HWD3 := Lib.hid (Nat.le_trans HWL3.out hbd.size)
         clear HWL3
         generalize W6.drew = WD at *
         clear hbd
         refine tkq 0 ?_
         refine tkq 1 ?_
         refine tkq 3 ?_
         refine tkq 4 ?_
         refine rdq 2 (fun K hK => ?_)
         have HG := Lib.hid (ckeep_any WD d.me d.far (some ⟨b, o, none⟩) po xs.length c os.length co ({ y with t := 4 } : Itm) xs (HD.out.kept HB6.out).row rfl (by have := HLN.out; omega))
         unfold Itm.v at HG
         try dsimp only at HG
         go_simp
         go_at_call 37
         refine HG.out.mono ?_
         rintro y9 w7 ⟨r9, p9, n9, c9, ha9, rfl, hown9, hn9, hb⟩
         clear HG
         have HP9 := Lib.hid (cput_perm (x := ({ y with t := 4 } : Itm)) HD.out.px HSX.out ha9)
         have HO9 := Lib.hid (hown9.less (base' := w.heap.size + 1 + 1 + 1) HWD3.out)
         have HWD4 := Lib.hid (Nat.le_trans HWD3.out hb.size)
         generalize cputL xs ({ y with t := 4 } : Itm) r9 = ys at *
         subst hn9
         clear ha9 hown9
         have Hd7 := kbq Hd6 hb
         have Hm7 := kbq Hm6 hb
         have Hr7 := kbq Hr6 hb
         have Hx7 := kbq Hx6 hb
         have HB7 := ktq HB6 hb
         have HZ7 := kzq HZ6 hb.size
         clear Hd6 Hm6 Hr6 Hx6 HB6 HZ6
         clear hb hS0
         try go_wp2_with fail
         refine hK.out _ _ ⟨Hd7.out.cell 0, Hd7.out.cell 1, Hd7.out.cell 2, Hd7.out.cell 3, Hx7.out.cell 0, Hx7.out.cell 1, Hx7.out.cell 2, Hx7.out.cell 3, Hx7.out.cell 4, Hx7.out.cell 5, Hx7.out.cell 6, Hx7.out.cell 7⟩ (fun hS0 => ?_)
         clear hK K
         try simp only [Act.put, List.getElem_toArray, List.getElem_cons_succ, List.getElem_cons_zero, List.setIfInBounds_toArray, List.set_cons_zero, List.set_cons_succ]
         have Sy7 := HO9
         clear HO9
         refine rdq 5 (fun K hK => ?_)
         have HG := Lib.hid (rabout_any fro 9 ({ y with t := 4 } : Itm) w7)
         unfold Itm.v at HG
         try dsimp only at HG
         go_simp
         go_at_call 38
         refine HG.out.mono ?_
         rintro y9 w8 ⟨vs9, rfl, hso9, hb⟩
         clear HG
         have HS9 := Lib.hid (hso9.less (base' := w.heap.size + 1 + 1 + 1) HWD4.out)
         clear hso9
         have Hd8 := kbq Hd7 hb
         have Hm8 := kbq Hm7 hb
         have Hr8 := kbq Hr7 hb
         have Hx8 := kbq Hx7 hb
         have Sy8 := Lib.hid (Sy7.out.later hb)
         have HB8 := ktq HB7 hb
         have HZ8 := kzq HZ7 hb.size
         clear Hd7 Hm7 Hr7 Hx7 Sy7 HB7 HZ7
         clear hb hS0
         try go_wp2_with fail
         refine hK.out _ _ ⟨Hd8.out.cell 0, Hd8.out.cell 1, Hd8.out.cell 2, Hd8.out.cell 3, Hx8.out.cell 0, Hx8.out.cell 1, Hx8.out.cell 2, Hx8.out.cell 3, Hx8.out.cell 4, Hx8.out.cell 5, Hx8.out.cell 6, Hx8.out.cell 7⟩ (fun hS0 => ?_)
         clear hK K
         try simp only [Act.put, List.getElem_toArray, List.getElem_cons_succ, List.getElem_cons_zero, List.setIfInBounds_toArray, List.set_cons_zero, List.set_cons_succ]
         have Sz8 := HS9
         clear HS9
         refine rdq 6 (fun K hK => ?_)
         have z0 : w8.cell? ⟨(w.heap.size + 1 + 1), 0, none⟩ = some (.int .i64 0) := Hr8.out.cell 0
         have z1 : w8.cell? ⟨(w.heap.size + 1 + 1), 1, none⟩ = some (.int .i64 0) := Hr8.out.cell 1
         have z2 : w8.cell? ⟨(w.heap.size + 1 + 1), 2, none⟩ = some (.slice none 0 0) := Hr8.out.cell 2
         have z3 : w8.cell? ⟨(w.heap.size + 1 + 1), 3, none⟩ = some (.slice none 0 0) := Hr8.out.cell 3
         have f0 := Hr8.out.free 0
         have f1 := Hr8.out.free 1
         have f2 := Hr8.out.free 2
         have f3 := Hr8.out.free 3
         go_simp
         clear z0 f0 z1 f1 z2 f2 z3 f3
         have hch := Lib.hid (((((Chg.refl (w.heap.size + 1 + 1) w8).set 0 (.int .i64 d.me)).set 1 (.int .i64 d.far)).set 2 (.slice p9 ys.length c9)).set 3 (.slice po os.length co))
         have Hr9 : Hid (Blk _ (w.heap.size + 1 + 1) #[.int .i64 d.me, .int .i64 d.far, .slice p9 ys.length c9, .slice po os.length co] 34) := Lib.hid ((((Hr8.out.set 0 (.int .i64 d.me)).set 1 (.int .i64 d.far)).set 2 (.slice p9 ys.length c9)).set 3 (.slice po os.length co))
         have HB9 := ksq HB8 hch (by show w.heap.size ≤ (w.heap.size + 1 + 1); have := HGgx.out; have := HGgy.out; omega)
         have HZ9 := kzq HZ8 hch.out.size
         have Hd9 := kcq Hd8 hch (by have := HGgx.out; have := HGgy.out; omega)
         have Hm9 := kcq Hm8 hch (by have := HGgx.out; have := HGgy.out; omega)
         have Hx9 := kcq Hx8 hch (by have := HGgx.out; have := HGgy.out; omega)
         have Sy9 := Lib.hid (Sy8.out.stay (fun b hb => hch.out.2 b (Sy8.out.lt b hb) (by have h1 := Sy8.out.block_ge b hb; have := HGgx.out; have := HGgy.out; omega)))
         have Sz9 := Lib.hid (Sz8.out.stay (fun b hb => hch.out.2 b (Sz8.out.lt b hb) (by have h1 := Sz8.out.block_ge b hb; have := HGgx.out; have := HGgy.out; omega)))
         clear hch hS0 Hd8 Hm8 Hr8 Hx8 Sy8 Sz8 HB8 HZ8
         generalize ((((w8.setCell ⟨w.heap.size + 1 + 1, 0, none⟩ (.int .i64 d.me)).setCell ⟨w.heap.size + 1 + 1, 1, none⟩ (.int .i64 d.far)).setCell ⟨w.heap.size + 1 + 1, 2, none⟩ (.slice p9 ys.length c9)).setCell ⟨w.heap.size + 1 + 1, 3, none⟩ (.slice po os.length co)) = W9 at *
         refine hK.out _ _ ⟨Hd9.out.cell 0, Hd9.out.cell 1, Hd9.out.cell 2, Hd9.out.cell 3, Hx9.out.cell 0, Hx9.out.cell 1, Hx9.out.cell 2, Hx9.out.cell 3, Hx9.out.cell 4, Hx9.out.cell 5, Hx9.out.cell 6, Hx9.out.cell 7⟩ (fun hS0 => ?_)
         clear hK K
         try simp only [Act.put, List.getElem_toArray, List.getElem_cons_succ, List.getElem_cons_zero, List.setIfInBounds_toArray, List.set_cons_zero, List.set_cons_succ]
         refine tkq 7 ?_
         refine tkq 8 ?_
         refine wpAnyH_done (by kernel_rfl) ?_ _
         clear hS0
         go_wp2_with fail
         have hfr := Hr9.out
         refine bodyPost_ret (v := .tuple #[.agg #[.int .i64 d.me, .int .i64 d.far, .slice p9 ys.length c9, .slice po os.length co], vs9, .int .i64 0]) (by simp [results, Try.results22, go_sem, hfr.cell 0, hfr.cell 1, hfr.cell 2, hfr.cell 3]) rfl ⟨_, _, _, _, _, _, _, rfl, ⟨Sy9.out.row, (HD.out.kept HB9.out).rowo, Sy9.out.at_P (fun b h => .inr (by omega)), HD.out.ao.imp (fun b h => .inl h.1), HP9.out, HD.out.po⟩, ?_, HB9.out⟩
         exact Sz9.out.less (by omega)
        ·skip
         have hy4 : (y.r == 3) = false := by simpa using hy3
         have HY3 := Lib.hid hy3
         clear hy3
         go_upto_region 22 with fail
         clear hy4 y5 m0 e9 n9 e7 e8
         have Hx4q := Hy4
         clear Hx4 Hy4
         have Hx4 := Hx4q
         clear Hx4q
         obtain rfl : R = (d.put y, [], 0) := by
          rw [← HA.out]
          have HBW := HBW0.out
          have h7 : thenA (q, 0) (fun x => turnI x 1 2) = (y, 0) := by rw [← HPA.out]; unfold thenA; rw [if_pos rfl]; rfl
          unfold nodeM
          rw [if_neg (by rw [HK7.out]; decide), if_neg (by rw [HK7.out]; decide), if_pos HK7.out]
          unfold dispI
          rw [HBW]
          rw [h7]
          have h8 : y.r < 3 := by have h1 := HYT.out.2; have h2 := HY3.out; omega
          unfold dispR dispK
          rw [if_pos (.inr h8), if_pos (.inr h8)]
          rfl
         have HWL3 : Hid (w.heap.size + 1 + 1 + 1 ≤ W5.heap.size) := Lib.hid Hr4.out.lt
         have HG := Lib.hid (ckeep_any W5 d.me d.far (some ⟨b, o, none⟩) po xs.length c os.length co y xs (HD.out.kept HB4.out).row rfl (by have := HLN.out; omega))
         unfold Itm.v at HG
         have a0 : W5.cell? ⟨w.heap.size, 0, none⟩ = some (.int .i64 d.me) := Hd4.out.cell 0
         have a1 : W5.cell? ⟨w.heap.size, 1, none⟩ = some (.int .i64 d.far) := Hd4.out.cell 1
         have a2 : W5.cell? ⟨w.heap.size, 2, none⟩ = some (.slice (some ⟨b, o, none⟩) xs.length c) := Hd4.out.cell 2
         have a3 : W5.cell? ⟨w.heap.size, 3, none⟩ = some (.slice po os.length co) := Hd4.out.cell 3
         have x0 : W5.cell? ⟨gy, 0, none⟩ = some (.int .i64 y.s) := Hx4.out.cell 0
         have x1 : W5.cell? ⟨gy, 1, none⟩ = some (.int .i64 y.n) := Hx4.out.cell 1
         have x2 : W5.cell? ⟨gy, 2, none⟩ = some (.int .i64 y.b) := Hx4.out.cell 2
         have x3 : W5.cell? ⟨gy, 3, none⟩ = some (.int .i64 y.c) := Hx4.out.cell 3
         have x4 : W5.cell? ⟨gy, 4, none⟩ = some (.int .i64 y.a) := Hx4.out.cell 4
         have x5 : W5.cell? ⟨gy, 5, none⟩ = some (.int .i64 y.r) := Hx4.out.cell 5
         have x6 : W5.cell? ⟨gy, 6, none⟩ = some (.int .i64 y.t) := Hx4.out.cell 6
         have x7 : W5.cell? ⟨gy, 7, none⟩ = some (.int .i64 y.y) := Hx4.out.cell 7
         go_wp2_with fail
         clear a0 a1 a2 a3 x0 x1 x2 x3 x4 x5 x6 x7
         refine HG.out.mono ?_
         rintro y9 w7 ⟨r9, p9, n9, c9, ha9, rfl, hown9, hn9, hb⟩
         clear HG
         have HP9 := Lib.hid (cput_perm (x := y) HD.out.px HSX.out ha9)
         have HO9 := Lib.hid (hown9.less (base' := w.heap.size + 1 + 1 + 1) HWL3.out)
         generalize cputL xs y r9 = ys at *
         subst hn9
         clear ha9 hown9
         have Hd5 := kbq Hd4 hb
         have Hm5 := kbq Hm4 hb
         have Hr5 := kbq Hr4 hb
         have Hx5 := kbq Hx4 hb
         have HB5 := ktq HB4 hb
         have HZ5 := kzq HZ4 hb.size
         clear Hd4 Hm4 Hr4 Hx4 HB4 HZ4
         clear hb
         have Sy5 := HO9
         clear HO9
         go_wp2_with (with_reducible refine stop_storeT 34 (.tmp 6) (.tmp 112) rfl ?_)
         have HTH : Hid (w7.there (w.heap.size + 1 + 1) 0 4) := Hr5.out.thereAt
         have hch : Hid (Chg (w.heap.size + 1 + 1) w7 (w7.setCells (w.heap.size + 1 + 1) 0 (#[.int .i64 d.me, .int .i64 d.far, .slice p9 ys.length c9, .slice po os.length co] : Array Value).toList)) := Lib.hid (chg_putL _ _ _ _ _ (Chg.refl _ w7))
         have Hr6 : Hid (Blk (w7.setCells (w.heap.size + 1 + 1) 0 (#[.int .i64 d.me, .int .i64 d.far, .slice p9 ys.length c9, .slice po os.length co] : Array Value).toList) (w.heap.size + 1 + 1) #[.int .i64 d.me, .int .i64 d.far, .slice p9 ys.length c9, .slice po os.length co] 34) := Lib.hid (blk_put_all Hr5.out _ rfl)
         have HB6 : Hid (Below w.heap.size w (w7.setCells (w.heap.size + 1 + 1) 0 (#[.int .i64 d.me, .int .i64 d.far, .slice p9 ys.length c9, .slice po os.length co] : Array Value).toList)) := Lib.hid (below_put (by have := HGgx.out; have := HGgy.out; omega) _ _ _ _ HB5.out)
         have HZ6 := kzq HZ5 hch.out.size
         have Hd6 := kcq Hd5 hch (by have := HGgx.out; have := HGgy.out; omega)
         have Hm6 := kcq Hm5 hch (by have := HGgx.out; have := HGgy.out; omega)
         have Hx6 := kcq Hx5 hch (by have := HGgx.out; have := HGgy.out; omega)
         have Sy6 := Lib.hid (Sy5.out.stay (fun b hb => hch.out.2 b (Sy5.out.lt b hb) (by have h1 := Sy5.out.block_ge b hb; have := HGgx.out; have := HGgy.out; omega)))
         clear hch Hd5 Hm5 Hr5 Hx5 Sy5 HB5 HZ5
         refine wpList_store_mid rfl 34 (.tmp 6) (.tmp 112) rfl (w.heap.size + 1 + 1) 0 #[.int .i64 d.me, .int .i64 d.far, .slice p9 ys.length c9, .slice po os.length co] rfl rfl HTH.out (infoDC rfl) (all_oneCell_toArray (by intro u hu; simp at hu; rcases hu with rfl | rfl | rfl | rfl <;> rfl)) ?_
         generalize (w7.setCells (w.heap.size + 1 + 1) 0 (#[.int .i64 d.me, .int .i64 d.far, .slice p9 ys.length c9, .slice po os.length co] : Array Value).toList) = W9 at *
         clear HTH
         go_wp2_with fail
         have hfr := Hr6.out
         refine bodyPost_ret (v := .tuple #[.agg #[.int .i64 d.me, .int .i64 d.far, .slice p9 ys.length c9, .slice po os.length co], .slice none 0 0, .int .i64 0]) (by simp [results, Try.results22, go_sem, hfr.cell 0, hfr.cell 1, hfr.cell 2, hfr.cell 3]) rfl ⟨_, _, _, _, _, _, _, rfl, ⟨Sy6.out.row, (HD.out.kept HB6.out).rowo, Sy6.out.at_P (fun b h => .inr (by omega)), HD.out.ao.imp (fun b h => .inl h.1), HP9.out, HD.out.po⟩, OwnT.nil_ _ _ _ _, HB6.out⟩
       ·skip
        have he1 : (e != 0) = true := by simpa using he0
        go_upto_region 18 with fail
        clear he1 m0 e9 n9 e7 e8
        obtain rfl : R = (d, [], e) := by
         rw [← HA.out]
         have HBW := HBW0.out
         have h7 : thenA (q, 0) (fun x => turnI x 1 2) = (y, e) := by rw [← HPA.out]; unfold thenA; rw [if_pos rfl]; rfl
         unfold nodeM
         rw [if_neg (by rw [HK7.out]; decide), if_neg (by rw [HK7.out]; decide), if_pos HK7.out]
         unfold dispI
         rw [HBW]
         rw [h7]
         unfold dispR dispK
         rw [if_pos (.inl he0), if_pos (.inl he0)]
         exact beh_err he0
        have a0 : W5.cell? ⟨w.heap.size, 0, none⟩ = some (.int .i64 d.me) := Hd4.out.cell 0
        have a1 : W5.cell? ⟨w.heap.size, 1, none⟩ = some (.int .i64 d.far) := Hd4.out.cell 1
        have a2 : W5.cell? ⟨w.heap.size, 2, none⟩ = some (.slice (some ⟨b, o, none⟩) xs.length c) := Hd4.out.cell 2
        have a3 : W5.cell? ⟨w.heap.size, 3, none⟩ = some (.slice po os.length co) := Hd4.out.cell 3
        go_wp2_with (with_reducible refine stop_storeT 34 (.tmp 6) (.tmp 93) rfl ?_)
        clear a0 a1 a2 a3
        have HTH : Hid (W5.there (w.heap.size + 1 + 1) 0 4) := Hr4.out.thereAt
        have hch : Hid (Chg (w.heap.size + 1 + 1) W5 (W5.setCells (w.heap.size + 1 + 1) 0 (#[.int .i64 d.me, .int .i64 d.far, .slice (some ⟨b, o, none⟩) xs.length c, .slice po os.length co] : Array Value).toList)) := Lib.hid (chg_putL _ _ _ _ _ (Chg.refl _ W5))
        have Hr5 : Hid (Blk (W5.setCells (w.heap.size + 1 + 1) 0 (#[.int .i64 d.me, .int .i64 d.far, .slice (some ⟨b, o, none⟩) xs.length c, .slice po os.length co] : Array Value).toList) (w.heap.size + 1 + 1) #[.int .i64 d.me, .int .i64 d.far, .slice (some ⟨b, o, none⟩) xs.length c, .slice po os.length co] 34) := Lib.hid (blk_put_all Hr4.out _ rfl)
        have HB5 : Hid (Below w.heap.size w (W5.setCells (w.heap.size + 1 + 1) 0 (#[.int .i64 d.me, .int .i64 d.far, .slice (some ⟨b, o, none⟩) xs.length c, .slice po os.length co] : Array Value).toList)) := Lib.hid (below_put (by have := HGgx.out; have := HGgy.out; omega) _ _ _ _ HB4.out)
        have HZ5 := kzq HZ4 hch.out.size
        have Hd5 := kcq Hd4 hch (by have := HGgx.out; have := HGgy.out; omega)
        have Hm5 := kcq Hm4 hch (by have := HGgx.out; have := HGgy.out; omega)
        have Hx5 := kcq Hx4 hch (by have := HGgx.out; have := HGgy.out; omega)
        have Hy5 := kcq Hy4 hch (by have := HGgx.out; have := HGgy.out; omega)
        clear hch Hd4 Hm4 Hr4 Hx4 Hy4 HB4 HZ4
        refine wpList_store_mid rfl 34 (.tmp 6) (.tmp 93) rfl (w.heap.size + 1 + 1) 0 #[.int .i64 d.me, .int .i64 d.far, .slice (some ⟨b, o, none⟩) xs.length c, .slice po os.length co] rfl rfl HTH.out (infoDC rfl) (all_oneCell_toArray (by intro u hu; simp at hu; rcases hu with rfl | rfl | rfl | rfl <;> rfl)) ?_
        generalize (W5.setCells (w.heap.size + 1 + 1) 0 (#[.int .i64 d.me, .int .i64 d.far, .slice (some ⟨b, o, none⟩) xs.length c, .slice po os.length co] : Array Value).toList) = WR at *
        clear HTH
        go_wp2_with fail
        have hfr := Hr5.out
        refine bodyPost_ret (v := .tuple #[.agg #[.int .i64 d.me, .int .i64 d.far, .slice (some ⟨b, o, none⟩) xs.length c, .slice po os.length co], .slice none 0 0, .int .i64 e]) (by simp [results, Try.results22, go_sem, hfr.cell 0, hfr.cell 1, hfr.cell 2, hfr.cell 3]) rfl ⟨_, _, _, _, _, _, _, rfl, (HD.out.kept HB5.out).imp (fun b h => .inl h.1), OwnT.nil_ _ _ _ _, HB5.out⟩
      ·skip
       have hr1 : (q.r != m.r) = true := by simpa using hr0
       have HR0 := Lib.hid hr0
       go_upto_region 10 with fail
       clear hr0 hr1 x5 m5 e9 n9 e7 e8
       obtain rfl : R = (d, [], 90) := by
        rw [← HA.out]
        have HBW : betwA d m.s m.n m.r d.me fro = (q, 90) := by
         unfold betwA
         rw [HFX.out]
         dsimp only
         rw [if_neg (by rintro (h | h); exact h H1.out; exact h H2.out.symm), if_pos HR0.out]
        unfold nodeM
        rw [if_neg (by rw [HK7.out]; decide), if_neg (by rw [HK7.out]; decide), if_pos HK7.out]
        unfold dispI
        rw [HBW]
        have h2 : ∀ f, thenA (q, 90) f = (q, 90) := fun f => rfl
        have h4 : dispR (q, 90) = (q, 90) := rfl
        rw [h2, h4]
        exact beh_err (show (90 : Int) ≠ 0 by decide)
       have a0 : W3.cell? ⟨w.heap.size, 0, none⟩ = some (.int .i64 d.me) := Hd2.out.cell 0
       have a1 : W3.cell? ⟨w.heap.size, 1, none⟩ = some (.int .i64 d.far) := Hd2.out.cell 1
       have a2 : W3.cell? ⟨w.heap.size, 2, none⟩ = some (.slice (some ⟨b, o, none⟩) xs.length c) := Hd2.out.cell 2
       have a3 : W3.cell? ⟨w.heap.size, 3, none⟩ = some (.slice po os.length co) := Hd2.out.cell 3
       go_wp2_with (with_reducible refine stop_storeT 34 (.tmp 6) (.tmp 78) rfl ?_)
       clear a0 a1 a2 a3
       have HTH : Hid (W3.there (w.heap.size + 1 + 1) 0 4) := Hr2.out.thereAt
       have hch : Hid (Chg (w.heap.size + 1 + 1) W3 (W3.setCells (w.heap.size + 1 + 1) 0 (#[.int .i64 d.me, .int .i64 d.far, .slice (some ⟨b, o, none⟩) xs.length c, .slice po os.length co] : Array Value).toList)) := Lib.hid (chg_putL _ _ _ _ _ (Chg.refl _ W3))
       have Hr3 : Hid (Blk (W3.setCells (w.heap.size + 1 + 1) 0 (#[.int .i64 d.me, .int .i64 d.far, .slice (some ⟨b, o, none⟩) xs.length c, .slice po os.length co] : Array Value).toList) (w.heap.size + 1 + 1) #[.int .i64 d.me, .int .i64 d.far, .slice (some ⟨b, o, none⟩) xs.length c, .slice po os.length co] 34) := Lib.hid (blk_put_all Hr2.out _ rfl)
       have HB3 : Hid (Below w.heap.size w (W3.setCells (w.heap.size + 1 + 1) 0 (#[.int .i64 d.me, .int .i64 d.far, .slice (some ⟨b, o, none⟩) xs.length c, .slice po os.length co] : Array Value).toList)) := Lib.hid (below_put (by have := HGgx.out; omega) _ _ _ _ HB2.out)
       have HZ3 := kzq HZ2 hch.out.size
       have Hd3 := kcq Hd2 hch (by have := HGgx.out; omega)
       have Hm3 := kcq Hm2 hch (by have := HGgx.out; omega)
       have Hx3 := kcq Hx2 hch (by have := HGgx.out; omega)
       clear hch Hd2 Hm2 Hr2 Hx2 HB2 HZ2
       refine wpList_store_mid rfl 34 (.tmp 6) (.tmp 78) rfl (w.heap.size + 1 + 1) 0 #[.int .i64 d.me, .int .i64 d.far, .slice (some ⟨b, o, none⟩) xs.length c, .slice po os.length co] rfl rfl HTH.out (infoDC rfl) (all_oneCell_toArray (by intro u hu; simp at hu; rcases hu with rfl | rfl | rfl | rfl <;> rfl)) ?_
       generalize (W3.setCells (w.heap.size + 1 + 1) 0 (#[.int .i64 d.me, .int .i64 d.far, .slice (some ⟨b, o, none⟩) xs.length c, .slice po os.length co] : Array Value).toList) = WR at *
       clear HTH
       go_wp2_with fail
       have hfr := Hr3.out
       refine bodyPost_ret (v := .tuple #[.agg #[.int .i64 d.me, .int .i64 d.far, .slice (some ⟨b, o, none⟩) xs.length c, .slice po os.length co], .slice none 0 0, .int .i64 90]) (by simp [results, Try.results22, go_sem, hfr.cell 0, hfr.cell 1, hfr.cell 2, hfr.cell 3]) rfl ⟨_, _, _, _, _, _, _, rfl, (HD.out.kept HB3.out).imp (fun b h => .inl h.1), OwnT.nil_ _ _ _ _, HB3.out⟩
     ·skip
      have h2q : (fro != q.b) = true := by simpa using h2
      have H2 := Lib.hid h2
      clear h2
      go_upto_region 8 with fail
      clear h1q h2q m0 x0 x2 a0 e9 n9 e7 e8
      obtain rfl : R = (d, [], 140) := by
       rw [← HA.out]
       have HBW : betwA d m.s m.n m.r d.me fro = (q, 140) := by
        unfold betwA
        rw [HFX.out]
        dsimp only
        rw [if_pos (.inr (fun h => H2.out h.symm))]
       unfold nodeM
       rw [if_neg (by rw [HK7.out]; decide), if_neg (by rw [HK7.out]; decide), if_pos HK7.out]
       unfold dispI
       rw [HBW]
       have h2 : ∀ f, thenA (q, 140) f = (q, 140) := fun f => rfl
       have h4 : dispR (q, 140) = (q, 140) := rfl
       rw [h2, h4]
       exact beh_err (show (140 : Int) ≠ 0 by decide)
      have a0 : W3.cell? ⟨w.heap.size, 0, none⟩ = some (.int .i64 d.me) := Hd2.out.cell 0
      have a1 : W3.cell? ⟨w.heap.size, 1, none⟩ = some (.int .i64 d.far) := Hd2.out.cell 1
      have a2 : W3.cell? ⟨w.heap.size, 2, none⟩ = some (.slice (some ⟨b, o, none⟩) xs.length c) := Hd2.out.cell 2
      have a3 : W3.cell? ⟨w.heap.size, 3, none⟩ = some (.slice po os.length co) := Hd2.out.cell 3
      go_wp2_with (with_reducible refine stop_storeT 34 (.tmp 6) (.tmp 72) rfl ?_)
      clear a0 a1 a2 a3
      have HTH : Hid (W3.there (w.heap.size + 1 + 1) 0 4) := Hr2.out.thereAt
      have hch : Hid (Chg (w.heap.size + 1 + 1) W3 (W3.setCells (w.heap.size + 1 + 1) 0 (#[.int .i64 d.me, .int .i64 d.far, .slice (some ⟨b, o, none⟩) xs.length c, .slice po os.length co] : Array Value).toList)) := Lib.hid (chg_putL _ _ _ _ _ (Chg.refl _ W3))
      have Hr3 : Hid (Blk (W3.setCells (w.heap.size + 1 + 1) 0 (#[.int .i64 d.me, .int .i64 d.far, .slice (some ⟨b, o, none⟩) xs.length c, .slice po os.length co] : Array Value).toList) (w.heap.size + 1 + 1) #[.int .i64 d.me, .int .i64 d.far, .slice (some ⟨b, o, none⟩) xs.length c, .slice po os.length co] 34) := Lib.hid (blk_put_all Hr2.out _ rfl)
      have HB3 : Hid (Below w.heap.size w (W3.setCells (w.heap.size + 1 + 1) 0 (#[.int .i64 d.me, .int .i64 d.far, .slice (some ⟨b, o, none⟩) xs.length c, .slice po os.length co] : Array Value).toList)) := Lib.hid (below_put (by have := HGgx.out; omega) _ _ _ _ HB2.out)
      have HZ3 := kzq HZ2 hch.out.size
      have Hd3 := kcq Hd2 hch (by have := HGgx.out; omega)
      have Hm3 := kcq Hm2 hch (by have := HGgx.out; omega)
      have Hx3 := kcq Hx2 hch (by have := HGgx.out; omega)
      clear hch Hd2 Hm2 Hr2 Hx2 HB2 HZ2
      refine wpList_store_mid rfl 34 (.tmp 6) (.tmp 72) rfl (w.heap.size + 1 + 1) 0 #[.int .i64 d.me, .int .i64 d.far, .slice (some ⟨b, o, none⟩) xs.length c, .slice po os.length co] rfl rfl HTH.out (infoDC rfl) (all_oneCell_toArray (by intro u hu; simp at hu; rcases hu with rfl | rfl | rfl | rfl <;> rfl)) ?_
      generalize (W3.setCells (w.heap.size + 1 + 1) 0 (#[.int .i64 d.me, .int .i64 d.far, .slice (some ⟨b, o, none⟩) xs.length c, .slice po os.length co] : Array Value).toList) = WR at *
      clear HTH
      go_wp2_with fail
      have hfr := Hr3.out
      refine bodyPost_ret (v := .tuple #[.agg #[.int .i64 d.me, .int .i64 d.far, .slice (some ⟨b, o, none⟩) xs.length c, .slice po os.length co], .slice none 0 0, .int .i64 140]) (by simp [results, Try.results22, go_sem, hfr.cell 0, hfr.cell 1, hfr.cell 2, hfr.cell 3]) rfl ⟨_, _, _, _, _, _, _, rfl, (HD.out.kept HB3.out).imp (fun b h => .inl h.1), OwnT.nil_ _ _ _ _, HB3.out⟩
    ·skip
     have h1q : (q.s != d.me) = true := by simpa using h1
     have H1 := Lib.hid h1
     clear h1
     go_upto_region 8 with fail
     clear h1q m0 x0 x2 a0 e9 n9 e7 e8
     obtain rfl : R = (d, [], 140) := by
      rw [← HA.out]
      have HBW : betwA d m.s m.n m.r d.me fro = (q, 140) := by
       unfold betwA
       rw [HFX.out]
       dsimp only
       rw [if_pos (.inl (fun h => H1.out h))]
      unfold nodeM
      rw [if_neg (by rw [HK7.out]; decide), if_neg (by rw [HK7.out]; decide), if_pos HK7.out]
      unfold dispI
      rw [HBW]
      have h2 : ∀ f, thenA (q, 140) f = (q, 140) := fun f => rfl
      have h4 : dispR (q, 140) = (q, 140) := rfl
      rw [h2, h4]
      exact beh_err (show (140 : Int) ≠ 0 by decide)
     have a0 : W3.cell? ⟨w.heap.size, 0, none⟩ = some (.int .i64 d.me) := Hd2.out.cell 0
     have a1 : W3.cell? ⟨w.heap.size, 1, none⟩ = some (.int .i64 d.far) := Hd2.out.cell 1
     have a2 : W3.cell? ⟨w.heap.size, 2, none⟩ = some (.slice (some ⟨b, o, none⟩) xs.length c) := Hd2.out.cell 2
     have a3 : W3.cell? ⟨w.heap.size, 3, none⟩ = some (.slice po os.length co) := Hd2.out.cell 3
     go_wp2_with (with_reducible refine stop_storeT 34 (.tmp 6) (.tmp 72) rfl ?_)
     clear a0 a1 a2 a3
     have HTH : Hid (W3.there (w.heap.size + 1 + 1) 0 4) := Hr2.out.thereAt
     have hch : Hid (Chg (w.heap.size + 1 + 1) W3 (W3.setCells (w.heap.size + 1 + 1) 0 (#[.int .i64 d.me, .int .i64 d.far, .slice (some ⟨b, o, none⟩) xs.length c, .slice po os.length co] : Array Value).toList)) := Lib.hid (chg_putL _ _ _ _ _ (Chg.refl _ W3))
     have Hr3 : Hid (Blk (W3.setCells (w.heap.size + 1 + 1) 0 (#[.int .i64 d.me, .int .i64 d.far, .slice (some ⟨b, o, none⟩) xs.length c, .slice po os.length co] : Array Value).toList) (w.heap.size + 1 + 1) #[.int .i64 d.me, .int .i64 d.far, .slice (some ⟨b, o, none⟩) xs.length c, .slice po os.length co] 34) := Lib.hid (blk_put_all Hr2.out _ rfl)
     have HB3 : Hid (Below w.heap.size w (W3.setCells (w.heap.size + 1 + 1) 0 (#[.int .i64 d.me, .int .i64 d.far, .slice (some ⟨b, o, none⟩) xs.length c, .slice po os.length co] : Array Value).toList)) := Lib.hid (below_put (by have := HGgx.out; omega) _ _ _ _ HB2.out)
     have HZ3 := kzq HZ2 hch.out.size
     have Hd3 := kcq Hd2 hch (by have := HGgx.out; omega)
     have Hm3 := kcq Hm2 hch (by have := HGgx.out; omega)
     have Hx3 := kcq Hx2 hch (by have := HGgx.out; omega)
     clear hch Hd2 Hm2 Hr2 Hx2 HB2 HZ2
     refine wpList_store_mid rfl 34 (.tmp 6) (.tmp 72) rfl (w.heap.size + 1 + 1) 0 #[.int .i64 d.me, .int .i64 d.far, .slice (some ⟨b, o, none⟩) xs.length c, .slice po os.length co] rfl rfl HTH.out (infoDC rfl) (all_oneCell_toArray (by intro u hu; simp at hu; rcases hu with rfl | rfl | rfl | rfl <;> rfl)) ?_
     generalize (W3.setCells (w.heap.size + 1 + 1) 0 (#[.int .i64 d.me, .int .i64 d.far, .slice (some ⟨b, o, none⟩) xs.length c, .slice po os.length co] : Array Value).toList) = WR at *
     clear HTH
     go_wp2_with fail
     have hfr := Hr3.out
     refine bodyPost_ret (v := .tuple #[.agg #[.int .i64 d.me, .int .i64 d.far, .slice (some ⟨b, o, none⟩) xs.length c, .slice po os.length co], .slice none 0 0, .int .i64 140]) (by simp [results, Try.results22, go_sem, hfr.cell 0, hfr.cell 1, hfr.cell 2, hfr.cell 3]) rfl ⟨_, _, _, _, _, _, _, rfl, (HD.out.kept HB3.out).imp (fun b h => .inl h.1), OwnT.nil_ _ _ _ _, HB3.out⟩
   ·skip
    have HK7 : Hid (m.k = 9) := Lib.hid hk7
    have e9 : (m.k == 9) = true := by rw [hk7]; rfl
    have n9 : (m.k != 9) = false := by rw [hk7]; rfl
    have e7 : (m.k == 7) = false := by rw [hk7]; rfl
    have e8 : (m.k == 8) = false := by rw [hk7]; rfl
    clear hk7
    have m0 : W3.cell? ⟨(w.heap.size + 1), 0, none⟩ = some (.int .i64 m.k) := Hm2.out.cell 0
    have x0 : W3.cell? ⟨gx, 0, none⟩ = some (.int .i64 q.s) := Hx2.out.cell 0
    have x2 : W3.cell? ⟨gx, 2, none⟩ = some (.int .i64 q.b) := Hx2.out.cell 2
    have a0 : W3.cell? ⟨w.heap.size, 0, none⟩ = some (.int .i64 d.me) := Hd2.out.cell 0
    by_cases h1 : fro = q.s
    ·skip
     have h1q : (fro != q.s) = false := by simpa using h1
     have H1 := Lib.hid h1
     clear h1
     by_cases h2 : q.b = d.me
     ·skip
      have h2q : (q.b != d.me) = false := by simpa using h2
      have H2 := Lib.hid h2
      clear h2
      go_upto_region 9 with fail
      clear h1q h2q m0 x0 x2 a0
      have x5 : W3.cell? ⟨gx, 5, none⟩ = some (.int .i64 q.r) := Hx2.out.cell 5
      have m5 : W3.cell? ⟨(w.heap.size + 1), 5, none⟩ = some (.int .i64 m.r) := Hm2.out.cell 5
      by_cases hr0 : q.r = m.r
      ·skip
       have hr1 : (q.r != m.r) = false := by simpa using hr0
       have HR0 := Lib.hid hr0
       clear hr0
       have HBW0 : Hid (betwA d m.s m.n m.r fro d.me = (q, 0)) := Lib.hid (by
        unfold betwA
        rw [HFX.out]
        dsimp only
        rw [if_neg (by rintro (h | h); exact h H1.out.symm; exact h H2.out), if_neg (fun h => h HR0.out)])
       have m0 : W3.cell? ⟨(w.heap.size + 1), 0, none⟩ = some (.int .i64 m.k) := Hm2.out.cell 0
       go_upto_region 16 with fail
       clear hr1 x5 m5
       have HG := Lib.hid (refact_any q 3 (0) W3 HQR.out)
       obtain ⟨pa, hpa⟩ : ∃ pa, actI q 3 (0) = pa := ⟨_, rfl⟩
       rw [hpa] at HG
       have HPA := Lib.hid hpa
       clear hpa
       obtain ⟨y, e⟩ := pa
       unfold ansI Itm.v at HG
       have x0 : W3.cell? ⟨gx, 0, none⟩ = some (.int .i64 q.s) := Hx2.out.cell 0
       have x1 : W3.cell? ⟨gx, 1, none⟩ = some (.int .i64 q.n) := Hx2.out.cell 1
       have x2 : W3.cell? ⟨gx, 2, none⟩ = some (.int .i64 q.b) := Hx2.out.cell 2
       have x3 : W3.cell? ⟨gx, 3, none⟩ = some (.int .i64 q.c) := Hx2.out.cell 3
       have x4 : W3.cell? ⟨gx, 4, none⟩ = some (.int .i64 q.a) := Hx2.out.cell 4
       have x5 : W3.cell? ⟨gx, 5, none⟩ = some (.int .i64 q.r) := Hx2.out.cell 5
       have x6 : W3.cell? ⟨gx, 6, none⟩ = some (.int .i64 q.t) := Hx2.out.cell 6
       have x7 : W3.cell? ⟨gx, 7, none⟩ = some (.int .i64 q.y) := Hx2.out.cell 7
       go_wp2_with fail
       clear x0 x1 x2 x3 x4 x5 x6 x7 
       refine HG.out.mono ?_
       rintro y9 W5a ⟨rfl, hb⟩
       clear HG
       have Hd3 := kbq Hd2 hb
       have Hm3 := kbq Hm2 hb
       have Hr3 := kbq Hr2 hb
       have Hx3 := kbq Hx2 hb
       have HB3 := ktq HB2 hb
       have HZ3 := kzq HZ2 hb.size
       clear Hd2 Hm2 Hr2 Hx2 HB2 HZ2
       clear hb
       have hba := oneB W5a (.cells #[.int .i64 y.s, .int .i64 y.n, .int .i64 y.b, .int .i64 y.c, .int .i64 y.a, .int .i64 y.r, .int .i64 y.t, .int .i64 y.y] 64)
       have Hd4 := kbq Hd3 hba
       have Hm4 := kbq Hm3 hba
       have Hr4 := kbq Hr3 hba
       have Hx4 := kbq Hx3 hba
       have Hy4 := Lib.hid (Blk.new W5a #[.int .i64 y.s, .int .i64 y.n, .int .i64 y.b, .int .i64 y.c, .int .i64 y.a, .int .i64 y.r, .int .i64 y.t, .int .i64 y.y] 64)
       have HB4 := Lib.hid (HB3.out.alloc HB3.out.size (.cells #[.int .i64 y.s, .int .i64 y.n, .int .i64 y.b, .int .i64 y.c, .int .i64 y.a, .int .i64 y.r, .int .i64 y.t, .int .i64 y.y] 64))
       have HZ4 := kzq HZ3 hba.size
       have HGgy : Hid (w.heap.size + 1 + 1 < W5a.heap.size) := Lib.hid Hr3.out.lt
       clear hba Hd3 Hm3 Hr3 Hx3 HB3 HZ3
       go_upto_region 17 with fail
       generalize (W5a.alloc (.cells #[.int .i64 y.s, .int .i64 y.n, .int .i64 y.b, .int .i64 y.c, .int .i64 y.a, .int .i64 y.r, .int .i64 y.t, .int .i64 y.y] 64)) = W5 at *
       generalize hggy : W5a.heap.size = gy at *
       clear hggy
       clear m0
       have m0 : W5.cell? ⟨(w.heap.size + 1), 0, none⟩ = some (.int .i64 m.k) := Hm4.out.cell 0
       have HYC : Hid (chkI y = 0 ∧ y.s = q.s ∧ y.b = q.b) := Lib.hid (by
        have h1 := turn_chk (x := q) (f := 2) (t := 4) (.inr (.inr ⟨rfl, rfl⟩)) HQC.out.1
        have h2 : turnI q 2 4 = (y, e) := HPA.out
        rw [h2] at h1
        exact h1)
       by_cases he0 : e = 0
       ·skip
        subst he0
        go_upto_region 22 with fail
        clear m0 e9 n9 e7 e8
        have Hx4q := Hy4
        clear Hx4 Hy4
        have Hx4 := Hx4q
        clear Hx4q
        obtain rfl : R = (d.put y, [], 0) := by
         rw [← HA.out]
         have HBW := HBW0.out
         have h7 : thenA (q, 0) (fun x => turnI x 2 4) = (y, 0) := by rw [← HPA.out]; unfold thenA; rw [if_pos rfl]; rfl
         unfold nodeM
         rw [if_neg (by rw [HK7.out]; decide), if_neg (by rw [HK7.out]; decide), if_neg (by rw [HK7.out]; decide), if_pos HK7.out, HBW]
         rw [h7]
         rfl
        have HWL3 : Hid (w.heap.size + 1 + 1 + 1 ≤ W5.heap.size) := Lib.hid Hr4.out.lt
        have HG := Lib.hid (ckeep_any W5 d.me d.far (some ⟨b, o, none⟩) po xs.length c os.length co y xs (HD.out.kept HB4.out).row rfl (by have := HLN.out; omega))
        unfold Itm.v at HG
        have a0 : W5.cell? ⟨w.heap.size, 0, none⟩ = some (.int .i64 d.me) := Hd4.out.cell 0
        have a1 : W5.cell? ⟨w.heap.size, 1, none⟩ = some (.int .i64 d.far) := Hd4.out.cell 1
        have a2 : W5.cell? ⟨w.heap.size, 2, none⟩ = some (.slice (some ⟨b, o, none⟩) xs.length c) := Hd4.out.cell 2
        have a3 : W5.cell? ⟨w.heap.size, 3, none⟩ = some (.slice po os.length co) := Hd4.out.cell 3
        have x0 : W5.cell? ⟨gy, 0, none⟩ = some (.int .i64 y.s) := Hx4.out.cell 0
        have x1 : W5.cell? ⟨gy, 1, none⟩ = some (.int .i64 y.n) := Hx4.out.cell 1
        have x2 : W5.cell? ⟨gy, 2, none⟩ = some (.int .i64 y.b) := Hx4.out.cell 2
        have x3 : W5.cell? ⟨gy, 3, none⟩ = some (.int .i64 y.c) := Hx4.out.cell 3
        have x4 : W5.cell? ⟨gy, 4, none⟩ = some (.int .i64 y.a) := Hx4.out.cell 4
        have x5 : W5.cell? ⟨gy, 5, none⟩ = some (.int .i64 y.r) := Hx4.out.cell 5
        have x6 : W5.cell? ⟨gy, 6, none⟩ = some (.int .i64 y.t) := Hx4.out.cell 6
        have x7 : W5.cell? ⟨gy, 7, none⟩ = some (.int .i64 y.y) := Hx4.out.cell 7
        go_wp2_with fail
        clear a0 a1 a2 a3 x0 x1 x2 x3 x4 x5 x6 x7
        refine HG.out.mono ?_
        rintro y9 w7 ⟨r9, p9, n9, c9, ha9, rfl, hown9, hn9, hb⟩
        clear HG
        have HP9 := Lib.hid (cput_perm (x := y) HD.out.px HSX.out ha9)
        have HO9 := Lib.hid (hown9.less (base' := w.heap.size + 1 + 1 + 1) HWL3.out)
        generalize cputL xs y r9 = ys at *
        subst hn9
        clear ha9 hown9
        have Hd5 := kbq Hd4 hb
        have Hm5 := kbq Hm4 hb
        have Hr5 := kbq Hr4 hb
        have Hx5 := kbq Hx4 hb
        have HB5 := ktq HB4 hb
        have HZ5 := kzq HZ4 hb.size
        clear Hd4 Hm4 Hr4 Hx4 HB4 HZ4
        clear hb
        have Sy5 := HO9
        clear HO9
        go_wp2_with (with_reducible refine stop_storeT 34 (.tmp 6) (.tmp 112) rfl ?_)
        have HTH : Hid (w7.there (w.heap.size + 1 + 1) 0 4) := Hr5.out.thereAt
        have hch : Hid (Chg (w.heap.size + 1 + 1) w7 (w7.setCells (w.heap.size + 1 + 1) 0 (#[.int .i64 d.me, .int .i64 d.far, .slice p9 ys.length c9, .slice po os.length co] : Array Value).toList)) := Lib.hid (chg_putL _ _ _ _ _ (Chg.refl _ w7))
        have Hr6 : Hid (Blk (w7.setCells (w.heap.size + 1 + 1) 0 (#[.int .i64 d.me, .int .i64 d.far, .slice p9 ys.length c9, .slice po os.length co] : Array Value).toList) (w.heap.size + 1 + 1) #[.int .i64 d.me, .int .i64 d.far, .slice p9 ys.length c9, .slice po os.length co] 34) := Lib.hid (blk_put_all Hr5.out _ rfl)
        have HB6 : Hid (Below w.heap.size w (w7.setCells (w.heap.size + 1 + 1) 0 (#[.int .i64 d.me, .int .i64 d.far, .slice p9 ys.length c9, .slice po os.length co] : Array Value).toList)) := Lib.hid (below_put (by have := HGgx.out; have := HGgy.out; omega) _ _ _ _ HB5.out)
        have HZ6 := kzq HZ5 hch.out.size
        have Hd6 := kcq Hd5 hch (by have := HGgx.out; have := HGgy.out; omega)
        have Hm6 := kcq Hm5 hch (by have := HGgx.out; have := HGgy.out; omega)
        have Hx6 := kcq Hx5 hch (by have := HGgx.out; have := HGgy.out; omega)
        have Sy6 := Lib.hid (Sy5.out.stay (fun b hb => hch.out.2 b (Sy5.out.lt b hb) (by have h1 := Sy5.out.block_ge b hb; have := HGgx.out; have := HGgy.out; omega)))
        clear hch Hd5 Hm5 Hr5 Hx5 Sy5 HB5 HZ5
        refine wpList_store_mid rfl 34 (.tmp 6) (.tmp 112) rfl (w.heap.size + 1 + 1) 0 #[.int .i64 d.me, .int .i64 d.far, .slice p9 ys.length c9, .slice po os.length co] rfl rfl HTH.out (infoDC rfl) (all_oneCell_toArray (by intro u hu; simp at hu; rcases hu with rfl | rfl | rfl | rfl <;> rfl)) ?_
        generalize (w7.setCells (w.heap.size + 1 + 1) 0 (#[.int .i64 d.me, .int .i64 d.far, .slice p9 ys.length c9, .slice po os.length co] : Array Value).toList) = W9 at *
        clear HTH
        go_wp2_with fail
        have hfr := Hr6.out
        refine bodyPost_ret (v := .tuple #[.agg #[.int .i64 d.me, .int .i64 d.far, .slice p9 ys.length c9, .slice po os.length co], .slice none 0 0, .int .i64 0]) (by simp [results, Try.results22, go_sem, hfr.cell 0, hfr.cell 1, hfr.cell 2, hfr.cell 3]) rfl ⟨_, _, _, _, _, _, _, rfl, ⟨Sy6.out.row, (HD.out.kept HB6.out).rowo, Sy6.out.at_P (fun b h => .inr (by omega)), HD.out.ao.imp (fun b h => .inl h.1), HP9.out, HD.out.po⟩, OwnT.nil_ _ _ _ _, HB6.out⟩
       ·skip
        have he1 : (e != 0) = true := by simpa using he0
        go_upto_region 18 with fail
        clear he1 m0 e9 n9 e7 e8
        obtain rfl : R = (d, [], e) := by
         rw [← HA.out]
         have HBW := HBW0.out
         have h7 : thenA (q, 0) (fun x => turnI x 2 4) = (y, e) := by rw [← HPA.out]; unfold thenA; rw [if_pos rfl]; rfl
         unfold nodeM
         rw [if_neg (by rw [HK7.out]; decide), if_neg (by rw [HK7.out]; decide), if_neg (by rw [HK7.out]; decide), if_pos HK7.out, HBW]
         rw [h7]
         exact beh_err he0
        have a0 : W5.cell? ⟨w.heap.size, 0, none⟩ = some (.int .i64 d.me) := Hd4.out.cell 0
        have a1 : W5.cell? ⟨w.heap.size, 1, none⟩ = some (.int .i64 d.far) := Hd4.out.cell 1
        have a2 : W5.cell? ⟨w.heap.size, 2, none⟩ = some (.slice (some ⟨b, o, none⟩) xs.length c) := Hd4.out.cell 2
        have a3 : W5.cell? ⟨w.heap.size, 3, none⟩ = some (.slice po os.length co) := Hd4.out.cell 3
        go_wp2_with (with_reducible refine stop_storeT 34 (.tmp 6) (.tmp 93) rfl ?_)
        clear a0 a1 a2 a3
        have HTH : Hid (W5.there (w.heap.size + 1 + 1) 0 4) := Hr4.out.thereAt
        have hch : Hid (Chg (w.heap.size + 1 + 1) W5 (W5.setCells (w.heap.size + 1 + 1) 0 (#[.int .i64 d.me, .int .i64 d.far, .slice (some ⟨b, o, none⟩) xs.length c, .slice po os.length co] : Array Value).toList)) := Lib.hid (chg_putL _ _ _ _ _ (Chg.refl _ W5))
        have Hr5 : Hid (Blk (W5.setCells (w.heap.size + 1 + 1) 0 (#[.int .i64 d.me, .int .i64 d.far, .slice (some ⟨b, o, none⟩) xs.length c, .slice po os.length co] : Array Value).toList) (w.heap.size + 1 + 1) #[.int .i64 d.me, .int .i64 d.far, .slice (some ⟨b, o, none⟩) xs.length c, .slice po os.length co] 34) := Lib.hid (blk_put_all Hr4.out _ rfl)
        have HB5 : Hid (Below w.heap.size w (W5.setCells (w.heap.size + 1 + 1) 0 (#[.int .i64 d.me, .int .i64 d.far, .slice (some ⟨b, o, none⟩) xs.length c, .slice po os.length co] : Array Value).toList)) := Lib.hid (below_put (by have := HGgx.out; have := HGgy.out; omega) _ _ _ _ HB4.out)
        have HZ5 := kzq HZ4 hch.out.size
        have Hd5 := kcq Hd4 hch (by have := HGgx.out; have := HGgy.out; omega)
        have Hm5 := kcq Hm4 hch (by have := HGgx.out; have := HGgy.out; omega)
        have Hx5 := kcq Hx4 hch (by have := HGgx.out; have := HGgy.out; omega)
        have Hy5 := kcq Hy4 hch (by have := HGgx.out; have := HGgy.out; omega)
        clear hch Hd4 Hm4 Hr4 Hx4 Hy4 HB4 HZ4
        refine wpList_store_mid rfl 34 (.tmp 6) (.tmp 93) rfl (w.heap.size + 1 + 1) 0 #[.int .i64 d.me, .int .i64 d.far, .slice (some ⟨b, o, none⟩) xs.length c, .slice po os.length co] rfl rfl HTH.out (infoDC rfl) (all_oneCell_toArray (by intro u hu; simp at hu; rcases hu with rfl | rfl | rfl | rfl <;> rfl)) ?_
        generalize (W5.setCells (w.heap.size + 1 + 1) 0 (#[.int .i64 d.me, .int .i64 d.far, .slice (some ⟨b, o, none⟩) xs.length c, .slice po os.length co] : Array Value).toList) = WR at *
        clear HTH
        go_wp2_with fail
        have hfr := Hr5.out
        refine bodyPost_ret (v := .tuple #[.agg #[.int .i64 d.me, .int .i64 d.far, .slice (some ⟨b, o, none⟩) xs.length c, .slice po os.length co], .slice none 0 0, .int .i64 e]) (by simp [results, Try.results22, go_sem, hfr.cell 0, hfr.cell 1, hfr.cell 2, hfr.cell 3]) rfl ⟨_, _, _, _, _, _, _, rfl, (HD.out.kept HB5.out).imp (fun b h => .inl h.1), OwnT.nil_ _ _ _ _, HB5.out⟩
      ·skip
       have hr1 : (q.r != m.r) = true := by simpa using hr0
       have HR0 := Lib.hid hr0
       go_upto_region 10 with fail
       clear hr0 hr1 x5 m5 e9 n9 e7 e8
       obtain rfl : R = (d, [], 90) := by
        rw [← HA.out]
        have HBW : betwA d m.s m.n m.r fro d.me = (q, 90) := by
         unfold betwA
         rw [HFX.out]
         dsimp only
         rw [if_neg (by rintro (h | h); exact h H1.out.symm; exact h H2.out), if_pos HR0.out]
        unfold nodeM
        rw [if_neg (by rw [HK7.out]; decide), if_neg (by rw [HK7.out]; decide), if_neg (by rw [HK7.out]; decide), if_pos HK7.out, HBW]
        have h2 : ∀ f, thenA (q, 90) f = (q, 90) := fun f => rfl
        rw [h2]
        exact beh_err (show (90 : Int) ≠ 0 by decide)
       have a0 : W3.cell? ⟨w.heap.size, 0, none⟩ = some (.int .i64 d.me) := Hd2.out.cell 0
       have a1 : W3.cell? ⟨w.heap.size, 1, none⟩ = some (.int .i64 d.far) := Hd2.out.cell 1
       have a2 : W3.cell? ⟨w.heap.size, 2, none⟩ = some (.slice (some ⟨b, o, none⟩) xs.length c) := Hd2.out.cell 2
       have a3 : W3.cell? ⟨w.heap.size, 3, none⟩ = some (.slice po os.length co) := Hd2.out.cell 3
       go_wp2_with (with_reducible refine stop_storeT 34 (.tmp 6) (.tmp 78) rfl ?_)
       clear a0 a1 a2 a3
       have HTH : Hid (W3.there (w.heap.size + 1 + 1) 0 4) := Hr2.out.thereAt
       have hch : Hid (Chg (w.heap.size + 1 + 1) W3 (W3.setCells (w.heap.size + 1 + 1) 0 (#[.int .i64 d.me, .int .i64 d.far, .slice (some ⟨b, o, none⟩) xs.length c, .slice po os.length co] : Array Value).toList)) := Lib.hid (chg_putL _ _ _ _ _ (Chg.refl _ W3))
       have Hr3 : Hid (Blk (W3.setCells (w.heap.size + 1 + 1) 0 (#[.int .i64 d.me, .int .i64 d.far, .slice (some ⟨b, o, none⟩) xs.length c, .slice po os.length co] : Array Value).toList) (w.heap.size + 1 + 1) #[.int .i64 d.me, .int .i64 d.far, .slice (some ⟨b, o, none⟩) xs.length c, .slice po os.length co] 34) := Lib.hid (blk_put_all Hr2.out _ rfl)
       have HB3 : Hid (Below w.heap.size w (W3.setCells (w.heap.size + 1 + 1) 0 (#[.int .i64 d.me, .int .i64 d.far, .slice (some ⟨b, o, none⟩) xs.length c, .slice po os.length co] : Array Value).toList)) := Lib.hid (below_put (by have := HGgx.out; omega) _ _ _ _ HB2.out)
       have HZ3 := kzq HZ2 hch.out.size
       have Hd3 := kcq Hd2 hch (by have := HGgx.out; omega)
       have Hm3 := kcq Hm2 hch (by have := HGgx.out; omega)
       have Hx3 := kcq Hx2 hch (by have := HGgx.out; omega)
       clear hch Hd2 Hm2 Hr2 Hx2 HB2 HZ2
       refine wpList_store_mid rfl 34 (.tmp 6) (.tmp 78) rfl (w.heap.size + 1 + 1) 0 #[.int .i64 d.me, .int .i64 d.far, .slice (some ⟨b, o, none⟩) xs.length c, .slice po os.length co] rfl rfl HTH.out (infoDC rfl) (all_oneCell_toArray (by intro u hu; simp at hu; rcases hu with rfl | rfl | rfl | rfl <;> rfl)) ?_
       generalize (W3.setCells (w.heap.size + 1 + 1) 0 (#[.int .i64 d.me, .int .i64 d.far, .slice (some ⟨b, o, none⟩) xs.length c, .slice po os.length co] : Array Value).toList) = WR at *
       clear HTH
       go_wp2_with fail
       have hfr := Hr3.out
       refine bodyPost_ret (v := .tuple #[.agg #[.int .i64 d.me, .int .i64 d.far, .slice (some ⟨b, o, none⟩) xs.length c, .slice po os.length co], .slice none 0 0, .int .i64 90]) (by simp [results, Try.results22, go_sem, hfr.cell 0, hfr.cell 1, hfr.cell 2, hfr.cell 3]) rfl ⟨_, _, _, _, _, _, _, rfl, (HD.out.kept HB3.out).imp (fun b h => .inl h.1), OwnT.nil_ _ _ _ _, HB3.out⟩
     ·skip
      have h2q : (q.b != d.me) = true := by simpa using h2
      have H2 := Lib.hid h2
      clear h2
      go_upto_region 8 with fail
      clear h1q h2q m0 x0 x2 a0 e9 n9 e7 e8
      obtain rfl : R = (d, [], 140) := by
       rw [← HA.out]
       have HBW : betwA d m.s m.n m.r fro d.me = (q, 140) := by
        unfold betwA
        rw [HFX.out]
        dsimp only
        rw [if_pos (.inr (fun h => H2.out h))]
       unfold nodeM
       rw [if_neg (by rw [HK7.out]; decide), if_neg (by rw [HK7.out]; decide), if_neg (by rw [HK7.out]; decide), if_pos HK7.out, HBW]
       have h2 : ∀ f, thenA (q, 140) f = (q, 140) := fun f => rfl
       rw [h2]
       exact beh_err (show (140 : Int) ≠ 0 by decide)
      have a0 : W3.cell? ⟨w.heap.size, 0, none⟩ = some (.int .i64 d.me) := Hd2.out.cell 0
      have a1 : W3.cell? ⟨w.heap.size, 1, none⟩ = some (.int .i64 d.far) := Hd2.out.cell 1
      have a2 : W3.cell? ⟨w.heap.size, 2, none⟩ = some (.slice (some ⟨b, o, none⟩) xs.length c) := Hd2.out.cell 2
      have a3 : W3.cell? ⟨w.heap.size, 3, none⟩ = some (.slice po os.length co) := Hd2.out.cell 3
      go_wp2_with (with_reducible refine stop_storeT 34 (.tmp 6) (.tmp 72) rfl ?_)
      clear a0 a1 a2 a3
      have HTH : Hid (W3.there (w.heap.size + 1 + 1) 0 4) := Hr2.out.thereAt
      have hch : Hid (Chg (w.heap.size + 1 + 1) W3 (W3.setCells (w.heap.size + 1 + 1) 0 (#[.int .i64 d.me, .int .i64 d.far, .slice (some ⟨b, o, none⟩) xs.length c, .slice po os.length co] : Array Value).toList)) := Lib.hid (chg_putL _ _ _ _ _ (Chg.refl _ W3))
      have Hr3 : Hid (Blk (W3.setCells (w.heap.size + 1 + 1) 0 (#[.int .i64 d.me, .int .i64 d.far, .slice (some ⟨b, o, none⟩) xs.length c, .slice po os.length co] : Array Value).toList) (w.heap.size + 1 + 1) #[.int .i64 d.me, .int .i64 d.far, .slice (some ⟨b, o, none⟩) xs.length c, .slice po os.length co] 34) := Lib.hid (blk_put_all Hr2.out _ rfl)
      have HB3 : Hid (Below w.heap.size w (W3.setCells (w.heap.size + 1 + 1) 0 (#[.int .i64 d.me, .int .i64 d.far, .slice (some ⟨b, o, none⟩) xs.length c, .slice po os.length co] : Array Value).toList)) := Lib.hid (below_put (by have := HGgx.out; omega) _ _ _ _ HB2.out)
      have HZ3 := kzq HZ2 hch.out.size
      have Hd3 := kcq Hd2 hch (by have := HGgx.out; omega)
      have Hm3 := kcq Hm2 hch (by have := HGgx.out; omega)
      have Hx3 := kcq Hx2 hch (by have := HGgx.out; omega)
      clear hch Hd2 Hm2 Hr2 Hx2 HB2 HZ2
      refine wpList_store_mid rfl 34 (.tmp 6) (.tmp 72) rfl (w.heap.size + 1 + 1) 0 #[.int .i64 d.me, .int .i64 d.far, .slice (some ⟨b, o, none⟩) xs.length c, .slice po os.length co] rfl rfl HTH.out (infoDC rfl) (all_oneCell_toArray (by intro u hu; simp at hu; rcases hu with rfl | rfl | rfl | rfl <;> rfl)) ?_
      generalize (W3.setCells (w.heap.size + 1 + 1) 0 (#[.int .i64 d.me, .int .i64 d.far, .slice (some ⟨b, o, none⟩) xs.length c, .slice po os.length co] : Array Value).toList) = WR at *
      clear HTH
      go_wp2_with fail
      have hfr := Hr3.out
      refine bodyPost_ret (v := .tuple #[.agg #[.int .i64 d.me, .int .i64 d.far, .slice (some ⟨b, o, none⟩) xs.length c, .slice po os.length co], .slice none 0 0, .int .i64 140]) (by simp [results, Try.results22, go_sem, hfr.cell 0, hfr.cell 1, hfr.cell 2, hfr.cell 3]) rfl ⟨_, _, _, _, _, _, _, rfl, (HD.out.kept HB3.out).imp (fun b h => .inl h.1), OwnT.nil_ _ _ _ _, HB3.out⟩
    ·skip
     have h1q : (fro != q.s) = true := by simpa using h1
     have H1 := Lib.hid h1
     clear h1
     go_upto_region 8 with fail
     clear h1q m0 x0 x2 a0 e9 n9 e7 e8
     obtain rfl : R = (d, [], 140) := by
      rw [← HA.out]
      have HBW : betwA d m.s m.n m.r fro d.me = (q, 140) := by
       unfold betwA
       rw [HFX.out]
       dsimp only
       rw [if_pos (.inl (fun h => H1.out h.symm))]
      unfold nodeM
      rw [if_neg (by rw [HK7.out]; decide), if_neg (by rw [HK7.out]; decide), if_neg (by rw [HK7.out]; decide), if_pos HK7.out, HBW]
      have h2 : ∀ f, thenA (q, 140) f = (q, 140) := fun f => rfl
      rw [h2]
      exact beh_err (show (140 : Int) ≠ 0 by decide)
     have a0 : W3.cell? ⟨w.heap.size, 0, none⟩ = some (.int .i64 d.me) := Hd2.out.cell 0
     have a1 : W3.cell? ⟨w.heap.size, 1, none⟩ = some (.int .i64 d.far) := Hd2.out.cell 1
     have a2 : W3.cell? ⟨w.heap.size, 2, none⟩ = some (.slice (some ⟨b, o, none⟩) xs.length c) := Hd2.out.cell 2
     have a3 : W3.cell? ⟨w.heap.size, 3, none⟩ = some (.slice po os.length co) := Hd2.out.cell 3
     go_wp2_with (with_reducible refine stop_storeT 34 (.tmp 6) (.tmp 72) rfl ?_)
     clear a0 a1 a2 a3
     have HTH : Hid (W3.there (w.heap.size + 1 + 1) 0 4) := Hr2.out.thereAt
     have hch : Hid (Chg (w.heap.size + 1 + 1) W3 (W3.setCells (w.heap.size + 1 + 1) 0 (#[.int .i64 d.me, .int .i64 d.far, .slice (some ⟨b, o, none⟩) xs.length c, .slice po os.length co] : Array Value).toList)) := Lib.hid (chg_putL _ _ _ _ _ (Chg.refl _ W3))
     have Hr3 : Hid (Blk (W3.setCells (w.heap.size + 1 + 1) 0 (#[.int .i64 d.me, .int .i64 d.far, .slice (some ⟨b, o, none⟩) xs.length c, .slice po os.length co] : Array Value).toList) (w.heap.size + 1 + 1) #[.int .i64 d.me, .int .i64 d.far, .slice (some ⟨b, o, none⟩) xs.length c, .slice po os.length co] 34) := Lib.hid (blk_put_all Hr2.out _ rfl)
     have HB3 : Hid (Below w.heap.size w (W3.setCells (w.heap.size + 1 + 1) 0 (#[.int .i64 d.me, .int .i64 d.far, .slice (some ⟨b, o, none⟩) xs.length c, .slice po os.length co] : Array Value).toList)) := Lib.hid (below_put (by have := HGgx.out; omega) _ _ _ _ HB2.out)
     have HZ3 := kzq HZ2 hch.out.size
     have Hd3 := kcq Hd2 hch (by have := HGgx.out; omega)
     have Hm3 := kcq Hm2 hch (by have := HGgx.out; omega)
     have Hx3 := kcq Hx2 hch (by have := HGgx.out; omega)
     clear hch Hd2 Hm2 Hr2 Hx2 HB2 HZ2
     refine wpList_store_mid rfl 34 (.tmp 6) (.tmp 72) rfl (w.heap.size + 1 + 1) 0 #[.int .i64 d.me, .int .i64 d.far, .slice (some ⟨b, o, none⟩) xs.length c, .slice po os.length co] rfl rfl HTH.out (infoDC rfl) (all_oneCell_toArray (by intro u hu; simp at hu; rcases hu with rfl | rfl | rfl | rfl <;> rfl)) ?_
     generalize (W3.setCells (w.heap.size + 1 + 1) 0 (#[.int .i64 d.me, .int .i64 d.far, .slice (some ⟨b, o, none⟩) xs.length c, .slice po os.length co] : Array Value).toList) = WR at *
     clear HTH
     go_wp2_with fail
     have hfr := Hr3.out
     refine bodyPost_ret (v := .tuple #[.agg #[.int .i64 d.me, .int .i64 d.far, .slice (some ⟨b, o, none⟩) xs.length c, .slice po os.length co], .slice none 0 0, .int .i64 140]) (by simp [results, Try.results22, go_sem, hfr.cell 0, hfr.cell 1, hfr.cell 2, hfr.cell 3]) rfl ⟨_, _, _, _, _, _, _, rfl, (HD.out.kept HB3.out).imp (fun b h => .inl h.1), OwnT.nil_ _ _ _ _, HB3.out⟩
end Go.Proofs.Ytbpfbebebppleaa
namespace Go.Proofs.Ytbpfbebebppleaa
open Go.RowKit
set_option linter.unusedSimpArgs false
set_option linter.unusedSimpArgs false in
set_option maxHeartbeats 4000000 in
set_option maxRecDepth 100000 in
theorem rdo_any (w : World) (P : Nat → Prop) (p po : Option Addr) (c co : Nat) (xs : List Itm) (os : List Ord) (d : Dsk) (m : Msg) (vl vn : Value) (fro : Int) (h : DdX P w p c po co xs os d) (hs : SortX d.xs) (ho : SortO d.os) (hok : d.Ok) (hoo : OrdOk d.os) (hn : d.xs.length ≤ 1024) (hno : d.os.length ≤ 1024) :
  Calls Try.prog 9 #[.agg #[.int .i64 d.me, .int .i64 d.far, .slice p xs.length c, .slice po os.length co], m.v vl vn, .int .i64 fro] w (DPm w P (doM d m fro)) := by
 have HNN : Hid (d.xs.length ≤ 1024 ∧ d.os.length ≤ 1024) := Lib.hid ⟨hn, hno⟩
 have HD := Lib.hid h.lt
 have HSX := Lib.hid hs
 have HSO := Lib.hid ho
 have HOK := Lib.hid hok
 have HOO := Lib.hid hoo
 have HLN : Hid (xs.length ≤ 1024 ∧ os.length ≤ 1024) := Lib.hid ⟨by rw [h.px.length_eq]; exact hn, by rw [h.po.length_eq]; exact hno⟩
 clear h hs ho hok hoo hn hno
 obtain ⟨R, hR⟩ : ∃ R, doM d m fro = R := ⟨_, rfl⟩
 rw [hR]
 have HA := Lib.hid hR
 clear hR
 unfold Msg.v
 have HB0 : Hid (Below w.heap.size w (((w.alloc (.cells #[.int .i64 d.me, .int .i64 d.far, .slice p xs.length c, .slice po os.length co] 34)).alloc (.cells #[.int .i64 m.k, .int .i64 m.s, .int .i64 m.n, .int .i64 m.b, .int .i64 m.c, .int .i64 m.r, .int .i64 m.y, .int .i64 m.a, .bool m.t, vl, vn] 40)).alloc (.cells #[.int .i64 0, .int .i64 0, .slice none 0 0, .slice none 0 0] 34))) := Lib.hid ((((oneB w _).alloc (by simp <;> omega) _).alloc (by simp <;> omega) _))
 have Hd0 : Hid (Blk (((w.alloc (.cells #[.int .i64 d.me, .int .i64 d.far, .slice p xs.length c, .slice po os.length co] 34)).alloc (.cells #[.int .i64 m.k, .int .i64 m.s, .int .i64 m.n, .int .i64 m.b, .int .i64 m.c, .int .i64 m.r, .int .i64 m.y, .int .i64 m.a, .bool m.t, vl, vn] 40)).alloc (.cells #[.int .i64 0, .int .i64 0, .slice none 0 0, .slice none 0 0] 34)) w.heap.size #[.int .i64 d.me, .int .i64 d.far, .slice p xs.length c, .slice po os.length co] 34) := Lib.hid (((Blk.new w #[.int .i64 d.me, .int .i64 d.far, .slice p xs.length c, .slice po os.length co] 34).alloc _).alloc _)
 have Hm0 : Hid (Blk (((w.alloc (.cells #[.int .i64 d.me, .int .i64 d.far, .slice p xs.length c, .slice po os.length co] 34)).alloc (.cells #[.int .i64 m.k, .int .i64 m.s, .int .i64 m.n, .int .i64 m.b, .int .i64 m.c, .int .i64 m.r, .int .i64 m.y, .int .i64 m.a, .bool m.t, vl, vn] 40)).alloc (.cells #[.int .i64 0, .int .i64 0, .slice none 0 0, .slice none 0 0] 34)) (w.heap.size + 1) #[.int .i64 m.k, .int .i64 m.s, .int .i64 m.n, .int .i64 m.b, .int .i64 m.c, .int .i64 m.r, .int .i64 m.y, .int .i64 m.a, .bool m.t, vl, vn] 40) := Lib.hid ((Blk.new' (w.alloc (.cells #[.int .i64 d.me, .int .i64 d.far, .slice p xs.length c, .slice po os.length co] 34)) #[.int .i64 m.k, .int .i64 m.s, .int .i64 m.n, .int .i64 m.b, .int .i64 m.c, .int .i64 m.r, .int .i64 m.y, .int .i64 m.a, .bool m.t, vl, vn] 40 (by simp)).alloc _)
 have Hr0 : Hid (Blk (((w.alloc (.cells #[.int .i64 d.me, .int .i64 d.far, .slice p xs.length c, .slice po os.length co] 34)).alloc (.cells #[.int .i64 m.k, .int .i64 m.s, .int .i64 m.n, .int .i64 m.b, .int .i64 m.c, .int .i64 m.r, .int .i64 m.y, .int .i64 m.a, .bool m.t, vl, vn] 40)).alloc (.cells #[.int .i64 0, .int .i64 0, .slice none 0 0, .slice none 0 0] 34)) (w.heap.size + 1 + 1) #[.int .i64 0, .int .i64 0, .slice none 0 0, .slice none 0 0] 34) := Lib.hid (Blk.new' ((w.alloc (.cells #[.int .i64 d.me, .int .i64 d.far, .slice p xs.length c, .slice po os.length co] 34)).alloc (.cells #[.int .i64 m.k, .int .i64 m.s, .int .i64 m.n, .int .i64 m.b, .int .i64 m.c, .int .i64 m.r, .int .i64 m.y, .int .i64 m.a, .bool m.t, vl, vn] 40)) #[.int .i64 0, .int .i64 0, .slice none 0 0, .slice none 0 0] 34 (by simp))
 have HZ0 : Hid (w.heap.size ≤ (((w.alloc (.cells #[.int .i64 d.me, .int .i64 d.far, .slice p xs.length c, .slice po os.length co] 34)).alloc (.cells #[.int .i64 m.k, .int .i64 m.s, .int .i64 m.n, .int .i64 m.b, .int .i64 m.c, .int .i64 m.r, .int .i64 m.y, .int .i64 m.a, .bool m.t, vl, vn] 40)).alloc (.cells #[.int .i64 0, .int .i64 0, .slice none 0 0, .slice none 0 0] 34)).heap.size) := Lib.hid HB0.out.size
 go_enter Try.func9, Try.ntmps9
 go_upto_region 1 with fail
 generalize (((w.alloc (.cells #[.int .i64 d.me, .int .i64 d.far, .slice p xs.length c, .slice po os.length co] 34)).alloc (.cells #[.int .i64 m.k, .int .i64 m.s, .int .i64 m.n, .int .i64 m.b, .int .i64 m.c, .int .i64 m.r, .int .i64 m.y, .int .i64 m.a, .bool m.t, vl, vn] 40)).alloc (.cells #[.int .i64 0, .int .i64 0, .slice none 0 0, .slice none 0 0] 34)) = W at *
 have HWL : Hid (w.heap.size + 1 + 1 < W.heap.size) := Lib.hid Hr0.out.lt
 have m0 : W.cell? ⟨(w.heap.size + 1), 0, none⟩ = some (.int .i64 m.k) := Hm0.out.cell 0
 have hkc : m.k < 1 ∨ (1 ≤ m.k ∧ m.k ≤ 4) ∨ m.k = 5 ∨ (6 ≤ m.k ∧ m.k ≤ 9) ∨ (10 ≤ m.k ∧ m.k ≠ 16) ∨ m.k = 16 := by omega
 rcases hkc with hkc | hkc | hkc | hkc | hkc | hkc
 ·skip
  have HKM : Hid (m.k < 1) := Lib.hid (by omega)
  have q0 : ¬ (1 ≤ m.k) := by first | omega | (simp; done) | (simp; omega)
  have q1 : (m.k == 16) = false := by first | omega | (simp; done) | (simp; omega)
  have q2 : ¬ (6 ≤ m.k) := by first | omega | (simp; done) | (simp; omega)
  clear hkc
  by_cases hf : fro = -1
  ·skip
   have hf2 : (fro == -1) = true := by simpa using hf
   have hf3 : (fro != -1) = false := by simpa using hf
   have HA2 : Hid (clientM d m = R) := Lib.hid (by rw [← HA.out]; unfold doM; rw [if_pos hf])
   clear HA hf
   have HA := HA2
   clear HA2
   go_upto_region 7 with fail
   clear hf2 hf3 m0 q0 q1 q2
   obtain rfl : R = (d, [], 110) := by
    rw [← HA.out]
    unfold clientM
    rw [if_neg (by have := HKM.out; omega), if_neg (by have := HKM.out; omega), if_neg (by have := HKM.out; omega), if_neg (by have := HKM.out; omega), if_neg (by have := HKM.out; omega)]
   have a0 : W.cell? ⟨w.heap.size, 0, none⟩ = some (.int .i64 d.me) := Hd0.out.cell 0
   have a1 : W.cell? ⟨w.heap.size, 1, none⟩ = some (.int .i64 d.far) := Hd0.out.cell 1
   have a2 : W.cell? ⟨w.heap.size, 2, none⟩ = some (.slice p xs.length c) := Hd0.out.cell 2
   have a3 : W.cell? ⟨w.heap.size, 3, none⟩ = some (.slice po os.length co) := Hd0.out.cell 3
   go_wp2_with (with_reducible refine stop_storeT 34 (.tmp 6) (.tmp 55) rfl ?_)
   clear a0 a1 a2 a3
   have HTH : Hid (W.there (w.heap.size + 1 + 1) 0 4) := Hr0.out.thereAt
   have hch : Hid (Chg (w.heap.size + 1 + 1) W (W.setCells (w.heap.size + 1 + 1) 0 (#[.int .i64 d.me, .int .i64 d.far, .slice p xs.length c, .slice po os.length co] : Array Value).toList)) := Lib.hid (chg_putL _ _ _ _ _ (Chg.refl _ W))
   have Hr1 : Hid (Blk (W.setCells (w.heap.size + 1 + 1) 0 (#[.int .i64 d.me, .int .i64 d.far, .slice p xs.length c, .slice po os.length co] : Array Value).toList) (w.heap.size + 1 + 1) #[.int .i64 d.me, .int .i64 d.far, .slice p xs.length c, .slice po os.length co] 34) := Lib.hid (blk_put_all Hr0.out _ rfl)
   have HB1 : Hid (Below w.heap.size w (W.setCells (w.heap.size + 1 + 1) 0 (#[.int .i64 d.me, .int .i64 d.far, .slice p xs.length c, .slice po os.length co] : Array Value).toList)) := Lib.hid (below_put (by omega) _ _ _ _ HB0.out)
   have HZ1 := kzq HZ0 hch.out.size
   have Hd1 := kcq Hd0 hch (by omega)
   have Hm1 := kcq Hm0 hch (by omega)
   clear hch Hd0 Hm0 Hr0 HB0 HZ0
   refine wpList_store_mid rfl 34 (.tmp 6) (.tmp 55) rfl (w.heap.size + 1 + 1) 0 #[.int .i64 d.me, .int .i64 d.far, .slice p xs.length c, .slice po os.length co] rfl rfl HTH.out (infoDC rfl) (all_oneCell_toArray (by intro u hu; simp at hu; rcases hu with rfl | rfl | rfl | rfl <;> rfl)) ?_
   generalize (W.setCells (w.heap.size + 1 + 1) 0 (#[.int .i64 d.me, .int .i64 d.far, .slice p xs.length c, .slice po os.length co] : Array Value).toList) = WR at *
   clear HTH
   go_wp2_with fail
   have hfr := Hr1.out
   refine bodyPost_ret (v := .tuple #[.agg #[.int .i64 d.me, .int .i64 d.far, .slice p xs.length c, .slice po os.length co], .slice none 0 0, .int .i64 110]) (by simp [results, Try.results9, go_sem, hfr.cell 0, hfr.cell 1, hfr.cell 2, hfr.cell 3]) rfl ⟨_, _, _, _, _, _, _, rfl, (HD.out.kept HB1.out).imp (fun b h => .inl h.1), OwnT.nil_ _ _ _ _, HB1.out⟩
  ·skip
   have hf2 : (fro == -1) = false := by simpa using hf
   have hf3 : (fro != -1) = true := by simpa using hf
   have HA2 : Hid (nodeM d m fro = R) := Lib.hid (by rw [← HA.out]; unfold doM; rw [if_neg hf])
   clear HA hf
   have HA := HA2
   clear HA2
   go_upto_region 7 with fail
   clear hf2 hf3 m0 q0 q1 q2
   obtain rfl : R = (d, [], 110) := by
    rw [← HA.out]
    unfold nodeM
    rw [if_neg (by have := HKM.out; omega), if_neg (by have := HKM.out; omega), if_neg (by have := HKM.out; omega), if_neg (by have := HKM.out; omega)]
   have a0 : W.cell? ⟨w.heap.size, 0, none⟩ = some (.int .i64 d.me) := Hd0.out.cell 0
   have a1 : W.cell? ⟨w.heap.size, 1, none⟩ = some (.int .i64 d.far) := Hd0.out.cell 1
   have a2 : W.cell? ⟨w.heap.size, 2, none⟩ = some (.slice p xs.length c) := Hd0.out.cell 2
   have a3 : W.cell? ⟨w.heap.size, 3, none⟩ = some (.slice po os.length co) := Hd0.out.cell 3
   go_wp2_with (with_reducible refine stop_storeT 34 (.tmp 6) (.tmp 55) rfl ?_)
   clear a0 a1 a2 a3
   have HTH : Hid (W.there (w.heap.size + 1 + 1) 0 4) := Hr0.out.thereAt
   have hch : Hid (Chg (w.heap.size + 1 + 1) W (W.setCells (w.heap.size + 1 + 1) 0 (#[.int .i64 d.me, .int .i64 d.far, .slice p xs.length c, .slice po os.length co] : Array Value).toList)) := Lib.hid (chg_putL _ _ _ _ _ (Chg.refl _ W))
   have Hr1 : Hid (Blk (W.setCells (w.heap.size + 1 + 1) 0 (#[.int .i64 d.me, .int .i64 d.far, .slice p xs.length c, .slice po os.length co] : Array Value).toList) (w.heap.size + 1 + 1) #[.int .i64 d.me, .int .i64 d.far, .slice p xs.length c, .slice po os.length co] 34) := Lib.hid (blk_put_all Hr0.out _ rfl)
   have HB1 : Hid (Below w.heap.size w (W.setCells (w.heap.size + 1 + 1) 0 (#[.int .i64 d.me, .int .i64 d.far, .slice p xs.length c, .slice po os.length co] : Array Value).toList)) := Lib.hid (below_put (by omega) _ _ _ _ HB0.out)
   have HZ1 := kzq HZ0 hch.out.size
   have Hd1 := kcq Hd0 hch (by omega)
   have Hm1 := kcq Hm0 hch (by omega)
   clear hch Hd0 Hm0 Hr0 HB0 HZ0
   refine wpList_store_mid rfl 34 (.tmp 6) (.tmp 55) rfl (w.heap.size + 1 + 1) 0 #[.int .i64 d.me, .int .i64 d.far, .slice p xs.length c, .slice po os.length co] rfl rfl HTH.out (infoDC rfl) (all_oneCell_toArray (by intro u hu; simp at hu; rcases hu with rfl | rfl | rfl | rfl <;> rfl)) ?_
   generalize (W.setCells (w.heap.size + 1 + 1) 0 (#[.int .i64 d.me, .int .i64 d.far, .slice p xs.length c, .slice po os.length co] : Array Value).toList) = WR at *
   clear HTH
   go_wp2_with fail
   have hfr := Hr1.out
   refine bodyPost_ret (v := .tuple #[.agg #[.int .i64 d.me, .int .i64 d.far, .slice p xs.length c, .slice po os.length co], .slice none 0 0, .int .i64 110]) (by simp [results, Try.results9, go_sem, hfr.cell 0, hfr.cell 1, hfr.cell 2, hfr.cell 3]) rfl ⟨_, _, _, _, _, _, _, rfl, (HD.out.kept HB1.out).imp (fun b h => .inl h.1), OwnT.nil_ _ _ _ _, HB1.out⟩
 ·skip
  have HKM : Hid (m.k = 1 ∨ m.k = 2 ∨ m.k = 3 ∨ m.k = 4 ∨ m.k = 16) := Lib.hid (by omega)
  have q0 : 1 ≤ m.k := by first | omega | (simp; done) | (simp; omega)
  have q1 : m.k ≤ 4 := by first | omega | (simp; done) | (simp; omega)
  have q2 : ¬ (6 ≤ m.k) := by first | omega | (simp; done) | (simp; omega)
  clear hkc
  by_cases hf : fro = -1
  ·skip
   have hf2 : (fro == -1) = true := by simpa using hf
   have hf3 : (fro != -1) = false := by simpa using hf
   have HA2 : Hid (clientM d m = R) := Lib.hid (by rw [← HA.out]; unfold doM; rw [if_pos hf])
   clear HA hf
   have HA := HA2
   clear HA2
   go_upto_region 4 with fail
   clear hf2 hf3 m0 q0 q1 q2
   have HG := Lib.hid (rclient_any W (fun b => P b ∧ b < w.heap.size) p po c co xs os d m vl vn (HD.out.kept HB0.out) HSX.out HSO.out HOK.out HOO.out HNN.out.1 HNN.out.2 HKM.out)
   rw [HA.out] at HG
   have HWC : Hid (w.heap.size ≤ W.heap.size ∧ w.heap.size + 1 + 1 < W.heap.size) := Lib.hid ⟨HZ0.out, Hr0.out.lt⟩
   unfold Msg.v at HG
   have a0 : W.cell? ⟨w.heap.size, 0, none⟩ = some (.int .i64 d.me) := Hd0.out.cell 0
   have a1 : W.cell? ⟨w.heap.size, 1, none⟩ = some (.int .i64 d.far) := Hd0.out.cell 1
   have a2 : W.cell? ⟨w.heap.size, 2, none⟩ = some (.slice p xs.length c) := Hd0.out.cell 2
   have a3 : W.cell? ⟨w.heap.size, 3, none⟩ = some (.slice po os.length co) := Hd0.out.cell 3
   have m0 : W.cell? ⟨(w.heap.size + 1), 0, none⟩ = some (.int .i64 m.k) := Hm0.out.cell 0
   have m1 : W.cell? ⟨(w.heap.size + 1), 1, none⟩ = some (.int .i64 m.s) := Hm0.out.cell 1
   have m2 : W.cell? ⟨(w.heap.size + 1), 2, none⟩ = some (.int .i64 m.n) := Hm0.out.cell 2
   have m3 : W.cell? ⟨(w.heap.size + 1), 3, none⟩ = some (.int .i64 m.b) := Hm0.out.cell 3
   have m4 : W.cell? ⟨(w.heap.size + 1), 4, none⟩ = some (.int .i64 m.c) := Hm0.out.cell 4
   have m5 : W.cell? ⟨(w.heap.size + 1), 5, none⟩ = some (.int .i64 m.r) := Hm0.out.cell 5
   have m6 : W.cell? ⟨(w.heap.size + 1), 6, none⟩ = some (.int .i64 m.y) := Hm0.out.cell 6
   have m7 : W.cell? ⟨(w.heap.size + 1), 7, none⟩ = some (.int .i64 m.a) := Hm0.out.cell 7
   have m8 : W.cell? ⟨(w.heap.size + 1), 8, none⟩ = some (.bool m.t) := Hm0.out.cell 8
   have m9 : W.cell? ⟨(w.heap.size + 1), 9, none⟩ = some (vl) := Hm0.out.cell 9
   have m10 : W.cell? ⟨(w.heap.size + 1), 10, none⟩ = some (vn) := Hm0.out.cell 10
   go_wp2_with fail
   clear a0 a1 a2 a3 m0 m1 m2 m3 m4 m5 m6 m7 m8 m9 m10
   refine HG.out.mono ?_
   rintro y9 w9 ⟨p9, c9, po9, co9, xs9, os9, vs9, rfl, hdx, hown, hb⟩
   clear HG
   have HQ := Lib.hid hdx
   have HO := Lib.hid hown
   clear hdx hown
   have Hd1 := kbq Hd0 hb
   have Hm1 := kbq Hm0 hb
   have Hr1 := kbq Hr0 hb
   have HB1 := ktq HB0 hb
   have HZ1 := kzq HZ0 hb.size
   clear Hd0 Hm0 Hr0 HB0 HZ0
   clear hb
   go_wp2_with (with_reducible refine stop_storeT 34 (.tmp 6) (.tmp 40) rfl ?_)
   have HTH : Hid (w9.there (w.heap.size + 1 + 1) 0 4) := Hr1.out.thereAt
   have hch : Hid (Chg (w.heap.size + 1 + 1) w9 (w9.setCells (w.heap.size + 1 + 1) 0 (#[.int .i64 R.1.me, .int .i64 R.1.far, .slice p9 xs9.length c9, .slice po9 os9.length co9] : Array Value).toList)) := Lib.hid (chg_putL _ _ _ _ _ (Chg.refl _ w9))
   have Hr2 : Hid (Blk (w9.setCells (w.heap.size + 1 + 1) 0 (#[.int .i64 R.1.me, .int .i64 R.1.far, .slice p9 xs9.length c9, .slice po9 os9.length co9] : Array Value).toList) (w.heap.size + 1 + 1) #[.int .i64 R.1.me, .int .i64 R.1.far, .slice p9 xs9.length c9, .slice po9 os9.length co9] 34) := Lib.hid (blk_put_all Hr1.out _ rfl)
   have HB2 : Hid (Below w.heap.size w (w9.setCells (w.heap.size + 1 + 1) 0 (#[.int .i64 R.1.me, .int .i64 R.1.far, .slice p9 xs9.length c9, .slice po9 os9.length co9] : Array Value).toList)) := Lib.hid (below_put (by omega) _ _ _ _ HB1.out)
   have HZ2 := kzq HZ1 hch.out.size
   have Hd2 := kcq Hd1 hch (by omega)
   have Hm2 := kcq Hm1 hch (by omega)
   have HQ4 := Lib.hid (HQ.out.chg hch.out (by intro h; (try dsimp only at h); have h1 := HWC.out; rcases h with h3 | h3; (have := h3.2; omega); omega))
   have HO4 := Lib.hid (HO.out.stay (fun b hb => hch.out.2 b (HO.out.lt b hb) (by have h1 := HO.out.block_ge b hb; have := HWC.out; omega)))
   clear HQ HO
   clear hch Hd1 Hm1 Hr1 HB1 HZ1
   refine wpList_store_mid rfl 34 (.tmp 6) (.tmp 40) rfl (w.heap.size + 1 + 1) 0 #[.int .i64 R.1.me, .int .i64 R.1.far, .slice p9 xs9.length c9, .slice po9 os9.length co9] rfl rfl HTH.out (infoDC rfl) (all_oneCell_toArray (by intro u hu; simp at hu; rcases hu with rfl | rfl | rfl | rfl <;> rfl)) ?_
   generalize (w9.setCells (w.heap.size + 1 + 1) 0 (#[.int .i64 R.1.me, .int .i64 R.1.far, .slice p9 xs9.length c9, .slice po9 os9.length co9] : Array Value).toList) = W9 at *
   clear HTH
   go_wp2_with fail
   have hfr := Hr2.out
   refine bodyPost_ret (v := .tuple #[.agg #[.int .i64 R.1.me, .int .i64 R.1.far, .slice p9 xs9.length c9, .slice po9 os9.length co9], vs9, .int .i64 R.2.2]) (by simp [results, Try.results9, go_sem, hfr.cell 0, hfr.cell 1, hfr.cell 2, hfr.cell 3]) rfl ⟨_, _, _, _, _, _, _, rfl, HQ4.out.imp (fun b h => by have h1 := HWC.out; rcases h with h2 | h2; exact .inl h2.1; exact .inr (by omega)), HO4.out.less (by have h1 := HWC.out; omega), HB2.out⟩
  ·skip
   have hf2 : (fro == -1) = false := by simpa using hf
   have hf3 : (fro != -1) = true := by simpa using hf
   have HA2 : Hid (nodeM d m fro = R) := Lib.hid (by rw [← HA.out]; unfold doM; rw [if_neg hf])
   clear HA hf
   have HA := HA2
   clear HA2
   go_upto_region 7 with fail
   clear hf2 hf3 m0 q0 q1 q2
   obtain rfl : R = (d, [], 110) := by
    rw [← HA.out]
    unfold nodeM
    rw [if_neg (by have := HKM.out; omega), if_neg (by have := HKM.out; omega), if_neg (by have := HKM.out; omega), if_neg (by have := HKM.out; omega)]
   have a0 : W.cell? ⟨w.heap.size, 0, none⟩ = some (.int .i64 d.me) := Hd0.out.cell 0
   have a1 : W.cell? ⟨w.heap.size, 1, none⟩ = some (.int .i64 d.far) := Hd0.out.cell 1
   have a2 : W.cell? ⟨w.heap.size, 2, none⟩ = some (.slice p xs.length c) := Hd0.out.cell 2
   have a3 : W.cell? ⟨w.heap.size, 3, none⟩ = some (.slice po os.length co) := Hd0.out.cell 3
   go_wp2_with (with_reducible refine stop_storeT 34 (.tmp 6) (.tmp 55) rfl ?_)
   clear a0 a1 a2 a3
   have HTH : Hid (W.there (w.heap.size + 1 + 1) 0 4) := Hr0.out.thereAt
   have hch : Hid (Chg (w.heap.size + 1 + 1) W (W.setCells (w.heap.size + 1 + 1) 0 (#[.int .i64 d.me, .int .i64 d.far, .slice p xs.length c, .slice po os.length co] : Array Value).toList)) := Lib.hid (chg_putL _ _ _ _ _ (Chg.refl _ W))
   have Hr1 : Hid (Blk (W.setCells (w.heap.size + 1 + 1) 0 (#[.int .i64 d.me, .int .i64 d.far, .slice p xs.length c, .slice po os.length co] : Array Value).toList) (w.heap.size + 1 + 1) #[.int .i64 d.me, .int .i64 d.far, .slice p xs.length c, .slice po os.length co] 34) := Lib.hid (blk_put_all Hr0.out _ rfl)
   have HB1 : Hid (Below w.heap.size w (W.setCells (w.heap.size + 1 + 1) 0 (#[.int .i64 d.me, .int .i64 d.far, .slice p xs.length c, .slice po os.length co] : Array Value).toList)) := Lib.hid (below_put (by omega) _ _ _ _ HB0.out)
   have HZ1 := kzq HZ0 hch.out.size
   have Hd1 := kcq Hd0 hch (by omega)
   have Hm1 := kcq Hm0 hch (by omega)
   clear hch Hd0 Hm0 Hr0 HB0 HZ0
   refine wpList_store_mid rfl 34 (.tmp 6) (.tmp 55) rfl (w.heap.size + 1 + 1) 0 #[.int .i64 d.me, .int .i64 d.far, .slice p xs.length c, .slice po os.length co] rfl rfl HTH.out (infoDC rfl) (all_oneCell_toArray (by intro u hu; simp at hu; rcases hu with rfl | rfl | rfl | rfl <;> rfl)) ?_
   generalize (W.setCells (w.heap.size + 1 + 1) 0 (#[.int .i64 d.me, .int .i64 d.far, .slice p xs.length c, .slice po os.length co] : Array Value).toList) = WR at *
   clear HTH
   go_wp2_with fail
   have hfr := Hr1.out
   refine bodyPost_ret (v := .tuple #[.agg #[.int .i64 d.me, .int .i64 d.far, .slice p xs.length c, .slice po os.length co], .slice none 0 0, .int .i64 110]) (by simp [results, Try.results9, go_sem, hfr.cell 0, hfr.cell 1, hfr.cell 2, hfr.cell 3]) rfl ⟨_, _, _, _, _, _, _, rfl, (HD.out.kept HB1.out).imp (fun b h => .inl h.1), OwnT.nil_ _ _ _ _, HB1.out⟩
 ·skip
  have HKM : Hid (m.k = 5) := Lib.hid (by omega)
  have q0 : 1 ≤ m.k := by first | omega | (simp; done) | (simp; omega)
  have q1 : ¬ (m.k ≤ 4) := by first | omega | (simp; done) | (simp; omega)
  have q2 : (m.k == 16) = false := by first | omega | (simp; done) | (simp; omega)
  have q3 : ¬ (6 ≤ m.k) := by first | omega | (simp; done) | (simp; omega)
  clear hkc
  by_cases hf : fro = -1
  ·skip
   have hf2 : (fro == -1) = true := by simpa using hf
   have hf3 : (fro != -1) = false := by simpa using hf
   have HA2 : Hid (clientM d m = R) := Lib.hid (by rw [← HA.out]; unfold doM; rw [if_pos hf])
   clear HA hf
   have HA := HA2
   clear HA2
   go_upto_region 7 with fail
   clear hf2 hf3 m0 q0 q1 q2 q3
   obtain rfl : R = (d, [], 110) := by
    rw [← HA.out]
    unfold clientM
    rw [if_neg (by have := HKM.out; omega), if_neg (by have := HKM.out; omega), if_neg (by have := HKM.out; omega), if_neg (by have := HKM.out; omega), if_neg (by have := HKM.out; omega)]
   have a0 : W.cell? ⟨w.heap.size, 0, none⟩ = some (.int .i64 d.me) := Hd0.out.cell 0
   have a1 : W.cell? ⟨w.heap.size, 1, none⟩ = some (.int .i64 d.far) := Hd0.out.cell 1
   have a2 : W.cell? ⟨w.heap.size, 2, none⟩ = some (.slice p xs.length c) := Hd0.out.cell 2
   have a3 : W.cell? ⟨w.heap.size, 3, none⟩ = some (.slice po os.length co) := Hd0.out.cell 3
   go_wp2_with (with_reducible refine stop_storeT 34 (.tmp 6) (.tmp 55) rfl ?_)
   clear a0 a1 a2 a3
   have HTH : Hid (W.there (w.heap.size + 1 + 1) 0 4) := Hr0.out.thereAt
   have hch : Hid (Chg (w.heap.size + 1 + 1) W (W.setCells (w.heap.size + 1 + 1) 0 (#[.int .i64 d.me, .int .i64 d.far, .slice p xs.length c, .slice po os.length co] : Array Value).toList)) := Lib.hid (chg_putL _ _ _ _ _ (Chg.refl _ W))
   have Hr1 : Hid (Blk (W.setCells (w.heap.size + 1 + 1) 0 (#[.int .i64 d.me, .int .i64 d.far, .slice p xs.length c, .slice po os.length co] : Array Value).toList) (w.heap.size + 1 + 1) #[.int .i64 d.me, .int .i64 d.far, .slice p xs.length c, .slice po os.length co] 34) := Lib.hid (blk_put_all Hr0.out _ rfl)
   have HB1 : Hid (Below w.heap.size w (W.setCells (w.heap.size + 1 + 1) 0 (#[.int .i64 d.me, .int .i64 d.far, .slice p xs.length c, .slice po os.length co] : Array Value).toList)) := Lib.hid (below_put (by omega) _ _ _ _ HB0.out)
   have HZ1 := kzq HZ0 hch.out.size
   have Hd1 := kcq Hd0 hch (by omega)
   have Hm1 := kcq Hm0 hch (by omega)
   clear hch Hd0 Hm0 Hr0 HB0 HZ0
   refine wpList_store_mid rfl 34 (.tmp 6) (.tmp 55) rfl (w.heap.size + 1 + 1) 0 #[.int .i64 d.me, .int .i64 d.far, .slice p xs.length c, .slice po os.length co] rfl rfl HTH.out (infoDC rfl) (all_oneCell_toArray (by intro u hu; simp at hu; rcases hu with rfl | rfl | rfl | rfl <;> rfl)) ?_
   generalize (W.setCells (w.heap.size + 1 + 1) 0 (#[.int .i64 d.me, .int .i64 d.far, .slice p xs.length c, .slice po os.length co] : Array Value).toList) = WR at *
   clear HTH
   go_wp2_with fail
   have hfr := Hr1.out
   refine bodyPost_ret (v := .tuple #[.agg #[.int .i64 d.me, .int .i64 d.far, .slice p xs.length c, .slice po os.length co], .slice none 0 0, .int .i64 110]) (by simp [results, Try.results9, go_sem, hfr.cell 0, hfr.cell 1, hfr.cell 2, hfr.cell 3]) rfl ⟨_, _, _, _, _, _, _, rfl, (HD.out.kept HB1.out).imp (fun b h => .inl h.1), OwnT.nil_ _ _ _ _, HB1.out⟩
  ·skip
   have hf2 : (fro == -1) = false := by simpa using hf
   have hf3 : (fro != -1) = true := by simpa using hf
   have HA2 : Hid (nodeM d m fro = R) := Lib.hid (by rw [← HA.out]; unfold doM; rw [if_neg hf])
   clear HA hf
   have HA := HA2
   clear HA2
   go_upto_region 7 with fail
   clear hf2 hf3 m0 q0 q1 q2 q3
   obtain rfl : R = (d, [], 110) := by
    rw [← HA.out]
    unfold nodeM
    rw [if_neg (by have := HKM.out; omega), if_neg (by have := HKM.out; omega), if_neg (by have := HKM.out; omega), if_neg (by have := HKM.out; omega)]
   have a0 : W.cell? ⟨w.heap.size, 0, none⟩ = some (.int .i64 d.me) := Hd0.out.cell 0
   have a1 : W.cell? ⟨w.heap.size, 1, none⟩ = some (.int .i64 d.far) := Hd0.out.cell 1
   have a2 : W.cell? ⟨w.heap.size, 2, none⟩ = some (.slice p xs.length c) := Hd0.out.cell 2
   have a3 : W.cell? ⟨w.heap.size, 3, none⟩ = some (.slice po os.length co) := Hd0.out.cell 3
   go_wp2_with (with_reducible refine stop_storeT 34 (.tmp 6) (.tmp 55) rfl ?_)
   clear a0 a1 a2 a3
   have HTH : Hid (W.there (w.heap.size + 1 + 1) 0 4) := Hr0.out.thereAt
   have hch : Hid (Chg (w.heap.size + 1 + 1) W (W.setCells (w.heap.size + 1 + 1) 0 (#[.int .i64 d.me, .int .i64 d.far, .slice p xs.length c, .slice po os.length co] : Array Value).toList)) := Lib.hid (chg_putL _ _ _ _ _ (Chg.refl _ W))
   have Hr1 : Hid (Blk (W.setCells (w.heap.size + 1 + 1) 0 (#[.int .i64 d.me, .int .i64 d.far, .slice p xs.length c, .slice po os.length co] : Array Value).toList) (w.heap.size + 1 + 1) #[.int .i64 d.me, .int .i64 d.far, .slice p xs.length c, .slice po os.length co] 34) := Lib.hid (blk_put_all Hr0.out _ rfl)
   have HB1 : Hid (Below w.heap.size w (W.setCells (w.heap.size + 1 + 1) 0 (#[.int .i64 d.me, .int .i64 d.far, .slice p xs.length c, .slice po os.length co] : Array Value).toList)) := Lib.hid (below_put (by omega) _ _ _ _ HB0.out)
   have HZ1 := kzq HZ0 hch.out.size
   have Hd1 := kcq Hd0 hch (by omega)
   have Hm1 := kcq Hm0 hch (by omega)
   clear hch Hd0 Hm0 Hr0 HB0 HZ0
   refine wpList_store_mid rfl 34 (.tmp 6) (.tmp 55) rfl (w.heap.size + 1 + 1) 0 #[.int .i64 d.me, .int .i64 d.far, .slice p xs.length c, .slice po os.length co] rfl rfl HTH.out (infoDC rfl) (all_oneCell_toArray (by intro u hu; simp at hu; rcases hu with rfl | rfl | rfl | rfl <;> rfl)) ?_
   generalize (W.setCells (w.heap.size + 1 + 1) 0 (#[.int .i64 d.me, .int .i64 d.far, .slice p xs.length c, .slice po os.length co] : Array Value).toList) = WR at *
   clear HTH
   go_wp2_with fail
   have hfr := Hr1.out
   refine bodyPost_ret (v := .tuple #[.agg #[.int .i64 d.me, .int .i64 d.far, .slice p xs.length c, .slice po os.length co], .slice none 0 0, .int .i64 110]) (by simp [results, Try.results9, go_sem, hfr.cell 0, hfr.cell 1, hfr.cell 2, hfr.cell 3]) rfl ⟨_, _, _, _, _, _, _, rfl, (HD.out.kept HB1.out).imp (fun b h => .inl h.1), OwnT.nil_ _ _ _ _, HB1.out⟩
 ·skip
  have HKM : Hid (m.k = 6 ∨ m.k = 7 ∨ m.k = 8 ∨ m.k = 9) := Lib.hid (by omega)
  have q0 : 1 ≤ m.k := by first | omega | (simp; done) | (simp; omega)
  have q1 : ¬ (m.k ≤ 4) := by first | omega | (simp; done) | (simp; omega)
  have q2 : (m.k == 16) = false := by first | omega | (simp; done) | (simp; omega)
  have q3 : 6 ≤ m.k := by first | omega | (simp; done) | (simp; omega)
  have q4 : m.k ≤ 9 := by first | omega | (simp; done) | (simp; omega)
  clear hkc
  by_cases hf : fro = -1
  ·skip
   have hf2 : (fro == -1) = true := by simpa using hf
   have hf3 : (fro != -1) = false := by simpa using hf
   have HA2 : Hid (clientM d m = R) := Lib.hid (by rw [← HA.out]; unfold doM; rw [if_pos hf])
   clear HA hf
   have HA := HA2
   clear HA2
   go_upto_region 7 with fail
   clear hf2 hf3 m0 q0 q1 q2 q3 q4
   obtain rfl : R = (d, [], 110) := by
    rw [← HA.out]
    unfold clientM
    rw [if_neg (by have := HKM.out; omega), if_neg (by have := HKM.out; omega), if_neg (by have := HKM.out; omega), if_neg (by have := HKM.out; omega), if_neg (by have := HKM.out; omega)]
   have a0 : W.cell? ⟨w.heap.size, 0, none⟩ = some (.int .i64 d.me) := Hd0.out.cell 0
   have a1 : W.cell? ⟨w.heap.size, 1, none⟩ = some (.int .i64 d.far) := Hd0.out.cell 1
   have a2 : W.cell? ⟨w.heap.size, 2, none⟩ = some (.slice p xs.length c) := Hd0.out.cell 2
   have a3 : W.cell? ⟨w.heap.size, 3, none⟩ = some (.slice po os.length co) := Hd0.out.cell 3
   go_wp2_with (with_reducible refine stop_storeT 34 (.tmp 6) (.tmp 55) rfl ?_)
   clear a0 a1 a2 a3
   have HTH : Hid (W.there (w.heap.size + 1 + 1) 0 4) := Hr0.out.thereAt
   have hch : Hid (Chg (w.heap.size + 1 + 1) W (W.setCells (w.heap.size + 1 + 1) 0 (#[.int .i64 d.me, .int .i64 d.far, .slice p xs.length c, .slice po os.length co] : Array Value).toList)) := Lib.hid (chg_putL _ _ _ _ _ (Chg.refl _ W))
   have Hr1 : Hid (Blk (W.setCells (w.heap.size + 1 + 1) 0 (#[.int .i64 d.me, .int .i64 d.far, .slice p xs.length c, .slice po os.length co] : Array Value).toList) (w.heap.size + 1 + 1) #[.int .i64 d.me, .int .i64 d.far, .slice p xs.length c, .slice po os.length co] 34) := Lib.hid (blk_put_all Hr0.out _ rfl)
   have HB1 : Hid (Below w.heap.size w (W.setCells (w.heap.size + 1 + 1) 0 (#[.int .i64 d.me, .int .i64 d.far, .slice p xs.length c, .slice po os.length co] : Array Value).toList)) := Lib.hid (below_put (by omega) _ _ _ _ HB0.out)
   have HZ1 := kzq HZ0 hch.out.size
   have Hd1 := kcq Hd0 hch (by omega)
   have Hm1 := kcq Hm0 hch (by omega)
   clear hch Hd0 Hm0 Hr0 HB0 HZ0
   refine wpList_store_mid rfl 34 (.tmp 6) (.tmp 55) rfl (w.heap.size + 1 + 1) 0 #[.int .i64 d.me, .int .i64 d.far, .slice p xs.length c, .slice po os.length co] rfl rfl HTH.out (infoDC rfl) (all_oneCell_toArray (by intro u hu; simp at hu; rcases hu with rfl | rfl | rfl | rfl <;> rfl)) ?_
   generalize (W.setCells (w.heap.size + 1 + 1) 0 (#[.int .i64 d.me, .int .i64 d.far, .slice p xs.length c, .slice po os.length co] : Array Value).toList) = WR at *
   clear HTH
   go_wp2_with fail
   have hfr := Hr1.out
   refine bodyPost_ret (v := .tuple #[.agg #[.int .i64 d.me, .int .i64 d.far, .slice p xs.length c, .slice po os.length co], .slice none 0 0, .int .i64 110]) (by simp [results, Try.results9, go_sem, hfr.cell 0, hfr.cell 1, hfr.cell 2, hfr.cell 3]) rfl ⟨_, _, _, _, _, _, _, rfl, (HD.out.kept HB1.out).imp (fun b h => .inl h.1), OwnT.nil_ _ _ _ _, HB1.out⟩
  ·skip
   have hf2 : (fro == -1) = false := by simpa using hf
   have hf3 : (fro != -1) = true := by simpa using hf
   have HA2 : Hid (nodeM d m fro = R) := Lib.hid (by rw [← HA.out]; unfold doM; rw [if_neg hf])
   clear HA hf
   have HA := HA2
   clear HA2
   go_upto_region 6 with fail
   clear hf2 hf3 m0 q0 q1 q2 q3 q4
   have HG := Lib.hid (rnode_any W (fun b => P b ∧ b < w.heap.size) p po c co xs os d m vl vn fro (HD.out.kept HB0.out) HSX.out HSO.out HOK.out HOO.out HNN.out.1 HNN.out.2 HKM.out)
   rw [HA.out] at HG
   have HWC : Hid (w.heap.size ≤ W.heap.size ∧ w.heap.size + 1 + 1 < W.heap.size) := Lib.hid ⟨HZ0.out, Hr0.out.lt⟩
   unfold Msg.v at HG
   have a0 : W.cell? ⟨w.heap.size, 0, none⟩ = some (.int .i64 d.me) := Hd0.out.cell 0
   have a1 : W.cell? ⟨w.heap.size, 1, none⟩ = some (.int .i64 d.far) := Hd0.out.cell 1
   have a2 : W.cell? ⟨w.heap.size, 2, none⟩ = some (.slice p xs.length c) := Hd0.out.cell 2
   have a3 : W.cell? ⟨w.heap.size, 3, none⟩ = some (.slice po os.length co) := Hd0.out.cell 3
   have m0 : W.cell? ⟨(w.heap.size + 1), 0, none⟩ = some (.int .i64 m.k) := Hm0.out.cell 0
   have m1 : W.cell? ⟨(w.heap.size + 1), 1, none⟩ = some (.int .i64 m.s) := Hm0.out.cell 1
   have m2 : W.cell? ⟨(w.heap.size + 1), 2, none⟩ = some (.int .i64 m.n) := Hm0.out.cell 2
   have m3 : W.cell? ⟨(w.heap.size + 1), 3, none⟩ = some (.int .i64 m.b) := Hm0.out.cell 3
   have m4 : W.cell? ⟨(w.heap.size + 1), 4, none⟩ = some (.int .i64 m.c) := Hm0.out.cell 4
   have m5 : W.cell? ⟨(w.heap.size + 1), 5, none⟩ = some (.int .i64 m.r) := Hm0.out.cell 5
   have m6 : W.cell? ⟨(w.heap.size + 1), 6, none⟩ = some (.int .i64 m.y) := Hm0.out.cell 6
   have m7 : W.cell? ⟨(w.heap.size + 1), 7, none⟩ = some (.int .i64 m.a) := Hm0.out.cell 7
   have m8 : W.cell? ⟨(w.heap.size + 1), 8, none⟩ = some (.bool m.t) := Hm0.out.cell 8
   have m9 : W.cell? ⟨(w.heap.size + 1), 9, none⟩ = some (vl) := Hm0.out.cell 9
   have m10 : W.cell? ⟨(w.heap.size + 1), 10, none⟩ = some (vn) := Hm0.out.cell 10
   go_wp2_with fail
   clear a0 a1 a2 a3 m0 m1 m2 m3 m4 m5 m6 m7 m8 m9 m10
   refine HG.out.mono ?_
   rintro y9 w9 ⟨p9, c9, po9, co9, xs9, os9, vs9, rfl, hdx, hown, hb⟩
   clear HG
   have HQ := Lib.hid hdx
   have HO := Lib.hid hown
   clear hdx hown
   have Hd1 := kbq Hd0 hb
   have Hm1 := kbq Hm0 hb
   have Hr1 := kbq Hr0 hb
   have HB1 := ktq HB0 hb
   have HZ1 := kzq HZ0 hb.size
   clear Hd0 Hm0 Hr0 HB0 HZ0
   clear hb
   go_wp2_with (with_reducible refine stop_storeT 34 (.tmp 6) (.tmp 52) rfl ?_)
   have HTH : Hid (w9.there (w.heap.size + 1 + 1) 0 4) := Hr1.out.thereAt
   have hch : Hid (Chg (w.heap.size + 1 + 1) w9 (w9.setCells (w.heap.size + 1 + 1) 0 (#[.int .i64 R.1.me, .int .i64 R.1.far, .slice p9 xs9.length c9, .slice po9 os9.length co9] : Array Value).toList)) := Lib.hid (chg_putL _ _ _ _ _ (Chg.refl _ w9))
   have Hr2 : Hid (Blk (w9.setCells (w.heap.size + 1 + 1) 0 (#[.int .i64 R.1.me, .int .i64 R.1.far, .slice p9 xs9.length c9, .slice po9 os9.length co9] : Array Value).toList) (w.heap.size + 1 + 1) #[.int .i64 R.1.me, .int .i64 R.1.far, .slice p9 xs9.length c9, .slice po9 os9.length co9] 34) := Lib.hid (blk_put_all Hr1.out _ rfl)
   have HB2 : Hid (Below w.heap.size w (w9.setCells (w.heap.size + 1 + 1) 0 (#[.int .i64 R.1.me, .int .i64 R.1.far, .slice p9 xs9.length c9, .slice po9 os9.length co9] : Array Value).toList)) := Lib.hid (below_put (by omega) _ _ _ _ HB1.out)
   have HZ2 := kzq HZ1 hch.out.size
   have Hd2 := kcq Hd1 hch (by omega)
   have Hm2 := kcq Hm1 hch (by omega)
   have HQ4 := Lib.hid (HQ.out.chg hch.out (by intro h; (try dsimp only at h); have h1 := HWC.out; rcases h with h3 | h3; (have := h3.2; omega); omega))
   have HO4 := Lib.hid (HO.out.stay (fun b hb => hch.out.2 b (HO.out.lt b hb) (by have h1 := HO.out.block_ge b hb; have := HWC.out; omega)))
   clear HQ HO
   clear hch Hd1 Hm1 Hr1 HB1 HZ1
   refine wpList_store_mid rfl 34 (.tmp 6) (.tmp 52) rfl (w.heap.size + 1 + 1) 0 #[.int .i64 R.1.me, .int .i64 R.1.far, .slice p9 xs9.length c9, .slice po9 os9.length co9] rfl rfl HTH.out (infoDC rfl) (all_oneCell_toArray (by intro u hu; simp at hu; rcases hu with rfl | rfl | rfl | rfl <;> rfl)) ?_
   generalize (w9.setCells (w.heap.size + 1 + 1) 0 (#[.int .i64 R.1.me, .int .i64 R.1.far, .slice p9 xs9.length c9, .slice po9 os9.length co9] : Array Value).toList) = W9 at *
   clear HTH
   go_wp2_with fail
   have hfr := Hr2.out
   refine bodyPost_ret (v := .tuple #[.agg #[.int .i64 R.1.me, .int .i64 R.1.far, .slice p9 xs9.length c9, .slice po9 os9.length co9], vs9, .int .i64 R.2.2]) (by simp [results, Try.results9, go_sem, hfr.cell 0, hfr.cell 1, hfr.cell 2, hfr.cell 3]) rfl ⟨_, _, _, _, _, _, _, rfl, HQ4.out.imp (fun b h => by have h1 := HWC.out; rcases h with h2 | h2; exact .inl h2.1; exact .inr (by omega)), HO4.out.less (by have h1 := HWC.out; omega), HB2.out⟩
 ·skip
  have HKM : Hid (10 ≤ m.k ∧ m.k ≠ 16) := Lib.hid (by omega)
  have q0 : 1 ≤ m.k := by first | omega | (simp; done) | (simp; omega)
  have q1 : ¬ (m.k ≤ 4) := by first | omega | (simp; done) | (simp; omega)
  have q2 : (m.k == 16) = false := by first | omega | (simp; done) | (simp; omega)
  have q3 : 6 ≤ m.k := by first | omega | (simp; done) | (simp; omega)
  have q4 : ¬ (m.k ≤ 9) := by first | omega | (simp; done) | (simp; omega)
  clear hkc
  by_cases hf : fro = -1
  ·skip
   have hf2 : (fro == -1) = true := by simpa using hf
   have hf3 : (fro != -1) = false := by simpa using hf
   have HA2 : Hid (clientM d m = R) := Lib.hid (by rw [← HA.out]; unfold doM; rw [if_pos hf])
   clear HA hf
   have HA := HA2
   clear HA2
   go_upto_region 7 with fail
   clear hf2 hf3 m0 q0 q1 q2 q3 q4
   obtain rfl : R = (d, [], 110) := by
    rw [← HA.out]
    unfold clientM
    rw [if_neg (by have := HKM.out; omega), if_neg (by have := HKM.out; omega), if_neg (by have := HKM.out; omega), if_neg (by have := HKM.out; omega), if_neg (by have := HKM.out; omega)]
   have a0 : W.cell? ⟨w.heap.size, 0, none⟩ = some (.int .i64 d.me) := Hd0.out.cell 0
   have a1 : W.cell? ⟨w.heap.size, 1, none⟩ = some (.int .i64 d.far) := Hd0.out.cell 1
   have a2 : W.cell? ⟨w.heap.size, 2, none⟩ = some (.slice p xs.length c) := Hd0.out.cell 2
   have a3 : W.cell? ⟨w.heap.size, 3, none⟩ = some (.slice po os.length co) := Hd0.out.cell 3
   go_wp2_with (with_reducible refine stop_storeT 34 (.tmp 6) (.tmp 55) rfl ?_)
   clear a0 a1 a2 a3
   have HTH : Hid (W.there (w.heap.size + 1 + 1) 0 4) := Hr0.out.thereAt
   have hch : Hid (Chg (w.heap.size + 1 + 1) W (W.setCells (w.heap.size + 1 + 1) 0 (#[.int .i64 d.me, .int .i64 d.far, .slice p xs.length c, .slice po os.length co] : Array Value).toList)) := Lib.hid (chg_putL _ _ _ _ _ (Chg.refl _ W))
   have Hr1 : Hid (Blk (W.setCells (w.heap.size + 1 + 1) 0 (#[.int .i64 d.me, .int .i64 d.far, .slice p xs.length c, .slice po os.length co] : Array Value).toList) (w.heap.size + 1 + 1) #[.int .i64 d.me, .int .i64 d.far, .slice p xs.length c, .slice po os.length co] 34) := Lib.hid (blk_put_all Hr0.out _ rfl)
   have HB1 : Hid (Below w.heap.size w (W.setCells (w.heap.size + 1 + 1) 0 (#[.int .i64 d.me, .int .i64 d.far, .slice p xs.length c, .slice po os.length co] : Array Value).toList)) := Lib.hid (below_put (by omega) _ _ _ _ HB0.out)
   have HZ1 := kzq HZ0 hch.out.size
   have Hd1 := kcq Hd0 hch (by omega)
   have Hm1 := kcq Hm0 hch (by omega)
   clear hch Hd0 Hm0 Hr0 HB0 HZ0
   refine wpList_store_mid rfl 34 (.tmp 6) (.tmp 55) rfl (w.heap.size + 1 + 1) 0 #[.int .i64 d.me, .int .i64 d.far, .slice p xs.length c, .slice po os.length co] rfl rfl HTH.out (infoDC rfl) (all_oneCell_toArray (by intro u hu; simp at hu; rcases hu with rfl | rfl | rfl | rfl <;> rfl)) ?_
   generalize (W.setCells (w.heap.size + 1 + 1) 0 (#[.int .i64 d.me, .int .i64 d.far, .slice p xs.length c, .slice po os.length co] : Array Value).toList) = WR at *
   clear HTH
   go_wp2_with fail
   have hfr := Hr1.out
   refine bodyPost_ret (v := .tuple #[.agg #[.int .i64 d.me, .int .i64 d.far, .slice p xs.length c, .slice po os.length co], .slice none 0 0, .int .i64 110]) (by simp [results, Try.results9, go_sem, hfr.cell 0, hfr.cell 1, hfr.cell 2, hfr.cell 3]) rfl ⟨_, _, _, _, _, _, _, rfl, (HD.out.kept HB1.out).imp (fun b h => .inl h.1), OwnT.nil_ _ _ _ _, HB1.out⟩
  ·skip
   have hf2 : (fro == -1) = false := by simpa using hf
   have hf3 : (fro != -1) = true := by simpa using hf
   have HA2 : Hid (nodeM d m fro = R) := Lib.hid (by rw [← HA.out]; unfold doM; rw [if_neg hf])
   clear HA hf
   have HA := HA2
   clear HA2
   go_upto_region 7 with fail
   clear hf2 hf3 m0 q0 q1 q2 q3 q4
   obtain rfl : R = (d, [], 110) := by
    rw [← HA.out]
    unfold nodeM
    rw [if_neg (by have := HKM.out; omega), if_neg (by have := HKM.out; omega), if_neg (by have := HKM.out; omega), if_neg (by have := HKM.out; omega)]
   have a0 : W.cell? ⟨w.heap.size, 0, none⟩ = some (.int .i64 d.me) := Hd0.out.cell 0
   have a1 : W.cell? ⟨w.heap.size, 1, none⟩ = some (.int .i64 d.far) := Hd0.out.cell 1
   have a2 : W.cell? ⟨w.heap.size, 2, none⟩ = some (.slice p xs.length c) := Hd0.out.cell 2
   have a3 : W.cell? ⟨w.heap.size, 3, none⟩ = some (.slice po os.length co) := Hd0.out.cell 3
   go_wp2_with (with_reducible refine stop_storeT 34 (.tmp 6) (.tmp 55) rfl ?_)
   clear a0 a1 a2 a3
   have HTH : Hid (W.there (w.heap.size + 1 + 1) 0 4) := Hr0.out.thereAt
   have hch : Hid (Chg (w.heap.size + 1 + 1) W (W.setCells (w.heap.size + 1 + 1) 0 (#[.int .i64 d.me, .int .i64 d.far, .slice p xs.length c, .slice po os.length co] : Array Value).toList)) := Lib.hid (chg_putL _ _ _ _ _ (Chg.refl _ W))
   have Hr1 : Hid (Blk (W.setCells (w.heap.size + 1 + 1) 0 (#[.int .i64 d.me, .int .i64 d.far, .slice p xs.length c, .slice po os.length co] : Array Value).toList) (w.heap.size + 1 + 1) #[.int .i64 d.me, .int .i64 d.far, .slice p xs.length c, .slice po os.length co] 34) := Lib.hid (blk_put_all Hr0.out _ rfl)
   have HB1 : Hid (Below w.heap.size w (W.setCells (w.heap.size + 1 + 1) 0 (#[.int .i64 d.me, .int .i64 d.far, .slice p xs.length c, .slice po os.length co] : Array Value).toList)) := Lib.hid (below_put (by omega) _ _ _ _ HB0.out)
   have HZ1 := kzq HZ0 hch.out.size
   have Hd1 := kcq Hd0 hch (by omega)
   have Hm1 := kcq Hm0 hch (by omega)
   clear hch Hd0 Hm0 Hr0 HB0 HZ0
   refine wpList_store_mid rfl 34 (.tmp 6) (.tmp 55) rfl (w.heap.size + 1 + 1) 0 #[.int .i64 d.me, .int .i64 d.far, .slice p xs.length c, .slice po os.length co] rfl rfl HTH.out (infoDC rfl) (all_oneCell_toArray (by intro u hu; simp at hu; rcases hu with rfl | rfl | rfl | rfl <;> rfl)) ?_
   generalize (W.setCells (w.heap.size + 1 + 1) 0 (#[.int .i64 d.me, .int .i64 d.far, .slice p xs.length c, .slice po os.length co] : Array Value).toList) = WR at *
   clear HTH
   go_wp2_with fail
   have hfr := Hr1.out
   refine bodyPost_ret (v := .tuple #[.agg #[.int .i64 d.me, .int .i64 d.far, .slice p xs.length c, .slice po os.length co], .slice none 0 0, .int .i64 110]) (by simp [results, Try.results9, go_sem, hfr.cell 0, hfr.cell 1, hfr.cell 2, hfr.cell 3]) rfl ⟨_, _, _, _, _, _, _, rfl, (HD.out.kept HB1.out).imp (fun b h => .inl h.1), OwnT.nil_ _ _ _ _, HB1.out⟩
 ·skip
  have HKM : Hid (m.k = 1 ∨ m.k = 2 ∨ m.k = 3 ∨ m.k = 4 ∨ m.k = 16) := Lib.hid (by omega)
  have q0 : 1 ≤ m.k := by first | omega | (simp; done) | (simp; omega)
  have q1 : ¬ (m.k ≤ 4) := by first | omega | (simp; done) | (simp; omega)
  have q2 : (m.k == 16) = true := by first | omega | (simp; done) | (simp; omega)
  have q3 : 6 ≤ m.k := by first | omega | (simp; done) | (simp; omega)
  have q4 : ¬ (m.k ≤ 9) := by first | omega | (simp; done) | (simp; omega)
  clear hkc
  by_cases hf : fro = -1
  ·skip
   have hf2 : (fro == -1) = true := by simpa using hf
   have hf3 : (fro != -1) = false := by simpa using hf
   have HA2 : Hid (clientM d m = R) := Lib.hid (by rw [← HA.out]; unfold doM; rw [if_pos hf])
   clear HA hf
   have HA := HA2
   clear HA2
   go_upto_region 4 with fail
   clear hf2 hf3 m0 q0 q1 q2 q3 q4
   have HG := Lib.hid (rclient_any W (fun b => P b ∧ b < w.heap.size) p po c co xs os d m vl vn (HD.out.kept HB0.out) HSX.out HSO.out HOK.out HOO.out HNN.out.1 HNN.out.2 HKM.out)
   rw [HA.out] at HG
   have HWC : Hid (w.heap.size ≤ W.heap.size ∧ w.heap.size + 1 + 1 < W.heap.size) := Lib.hid ⟨HZ0.out, Hr0.out.lt⟩
   unfold Msg.v at HG
   have a0 : W.cell? ⟨w.heap.size, 0, none⟩ = some (.int .i64 d.me) := Hd0.out.cell 0
   have a1 : W.cell? ⟨w.heap.size, 1, none⟩ = some (.int .i64 d.far) := Hd0.out.cell 1
   have a2 : W.cell? ⟨w.heap.size, 2, none⟩ = some (.slice p xs.length c) := Hd0.out.cell 2
   have a3 : W.cell? ⟨w.heap.size, 3, none⟩ = some (.slice po os.length co) := Hd0.out.cell 3
   have m0 : W.cell? ⟨(w.heap.size + 1), 0, none⟩ = some (.int .i64 m.k) := Hm0.out.cell 0
   have m1 : W.cell? ⟨(w.heap.size + 1), 1, none⟩ = some (.int .i64 m.s) := Hm0.out.cell 1
   have m2 : W.cell? ⟨(w.heap.size + 1), 2, none⟩ = some (.int .i64 m.n) := Hm0.out.cell 2
   have m3 : W.cell? ⟨(w.heap.size + 1), 3, none⟩ = some (.int .i64 m.b) := Hm0.out.cell 3
   have m4 : W.cell? ⟨(w.heap.size + 1), 4, none⟩ = some (.int .i64 m.c) := Hm0.out.cell 4
   have m5 : W.cell? ⟨(w.heap.size + 1), 5, none⟩ = some (.int .i64 m.r) := Hm0.out.cell 5
   have m6 : W.cell? ⟨(w.heap.size + 1), 6, none⟩ = some (.int .i64 m.y) := Hm0.out.cell 6
   have m7 : W.cell? ⟨(w.heap.size + 1), 7, none⟩ = some (.int .i64 m.a) := Hm0.out.cell 7
   have m8 : W.cell? ⟨(w.heap.size + 1), 8, none⟩ = some (.bool m.t) := Hm0.out.cell 8
   have m9 : W.cell? ⟨(w.heap.size + 1), 9, none⟩ = some (vl) := Hm0.out.cell 9
   have m10 : W.cell? ⟨(w.heap.size + 1), 10, none⟩ = some (vn) := Hm0.out.cell 10
   go_wp2_with fail
   clear a0 a1 a2 a3 m0 m1 m2 m3 m4 m5 m6 m7 m8 m9 m10
   refine HG.out.mono ?_
   rintro y9 w9 ⟨p9, c9, po9, co9, xs9, os9, vs9, rfl, hdx, hown, hb⟩
   clear HG
   have HQ := Lib.hid hdx
   have HO := Lib.hid hown
   clear hdx hown
   have Hd1 := kbq Hd0 hb
   have Hm1 := kbq Hm0 hb
   have Hr1 := kbq Hr0 hb
   have HB1 := ktq HB0 hb
   have HZ1 := kzq HZ0 hb.size
   clear Hd0 Hm0 Hr0 HB0 HZ0
   clear hb
   go_wp2_with (with_reducible refine stop_storeT 34 (.tmp 6) (.tmp 40) rfl ?_)
   have HTH : Hid (w9.there (w.heap.size + 1 + 1) 0 4) := Hr1.out.thereAt
   have hch : Hid (Chg (w.heap.size + 1 + 1) w9 (w9.setCells (w.heap.size + 1 + 1) 0 (#[.int .i64 R.1.me, .int .i64 R.1.far, .slice p9 xs9.length c9, .slice po9 os9.length co9] : Array Value).toList)) := Lib.hid (chg_putL _ _ _ _ _ (Chg.refl _ w9))
   have Hr2 : Hid (Blk (w9.setCells (w.heap.size + 1 + 1) 0 (#[.int .i64 R.1.me, .int .i64 R.1.far, .slice p9 xs9.length c9, .slice po9 os9.length co9] : Array Value).toList) (w.heap.size + 1 + 1) #[.int .i64 R.1.me, .int .i64 R.1.far, .slice p9 xs9.length c9, .slice po9 os9.length co9] 34) := Lib.hid (blk_put_all Hr1.out _ rfl)
   have HB2 : Hid (Below w.heap.size w (w9.setCells (w.heap.size + 1 + 1) 0 (#[.int .i64 R.1.me, .int .i64 R.1.far, .slice p9 xs9.length c9, .slice po9 os9.length co9] : Array Value).toList)) := Lib.hid (below_put (by omega) _ _ _ _ HB1.out)
   have HZ2 := kzq HZ1 hch.out.size
   have Hd2 := kcq Hd1 hch (by omega)
   have Hm2 := kcq Hm1 hch (by omega)
   have HQ4 := Lib.hid (HQ.out.chg hch.out (by intro h; (try dsimp only at h); have h1 := HWC.out; rcases h with h3 | h3; (have := h3.2; omega); omega))
   have HO4 := Lib.hid (HO.out.stay (fun b hb => hch.out.2 b (HO.out.lt b hb) (by have h1 := HO.out.block_ge b hb; have := HWC.out; omega)))
   clear HQ HO
   clear hch Hd1 Hm1 Hr1 HB1 HZ1
   refine wpList_store_mid rfl 34 (.tmp 6) (.tmp 40) rfl (w.heap.size + 1 + 1) 0 #[.int .i64 R.1.me, .int .i64 R.1.far, .slice p9 xs9.length c9, .slice po9 os9.length co9] rfl rfl HTH.out (infoDC rfl) (all_oneCell_toArray (by intro u hu; simp at hu; rcases hu with rfl | rfl | rfl | rfl <;> rfl)) ?_
   generalize (w9.setCells (w.heap.size + 1 + 1) 0 (#[.int .i64 R.1.me, .int .i64 R.1.far, .slice p9 xs9.length c9, .slice po9 os9.length co9] : Array Value).toList) = W9 at *
   clear HTH
   go_wp2_with fail
   have hfr := Hr2.out
   refine bodyPost_ret (v := .tuple #[.agg #[.int .i64 R.1.me, .int .i64 R.1.far, .slice p9 xs9.length c9, .slice po9 os9.length co9], vs9, .int .i64 R.2.2]) (by simp [results, Try.results9, go_sem, hfr.cell 0, hfr.cell 1, hfr.cell 2, hfr.cell 3]) rfl ⟨_, _, _, _, _, _, _, rfl, HQ4.out.imp (fun b h => by have h1 := HWC.out; rcases h with h2 | h2; exact .inl h2.1; exact .inr (by omega)), HO4.out.less (by have h1 := HWC.out; omega), HB2.out⟩
  ·skip
   have hf2 : (fro == -1) = false := by simpa using hf
   have hf3 : (fro != -1) = true := by simpa using hf
   have HA2 : Hid (nodeM d m fro = R) := Lib.hid (by rw [← HA.out]; unfold doM; rw [if_neg hf])
   clear HA hf
   have HA := HA2
   clear HA2
   go_upto_region 7 with fail
   clear hf2 hf3 m0 q0 q1 q2 q3 q4
   obtain rfl : R = (d, [], 110) := by
    rw [← HA.out]
    unfold nodeM
    rw [if_neg (by have := HKM.out; omega), if_neg (by have := HKM.out; omega), if_neg (by have := HKM.out; omega), if_neg (by have := HKM.out; omega)]
   have a0 : W.cell? ⟨w.heap.size, 0, none⟩ = some (.int .i64 d.me) := Hd0.out.cell 0
   have a1 : W.cell? ⟨w.heap.size, 1, none⟩ = some (.int .i64 d.far) := Hd0.out.cell 1
   have a2 : W.cell? ⟨w.heap.size, 2, none⟩ = some (.slice p xs.length c) := Hd0.out.cell 2
   have a3 : W.cell? ⟨w.heap.size, 3, none⟩ = some (.slice po os.length co) := Hd0.out.cell 3
   go_wp2_with (with_reducible refine stop_storeT 34 (.tmp 6) (.tmp 55) rfl ?_)
   clear a0 a1 a2 a3
   have HTH : Hid (W.there (w.heap.size + 1 + 1) 0 4) := Hr0.out.thereAt
   have hch : Hid (Chg (w.heap.size + 1 + 1) W (W.setCells (w.heap.size + 1 + 1) 0 (#[.int .i64 d.me, .int .i64 d.far, .slice p xs.length c, .slice po os.length co] : Array Value).toList)) := Lib.hid (chg_putL _ _ _ _ _ (Chg.refl _ W))
   have Hr1 : Hid (Blk (W.setCells (w.heap.size + 1 + 1) 0 (#[.int .i64 d.me, .int .i64 d.far, .slice p xs.length c, .slice po os.length co] : Array Value).toList) (w.heap.size + 1 + 1) #[.int .i64 d.me, .int .i64 d.far, .slice p xs.length c, .slice po os.length co] 34) := Lib.hid (blk_put_all Hr0.out _ rfl)
   have HB1 : Hid (Below w.heap.size w (W.setCells (w.heap.size + 1 + 1) 0 (#[.int .i64 d.me, .int .i64 d.far, .slice p xs.length c, .slice po os.length co] : Array Value).toList)) := Lib.hid (below_put (by omega) _ _ _ _ HB0.out)
   have HZ1 := kzq HZ0 hch.out.size
   have Hd1 := kcq Hd0 hch (by omega)
   have Hm1 := kcq Hm0 hch (by omega)
   clear hch Hd0 Hm0 Hr0 HB0 HZ0
   refine wpList_store_mid rfl 34 (.tmp 6) (.tmp 55) rfl (w.heap.size + 1 + 1) 0 #[.int .i64 d.me, .int .i64 d.far, .slice p xs.length c, .slice po os.length co] rfl rfl HTH.out (infoDC rfl) (all_oneCell_toArray (by intro u hu; simp at hu; rcases hu with rfl | rfl | rfl | rfl <;> rfl)) ?_
   generalize (W.setCells (w.heap.size + 1 + 1) 0 (#[.int .i64 d.me, .int .i64 d.far, .slice p xs.length c, .slice po os.length co] : Array Value).toList) = WR at *
   clear HTH
   go_wp2_with fail
   have hfr := Hr1.out
   refine bodyPost_ret (v := .tuple #[.agg #[.int .i64 d.me, .int .i64 d.far, .slice p xs.length c, .slice po os.length co], .slice none 0 0, .int .i64 110]) (by simp [results, Try.results9, go_sem, hfr.cell 0, hfr.cell 1, hfr.cell 2, hfr.cell 3]) rfl ⟨_, _, _, _, _, _, _, rfl, (HD.out.kept HB1.out).imp (fun b h => .inl h.1), OwnT.nil_ _ _ _ _, HB1.out⟩
end Go.Proofs.Ytbpfbebebppleaa
namespace Go.Proofs.Ytbpfbebebppleaa
open Go.RowKit
set_option linter.unusedSimpArgs false
theorem rowi_at {k : IntKind} {w : World} {p : Option Addr} {n c : Nat} {zs : List Int} (h : Row k w (.slice p n c) zs) (j : Nat) (hj : j < zs.length) : ∃ b o, p = some ⟨b, o, none⟩ ∧ w.cell? ⟨b, o + j, none⟩ = some (.int k (zs.getD j 0)) := by
 obtain ⟨p', c', e1, _, h⟩ := h
 cases e1
 rcases h with h | ⟨b, o, hp, h⟩
 ·subst h; simp at hj
 ·exact ⟨b, o, hp, h j hj⟩
set_option maxHeartbeats 8000000 in
set_option maxRecDepth 100000 in
theorem msame_any (m : Msg) (va vb ua ub : Value) (w : World) (ha : TRow encN w va m.ls) (hb : Row .i64 w vb m.ns) (hc : TRow encN w ua m.ls) (hd : Row .i64 w ub m.ns) (hl : m.ls.length ≤ 9000000000000000000) (hn : m.ns.length ≤ 9000000000000000000) :
  Calls Try.prog 23 #[m.v va vb, m.v ua ub] w fun e w' => e = .returned (.bool true) ∧ Below w.heap.size w w' := by
 obtain ⟨pa, ca, rfl⟩ := ha.shape
 obtain ⟨pb, cb, rfl⟩ := hb.shape
 obtain ⟨qa, da, rfl⟩ := hc.shape
 obtain ⟨qb, db, rfl⟩ := hd.shape
 have HA := Lib.hid ha
 have HB := Lib.hid hb
 have HC := Lib.hid hc
 have HD := Lib.hid hd
 clear ha hb hc hd
 generalize hll : m.ls.length = nl at *
 generalize hnl : m.ns.length = nn at *
 have HLL := Lib.hid hll
 have HNN := Lib.hid hnl
 clear hll hnl
 unfold Msg.v
 go_enter Try.func23, Try.ntmps23
 go_wp2_with fail
 have s1 : (w.alloc (.cells #[.int .i64 m.k, .int .i64 m.s, .int .i64 m.n, .int .i64 m.b, .int .i64 m.c, .int .i64 m.r, .int .i64 m.y, .int .i64 m.a, .bool m.t, .slice pa nl ca, .slice pb nn cb] 40)).heap.size = w.heap.size + 1 := by simp
 have HB2 : Hid (Below w.heap.size w ((w.alloc (.cells #[.int .i64 m.k, .int .i64 m.s, .int .i64 m.n, .int .i64 m.b, .int .i64 m.c, .int .i64 m.r, .int .i64 m.y, .int .i64 m.a, .bool m.t, .slice pa nl ca, .slice pb nn cb] 40)).alloc (.cells #[.int .i64 m.k, .int .i64 m.s, .int .i64 m.n, .int .i64 m.b, .int .i64 m.c, .int .i64 m.r, .int .i64 m.y, .int .i64 m.a, .bool m.t, .slice qa nl da, .slice qb nn db] 40))) := (oneB w _).trans ((oneB _ _).mono (by omega))
 have HK1 := Lib.hid ((Blk.new w (#[.int .i64 m.k, .int .i64 m.s, .int .i64 m.n, .int .i64 m.b, .int .i64 m.c, .int .i64 m.r, .int .i64 m.y, .int .i64 m.a, .bool m.t, .slice pa nl ca, .slice pb nn cb]) 40).alloc (.cells #[.int .i64 m.k, .int .i64 m.s, .int .i64 m.n, .int .i64 m.b, .int .i64 m.c, .int .i64 m.r, .int .i64 m.y, .int .i64 m.a, .bool m.t, .slice qa nl da, .slice qb nn db] 40))
 have HK2 : Hid (Blk ((w.alloc (.cells #[.int .i64 m.k, .int .i64 m.s, .int .i64 m.n, .int .i64 m.b, .int .i64 m.c, .int .i64 m.r, .int .i64 m.y, .int .i64 m.a, .bool m.t, .slice pa nl ca, .slice pb nn cb] 40)).alloc (.cells #[.int .i64 m.k, .int .i64 m.s, .int .i64 m.n, .int .i64 m.b, .int .i64 m.c, .int .i64 m.r, .int .i64 m.y, .int .i64 m.a, .bool m.t, .slice qa nl da, .slice qb nn db] 40)) (w.heap.size + 1) #[.int .i64 m.k, .int .i64 m.s, .int .i64 m.n, .int .i64 m.b, .int .i64 m.c, .int .i64 m.r, .int .i64 m.y, .int .i64 m.a, .bool m.t, .slice qa nl da, .slice qb nn db] 40) := by
  show Blk _ _ _ _
  rw [← s1]; exact Blk.new _ _ _
 generalize hW2 : (w.alloc (.cells #[.int .i64 m.k, .int .i64 m.s, .int .i64 m.n, .int .i64 m.b, .int .i64 m.c, .int .i64 m.r, .int .i64 m.y, .int .i64 m.a, .bool m.t, .slice pa nl ca, .slice pb nn cb] 40)).alloc (.cells #[.int .i64 m.k, .int .i64 m.s, .int .i64 m.n, .int .i64 m.b, .int .i64 m.c, .int .i64 m.r, .int .i64 m.y, .int .i64 m.a, .bool m.t, .slice qa nl da, .slice qb nn db] 40) = W2 at *
 clear hW2 s1
 generalize hg1 : w.heap.size = g1 at *
 have HG1 := Lib.hid hg1
 clear hg1
 generalize hg2 : g1 + 1 = g2 at *
 clear hg2
 go_loopw [5] (fun i wr => ∃ k : Nat, k ≤ nl ∧ i = .int .i64 k ∧ Hid (Below W2.heap.size W2 wr)) (fun i _ => nl - (intOf i).toNat)
 case atStart => exact ⟨0, by omega, rfl, Below.refl _ _⟩
 case round =>
  obtain ⟨k, hk, rfl, HW⟩ := hrel
  have a9 : wr.cell? ⟨g1, 9, none⟩ = some (.slice pa nl ca) := (HK1.out.below HW.out HK1.out.lt).cell 9
  have b9 : wr.cell? ⟨g2, 9, none⟩ = some (.slice qa nl da) := (HK2.out.below HW.out HK2.out.lt).cell 9
  by_cases hlt : k < nl
  ·have hltI : (k : Int) < (nl : Int) := by omega
   have hkl : k < m.ls.length := by rw [HLL.out]; exact hlt
   obtain ⟨b, o, rfl, hbl, hcs⟩ := ((HA.out.kept (HG1.out.symm ▸ HB2.out)).kept HW.out).at_ k hkl
   obtain ⟨b', o', rfl, hbl', hcs'⟩ := ((HC.out.kept (HG1.out.symm ▸ HB2.out)).kept HW.out).at_ k hkl
   generalize m.ls[k] = x at *
   have c0 : wr.cell? ⟨b, o + k * 4, none⟩ = some (.int .i64 x.s) := hcs 0 (by decide)
   have c1 : wr.cell? ⟨b, o + k * 4 + 1, none⟩ = some (.int .i64 x.n) := hcs 1 (by decide)
   have c2 : wr.cell? ⟨b, o + k * 4 + 2, none⟩ = some (.int .i64 x.b) := hcs 2 (by decide)
   have c3 : wr.cell? ⟨b, o + k * 4 + 3, none⟩ = some (.int .i64 x.a) := hcs 3 (by decide)
   have d0 : wr.cell? ⟨b', o' + k * 4, none⟩ = some (.int .i64 x.s) := hcs' 0 (by decide)
   have d1 : wr.cell? ⟨b', o' + k * 4 + 1, none⟩ = some (.int .i64 x.n) := hcs' 1 (by decide)
   have d2 : wr.cell? ⟨b', o' + k * 4 + 2, none⟩ = some (.int .i64 x.b) := hcs' 2 (by decide)
   have d3 : wr.cell? ⟨b', o' + k * 4 + 3, none⟩ = some (.int .i64 x.a) := hcs' 3 (by decide)
   clear hcs hcs'
   go_upto_region 6 with fail
   refine wp_region_held_drew (S := fun w' => w' = wr.drew) (by kernel_rfl) rfl (fun hS0 => ?_)
   refine wpAnyH_take (i := 0) (v := ?_) rfl (by kernel_rfl) (by kernel_rfl) (by kernel_rfl) (fun _ _ _ h => h) (Or.inl ⟨by kernel_rfl, ?_⟩) (by first | assumption | trivial) ?_
   rotate_left
   ·intro w hSw
    try dsimp only at hSw
    subst hSw
    first | (go_simp; done) | (go_simp; with_reducible rfl)
   try simp only [Act.put, List.getElem_toArray, List.getElem_cons_succ, List.getElem_cons_zero, List.setIfInBounds_toArray, List.set_cons_zero, List.set_cons_succ]
   refine wpAnyH_take (i := 1) (v := ?_) rfl (by kernel_rfl) (by kernel_rfl) (by kernel_rfl) (fun _ _ _ h => h) (Or.inl ⟨by kernel_rfl, ?_⟩) (by first | assumption | trivial) ?_
   rotate_left
   ·intro w hSw
    try dsimp only at hSw
    subst hSw
    first | (go_simp; done) | (go_simp; with_reducible rfl)
   try simp only [Act.put, List.getElem_toArray, List.getElem_cons_succ, List.getElem_cons_zero, List.setIfInBounds_toArray, List.set_cons_zero, List.set_cons_succ]
   refine wpAnyH_take (i := 2) (v := ?_) rfl (by kernel_rfl) (by kernel_rfl) (by kernel_rfl) (fun _ _ _ h => h) (Or.inl ⟨by kernel_rfl, ?_⟩) (by first | assumption | trivial) ?_
   rotate_left
   ·intro w hSw
    try dsimp only at hSw
    subst hSw
    first | (go_simp; done) | (go_simp; with_reducible rfl)
   try simp only [Act.put, List.getElem_toArray, List.getElem_cons_succ, List.getElem_cons_zero, List.setIfInBounds_toArray, List.set_cons_zero, List.set_cons_succ]
   refine wpAnyH_take (i := 3) (v := ?_) rfl (by kernel_rfl) (by kernel_rfl) (by kernel_rfl) (fun _ _ _ h => h) (Or.inl ⟨by kernel_rfl, ?_⟩) (by first | assumption | trivial) ?_
   rotate_left
   ·intro w hSw
    try dsimp only at hSw
    subst hSw
    first | (go_simp; done) | (go_simp; with_reducible rfl)
   try simp only [Act.put, List.getElem_toArray, List.getElem_cons_succ, List.getElem_cons_zero, List.setIfInBounds_toArray, List.set_cons_zero, List.set_cons_succ]
   refine wpAnyH_take (i := 4) (v := ?_) rfl (by kernel_rfl) (by kernel_rfl) (by kernel_rfl) (fun _ _ _ h => h) (Or.inl ⟨by kernel_rfl, ?_⟩) (by first | assumption | trivial) ?_
   rotate_left
   ·intro w hSw
    try dsimp only at hSw
    subst hSw
    first | (go_simp; done) | (go_simp; with_reducible rfl)
   try simp only [Act.put, List.getElem_toArray, List.getElem_cons_succ, List.getElem_cons_zero, List.setIfInBounds_toArray, List.set_cons_zero, List.set_cons_succ]
   refine wpAnyH_take (i := 5) (v := ?_) rfl (by kernel_rfl) (by kernel_rfl) (by kernel_rfl) (fun _ _ _ h => h) (Or.inl ⟨by kernel_rfl, ?_⟩) (by first | assumption | trivial) ?_
   rotate_left
   ·intro w hSw
    try dsimp only at hSw
    subst hSw
    first | (go_simp; done) | (go_simp; with_reducible rfl)
   try simp only [Act.put, List.getElem_toArray, List.getElem_cons_succ, List.getElem_cons_zero, List.setIfInBounds_toArray, List.set_cons_zero, List.set_cons_succ]
   refine wpAnyH_take (i := 6) (v := ?_) rfl (by kernel_rfl) (by kernel_rfl) (by kernel_rfl) (fun _ _ _ h => h) (Or.inl ⟨by kernel_rfl, ?_⟩) (by first | assumption | trivial) ?_
   rotate_left
   ·intro w hSw
    try dsimp only at hSw
    subst hSw
    first | (go_simp; done) | (go_simp; with_reducible rfl)
   try simp only [Act.put, List.getElem_toArray, List.getElem_cons_succ, List.getElem_cons_zero, List.setIfInBounds_toArray, List.set_cons_zero, List.set_cons_succ]
   refine wpAnyH_take (i := 7) (v := ?_) rfl (by kernel_rfl) (by kernel_rfl) (by kernel_rfl) (fun _ _ _ h => h) (Or.inl ⟨by kernel_rfl, ?_⟩) (by first | assumption | trivial) ?_
   rotate_left
   ·intro w hSw
    try dsimp only at hSw
    subst hSw
    first | (go_simp; done) | (go_simp; with_reducible rfl)
   try simp only [Act.put, List.getElem_toArray, List.getElem_cons_succ, List.getElem_cons_zero, List.setIfInBounds_toArray, List.set_cons_zero, List.set_cons_succ]
   refine wpAnyH_take (i := 8) (v := ?_) rfl (by kernel_rfl) (by kernel_rfl) (by kernel_rfl) (fun _ _ _ h => h) (Or.inl ⟨by kernel_rfl, ?_⟩) (by first | assumption | trivial) ?_
   rotate_left
   ·intro w hSw
    try dsimp only at hSw
    subst hSw
    first | (go_simp; done) | (go_simp; with_reducible rfl)
   try simp only [Act.put, List.getElem_toArray, List.getElem_cons_succ, List.getElem_cons_zero, List.setIfInBounds_toArray, List.set_cons_zero, List.set_cons_succ]
   refine wpAnyH_take (i := 9) (v := ?_) rfl (by kernel_rfl) (by kernel_rfl) (by kernel_rfl) (fun _ _ _ h => h) (Or.inl ⟨by kernel_rfl, ?_⟩) (by first | assumption | trivial) ?_
   rotate_left
   ·intro w hSw
    try dsimp only at hSw
    subst hSw
    first | (go_simp; done) | (go_simp; with_reducible rfl)
   try simp only [Act.put, List.getElem_toArray, List.getElem_cons_succ, List.getElem_cons_zero, List.setIfInBounds_toArray, List.set_cons_zero, List.set_cons_succ]
   refine wpAnyH_take (i := 10) (v := ?_) rfl (by kernel_rfl) (by kernel_rfl) (by kernel_rfl) (fun _ _ _ h => h) (Or.inl ⟨by kernel_rfl, ?_⟩) (by first | assumption | trivial) ?_
   rotate_left
   ·intro w hSw
    try dsimp only at hSw
    subst hSw
    first | (go_simp; done) | (go_simp; with_reducible rfl)
   try simp only [Act.put, List.getElem_toArray, List.getElem_cons_succ, List.getElem_cons_zero, List.setIfInBounds_toArray, List.set_cons_zero, List.set_cons_succ]
   refine wpAnyH_done (by kernel_rfl) ?_ _
   go_wp2_with fail
   go_roundw
   case rel => exact ⟨k + 1, by omega, by go_num, HW.out.drew⟩
   case measure => simp [intOf]; omega
  ·have hle : (nl : Int) ≤ (k : Int) := by omega
   have HW3 := HW
   go_wp2_with fail
   go_loopw [6] (fun i wr => ∃ k : Nat, k ≤ nn ∧ i = .int .i64 k ∧ Hid (Below W2.heap.size W2 wr)) (fun i _ => nn - (intOf i).toNat)
   case atStart => exact ⟨0, by omega, rfl, HW3.out⟩
   case round =>
    obtain ⟨j, hj, rfl, HW⟩ := hrel
    have a10 : wr.cell? ⟨g1, 10, none⟩ = some (.slice pb nn cb) := (HK1.out.below HW.out HK1.out.lt).cell 10
    have b10 : wr.cell? ⟨g2, 10, none⟩ = some (.slice qb nn db) := (HK2.out.below HW.out HK2.out.lt).cell 10
    by_cases hlt : j < nn
    ·have hltI : (j : Int) < (nn : Int) := by omega
     have hjl : j < m.ns.length := by rw [HNN.out]; exact hlt
     obtain ⟨b, o, rfl, c0⟩ := rowi_at ((HB.out.kept (HG1.out.symm ▸ HB2.out)).kept HW.out) j hjl
     obtain ⟨b', o', rfl, d0⟩ := rowi_at ((HD.out.kept (HG1.out.symm ▸ HB2.out)).kept HW.out) j hjl
     generalize m.ns.getD j 0 = z at *
     go_upto_region 11 with fail
     refine wp_region_held_drew (S := fun w' => w' = wr.drew) (by kernel_rfl) rfl (fun hS0 => ?_)
     refine wpAnyH_take (i := 0) (v := ?_) rfl (by kernel_rfl) (by kernel_rfl) (by kernel_rfl) (fun _ _ _ h => h) (Or.inl ⟨by kernel_rfl, ?_⟩) (by first | assumption | trivial) ?_
     rotate_left
     ·intro w hSw
      try dsimp only at hSw
      subst hSw
      first | (go_simp; done) | (go_simp; with_reducible rfl)
     try simp only [Act.put, List.getElem_toArray, List.getElem_cons_succ, List.getElem_cons_zero, List.setIfInBounds_toArray, List.set_cons_zero, List.set_cons_succ]
     refine wpAnyH_take (i := 1) (v := ?_) rfl (by kernel_rfl) (by kernel_rfl) (by kernel_rfl) (fun _ _ _ h => h) (Or.inl ⟨by kernel_rfl, ?_⟩) (by first | assumption | trivial) ?_
     rotate_left
     ·intro w hSw
      try dsimp only at hSw
      subst hSw
      first | (go_simp; done) | (go_simp; with_reducible rfl)
     try simp only [Act.put, List.getElem_toArray, List.getElem_cons_succ, List.getElem_cons_zero, List.setIfInBounds_toArray, List.set_cons_zero, List.set_cons_succ]
     refine wpAnyH_take (i := 2) (v := ?_) rfl (by kernel_rfl) (by kernel_rfl) (by kernel_rfl) (fun _ _ _ h => h) (Or.inl ⟨by kernel_rfl, ?_⟩) (by first | assumption | trivial) ?_
     rotate_left
     ·intro w hSw
      try dsimp only at hSw
      subst hSw
      first | (go_simp; done) | (go_simp; with_reducible rfl)
     try simp only [Act.put, List.getElem_toArray, List.getElem_cons_succ, List.getElem_cons_zero, List.setIfInBounds_toArray, List.set_cons_zero, List.set_cons_succ]
     refine wpAnyH_take (i := 3) (v := ?_) rfl (by kernel_rfl) (by kernel_rfl) (by kernel_rfl) (fun _ _ _ h => h) (Or.inl ⟨by kernel_rfl, ?_⟩) (by first | assumption | trivial) ?_
     rotate_left
     ·intro w hSw
      try dsimp only at hSw
      subst hSw
      first | (go_simp; done) | (go_simp; with_reducible rfl)
     try simp only [Act.put, List.getElem_toArray, List.getElem_cons_succ, List.getElem_cons_zero, List.setIfInBounds_toArray, List.set_cons_zero, List.set_cons_succ]
     refine wpAnyH_take (i := 4) (v := ?_) rfl (by kernel_rfl) (by kernel_rfl) (by kernel_rfl) (fun _ _ _ h => h) (Or.inl ⟨by kernel_rfl, ?_⟩) (by first | assumption | trivial) ?_
     rotate_left
     ·intro w hSw
      try dsimp only at hSw
      subst hSw
      first | (go_simp; done) | (go_simp; with_reducible rfl)
     try simp only [Act.put, List.getElem_toArray, List.getElem_cons_succ, List.getElem_cons_zero, List.setIfInBounds_toArray, List.set_cons_zero, List.set_cons_succ]
     refine wpAnyH_take (i := 5) (v := ?_) rfl (by kernel_rfl) (by kernel_rfl) (by kernel_rfl) (fun _ _ _ h => h) (Or.inl ⟨by kernel_rfl, ?_⟩) (by first | assumption | trivial) ?_
     rotate_left
     ·intro w hSw
      try dsimp only at hSw
      subst hSw
      first | (go_simp; done) | (go_simp; with_reducible rfl)
     try simp only [Act.put, List.getElem_toArray, List.getElem_cons_succ, List.getElem_cons_zero, List.setIfInBounds_toArray, List.set_cons_zero, List.set_cons_succ]
     refine wpAnyH_take (i := 6) (v := ?_) rfl (by kernel_rfl) (by kernel_rfl) (by kernel_rfl) (fun _ _ _ h => h) (Or.inl ⟨by kernel_rfl, ?_⟩) (by first | assumption | trivial) ?_
     rotate_left
     ·intro w hSw
      try dsimp only at hSw
      subst hSw
      first | (go_simp; done) | (go_simp; with_reducible rfl)
     try simp only [Act.put, List.getElem_toArray, List.getElem_cons_succ, List.getElem_cons_zero, List.setIfInBounds_toArray, List.set_cons_zero, List.set_cons_succ]
     refine wpAnyH_take (i := 7) (v := ?_) rfl (by kernel_rfl) (by kernel_rfl) (by kernel_rfl) (fun _ _ _ h => h) (Or.inl ⟨by kernel_rfl, ?_⟩) (by first | assumption | trivial) ?_
     rotate_left
     ·intro w hSw
      try dsimp only at hSw
      subst hSw
      first | (go_simp; done) | (go_simp; with_reducible rfl)
     try simp only [Act.put, List.getElem_toArray, List.getElem_cons_succ, List.getElem_cons_zero, List.setIfInBounds_toArray, List.set_cons_zero, List.set_cons_succ]
     refine wpAnyH_take (i := 8) (v := ?_) rfl (by kernel_rfl) (by kernel_rfl) (by kernel_rfl) (fun _ _ _ h => h) (Or.inl ⟨by kernel_rfl, ?_⟩) (by first | assumption | trivial) ?_
     rotate_left
     ·intro w hSw
      try dsimp only at hSw
      subst hSw
      first | (go_simp; done) | (go_simp; with_reducible rfl)
     try simp only [Act.put, List.getElem_toArray, List.getElem_cons_succ, List.getElem_cons_zero, List.setIfInBounds_toArray, List.set_cons_zero, List.set_cons_succ]
     refine wpAnyH_take (i := 9) (v := ?_) rfl (by kernel_rfl) (by kernel_rfl) (by kernel_rfl) (fun _ _ _ h => h) (Or.inl ⟨by kernel_rfl, ?_⟩) (by first | assumption | trivial) ?_
     rotate_left
     ·intro w hSw
      try dsimp only at hSw
      subst hSw
      first | (go_simp; done) | (go_simp; with_reducible rfl)
     try simp only [Act.put, List.getElem_toArray, List.getElem_cons_succ, List.getElem_cons_zero, List.setIfInBounds_toArray, List.set_cons_zero, List.set_cons_succ]
     refine wpAnyH_take (i := 10) (v := ?_) rfl (by kernel_rfl) (by kernel_rfl) (by kernel_rfl) (fun _ _ _ h => h) (Or.inl ⟨by kernel_rfl, ?_⟩) (by first | assumption | trivial) ?_
     rotate_left
     ·intro w hSw
      try dsimp only at hSw
      subst hSw
      first | (go_simp; done) | (go_simp; with_reducible rfl)
     try simp only [Act.put, List.getElem_toArray, List.getElem_cons_succ, List.getElem_cons_zero, List.setIfInBounds_toArray, List.set_cons_zero, List.set_cons_succ]
     refine wpAnyH_done (by kernel_rfl) ?_ _
     go_wp2_with fail
     go_roundw
     case rel => exact ⟨j + 1, by omega, by go_num, HW.out.drew⟩
     case measure => simp [intOf]; omega
    ·have hle : (nn : Int) ≤ (j : Int) := by omega
     go_wp2_with fail
     go_ret
     rw [HG1.out]
     exact ⟨rfl, HB2.out.trans (HW.out.mono (by have := HK1.out.lt; omega))⟩
end Go.Proofs.Ytbpfbebebppleaa
namespace Go.Proofs.Ytbpfbebebppleaa
open Go.RowKit
set_option linter.unusedSimpArgs false
/-- Something that is said, whose lists are none. -/
def Plain (z : SdX) : Prop := z.x.pl = none ∧ z.x.cl = 0 ∧ z.x.pn = none ∧ z.x.cn = 0 ∧ z.x.m.ls = [] ∧ z.x.m.ns = []
def plainL (z : SdX) : List Value := [.int .i64 z.tw, .int .i64 z.x.m.k, .int .i64 z.x.m.s, .int .i64 z.x.m.n, .int .i64 z.x.m.b, .int .i64 z.x.m.c, .int .i64 z.x.m.r, .int .i64 z.x.m.y, .int .i64 z.x.m.a, .bool z.x.m.t, .slice none 0 0, .slice none 0 0]
theorem plain_cell {z : SdX} (h : Plain z) (t : Nat) : (encS.E z)[t]? = (plainL z)[t]? := by
 have e : encS.E z = plainL z := by
  obtain ⟨T, ⟨⟨k, s, n, b, c, r, y, a, t, ls, ns⟩, pl, cl, pn, cn⟩⟩ := z
  obtain ⟨h1, h2, h3, h4, h5, h6⟩ := h
  dsimp only at h1 h2 h3 h4 h5 h6
  subst h1 h2 h3 h4 h5 h6
  rfl
 rw [e]
theorem do_plain (d : Dsk) (m : Msg) (fro : Int) : (∀ z ∈ (doM d m fro).2.1.map sdX, Plain z) ∧ (doM d m fro).2.1.length ≤ 1 := by
 have hb : ∀ (r : Itm × Int) (ks : List Int), ks.length ≤ 1 → (∀ z ∈ (d.beh r ks).2.1.map sdX, Plain z) ∧ (d.beh r ks).2.1.length ≤ 1 := by
  intro r ks hk
  unfold Dsk.beh
  split
  ·refine ⟨fun z hz => ?_, by simpa using hk⟩
   simp only [List.map_map, List.mem_map] at hz
   obtain ⟨k, _, rfl⟩ := hz
   exact ⟨rfl, rfl, rfl, rfl, rfl, rfl⟩
  ·exact ⟨fun z hz => by simp at hz, by simp⟩
 have h0 : ∀ e : Int, (∀ z ∈ (d, ([] : List (Int × Msg)), e).2.1.map sdX, Plain z) ∧ (d, ([] : List (Int × Msg)), e).2.1.length ≤ 1 := fun e => ⟨fun z hz => by simp at hz, by simp⟩
 unfold doM clientM nodeM
 split
 ·split
  ·exact hb _ _ (by simp)
  ·split
   ·exact ⟨fun z hz => by simp at hz, by simp⟩
   ·split
    ·exact hb _ _ (by simp)
    ·split
     ·exact hb _ _ (by simp)
     ·split
      ·exact hb _ _ (by simp)
      ·exact h0 _
 ·split
  ·exact hb _ _ (by unfold proK; split <;> simp)
  ·split
   ·exact hb _ _ (by simp)
   ·split
    ·exact hb _ _ (by unfold dispK; split <;> simp)
    ·split
     ·exact hb _ _ (by simp)
     ·exact h0 _
set_option linter.unusedSimpArgs false in
set_option maxHeartbeats 4000000 in
set_option maxRecDepth 100000 in
theorem told_any (w : World) (p1 p2 : Option Addr) (c1 c2 n : Nat) (L : List SdX) (h1 : TRow encS w (.slice p1 n c1) L) (h2 : TRow encS w (.slice p2 n c2) L) (hn : n = L.length) (hl : n ≤ 100) (hL : ∀ z ∈ L, Plain z) :
  Calls Try.prog 10 #[.slice p1 n c1, .slice p2 n c2] w fun e w' => e = .returned (.bool true) ∧ Below w.heap.size w w' := by
 have H1 := Lib.hid h1
 have H2 := Lib.hid h2
 have HL := Lib.hid hL
 have HN : Hid (L.length = n ∧ n ≤ 100) := Lib.hid ⟨hn.symm, hl⟩
 have hl9 : n ≤ 100 := hl
 clear h1 h2 hL hn hl
 go_enter Try.func10, Try.ntmps10
 have hnn : ((n : Int) != (n : Int)) = false := by simp
 go_upto_region 3 with fail
 clear hnn
 have HREL : Hid (Below w.heap.size w w) := Lib.hid (Below.refl _ _)
 go_wp2_with fail
 go_loopw [13] (fun i wr => ∃ q : Nat, q ≤ n ∧ i = .int .i64 q ∧ Hid (Below w.heap.size w wr)) (fun i _ => n - (intOf i).toNat)
 case atStart => exact ⟨0, by omega, rfl, HREL⟩
 case round =>
  clear HREL
  obtain ⟨q, hq, rfl, HK⟩ := hrel
  have hq9 : q + 1 ≤ 101 := by omega
  have HB1 := HK
  have HZ1 : Hid (w.heap.size ≤ wr.heap.size) := Lib.hid HK.out.size
  clear HK
  by_cases hlq : q < n
  ·skip
   have hlqI : (q : Int) < (n : Int) := by omega
   have hqL : q < L.length := by rw [HN.out.1]; exact hlq
   have HQL := Lib.hid hqL
   obtain ⟨b1, o1, hp1, hb1, hc1⟩ := H1.out.at_ q hqL
   obtain ⟨b2, o2, hp2, hb2, hc2⟩ := H2.out.at_ q hqL
   subst hp1
   subst hp2
   obtain ⟨z, hz⟩ : ∃ z, L[q] = z := ⟨_, rfl⟩
   have HPL : Hid (Plain z) := Lib.hid (by rw [← hz]; exact HL.out _ (List.getElem_mem ..))
   have HZQ := Lib.hid hz
   have HLQ := Lib.hid hlq
   clear hz hb1 hb2 hc1 hc2
   have htt : (z.tw != z.tw) = false := by simp
   go_upto_region 6 with fail
   have hbd := (Below.refl wr.heap.size wr).drew
   have HB2 := ktq HB1 hbd
   have HZ2 := kzq HZ1 hbd.size
   clear HB1 HZ1
   refine wp_region_held_drew (S := fun w' => w'.cell? ⟨b1, o1 + q * 12, none⟩ = some (.int .i64 z.tw) ∧ w'.cell? ⟨b1, o1 + q * 12 + 1, none⟩ = some (.int .i64 z.x.m.k) ∧ w'.cell? ⟨b1, o1 + q * 12 + 2, none⟩ = some (.int .i64 z.x.m.s) ∧ w'.cell? ⟨b1, o1 + q * 12 + 3, none⟩ = some (.int .i64 z.x.m.n) ∧ w'.cell? ⟨b1, o1 + q * 12 + 4, none⟩ = some (.int .i64 z.x.m.b) ∧ w'.cell? ⟨b1, o1 + q * 12 + 5, none⟩ = some (.int .i64 z.x.m.c) ∧ w'.cell? ⟨b1, o1 + q * 12 + 6, none⟩ = some (.int .i64 z.x.m.r) ∧ w'.cell? ⟨b1, o1 + q * 12 + 7, none⟩ = some (.int .i64 z.x.m.y) ∧ w'.cell? ⟨b1, o1 + q * 12 + 8, none⟩ = some (.int .i64 z.x.m.a) ∧ w'.cell? ⟨b1, o1 + q * 12 + 9, none⟩ = some (.bool z.x.m.t) ∧ w'.cell? ⟨b1, o1 + q * 12 + 10, none⟩ = some (.slice none 0 0) ∧ w'.cell? ⟨b1, o1 + q * 12 + 11, none⟩ = some (.slice none 0 0) ∧ w'.cell? ⟨b2, o2 + q * 12, none⟩ = some (.int .i64 z.tw) ∧ w'.cell? ⟨b2, o2 + q * 12 + 1, none⟩ = some (.int .i64 z.x.m.k) ∧ w'.cell? ⟨b2, o2 + q * 12 + 2, none⟩ = some (.int .i64 z.x.m.s) ∧ w'.cell? ⟨b2, o2 + q * 12 + 3, none⟩ = some (.int .i64 z.x.m.n) ∧ w'.cell? ⟨b2, o2 + q * 12 + 4, none⟩ = some (.int .i64 z.x.m.b) ∧ w'.cell? ⟨b2, o2 + q * 12 + 5, none⟩ = some (.int .i64 z.x.m.c) ∧ w'.cell? ⟨b2, o2 + q * 12 + 6, none⟩ = some (.int .i64 z.x.m.r) ∧ w'.cell? ⟨b2, o2 + q * 12 + 7, none⟩ = some (.int .i64 z.x.m.y) ∧ w'.cell? ⟨b2, o2 + q * 12 + 8, none⟩ = some (.int .i64 z.x.m.a) ∧ w'.cell? ⟨b2, o2 + q * 12 + 9, none⟩ = some (.bool z.x.m.t) ∧ w'.cell? ⟨b2, o2 + q * 12 + 10, none⟩ = some (.slice none 0 0) ∧ w'.cell? ⟨b2, o2 + q * 12 + 11, none⟩ = some (.slice none 0 0)) (by kernel_rfl) ⟨((trow_cell (H1.out.kept HB2.out) q HQL.out HZQ.out 0 (by decide)).trans (plain_cell HPL.out 0)), ((trow_cell (H1.out.kept HB2.out) q HQL.out HZQ.out 1 (by decide)).trans (plain_cell HPL.out 1)), ((trow_cell (H1.out.kept HB2.out) q HQL.out HZQ.out 2 (by decide)).trans (plain_cell HPL.out 2)), ((trow_cell (H1.out.kept HB2.out) q HQL.out HZQ.out 3 (by decide)).trans (plain_cell HPL.out 3)), ((trow_cell (H1.out.kept HB2.out) q HQL.out HZQ.out 4 (by decide)).trans (plain_cell HPL.out 4)), ((trow_cell (H1.out.kept HB2.out) q HQL.out HZQ.out 5 (by decide)).trans (plain_cell HPL.out 5)), ((trow_cell (H1.out.kept HB2.out) q HQL.out HZQ.out 6 (by decide)).trans (plain_cell HPL.out 6)), ((trow_cell (H1.out.kept HB2.out) q HQL.out HZQ.out 7 (by decide)).trans (plain_cell HPL.out 7)), ((trow_cell (H1.out.kept HB2.out) q HQL.out HZQ.out 8 (by decide)).trans (plain_cell HPL.out 8)), ((trow_cell (H1.out.kept HB2.out) q HQL.out HZQ.out 9 (by decide)).trans (plain_cell HPL.out 9)), ((trow_cell (H1.out.kept HB2.out) q HQL.out HZQ.out 10 (by decide)).trans (plain_cell HPL.out 10)), ((trow_cell (H1.out.kept HB2.out) q HQL.out HZQ.out 11 (by decide)).trans (plain_cell HPL.out 11)), ((trow_cell (H2.out.kept HB2.out) q HQL.out HZQ.out 0 (by decide)).trans (plain_cell HPL.out 0)), ((trow_cell (H2.out.kept HB2.out) q HQL.out HZQ.out 1 (by decide)).trans (plain_cell HPL.out 1)), ((trow_cell (H2.out.kept HB2.out) q HQL.out HZQ.out 2 (by decide)).trans (plain_cell HPL.out 2)), ((trow_cell (H2.out.kept HB2.out) q HQL.out HZQ.out 3 (by decide)).trans (plain_cell HPL.out 3)), ((trow_cell (H2.out.kept HB2.out) q HQL.out HZQ.out 4 (by decide)).trans (plain_cell HPL.out 4)), ((trow_cell (H2.out.kept HB2.out) q HQL.out HZQ.out 5 (by decide)).trans (plain_cell HPL.out 5)), ((trow_cell (H2.out.kept HB2.out) q HQL.out HZQ.out 6 (by decide)).trans (plain_cell HPL.out 6)), ((trow_cell (H2.out.kept HB2.out) q HQL.out HZQ.out 7 (by decide)).trans (plain_cell HPL.out 7)), ((trow_cell (H2.out.kept HB2.out) q HQL.out HZQ.out 8 (by decide)).trans (plain_cell HPL.out 8)), ((trow_cell (H2.out.kept HB2.out) q HQL.out HZQ.out 9 (by decide)).trans (plain_cell HPL.out 9)), ((trow_cell (H2.out.kept HB2.out) q HQL.out HZQ.out 10 (by decide)).trans (plain_cell HPL.out 10)), ((trow_cell (H2.out.kept HB2.out) q HQL.out HZQ.out 11 (by decide)).trans (plain_cell HPL.out 11))⟩ (fun hS0 => ?_)
   generalize wr.drew = WD at *
   clear hbd
   refine tkq 0 ?_
   refine tkq 1 ?_
   refine tkq 2 ?_
   refine tkq 3 ?_
   refine tkq 4 ?_
   refine tkq 5 ?_
   refine tkq 6 ?_
   refine tkq 7 ?_
   refine tkq 8 ?_
   refine tkq 9 ?_
   refine tkq 10 ?_
   refine tkq 11 ?_
   refine tkq 12 ?_
   refine tkq 13 ?_
   refine tkq 14 ?_
   refine tkq 15 ?_
   refine tkq 16 ?_
   refine tkq 17 ?_
   refine tkq 18 ?_
   refine tkq 19 ?_
   refine tkq 20 ?_
   refine tkq 21 ?_
   refine rdq 22 (fun K hK => ?_)
   have HG := Lib.hid (msame_any z.x.m (.slice none 0 0) (.slice none 0 0) (.slice none 0 0) (.slice none 0 0) WD (by rw [HPL.out.2.2.2.2.1]; exact TRow.nil_ _ _) (by rw [HPL.out.2.2.2.2.2]; exact Row.nil_ _ _ 0) (by rw [HPL.out.2.2.2.2.1]; exact TRow.nil_ _ _) (by rw [HPL.out.2.2.2.2.2]; exact Row.nil_ _ _ 0) (by rw [HPL.out.2.2.2.2.1]; decide) (by rw [HPL.out.2.2.2.2.2]; decide))
   unfold Msg.v at HG
   go_simp
   go_at_call 23
   refine HG.out.mono ?_
   rintro y9 w9 ⟨rfl, hb⟩
   clear HG
   have HB3 := ktq HB2 hb
   have HZ3 := kzq HZ2 hb.size
   clear HB2 HZ2
   clear hb hS0
   try go_wp2_with fail
   refine hK.out _ _ ⟨((trow_cell (H1.out.kept HB3.out) q HQL.out HZQ.out 0 (by decide)).trans (plain_cell HPL.out 0)), ((trow_cell (H1.out.kept HB3.out) q HQL.out HZQ.out 1 (by decide)).trans (plain_cell HPL.out 1)), ((trow_cell (H1.out.kept HB3.out) q HQL.out HZQ.out 2 (by decide)).trans (plain_cell HPL.out 2)), ((trow_cell (H1.out.kept HB3.out) q HQL.out HZQ.out 3 (by decide)).trans (plain_cell HPL.out 3)), ((trow_cell (H1.out.kept HB3.out) q HQL.out HZQ.out 4 (by decide)).trans (plain_cell HPL.out 4)), ((trow_cell (H1.out.kept HB3.out) q HQL.out HZQ.out 5 (by decide)).trans (plain_cell HPL.out 5)), ((trow_cell (H1.out.kept HB3.out) q HQL.out HZQ.out 6 (by decide)).trans (plain_cell HPL.out 6)), ((trow_cell (H1.out.kept HB3.out) q HQL.out HZQ.out 7 (by decide)).trans (plain_cell HPL.out 7)), ((trow_cell (H1.out.kept HB3.out) q HQL.out HZQ.out 8 (by decide)).trans (plain_cell HPL.out 8)), ((trow_cell (H1.out.kept HB3.out) q HQL.out HZQ.out 9 (by decide)).trans (plain_cell HPL.out 9)), ((trow_cell (H1.out.kept HB3.out) q HQL.out HZQ.out 10 (by decide)).trans (plain_cell HPL.out 10)), ((trow_cell (H1.out.kept HB3.out) q HQL.out HZQ.out 11 (by decide)).trans (plain_cell HPL.out 11)), ((trow_cell (H2.out.kept HB3.out) q HQL.out HZQ.out 0 (by decide)).trans (plain_cell HPL.out 0)), ((trow_cell (H2.out.kept HB3.out) q HQL.out HZQ.out 1 (by decide)).trans (plain_cell HPL.out 1)), ((trow_cell (H2.out.kept HB3.out) q HQL.out HZQ.out 2 (by decide)).trans (plain_cell HPL.out 2)), ((trow_cell (H2.out.kept HB3.out) q HQL.out HZQ.out 3 (by decide)).trans (plain_cell HPL.out 3)), ((trow_cell (H2.out.kept HB3.out) q HQL.out HZQ.out 4 (by decide)).trans (plain_cell HPL.out 4)), ((trow_cell (H2.out.kept HB3.out) q HQL.out HZQ.out 5 (by decide)).trans (plain_cell HPL.out 5)), ((trow_cell (H2.out.kept HB3.out) q HQL.out HZQ.out 6 (by decide)).trans (plain_cell HPL.out 6)), ((trow_cell (H2.out.kept HB3.out) q HQL.out HZQ.out 7 (by decide)).trans (plain_cell HPL.out 7)), ((trow_cell (H2.out.kept HB3.out) q HQL.out HZQ.out 8 (by decide)).trans (plain_cell HPL.out 8)), ((trow_cell (H2.out.kept HB3.out) q HQL.out HZQ.out 9 (by decide)).trans (plain_cell HPL.out 9)), ((trow_cell (H2.out.kept HB3.out) q HQL.out HZQ.out 10 (by decide)).trans (plain_cell HPL.out 10)), ((trow_cell (H2.out.kept HB3.out) q HQL.out HZQ.out 11 (by decide)).trans (plain_cell HPL.out 11))⟩ (fun hS0 => ?_)
   clear hK K
   try simp only [Act.put, List.getElem_toArray, List.getElem_cons_succ, List.getElem_cons_zero, List.setIfInBounds_toArray, List.set_cons_zero, List.set_cons_succ]
   refine tkq 23 ?_
   refine tkq 24 ?_
   refine wpAnyH_done (by kernel_rfl) ?_ _
   clear hS0
   clear htt hlqI hlq
   go_wp2_with fail
   go_roundw
   case rel => exact ⟨q + 1, by have := HLQ.out; omega, by go_num, HB3⟩
   case measure => have := HLQ.out; simp [intOf]; omega
  ·have hlqI : ¬ (q : Int) < (n : Int) := by omega
   go_wp2_with fail
   go_ret
   exact ⟨rfl, HB1.out⟩
set_option linter.unusedSimpArgs false in
set_option maxHeartbeats 4000000 in
set_option maxRecDepth 100000 in
theorem mlike_any (w : World) (Q R : Nat → Prop) (d : Dsk) (pi po pq pr : Option Addr) (ci co cq cr : Nat) (xs : List Itm) (os : List Ord) (hk : DkR Q w d pi ci po co) (hd : DdX R w pq cq pr cr xs os d) :
  Calls Try.prog 11 #[.agg #[.int .i64 d.me, .slice pi d.xs.length ci, .slice po d.os.length co, .int .i64 d.far], .agg #[.int .i64 d.me, .int .i64 d.far, .slice pq xs.length cq, .slice pr os.length cr]] w fun e w' => e = .returned (.bool true) ∧ Below w.heap.size w w' := by
 have HK := Lib.hid hk
 have HD := Lib.hid hd
 have HLN : Hid (xs.length = d.xs.length ∧ os.length = d.os.length ∧ xs.length ≤ 1024 ∧ os.length ≤ 1024) := Lib.hid ⟨hd.px.length_eq, hd.po.length_eq, by rw [hd.px.length_eq]; exact hk.row.nx, by rw [hd.po.length_eq]; exact hk.row.no⟩
 clear hk hd
 have HB0 : Hid (Below w.heap.size w ((w.alloc (.cells #[.int .i64 d.me, .slice pi d.xs.length ci, .slice po d.os.length co, .int .i64 d.far] 29)).alloc (.cells #[.int .i64 d.me, .int .i64 d.far, .slice pq xs.length cq, .slice pr os.length cr] 34))) := Lib.hid (((oneB w _).alloc (by simp <;> omega) _))
 have Hd0 : Hid (Blk ((w.alloc (.cells #[.int .i64 d.me, .slice pi d.xs.length ci, .slice po d.os.length co, .int .i64 d.far] 29)).alloc (.cells #[.int .i64 d.me, .int .i64 d.far, .slice pq xs.length cq, .slice pr os.length cr] 34)) w.heap.size #[.int .i64 d.me, .slice pi d.xs.length ci, .slice po d.os.length co, .int .i64 d.far] 29) := Lib.hid ((Blk.new w #[.int .i64 d.me, .slice pi d.xs.length ci, .slice po d.os.length co, .int .i64 d.far] 29).alloc _)
 have Hm0 : Hid (Blk ((w.alloc (.cells #[.int .i64 d.me, .slice pi d.xs.length ci, .slice po d.os.length co, .int .i64 d.far] 29)).alloc (.cells #[.int .i64 d.me, .int .i64 d.far, .slice pq xs.length cq, .slice pr os.length cr] 34)) (w.heap.size + 1) #[.int .i64 d.me, .int .i64 d.far, .slice pq xs.length cq, .slice pr os.length cr] 34) := Lib.hid (Blk.new' (w.alloc (.cells #[.int .i64 d.me, .slice pi d.xs.length ci, .slice po d.os.length co, .int .i64 d.far] 29)) #[.int .i64 d.me, .int .i64 d.far, .slice pq xs.length cq, .slice pr os.length cr] 34 (by simp))
 have HZ0 : Hid (w.heap.size ≤ ((w.alloc (.cells #[.int .i64 d.me, .slice pi d.xs.length ci, .slice po d.os.length co, .int .i64 d.far] 29)).alloc (.cells #[.int .i64 d.me, .int .i64 d.far, .slice pq xs.length cq, .slice pr os.length cr] 34)).heap.size) := Lib.hid HB0.out.size
 go_enter Try.func11, Try.ntmps11
 go_upto_region 1 with fail
 generalize ((w.alloc (.cells #[.int .i64 d.me, .slice pi d.xs.length ci, .slice po d.os.length co, .int .i64 d.far] 29)).alloc (.cells #[.int .i64 d.me, .int .i64 d.far, .slice pq xs.length cq, .slice pr os.length cr] 34)) = W at *
 have hme : (d.me != d.me) = false := by simp
 have hfa : (d.far != d.far) = false := by simp
 have hx1 : ((d.xs.length : Int) != (xs.length : Int)) = false := by rw [HLN.out.1]; simp
 have ho1 : ((d.os.length : Int) != (os.length : Int)) = false := by rw [HLN.out.2.1]; simp
 have a0 : W.cell? ⟨w.heap.size, 0, none⟩ = some (.int .i64 d.me) := Hd0.out.cell 0
 have a1 : W.cell? ⟨w.heap.size, 1, none⟩ = some (.slice pi d.xs.length ci) := Hd0.out.cell 1
 have a2 : W.cell? ⟨w.heap.size, 2, none⟩ = some (.slice po d.os.length co) := Hd0.out.cell 2
 have a3 : W.cell? ⟨w.heap.size, 3, none⟩ = some (.int .i64 d.far) := Hd0.out.cell 3
 have m0 : W.cell? ⟨(w.heap.size + 1), 0, none⟩ = some (.int .i64 d.me) := Hm0.out.cell 0
 have m1 : W.cell? ⟨(w.heap.size + 1), 1, none⟩ = some (.int .i64 d.far) := Hm0.out.cell 1
 have m2 : W.cell? ⟨(w.heap.size + 1), 2, none⟩ = some (.slice pq xs.length cq) := Hm0.out.cell 2
 have m3 : W.cell? ⟨(w.heap.size + 1), 3, none⟩ = some (.slice pr os.length cr) := Hm0.out.cell 3
 go_upto_region 3 with fail
 clear hme hfa hx1 ho1 a0 a1 a2 a3
 have HREL : Hid (Below W.heap.size W W) := Lib.hid (Below.refl _ _)
 have hxb : xs.length + 1 ≤ 1025 := by have := HLN.out; omega
 have hob : os.length + 1 ≤ 1025 := by have := HLN.out; omega
 go_wp2_with fail
 clear m0 m1 m2 m3
 go_loopw [49] (fun i wr => ∃ k : Nat, k ≤ xs.length ∧ i = .int .i64 k ∧ Hid (Below W.heap.size W wr)) (fun i _ => xs.length - (intOf i).toNat)
 case atStart => exact ⟨0, by omega, rfl, HREL⟩
 case round =>
  clear HREL
  obtain ⟨k, hk, rfl, HQ⟩ := hrel
  have hbk := HQ.out
  have Hd1 := kbq Hd0 hbk
  have Hm1 := kbq Hm0 hbk
  have HB1 := ktq HB0 hbk
  have HZ1 := kzq HZ0 hbk.size
  clear Hd0 Hm0 HB0 HZ0
  clear hbk
  by_cases hlt : k < xs.length
  ·skip
   have hltI : (k : Int) < (xs.length : Int) := by omega
   have HLT := Lib.hid hlt
   obtain ⟨q, hq⟩ : ∃ q, xs[k] = q := ⟨_, rfl⟩
   have HQK := Lib.hid hq
   obtain ⟨b1, o1, hp1, hb1, hc1⟩ := (HD.out.kept HB1.out).row.at_ k hlt
   subst hp1
   have HFQ : Hid (findX d.xs q.s q.n = some q) := Lib.hid (by
    refine (mp_find (f := posI) (mp_ne HK.out.row.sx) q.s q.n q).2 ⟨?_, rfl, rfl⟩
    rw [← hq]
    exact HD.out.px.mem_iff.1 (List.getElem_mem ..))
   clear hq hb1 hc1
   have c0 : wr.cell? ⟨b1, o1 + k * 8, none⟩ = some (.int .i64 q.s) := trow_cell (HD.out.kept HB1.out).row k HLT.out HQK.out 0 (by decide)
   have c1 : wr.cell? ⟨b1, o1 + k * 8 + 1, none⟩ = some (.int .i64 q.n) := trow_cell (HD.out.kept HB1.out).row k HLT.out HQK.out 1 (by decide)
   have c2 : wr.cell? ⟨b1, o1 + k * 8 + 2, none⟩ = some (.int .i64 q.b) := trow_cell (HD.out.kept HB1.out).row k HLT.out HQK.out 2 (by decide)
   have c3 : wr.cell? ⟨b1, o1 + k * 8 + 3, none⟩ = some (.int .i64 q.c) := trow_cell (HD.out.kept HB1.out).row k HLT.out HQK.out 3 (by decide)
   have c4 : wr.cell? ⟨b1, o1 + k * 8 + 4, none⟩ = some (.int .i64 q.a) := trow_cell (HD.out.kept HB1.out).row k HLT.out HQK.out 4 (by decide)
   have c5 : wr.cell? ⟨b1, o1 + k * 8 + 5, none⟩ = some (.int .i64 q.r) := trow_cell (HD.out.kept HB1.out).row k HLT.out HQK.out 5 (by decide)
   have c6 : wr.cell? ⟨b1, o1 + k * 8 + 6, none⟩ = some (.int .i64 q.t) := trow_cell (HD.out.kept HB1.out).row k HLT.out HQK.out 6 (by decide)
   have c7 : wr.cell? ⟨b1, o1 + k * 8 + 7, none⟩ = some (.int .i64 q.y) := trow_cell (HD.out.kept HB1.out).row k HLT.out HQK.out 7 (by decide)
   have HBW4 : Hid (Below W.heap.size W (wr.alloc (.cells #[.int .i64 q.s, .int .i64 q.n, .int .i64 q.b, .int .i64 q.c, .int .i64 q.a, .int .i64 q.r, .int .i64 q.t, .int .i64 q.y] 64))) := Lib.hid (HQ.out.alloc HQ.out.size _)
   have hba := oneB wr (.cells #[.int .i64 q.s, .int .i64 q.n, .int .i64 q.b, .int .i64 q.c, .int .i64 q.a, .int .i64 q.r, .int .i64 q.t, .int .i64 q.y] 64)
   have Hd2 := kbq Hd1 hba
   have Hm2 := kbq Hm1 hba
   have Hx2 := Lib.hid (Blk.new wr #[.int .i64 q.s, .int .i64 q.n, .int .i64 q.b, .int .i64 q.c, .int .i64 q.a, .int .i64 q.r, .int .i64 q.t, .int .i64 q.y] 64)
   have HB2 := Lib.hid (HB1.out.alloc HB1.out.size (.cells #[.int .i64 q.s, .int .i64 q.n, .int .i64 q.b, .int .i64 q.c, .int .i64 q.a, .int .i64 q.r, .int .i64 q.t, .int .i64 q.y] 64))
   have HZ2 := kzq HZ1 hba.size
   have HGgx : Hid (w.heap.size ≤ wr.heap.size) := Lib.hid HB1.out.size
   clear hba Hd1 Hm1 HB1 HZ1
   go_upto_region 6 with fail
   clear c0 c1 c2 c3 c4 c5 c6 c7 hltI
   generalize (wr.alloc (.cells #[.int .i64 q.s, .int .i64 q.n, .int .i64 q.b, .int .i64 q.c, .int .i64 q.a, .int .i64 q.r, .int .i64 q.t, .int .i64 q.y] 64)) = W4 at *
   generalize hggx : wr.heap.size = gx at *
   clear hggx
   have HG := Lib.hid (dget_any W4 d.me pi po d.xs.length ci d.os.length co q.s q.n d.xs (HK.out.row.items.kept HB2.out) rfl HK.out.row.sx (by have := HK.out.row.nx; omega))
   rw [HFQ.out] at HG
   unfold bookV idV at HG
   simp only [Option.getD_some, Option.isSome_some] at HG
   unfold Itm.v at HG
   have a0 : W4.cell? ⟨w.heap.size, 0, none⟩ = some (.int .i64 d.me) := Hd2.out.cell 0
   have a1 : W4.cell? ⟨w.heap.size, 1, none⟩ = some (.slice pi d.xs.length ci) := Hd2.out.cell 1
   have a2 : W4.cell? ⟨w.heap.size, 2, none⟩ = some (.slice po d.os.length co) := Hd2.out.cell 2
   have x0 : W4.cell? ⟨gx, 0, none⟩ = some (.int .i64 q.s) := Hx2.out.cell 0
   have x1 : W4.cell? ⟨gx, 1, none⟩ = some (.int .i64 q.n) := Hx2.out.cell 1
   go_wp2_with fail
   clear a0 a1 a2 x0 x1
   refine HG.out.mono ?_
   rintro y9 w5 ⟨rfl, hb⟩
   clear HG
   have HBW5 := ktq HBW4 hb
   have Hd3 := kbq Hd2 hb
   have Hm3 := kbq Hm2 hb
   have Hx3 := kbq Hx2 hb
   have HB3 := ktq HB2 hb
   have HZ3 := kzq HZ2 hb.size
   clear Hd2 Hm2 Hx2 HB2 HZ2
   clear hb
   have HBW6 : Hid (Below W.heap.size W (w5.alloc (.cells #[.int .i64 q.s, .int .i64 q.n, .int .i64 q.b, .int .i64 q.c, .int .i64 q.a, .int .i64 q.r, .int .i64 q.t, .int .i64 q.y] 64))) := Lib.hid (HBW5.out.alloc HBW5.out.size _)
   have hba := oneB w5 (.cells #[.int .i64 q.s, .int .i64 q.n, .int .i64 q.b, .int .i64 q.c, .int .i64 q.a, .int .i64 q.r, .int .i64 q.t, .int .i64 q.y] 64)
   have Hd4 := kbq Hd3 hba
   have Hm4 := kbq Hm3 hba
   have Hx4 := kbq Hx3 hba
   have Hy4 := Lib.hid (Blk.new w5 #[.int .i64 q.s, .int .i64 q.n, .int .i64 q.b, .int .i64 q.c, .int .i64 q.a, .int .i64 q.r, .int .i64 q.t, .int .i64 q.y] 64)
   have HB4 := Lib.hid (HB3.out.alloc HB3.out.size (.cells #[.int .i64 q.s, .int .i64 q.n, .int .i64 q.b, .int .i64 q.c, .int .i64 q.a, .int .i64 q.r, .int .i64 q.t, .int .i64 q.y] 64))
   have HZ4 := kzq HZ3 hba.size
   have HGgy : Hid (w.heap.size ≤ w5.heap.size) := Lib.hid HB3.out.size
   clear hba Hd3 Hm3 Hx3 HB3 HZ3
   go_upto_region 7 with fail
   generalize (w5.alloc (.cells #[.int .i64 q.s, .int .i64 q.n, .int .i64 q.b, .int .i64 q.c, .int .i64 q.a, .int .i64 q.r, .int .i64 q.t, .int .i64 q.y] 64)) = W6 at *
   generalize hggy : w5.heap.size = gy at *
   clear hggy
   have keq := fun (w : World) => item_eq q q w
   rw [itmEq_iff.2 rfl] at keq
   have x0 : W6.cell? ⟨gx, 0, none⟩ = some (.int .i64 q.s) := Hx4.out.cell 0
   have x1 : W6.cell? ⟨gx, 1, none⟩ = some (.int .i64 q.n) := Hx4.out.cell 1
   have x2 : W6.cell? ⟨gx, 2, none⟩ = some (.int .i64 q.b) := Hx4.out.cell 2
   have x3 : W6.cell? ⟨gx, 3, none⟩ = some (.int .i64 q.c) := Hx4.out.cell 3
   have x4 : W6.cell? ⟨gx, 4, none⟩ = some (.int .i64 q.a) := Hx4.out.cell 4
   have x5 : W6.cell? ⟨gx, 5, none⟩ = some (.int .i64 q.r) := Hx4.out.cell 5
   have x6 : W6.cell? ⟨gx, 6, none⟩ = some (.int .i64 q.t) := Hx4.out.cell 6
   have x7 : W6.cell? ⟨gx, 7, none⟩ = some (.int .i64 q.y) := Hx4.out.cell 7
   have y0 : W6.cell? ⟨gy, 0, none⟩ = some (.int .i64 q.s) := Hy4.out.cell 0
   have y1 : W6.cell? ⟨gy, 1, none⟩ = some (.int .i64 q.n) := Hy4.out.cell 1
   have y2 : W6.cell? ⟨gy, 2, none⟩ = some (.int .i64 q.b) := Hy4.out.cell 2
   have y3 : W6.cell? ⟨gy, 3, none⟩ = some (.int .i64 q.c) := Hy4.out.cell 3
   have y4 : W6.cell? ⟨gy, 4, none⟩ = some (.int .i64 q.a) := Hy4.out.cell 4
   have y5 : W6.cell? ⟨gy, 5, none⟩ = some (.int .i64 q.r) := Hy4.out.cell 5
   have y6 : W6.cell? ⟨gy, 6, none⟩ = some (.int .i64 q.t) := Hy4.out.cell 6
   have y7 : W6.cell? ⟨gy, 7, none⟩ = some (.int .i64 q.y) := Hy4.out.cell 7
   go_wp2_with fail
   clear x0 x1 x2 x3 x4 x5 x6 x7 y0 y1 y2 y3 y4 y5 y6 y7 keq
   go_roundw
   case rel => exact ⟨k + 1, by have := HLT.out; omega, by go_num, HBW6⟩
   case measure => have := HLT.out; simp [intOf]; omega
  ·skip
   have hltI : ¬ (k : Int) < (xs.length : Int) := by omega
   clear hk hlt
   have m3 : wr.cell? ⟨(w.heap.size + 1), 3, none⟩ = some (.slice pr os.length cr) := Hm1.out.cell 3
   go_upto_region 10 with fail
   clear hltI
   generalize wr = V at *
   have HREL : Hid (Below V.heap.size V V) := Lib.hid (Below.refl _ _)
   go_wp2_with fail
   clear m3
   go_loopw [72] (fun i wr => ∃ k : Nat, k ≤ os.length ∧ i = .int .i64 k ∧ Hid (Below V.heap.size V wr)) (fun i _ => os.length - (intOf i).toNat)
   case atStart => exact ⟨0, by omega, rfl, HREL⟩
   case round =>
    clear HREL HQ
    obtain ⟨k, hk, rfl, HQ⟩ := hrel
    have hbk := HQ.out
    have Hd2 := kbq Hd1 hbk
    have Hm2 := kbq Hm1 hbk
    have HB2 := ktq HB1 hbk
    have HZ2 := kzq HZ1 hbk.size
    clear Hd1 Hm1 HB1 HZ1
    clear hbk
    by_cases hlt : k < os.length
    ·skip
     have hltI : (k : Int) < (os.length : Int) := by omega
     have HLT := Lib.hid hlt
     obtain ⟨q, hq⟩ : ∃ q, os[k] = q := ⟨_, rfl⟩
     have HQK := Lib.hid hq
     obtain ⟨b1, o1, hp1, hb1, hc1⟩ := (HD.out.kept HB2.out).rowo.at_ k hlt
     subst hp1
     have HFQ : Hid (findO d.os q.s q.n = some q) := Lib.hid (by
      refine (mp_find (f := posO) (mp_ne HK.out.row.so) q.s q.n q).2 ⟨?_, rfl, rfl⟩
      rw [← hq]
      exact HD.out.po.mem_iff.1 (List.getElem_mem ..))
     clear hq hb1 hc1
     have c0 : wr.cell? ⟨b1, o1 + k * 3, none⟩ = some (.int .i64 q.s) := trow_cell (HD.out.kept HB2.out).rowo k HLT.out HQK.out 0 (by decide)
     have c1 : wr.cell? ⟨b1, o1 + k * 3 + 1, none⟩ = some (.int .i64 q.n) := trow_cell (HD.out.kept HB2.out).rowo k HLT.out HQK.out 1 (by decide)
     have c2 : wr.cell? ⟨b1, o1 + k * 3 + 2, none⟩ = some (.int .i64 q.a) := trow_cell (HD.out.kept HB2.out).rowo k HLT.out HQK.out 2 (by decide)
     have HBW4 : Hid (Below V.heap.size V (wr.alloc (.cells #[.int .i64 q.s, .int .i64 q.n, .int .i64 q.a] 78))) := Lib.hid (HQ.out.alloc HQ.out.size _)
     have hba := oneB wr (.cells #[.int .i64 q.s, .int .i64 q.n, .int .i64 q.a] 78)
     have Hd3 := kbq Hd2 hba
     have Hm3 := kbq Hm2 hba
     have Hx3 := Lib.hid (Blk.new wr #[.int .i64 q.s, .int .i64 q.n, .int .i64 q.a] 78)
     have HB3 := Lib.hid (HB2.out.alloc HB2.out.size (.cells #[.int .i64 q.s, .int .i64 q.n, .int .i64 q.a] 78))
     have HZ3 := kzq HZ2 hba.size
     have HGgx : Hid (w.heap.size ≤ wr.heap.size) := Lib.hid HB2.out.size
     clear hba Hd2 Hm2 HB2 HZ2
     go_upto_region 13 with fail
     clear c0 c1 c2 hltI
     generalize (wr.alloc (.cells #[.int .i64 q.s, .int .i64 q.n, .int .i64 q.a] 78)) = W4 at *
     generalize hggx : wr.heap.size = gx at *
     clear hggx
     have HG := Lib.hid (dexpected_any W4 d.me pi po d.xs.length ci d.os.length co q.s q.n d.os (HK.out.row.orders.kept HB3.out) rfl HK.out.row.so (by have := HK.out.row.no; omega))
     rw [HFQ.out] at HG
     unfold bookV idV at HG
     simp only [Option.map_some, Option.getD_some, Option.isSome_some] at HG
     have a0 : W4.cell? ⟨w.heap.size, 0, none⟩ = some (.int .i64 d.me) := Hd3.out.cell 0
     have a1 : W4.cell? ⟨w.heap.size, 1, none⟩ = some (.slice pi d.xs.length ci) := Hd3.out.cell 1
     have a2 : W4.cell? ⟨w.heap.size, 2, none⟩ = some (.slice po d.os.length co) := Hd3.out.cell 2
     have x0 : W4.cell? ⟨gx, 0, none⟩ = some (.int .i64 q.s) := Hx3.out.cell 0
     have x1 : W4.cell? ⟨gx, 1, none⟩ = some (.int .i64 q.n) := Hx3.out.cell 1
     have x2 : W4.cell? ⟨gx, 2, none⟩ = some (.int .i64 q.a) := Hx3.out.cell 2
     go_wp2_with fail
     clear a0 a1 a2 x0 x1 x2
     refine HG.out.mono ?_
     rintro y9 w5 ⟨rfl, hb⟩
     clear HG
     have HBW5 := ktq HBW4 hb
     have Hd4 := kbq Hd3 hb
     have Hm4 := kbq Hm3 hb
     have Hx4 := kbq Hx3 hb
     have HB4 := ktq HB3 hb
     have HZ4 := kzq HZ3 hb.size
     clear Hd3 Hm3 Hx3 HB3 HZ3
     clear hb
     have x2 : w5.cell? ⟨gx, 2, none⟩ = some (.int .i64 q.a) := Hx4.out.cell 2
     have haa : (q.a != q.a) = false := by simp
     go_wp2_with fail
     clear x2 haa
     go_roundw
     case rel => exact ⟨k + 1, by have := HLT.out; omega, by go_num, HBW5⟩
     case measure => have := HLT.out; simp [intOf]; omega
    ·have hltI : ¬ (k : Int) < (os.length : Int) := by omega
     have HBE := Lib.hid HB2.out
     go_wp2_with fail
     go_ret
     exact ⟨rfl, HBE.out⟩
end Go.Proofs.Ytbpfbebebppleaa
namespace Go.Proofs.Ytbpfbebebppleaa
open Go.RowKit
def NotIn (gs : List Nat) (b : Nat) : Prop := b ∉ gs
theorem notIn_self {gs : List Nat} {g : Nat} (h : g ∈ gs) : ¬ NotIn gs g := fun hn => hn h
/-- A row in blocks of Q. -/
def RwN {α : Type} (e : Enc α) (Q : Nat → Prop) (w : World) (v : Value) (xs : List α) : Prop := TRow e w v xs ∧ At Q v xs.length
section
variable {α : Type} {e : Enc α} {Q : Nat → Prop} {w w' : World} {v : Value} {xs : List α}
theorem RwN.kept (h : RwN e Q w v xs) (hb : Below w.heap.size w w') : RwN e Q w' v xs := ⟨h.1.kept hb, h.2⟩
theorem RwN.chg {g : Nat} (h : RwN e Q w v xs) (hc : Chg g w w') (hg : ¬ Q g) : RwN e Q w' v xs := ⟨h.1.keepP h.2 (KeepP.of_chg hc hg), h.2⟩
theorem RwN.nil_ (e : Enc α) (Q : Nat → Prop) (w : World) : RwN e Q w (.slice none 0 0) [] := ⟨TRow.nil_ e w, fun _ _ _ _ h => by cases h⟩
theorem RwN.lt (h : RwN e Q w v xs) : At (fun b => b < w.heap.size ∧ Q b) v xs.length := by
 rintro b o n c rfl hn
 exact ⟨h.1.lt_ hn, h.2 b o n c rfl hn⟩
theorem RwN.imp {R : Nat → Prop} (h : RwN e Q w v xs) (hq : ∀ b, b < w.heap.size → Q b → R b) : RwN e R w v xs := by
 refine ⟨h.1, ?_⟩
 rintro b o n c rfl hn
 have h2 := h.lt b o n c rfl hn
 exact hq b h2.1 h2.2
theorem OwnT.rwN {base : Nat} {ty : TypeId} (h : OwnT e w base ty v xs) (hq : ∀ b, base ≤ b → Q b) : RwN e Q w v xs := ⟨h.row, by
 rintro b o n c rfl hn
 exact hq b (h.block_ge b rfl)⟩
end
end Go.Proofs.Ytbpfbebebppleaa
namespace Go.Proofs.Ytbpfbebebppleaa
open Go.RowKit
set_option linter.unusedSimpArgs false
theorem DkR.chg {Q : Nat → Prop} {w w' : World} {d : Dsk} {pi po : Option Addr} {ci co g : Nat} (h : DkR Q w d pi ci po co) (hc : Chg g w w') (hg : ¬ Q g) : DkR Q w' d pi ci po co := h.keepP (KeepP.of_chg hc hg)
set_option linter.unusedSimpArgs false in
set_option maxHeartbeats 4000000 in
set_option maxRecDepth 100000 in
theorem mplays_walk (me far : Int) (p : Option Addr) (n c : Nat) (ws : List SdX) (w : World) (_hme : -9223372036854775808 ≤ me ∧ me ≤ 9223372036854775807) (hfr : -9223372036854775808 ≤ far ∧ far ≤ 9223372036854775807) (hx : TRow encS w (.slice p n c) ws) :
  Calls Try.prog 3 #[.int .i64 me, .int .i64 far, .slice p n c] w fun e w' => e = .returned (.bool true) ∧ Below w.heap.size w w' := by
 have HMA := Lib.hid (fun W => matches_any W)
 have HX := Lib.hid hx
 have hln : n = ws.length := by
  obtain ⟨p', c', e1⟩ := hx.shape
  exact (Value.slice.inj e1).2.1
 have HWL := Lib.hid hln
 clear hx
 go_enter Try.func3, Try.ntmps3
 go_wp2_with fail
 refine (HMA.out _).mono ?_
 rintro y w0 ⟨rfl, hb⟩
 have HB0 := Lib.hid hb
 have HZ0 : Hid (w.heap.size ≤ w0.heap.size) := Lib.hid hb.size
 clear hb HMA
 by_cases hm0 : me < 0
 ·go_wp2_with fail
  go_ret
  exact ⟨rfl, HB0.out⟩
 by_cases hm7 : (7 : Int) < me
 ·go_wp2_with fail
  go_ret
  exact ⟨rfl, HB0.out⟩
 by_cases hn60 : 60 < n
 ·have hn60I : (60 : Int) < (n : Int) := by omega
  go_wp2_with fail
  go_ret
  exact ⟨rfl, HB0.out⟩
 have hn60I : ¬ (60 : Int) < (n : Int) := by omega
 by_cases hfar0 : far < 0
 ·go_wp2_with fail
  go_ret
  exact ⟨rfl, HB0.out⟩
 have HN60 : Hid (n ≤ 60) := Lib.hid (by omega)
 have HME : Hid (0 ≤ me ∧ me < 8) := Lib.hid (by omega)
 have HFA : Hid (Fits far) := Lib.hid (by unfold Fits; omega)
 go_upto_region 5 with fail
 clear hm0 hm7 hn60 hn60I hfar0
 have HG := Lib.hid (desk_any w0 me far HME.out)
 go_wp2_with fail
 refine HG.out.mono ?_
 rintro y9 w1 ⟨rfl, hb⟩
 clear HG
 have HB1 := Lib.hid (HB0.out.trans (hb.mono HZ0.out))
 have HZ1 : Hid (w.heap.size ≤ w1.heap.size) := Lib.hid HB1.out.size
 clear HB0 HZ0 hb
 have hba := oneB w1 (.cells #[.int .i64 me, .slice none 0 0, .slice none 0 0, .int .i64 far] 29)
 have Hd2 := Lib.hid (Blk.new w1 #[.int .i64 me, .slice none 0 0, .slice none 0 0, .int .i64 far] 29)
 have HB2 := Lib.hid (HB1.out.alloc HB1.out.size (.cells #[.int .i64 me, .slice none 0 0, .slice none 0 0, .int .i64 far] 29))
 have HZ2 := kzq HZ1 hba.size
 have HGgd : Hid (w.heap.size ≤ w1.heap.size) := Lib.hid HB1.out.size
 clear hba HB1 HZ1
 go_upto_region 8 with fail
 generalize (w1.alloc (.cells #[.int .i64 me, .slice none 0 0, .slice none 0 0, .int .i64 far] 29)) = W2 at *
 generalize hggd : w1.heap.size = gd at *
 clear hggd
 have HGD2 : Hid (gd < W2.heap.size) := Lib.hid Hd2.out.lt
 have hba := oneB W2 (.cells #[.int .i64 me, .int .i64 far, .slice none 0 0, .slice none 0 0] 34)
 have Hd3 := kbq Hd2 hba
 have He3 := Lib.hid (Blk.new W2 #[.int .i64 me, .int .i64 far, .slice none 0 0, .slice none 0 0] 34)
 have HB3 := Lib.hid (HB2.out.alloc HB2.out.size (.cells #[.int .i64 me, .int .i64 far, .slice none 0 0, .slice none 0 0] 34))
 have HZ3 := kzq HZ2 hba.size
 have HGge : Hid (w.heap.size ≤ W2.heap.size) := Lib.hid HB2.out.size
 clear hba Hd2 HB2 HZ2
 go_upto_region 9 with fail
 generalize (W2.alloc (.cells #[.int .i64 me, .int .i64 far, .slice none 0 0, .slice none 0 0] 34)) = W3 at *
 generalize hgge : W2.heap.size = ge at *
 clear hgge
 have HGE : Hid (gd < ge ∧ w.heap.size ≤ gd) := Lib.hid ⟨HGD2.out, HGgd.out⟩
 clear HGD2
 have HREL : Hid (∃ (d : Dsk) (pi : Option Addr) (ci : Nat) (po : Option Addr) (co : Nat) (pq : Option Addr) (cq : Nat) (pr : Option Addr) (cr : Nat) (xs : List Itm) (os : List Ord), Blk W3 gd #[.int .i64 d.me, .slice pi d.xs.length ci, .slice po d.os.length co, .int .i64 d.far] 29 ∧ Blk W3 ge #[.int .i64 d.me, .int .i64 d.far, .slice pq xs.length cq, .slice pr os.length cr] 34 ∧ DkR (NotIn [gd, ge]) W3 d pi ci po co ∧ DdX (NotIn [gd, ge]) W3 pq cq pr cr xs os d ∧ OrdOk d.os ∧ d.xs.length ≤ 0 ∧ d.os.length ≤ 0 ∧ Below w.heap.size w W3) := Lib.hid ⟨dsk0 me far, none, 0, none, 0, none, 0, none, 0, [], [], Hd3.out, He3.out, dkR0 _ _ me far HME.out HFA.out, ⟨TRow.nil_ _ _, TRow.nil_ _ _, At.nil_ _ _, At.nil_ _ _, List.Perm.refl _, List.Perm.refl _⟩, (fun _ h => nomatch h), Nat.le_refl _, Nat.le_refl _, HB3.out⟩
 clear Hd3 He3 HB3 HZ3
 go_wp2_with fail
 go_loopw [48] (fun i wr => ∃ k : Nat, k ≤ n ∧ i = .int .i64 k ∧ Hid (∃ (d : Dsk) (pi : Option Addr) (ci : Nat) (po : Option Addr) (co : Nat) (pq : Option Addr) (cq : Nat) (pr : Option Addr) (cr : Nat) (xs : List Itm) (os : List Ord), Blk wr gd #[.int .i64 d.me, .slice pi d.xs.length ci, .slice po d.os.length co, .int .i64 d.far] 29 ∧ Blk wr ge #[.int .i64 d.me, .int .i64 d.far, .slice pq xs.length cq, .slice pr os.length cr] 34 ∧ DkR (NotIn [gd, ge]) wr d pi ci po co ∧ DdX (NotIn [gd, ge]) wr pq cq pr cr xs os d ∧ OrdOk d.os ∧ d.xs.length ≤ k ∧ d.os.length ≤ k ∧ Below w.heap.size w wr)) (fun i _ => n - (intOf i).toNat)
 case atStart => exact ⟨0, by omega, rfl, HREL⟩
 case round =>
  clear HREL
  obtain ⟨k, hk, rfl, HK⟩ := hrel
  have hk9 : k + 1 ≤ 61 := by have := HN60.out; omega
  obtain ⟨d, pi, ci, po, co, pq, cq, pr, cr, xs, os, hk1, hk2, hk3, hk4, hk5, hk6, hk7, hk8⟩ := HK.out
  clear HK
  have HB20 := Lib.hid hk8
  have HZ20 : Hid (w.heap.size ≤ wr.heap.size) := Lib.hid hk8.size
  by_cases hlt : k < n
  ·skip
   have hltI : (k : Int) < (n : Int) := by omega
   have HLT : Hid (k < n) := Lib.hid hlt
   have Hd20 := Lib.hid hk1
   have He20 := Lib.hid hk2
   have Qd20 := Lib.hid hk3
   have Qe20 := Lib.hid hk4
   have HOO := Lib.hid hk5
   have HRL : Hid (d.xs.length ≤ k ∧ d.os.length ≤ k) := Lib.hid ⟨hk6, hk7⟩
   clear hk1 hk2 hk3 hk4 hk5 hk6 hk7 hk8
   have hkl : k < ws.length := by rw [← HWL.out]; exact hlt
   obtain ⟨zb, zo, hzp, hzl, hzc⟩ := (HX.out.kept HB20.out).at_ k hkl
   subst hzp
   generalize ws[k] = z at *
   clear hkl hlt hk hzl
   have c0 : wr.cell? ⟨zb, zo + k * 12, none⟩ = some (.int .i64 z.tw) := hzc 0 (by decide)
   have c1 : wr.cell? ⟨zb, zo + k * 12 + 1, none⟩ = some (.int .i64 z.x.m.k) := hzc 1 (by decide)
   have c2 : wr.cell? ⟨zb, zo + k * 12 + 2, none⟩ = some (.int .i64 z.x.m.s) := hzc 2 (by decide)
   have c3 : wr.cell? ⟨zb, zo + k * 12 + 3, none⟩ = some (.int .i64 z.x.m.n) := hzc 3 (by decide)
   have c4 : wr.cell? ⟨zb, zo + k * 12 + 4, none⟩ = some (.int .i64 z.x.m.b) := hzc 4 (by decide)
   have c5 : wr.cell? ⟨zb, zo + k * 12 + 5, none⟩ = some (.int .i64 z.x.m.c) := hzc 5 (by decide)
   have c6 : wr.cell? ⟨zb, zo + k * 12 + 6, none⟩ = some (.int .i64 z.x.m.r) := hzc 6 (by decide)
   have c7 : wr.cell? ⟨zb, zo + k * 12 + 7, none⟩ = some (.int .i64 z.x.m.y) := hzc 7 (by decide)
   have c8 : wr.cell? ⟨zb, zo + k * 12 + 8, none⟩ = some (.int .i64 z.x.m.a) := hzc 8 (by decide)
   have c9 : wr.cell? ⟨zb, zo + k * 12 + 9, none⟩ = some (.bool z.x.m.t) := hzc 9 (by decide)
   have c10 : wr.cell? ⟨zb, zo + k * 12 + 10, none⟩ = some (.slice z.x.pl z.x.m.ls.length z.x.cl) := hzc 10 (by decide)
   have c11 : wr.cell? ⟨zb, zo + k * 12 + 11, none⟩ = some (.slice z.x.pn z.x.m.ns.length z.x.cn) := hzc 11 (by decide)
   clear hzc
   have HGZ : Hid (gd < wr.heap.size ∧ ge < wr.heap.size) := Lib.hid ⟨Hd20.out.lt, He20.out.lt⟩
   have hba := oneB wr (.cells #[.int .i64 z.tw, .int .i64 z.x.m.k, .int .i64 z.x.m.s, .int .i64 z.x.m.n, .int .i64 z.x.m.b, .int .i64 z.x.m.c, .int .i64 z.x.m.r, .int .i64 z.x.m.y, .int .i64 z.x.m.a, .bool z.x.m.t, .slice z.x.pl z.x.m.ls.length z.x.cl, .slice z.x.pn z.x.m.ns.length z.x.cn] 42)
   have Hd21 := kbq Hd20 hba
   have He21 := kbq He20 hba
   have Qd21 := Lib.hid (Qd20.out.kept hba)
   have Qe21 := Lib.hid (Qe20.out.kept hba)
   have Hz21 := Lib.hid (Blk.new wr #[.int .i64 z.tw, .int .i64 z.x.m.k, .int .i64 z.x.m.s, .int .i64 z.x.m.n, .int .i64 z.x.m.b, .int .i64 z.x.m.c, .int .i64 z.x.m.r, .int .i64 z.x.m.y, .int .i64 z.x.m.a, .bool z.x.m.t, .slice z.x.pl z.x.m.ls.length z.x.cl, .slice z.x.pn z.x.m.ns.length z.x.cn] 42)
   have HB21 := Lib.hid (HB20.out.alloc HB20.out.size (.cells #[.int .i64 z.tw, .int .i64 z.x.m.k, .int .i64 z.x.m.s, .int .i64 z.x.m.n, .int .i64 z.x.m.b, .int .i64 z.x.m.c, .int .i64 z.x.m.r, .int .i64 z.x.m.y, .int .i64 z.x.m.a, .bool z.x.m.t, .slice z.x.pl z.x.m.ls.length z.x.cl, .slice z.x.pn z.x.m.ns.length z.x.cn] 42))
   have HZ21 := kzq HZ20 hba.size
   have HGgz : Hid (w.heap.size ≤ wr.heap.size) := Lib.hid HB20.out.size
   clear hba Hd20 He20 Qd20 Qe20 HB20 HZ20
   go_upto_region 12 with fail
   clear hltI c0 c1 c2 c3 c4 c5 c6 c7 c8 c9 c10 c11
   generalize (wr.alloc (.cells #[.int .i64 z.tw, .int .i64 z.x.m.k, .int .i64 z.x.m.s, .int .i64 z.x.m.n, .int .i64 z.x.m.b, .int .i64 z.x.m.c, .int .i64 z.x.m.r, .int .i64 z.x.m.y, .int .i64 z.x.m.a, .bool z.x.m.t, .slice z.x.pl z.x.m.ls.length z.x.cl, .slice z.x.pn z.x.m.ns.length z.x.cn] 42)) = W4 at *
   generalize hggz : wr.heap.size = gz at *
   clear hggz
   obtain ⟨⟨d2, out2, e2⟩, hA⟩ : ∃ A, doM d z.x.m z.tw = A := ⟨_, rfl⟩
   have HA := Lib.hid hA
   have HRL2 : Hid (d2.xs.length ≤ k + 1 ∧ d2.os.length ≤ k + 1) := Lib.hid (by
    have h2 := do_len Qd21.out.row.sx Qd21.out.row.so z.x.m z.tw
    rw [hA] at h2
    dsimp only at h2
    have h3 := HRL.out
    omega)
   have HOO2 : Hid (OrdOk d2.os) := Lib.hid (by have h := do_ordOk z.x.m z.tw HOO.out; rw [hA] at h; exact h)
   have HPL : Hid ((∀ z ∈ out2.map sdX, Plain z) ∧ (out2.map sdX).length ≤ 1) := Lib.hid (by have h := do_plain d z.x.m z.tw; rw [hA] at h; exact ⟨h.1, by rw [List.length_map]; exact h.2⟩)
   clear hA
   have HWS : Hid (gd < W4.heap.size ∧ ge < W4.heap.size) := Lib.hid ⟨Hd21.out.lt, He21.out.lt⟩
   have HG := Lib.hid (Qd21.out.do_ (by have := HRL.out; have := HN60.out; have := HLT.out; omega) (by have := HRL.out; have := HN60.out; have := HLT.out; omega) z.x.m (.slice z.x.pl z.x.m.ls.length z.x.cl) (.slice z.x.pn z.x.m.ns.length z.x.cn) z.tw out2 e2 HA.out)
   unfold dcells Msg.v at HG
   have a0 : W4.cell? ⟨gd, 0, none⟩ = some (.int .i64 d.me) := Hd21.out.cell 0
   have a1 : W4.cell? ⟨gd, 1, none⟩ = some (.slice pi d.xs.length ci) := Hd21.out.cell 1
   have a2 : W4.cell? ⟨gd, 2, none⟩ = some (.slice po d.os.length co) := Hd21.out.cell 2
   have a3 : W4.cell? ⟨gd, 3, none⟩ = some (.int .i64 d.far) := Hd21.out.cell 3
   have c0 : W4.cell? ⟨gz, 0, none⟩ = some (.int .i64 z.tw) := Hz21.out.cell 0
   have c1 : W4.cell? ⟨gz, 1, none⟩ = some (.int .i64 z.x.m.k) := Hz21.out.cell 1
   have c2 : W4.cell? ⟨gz, 2, none⟩ = some (.int .i64 z.x.m.s) := Hz21.out.cell 2
   have c3 : W4.cell? ⟨gz, 3, none⟩ = some (.int .i64 z.x.m.n) := Hz21.out.cell 3
   have c4 : W4.cell? ⟨gz, 4, none⟩ = some (.int .i64 z.x.m.b) := Hz21.out.cell 4
   have c5 : W4.cell? ⟨gz, 5, none⟩ = some (.int .i64 z.x.m.c) := Hz21.out.cell 5
   have c6 : W4.cell? ⟨gz, 6, none⟩ = some (.int .i64 z.x.m.r) := Hz21.out.cell 6
   have c7 : W4.cell? ⟨gz, 7, none⟩ = some (.int .i64 z.x.m.y) := Hz21.out.cell 7
   have c8 : W4.cell? ⟨gz, 8, none⟩ = some (.int .i64 z.x.m.a) := Hz21.out.cell 8
   have c9 : W4.cell? ⟨gz, 9, none⟩ = some (.bool z.x.m.t) := Hz21.out.cell 9
   have c10 : W4.cell? ⟨gz, 10, none⟩ = some (.slice z.x.pl z.x.m.ls.length z.x.cl) := Hz21.out.cell 10
   have c11 : W4.cell? ⟨gz, 11, none⟩ = some (.slice z.x.pn z.x.m.ns.length z.x.cn) := Hz21.out.cell 11
   go_wp2_with fail
   clear a0 a1 a2 a3 c0 c1 c2 c3 c4 c5 c6 c7 c8 c9 c10 c11
   refine HG.out.mono ?_
   rintro y9 w4 ⟨hb, p1, c1, q1, e1, vs1, rfl, hkk, hown⟩
   clear HG
   have Q2 := Lib.hid (hkk.imp (Q := (NotIn [gd, ge])) (fun b h => h.elim id (fun h hm => by have h0 := HWS.out; simp only [List.mem_cons, List.not_mem_nil, or_false] at hm; omega)))
   have SS := Lib.hid hown
   clear hkk hown
   have Hd22 := kbq Hd21 hb
   have He22 := kbq He21 hb
   have Hz22 := kbq Hz21 hb
   have Qd22 := Lib.hid (Qd21.out.kept hb)
   have Qe22 := Lib.hid (Qe21.out.kept hb)
   have HB22 := ktq HB21 hb
   have HZ22 := kzq HZ21 hb.size
   clear Hd21 He21 Hz21 Qd21 Qe21 HB21 HZ21
   clear hb
   have Qn22 := Q2
   have Qs22 : Hid (RwN encS (NotIn [gd, ge]) w4 vs1 (out2.map sdX)) := Lib.hid (SS.out.rwN (fun b h hm => by have h0 := HWS.out; simp only [List.mem_cons, List.not_mem_nil, or_false] at hm; omega))
   clear Q2 SS
   have HGN : Hid (gz < w4.heap.size) := Lib.hid Hz22.out.lt
   have hba := oneB w4 (.cells #[.int .i64 d2.me, .slice p1 d2.xs.length c1, .slice q1 d2.os.length e1, .int .i64 d2.far] 29)
   have Hd23 := kbq Hd22 hba
   have He23 := kbq He22 hba
   have Hz23 := kbq Hz22 hba
   have Qd23 := Lib.hid (Qd22.out.kept hba)
   have Qe23 := Lib.hid (Qe22.out.kept hba)
   have Qn23 := Lib.hid (Qn22.out.kept hba)
   have Qs23 := Lib.hid (Qs22.out.kept hba)
   have Hn23 := Lib.hid (Blk.new w4 #[.int .i64 d2.me, .slice p1 d2.xs.length c1, .slice q1 d2.os.length e1, .int .i64 d2.far] 29)
   have HB23 := Lib.hid (HB22.out.alloc HB22.out.size (.cells #[.int .i64 d2.me, .slice p1 d2.xs.length c1, .slice q1 d2.os.length e1, .int .i64 d2.far] 29))
   have HZ23 := kzq HZ22 hba.size
   have HGgn : Hid (w.heap.size ≤ w4.heap.size) := Lib.hid HB22.out.size
   clear hba Hd22 He22 Hz22 Qd22 Qe22 Qn22 Qs22 HB22 HZ22
   go_upto_region 13 with fail
   generalize (w4.alloc (.cells #[.int .i64 d2.me, .slice p1 d2.xs.length c1, .slice q1 d2.os.length e1, .int .i64 d2.far] 29)) = W5 at *
   generalize hggn : w4.heap.size = gn at *
   clear hggn
   have HW5S : Hid (gd < W5.heap.size ∧ ge < W5.heap.size) := Lib.hid ⟨Hd23.out.lt, He23.out.lt⟩
   have HG := Lib.hid (rdo_any W5 (NotIn [gd, ge]) pq pr cq cr xs os d z.x.m (.slice z.x.pl z.x.m.ls.length z.x.cl) (.slice z.x.pn z.x.m.ns.length z.x.cn) z.tw Qe23.out Qd23.out.row.sx Qd23.out.row.so Qd23.out.ok HOO.out (by have := HRL.out; have := HN60.out; have := HLT.out; omega) (by have := HRL.out; have := HN60.out; have := HLT.out; omega))
   unfold DPm at HG
   rw [HA.out] at HG
   dsimp only at HG
   unfold Msg.v at HG
   have e0 : W5.cell? ⟨ge, 0, none⟩ = some (.int .i64 d.me) := He23.out.cell 0
   have e1 : W5.cell? ⟨ge, 1, none⟩ = some (.int .i64 d.far) := He23.out.cell 1
   have e2 : W5.cell? ⟨ge, 2, none⟩ = some (.slice pq xs.length cq) := He23.out.cell 2
   have e3 : W5.cell? ⟨ge, 3, none⟩ = some (.slice pr os.length cr) := He23.out.cell 3
   have c0 : W5.cell? ⟨gz, 0, none⟩ = some (.int .i64 z.tw) := Hz23.out.cell 0
   have c1 : W5.cell? ⟨gz, 1, none⟩ = some (.int .i64 z.x.m.k) := Hz23.out.cell 1
   have c2 : W5.cell? ⟨gz, 2, none⟩ = some (.int .i64 z.x.m.s) := Hz23.out.cell 2
   have c3 : W5.cell? ⟨gz, 3, none⟩ = some (.int .i64 z.x.m.n) := Hz23.out.cell 3
   have c4 : W5.cell? ⟨gz, 4, none⟩ = some (.int .i64 z.x.m.b) := Hz23.out.cell 4
   have c5 : W5.cell? ⟨gz, 5, none⟩ = some (.int .i64 z.x.m.c) := Hz23.out.cell 5
   have c6 : W5.cell? ⟨gz, 6, none⟩ = some (.int .i64 z.x.m.r) := Hz23.out.cell 6
   have c7 : W5.cell? ⟨gz, 7, none⟩ = some (.int .i64 z.x.m.y) := Hz23.out.cell 7
   have c8 : W5.cell? ⟨gz, 8, none⟩ = some (.int .i64 z.x.m.a) := Hz23.out.cell 8
   have c9 : W5.cell? ⟨gz, 9, none⟩ = some (.bool z.x.m.t) := Hz23.out.cell 9
   have c10 : W5.cell? ⟨gz, 10, none⟩ = some (.slice z.x.pl z.x.m.ls.length z.x.cl) := Hz23.out.cell 10
   have c11 : W5.cell? ⟨gz, 11, none⟩ = some (.slice z.x.pn z.x.m.ns.length z.x.cn) := Hz23.out.cell 11
   go_wp2_with fail
   clear e0 e1 e2 e3 c0 c1 c2 c3 c4 c5 c6 c7 c8 c9 c10 c11
   refine HG.out.mono ?_
   rintro y9 w6 ⟨p5, c5, q5, e5, xs5, os5, vs5, rfl, hdx, hown, hb⟩
   clear HG
   have Q2 := Lib.hid (hdx.imp (R := (NotIn [gd, ge])) (fun b h => h.elim id (fun h hm => by have h0 := HW5S.out; simp only [List.mem_cons, List.not_mem_nil, or_false] at hm; omega)))
   have SS := Lib.hid (hown.rwN (Q := (NotIn [gd, ge])) (fun b h hm => by have h0 := HW5S.out; simp only [List.mem_cons, List.not_mem_nil, or_false] at hm; omega))
   clear hdx hown
   clear Qd23 Qe23
   have Hd24 := kbq Hd23 hb
   have He24 := kbq He23 hb
   have Hz24 := kbq Hz23 hb
   have Hn24 := kbq Hn23 hb
   have Qn24 := Lib.hid (Qn23.out.kept hb)
   have Qs24 := Lib.hid (Qs23.out.kept hb)
   have HB24 := ktq HB23 hb
   have HZ24 := kzq HZ23 hb.size
   clear Hd23 He23 Hz23 Hn23 Qn23 Qs23 HB23 HZ23
   clear hb
   have Qe24 := Q2
   have Qw24 := SS
   clear Q2 SS
   clear HRL HOO HA Hz24
   have HGE2 : Hid (gn < w6.heap.size) := Lib.hid Hn24.out.lt
   have hba := oneB w6 (.cells #[.int .i64 d2.me, .int .i64 d2.far, .slice p5 xs5.length c5, .slice q5 os5.length e5] 34)
   have Hd25 := kbq Hd24 hba
   have He25 := kbq He24 hba
   have Hn25 := kbq Hn24 hba
   have Qn25 := Lib.hid (Qn24.out.kept hba)
   have Qs25 := Lib.hid (Qs24.out.kept hba)
   have Qe25 := Lib.hid (Qe24.out.kept hba)
   have Qw25 := Lib.hid (Qw24.out.kept hba)
   have Hf25 := Lib.hid (Blk.new w6 #[.int .i64 d2.me, .int .i64 d2.far, .slice p5 xs5.length c5, .slice q5 os5.length e5] 34)
   have HB25 := Lib.hid (HB24.out.alloc HB24.out.size (.cells #[.int .i64 d2.me, .int .i64 d2.far, .slice p5 xs5.length c5, .slice q5 os5.length e5] 34))
   have HZ25 := kzq HZ24 hba.size
   have HGgf : Hid (w.heap.size ≤ w6.heap.size) := Lib.hid HB24.out.size
   clear hba Hd24 He24 Hn24 Qn24 Qs24 Qe24 Qw24 HB24 HZ24
   go_upto_region 14 with fail
   generalize (w6.alloc (.cells #[.int .i64 d2.me, .int .i64 d2.far, .slice p5 xs5.length c5, .slice q5 os5.length e5] 34)) = W7 at *
   generalize hggf : w6.heap.size = gf at *
   clear hggf
   have hbd := (Below.refl W7.heap.size W7).drew
   have Hd26 := kbq Hd25 hbd
   have He26 := kbq He25 hbd
   have Hn26 := kbq Hn25 hbd
   have Hf26 := kbq Hf25 hbd
   have Qn26 := Lib.hid (Qn25.out.kept hbd)
   have Qs26 := Lib.hid (Qs25.out.kept hbd)
   have Qe26 := Lib.hid (Qe25.out.kept hbd)
   have Qw26 := Lib.hid (Qw25.out.kept hbd)
   have HB26 := ktq HB25 hbd
   have HZ26 := kzq HZ25 hbd.size
   clear Hd25 He25 Hn25 Hf25 Qn25 Qs25 Qe25 Qw25 HB25 HZ25
   refine wp_region_held_drew (S := fun w' => w'.cell? ⟨gn, 0, none⟩ = some (.int .i64 d2.me) ∧ w'.cell? ⟨gn, 1, none⟩ = some (.slice p1 d2.xs.length c1) ∧ w'.cell? ⟨gn, 2, none⟩ = some (.slice q1 d2.os.length e1) ∧ w'.cell? ⟨gn, 3, none⟩ = some (.int .i64 d2.far) ∧ w'.cell? ⟨gf, 0, none⟩ = some (.int .i64 d2.me) ∧ w'.cell? ⟨gf, 1, none⟩ = some (.int .i64 d2.far) ∧ w'.cell? ⟨gf, 2, none⟩ = some (.slice p5 xs5.length c5) ∧ w'.cell? ⟨gf, 3, none⟩ = some (.slice q5 os5.length e5)) (by kernel_rfl) ⟨Hn26.out.cell 0, Hn26.out.cell 1, Hn26.out.cell 2, Hn26.out.cell 3, Hf26.out.cell 0, Hf26.out.cell 1, Hf26.out.cell 2, Hf26.out.cell 3⟩ (fun hS0 => ?_)
   generalize W7.drew = WD at *
   clear hbd
   refine tkq 0 ?_
   refine tkq 1 ?_
   refine rdq 2 (fun K hK => ?_)
   have z0 : WD.cell? ⟨gd, 0, none⟩ = some (.int .i64 d.me) := Hd26.out.cell 0
   have z1 : WD.cell? ⟨gd, 1, none⟩ = some (.slice pi d.xs.length ci) := Hd26.out.cell 1
   have z2 : WD.cell? ⟨gd, 2, none⟩ = some (.slice po d.os.length co) := Hd26.out.cell 2
   have z3 : WD.cell? ⟨gd, 3, none⟩ = some (.int .i64 d.far) := Hd26.out.cell 3
   have f0 := Hd26.out.free 0
   have f1 := Hd26.out.free 1
   have f2 := Hd26.out.free 2
   have f3 := Hd26.out.free 3
   go_simp
   clear z0 f0 z1 f1 z2 f2 z3 f3
   have hch := Lib.hid (((((Chg.refl gd WD).set 0 (.int .i64 d2.me)).set 1 (.slice p1 d2.xs.length c1)).set 2 (.slice q1 d2.os.length e1)).set 3 (.int .i64 d2.far))
   have Hd27 : Hid (Blk _ gd #[.int .i64 d2.me, .slice p1 d2.xs.length c1, .slice q1 d2.os.length e1, .int .i64 d2.far] 29) := Lib.hid ((((Hd26.out.set 0 (.int .i64 d2.me)).set 1 (.slice p1 d2.xs.length c1)).set 2 (.slice q1 d2.os.length e1)).set 3 (.int .i64 d2.far))
   have HB27 := ksq HB26 hch (by show w.heap.size ≤ gd; have := HGE.out; have := HGZ.out; have := HGN.out; have := HGE2.out; omega)
   have HZ27 := kzq HZ26 hch.out.size
   have He27 := kcq He26 hch (by have := HGE.out; have := HGZ.out; have := HGN.out; have := HGE2.out; omega)
   have Hn27 := kcq Hn26 hch (by have := HGE.out; have := HGZ.out; have := HGN.out; have := HGE2.out; omega)
   have Hf27 := kcq Hf26 hch (by have := HGE.out; have := HGZ.out; have := HGN.out; have := HGE2.out; omega)
   have Qn27 := Lib.hid (Qn26.out.chg hch.out (notIn_self (by simp)))
   have Qs27 := Lib.hid (Qs26.out.chg hch.out (notIn_self (by simp)))
   have Qe27 := Lib.hid (Qe26.out.chg hch.out (notIn_self (by simp)))
   have Qw27 := Lib.hid (Qw26.out.chg hch.out (notIn_self (by simp)))
   clear hch hS0 Hd26 He26 Hn26 Hf26 Qn26 Qs26 Qe26 Qw26 HB26 HZ26
   generalize ((((WD.setCell ⟨gd, 0, none⟩ (.int .i64 d2.me)).setCell ⟨gd, 1, none⟩ (.slice p1 d2.xs.length c1)).setCell ⟨gd, 2, none⟩ (.slice q1 d2.os.length e1)).setCell ⟨gd, 3, none⟩ (.int .i64 d2.far)) = V1 at *
   refine hK.out _ _ ⟨Hn27.out.cell 0, Hn27.out.cell 1, Hn27.out.cell 2, Hn27.out.cell 3, Hf27.out.cell 0, Hf27.out.cell 1, Hf27.out.cell 2, Hf27.out.cell 3⟩ (fun hS0 => ?_)
   clear hK K
   try simp only [Act.put, List.getElem_toArray, List.getElem_cons_succ, List.getElem_cons_zero, List.setIfInBounds_toArray, List.set_cons_zero, List.set_cons_succ]
   refine rdq 3 (fun K hK => ?_)
   have z0 : V1.cell? ⟨ge, 0, none⟩ = some (.int .i64 d.me) := He27.out.cell 0
   have z1 : V1.cell? ⟨ge, 1, none⟩ = some (.int .i64 d.far) := He27.out.cell 1
   have z2 : V1.cell? ⟨ge, 2, none⟩ = some (.slice pq xs.length cq) := He27.out.cell 2
   have z3 : V1.cell? ⟨ge, 3, none⟩ = some (.slice pr os.length cr) := He27.out.cell 3
   have f0 := He27.out.free 0
   have f1 := He27.out.free 1
   have f2 := He27.out.free 2
   have f3 := He27.out.free 3
   go_simp
   clear z0 f0 z1 f1 z2 f2 z3 f3
   have hch := Lib.hid (((((Chg.refl ge V1).set 0 (.int .i64 d2.me)).set 1 (.int .i64 d2.far)).set 2 (.slice p5 xs5.length c5)).set 3 (.slice q5 os5.length e5))
   have He28 : Hid (Blk _ ge #[.int .i64 d2.me, .int .i64 d2.far, .slice p5 xs5.length c5, .slice q5 os5.length e5] 34) := Lib.hid ((((He27.out.set 0 (.int .i64 d2.me)).set 1 (.int .i64 d2.far)).set 2 (.slice p5 xs5.length c5)).set 3 (.slice q5 os5.length e5))
   have HB28 := ksq HB27 hch (by show w.heap.size ≤ ge; have := HGE.out; have := HGZ.out; have := HGN.out; have := HGE2.out; omega)
   have HZ28 := kzq HZ27 hch.out.size
   have Hd28 := kcq Hd27 hch (by have := HGE.out; have := HGZ.out; have := HGN.out; have := HGE2.out; omega)
   have Hn28 := kcq Hn27 hch (by have := HGE.out; have := HGZ.out; have := HGN.out; have := HGE2.out; omega)
   have Hf28 := kcq Hf27 hch (by have := HGE.out; have := HGZ.out; have := HGN.out; have := HGE2.out; omega)
   have Qn28 := Lib.hid (Qn27.out.chg hch.out (notIn_self (by simp)))
   have Qs28 := Lib.hid (Qs27.out.chg hch.out (notIn_self (by simp)))
   have Qe28 := Lib.hid (Qe27.out.chg hch.out (notIn_self (by simp)))
   have Qw28 := Lib.hid (Qw27.out.chg hch.out (notIn_self (by simp)))
   clear hch hS0 Hd27 He27 Hn27 Hf27 Qn27 Qs27 Qe27 Qw27 HB27 HZ27
   generalize ((((V1.setCell ⟨ge, 0, none⟩ (.int .i64 d2.me)).setCell ⟨ge, 1, none⟩ (.int .i64 d2.far)).setCell ⟨ge, 2, none⟩ (.slice p5 xs5.length c5)).setCell ⟨ge, 3, none⟩ (.slice q5 os5.length e5)) = V2 at *
   refine hK.out _ _ ⟨Hn28.out.cell 0, Hn28.out.cell 1, Hn28.out.cell 2, Hn28.out.cell 3, Hf28.out.cell 0, Hf28.out.cell 1, Hf28.out.cell 2, Hf28.out.cell 3⟩ (fun hS0 => ?_)
   clear hK K
   try simp only [Act.put, List.getElem_toArray, List.getElem_cons_succ, List.getElem_cons_zero, List.setIfInBounds_toArray, List.set_cons_zero, List.set_cons_succ]
   refine wpAnyH_done (by kernel_rfl) ?_ _
   clear hS0
   clear Hn28 Hf28
   have hee : (e2 != e2) = false := by simp
   generalize hL : out2.map sdX = L at *
   clear hL
   obtain ⟨p8, c8, hv8, hl8⟩ : ∃ p c, vs1 = .slice p L.length c ∧ True := by obtain ⟨p, c, h⟩ := Qs28.out.1.shape; exact ⟨p, c, h, trivial⟩
   obtain ⟨p9, c9, hv9, hl9⟩ : ∃ p c, vs5 = .slice p L.length c ∧ True := by obtain ⟨p, c, h⟩ := Qw28.out.1.shape; exact ⟨p, c, h, trivial⟩
   subst hv8
   subst hv9
   clear hl8 hl9
   have HG := Lib.hid (told_any V2 p8 p9 c8 c9 L.length L Qs28.out.1 Qw28.out.1 rfl (by have := HPL.out.2; omega) HPL.out.1)
   go_wp2_with fail
   refine HG.out.mono ?_
   rintro y9 w7 ⟨rfl, hb⟩
   clear HG
   have Hd29 := kbq Hd28 hb
   have He29 := kbq He28 hb
   have Qn29 := Lib.hid (Qn28.out.kept hb)
   have Qs29 := Lib.hid (Qs28.out.kept hb)
   have Qe29 := Lib.hid (Qe28.out.kept hb)
   have Qw29 := Lib.hid (Qw28.out.kept hb)
   have HB29 := ktq HB28 hb
   have HZ29 := kzq HZ28 hb.size
   clear Hd28 He28 Qn28 Qs28 Qe28 Qw28 HB28 HZ28
   clear hb
   have HG := Lib.hid (mlike_any w7 (NotIn [gd, ge]) (NotIn [gd, ge]) d2 p1 q1 p5 q5 c1 e1 c5 e5 xs5 os5 Qn29.out Qe29.out)
   have a0 : w7.cell? ⟨gd, 0, none⟩ = some (.int .i64 d2.me) := Hd29.out.cell 0
   have a1 : w7.cell? ⟨gd, 1, none⟩ = some (.slice p1 d2.xs.length c1) := Hd29.out.cell 1
   have a2 : w7.cell? ⟨gd, 2, none⟩ = some (.slice q1 d2.os.length e1) := Hd29.out.cell 2
   have a3 : w7.cell? ⟨gd, 3, none⟩ = some (.int .i64 d2.far) := Hd29.out.cell 3
   have e0 : w7.cell? ⟨ge, 0, none⟩ = some (.int .i64 d2.me) := He29.out.cell 0
   have e1 : w7.cell? ⟨ge, 1, none⟩ = some (.int .i64 d2.far) := He29.out.cell 1
   have e2 : w7.cell? ⟨ge, 2, none⟩ = some (.slice p5 xs5.length c5) := He29.out.cell 2
   have e3 : w7.cell? ⟨ge, 3, none⟩ = some (.slice q5 os5.length e5) := He29.out.cell 3
   go_wp2_with fail
   clear a0 a1 a2 a3 e0 e1 e2 e3 hee
   refine HG.out.mono ?_
   rintro y9 w8 ⟨rfl, hb⟩
   clear HG
   have Hd30 := kbq Hd29 hb
   have He30 := kbq He29 hb
   have Qn30 := Lib.hid (Qn29.out.kept hb)
   have Qs30 := Lib.hid (Qs29.out.kept hb)
   have Qe30 := Lib.hid (Qe29.out.kept hb)
   have Qw30 := Lib.hid (Qw29.out.kept hb)
   have HB30 := ktq HB29 hb
   have HZ30 := kzq HZ29 hb.size
   clear Hd29 He29 Qn29 Qs29 Qe29 Qw29 HB29 HZ29
   clear hb
   have HNX : Hid (∃ (d : Dsk) (pi : Option Addr) (ci : Nat) (po : Option Addr) (co : Nat) (pq : Option Addr) (cq : Nat) (pr : Option Addr) (cr : Nat) (xs : List Itm) (os : List Ord), Blk w8 gd #[.int .i64 d.me, .slice pi d.xs.length ci, .slice po d.os.length co, .int .i64 d.far] 29 ∧ Blk w8 ge #[.int .i64 d.me, .int .i64 d.far, .slice pq xs.length cq, .slice pr os.length cr] 34 ∧ DkR (NotIn [gd, ge]) w8 d pi ci po co ∧ DdX (NotIn [gd, ge]) w8 pq cq pr cr xs os d ∧ OrdOk d.os ∧ d.xs.length ≤ (k + 1) ∧ d.os.length ≤ (k + 1) ∧ Below w.heap.size w w8) := Lib.hid ⟨d2, p1, c1, q1, e1, p5, c5, q5, e5, xs5, os5, Hd30.out, He30.out, Qn30.out, Qe30.out, HOO2.out, HRL2.out.1, HRL2.out.2, HB30.out⟩
   clear Hd30 He30 Qn30 Qs30 Qe30 Qw30 HB30 HZ30
   go_wp2_with fail
   go_roundw
   case rel => exact ⟨k + 1, by have := HLT.out; omega, by go_num, HNX⟩
   case measure => have := HLT.out; simp [intOf]; omega
  ·have hltI : ¬ (k : Int) < (n : Int) := by omega
   clear hk1 hk2 hk3 hk4 hk5 hk6 hk7 hk8
   go_wp2_with fail
   go_ret
   exact ⟨rfl, HB20.out⟩
end Go.Proofs.Ytbpfbebebppleaa
