/- An item kept in a desk of the document's, by contract. The document's desk beside the program's: the same items and orders, in whatever order. book.New by contract. '==' of two items. match.Desk's Do by contract. A law's desk: a block of four cells, whose rows lie in blocks of P. contralaw14.matches by contract: an item is sold, and taken. contraref09.in, Check by contract. contraref09.Act by contract. How the document's desk (contraref14) lies; near and about by contract. -/
import Derived.Test.YtbpfbebebppleaaP3
import Derived.Test.YtbpfbebebppleaaP1
import Derived.Test.YtbpfbebebppleaaP2
import Derived.Laws.StructEq
namespace Go.Proofs.Ytbpfbebebppleaa
open Go.RowKit
set_option linter.unusedSimpArgs false
/-- The items with an item as it is now, where its ID stands at r. -/
def cputL (xs : List Itm) (x : Itm) (r : Int) : List Itm := if r < 0 then xs ++ [x] else xs.set r.toNat x
theorem infoDC {cs : Array Value} (h : cs.size = 4) : (Try.prog.info? 34).map (·.size) = some cs.size := by
 rw [h]
 kernel_rfl
set_option linter.unusedSimpArgs false in
set_option maxHeartbeats 4000000 in
set_option maxRecDepth 100000 in
theorem ckeep_any (w : World) (me far : Int) (p po : Option Addr) (n c no co : Nat) (x : Itm) (xs : List Itm) (hr : TRow encI w (.slice p n c) xs) (hn : n = xs.length) (hl : xs.length ≤ 2000) :
  Calls Try.prog 37 #[.agg #[.int .i64 me, .int .i64 far, .slice p n c, .slice po no co], x.v] w fun y w' => ∃ r p' n' c', AtI xs x.s x.n r ∧ y = .returned (.agg #[.int .i64 me, .int .i64 far, .slice p' n' c', .slice po no co]) ∧ OwnT encI w' w.heap.size 64 (.slice p' n' c') (cputL xs x r) ∧ n' = (cputL xs x r).length ∧ Below w.heap.size w w' := by
 have HR := Lib.hid hr
 have HL : Hid (xs.length = n ∧ n ≤ 2000) := ⟨hn.symm, by omega⟩
 clear hr hn hl
 unfold Itm.v
 have HB0 : Hid (Below w.heap.size w (((w.alloc (.cells #[.int .i64 me, .int .i64 far, .slice p n c, .slice po no co] 34)).alloc (.cells #[.int .i64 x.s, .int .i64 x.n, .int .i64 x.b, .int .i64 x.c, .int .i64 x.a, .int .i64 x.r, .int .i64 x.t, .int .i64 x.y] 64)).alloc (.cells #[.int .i64 0, .int .i64 0, .slice none 0 0, .slice none 0 0] 34))) := Lib.hid ((((oneB w _).alloc (by simp <;> omega) _).alloc (by simp <;> omega) _))
 have Hd0 : Hid (Blk (((w.alloc (.cells #[.int .i64 me, .int .i64 far, .slice p n c, .slice po no co] 34)).alloc (.cells #[.int .i64 x.s, .int .i64 x.n, .int .i64 x.b, .int .i64 x.c, .int .i64 x.a, .int .i64 x.r, .int .i64 x.t, .int .i64 x.y] 64)).alloc (.cells #[.int .i64 0, .int .i64 0, .slice none 0 0, .slice none 0 0] 34)) w.heap.size #[.int .i64 me, .int .i64 far, .slice p n c, .slice po no co] 34) := Lib.hid (((Blk.new w #[.int .i64 me, .int .i64 far, .slice p n c, .slice po no co] 34).alloc _).alloc _)
 have Hx0 : Hid (Blk (((w.alloc (.cells #[.int .i64 me, .int .i64 far, .slice p n c, .slice po no co] 34)).alloc (.cells #[.int .i64 x.s, .int .i64 x.n, .int .i64 x.b, .int .i64 x.c, .int .i64 x.a, .int .i64 x.r, .int .i64 x.t, .int .i64 x.y] 64)).alloc (.cells #[.int .i64 0, .int .i64 0, .slice none 0 0, .slice none 0 0] 34)) (w.heap.size + 1) #[.int .i64 x.s, .int .i64 x.n, .int .i64 x.b, .int .i64 x.c, .int .i64 x.a, .int .i64 x.r, .int .i64 x.t, .int .i64 x.y] 64) := Lib.hid ((Blk.new' (w.alloc (.cells #[.int .i64 me, .int .i64 far, .slice p n c, .slice po no co] 34)) #[.int .i64 x.s, .int .i64 x.n, .int .i64 x.b, .int .i64 x.c, .int .i64 x.a, .int .i64 x.r, .int .i64 x.t, .int .i64 x.y] 64 (by simp)).alloc _)
 have Hr0 : Hid (Blk (((w.alloc (.cells #[.int .i64 me, .int .i64 far, .slice p n c, .slice po no co] 34)).alloc (.cells #[.int .i64 x.s, .int .i64 x.n, .int .i64 x.b, .int .i64 x.c, .int .i64 x.a, .int .i64 x.r, .int .i64 x.t, .int .i64 x.y] 64)).alloc (.cells #[.int .i64 0, .int .i64 0, .slice none 0 0, .slice none 0 0] 34)) (w.heap.size + 1 + 1) #[.int .i64 0, .int .i64 0, .slice none 0 0, .slice none 0 0] 34) := Lib.hid (Blk.new' ((w.alloc (.cells #[.int .i64 me, .int .i64 far, .slice p n c, .slice po no co] 34)).alloc (.cells #[.int .i64 x.s, .int .i64 x.n, .int .i64 x.b, .int .i64 x.c, .int .i64 x.a, .int .i64 x.r, .int .i64 x.t, .int .i64 x.y] 64)) #[.int .i64 0, .int .i64 0, .slice none 0 0, .slice none 0 0] 34 (by simp))
 have HZ0 : Hid (w.heap.size ≤ (((w.alloc (.cells #[.int .i64 me, .int .i64 far, .slice p n c, .slice po no co] 34)).alloc (.cells #[.int .i64 x.s, .int .i64 x.n, .int .i64 x.b, .int .i64 x.c, .int .i64 x.a, .int .i64 x.r, .int .i64 x.t, .int .i64 x.y] 64)).alloc (.cells #[.int .i64 0, .int .i64 0, .slice none 0 0, .slice none 0 0] 34)).heap.size) := Lib.hid HB0.out.size
 go_enter Try.func37, Try.ntmps37
 go_upto_region 1 with fail
 generalize (((w.alloc (.cells #[.int .i64 me, .int .i64 far, .slice p n c, .slice po no co] 34)).alloc (.cells #[.int .i64 x.s, .int .i64 x.n, .int .i64 x.b, .int .i64 x.c, .int .i64 x.a, .int .i64 x.r, .int .i64 x.t, .int .i64 x.y] 64)).alloc (.cells #[.int .i64 0, .int .i64 0, .slice none 0 0, .slice none 0 0] 34)) = W at *
 have HWL : Hid (w.heap.size + 1 + 1 < W.heap.size) := Lib.hid Hr0.out.lt
 have HM := Lib.hid (madeT W W.heap.size (Nat.le_refl _))
 have HRW := Lib.hid ((HR.out.kept HB0.out).kept (oneB W (.cells #[] 64)))
 have hbm := oneB W (.cells #[] 64)
 have Hd1 := kbq Hd0 hbm
 have Hx1 := kbq Hx0 hbm
 have Hr1 := kbq Hr0 hbm
 have HB1 := ktq HB0 hbm
 have HZ1 := kzq HZ0 hbm.size
 clear Hd0 Hx0 Hr0 HB0 HZ0
 have a2 : (W.alloc (.cells #[] 64)).cell? ⟨w.heap.size, 2, none⟩ = some (.slice p n c) := Hd1.out.cell 2
 go_wp2_with (at_builtin; with_reducible refine stop_appendI (.tmp 7) (.tmp 9) 24 rfl ?_)
 clear a2
 have HZM : Hid (W.heap.size ≤ (W.alloc (.cells #[] 64)).heap.size) := Lib.hid hbm.size
 clear hbm
 refine wpList_append_t rfl (.tmp 7) (.tmp 9) 24 rfl 64 zeroVI 64 W.heap.size eltI rfl (by decide) (.slice (some ⟨W.heap.size, 0, none⟩) 0 0) (.slice p n c) [] xs rfl rfl HM.out HRW.out (by have := HL.out; simp; omega) HZM.out xs n (List.nil_append _) HL.out.1 ?_
 intro p1 c1 w1 ho _ hbw
 clear HM HRW
 have Hd2 := Lib.hid (Hd1.out.below hbw (by have h7 := HWL.out; omega))
 have Hx2 := Lib.hid (Hx1.out.below hbw (by have h7 := HWL.out; omega))
 have Hr2 := Lib.hid (Hr1.out.below hbw (by have h7 := HWL.out; omega))
 have HB2 := Lib.hid (HB1.out.trans (hbw.mono (by have h7 := HWL.out; omega)))
 have HZ2 : Hid (w.heap.size ≤ w1.heap.size) := Lib.hid HB2.out.size
 have HZM2 : Hid (W.heap.size ≤ w1.heap.size) := Lib.hid (Nat.le_trans HZM.out hbw.size)
 have Sl2 := Lib.hid ho
 clear ho hbw HZM Hd1 Hx1 Hr1 HB1 HZ1
 have HF := Lib.hid (cfind_any w1 me far x.s x.n p po n c no co xs (HR.out.kept HB2.out) HL.out.1.symm (by have := HL.out; omega))
 have a0 : w1.cell? ⟨w.heap.size, 0, none⟩ = some (.int .i64 me) := Hd2.out.cell 0
 have a1 : w1.cell? ⟨w.heap.size, 1, none⟩ = some (.int .i64 far) := Hd2.out.cell 1
 have a2 : w1.cell? ⟨w.heap.size, 2, none⟩ = some (.slice p n c) := Hd2.out.cell 2
 have a3 : w1.cell? ⟨w.heap.size, 3, none⟩ = some (.slice po no co) := Hd2.out.cell 3
 have x0 : w1.cell? ⟨(w.heap.size + 1), 0, none⟩ = some (.int .i64 x.s) := Hx2.out.cell 0
 have x1 : w1.cell? ⟨(w.heap.size + 1), 1, none⟩ = some (.int .i64 x.n) := Hx2.out.cell 1
 go_wp2_with fail
 clear a0 a1 a2 a3 x0 x1
 refine HF.out.mono ?_
 rintro y9 w2 ⟨⟨r, rfl, hat⟩, hb⟩
 clear HF
 have HAT := Lib.hid hat
 clear hat
 have HZM3 : Hid (W.heap.size ≤ w2.heap.size) := Lib.hid (Nat.le_trans HZM2.out hb.size)
 clear HZM2
 have Hd3 := kbq Hd2 hb
 have Hx3 := kbq Hx2 hb
 have Hr3 := kbq Hr2 hb
 have Sl3 := Lib.hid (Sl2.out.later hb)
 have HB3 := ktq HB2 hb
 have HZ3 := kzq HZ2 hb.size
 clear Hd2 Hx2 Hr2 Sl2 HB2 HZ2
 clear hb
 by_cases hr0 : r < 0
 ·skip
  have hlt : (r : Int) < 0 := hr0
  have HFL : Hid (cputL xs x r = xs ++ [x]) := by show _ = _; unfold cputL; rw [if_pos hr0]
  have HNL : Hid ((xs ++ [x]).length = n + 1) := by show _ = _; rw [List.length_append, HL.out.1]; rfl
  clear hr0
  have x0 : w2.cell? ⟨(w.heap.size + 1), 0, none⟩ = some (.int .i64 x.s) := Hx3.out.cell 0
  have x1 : w2.cell? ⟨(w.heap.size + 1), 1, none⟩ = some (.int .i64 x.n) := Hx3.out.cell 1
  have x2 : w2.cell? ⟨(w.heap.size + 1), 2, none⟩ = some (.int .i64 x.b) := Hx3.out.cell 2
  have x3 : w2.cell? ⟨(w.heap.size + 1), 3, none⟩ = some (.int .i64 x.c) := Hx3.out.cell 3
  have x4 : w2.cell? ⟨(w.heap.size + 1), 4, none⟩ = some (.int .i64 x.a) := Hx3.out.cell 4
  have x5 : w2.cell? ⟨(w.heap.size + 1), 5, none⟩ = some (.int .i64 x.r) := Hx3.out.cell 5
  have x6 : w2.cell? ⟨(w.heap.size + 1), 6, none⟩ = some (.int .i64 x.t) := Hx3.out.cell 6
  have x7 : w2.cell? ⟨(w.heap.size + 1), 7, none⟩ = some (.int .i64 x.y) := Hx3.out.cell 7
  go_wp2_with (at_builtin; with_reducible refine stop_appendI (.tmp 17) (.tmp 19) 24 rfl ?_)
  clear x0 x1 x2 x3 x4 x5 x6 x7
  refine wpList_append_t rfl (.tmp 17) (.tmp 19) 24 rfl 64 zeroVI 64 W.heap.size eltI rfl (by decide) (.slice p1 n c1) (.slice (some ⟨w2.heap.size, 0, none⟩) 1 1) xs [x] rfl rfl (Sl3.out.later (oneB w2 _)) (TRow.one_ encI x (Blk.new w2 #[.int .i64 x.s, .int .i64 x.n, .int .i64 x.b, .int .i64 x.c, .int .i64 x.a, .int .i64 x.r, .int .i64 x.t, .int .i64 x.y] 64) rfl (Nat.le_refl _)) (by have := HL.out; simp; omega) (by have h7 := HZM3.out; have h8 := (oneB w2 (.cells #[.int .i64 x.s, .int .i64 x.n, .int .i64 x.b, .int .i64 x.c, .int .i64 x.a, .int .i64 x.r, .int .i64 x.t, .int .i64 x.y] 64)).size; omega) (xs ++ [x]) (n + 1) rfl HNL.out ?_
  intro p3 c3 w3 ho _ hbw0
  have hbw := ((oneB w2 (.cells #[.int .i64 x.s, .int .i64 x.n, .int .i64 x.b, .int .i64 x.c, .int .i64 x.a, .int .i64 x.r, .int .i64 x.t, .int .i64 x.y] 64)).mono HZM3.out).trans hbw0
  clear hbw0
  clear Sl3
  have Hd4 := Lib.hid (Hd3.out.below hbw (by have h7 := HWL.out; omega))
  have Hx4 := Lib.hid (Hx3.out.below hbw (by have h7 := HWL.out; omega))
  have Hr4 := Lib.hid (Hr3.out.below hbw (by have h7 := HWL.out; omega))
  have HB4 := Lib.hid (HB3.out.trans (hbw.mono (by have h7 := HWL.out; omega)))
  have HZ4 : Hid (w.heap.size ≤ w3.heap.size) := Lib.hid HB4.out.size
  have Sl4 := Lib.hid ho
  clear ho hbw HZM3 Hd3 Hx3 Hr3 HB3 HZ3
  go_upto_region 6 with fail
  have z2 : w3.cell? ⟨w.heap.size, 2, none⟩ = some (.slice p n c) := Hd4.out.cell 2
  have f2 := Hd4.out.free 2
  go_upto_region 7 with fail
  clear z2 f2
  have hch := Lib.hid ((Chg.refl w.heap.size w3).set 2 (.slice p3 (n + 1) c3))
  have Hd5 : Hid (Blk _ w.heap.size #[.int .i64 me, .int .i64 far, .slice p3 (n + 1) c3, .slice po no co] 34) := Lib.hid (Hd4.out.set 2 (.slice p3 (n + 1) c3))
  have HB5 := ksq HB4 hch (by show w.heap.size ≤ w.heap.size; have h7 := HWL.out; omega)
  have HZ5 := kzq HZ4 hch.out.size
  have Hx5 := kcq Hx4 hch (by have h7 := HWL.out; omega)
  have Hr5 := kcq Hr4 hch (by have h7 := HWL.out; omega)
  have Sl5 := Lib.hid (Sl4.out.stay (fun b hb => hch.out.2 b (Sl4.out.lt b hb) (by have h1 := Sl4.out.block_ge b hb; have h7 := HWL.out; omega)))
  clear hch Hd4 Hx4 Hr4 Sl4 HB4 HZ4
  generalize (w3.setCell ⟨w.heap.size, 2, none⟩ (.slice p3 (n + 1) c3)) = WS at *
  have a0 : WS.cell? ⟨w.heap.size, 0, none⟩ = some (.int .i64 me) := Hd5.out.cell 0
  have a1 : WS.cell? ⟨w.heap.size, 1, none⟩ = some (.int .i64 far) := Hd5.out.cell 1
  have a2 : WS.cell? ⟨w.heap.size, 2, none⟩ = some (.slice p3 (n + 1) c3) := Hd5.out.cell 2
  have a3 : WS.cell? ⟨w.heap.size, 3, none⟩ = some (.slice po no co) := Hd5.out.cell 3
  go_wp2_with (with_reducible refine stop_storeT 34 (.tmp 4) (.tmp 27) rfl ?_)
  clear a0 a1 a2 a3
  have HTH : Hid (WS.there (w.heap.size + 1 + 1) 0 4) := Hr5.out.thereAt
  have hch : Hid (Chg (w.heap.size + 1 + 1) WS (WS.setCells (w.heap.size + 1 + 1) 0 (#[.int .i64 me, .int .i64 far, .slice p3 (n + 1) c3, .slice po no co] : Array Value).toList)) := Lib.hid (chg_putL _ _ _ _ _ (Chg.refl _ WS))
  have Hr6 : Hid (Blk (WS.setCells (w.heap.size + 1 + 1) 0 (#[.int .i64 me, .int .i64 far, .slice p3 (n + 1) c3, .slice po no co] : Array Value).toList) (w.heap.size + 1 + 1) #[.int .i64 me, .int .i64 far, .slice p3 (n + 1) c3, .slice po no co] 34) := Lib.hid (blk_put_all Hr5.out _ rfl)
  have HB6 : Hid (Below w.heap.size w (WS.setCells (w.heap.size + 1 + 1) 0 (#[.int .i64 me, .int .i64 far, .slice p3 (n + 1) c3, .slice po no co] : Array Value).toList)) := Lib.hid (below_put (by have h7 := HWL.out; omega) _ _ _ _ HB5.out)
  have HZ6 := kzq HZ5 hch.out.size
  have Hd6 := kcq Hd5 hch (by have h7 := HWL.out; omega)
  have Hx6 := kcq Hx5 hch (by have h7 := HWL.out; omega)
  have Sl6 := Lib.hid (Sl5.out.stay (fun b hb => hch.out.2 b (Sl5.out.lt b hb) (by have h1 := Sl5.out.block_ge b hb; have h7 := HWL.out; omega)))
  clear hch Hd5 Hx5 Hr5 Sl5 HB5 HZ5
  refine wpList_store_mid rfl 34 (.tmp 4) (.tmp 27) rfl (w.heap.size + 1 + 1) 0 #[.int .i64 me, .int .i64 far, .slice p3 (n + 1) c3, .slice po no co] rfl rfl HTH.out (infoDC rfl) (all_oneCell_toArray (by intro u hu; simp at hu; rcases hu with rfl | rfl | rfl | rfl <;> rfl)) ?_
  generalize (WS.setCells (w.heap.size + 1 + 1) 0 (#[.int .i64 me, .int .i64 far, .slice p3 (n + 1) c3, .slice po no co] : Array Value).toList) = WE at *
  clear HTH
  go_wp2_with fail
  have hfr := Hr6.out
  refine bodyPost_ret (v := .agg #[.int .i64 me, .int .i64 far, .slice p3 (n + 1) c3, .slice po no co]) (by simp [results, Try.results37, go_sem, hfr.cell 0, hfr.cell 1, hfr.cell 2, hfr.cell 3]) rfl ⟨r, p3, (n + 1), c3, HAT.out, rfl, by rw [HFL.out]; exact Sl6.out.less (by have h7 := HWL.out; omega), by rw [HFL.out]; exact HNL.out.symm, HB6.out⟩
 ·skip
  have hge : ¬ (r : Int) < 0 := hr0
  have hex : ∃ k : Nat, k < xs.length ∧ r = (k : Int) := by
   rcases HAT.out with ⟨k, h, e, _⟩ | ⟨e, _⟩
   ·exact ⟨k, h, e⟩
   ·omega
  obtain ⟨k, hk, rfl⟩ := hex
  have hkn : k < n := by have := HL.out.1; omega
  have hkI : (k : Int) < (n : Int) := by omega
  have HFL : Hid (cputL xs x (k : Int) = xs.set k x) := by show _ = _; unfold cputL; rw [if_neg hr0, Int.toNat_natCast]
  have HNL : Hid ((xs.set k x).length = n) := by show _ = _; rw [List.length_set, HL.out.1]
  clear hr0 hk
  obtain ⟨gl, curl, hp1, hgb, hgv, hcn, hcm, hcs, ht9, hn9⟩ := Sl3.out.lies (show 0 < n by omega)
  subst hp1
  have HCN : Hid (n ≤ c1) := hcn
  have HGL : Hid (W.heap.size ≤ gl) := hgb
  clear hcn hcm hcs hgv hgb ht9 hn9 curl
  have x0 : w2.cell? ⟨(w.heap.size + 1), 0, none⟩ = some (.int .i64 x.s) := Hx3.out.cell 0
  have x1 : w2.cell? ⟨(w.heap.size + 1), 1, none⟩ = some (.int .i64 x.n) := Hx3.out.cell 1
  have x2 : w2.cell? ⟨(w.heap.size + 1), 2, none⟩ = some (.int .i64 x.b) := Hx3.out.cell 2
  have x3 : w2.cell? ⟨(w.heap.size + 1), 3, none⟩ = some (.int .i64 x.c) := Hx3.out.cell 3
  have x4 : w2.cell? ⟨(w.heap.size + 1), 4, none⟩ = some (.int .i64 x.a) := Hx3.out.cell 4
  have x5 : w2.cell? ⟨(w.heap.size + 1), 5, none⟩ = some (.int .i64 x.r) := Hx3.out.cell 5
  have x6 : w2.cell? ⟨(w.heap.size + 1), 6, none⟩ = some (.int .i64 x.t) := Hx3.out.cell 6
  have x7 : w2.cell? ⟨(w.heap.size + 1), 7, none⟩ = some (.int .i64 x.y) := Hx3.out.cell 7
  go_wp2_with (with_reducible refine stop_storeT 64 (.tmp 24) (.tmp 23) rfl ?_)
  clear x0 x1 x2 x3 x4 x5 x6 x7
  have HTH := Lib.hid (Sl3.out.there k 8 (by have := HCN.out; show k * 8 + 8 ≤ c1 * 8; omega) (by omega))
  have HINF : Hid ((Try.prog.info? 64).map (·.size) = some (#[.int .i64 x.s, .int .i64 x.n, .int .i64 x.b, .int .i64 x.c, .int .i64 x.a, .int .i64 x.r, .int .i64 x.t, .int .i64 x.y] : Array Value).size) := by
   obtain ⟨ii, _, hi, _, hs, _⟩ := eltI
   show _ = _
   rw [hi]
   show some ii.size = some 8
   rw [hs]
  have hch : Hid (Chg gl w2 (w2.setCells gl (k * 8) (#[.int .i64 x.s, .int .i64 x.n, .int .i64 x.b, .int .i64 x.c, .int .i64 x.a, .int .i64 x.r, .int .i64 x.t, .int .i64 x.y] : Array Value).toList)) := Lib.hid (chg_putL _ _ _ _ _ (Chg.refl _ w2))
  have Hd4 := kcq Hd3 hch (by have h7 := HWL.out; have h8 := HGL.out; omega)
  have Hx4 := kcq Hx3 hch (by have h7 := HWL.out; have h8 := HGL.out; omega)
  have Hr4 := kcq Hr3 hch (by have h7 := HWL.out; have h8 := HGL.out; omega)
  have HB4 : Hid (Below w.heap.size w (w2.setCells gl (k * 8) (#[.int .i64 x.s, .int .i64 x.n, .int .i64 x.b, .int .i64 x.c, .int .i64 x.a, .int .i64 x.r, .int .i64 x.t, .int .i64 x.y] : Array Value).toList)) := Lib.hid (below_put (by have h7 := HWL.out; have h8 := HGL.out; omega) _ _ _ _ HB3.out)
  have HZ4 : Hid (w.heap.size ≤ (w2.setCells gl (k * 8) (#[.int .i64 x.s, .int .i64 x.n, .int .i64 x.b, .int .i64 x.c, .int .i64 x.a, .int .i64 x.r, .int .i64 x.t, .int .i64 x.y] : Array Value).toList).heap.size) := Lib.hid HB4.out.size
  have Sl4 := Lib.hid (Sl3.out.put k hkn x)
  clear hch Hd3 Hx3 Hr3 Sl3 HB3 HZ3
  refine wpList_store_mid rfl 64 (.tmp 24) (.tmp 23) rfl gl (k * 8) #[.int .i64 x.s, .int .i64 x.n, .int .i64 x.b, .int .i64 x.c, .int .i64 x.a, .int .i64 x.r, .int .i64 x.t, .int .i64 x.y] rfl rfl HTH.out HINF.out (all_oneCell_toArray (encI.one x)) ?_
  replace Sl4 : Hid (OwnT encI (w2.setCells gl (k * 8) (#[.int .i64 x.s, .int .i64 x.n, .int .i64 x.b, .int .i64 x.c, .int .i64 x.a, .int .i64 x.r, .int .i64 x.t, .int .i64 x.y] : Array Value).toList) W.heap.size 64 (.slice (some ⟨gl, 0, none⟩) n c1) (xs.set k x)) := Sl4
  generalize (w2.setCells gl (k * 8) (#[.int .i64 x.s, .int .i64 x.n, .int .i64 x.b, .int .i64 x.c, .int .i64 x.a, .int .i64 x.r, .int .i64 x.t, .int .i64 x.y] : Array Value).toList) = w3 at *
  clear HTH HINF
  go_upto_region 6 with fail
  have z2 : w3.cell? ⟨w.heap.size, 2, none⟩ = some (.slice p n c) := Hd4.out.cell 2
  have f2 := Hd4.out.free 2
  go_upto_region 7 with fail
  clear z2 f2
  have hch := Lib.hid ((Chg.refl w.heap.size w3).set 2 (.slice (some ⟨gl, 0, none⟩) n c1))
  have Hd5 : Hid (Blk _ w.heap.size #[.int .i64 me, .int .i64 far, .slice (some ⟨gl, 0, none⟩) n c1, .slice po no co] 34) := Lib.hid (Hd4.out.set 2 (.slice (some ⟨gl, 0, none⟩) n c1))
  have HB5 := ksq HB4 hch (by show w.heap.size ≤ w.heap.size; have h7 := HWL.out; omega)
  have HZ5 := kzq HZ4 hch.out.size
  have Hx5 := kcq Hx4 hch (by have h7 := HWL.out; omega)
  have Hr5 := kcq Hr4 hch (by have h7 := HWL.out; omega)
  have Sl5 := Lib.hid (Sl4.out.stay (fun b hb => hch.out.2 b (Sl4.out.lt b hb) (by have h1 := Sl4.out.block_ge b hb; have h7 := HWL.out; omega)))
  clear hch Hd4 Hx4 Hr4 Sl4 HB4 HZ4
  generalize (w3.setCell ⟨w.heap.size, 2, none⟩ (.slice (some ⟨gl, 0, none⟩) n c1)) = WS at *
  have a0 : WS.cell? ⟨w.heap.size, 0, none⟩ = some (.int .i64 me) := Hd5.out.cell 0
  have a1 : WS.cell? ⟨w.heap.size, 1, none⟩ = some (.int .i64 far) := Hd5.out.cell 1
  have a2 : WS.cell? ⟨w.heap.size, 2, none⟩ = some (.slice (some ⟨gl, 0, none⟩) n c1) := Hd5.out.cell 2
  have a3 : WS.cell? ⟨w.heap.size, 3, none⟩ = some (.slice po no co) := Hd5.out.cell 3
  go_wp2_with (with_reducible refine stop_storeT 34 (.tmp 4) (.tmp 27) rfl ?_)
  clear a0 a1 a2 a3
  have HTH : Hid (WS.there (w.heap.size + 1 + 1) 0 4) := Hr5.out.thereAt
  have hch : Hid (Chg (w.heap.size + 1 + 1) WS (WS.setCells (w.heap.size + 1 + 1) 0 (#[.int .i64 me, .int .i64 far, .slice (some ⟨gl, 0, none⟩) n c1, .slice po no co] : Array Value).toList)) := Lib.hid (chg_putL _ _ _ _ _ (Chg.refl _ WS))
  have Hr6 : Hid (Blk (WS.setCells (w.heap.size + 1 + 1) 0 (#[.int .i64 me, .int .i64 far, .slice (some ⟨gl, 0, none⟩) n c1, .slice po no co] : Array Value).toList) (w.heap.size + 1 + 1) #[.int .i64 me, .int .i64 far, .slice (some ⟨gl, 0, none⟩) n c1, .slice po no co] 34) := Lib.hid (blk_put_all Hr5.out _ rfl)
  have HB6 : Hid (Below w.heap.size w (WS.setCells (w.heap.size + 1 + 1) 0 (#[.int .i64 me, .int .i64 far, .slice (some ⟨gl, 0, none⟩) n c1, .slice po no co] : Array Value).toList)) := Lib.hid (below_put (by have h7 := HWL.out; omega) _ _ _ _ HB5.out)
  have HZ6 := kzq HZ5 hch.out.size
  have Hd6 := kcq Hd5 hch (by have h7 := HWL.out; omega)
  have Hx6 := kcq Hx5 hch (by have h7 := HWL.out; omega)
  have Sl6 := Lib.hid (Sl5.out.stay (fun b hb => hch.out.2 b (Sl5.out.lt b hb) (by have h1 := Sl5.out.block_ge b hb; have h7 := HWL.out; omega)))
  clear hch Hd5 Hx5 Hr5 Sl5 HB5 HZ5
  refine wpList_store_mid rfl 34 (.tmp 4) (.tmp 27) rfl (w.heap.size + 1 + 1) 0 #[.int .i64 me, .int .i64 far, .slice (some ⟨gl, 0, none⟩) n c1, .slice po no co] rfl rfl HTH.out (infoDC rfl) (all_oneCell_toArray (by intro u hu; simp at hu; rcases hu with rfl | rfl | rfl | rfl <;> rfl)) ?_
  generalize (WS.setCells (w.heap.size + 1 + 1) 0 (#[.int .i64 me, .int .i64 far, .slice (some ⟨gl, 0, none⟩) n c1, .slice po no co] : Array Value).toList) = WE at *
  clear HTH
  go_wp2_with fail
  have hfr := Hr6.out
  refine bodyPost_ret (v := .agg #[.int .i64 me, .int .i64 far, .slice (some ⟨gl, 0, none⟩) n c1, .slice po no co]) (by simp [results, Try.results37, go_sem, hfr.cell 0, hfr.cell 1, hfr.cell 2, hfr.cell 3]) rfl ⟨_, (some ⟨gl, 0, none⟩), n, c1, HAT.out, rfl, by rw [HFL.out]; exact Sl6.out.less (by have h7 := HWL.out; omega), by rw [HFL.out]; exact HNL.out.symm, HB6.out⟩
end Go.Proofs.Ytbpfbebebppleaa
namespace Go.Proofs.Ytbpfbebebppleaa
open Go.RowKit
set_option linter.unusedSimpArgs false
section
variable {α : Type} {f : α → Pos}
theorem mp_ne {X : List α} (h : SortedP (X.map f)) : X.Pairwise (fun x y => ¬ ((f x).e = (f y).e ∧ (f x).c = (f y).c)) := by
 unfold SortedP at h
 rw [List.pairwise_map] at h
 refine h.imp ?_
 intro a b hab hs
 rw [ordP_lt] at hab
 omega
theorem mp_find {X : List α} (h : X.Pairwise (fun x y => ¬ ((f x).e = (f y).e ∧ (f x).c = (f y).c))) (s n : Int) (q : α) : X.find? (fun x => decide ((f x).e = s ∧ (f x).c = n)) = some q ↔ q ∈ X ∧ (f q).e = s ∧ (f q).c = n := by
 constructor
 ·intro h1
  exact ⟨List.mem_of_find?_eq_some h1, by simpa using List.find?_some h1⟩
 ·rintro ⟨hq, h1, h2⟩
  induction X with
  | nil => cases hq
  | cons y X ih =>
   rw [List.pairwise_cons] at h
   rw [List.find?_cons]
   rcases List.mem_cons.1 hq with rfl | hq
   ·simp [h1, h2]
   ·have hn : ¬ ((f y).e = s ∧ (f y).c = n) := fun h3 => h.1 q hq ⟨by omega, by omega⟩
    rw [decide_eq_false hn]
    exact ih h.2 hq
theorem mp_perm_ne {X Y : List α} (hp : X.Perm Y) (h : SortedP (Y.map f)) : X.Pairwise (fun x y => ¬ ((f x).e = (f y).e ∧ (f x).c = (f y).c)) :=
 (hp.pairwise_iff (fun {_ _} h1 h2 => h1 ⟨h2.1.symm, h2.2.symm⟩)).2 (mp_ne h)
theorem mp_perm_find {X Y : List α} (hp : X.Perm Y) (h : SortedP (Y.map f)) (s n : Int) : X.find? (fun x => decide ((f x).e = s ∧ (f x).c = n)) = Y.find? (fun x => decide ((f x).e = s ∧ (f x).c = n)) := by
 refine Option.ext (fun q => ?_)
 rw [mp_find (mp_perm_ne hp h), mp_find (mp_ne h), hp.mem_iff]
theorem mp_ins (X : List α) (x : α) : (X.filter (fun z => decide (ordP (f z) (f x) < 0)) ++ [x] ++ X.filter (fun z => decide (0 < ordP (f z) (f x)))).Perm (x :: X.filter (fun z => decide (¬ ((f z).e = (f x).e ∧ (f z).c = (f x).c)))) := by
 have h1 : (X.filter (fun z => decide (ordP (f z) (f x) < 0)) ++ X.filter (fun z => decide (0 < ordP (f z) (f x)))).Perm (X.filter (fun z => decide (¬ ((f z).e = (f x).e ∧ (f z).c = (f x).c)))) := by
  induction X with
  | nil => exact List.Perm.nil
  | cons a X ih =>
   have hl := @ordP_lt (f a) (f x)
   have hg := @ordP_gt (f a) (f x)
   by_cases h2 : ordP (f a) (f x) < 0
   ·have h3 : ¬ (0 < ordP (f a) (f x)) := by omega
    have h4 : ¬ ((f a).e = (f x).e ∧ (f a).c = (f x).c) := by have := hl.1 h2; omega
    rw [List.filter_cons_of_pos (by simpa using h2), List.filter_cons_of_neg (by simpa using h3), List.filter_cons_of_pos (p := fun z => decide (¬ ((f z).e = (f x).e ∧ (f z).c = (f x).c))) (decide_eq_true h4), List.cons_append]
    exact ih.cons a
   ·by_cases h3 : 0 < ordP (f a) (f x)
    ·have h4 : ¬ ((f a).e = (f x).e ∧ (f a).c = (f x).c) := by have := hg.1 h3; omega
     rw [List.filter_cons_of_neg (by simpa using h2), List.filter_cons_of_pos (by simpa using h3), List.filter_cons_of_pos (p := fun z => decide (¬ ((f z).e = (f x).e ∧ (f z).c = (f x).c))) (decide_eq_true h4)]
     exact List.perm_middle.trans (ih.cons a)
    ·have h4 : (f a).e = (f x).e ∧ (f a).c = (f x).c := by
      have h5 : ¬ _ := fun h => h2 (hl.2 h)
      have h6 : ¬ _ := fun h => h3 (hg.2 h)
      omega
     rw [List.filter_cons_of_neg (by simpa using h2), List.filter_cons_of_neg (by simpa using h3), List.filter_cons_of_neg (by simpa using h4)]
     exact ih
 rw [List.append_assoc]
 exact List.perm_middle.trans (h1.cons x)
end
theorem perm_findX {X Y : List Itm} (hp : X.Perm Y) (h : SortX Y) (s n : Int) : findX X s n = findX Y s n := mp_perm_find (f := posI) hp h s n
theorem perm_findO {X Y : List Ord} (hp : X.Perm Y) (h : SortO Y) (s n : Int) : findO X s n = findO Y s n := mp_perm_find (f := posO) hp h s n
/-- Where an item is found. -/
theorem at_findX {xs : List Itm} {s n r : Int} (h : AtI xs s n r) : (r = -1 ∧ findX xs s n = none) ∨ ∃ (k : Nat) (hk : k < xs.length), r = k ∧ findX xs s n = some xs[k] := by
 rcases h with ⟨k, hk, rfl, h1, h2, h3⟩ | ⟨rfl, h⟩
 ·refine .inr ⟨k, hk, rfl, ?_⟩
  unfold findX
  rw [List.find?_eq_some_iff_getElem]
  refine ⟨decide_eq_true ⟨h1, h2⟩, k, hk, rfl, fun j hj => ?_⟩
  have h4 := h3 j (by omega) hj
  show (!decide (xs[j].s = s ∧ xs[j].n = n)) = true
  rw [decide_eq_false h4]
  rfl
 ·refine .inl ⟨rfl, ?_⟩
  unfold findX
  rw [List.find?_eq_none]
  intro x hx
  simpa using h x hx
theorem cput_perm {xs ys : List Itm} {x : Itm} {r : Int} (h : xs.Perm ys) (hs : SortX ys) (ha : AtI xs x.s x.n r) : (cputL xs x r).Perm (insX ys x) := by
 have h1 : (insX ys x).Perm (x :: ys.filter (fun z => decide (¬ ((posI z).e = (posI x).e ∧ (posI z).c = (posI x).c)))) := mp_ins (f := posI) ys x
 refine List.Perm.trans ?_ h1.symm
 refine List.Perm.trans ?_ ((h.filter (fun z => decide (¬ ((posI z).e = (posI x).e ∧ (posI z).c = (posI x).c)))).cons x)
 have hne := mp_perm_ne (f := posI) h hs
 rcases ha with ⟨k, hk, rfl, h3, h4, h5⟩ | ⟨rfl, h3⟩
 ·unfold cputL
  rw [if_neg (by omega), Int.toNat_natCast]
  have e1 : xs = xs.take k ++ xs[k] :: xs.drop (k + 1) := by rw [List.getElem_cons_drop, List.take_append_drop]
  have e2 : xs.set k x = xs.take k ++ x :: xs.drop (k + 1) := by rw [List.set_eq_take_append_cons_drop, if_pos hk]
  rw [e1, List.pairwise_append, List.pairwise_cons] at hne
  have e3 : xs.filter (fun z => decide (¬ ((posI z).e = (posI x).e ∧ (posI z).c = (posI x).c))) = xs.take k ++ xs.drop (k + 1) := by
   conv => lhs; rw [e1]
   rw [List.filter_append, List.filter_cons_of_neg (by show ¬ decide (¬ (xs[k].s = x.s ∧ xs[k].n = x.n)) = true; simp [h3, h4]), List.filter_eq_self.2 (fun z hz => ?_), List.filter_eq_self.2 (fun z hz => ?_)]
   ·have h6 := hne.2.1.1 z hz
    unfold posI at h6 ⊢
    dsimp only at h6 ⊢
    rw [h3, h4] at h6
    exact decide_eq_true (fun h => h6 ⟨h.1.symm, h.2.symm⟩)
   ·have h6 := hne.2.2 z hz xs[k] (List.mem_cons_self ..)
    unfold posI at h6 ⊢
    dsimp only at h6 ⊢
    rw [h3, h4] at h6
    exact decide_eq_true h6
  rw [e2, e3]
  exact List.perm_middle
 ·unfold cputL
  have e3 : xs.filter (fun z => decide (¬ ((posI z).e = (posI x).e ∧ (posI z).c = (posI x).c))) = xs := List.filter_eq_self.2 (fun z hz => decide_eq_true (h3 z hz))
  rw [if_pos (by decide), e3]
  exact List.perm_append_singleton x xs
/-- The document's orders with one more. -/
def docO (os : List Ord) (o : Ord) : List Ord := os.filter (fun z => decide (¬ (z.s = o.s ∧ z.n = o.n))) ++ [o]
theorem docO_perm {os ys : List Ord} {o : Ord} (h : os.Perm ys) : (docO os o).Perm (insO ys o) := by
 have h1 : (insO ys o).Perm (o :: ys.filter (fun z => decide (¬ ((posO z).e = (posO o).e ∧ (posO z).c = (posO o).c)))) := mp_ins (f := posO) ys o
 refine List.Perm.trans ?_ h1.symm
 refine List.Perm.trans (List.perm_append_singleton _ _) ?_
 exact (h.filter _).cons o
/-- What is expected, order by order. -/
def expB (x : Itm) (far : Int) (o : Ord) : Bool := (o.s == x.s && o.n == x.n) && nearB o.a x.a far
theorem exp_any {d : Dsk} {os : List Ord} (hp : os.Perm d.os) (ho : SortO d.os) (x : Itm) : expectsB d x = os.any (expB x d.far) := by
 unfold expectsB
 have h1 : findO d.os x.s x.n = os.find? (fun z => decide ((posO z).e = x.s ∧ (posO z).c = x.n)) := (perm_findO hp ho x.s x.n).symm
 have h2 := mp_perm_ne (f := posO) hp ho
 cases hf : findO d.os x.s x.n with
 | none =>
  rw [hf] at h1
  have h3 := List.find?_eq_none.1 h1.symm
  symm
  rw [List.any_eq_false]
  intro o hoo
  have h4 := h3 o hoo
  unfold posO at h4
  simp only [decide_eq_true_eq] at h4
  unfold expB
  cases h5 : (o.s == x.s && o.n == x.n)
  ·simp
  ·exact absurd (by simpa using h5) h4
 | some q =>
  rw [hf] at h1
  obtain ⟨h3, h4, h5⟩ := (mp_find h2 x.s x.n q).1 h1.symm
  dsimp only
  rw [Bool.eq_iff_iff, List.any_eq_true]
  unfold posO at h4 h5
  constructor
  ·intro h6
   exact ⟨q, h3, by unfold expB; simp only [] at h4 h5; simp [h4, h5, h6]⟩
  ·rintro ⟨o, hoo, h6⟩
   unfold expB at h6
   simp only [Bool.and_eq_true, beq_iff_eq] at h6
   have h7 := (mp_find h2 x.s x.n o).2 ⟨hoo, h6.1.1, h6.1.2⟩
   rw [← h1] at h7
   rw [Option.some.inj h7]
   exact h6.2
/-- The amounts that are expected. -/
def OrdOk (os : List Ord) : Prop := ∀ o ∈ os, 1 ≤ o.a ∧ o.a ≤ 1125899906842624
theorem do_ordOk {d : Dsk} (m : Msg) (fro : Int) (h : OrdOk d.os) : OrdOk (doM d m fro).1.os := by
 have hb : ∀ r ks, (d.beh r ks).1.os = d.os := fun r ks => by
  unfold Dsk.beh Dsk.put
  split <;> rfl
 unfold doM clientM nodeM
 split
 ·split
  ·rw [hb]; exact h
  ·split
   ·unfold Dsk.exp expO
    dsimp only
    split
    ·rename_i h1
     intro o hoo
     rcases insO_mem hoo with rfl | h2
     ·exact h1.2
     ·exact h o h2
    ·exact h
   ·split
    ·rw [hb]; exact h
    ·split
     ·rw [hb]; exact h
     ·split
      ·rw [hb]; exact h
      ·exact h
 ·split
  ·rw [hb]; exact h
  ·split
   ·rw [hb]; exact h
   ·split
    ·rw [hb]; exact h
    ·split
     ·rw [hb]; exact h
     ·exact h
end Go.Proofs.Ytbpfbebebppleaa
namespace Go.Proofs.Ytbpfbebebppleaa
open Go.RowKit
set_option linter.unusedSimpArgs false in
set_option maxHeartbeats 4000000 in
set_option maxRecDepth 100000 in
theorem newB_any (w : World) (me : Int) (h : 0 ≤ me ∧ me < 8) : Calls Try.prog 18 #[.int .i64 me] w fun e w' => e = .returned (.tuple #[bookV me (.slice none 0 0) (.slice none 0 0), .int .i64 0]) ∧ Below w.heap.size w w' := by
 have h1 : ¬ me < 0 := by omega
 have h2 : ¬ (8 : Int) ≤ me := by omega
 unfold bookV
 clear h
 go_enter Try.func18, Try.ntmps18
 go_wp2
 refine bodyPost_ret (v := .tuple #[.agg #[.int .i64 me, .slice none 0 0, .slice none 0 0], .int .i64 0]) (by simp [results, Try.results18, go_sem]) rfl ⟨rfl, ?_⟩
 exact oneB w _
end Go.Proofs.Ytbpfbebebppleaa
namespace Go.Proofs.Ytbpfbebebppleaa
open Go.RowKit
def itmEq (x y : Itm) : Bool := x.s == y.s && x.n == y.n && x.b == y.b && x.c == y.c && x.a == y.a && x.r == y.r && x.t == y.t && x.y == y.y
theorem itmEq_iff {x y : Itm} : itmEq x y = true ↔ x = y := by
 unfold itmEq
 simp only [Bool.and_eq_true, beq_iff_eq]
 constructor
 ·rintro ⟨⟨⟨⟨⟨⟨⟨h1, h2⟩, h3⟩, h4⟩, h5⟩, h6⟩, h7⟩, h8⟩
  cases x; cases y
  simp only at h1 h2 h3 h4 h5 h6 h7 h8
  rw [h1, h2, h3, h4, h5, h6, h7, h8]
 ·rintro rfl
  exact ⟨⟨⟨⟨⟨⟨⟨rfl, rfl⟩, rfl⟩, rfl⟩, rfl⟩, rfl⟩, rfl⟩, rfl⟩
theorem itmEq_dec (x y : Itm) : itmEq x y = decide (x = y) := by
 rw [Bool.eq_iff_iff, itmEq_iff, decide_eq_true_eq]
theorem item_eq (x y : Itm) (w : World) : (Op.equalIn 10000 64 (.agg #[.int .i64 x.s, .int .i64 x.n, .int .i64 x.b, .int .i64 x.c, .int .i64 x.a, .int .i64 x.r, .int .i64 x.t, .int .i64 x.y]) (.agg #[.int .i64 y.s, .int .i64 y.n, .int .i64 y.b, .int .i64 y.c, .int .i64 y.a, .int .i64 y.r, .int .i64 y.t, .int .i64 y.y])).run Try.prog w = .ok (itmEq x y) w := by
 cases h0 : x.s == y.s
 ·have e : itmEq x y = false := by unfold itmEq; rw [h0]; rfl
  rw [e]
  go_simp
 cases h1 : x.n == y.n
 ·have e : itmEq x y = false := by unfold itmEq; rw [h0, h1]; rfl
  rw [e]
  go_simp
 cases h2 : x.b == y.b
 ·have e : itmEq x y = false := by unfold itmEq; rw [h0, h1, h2]; rfl
  rw [e]
  go_simp
 cases h3 : x.c == y.c
 ·have e : itmEq x y = false := by unfold itmEq; rw [h0, h1, h2, h3]; rfl
  rw [e]
  go_simp
 cases h4 : x.a == y.a
 ·have e : itmEq x y = false := by unfold itmEq; rw [h0, h1, h2, h3, h4]; rfl
  rw [e]
  go_simp
 cases h5 : x.r == y.r
 ·have e : itmEq x y = false := by unfold itmEq; rw [h0, h1, h2, h3, h4, h5]; rfl
  rw [e]
  go_simp
 cases h6 : x.t == y.t
 ·have e : itmEq x y = false := by unfold itmEq; rw [h0, h1, h2, h3, h4, h5, h6]; rfl
  rw [e]
  go_simp
 cases h7 : x.y == y.y
 ·have e : itmEq x y = false := by unfold itmEq; rw [h0, h1, h2, h3, h4, h5, h6, h7]; rfl
  rw [e]
  go_simp
 ·have e : itmEq x y = true := by unfold itmEq; rw [h0, h1, h2, h3, h4, h5, h6, h7]; rfl
  rw [e]
  go_simp
end Go.Proofs.Ytbpfbebebppleaa
namespace Go.Proofs.Ytbpfbebebppleaa
open Go.RowKit
set_option linter.unusedSimpArgs false
/-- Something that is said, as it lies in cells. -/
def sdX (p : Int × Msg) : SdX := ⟨p.1, msgX0 p.2⟩
/-- What a desk answers: the desk behind it, what is said, the error. -/
def DoPost (w : World) (P : Nat → Prop) (R : Dsk × List (Int × Msg) × Int) (y : Ending) (w' : World) : Prop :=
 Below w.heap.size w w' ∧ ∃ pi2 ci2 po2 co2 vs, y = .returned (.tuple #[.agg #[.int .i64 R.1.me, .slice pi2 R.1.xs.length ci2, .slice po2 R.1.os.length co2, .int .i64 R.1.far], vs, .int .i64 R.2.2]) ∧ DRow w' R.1 pi2 ci2 po2 co2 ∧ At (fun b => P b ∨ w.heap.size ≤ b) (.slice pi2 R.1.xs.length ci2) R.1.xs.length ∧ At (fun b => P b ∨ w.heap.size ≤ b) (.slice po2 R.1.os.length co2) R.1.os.length ∧ OwnT encS w' w.heap.size 58 vs (R.2.1.map sdX)
theorem actPost_do {w : World} {P : Nat → Prop} {d : Dsk} {pi po : Option Addr} {ci co : Nat} {r : Itm × Int} {ks : List Int} {y : Ending} {w' : World} (h : DRow w d pi ci po co) (hi : At P (.slice pi d.xs.length ci) d.xs.length) (ho : At P (.slice po d.os.length co) d.os.length) (ha : ActPost w P d pi po ci co r ks y w') : DoPost w P (d.beh r ks) y w' := by
 obtain ⟨hb, ⟨h0, rfl⟩ | ⟨h0, pi', ci', vs, rfl, hr, hat, _, hown⟩⟩ := ha
 ·unfold Dsk.beh
  rw [if_neg h0]
  exact ⟨hb, pi, ci, po, co, _, rfl, h.kept hb, hi.imp (fun _ h => .inl h), ho.imp (fun _ h => .inl h), OwnT.nil_ _ _ _ _⟩
 ·unfold Dsk.beh
  rw [if_pos h0]
  refine ⟨hb, pi', ci', po, co, vs, rfl, hr, hat, ho.imp (fun _ h => .inl h), ?_⟩
  have e : (ks.map (fun k => (toI d.me r.1, aboutM k r.1))).map sdX = ks.map (fun k => ⟨toI d.me r.1, msgX0 (aboutM k r.1)⟩) := by rw [List.map_map]; rfl
  show OwnT encS w' w.heap.size _ vs ((ks.map (fun k => (toI d.me r.1, aboutM k r.1))).map sdX)
  rw [e]
  exact hown
set_option linter.unusedSimpArgs false in
set_option maxHeartbeats 4000000 in
set_option maxRecDepth 100000 in
theorem dorder_any (w : World) (d : Dsk) (pi po : Option Addr) (ci co : Nat) (m : Msg) (vl vn : Value) (fro : Int) (h : DRow w d pi ci po co) (hn : d.xs.length < 1024) (P : Nat → Prop) (hw0 : ∀ b, P b → b < w.heap.size) (hno : d.os.length < 1024) (hat : At P (.slice pi d.xs.length ci) d.xs.length) (hato : At P (.slice po d.os.length co) d.os.length) :
  Calls Try.prog 31 #[(deskV d.me pi d.xs.length ci po d.os.length co d.far), m.v vl vn, .int .i64 fro] w fun y w' => DoPost w P (d.exp m, [], (expO d.me d.os m.s m.n m.a).2) y w' := by
 have HT := Lib.hid (three_new w #[.int .i64 d.me, .slice pi d.xs.length ci, .slice po d.os.length co, .int .i64 d.far] #[.int .i64 m.k, .int .i64 m.s, .int .i64 m.n, .int .i64 m.b, .int .i64 m.c, .int .i64 m.r, .int .i64 m.y, .int .i64 m.a, .bool m.t, vl, vn] #[.int .i64 0, .slice none 0 0, .slice none 0 0, .int .i64 0] 29 40 29)
 have HH := Lib.hid h
 have HNN := Lib.hid hn
 have HW0 := Lib.hid hw0
 have HA0 := Lib.hid hat
 have HO0 := Lib.hid hato
 have HG := Lib.hid (expect_any (((w.alloc (.cells #[.int .i64 d.me, .slice pi d.xs.length ci, .slice po d.os.length co, .int .i64 d.far] 29)).alloc (.cells #[.int .i64 m.k, .int .i64 m.s, .int .i64 m.n, .int .i64 m.b, .int .i64 m.c, .int .i64 m.r, .int .i64 m.y, .int .i64 m.a, .bool m.t, vl, vn] 40)).alloc (.cells #[.int .i64 0, .slice none 0 0, .slice none 0 0, .int .i64 0] 29)) d.me pi po d.xs.length ci co m.s m.n m.a d.os P (h.orders.kept HT.out.low) h.so hno hato)
 have hso : SortO (expO d.me d.os m.s m.n m.a).1 := by
  unfold expO
  split
  ·exact insO_sorted h.so
  ·exact h.so
 have hlo : (expO d.me d.os m.s m.n m.a).1.length ≤ 1024 := by
  unfold expO
  split
  ·have := insO_len (x := ⟨m.s, m.n, m.a⟩) h.so
   show (insO d.os ⟨m.s, m.n, m.a⟩).length ≤ 1024
   omega
  ·show d.os.length ≤ 1024
   omega
 have HNO := Lib.hid hno
 clear h hn hno hw0 hat hato
 unfold Dsk.exp
 generalize expO d.me d.os m.s m.n m.a = R at *
 have HSO := Lib.hid hso
 have HLO := Lib.hid hlo
 clear hso hlo
 unfold bookV idV at HG
 unfold deskV Msg.v
 go_enter Try.func31, Try.ntmps31
 go_upto_region 1 with fail
 generalize (((w.alloc (.cells #[.int .i64 d.me, .slice pi d.xs.length ci, .slice po d.os.length co, .int .i64 d.far] 29)).alloc (.cells #[.int .i64 m.k, .int .i64 m.s, .int .i64 m.n, .int .i64 m.b, .int .i64 m.c, .int .i64 m.r, .int .i64 m.y, .int .i64 m.a, .bool m.t, vl, vn] 40)).alloc (.cells #[.int .i64 0, .slice none 0 0, .slice none 0 0, .int .i64 0] 29)) = W at *
 have a0 : W.cell? ⟨w.heap.size, 0, none⟩ = some (.int .i64 d.me) := HT.out.b0.cell 0
 have a1 : W.cell? ⟨w.heap.size, 1, none⟩ = some (.slice pi d.xs.length ci) := HT.out.b0.cell 1
 have a2 : W.cell? ⟨w.heap.size, 2, none⟩ = some (.slice po d.os.length co) := HT.out.b0.cell 2
 have c1 : W.cell? ⟨w.heap.size + 1, 1, none⟩ = some (.int .i64 m.s) := HT.out.b1.cell 1
 have c2 : W.cell? ⟨w.heap.size + 1, 2, none⟩ = some (.int .i64 m.n) := HT.out.b1.cell 2
 have c7 : W.cell? ⟨w.heap.size + 1, 7, none⟩ = some (.int .i64 m.a) := HT.out.b1.cell 7
 go_wp2_with fail
 clear a0 a1 a2 c1 c2 c7
 refine HG.out.mono ?_
 rintro y w1 ⟨po2, co2, rfl, hrow, hat2, hb⟩
 have HLT : Hid (w.heap.size + 1 + 1 < W.heap.size) := HT.out.b2.lt
 have HRW := Lib.hid (hrow.kept (oneB w1 (.cells #[.int .i64 d.me, .slice pi d.xs.length ci, .slice po2 R.1.length co2] 27)))
 have HAT := Lib.hid hat2
 have HB6 := Lib.hid ((HT.out.low.trans (hb.mono HT.out.low.size)).alloc (HT.out.low.trans (hb.mono HT.out.low.size)).size (.cells #[.int .i64 d.me, .slice pi d.xs.length ci, .slice po2 R.1.length co2] 27))
 have HD6 : Hid (Blk (w1.alloc (.cells #[.int .i64 d.me, .slice pi d.xs.length ci, .slice po2 R.1.length co2] 27)) w.heap.size #[.int .i64 d.me, .slice pi d.xs.length ci, .slice po d.os.length co, .int .i64 d.far] 29) := (HT.out.b0.below hb HT.out.b0.lt).alloc _
 have HR6 : Hid (Blk (w1.alloc (.cells #[.int .i64 d.me, .slice pi d.xs.length ci, .slice po2 R.1.length co2] 27)) (w.heap.size + 1 + 1) #[.int .i64 0, .slice none 0 0, .slice none 0 0, .int .i64 0] 29) := (HT.out.b2.below hb HT.out.b2.lt).alloc _
 have HQ6 := Lib.hid (Blk.new w1 #[.int .i64 d.me, .slice pi d.xs.length ci, .slice po2 R.1.length co2] 27)
 clear hb HG HT hrow hat2
 go_upto_region 2 with fail
 generalize w1.alloc (.cells #[.int .i64 d.me, .slice pi d.xs.length ci, .slice po2 R.1.length co2] 27) = w6 at *
 generalize w1.heap.size = gx at *
 have x0 : w6.cell? ⟨gx, 0, none⟩ = some (.int .i64 d.me) := HQ6.out.cell 0
 have x1 : w6.cell? ⟨gx, 1, none⟩ = some (.slice pi d.xs.length ci) := HQ6.out.cell 1
 have x2 : w6.cell? ⟨gx, 2, none⟩ = some (.slice po2 R.1.length co2) := HQ6.out.cell 2
 have a0 : w6.cell? ⟨w.heap.size, 0, none⟩ = some (.int .i64 d.me) := HD6.out.cell 0
 have a1 : w6.cell? ⟨w.heap.size, 1, none⟩ = some (.slice pi d.xs.length ci) := HD6.out.cell 1
 have a2 : w6.cell? ⟨w.heap.size, 2, none⟩ = some (.slice po d.os.length co) := HD6.out.cell 2
 have a3 : w6.cell? ⟨w.heap.size, 3, none⟩ = some (.int .i64 d.far) := HD6.out.cell 3
 have f0 := HD6.out.free 0
 have f1 := HD6.out.free 1
 have f2 := HD6.out.free 2
 go_upto_region 3 with fail
 clear a0 a1 a2 a3 x0 x1 x2
 clear f0 f1 f2
 have HD7 : Hid (Blk (((w6.setCell ⟨w.heap.size, 0, none⟩ (.int .i64 d.me)).setCell ⟨w.heap.size, 1, none⟩ (.slice pi d.xs.length ci)).setCell ⟨w.heap.size, 2, none⟩ (.slice po2 R.1.length co2)) w.heap.size #[.int .i64 d.me, .slice pi d.xs.length ci, .slice po2 R.1.length co2, .int .i64 d.far] 29) := ((HD6.out.set 0 (.int .i64 d.me)).set 1 (.slice pi d.xs.length ci)).set 2 (.slice po2 R.1.length co2)
 have HR7 : Hid (Blk (((w6.setCell ⟨w.heap.size, 0, none⟩ (.int .i64 d.me)).setCell ⟨w.heap.size, 1, none⟩ (.slice pi d.xs.length ci)).setCell ⟨w.heap.size, 2, none⟩ (.slice po2 R.1.length co2)) (w.heap.size + 1 + 1) #[.int .i64 0, .slice none 0 0, .slice none 0 0, .int .i64 0] 29) := ((HR6.out.setOther (a := ⟨w.heap.size, 0, none⟩) (by show w.heap.size ≠ w.heap.size + 1 + 1; omega) _).setOther (a := ⟨w.heap.size, 1, none⟩) (by show w.heap.size ≠ w.heap.size + 1 + 1; omega) _).setOther (a := ⟨w.heap.size, 2, none⟩) (by show w.heap.size ≠ w.heap.size + 1 + 1; omega) _
 have HB7 : Hid (Below w.heap.size w (((w6.setCell ⟨w.heap.size, 0, none⟩ (.int .i64 d.me)).setCell ⟨w.heap.size, 1, none⟩ (.slice pi d.xs.length ci)).setCell ⟨w.heap.size, 2, none⟩ (.slice po2 R.1.length co2))) := ((HB6.out.setCell (p := ⟨w.heap.size, 0, none⟩) (Nat.le_refl _) _).setCell (p := ⟨w.heap.size, 1, none⟩) (Nat.le_refl _) _).setCell (p := ⟨w.heap.size, 2, none⟩) (Nat.le_refl _) _
 have HC7 : Hid (Chg w.heap.size w6 (((w6.setCell ⟨w.heap.size, 0, none⟩ (.int .i64 d.me)).setCell ⟨w.heap.size, 1, none⟩ (.slice pi d.xs.length ci)).setCell ⟨w.heap.size, 2, none⟩ (.slice po2 R.1.length co2))) := (((Chg.refl _ w6).set 0 _).set 1 _).set 2 _
 generalize ((w6.setCell ⟨w.heap.size, 0, none⟩ (.int .i64 d.me)).setCell ⟨w.heap.size, 1, none⟩ (.slice pi d.xs.length ci)).setCell ⟨w.heap.size, 2, none⟩ (.slice po2 R.1.length co2) = w7 at *
 clear HD6 HR6 HB6 HQ6
 have a0 : w7.cell? ⟨w.heap.size, 0, none⟩ = some (.int .i64 d.me) := HD7.out.cell 0
 have a1 : w7.cell? ⟨w.heap.size, 1, none⟩ = some (.slice pi d.xs.length ci) := HD7.out.cell 1
 have a2 : w7.cell? ⟨w.heap.size, 2, none⟩ = some (.slice po2 R.1.length co2) := HD7.out.cell 2
 have a3 : w7.cell? ⟨w.heap.size, 3, none⟩ = some (.int .i64 d.far) := HD7.out.cell 3
 go_wp2_with (with_reducible refine stop_storeT 29 (.tmp 6) (.tmp 23) rfl ?_)
 have HTH : Hid (w7.there (w.heap.size + 1 + 1) 0 4) := HR7.out.thereAt
 have HF : Hid (Blk (w7.setCells (w.heap.size + 1 + 1) 0 (#[.int .i64 d.me, .slice pi d.xs.length ci, .slice po2 R.1.length co2, .int .i64 d.far] : Array Value).toList) (w.heap.size + 1 + 1) #[.int .i64 d.me, .slice pi d.xs.length ci, .slice po2 R.1.length co2, .int .i64 d.far] 29 ∧ Below w.heap.size w (w7.setCells (w.heap.size + 1 + 1) 0 (#[.int .i64 d.me, .slice pi d.xs.length ci, .slice po2 R.1.length co2, .int .i64 d.far] : Array Value).toList) ∧ Chg (w.heap.size + 1 + 1) w7 (w7.setCells (w.heap.size + 1 + 1) 0 (#[.int .i64 d.me, .slice pi d.xs.length ci, .slice po2 R.1.length co2, .int .i64 d.far] : Array Value).toList)) := ⟨blk_put_all HR7.out _ rfl, below_put (by omega) _ _ _ _ HB7.out, chg_putL _ _ _ _ _ (Chg.refl _ w7)⟩
 refine wpList_store_mid rfl 29 (.tmp 6) (.tmp 23) rfl (w.heap.size + 1 + 1) 0 #[.int .i64 d.me, .slice pi d.xs.length ci, .slice po2 R.1.length co2, .int .i64 d.far] rfl rfl HTH.out (infoD4 rfl) (all_oneCell_toArray (by intro u hu; simp at hu; rcases hu with rfl | rfl | rfl | rfl <;> rfl)) ?_
 generalize World.setCells w7 _ _ _ = w8 at *
 clear HTH a0 a1 a2 a3
 go_wp2_with fail
 have hf := HF.out.1
 have hn1 : ¬ (P w.heap.size ∨ W.heap.size ≤ w.heap.size) := by
  have h2 := HLT.out
  rintro (h | h)
  ·have h4 := HW0.out _ h; omega
  ·omega
 have hn2 : ¬ (P (w.heap.size + 1 + 1) ∨ W.heap.size ≤ w.heap.size + 1 + 1) := by
  have h2 := HLT.out
  rintro (h | h)
  ·have h4 := HW0.out _ h; omega
  ·omega
 refine bodyPost_ret (v := .tuple #[.agg #[.int .i64 d.me, .slice pi d.xs.length ci, .slice po2 R.1.length co2, .int .i64 d.far], .slice none 0 0, .int .i64 R.2]) (by simp [results, Try.results31, go_sem, hf.cell 0, hf.cell 1, hf.cell 2, hf.cell 3]) rfl ⟨HF.out.2.1, pi, ci, po2, co2, _, rfl, ?_, HA0.out.imp (fun _ h => .inl h), HAT.out.imp (fun b hb => hb.imp id (fun h => by have h2 := HLT.out; omega)), OwnT.nil_ _ _ _ _⟩
 exact ⟨HH.out.items.kept HF.out.2.1, (HRW.out.keepP HAT.out (KeepP.of_chg HC7.out hn1)).keepP HAT.out (KeepP.of_chg HF.out.2.2 hn2), HH.out.sx, HSO.out, HH.out.nx, HLO.out⟩
set_option linter.unusedSimpArgs false in
set_option maxHeartbeats 4000000 in
set_option maxRecDepth 100000 in
theorem ddue_any (w : World) (d : Dsk) (pi po : Option Addr) (ci co : Nat) (m : Msg) (vl vn : Value) (fro : Int) (h : DRow w d pi ci po co) (hn : d.xs.length < 1024) (P : Nat → Prop) (hw0 : ∀ b, P b → b < w.heap.size) (hat : At P (.slice pi d.xs.length ci) d.xs.length) (hato : At P (.slice po d.os.length co) d.os.length) (hdo : d.Ok) :
  Calls Try.prog 34 #[(deskV d.me pi d.xs.length ci po d.os.length co d.far), m.v vl vn, .int .i64 fro] w fun y w' => DoPost w P (d.beh (dueI d m) [9]) y w' := by
 have HT := Lib.hid (three_new w #[.int .i64 d.me, .slice pi d.xs.length ci, .slice po d.os.length co, .int .i64 d.far] #[.int .i64 m.k, .int .i64 m.s, .int .i64 m.n, .int .i64 m.b, .int .i64 m.c, .int .i64 m.r, .int .i64 m.y, .int .i64 m.a, .bool m.t, vl, vn] #[.int .i64 0, .slice none 0 0, .slice none 0 0, .int .i64 0] 29 40 29)
 have HH := Lib.hid h
 have HNN := Lib.hid hn
 have HW0 := Lib.hid hw0
 have HA0 := Lib.hid hat
 have HO0 := Lib.hid hato
 have HG := Lib.hid (sold_any (((w.alloc (.cells #[.int .i64 d.me, .slice pi d.xs.length ci, .slice po d.os.length co, .int .i64 d.far] 29)).alloc (.cells #[.int .i64 m.k, .int .i64 m.s, .int .i64 m.n, .int .i64 m.b, .int .i64 m.c, .int .i64 m.r, .int .i64 m.y, .int .i64 m.a, .bool m.t, vl, vn] 40)).alloc (.cells #[.int .i64 0, .slice none 0 0, .slice none 0 0, .int .i64 0] 29)) d pi po ci co m vl vn (h.kept HT.out.low))
 have hmw : d.May (thenA (soldA d m.s m.n) (fun x => turnI x 2 4)) := then_may (sold_may hdo _ _) (fun _ hx => turn_chk (.inr (.inr ⟨rfl, rfl⟩)) hx)
 have HW := Lib.hid (fun (W : World) (hb : Below w.heap.size w W) => (dwithdraw_any W d pi po ci co m vl vn fro (h.kept hb) hn P (fun b hp => Nat.lt_of_lt_of_le (hw0 b hp) hb.size) hat hmw).mono (fun _ _ ha => actPost_do (h.kept hb) hat hato ha))
 clear h hn hw0 hat hato hmw hdo
 unfold dueI
 generalize thenA (soldA d m.s m.n) (fun x => turnI x 2 4) = p1 at *
 generalize soldA d m.s m.n = p0 at *
 obtain ⟨q, e⟩ := p0
 unfold deskV Msg.v at HW
 unfold ansI Itm.v deskV Msg.v at HG
 obtain ⟨R, hR⟩ : ∃ R, d.beh (if (q, e).2 = 0 ∧ (q, e).1.r ≠ m.r then (itm0, 90) else p1) [9] = R := ⟨_, rfl⟩
 rw [hR]
 by_cases he0 : e = 0
 ·subst he0
  by_cases h1 : q.r = m.r
  ·have h1' : (q.r != m.r) = false := by simpa using h1
   rw [if_neg (by rintro ⟨_, h⟩; exact h h1)] at hR
   rw [hR] at HW
   clear h1 hR
   unfold deskV Msg.v
   go_enter Try.func34, Try.ntmps34
   go_upto_region 1 with fail
   generalize (((w.alloc (.cells #[.int .i64 d.me, .slice pi d.xs.length ci, .slice po d.os.length co, .int .i64 d.far] 29)).alloc (.cells #[.int .i64 m.k, .int .i64 m.s, .int .i64 m.n, .int .i64 m.b, .int .i64 m.c, .int .i64 m.r, .int .i64 m.y, .int .i64 m.a, .bool m.t, vl, vn] 40)).alloc (.cells #[.int .i64 0, .slice none 0 0, .slice none 0 0, .int .i64 0] 29)) = W at *
   have a0 : W.cell? ⟨w.heap.size, 0, none⟩ = some (.int .i64 d.me) := HT.out.b0.cell 0
   have a1 : W.cell? ⟨w.heap.size, 1, none⟩ = some (.slice pi d.xs.length ci) := HT.out.b0.cell 1
   have a2 : W.cell? ⟨w.heap.size, 2, none⟩ = some (.slice po d.os.length co) := HT.out.b0.cell 2
   have a3 : W.cell? ⟨w.heap.size, 3, none⟩ = some (.int .i64 d.far) := HT.out.b0.cell 3
   have c0 : W.cell? ⟨w.heap.size + 1, 0, none⟩ = some (.int .i64 m.k) := HT.out.b1.cell 0
   have c1 : W.cell? ⟨w.heap.size + 1, 1, none⟩ = some (.int .i64 m.s) := HT.out.b1.cell 1
   have c2 : W.cell? ⟨w.heap.size + 1, 2, none⟩ = some (.int .i64 m.n) := HT.out.b1.cell 2
   have c3 : W.cell? ⟨w.heap.size + 1, 3, none⟩ = some (.int .i64 m.b) := HT.out.b1.cell 3
   have c4 : W.cell? ⟨w.heap.size + 1, 4, none⟩ = some (.int .i64 m.c) := HT.out.b1.cell 4
   have c5 : W.cell? ⟨w.heap.size + 1, 5, none⟩ = some (.int .i64 m.r) := HT.out.b1.cell 5
   have c6 : W.cell? ⟨w.heap.size + 1, 6, none⟩ = some (.int .i64 m.y) := HT.out.b1.cell 6
   have c7 : W.cell? ⟨w.heap.size + 1, 7, none⟩ = some (.int .i64 m.a) := HT.out.b1.cell 7
   have c8 : W.cell? ⟨w.heap.size + 1, 8, none⟩ = some (.bool m.t) := HT.out.b1.cell 8
   have c9 : W.cell? ⟨w.heap.size + 1, 9, none⟩ = some (vl) := HT.out.b1.cell 9
   have c10 : W.cell? ⟨w.heap.size + 1, 10, none⟩ = some (vn) := HT.out.b1.cell 10
   go_wp2_with fail
   clear a0 a1 a2 a3 c0 c1 c2 c3 c4 c5 c6 c7 c8 c9 c10
   refine HG.out.mono ?_
   rintro y w1 ⟨rfl, hb⟩
   have HB7 := Lib.hid ((HT.out.low.trans (hb.mono HT.out.low.size)).alloc (HT.out.low.trans (hb.mono HT.out.low.size)).size (.cells #[.int .i64 q.s, .int .i64 q.n, .int .i64 q.b, .int .i64 q.c, .int .i64 q.a, .int .i64 q.r, .int .i64 q.t, .int .i64 q.y] 64))
   have HD7 : Hid (Blk (w1.alloc (.cells #[.int .i64 q.s, .int .i64 q.n, .int .i64 q.b, .int .i64 q.c, .int .i64 q.a, .int .i64 q.r, .int .i64 q.t, .int .i64 q.y] 64)) w.heap.size #[.int .i64 d.me, .slice pi d.xs.length ci, .slice po d.os.length co, .int .i64 d.far] 29) := (HT.out.b0.below hb HT.out.b0.lt).alloc _
   have HM7 : Hid (Blk (w1.alloc (.cells #[.int .i64 q.s, .int .i64 q.n, .int .i64 q.b, .int .i64 q.c, .int .i64 q.a, .int .i64 q.r, .int .i64 q.t, .int .i64 q.y] 64)) (w.heap.size + 1) #[.int .i64 m.k, .int .i64 m.s, .int .i64 m.n, .int .i64 m.b, .int .i64 m.c, .int .i64 m.r, .int .i64 m.y, .int .i64 m.a, .bool m.t, vl, vn] 40) := (HT.out.b1.below hb HT.out.b1.lt).alloc _
   have HR7 : Hid (Blk (w1.alloc (.cells #[.int .i64 q.s, .int .i64 q.n, .int .i64 q.b, .int .i64 q.c, .int .i64 q.a, .int .i64 q.r, .int .i64 q.t, .int .i64 q.y] 64)) (w.heap.size + 1 + 1) #[.int .i64 0, .slice none 0 0, .slice none 0 0, .int .i64 0] 29) := (HT.out.b2.below hb HT.out.b2.lt).alloc _
   have HQ6 := Lib.hid (Blk.new w1 #[.int .i64 q.s, .int .i64 q.n, .int .i64 q.b, .int .i64 q.c, .int .i64 q.a, .int .i64 q.r, .int .i64 q.t, .int .i64 q.y] 64)
   have HGX7 : Hid (w.heap.size + 1 + 1 < w1.heap.size) := by show _ < _; have h1 := HT.out.b2.lt; have h2 := hb.size; omega
   clear hb HG HT
   go_upto_region 2 with fail
   generalize w1.alloc (.cells #[.int .i64 q.s, .int .i64 q.n, .int .i64 q.b, .int .i64 q.c, .int .i64 q.a, .int .i64 q.r, .int .i64 q.t, .int .i64 q.y] 64) = w6 at *
   generalize w1.heap.size = gx at *
   have HB6 := HB7
   have HD6 := HD7
   have HM6 := HM7
   have HR6 := HR7
   have HGX := HGX7
   clear HB7 HD7 HM7 HR7 HGX7
   have x5 : w6.cell? ⟨gx, 5, none⟩ = some (.int .i64 q.r) := HQ6.out.cell 5
   have c5 : w6.cell? ⟨w.heap.size + 1, 5, none⟩ = some (.int .i64 m.r) := HM6.out.cell 5
   go_upto_region 4 with fail
   clear x5 c5 h1'
   have HG := Lib.hid (HW.out w6 HB6.out)
   clear HW
   have a0 : w6.cell? ⟨w.heap.size, 0, none⟩ = some (.int .i64 d.me) := HD6.out.cell 0
   have a1 : w6.cell? ⟨w.heap.size, 1, none⟩ = some (.slice pi d.xs.length ci) := HD6.out.cell 1
   have a2 : w6.cell? ⟨w.heap.size, 2, none⟩ = some (.slice po d.os.length co) := HD6.out.cell 2
   have a3 : w6.cell? ⟨w.heap.size, 3, none⟩ = some (.int .i64 d.far) := HD6.out.cell 3
   have c0 : w6.cell? ⟨w.heap.size + 1, 0, none⟩ = some (.int .i64 m.k) := HM6.out.cell 0
   have c1 : w6.cell? ⟨w.heap.size + 1, 1, none⟩ = some (.int .i64 m.s) := HM6.out.cell 1
   have c2 : w6.cell? ⟨w.heap.size + 1, 2, none⟩ = some (.int .i64 m.n) := HM6.out.cell 2
   have c3 : w6.cell? ⟨w.heap.size + 1, 3, none⟩ = some (.int .i64 m.b) := HM6.out.cell 3
   have c4 : w6.cell? ⟨w.heap.size + 1, 4, none⟩ = some (.int .i64 m.c) := HM6.out.cell 4
   have c5 : w6.cell? ⟨w.heap.size + 1, 5, none⟩ = some (.int .i64 m.r) := HM6.out.cell 5
   have c6 : w6.cell? ⟨w.heap.size + 1, 6, none⟩ = some (.int .i64 m.y) := HM6.out.cell 6
   have c7 : w6.cell? ⟨w.heap.size + 1, 7, none⟩ = some (.int .i64 m.a) := HM6.out.cell 7
   have c8 : w6.cell? ⟨w.heap.size + 1, 8, none⟩ = some (.bool m.t) := HM6.out.cell 8
   have c9 : w6.cell? ⟨w.heap.size + 1, 9, none⟩ = some (vl) := HM6.out.cell 9
   have c10 : w6.cell? ⟨w.heap.size + 1, 10, none⟩ = some (vn) := HM6.out.cell 10
   go_wp2_with fail
   clear a0 a1 a2 a3 c0 c1 c2 c3 c4 c5 c6 c7 c8 c9 c10
   refine HG.out.mono ?_
   rintro y w2 ⟨hb2, pi2, ci2, po2, co2, vs, rfl, hdr, hati, hato, hown⟩
   have HR2 := kbq HR6 hb2
   have HB2 := ktq HB6 hb2
   have HZ7 : Hid (w.heap.size + 1 + 1 < w6.heap.size ∧ w.heap.size ≤ w6.heap.size) := ⟨HR6.out.lt, HB6.out.size⟩
   clear hb2 HG
   go_wp2_with (with_reducible refine stop_storeT 29 (.tmp 6) (.tmp 31) rfl ?_)
   have HTH : Hid (w2.there (w.heap.size + 1 + 1) 0 4) := HR2.out.thereAt
   have HF : Hid (Blk (w2.setCells (w.heap.size + 1 + 1) 0 (#[.int .i64 R.1.me, .slice pi2 R.1.xs.length ci2, .slice po2 R.1.os.length co2, .int .i64 R.1.far] : Array Value).toList) (w.heap.size + 1 + 1) #[.int .i64 R.1.me, .slice pi2 R.1.xs.length ci2, .slice po2 R.1.os.length co2, .int .i64 R.1.far] 29 ∧ Below w.heap.size w (w2.setCells (w.heap.size + 1 + 1) 0 (#[.int .i64 R.1.me, .slice pi2 R.1.xs.length ci2, .slice po2 R.1.os.length co2, .int .i64 R.1.far] : Array Value).toList) ∧ Chg (w.heap.size + 1 + 1) w2 (w2.setCells (w.heap.size + 1 + 1) 0 (#[.int .i64 R.1.me, .slice pi2 R.1.xs.length ci2, .slice po2 R.1.os.length co2, .int .i64 R.1.far] : Array Value).toList)) := ⟨blk_put_all HR2.out _ rfl, below_put (by omega) _ _ _ _ HB2.out, chg_putL _ _ _ _ _ (Chg.refl _ w2)⟩
   refine wpList_store_mid rfl 29 (.tmp 6) (.tmp 31) rfl (w.heap.size + 1 + 1) 0 #[.int .i64 R.1.me, .slice pi2 R.1.xs.length ci2, .slice po2 R.1.os.length co2, .int .i64 R.1.far] rfl rfl HTH.out (infoD4 rfl) (all_oneCell_toArray (by intro u hu; simp at hu; rcases hu with rfl | rfl | rfl | rfl <;> rfl)) ?_
   generalize World.setCells w2 _ _ _ = w8 at *
   clear HTH
   go_wp2_with fail
   have hf := HF.out.1
   have hng : ¬ (P (w.heap.size + 1 + 1) ∨ w6.heap.size ≤ w.heap.size + 1 + 1) := by
    have h2 := HZ7.out
    rintro (h | h)
    ·have h4 := HW0.out _ h; omega
    ·omega
   have hge : ∀ b, P b ∨ w6.heap.size ≤ b → P b ∨ w.heap.size ≤ b := fun b hb => hb.imp id (fun h => by have h2 := HZ7.out; omega)
   refine bodyPost_ret (v := .tuple #[.agg #[.int .i64 R.1.me, .slice pi2 R.1.xs.length ci2, .slice po2 R.1.os.length co2, .int .i64 R.1.far], vs, .int .i64 R.2.2]) (by simp [results, Try.results34, go_sem, hf.cell 0, hf.cell 1, hf.cell 2, hf.cell 3]) rfl ⟨HF.out.2.1, pi2, ci2, po2, co2, vs, rfl, ?_, hati.imp hge, hato.imp hge, ?_⟩
   ·exact ⟨hdr.items.keepP hati (KeepP.of_chg HF.out.2.2 hng), hdr.orders.keepP hato (KeepP.of_chg HF.out.2.2 hng), hdr.sx, hdr.so, hdr.nx, hdr.no⟩
   ·exact (hown.stay (fun b hb => HF.out.2.2.2 b (hown.lt b hb) (by have h1 := hown.block_ge b hb; have h2 := HZ7.out; omega))).less (by have h2 := HZ7.out; omega)
  ·have h1' : (q.r != m.r) = true := by simpa using h1
   rw [if_pos ⟨rfl, h1⟩] at hR
   unfold Dsk.beh at hR
   rw [if_neg (by decide)] at hR
   subst hR
   clear h1 HW
   unfold deskV Msg.v
   go_enter Try.func34, Try.ntmps34
   go_upto_region 1 with fail
   generalize (((w.alloc (.cells #[.int .i64 d.me, .slice pi d.xs.length ci, .slice po d.os.length co, .int .i64 d.far] 29)).alloc (.cells #[.int .i64 m.k, .int .i64 m.s, .int .i64 m.n, .int .i64 m.b, .int .i64 m.c, .int .i64 m.r, .int .i64 m.y, .int .i64 m.a, .bool m.t, vl, vn] 40)).alloc (.cells #[.int .i64 0, .slice none 0 0, .slice none 0 0, .int .i64 0] 29)) = W at *
   have a0 : W.cell? ⟨w.heap.size, 0, none⟩ = some (.int .i64 d.me) := HT.out.b0.cell 0
   have a1 : W.cell? ⟨w.heap.size, 1, none⟩ = some (.slice pi d.xs.length ci) := HT.out.b0.cell 1
   have a2 : W.cell? ⟨w.heap.size, 2, none⟩ = some (.slice po d.os.length co) := HT.out.b0.cell 2
   have a3 : W.cell? ⟨w.heap.size, 3, none⟩ = some (.int .i64 d.far) := HT.out.b0.cell 3
   have c0 : W.cell? ⟨w.heap.size + 1, 0, none⟩ = some (.int .i64 m.k) := HT.out.b1.cell 0
   have c1 : W.cell? ⟨w.heap.size + 1, 1, none⟩ = some (.int .i64 m.s) := HT.out.b1.cell 1
   have c2 : W.cell? ⟨w.heap.size + 1, 2, none⟩ = some (.int .i64 m.n) := HT.out.b1.cell 2
   have c3 : W.cell? ⟨w.heap.size + 1, 3, none⟩ = some (.int .i64 m.b) := HT.out.b1.cell 3
   have c4 : W.cell? ⟨w.heap.size + 1, 4, none⟩ = some (.int .i64 m.c) := HT.out.b1.cell 4
   have c5 : W.cell? ⟨w.heap.size + 1, 5, none⟩ = some (.int .i64 m.r) := HT.out.b1.cell 5
   have c6 : W.cell? ⟨w.heap.size + 1, 6, none⟩ = some (.int .i64 m.y) := HT.out.b1.cell 6
   have c7 : W.cell? ⟨w.heap.size + 1, 7, none⟩ = some (.int .i64 m.a) := HT.out.b1.cell 7
   have c8 : W.cell? ⟨w.heap.size + 1, 8, none⟩ = some (.bool m.t) := HT.out.b1.cell 8
   have c9 : W.cell? ⟨w.heap.size + 1, 9, none⟩ = some (vl) := HT.out.b1.cell 9
   have c10 : W.cell? ⟨w.heap.size + 1, 10, none⟩ = some (vn) := HT.out.b1.cell 10
   go_wp2_with fail
   clear a0 a1 a2 a3 c0 c1 c2 c3 c4 c5 c6 c7 c8 c9 c10
   refine HG.out.mono ?_
   rintro y w1 ⟨rfl, hb⟩
   have HB7 := Lib.hid ((HT.out.low.trans (hb.mono HT.out.low.size)).alloc (HT.out.low.trans (hb.mono HT.out.low.size)).size (.cells #[.int .i64 q.s, .int .i64 q.n, .int .i64 q.b, .int .i64 q.c, .int .i64 q.a, .int .i64 q.r, .int .i64 q.t, .int .i64 q.y] 64))
   have HD7 : Hid (Blk (w1.alloc (.cells #[.int .i64 q.s, .int .i64 q.n, .int .i64 q.b, .int .i64 q.c, .int .i64 q.a, .int .i64 q.r, .int .i64 q.t, .int .i64 q.y] 64)) w.heap.size #[.int .i64 d.me, .slice pi d.xs.length ci, .slice po d.os.length co, .int .i64 d.far] 29) := (HT.out.b0.below hb HT.out.b0.lt).alloc _
   have HM7 : Hid (Blk (w1.alloc (.cells #[.int .i64 q.s, .int .i64 q.n, .int .i64 q.b, .int .i64 q.c, .int .i64 q.a, .int .i64 q.r, .int .i64 q.t, .int .i64 q.y] 64)) (w.heap.size + 1) #[.int .i64 m.k, .int .i64 m.s, .int .i64 m.n, .int .i64 m.b, .int .i64 m.c, .int .i64 m.r, .int .i64 m.y, .int .i64 m.a, .bool m.t, vl, vn] 40) := (HT.out.b1.below hb HT.out.b1.lt).alloc _
   have HR7 : Hid (Blk (w1.alloc (.cells #[.int .i64 q.s, .int .i64 q.n, .int .i64 q.b, .int .i64 q.c, .int .i64 q.a, .int .i64 q.r, .int .i64 q.t, .int .i64 q.y] 64)) (w.heap.size + 1 + 1) #[.int .i64 0, .slice none 0 0, .slice none 0 0, .int .i64 0] 29) := (HT.out.b2.below hb HT.out.b2.lt).alloc _
   have HQ6 := Lib.hid (Blk.new w1 #[.int .i64 q.s, .int .i64 q.n, .int .i64 q.b, .int .i64 q.c, .int .i64 q.a, .int .i64 q.r, .int .i64 q.t, .int .i64 q.y] 64)
   have HGX7 : Hid (w.heap.size + 1 + 1 < w1.heap.size) := by show _ < _; have h1 := HT.out.b2.lt; have h2 := hb.size; omega
   clear hb HG HT
   go_upto_region 2 with fail
   generalize w1.alloc (.cells #[.int .i64 q.s, .int .i64 q.n, .int .i64 q.b, .int .i64 q.c, .int .i64 q.a, .int .i64 q.r, .int .i64 q.t, .int .i64 q.y] 64) = w6 at *
   generalize w1.heap.size = gx at *
   have HB6 := HB7
   have HD6 := HD7
   have HM6 := HM7
   have HR6 := HR7
   have HGX := HGX7
   clear HB7 HD7 HM7 HR7 HGX7
   have x5 : w6.cell? ⟨gx, 5, none⟩ = some (.int .i64 q.r) := HQ6.out.cell 5
   have c5 : w6.cell? ⟨w.heap.size + 1, 5, none⟩ = some (.int .i64 m.r) := HM6.out.cell 5
   go_upto_region 3 with fail
   clear x5 c5 h1'
   have a0 : w6.cell? ⟨w.heap.size, 0, none⟩ = some (.int .i64 d.me) := HD6.out.cell 0
   have a1 : w6.cell? ⟨w.heap.size, 1, none⟩ = some (.slice pi d.xs.length ci) := HD6.out.cell 1
   have a2 : w6.cell? ⟨w.heap.size, 2, none⟩ = some (.slice po d.os.length co) := HD6.out.cell 2
   have a3 : w6.cell? ⟨w.heap.size, 3, none⟩ = some (.int .i64 d.far) := HD6.out.cell 3
   have HR8 := Lib.hid HR6.out
   have HB8 := Lib.hid HB6.out
   go_wp2_with (with_reducible refine stop_storeT 29 (.tmp 6) (.tmp 26) rfl ?_)
   clear a0 a1 a2 a3
   have HTH : Hid (w6.there (w.heap.size + 1 + 1) 0 4) := HR8.out.thereAt
   have HF : Hid (Blk (w6.setCells (w.heap.size + 1 + 1) 0 (#[.int .i64 d.me, .slice pi d.xs.length ci, .slice po d.os.length co, .int .i64 d.far] : Array Value).toList) (w.heap.size + 1 + 1) #[.int .i64 d.me, .slice pi d.xs.length ci, .slice po d.os.length co, .int .i64 d.far] 29 ∧ Below w.heap.size w (w6.setCells (w.heap.size + 1 + 1) 0 (#[.int .i64 d.me, .slice pi d.xs.length ci, .slice po d.os.length co, .int .i64 d.far] : Array Value).toList)) := ⟨blk_put_all HR8.out _ rfl, below_put (by omega) _ _ _ _ HB8.out⟩
   refine wpList_store_mid rfl 29 (.tmp 6) (.tmp 26) rfl (w.heap.size + 1 + 1) 0 #[.int .i64 d.me, .slice pi d.xs.length ci, .slice po d.os.length co, .int .i64 d.far] rfl rfl HTH.out (infoD4 rfl) (all_oneCell_toArray (by intro u hu; simp at hu; rcases hu with rfl | rfl | rfl | rfl <;> rfl)) ?_
   generalize World.setCells w6 _ _ _ = w8 at *
   clear HTH
   go_wp2_with fail
   have hf := HF.out.1
   refine bodyPost_ret (v := .tuple #[.agg #[.int .i64 d.me, .slice pi d.xs.length ci, .slice po d.os.length co, .int .i64 d.far], .slice none 0 0, .int .i64 90]) (by simp [results, Try.results34, go_sem, hf.cell 0, hf.cell 1, hf.cell 2, hf.cell 3]) rfl ⟨HF.out.2, pi, ci, po, co, _, rfl, HH.out.kept HF.out.2, HA0.out.imp (fun _ h => .inl h), HO0.out.imp (fun _ h => .inl h), OwnT.nil_ _ _ _ _⟩
 ·have heb : (e == 0) = false := by simpa using he0
  rw [if_neg (by rintro ⟨h, _⟩; exact he0 h)] at hR
  rw [hR] at HW
  clear he0 hR
  unfold deskV Msg.v
  go_enter Try.func34, Try.ntmps34
  go_upto_region 1 with fail
  generalize (((w.alloc (.cells #[.int .i64 d.me, .slice pi d.xs.length ci, .slice po d.os.length co, .int .i64 d.far] 29)).alloc (.cells #[.int .i64 m.k, .int .i64 m.s, .int .i64 m.n, .int .i64 m.b, .int .i64 m.c, .int .i64 m.r, .int .i64 m.y, .int .i64 m.a, .bool m.t, vl, vn] 40)).alloc (.cells #[.int .i64 0, .slice none 0 0, .slice none 0 0, .int .i64 0] 29)) = W at *
  have a0 : W.cell? ⟨w.heap.size, 0, none⟩ = some (.int .i64 d.me) := HT.out.b0.cell 0
  have a1 : W.cell? ⟨w.heap.size, 1, none⟩ = some (.slice pi d.xs.length ci) := HT.out.b0.cell 1
  have a2 : W.cell? ⟨w.heap.size, 2, none⟩ = some (.slice po d.os.length co) := HT.out.b0.cell 2
  have a3 : W.cell? ⟨w.heap.size, 3, none⟩ = some (.int .i64 d.far) := HT.out.b0.cell 3
  have c0 : W.cell? ⟨w.heap.size + 1, 0, none⟩ = some (.int .i64 m.k) := HT.out.b1.cell 0
  have c1 : W.cell? ⟨w.heap.size + 1, 1, none⟩ = some (.int .i64 m.s) := HT.out.b1.cell 1
  have c2 : W.cell? ⟨w.heap.size + 1, 2, none⟩ = some (.int .i64 m.n) := HT.out.b1.cell 2
  have c3 : W.cell? ⟨w.heap.size + 1, 3, none⟩ = some (.int .i64 m.b) := HT.out.b1.cell 3
  have c4 : W.cell? ⟨w.heap.size + 1, 4, none⟩ = some (.int .i64 m.c) := HT.out.b1.cell 4
  have c5 : W.cell? ⟨w.heap.size + 1, 5, none⟩ = some (.int .i64 m.r) := HT.out.b1.cell 5
  have c6 : W.cell? ⟨w.heap.size + 1, 6, none⟩ = some (.int .i64 m.y) := HT.out.b1.cell 6
  have c7 : W.cell? ⟨w.heap.size + 1, 7, none⟩ = some (.int .i64 m.a) := HT.out.b1.cell 7
  have c8 : W.cell? ⟨w.heap.size + 1, 8, none⟩ = some (.bool m.t) := HT.out.b1.cell 8
  have c9 : W.cell? ⟨w.heap.size + 1, 9, none⟩ = some (vl) := HT.out.b1.cell 9
  have c10 : W.cell? ⟨w.heap.size + 1, 10, none⟩ = some (vn) := HT.out.b1.cell 10
  go_wp2_with fail
  clear a0 a1 a2 a3 c0 c1 c2 c3 c4 c5 c6 c7 c8 c9 c10
  refine HG.out.mono ?_
  rintro y w1 ⟨rfl, hb⟩
  have HB7 := Lib.hid ((HT.out.low.trans (hb.mono HT.out.low.size)).alloc (HT.out.low.trans (hb.mono HT.out.low.size)).size (.cells #[.int .i64 q.s, .int .i64 q.n, .int .i64 q.b, .int .i64 q.c, .int .i64 q.a, .int .i64 q.r, .int .i64 q.t, .int .i64 q.y] 64))
  have HD7 : Hid (Blk (w1.alloc (.cells #[.int .i64 q.s, .int .i64 q.n, .int .i64 q.b, .int .i64 q.c, .int .i64 q.a, .int .i64 q.r, .int .i64 q.t, .int .i64 q.y] 64)) w.heap.size #[.int .i64 d.me, .slice pi d.xs.length ci, .slice po d.os.length co, .int .i64 d.far] 29) := (HT.out.b0.below hb HT.out.b0.lt).alloc _
  have HM7 : Hid (Blk (w1.alloc (.cells #[.int .i64 q.s, .int .i64 q.n, .int .i64 q.b, .int .i64 q.c, .int .i64 q.a, .int .i64 q.r, .int .i64 q.t, .int .i64 q.y] 64)) (w.heap.size + 1) #[.int .i64 m.k, .int .i64 m.s, .int .i64 m.n, .int .i64 m.b, .int .i64 m.c, .int .i64 m.r, .int .i64 m.y, .int .i64 m.a, .bool m.t, vl, vn] 40) := (HT.out.b1.below hb HT.out.b1.lt).alloc _
  have HR7 : Hid (Blk (w1.alloc (.cells #[.int .i64 q.s, .int .i64 q.n, .int .i64 q.b, .int .i64 q.c, .int .i64 q.a, .int .i64 q.r, .int .i64 q.t, .int .i64 q.y] 64)) (w.heap.size + 1 + 1) #[.int .i64 0, .slice none 0 0, .slice none 0 0, .int .i64 0] 29) := (HT.out.b2.below hb HT.out.b2.lt).alloc _
  have HQ6 := Lib.hid (Blk.new w1 #[.int .i64 q.s, .int .i64 q.n, .int .i64 q.b, .int .i64 q.c, .int .i64 q.a, .int .i64 q.r, .int .i64 q.t, .int .i64 q.y] 64)
  have HGX7 : Hid (w.heap.size + 1 + 1 < w1.heap.size) := by show _ < _; have h1 := HT.out.b2.lt; have h2 := hb.size; omega
  clear hb HG HT
  go_upto_region 2 with fail
  generalize w1.alloc (.cells #[.int .i64 q.s, .int .i64 q.n, .int .i64 q.b, .int .i64 q.c, .int .i64 q.a, .int .i64 q.r, .int .i64 q.t, .int .i64 q.y] 64) = w6 at *
  generalize w1.heap.size = gx at *
  have HB6 := HB7
  have HD6 := HD7
  have HM6 := HM7
  have HR6 := HR7
  have HGX := HGX7
  clear HB7 HD7 HM7 HR7 HGX7
  go_upto_region 4 with fail
  clear heb
  have HG := Lib.hid (HW.out w6 HB6.out)
  clear HW
  have a0 : w6.cell? ⟨w.heap.size, 0, none⟩ = some (.int .i64 d.me) := HD6.out.cell 0
  have a1 : w6.cell? ⟨w.heap.size, 1, none⟩ = some (.slice pi d.xs.length ci) := HD6.out.cell 1
  have a2 : w6.cell? ⟨w.heap.size, 2, none⟩ = some (.slice po d.os.length co) := HD6.out.cell 2
  have a3 : w6.cell? ⟨w.heap.size, 3, none⟩ = some (.int .i64 d.far) := HD6.out.cell 3
  have c0 : w6.cell? ⟨w.heap.size + 1, 0, none⟩ = some (.int .i64 m.k) := HM6.out.cell 0
  have c1 : w6.cell? ⟨w.heap.size + 1, 1, none⟩ = some (.int .i64 m.s) := HM6.out.cell 1
  have c2 : w6.cell? ⟨w.heap.size + 1, 2, none⟩ = some (.int .i64 m.n) := HM6.out.cell 2
  have c3 : w6.cell? ⟨w.heap.size + 1, 3, none⟩ = some (.int .i64 m.b) := HM6.out.cell 3
  have c4 : w6.cell? ⟨w.heap.size + 1, 4, none⟩ = some (.int .i64 m.c) := HM6.out.cell 4
  have c5 : w6.cell? ⟨w.heap.size + 1, 5, none⟩ = some (.int .i64 m.r) := HM6.out.cell 5
  have c6 : w6.cell? ⟨w.heap.size + 1, 6, none⟩ = some (.int .i64 m.y) := HM6.out.cell 6
  have c7 : w6.cell? ⟨w.heap.size + 1, 7, none⟩ = some (.int .i64 m.a) := HM6.out.cell 7
  have c8 : w6.cell? ⟨w.heap.size + 1, 8, none⟩ = some (.bool m.t) := HM6.out.cell 8
  have c9 : w6.cell? ⟨w.heap.size + 1, 9, none⟩ = some (vl) := HM6.out.cell 9
  have c10 : w6.cell? ⟨w.heap.size + 1, 10, none⟩ = some (vn) := HM6.out.cell 10
  go_wp2_with fail
  clear a0 a1 a2 a3 c0 c1 c2 c3 c4 c5 c6 c7 c8 c9 c10
  refine HG.out.mono ?_
  rintro y w2 ⟨hb2, pi2, ci2, po2, co2, vs, rfl, hdr, hati, hato, hown⟩
  have HR2 := kbq HR6 hb2
  have HB2 := ktq HB6 hb2
  have HZ7 : Hid (w.heap.size + 1 + 1 < w6.heap.size ∧ w.heap.size ≤ w6.heap.size) := ⟨HR6.out.lt, HB6.out.size⟩
  clear hb2 HG
  go_wp2_with (with_reducible refine stop_storeT 29 (.tmp 6) (.tmp 31) rfl ?_)
  have HTH : Hid (w2.there (w.heap.size + 1 + 1) 0 4) := HR2.out.thereAt
  have HF : Hid (Blk (w2.setCells (w.heap.size + 1 + 1) 0 (#[.int .i64 R.1.me, .slice pi2 R.1.xs.length ci2, .slice po2 R.1.os.length co2, .int .i64 R.1.far] : Array Value).toList) (w.heap.size + 1 + 1) #[.int .i64 R.1.me, .slice pi2 R.1.xs.length ci2, .slice po2 R.1.os.length co2, .int .i64 R.1.far] 29 ∧ Below w.heap.size w (w2.setCells (w.heap.size + 1 + 1) 0 (#[.int .i64 R.1.me, .slice pi2 R.1.xs.length ci2, .slice po2 R.1.os.length co2, .int .i64 R.1.far] : Array Value).toList) ∧ Chg (w.heap.size + 1 + 1) w2 (w2.setCells (w.heap.size + 1 + 1) 0 (#[.int .i64 R.1.me, .slice pi2 R.1.xs.length ci2, .slice po2 R.1.os.length co2, .int .i64 R.1.far] : Array Value).toList)) := ⟨blk_put_all HR2.out _ rfl, below_put (by omega) _ _ _ _ HB2.out, chg_putL _ _ _ _ _ (Chg.refl _ w2)⟩
  refine wpList_store_mid rfl 29 (.tmp 6) (.tmp 31) rfl (w.heap.size + 1 + 1) 0 #[.int .i64 R.1.me, .slice pi2 R.1.xs.length ci2, .slice po2 R.1.os.length co2, .int .i64 R.1.far] rfl rfl HTH.out (infoD4 rfl) (all_oneCell_toArray (by intro u hu; simp at hu; rcases hu with rfl | rfl | rfl | rfl <;> rfl)) ?_
  generalize World.setCells w2 _ _ _ = w8 at *
  clear HTH
  go_wp2_with fail
  have hf := HF.out.1
  have hng : ¬ (P (w.heap.size + 1 + 1) ∨ w6.heap.size ≤ w.heap.size + 1 + 1) := by
   have h2 := HZ7.out
   rintro (h | h)
   ·have h4 := HW0.out _ h; omega
   ·omega
  have hge : ∀ b, P b ∨ w6.heap.size ≤ b → P b ∨ w.heap.size ≤ b := fun b hb => hb.imp id (fun h => by have h2 := HZ7.out; omega)
  refine bodyPost_ret (v := .tuple #[.agg #[.int .i64 R.1.me, .slice pi2 R.1.xs.length ci2, .slice po2 R.1.os.length co2, .int .i64 R.1.far], vs, .int .i64 R.2.2]) (by simp [results, Try.results34, go_sem, hf.cell 0, hf.cell 1, hf.cell 2, hf.cell 3]) rfl ⟨HF.out.2.1, pi2, ci2, po2, co2, vs, rfl, ?_, hati.imp hge, hato.imp hge, ?_⟩
  ·exact ⟨hdr.items.keepP hati (KeepP.of_chg HF.out.2.2 hng), hdr.orders.keepP hato (KeepP.of_chg HF.out.2.2 hng), hdr.sx, hdr.so, hdr.nx, hdr.no⟩
  ·exact (hown.stay (fun b hb => HF.out.2.2.2 b (hown.lt b hb) (by have h1 := hown.block_ge b hb; have h2 := HZ7.out; omega))).less (by have h2 := HZ7.out; omega)
def fnO : Option FuncId → Value
 | none => .nilFunc
 | some F => .func (.func F) #[] #[]
def byNodeF (k : Int) : Option FuncId := if k = 6 then some 26 else if k = 7 then some 27 else if k = 8 then some 28 else if k = 9 then some 29 else none
set_option linter.unusedSimpArgs false in
set_option maxHeartbeats 4000000 in
set_option maxRecDepth 100000 in
theorem byNode_any (w : World) (k : Int) : Calls Try.prog 19 #[.int .i64 k] w fun e w' => e = .returned (fnO (byNodeF k)) ∧ Below w.heap.size w w' := by
 unfold byNodeF
 by_cases n0 : k = 6
 ·subst n0
  simp only [if_true]
  unfold fnO
  try simp only [Int.reduceEq, if_false]
  go_enter Try.func19, Try.ntmps19
  go_wp2
  go_ret
  exact ⟨rfl, Below.refl _ _⟩
 ·have n0b : (k == 6) = false := by simpa using n0
  rw [if_neg n0]
  by_cases n1 : k = 7
  ·subst n1
   simp only [if_true]
   unfold fnO
   try simp only [Int.reduceEq, if_false]
   go_enter Try.func19, Try.ntmps19
   go_wp2
   go_ret
   exact ⟨rfl, Below.refl _ _⟩
  ·have n1b : (k == 7) = false := by simpa using n1
   rw [if_neg n1]
   by_cases n2 : k = 8
   ·subst n2
    simp only [if_true]
    unfold fnO
    try simp only [Int.reduceEq, if_false]
    go_enter Try.func19, Try.ntmps19
    go_wp2
    go_ret
    exact ⟨rfl, Below.refl _ _⟩
   ·have n2b : (k == 8) = false := by simpa using n2
    rw [if_neg n2]
    by_cases n3 : k = 9
    ·subst n3
     simp only [if_true]
     unfold fnO
     try simp only [Int.reduceEq, if_false]
     go_enter Try.func19, Try.ntmps19
     go_wp2
     go_ret
     exact ⟨rfl, Below.refl _ _⟩
    ·have n3b : (k == 9) = false := by simpa using n3
     rw [if_neg n3]
     clear n0
     clear n1
     clear n2
     clear n3
     unfold fnO
     go_enter Try.func19, Try.ntmps19
     go_wp2
     go_ret
     exact ⟨rfl, Below.refl _ _⟩
def byClientF (k : Int) : Option FuncId := if k = 1 then some 30 else if k = 2 then some 31 else if k = 3 then some 32 else if k = 4 then some 33 else if k = 16 then some 34 else none
set_option linter.unusedSimpArgs false in
set_option maxHeartbeats 4000000 in
set_option maxRecDepth 100000 in
theorem byClient_any (w : World) (k : Int) : Calls Try.prog 20 #[.int .i64 k] w fun e w' => e = .returned (fnO (byClientF k)) ∧ Below w.heap.size w w' := by
 unfold byClientF
 by_cases n0 : k = 1
 ·subst n0
  simp only [if_true]
  unfold fnO
  try simp only [Int.reduceEq, if_false]
  go_enter Try.func20, Try.ntmps20
  go_wp2
  go_ret
  exact ⟨rfl, Below.refl _ _⟩
 ·have n0b : (k == 1) = false := by simpa using n0
  rw [if_neg n0]
  by_cases n1 : k = 2
  ·subst n1
   simp only [if_true]
   unfold fnO
   try simp only [Int.reduceEq, if_false]
   go_enter Try.func20, Try.ntmps20
   go_wp2
   go_ret
   exact ⟨rfl, Below.refl _ _⟩
  ·have n1b : (k == 2) = false := by simpa using n1
   rw [if_neg n1]
   by_cases n2 : k = 3
   ·subst n2
    simp only [if_true]
    unfold fnO
    try simp only [Int.reduceEq, if_false]
    go_enter Try.func20, Try.ntmps20
    go_wp2
    go_ret
    exact ⟨rfl, Below.refl _ _⟩
   ·have n2b : (k == 3) = false := by simpa using n2
    rw [if_neg n2]
    by_cases n3 : k = 4
    ·subst n3
     simp only [if_true]
     unfold fnO
     try simp only [Int.reduceEq, if_false]
     go_enter Try.func20, Try.ntmps20
     go_wp2
     go_ret
     exact ⟨rfl, Below.refl _ _⟩
    ·have n3b : (k == 4) = false := by simpa using n3
     rw [if_neg n3]
     by_cases n4 : k = 16
     ·subst n4
      simp only [if_true]
      unfold fnO
      try simp only [Int.reduceEq, if_false]
      go_enter Try.func20, Try.ntmps20
      go_wp2
      go_ret
      exact ⟨rfl, Below.refl _ _⟩
     ·have n4b : (k == 16) = false := by simpa using n4
      rw [if_neg n4]
      clear n0
      clear n1
      clear n2
      clear n3
      clear n4
      unfold fnO
      go_enter Try.func20, Try.ntmps20
      go_wp2
      go_ret
      exact ⟨rfl, Below.refl _ _⟩
theorem adj_round {d : Dsk} (h : d.Ok) (s n : Int) : Hid (F64 ((soldA d s n).1.r + 1)) := by
 show F64 _
 unfold soldA
 split
 ·unfold F64; simp [itm0]
 ·rename_i q hq
  have hq2 : F64 (q.r + 1) := by
   obtain ⟨_, h2, _⟩ := chk_ok (h.its q (findX_mem hq).1).1
   unfold numsOk at h2
   unfold F64
   omega
  split <;> exact hq2
theorem node_call (w : World) (d : Dsk) (pi po : Option Addr) (ci co : Nat) (m : Msg) (vl vn : Value) (fro : Int) (h : DRow w d pi ci po co) (hn : d.xs.length < 1024) (P : Nat → Prop) (hw0 : ∀ b, P b → b < w.heap.size) (hat : At P (.slice pi d.xs.length ci) d.xs.length) (hato : At P (.slice po d.os.length co) d.os.length) (hdo : d.Ok) (F : FuncId) (hF : byNodeF m.k = some F) : Calls Try.prog F #[(deskV d.me pi d.xs.length ci po d.os.length co d.far), m.v vl vn, .int .i64 fro] w fun y w' => DoPost w P (nodeM d m fro) y w' := by
 unfold byNodeF at hF
 unfold nodeM
 by_cases n0 : m.k = 6
 ·rw [if_pos n0] at hF ⊢
  cases hF
  exact (dpropose_any w d pi po ci co m vl vn fro h hn P hw0 hat hdo (pro_may m fro)).mono (fun _ _ ha => actPost_do h hat hato ha)
 ·rw [if_neg n0] at hF ⊢
  by_cases n1 : m.k = 7
  ·rw [if_pos n1] at hF ⊢
   cases hF
   exact (dconfirm_any w d pi po ci co m vl vn fro h hn P hw0 hat (then_may (betw_may hdo _ _ _ _ _) (fun _ hx => turn_chk (.inr (.inl ⟨rfl, rfl⟩)) hx))).mono (fun _ _ ha => actPost_do h hat hato ha)
  ·rw [if_neg n1] at hF ⊢
   by_cases n2 : m.k = 8
   ·rw [if_pos n2] at hF ⊢
    cases hF
    exact (ddispute_any w d pi po ci co m vl vn fro h hn P hw0 hat (disp_may (dispI_may hdo m fro))).mono (fun _ _ ha => actPost_do h hat hato ha)
   ·rw [if_neg n2] at hF ⊢
    by_cases n3 : m.k = 9
    ·rw [if_pos n3] at hF ⊢
     cases hF
     exact (dcancel_any w d pi po ci co m vl vn fro h hn P hw0 hat (then_may (betw_may hdo _ _ _ _ _) (fun _ hx => turn_chk (.inr (.inr ⟨rfl, rfl⟩)) hx))).mono (fun _ _ ha => actPost_do h hat hato ha)
    ·rw [if_neg n3] at hF
     cases hF
theorem client_call (w : World) (d : Dsk) (pi po : Option Addr) (ci co : Nat) (m : Msg) (vl vn : Value) (fro : Int) (h : DRow w d pi ci po co) (hn : d.xs.length < 1024) (P : Nat → Prop) (hw0 : ∀ b, P b → b < w.heap.size) (hno : d.os.length < 1024) (hat : At P (.slice pi d.xs.length ci) d.xs.length) (hato : At P (.slice po d.os.length co) d.os.length) (hdo : d.Ok) (F : FuncId) (hF : byClientF m.k = some F) : Calls Try.prog F #[(deskV d.me pi d.xs.length ci po d.os.length co d.far), m.v vl vn, .int .i64 fro] w fun y w' => DoPost w P (clientM d m) y w' := by
 unfold byClientF at hF
 unfold clientM
 by_cases n0 : m.k = 1
 ·rw [if_pos n0] at hF ⊢
  cases hF
  exact (dissue_any w d pi po ci co m vl vn fro h hn P hw0 hat (issue_may m)).mono (fun _ _ ha => actPost_do h hat hato ha)
 ·rw [if_neg n0] at hF ⊢
  by_cases n1 : m.k = 2
  ·rw [if_pos n1] at hF ⊢
   cases hF
   exact dorder_any w d pi po ci co m vl vn fro h hn P hw0 hno hat hato
  ·rw [if_neg n1] at hF ⊢
   by_cases n2 : m.k = 3
   ·rw [if_pos n2] at hF ⊢
    cases hF
    exact (dadjust_any w d pi po ci co m vl vn fro h (adj_round hdo _ _) hn P hw0 hat (then_may (sold_may hdo _ _) (fun _ hx => adj_chk hx))).mono (fun _ _ ha => actPost_do h hat hato ha)
   ·rw [if_neg n2] at hF ⊢
    by_cases n3 : m.k = 4
    ·rw [if_pos n3] at hF ⊢
     cases hF
     exact (dwithdraw_any w d pi po ci co m vl vn fro h hn P hw0 hat (then_may (sold_may hdo _ _) (fun _ hx => turn_chk (.inr (.inr ⟨rfl, rfl⟩)) hx))).mono (fun _ _ ha => actPost_do h hat hato ha)
    ·rw [if_neg n3] at hF ⊢
     by_cases n4 : m.k = 16
     ·rw [if_pos n4] at hF ⊢
      cases hF
      exact ddue_any w d pi po ci co m vl vn fro h hn P hw0 hat hato hdo
     ·rw [if_neg n4] at hF
      cases hF
theorem node_none {d : Dsk} {m : Msg} {fro : Int} (hF : byNodeF m.k = none) : nodeM d m fro = (d, [], 110) := by
 unfold byNodeF at hF
 unfold nodeM
 repeat' (split at hF; · cases hF)
 rw [if_neg ‹_›, if_neg ‹_›, if_neg ‹_›, if_neg ‹_›]
theorem client_none {d : Dsk} {m : Msg} (hF : byClientF m.k = none) : clientM d m = (d, [], 110) := by
 unfold byClientF at hF
 unfold clientM
 repeat' (split at hF; · cases hF)
 rw [if_neg ‹_›, if_neg ‹_›, if_neg ‹_›, if_neg ‹_›, if_neg ‹_›]
theorem node_F {k : Int} {F : FuncId} (hF : byNodeF k = some F) : F = 26 ∨ F = 27 ∨ F = 28 ∨ F = 29 := by
 unfold byNodeF at hF
 split at hF
 ·cases hF; exact .inl rfl
 ·split at hF
  ·cases hF; exact .inr (.inl rfl)
  ·split at hF
   ·cases hF; exact .inr (.inr (.inl rfl))
   ·split at hF
    ·cases hF; exact .inr (.inr (.inr rfl))
    ·cases hF
theorem client_F {k : Int} {F : FuncId} (hF : byClientF k = some F) : F = 30 ∨ F = 31 ∨ F = 32 ∨ F = 33 ∨ F = 34 := by
 unfold byClientF at hF
 split at hF
 ·cases hF; exact .inl rfl
 ·split at hF
  ·cases hF; exact .inr (.inl rfl)
  ·split at hF
   ·cases hF; exact .inr (.inr (.inl rfl))
   ·split at hF
    ·cases hF; exact .inr (.inr (.inr (.inl rfl)))
    ·split at hF
     ·cases hF; exact .inr (.inr (.inr (.inr rfl)))
     ·cases hF
theorem eqin_f (w : World) (d : Nat) (F : FuncId) : (Op.equalIn (d + 1) 72 (.func (.func F) #[] #[]) .nilFunc).run Try.prog w = .ok false w := by
 simp [Op.equalIn, run_underlying Try.underlying72]
theorem eqin_n (w : World) (d : Nat) : (Op.equalIn (d + 1) 72 .nilFunc .nilFunc).run Try.prog w = .ok true w := by
 simp [Op.equalIn, run_underlying Try.underlying72]
theorem eqf (w : World) (F : FuncId) : (binOp .eql 72 (.func (.func F) #[] #[]) .nilFunc).run Try.prog w = .ok (.bool false) w := by
 simp only [binOp]
 simp [Op.equal, Op.maxDepth, eqin_f w 9999 F]
theorem eqn (w : World) : (binOp .eql 72 .nilFunc .nilFunc).run Try.prog w = .ok (.bool true) w := by
 simp only [binOp]
 simp [Op.equal, Op.maxDepth, eqin_n w 9999]
set_option linter.unusedSimpArgs false in
set_option maxHeartbeats 4000000 in
set_option maxRecDepth 100000 in
theorem do_any (w : World) (d : Dsk) (pi po : Option Addr) (ci co : Nat) (m : Msg) (vl vn : Value) (fro : Int) (h : DRow w d pi ci po co) (hn : d.xs.length < 1024) (P : Nat → Prop) (hw0 : ∀ b, P b → b < w.heap.size) (hno : d.os.length < 1024) (hat : At P (.slice pi d.xs.length ci) d.xs.length) (hato : At P (.slice po d.os.length co) d.os.length) (hdo : d.Ok) :
  Calls Try.prog 8 #[(deskV d.me pi d.xs.length ci po d.os.length co d.far), m.v vl vn, .int .i64 fro] w fun y w' => DoPost w P (doM d m fro) y w' := by
 have HT := Lib.hid (three_new w #[.int .i64 d.me, .slice pi d.xs.length ci, .slice po d.os.length co, .int .i64 d.far] #[.int .i64 m.k, .int .i64 m.s, .int .i64 m.n, .int .i64 m.b, .int .i64 m.c, .int .i64 m.r, .int .i64 m.y, .int .i64 m.a, .bool m.t, vl, vn] #[.int .i64 0, .slice none 0 0, .slice none 0 0, .int .i64 0] 29 40 29)
 have HH := Lib.hid h
 have HNN := Lib.hid hn
 have HW0 := Lib.hid hw0
 have HA0 := Lib.hid hat
 have HO0 := Lib.hid hato
 unfold doM
 by_cases hc : fro = -1
 ·rw [if_pos hc]
  have hcb : (fro == -1) = true := by simpa using hc
  clear hc
  cases hF : byClientF m.k with
  | some F =>
   have HW := Lib.hid (fun (W : World) (hb : Below w.heap.size w W) => client_call W d pi po ci co m vl vn fro (h.kept hb) hn P (fun b hp => Nat.lt_of_lt_of_le (hw0 b hp) hb.size) hno hat hato hdo F hF)
   unfold deskV Msg.v at HW
   have HFF := Lib.hid (client_F hF)
   have HGN := Lib.hid (fun (W : World) => byNode_any W m.k)
   have HGC := Lib.hid (fun (W : World) => byClient_any W m.k)
   rw [hF] at HGC
   generalize byNodeF m.k = fo at HGN
   unfold fnO at HGC
   clear h hn hno hw0 hat hato hdo hF
   have qE := eqf
   have qN := eqn
   generalize clientM d m = R at *
   unfold deskV Msg.v
   go_enter Try.func8, Try.ntmps8
   go_upto_region 1 with fail
   generalize (((w.alloc (.cells #[.int .i64 d.me, .slice pi d.xs.length ci, .slice po d.os.length co, .int .i64 d.far] 29)).alloc (.cells #[.int .i64 m.k, .int .i64 m.s, .int .i64 m.n, .int .i64 m.b, .int .i64 m.c, .int .i64 m.r, .int .i64 m.y, .int .i64 m.a, .bool m.t, vl, vn] 40)).alloc (.cells #[.int .i64 0, .slice none 0 0, .slice none 0 0, .int .i64 0] 29)) = W at *
   have HG := Lib.hid (HGN.out W)
   clear HGN
   have c0 : W.cell? ⟨w.heap.size + 1, 0, none⟩ = some (.int .i64 m.k) := HT.out.b1.cell 0
   go_wp2_with fail
   clear c0
   refine HG.out.mono ?_
   rintro y w6 ⟨rfl, hb⟩
   have HD6 := Lib.hid (HT.out.b0.below hb HT.out.b0.lt)
   have HM6 := Lib.hid (HT.out.b1.below hb HT.out.b1.lt)
   have HR6 := Lib.hid (HT.out.b2.below hb HT.out.b2.lt)
   have HB6 := Lib.hid (HT.out.low.trans (hb.mono HT.out.low.size))
   clear hb HG HT
   have HG := Lib.hid (HGC.out w6)
   clear HGC
   have c0 : w6.cell? ⟨w.heap.size + 1, 0, none⟩ = some (.int .i64 m.k) := HM6.out.cell 0
   go_wp2_with fail
   clear c0
   refine HG.out.mono ?_
   rintro y w9 ⟨rfl, hb⟩
   have HD9 := kbq HD6 hb
   have HM9 := kbq HM6 hb
   have HR9 := kbq HR6 hb
   have HB9 := ktq HB6 hb
   clear hb HG HD6 HM6 HR6 HB6
   go_upto_region 6 with fail
   rcases HFF.out with rfl | rfl | rfl | rfl | rfl
   ·skip
    have HG := Lib.hid (HW.out w9 HB9.out)
    clear HW HFF
    have a0 : w9.cell? ⟨w.heap.size, 0, none⟩ = some (.int .i64 d.me) := HD9.out.cell 0
    have a1 : w9.cell? ⟨w.heap.size, 1, none⟩ = some (.slice pi d.xs.length ci) := HD9.out.cell 1
    have a2 : w9.cell? ⟨w.heap.size, 2, none⟩ = some (.slice po d.os.length co) := HD9.out.cell 2
    have a3 : w9.cell? ⟨w.heap.size, 3, none⟩ = some (.int .i64 d.far) := HD9.out.cell 3
    have c0 : w9.cell? ⟨w.heap.size + 1, 0, none⟩ = some (.int .i64 m.k) := HM9.out.cell 0
    have c1 : w9.cell? ⟨w.heap.size + 1, 1, none⟩ = some (.int .i64 m.s) := HM9.out.cell 1
    have c2 : w9.cell? ⟨w.heap.size + 1, 2, none⟩ = some (.int .i64 m.n) := HM9.out.cell 2
    have c3 : w9.cell? ⟨w.heap.size + 1, 3, none⟩ = some (.int .i64 m.b) := HM9.out.cell 3
    have c4 : w9.cell? ⟨w.heap.size + 1, 4, none⟩ = some (.int .i64 m.c) := HM9.out.cell 4
    have c5 : w9.cell? ⟨w.heap.size + 1, 5, none⟩ = some (.int .i64 m.r) := HM9.out.cell 5
    have c6 : w9.cell? ⟨w.heap.size + 1, 6, none⟩ = some (.int .i64 m.y) := HM9.out.cell 6
    have c7 : w9.cell? ⟨w.heap.size + 1, 7, none⟩ = some (.int .i64 m.a) := HM9.out.cell 7
    have c8 : w9.cell? ⟨w.heap.size + 1, 8, none⟩ = some (.bool m.t) := HM9.out.cell 8
    have c9 : w9.cell? ⟨w.heap.size + 1, 9, none⟩ = some (vl) := HM9.out.cell 9
    have c10 : w9.cell? ⟨w.heap.size + 1, 10, none⟩ = some (vn) := HM9.out.cell 10
    go_wp2_with fail
    clear a0 a1 a2 a3 c0 c1 c2 c3 c4 c5 c6 c7 c8 c9 c10
    refine HG.out.mono ?_
    rintro y w2 ⟨hb2, pi2, ci2, po2, co2, vs, rfl, hdr, hati, hato, hown⟩
    have HR2 := kbq HR9 hb2
    have HB2 := ktq HB9 hb2
    have HZ7 : Hid (w.heap.size + 1 + 1 < w9.heap.size ∧ w.heap.size ≤ w9.heap.size) := ⟨HR9.out.lt, HB9.out.size⟩
    clear hb2 HG
    go_wp2_with (with_reducible refine stop_storeT 29 (.tmp 6) (.tmp 26) rfl ?_)
    have HTH : Hid (w2.there (w.heap.size + 1 + 1) 0 4) := HR2.out.thereAt
    have HF : Hid (Blk (w2.setCells (w.heap.size + 1 + 1) 0 (#[.int .i64 R.1.me, .slice pi2 R.1.xs.length ci2, .slice po2 R.1.os.length co2, .int .i64 R.1.far] : Array Value).toList) (w.heap.size + 1 + 1) #[.int .i64 R.1.me, .slice pi2 R.1.xs.length ci2, .slice po2 R.1.os.length co2, .int .i64 R.1.far] 29 ∧ Below w.heap.size w (w2.setCells (w.heap.size + 1 + 1) 0 (#[.int .i64 R.1.me, .slice pi2 R.1.xs.length ci2, .slice po2 R.1.os.length co2, .int .i64 R.1.far] : Array Value).toList) ∧ Chg (w.heap.size + 1 + 1) w2 (w2.setCells (w.heap.size + 1 + 1) 0 (#[.int .i64 R.1.me, .slice pi2 R.1.xs.length ci2, .slice po2 R.1.os.length co2, .int .i64 R.1.far] : Array Value).toList)) := ⟨blk_put_all HR2.out _ rfl, below_put (by omega) _ _ _ _ HB2.out, chg_putL _ _ _ _ _ (Chg.refl _ w2)⟩
    refine wpList_store_mid rfl 29 (.tmp 6) (.tmp 26) rfl (w.heap.size + 1 + 1) 0 #[.int .i64 R.1.me, .slice pi2 R.1.xs.length ci2, .slice po2 R.1.os.length co2, .int .i64 R.1.far] rfl rfl HTH.out (infoD4 rfl) (all_oneCell_toArray (by intro u hu; simp at hu; rcases hu with rfl | rfl | rfl | rfl <;> rfl)) ?_
    generalize World.setCells w2 _ _ _ = w8 at *
    clear HTH
    go_wp2_with fail
    have hf := HF.out.1
    have hng : ¬ (P (w.heap.size + 1 + 1) ∨ w9.heap.size ≤ w.heap.size + 1 + 1) := by
     have h2 := HZ7.out
     rintro (h | h)
     ·have h4 := HW0.out _ h; omega
     ·omega
    have hge : ∀ b, P b ∨ w9.heap.size ≤ b → P b ∨ w.heap.size ≤ b := fun b hb => hb.imp id (fun h => by have h2 := HZ7.out; omega)
    refine bodyPost_ret (v := .tuple #[.agg #[.int .i64 R.1.me, .slice pi2 R.1.xs.length ci2, .slice po2 R.1.os.length co2, .int .i64 R.1.far], vs, .int .i64 R.2.2]) (by simp [results, Try.results8, go_sem, hf.cell 0, hf.cell 1, hf.cell 2, hf.cell 3]) rfl ⟨HF.out.2.1, pi2, ci2, po2, co2, vs, rfl, ?_, hati.imp hge, hato.imp hge, ?_⟩
    ·exact ⟨hdr.items.keepP hati (KeepP.of_chg HF.out.2.2 hng), hdr.orders.keepP hato (KeepP.of_chg HF.out.2.2 hng), hdr.sx, hdr.so, hdr.nx, hdr.no⟩
    ·exact (hown.stay (fun b hb => HF.out.2.2.2 b (hown.lt b hb) (by have h1 := hown.block_ge b hb; have h2 := HZ7.out; omega))).less (by have h2 := HZ7.out; omega)
   ·skip
    have HG := Lib.hid (HW.out w9 HB9.out)
    clear HW HFF
    have a0 : w9.cell? ⟨w.heap.size, 0, none⟩ = some (.int .i64 d.me) := HD9.out.cell 0
    have a1 : w9.cell? ⟨w.heap.size, 1, none⟩ = some (.slice pi d.xs.length ci) := HD9.out.cell 1
    have a2 : w9.cell? ⟨w.heap.size, 2, none⟩ = some (.slice po d.os.length co) := HD9.out.cell 2
    have a3 : w9.cell? ⟨w.heap.size, 3, none⟩ = some (.int .i64 d.far) := HD9.out.cell 3
    have c0 : w9.cell? ⟨w.heap.size + 1, 0, none⟩ = some (.int .i64 m.k) := HM9.out.cell 0
    have c1 : w9.cell? ⟨w.heap.size + 1, 1, none⟩ = some (.int .i64 m.s) := HM9.out.cell 1
    have c2 : w9.cell? ⟨w.heap.size + 1, 2, none⟩ = some (.int .i64 m.n) := HM9.out.cell 2
    have c3 : w9.cell? ⟨w.heap.size + 1, 3, none⟩ = some (.int .i64 m.b) := HM9.out.cell 3
    have c4 : w9.cell? ⟨w.heap.size + 1, 4, none⟩ = some (.int .i64 m.c) := HM9.out.cell 4
    have c5 : w9.cell? ⟨w.heap.size + 1, 5, none⟩ = some (.int .i64 m.r) := HM9.out.cell 5
    have c6 : w9.cell? ⟨w.heap.size + 1, 6, none⟩ = some (.int .i64 m.y) := HM9.out.cell 6
    have c7 : w9.cell? ⟨w.heap.size + 1, 7, none⟩ = some (.int .i64 m.a) := HM9.out.cell 7
    have c8 : w9.cell? ⟨w.heap.size + 1, 8, none⟩ = some (.bool m.t) := HM9.out.cell 8
    have c9 : w9.cell? ⟨w.heap.size + 1, 9, none⟩ = some (vl) := HM9.out.cell 9
    have c10 : w9.cell? ⟨w.heap.size + 1, 10, none⟩ = some (vn) := HM9.out.cell 10
    go_wp2_with fail
    clear a0 a1 a2 a3 c0 c1 c2 c3 c4 c5 c6 c7 c8 c9 c10
    refine HG.out.mono ?_
    rintro y w2 ⟨hb2, pi2, ci2, po2, co2, vs, rfl, hdr, hati, hato, hown⟩
    have HR2 := kbq HR9 hb2
    have HB2 := ktq HB9 hb2
    have HZ7 : Hid (w.heap.size + 1 + 1 < w9.heap.size ∧ w.heap.size ≤ w9.heap.size) := ⟨HR9.out.lt, HB9.out.size⟩
    clear hb2 HG
    go_wp2_with (with_reducible refine stop_storeT 29 (.tmp 6) (.tmp 26) rfl ?_)
    have HTH : Hid (w2.there (w.heap.size + 1 + 1) 0 4) := HR2.out.thereAt
    have HF : Hid (Blk (w2.setCells (w.heap.size + 1 + 1) 0 (#[.int .i64 R.1.me, .slice pi2 R.1.xs.length ci2, .slice po2 R.1.os.length co2, .int .i64 R.1.far] : Array Value).toList) (w.heap.size + 1 + 1) #[.int .i64 R.1.me, .slice pi2 R.1.xs.length ci2, .slice po2 R.1.os.length co2, .int .i64 R.1.far] 29 ∧ Below w.heap.size w (w2.setCells (w.heap.size + 1 + 1) 0 (#[.int .i64 R.1.me, .slice pi2 R.1.xs.length ci2, .slice po2 R.1.os.length co2, .int .i64 R.1.far] : Array Value).toList) ∧ Chg (w.heap.size + 1 + 1) w2 (w2.setCells (w.heap.size + 1 + 1) 0 (#[.int .i64 R.1.me, .slice pi2 R.1.xs.length ci2, .slice po2 R.1.os.length co2, .int .i64 R.1.far] : Array Value).toList)) := ⟨blk_put_all HR2.out _ rfl, below_put (by omega) _ _ _ _ HB2.out, chg_putL _ _ _ _ _ (Chg.refl _ w2)⟩
    refine wpList_store_mid rfl 29 (.tmp 6) (.tmp 26) rfl (w.heap.size + 1 + 1) 0 #[.int .i64 R.1.me, .slice pi2 R.1.xs.length ci2, .slice po2 R.1.os.length co2, .int .i64 R.1.far] rfl rfl HTH.out (infoD4 rfl) (all_oneCell_toArray (by intro u hu; simp at hu; rcases hu with rfl | rfl | rfl | rfl <;> rfl)) ?_
    generalize World.setCells w2 _ _ _ = w8 at *
    clear HTH
    go_wp2_with fail
    have hf := HF.out.1
    have hng : ¬ (P (w.heap.size + 1 + 1) ∨ w9.heap.size ≤ w.heap.size + 1 + 1) := by
     have h2 := HZ7.out
     rintro (h | h)
     ·have h4 := HW0.out _ h; omega
     ·omega
    have hge : ∀ b, P b ∨ w9.heap.size ≤ b → P b ∨ w.heap.size ≤ b := fun b hb => hb.imp id (fun h => by have h2 := HZ7.out; omega)
    refine bodyPost_ret (v := .tuple #[.agg #[.int .i64 R.1.me, .slice pi2 R.1.xs.length ci2, .slice po2 R.1.os.length co2, .int .i64 R.1.far], vs, .int .i64 R.2.2]) (by simp [results, Try.results8, go_sem, hf.cell 0, hf.cell 1, hf.cell 2, hf.cell 3]) rfl ⟨HF.out.2.1, pi2, ci2, po2, co2, vs, rfl, ?_, hati.imp hge, hato.imp hge, ?_⟩
    ·exact ⟨hdr.items.keepP hati (KeepP.of_chg HF.out.2.2 hng), hdr.orders.keepP hato (KeepP.of_chg HF.out.2.2 hng), hdr.sx, hdr.so, hdr.nx, hdr.no⟩
    ·exact (hown.stay (fun b hb => HF.out.2.2.2 b (hown.lt b hb) (by have h1 := hown.block_ge b hb; have h2 := HZ7.out; omega))).less (by have h2 := HZ7.out; omega)
   ·skip
    have HG := Lib.hid (HW.out w9 HB9.out)
    clear HW HFF
    have a0 : w9.cell? ⟨w.heap.size, 0, none⟩ = some (.int .i64 d.me) := HD9.out.cell 0
    have a1 : w9.cell? ⟨w.heap.size, 1, none⟩ = some (.slice pi d.xs.length ci) := HD9.out.cell 1
    have a2 : w9.cell? ⟨w.heap.size, 2, none⟩ = some (.slice po d.os.length co) := HD9.out.cell 2
    have a3 : w9.cell? ⟨w.heap.size, 3, none⟩ = some (.int .i64 d.far) := HD9.out.cell 3
    have c0 : w9.cell? ⟨w.heap.size + 1, 0, none⟩ = some (.int .i64 m.k) := HM9.out.cell 0
    have c1 : w9.cell? ⟨w.heap.size + 1, 1, none⟩ = some (.int .i64 m.s) := HM9.out.cell 1
    have c2 : w9.cell? ⟨w.heap.size + 1, 2, none⟩ = some (.int .i64 m.n) := HM9.out.cell 2
    have c3 : w9.cell? ⟨w.heap.size + 1, 3, none⟩ = some (.int .i64 m.b) := HM9.out.cell 3
    have c4 : w9.cell? ⟨w.heap.size + 1, 4, none⟩ = some (.int .i64 m.c) := HM9.out.cell 4
    have c5 : w9.cell? ⟨w.heap.size + 1, 5, none⟩ = some (.int .i64 m.r) := HM9.out.cell 5
    have c6 : w9.cell? ⟨w.heap.size + 1, 6, none⟩ = some (.int .i64 m.y) := HM9.out.cell 6
    have c7 : w9.cell? ⟨w.heap.size + 1, 7, none⟩ = some (.int .i64 m.a) := HM9.out.cell 7
    have c8 : w9.cell? ⟨w.heap.size + 1, 8, none⟩ = some (.bool m.t) := HM9.out.cell 8
    have c9 : w9.cell? ⟨w.heap.size + 1, 9, none⟩ = some (vl) := HM9.out.cell 9
    have c10 : w9.cell? ⟨w.heap.size + 1, 10, none⟩ = some (vn) := HM9.out.cell 10
    go_wp2_with fail
    clear a0 a1 a2 a3 c0 c1 c2 c3 c4 c5 c6 c7 c8 c9 c10
    refine HG.out.mono ?_
    rintro y w2 ⟨hb2, pi2, ci2, po2, co2, vs, rfl, hdr, hati, hato, hown⟩
    have HR2 := kbq HR9 hb2
    have HB2 := ktq HB9 hb2
    have HZ7 : Hid (w.heap.size + 1 + 1 < w9.heap.size ∧ w.heap.size ≤ w9.heap.size) := ⟨HR9.out.lt, HB9.out.size⟩
    clear hb2 HG
    go_wp2_with (with_reducible refine stop_storeT 29 (.tmp 6) (.tmp 26) rfl ?_)
    have HTH : Hid (w2.there (w.heap.size + 1 + 1) 0 4) := HR2.out.thereAt
    have HF : Hid (Blk (w2.setCells (w.heap.size + 1 + 1) 0 (#[.int .i64 R.1.me, .slice pi2 R.1.xs.length ci2, .slice po2 R.1.os.length co2, .int .i64 R.1.far] : Array Value).toList) (w.heap.size + 1 + 1) #[.int .i64 R.1.me, .slice pi2 R.1.xs.length ci2, .slice po2 R.1.os.length co2, .int .i64 R.1.far] 29 ∧ Below w.heap.size w (w2.setCells (w.heap.size + 1 + 1) 0 (#[.int .i64 R.1.me, .slice pi2 R.1.xs.length ci2, .slice po2 R.1.os.length co2, .int .i64 R.1.far] : Array Value).toList) ∧ Chg (w.heap.size + 1 + 1) w2 (w2.setCells (w.heap.size + 1 + 1) 0 (#[.int .i64 R.1.me, .slice pi2 R.1.xs.length ci2, .slice po2 R.1.os.length co2, .int .i64 R.1.far] : Array Value).toList)) := ⟨blk_put_all HR2.out _ rfl, below_put (by omega) _ _ _ _ HB2.out, chg_putL _ _ _ _ _ (Chg.refl _ w2)⟩
    refine wpList_store_mid rfl 29 (.tmp 6) (.tmp 26) rfl (w.heap.size + 1 + 1) 0 #[.int .i64 R.1.me, .slice pi2 R.1.xs.length ci2, .slice po2 R.1.os.length co2, .int .i64 R.1.far] rfl rfl HTH.out (infoD4 rfl) (all_oneCell_toArray (by intro u hu; simp at hu; rcases hu with rfl | rfl | rfl | rfl <;> rfl)) ?_
    generalize World.setCells w2 _ _ _ = w8 at *
    clear HTH
    go_wp2_with fail
    have hf := HF.out.1
    have hng : ¬ (P (w.heap.size + 1 + 1) ∨ w9.heap.size ≤ w.heap.size + 1 + 1) := by
     have h2 := HZ7.out
     rintro (h | h)
     ·have h4 := HW0.out _ h; omega
     ·omega
    have hge : ∀ b, P b ∨ w9.heap.size ≤ b → P b ∨ w.heap.size ≤ b := fun b hb => hb.imp id (fun h => by have h2 := HZ7.out; omega)
    refine bodyPost_ret (v := .tuple #[.agg #[.int .i64 R.1.me, .slice pi2 R.1.xs.length ci2, .slice po2 R.1.os.length co2, .int .i64 R.1.far], vs, .int .i64 R.2.2]) (by simp [results, Try.results8, go_sem, hf.cell 0, hf.cell 1, hf.cell 2, hf.cell 3]) rfl ⟨HF.out.2.1, pi2, ci2, po2, co2, vs, rfl, ?_, hati.imp hge, hato.imp hge, ?_⟩
    ·exact ⟨hdr.items.keepP hati (KeepP.of_chg HF.out.2.2 hng), hdr.orders.keepP hato (KeepP.of_chg HF.out.2.2 hng), hdr.sx, hdr.so, hdr.nx, hdr.no⟩
    ·exact (hown.stay (fun b hb => HF.out.2.2.2 b (hown.lt b hb) (by have h1 := hown.block_ge b hb; have h2 := HZ7.out; omega))).less (by have h2 := HZ7.out; omega)
   ·skip
    have HG := Lib.hid (HW.out w9 HB9.out)
    clear HW HFF
    have a0 : w9.cell? ⟨w.heap.size, 0, none⟩ = some (.int .i64 d.me) := HD9.out.cell 0
    have a1 : w9.cell? ⟨w.heap.size, 1, none⟩ = some (.slice pi d.xs.length ci) := HD9.out.cell 1
    have a2 : w9.cell? ⟨w.heap.size, 2, none⟩ = some (.slice po d.os.length co) := HD9.out.cell 2
    have a3 : w9.cell? ⟨w.heap.size, 3, none⟩ = some (.int .i64 d.far) := HD9.out.cell 3
    have c0 : w9.cell? ⟨w.heap.size + 1, 0, none⟩ = some (.int .i64 m.k) := HM9.out.cell 0
    have c1 : w9.cell? ⟨w.heap.size + 1, 1, none⟩ = some (.int .i64 m.s) := HM9.out.cell 1
    have c2 : w9.cell? ⟨w.heap.size + 1, 2, none⟩ = some (.int .i64 m.n) := HM9.out.cell 2
    have c3 : w9.cell? ⟨w.heap.size + 1, 3, none⟩ = some (.int .i64 m.b) := HM9.out.cell 3
    have c4 : w9.cell? ⟨w.heap.size + 1, 4, none⟩ = some (.int .i64 m.c) := HM9.out.cell 4
    have c5 : w9.cell? ⟨w.heap.size + 1, 5, none⟩ = some (.int .i64 m.r) := HM9.out.cell 5
    have c6 : w9.cell? ⟨w.heap.size + 1, 6, none⟩ = some (.int .i64 m.y) := HM9.out.cell 6
    have c7 : w9.cell? ⟨w.heap.size + 1, 7, none⟩ = some (.int .i64 m.a) := HM9.out.cell 7
    have c8 : w9.cell? ⟨w.heap.size + 1, 8, none⟩ = some (.bool m.t) := HM9.out.cell 8
    have c9 : w9.cell? ⟨w.heap.size + 1, 9, none⟩ = some (vl) := HM9.out.cell 9
    have c10 : w9.cell? ⟨w.heap.size + 1, 10, none⟩ = some (vn) := HM9.out.cell 10
    go_wp2_with fail
    clear a0 a1 a2 a3 c0 c1 c2 c3 c4 c5 c6 c7 c8 c9 c10
    refine HG.out.mono ?_
    rintro y w2 ⟨hb2, pi2, ci2, po2, co2, vs, rfl, hdr, hati, hato, hown⟩
    have HR2 := kbq HR9 hb2
    have HB2 := ktq HB9 hb2
    have HZ7 : Hid (w.heap.size + 1 + 1 < w9.heap.size ∧ w.heap.size ≤ w9.heap.size) := ⟨HR9.out.lt, HB9.out.size⟩
    clear hb2 HG
    go_wp2_with (with_reducible refine stop_storeT 29 (.tmp 6) (.tmp 26) rfl ?_)
    have HTH : Hid (w2.there (w.heap.size + 1 + 1) 0 4) := HR2.out.thereAt
    have HF : Hid (Blk (w2.setCells (w.heap.size + 1 + 1) 0 (#[.int .i64 R.1.me, .slice pi2 R.1.xs.length ci2, .slice po2 R.1.os.length co2, .int .i64 R.1.far] : Array Value).toList) (w.heap.size + 1 + 1) #[.int .i64 R.1.me, .slice pi2 R.1.xs.length ci2, .slice po2 R.1.os.length co2, .int .i64 R.1.far] 29 ∧ Below w.heap.size w (w2.setCells (w.heap.size + 1 + 1) 0 (#[.int .i64 R.1.me, .slice pi2 R.1.xs.length ci2, .slice po2 R.1.os.length co2, .int .i64 R.1.far] : Array Value).toList) ∧ Chg (w.heap.size + 1 + 1) w2 (w2.setCells (w.heap.size + 1 + 1) 0 (#[.int .i64 R.1.me, .slice pi2 R.1.xs.length ci2, .slice po2 R.1.os.length co2, .int .i64 R.1.far] : Array Value).toList)) := ⟨blk_put_all HR2.out _ rfl, below_put (by omega) _ _ _ _ HB2.out, chg_putL _ _ _ _ _ (Chg.refl _ w2)⟩
    refine wpList_store_mid rfl 29 (.tmp 6) (.tmp 26) rfl (w.heap.size + 1 + 1) 0 #[.int .i64 R.1.me, .slice pi2 R.1.xs.length ci2, .slice po2 R.1.os.length co2, .int .i64 R.1.far] rfl rfl HTH.out (infoD4 rfl) (all_oneCell_toArray (by intro u hu; simp at hu; rcases hu with rfl | rfl | rfl | rfl <;> rfl)) ?_
    generalize World.setCells w2 _ _ _ = w8 at *
    clear HTH
    go_wp2_with fail
    have hf := HF.out.1
    have hng : ¬ (P (w.heap.size + 1 + 1) ∨ w9.heap.size ≤ w.heap.size + 1 + 1) := by
     have h2 := HZ7.out
     rintro (h | h)
     ·have h4 := HW0.out _ h; omega
     ·omega
    have hge : ∀ b, P b ∨ w9.heap.size ≤ b → P b ∨ w.heap.size ≤ b := fun b hb => hb.imp id (fun h => by have h2 := HZ7.out; omega)
    refine bodyPost_ret (v := .tuple #[.agg #[.int .i64 R.1.me, .slice pi2 R.1.xs.length ci2, .slice po2 R.1.os.length co2, .int .i64 R.1.far], vs, .int .i64 R.2.2]) (by simp [results, Try.results8, go_sem, hf.cell 0, hf.cell 1, hf.cell 2, hf.cell 3]) rfl ⟨HF.out.2.1, pi2, ci2, po2, co2, vs, rfl, ?_, hati.imp hge, hato.imp hge, ?_⟩
    ·exact ⟨hdr.items.keepP hati (KeepP.of_chg HF.out.2.2 hng), hdr.orders.keepP hato (KeepP.of_chg HF.out.2.2 hng), hdr.sx, hdr.so, hdr.nx, hdr.no⟩
    ·exact (hown.stay (fun b hb => HF.out.2.2.2 b (hown.lt b hb) (by have h1 := hown.block_ge b hb; have h2 := HZ7.out; omega))).less (by have h2 := HZ7.out; omega)
   ·skip
    have HG := Lib.hid (HW.out w9 HB9.out)
    clear HW HFF
    have a0 : w9.cell? ⟨w.heap.size, 0, none⟩ = some (.int .i64 d.me) := HD9.out.cell 0
    have a1 : w9.cell? ⟨w.heap.size, 1, none⟩ = some (.slice pi d.xs.length ci) := HD9.out.cell 1
    have a2 : w9.cell? ⟨w.heap.size, 2, none⟩ = some (.slice po d.os.length co) := HD9.out.cell 2
    have a3 : w9.cell? ⟨w.heap.size, 3, none⟩ = some (.int .i64 d.far) := HD9.out.cell 3
    have c0 : w9.cell? ⟨w.heap.size + 1, 0, none⟩ = some (.int .i64 m.k) := HM9.out.cell 0
    have c1 : w9.cell? ⟨w.heap.size + 1, 1, none⟩ = some (.int .i64 m.s) := HM9.out.cell 1
    have c2 : w9.cell? ⟨w.heap.size + 1, 2, none⟩ = some (.int .i64 m.n) := HM9.out.cell 2
    have c3 : w9.cell? ⟨w.heap.size + 1, 3, none⟩ = some (.int .i64 m.b) := HM9.out.cell 3
    have c4 : w9.cell? ⟨w.heap.size + 1, 4, none⟩ = some (.int .i64 m.c) := HM9.out.cell 4
    have c5 : w9.cell? ⟨w.heap.size + 1, 5, none⟩ = some (.int .i64 m.r) := HM9.out.cell 5
    have c6 : w9.cell? ⟨w.heap.size + 1, 6, none⟩ = some (.int .i64 m.y) := HM9.out.cell 6
    have c7 : w9.cell? ⟨w.heap.size + 1, 7, none⟩ = some (.int .i64 m.a) := HM9.out.cell 7
    have c8 : w9.cell? ⟨w.heap.size + 1, 8, none⟩ = some (.bool m.t) := HM9.out.cell 8
    have c9 : w9.cell? ⟨w.heap.size + 1, 9, none⟩ = some (vl) := HM9.out.cell 9
    have c10 : w9.cell? ⟨w.heap.size + 1, 10, none⟩ = some (vn) := HM9.out.cell 10
    go_wp2_with fail
    clear a0 a1 a2 a3 c0 c1 c2 c3 c4 c5 c6 c7 c8 c9 c10
    refine HG.out.mono ?_
    rintro y w2 ⟨hb2, pi2, ci2, po2, co2, vs, rfl, hdr, hati, hato, hown⟩
    have HR2 := kbq HR9 hb2
    have HB2 := ktq HB9 hb2
    have HZ7 : Hid (w.heap.size + 1 + 1 < w9.heap.size ∧ w.heap.size ≤ w9.heap.size) := ⟨HR9.out.lt, HB9.out.size⟩
    clear hb2 HG
    go_wp2_with (with_reducible refine stop_storeT 29 (.tmp 6) (.tmp 26) rfl ?_)
    have HTH : Hid (w2.there (w.heap.size + 1 + 1) 0 4) := HR2.out.thereAt
    have HF : Hid (Blk (w2.setCells (w.heap.size + 1 + 1) 0 (#[.int .i64 R.1.me, .slice pi2 R.1.xs.length ci2, .slice po2 R.1.os.length co2, .int .i64 R.1.far] : Array Value).toList) (w.heap.size + 1 + 1) #[.int .i64 R.1.me, .slice pi2 R.1.xs.length ci2, .slice po2 R.1.os.length co2, .int .i64 R.1.far] 29 ∧ Below w.heap.size w (w2.setCells (w.heap.size + 1 + 1) 0 (#[.int .i64 R.1.me, .slice pi2 R.1.xs.length ci2, .slice po2 R.1.os.length co2, .int .i64 R.1.far] : Array Value).toList) ∧ Chg (w.heap.size + 1 + 1) w2 (w2.setCells (w.heap.size + 1 + 1) 0 (#[.int .i64 R.1.me, .slice pi2 R.1.xs.length ci2, .slice po2 R.1.os.length co2, .int .i64 R.1.far] : Array Value).toList)) := ⟨blk_put_all HR2.out _ rfl, below_put (by omega) _ _ _ _ HB2.out, chg_putL _ _ _ _ _ (Chg.refl _ w2)⟩
    refine wpList_store_mid rfl 29 (.tmp 6) (.tmp 26) rfl (w.heap.size + 1 + 1) 0 #[.int .i64 R.1.me, .slice pi2 R.1.xs.length ci2, .slice po2 R.1.os.length co2, .int .i64 R.1.far] rfl rfl HTH.out (infoD4 rfl) (all_oneCell_toArray (by intro u hu; simp at hu; rcases hu with rfl | rfl | rfl | rfl <;> rfl)) ?_
    generalize World.setCells w2 _ _ _ = w8 at *
    clear HTH
    go_wp2_with fail
    have hf := HF.out.1
    have hng : ¬ (P (w.heap.size + 1 + 1) ∨ w9.heap.size ≤ w.heap.size + 1 + 1) := by
     have h2 := HZ7.out
     rintro (h | h)
     ·have h4 := HW0.out _ h; omega
     ·omega
    have hge : ∀ b, P b ∨ w9.heap.size ≤ b → P b ∨ w.heap.size ≤ b := fun b hb => hb.imp id (fun h => by have h2 := HZ7.out; omega)
    refine bodyPost_ret (v := .tuple #[.agg #[.int .i64 R.1.me, .slice pi2 R.1.xs.length ci2, .slice po2 R.1.os.length co2, .int .i64 R.1.far], vs, .int .i64 R.2.2]) (by simp [results, Try.results8, go_sem, hf.cell 0, hf.cell 1, hf.cell 2, hf.cell 3]) rfl ⟨HF.out.2.1, pi2, ci2, po2, co2, vs, rfl, ?_, hati.imp hge, hato.imp hge, ?_⟩
    ·exact ⟨hdr.items.keepP hati (KeepP.of_chg HF.out.2.2 hng), hdr.orders.keepP hato (KeepP.of_chg HF.out.2.2 hng), hdr.sx, hdr.so, hdr.nx, hdr.no⟩
    ·exact (hown.stay (fun b hb => HF.out.2.2.2 b (hown.lt b hb) (by have h1 := hown.block_ge b hb; have h2 := HZ7.out; omega))).less (by have h2 := HZ7.out; omega)
  | none =>
   rw [client_none hF]
   have HGN := Lib.hid (fun (W : World) => byNode_any W m.k)
   have HGC := Lib.hid (fun (W : World) => byClient_any W m.k)
   rw [hF] at HGC
   generalize byNodeF m.k = fo at HGN
   unfold fnO at HGC
   clear h hn hno hw0 hat hato hdo hF
   have qE := eqf
   have qN := eqn
   unfold deskV Msg.v
   go_enter Try.func8, Try.ntmps8
   go_upto_region 1 with fail
   generalize (((w.alloc (.cells #[.int .i64 d.me, .slice pi d.xs.length ci, .slice po d.os.length co, .int .i64 d.far] 29)).alloc (.cells #[.int .i64 m.k, .int .i64 m.s, .int .i64 m.n, .int .i64 m.b, .int .i64 m.c, .int .i64 m.r, .int .i64 m.y, .int .i64 m.a, .bool m.t, vl, vn] 40)).alloc (.cells #[.int .i64 0, .slice none 0 0, .slice none 0 0, .int .i64 0] 29)) = W at *
   have HG := Lib.hid (HGN.out W)
   clear HGN
   have c0 : W.cell? ⟨w.heap.size + 1, 0, none⟩ = some (.int .i64 m.k) := HT.out.b1.cell 0
   go_wp2_with fail
   clear c0
   refine HG.out.mono ?_
   rintro y w6 ⟨rfl, hb⟩
   have HD6 := Lib.hid (HT.out.b0.below hb HT.out.b0.lt)
   have HM6 := Lib.hid (HT.out.b1.below hb HT.out.b1.lt)
   have HR6 := Lib.hid (HT.out.b2.below hb HT.out.b2.lt)
   have HB6 := Lib.hid (HT.out.low.trans (hb.mono HT.out.low.size))
   clear hb HG HT
   have HG := Lib.hid (HGC.out w6)
   clear HGC
   have c0 : w6.cell? ⟨w.heap.size + 1, 0, none⟩ = some (.int .i64 m.k) := HM6.out.cell 0
   go_wp2_with fail
   clear c0
   refine HG.out.mono ?_
   rintro y w9 ⟨rfl, hb⟩
   have HD9 := kbq HD6 hb
   have HM9 := kbq HM6 hb
   have HR9 := kbq HR6 hb
   have HB9 := ktq HB6 hb
   clear hb HG HD6 HM6 HR6 HB6
   go_upto_region 5 with fail
   have a0 : w9.cell? ⟨w.heap.size, 0, none⟩ = some (.int .i64 d.me) := HD9.out.cell 0
   have a1 : w9.cell? ⟨w.heap.size, 1, none⟩ = some (.slice pi d.xs.length ci) := HD9.out.cell 1
   have a2 : w9.cell? ⟨w.heap.size, 2, none⟩ = some (.slice po d.os.length co) := HD9.out.cell 2
   have a3 : w9.cell? ⟨w.heap.size, 3, none⟩ = some (.int .i64 d.far) := HD9.out.cell 3
   have HR8 := Lib.hid HR9.out
   have HB8 := Lib.hid HB9.out
   go_wp2_with (with_reducible refine stop_storeT 29 (.tmp 6) (.tmp 20) rfl ?_)
   clear a0 a1 a2 a3
   have HTH : Hid (w9.there (w.heap.size + 1 + 1) 0 4) := HR8.out.thereAt
   have HF : Hid (Blk (w9.setCells (w.heap.size + 1 + 1) 0 (#[.int .i64 d.me, .slice pi d.xs.length ci, .slice po d.os.length co, .int .i64 d.far] : Array Value).toList) (w.heap.size + 1 + 1) #[.int .i64 d.me, .slice pi d.xs.length ci, .slice po d.os.length co, .int .i64 d.far] 29 ∧ Below w.heap.size w (w9.setCells (w.heap.size + 1 + 1) 0 (#[.int .i64 d.me, .slice pi d.xs.length ci, .slice po d.os.length co, .int .i64 d.far] : Array Value).toList)) := ⟨blk_put_all HR8.out _ rfl, below_put (by omega) _ _ _ _ HB8.out⟩
   refine wpList_store_mid rfl 29 (.tmp 6) (.tmp 20) rfl (w.heap.size + 1 + 1) 0 #[.int .i64 d.me, .slice pi d.xs.length ci, .slice po d.os.length co, .int .i64 d.far] rfl rfl HTH.out (infoD4 rfl) (all_oneCell_toArray (by intro u hu; simp at hu; rcases hu with rfl | rfl | rfl | rfl <;> rfl)) ?_
   generalize World.setCells w9 _ _ _ = w8 at *
   clear HTH
   go_wp2_with fail
   have hf := HF.out.1
   refine bodyPost_ret (v := .tuple #[.agg #[.int .i64 d.me, .slice pi d.xs.length ci, .slice po d.os.length co, .int .i64 d.far], .slice none 0 0, .int .i64 110]) (by simp [results, Try.results8, go_sem, hf.cell 0, hf.cell 1, hf.cell 2, hf.cell 3]) rfl ⟨HF.out.2, pi, ci, po, co, _, rfl, HH.out.kept HF.out.2, HA0.out.imp (fun _ h => .inl h), HO0.out.imp (fun _ h => .inl h), OwnT.nil_ _ _ _ _⟩
 ·rw [if_neg hc]
  have hcb : (fro == -1) = false := by simpa using hc
  clear hc
  cases hF : byNodeF m.k with
  | some F =>
   have HW := Lib.hid (fun (W : World) (hb : Below w.heap.size w W) => node_call W d pi po ci co m vl vn fro (h.kept hb) hn P (fun b hp => Nat.lt_of_lt_of_le (hw0 b hp) hb.size) hat hato hdo F hF)
   unfold deskV Msg.v at HW
   have HFF := Lib.hid (node_F hF)
   have HGN := Lib.hid (fun (W : World) => byNode_any W m.k)
   rw [hF] at HGN
   unfold fnO at HGN
   clear h hn hno hw0 hat hato hdo hF
   have qE := eqf
   have qN := eqn
   generalize nodeM d m fro = R at *
   unfold deskV Msg.v
   go_enter Try.func8, Try.ntmps8
   go_upto_region 1 with fail
   generalize (((w.alloc (.cells #[.int .i64 d.me, .slice pi d.xs.length ci, .slice po d.os.length co, .int .i64 d.far] 29)).alloc (.cells #[.int .i64 m.k, .int .i64 m.s, .int .i64 m.n, .int .i64 m.b, .int .i64 m.c, .int .i64 m.r, .int .i64 m.y, .int .i64 m.a, .bool m.t, vl, vn] 40)).alloc (.cells #[.int .i64 0, .slice none 0 0, .slice none 0 0, .int .i64 0] 29)) = W at *
   have HG := Lib.hid (HGN.out W)
   clear HGN
   have c0 : W.cell? ⟨w.heap.size + 1, 0, none⟩ = some (.int .i64 m.k) := HT.out.b1.cell 0
   go_wp2_with fail
   clear c0
   refine HG.out.mono ?_
   rintro y w6 ⟨rfl, hb⟩
   have HD6 := Lib.hid (HT.out.b0.below hb HT.out.b0.lt)
   have HM6 := Lib.hid (HT.out.b1.below hb HT.out.b1.lt)
   have HR6 := Lib.hid (HT.out.b2.below hb HT.out.b2.lt)
   have HB6 := Lib.hid (HT.out.low.trans (hb.mono HT.out.low.size))
   clear hb HG HT
   go_upto_region 6 with fail
   rcases HFF.out with rfl | rfl | rfl | rfl
   ·skip
    have HG := Lib.hid (HW.out w6 HB6.out)
    clear HW HFF
    have a0 : w6.cell? ⟨w.heap.size, 0, none⟩ = some (.int .i64 d.me) := HD6.out.cell 0
    have a1 : w6.cell? ⟨w.heap.size, 1, none⟩ = some (.slice pi d.xs.length ci) := HD6.out.cell 1
    have a2 : w6.cell? ⟨w.heap.size, 2, none⟩ = some (.slice po d.os.length co) := HD6.out.cell 2
    have a3 : w6.cell? ⟨w.heap.size, 3, none⟩ = some (.int .i64 d.far) := HD6.out.cell 3
    have c0 : w6.cell? ⟨w.heap.size + 1, 0, none⟩ = some (.int .i64 m.k) := HM6.out.cell 0
    have c1 : w6.cell? ⟨w.heap.size + 1, 1, none⟩ = some (.int .i64 m.s) := HM6.out.cell 1
    have c2 : w6.cell? ⟨w.heap.size + 1, 2, none⟩ = some (.int .i64 m.n) := HM6.out.cell 2
    have c3 : w6.cell? ⟨w.heap.size + 1, 3, none⟩ = some (.int .i64 m.b) := HM6.out.cell 3
    have c4 : w6.cell? ⟨w.heap.size + 1, 4, none⟩ = some (.int .i64 m.c) := HM6.out.cell 4
    have c5 : w6.cell? ⟨w.heap.size + 1, 5, none⟩ = some (.int .i64 m.r) := HM6.out.cell 5
    have c6 : w6.cell? ⟨w.heap.size + 1, 6, none⟩ = some (.int .i64 m.y) := HM6.out.cell 6
    have c7 : w6.cell? ⟨w.heap.size + 1, 7, none⟩ = some (.int .i64 m.a) := HM6.out.cell 7
    have c8 : w6.cell? ⟨w.heap.size + 1, 8, none⟩ = some (.bool m.t) := HM6.out.cell 8
    have c9 : w6.cell? ⟨w.heap.size + 1, 9, none⟩ = some (vl) := HM6.out.cell 9
    have c10 : w6.cell? ⟨w.heap.size + 1, 10, none⟩ = some (vn) := HM6.out.cell 10
    go_wp2_with fail
    clear a0 a1 a2 a3 c0 c1 c2 c3 c4 c5 c6 c7 c8 c9 c10
    refine HG.out.mono ?_
    rintro y w2 ⟨hb2, pi2, ci2, po2, co2, vs, rfl, hdr, hati, hato, hown⟩
    have HR2 := kbq HR6 hb2
    have HB2 := ktq HB6 hb2
    have HZ7 : Hid (w.heap.size + 1 + 1 < w6.heap.size ∧ w.heap.size ≤ w6.heap.size) := ⟨HR6.out.lt, HB6.out.size⟩
    clear hb2 HG
    go_wp2_with (with_reducible refine stop_storeT 29 (.tmp 6) (.tmp 26) rfl ?_)
    have HTH : Hid (w2.there (w.heap.size + 1 + 1) 0 4) := HR2.out.thereAt
    have HF : Hid (Blk (w2.setCells (w.heap.size + 1 + 1) 0 (#[.int .i64 R.1.me, .slice pi2 R.1.xs.length ci2, .slice po2 R.1.os.length co2, .int .i64 R.1.far] : Array Value).toList) (w.heap.size + 1 + 1) #[.int .i64 R.1.me, .slice pi2 R.1.xs.length ci2, .slice po2 R.1.os.length co2, .int .i64 R.1.far] 29 ∧ Below w.heap.size w (w2.setCells (w.heap.size + 1 + 1) 0 (#[.int .i64 R.1.me, .slice pi2 R.1.xs.length ci2, .slice po2 R.1.os.length co2, .int .i64 R.1.far] : Array Value).toList) ∧ Chg (w.heap.size + 1 + 1) w2 (w2.setCells (w.heap.size + 1 + 1) 0 (#[.int .i64 R.1.me, .slice pi2 R.1.xs.length ci2, .slice po2 R.1.os.length co2, .int .i64 R.1.far] : Array Value).toList)) := ⟨blk_put_all HR2.out _ rfl, below_put (by omega) _ _ _ _ HB2.out, chg_putL _ _ _ _ _ (Chg.refl _ w2)⟩
    refine wpList_store_mid rfl 29 (.tmp 6) (.tmp 26) rfl (w.heap.size + 1 + 1) 0 #[.int .i64 R.1.me, .slice pi2 R.1.xs.length ci2, .slice po2 R.1.os.length co2, .int .i64 R.1.far] rfl rfl HTH.out (infoD4 rfl) (all_oneCell_toArray (by intro u hu; simp at hu; rcases hu with rfl | rfl | rfl | rfl <;> rfl)) ?_
    generalize World.setCells w2 _ _ _ = w8 at *
    clear HTH
    go_wp2_with fail
    have hf := HF.out.1
    have hng : ¬ (P (w.heap.size + 1 + 1) ∨ w6.heap.size ≤ w.heap.size + 1 + 1) := by
     have h2 := HZ7.out
     rintro (h | h)
     ·have h4 := HW0.out _ h; omega
     ·omega
    have hge : ∀ b, P b ∨ w6.heap.size ≤ b → P b ∨ w.heap.size ≤ b := fun b hb => hb.imp id (fun h => by have h2 := HZ7.out; omega)
    refine bodyPost_ret (v := .tuple #[.agg #[.int .i64 R.1.me, .slice pi2 R.1.xs.length ci2, .slice po2 R.1.os.length co2, .int .i64 R.1.far], vs, .int .i64 R.2.2]) (by simp [results, Try.results8, go_sem, hf.cell 0, hf.cell 1, hf.cell 2, hf.cell 3]) rfl ⟨HF.out.2.1, pi2, ci2, po2, co2, vs, rfl, ?_, hati.imp hge, hato.imp hge, ?_⟩
    ·exact ⟨hdr.items.keepP hati (KeepP.of_chg HF.out.2.2 hng), hdr.orders.keepP hato (KeepP.of_chg HF.out.2.2 hng), hdr.sx, hdr.so, hdr.nx, hdr.no⟩
    ·exact (hown.stay (fun b hb => HF.out.2.2.2 b (hown.lt b hb) (by have h1 := hown.block_ge b hb; have h2 := HZ7.out; omega))).less (by have h2 := HZ7.out; omega)
   ·skip
    have HG := Lib.hid (HW.out w6 HB6.out)
    clear HW HFF
    have a0 : w6.cell? ⟨w.heap.size, 0, none⟩ = some (.int .i64 d.me) := HD6.out.cell 0
    have a1 : w6.cell? ⟨w.heap.size, 1, none⟩ = some (.slice pi d.xs.length ci) := HD6.out.cell 1
    have a2 : w6.cell? ⟨w.heap.size, 2, none⟩ = some (.slice po d.os.length co) := HD6.out.cell 2
    have a3 : w6.cell? ⟨w.heap.size, 3, none⟩ = some (.int .i64 d.far) := HD6.out.cell 3
    have c0 : w6.cell? ⟨w.heap.size + 1, 0, none⟩ = some (.int .i64 m.k) := HM6.out.cell 0
    have c1 : w6.cell? ⟨w.heap.size + 1, 1, none⟩ = some (.int .i64 m.s) := HM6.out.cell 1
    have c2 : w6.cell? ⟨w.heap.size + 1, 2, none⟩ = some (.int .i64 m.n) := HM6.out.cell 2
    have c3 : w6.cell? ⟨w.heap.size + 1, 3, none⟩ = some (.int .i64 m.b) := HM6.out.cell 3
    have c4 : w6.cell? ⟨w.heap.size + 1, 4, none⟩ = some (.int .i64 m.c) := HM6.out.cell 4
    have c5 : w6.cell? ⟨w.heap.size + 1, 5, none⟩ = some (.int .i64 m.r) := HM6.out.cell 5
    have c6 : w6.cell? ⟨w.heap.size + 1, 6, none⟩ = some (.int .i64 m.y) := HM6.out.cell 6
    have c7 : w6.cell? ⟨w.heap.size + 1, 7, none⟩ = some (.int .i64 m.a) := HM6.out.cell 7
    have c8 : w6.cell? ⟨w.heap.size + 1, 8, none⟩ = some (.bool m.t) := HM6.out.cell 8
    have c9 : w6.cell? ⟨w.heap.size + 1, 9, none⟩ = some (vl) := HM6.out.cell 9
    have c10 : w6.cell? ⟨w.heap.size + 1, 10, none⟩ = some (vn) := HM6.out.cell 10
    go_wp2_with fail
    clear a0 a1 a2 a3 c0 c1 c2 c3 c4 c5 c6 c7 c8 c9 c10
    refine HG.out.mono ?_
    rintro y w2 ⟨hb2, pi2, ci2, po2, co2, vs, rfl, hdr, hati, hato, hown⟩
    have HR2 := kbq HR6 hb2
    have HB2 := ktq HB6 hb2
    have HZ7 : Hid (w.heap.size + 1 + 1 < w6.heap.size ∧ w.heap.size ≤ w6.heap.size) := ⟨HR6.out.lt, HB6.out.size⟩
    clear hb2 HG
    go_wp2_with (with_reducible refine stop_storeT 29 (.tmp 6) (.tmp 26) rfl ?_)
    have HTH : Hid (w2.there (w.heap.size + 1 + 1) 0 4) := HR2.out.thereAt
    have HF : Hid (Blk (w2.setCells (w.heap.size + 1 + 1) 0 (#[.int .i64 R.1.me, .slice pi2 R.1.xs.length ci2, .slice po2 R.1.os.length co2, .int .i64 R.1.far] : Array Value).toList) (w.heap.size + 1 + 1) #[.int .i64 R.1.me, .slice pi2 R.1.xs.length ci2, .slice po2 R.1.os.length co2, .int .i64 R.1.far] 29 ∧ Below w.heap.size w (w2.setCells (w.heap.size + 1 + 1) 0 (#[.int .i64 R.1.me, .slice pi2 R.1.xs.length ci2, .slice po2 R.1.os.length co2, .int .i64 R.1.far] : Array Value).toList) ∧ Chg (w.heap.size + 1 + 1) w2 (w2.setCells (w.heap.size + 1 + 1) 0 (#[.int .i64 R.1.me, .slice pi2 R.1.xs.length ci2, .slice po2 R.1.os.length co2, .int .i64 R.1.far] : Array Value).toList)) := ⟨blk_put_all HR2.out _ rfl, below_put (by omega) _ _ _ _ HB2.out, chg_putL _ _ _ _ _ (Chg.refl _ w2)⟩
    refine wpList_store_mid rfl 29 (.tmp 6) (.tmp 26) rfl (w.heap.size + 1 + 1) 0 #[.int .i64 R.1.me, .slice pi2 R.1.xs.length ci2, .slice po2 R.1.os.length co2, .int .i64 R.1.far] rfl rfl HTH.out (infoD4 rfl) (all_oneCell_toArray (by intro u hu; simp at hu; rcases hu with rfl | rfl | rfl | rfl <;> rfl)) ?_
    generalize World.setCells w2 _ _ _ = w8 at *
    clear HTH
    go_wp2_with fail
    have hf := HF.out.1
    have hng : ¬ (P (w.heap.size + 1 + 1) ∨ w6.heap.size ≤ w.heap.size + 1 + 1) := by
     have h2 := HZ7.out
     rintro (h | h)
     ·have h4 := HW0.out _ h; omega
     ·omega
    have hge : ∀ b, P b ∨ w6.heap.size ≤ b → P b ∨ w.heap.size ≤ b := fun b hb => hb.imp id (fun h => by have h2 := HZ7.out; omega)
    refine bodyPost_ret (v := .tuple #[.agg #[.int .i64 R.1.me, .slice pi2 R.1.xs.length ci2, .slice po2 R.1.os.length co2, .int .i64 R.1.far], vs, .int .i64 R.2.2]) (by simp [results, Try.results8, go_sem, hf.cell 0, hf.cell 1, hf.cell 2, hf.cell 3]) rfl ⟨HF.out.2.1, pi2, ci2, po2, co2, vs, rfl, ?_, hati.imp hge, hato.imp hge, ?_⟩
    ·exact ⟨hdr.items.keepP hati (KeepP.of_chg HF.out.2.2 hng), hdr.orders.keepP hato (KeepP.of_chg HF.out.2.2 hng), hdr.sx, hdr.so, hdr.nx, hdr.no⟩
    ·exact (hown.stay (fun b hb => HF.out.2.2.2 b (hown.lt b hb) (by have h1 := hown.block_ge b hb; have h2 := HZ7.out; omega))).less (by have h2 := HZ7.out; omega)
   ·skip
    have HG := Lib.hid (HW.out w6 HB6.out)
    clear HW HFF
    have a0 : w6.cell? ⟨w.heap.size, 0, none⟩ = some (.int .i64 d.me) := HD6.out.cell 0
    have a1 : w6.cell? ⟨w.heap.size, 1, none⟩ = some (.slice pi d.xs.length ci) := HD6.out.cell 1
    have a2 : w6.cell? ⟨w.heap.size, 2, none⟩ = some (.slice po d.os.length co) := HD6.out.cell 2
    have a3 : w6.cell? ⟨w.heap.size, 3, none⟩ = some (.int .i64 d.far) := HD6.out.cell 3
    have c0 : w6.cell? ⟨w.heap.size + 1, 0, none⟩ = some (.int .i64 m.k) := HM6.out.cell 0
    have c1 : w6.cell? ⟨w.heap.size + 1, 1, none⟩ = some (.int .i64 m.s) := HM6.out.cell 1
    have c2 : w6.cell? ⟨w.heap.size + 1, 2, none⟩ = some (.int .i64 m.n) := HM6.out.cell 2
    have c3 : w6.cell? ⟨w.heap.size + 1, 3, none⟩ = some (.int .i64 m.b) := HM6.out.cell 3
    have c4 : w6.cell? ⟨w.heap.size + 1, 4, none⟩ = some (.int .i64 m.c) := HM6.out.cell 4
    have c5 : w6.cell? ⟨w.heap.size + 1, 5, none⟩ = some (.int .i64 m.r) := HM6.out.cell 5
    have c6 : w6.cell? ⟨w.heap.size + 1, 6, none⟩ = some (.int .i64 m.y) := HM6.out.cell 6
    have c7 : w6.cell? ⟨w.heap.size + 1, 7, none⟩ = some (.int .i64 m.a) := HM6.out.cell 7
    have c8 : w6.cell? ⟨w.heap.size + 1, 8, none⟩ = some (.bool m.t) := HM6.out.cell 8
    have c9 : w6.cell? ⟨w.heap.size + 1, 9, none⟩ = some (vl) := HM6.out.cell 9
    have c10 : w6.cell? ⟨w.heap.size + 1, 10, none⟩ = some (vn) := HM6.out.cell 10
    go_wp2_with fail
    clear a0 a1 a2 a3 c0 c1 c2 c3 c4 c5 c6 c7 c8 c9 c10
    refine HG.out.mono ?_
    rintro y w2 ⟨hb2, pi2, ci2, po2, co2, vs, rfl, hdr, hati, hato, hown⟩
    have HR2 := kbq HR6 hb2
    have HB2 := ktq HB6 hb2
    have HZ7 : Hid (w.heap.size + 1 + 1 < w6.heap.size ∧ w.heap.size ≤ w6.heap.size) := ⟨HR6.out.lt, HB6.out.size⟩
    clear hb2 HG
    go_wp2_with (with_reducible refine stop_storeT 29 (.tmp 6) (.tmp 26) rfl ?_)
    have HTH : Hid (w2.there (w.heap.size + 1 + 1) 0 4) := HR2.out.thereAt
    have HF : Hid (Blk (w2.setCells (w.heap.size + 1 + 1) 0 (#[.int .i64 R.1.me, .slice pi2 R.1.xs.length ci2, .slice po2 R.1.os.length co2, .int .i64 R.1.far] : Array Value).toList) (w.heap.size + 1 + 1) #[.int .i64 R.1.me, .slice pi2 R.1.xs.length ci2, .slice po2 R.1.os.length co2, .int .i64 R.1.far] 29 ∧ Below w.heap.size w (w2.setCells (w.heap.size + 1 + 1) 0 (#[.int .i64 R.1.me, .slice pi2 R.1.xs.length ci2, .slice po2 R.1.os.length co2, .int .i64 R.1.far] : Array Value).toList) ∧ Chg (w.heap.size + 1 + 1) w2 (w2.setCells (w.heap.size + 1 + 1) 0 (#[.int .i64 R.1.me, .slice pi2 R.1.xs.length ci2, .slice po2 R.1.os.length co2, .int .i64 R.1.far] : Array Value).toList)) := ⟨blk_put_all HR2.out _ rfl, below_put (by omega) _ _ _ _ HB2.out, chg_putL _ _ _ _ _ (Chg.refl _ w2)⟩
    refine wpList_store_mid rfl 29 (.tmp 6) (.tmp 26) rfl (w.heap.size + 1 + 1) 0 #[.int .i64 R.1.me, .slice pi2 R.1.xs.length ci2, .slice po2 R.1.os.length co2, .int .i64 R.1.far] rfl rfl HTH.out (infoD4 rfl) (all_oneCell_toArray (by intro u hu; simp at hu; rcases hu with rfl | rfl | rfl | rfl <;> rfl)) ?_
    generalize World.setCells w2 _ _ _ = w8 at *
    clear HTH
    go_wp2_with fail
    have hf := HF.out.1
    have hng : ¬ (P (w.heap.size + 1 + 1) ∨ w6.heap.size ≤ w.heap.size + 1 + 1) := by
     have h2 := HZ7.out
     rintro (h | h)
     ·have h4 := HW0.out _ h; omega
     ·omega
    have hge : ∀ b, P b ∨ w6.heap.size ≤ b → P b ∨ w.heap.size ≤ b := fun b hb => hb.imp id (fun h => by have h2 := HZ7.out; omega)
    refine bodyPost_ret (v := .tuple #[.agg #[.int .i64 R.1.me, .slice pi2 R.1.xs.length ci2, .slice po2 R.1.os.length co2, .int .i64 R.1.far], vs, .int .i64 R.2.2]) (by simp [results, Try.results8, go_sem, hf.cell 0, hf.cell 1, hf.cell 2, hf.cell 3]) rfl ⟨HF.out.2.1, pi2, ci2, po2, co2, vs, rfl, ?_, hati.imp hge, hato.imp hge, ?_⟩
    ·exact ⟨hdr.items.keepP hati (KeepP.of_chg HF.out.2.2 hng), hdr.orders.keepP hato (KeepP.of_chg HF.out.2.2 hng), hdr.sx, hdr.so, hdr.nx, hdr.no⟩
    ·exact (hown.stay (fun b hb => HF.out.2.2.2 b (hown.lt b hb) (by have h1 := hown.block_ge b hb; have h2 := HZ7.out; omega))).less (by have h2 := HZ7.out; omega)
   ·skip
    have HG := Lib.hid (HW.out w6 HB6.out)
    clear HW HFF
    have a0 : w6.cell? ⟨w.heap.size, 0, none⟩ = some (.int .i64 d.me) := HD6.out.cell 0
    have a1 : w6.cell? ⟨w.heap.size, 1, none⟩ = some (.slice pi d.xs.length ci) := HD6.out.cell 1
    have a2 : w6.cell? ⟨w.heap.size, 2, none⟩ = some (.slice po d.os.length co) := HD6.out.cell 2
    have a3 : w6.cell? ⟨w.heap.size, 3, none⟩ = some (.int .i64 d.far) := HD6.out.cell 3
    have c0 : w6.cell? ⟨w.heap.size + 1, 0, none⟩ = some (.int .i64 m.k) := HM6.out.cell 0
    have c1 : w6.cell? ⟨w.heap.size + 1, 1, none⟩ = some (.int .i64 m.s) := HM6.out.cell 1
    have c2 : w6.cell? ⟨w.heap.size + 1, 2, none⟩ = some (.int .i64 m.n) := HM6.out.cell 2
    have c3 : w6.cell? ⟨w.heap.size + 1, 3, none⟩ = some (.int .i64 m.b) := HM6.out.cell 3
    have c4 : w6.cell? ⟨w.heap.size + 1, 4, none⟩ = some (.int .i64 m.c) := HM6.out.cell 4
    have c5 : w6.cell? ⟨w.heap.size + 1, 5, none⟩ = some (.int .i64 m.r) := HM6.out.cell 5
    have c6 : w6.cell? ⟨w.heap.size + 1, 6, none⟩ = some (.int .i64 m.y) := HM6.out.cell 6
    have c7 : w6.cell? ⟨w.heap.size + 1, 7, none⟩ = some (.int .i64 m.a) := HM6.out.cell 7
    have c8 : w6.cell? ⟨w.heap.size + 1, 8, none⟩ = some (.bool m.t) := HM6.out.cell 8
    have c9 : w6.cell? ⟨w.heap.size + 1, 9, none⟩ = some (vl) := HM6.out.cell 9
    have c10 : w6.cell? ⟨w.heap.size + 1, 10, none⟩ = some (vn) := HM6.out.cell 10
    go_wp2_with fail
    clear a0 a1 a2 a3 c0 c1 c2 c3 c4 c5 c6 c7 c8 c9 c10
    refine HG.out.mono ?_
    rintro y w2 ⟨hb2, pi2, ci2, po2, co2, vs, rfl, hdr, hati, hato, hown⟩
    have HR2 := kbq HR6 hb2
    have HB2 := ktq HB6 hb2
    have HZ7 : Hid (w.heap.size + 1 + 1 < w6.heap.size ∧ w.heap.size ≤ w6.heap.size) := ⟨HR6.out.lt, HB6.out.size⟩
    clear hb2 HG
    go_wp2_with (with_reducible refine stop_storeT 29 (.tmp 6) (.tmp 26) rfl ?_)
    have HTH : Hid (w2.there (w.heap.size + 1 + 1) 0 4) := HR2.out.thereAt
    have HF : Hid (Blk (w2.setCells (w.heap.size + 1 + 1) 0 (#[.int .i64 R.1.me, .slice pi2 R.1.xs.length ci2, .slice po2 R.1.os.length co2, .int .i64 R.1.far] : Array Value).toList) (w.heap.size + 1 + 1) #[.int .i64 R.1.me, .slice pi2 R.1.xs.length ci2, .slice po2 R.1.os.length co2, .int .i64 R.1.far] 29 ∧ Below w.heap.size w (w2.setCells (w.heap.size + 1 + 1) 0 (#[.int .i64 R.1.me, .slice pi2 R.1.xs.length ci2, .slice po2 R.1.os.length co2, .int .i64 R.1.far] : Array Value).toList) ∧ Chg (w.heap.size + 1 + 1) w2 (w2.setCells (w.heap.size + 1 + 1) 0 (#[.int .i64 R.1.me, .slice pi2 R.1.xs.length ci2, .slice po2 R.1.os.length co2, .int .i64 R.1.far] : Array Value).toList)) := ⟨blk_put_all HR2.out _ rfl, below_put (by omega) _ _ _ _ HB2.out, chg_putL _ _ _ _ _ (Chg.refl _ w2)⟩
    refine wpList_store_mid rfl 29 (.tmp 6) (.tmp 26) rfl (w.heap.size + 1 + 1) 0 #[.int .i64 R.1.me, .slice pi2 R.1.xs.length ci2, .slice po2 R.1.os.length co2, .int .i64 R.1.far] rfl rfl HTH.out (infoD4 rfl) (all_oneCell_toArray (by intro u hu; simp at hu; rcases hu with rfl | rfl | rfl | rfl <;> rfl)) ?_
    generalize World.setCells w2 _ _ _ = w8 at *
    clear HTH
    go_wp2_with fail
    have hf := HF.out.1
    have hng : ¬ (P (w.heap.size + 1 + 1) ∨ w6.heap.size ≤ w.heap.size + 1 + 1) := by
     have h2 := HZ7.out
     rintro (h | h)
     ·have h4 := HW0.out _ h; omega
     ·omega
    have hge : ∀ b, P b ∨ w6.heap.size ≤ b → P b ∨ w.heap.size ≤ b := fun b hb => hb.imp id (fun h => by have h2 := HZ7.out; omega)
    refine bodyPost_ret (v := .tuple #[.agg #[.int .i64 R.1.me, .slice pi2 R.1.xs.length ci2, .slice po2 R.1.os.length co2, .int .i64 R.1.far], vs, .int .i64 R.2.2]) (by simp [results, Try.results8, go_sem, hf.cell 0, hf.cell 1, hf.cell 2, hf.cell 3]) rfl ⟨HF.out.2.1, pi2, ci2, po2, co2, vs, rfl, ?_, hati.imp hge, hato.imp hge, ?_⟩
    ·exact ⟨hdr.items.keepP hati (KeepP.of_chg HF.out.2.2 hng), hdr.orders.keepP hato (KeepP.of_chg HF.out.2.2 hng), hdr.sx, hdr.so, hdr.nx, hdr.no⟩
    ·exact (hown.stay (fun b hb => HF.out.2.2.2 b (hown.lt b hb) (by have h1 := hown.block_ge b hb; have h2 := HZ7.out; omega))).less (by have h2 := HZ7.out; omega)
  | none =>
   rw [node_none hF]
   have HGN := Lib.hid (fun (W : World) => byNode_any W m.k)
   rw [hF] at HGN
   unfold fnO at HGN
   clear h hn hno hw0 hat hato hdo hF
   have qE := eqf
   have qN := eqn
   unfold deskV Msg.v
   go_enter Try.func8, Try.ntmps8
   go_upto_region 1 with fail
   generalize (((w.alloc (.cells #[.int .i64 d.me, .slice pi d.xs.length ci, .slice po d.os.length co, .int .i64 d.far] 29)).alloc (.cells #[.int .i64 m.k, .int .i64 m.s, .int .i64 m.n, .int .i64 m.b, .int .i64 m.c, .int .i64 m.r, .int .i64 m.y, .int .i64 m.a, .bool m.t, vl, vn] 40)).alloc (.cells #[.int .i64 0, .slice none 0 0, .slice none 0 0, .int .i64 0] 29)) = W at *
   have HG := Lib.hid (HGN.out W)
   clear HGN
   have c0 : W.cell? ⟨w.heap.size + 1, 0, none⟩ = some (.int .i64 m.k) := HT.out.b1.cell 0
   go_wp2_with fail
   clear c0
   refine HG.out.mono ?_
   rintro y w6 ⟨rfl, hb⟩
   have HD6 := Lib.hid (HT.out.b0.below hb HT.out.b0.lt)
   have HM6 := Lib.hid (HT.out.b1.below hb HT.out.b1.lt)
   have HR6 := Lib.hid (HT.out.b2.below hb HT.out.b2.lt)
   have HB6 := Lib.hid (HT.out.low.trans (hb.mono HT.out.low.size))
   clear hb HG HT
   go_upto_region 5 with fail
   have a0 : w6.cell? ⟨w.heap.size, 0, none⟩ = some (.int .i64 d.me) := HD6.out.cell 0
   have a1 : w6.cell? ⟨w.heap.size, 1, none⟩ = some (.slice pi d.xs.length ci) := HD6.out.cell 1
   have a2 : w6.cell? ⟨w.heap.size, 2, none⟩ = some (.slice po d.os.length co) := HD6.out.cell 2
   have a3 : w6.cell? ⟨w.heap.size, 3, none⟩ = some (.int .i64 d.far) := HD6.out.cell 3
   have HR8 := Lib.hid HR6.out
   have HB8 := Lib.hid HB6.out
   go_wp2_with (with_reducible refine stop_storeT 29 (.tmp 6) (.tmp 20) rfl ?_)
   clear a0 a1 a2 a3
   have HTH : Hid (w6.there (w.heap.size + 1 + 1) 0 4) := HR8.out.thereAt
   have HF : Hid (Blk (w6.setCells (w.heap.size + 1 + 1) 0 (#[.int .i64 d.me, .slice pi d.xs.length ci, .slice po d.os.length co, .int .i64 d.far] : Array Value).toList) (w.heap.size + 1 + 1) #[.int .i64 d.me, .slice pi d.xs.length ci, .slice po d.os.length co, .int .i64 d.far] 29 ∧ Below w.heap.size w (w6.setCells (w.heap.size + 1 + 1) 0 (#[.int .i64 d.me, .slice pi d.xs.length ci, .slice po d.os.length co, .int .i64 d.far] : Array Value).toList)) := ⟨blk_put_all HR8.out _ rfl, below_put (by omega) _ _ _ _ HB8.out⟩
   refine wpList_store_mid rfl 29 (.tmp 6) (.tmp 20) rfl (w.heap.size + 1 + 1) 0 #[.int .i64 d.me, .slice pi d.xs.length ci, .slice po d.os.length co, .int .i64 d.far] rfl rfl HTH.out (infoD4 rfl) (all_oneCell_toArray (by intro u hu; simp at hu; rcases hu with rfl | rfl | rfl | rfl <;> rfl)) ?_
   generalize World.setCells w6 _ _ _ = w8 at *
   clear HTH
   go_wp2_with fail
   have hf := HF.out.1
   refine bodyPost_ret (v := .tuple #[.agg #[.int .i64 d.me, .slice pi d.xs.length ci, .slice po d.os.length co, .int .i64 d.far], .slice none 0 0, .int .i64 110]) (by simp [results, Try.results8, go_sem, hf.cell 0, hf.cell 1, hf.cell 2, hf.cell 3]) rfl ⟨HF.out.2, pi, ci, po, co, _, rfl, HH.out.kept HF.out.2, HA0.out.imp (fun _ h => .inl h), HO0.out.imp (fun _ h => .inl h), OwnT.nil_ _ _ _ _⟩
end Go.Proofs.Ytbpfbebebppleaa
namespace Go.Proofs.Ytbpfbebebppleaa
open Go.RowKit
set_option linter.unusedSimpArgs false
def dcells (d : Dsk) (pi : Option Addr) (ci : Nat) (po : Option Addr) (co : Nat) : Array Value := #[.int .i64 d.me, .slice pi d.xs.length ci, .slice po d.os.length co, .int .i64 d.far]
/-- What a desk's rows are. -/
structure DkR (P : Nat → Prop) (w : World) (d : Dsk) (pi : Option Addr) (ci : Nat) (po : Option Addr) (co : Nat) : Prop where
 row : DRow w d pi ci po co
 ai : At P (.slice pi d.xs.length ci) d.xs.length
 ao : At P (.slice po d.os.length co) d.os.length
 ok : d.Ok
section
variable {P Q : Nat → Prop} {w w' : World} {d d2 : Dsk} {pi po : Option Addr} {ci co : Nat}
theorem DkR.kept (h : DkR P w d pi ci po co) (hb : Below w.heap.size w w') : DkR P w' d pi ci po co := ⟨h.row.kept hb, h.ai, h.ao, h.ok⟩
theorem DkR.keepP (h : DkR P w d pi ci po co) (hb : KeepP P w w') : DkR P w' d pi ci po co := ⟨⟨h.row.items.keepP h.ai hb, h.row.orders.keepP h.ao hb, h.row.sx, h.row.so, h.row.nx, h.row.no⟩, h.ai, h.ao, h.ok⟩
theorem DkR.imp (h : DkR P w d pi ci po co) (hq : ∀ b, P b → Q b) : DkR Q w d pi ci po co := ⟨h.row, h.ai.imp hq, h.ao.imp hq, h.ok⟩
theorem DkR.lt (h : DkR P w d pi ci po co) : DkR (fun b => P b ∧ b < w.heap.size) w d pi ci po co := by
 refine ⟨h.row, ?_, ?_, h.ok⟩
 ·intro b o n c e hn
  obtain ⟨b', o', e1, hb, _⟩ := h.row.items.at_ 0 hn
  cases e
  cases e1
  exact ⟨h.ai _ _ _ _ rfl hn, hb⟩
 ·intro b o n c e hn
  obtain ⟨b', o', e1, hb, _⟩ := h.row.orders.at_ 0 hn
  cases e
  cases e1
  exact ⟨h.ao _ _ _ _ rfl hn, hb⟩
theorem DkR.do_ (h : DkR P w d pi ci po co) (hn : d.xs.length < 1024) (hno : d.os.length < 1024) (m : Msg) (vl vn : Value) (fro : Int) (out : List (Int × Msg)) (e : Int) (hR : doM d m fro = (d2, out, e)) :
  Calls Try.prog 8 #[.agg (dcells d pi ci po co), m.v vl vn, .int .i64 fro] w fun y w' => Below w.heap.size w w' ∧ ∃ pi2 ci2 po2 co2 vs, y = .returned (.tuple #[.agg (dcells d2 pi2 ci2 po2 co2), vs, .int .i64 e]) ∧ DkR (fun b => P b ∨ w.heap.size ≤ b) w' d2 pi2 ci2 po2 co2 ∧ OwnT encS w' w.heap.size 58 vs (out.map sdX) := by
 have hl := h.lt
 refine (do_any w d pi po ci co m vl vn fro h.row hn (fun b => P b ∧ b < w.heap.size) (fun b hb => hb.2) hno hl.ai hl.ao h.ok).mono ?_
 have hok := do_ok h.ok m fro
 rw [hR]
 rw [hR] at hok
 rintro y w' ⟨hb, pi2, ci2, po2, co2, vs, rfl, hr, hi, ho, hown⟩
 exact ⟨hb, pi2, ci2, po2, co2, vs, rfl, ⟨hr, hi.imp (fun b hb => hb.imp And.left id), ho.imp (fun b hb => hb.imp And.left id), hok.1⟩, hown⟩
end
theorem own1 {w : World} {g : Nat} {vs : Value} {y : SdX} (h : OwnT encS w g 58 vs [y]) : ∃ b o c, vs = .slice (some ⟨b, o, none⟩) 1 c ∧ g ≤ b ∧ b < w.heap.size ∧ ∀ q, q < 12 → w.cell? ⟨b, o + q, none⟩ = (SdX.cells y)[q]? := by
 obtain ⟨p, c, rfl⟩ := h.form
 obtain ⟨b, o, e1, hb, hc⟩ := h.row.at_ 0 (by simp)
 subst e1
 refine ⟨b, o, c, rfl, h.block_ge b rfl, hb, fun q hq => ?_⟩
 have := hc q hq
 simp only [Nat.zero_mul, Nat.add_zero, List.getElem_cons_zero] at this
 exact this
theorem own0 {w : World} {g : Nat} {vs : Value} (h : OwnT encS w g 58 vs []) : ∃ p c, vs = .slice p 0 c := h.form
def dsk0 (me far : Int) : Dsk := ⟨me, far, [], []⟩
theorem dkR0 (P : Nat → Prop) (w : World) (me far : Int) (h : 0 ≤ me ∧ me < 8) (hf : Fits far) : DkR P w (dsk0 me far) none 0 none 0 :=
 ⟨⟨TRow.nil_ _ _, TRow.nil_ _ _, List.Pairwise.nil, List.Pairwise.nil, by simp [dsk0], by simp [dsk0]⟩, At.nil_ _ _, At.nil_ _ _, ⟨h, hf, (fun _ hx => by cases hx), (fun _ hx => by cases hx)⟩⟩
set_option linter.unusedSimpArgs false in
set_option maxHeartbeats 4000000 in
set_option maxRecDepth 100000 in
theorem desk_any (w : World) (me far : Int) (h : 0 ≤ me ∧ me < 8) : Calls Try.prog 7 #[.int .i64 me, .int .i64 far] w fun y w' => y = .returned (.tuple #[.agg #[.int .i64 me, .slice none 0 0, .slice none 0 0, .int .i64 far], .bool true]) ∧ Below w.heap.size w w' := by
 have HG := Lib.hid (newB_any (w.alloc (.cells #[.int .i64 0, .slice none 0 0, .slice none 0 0, .int .i64 0] 29)) me h)
 have HR := Lib.hid (Blk.new w #[.int .i64 0, .slice none 0 0, .slice none 0 0, .int .i64 0] 29)
 have HB := Lib.hid (oneB w (.cells #[.int .i64 0, .slice none 0 0, .slice none 0 0, .int .i64 0] 29))
 clear h
 unfold bookV at HG
 go_enter Try.func7, Try.ntmps7
 go_upto_region 1 with fail
 generalize w.alloc (.cells #[.int .i64 0, .slice none 0 0, .slice none 0 0, .int .i64 0] 29) = W at *
 go_wp2_with fail
 refine HG.out.mono ?_
 rintro y w1 ⟨rfl, hb⟩
 have HR1 : Hid (Blk (w1.alloc (.cells #[.int .i64 me, .slice none 0 0, .slice none 0 0] 27)) w.heap.size #[.int .i64 0, .slice none 0 0, .slice none 0 0, .int .i64 0] 29) := (HR.out.below hb HR.out.lt).alloc _
 have HB1 := Lib.hid ((HB.out.trans (hb.mono HB.out.size)).alloc (HB.out.trans (hb.mono HB.out.size)).size (.cells #[.int .i64 me, .slice none 0 0, .slice none 0 0] 27))
 have HQ := Lib.hid (Blk.new w1 #[.int .i64 me, .slice none 0 0, .slice none 0 0] 27)
 clear hb HG HR HB
 go_upto_region 2 with fail
 generalize w1.alloc (.cells #[.int .i64 me, .slice none 0 0, .slice none 0 0] 27) = w2 at *
 generalize w1.heap.size = gq at *
 have b0 : w2.cell? ⟨gq, 0, none⟩ = some (.int .i64 me) := HQ.out.cell 0
 have b1 : w2.cell? ⟨gq, 1, none⟩ = some (.slice none 0 0) := HQ.out.cell 1
 have b2 : w2.cell? ⟨gq, 2, none⟩ = some (.slice none 0 0) := HQ.out.cell 2
 go_wp2_with (with_reducible refine stop_storeT 29 (.tmp 4) (.tmp 15) rfl ?_)
 clear b0 b1 b2
 have HTH : Hid (w2.there w.heap.size 0 4) := HR1.out.thereAt
 have HF : Hid (Blk (w2.setCells w.heap.size 0 (#[.int .i64 me, .slice none 0 0, .slice none 0 0, .int .i64 far] : Array Value).toList) w.heap.size #[.int .i64 me, .slice none 0 0, .slice none 0 0, .int .i64 far] 29 ∧ Below w.heap.size w (w2.setCells w.heap.size 0 (#[.int .i64 me, .slice none 0 0, .slice none 0 0, .int .i64 far] : Array Value).toList)) := ⟨blk_put_all HR1.out _ rfl, below_put (Nat.le_refl _) _ _ _ _ HB1.out⟩
 refine wpList_store_mid rfl 29 (.tmp 4) (.tmp 15) rfl w.heap.size 0 #[.int .i64 me, .slice none 0 0, .slice none 0 0, .int .i64 far] rfl rfl HTH.out (infoD4 rfl) (all_oneCell_toArray (by intro u hu; simp at hu; rcases hu with rfl | rfl | rfl | rfl <;> rfl)) ?_
 generalize World.setCells w2 _ _ _ = w8 at *
 clear HTH
 go_wp2_with fail
 have hf := HF.out.1
 refine bodyPost_ret (v := .tuple #[.agg #[.int .i64 me, .slice none 0 0, .slice none 0 0, .int .i64 far], .bool true]) (by simp [results, Try.results7, go_sem, hf.cell 0, hf.cell 1, hf.cell 2, hf.cell 3]) rfl ⟨rfl, HF.out.2⟩
end Go.Proofs.Ytbpfbebebppleaa
namespace Go.Proofs.Ytbpfbebebppleaa
open Go.RowKit
set_option linter.unusedSimpArgs false
theorem cell_chg {g b o : Nat} {w w' : World} (h : Chg g w w') (hb : b < w.heap.size) (hn : b ≠ g) : w'.cell? ⟨b, o, none⟩ = w.cell? ⟨b, o, none⟩ := by
 have e := h.2 b hb hn
 simp only [World.cell?, e]
def hdA : Itm := ⟨0, 3, 1, 0, 100, 0, 1, 0⟩
def hdB : Itm := ⟨0, 3, 1, 0, 100, 0, 3, 0⟩
def hdA1 : Dsk := ⟨0, 5, [hdA], []⟩
def hdA2 : Dsk := ⟨0, 5, [hdB], []⟩
def hdB1 : Dsk := ⟨1, 5, [], [⟨0, 3, 103⟩]⟩
def hdB2 : Dsk := ⟨1, 5, [hdB], [⟨0, 3, 103⟩]⟩
theorem hdR1 : doM (dsk0 0 5) ⟨1, 0, 3, 1, 0, 0, 0, 100, false, [], []⟩ (-1) = (hdA1, [(1, aboutM 6 hdA)], 0) := rfl
theorem hdR2 : doM (dsk0 1 5) ⟨2, 0, 3, 0, 0, 0, 0, 103, false, [], []⟩ (-1) = (hdB1, [], 0) := rfl
theorem hdR3 : doM hdB1 (aboutM 6 hdA) 0 = (hdB2, [(0, aboutM 7 hdB)], 0) := rfl
theorem hdR4 : doM hdA1 (aboutM 7 hdB) 1 = (hdA2, [], 0) := rfl
set_option linter.unusedSimpArgs false in
set_option maxHeartbeats 4000000 in
set_option maxRecDepth 100000 in
theorem matches_any (w : World) : Calls Try.prog 6 #[] w fun y w' => y = .returned (.bool true) ∧ Below w.heap.size w w' := by
 have HDA := Lib.hid (fun W => desk_any W 0 5 (by decide))
 have HDB := Lib.hid (fun W => desk_any W 1 5 (by decide))
 go_enter Try.func6, Try.ntmps6
 go_wp2_with fail
 refine (HDA.out _).mono ?_
 rintro y w1 ⟨rfl, hb⟩
 have HB0 := Lib.hid hb
 have HZ0 : Hid (w.heap.size ≤ w1.heap.size) := Lib.hid hb.size
 clear hb
 have n0 : Hid (w.heap.size ≤ w1.heap.size) := HZ0
 have Ha1 := Lib.hid (Blk.new w1 #[.int .i64 0, .slice none 0 0, .slice none 0 0, .int .i64 5] 29)
 have HB1 := Lib.hid (HB0.out.alloc HB0.out.size (.cells #[.int .i64 0, .slice none 0 0, .slice none 0 0, .int .i64 5] 29))
 have HZ1 := kzq HZ0 (oneB w1 (.cells #[.int .i64 0, .slice none 0 0, .slice none 0 0, .int .i64 5] 29)).size
 clear HB0 HZ0
 go_upto_region 2 with fail
 generalize (w1.alloc (.cells #[.int .i64 0, .slice none 0 0, .slice none 0 0, .int .i64 5] 29)) = wA at *
 generalize hgga : w1.heap.size = ga at *
 go_wp2_with fail
 refine (HDB.out _).mono ?_
 rintro y w2 ⟨rfl, hb⟩
 have Ha2 := kbq Ha1 hb
 have HB2 := ktq HB1 hb
 have HZ2 := kzq HZ1 hb.size
 clear Ha1 HB1 HZ1
 clear hb
 have n1 : Hid (ga < w2.heap.size) := Lib.hid Ha2.out.lt
 have Ha3 := Lib.hid (Ha2.out.alloc (.cells #[.int .i64 1, .slice none 0 0, .slice none 0 0, .int .i64 5] 29))
 have Hb3 := Lib.hid (Blk.new w2 #[.int .i64 1, .slice none 0 0, .slice none 0 0, .int .i64 5] 29)
 have HB3 := Lib.hid (HB2.out.alloc HB2.out.size (.cells #[.int .i64 1, .slice none 0 0, .slice none 0 0, .int .i64 5] 29))
 have HZ3 := kzq HZ2 (oneB w2 (.cells #[.int .i64 1, .slice none 0 0, .slice none 0 0, .int .i64 5] 29)).size
 clear Ha2 HB2 HZ2
 go_upto_region 3 with fail
 generalize (w2.alloc (.cells #[.int .i64 1, .slice none 0 0, .slice none 0 0, .int .i64 5] 29)) = wB at *
 generalize hggb : w2.heap.size = gb at *
 have n2 : Hid (gb < wB.heap.size) := Lib.hid Hb3.out.lt
 have Ha4 := Lib.hid (Ha3.out.alloc (.cells #[.int .i64 0, .int .i64 3] 36))
 have Hb4 := Lib.hid (Hb3.out.alloc (.cells #[.int .i64 0, .int .i64 3] 36))
 have Hi4 := Lib.hid (Blk.new wB #[.int .i64 0, .int .i64 3] 36)
 have HB4 := Lib.hid (HB3.out.alloc HB3.out.size (.cells #[.int .i64 0, .int .i64 3] 36))
 have HZ4 := kzq HZ3 (oneB wB (.cells #[.int .i64 0, .int .i64 3] 36)).size
 clear Ha3 Hb3 HB3 HZ3
 go_upto_region 4 with fail
 generalize (wB.alloc (.cells #[.int .i64 0, .int .i64 3] 36)) = wI at *
 generalize hggi : wB.heap.size = gi at *
 obtain ⟨B, hB⟩ : ∃ B, B = wI.heap.size := ⟨_, rfl⟩
 have n3 : gi < B := by rw [hB]; exact Hi4.out.lt
 have NG : Hid (w.heap.size ≤ ga ∧ ga < gb ∧ gb < gi ∧ gi < B) := ⟨n0.out, n1.out, n2.out, n3⟩
 clear HZ4
 have HZ4 : Hid (B ≤ wI.heap.size) := Lib.hid (Nat.le_of_eq hB)
 clear hB n0 n1 n2 n3 HDA HDB
 have Ka4 := Lib.hid (dkR0 (fun b => B ≤ b) wI 0 5 (by decide) (by unfold Fits; omega))
 have Kb4 := Lib.hid (dkR0 (fun b => B ≤ b) wI 1 5 (by decide) (by unfold Fits; omega))
 have HG := Lib.hid (Ka4.out.do_ (by decide) (by decide) (⟨1, 0, 3, 1, 0, 0, 0, 100, false, [], []⟩) (.slice none 0 0) (.slice none 0 0) (-1) [(1, aboutM 6 hdA)] 0 hdR1)
 unfold dcells Msg.v at HG
 have a0 : wI.cell? ⟨ga, 0, none⟩ = some (.int .i64 0) := Ha4.out.cell 0
 have a1 : wI.cell? ⟨ga, 1, none⟩ = some (.slice none 0 0) := Ha4.out.cell 1
 have a2 : wI.cell? ⟨ga, 2, none⟩ = some (.slice none 0 0) := Ha4.out.cell 2
 have a3 : wI.cell? ⟨ga, 3, none⟩ = some (.int .i64 5) := Ha4.out.cell 3
 have i0 : wI.cell? ⟨gi, 0, none⟩ = some (.int .i64 0) := Hi4.out.cell 0
 have i1 : wI.cell? ⟨gi, 1, none⟩ = some (.int .i64 3) := Hi4.out.cell 1
 go_wp2_with fail
 clear a0 a1 a2 a3 i0 i1
 refine HG.out.mono ?_
 rintro y w1 ⟨hb, p1, c1, q1, e1, vs1, rfl, hk, hown⟩
 clear HG
 have hle : B ≤ wI.heap.size := HZ4.out
 have hk2 := hk.imp (Q := fun b => B ≤ b) (fun b hb => hb.elim id (fun h => Nat.le_trans hle h))
 have ho2 := hown.less hle
 clear hk hown hle
 have Ha5 := kbq Ha4 hb
 have Hb5 := kbq Hb4 hb
 have Hi5 := kbq Hi4 hb
 have Kb5 := Lib.hid (Kb4.out.kept hb)
 have HB5 := ktq HB4 hb
 have HZ5 := kzq HZ4 hb.size
 clear Ha4 Hb4 Hi4 Kb4 HB4 HZ4
 have Ka5 := Lib.hid hk2
 have Sx5 := Lib.hid ho2
 clear hb hk2 ho2
 go_wp2_with (with_reducible refine stop_storeT 29 (.tmp 1) (.tmp 28) rfl ?_)
 have HTH : Hid (w1.there ga 0 4) := Ha5.out.thereAt
 have hch : Hid (Chg ga w1 (w1.setCells ga 0 (#[.int .i64 hdA1.me, .slice p1 hdA1.xs.length c1, .slice q1 hdA1.os.length e1, .int .i64 hdA1.far] : Array Value).toList)) := Lib.hid (chg_putL _ _ _ _ _ (Chg.refl _ w1))
 have Ha6 : Hid (Blk (w1.setCells ga 0 (#[.int .i64 hdA1.me, .slice p1 hdA1.xs.length c1, .slice q1 hdA1.os.length e1, .int .i64 hdA1.far] : Array Value).toList) ga #[.int .i64 hdA1.me, .slice p1 hdA1.xs.length c1, .slice q1 hdA1.os.length e1, .int .i64 hdA1.far] 29) := Lib.hid (blk_put_all Ha5.out _ rfl)
 have HB6 : Hid (Below w.heap.size w (w1.setCells ga 0 (#[.int .i64 hdA1.me, .slice p1 hdA1.xs.length c1, .slice q1 hdA1.os.length e1, .int .i64 hdA1.far] : Array Value).toList)) := Lib.hid (below_put (by have := NG.out; omega) _ _ _ _ HB5.out)
 have HZ6 := kzq HZ5 hch.out.size
 have Hb6 := kcq Hb5 hch (by have := NG.out; omega)
 have Hi6 := kcq Hi5 hch (by have := NG.out; omega)
 have Kb6 := Lib.hid (Kb5.out.keepP (KeepP.of_chg hch.out (by have := NG.out; show ¬ _ ≤ _; omega)))
 have Ka6 := Lib.hid (Ka5.out.keepP (KeepP.of_chg hch.out (by have := NG.out; show ¬ _ ≤ _; omega)))
 have Sx6 := Lib.hid (Sx5.out.stay (fun b hb => hch.out.2 b (Sx5.out.lt b hb) (by have h1 := Sx5.out.block_ge b hb; have := NG.out; omega)))
 clear hch Ha5 Hb5 Hi5 Kb5 Ka5 Sx5 HB5 HZ5
 refine wpList_store_mid rfl 29 (.tmp 1) (.tmp 28) rfl ga 0 #[.int .i64 hdA1.me, .slice p1 hdA1.xs.length c1, .slice q1 hdA1.os.length e1, .int .i64 hdA1.far] rfl rfl HTH.out (infoD4 rfl) (all_oneCell_toArray (by intro u hu; simp at hu; rcases hu with rfl | rfl | rfl | rfl <;> rfl)) ?_
 generalize (w1.setCells ga 0 (#[.int .i64 hdA1.me, .slice p1 hdA1.xs.length c1, .slice q1 hdA1.os.length e1, .int .i64 hdA1.far] : Array Value).toList) = W1 at *
 clear HTH
 go_upto_region 5 with fail
 have HG := Lib.hid (Kb6.out.do_ (by decide) (by decide) (⟨2, 0, 3, 0, 0, 0, 0, 103, false, [], []⟩) (.slice none 0 0) (.slice none 0 0) (-1) [] 0 hdR2)
 unfold dcells Msg.v at HG
 have a0 : W1.cell? ⟨gb, 0, none⟩ = some (.int .i64 1) := Hb6.out.cell 0
 have a1 : W1.cell? ⟨gb, 1, none⟩ = some (.slice none 0 0) := Hb6.out.cell 1
 have a2 : W1.cell? ⟨gb, 2, none⟩ = some (.slice none 0 0) := Hb6.out.cell 2
 have a3 : W1.cell? ⟨gb, 3, none⟩ = some (.int .i64 5) := Hb6.out.cell 3
 have i0 : W1.cell? ⟨gi, 0, none⟩ = some (.int .i64 0) := Hi6.out.cell 0
 have i1 : W1.cell? ⟨gi, 1, none⟩ = some (.int .i64 3) := Hi6.out.cell 1
 go_wp2_with fail
 clear a0 a1 a2 a3 i0 i1
 refine HG.out.mono ?_
 rintro y w2 ⟨hb, p2, c2, q2, e2, vs2, rfl, hk, hown⟩
 clear HG
 have hle : B ≤ W1.heap.size := HZ6.out
 have hk2 := hk.imp (Q := fun b => B ≤ b) (fun b hb => hb.elim id (fun h => Nat.le_trans hle h))
 have ho2 := hown.less hle
 clear hk hown hle
 have Ha7 := kbq Ha6 hb
 have Hb7 := kbq Hb6 hb
 have Hi7 := kbq Hi6 hb
 have Ka7 := Lib.hid (Ka6.out.kept hb)
 have Sx7 := Lib.hid (Sx6.out.later hb)
 have HB7 := ktq HB6 hb
 have HZ7 := kzq HZ6 hb.size
 clear Ha6 Hb6 Hi6 Ka6 Sx6 HB6 HZ6
 have Kb7 := Lib.hid hk2
 clear hb hk2 ho2
 go_wp2_with (with_reducible refine stop_storeT 29 (.tmp 3) (.tmp 36) rfl ?_)
 have HTH : Hid (w2.there gb 0 4) := Hb7.out.thereAt
 have hch : Hid (Chg gb w2 (w2.setCells gb 0 (#[.int .i64 hdB1.me, .slice p2 hdB1.xs.length c2, .slice q2 hdB1.os.length e2, .int .i64 hdB1.far] : Array Value).toList)) := Lib.hid (chg_putL _ _ _ _ _ (Chg.refl _ w2))
 have Hb8 : Hid (Blk (w2.setCells gb 0 (#[.int .i64 hdB1.me, .slice p2 hdB1.xs.length c2, .slice q2 hdB1.os.length e2, .int .i64 hdB1.far] : Array Value).toList) gb #[.int .i64 hdB1.me, .slice p2 hdB1.xs.length c2, .slice q2 hdB1.os.length e2, .int .i64 hdB1.far] 29) := Lib.hid (blk_put_all Hb7.out _ rfl)
 have HB8 : Hid (Below w.heap.size w (w2.setCells gb 0 (#[.int .i64 hdB1.me, .slice p2 hdB1.xs.length c2, .slice q2 hdB1.os.length e2, .int .i64 hdB1.far] : Array Value).toList)) := Lib.hid (below_put (by have := NG.out; omega) _ _ _ _ HB7.out)
 have HZ8 := kzq HZ7 hch.out.size
 have Ha8 := kcq Ha7 hch (by have := NG.out; omega)
 have Hi8 := kcq Hi7 hch (by have := NG.out; omega)
 have Ka8 := Lib.hid (Ka7.out.keepP (KeepP.of_chg hch.out (by have := NG.out; show ¬ _ ≤ _; omega)))
 have Kb8 := Lib.hid (Kb7.out.keepP (KeepP.of_chg hch.out (by have := NG.out; show ¬ _ ≤ _; omega)))
 have Sx8 := Lib.hid (Sx7.out.stay (fun b hb => hch.out.2 b (Sx7.out.lt b hb) (by have h1 := Sx7.out.block_ge b hb; have := NG.out; omega)))
 clear hch Ha7 Hb7 Hi7 Ka7 Kb7 Sx7 HB7 HZ7
 refine wpList_store_mid rfl 29 (.tmp 3) (.tmp 36) rfl gb 0 #[.int .i64 hdB1.me, .slice p2 hdB1.xs.length c2, .slice q2 hdB1.os.length e2, .int .i64 hdB1.far] rfl rfl HTH.out (infoD4 rfl) (all_oneCell_toArray (by intro u hu; simp at hu; rcases hu with rfl | rfl | rfl | rfl <;> rfl)) ?_
 generalize (w2.setCells gb 0 (#[.int .i64 hdB1.me, .slice p2 hdB1.xs.length c2, .slice q2 hdB1.os.length e2, .int .i64 hdB1.far] : Array Value).toList) = W2 at *
 clear HTH
 go_upto_region 6 with fail
 obtain ⟨bx, ox, kx, hvx, hgex, hltx, hcs0⟩ := own1 Sx8.out
 subst hvx
 have hcsx := Lib.hid hcs0
 clear hcs0
 have z0 : W2.cell? ⟨bx, ox, none⟩ = some (.int .i64 1) := hcsx.out 0 (by decide)
 have z1 : W2.cell? ⟨bx, ox + 1, none⟩ = some (.int .i64 6) := hcsx.out 1 (by decide)
 go_upto_region 8 with fail
 clear z0 z1
 have hS : ∀ q9, q9 < 12 → W2.drew.cell? ⟨bx, ox + q9, none⟩ = (SdX.cells (sdX (1, aboutM 6 hdA)))[q9]? := fun q hq => ((Below.refl _ W2).drew.cell (p := ⟨bx, ox + q, none⟩) hltx).trans (hcsx.out q hq)
 clear hcsx
 refine wp_region_held_drew (S := fun w' => ∀ q9, q9 < 12 → w'.cell? ⟨bx, ox + q9, none⟩ = (SdX.cells (sdX (1, aboutM 6 hdA)))[q9]?) (by kernel_rfl) hS (fun hS0 => ?_)
 clear hS
 have HS0 := Lib.hid hS0
 clear hS0
 have hbd := (Below.refl W2.heap.size W2).drew
 generalize W2.drew = WD3 at *
 have hltD3 : bx < WD3.heap.size := Nat.lt_of_lt_of_le hltx hbd.size
 have Ha9 := kbq Ha8 hbd
 have Hb9 := kbq Hb8 hbd
 have Hi9 := kbq Hi8 hbd
 have Ka9 := Lib.hid (Ka8.out.kept hbd)
 have Kb9 := Lib.hid (Kb8.out.kept hbd)
 have Sx9 := Lib.hid (Sx8.out.later hbd)
 have HB9 := ktq HB8 hbd
 have HZ9 := kzq HZ8 hbd.size
 clear Ha8 Hb8 Hi8 Ka8 Kb8 Sx8 HB8 HZ8
 clear hbd
 refine tkq 1 ?_
 refine tkq 2 ?_
 refine tkq 3 ?_
 refine wpAnyH_take (i := 4) (v := ?_) rfl (by kernel_rfl) (by kernel_rfl) (by kernel_rfl) (fun _ _ _ h => h) (Or.inl ⟨by kernel_rfl, ?_⟩) (by first | assumption | trivial) ?_
 rotate_left
 ·intro w hSw
  try dsimp only at hSw
  have a0 : w.cell? ⟨bx, ox + 1, none⟩ = some (.int .i64 6) := hSw 1 (by decide)
  have a1 : w.cell? ⟨bx, ox + 2, none⟩ = some (.int .i64 hdA.s) := hSw 2 (by decide)
  have a2 : w.cell? ⟨bx, ox + 3, none⟩ = some (.int .i64 hdA.n) := hSw 3 (by decide)
  have a3 : w.cell? ⟨bx, ox + 4, none⟩ = some (.int .i64 hdA.b) := hSw 4 (by decide)
  have a4 : w.cell? ⟨bx, ox + 5, none⟩ = some (.int .i64 hdA.c) := hSw 5 (by decide)
  have a5 : w.cell? ⟨bx, ox + 6, none⟩ = some (.int .i64 hdA.r) := hSw 6 (by decide)
  have a6 : w.cell? ⟨bx, ox + 7, none⟩ = some (.int .i64 0) := hSw 7 (by decide)
  have a7 : w.cell? ⟨bx, ox + 8, none⟩ = some (.int .i64 hdA.a) := hSw 8 (by decide)
  have a8 : w.cell? ⟨bx, ox + 9, none⟩ = some (.bool false) := hSw 9 (by decide)
  have a9 : w.cell? ⟨bx, ox + 10, none⟩ = some (.slice none 0 0) := hSw 10 (by decide)
  have a10 : w.cell? ⟨bx, ox + 11, none⟩ = some (.slice none 0 0) := hSw 11 (by decide)
  clear hSw
  first | (go_simp; done) | (go_simp; with_reducible rfl)
 try simp only [Act.put, List.getElem_toArray, List.getElem_cons_succ, List.getElem_cons_zero, List.setIfInBounds_toArray, List.set_cons_zero, List.set_cons_succ]
 refine rdq 0 (fun K hK => ?_)
 have a0 : WD3.cell? ⟨gb, 0, none⟩ = some (.int .i64 hdB1.me) := Hb9.out.cell 0
 have a1 : WD3.cell? ⟨gb, 1, none⟩ = some (.slice p2 hdB1.xs.length c2) := Hb9.out.cell 1
 have a2 : WD3.cell? ⟨gb, 2, none⟩ = some (.slice q2 hdB1.os.length e2) := Hb9.out.cell 2
 have a3 : WD3.cell? ⟨gb, 3, none⟩ = some (.int .i64 hdB1.far) := Hb9.out.cell 3
 go_simp
 clear a0 a1 a2 a3
 refine hK.out _ _ (fun q9 hq9 => ?_) (fun hS => ?_)
 ·exact HS0.out q9 hq9
 clear hK K
 try simp only [Act.put, List.getElem_toArray, List.getElem_cons_succ, List.getElem_cons_zero, List.setIfInBounds_toArray, List.set_cons_zero, List.set_cons_succ]
 refine rdq 5 (fun K hK => ?_)
 have HG := Lib.hid (Kb9.out.do_ (by decide) (by decide) (aboutM 6 hdA) (.slice none 0 0) (.slice none 0 0) (0) [(0, aboutM 7 hdB)] 0 hdR3)
 unfold dcells Msg.v at HG
 go_simp
 go_at_call 8
 refine HG.out.mono ?_
 rintro y w3 ⟨hb, p3, c3, q3, e3, vs3, rfl, hk, hown⟩
 clear HG
 have hlt53 : bx < w3.heap.size := Nat.lt_of_lt_of_le hltD3 hb.size
 have hS5 : ∀ q9, q9 < 12 → w3.cell? ⟨bx, ox + q9, none⟩ = (SdX.cells (sdX (1, aboutM 6 hdA)))[q9]? := fun q hq => (hb.cell (p := ⟨bx, ox + q, none⟩) hltD3).trans (HS0.out q hq)
 have hle : B ≤ WD3.heap.size := HZ9.out
 have hk2 := hk.imp (Q := fun b => B ≤ b) (fun b hb => hb.elim id (fun h => Nat.le_trans hle h))
 have ho2 := hown.less hle
 clear hk hown hle
 have Ha10 := kbq Ha9 hb
 have Hb10 := kbq Hb9 hb
 have Hi10 := kbq Hi9 hb
 have Ka10 := Lib.hid (Ka9.out.kept hb)
 have Sx10 := Lib.hid (Sx9.out.later hb)
 have HB10 := ktq HB9 hb
 have HZ10 := kzq HZ9 hb.size
 clear Ha9 Hb9 Hi9 Ka9 Sx9 HB9 HZ9
 have Kb10 := Lib.hid hk2
 have Su10 := Lib.hid ho2
 clear hb hk2 ho2
 try go_wp2_with fail
 refine hK.out _ _ hS5 (fun hS => ?_)
 clear hK K hS5 HS0
 try simp only [Act.put, List.getElem_toArray, List.getElem_cons_succ, List.getElem_cons_zero, List.setIfInBounds_toArray, List.set_cons_zero, List.set_cons_succ]
 refine tkq 6 ?_
 refine tkq 7 ?_
 refine tkq 8 ?_
 refine tkq 9 ?_
 refine rdq 10 (fun K hK => ?_)
 have z0 : w3.cell? ⟨gb, 0, none⟩ = some (.int .i64 hdB1.me) := Hb10.out.cell 0
 have z1 : w3.cell? ⟨gb, 1, none⟩ = some (.slice p2 hdB1.xs.length c2) := Hb10.out.cell 1
 have z2 : w3.cell? ⟨gb, 2, none⟩ = some (.slice q2 hdB1.os.length e2) := Hb10.out.cell 2
 have z3 : w3.cell? ⟨gb, 3, none⟩ = some (.int .i64 hdB1.far) := Hb10.out.cell 3
 have f0 := Hb10.out.free 0
 have f1 := Hb10.out.free 1
 have f2 := Hb10.out.free 2
 have f3 := Hb10.out.free 3
 go_simp
 clear z0 z1 z2 z3 f0 f1 f2 f3
 have hch := Lib.hid (((((Chg.refl gb w3).set 0 (.int .i64 hdB2.me)).set 1 (.slice p3 hdB2.xs.length c3)).set 2 (.slice q3 hdB2.os.length e3)).set 3 (.int .i64 hdB2.far))
 have Hb11 : Hid (Blk _ gb #[.int .i64 hdB2.me, .slice p3 hdB2.xs.length c3, .slice q3 hdB2.os.length e3, .int .i64 hdB2.far] 29) := Lib.hid ((((Hb10.out.set 0 (.int .i64 hdB2.me)).set 1 (.slice p3 hdB2.xs.length c3)).set 2 (.slice q3 hdB2.os.length e3)).set 3 (.int .i64 hdB2.far))
 have HB11 := ksq HB10 hch (by have := NG.out; show w.heap.size ≤ gb; omega)
 have HZ11 := kzq HZ10 hch.out.size
 have Ha11 := kcq Ha10 hch (by have := NG.out; omega)
 have Hi11 := kcq Hi10 hch (by have := NG.out; omega)
 have Ka11 := Lib.hid (Ka10.out.keepP (KeepP.of_chg hch.out (by have := NG.out; show ¬ _ ≤ _; omega)))
 have Kb11 := Lib.hid (Kb10.out.keepP (KeepP.of_chg hch.out (by have := NG.out; show ¬ _ ≤ _; omega)))
 have Sx11 := Lib.hid (Sx10.out.stay (fun b hb => hch.out.2 b (Sx10.out.lt b hb) (by have h1 := Sx10.out.block_ge b hb; have := NG.out; omega)))
 have Su11 := Lib.hid (Su10.out.stay (fun b hb => hch.out.2 b (Su10.out.lt b hb) (by have h1 := Su10.out.block_ge b hb; have := NG.out; omega)))
 have hS6 : ∀ q9, q9 < 12 → ((((w3.setCell ⟨gb, 0, none⟩ (.int .i64 hdB2.me)).setCell ⟨gb, 1, none⟩ (.slice p3 hdB2.xs.length c3)).setCell ⟨gb, 2, none⟩ (.slice q3 hdB2.os.length e3)).setCell ⟨gb, 3, none⟩ (.int .i64 hdB2.far)).cell? ⟨bx, ox + q9, none⟩ = (SdX.cells (sdX (1, aboutM 6 hdA)))[q9]? := fun q hq => (cell_chg hch.out hlt53 (by have := NG.out; omega)).trans (hS q hq)
 clear hch hS Ha10 Hb10 Hi10 Ka10 Kb10 Sx10 Su10 HB10 HZ10
 generalize ((((w3.setCell ⟨gb, 0, none⟩ (.int .i64 hdB2.me)).setCell ⟨gb, 1, none⟩ (.slice p3 hdB2.xs.length c3)).setCell ⟨gb, 2, none⟩ (.slice q3 hdB2.os.length e3)).setCell ⟨gb, 3, none⟩ (.int .i64 hdB2.far)) = W3 at *
 refine hK.out _ _ hS6 (fun hS => ?_)
 clear hK K hS6
 try simp only [Act.put, List.getElem_toArray, List.getElem_cons_succ, List.getElem_cons_zero, List.setIfInBounds_toArray, List.set_cons_zero, List.set_cons_succ]
 refine tkq 11 ?_
 refine tkq 12 ?_
 refine wpAnyH_done (by kernel_rfl) ?_ _
 clear hS
 go_upto_region 9 with fail
 clear hlt53 hltD3 hltx hgex
 obtain ⟨bu, ou, ku, hvu, hgeu, hltu, hcs0⟩ := own1 Su11.out
 subst hvu
 have hcsu := Lib.hid hcs0
 clear hcs0
 have z1 : W3.cell? ⟨bu, ou + 1, none⟩ = some (.int .i64 7) := hcsu.out 1 (by decide)
 go_upto_region 11 with fail
 clear z1
 have hS : ∀ q9, q9 < 12 → W3.drew.cell? ⟨bu, ou + q9, none⟩ = (SdX.cells (sdX (0, aboutM 7 hdB)))[q9]? := fun q hq => ((Below.refl _ W3).drew.cell (p := ⟨bu, ou + q, none⟩) hltu).trans (hcsu.out q hq)
 clear hcsu
 refine wp_region_held_drew (S := fun w' => ∀ q9, q9 < 12 → w'.cell? ⟨bu, ou + q9, none⟩ = (SdX.cells (sdX (0, aboutM 7 hdB)))[q9]?) (by kernel_rfl) hS (fun hS0 => ?_)
 clear hS
 have HS0 := Lib.hid hS0
 clear hS0
 have hbd := (Below.refl W3.heap.size W3).drew
 generalize W3.drew = WD4 at *
 have hltD4 : bu < WD4.heap.size := Nat.lt_of_lt_of_le hltu hbd.size
 have Ha12 := kbq Ha11 hbd
 have Hb12 := kbq Hb11 hbd
 have Hi12 := kbq Hi11 hbd
 have Ka12 := Lib.hid (Ka11.out.kept hbd)
 have Kb12 := Lib.hid (Kb11.out.kept hbd)
 have Sx12 := Lib.hid (Sx11.out.later hbd)
 have Su12 := Lib.hid (Su11.out.later hbd)
 have HB12 := ktq HB11 hbd
 have HZ12 := kzq HZ11 hbd.size
 clear Ha11 Hb11 Hi11 Ka11 Kb11 Sx11 Su11 HB11 HZ11
 clear hbd
 refine tkq 1 ?_
 refine tkq 2 ?_
 refine tkq 3 ?_
 refine wpAnyH_take (i := 4) (v := ?_) rfl (by kernel_rfl) (by kernel_rfl) (by kernel_rfl) (fun _ _ _ h => h) (Or.inl ⟨by kernel_rfl, ?_⟩) (by first | assumption | trivial) ?_
 rotate_left
 ·intro w hSw
  try dsimp only at hSw
  have a0 : w.cell? ⟨bu, ou + 1, none⟩ = some (.int .i64 7) := hSw 1 (by decide)
  have a1 : w.cell? ⟨bu, ou + 2, none⟩ = some (.int .i64 hdB.s) := hSw 2 (by decide)
  have a2 : w.cell? ⟨bu, ou + 3, none⟩ = some (.int .i64 hdB.n) := hSw 3 (by decide)
  have a3 : w.cell? ⟨bu, ou + 4, none⟩ = some (.int .i64 hdB.b) := hSw 4 (by decide)
  have a4 : w.cell? ⟨bu, ou + 5, none⟩ = some (.int .i64 hdB.c) := hSw 5 (by decide)
  have a5 : w.cell? ⟨bu, ou + 6, none⟩ = some (.int .i64 hdB.r) := hSw 6 (by decide)
  have a6 : w.cell? ⟨bu, ou + 7, none⟩ = some (.int .i64 0) := hSw 7 (by decide)
  have a7 : w.cell? ⟨bu, ou + 8, none⟩ = some (.int .i64 hdB.a) := hSw 8 (by decide)
  have a8 : w.cell? ⟨bu, ou + 9, none⟩ = some (.bool false) := hSw 9 (by decide)
  have a9 : w.cell? ⟨bu, ou + 10, none⟩ = some (.slice none 0 0) := hSw 10 (by decide)
  have a10 : w.cell? ⟨bu, ou + 11, none⟩ = some (.slice none 0 0) := hSw 11 (by decide)
  clear hSw
  first | (go_simp; done) | (go_simp; with_reducible rfl)
 try simp only [Act.put, List.getElem_toArray, List.getElem_cons_succ, List.getElem_cons_zero, List.setIfInBounds_toArray, List.set_cons_zero, List.set_cons_succ]
 refine rdq 0 (fun K hK => ?_)
 have a0 : WD4.cell? ⟨ga, 0, none⟩ = some (.int .i64 hdA1.me) := Ha12.out.cell 0
 have a1 : WD4.cell? ⟨ga, 1, none⟩ = some (.slice p1 hdA1.xs.length c1) := Ha12.out.cell 1
 have a2 : WD4.cell? ⟨ga, 2, none⟩ = some (.slice q1 hdA1.os.length e1) := Ha12.out.cell 2
 have a3 : WD4.cell? ⟨ga, 3, none⟩ = some (.int .i64 hdA1.far) := Ha12.out.cell 3
 go_simp
 clear a0 a1 a2 a3
 refine hK.out _ _ (fun q9 hq9 => ?_) (fun hS => ?_)
 ·exact HS0.out q9 hq9
 clear hK K
 try simp only [Act.put, List.getElem_toArray, List.getElem_cons_succ, List.getElem_cons_zero, List.setIfInBounds_toArray, List.set_cons_zero, List.set_cons_succ]
 refine rdq 5 (fun K hK => ?_)
 have HG := Lib.hid (Ka12.out.do_ (by decide) (by decide) (aboutM 7 hdB) (.slice none 0 0) (.slice none 0 0) (1) [] 0 hdR4)
 unfold dcells Msg.v at HG
 go_simp
 go_at_call 8
 refine HG.out.mono ?_
 rintro y w4 ⟨hb, p4, c4, q4, e4, vs4, rfl, hk, hown⟩
 clear HG
 have hlt54 : bu < w4.heap.size := Nat.lt_of_lt_of_le hltD4 hb.size
 have hS5 : ∀ q9, q9 < 12 → w4.cell? ⟨bu, ou + q9, none⟩ = (SdX.cells (sdX (0, aboutM 7 hdB)))[q9]? := fun q hq => (hb.cell (p := ⟨bu, ou + q, none⟩) hltD4).trans (HS0.out q hq)
 have hle : B ≤ WD4.heap.size := HZ12.out
 have hk2 := hk.imp (Q := fun b => B ≤ b) (fun b hb => hb.elim id (fun h => Nat.le_trans hle h))
 have ho2 := hown.less hle
 clear hk hown hle
 have Ha13 := kbq Ha12 hb
 have Hb13 := kbq Hb12 hb
 have Hi13 := kbq Hi12 hb
 have Kb13 := Lib.hid (Kb12.out.kept hb)
 have Sx13 := Lib.hid (Sx12.out.later hb)
 have Su13 := Lib.hid (Su12.out.later hb)
 have HB13 := ktq HB12 hb
 have HZ13 := kzq HZ12 hb.size
 clear Ha12 Hb12 Hi12 Kb12 Sx12 Su12 HB12 HZ12
 have Ka13 := Lib.hid hk2
 have Sv13 := Lib.hid ho2
 clear hb hk2 ho2
 try go_wp2_with fail
 refine hK.out _ _ hS5 (fun hS => ?_)
 clear hK K hS5 HS0
 try simp only [Act.put, List.getElem_toArray, List.getElem_cons_succ, List.getElem_cons_zero, List.setIfInBounds_toArray, List.set_cons_zero, List.set_cons_succ]
 refine tkq 6 ?_
 refine tkq 7 ?_
 refine tkq 8 ?_
 refine tkq 9 ?_
 refine rdq 10 (fun K hK => ?_)
 have z0 : w4.cell? ⟨ga, 0, none⟩ = some (.int .i64 hdA1.me) := Ha13.out.cell 0
 have z1 : w4.cell? ⟨ga, 1, none⟩ = some (.slice p1 hdA1.xs.length c1) := Ha13.out.cell 1
 have z2 : w4.cell? ⟨ga, 2, none⟩ = some (.slice q1 hdA1.os.length e1) := Ha13.out.cell 2
 have z3 : w4.cell? ⟨ga, 3, none⟩ = some (.int .i64 hdA1.far) := Ha13.out.cell 3
 have f0 := Ha13.out.free 0
 have f1 := Ha13.out.free 1
 have f2 := Ha13.out.free 2
 have f3 := Ha13.out.free 3
 go_simp
 clear z0 z1 z2 z3 f0 f1 f2 f3
 have hch := Lib.hid (((((Chg.refl ga w4).set 0 (.int .i64 hdA2.me)).set 1 (.slice p4 hdA2.xs.length c4)).set 2 (.slice q4 hdA2.os.length e4)).set 3 (.int .i64 hdA2.far))
 have Ha14 : Hid (Blk _ ga #[.int .i64 hdA2.me, .slice p4 hdA2.xs.length c4, .slice q4 hdA2.os.length e4, .int .i64 hdA2.far] 29) := Lib.hid ((((Ha13.out.set 0 (.int .i64 hdA2.me)).set 1 (.slice p4 hdA2.xs.length c4)).set 2 (.slice q4 hdA2.os.length e4)).set 3 (.int .i64 hdA2.far))
 have HB14 := ksq HB13 hch (by have := NG.out; show w.heap.size ≤ ga; omega)
 have HZ14 := kzq HZ13 hch.out.size
 have Hb14 := kcq Hb13 hch (by have := NG.out; omega)
 have Hi14 := kcq Hi13 hch (by have := NG.out; omega)
 have Kb14 := Lib.hid (Kb13.out.keepP (KeepP.of_chg hch.out (by have := NG.out; show ¬ _ ≤ _; omega)))
 have Ka14 := Lib.hid (Ka13.out.keepP (KeepP.of_chg hch.out (by have := NG.out; show ¬ _ ≤ _; omega)))
 have Sx14 := Lib.hid (Sx13.out.stay (fun b hb => hch.out.2 b (Sx13.out.lt b hb) (by have h1 := Sx13.out.block_ge b hb; have := NG.out; omega)))
 have Su14 := Lib.hid (Su13.out.stay (fun b hb => hch.out.2 b (Su13.out.lt b hb) (by have h1 := Su13.out.block_ge b hb; have := NG.out; omega)))
 have Sv14 := Lib.hid (Sv13.out.stay (fun b hb => hch.out.2 b (Sv13.out.lt b hb) (by have h1 := Sv13.out.block_ge b hb; have := NG.out; omega)))
 have hS6 : ∀ q9, q9 < 12 → ((((w4.setCell ⟨ga, 0, none⟩ (.int .i64 hdA2.me)).setCell ⟨ga, 1, none⟩ (.slice p4 hdA2.xs.length c4)).setCell ⟨ga, 2, none⟩ (.slice q4 hdA2.os.length e4)).setCell ⟨ga, 3, none⟩ (.int .i64 hdA2.far)).cell? ⟨bu, ou + q9, none⟩ = (SdX.cells (sdX (0, aboutM 7 hdB)))[q9]? := fun q hq => (cell_chg hch.out hlt54 (by have := NG.out; omega)).trans (hS q hq)
 clear hch hS Ha13 Hb13 Hi13 Kb13 Ka13 Sx13 Su13 Sv13 HB13 HZ13
 generalize ((((w4.setCell ⟨ga, 0, none⟩ (.int .i64 hdA2.me)).setCell ⟨ga, 1, none⟩ (.slice p4 hdA2.xs.length c4)).setCell ⟨ga, 2, none⟩ (.slice q4 hdA2.os.length e4)).setCell ⟨ga, 3, none⟩ (.int .i64 hdA2.far)) = W4 at *
 refine hK.out _ _ hS6 (fun hS => ?_)
 clear hK K hS6
 try simp only [Act.put, List.getElem_toArray, List.getElem_cons_succ, List.getElem_cons_zero, List.setIfInBounds_toArray, List.set_cons_zero, List.set_cons_succ]
 refine tkq 11 ?_
 refine tkq 12 ?_
 refine wpAnyH_done (by kernel_rfl) ?_ _
 clear hS
 go_upto_region 12 with fail
 clear hlt54 hltD4 hltu hgeu
 have HG := Lib.hid (dget_any W4 hdA2.me p4 q4 hdA2.xs.length c4 hdA2.os.length e4 (0) (3) hdA2.xs Ka14.out.row.items rfl Ka14.out.row.sx (by have := Ka14.out.row.nx; omega))
 rw [show findX hdA2.xs 0 3 = some hdB from rfl] at HG
 simp only [Option.getD_some, Option.isSome_some] at HG
 unfold Itm.v at HG
 unfold bookV idV at HG
 have a0 : W4.cell? ⟨ga, 0, none⟩ = some (.int .i64 hdA2.me) := Ha14.out.cell 0
 have a1 : W4.cell? ⟨ga, 1, none⟩ = some (.slice p4 hdA2.xs.length c4) := Ha14.out.cell 1
 have a2 : W4.cell? ⟨ga, 2, none⟩ = some (.slice q4 hdA2.os.length e4) := Ha14.out.cell 2
 have i0 : W4.cell? ⟨gi, 0, none⟩ = some (.int .i64 0) := Hi14.out.cell 0
 have i1 : W4.cell? ⟨gi, 1, none⟩ = some (.int .i64 3) := Hi14.out.cell 1
 go_wp2_with fail
 clear a0 a1 a2 i0 i1
 refine HG.out.mono ?_
 rintro y w5 ⟨rfl, hb⟩
 clear HG
 have Ha15 := kbq Ha14 hb
 have Hb15 := kbq Hb14 hb
 have Hi15 := kbq Hi14 hb
 have Kb15 := Lib.hid (Kb14.out.kept hb)
 have Ka15 := Lib.hid (Ka14.out.kept hb)
 have Sx15 := Lib.hid (Sx14.out.later hb)
 have Su15 := Lib.hid (Su14.out.later hb)
 have Sv15 := Lib.hid (Sv14.out.later hb)
 have HB15 := ktq HB14 hb
 have HZ15 := kzq HZ14 hb.size
 clear Ha14 Hb14 Hi14 Kb14 Ka14 Sx14 Su14 Sv14 HB14 HZ14
 clear hb
 have Ha16 := Lib.hid (Ha15.out.alloc (.cells #[.int .i64 hdB.s, .int .i64 hdB.n, .int .i64 hdB.b, .int .i64 hdB.c, .int .i64 hdB.a, .int .i64 hdB.r, .int .i64 hdB.t, .int .i64 hdB.y] 64))
 have Hb16 := Lib.hid (Hb15.out.alloc (.cells #[.int .i64 hdB.s, .int .i64 hdB.n, .int .i64 hdB.b, .int .i64 hdB.c, .int .i64 hdB.a, .int .i64 hdB.r, .int .i64 hdB.t, .int .i64 hdB.y] 64))
 have Hi16 := Lib.hid (Hi15.out.alloc (.cells #[.int .i64 hdB.s, .int .i64 hdB.n, .int .i64 hdB.b, .int .i64 hdB.c, .int .i64 hdB.a, .int .i64 hdB.r, .int .i64 hdB.t, .int .i64 hdB.y] 64))
 have Kb16 := Lib.hid (Kb15.out.kept (oneB w5 (.cells #[.int .i64 hdB.s, .int .i64 hdB.n, .int .i64 hdB.b, .int .i64 hdB.c, .int .i64 hdB.a, .int .i64 hdB.r, .int .i64 hdB.t, .int .i64 hdB.y] 64)))
 have Ka16 := Lib.hid (Ka15.out.kept (oneB w5 (.cells #[.int .i64 hdB.s, .int .i64 hdB.n, .int .i64 hdB.b, .int .i64 hdB.c, .int .i64 hdB.a, .int .i64 hdB.r, .int .i64 hdB.t, .int .i64 hdB.y] 64)))
 have Sx16 := Lib.hid (Sx15.out.later (oneB w5 (.cells #[.int .i64 hdB.s, .int .i64 hdB.n, .int .i64 hdB.b, .int .i64 hdB.c, .int .i64 hdB.a, .int .i64 hdB.r, .int .i64 hdB.t, .int .i64 hdB.y] 64)))
 have Su16 := Lib.hid (Su15.out.later (oneB w5 (.cells #[.int .i64 hdB.s, .int .i64 hdB.n, .int .i64 hdB.b, .int .i64 hdB.c, .int .i64 hdB.a, .int .i64 hdB.r, .int .i64 hdB.t, .int .i64 hdB.y] 64)))
 have Sv16 := Lib.hid (Sv15.out.later (oneB w5 (.cells #[.int .i64 hdB.s, .int .i64 hdB.n, .int .i64 hdB.b, .int .i64 hdB.c, .int .i64 hdB.a, .int .i64 hdB.r, .int .i64 hdB.t, .int .i64 hdB.y] 64)))
 have Hp16 := Lib.hid (Blk.new w5 #[.int .i64 hdB.s, .int .i64 hdB.n, .int .i64 hdB.b, .int .i64 hdB.c, .int .i64 hdB.a, .int .i64 hdB.r, .int .i64 hdB.t, .int .i64 hdB.y] 64)
 have HB16 := Lib.hid (HB15.out.alloc HB15.out.size (.cells #[.int .i64 hdB.s, .int .i64 hdB.n, .int .i64 hdB.b, .int .i64 hdB.c, .int .i64 hdB.a, .int .i64 hdB.r, .int .i64 hdB.t, .int .i64 hdB.y] 64))
 have HZ16 := kzq HZ15 (oneB w5 (.cells #[.int .i64 hdB.s, .int .i64 hdB.n, .int .i64 hdB.b, .int .i64 hdB.c, .int .i64 hdB.a, .int .i64 hdB.r, .int .i64 hdB.t, .int .i64 hdB.y] 64)).size
 clear Ha15 Hb15 Hi15 Kb15 Ka15 Sx15 Su15 Sv15 HB15 HZ15
 go_upto_region 13 with fail
 generalize (w5.alloc (.cells #[.int .i64 hdB.s, .int .i64 hdB.n, .int .i64 hdB.b, .int .i64 hdB.c, .int .i64 hdB.a, .int .i64 hdB.r, .int .i64 hdB.t, .int .i64 hdB.y] 64)) = W5 at *
 generalize hggp : w5.heap.size = gp at *
 have HG := Lib.hid (dget_any W5 hdB2.me p3 q3 hdB2.xs.length c3 hdB2.os.length e3 (0) (3) hdB2.xs Kb16.out.row.items rfl Kb16.out.row.sx (by have := Kb16.out.row.nx; omega))
 rw [show findX hdB2.xs 0 3 = some hdB from rfl] at HG
 simp only [Option.getD_some, Option.isSome_some] at HG
 unfold Itm.v at HG
 unfold bookV idV at HG
 have a0 : W5.cell? ⟨gb, 0, none⟩ = some (.int .i64 hdB2.me) := Hb16.out.cell 0
 have a1 : W5.cell? ⟨gb, 1, none⟩ = some (.slice p3 hdB2.xs.length c3) := Hb16.out.cell 1
 have a2 : W5.cell? ⟨gb, 2, none⟩ = some (.slice q3 hdB2.os.length e3) := Hb16.out.cell 2
 have i0 : W5.cell? ⟨gi, 0, none⟩ = some (.int .i64 0) := Hi16.out.cell 0
 have i1 : W5.cell? ⟨gi, 1, none⟩ = some (.int .i64 3) := Hi16.out.cell 1
 go_wp2_with fail
 clear a0 a1 a2 i0 i1
 refine HG.out.mono ?_
 rintro y w6 ⟨rfl, hb⟩
 clear HG
 have Ha17 := kbq Ha16 hb
 have Hb17 := kbq Hb16 hb
 have Hi17 := kbq Hi16 hb
 have Hp17 := kbq Hp16 hb
 have Kb17 := Lib.hid (Kb16.out.kept hb)
 have Ka17 := Lib.hid (Ka16.out.kept hb)
 have Sx17 := Lib.hid (Sx16.out.later hb)
 have Su17 := Lib.hid (Su16.out.later hb)
 have Sv17 := Lib.hid (Sv16.out.later hb)
 have HB17 := ktq HB16 hb
 have HZ17 := kzq HZ16 hb.size
 clear Ha16 Hb16 Hi16 Hp16 Kb16 Ka16 Sx16 Su16 Sv16 HB16 HZ16
 clear hb
 have Ha18 := Lib.hid (Ha17.out.alloc (.cells #[.int .i64 hdB.s, .int .i64 hdB.n, .int .i64 hdB.b, .int .i64 hdB.c, .int .i64 hdB.a, .int .i64 hdB.r, .int .i64 hdB.t, .int .i64 hdB.y] 64))
 have Hb18 := Lib.hid (Hb17.out.alloc (.cells #[.int .i64 hdB.s, .int .i64 hdB.n, .int .i64 hdB.b, .int .i64 hdB.c, .int .i64 hdB.a, .int .i64 hdB.r, .int .i64 hdB.t, .int .i64 hdB.y] 64))
 have Hi18 := Lib.hid (Hi17.out.alloc (.cells #[.int .i64 hdB.s, .int .i64 hdB.n, .int .i64 hdB.b, .int .i64 hdB.c, .int .i64 hdB.a, .int .i64 hdB.r, .int .i64 hdB.t, .int .i64 hdB.y] 64))
 have Hp18 := Lib.hid (Hp17.out.alloc (.cells #[.int .i64 hdB.s, .int .i64 hdB.n, .int .i64 hdB.b, .int .i64 hdB.c, .int .i64 hdB.a, .int .i64 hdB.r, .int .i64 hdB.t, .int .i64 hdB.y] 64))
 have Kb18 := Lib.hid (Kb17.out.kept (oneB w6 (.cells #[.int .i64 hdB.s, .int .i64 hdB.n, .int .i64 hdB.b, .int .i64 hdB.c, .int .i64 hdB.a, .int .i64 hdB.r, .int .i64 hdB.t, .int .i64 hdB.y] 64)))
 have Ka18 := Lib.hid (Ka17.out.kept (oneB w6 (.cells #[.int .i64 hdB.s, .int .i64 hdB.n, .int .i64 hdB.b, .int .i64 hdB.c, .int .i64 hdB.a, .int .i64 hdB.r, .int .i64 hdB.t, .int .i64 hdB.y] 64)))
 have Sx18 := Lib.hid (Sx17.out.later (oneB w6 (.cells #[.int .i64 hdB.s, .int .i64 hdB.n, .int .i64 hdB.b, .int .i64 hdB.c, .int .i64 hdB.a, .int .i64 hdB.r, .int .i64 hdB.t, .int .i64 hdB.y] 64)))
 have Su18 := Lib.hid (Su17.out.later (oneB w6 (.cells #[.int .i64 hdB.s, .int .i64 hdB.n, .int .i64 hdB.b, .int .i64 hdB.c, .int .i64 hdB.a, .int .i64 hdB.r, .int .i64 hdB.t, .int .i64 hdB.y] 64)))
 have Sv18 := Lib.hid (Sv17.out.later (oneB w6 (.cells #[.int .i64 hdB.s, .int .i64 hdB.n, .int .i64 hdB.b, .int .i64 hdB.c, .int .i64 hdB.a, .int .i64 hdB.r, .int .i64 hdB.t, .int .i64 hdB.y] 64)))
 have Hq18 := Lib.hid (Blk.new w6 #[.int .i64 hdB.s, .int .i64 hdB.n, .int .i64 hdB.b, .int .i64 hdB.c, .int .i64 hdB.a, .int .i64 hdB.r, .int .i64 hdB.t, .int .i64 hdB.y] 64)
 have HB18 := Lib.hid (HB17.out.alloc HB17.out.size (.cells #[.int .i64 hdB.s, .int .i64 hdB.n, .int .i64 hdB.b, .int .i64 hdB.c, .int .i64 hdB.a, .int .i64 hdB.r, .int .i64 hdB.t, .int .i64 hdB.y] 64))
 have HZ18 := kzq HZ17 (oneB w6 (.cells #[.int .i64 hdB.s, .int .i64 hdB.n, .int .i64 hdB.b, .int .i64 hdB.c, .int .i64 hdB.a, .int .i64 hdB.r, .int .i64 hdB.t, .int .i64 hdB.y] 64)).size
 clear Ha17 Hb17 Hi17 Hp17 Kb17 Ka17 Sx17 Su17 Sv17 HB17 HZ17
 go_upto_region 14 with fail
 generalize (w6.alloc (.cells #[.int .i64 hdB.s, .int .i64 hdB.n, .int .i64 hdB.b, .int .i64 hdB.c, .int .i64 hdB.a, .int .i64 hdB.r, .int .i64 hdB.t, .int .i64 hdB.y] 64)) = W6 at *
 generalize hggq : w6.heap.size = gq at *
 obtain ⟨pz, cz, hvz⟩ := own0 Sv18.out
 subst hvz
 have x0 : W6.cell? ⟨gp, 0, none⟩ = some (.int .i64 hdB.s) := Hp18.out.cell 0
 have x1 : W6.cell? ⟨gp, 1, none⟩ = some (.int .i64 hdB.n) := Hp18.out.cell 1
 have x2 : W6.cell? ⟨gp, 2, none⟩ = some (.int .i64 hdB.b) := Hp18.out.cell 2
 have x3 : W6.cell? ⟨gp, 3, none⟩ = some (.int .i64 hdB.c) := Hp18.out.cell 3
 have x4 : W6.cell? ⟨gp, 4, none⟩ = some (.int .i64 hdB.a) := Hp18.out.cell 4
 have x5 : W6.cell? ⟨gp, 5, none⟩ = some (.int .i64 hdB.r) := Hp18.out.cell 5
 have x6 : W6.cell? ⟨gp, 6, none⟩ = some (.int .i64 hdB.t) := Hp18.out.cell 6
 have x7 : W6.cell? ⟨gp, 7, none⟩ = some (.int .i64 hdB.y) := Hp18.out.cell 7
 have y0 : W6.cell? ⟨gq, 0, none⟩ = some (.int .i64 hdB.s) := Hq18.out.cell 0
 have y1 : W6.cell? ⟨gq, 1, none⟩ = some (.int .i64 hdB.n) := Hq18.out.cell 1
 have y2 : W6.cell? ⟨gq, 2, none⟩ = some (.int .i64 hdB.b) := Hq18.out.cell 2
 have y3 : W6.cell? ⟨gq, 3, none⟩ = some (.int .i64 hdB.c) := Hq18.out.cell 3
 have y4 : W6.cell? ⟨gq, 4, none⟩ = some (.int .i64 hdB.a) := Hq18.out.cell 4
 have y5 : W6.cell? ⟨gq, 5, none⟩ = some (.int .i64 hdB.r) := Hq18.out.cell 5
 have y6 : W6.cell? ⟨gq, 6, none⟩ = some (.int .i64 hdB.t) := Hq18.out.cell 6
 have y7 : W6.cell? ⟨gq, 7, none⟩ = some (.int .i64 hdB.y) := Hq18.out.cell 7
 have keq := fun (w : World) => item_eq hdB hdB w
 rw [show itmEq hdB hdB = true by decide] at keq
 have x3b : (hdB.t == 3) = true := by decide
 have x4b : (hdB.a == 100) = true := by decide
 go_wp2_with fail
 go_ret
 exact ⟨rfl, HB18.out⟩
end Go.Proofs.Ytbpfbebebppleaa
namespace Go.Proofs.Ytbpfbebebppleaa
open Go.RowKit
theorem ref_in_any (n a b : Int) (w : World) : Calls Try.prog 57 #[.int .i64 n, .int .i64 a, .int .i64 b] w fun e w' => e = .returned (.bool (inB n a b)) ∧ w = w' := by
 go_enter Try.func57, Try.ntmps57
 go_wp2
 all_goals
  go_ret
  exact ⟨retB (by unfold inB; simp; omega), rfl⟩
set_option linter.unusedSimpArgs false in
set_option maxHeartbeats 4000000 in
theorem refcheck_any (x : Itm) (w : World) : Calls Try.prog 36 #[x.v] w fun e w' => e = .returned (.int .i64 (chkI x)) ∧ Below w.heap.size w w' := by
 have HIN := Lib.hid (fun n a b w => ref_in_any n a b w)
 unfold Itm.v at *
 go_enter Try.func36, Try.ntmps36
 go_wp2_with fail
 refine (HIN.out _ _ _ _).mono ?_
 rintro y w1 ⟨rfl, rfl⟩
 cases h0 : inB x.s 0 7
 ·have HC : Hid (1 = chkI x) := (if_neg (fun h => by have hA := h.1; have hB := h.2; have g := inB_no h0; unfold partsOk at hA; unfold numsOk at hB; omega)).symm
  go_wp2_with fail
  go_ret
  exact ⟨retI HC.out, oneB w _⟩
 ·have H0 := Lib.hid (inB_yes h0)
  clear h0
  go_wp2_with fail
  refine (HIN.out _ _ _ _).mono ?_
  rintro y w1 ⟨rfl, rfl⟩
  cases h1 : inB x.b 0 7
  ·have HC : Hid (1 = chkI x) := (if_neg (fun h => by have hA := h.1; have hB := h.2; have g := inB_no h1; unfold partsOk at hA; unfold numsOk at hB; omega)).symm
   go_wp2_with fail
   go_ret
   exact ⟨retI HC.out, oneB w _⟩
  ·have H1 := Lib.hid (inB_yes h1)
   clear h1
   by_cases hsb : x.b = x.s
   ·have esb : (x.b == x.s) = true := by simpa using hsb
    have HC : Hid (1 = chkI x) := (if_neg (fun h => h.1.2.2 hsb.symm)).symm
    clear hsb
    go_wp2_with fail
    go_ret
    exact ⟨retI HC.out, oneB w _⟩
   ·have esb : (x.b == x.s) = false := by simpa using hsb
    have HSB := Lib.hid hsb
    clear hsb
    go_wp2_with fail
    refine (HIN.out _ _ _ _).mono ?_
    rintro y w1 ⟨rfl, rfl⟩
    cases h3 : inB x.n 1 1048576
    ·have HC : Hid (1 = chkI x) := (if_neg (fun h => by have hA := h.1; have hB := h.2; have g := inB_no h3; unfold partsOk at hA; unfold numsOk at hB; omega)).symm
     go_wp2_with fail
     go_ret
     exact ⟨retI HC.out, oneB w _⟩
    ·have H3 := Lib.hid (inB_yes h3)
     clear h3
     go_wp2_with fail
     refine (HIN.out _ _ _ _).mono ?_
     rintro y w1 ⟨rfl, rfl⟩
     cases h4 : inB x.c 0 7
     ·have HC : Hid (1 = chkI x) := (if_neg (fun h => by have hA := h.1; have hB := h.2; have g := inB_no h4; unfold partsOk at hA; unfold numsOk at hB; omega)).symm
      go_wp2_with fail
      go_ret
      exact ⟨retI HC.out, oneB w _⟩
     ·have H4 := Lib.hid (inB_yes h4)
      clear h4
      go_wp2_with fail
      refine (HIN.out _ _ _ _).mono ?_
      rintro y w1 ⟨rfl, rfl⟩
      cases h5 : inB x.a 1 1125899906842624
      ·have HC : Hid (1 = chkI x) := (if_neg (fun h => by have hA := h.1; have hB := h.2; have g := inB_no h5; unfold partsOk at hA; unfold numsOk at hB; omega)).symm
       go_wp2_with fail
       go_ret
       exact ⟨retI HC.out, oneB w _⟩
      ·have H5 := Lib.hid (inB_yes h5)
       clear h5
       go_wp2_with fail
       refine (HIN.out _ _ _ _).mono ?_
       rintro y w1 ⟨rfl, rfl⟩
       cases h6 : inB x.r 0 3
       ·have HC : Hid (1 = chkI x) := (if_neg (fun h => by have hA := h.1; have hB := h.2; have g := inB_no h6; unfold partsOk at hA; unfold numsOk at hB; omega)).symm
        go_wp2_with fail
        go_ret
        exact ⟨retI HC.out, oneB w _⟩
       ·have H6 := Lib.hid (inB_yes h6)
        clear h6
        go_wp2_with fail
        refine (HIN.out _ _ _ _).mono ?_
        rintro y w1 ⟨rfl, rfl⟩
        cases h7 : inB x.t 1 5
        ·have HC : Hid (1 = chkI x) := (if_neg (fun h => by have hA := h.1; have hB := h.2; have g := inB_no h7; unfold partsOk at hA; unfold numsOk at hB; omega)).symm
         go_wp2_with fail
         go_ret
         exact ⟨retI HC.out, oneB w _⟩
        ·have H7 := Lib.hid (inB_yes h7)
         clear h7
         go_wp2_with fail
         refine (HIN.out _ _ _ _).mono ?_
         rintro y w1 ⟨rfl, rfl⟩
         cases h8 : inB x.y 0 1048576
         ·have HC : Hid (1 = chkI x) := (if_neg (fun h => by have hA := h.1; have hB := h.2; have g := inB_no h8; unfold partsOk at hA; unfold numsOk at hB; omega)).symm
          go_wp2_with fail
          go_ret
          exact ⟨retI HC.out, oneB w _⟩
         ·have H8 := Lib.hid (inB_yes h8)
          clear h8
          have HC : Hid (chkI x = if cycBad x then 90 else 0) := by
           show _ = _
           unfold chkI
           rw [if_pos ⟨⟨H0.out, H1.out, fun h => HSB.out h.symm⟩, H3.out, H4.out, H5.out, H6.out, H7.out, H8.out⟩]
          clear H0 H1 HSB H3 H4 H5 H6 H7 H8 HIN
          go_wp2
          all_goals
           go_ret
           refine ⟨retI ?_, oneB w _⟩
           rw [HC.out]
           try simp only [beq_iff_eq, beq_eq_false_iff_ne, bne_iff_ne, bne_eq_false_iff_eq, ne_eq] at *
           by_cases hc : cycBad x
           ·rw [if_pos hc]; all_goals (exfalso; unfold cycBad at hc; omega)
           ·rw [if_neg hc]; all_goals (exfalso; unfold cycBad at hc; omega)
end Go.Proofs.Ytbpfbebebppleaa
namespace Go.Proofs.Ytbpfbebebppleaa
open Go.RowKit
set_option maxHeartbeats 4000000 in
theorem refact_any (x : Itm) (k n : Int) (w : World) (hr : F64 (x.r + 1)) : Calls Try.prog 39 #[x.v, .int .i64 k, .int .i64 n] w fun e w' => e = ansI (actI x k n) ∧ Below w.heap.size w w' := by
 have HB2 : Hid (∀ a b, Below w.heap.size w ((w.alloc a).alloc b)) := fun a b => (oneB w a).alloc (by simp) b
 by_cases h1 : k = 1
 ·subst h1
  rw [show actI x 1 n = turnI x 1 2 from rfl]
  clear hr
  by_cases ht : x.t = 1
  ·have HC : Hid (turnI x 1 2 = ({ x with t := 2 }, 0)) := if_pos ht
   have et : (x.t != 1) = false := by simpa using ht
   clear ht
   unfold Itm.v at *
   go_enter Try.func39, Try.ntmps39
   go_wp2_with fail
   refine bodyPost_ret (v := .tuple #[Itm.v ({ x with t := 2 }), .int .i64 0]) (by simp [results, Try.results39, go_sem, Itm.v]) rfl ⟨retA HC.out.symm, HB2.out _ _⟩
  ·have HC : Hid (turnI x 1 2 = (x, 90)) := if_neg ht
   have et : (x.t != 1) = true := by simpa using ht
   clear ht
   unfold Itm.v at *
   go_enter Try.func39, Try.ntmps39
   go_wp2_with fail
   refine bodyPost_ret (v := .tuple #[Itm.v (x), .int .i64 90]) (by simp [results, Try.results39, go_sem, Itm.v]) rfl ⟨retA HC.out.symm, HB2.out _ _⟩
 by_cases h2 : k = 2
 ·subst h2
  rw [show actI x 2 n = turnI x 1 3 from rfl]
  clear hr h1
  by_cases ht : x.t = 1
  ·have HC : Hid (turnI x 1 3 = ({ x with t := 3 }, 0)) := if_pos ht
   have et : (x.t != 1) = false := by simpa using ht
   clear ht
   unfold Itm.v at *
   go_enter Try.func39, Try.ntmps39
   go_wp2_with fail
   refine bodyPost_ret (v := .tuple #[Itm.v ({ x with t := 3 }), .int .i64 0]) (by simp [results, Try.results39, go_sem, Itm.v]) rfl ⟨retA HC.out.symm, HB2.out _ _⟩
  ·have HC : Hid (turnI x 1 3 = (x, 90)) := if_neg ht
   have et : (x.t != 1) = true := by simpa using ht
   clear ht
   unfold Itm.v at *
   go_enter Try.func39, Try.ntmps39
   go_wp2_with fail
   refine bodyPost_ret (v := .tuple #[Itm.v (x), .int .i64 90]) (by simp [results, Try.results39, go_sem, Itm.v]) rfl ⟨retA HC.out.symm, HB2.out _ _⟩
 by_cases h3 : k = 3
 ·subst h3
  rw [show actI x 3 n = turnI x 2 4 from rfl]
  clear hr h1 h2
  by_cases ht : x.t = 2
  ·have HC : Hid (turnI x 2 4 = ({ x with t := 4 }, 0)) := if_pos ht
   have et : (x.t != 2) = false := by simpa using ht
   clear ht
   unfold Itm.v at *
   go_enter Try.func39, Try.ntmps39
   go_wp2_with fail
   refine bodyPost_ret (v := .tuple #[Itm.v ({ x with t := 4 }), .int .i64 0]) (by simp [results, Try.results39, go_sem, Itm.v]) rfl ⟨retA HC.out.symm, HB2.out _ _⟩
  ·have HC : Hid (turnI x 2 4 = (x, 90)) := if_neg ht
   have et : (x.t != 2) = true := by simpa using ht
   clear ht
   unfold Itm.v at *
   go_enter Try.func39, Try.ntmps39
   go_wp2_with fail
   refine bodyPost_ret (v := .tuple #[Itm.v (x), .int .i64 90]) (by simp [results, Try.results39, go_sem, Itm.v]) rfl ⟨retA HC.out.symm, HB2.out _ _⟩
 by_cases h4 : k = 4
 ·subst h4
  rw [show actI x 4 n = adjI x n from rfl]
  have HW := Lib.hid (fun w => ref_in_any n 1 1125899906842624 w)
  clear h1 h2 h3
  by_cases ht : x.t = 2
  ·have et : (x.t != 2) = false := by simpa using ht
   cases hw : inB n 1 1125899906842624
   ·rw [hw] at HW
    have HC : Hid (adjI x n = (x, 1)) := by show _ = _; unfold adjI; rw [if_pos ht, if_neg (inB_no hw)]
    clear ht hw hr
    unfold Itm.v at *
    go_enter Try.func39, Try.ntmps39
    go_wp2_with fail
    refine (HW.out _).mono ?_
    rintro z w1 ⟨rfl, rfl⟩
    go_wp2_with fail
    refine bodyPost_ret (v := .tuple #[Itm.v (x), .int .i64 1]) (by simp [results, Try.results39, go_sem, Itm.v]) rfl ⟨retA HC.out.symm, HB2.out _ _⟩
   ·rw [hw] at HW
    by_cases h3 : x.r = 3
    ·have e3 : (x.r == 3) = true := by simpa using h3
     have HC : Hid (adjI x n = (x, 91)) := by show _ = _; unfold adjI; rw [if_pos ht, if_pos (inB_yes hw), if_pos h3]
     clear ht h3 hw hr
     unfold Itm.v at *
     go_enter Try.func39, Try.ntmps39
     go_wp2_with fail
     refine (HW.out _).mono ?_
     rintro z w1 ⟨rfl, rfl⟩
     go_wp2_with fail
     refine bodyPost_ret (v := .tuple #[Itm.v (x), .int .i64 91]) (by simp [results, Try.results39, go_sem, Itm.v]) rfl ⟨retA HC.out.symm, HB2.out _ _⟩
    ·have e3 : (x.r == 3) = false := by simpa using h3
     have HC : Hid (adjI x n = ({ x with t := 1, r := x.r + 1, a := n }, 0)) := by show _ = _; unfold adjI; rw [if_pos ht, if_pos (inB_yes hw), if_neg h3]
     have hr1 : wrap64 (x.r + 1) = x.r + 1 := by unfold F64 at hr; unfold wrap64; omega
     clear ht h3 hw hr
     unfold Itm.v at *
     go_enter Try.func39, Try.ntmps39
     go_wp2_with fail
     refine (HW.out _).mono ?_
     rintro z w1 ⟨rfl, rfl⟩
     go_wp2_with fail
     refine bodyPost_ret (v := .tuple #[Itm.v ({ x with t := 1, r := x.r + 1, a := n }), .int .i64 0]) (by simp [results, Try.results39, go_sem, Itm.v]) rfl ⟨retA HC.out.symm, HB2.out _ _⟩
  ·have et : (x.t != 2) = true := by simpa using ht
   have HC : Hid (adjI x n = (x, 90)) := if_neg ht
   clear ht hr
   unfold Itm.v at *
   go_enter Try.func39, Try.ntmps39
   go_wp2_with fail
   refine bodyPost_ret (v := .tuple #[Itm.v (x), .int .i64 90]) (by simp [results, Try.results39, go_sem, Itm.v]) rfl ⟨retA HC.out.symm, HB2.out _ _⟩
 clear hr
 by_cases h5 : k = 5
 ·subst h5
  rw [show actI x 5 n = lockI x n from rfl]
  have HW := Lib.hid (fun w => ref_in_any n 1 1048576 w)
  clear h1 h2 h3 h4
  by_cases h3 : x.t = 3
  ·have e3 : (x.t != 3) = false := by simpa using h3
   by_cases h0 : x.y = 0
   ·have e0 : (x.y != 0) = false := by simpa using h0
    cases hw : inB n 1 1048576
    ·rw [hw] at HW
     have HC : Hid (lockI x n = (x, 1)) := by show _ = _; unfold lockI; rw [if_pos ⟨h3, h0⟩, if_neg (inB_no hw)]
     clear h3 h0 hw
     unfold Itm.v at *
     go_enter Try.func39, Try.ntmps39
     go_wp2_with fail
     refine (HW.out _).mono ?_
     rintro z w1 ⟨rfl, rfl⟩
     go_wp2_with fail
     refine bodyPost_ret (v := .tuple #[Itm.v (x), .int .i64 1]) (by simp [results, Try.results39, go_sem, Itm.v]) rfl ⟨retA HC.out.symm, HB2.out _ _⟩
    ·rw [hw] at HW
     have HC : Hid (lockI x n = ({ x with y := n }, 0)) := by show _ = _; unfold lockI; rw [if_pos ⟨h3, h0⟩, if_pos (inB_yes hw)]
     clear h3 h0 hw
     unfold Itm.v at *
     go_enter Try.func39, Try.ntmps39
     go_wp2_with fail
     refine (HW.out _).mono ?_
     rintro z w1 ⟨rfl, rfl⟩
     go_wp2_with fail
     refine bodyPost_ret (v := .tuple #[Itm.v ({ x with y := n }), .int .i64 0]) (by simp [results, Try.results39, go_sem, Itm.v]) rfl ⟨retA HC.out.symm, HB2.out _ _⟩
   ·have e0 : (x.y != 0) = true := by simpa using h0
    have HC : Hid (lockI x n = (x, 90)) := if_neg (fun h => h0 h.2)
    clear h3 h0 HW
    unfold Itm.v at *
    go_enter Try.func39, Try.ntmps39
    go_wp2_with fail
    refine bodyPost_ret (v := .tuple #[Itm.v (x), .int .i64 90]) (by simp [results, Try.results39, go_sem, Itm.v]) rfl ⟨retA HC.out.symm, HB2.out _ _⟩
  ·have e3 : (x.t != 3) = true := by simpa using h3
   have HC : Hid (lockI x n = (x, 90)) := if_neg (fun h => h3 h.1)
   clear h3 HW
   unfold Itm.v at *
   go_enter Try.func39, Try.ntmps39
   go_wp2_with fail
   refine bodyPost_ret (v := .tuple #[Itm.v (x), .int .i64 90]) (by simp [results, Try.results39, go_sem, Itm.v]) rfl ⟨retA HC.out.symm, HB2.out _ _⟩
 by_cases h6 : k = 6
 ·subst h6
  rw [show actI x 6 n = freeI x from rfl]
  clear h1 h2 h3 h4 h5
  by_cases h3 : x.t = 3
  ·have e3 : (x.t != 3) = false := by simpa using h3
   by_cases h0 : x.y = 0
   ·have e0 : (x.y == 0) = true := by simpa using h0
    have HC : Hid (freeI x = (x, 90)) := if_neg (fun h => h.2 h0)
    clear h3 h0
    unfold Itm.v at *
    go_enter Try.func39, Try.ntmps39
    go_wp2_with fail
    refine bodyPost_ret (v := .tuple #[Itm.v (x), .int .i64 90]) (by simp [results, Try.results39, go_sem, Itm.v]) rfl ⟨retA HC.out.symm, HB2.out _ _⟩
   ·have e0 : (x.y == 0) = false := by simpa using h0
    have HC : Hid (freeI x = ({ x with y := 0 }, 0)) := if_pos ⟨h3, h0⟩
    clear h3 h0
    unfold Itm.v at *
    go_enter Try.func39, Try.ntmps39
    go_wp2_with fail
    refine bodyPost_ret (v := .tuple #[Itm.v ({ x with y := 0 }), .int .i64 0]) (by simp [results, Try.results39, go_sem, Itm.v]) rfl ⟨retA HC.out.symm, HB2.out _ _⟩
  ·have e3 : (x.t != 3) = true := by simpa using h3
   have HC : Hid (freeI x = (x, 90)) := if_neg (fun h => h3 h.1)
   clear h3
   unfold Itm.v at *
   go_enter Try.func39, Try.ntmps39
   go_wp2_with fail
   refine bodyPost_ret (v := .tuple #[Itm.v (x), .int .i64 90]) (by simp [results, Try.results39, go_sem, Itm.v]) rfl ⟨retA HC.out.symm, HB2.out _ _⟩
 by_cases h7 : k = 7
 ·subst h7
  rw [show actI x 7 n = settleI x from rfl]
  clear h1 h2 h3 h4 h5 h6
  by_cases h3 : x.t = 3
  ·have e3 : (x.t != 3) = false := by simpa using h3
   by_cases h0 : x.y = 0
   ·have e0 : (x.y == 0) = true := by simpa using h0
    have HC : Hid (settleI x = (x, 90)) := if_neg (fun h => h.2 h0)
    clear h3 h0
    unfold Itm.v at *
    go_enter Try.func39, Try.ntmps39
    go_wp2_with fail
    refine bodyPost_ret (v := .tuple #[Itm.v (x), .int .i64 90]) (by simp [results, Try.results39, go_sem, Itm.v]) rfl ⟨retA HC.out.symm, HB2.out _ _⟩
   ·have e0 : (x.y == 0) = false := by simpa using h0
    have HC : Hid (settleI x = ({ x with t := 5 }, 0)) := if_pos ⟨h3, h0⟩
    clear h3 h0
    unfold Itm.v at *
    go_enter Try.func39, Try.ntmps39
    go_wp2_with fail
    refine bodyPost_ret (v := .tuple #[Itm.v ({ x with t := 5 }), .int .i64 0]) (by simp [results, Try.results39, go_sem, Itm.v]) rfl ⟨retA HC.out.symm, HB2.out _ _⟩
  ·have e3 : (x.t != 3) = true := by simpa using h3
   have HC : Hid (settleI x = (x, 90)) := if_neg (fun h => h3 h.1)
   clear h3
   unfold Itm.v at *
   go_enter Try.func39, Try.ntmps39
   go_wp2_with fail
   refine bodyPost_ret (v := .tuple #[Itm.v (x), .int .i64 90]) (by simp [results, Try.results39, go_sem, Itm.v]) rfl ⟨retA HC.out.symm, HB2.out _ _⟩
 have HC : Hid (actI x k n = (x, 0)) := by show _ = _; unfold actI; rw [if_neg h1, if_neg h2, if_neg h3, if_neg h4, if_neg h5, if_neg h6, if_neg h7]
 have e1 : (k == 1) = false := by simpa using h1
 have e2 : (k == 2) = false := by simpa using h2
 have e3 : (k == 3) = false := by simpa using h3
 have e4 : (k == 4) = false := by simpa using h4
 have e5 : (k == 5) = false := by simpa using h5
 have e6 : (k == 6) = false := by simpa using h6
 have e7 : (k == 7) = false := by simpa using h7
 clear h1 h2 h3 h4 h5 h6 h7
 unfold Itm.v at *
 go_enter Try.func39, Try.ntmps39
 go_wp2_with fail
 refine bodyPost_ret (v := .tuple #[Itm.v (x), .int .i64 0]) (by simp [results, Try.results39, go_sem, Itm.v]) rfl ⟨retA HC.out.symm, HB2.out _ _⟩
end Go.Proofs.Ytbpfbebebppleaa
namespace Go.Proofs.Ytbpfbebebppleaa
open Go.RowKit
set_option linter.unusedSimpArgs false
theorem at_ltT {α : Type} {e : Enc α} {P : Nat → Prop} {w : World} {v : Value} {xs : List α} (h : TRow e w v xs) (ha : At P v xs.length) : At (fun b => P b ∧ b < w.heap.size) v xs.length := fun b o n c e hn => ⟨ha b o n c e hn, by rw [e] at h; exact h.lt_ hn⟩
/-- The document's desk, in blocks of Q, beside the program's. -/
structure DdX (Q : Nat → Prop) (w : World) (p : Option Addr) (c : Nat) (po : Option Addr) (co : Nat) (xs : List Itm) (os : List Ord) (d : Dsk) : Prop where
 row : TRow encI w (.slice p xs.length c) xs
 rowo : TRow encO w (.slice po os.length co) os
 ai : At Q (.slice p xs.length c) xs.length
 ao : At Q (.slice po os.length co) os.length
 px : xs.Perm d.xs
 po : os.Perm d.os
section
variable {Q R : Nat → Prop} {w w' : World} {p po : Option Addr} {c co : Nat} {xs : List Itm} {os : List Ord} {d : Dsk}
theorem DdX.kept (h : DdX Q w p c po co xs os d) (hb : Below w.heap.size w w') : DdX Q w' p c po co xs os d := ⟨h.row.kept hb, h.rowo.kept hb, h.ai, h.ao, h.px, h.po⟩
theorem DdX.keepP (h : DdX Q w p c po co xs os d) (hb : KeepP Q w w') : DdX Q w' p c po co xs os d := ⟨h.row.keepP h.ai hb, h.rowo.keepP h.ao hb, h.ai, h.ao, h.px, h.po⟩
theorem DdX.imp (h : DdX Q w p c po co xs os d) (hq : ∀ b, Q b → R b) : DdX R w p c po co xs os d := ⟨h.row, h.rowo, h.ai.imp hq, h.ao.imp hq, h.px, h.po⟩
theorem DdX.lt (h : DdX Q w p c po co xs os d) : DdX (fun b => Q b ∧ b < w.heap.size) w p c po co xs os d := ⟨h.row, h.rowo, at_ltT h.row h.ai, at_ltT h.rowo h.ao, h.px, h.po⟩
theorem DdX.chg {g : Nat} (h : DdX Q w p c po co xs os d) (hc : Chg g w w') (hg : ¬ Q g) : DdX Q w' p c po co xs os d := h.keepP (KeepP.of_chg hc hg)
end
/-- What the document's desk answers. -/
def DPm (w : World) (P : Nat → Prop) (R : Dsk × List (Int × Msg) × Int) (y : Ending) (w' : World) : Prop :=
 ∃ p c po co xs os vs, y = .returned (.tuple #[.agg #[.int .i64 R.1.me, .int .i64 R.1.far, .slice p xs.length c, .slice po os.length co], vs, .int .i64 R.2.2]) ∧ DdX (fun b => P b ∨ w.heap.size ≤ b) w' p c po co xs os R.1 ∧ OwnT encS w' w.heap.size 75 vs (R.2.1.map sdX) ∧ Below w.heap.size w w'
set_option linter.unusedSimpArgs false in
set_option maxHeartbeats 4000000 in
set_option maxRecDepth 100000 in
theorem rnear_any (a b far : Int) (w : World) (ha : 1 ≤ a ∧ a ≤ 1125899906842624) (hb : 1 ≤ b ∧ b ≤ 1125899906842624) :
  Calls Try.prog 58 #[.int .i64 a, .int .i64 b, .int .i64 far] w fun e w' => e = .returned (.bool (nearB a b far)) ∧ Below w.heap.size w w' := by
 by_cases hab : a < b
 ·have h1 : (decide (b - a ≤ far)) = nearB a b far := by unfold nearB; rw [decide_eq_decide]; omega
  go_enter Try.func58, Try.ntmps58
  go_wp2_with fail
  go_ret
  exact ⟨rfl, Below.refl _ _⟩
 ·have h1 : (decide (a - b ≤ far)) = nearB a b far := by unfold nearB; rw [decide_eq_decide]; omega
  go_enter Try.func58, Try.ntmps58
  go_wp2_with fail
  go_ret
  exact ⟨rfl, Below.refl _ _⟩
set_option linter.unusedSimpArgs false in
set_option maxHeartbeats 4000000 in
set_option maxRecDepth 100000 in
theorem rabout_any (too k : Int) (x : Itm) (w : World) : Calls Try.prog 38 #[.int .i64 too, .int .i64 k, x.v] w fun e w' => ∃ vs, e = .returned vs ∧ OwnT encS w' w.heap.size 75 vs [sdX (too, aboutM k x)] ∧ Below w.heap.size w w' := by
 unfold Itm.v
 have HB0 : Hid (Below w.heap.size w (w.alloc (.cells #[.int .i64 x.s, .int .i64 x.n, .int .i64 x.b, .int .i64 x.c, .int .i64 x.a, .int .i64 x.r, .int .i64 x.t, .int .i64 x.y] 64))) := Lib.hid ((oneB w _))
 have Hx0 : Hid (Blk (w.alloc (.cells #[.int .i64 x.s, .int .i64 x.n, .int .i64 x.b, .int .i64 x.c, .int .i64 x.a, .int .i64 x.r, .int .i64 x.t, .int .i64 x.y] 64)) w.heap.size #[.int .i64 x.s, .int .i64 x.n, .int .i64 x.b, .int .i64 x.c, .int .i64 x.a, .int .i64 x.r, .int .i64 x.t, .int .i64 x.y] 64) := Lib.hid (Blk.new w #[.int .i64 x.s, .int .i64 x.n, .int .i64 x.b, .int .i64 x.c, .int .i64 x.a, .int .i64 x.r, .int .i64 x.t, .int .i64 x.y] 64)
 have HZ0 : Hid (w.heap.size ≤ (w.alloc (.cells #[.int .i64 x.s, .int .i64 x.n, .int .i64 x.b, .int .i64 x.c, .int .i64 x.a, .int .i64 x.r, .int .i64 x.t, .int .i64 x.y] 64)).heap.size) := Lib.hid HB0.out.size
 go_enter Try.func38, Try.ntmps38
 go_upto_region 1 with fail
 generalize (w.alloc (.cells #[.int .i64 x.s, .int .i64 x.n, .int .i64 x.b, .int .i64 x.c, .int .i64 x.a, .int .i64 x.r, .int .i64 x.t, .int .i64 x.y] 64)) = W at *
 have x0 : W.cell? ⟨w.heap.size, 0, none⟩ = some (.int .i64 x.s) := Hx0.out.cell 0
 have x1 : W.cell? ⟨w.heap.size, 1, none⟩ = some (.int .i64 x.n) := Hx0.out.cell 1
 have x2 : W.cell? ⟨w.heap.size, 2, none⟩ = some (.int .i64 x.b) := Hx0.out.cell 2
 have x3 : W.cell? ⟨w.heap.size, 3, none⟩ = some (.int .i64 x.c) := Hx0.out.cell 3
 have x4 : W.cell? ⟨w.heap.size, 4, none⟩ = some (.int .i64 x.a) := Hx0.out.cell 4
 have x5 : W.cell? ⟨w.heap.size, 5, none⟩ = some (.int .i64 x.r) := Hx0.out.cell 5
 have x6 : W.cell? ⟨w.heap.size, 6, none⟩ = some (.int .i64 x.t) := Hx0.out.cell 6
 have x7 : W.cell? ⟨w.heap.size, 7, none⟩ = some (.int .i64 x.y) := Hx0.out.cell 7
 go_wp2_with fail
 go_ret
 have hbz := oneB W (.cells #[.int .i64 too, .int .i64 k, .int .i64 x.s, .int .i64 x.n, .int .i64 x.b, .int .i64 x.c, .int .i64 x.r, .int .i64 0, .int .i64 x.a, .bool false, .slice none 0 0, .slice none 0 0] 75)
 refine ⟨_, rfl, OwnT.mk' (e := encS) (cur := #[.int .i64 too, .int .i64 k, .int .i64 x.s, .int .i64 x.n, .int .i64 x.b, .int .i64 x.c, .int .i64 x.r, .int .i64 0, .int .i64 x.a, .bool false, .slice none 0 0, .slice none 0 0]) rfl HZ0.out (Blk.new W #[.int .i64 too, .int .i64 k, .int .i64 x.s, .int .i64 x.n, .int .i64 x.b, .int .i64 x.c, .int .i64 x.r, .int .i64 0, .int .i64 x.a, .bool false, .slice none 0 0, .slice none 0 0] 75) (Nat.le_refl 1) (by decide) rfl rfl, HB0.out.trans (hbz.mono HB0.out.size)⟩
theorem beh_err {d : Dsk} {r : Itm × Int} {ks : List Int} (h : r.2 ≠ 0) : d.beh r ks = (d, [], r.2) := by
 unfold Dsk.beh
 rw [if_neg h]
def RrP (z st : Int) (b : Bool) : Prop := (z = 8 ∧ st = 2 ∧ b = false) ∨ (z = 7 ∧ st = 3 ∧ b = true)
theorem trow_cell {α : Type} {e : Enc α} {w : World} {b o n c : Nat} {xs : List α} {x : α} (h : TRow e w (.slice (some ⟨b, o, none⟩) n c) xs) (k : Nat) (hk : k < xs.length) (hx : xs[k] = x) (t : Nat) (ht : t < e.k) : w.cell? ⟨b, o + k * e.k + t, none⟩ = (e.E x)[t]? := by
 obtain ⟨b', o', e1, _, hc⟩ := h.at_ k hk
 cases e1
 rw [hc t ht, hx]
end Go.Proofs.Ytbpfbebebppleaa
