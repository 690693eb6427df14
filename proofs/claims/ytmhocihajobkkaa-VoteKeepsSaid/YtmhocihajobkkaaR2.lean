/- An item kept in a desk of the document's, by contract. Rows that lie in no block of a list. The package item's small functions by contract. item.Check, turn, locked by contract. (book.Book).Put by contract. (book.Book).Put of an item that it takes. (book.Book).Put of any item. book.New by contract. (book.Book).Get by contract. Get over items in the order of their names. Put over items in the order of their names: it is in, and where the row lies. contralaw17.filled by contract. Where a cycle stands: the closure, sort.Search, (vote.Parts).find by contract. -/
import Derived.Test.YtmhocihajobkkaaR1
import Derived.IntWalk
namespace Go.Proofs.Ytmhocihajobkkaa
open Go.RowKit
set_option linter.unusedSimpArgs false
/-- The items with an item as it is now, where its ID stands at r. -/
def cputL (xs : List Itm) (x : Itm) (r : Int) : List Itm := if r < 0 then xs ++ [x] else xs.set r.toNat x
theorem infoDC {cs : Array Value} (h : cs.size = 4) : (Try.prog.info? 31).map (·.size) = some cs.size := by
 rw [h]
 kernel_rfl
set_option linter.unusedSimpArgs false in
set_option maxHeartbeats 4000000 in
set_option maxRecDepth 100000 in
theorem ckeep_any (w : World) (me far : Int) (p po : Option Addr) (n c no co : Nat) (x : Itm) (xs : List Itm) (hr : TRow encI w (.slice p n c) xs) (hn : n = xs.length) (hl : xs.length ≤ 2000) :
  Calls Try.prog 18 #[.agg #[.int .i64 me, .int .i64 far, .slice p n c, .slice po no co], x.v] w fun y w' => ∃ r p' n' c', AtI xs x.s x.n r ∧ y = .returned (.agg #[.int .i64 me, .int .i64 far, .slice p' n' c', .slice po no co]) ∧ OwnT encI w' w.heap.size 54 (.slice p' n' c') (cputL xs x r) ∧ n' = (cputL xs x r).length ∧ Below w.heap.size w w' := by
 have HR := Lib.hid hr
 have HL : Hid (xs.length = n ∧ n ≤ 2000) := ⟨hn.symm, by omega⟩
 clear hr hn hl
 unfold Itm.v
 have HB0 : Hid (Below w.heap.size w (((w.alloc (.cells #[.int .i64 me, .int .i64 far, .slice p n c, .slice po no co] 31)).alloc (.cells #[.int .i64 x.s, .int .i64 x.n, .int .i64 x.b, .int .i64 x.c, .int .i64 x.a, .int .i64 x.r, .int .i64 x.t, .int .i64 x.y] 54)).alloc (.cells #[.int .i64 0, .int .i64 0, .slice none 0 0, .slice none 0 0] 31))) := Lib.hid ((((oneB w _).alloc (by simp <;> omega) _).alloc (by simp <;> omega) _))
 have Hd0 : Hid (Blk (((w.alloc (.cells #[.int .i64 me, .int .i64 far, .slice p n c, .slice po no co] 31)).alloc (.cells #[.int .i64 x.s, .int .i64 x.n, .int .i64 x.b, .int .i64 x.c, .int .i64 x.a, .int .i64 x.r, .int .i64 x.t, .int .i64 x.y] 54)).alloc (.cells #[.int .i64 0, .int .i64 0, .slice none 0 0, .slice none 0 0] 31)) w.heap.size #[.int .i64 me, .int .i64 far, .slice p n c, .slice po no co] 31) := Lib.hid (((Blk.new w #[.int .i64 me, .int .i64 far, .slice p n c, .slice po no co] 31).alloc _).alloc _)
 have Hx0 : Hid (Blk (((w.alloc (.cells #[.int .i64 me, .int .i64 far, .slice p n c, .slice po no co] 31)).alloc (.cells #[.int .i64 x.s, .int .i64 x.n, .int .i64 x.b, .int .i64 x.c, .int .i64 x.a, .int .i64 x.r, .int .i64 x.t, .int .i64 x.y] 54)).alloc (.cells #[.int .i64 0, .int .i64 0, .slice none 0 0, .slice none 0 0] 31)) (w.heap.size + 1) #[.int .i64 x.s, .int .i64 x.n, .int .i64 x.b, .int .i64 x.c, .int .i64 x.a, .int .i64 x.r, .int .i64 x.t, .int .i64 x.y] 54) := Lib.hid ((Blk.new' (w.alloc (.cells #[.int .i64 me, .int .i64 far, .slice p n c, .slice po no co] 31)) #[.int .i64 x.s, .int .i64 x.n, .int .i64 x.b, .int .i64 x.c, .int .i64 x.a, .int .i64 x.r, .int .i64 x.t, .int .i64 x.y] 54 (by simp)).alloc _)
 have Hr0 : Hid (Blk (((w.alloc (.cells #[.int .i64 me, .int .i64 far, .slice p n c, .slice po no co] 31)).alloc (.cells #[.int .i64 x.s, .int .i64 x.n, .int .i64 x.b, .int .i64 x.c, .int .i64 x.a, .int .i64 x.r, .int .i64 x.t, .int .i64 x.y] 54)).alloc (.cells #[.int .i64 0, .int .i64 0, .slice none 0 0, .slice none 0 0] 31)) (w.heap.size + 1 + 1) #[.int .i64 0, .int .i64 0, .slice none 0 0, .slice none 0 0] 31) := Lib.hid (Blk.new' ((w.alloc (.cells #[.int .i64 me, .int .i64 far, .slice p n c, .slice po no co] 31)).alloc (.cells #[.int .i64 x.s, .int .i64 x.n, .int .i64 x.b, .int .i64 x.c, .int .i64 x.a, .int .i64 x.r, .int .i64 x.t, .int .i64 x.y] 54)) #[.int .i64 0, .int .i64 0, .slice none 0 0, .slice none 0 0] 31 (by simp))
 have HZ0 : Hid (w.heap.size ≤ (((w.alloc (.cells #[.int .i64 me, .int .i64 far, .slice p n c, .slice po no co] 31)).alloc (.cells #[.int .i64 x.s, .int .i64 x.n, .int .i64 x.b, .int .i64 x.c, .int .i64 x.a, .int .i64 x.r, .int .i64 x.t, .int .i64 x.y] 54)).alloc (.cells #[.int .i64 0, .int .i64 0, .slice none 0 0, .slice none 0 0] 31)).heap.size) := Lib.hid HB0.out.size
 go_enter Try.func18, Try.ntmps18
 go_upto_region 1 with fail
 generalize (((w.alloc (.cells #[.int .i64 me, .int .i64 far, .slice p n c, .slice po no co] 31)).alloc (.cells #[.int .i64 x.s, .int .i64 x.n, .int .i64 x.b, .int .i64 x.c, .int .i64 x.a, .int .i64 x.r, .int .i64 x.t, .int .i64 x.y] 54)).alloc (.cells #[.int .i64 0, .int .i64 0, .slice none 0 0, .slice none 0 0] 31)) = W at *
 have HWL : Hid (w.heap.size + 1 + 1 < W.heap.size) := Lib.hid Hr0.out.lt
 have HM := Lib.hid (madeT W W.heap.size (Nat.le_refl _))
 have HRW := Lib.hid ((HR.out.kept HB0.out).kept (oneB W (.cells #[] 54)))
 have hbm := oneB W (.cells #[] 54)
 have Hd1 := kbq Hd0 hbm
 have Hx1 := kbq Hx0 hbm
 have Hr1 := kbq Hr0 hbm
 have HB1 := ktq HB0 hbm
 have HZ1 := kzq HZ0 hbm.size
 clear Hd0 Hx0 Hr0 HB0 HZ0
 have a2 : (W.alloc (.cells #[] 54)).cell? ⟨w.heap.size, 2, none⟩ = some (.slice p n c) := Hd1.out.cell 2
 go_wp2_with (at_builtin; with_reducible refine stop_appendI (.tmp 7) (.tmp 9) 22 rfl ?_)
 clear a2
 have HZM : Hid (W.heap.size ≤ (W.alloc (.cells #[] 54)).heap.size) := Lib.hid hbm.size
 clear hbm
 refine wpList_append_t rfl (.tmp 7) (.tmp 9) 22 rfl 54 zeroVI 64 W.heap.size eltI rfl (by decide) (.slice (some ⟨W.heap.size, 0, none⟩) 0 0) (.slice p n c) [] xs rfl rfl HM.out HRW.out (by have := HL.out; simp; omega) HZM.out xs n (List.nil_append _) HL.out.1 ?_
 intro p1 c1 w1 ho _ hbw
 clear HM HRW
 have Hd2 := Lib.hid (Hd1.out.below hbw (by have h7 := HWL.out; omega))
 have Hx2 := Lib.hid (Hx1.out.below hbw (by have h7 := HWL.out; omega))
 have Hr2 := Lib.hid (Hr1.out.below hbw (by have h7 := HWL.out; omega))
 have HB2 := Lib.hid (HB1.out.trans (hbw.mono (by have h7 := HWL.out; omega)))
 have HZ2 : Hid (w.heap.size ≤ w1.heap.size) := Lib.hid HB2.out.size
 have HZM2 : Hid (W.heap.size ≤ w1.heap.size) := Lib.hid (Nat.le_trans HZM.out hbw.size)
 have Sl2 := Lib.hid ho
 clear ho hbw HZM Hd1 Hx1 Hr1 HB1 HZ1
 have HF := Lib.hid (cfind_any w1 me far x.s x.n p po n c no co xs (HR.out.kept HB2.out) HL.out.1.symm (by have := HL.out; omega))
 have a0 : w1.cell? ⟨w.heap.size, 0, none⟩ = some (.int .i64 me) := Hd2.out.cell 0
 have a1 : w1.cell? ⟨w.heap.size, 1, none⟩ = some (.int .i64 far) := Hd2.out.cell 1
 have a2 : w1.cell? ⟨w.heap.size, 2, none⟩ = some (.slice p n c) := Hd2.out.cell 2
 have a3 : w1.cell? ⟨w.heap.size, 3, none⟩ = some (.slice po no co) := Hd2.out.cell 3
 have x0 : w1.cell? ⟨(w.heap.size + 1), 0, none⟩ = some (.int .i64 x.s) := Hx2.out.cell 0
 have x1 : w1.cell? ⟨(w.heap.size + 1), 1, none⟩ = some (.int .i64 x.n) := Hx2.out.cell 1
 go_wp2_with fail
 clear a0 a1 a2 a3 x0 x1
 refine HF.out.mono ?_
 rintro y9 w2 ⟨⟨r, rfl, hat⟩, hb⟩
 clear HF
 have HAT := Lib.hid hat
 clear hat
 have HZM3 : Hid (W.heap.size ≤ w2.heap.size) := Lib.hid (Nat.le_trans HZM2.out hb.size)
 clear HZM2
 have Hd3 := kbq Hd2 hb
 have Hx3 := kbq Hx2 hb
 have Hr3 := kbq Hr2 hb
 have Sl3 := Lib.hid (Sl2.out.later hb)
 have HB3 := ktq HB2 hb
 have HZ3 := kzq HZ2 hb.size
 clear Hd2 Hx2 Hr2 Sl2 HB2 HZ2
 clear hb
 by_cases hr0 : r < 0
 ·skip
  have hlt : (r : Int) < 0 := hr0
  have HFL : Hid (cputL xs x r = xs ++ [x]) := by show _ = _; unfold cputL; rw [if_pos hr0]
  have HNL : Hid ((xs ++ [x]).length = n + 1) := by show _ = _; rw [List.length_append, HL.out.1]; rfl
  clear hr0
  have x0 : w2.cell? ⟨(w.heap.size + 1), 0, none⟩ = some (.int .i64 x.s) := Hx3.out.cell 0
  have x1 : w2.cell? ⟨(w.heap.size + 1), 1, none⟩ = some (.int .i64 x.n) := Hx3.out.cell 1
  have x2 : w2.cell? ⟨(w.heap.size + 1), 2, none⟩ = some (.int .i64 x.b) := Hx3.out.cell 2
  have x3 : w2.cell? ⟨(w.heap.size + 1), 3, none⟩ = some (.int .i64 x.c) := Hx3.out.cell 3
  have x4 : w2.cell? ⟨(w.heap.size + 1), 4, none⟩ = some (.int .i64 x.a) := Hx3.out.cell 4
  have x5 : w2.cell? ⟨(w.heap.size + 1), 5, none⟩ = some (.int .i64 x.r) := Hx3.out.cell 5
  have x6 : w2.cell? ⟨(w.heap.size + 1), 6, none⟩ = some (.int .i64 x.t) := Hx3.out.cell 6
  have x7 : w2.cell? ⟨(w.heap.size + 1), 7, none⟩ = some (.int .i64 x.y) := Hx3.out.cell 7
  go_wp2_with (at_builtin; with_reducible refine stop_appendI (.tmp 17) (.tmp 19) 22 rfl ?_)
  clear x0 x1 x2 x3 x4 x5 x6 x7
  refine wpList_append_t rfl (.tmp 17) (.tmp 19) 22 rfl 54 zeroVI 64 W.heap.size eltI rfl (by decide) (.slice p1 n c1) (.slice (some ⟨w2.heap.size, 0, none⟩) 1 1) xs [x] rfl rfl (Sl3.out.later (oneB w2 _)) (TRow.one_ encI x (Blk.new w2 #[.int .i64 x.s, .int .i64 x.n, .int .i64 x.b, .int .i64 x.c, .int .i64 x.a, .int .i64 x.r, .int .i64 x.t, .int .i64 x.y] 54) rfl (Nat.le_refl _)) (by have := HL.out; simp; omega) (by have h7 := HZM3.out; have h8 := (oneB w2 (.cells #[.int .i64 x.s, .int .i64 x.n, .int .i64 x.b, .int .i64 x.c, .int .i64 x.a, .int .i64 x.r, .int .i64 x.t, .int .i64 x.y] 54)).size; omega) (xs ++ [x]) (n + 1) rfl HNL.out ?_
  intro p3 c3 w3 ho _ hbw0
  have hbw := ((oneB w2 (.cells #[.int .i64 x.s, .int .i64 x.n, .int .i64 x.b, .int .i64 x.c, .int .i64 x.a, .int .i64 x.r, .int .i64 x.t, .int .i64 x.y] 54)).mono HZM3.out).trans hbw0
  clear hbw0
  clear Sl3
  have Hd4 := Lib.hid (Hd3.out.below hbw (by have h7 := HWL.out; omega))
  have Hx4 := Lib.hid (Hx3.out.below hbw (by have h7 := HWL.out; omega))
  have Hr4 := Lib.hid (Hr3.out.below hbw (by have h7 := HWL.out; omega))
  have HB4 := Lib.hid (HB3.out.trans (hbw.mono (by have h7 := HWL.out; omega)))
  have HZ4 : Hid (w.heap.size ≤ w3.heap.size) := Lib.hid HB4.out.size
  have Sl4 := Lib.hid ho
  clear ho hbw HZM3 Hd3 Hx3 Hr3 HB3 HZ3
  go_upto_region 6 with fail
  have z2 : w3.cell? ⟨w.heap.size, 2, none⟩ = some (.slice p n c) := Hd4.out.cell 2
  have f2 := Hd4.out.free 2
  go_upto_region 7 with fail
  clear z2 f2
  have hch := Lib.hid ((Chg.refl w.heap.size w3).set 2 (.slice p3 (n + 1) c3))
  have Hd5 : Hid (Blk _ w.heap.size #[.int .i64 me, .int .i64 far, .slice p3 (n + 1) c3, .slice po no co] 31) := Lib.hid (Hd4.out.set 2 (.slice p3 (n + 1) c3))
  have HB5 := ksq HB4 hch (by show w.heap.size ≤ w.heap.size; have h7 := HWL.out; omega)
  have HZ5 := kzq HZ4 hch.out.size
  have Hx5 := kcq Hx4 hch (by have h7 := HWL.out; omega)
  have Hr5 := kcq Hr4 hch (by have h7 := HWL.out; omega)
  have Sl5 := Lib.hid (Sl4.out.stay (fun b hb => hch.out.2 b (Sl4.out.lt b hb) (by have h1 := Sl4.out.block_ge b hb; have h7 := HWL.out; omega)))
  clear hch Hd4 Hx4 Hr4 Sl4 HB4 HZ4
  generalize (w3.setCell ⟨w.heap.size, 2, none⟩ (.slice p3 (n + 1) c3)) = WS at *
  have a0 : WS.cell? ⟨w.heap.size, 0, none⟩ = some (.int .i64 me) := Hd5.out.cell 0
  have a1 : WS.cell? ⟨w.heap.size, 1, none⟩ = some (.int .i64 far) := Hd5.out.cell 1
  have a2 : WS.cell? ⟨w.heap.size, 2, none⟩ = some (.slice p3 (n + 1) c3) := Hd5.out.cell 2
  have a3 : WS.cell? ⟨w.heap.size, 3, none⟩ = some (.slice po no co) := Hd5.out.cell 3
  go_wp2_with (with_reducible refine stop_storeT 31 (.tmp 4) (.tmp 27) rfl ?_)
  clear a0 a1 a2 a3
  have HTH : Hid (WS.there (w.heap.size + 1 + 1) 0 4) := Hr5.out.thereAt
  have hch : Hid (Chg (w.heap.size + 1 + 1) WS (WS.setCells (w.heap.size + 1 + 1) 0 (#[.int .i64 me, .int .i64 far, .slice p3 (n + 1) c3, .slice po no co] : Array Value).toList)) := Lib.hid (chg_putL _ _ _ _ _ (Chg.refl _ WS))
  have Hr6 : Hid (Blk (WS.setCells (w.heap.size + 1 + 1) 0 (#[.int .i64 me, .int .i64 far, .slice p3 (n + 1) c3, .slice po no co] : Array Value).toList) (w.heap.size + 1 + 1) #[.int .i64 me, .int .i64 far, .slice p3 (n + 1) c3, .slice po no co] 31) := Lib.hid (blk_put_all Hr5.out _ rfl)
  have HB6 : Hid (Below w.heap.size w (WS.setCells (w.heap.size + 1 + 1) 0 (#[.int .i64 me, .int .i64 far, .slice p3 (n + 1) c3, .slice po no co] : Array Value).toList)) := Lib.hid (below_put (by have h7 := HWL.out; omega) _ _ _ _ HB5.out)
  have HZ6 := kzq HZ5 hch.out.size
  have Hd6 := kcq Hd5 hch (by have h7 := HWL.out; omega)
  have Hx6 := kcq Hx5 hch (by have h7 := HWL.out; omega)
  have Sl6 := Lib.hid (Sl5.out.stay (fun b hb => hch.out.2 b (Sl5.out.lt b hb) (by have h1 := Sl5.out.block_ge b hb; have h7 := HWL.out; omega)))
  clear hch Hd5 Hx5 Hr5 Sl5 HB5 HZ5
  refine wpList_store_mid rfl 31 (.tmp 4) (.tmp 27) rfl (w.heap.size + 1 + 1) 0 #[.int .i64 me, .int .i64 far, .slice p3 (n + 1) c3, .slice po no co] rfl rfl HTH.out (infoDC rfl) (all_oneCell_toArray (by intro u hu; simp at hu; rcases hu with rfl | rfl | rfl | rfl <;> rfl)) ?_
  generalize (WS.setCells (w.heap.size + 1 + 1) 0 (#[.int .i64 me, .int .i64 far, .slice p3 (n + 1) c3, .slice po no co] : Array Value).toList) = WE at *
  clear HTH
  go_wp2_with fail
  have hfr := Hr6.out
  refine bodyPost_ret (v := .agg #[.int .i64 me, .int .i64 far, .slice p3 (n + 1) c3, .slice po no co]) (by simp [results, Try.results18, go_sem, hfr.cell 0, hfr.cell 1, hfr.cell 2, hfr.cell 3]) rfl ⟨r, p3, (n + 1), c3, HAT.out, rfl, by rw [HFL.out]; exact Sl6.out.less (by have h7 := HWL.out; omega), by rw [HFL.out]; exact HNL.out.symm, HB6.out⟩
 ·skip
  have hge : ¬ (r : Int) < 0 := hr0
  have hex : ∃ k : Nat, k < xs.length ∧ r = (k : Int) := by
   rcases HAT.out with ⟨k, h, e, _⟩ | ⟨e, _⟩
   ·exact ⟨k, h, e⟩
   ·omega
  obtain ⟨k, hk, rfl⟩ := hex
  have hkn : k < n := by have := HL.out.1; omega
  have hkI : (k : Int) < (n : Int) := by omega
  have HFL : Hid (cputL xs x (k : Int) = xs.set k x) := by show _ = _; unfold cputL; rw [if_neg hr0, Int.toNat_natCast]
  have HNL : Hid ((xs.set k x).length = n) := by show _ = _; rw [List.length_set, HL.out.1]
  clear hr0 hk
  obtain ⟨gl, curl, hp1, hgb, hgv, hcn, hcm, hcs, ht9, hn9⟩ := Sl3.out.lies (show 0 < n by omega)
  subst hp1
  have HCN : Hid (n ≤ c1) := hcn
  have HGL : Hid (W.heap.size ≤ gl) := hgb
  clear hcn hcm hcs hgv hgb ht9 hn9 curl
  have x0 : w2.cell? ⟨(w.heap.size + 1), 0, none⟩ = some (.int .i64 x.s) := Hx3.out.cell 0
  have x1 : w2.cell? ⟨(w.heap.size + 1), 1, none⟩ = some (.int .i64 x.n) := Hx3.out.cell 1
  have x2 : w2.cell? ⟨(w.heap.size + 1), 2, none⟩ = some (.int .i64 x.b) := Hx3.out.cell 2
  have x3 : w2.cell? ⟨(w.heap.size + 1), 3, none⟩ = some (.int .i64 x.c) := Hx3.out.cell 3
  have x4 : w2.cell? ⟨(w.heap.size + 1), 4, none⟩ = some (.int .i64 x.a) := Hx3.out.cell 4
  have x5 : w2.cell? ⟨(w.heap.size + 1), 5, none⟩ = some (.int .i64 x.r) := Hx3.out.cell 5
  have x6 : w2.cell? ⟨(w.heap.size + 1), 6, none⟩ = some (.int .i64 x.t) := Hx3.out.cell 6
  have x7 : w2.cell? ⟨(w.heap.size + 1), 7, none⟩ = some (.int .i64 x.y) := Hx3.out.cell 7
  go_wp2_with (with_reducible refine stop_storeT 54 (.tmp 24) (.tmp 23) rfl ?_)
  clear x0 x1 x2 x3 x4 x5 x6 x7
  have HTH := Lib.hid (Sl3.out.there k 8 (by have := HCN.out; show k * 8 + 8 ≤ c1 * 8; omega) (by omega))
  have HINF : Hid ((Try.prog.info? 54).map (·.size) = some (#[.int .i64 x.s, .int .i64 x.n, .int .i64 x.b, .int .i64 x.c, .int .i64 x.a, .int .i64 x.r, .int .i64 x.t, .int .i64 x.y] : Array Value).size) := by
   obtain ⟨ii, _, hi, _, hs, _⟩ := eltI
   show _ = _
   rw [hi]
   show some ii.size = some 8
   rw [hs]
  have hch : Hid (Chg gl w2 (w2.setCells gl (k * 8) (#[.int .i64 x.s, .int .i64 x.n, .int .i64 x.b, .int .i64 x.c, .int .i64 x.a, .int .i64 x.r, .int .i64 x.t, .int .i64 x.y] : Array Value).toList)) := Lib.hid (chg_putL _ _ _ _ _ (Chg.refl _ w2))
  have Hd4 := kcq Hd3 hch (by have h7 := HWL.out; have h8 := HGL.out; omega)
  have Hx4 := kcq Hx3 hch (by have h7 := HWL.out; have h8 := HGL.out; omega)
  have Hr4 := kcq Hr3 hch (by have h7 := HWL.out; have h8 := HGL.out; omega)
  have HB4 : Hid (Below w.heap.size w (w2.setCells gl (k * 8) (#[.int .i64 x.s, .int .i64 x.n, .int .i64 x.b, .int .i64 x.c, .int .i64 x.a, .int .i64 x.r, .int .i64 x.t, .int .i64 x.y] : Array Value).toList)) := Lib.hid (below_put (by have h7 := HWL.out; have h8 := HGL.out; omega) _ _ _ _ HB3.out)
  have HZ4 : Hid (w.heap.size ≤ (w2.setCells gl (k * 8) (#[.int .i64 x.s, .int .i64 x.n, .int .i64 x.b, .int .i64 x.c, .int .i64 x.a, .int .i64 x.r, .int .i64 x.t, .int .i64 x.y] : Array Value).toList).heap.size) := Lib.hid HB4.out.size
  have Sl4 := Lib.hid (Sl3.out.put k hkn x)
  clear hch Hd3 Hx3 Hr3 Sl3 HB3 HZ3
  refine wpList_store_mid rfl 54 (.tmp 24) (.tmp 23) rfl gl (k * 8) #[.int .i64 x.s, .int .i64 x.n, .int .i64 x.b, .int .i64 x.c, .int .i64 x.a, .int .i64 x.r, .int .i64 x.t, .int .i64 x.y] rfl rfl HTH.out HINF.out (all_oneCell_toArray (encI.one x)) ?_
  replace Sl4 : Hid (OwnT encI (w2.setCells gl (k * 8) (#[.int .i64 x.s, .int .i64 x.n, .int .i64 x.b, .int .i64 x.c, .int .i64 x.a, .int .i64 x.r, .int .i64 x.t, .int .i64 x.y] : Array Value).toList) W.heap.size 54 (.slice (some ⟨gl, 0, none⟩) n c1) (xs.set k x)) := Sl4
  generalize (w2.setCells gl (k * 8) (#[.int .i64 x.s, .int .i64 x.n, .int .i64 x.b, .int .i64 x.c, .int .i64 x.a, .int .i64 x.r, .int .i64 x.t, .int .i64 x.y] : Array Value).toList) = w3 at *
  clear HTH HINF
  go_upto_region 6 with fail
  have z2 : w3.cell? ⟨w.heap.size, 2, none⟩ = some (.slice p n c) := Hd4.out.cell 2
  have f2 := Hd4.out.free 2
  go_upto_region 7 with fail
  clear z2 f2
  have hch := Lib.hid ((Chg.refl w.heap.size w3).set 2 (.slice (some ⟨gl, 0, none⟩) n c1))
  have Hd5 : Hid (Blk _ w.heap.size #[.int .i64 me, .int .i64 far, .slice (some ⟨gl, 0, none⟩) n c1, .slice po no co] 31) := Lib.hid (Hd4.out.set 2 (.slice (some ⟨gl, 0, none⟩) n c1))
  have HB5 := ksq HB4 hch (by show w.heap.size ≤ w.heap.size; have h7 := HWL.out; omega)
  have HZ5 := kzq HZ4 hch.out.size
  have Hx5 := kcq Hx4 hch (by have h7 := HWL.out; omega)
  have Hr5 := kcq Hr4 hch (by have h7 := HWL.out; omega)
  have Sl5 := Lib.hid (Sl4.out.stay (fun b hb => hch.out.2 b (Sl4.out.lt b hb) (by have h1 := Sl4.out.block_ge b hb; have h7 := HWL.out; omega)))
  clear hch Hd4 Hx4 Hr4 Sl4 HB4 HZ4
  generalize (w3.setCell ⟨w.heap.size, 2, none⟩ (.slice (some ⟨gl, 0, none⟩) n c1)) = WS at *
  have a0 : WS.cell? ⟨w.heap.size, 0, none⟩ = some (.int .i64 me) := Hd5.out.cell 0
  have a1 : WS.cell? ⟨w.heap.size, 1, none⟩ = some (.int .i64 far) := Hd5.out.cell 1
  have a2 : WS.cell? ⟨w.heap.size, 2, none⟩ = some (.slice (some ⟨gl, 0, none⟩) n c1) := Hd5.out.cell 2
  have a3 : WS.cell? ⟨w.heap.size, 3, none⟩ = some (.slice po no co) := Hd5.out.cell 3
  go_wp2_with (with_reducible refine stop_storeT 31 (.tmp 4) (.tmp 27) rfl ?_)
  clear a0 a1 a2 a3
  have HTH : Hid (WS.there (w.heap.size + 1 + 1) 0 4) := Hr5.out.thereAt
  have hch : Hid (Chg (w.heap.size + 1 + 1) WS (WS.setCells (w.heap.size + 1 + 1) 0 (#[.int .i64 me, .int .i64 far, .slice (some ⟨gl, 0, none⟩) n c1, .slice po no co] : Array Value).toList)) := Lib.hid (chg_putL _ _ _ _ _ (Chg.refl _ WS))
  have Hr6 : Hid (Blk (WS.setCells (w.heap.size + 1 + 1) 0 (#[.int .i64 me, .int .i64 far, .slice (some ⟨gl, 0, none⟩) n c1, .slice po no co] : Array Value).toList) (w.heap.size + 1 + 1) #[.int .i64 me, .int .i64 far, .slice (some ⟨gl, 0, none⟩) n c1, .slice po no co] 31) := Lib.hid (blk_put_all Hr5.out _ rfl)
  have HB6 : Hid (Below w.heap.size w (WS.setCells (w.heap.size + 1 + 1) 0 (#[.int .i64 me, .int .i64 far, .slice (some ⟨gl, 0, none⟩) n c1, .slice po no co] : Array Value).toList)) := Lib.hid (below_put (by have h7 := HWL.out; omega) _ _ _ _ HB5.out)
  have HZ6 := kzq HZ5 hch.out.size
  have Hd6 := kcq Hd5 hch (by have h7 := HWL.out; omega)
  have Hx6 := kcq Hx5 hch (by have h7 := HWL.out; omega)
  have Sl6 := Lib.hid (Sl5.out.stay (fun b hb => hch.out.2 b (Sl5.out.lt b hb) (by have h1 := Sl5.out.block_ge b hb; have h7 := HWL.out; omega)))
  clear hch Hd5 Hx5 Hr5 Sl5 HB5 HZ5
  refine wpList_store_mid rfl 31 (.tmp 4) (.tmp 27) rfl (w.heap.size + 1 + 1) 0 #[.int .i64 me, .int .i64 far, .slice (some ⟨gl, 0, none⟩) n c1, .slice po no co] rfl rfl HTH.out (infoDC rfl) (all_oneCell_toArray (by intro u hu; simp at hu; rcases hu with rfl | rfl | rfl | rfl <;> rfl)) ?_
  generalize (WS.setCells (w.heap.size + 1 + 1) 0 (#[.int .i64 me, .int .i64 far, .slice (some ⟨gl, 0, none⟩) n c1, .slice po no co] : Array Value).toList) = WE at *
  clear HTH
  go_wp2_with fail
  have hfr := Hr6.out
  refine bodyPost_ret (v := .agg #[.int .i64 me, .int .i64 far, .slice (some ⟨gl, 0, none⟩) n c1, .slice po no co]) (by simp [results, Try.results18, go_sem, hfr.cell 0, hfr.cell 1, hfr.cell 2, hfr.cell 3]) rfl ⟨_, (some ⟨gl, 0, none⟩), n, c1, HAT.out, rfl, by rw [HFL.out]; exact Sl6.out.less (by have h7 := HWL.out; omega), by rw [HFL.out]; exact HNL.out.symm, HB6.out⟩
end Go.Proofs.Ytmhocihajobkkaa
namespace Go.Proofs.Ytmhocihajobkkaa
open Go.RowKit
def NotIn (gs : List Nat) (b : Nat) : Prop := b ∉ gs
theorem notIn_self {gs : List Nat} {g : Nat} (h : g ∈ gs) : ¬ NotIn gs g := fun hn => hn h
/-- A row in blocks of Q. -/
def RwN {α : Type} (e : Enc α) (Q : Nat → Prop) (w : World) (v : Value) (xs : List α) : Prop := TRow e w v xs ∧ At Q v xs.length
section
variable {α : Type} {e : Enc α} {Q : Nat → Prop} {w w' : World} {v : Value} {xs : List α}
theorem RwN.kept (h : RwN e Q w v xs) (hb : Below w.heap.size w w') : RwN e Q w' v xs := ⟨h.1.kept hb, h.2⟩
theorem RwN.chg {g : Nat} (h : RwN e Q w v xs) (hc : Chg g w w') (hg : ¬ Q g) : RwN e Q w' v xs := ⟨h.1.keepP h.2 (KeepP.of_chg hc hg), h.2⟩
theorem RwN.nil_ (e : Enc α) (Q : Nat → Prop) (w : World) : RwN e Q w (.slice none 0 0) [] := ⟨TRow.nil_ e w, fun _ _ _ _ h => by cases h⟩
theorem RwN.lt (h : RwN e Q w v xs) : At (fun b => b < w.heap.size ∧ Q b) v xs.length := by
 rintro b o n c rfl hn
 exact ⟨h.1.lt_ hn, h.2 b o n c rfl hn⟩
theorem RwN.imp {R : Nat → Prop} (h : RwN e Q w v xs) (hq : ∀ b, b < w.heap.size → Q b → R b) : RwN e R w v xs := by
 refine ⟨h.1, ?_⟩
 rintro b o n c rfl hn
 have h2 := h.lt b o n c rfl hn
 exact hq b h2.1 h2.2
theorem OwnT.rwN {base : Nat} {ty : TypeId} (h : OwnT e w base ty v xs) (hq : ∀ b, base ≤ b → Q b) : RwN e Q w v xs := ⟨h.row, by
 rintro b o n c rfl hn
 exact hq b (h.block_ge b rfl)⟩
end
end Go.Proofs.Ytmhocihajobkkaa
namespace Go.Proofs.Ytmhocihajobkkaa
open Go.RowKit
def inB (n a b : Int) : Bool := decide (a ≤ n ∧ n ≤ b)
theorem inB_no {n a b : Int} (h : inB n a b = false) : ¬ (a ≤ n ∧ n ≤ b) := decide_eq_false_iff_not.1 h
theorem inB_yes {n a b : Int} (h : inB n a b = true) : a ≤ n ∧ n ≤ b := of_decide_eq_true h
theorem retB {a b : Bool} (h : a = b) : Ending.returned (.bool a) = .returned (.bool b) := by rw [h]
theorem retD {p : Prop} [Decidable p] (h : p) : Ending.returned (.bool true) = .returned (.bool (decide p)) := retB (decide_eq_true h).symm
theorem retN {p : Prop} [Decidable p] (h : ¬ p) : Ending.returned (.bool false) = .returned (.bool (decide p)) := retB (decide_eq_false h).symm
theorem within_any (n a b : Int) (w : World) : Calls Try.prog 63 #[.int .i64 n, .int .i64 a, .int .i64 b] w fun e w' => e = .returned (.bool (inB n a b)) ∧ w = w' := by
 go_enter Try.func63, Try.ntmps63
 go_wp2
 all_goals
  go_ret
  exact ⟨retB (by unfold inB; simp; omega), rfl⟩
theorem payable_any (n : Int) (w : World) : Calls Try.prog 64 #[.int .i64 n] w fun e w' => e = .returned (.bool (inB n 1 1125899906842624)) ∧ w = w' := by
 go_enter Try.func64, Try.ntmps64
 go_wp2
 all_goals
  go_ret
  exact ⟨retB (by unfold inB; simp; omega), rfl⟩
theorem parties_any (x : Itm) (w : World) : Calls Try.prog 42 #[x.v] w fun e w' => e = .returned (.bool (decide (partsOk x))) ∧ Below w.heap.size w w' := by
 have HB := Lib.hid (oneB w (.cells x.v.cells 54))
 unfold Itm.v at *
 simp only [Value.cells] at HB
 go_enter Try.func42, Try.ntmps42
 go_wp2_with fail
 refine (within_any _ _ _ _).mono ?_
 rintro y w1 ⟨rfl, rfl⟩
 cases h0 : inB x.s 0 7
 ·go_wp2_with fail
  go_ret
  exact ⟨retN (by have g := inB_no h0; unfold partsOk; omega), HB.out⟩
 ·skip
  go_wp2_with fail
  refine (within_any _ _ _ _).mono ?_
  rintro y w1 ⟨rfl, rfl⟩
  cases h1 : inB x.b 0 7
  ·go_wp2_with fail
   go_ret
   exact ⟨retN (by have g := inB_no h1; unfold partsOk; omega), HB.out⟩
  ·skip
   have g0 := inB_yes h0; have g1 := inB_yes h1
   clear h0 h1
   go_wp2_with fail
   go_ret
   exact ⟨retB (a := x.s != x.b) (b := decide (partsOk x)) (by rw [Bool.eq_iff_iff, bne_iff_ne, decide_eq_true_iff]; exact ⟨fun h => ⟨g0, g1, h⟩, fun h => h.2.2⟩), HB.out⟩
theorem numbers_any (x : Itm) (w : World) : Calls Try.prog 43 #[x.v] w fun e w' => e = .returned (.bool (decide (numsOk x))) ∧ Below w.heap.size w w' := by
 have HB := Lib.hid (oneB w (.cells x.v.cells 54))
 unfold Itm.v at *
 simp only [Value.cells] at HB
 go_enter Try.func43, Try.ntmps43
 go_wp2_with fail
 refine (within_any _ _ _ _).mono ?_
 rintro y w1 ⟨rfl, rfl⟩
 cases h0 : inB x.n 1 1048576
 ·go_wp2_with fail
  go_ret
  exact ⟨retN (by have g := inB_no h0; unfold numsOk; omega), HB.out⟩
 ·skip
  go_wp2_with fail
  refine (within_any _ _ _ _).mono ?_
  rintro y w1 ⟨rfl, rfl⟩
  cases h1 : inB x.c 0 7
  ·go_wp2_with fail
   go_ret
   exact ⟨retN (by have g := inB_no h1; unfold numsOk; omega), HB.out⟩
  ·skip
   go_wp2_with fail
   refine (payable_any _ _).mono ?_
   rintro y w1 ⟨rfl, rfl⟩
   cases h2 : inB x.a 1 1125899906842624
   ·go_wp2_with fail
    go_ret
    exact ⟨retN (by have g := inB_no h2; unfold numsOk; omega), HB.out⟩
   ·skip
    go_wp2_with fail
    refine (within_any _ _ _ _).mono ?_
    rintro y w1 ⟨rfl, rfl⟩
    cases h3 : inB x.r 0 3
    ·go_wp2_with fail
     go_ret
     exact ⟨retN (by have g := inB_no h3; unfold numsOk; omega), HB.out⟩
    ·skip
     go_wp2_with fail
     refine (within_any _ _ _ _).mono ?_
     rintro y w1 ⟨rfl, rfl⟩
     cases h4 : inB x.t 1 5
     ·go_wp2_with fail
      go_ret
      exact ⟨retN (by have g := inB_no h4; unfold numsOk; omega), HB.out⟩
     ·skip
      go_wp2_with fail
      refine (within_any _ _ _ _).mono ?_
      rintro y w1 ⟨rfl, rfl⟩
      cases h5 : inB x.y 0 1048576
      ·go_wp2_with fail
       go_ret
       exact ⟨retN (by have g := inB_no h5; unfold numsOk; omega), HB.out⟩
      ·skip
       have g0 := inB_yes h0; have g1 := inB_yes h1; have g2 := inB_yes h2; have g3 := inB_yes h3; have g4 := inB_yes h4; have g5 := inB_yes h5
       go_wp2_with fail
       go_ret
       exact ⟨retD (by unfold numsOk; omega), HB.out⟩
end Go.Proofs.Ytmhocihajobkkaa
namespace Go.Proofs.Ytmhocihajobkkaa
open Go.RowKit
theorem retI {a b : Int} (h : a = b) : Ending.returned (.int .i64 a) = .returned (.int .i64 b) := by rw [h]
theorem itemB (x : Itm) (w : World) : Below w.heap.size w (w.alloc (.cells #[.int .i64 x.s, .int .i64 x.n, .int .i64 x.b, .int .i64 x.c, .int .i64 x.a, .int .i64 x.r, .int .i64 x.t, .int .i64 x.y] 54)) := oneB w _
theorem itemK (x : Itm) (w : World) : Blk (w.alloc (.cells #[.int .i64 x.s, .int .i64 x.n, .int .i64 x.b, .int .i64 x.c, .int .i64 x.a, .int .i64 x.r, .int .i64 x.t, .int .i64 x.y] 54)) w.heap.size #[.int .i64 x.s, .int .i64 x.n, .int .i64 x.b, .int .i64 x.c, .int .i64 x.a, .int .i64 x.r, .int .i64 x.t, .int .i64 x.y] 54 := Blk.new w _ _
set_option linter.unusedSimpArgs false in
set_option maxHeartbeats 1000000 in
theorem check_any (x : Itm) (w : World) : Calls Try.prog 27 #[x.v] w fun e w' => e = .returned (.int .i64 (chkI x)) ∧ Below w.heap.size w w' := by
 have HP := Lib.hid (fun w => parties_any x w)
 have HN := Lib.hid (fun w => numbers_any x w)
 have HB := Lib.hid (itemB x w)
 have HK := Lib.hid (itemK x w)
 unfold Itm.v at *
 by_cases hp : partsOk x
 ·rw [decide_eq_true hp] at HP
  by_cases hn : numsOk x
  ·rw [decide_eq_true hn] at HN
   have HC : Hid (chkI x = if cycBad x then 90 else 0) := by show _ = _; unfold chkI; rw [if_pos ⟨hp, hn⟩]
   clear hp hn
   go_enter Try.func27, Try.ntmps27
   go_wp2_with fail
   refine (HP.out _).mono ?_
   rintro y w1 ⟨rfl, hb1⟩
   have hk1 := HK.out.below hb1 HK.out.lt
   have HB1 := ktq HB hb1
   have HK1 := Lib.hid hk1
   have c0 : w1.cell? ⟨w.heap.size, 0, none⟩ = some (.int .i64 x.s) := hk1.cell 0
   have c1 : w1.cell? ⟨w.heap.size, 1, none⟩ = some (.int .i64 x.n) := hk1.cell 1
   have c2 : w1.cell? ⟨w.heap.size, 2, none⟩ = some (.int .i64 x.b) := hk1.cell 2
   have c3 : w1.cell? ⟨w.heap.size, 3, none⟩ = some (.int .i64 x.c) := hk1.cell 3
   have c4 : w1.cell? ⟨w.heap.size, 4, none⟩ = some (.int .i64 x.a) := hk1.cell 4
   have c5 : w1.cell? ⟨w.heap.size, 5, none⟩ = some (.int .i64 x.r) := hk1.cell 5
   have c6 : w1.cell? ⟨w.heap.size, 6, none⟩ = some (.int .i64 x.t) := hk1.cell 6
   have c7 : w1.cell? ⟨w.heap.size, 7, none⟩ = some (.int .i64 x.y) := hk1.cell 7
   clear hb1 hk1
   go_wp2_with fail
   refine (HN.out _).mono ?_
   rintro y w2 ⟨rfl, hb2⟩
   have hk2 := HK1.out.below hb2 HK1.out.lt
   have HB2 := ktq HB1 hb2
   have d6 : w2.cell? ⟨w.heap.size, 6, none⟩ = some (.int .i64 x.t) := hk2.cell 6
   have d7 : w2.cell? ⟨w.heap.size, 7, none⟩ = some (.int .i64 x.y) := hk2.cell 7
   clear hb2 hk2 c0 c1 c2 c3 c4 c5 c6 c7
   go_wp2
   all_goals
    go_ret
    refine ⟨retI ?_, HB2.out⟩
    rw [HC.out]
    clear HP HN HB HK HK1 d6 d7
    try simp only [beq_iff_eq, beq_eq_false_iff_ne, bne_iff_ne, bne_eq_false_iff_eq, ne_eq] at *
    by_cases hc : cycBad x
    ·rw [if_pos hc]; all_goals (exfalso; unfold cycBad at hc; omega)
    ·rw [if_neg hc]; all_goals (exfalso; unfold cycBad at hc; omega)
  ·rw [decide_eq_false hn] at HN
   have HC : Hid (chkI x = 1) := by show _ = _; unfold chkI; rw [if_neg (fun h => hn h.2)]
   clear hp hn
   go_enter Try.func27, Try.ntmps27
   go_wp2_with fail
   refine (HP.out _).mono ?_
   rintro y w1 ⟨rfl, hb1⟩
   have hk1 := HK.out.below hb1 HK.out.lt
   have HB1 := ktq HB hb1
   have c0 : w1.cell? ⟨w.heap.size, 0, none⟩ = some (.int .i64 x.s) := hk1.cell 0
   have c1 : w1.cell? ⟨w.heap.size, 1, none⟩ = some (.int .i64 x.n) := hk1.cell 1
   have c2 : w1.cell? ⟨w.heap.size, 2, none⟩ = some (.int .i64 x.b) := hk1.cell 2
   have c3 : w1.cell? ⟨w.heap.size, 3, none⟩ = some (.int .i64 x.c) := hk1.cell 3
   have c4 : w1.cell? ⟨w.heap.size, 4, none⟩ = some (.int .i64 x.a) := hk1.cell 4
   have c5 : w1.cell? ⟨w.heap.size, 5, none⟩ = some (.int .i64 x.r) := hk1.cell 5
   have c6 : w1.cell? ⟨w.heap.size, 6, none⟩ = some (.int .i64 x.t) := hk1.cell 6
   have c7 : w1.cell? ⟨w.heap.size, 7, none⟩ = some (.int .i64 x.y) := hk1.cell 7
   clear hb1 hk1
   go_wp2_with fail
   refine (HN.out _).mono ?_
   rintro y w2 ⟨rfl, hb2⟩
   have HB2 := ktq HB1 hb2
   clear hb2 c0 c1 c2 c3 c4 c5 c6 c7
   go_wp2
   go_ret
   exact ⟨retI HC.out.symm, HB2.out⟩
 ·rw [decide_eq_false hp] at HP
  have HC : Hid (chkI x = 1) := by show _ = _; unfold chkI; rw [if_neg (fun h => hp h.1)]
  clear hp
  go_enter Try.func27, Try.ntmps27
  go_wp2_with fail
  refine (HP.out _).mono ?_
  rintro y w1 ⟨rfl, hb1⟩
  have HB1 := ktq HB hb1
  clear hb1
  go_wp2
  go_ret
  exact ⟨retI HC.out.symm, HB1.out⟩
end Go.Proofs.Ytmhocihajobkkaa
namespace Go.Proofs.Ytmhocihajobkkaa
open Go.RowKit
theorem ne8 {q x : Itm} (h : q ≠ x) : q.s = x.s → q.n = x.n → q.b = x.b → q.c = x.c → q.a = x.a → q.r = x.r → q.t = x.t → ¬ q.y = x.y := fun h1 h2 h3 h4 h5 h6 h7 h8 => h (by cases q; cases x; simp_all)

set_option linter.unusedSimpArgs false in
set_option maxHeartbeats 4000000 in
set_option maxRecDepth 100000 in
theorem put_chk (w : World) (me : Int) (pi po : Option Addr) (ni ci no co : Nat) (x : Itm) (h : chkI x ≠ 0) :
  Calls Try.prog 17 #[bookV me (.slice pi ni ci) (.slice po no co), x.v] w fun e w' => e = .returned (.tuple #[.agg #[.int .i64 me, .slice pi ni ci, .slice po no co], .int .i64 (chkI x)]) ∧ Below w.heap.size w w' := by
 have HCK := Lib.hid (fun (W : World) => check_any x W)
 have heb : (chkI x != 0) = true := by simpa using h
 clear h
 generalize chkI x = ce at *
 unfold Itm.v bookV at *
 go_enter Try.func17, Try.ntmps17
 go_wp2_with fail
 generalize hW1 : ((w.alloc (.cells #[.int .i64 me, .slice pi ni ci, .slice po no co] 28)).alloc (.cells #[.int .i64 x.s, .int .i64 x.n, .int .i64 x.b, .int .i64 x.c, .int .i64 x.a, .int .i64 x.r, .int .i64 x.t, .int .i64 x.y] 54)).alloc (.cells #[.int .i64 0, .slice none 0 0, .slice none 0 0] 28) = W1
 have HB1 : Hid (Below w.heap.size w W1) := by show Below _ _ _; rw [← hW1]; exact ((oneB w _).alloc (by simp) _).alloc (by simp <;> omega) _
 have HK1 : Hid (Blk W1 w.heap.size #[.int .i64 me, .slice pi ni ci, .slice po no co] 28) := by show Blk _ _ _ _; rw [← hW1]; exact ((Blk.new w _ _).alloc _).alloc _
 have HX1 : Hid (Blk W1 (w.heap.size + 1) #[.int .i64 x.s, .int .i64 x.n, .int .i64 x.b, .int .i64 x.c, .int .i64 x.a, .int .i64 x.r, .int .i64 x.t, .int .i64 x.y] 54) := by show Blk _ _ _ _; rw [← hW1]; exact (Blk.new' _ _ _ (by simp)).alloc _
 have HR1 : Hid (Blk W1 (w.heap.size + 1 + 1) #[.int .i64 0, .slice none 0 0, .slice none 0 0] 28) := by show Blk _ _ _ _; rw [← hW1]; exact Blk.new' _ _ _ (by simp)
 clear hW1
 refine (HCK.out _).mono ?_
 rintro y w2 ⟨rfl, hb2⟩
 have HK2 := kbq HK1 hb2
 have HX2 := kbq HX1 hb2
 have HR2 := kbq HR1 hb2
 have HB2 := ktq HB1 hb2
 clear HCK hb2 HK1 HX1 HR1
 have b0 : w2.cell? ⟨w.heap.size, 0, none⟩ = some (.int .i64 me) := HK2.out.cell 0
 have b1 : w2.cell? ⟨w.heap.size, 1, none⟩ = some (.slice pi ni ci) := HK2.out.cell 1
 have b2 : w2.cell? ⟨w.heap.size, 2, none⟩ = some (.slice po no co) := HK2.out.cell 2
 have x0 : w2.cell? ⟨w.heap.size + 1, 0, none⟩ = some (.int .i64 x.s) := HX2.out.cell 0
 have x1 : w2.cell? ⟨w.heap.size + 1, 1, none⟩ = some (.int .i64 x.n) := HX2.out.cell 1
 have x2 : w2.cell? ⟨w.heap.size + 1, 2, none⟩ = some (.int .i64 x.b) := HX2.out.cell 2
 have x3 : w2.cell? ⟨w.heap.size + 1, 3, none⟩ = some (.int .i64 x.c) := HX2.out.cell 3
 have x4 : w2.cell? ⟨w.heap.size + 1, 4, none⟩ = some (.int .i64 x.a) := HX2.out.cell 4
 have x5 : w2.cell? ⟨w.heap.size + 1, 5, none⟩ = some (.int .i64 x.r) := HX2.out.cell 5
 have x6 : w2.cell? ⟨w.heap.size + 1, 6, none⟩ = some (.int .i64 x.t) := HX2.out.cell 6
 have x7 : w2.cell? ⟨w.heap.size + 1, 7, none⟩ = some (.int .i64 x.y) := HX2.out.cell 7
 have r0 : w2.cell? ⟨w.heap.size + 1 + 1, 0, none⟩ = some (.int .i64 0) := HR2.out.cell 0
 have r1 : w2.cell? ⟨w.heap.size + 1 + 1, 1, none⟩ = some (.slice none 0 0) := HR2.out.cell 1
 have r2 : w2.cell? ⟨w.heap.size + 1 + 1, 2, none⟩ = some (.slice none 0 0) := HR2.out.cell 2
 have fr0 := HR2.out.free 0
 have fr1 := HR2.out.free 1
 have fr2 := HR2.out.free 2
 go_wp2_with fail
 have hf := ((HR2.out.set 0 (.int .i64 me)).set 1 (.slice pi ni ci)).set 2 (.slice po no co)
 have hB := HB2.out.setCell (p := ⟨w.heap.size + 1 + 1, 0, none⟩) (by show w.heap.size ≤ w.heap.size + 1 + 1; omega) (.int .i64 me) |>.setCell (p := ⟨w.heap.size + 1 + 1, 1, none⟩) (by show w.heap.size ≤ w.heap.size + 1 + 1; omega) (.slice pi ni ci) |>.setCell (p := ⟨w.heap.size + 1 + 1, 2, none⟩) (by show w.heap.size ≤ w.heap.size + 1 + 1; omega) (.slice po no co)
 refine bodyPost_ret (v := .tuple #[.agg #[.int .i64 me, .slice pi ni ci, .slice po no co], .int .i64 ce]) (by simp [results, Try.results17, go_sem, hf.cell 0, hf.cell 1, hf.cell 2]) rfl ⟨rfl, hB⟩
set_option linter.unusedSimpArgs false in
set_option maxHeartbeats 4000000 in
set_option maxRecDepth 100000 in
theorem put_other (w : World) (me : Int) (pi po : Option Addr) (ni ci no co : Nat) (x : Itm) (h : chkI x = 0) (h1 : x.s ≠ me) (h2 : x.b ≠ me) :
  Calls Try.prog 17 #[bookV me (.slice pi ni ci) (.slice po no co), x.v] w fun e w' => e = .returned (.tuple #[.agg #[.int .i64 me, .slice pi ni ci, .slice po no co], .int .i64 140]) ∧ Below w.heap.size w w' := by
 have HCK := Lib.hid (fun (W : World) => check_any x W)
 have e1 : (x.s != me) = true := by simpa using h1
 have e2 : (x.b != me) = true := by simpa using h2
 rw [h] at HCK
 clear h h1 h2
 unfold Itm.v bookV at *
 go_enter Try.func17, Try.ntmps17
 go_wp2_with fail
 generalize hW1 : ((w.alloc (.cells #[.int .i64 me, .slice pi ni ci, .slice po no co] 28)).alloc (.cells #[.int .i64 x.s, .int .i64 x.n, .int .i64 x.b, .int .i64 x.c, .int .i64 x.a, .int .i64 x.r, .int .i64 x.t, .int .i64 x.y] 54)).alloc (.cells #[.int .i64 0, .slice none 0 0, .slice none 0 0] 28) = W1
 have HB1 : Hid (Below w.heap.size w W1) := by show Below _ _ _; rw [← hW1]; exact ((oneB w _).alloc (by simp) _).alloc (by simp <;> omega) _
 have HK1 : Hid (Blk W1 w.heap.size #[.int .i64 me, .slice pi ni ci, .slice po no co] 28) := by show Blk _ _ _ _; rw [← hW1]; exact ((Blk.new w _ _).alloc _).alloc _
 have HX1 : Hid (Blk W1 (w.heap.size + 1) #[.int .i64 x.s, .int .i64 x.n, .int .i64 x.b, .int .i64 x.c, .int .i64 x.a, .int .i64 x.r, .int .i64 x.t, .int .i64 x.y] 54) := by show Blk _ _ _ _; rw [← hW1]; exact (Blk.new' _ _ _ (by simp)).alloc _
 have HR1 : Hid (Blk W1 (w.heap.size + 1 + 1) #[.int .i64 0, .slice none 0 0, .slice none 0 0] 28) := by show Blk _ _ _ _; rw [← hW1]; exact Blk.new' _ _ _ (by simp)
 clear hW1
 refine (HCK.out _).mono ?_
 rintro y w2 ⟨rfl, hb2⟩
 have HK2 := kbq HK1 hb2
 have HX2 := kbq HX1 hb2
 have HR2 := kbq HR1 hb2
 have HB2 := ktq HB1 hb2
 clear HCK hb2 HK1 HX1 HR1
 have b0 : w2.cell? ⟨w.heap.size, 0, none⟩ = some (.int .i64 me) := HK2.out.cell 0
 have b1 : w2.cell? ⟨w.heap.size, 1, none⟩ = some (.slice pi ni ci) := HK2.out.cell 1
 have b2 : w2.cell? ⟨w.heap.size, 2, none⟩ = some (.slice po no co) := HK2.out.cell 2
 have x0 : w2.cell? ⟨w.heap.size + 1, 0, none⟩ = some (.int .i64 x.s) := HX2.out.cell 0
 have x1 : w2.cell? ⟨w.heap.size + 1, 1, none⟩ = some (.int .i64 x.n) := HX2.out.cell 1
 have x2 : w2.cell? ⟨w.heap.size + 1, 2, none⟩ = some (.int .i64 x.b) := HX2.out.cell 2
 have x3 : w2.cell? ⟨w.heap.size + 1, 3, none⟩ = some (.int .i64 x.c) := HX2.out.cell 3
 have x4 : w2.cell? ⟨w.heap.size + 1, 4, none⟩ = some (.int .i64 x.a) := HX2.out.cell 4
 have x5 : w2.cell? ⟨w.heap.size + 1, 5, none⟩ = some (.int .i64 x.r) := HX2.out.cell 5
 have x6 : w2.cell? ⟨w.heap.size + 1, 6, none⟩ = some (.int .i64 x.t) := HX2.out.cell 6
 have x7 : w2.cell? ⟨w.heap.size + 1, 7, none⟩ = some (.int .i64 x.y) := HX2.out.cell 7
 have r0 : w2.cell? ⟨w.heap.size + 1 + 1, 0, none⟩ = some (.int .i64 0) := HR2.out.cell 0
 have r1 : w2.cell? ⟨w.heap.size + 1 + 1, 1, none⟩ = some (.slice none 0 0) := HR2.out.cell 1
 have r2 : w2.cell? ⟨w.heap.size + 1 + 1, 2, none⟩ = some (.slice none 0 0) := HR2.out.cell 2
 have fr0 := HR2.out.free 0
 have fr1 := HR2.out.free 1
 have fr2 := HR2.out.free 2
 go_wp2_with fail
 have hf := ((HR2.out.set 0 (.int .i64 me)).set 1 (.slice pi ni ci)).set 2 (.slice po no co)
 have hB := HB2.out.setCell (p := ⟨w.heap.size + 1 + 1, 0, none⟩) (by show w.heap.size ≤ w.heap.size + 1 + 1; omega) (.int .i64 me) |>.setCell (p := ⟨w.heap.size + 1 + 1, 1, none⟩) (by show w.heap.size ≤ w.heap.size + 1 + 1; omega) (.slice pi ni ci) |>.setCell (p := ⟨w.heap.size + 1 + 1, 2, none⟩) (by show w.heap.size ≤ w.heap.size + 1 + 1; omega) (.slice po no co)
 refine bodyPost_ret (v := .tuple #[.agg #[.int .i64 me, .slice pi ni ci, .slice po no co], .int .i64 140]) (by simp [results, Try.results17, go_sem, hf.cell 0, hf.cell 1, hf.cell 2]) rfl ⟨rfl, hB⟩
set_option linter.unusedSimpArgs false in
set_option maxHeartbeats 4000000 in
set_option maxRecDepth 100000 in
theorem put_full (w : World) (me : Int) (pi po : Option Addr) (ni ci no co : Nat) (x : Itm) (xs A B : List Itm) (hr : TRow encI w (.slice pi ni ci) xs) (hl : xs.length = ni) (hA : AroundF posI ⟨x.s, x.n, 0⟩ xs A [] B) (hn : ni ≤ 1024) (h : chkI x = 0) (h1 : x.s = me ∨ x.b = me) (h3 : 1024 ≤ ni) :
  Calls Try.prog 17 #[bookV me (.slice pi ni ci) (.slice po no co), x.v] w fun e w' => e = .returned (.tuple #[.agg #[.int .i64 me, .slice pi ni ci, .slice po no co], .int .i64 3]) ∧ Below w.heap.size w w' := by
 have HCK := Lib.hid (fun (W : World) => check_any x W)
 rw [h] at HCK
 have HF := Lib.hid (fun (W : World) (hb : Below w.heap.size w W) => findI_any W me (.slice pi ni ci) (.slice po no co) xs A [] B x.s x.n (hr.kept hb) hA (by omega))
 rw [show decide (([] : List Itm) ≠ []) = false by simp] at HF
 unfold idV at HF
 have H1 := Lib.hid h1
 have h3i : (1024 : Int) ≤ (ni : Int) := by omega
 clear h3 hr hl hA hn
 clear h h1
 unfold Itm.v bookV at *
 go_enter Try.func17, Try.ntmps17
 go_wp2_with fail
 generalize hW1 : ((w.alloc (.cells #[.int .i64 me, .slice pi ni ci, .slice po no co] 28)).alloc (.cells #[.int .i64 x.s, .int .i64 x.n, .int .i64 x.b, .int .i64 x.c, .int .i64 x.a, .int .i64 x.r, .int .i64 x.t, .int .i64 x.y] 54)).alloc (.cells #[.int .i64 0, .slice none 0 0, .slice none 0 0] 28) = W1
 have HB1 : Hid (Below w.heap.size w W1) := by show Below _ _ _; rw [← hW1]; exact ((oneB w _).alloc (by simp) _).alloc (by simp <;> omega) _
 have HK1 : Hid (Blk W1 w.heap.size #[.int .i64 me, .slice pi ni ci, .slice po no co] 28) := by show Blk _ _ _ _; rw [← hW1]; exact ((Blk.new w _ _).alloc _).alloc _
 have HX1 : Hid (Blk W1 (w.heap.size + 1) #[.int .i64 x.s, .int .i64 x.n, .int .i64 x.b, .int .i64 x.c, .int .i64 x.a, .int .i64 x.r, .int .i64 x.t, .int .i64 x.y] 54) := by show Blk _ _ _ _; rw [← hW1]; exact (Blk.new' _ _ _ (by simp)).alloc _
 have HR1 : Hid (Blk W1 (w.heap.size + 1 + 1) #[.int .i64 0, .slice none 0 0, .slice none 0 0] 28) := by show Blk _ _ _ _; rw [← hW1]; exact Blk.new' _ _ _ (by simp)
 clear hW1
 refine (HCK.out _).mono ?_
 rintro y w2 ⟨rfl, hb2⟩
 have HK2 := kbq HK1 hb2
 have HX2 := kbq HX1 hb2
 have HR2 := kbq HR1 hb2
 have HB2 := ktq HB1 hb2
 clear HCK hb2 HK1 HX1 HR1
 rcases (show x.s = me ∨ (x.s ≠ me ∧ x.b = me) by rcases H1.out with h | h; exact .inl h; by_cases g : x.s = me; exact .inl g; exact .inr ⟨g, h⟩) with g | ⟨g, g2⟩
 ·skip
  have e1 : (x.s != me) = false := by simpa using g
  clear g
  have b0 : w2.cell? ⟨w.heap.size, 0, none⟩ = some (.int .i64 me) := HK2.out.cell 0
  have b1 : w2.cell? ⟨w.heap.size, 1, none⟩ = some (.slice pi ni ci) := HK2.out.cell 1
  have b2 : w2.cell? ⟨w.heap.size, 2, none⟩ = some (.slice po no co) := HK2.out.cell 2
  have x0 : w2.cell? ⟨w.heap.size + 1, 0, none⟩ = some (.int .i64 x.s) := HX2.out.cell 0
  have x1 : w2.cell? ⟨w.heap.size + 1, 1, none⟩ = some (.int .i64 x.n) := HX2.out.cell 1
  have x2 : w2.cell? ⟨w.heap.size + 1, 2, none⟩ = some (.int .i64 x.b) := HX2.out.cell 2
  have x3 : w2.cell? ⟨w.heap.size + 1, 3, none⟩ = some (.int .i64 x.c) := HX2.out.cell 3
  have x4 : w2.cell? ⟨w.heap.size + 1, 4, none⟩ = some (.int .i64 x.a) := HX2.out.cell 4
  have x5 : w2.cell? ⟨w.heap.size + 1, 5, none⟩ = some (.int .i64 x.r) := HX2.out.cell 5
  have x6 : w2.cell? ⟨w.heap.size + 1, 6, none⟩ = some (.int .i64 x.t) := HX2.out.cell 6
  have x7 : w2.cell? ⟨w.heap.size + 1, 7, none⟩ = some (.int .i64 x.y) := HX2.out.cell 7
  have r0 : w2.cell? ⟨w.heap.size + 1 + 1, 0, none⟩ = some (.int .i64 0) := HR2.out.cell 0
  have r1 : w2.cell? ⟨w.heap.size + 1 + 1, 1, none⟩ = some (.slice none 0 0) := HR2.out.cell 1
  have r2 : w2.cell? ⟨w.heap.size + 1 + 1, 2, none⟩ = some (.slice none 0 0) := HR2.out.cell 2
  have fr0 := HR2.out.free 0
  have fr1 := HR2.out.free 1
  have fr2 := HR2.out.free 2
  go_wp2_with fail
  refine (HF.out _ HB2.out).mono ?_
  rintro y w3 ⟨rfl, hb3⟩
  have HK3 := kbq HK2 hb3
  have HX3 := kbq HX2 hb3
  have HR3 := kbq HR2 hb3
  have HB3 := ktq HB2 hb3
  clear HF hb3 HK2 HX2 HR2 b0 b1 b2 x0 x1 x2 x3 x4 x5 x6 x7 r0 r1 r2 fr0 fr1 fr2
  have b0 : w3.cell? ⟨w.heap.size, 0, none⟩ = some (.int .i64 me) := HK3.out.cell 0
  have b1 : w3.cell? ⟨w.heap.size, 1, none⟩ = some (.slice pi ni ci) := HK3.out.cell 1
  have b2 : w3.cell? ⟨w.heap.size, 2, none⟩ = some (.slice po no co) := HK3.out.cell 2
  have x0 : w3.cell? ⟨w.heap.size + 1, 0, none⟩ = some (.int .i64 x.s) := HX3.out.cell 0
  have x1 : w3.cell? ⟨w.heap.size + 1, 1, none⟩ = some (.int .i64 x.n) := HX3.out.cell 1
  have x2 : w3.cell? ⟨w.heap.size + 1, 2, none⟩ = some (.int .i64 x.b) := HX3.out.cell 2
  have x3 : w3.cell? ⟨w.heap.size + 1, 3, none⟩ = some (.int .i64 x.c) := HX3.out.cell 3
  have x4 : w3.cell? ⟨w.heap.size + 1, 4, none⟩ = some (.int .i64 x.a) := HX3.out.cell 4
  have x5 : w3.cell? ⟨w.heap.size + 1, 5, none⟩ = some (.int .i64 x.r) := HX3.out.cell 5
  have x6 : w3.cell? ⟨w.heap.size + 1, 6, none⟩ = some (.int .i64 x.t) := HX3.out.cell 6
  have x7 : w3.cell? ⟨w.heap.size + 1, 7, none⟩ = some (.int .i64 x.y) := HX3.out.cell 7
  have r0 : w3.cell? ⟨w.heap.size + 1 + 1, 0, none⟩ = some (.int .i64 0) := HR3.out.cell 0
  have r1 : w3.cell? ⟨w.heap.size + 1 + 1, 1, none⟩ = some (.slice none 0 0) := HR3.out.cell 1
  have r2 : w3.cell? ⟨w.heap.size + 1 + 1, 2, none⟩ = some (.slice none 0 0) := HR3.out.cell 2
  have fr0 := HR3.out.free 0
  have fr1 := HR3.out.free 1
  have fr2 := HR3.out.free 2
  go_wp2_with fail
  have hf := ((HR3.out.set 0 (.int .i64 me)).set 1 (.slice pi ni ci)).set 2 (.slice po no co)
  have hB := HB3.out.setCell (p := ⟨w.heap.size + 1 + 1, 0, none⟩) (by show w.heap.size ≤ w.heap.size + 1 + 1; omega) (.int .i64 me) |>.setCell (p := ⟨w.heap.size + 1 + 1, 1, none⟩) (by show w.heap.size ≤ w.heap.size + 1 + 1; omega) (.slice pi ni ci) |>.setCell (p := ⟨w.heap.size + 1 + 1, 2, none⟩) (by show w.heap.size ≤ w.heap.size + 1 + 1; omega) (.slice po no co)
  refine bodyPost_ret (v := .tuple #[.agg #[.int .i64 me, .slice pi ni ci, .slice po no co], .int .i64 3]) (by simp [results, Try.results17, go_sem, hf.cell 0, hf.cell 1, hf.cell 2]) rfl ⟨rfl, hB⟩
 ·skip
  have e1 : (x.s != me) = true := by simpa using g
  have e2 : (x.b != me) = false := by simpa using g2
  clear g2
  clear g
  have b0 : w2.cell? ⟨w.heap.size, 0, none⟩ = some (.int .i64 me) := HK2.out.cell 0
  have b1 : w2.cell? ⟨w.heap.size, 1, none⟩ = some (.slice pi ni ci) := HK2.out.cell 1
  have b2 : w2.cell? ⟨w.heap.size, 2, none⟩ = some (.slice po no co) := HK2.out.cell 2
  have x0 : w2.cell? ⟨w.heap.size + 1, 0, none⟩ = some (.int .i64 x.s) := HX2.out.cell 0
  have x1 : w2.cell? ⟨w.heap.size + 1, 1, none⟩ = some (.int .i64 x.n) := HX2.out.cell 1
  have x2 : w2.cell? ⟨w.heap.size + 1, 2, none⟩ = some (.int .i64 x.b) := HX2.out.cell 2
  have x3 : w2.cell? ⟨w.heap.size + 1, 3, none⟩ = some (.int .i64 x.c) := HX2.out.cell 3
  have x4 : w2.cell? ⟨w.heap.size + 1, 4, none⟩ = some (.int .i64 x.a) := HX2.out.cell 4
  have x5 : w2.cell? ⟨w.heap.size + 1, 5, none⟩ = some (.int .i64 x.r) := HX2.out.cell 5
  have x6 : w2.cell? ⟨w.heap.size + 1, 6, none⟩ = some (.int .i64 x.t) := HX2.out.cell 6
  have x7 : w2.cell? ⟨w.heap.size + 1, 7, none⟩ = some (.int .i64 x.y) := HX2.out.cell 7
  have r0 : w2.cell? ⟨w.heap.size + 1 + 1, 0, none⟩ = some (.int .i64 0) := HR2.out.cell 0
  have r1 : w2.cell? ⟨w.heap.size + 1 + 1, 1, none⟩ = some (.slice none 0 0) := HR2.out.cell 1
  have r2 : w2.cell? ⟨w.heap.size + 1 + 1, 2, none⟩ = some (.slice none 0 0) := HR2.out.cell 2
  have fr0 := HR2.out.free 0
  have fr1 := HR2.out.free 1
  have fr2 := HR2.out.free 2
  go_wp2_with fail
  refine (HF.out _ HB2.out).mono ?_
  rintro y w3 ⟨rfl, hb3⟩
  have HK3 := kbq HK2 hb3
  have HX3 := kbq HX2 hb3
  have HR3 := kbq HR2 hb3
  have HB3 := ktq HB2 hb3
  clear HF hb3 HK2 HX2 HR2 b0 b1 b2 x0 x1 x2 x3 x4 x5 x6 x7 r0 r1 r2 fr0 fr1 fr2
  have b0 : w3.cell? ⟨w.heap.size, 0, none⟩ = some (.int .i64 me) := HK3.out.cell 0
  have b1 : w3.cell? ⟨w.heap.size, 1, none⟩ = some (.slice pi ni ci) := HK3.out.cell 1
  have b2 : w3.cell? ⟨w.heap.size, 2, none⟩ = some (.slice po no co) := HK3.out.cell 2
  have x0 : w3.cell? ⟨w.heap.size + 1, 0, none⟩ = some (.int .i64 x.s) := HX3.out.cell 0
  have x1 : w3.cell? ⟨w.heap.size + 1, 1, none⟩ = some (.int .i64 x.n) := HX3.out.cell 1
  have x2 : w3.cell? ⟨w.heap.size + 1, 2, none⟩ = some (.int .i64 x.b) := HX3.out.cell 2
  have x3 : w3.cell? ⟨w.heap.size + 1, 3, none⟩ = some (.int .i64 x.c) := HX3.out.cell 3
  have x4 : w3.cell? ⟨w.heap.size + 1, 4, none⟩ = some (.int .i64 x.a) := HX3.out.cell 4
  have x5 : w3.cell? ⟨w.heap.size + 1, 5, none⟩ = some (.int .i64 x.r) := HX3.out.cell 5
  have x6 : w3.cell? ⟨w.heap.size + 1, 6, none⟩ = some (.int .i64 x.t) := HX3.out.cell 6
  have x7 : w3.cell? ⟨w.heap.size + 1, 7, none⟩ = some (.int .i64 x.y) := HX3.out.cell 7
  have r0 : w3.cell? ⟨w.heap.size + 1 + 1, 0, none⟩ = some (.int .i64 0) := HR3.out.cell 0
  have r1 : w3.cell? ⟨w.heap.size + 1 + 1, 1, none⟩ = some (.slice none 0 0) := HR3.out.cell 1
  have r2 : w3.cell? ⟨w.heap.size + 1 + 1, 2, none⟩ = some (.slice none 0 0) := HR3.out.cell 2
  have fr0 := HR3.out.free 0
  have fr1 := HR3.out.free 1
  have fr2 := HR3.out.free 2
  go_wp2_with fail
  have hf := ((HR3.out.set 0 (.int .i64 me)).set 1 (.slice pi ni ci)).set 2 (.slice po no co)
  have hB := HB3.out.setCell (p := ⟨w.heap.size + 1 + 1, 0, none⟩) (by show w.heap.size ≤ w.heap.size + 1 + 1; omega) (.int .i64 me) |>.setCell (p := ⟨w.heap.size + 1 + 1, 1, none⟩) (by show w.heap.size ≤ w.heap.size + 1 + 1; omega) (.slice pi ni ci) |>.setCell (p := ⟨w.heap.size + 1 + 1, 2, none⟩) (by show w.heap.size ≤ w.heap.size + 1 + 1; omega) (.slice po no co)
  refine bodyPost_ret (v := .tuple #[.agg #[.int .i64 me, .slice pi ni ci, .slice po no co], .int .i64 3]) (by simp [results, Try.results17, go_sem, hf.cell 0, hf.cell 1, hf.cell 2]) rfl ⟨rfl, hB⟩
set_option linter.unusedSimpArgs false in
set_option maxHeartbeats 4000000 in
set_option maxRecDepth 100000 in
theorem put_new (w : World) (me : Int) (pi po : Option Addr) (ni ci no co : Nat) (x : Itm) (xs A B : List Itm) (hr : TRow encI w (.slice pi ni ci) xs) (hl : xs.length = ni) (hA : AroundF posI ⟨x.s, x.n, 0⟩ xs A [] B) (hn : ni ≤ 1024) (h : chkI x = 0) (h1 : x.s = me ∨ x.b = me) (h3 : ni < 1024) :
  Calls Try.prog 17 #[bookV me (.slice pi ni ci) (.slice po no co), x.v] w fun e w' => ∃ pi' ni' ci', e = .returned (.tuple #[.agg #[.int .i64 me, .slice pi' ni' ci', .slice po no co], .int .i64 0]) ∧ OwnT encI w' w.heap.size 54 (.slice pi' ni' ci') (A ++ [x] ++ B) ∧ Below w.heap.size w w' := by
 have HCK := Lib.hid (fun (W : World) => check_any x W)
 rw [h] at HCK
 have HF := Lib.hid (fun (W : World) (hb : Below w.heap.size w W) => findI_any W me (.slice pi ni ci) (.slice po no co) xs A [] B x.s x.n (hr.kept hb) hA (by omega))
 rw [show decide (([] : List Itm) ≠ []) = false by simp] at HF
 unfold idV at HF
 have H1 := Lib.hid h1
 have h3i : ¬ ((1024 : Int) ≤ (ni : Int)) := by omega
 have HW := Lib.hid (fun (W : World) (hb : Below w.heap.size w W) => withI_any W (.slice pi ni ci) xs A [] B _ x (hr.kept hb) hA (by omega))
 rw [show decide (([] : List Itm) ≠ []) = false by simp] at HW
 unfold Itm.v at HW
 clear h3 hr hl hA hn
 clear h h1
 unfold Itm.v bookV at *
 go_enter Try.func17, Try.ntmps17
 go_wp2_with fail
 generalize hW1 : ((w.alloc (.cells #[.int .i64 me, .slice pi ni ci, .slice po no co] 28)).alloc (.cells #[.int .i64 x.s, .int .i64 x.n, .int .i64 x.b, .int .i64 x.c, .int .i64 x.a, .int .i64 x.r, .int .i64 x.t, .int .i64 x.y] 54)).alloc (.cells #[.int .i64 0, .slice none 0 0, .slice none 0 0] 28) = W1
 have HB1 : Hid (Below w.heap.size w W1) := by show Below _ _ _; rw [← hW1]; exact ((oneB w _).alloc (by simp) _).alloc (by simp <;> omega) _
 have HK1 : Hid (Blk W1 w.heap.size #[.int .i64 me, .slice pi ni ci, .slice po no co] 28) := by show Blk _ _ _ _; rw [← hW1]; exact ((Blk.new w _ _).alloc _).alloc _
 have HX1 : Hid (Blk W1 (w.heap.size + 1) #[.int .i64 x.s, .int .i64 x.n, .int .i64 x.b, .int .i64 x.c, .int .i64 x.a, .int .i64 x.r, .int .i64 x.t, .int .i64 x.y] 54) := by show Blk _ _ _ _; rw [← hW1]; exact (Blk.new' _ _ _ (by simp)).alloc _
 have HR1 : Hid (Blk W1 (w.heap.size + 1 + 1) #[.int .i64 0, .slice none 0 0, .slice none 0 0] 28) := by show Blk _ _ _ _; rw [← hW1]; exact Blk.new' _ _ _ (by simp)
 clear hW1
 refine (HCK.out _).mono ?_
 rintro y w2 ⟨rfl, hb2⟩
 have HK2 := kbq HK1 hb2
 have HX2 := kbq HX1 hb2
 have HR2 := kbq HR1 hb2
 have HB2 := ktq HB1 hb2
 clear HCK hb2 HK1 HX1 HR1
 rcases (show x.s = me ∨ (x.s ≠ me ∧ x.b = me) by rcases H1.out with h | h; exact .inl h; by_cases g : x.s = me; exact .inl g; exact .inr ⟨g, h⟩) with g | ⟨g, g2⟩
 ·skip
  have e1 : (x.s != me) = false := by simpa using g
  clear g
  have b0 : w2.cell? ⟨w.heap.size, 0, none⟩ = some (.int .i64 me) := HK2.out.cell 0
  have b1 : w2.cell? ⟨w.heap.size, 1, none⟩ = some (.slice pi ni ci) := HK2.out.cell 1
  have b2 : w2.cell? ⟨w.heap.size, 2, none⟩ = some (.slice po no co) := HK2.out.cell 2
  have x0 : w2.cell? ⟨w.heap.size + 1, 0, none⟩ = some (.int .i64 x.s) := HX2.out.cell 0
  have x1 : w2.cell? ⟨w.heap.size + 1, 1, none⟩ = some (.int .i64 x.n) := HX2.out.cell 1
  have x2 : w2.cell? ⟨w.heap.size + 1, 2, none⟩ = some (.int .i64 x.b) := HX2.out.cell 2
  have x3 : w2.cell? ⟨w.heap.size + 1, 3, none⟩ = some (.int .i64 x.c) := HX2.out.cell 3
  have x4 : w2.cell? ⟨w.heap.size + 1, 4, none⟩ = some (.int .i64 x.a) := HX2.out.cell 4
  have x5 : w2.cell? ⟨w.heap.size + 1, 5, none⟩ = some (.int .i64 x.r) := HX2.out.cell 5
  have x6 : w2.cell? ⟨w.heap.size + 1, 6, none⟩ = some (.int .i64 x.t) := HX2.out.cell 6
  have x7 : w2.cell? ⟨w.heap.size + 1, 7, none⟩ = some (.int .i64 x.y) := HX2.out.cell 7
  have r0 : w2.cell? ⟨w.heap.size + 1 + 1, 0, none⟩ = some (.int .i64 0) := HR2.out.cell 0
  have r1 : w2.cell? ⟨w.heap.size + 1 + 1, 1, none⟩ = some (.slice none 0 0) := HR2.out.cell 1
  have r2 : w2.cell? ⟨w.heap.size + 1 + 1, 2, none⟩ = some (.slice none 0 0) := HR2.out.cell 2
  have fr0 := HR2.out.free 0
  have fr1 := HR2.out.free 1
  have fr2 := HR2.out.free 2
  go_wp2_with fail
  refine (HF.out _ HB2.out).mono ?_
  rintro y w3 ⟨rfl, hb3⟩
  have HK3 := kbq HK2 hb3
  have HX3 := kbq HX2 hb3
  have HR3 := kbq HR2 hb3
  have HB3 := ktq HB2 hb3
  clear HF hb3 HK2 HX2 HR2 b0 b1 b2 x0 x1 x2 x3 x4 x5 x6 x7 r0 r1 r2 fr0 fr1 fr2
  have b0 : w3.cell? ⟨w.heap.size, 0, none⟩ = some (.int .i64 me) := HK3.out.cell 0
  have b1 : w3.cell? ⟨w.heap.size, 1, none⟩ = some (.slice pi ni ci) := HK3.out.cell 1
  have b2 : w3.cell? ⟨w.heap.size, 2, none⟩ = some (.slice po no co) := HK3.out.cell 2
  have x0 : w3.cell? ⟨w.heap.size + 1, 0, none⟩ = some (.int .i64 x.s) := HX3.out.cell 0
  have x1 : w3.cell? ⟨w.heap.size + 1, 1, none⟩ = some (.int .i64 x.n) := HX3.out.cell 1
  have x2 : w3.cell? ⟨w.heap.size + 1, 2, none⟩ = some (.int .i64 x.b) := HX3.out.cell 2
  have x3 : w3.cell? ⟨w.heap.size + 1, 3, none⟩ = some (.int .i64 x.c) := HX3.out.cell 3
  have x4 : w3.cell? ⟨w.heap.size + 1, 4, none⟩ = some (.int .i64 x.a) := HX3.out.cell 4
  have x5 : w3.cell? ⟨w.heap.size + 1, 5, none⟩ = some (.int .i64 x.r) := HX3.out.cell 5
  have x6 : w3.cell? ⟨w.heap.size + 1, 6, none⟩ = some (.int .i64 x.t) := HX3.out.cell 6
  have x7 : w3.cell? ⟨w.heap.size + 1, 7, none⟩ = some (.int .i64 x.y) := HX3.out.cell 7
  have r0 : w3.cell? ⟨w.heap.size + 1 + 1, 0, none⟩ = some (.int .i64 0) := HR3.out.cell 0
  have r1 : w3.cell? ⟨w.heap.size + 1 + 1, 1, none⟩ = some (.slice none 0 0) := HR3.out.cell 1
  have r2 : w3.cell? ⟨w.heap.size + 1 + 1, 2, none⟩ = some (.slice none 0 0) := HR3.out.cell 2
  have fr0 := HR3.out.free 0
  have fr1 := HR3.out.free 1
  have fr2 := HR3.out.free 2
  go_wp2_with fail
  refine wp_region_held_drew (S := fun w' => True) (by kernel_rfl) trivial (fun hS0 => ?_)
  refine tkq 0 ?_
  refine tkq 1 ?_
  refine tnq 2 ?_
  refine tnq 3 ?_
  refine tnq 4 ?_
  refine tnq 5 ?_
  refine tnq 6 ?_
  refine tnq 7 ?_
  refine tnq 8 ?_
  refine tkq 9 ?_
  refine wpAnyH_done (by kernel_rfl) ?_ _
  clear b0 b1 b2 x0 x1 x2 x3 x4 x5 x6 x7 r0 r1 r2 fr0 fr1 fr2
  have b0 : w3.drew.cell? ⟨w.heap.size, 0, none⟩ = some (.int .i64 me) := HK3.out.cell 0
  have b1 : w3.drew.cell? ⟨w.heap.size, 1, none⟩ = some (.slice pi ni ci) := HK3.out.cell 1
  have b2 : w3.drew.cell? ⟨w.heap.size, 2, none⟩ = some (.slice po no co) := HK3.out.cell 2
  have x0 : w3.drew.cell? ⟨w.heap.size + 1, 0, none⟩ = some (.int .i64 x.s) := HX3.out.cell 0
  have x1 : w3.drew.cell? ⟨w.heap.size + 1, 1, none⟩ = some (.int .i64 x.n) := HX3.out.cell 1
  have x2 : w3.drew.cell? ⟨w.heap.size + 1, 2, none⟩ = some (.int .i64 x.b) := HX3.out.cell 2
  have x3 : w3.drew.cell? ⟨w.heap.size + 1, 3, none⟩ = some (.int .i64 x.c) := HX3.out.cell 3
  have x4 : w3.drew.cell? ⟨w.heap.size + 1, 4, none⟩ = some (.int .i64 x.a) := HX3.out.cell 4
  have x5 : w3.drew.cell? ⟨w.heap.size + 1, 5, none⟩ = some (.int .i64 x.r) := HX3.out.cell 5
  have x6 : w3.drew.cell? ⟨w.heap.size + 1, 6, none⟩ = some (.int .i64 x.t) := HX3.out.cell 6
  have x7 : w3.drew.cell? ⟨w.heap.size + 1, 7, none⟩ = some (.int .i64 x.y) := HX3.out.cell 7
  have r0 : w3.drew.cell? ⟨w.heap.size + 1 + 1, 0, none⟩ = some (.int .i64 0) := HR3.out.cell 0
  have r1 : w3.drew.cell? ⟨w.heap.size + 1 + 1, 1, none⟩ = some (.slice none 0 0) := HR3.out.cell 1
  have r2 : w3.drew.cell? ⟨w.heap.size + 1 + 1, 2, none⟩ = some (.slice none 0 0) := HR3.out.cell 2
  have fr0 := HR3.out.free 0
  have fr1 := HR3.out.free 1
  have fr2 := HR3.out.free 2
  go_wp2_with fail
  refine (HW.out w3.drew HB3.out.drew).mono ?_
  rintro y w4 ⟨v4, rfl, ho4, hb4⟩
  obtain ⟨p4, c4, hv4⟩ := ho4.form
  generalize hn4 : (A ++ [x] ++ B).length = n4 at hv4
  subst hv4
  have hb4 : Below w3.heap.size w3 w4 := (Below.refl _ _).drew.trans hb4
  have HK4 := kbq HK3 hb4
  have HX4 := kbq HX3 hb4
  have HR4 := kbq HR3 hb4
  have HB4 := ktq HB3 hb4
  have HO4 := Lib.hid (ho4.less (show w.heap.size ≤ w3.drew.heap.size from HB3.out.size))
  have HLT := Lib.hid ho4.block_ge
  have HSZ := Lib.hid (show w.heap.size + 1 + 1 < w3.drew.heap.size from HR3.out.lt)
  clear HW hb4 ho4 HK3 HX3 HR3 hn4 b0 b1 b2 x0 x1 x2 x3 x4 x5 x6 x7 r0 r1 r2 fr0 fr1 fr2
  have b0 : w4.cell? ⟨w.heap.size, 0, none⟩ = some (.int .i64 me) := HK4.out.cell 0
  have b1 : w4.cell? ⟨w.heap.size, 1, none⟩ = some (.slice pi ni ci) := HK4.out.cell 1
  have b2 : w4.cell? ⟨w.heap.size, 2, none⟩ = some (.slice po no co) := HK4.out.cell 2
  have x0 : w4.cell? ⟨w.heap.size + 1, 0, none⟩ = some (.int .i64 x.s) := HX4.out.cell 0
  have x1 : w4.cell? ⟨w.heap.size + 1, 1, none⟩ = some (.int .i64 x.n) := HX4.out.cell 1
  have x2 : w4.cell? ⟨w.heap.size + 1, 2, none⟩ = some (.int .i64 x.b) := HX4.out.cell 2
  have x3 : w4.cell? ⟨w.heap.size + 1, 3, none⟩ = some (.int .i64 x.c) := HX4.out.cell 3
  have x4 : w4.cell? ⟨w.heap.size + 1, 4, none⟩ = some (.int .i64 x.a) := HX4.out.cell 4
  have x5 : w4.cell? ⟨w.heap.size + 1, 5, none⟩ = some (.int .i64 x.r) := HX4.out.cell 5
  have x6 : w4.cell? ⟨w.heap.size + 1, 6, none⟩ = some (.int .i64 x.t) := HX4.out.cell 6
  have x7 : w4.cell? ⟨w.heap.size + 1, 7, none⟩ = some (.int .i64 x.y) := HX4.out.cell 7
  have r0 : w4.cell? ⟨w.heap.size + 1 + 1, 0, none⟩ = some (.int .i64 0) := HR4.out.cell 0
  have r1 : w4.cell? ⟨w.heap.size + 1 + 1, 1, none⟩ = some (.slice none 0 0) := HR4.out.cell 1
  have r2 : w4.cell? ⟨w.heap.size + 1 + 1, 2, none⟩ = some (.slice none 0 0) := HR4.out.cell 2
  have fr0 := HR4.out.free 0
  have fr1 := HR4.out.free 1
  have fr2 := HR4.out.free 2
  have fb1 := HK4.out.free 1
  go_wp2_with fail
  have hK5 := HK4.out.set 1 (.slice p4 n4 c4)
  have hR5 := HR4.out.setOther (a := ⟨w.heap.size, 1, none⟩) (by show w.heap.size ≠ w.heap.size + 1 + 1; omega) (.slice p4 n4 c4)
  have hf := ((hR5.set 0 (.int .i64 me)).set 1 (.slice p4 n4 c4)).set 2 (.slice po no co)
  have hB := HB4.out.setCell (p := ⟨w.heap.size, 1, none⟩) (Nat.le_refl _) (.slice p4 n4 c4) |>.setCell (p := ⟨w.heap.size + 1 + 1, 0, none⟩) (by show w.heap.size ≤ w.heap.size + 1 + 1; omega) (.int .i64 me) |>.setCell (p := ⟨w.heap.size + 1 + 1, 1, none⟩) (by show w.heap.size ≤ w.heap.size + 1 + 1; omega) (.slice p4 n4 c4) |>.setCell (p := ⟨w.heap.size + 1 + 1, 2, none⟩) (by show w.heap.size ≤ w.heap.size + 1 + 1; omega) (.slice po no co)
  have hO : OwnT encI (World.setCell (World.setCell (World.setCell (World.setCell w4 ⟨w.heap.size, 1, none⟩ (.slice p4 n4 c4)) ⟨w.heap.size + 1 + 1, 0, none⟩ (.int .i64 me)) ⟨w.heap.size + 1 + 1, 1, none⟩ (.slice p4 n4 c4)) ⟨w.heap.size + 1 + 1, 2, none⟩ (.slice po no co)) w.heap.size 54 (.slice p4 n4 c4) (A ++ [x] ++ B) := by
   refine HO4.out.stay (fun g hg => ?_)
   have hge := HLT.out g hg
   have hsz : w.heap.size + 1 + 1 < w3.drew.heap.size := HSZ.out
   rw [Below.heap_setCell _ _ _ g (by show g ≠ w.heap.size + 1 + 1; omega), Below.heap_setCell _ _ _ g (by show g ≠ w.heap.size + 1 + 1; omega), Below.heap_setCell _ _ _ g (by show g ≠ w.heap.size + 1 + 1; omega), Below.heap_setCell _ _ _ g (by show g ≠ w.heap.size; omega)]
  refine bodyPost_ret (v := .tuple #[.agg #[.int .i64 me, .slice p4 n4 c4, .slice po no co], .int .i64 0]) (by simp [results, Try.results17, go_sem, hf.cell 0, hf.cell 1, hf.cell 2]) rfl ⟨_, _, _, rfl, hO, hB⟩
 ·skip
  have e1 : (x.s != me) = true := by simpa using g
  have e2 : (x.b != me) = false := by simpa using g2
  clear g2
  clear g
  have b0 : w2.cell? ⟨w.heap.size, 0, none⟩ = some (.int .i64 me) := HK2.out.cell 0
  have b1 : w2.cell? ⟨w.heap.size, 1, none⟩ = some (.slice pi ni ci) := HK2.out.cell 1
  have b2 : w2.cell? ⟨w.heap.size, 2, none⟩ = some (.slice po no co) := HK2.out.cell 2
  have x0 : w2.cell? ⟨w.heap.size + 1, 0, none⟩ = some (.int .i64 x.s) := HX2.out.cell 0
  have x1 : w2.cell? ⟨w.heap.size + 1, 1, none⟩ = some (.int .i64 x.n) := HX2.out.cell 1
  have x2 : w2.cell? ⟨w.heap.size + 1, 2, none⟩ = some (.int .i64 x.b) := HX2.out.cell 2
  have x3 : w2.cell? ⟨w.heap.size + 1, 3, none⟩ = some (.int .i64 x.c) := HX2.out.cell 3
  have x4 : w2.cell? ⟨w.heap.size + 1, 4, none⟩ = some (.int .i64 x.a) := HX2.out.cell 4
  have x5 : w2.cell? ⟨w.heap.size + 1, 5, none⟩ = some (.int .i64 x.r) := HX2.out.cell 5
  have x6 : w2.cell? ⟨w.heap.size + 1, 6, none⟩ = some (.int .i64 x.t) := HX2.out.cell 6
  have x7 : w2.cell? ⟨w.heap.size + 1, 7, none⟩ = some (.int .i64 x.y) := HX2.out.cell 7
  have r0 : w2.cell? ⟨w.heap.size + 1 + 1, 0, none⟩ = some (.int .i64 0) := HR2.out.cell 0
  have r1 : w2.cell? ⟨w.heap.size + 1 + 1, 1, none⟩ = some (.slice none 0 0) := HR2.out.cell 1
  have r2 : w2.cell? ⟨w.heap.size + 1 + 1, 2, none⟩ = some (.slice none 0 0) := HR2.out.cell 2
  have fr0 := HR2.out.free 0
  have fr1 := HR2.out.free 1
  have fr2 := HR2.out.free 2
  go_wp2_with fail
  refine (HF.out _ HB2.out).mono ?_
  rintro y w3 ⟨rfl, hb3⟩
  have HK3 := kbq HK2 hb3
  have HX3 := kbq HX2 hb3
  have HR3 := kbq HR2 hb3
  have HB3 := ktq HB2 hb3
  clear HF hb3 HK2 HX2 HR2 b0 b1 b2 x0 x1 x2 x3 x4 x5 x6 x7 r0 r1 r2 fr0 fr1 fr2
  have b0 : w3.cell? ⟨w.heap.size, 0, none⟩ = some (.int .i64 me) := HK3.out.cell 0
  have b1 : w3.cell? ⟨w.heap.size, 1, none⟩ = some (.slice pi ni ci) := HK3.out.cell 1
  have b2 : w3.cell? ⟨w.heap.size, 2, none⟩ = some (.slice po no co) := HK3.out.cell 2
  have x0 : w3.cell? ⟨w.heap.size + 1, 0, none⟩ = some (.int .i64 x.s) := HX3.out.cell 0
  have x1 : w3.cell? ⟨w.heap.size + 1, 1, none⟩ = some (.int .i64 x.n) := HX3.out.cell 1
  have x2 : w3.cell? ⟨w.heap.size + 1, 2, none⟩ = some (.int .i64 x.b) := HX3.out.cell 2
  have x3 : w3.cell? ⟨w.heap.size + 1, 3, none⟩ = some (.int .i64 x.c) := HX3.out.cell 3
  have x4 : w3.cell? ⟨w.heap.size + 1, 4, none⟩ = some (.int .i64 x.a) := HX3.out.cell 4
  have x5 : w3.cell? ⟨w.heap.size + 1, 5, none⟩ = some (.int .i64 x.r) := HX3.out.cell 5
  have x6 : w3.cell? ⟨w.heap.size + 1, 6, none⟩ = some (.int .i64 x.t) := HX3.out.cell 6
  have x7 : w3.cell? ⟨w.heap.size + 1, 7, none⟩ = some (.int .i64 x.y) := HX3.out.cell 7
  have r0 : w3.cell? ⟨w.heap.size + 1 + 1, 0, none⟩ = some (.int .i64 0) := HR3.out.cell 0
  have r1 : w3.cell? ⟨w.heap.size + 1 + 1, 1, none⟩ = some (.slice none 0 0) := HR3.out.cell 1
  have r2 : w3.cell? ⟨w.heap.size + 1 + 1, 2, none⟩ = some (.slice none 0 0) := HR3.out.cell 2
  have fr0 := HR3.out.free 0
  have fr1 := HR3.out.free 1
  have fr2 := HR3.out.free 2
  go_wp2_with fail
  refine wp_region_held_drew (S := fun w' => True) (by kernel_rfl) trivial (fun hS0 => ?_)
  refine tkq 0 ?_
  refine tkq 1 ?_
  refine tnq 2 ?_
  refine tnq 3 ?_
  refine tnq 4 ?_
  refine tnq 5 ?_
  refine tnq 6 ?_
  refine tnq 7 ?_
  refine tnq 8 ?_
  refine tkq 9 ?_
  refine wpAnyH_done (by kernel_rfl) ?_ _
  clear b0 b1 b2 x0 x1 x2 x3 x4 x5 x6 x7 r0 r1 r2 fr0 fr1 fr2
  have b0 : w3.drew.cell? ⟨w.heap.size, 0, none⟩ = some (.int .i64 me) := HK3.out.cell 0
  have b1 : w3.drew.cell? ⟨w.heap.size, 1, none⟩ = some (.slice pi ni ci) := HK3.out.cell 1
  have b2 : w3.drew.cell? ⟨w.heap.size, 2, none⟩ = some (.slice po no co) := HK3.out.cell 2
  have x0 : w3.drew.cell? ⟨w.heap.size + 1, 0, none⟩ = some (.int .i64 x.s) := HX3.out.cell 0
  have x1 : w3.drew.cell? ⟨w.heap.size + 1, 1, none⟩ = some (.int .i64 x.n) := HX3.out.cell 1
  have x2 : w3.drew.cell? ⟨w.heap.size + 1, 2, none⟩ = some (.int .i64 x.b) := HX3.out.cell 2
  have x3 : w3.drew.cell? ⟨w.heap.size + 1, 3, none⟩ = some (.int .i64 x.c) := HX3.out.cell 3
  have x4 : w3.drew.cell? ⟨w.heap.size + 1, 4, none⟩ = some (.int .i64 x.a) := HX3.out.cell 4
  have x5 : w3.drew.cell? ⟨w.heap.size + 1, 5, none⟩ = some (.int .i64 x.r) := HX3.out.cell 5
  have x6 : w3.drew.cell? ⟨w.heap.size + 1, 6, none⟩ = some (.int .i64 x.t) := HX3.out.cell 6
  have x7 : w3.drew.cell? ⟨w.heap.size + 1, 7, none⟩ = some (.int .i64 x.y) := HX3.out.cell 7
  have r0 : w3.drew.cell? ⟨w.heap.size + 1 + 1, 0, none⟩ = some (.int .i64 0) := HR3.out.cell 0
  have r1 : w3.drew.cell? ⟨w.heap.size + 1 + 1, 1, none⟩ = some (.slice none 0 0) := HR3.out.cell 1
  have r2 : w3.drew.cell? ⟨w.heap.size + 1 + 1, 2, none⟩ = some (.slice none 0 0) := HR3.out.cell 2
  have fr0 := HR3.out.free 0
  have fr1 := HR3.out.free 1
  have fr2 := HR3.out.free 2
  go_wp2_with fail
  refine (HW.out w3.drew HB3.out.drew).mono ?_
  rintro y w4 ⟨v4, rfl, ho4, hb4⟩
  obtain ⟨p4, c4, hv4⟩ := ho4.form
  generalize hn4 : (A ++ [x] ++ B).length = n4 at hv4
  subst hv4
  have hb4 : Below w3.heap.size w3 w4 := (Below.refl _ _).drew.trans hb4
  have HK4 := kbq HK3 hb4
  have HX4 := kbq HX3 hb4
  have HR4 := kbq HR3 hb4
  have HB4 := ktq HB3 hb4
  have HO4 := Lib.hid (ho4.less (show w.heap.size ≤ w3.drew.heap.size from HB3.out.size))
  have HLT := Lib.hid ho4.block_ge
  have HSZ := Lib.hid (show w.heap.size + 1 + 1 < w3.drew.heap.size from HR3.out.lt)
  clear HW hb4 ho4 HK3 HX3 HR3 hn4 b0 b1 b2 x0 x1 x2 x3 x4 x5 x6 x7 r0 r1 r2 fr0 fr1 fr2
  have b0 : w4.cell? ⟨w.heap.size, 0, none⟩ = some (.int .i64 me) := HK4.out.cell 0
  have b1 : w4.cell? ⟨w.heap.size, 1, none⟩ = some (.slice pi ni ci) := HK4.out.cell 1
  have b2 : w4.cell? ⟨w.heap.size, 2, none⟩ = some (.slice po no co) := HK4.out.cell 2
  have x0 : w4.cell? ⟨w.heap.size + 1, 0, none⟩ = some (.int .i64 x.s) := HX4.out.cell 0
  have x1 : w4.cell? ⟨w.heap.size + 1, 1, none⟩ = some (.int .i64 x.n) := HX4.out.cell 1
  have x2 : w4.cell? ⟨w.heap.size + 1, 2, none⟩ = some (.int .i64 x.b) := HX4.out.cell 2
  have x3 : w4.cell? ⟨w.heap.size + 1, 3, none⟩ = some (.int .i64 x.c) := HX4.out.cell 3
  have x4 : w4.cell? ⟨w.heap.size + 1, 4, none⟩ = some (.int .i64 x.a) := HX4.out.cell 4
  have x5 : w4.cell? ⟨w.heap.size + 1, 5, none⟩ = some (.int .i64 x.r) := HX4.out.cell 5
  have x6 : w4.cell? ⟨w.heap.size + 1, 6, none⟩ = some (.int .i64 x.t) := HX4.out.cell 6
  have x7 : w4.cell? ⟨w.heap.size + 1, 7, none⟩ = some (.int .i64 x.y) := HX4.out.cell 7
  have r0 : w4.cell? ⟨w.heap.size + 1 + 1, 0, none⟩ = some (.int .i64 0) := HR4.out.cell 0
  have r1 : w4.cell? ⟨w.heap.size + 1 + 1, 1, none⟩ = some (.slice none 0 0) := HR4.out.cell 1
  have r2 : w4.cell? ⟨w.heap.size + 1 + 1, 2, none⟩ = some (.slice none 0 0) := HR4.out.cell 2
  have fr0 := HR4.out.free 0
  have fr1 := HR4.out.free 1
  have fr2 := HR4.out.free 2
  have fb1 := HK4.out.free 1
  go_wp2_with fail
  have hK5 := HK4.out.set 1 (.slice p4 n4 c4)
  have hR5 := HR4.out.setOther (a := ⟨w.heap.size, 1, none⟩) (by show w.heap.size ≠ w.heap.size + 1 + 1; omega) (.slice p4 n4 c4)
  have hf := ((hR5.set 0 (.int .i64 me)).set 1 (.slice p4 n4 c4)).set 2 (.slice po no co)
  have hB := HB4.out.setCell (p := ⟨w.heap.size, 1, none⟩) (Nat.le_refl _) (.slice p4 n4 c4) |>.setCell (p := ⟨w.heap.size + 1 + 1, 0, none⟩) (by show w.heap.size ≤ w.heap.size + 1 + 1; omega) (.int .i64 me) |>.setCell (p := ⟨w.heap.size + 1 + 1, 1, none⟩) (by show w.heap.size ≤ w.heap.size + 1 + 1; omega) (.slice p4 n4 c4) |>.setCell (p := ⟨w.heap.size + 1 + 1, 2, none⟩) (by show w.heap.size ≤ w.heap.size + 1 + 1; omega) (.slice po no co)
  have hO : OwnT encI (World.setCell (World.setCell (World.setCell (World.setCell w4 ⟨w.heap.size, 1, none⟩ (.slice p4 n4 c4)) ⟨w.heap.size + 1 + 1, 0, none⟩ (.int .i64 me)) ⟨w.heap.size + 1 + 1, 1, none⟩ (.slice p4 n4 c4)) ⟨w.heap.size + 1 + 1, 2, none⟩ (.slice po no co)) w.heap.size 54 (.slice p4 n4 c4) (A ++ [x] ++ B) := by
   refine HO4.out.stay (fun g hg => ?_)
   have hge := HLT.out g hg
   have hsz : w.heap.size + 1 + 1 < w3.drew.heap.size := HSZ.out
   rw [Below.heap_setCell _ _ _ g (by show g ≠ w.heap.size + 1 + 1; omega), Below.heap_setCell _ _ _ g (by show g ≠ w.heap.size + 1 + 1; omega), Below.heap_setCell _ _ _ g (by show g ≠ w.heap.size + 1 + 1; omega), Below.heap_setCell _ _ _ g (by show g ≠ w.heap.size; omega)]
  refine bodyPost_ret (v := .tuple #[.agg #[.int .i64 me, .slice p4 n4 c4, .slice po no co], .int .i64 0]) (by simp [results, Try.results17, go_sem, hf.cell 0, hf.cell 1, hf.cell 2]) rfl ⟨_, _, _, rfl, hO, hB⟩
set_option linter.unusedSimpArgs false in
set_option maxHeartbeats 4000000 in
set_option maxRecDepth 100000 in
theorem put_same (w : World) (me : Int) (pi po : Option Addr) (ni ci no co : Nat) (x : Itm) (xs A B : List Itm) (q : Itm) (hr : TRow encI w (.slice pi ni ci) xs) (hl : xs.length = ni) (hA : AroundF posI ⟨x.s, x.n, 0⟩ xs A [q] B) (hn : ni ≤ 1024) (h : chkI x = 0) (h1 : x.s = me ∨ x.b = me) (h3 : q = x) :
  Calls Try.prog 17 #[bookV me (.slice pi ni ci) (.slice po no co), x.v] w fun e w' => e = .returned (.tuple #[.agg #[.int .i64 me, .slice pi ni ci, .slice po no co], .int .i64 0]) ∧ Below w.heap.size w w' := by
 have hal : A.length < xs.length := by rw [hA.all]; simp <;> omega
 obtain ⟨b, o, hpv, hbl, hcs⟩ := hr.at_ A.length hal
 subst hpv
 have hq : xs[A.length] = q := by have e := hA.all; subst e; simp
 rw [hq] at hcs
 have hcap4 : ((A.length : Nat) : Int) < (ni : Int) := by omega
 rw [h3] at hcs
 have HQB := Lib.hid hbl
 have HQC := Lib.hid hcs
 clear hal hq hbl hcs
 have HCK := Lib.hid (fun (W : World) => check_any x W)
 rw [h] at HCK
 have HF := Lib.hid (fun (W : World) (hb : Below w.heap.size w W) => findI_any W me (.slice (some ⟨b, o, none⟩) ni ci) (.slice po no co) xs A [q] B x.s x.n (hr.kept hb) hA (by omega))
 rw [show decide (([q] : List Itm) ≠ []) = true by simp] at HF
 unfold idV at HF
 have H1 := Lib.hid h1
 clear hr hl hA hn h3
 clear h h1
 unfold Itm.v bookV at *
 go_enter Try.func17, Try.ntmps17
 go_wp2_with fail
 generalize hW1 : ((w.alloc (.cells #[.int .i64 me, .slice (some ⟨b, o, none⟩) ni ci, .slice po no co] 28)).alloc (.cells #[.int .i64 x.s, .int .i64 x.n, .int .i64 x.b, .int .i64 x.c, .int .i64 x.a, .int .i64 x.r, .int .i64 x.t, .int .i64 x.y] 54)).alloc (.cells #[.int .i64 0, .slice none 0 0, .slice none 0 0] 28) = W1
 have HB1 : Hid (Below w.heap.size w W1) := by show Below _ _ _; rw [← hW1]; exact ((oneB w _).alloc (by simp) _).alloc (by simp <;> omega) _
 have HK1 : Hid (Blk W1 w.heap.size #[.int .i64 me, .slice (some ⟨b, o, none⟩) ni ci, .slice po no co] 28) := by show Blk _ _ _ _; rw [← hW1]; exact ((Blk.new w _ _).alloc _).alloc _
 have HX1 : Hid (Blk W1 (w.heap.size + 1) #[.int .i64 x.s, .int .i64 x.n, .int .i64 x.b, .int .i64 x.c, .int .i64 x.a, .int .i64 x.r, .int .i64 x.t, .int .i64 x.y] 54) := by show Blk _ _ _ _; rw [← hW1]; exact (Blk.new' _ _ _ (by simp)).alloc _
 have HR1 : Hid (Blk W1 (w.heap.size + 1 + 1) #[.int .i64 0, .slice none 0 0, .slice none 0 0] 28) := by show Blk _ _ _ _; rw [← hW1]; exact Blk.new' _ _ _ (by simp)
 clear hW1
 refine (HCK.out _).mono ?_
 rintro y w2 ⟨rfl, hb2⟩
 have HK2 := kbq HK1 hb2
 have HX2 := kbq HX1 hb2
 have HR2 := kbq HR1 hb2
 have HB2 := ktq HB1 hb2
 clear HCK hb2 HK1 HX1 HR1
 rcases (show x.s = me ∨ (x.s ≠ me ∧ x.b = me) by rcases H1.out with h | h; exact .inl h; by_cases g : x.s = me; exact .inl g; exact .inr ⟨g, h⟩) with g | ⟨g, g2⟩
 ·skip
  have e1 : (x.s != me) = false := by simpa using g
  clear g
  have b0 : w2.cell? ⟨w.heap.size, 0, none⟩ = some (.int .i64 me) := HK2.out.cell 0
  have b1 : w2.cell? ⟨w.heap.size, 1, none⟩ = some (.slice (some ⟨b, o, none⟩) ni ci) := HK2.out.cell 1
  have b2 : w2.cell? ⟨w.heap.size, 2, none⟩ = some (.slice po no co) := HK2.out.cell 2
  have x0 : w2.cell? ⟨w.heap.size + 1, 0, none⟩ = some (.int .i64 x.s) := HX2.out.cell 0
  have x1 : w2.cell? ⟨w.heap.size + 1, 1, none⟩ = some (.int .i64 x.n) := HX2.out.cell 1
  have x2 : w2.cell? ⟨w.heap.size + 1, 2, none⟩ = some (.int .i64 x.b) := HX2.out.cell 2
  have x3 : w2.cell? ⟨w.heap.size + 1, 3, none⟩ = some (.int .i64 x.c) := HX2.out.cell 3
  have x4 : w2.cell? ⟨w.heap.size + 1, 4, none⟩ = some (.int .i64 x.a) := HX2.out.cell 4
  have x5 : w2.cell? ⟨w.heap.size + 1, 5, none⟩ = some (.int .i64 x.r) := HX2.out.cell 5
  have x6 : w2.cell? ⟨w.heap.size + 1, 6, none⟩ = some (.int .i64 x.t) := HX2.out.cell 6
  have x7 : w2.cell? ⟨w.heap.size + 1, 7, none⟩ = some (.int .i64 x.y) := HX2.out.cell 7
  have r0 : w2.cell? ⟨w.heap.size + 1 + 1, 0, none⟩ = some (.int .i64 0) := HR2.out.cell 0
  have r1 : w2.cell? ⟨w.heap.size + 1 + 1, 1, none⟩ = some (.slice none 0 0) := HR2.out.cell 1
  have r2 : w2.cell? ⟨w.heap.size + 1 + 1, 2, none⟩ = some (.slice none 0 0) := HR2.out.cell 2
  have fr0 := HR2.out.free 0
  have fr1 := HR2.out.free 1
  have fr2 := HR2.out.free 2
  go_wp2_with fail
  refine (HF.out _ HB2.out).mono ?_
  rintro y w3 ⟨rfl, hb3⟩
  have HK3 := kbq HK2 hb3
  have HX3 := kbq HX2 hb3
  have HR3 := kbq HR2 hb3
  have HB3 := ktq HB2 hb3
  clear HF hb3 HK2 HX2 HR2 b0 b1 b2 x0 x1 x2 x3 x4 x5 x6 x7 r0 r1 r2 fr0 fr1 fr2
  have b0 : w3.cell? ⟨w.heap.size, 0, none⟩ = some (.int .i64 me) := HK3.out.cell 0
  have b1 : w3.cell? ⟨w.heap.size, 1, none⟩ = some (.slice (some ⟨b, o, none⟩) ni ci) := HK3.out.cell 1
  have b2 : w3.cell? ⟨w.heap.size, 2, none⟩ = some (.slice po no co) := HK3.out.cell 2
  have x0 : w3.cell? ⟨w.heap.size + 1, 0, none⟩ = some (.int .i64 x.s) := HX3.out.cell 0
  have x1 : w3.cell? ⟨w.heap.size + 1, 1, none⟩ = some (.int .i64 x.n) := HX3.out.cell 1
  have x2 : w3.cell? ⟨w.heap.size + 1, 2, none⟩ = some (.int .i64 x.b) := HX3.out.cell 2
  have x3 : w3.cell? ⟨w.heap.size + 1, 3, none⟩ = some (.int .i64 x.c) := HX3.out.cell 3
  have x4 : w3.cell? ⟨w.heap.size + 1, 4, none⟩ = some (.int .i64 x.a) := HX3.out.cell 4
  have x5 : w3.cell? ⟨w.heap.size + 1, 5, none⟩ = some (.int .i64 x.r) := HX3.out.cell 5
  have x6 : w3.cell? ⟨w.heap.size + 1, 6, none⟩ = some (.int .i64 x.t) := HX3.out.cell 6
  have x7 : w3.cell? ⟨w.heap.size + 1, 7, none⟩ = some (.int .i64 x.y) := HX3.out.cell 7
  have r0 : w3.cell? ⟨w.heap.size + 1 + 1, 0, none⟩ = some (.int .i64 0) := HR3.out.cell 0
  have r1 : w3.cell? ⟨w.heap.size + 1 + 1, 1, none⟩ = some (.slice none 0 0) := HR3.out.cell 1
  have r2 : w3.cell? ⟨w.heap.size + 1 + 1, 2, none⟩ = some (.slice none 0 0) := HR3.out.cell 2
  have fr0 := HR3.out.free 0
  have fr1 := HR3.out.free 1
  have fr2 := HR3.out.free 2
  go_wp2_with fail
  have q0 : w3.drew.cell? ⟨b, o + A.length * 8, none⟩ = some (.int .i64 x.s) := (HB3.out.cell (p := ⟨b, _, none⟩) HQB.out).trans (HQC.out 0 (by decide))
  have q1 : w3.drew.cell? ⟨b, o + A.length * 8 + 1, none⟩ = some (.int .i64 x.n) := (HB3.out.cell (p := ⟨b, _, none⟩) HQB.out).trans (HQC.out 1 (by decide))
  have q2 : w3.drew.cell? ⟨b, o + A.length * 8 + 2, none⟩ = some (.int .i64 x.b) := (HB3.out.cell (p := ⟨b, _, none⟩) HQB.out).trans (HQC.out 2 (by decide))
  have q3 : w3.drew.cell? ⟨b, o + A.length * 8 + 3, none⟩ = some (.int .i64 x.c) := (HB3.out.cell (p := ⟨b, _, none⟩) HQB.out).trans (HQC.out 3 (by decide))
  have q4 : w3.drew.cell? ⟨b, o + A.length * 8 + 4, none⟩ = some (.int .i64 x.a) := (HB3.out.cell (p := ⟨b, _, none⟩) HQB.out).trans (HQC.out 4 (by decide))
  have q5 : w3.drew.cell? ⟨b, o + A.length * 8 + 5, none⟩ = some (.int .i64 x.r) := (HB3.out.cell (p := ⟨b, _, none⟩) HQB.out).trans (HQC.out 5 (by decide))
  have q6 : w3.drew.cell? ⟨b, o + A.length * 8 + 6, none⟩ = some (.int .i64 x.t) := (HB3.out.cell (p := ⟨b, _, none⟩) HQB.out).trans (HQC.out 6 (by decide))
  have q7 : w3.drew.cell? ⟨b, o + A.length * 8 + 7, none⟩ = some (.int .i64 x.y) := (HB3.out.cell (p := ⟨b, _, none⟩) HQB.out).trans (HQC.out 7 (by decide))
  have hSQ : w3.drew.cell? ⟨w.heap.size, 1, none⟩ = some (.slice (some ⟨b, o, none⟩) ni ci) ∧ w3.drew.cell? ⟨b, o + A.length * 8, none⟩ = some (.int .i64 x.s) ∧ w3.drew.cell? ⟨b, o + A.length * 8 + 1, none⟩ = some (.int .i64 x.n) ∧ w3.drew.cell? ⟨b, o + A.length * 8 + 2, none⟩ = some (.int .i64 x.b) ∧ w3.drew.cell? ⟨b, o + A.length * 8 + 3, none⟩ = some (.int .i64 x.c) ∧ w3.drew.cell? ⟨b, o + A.length * 8 + 4, none⟩ = some (.int .i64 x.a) ∧ w3.drew.cell? ⟨b, o + A.length * 8 + 5, none⟩ = some (.int .i64 x.r) ∧ w3.drew.cell? ⟨b, o + A.length * 8 + 6, none⟩ = some (.int .i64 x.t) ∧ w3.drew.cell? ⟨b, o + A.length * 8 + 7, none⟩ = some (.int .i64 x.y) ∧ w3.drew.cell? ⟨w.heap.size + 1, 0, none⟩ = some (.int .i64 x.s) ∧ w3.drew.cell? ⟨w.heap.size + 1, 1, none⟩ = some (.int .i64 x.n) ∧ w3.drew.cell? ⟨w.heap.size + 1, 2, none⟩ = some (.int .i64 x.b) ∧ w3.drew.cell? ⟨w.heap.size + 1, 3, none⟩ = some (.int .i64 x.c) ∧ w3.drew.cell? ⟨w.heap.size + 1, 4, none⟩ = some (.int .i64 x.a) ∧ w3.drew.cell? ⟨w.heap.size + 1, 5, none⟩ = some (.int .i64 x.r) ∧ w3.drew.cell? ⟨w.heap.size + 1, 6, none⟩ = some (.int .i64 x.t) ∧ w3.drew.cell? ⟨w.heap.size + 1, 7, none⟩ = some (.int .i64 x.y) := ⟨b1, q0, q1, q2, q3, q4, q5, q6, q7, x0, x1, x2, x3, x4, x5, x6, x7⟩
  refine wp_region_held_drew (S := fun w' => w'.cell? ⟨w.heap.size, 1, none⟩ = some (.slice (some ⟨b, o, none⟩) ni ci) ∧ w'.cell? ⟨b, o + A.length * 8, none⟩ = some (.int .i64 x.s) ∧ w'.cell? ⟨b, o + A.length * 8 + 1, none⟩ = some (.int .i64 x.n) ∧ w'.cell? ⟨b, o + A.length * 8 + 2, none⟩ = some (.int .i64 x.b) ∧ w'.cell? ⟨b, o + A.length * 8 + 3, none⟩ = some (.int .i64 x.c) ∧ w'.cell? ⟨b, o + A.length * 8 + 4, none⟩ = some (.int .i64 x.a) ∧ w'.cell? ⟨b, o + A.length * 8 + 5, none⟩ = some (.int .i64 x.r) ∧ w'.cell? ⟨b, o + A.length * 8 + 6, none⟩ = some (.int .i64 x.t) ∧ w'.cell? ⟨b, o + A.length * 8 + 7, none⟩ = some (.int .i64 x.y) ∧ w'.cell? ⟨w.heap.size + 1, 0, none⟩ = some (.int .i64 x.s) ∧ w'.cell? ⟨w.heap.size + 1, 1, none⟩ = some (.int .i64 x.n) ∧ w'.cell? ⟨w.heap.size + 1, 2, none⟩ = some (.int .i64 x.b) ∧ w'.cell? ⟨w.heap.size + 1, 3, none⟩ = some (.int .i64 x.c) ∧ w'.cell? ⟨w.heap.size + 1, 4, none⟩ = some (.int .i64 x.a) ∧ w'.cell? ⟨w.heap.size + 1, 5, none⟩ = some (.int .i64 x.r) ∧ w'.cell? ⟨w.heap.size + 1, 6, none⟩ = some (.int .i64 x.t) ∧ w'.cell? ⟨w.heap.size + 1, 7, none⟩ = some (.int .i64 x.y)) (by kernel_rfl) hSQ (fun hS0 => ?_)
  refine tkq 0 ?_
  refine tkq 1 ?_
  refine tkq 2 ?_
  refine tkq 3 ?_
  refine tkq 4 ?_
  refine tkq 5 ?_
  refine tkq 6 ?_
  refine tkq 7 ?_
  refine tkq 8 ?_
  refine tkq 9 ?_
  refine wpAnyH_done (by kernel_rfl) ?_ _
  clear hSQ hS0
  clear b0 b1 b2 x0 x1 x2 x3 x4 x5 x6 x7 r0 r1 r2 fr0 fr1 fr2 q0 q1 q2 q3 q4 q5 q6 q7
  have HK4 : Hid (Blk w3.drew w.heap.size #[.int .i64 me, .slice (some ⟨b, o, none⟩) ni ci, .slice po no co] 28) := HK3.out
  have HX4 : Hid (Blk w3.drew (w.heap.size + 1) #[.int .i64 x.s, .int .i64 x.n, .int .i64 x.b, .int .i64 x.c, .int .i64 x.a, .int .i64 x.r, .int .i64 x.t, .int .i64 x.y] 54) := HX3.out
  have HR4 : Hid (Blk w3.drew (w.heap.size + 1 + 1) #[.int .i64 0, .slice none 0 0, .slice none 0 0] 28) := HR3.out
  have HB4 : Hid (Below w.heap.size w w3.drew) := HB3.out.drew
  clear HK3 HX3 HR3 HB3
  generalize w3.drew = w4 at *
  have b0 : w4.cell? ⟨w.heap.size, 0, none⟩ = some (.int .i64 me) := HK4.out.cell 0
  have b1 : w4.cell? ⟨w.heap.size, 1, none⟩ = some (.slice (some ⟨b, o, none⟩) ni ci) := HK4.out.cell 1
  have b2 : w4.cell? ⟨w.heap.size, 2, none⟩ = some (.slice po no co) := HK4.out.cell 2
  have x0 : w4.cell? ⟨w.heap.size + 1, 0, none⟩ = some (.int .i64 x.s) := HX4.out.cell 0
  have x1 : w4.cell? ⟨w.heap.size + 1, 1, none⟩ = some (.int .i64 x.n) := HX4.out.cell 1
  have x2 : w4.cell? ⟨w.heap.size + 1, 2, none⟩ = some (.int .i64 x.b) := HX4.out.cell 2
  have x3 : w4.cell? ⟨w.heap.size + 1, 3, none⟩ = some (.int .i64 x.c) := HX4.out.cell 3
  have x4 : w4.cell? ⟨w.heap.size + 1, 4, none⟩ = some (.int .i64 x.a) := HX4.out.cell 4
  have x5 : w4.cell? ⟨w.heap.size + 1, 5, none⟩ = some (.int .i64 x.r) := HX4.out.cell 5
  have x6 : w4.cell? ⟨w.heap.size + 1, 6, none⟩ = some (.int .i64 x.t) := HX4.out.cell 6
  have x7 : w4.cell? ⟨w.heap.size + 1, 7, none⟩ = some (.int .i64 x.y) := HX4.out.cell 7
  have r0 : w4.cell? ⟨w.heap.size + 1 + 1, 0, none⟩ = some (.int .i64 0) := HR4.out.cell 0
  have r1 : w4.cell? ⟨w.heap.size + 1 + 1, 1, none⟩ = some (.slice none 0 0) := HR4.out.cell 1
  have r2 : w4.cell? ⟨w.heap.size + 1 + 1, 2, none⟩ = some (.slice none 0 0) := HR4.out.cell 2
  have fr0 := HR4.out.free 0
  have fr1 := HR4.out.free 1
  have fr2 := HR4.out.free 2
  go_wp2_with fail
  have hf := ((HR4.out.set 0 (.int .i64 me)).set 1 (.slice (some ⟨b, o, none⟩) ni ci)).set 2 (.slice po no co)
  have hB := HB4.out.setCell (p := ⟨w.heap.size + 1 + 1, 0, none⟩) (by show w.heap.size ≤ w.heap.size + 1 + 1; omega) (.int .i64 me) |>.setCell (p := ⟨w.heap.size + 1 + 1, 1, none⟩) (by show w.heap.size ≤ w.heap.size + 1 + 1; omega) (.slice (some ⟨b, o, none⟩) ni ci) |>.setCell (p := ⟨w.heap.size + 1 + 1, 2, none⟩) (by show w.heap.size ≤ w.heap.size + 1 + 1; omega) (.slice po no co)
  refine bodyPost_ret (v := .tuple #[.agg #[.int .i64 me, .slice (some ⟨b, o, none⟩) ni ci, .slice po no co], .int .i64 0]) (by simp [results, Try.results17, go_sem, hf.cell 0, hf.cell 1, hf.cell 2]) rfl ⟨rfl, hB⟩
 ·skip
  have e1 : (x.s != me) = true := by simpa using g
  have e2 : (x.b != me) = false := by simpa using g2
  clear g2
  clear g
  have b0 : w2.cell? ⟨w.heap.size, 0, none⟩ = some (.int .i64 me) := HK2.out.cell 0
  have b1 : w2.cell? ⟨w.heap.size, 1, none⟩ = some (.slice (some ⟨b, o, none⟩) ni ci) := HK2.out.cell 1
  have b2 : w2.cell? ⟨w.heap.size, 2, none⟩ = some (.slice po no co) := HK2.out.cell 2
  have x0 : w2.cell? ⟨w.heap.size + 1, 0, none⟩ = some (.int .i64 x.s) := HX2.out.cell 0
  have x1 : w2.cell? ⟨w.heap.size + 1, 1, none⟩ = some (.int .i64 x.n) := HX2.out.cell 1
  have x2 : w2.cell? ⟨w.heap.size + 1, 2, none⟩ = some (.int .i64 x.b) := HX2.out.cell 2
  have x3 : w2.cell? ⟨w.heap.size + 1, 3, none⟩ = some (.int .i64 x.c) := HX2.out.cell 3
  have x4 : w2.cell? ⟨w.heap.size + 1, 4, none⟩ = some (.int .i64 x.a) := HX2.out.cell 4
  have x5 : w2.cell? ⟨w.heap.size + 1, 5, none⟩ = some (.int .i64 x.r) := HX2.out.cell 5
  have x6 : w2.cell? ⟨w.heap.size + 1, 6, none⟩ = some (.int .i64 x.t) := HX2.out.cell 6
  have x7 : w2.cell? ⟨w.heap.size + 1, 7, none⟩ = some (.int .i64 x.y) := HX2.out.cell 7
  have r0 : w2.cell? ⟨w.heap.size + 1 + 1, 0, none⟩ = some (.int .i64 0) := HR2.out.cell 0
  have r1 : w2.cell? ⟨w.heap.size + 1 + 1, 1, none⟩ = some (.slice none 0 0) := HR2.out.cell 1
  have r2 : w2.cell? ⟨w.heap.size + 1 + 1, 2, none⟩ = some (.slice none 0 0) := HR2.out.cell 2
  have fr0 := HR2.out.free 0
  have fr1 := HR2.out.free 1
  have fr2 := HR2.out.free 2
  go_wp2_with fail
  refine (HF.out _ HB2.out).mono ?_
  rintro y w3 ⟨rfl, hb3⟩
  have HK3 := kbq HK2 hb3
  have HX3 := kbq HX2 hb3
  have HR3 := kbq HR2 hb3
  have HB3 := ktq HB2 hb3
  clear HF hb3 HK2 HX2 HR2 b0 b1 b2 x0 x1 x2 x3 x4 x5 x6 x7 r0 r1 r2 fr0 fr1 fr2
  have b0 : w3.cell? ⟨w.heap.size, 0, none⟩ = some (.int .i64 me) := HK3.out.cell 0
  have b1 : w3.cell? ⟨w.heap.size, 1, none⟩ = some (.slice (some ⟨b, o, none⟩) ni ci) := HK3.out.cell 1
  have b2 : w3.cell? ⟨w.heap.size, 2, none⟩ = some (.slice po no co) := HK3.out.cell 2
  have x0 : w3.cell? ⟨w.heap.size + 1, 0, none⟩ = some (.int .i64 x.s) := HX3.out.cell 0
  have x1 : w3.cell? ⟨w.heap.size + 1, 1, none⟩ = some (.int .i64 x.n) := HX3.out.cell 1
  have x2 : w3.cell? ⟨w.heap.size + 1, 2, none⟩ = some (.int .i64 x.b) := HX3.out.cell 2
  have x3 : w3.cell? ⟨w.heap.size + 1, 3, none⟩ = some (.int .i64 x.c) := HX3.out.cell 3
  have x4 : w3.cell? ⟨w.heap.size + 1, 4, none⟩ = some (.int .i64 x.a) := HX3.out.cell 4
  have x5 : w3.cell? ⟨w.heap.size + 1, 5, none⟩ = some (.int .i64 x.r) := HX3.out.cell 5
  have x6 : w3.cell? ⟨w.heap.size + 1, 6, none⟩ = some (.int .i64 x.t) := HX3.out.cell 6
  have x7 : w3.cell? ⟨w.heap.size + 1, 7, none⟩ = some (.int .i64 x.y) := HX3.out.cell 7
  have r0 : w3.cell? ⟨w.heap.size + 1 + 1, 0, none⟩ = some (.int .i64 0) := HR3.out.cell 0
  have r1 : w3.cell? ⟨w.heap.size + 1 + 1, 1, none⟩ = some (.slice none 0 0) := HR3.out.cell 1
  have r2 : w3.cell? ⟨w.heap.size + 1 + 1, 2, none⟩ = some (.slice none 0 0) := HR3.out.cell 2
  have fr0 := HR3.out.free 0
  have fr1 := HR3.out.free 1
  have fr2 := HR3.out.free 2
  go_wp2_with fail
  have q0 : w3.drew.cell? ⟨b, o + A.length * 8, none⟩ = some (.int .i64 x.s) := (HB3.out.cell (p := ⟨b, _, none⟩) HQB.out).trans (HQC.out 0 (by decide))
  have q1 : w3.drew.cell? ⟨b, o + A.length * 8 + 1, none⟩ = some (.int .i64 x.n) := (HB3.out.cell (p := ⟨b, _, none⟩) HQB.out).trans (HQC.out 1 (by decide))
  have q2 : w3.drew.cell? ⟨b, o + A.length * 8 + 2, none⟩ = some (.int .i64 x.b) := (HB3.out.cell (p := ⟨b, _, none⟩) HQB.out).trans (HQC.out 2 (by decide))
  have q3 : w3.drew.cell? ⟨b, o + A.length * 8 + 3, none⟩ = some (.int .i64 x.c) := (HB3.out.cell (p := ⟨b, _, none⟩) HQB.out).trans (HQC.out 3 (by decide))
  have q4 : w3.drew.cell? ⟨b, o + A.length * 8 + 4, none⟩ = some (.int .i64 x.a) := (HB3.out.cell (p := ⟨b, _, none⟩) HQB.out).trans (HQC.out 4 (by decide))
  have q5 : w3.drew.cell? ⟨b, o + A.length * 8 + 5, none⟩ = some (.int .i64 x.r) := (HB3.out.cell (p := ⟨b, _, none⟩) HQB.out).trans (HQC.out 5 (by decide))
  have q6 : w3.drew.cell? ⟨b, o + A.length * 8 + 6, none⟩ = some (.int .i64 x.t) := (HB3.out.cell (p := ⟨b, _, none⟩) HQB.out).trans (HQC.out 6 (by decide))
  have q7 : w3.drew.cell? ⟨b, o + A.length * 8 + 7, none⟩ = some (.int .i64 x.y) := (HB3.out.cell (p := ⟨b, _, none⟩) HQB.out).trans (HQC.out 7 (by decide))
  have hSQ : w3.drew.cell? ⟨w.heap.size, 1, none⟩ = some (.slice (some ⟨b, o, none⟩) ni ci) ∧ w3.drew.cell? ⟨b, o + A.length * 8, none⟩ = some (.int .i64 x.s) ∧ w3.drew.cell? ⟨b, o + A.length * 8 + 1, none⟩ = some (.int .i64 x.n) ∧ w3.drew.cell? ⟨b, o + A.length * 8 + 2, none⟩ = some (.int .i64 x.b) ∧ w3.drew.cell? ⟨b, o + A.length * 8 + 3, none⟩ = some (.int .i64 x.c) ∧ w3.drew.cell? ⟨b, o + A.length * 8 + 4, none⟩ = some (.int .i64 x.a) ∧ w3.drew.cell? ⟨b, o + A.length * 8 + 5, none⟩ = some (.int .i64 x.r) ∧ w3.drew.cell? ⟨b, o + A.length * 8 + 6, none⟩ = some (.int .i64 x.t) ∧ w3.drew.cell? ⟨b, o + A.length * 8 + 7, none⟩ = some (.int .i64 x.y) ∧ w3.drew.cell? ⟨w.heap.size + 1, 0, none⟩ = some (.int .i64 x.s) ∧ w3.drew.cell? ⟨w.heap.size + 1, 1, none⟩ = some (.int .i64 x.n) ∧ w3.drew.cell? ⟨w.heap.size + 1, 2, none⟩ = some (.int .i64 x.b) ∧ w3.drew.cell? ⟨w.heap.size + 1, 3, none⟩ = some (.int .i64 x.c) ∧ w3.drew.cell? ⟨w.heap.size + 1, 4, none⟩ = some (.int .i64 x.a) ∧ w3.drew.cell? ⟨w.heap.size + 1, 5, none⟩ = some (.int .i64 x.r) ∧ w3.drew.cell? ⟨w.heap.size + 1, 6, none⟩ = some (.int .i64 x.t) ∧ w3.drew.cell? ⟨w.heap.size + 1, 7, none⟩ = some (.int .i64 x.y) := ⟨b1, q0, q1, q2, q3, q4, q5, q6, q7, x0, x1, x2, x3, x4, x5, x6, x7⟩
  refine wp_region_held_drew (S := fun w' => w'.cell? ⟨w.heap.size, 1, none⟩ = some (.slice (some ⟨b, o, none⟩) ni ci) ∧ w'.cell? ⟨b, o + A.length * 8, none⟩ = some (.int .i64 x.s) ∧ w'.cell? ⟨b, o + A.length * 8 + 1, none⟩ = some (.int .i64 x.n) ∧ w'.cell? ⟨b, o + A.length * 8 + 2, none⟩ = some (.int .i64 x.b) ∧ w'.cell? ⟨b, o + A.length * 8 + 3, none⟩ = some (.int .i64 x.c) ∧ w'.cell? ⟨b, o + A.length * 8 + 4, none⟩ = some (.int .i64 x.a) ∧ w'.cell? ⟨b, o + A.length * 8 + 5, none⟩ = some (.int .i64 x.r) ∧ w'.cell? ⟨b, o + A.length * 8 + 6, none⟩ = some (.int .i64 x.t) ∧ w'.cell? ⟨b, o + A.length * 8 + 7, none⟩ = some (.int .i64 x.y) ∧ w'.cell? ⟨w.heap.size + 1, 0, none⟩ = some (.int .i64 x.s) ∧ w'.cell? ⟨w.heap.size + 1, 1, none⟩ = some (.int .i64 x.n) ∧ w'.cell? ⟨w.heap.size + 1, 2, none⟩ = some (.int .i64 x.b) ∧ w'.cell? ⟨w.heap.size + 1, 3, none⟩ = some (.int .i64 x.c) ∧ w'.cell? ⟨w.heap.size + 1, 4, none⟩ = some (.int .i64 x.a) ∧ w'.cell? ⟨w.heap.size + 1, 5, none⟩ = some (.int .i64 x.r) ∧ w'.cell? ⟨w.heap.size + 1, 6, none⟩ = some (.int .i64 x.t) ∧ w'.cell? ⟨w.heap.size + 1, 7, none⟩ = some (.int .i64 x.y)) (by kernel_rfl) hSQ (fun hS0 => ?_)
  refine tkq 0 ?_
  refine tkq 1 ?_
  refine tkq 2 ?_
  refine tkq 3 ?_
  refine tkq 4 ?_
  refine tkq 5 ?_
  refine tkq 6 ?_
  refine tkq 7 ?_
  refine tkq 8 ?_
  refine tkq 9 ?_
  refine wpAnyH_done (by kernel_rfl) ?_ _
  clear hSQ hS0
  clear b0 b1 b2 x0 x1 x2 x3 x4 x5 x6 x7 r0 r1 r2 fr0 fr1 fr2 q0 q1 q2 q3 q4 q5 q6 q7
  have HK4 : Hid (Blk w3.drew w.heap.size #[.int .i64 me, .slice (some ⟨b, o, none⟩) ni ci, .slice po no co] 28) := HK3.out
  have HX4 : Hid (Blk w3.drew (w.heap.size + 1) #[.int .i64 x.s, .int .i64 x.n, .int .i64 x.b, .int .i64 x.c, .int .i64 x.a, .int .i64 x.r, .int .i64 x.t, .int .i64 x.y] 54) := HX3.out
  have HR4 : Hid (Blk w3.drew (w.heap.size + 1 + 1) #[.int .i64 0, .slice none 0 0, .slice none 0 0] 28) := HR3.out
  have HB4 : Hid (Below w.heap.size w w3.drew) := HB3.out.drew
  clear HK3 HX3 HR3 HB3
  generalize w3.drew = w4 at *
  have b0 : w4.cell? ⟨w.heap.size, 0, none⟩ = some (.int .i64 me) := HK4.out.cell 0
  have b1 : w4.cell? ⟨w.heap.size, 1, none⟩ = some (.slice (some ⟨b, o, none⟩) ni ci) := HK4.out.cell 1
  have b2 : w4.cell? ⟨w.heap.size, 2, none⟩ = some (.slice po no co) := HK4.out.cell 2
  have x0 : w4.cell? ⟨w.heap.size + 1, 0, none⟩ = some (.int .i64 x.s) := HX4.out.cell 0
  have x1 : w4.cell? ⟨w.heap.size + 1, 1, none⟩ = some (.int .i64 x.n) := HX4.out.cell 1
  have x2 : w4.cell? ⟨w.heap.size + 1, 2, none⟩ = some (.int .i64 x.b) := HX4.out.cell 2
  have x3 : w4.cell? ⟨w.heap.size + 1, 3, none⟩ = some (.int .i64 x.c) := HX4.out.cell 3
  have x4 : w4.cell? ⟨w.heap.size + 1, 4, none⟩ = some (.int .i64 x.a) := HX4.out.cell 4
  have x5 : w4.cell? ⟨w.heap.size + 1, 5, none⟩ = some (.int .i64 x.r) := HX4.out.cell 5
  have x6 : w4.cell? ⟨w.heap.size + 1, 6, none⟩ = some (.int .i64 x.t) := HX4.out.cell 6
  have x7 : w4.cell? ⟨w.heap.size + 1, 7, none⟩ = some (.int .i64 x.y) := HX4.out.cell 7
  have r0 : w4.cell? ⟨w.heap.size + 1 + 1, 0, none⟩ = some (.int .i64 0) := HR4.out.cell 0
  have r1 : w4.cell? ⟨w.heap.size + 1 + 1, 1, none⟩ = some (.slice none 0 0) := HR4.out.cell 1
  have r2 : w4.cell? ⟨w.heap.size + 1 + 1, 2, none⟩ = some (.slice none 0 0) := HR4.out.cell 2
  have fr0 := HR4.out.free 0
  have fr1 := HR4.out.free 1
  have fr2 := HR4.out.free 2
  go_wp2_with fail
  have hf := ((HR4.out.set 0 (.int .i64 me)).set 1 (.slice (some ⟨b, o, none⟩) ni ci)).set 2 (.slice po no co)
  have hB := HB4.out.setCell (p := ⟨w.heap.size + 1 + 1, 0, none⟩) (by show w.heap.size ≤ w.heap.size + 1 + 1; omega) (.int .i64 me) |>.setCell (p := ⟨w.heap.size + 1 + 1, 1, none⟩) (by show w.heap.size ≤ w.heap.size + 1 + 1; omega) (.slice (some ⟨b, o, none⟩) ni ci) |>.setCell (p := ⟨w.heap.size + 1 + 1, 2, none⟩) (by show w.heap.size ≤ w.heap.size + 1 + 1; omega) (.slice po no co)
  refine bodyPost_ret (v := .tuple #[.agg #[.int .i64 me, .slice (some ⟨b, o, none⟩) ni ci, .slice po no co], .int .i64 0]) (by simp [results, Try.results17, go_sem, hf.cell 0, hf.cell 1, hf.cell 2]) rfl ⟨rfl, hB⟩
set_option linter.unusedSimpArgs false in
set_option maxHeartbeats 4000000 in
set_option maxRecDepth 100000 in
theorem put_other2 (w : World) (me : Int) (pi po : Option Addr) (ni ci no co : Nat) (x : Itm) (xs A B : List Itm) (q : Itm) (hr : TRow encI w (.slice pi ni ci) xs) (hl : xs.length = ni) (hA : AroundF posI ⟨x.s, x.n, 0⟩ xs A [q] B) (hn : ni ≤ 1024) (h : chkI x = 0) (h1 : x.s = me ∨ x.b = me) (h3 : q ≠ x) :
  Calls Try.prog 17 #[bookV me (.slice pi ni ci) (.slice po no co), x.v] w fun e w' => ∃ pi' ni' ci', e = .returned (.tuple #[.agg #[.int .i64 me, .slice pi' ni' ci', .slice po no co], .int .i64 0]) ∧ OwnT encI w' w.heap.size 54 (.slice pi' ni' ci') (A ++ [x] ++ B) ∧ Below w.heap.size w w' := by
 have hal : A.length < xs.length := by rw [hA.all]; simp <;> omega
 obtain ⟨b, o, hpv, hbl, hcs⟩ := hr.at_ A.length hal
 subst hpv
 have hq : xs[A.length] = q := by have e := hA.all; subst e; simp
 rw [hq] at hcs
 have hcap4 : ((A.length : Nat) : Int) < (ni : Int) := by omega
 have HQB := Lib.hid hbl
 have HQC := Lib.hid hcs
 clear hal hq hbl hcs
 have HCK := Lib.hid (fun (W : World) => check_any x W)
 rw [h] at HCK
 have HF := Lib.hid (fun (W : World) (hb : Below w.heap.size w W) => findI_any W me (.slice (some ⟨b, o, none⟩) ni ci) (.slice po no co) xs A [q] B x.s x.n (hr.kept hb) hA (by omega))
 rw [show decide (([q] : List Itm) ≠ []) = true by simp] at HF
 unfold idV at HF
 have H1 := Lib.hid h1
 have HW := Lib.hid (fun (W : World) (hb : Below w.heap.size w W) => withI_any W (.slice (some ⟨b, o, none⟩) ni ci) xs A [q] B _ x (hr.kept hb) hA (by omega))
 rw [show decide (([q] : List Itm) ≠ []) = true by simp] at HW
 unfold Itm.v at HW
 have H3 := Lib.hid h3
 clear hr hl hA hn h3
 clear h h1
 unfold Itm.v bookV at *
 go_enter Try.func17, Try.ntmps17
 go_wp2_with fail
 generalize hW1 : ((w.alloc (.cells #[.int .i64 me, .slice (some ⟨b, o, none⟩) ni ci, .slice po no co] 28)).alloc (.cells #[.int .i64 x.s, .int .i64 x.n, .int .i64 x.b, .int .i64 x.c, .int .i64 x.a, .int .i64 x.r, .int .i64 x.t, .int .i64 x.y] 54)).alloc (.cells #[.int .i64 0, .slice none 0 0, .slice none 0 0] 28) = W1
 have HB1 : Hid (Below w.heap.size w W1) := by show Below _ _ _; rw [← hW1]; exact ((oneB w _).alloc (by simp) _).alloc (by simp <;> omega) _
 have HK1 : Hid (Blk W1 w.heap.size #[.int .i64 me, .slice (some ⟨b, o, none⟩) ni ci, .slice po no co] 28) := by show Blk _ _ _ _; rw [← hW1]; exact ((Blk.new w _ _).alloc _).alloc _
 have HX1 : Hid (Blk W1 (w.heap.size + 1) #[.int .i64 x.s, .int .i64 x.n, .int .i64 x.b, .int .i64 x.c, .int .i64 x.a, .int .i64 x.r, .int .i64 x.t, .int .i64 x.y] 54) := by show Blk _ _ _ _; rw [← hW1]; exact (Blk.new' _ _ _ (by simp)).alloc _
 have HR1 : Hid (Blk W1 (w.heap.size + 1 + 1) #[.int .i64 0, .slice none 0 0, .slice none 0 0] 28) := by show Blk _ _ _ _; rw [← hW1]; exact Blk.new' _ _ _ (by simp)
 clear hW1
 refine (HCK.out _).mono ?_
 rintro y w2 ⟨rfl, hb2⟩
 have HK2 := kbq HK1 hb2
 have HX2 := kbq HX1 hb2
 have HR2 := kbq HR1 hb2
 have HB2 := ktq HB1 hb2
 clear HCK hb2 HK1 HX1 HR1
 rcases (show x.s = me ∨ (x.s ≠ me ∧ x.b = me) by rcases H1.out with h | h; exact .inl h; by_cases g : x.s = me; exact .inl g; exact .inr ⟨g, h⟩) with g | ⟨g, g2⟩
 ·skip
  have e1 : (x.s != me) = false := by simpa using g
  clear g
  have b0 : w2.cell? ⟨w.heap.size, 0, none⟩ = some (.int .i64 me) := HK2.out.cell 0
  have b1 : w2.cell? ⟨w.heap.size, 1, none⟩ = some (.slice (some ⟨b, o, none⟩) ni ci) := HK2.out.cell 1
  have b2 : w2.cell? ⟨w.heap.size, 2, none⟩ = some (.slice po no co) := HK2.out.cell 2
  have x0 : w2.cell? ⟨w.heap.size + 1, 0, none⟩ = some (.int .i64 x.s) := HX2.out.cell 0
  have x1 : w2.cell? ⟨w.heap.size + 1, 1, none⟩ = some (.int .i64 x.n) := HX2.out.cell 1
  have x2 : w2.cell? ⟨w.heap.size + 1, 2, none⟩ = some (.int .i64 x.b) := HX2.out.cell 2
  have x3 : w2.cell? ⟨w.heap.size + 1, 3, none⟩ = some (.int .i64 x.c) := HX2.out.cell 3
  have x4 : w2.cell? ⟨w.heap.size + 1, 4, none⟩ = some (.int .i64 x.a) := HX2.out.cell 4
  have x5 : w2.cell? ⟨w.heap.size + 1, 5, none⟩ = some (.int .i64 x.r) := HX2.out.cell 5
  have x6 : w2.cell? ⟨w.heap.size + 1, 6, none⟩ = some (.int .i64 x.t) := HX2.out.cell 6
  have x7 : w2.cell? ⟨w.heap.size + 1, 7, none⟩ = some (.int .i64 x.y) := HX2.out.cell 7
  have r0 : w2.cell? ⟨w.heap.size + 1 + 1, 0, none⟩ = some (.int .i64 0) := HR2.out.cell 0
  have r1 : w2.cell? ⟨w.heap.size + 1 + 1, 1, none⟩ = some (.slice none 0 0) := HR2.out.cell 1
  have r2 : w2.cell? ⟨w.heap.size + 1 + 1, 2, none⟩ = some (.slice none 0 0) := HR2.out.cell 2
  have fr0 := HR2.out.free 0
  have fr1 := HR2.out.free 1
  have fr2 := HR2.out.free 2
  go_wp2_with fail
  refine (HF.out _ HB2.out).mono ?_
  rintro y w3 ⟨rfl, hb3⟩
  have HK3 := kbq HK2 hb3
  have HX3 := kbq HX2 hb3
  have HR3 := kbq HR2 hb3
  have HB3 := ktq HB2 hb3
  clear HF hb3 HK2 HX2 HR2 b0 b1 b2 x0 x1 x2 x3 x4 x5 x6 x7 r0 r1 r2 fr0 fr1 fr2
  have b0 : w3.cell? ⟨w.heap.size, 0, none⟩ = some (.int .i64 me) := HK3.out.cell 0
  have b1 : w3.cell? ⟨w.heap.size, 1, none⟩ = some (.slice (some ⟨b, o, none⟩) ni ci) := HK3.out.cell 1
  have b2 : w3.cell? ⟨w.heap.size, 2, none⟩ = some (.slice po no co) := HK3.out.cell 2
  have x0 : w3.cell? ⟨w.heap.size + 1, 0, none⟩ = some (.int .i64 x.s) := HX3.out.cell 0
  have x1 : w3.cell? ⟨w.heap.size + 1, 1, none⟩ = some (.int .i64 x.n) := HX3.out.cell 1
  have x2 : w3.cell? ⟨w.heap.size + 1, 2, none⟩ = some (.int .i64 x.b) := HX3.out.cell 2
  have x3 : w3.cell? ⟨w.heap.size + 1, 3, none⟩ = some (.int .i64 x.c) := HX3.out.cell 3
  have x4 : w3.cell? ⟨w.heap.size + 1, 4, none⟩ = some (.int .i64 x.a) := HX3.out.cell 4
  have x5 : w3.cell? ⟨w.heap.size + 1, 5, none⟩ = some (.int .i64 x.r) := HX3.out.cell 5
  have x6 : w3.cell? ⟨w.heap.size + 1, 6, none⟩ = some (.int .i64 x.t) := HX3.out.cell 6
  have x7 : w3.cell? ⟨w.heap.size + 1, 7, none⟩ = some (.int .i64 x.y) := HX3.out.cell 7
  have r0 : w3.cell? ⟨w.heap.size + 1 + 1, 0, none⟩ = some (.int .i64 0) := HR3.out.cell 0
  have r1 : w3.cell? ⟨w.heap.size + 1 + 1, 1, none⟩ = some (.slice none 0 0) := HR3.out.cell 1
  have r2 : w3.cell? ⟨w.heap.size + 1 + 1, 2, none⟩ = some (.slice none 0 0) := HR3.out.cell 2
  have fr0 := HR3.out.free 0
  have fr1 := HR3.out.free 1
  have fr2 := HR3.out.free 2
  go_wp2_with fail
  have q0 : w3.drew.cell? ⟨b, o + A.length * 8, none⟩ = some (.int .i64 q.s) := (HB3.out.cell (p := ⟨b, _, none⟩) HQB.out).trans (HQC.out 0 (by decide))
  have q1 : w3.drew.cell? ⟨b, o + A.length * 8 + 1, none⟩ = some (.int .i64 q.n) := (HB3.out.cell (p := ⟨b, _, none⟩) HQB.out).trans (HQC.out 1 (by decide))
  have q2 : w3.drew.cell? ⟨b, o + A.length * 8 + 2, none⟩ = some (.int .i64 q.b) := (HB3.out.cell (p := ⟨b, _, none⟩) HQB.out).trans (HQC.out 2 (by decide))
  have q3 : w3.drew.cell? ⟨b, o + A.length * 8 + 3, none⟩ = some (.int .i64 q.c) := (HB3.out.cell (p := ⟨b, _, none⟩) HQB.out).trans (HQC.out 3 (by decide))
  have q4 : w3.drew.cell? ⟨b, o + A.length * 8 + 4, none⟩ = some (.int .i64 q.a) := (HB3.out.cell (p := ⟨b, _, none⟩) HQB.out).trans (HQC.out 4 (by decide))
  have q5 : w3.drew.cell? ⟨b, o + A.length * 8 + 5, none⟩ = some (.int .i64 q.r) := (HB3.out.cell (p := ⟨b, _, none⟩) HQB.out).trans (HQC.out 5 (by decide))
  have q6 : w3.drew.cell? ⟨b, o + A.length * 8 + 6, none⟩ = some (.int .i64 q.t) := (HB3.out.cell (p := ⟨b, _, none⟩) HQB.out).trans (HQC.out 6 (by decide))
  have q7 : w3.drew.cell? ⟨b, o + A.length * 8 + 7, none⟩ = some (.int .i64 q.y) := (HB3.out.cell (p := ⟨b, _, none⟩) HQB.out).trans (HQC.out 7 (by decide))
  have hSQ : w3.drew.cell? ⟨w.heap.size, 1, none⟩ = some (.slice (some ⟨b, o, none⟩) ni ci) ∧ w3.drew.cell? ⟨b, o + A.length * 8, none⟩ = some (.int .i64 q.s) ∧ w3.drew.cell? ⟨b, o + A.length * 8 + 1, none⟩ = some (.int .i64 q.n) ∧ w3.drew.cell? ⟨b, o + A.length * 8 + 2, none⟩ = some (.int .i64 q.b) ∧ w3.drew.cell? ⟨b, o + A.length * 8 + 3, none⟩ = some (.int .i64 q.c) ∧ w3.drew.cell? ⟨b, o + A.length * 8 + 4, none⟩ = some (.int .i64 q.a) ∧ w3.drew.cell? ⟨b, o + A.length * 8 + 5, none⟩ = some (.int .i64 q.r) ∧ w3.drew.cell? ⟨b, o + A.length * 8 + 6, none⟩ = some (.int .i64 q.t) ∧ w3.drew.cell? ⟨b, o + A.length * 8 + 7, none⟩ = some (.int .i64 q.y) ∧ w3.drew.cell? ⟨w.heap.size + 1, 0, none⟩ = some (.int .i64 x.s) ∧ w3.drew.cell? ⟨w.heap.size + 1, 1, none⟩ = some (.int .i64 x.n) ∧ w3.drew.cell? ⟨w.heap.size + 1, 2, none⟩ = some (.int .i64 x.b) ∧ w3.drew.cell? ⟨w.heap.size + 1, 3, none⟩ = some (.int .i64 x.c) ∧ w3.drew.cell? ⟨w.heap.size + 1, 4, none⟩ = some (.int .i64 x.a) ∧ w3.drew.cell? ⟨w.heap.size + 1, 5, none⟩ = some (.int .i64 x.r) ∧ w3.drew.cell? ⟨w.heap.size + 1, 6, none⟩ = some (.int .i64 x.t) ∧ w3.drew.cell? ⟨w.heap.size + 1, 7, none⟩ = some (.int .i64 x.y) := ⟨b1, q0, q1, q2, q3, q4, q5, q6, q7, x0, x1, x2, x3, x4, x5, x6, x7⟩
  refine wp_region_held_drew (S := fun w' => w'.cell? ⟨w.heap.size, 1, none⟩ = some (.slice (some ⟨b, o, none⟩) ni ci) ∧ w'.cell? ⟨b, o + A.length * 8, none⟩ = some (.int .i64 q.s) ∧ w'.cell? ⟨b, o + A.length * 8 + 1, none⟩ = some (.int .i64 q.n) ∧ w'.cell? ⟨b, o + A.length * 8 + 2, none⟩ = some (.int .i64 q.b) ∧ w'.cell? ⟨b, o + A.length * 8 + 3, none⟩ = some (.int .i64 q.c) ∧ w'.cell? ⟨b, o + A.length * 8 + 4, none⟩ = some (.int .i64 q.a) ∧ w'.cell? ⟨b, o + A.length * 8 + 5, none⟩ = some (.int .i64 q.r) ∧ w'.cell? ⟨b, o + A.length * 8 + 6, none⟩ = some (.int .i64 q.t) ∧ w'.cell? ⟨b, o + A.length * 8 + 7, none⟩ = some (.int .i64 q.y) ∧ w'.cell? ⟨w.heap.size + 1, 0, none⟩ = some (.int .i64 x.s) ∧ w'.cell? ⟨w.heap.size + 1, 1, none⟩ = some (.int .i64 x.n) ∧ w'.cell? ⟨w.heap.size + 1, 2, none⟩ = some (.int .i64 x.b) ∧ w'.cell? ⟨w.heap.size + 1, 3, none⟩ = some (.int .i64 x.c) ∧ w'.cell? ⟨w.heap.size + 1, 4, none⟩ = some (.int .i64 x.a) ∧ w'.cell? ⟨w.heap.size + 1, 5, none⟩ = some (.int .i64 x.r) ∧ w'.cell? ⟨w.heap.size + 1, 6, none⟩ = some (.int .i64 x.t) ∧ w'.cell? ⟨w.heap.size + 1, 7, none⟩ = some (.int .i64 x.y)) (by kernel_rfl) hSQ (fun hS0 => ?_)
  refine tkq 0 ?_
  refine tkq 1 ?_
  refine tkq 2 ?_
  refine tkq 3 ?_
  refine tkq 4 ?_
  refine tkq 5 ?_
  refine tkq 6 ?_
  refine tkq 7 ?_
  refine wpAnyH_take (i := 8) (v := .bool false) rfl (by kernel_rfl) (by kernel_rfl) (by kernel_rfl) (fun _ _ _ h => h) (Or.inl ⟨by kernel_rfl, ?_⟩) (by first | assumption | trivial) ?_
  ·intro w hSw
   try dsimp only at hSw
   go_simp
   exact ne8 H3.out
  try simp only [Act.put, List.getElem_toArray, List.getElem_cons_succ, List.getElem_cons_zero, List.setIfInBounds_toArray, List.set_cons_zero, List.set_cons_succ]
  refine tkq 9 ?_
  refine wpAnyH_done (by kernel_rfl) ?_ _
  clear hSQ hS0
  clear q0 q1 q2 q3 q4 q5 q6 q7
  clear b0 b1 b2 x0 x1 x2 x3 x4 x5 x6 x7 r0 r1 r2 fr0 fr1 fr2
  have b0 : w3.drew.cell? ⟨w.heap.size, 0, none⟩ = some (.int .i64 me) := HK3.out.cell 0
  have b1 : w3.drew.cell? ⟨w.heap.size, 1, none⟩ = some (.slice (some ⟨b, o, none⟩) ni ci) := HK3.out.cell 1
  have b2 : w3.drew.cell? ⟨w.heap.size, 2, none⟩ = some (.slice po no co) := HK3.out.cell 2
  have x0 : w3.drew.cell? ⟨w.heap.size + 1, 0, none⟩ = some (.int .i64 x.s) := HX3.out.cell 0
  have x1 : w3.drew.cell? ⟨w.heap.size + 1, 1, none⟩ = some (.int .i64 x.n) := HX3.out.cell 1
  have x2 : w3.drew.cell? ⟨w.heap.size + 1, 2, none⟩ = some (.int .i64 x.b) := HX3.out.cell 2
  have x3 : w3.drew.cell? ⟨w.heap.size + 1, 3, none⟩ = some (.int .i64 x.c) := HX3.out.cell 3
  have x4 : w3.drew.cell? ⟨w.heap.size + 1, 4, none⟩ = some (.int .i64 x.a) := HX3.out.cell 4
  have x5 : w3.drew.cell? ⟨w.heap.size + 1, 5, none⟩ = some (.int .i64 x.r) := HX3.out.cell 5
  have x6 : w3.drew.cell? ⟨w.heap.size + 1, 6, none⟩ = some (.int .i64 x.t) := HX3.out.cell 6
  have x7 : w3.drew.cell? ⟨w.heap.size + 1, 7, none⟩ = some (.int .i64 x.y) := HX3.out.cell 7
  have r0 : w3.drew.cell? ⟨w.heap.size + 1 + 1, 0, none⟩ = some (.int .i64 0) := HR3.out.cell 0
  have r1 : w3.drew.cell? ⟨w.heap.size + 1 + 1, 1, none⟩ = some (.slice none 0 0) := HR3.out.cell 1
  have r2 : w3.drew.cell? ⟨w.heap.size + 1 + 1, 2, none⟩ = some (.slice none 0 0) := HR3.out.cell 2
  have fr0 := HR3.out.free 0
  have fr1 := HR3.out.free 1
  have fr2 := HR3.out.free 2
  go_wp2_with fail
  refine (HW.out w3.drew HB3.out.drew).mono ?_
  rintro y w4 ⟨v4, rfl, ho4, hb4⟩
  obtain ⟨p4, c4, hv4⟩ := ho4.form
  generalize hn4 : (A ++ [x] ++ B).length = n4 at hv4
  subst hv4
  have hb4 : Below w3.heap.size w3 w4 := (Below.refl _ _).drew.trans hb4
  have HK4 := kbq HK3 hb4
  have HX4 := kbq HX3 hb4
  have HR4 := kbq HR3 hb4
  have HB4 := ktq HB3 hb4
  have HO4 := Lib.hid (ho4.less (show w.heap.size ≤ w3.drew.heap.size from HB3.out.size))
  have HLT := Lib.hid ho4.block_ge
  have HSZ := Lib.hid (show w.heap.size + 1 + 1 < w3.drew.heap.size from HR3.out.lt)
  clear HW hb4 ho4 HK3 HX3 HR3 hn4 b0 b1 b2 x0 x1 x2 x3 x4 x5 x6 x7 r0 r1 r2 fr0 fr1 fr2
  have b0 : w4.cell? ⟨w.heap.size, 0, none⟩ = some (.int .i64 me) := HK4.out.cell 0
  have b1 : w4.cell? ⟨w.heap.size, 1, none⟩ = some (.slice (some ⟨b, o, none⟩) ni ci) := HK4.out.cell 1
  have b2 : w4.cell? ⟨w.heap.size, 2, none⟩ = some (.slice po no co) := HK4.out.cell 2
  have x0 : w4.cell? ⟨w.heap.size + 1, 0, none⟩ = some (.int .i64 x.s) := HX4.out.cell 0
  have x1 : w4.cell? ⟨w.heap.size + 1, 1, none⟩ = some (.int .i64 x.n) := HX4.out.cell 1
  have x2 : w4.cell? ⟨w.heap.size + 1, 2, none⟩ = some (.int .i64 x.b) := HX4.out.cell 2
  have x3 : w4.cell? ⟨w.heap.size + 1, 3, none⟩ = some (.int .i64 x.c) := HX4.out.cell 3
  have x4 : w4.cell? ⟨w.heap.size + 1, 4, none⟩ = some (.int .i64 x.a) := HX4.out.cell 4
  have x5 : w4.cell? ⟨w.heap.size + 1, 5, none⟩ = some (.int .i64 x.r) := HX4.out.cell 5
  have x6 : w4.cell? ⟨w.heap.size + 1, 6, none⟩ = some (.int .i64 x.t) := HX4.out.cell 6
  have x7 : w4.cell? ⟨w.heap.size + 1, 7, none⟩ = some (.int .i64 x.y) := HX4.out.cell 7
  have r0 : w4.cell? ⟨w.heap.size + 1 + 1, 0, none⟩ = some (.int .i64 0) := HR4.out.cell 0
  have r1 : w4.cell? ⟨w.heap.size + 1 + 1, 1, none⟩ = some (.slice none 0 0) := HR4.out.cell 1
  have r2 : w4.cell? ⟨w.heap.size + 1 + 1, 2, none⟩ = some (.slice none 0 0) := HR4.out.cell 2
  have fr0 := HR4.out.free 0
  have fr1 := HR4.out.free 1
  have fr2 := HR4.out.free 2
  have fb1 := HK4.out.free 1
  go_wp2_with fail
  have hK5 := HK4.out.set 1 (.slice p4 n4 c4)
  have hR5 := HR4.out.setOther (a := ⟨w.heap.size, 1, none⟩) (by show w.heap.size ≠ w.heap.size + 1 + 1; omega) (.slice p4 n4 c4)
  have hf := ((hR5.set 0 (.int .i64 me)).set 1 (.slice p4 n4 c4)).set 2 (.slice po no co)
  have hB := HB4.out.setCell (p := ⟨w.heap.size, 1, none⟩) (Nat.le_refl _) (.slice p4 n4 c4) |>.setCell (p := ⟨w.heap.size + 1 + 1, 0, none⟩) (by show w.heap.size ≤ w.heap.size + 1 + 1; omega) (.int .i64 me) |>.setCell (p := ⟨w.heap.size + 1 + 1, 1, none⟩) (by show w.heap.size ≤ w.heap.size + 1 + 1; omega) (.slice p4 n4 c4) |>.setCell (p := ⟨w.heap.size + 1 + 1, 2, none⟩) (by show w.heap.size ≤ w.heap.size + 1 + 1; omega) (.slice po no co)
  have hO : OwnT encI (World.setCell (World.setCell (World.setCell (World.setCell w4 ⟨w.heap.size, 1, none⟩ (.slice p4 n4 c4)) ⟨w.heap.size + 1 + 1, 0, none⟩ (.int .i64 me)) ⟨w.heap.size + 1 + 1, 1, none⟩ (.slice p4 n4 c4)) ⟨w.heap.size + 1 + 1, 2, none⟩ (.slice po no co)) w.heap.size 54 (.slice p4 n4 c4) (A ++ [x] ++ B) := by
   refine HO4.out.stay (fun g hg => ?_)
   have hge := HLT.out g hg
   have hsz : w.heap.size + 1 + 1 < w3.drew.heap.size := HSZ.out
   rw [Below.heap_setCell _ _ _ g (by show g ≠ w.heap.size + 1 + 1; omega), Below.heap_setCell _ _ _ g (by show g ≠ w.heap.size + 1 + 1; omega), Below.heap_setCell _ _ _ g (by show g ≠ w.heap.size + 1 + 1; omega), Below.heap_setCell _ _ _ g (by show g ≠ w.heap.size; omega)]
  refine bodyPost_ret (v := .tuple #[.agg #[.int .i64 me, .slice p4 n4 c4, .slice po no co], .int .i64 0]) (by simp [results, Try.results17, go_sem, hf.cell 0, hf.cell 1, hf.cell 2]) rfl ⟨_, _, _, rfl, hO, hB⟩
 ·skip
  have e1 : (x.s != me) = true := by simpa using g
  have e2 : (x.b != me) = false := by simpa using g2
  clear g2
  clear g
  have b0 : w2.cell? ⟨w.heap.size, 0, none⟩ = some (.int .i64 me) := HK2.out.cell 0
  have b1 : w2.cell? ⟨w.heap.size, 1, none⟩ = some (.slice (some ⟨b, o, none⟩) ni ci) := HK2.out.cell 1
  have b2 : w2.cell? ⟨w.heap.size, 2, none⟩ = some (.slice po no co) := HK2.out.cell 2
  have x0 : w2.cell? ⟨w.heap.size + 1, 0, none⟩ = some (.int .i64 x.s) := HX2.out.cell 0
  have x1 : w2.cell? ⟨w.heap.size + 1, 1, none⟩ = some (.int .i64 x.n) := HX2.out.cell 1
  have x2 : w2.cell? ⟨w.heap.size + 1, 2, none⟩ = some (.int .i64 x.b) := HX2.out.cell 2
  have x3 : w2.cell? ⟨w.heap.size + 1, 3, none⟩ = some (.int .i64 x.c) := HX2.out.cell 3
  have x4 : w2.cell? ⟨w.heap.size + 1, 4, none⟩ = some (.int .i64 x.a) := HX2.out.cell 4
  have x5 : w2.cell? ⟨w.heap.size + 1, 5, none⟩ = some (.int .i64 x.r) := HX2.out.cell 5
  have x6 : w2.cell? ⟨w.heap.size + 1, 6, none⟩ = some (.int .i64 x.t) := HX2.out.cell 6
  have x7 : w2.cell? ⟨w.heap.size + 1, 7, none⟩ = some (.int .i64 x.y) := HX2.out.cell 7
  have r0 : w2.cell? ⟨w.heap.size + 1 + 1, 0, none⟩ = some (.int .i64 0) := HR2.out.cell 0
  have r1 : w2.cell? ⟨w.heap.size + 1 + 1, 1, none⟩ = some (.slice none 0 0) := HR2.out.cell 1
  have r2 : w2.cell? ⟨w.heap.size + 1 + 1, 2, none⟩ = some (.slice none 0 0) := HR2.out.cell 2
  have fr0 := HR2.out.free 0
  have fr1 := HR2.out.free 1
  have fr2 := HR2.out.free 2
  go_wp2_with fail
  refine (HF.out _ HB2.out).mono ?_
  rintro y w3 ⟨rfl, hb3⟩
  have HK3 := kbq HK2 hb3
  have HX3 := kbq HX2 hb3
  have HR3 := kbq HR2 hb3
  have HB3 := ktq HB2 hb3
  clear HF hb3 HK2 HX2 HR2 b0 b1 b2 x0 x1 x2 x3 x4 x5 x6 x7 r0 r1 r2 fr0 fr1 fr2
  have b0 : w3.cell? ⟨w.heap.size, 0, none⟩ = some (.int .i64 me) := HK3.out.cell 0
  have b1 : w3.cell? ⟨w.heap.size, 1, none⟩ = some (.slice (some ⟨b, o, none⟩) ni ci) := HK3.out.cell 1
  have b2 : w3.cell? ⟨w.heap.size, 2, none⟩ = some (.slice po no co) := HK3.out.cell 2
  have x0 : w3.cell? ⟨w.heap.size + 1, 0, none⟩ = some (.int .i64 x.s) := HX3.out.cell 0
  have x1 : w3.cell? ⟨w.heap.size + 1, 1, none⟩ = some (.int .i64 x.n) := HX3.out.cell 1
  have x2 : w3.cell? ⟨w.heap.size + 1, 2, none⟩ = some (.int .i64 x.b) := HX3.out.cell 2
  have x3 : w3.cell? ⟨w.heap.size + 1, 3, none⟩ = some (.int .i64 x.c) := HX3.out.cell 3
  have x4 : w3.cell? ⟨w.heap.size + 1, 4, none⟩ = some (.int .i64 x.a) := HX3.out.cell 4
  have x5 : w3.cell? ⟨w.heap.size + 1, 5, none⟩ = some (.int .i64 x.r) := HX3.out.cell 5
  have x6 : w3.cell? ⟨w.heap.size + 1, 6, none⟩ = some (.int .i64 x.t) := HX3.out.cell 6
  have x7 : w3.cell? ⟨w.heap.size + 1, 7, none⟩ = some (.int .i64 x.y) := HX3.out.cell 7
  have r0 : w3.cell? ⟨w.heap.size + 1 + 1, 0, none⟩ = some (.int .i64 0) := HR3.out.cell 0
  have r1 : w3.cell? ⟨w.heap.size + 1 + 1, 1, none⟩ = some (.slice none 0 0) := HR3.out.cell 1
  have r2 : w3.cell? ⟨w.heap.size + 1 + 1, 2, none⟩ = some (.slice none 0 0) := HR3.out.cell 2
  have fr0 := HR3.out.free 0
  have fr1 := HR3.out.free 1
  have fr2 := HR3.out.free 2
  go_wp2_with fail
  have q0 : w3.drew.cell? ⟨b, o + A.length * 8, none⟩ = some (.int .i64 q.s) := (HB3.out.cell (p := ⟨b, _, none⟩) HQB.out).trans (HQC.out 0 (by decide))
  have q1 : w3.drew.cell? ⟨b, o + A.length * 8 + 1, none⟩ = some (.int .i64 q.n) := (HB3.out.cell (p := ⟨b, _, none⟩) HQB.out).trans (HQC.out 1 (by decide))
  have q2 : w3.drew.cell? ⟨b, o + A.length * 8 + 2, none⟩ = some (.int .i64 q.b) := (HB3.out.cell (p := ⟨b, _, none⟩) HQB.out).trans (HQC.out 2 (by decide))
  have q3 : w3.drew.cell? ⟨b, o + A.length * 8 + 3, none⟩ = some (.int .i64 q.c) := (HB3.out.cell (p := ⟨b, _, none⟩) HQB.out).trans (HQC.out 3 (by decide))
  have q4 : w3.drew.cell? ⟨b, o + A.length * 8 + 4, none⟩ = some (.int .i64 q.a) := (HB3.out.cell (p := ⟨b, _, none⟩) HQB.out).trans (HQC.out 4 (by decide))
  have q5 : w3.drew.cell? ⟨b, o + A.length * 8 + 5, none⟩ = some (.int .i64 q.r) := (HB3.out.cell (p := ⟨b, _, none⟩) HQB.out).trans (HQC.out 5 (by decide))
  have q6 : w3.drew.cell? ⟨b, o + A.length * 8 + 6, none⟩ = some (.int .i64 q.t) := (HB3.out.cell (p := ⟨b, _, none⟩) HQB.out).trans (HQC.out 6 (by decide))
  have q7 : w3.drew.cell? ⟨b, o + A.length * 8 + 7, none⟩ = some (.int .i64 q.y) := (HB3.out.cell (p := ⟨b, _, none⟩) HQB.out).trans (HQC.out 7 (by decide))
  have hSQ : w3.drew.cell? ⟨w.heap.size, 1, none⟩ = some (.slice (some ⟨b, o, none⟩) ni ci) ∧ w3.drew.cell? ⟨b, o + A.length * 8, none⟩ = some (.int .i64 q.s) ∧ w3.drew.cell? ⟨b, o + A.length * 8 + 1, none⟩ = some (.int .i64 q.n) ∧ w3.drew.cell? ⟨b, o + A.length * 8 + 2, none⟩ = some (.int .i64 q.b) ∧ w3.drew.cell? ⟨b, o + A.length * 8 + 3, none⟩ = some (.int .i64 q.c) ∧ w3.drew.cell? ⟨b, o + A.length * 8 + 4, none⟩ = some (.int .i64 q.a) ∧ w3.drew.cell? ⟨b, o + A.length * 8 + 5, none⟩ = some (.int .i64 q.r) ∧ w3.drew.cell? ⟨b, o + A.length * 8 + 6, none⟩ = some (.int .i64 q.t) ∧ w3.drew.cell? ⟨b, o + A.length * 8 + 7, none⟩ = some (.int .i64 q.y) ∧ w3.drew.cell? ⟨w.heap.size + 1, 0, none⟩ = some (.int .i64 x.s) ∧ w3.drew.cell? ⟨w.heap.size + 1, 1, none⟩ = some (.int .i64 x.n) ∧ w3.drew.cell? ⟨w.heap.size + 1, 2, none⟩ = some (.int .i64 x.b) ∧ w3.drew.cell? ⟨w.heap.size + 1, 3, none⟩ = some (.int .i64 x.c) ∧ w3.drew.cell? ⟨w.heap.size + 1, 4, none⟩ = some (.int .i64 x.a) ∧ w3.drew.cell? ⟨w.heap.size + 1, 5, none⟩ = some (.int .i64 x.r) ∧ w3.drew.cell? ⟨w.heap.size + 1, 6, none⟩ = some (.int .i64 x.t) ∧ w3.drew.cell? ⟨w.heap.size + 1, 7, none⟩ = some (.int .i64 x.y) := ⟨b1, q0, q1, q2, q3, q4, q5, q6, q7, x0, x1, x2, x3, x4, x5, x6, x7⟩
  refine wp_region_held_drew (S := fun w' => w'.cell? ⟨w.heap.size, 1, none⟩ = some (.slice (some ⟨b, o, none⟩) ni ci) ∧ w'.cell? ⟨b, o + A.length * 8, none⟩ = some (.int .i64 q.s) ∧ w'.cell? ⟨b, o + A.length * 8 + 1, none⟩ = some (.int .i64 q.n) ∧ w'.cell? ⟨b, o + A.length * 8 + 2, none⟩ = some (.int .i64 q.b) ∧ w'.cell? ⟨b, o + A.length * 8 + 3, none⟩ = some (.int .i64 q.c) ∧ w'.cell? ⟨b, o + A.length * 8 + 4, none⟩ = some (.int .i64 q.a) ∧ w'.cell? ⟨b, o + A.length * 8 + 5, none⟩ = some (.int .i64 q.r) ∧ w'.cell? ⟨b, o + A.length * 8 + 6, none⟩ = some (.int .i64 q.t) ∧ w'.cell? ⟨b, o + A.length * 8 + 7, none⟩ = some (.int .i64 q.y) ∧ w'.cell? ⟨w.heap.size + 1, 0, none⟩ = some (.int .i64 x.s) ∧ w'.cell? ⟨w.heap.size + 1, 1, none⟩ = some (.int .i64 x.n) ∧ w'.cell? ⟨w.heap.size + 1, 2, none⟩ = some (.int .i64 x.b) ∧ w'.cell? ⟨w.heap.size + 1, 3, none⟩ = some (.int .i64 x.c) ∧ w'.cell? ⟨w.heap.size + 1, 4, none⟩ = some (.int .i64 x.a) ∧ w'.cell? ⟨w.heap.size + 1, 5, none⟩ = some (.int .i64 x.r) ∧ w'.cell? ⟨w.heap.size + 1, 6, none⟩ = some (.int .i64 x.t) ∧ w'.cell? ⟨w.heap.size + 1, 7, none⟩ = some (.int .i64 x.y)) (by kernel_rfl) hSQ (fun hS0 => ?_)
  refine tkq 0 ?_
  refine tkq 1 ?_
  refine tkq 2 ?_
  refine tkq 3 ?_
  refine tkq 4 ?_
  refine tkq 5 ?_
  refine tkq 6 ?_
  refine tkq 7 ?_
  refine wpAnyH_take (i := 8) (v := .bool false) rfl (by kernel_rfl) (by kernel_rfl) (by kernel_rfl) (fun _ _ _ h => h) (Or.inl ⟨by kernel_rfl, ?_⟩) (by first | assumption | trivial) ?_
  ·intro w hSw
   try dsimp only at hSw
   go_simp
   exact ne8 H3.out
  try simp only [Act.put, List.getElem_toArray, List.getElem_cons_succ, List.getElem_cons_zero, List.setIfInBounds_toArray, List.set_cons_zero, List.set_cons_succ]
  refine tkq 9 ?_
  refine wpAnyH_done (by kernel_rfl) ?_ _
  clear hSQ hS0
  clear q0 q1 q2 q3 q4 q5 q6 q7
  clear b0 b1 b2 x0 x1 x2 x3 x4 x5 x6 x7 r0 r1 r2 fr0 fr1 fr2
  have b0 : w3.drew.cell? ⟨w.heap.size, 0, none⟩ = some (.int .i64 me) := HK3.out.cell 0
  have b1 : w3.drew.cell? ⟨w.heap.size, 1, none⟩ = some (.slice (some ⟨b, o, none⟩) ni ci) := HK3.out.cell 1
  have b2 : w3.drew.cell? ⟨w.heap.size, 2, none⟩ = some (.slice po no co) := HK3.out.cell 2
  have x0 : w3.drew.cell? ⟨w.heap.size + 1, 0, none⟩ = some (.int .i64 x.s) := HX3.out.cell 0
  have x1 : w3.drew.cell? ⟨w.heap.size + 1, 1, none⟩ = some (.int .i64 x.n) := HX3.out.cell 1
  have x2 : w3.drew.cell? ⟨w.heap.size + 1, 2, none⟩ = some (.int .i64 x.b) := HX3.out.cell 2
  have x3 : w3.drew.cell? ⟨w.heap.size + 1, 3, none⟩ = some (.int .i64 x.c) := HX3.out.cell 3
  have x4 : w3.drew.cell? ⟨w.heap.size + 1, 4, none⟩ = some (.int .i64 x.a) := HX3.out.cell 4
  have x5 : w3.drew.cell? ⟨w.heap.size + 1, 5, none⟩ = some (.int .i64 x.r) := HX3.out.cell 5
  have x6 : w3.drew.cell? ⟨w.heap.size + 1, 6, none⟩ = some (.int .i64 x.t) := HX3.out.cell 6
  have x7 : w3.drew.cell? ⟨w.heap.size + 1, 7, none⟩ = some (.int .i64 x.y) := HX3.out.cell 7
  have r0 : w3.drew.cell? ⟨w.heap.size + 1 + 1, 0, none⟩ = some (.int .i64 0) := HR3.out.cell 0
  have r1 : w3.drew.cell? ⟨w.heap.size + 1 + 1, 1, none⟩ = some (.slice none 0 0) := HR3.out.cell 1
  have r2 : w3.drew.cell? ⟨w.heap.size + 1 + 1, 2, none⟩ = some (.slice none 0 0) := HR3.out.cell 2
  have fr0 := HR3.out.free 0
  have fr1 := HR3.out.free 1
  have fr2 := HR3.out.free 2
  go_wp2_with fail
  refine (HW.out w3.drew HB3.out.drew).mono ?_
  rintro y w4 ⟨v4, rfl, ho4, hb4⟩
  obtain ⟨p4, c4, hv4⟩ := ho4.form
  generalize hn4 : (A ++ [x] ++ B).length = n4 at hv4
  subst hv4
  have hb4 : Below w3.heap.size w3 w4 := (Below.refl _ _).drew.trans hb4
  have HK4 := kbq HK3 hb4
  have HX4 := kbq HX3 hb4
  have HR4 := kbq HR3 hb4
  have HB4 := ktq HB3 hb4
  have HO4 := Lib.hid (ho4.less (show w.heap.size ≤ w3.drew.heap.size from HB3.out.size))
  have HLT := Lib.hid ho4.block_ge
  have HSZ := Lib.hid (show w.heap.size + 1 + 1 < w3.drew.heap.size from HR3.out.lt)
  clear HW hb4 ho4 HK3 HX3 HR3 hn4 b0 b1 b2 x0 x1 x2 x3 x4 x5 x6 x7 r0 r1 r2 fr0 fr1 fr2
  have b0 : w4.cell? ⟨w.heap.size, 0, none⟩ = some (.int .i64 me) := HK4.out.cell 0
  have b1 : w4.cell? ⟨w.heap.size, 1, none⟩ = some (.slice (some ⟨b, o, none⟩) ni ci) := HK4.out.cell 1
  have b2 : w4.cell? ⟨w.heap.size, 2, none⟩ = some (.slice po no co) := HK4.out.cell 2
  have x0 : w4.cell? ⟨w.heap.size + 1, 0, none⟩ = some (.int .i64 x.s) := HX4.out.cell 0
  have x1 : w4.cell? ⟨w.heap.size + 1, 1, none⟩ = some (.int .i64 x.n) := HX4.out.cell 1
  have x2 : w4.cell? ⟨w.heap.size + 1, 2, none⟩ = some (.int .i64 x.b) := HX4.out.cell 2
  have x3 : w4.cell? ⟨w.heap.size + 1, 3, none⟩ = some (.int .i64 x.c) := HX4.out.cell 3
  have x4 : w4.cell? ⟨w.heap.size + 1, 4, none⟩ = some (.int .i64 x.a) := HX4.out.cell 4
  have x5 : w4.cell? ⟨w.heap.size + 1, 5, none⟩ = some (.int .i64 x.r) := HX4.out.cell 5
  have x6 : w4.cell? ⟨w.heap.size + 1, 6, none⟩ = some (.int .i64 x.t) := HX4.out.cell 6
  have x7 : w4.cell? ⟨w.heap.size + 1, 7, none⟩ = some (.int .i64 x.y) := HX4.out.cell 7
  have r0 : w4.cell? ⟨w.heap.size + 1 + 1, 0, none⟩ = some (.int .i64 0) := HR4.out.cell 0
  have r1 : w4.cell? ⟨w.heap.size + 1 + 1, 1, none⟩ = some (.slice none 0 0) := HR4.out.cell 1
  have r2 : w4.cell? ⟨w.heap.size + 1 + 1, 2, none⟩ = some (.slice none 0 0) := HR4.out.cell 2
  have fr0 := HR4.out.free 0
  have fr1 := HR4.out.free 1
  have fr2 := HR4.out.free 2
  have fb1 := HK4.out.free 1
  go_wp2_with fail
  have hK5 := HK4.out.set 1 (.slice p4 n4 c4)
  have hR5 := HR4.out.setOther (a := ⟨w.heap.size, 1, none⟩) (by show w.heap.size ≠ w.heap.size + 1 + 1; omega) (.slice p4 n4 c4)
  have hf := ((hR5.set 0 (.int .i64 me)).set 1 (.slice p4 n4 c4)).set 2 (.slice po no co)
  have hB := HB4.out.setCell (p := ⟨w.heap.size, 1, none⟩) (Nat.le_refl _) (.slice p4 n4 c4) |>.setCell (p := ⟨w.heap.size + 1 + 1, 0, none⟩) (by show w.heap.size ≤ w.heap.size + 1 + 1; omega) (.int .i64 me) |>.setCell (p := ⟨w.heap.size + 1 + 1, 1, none⟩) (by show w.heap.size ≤ w.heap.size + 1 + 1; omega) (.slice p4 n4 c4) |>.setCell (p := ⟨w.heap.size + 1 + 1, 2, none⟩) (by show w.heap.size ≤ w.heap.size + 1 + 1; omega) (.slice po no co)
  have hO : OwnT encI (World.setCell (World.setCell (World.setCell (World.setCell w4 ⟨w.heap.size, 1, none⟩ (.slice p4 n4 c4)) ⟨w.heap.size + 1 + 1, 0, none⟩ (.int .i64 me)) ⟨w.heap.size + 1 + 1, 1, none⟩ (.slice p4 n4 c4)) ⟨w.heap.size + 1 + 1, 2, none⟩ (.slice po no co)) w.heap.size 54 (.slice p4 n4 c4) (A ++ [x] ++ B) := by
   refine HO4.out.stay (fun g hg => ?_)
   have hge := HLT.out g hg
   have hsz : w.heap.size + 1 + 1 < w3.drew.heap.size := HSZ.out
   rw [Below.heap_setCell _ _ _ g (by show g ≠ w.heap.size + 1 + 1; omega), Below.heap_setCell _ _ _ g (by show g ≠ w.heap.size + 1 + 1; omega), Below.heap_setCell _ _ _ g (by show g ≠ w.heap.size + 1 + 1; omega), Below.heap_setCell _ _ _ g (by show g ≠ w.heap.size; omega)]
  refine bodyPost_ret (v := .tuple #[.agg #[.int .i64 me, .slice p4 n4 c4, .slice po no co], .int .i64 0]) (by simp [results, Try.results17, go_sem, hf.cell 0, hf.cell 1, hf.cell 2]) rfl ⟨_, _, _, rfl, hO, hB⟩
end Go.Proofs.Ytmhocihajobkkaa
namespace Go.Proofs.Ytmhocihajobkkaa
open Go.RowKit
theorem put_ok (w : World) (me : Int) (pi po : Option Addr) (ni ci no co : Nat) (x : Itm) (xs A mid B : List Itm) (hr : TRow encI w (.slice pi ni ci) xs) (hl : xs.length = ni) (hA : AroundF posI ⟨x.s, x.n, 0⟩ xs A mid B) (hn : ni < 1024) (h : chkI x = 0) (h1 : x.s = me ∨ x.b = me) :
  Calls Try.prog 17 #[bookV me (.slice pi ni ci) (.slice po no co), x.v] w fun e w' => ∃ pi' ni' ci', e = .returned (.tuple #[bookV me (.slice pi' ni' ci') (.slice po no co), .int .i64 0]) ∧ TRow encI w' (.slice pi' ni' ci') (A ++ [x] ++ B) ∧ ni' = (A ++ [x] ++ B).length ∧ Below w.heap.size w w' ∧ (∀ k, (Value.slice pi' ni' ci').ownBlock = some k → (Value.slice pi ni ci).ownBlock = some k ∨ w.heap.size ≤ k) := by
 rcases hA.mid1 with rfl | ⟨q, rfl, _⟩
 ·refine (put_new w me pi po ni ci no co x xs A B hr hl hA (by omega) h h1 hn).mono ?_
  rintro e w' ⟨p', n', c', rfl, ho, hb⟩
  refine ⟨p', n', c', rfl, ho.row, ?_, hb, fun k hk => .inr (ho.block_ge k hk)⟩
  obtain ⟨p2, c2, e1⟩ := ho.form
  exact (Value.slice.inj e1).2.1
 ·by_cases hq : q = x
  ·refine (put_same w me pi po ni ci no co x xs A B q hr hl hA (by omega) h h1 hq).mono ?_
   rintro e w' ⟨rfl, hb⟩
   have hx : xs = A ++ [x] ++ B := by rw [hA.all, hq]
   exact ⟨pi, ni, ci, rfl, by rw [← hx]; exact hr.kept hb, by rw [← hx]; exact hl.symm, hb, fun k hk => .inl hk⟩
  ·refine (put_other2 w me pi po ni ci no co x xs A B q hr hl hA (by omega) h h1 hq).mono ?_
   rintro e w' ⟨p', n', c', rfl, ho, hb⟩
   refine ⟨p', n', c', rfl, ho.row, ?_, hb, fun k hk => .inr (ho.block_ge k hk)⟩
   obtain ⟨p2, c2, e1⟩ := ho.form
   exact (Value.slice.inj e1).2.1
end Go.Proofs.Ytmhocihajobkkaa
namespace Go.Proofs.Ytmhocihajobkkaa
open Go.RowKit
def putX (me : Int) (X : List Itm) (x : Itm) : List Itm := if chkI x = 0 ∧ (x.s = me ∨ x.b = me) then insX X x else X
def putE (me : Int) (x : Itm) : Int := if chkI x = 0 then (if x.s = me ∨ x.b = me then 0 else 140) else chkI x
def foldX (me : Int) (X l : List Itm) : List Itm := l.foldl (putX me) X
def GoodB (me : Int) (X : List Itm) : Prop := SortedP (X.map posI) ∧ ∀ x ∈ X, chkI x = 0 ∧ (x.s = me ∨ x.b = me)
theorem goodB_nil (me : Int) : GoodB me [] := ⟨List.Pairwise.nil, fun _ h => by cases h⟩
theorem ins_mem {X : List Itm} {x z : Itm} (h : z ∈ insX X x) : z = x ∨ z ∈ X := by
 unfold insX at h
 rcases List.mem_append.1 h with h | h
 ·rcases List.mem_append.1 h with h | h
  ·exact .inr (List.mem_filter.1 h).1
  ·exact .inl (List.mem_singleton.1 h)
 ·exact .inr (List.mem_filter.1 h).1
theorem ins_len {X : List Itm} {x : Itm} (hs : SortedP (X.map posI)) : (insX X x).length ≤ X.length + 1 := by
 obtain ⟨A, mid, B, hA⟩ := aroundF_of_sorted posI (posI x) X hs
 exact (ins_around hA).2
theorem putX_good {me : Int} {X : List Itm} {x : Itm} (h : GoodB me X) : GoodB me (putX me X x) := by
 unfold putX
 split
 ·rename_i hx
  exact ⟨ins_sorted h.1, fun z hz => (ins_mem hz).elim (fun e => e ▸ hx) (h.2 z)⟩
 ·exact h
theorem putX_len {me : Int} {X : List Itm} {x : Itm} (h : GoodB me X) : (putX me X x).length ≤ X.length + 1 := by
 unfold putX
 split
 ·exact ins_len h.1
 ·omega
theorem foldX_good {me : Int} : ∀ {l X : List Itm}, GoodB me X → GoodB me (foldX me X l)
 | [], _, h => h
 | _ :: l, _, h => foldX_good (l := l) (putX_good h)
theorem foldX_len {me : Int} : ∀ {l X : List Itm}, GoodB me X → (foldX me X l).length ≤ X.length + l.length
 | [], _, _ => Nat.le_refl _
 | x :: l, X, h => by
  have h1 := foldX_len (l := l) (putX_good (x := x) h)
  have h2 := putX_len (x := x) h
  have e : foldX me X (x :: l) = foldX me (putX me X x) l := rfl
  rw [e, List.length_cons]
  omega
theorem foldX_take {me : Int} {X l : List Itm} {k : Nat} (hk : k < l.length) : foldX me X (l.take (k + 1)) = putX me (foldX me X (l.take k)) l[k] := by
 unfold foldX
 rw [List.take_succ_eq_append_getElem hk, List.foldl_append]
 rfl
theorem goodB_ok {me : Int} {X : List Itm} (h : GoodB me X) : ∀ x ∈ X, 1 ≤ x.a ∧ x.a ≤ 1125899906842624 := by
 intro x hx
 obtain ⟨_, h2, _⟩ := chk_ok (h.2 x hx).1
 unfold numsOk at h2
 omega
theorem put_any (w : World) (me : Int) (pi po : Option Addr) (ni ci no co : Nat) (x : Itm) (xs : List Itm) (hr : TRow encI w (.slice pi ni ci) xs) (hl : xs.length = ni) (hs : SortedP (xs.map posI)) (hn : ni < 1024) :
  Calls Try.prog 17 #[bookV me (.slice pi ni ci) (.slice po no co), x.v] w fun e w' => ∃ pi' ni' ci', e = .returned (.tuple #[bookV me (.slice pi' ni' ci') (.slice po no co), .int .i64 (putE me x)]) ∧ TRow encI w' (.slice pi' ni' ci') (putX me xs x) ∧ ni' = (putX me xs x).length ∧ Below w.heap.size w w' ∧ (∀ k, (Value.slice pi' ni' ci').ownBlock = some k → (Value.slice pi ni ci).ownBlock = some k ∨ w.heap.size ≤ k) := by
 by_cases h : chkI x = 0
 ·by_cases h1 : x.s = me ∨ x.b = me
  ·obtain ⟨A, mid, B, hA⟩ := aroundF_of_sorted posI (posI x) xs hs
   have e1 : putX me xs x = A ++ [x] ++ B := by unfold putX; rw [if_pos ⟨h, h1⟩, (ins_around hA).1]
   have e2 : putE me x = 0 := by unfold putE; rw [if_pos h, if_pos h1]
   rw [e1, e2]
   exact put_ok w me pi po ni ci no co x xs A mid B hr hl hA hn h h1
  ·have e1 : putX me xs x = xs := by unfold putX; rw [if_neg (fun h2 => h1 h2.2)]
   have e2 : putE me x = 140 := by unfold putE; rw [if_pos h, if_neg h1]
   rw [e1, e2]
   refine (put_other w me pi po ni ci no co x h (fun e => h1 (.inl e)) (fun e => h1 (.inr e))).mono ?_
   rintro e w' ⟨rfl, hb⟩
   exact ⟨pi, ni, ci, rfl, hr.kept hb, hl.symm, hb, fun k hk => .inl hk⟩
 ·have e1 : putX me xs x = xs := by unfold putX; rw [if_neg (fun h2 => h h2.1)]
  have e2 : putE me x = chkI x := by unfold putE; rw [if_neg h]
  rw [e1, e2]
  refine (put_chk w me pi po ni ci no co x h).mono ?_
  rintro e w' ⟨rfl, hb⟩
  exact ⟨pi, ni, ci, rfl, hr.kept hb, hl.symm, hb, fun k hk => .inl hk⟩
end Go.Proofs.Ytmhocihajobkkaa
namespace Go.Proofs.Ytmhocihajobkkaa
open Go.RowKit
set_option linter.unusedSimpArgs false in
set_option maxHeartbeats 4000000 in
set_option maxRecDepth 100000 in
theorem newB_any (w : World) (me : Int) (h : 0 ≤ me ∧ me < 8) : Calls Try.prog 16 #[.int .i64 me] w fun e w' => e = .returned (.tuple #[bookV me (.slice none 0 0) (.slice none 0 0), .int .i64 0]) ∧ Below w.heap.size w w' := by
 have h1 : ¬ me < 0 := by omega
 have h2 : ¬ (8 : Int) ≤ me := by omega
 unfold bookV
 clear h
 go_enter Try.func16, Try.ntmps16
 go_wp2
 refine bodyPost_ret (v := .tuple #[.agg #[.int .i64 me, .slice none 0 0, .slice none 0 0], .int .i64 0]) (by simp [results, Try.results16, go_sem]) rfl ⟨rfl, ?_⟩
 exact oneB w _
end Go.Proofs.Ytmhocihajobkkaa
namespace Go.Proofs.Ytmhocihajobkkaa
open Go.RowKit
set_option linter.unusedSimpArgs false in
set_option maxHeartbeats 4000000 in
set_option maxRecDepth 100000 in
theorem get_found (w : World) (me : Int) (pi po : Option Addr) (ni ci no co : Nat) (s n : Int) (xs A B : List Itm) (q : Itm) (hr : TRow encI w (.slice pi ni ci) xs) (hl : xs.length = ni) (hA : AroundF posI ⟨s, n, 0⟩ xs A [q] B) (hn : ni ≤ 2000) :
  Calls Try.prog 10 #[bookV me (.slice pi ni ci) (.slice po no co), idV s n] w fun e w' => e = .returned (.tuple #[q.v, .bool true]) ∧ Below w.heap.size w w' := by
 have hal : A.length < xs.length := by rw [hA.all]; simp <;> omega
 obtain ⟨b, o, hpv, hbl, hcs⟩ := hr.at_ A.length hal
 subst hpv
 have hq : xs[A.length] = q := by have e := hA.all; subst e; simp
 rw [hq] at hcs
 have hcap4 : ((A.length : Nat) : Int) < ((ni : Nat) : Int) := by omega
 have HQB := Lib.hid hbl
 have HQC := Lib.hid hcs
 clear hal hq hbl hcs
 have HF := Lib.hid (fun (W : World) (hb : Below w.heap.size w W) => findI_any W me (.slice (some ⟨b, o, none⟩) ni ci) (.slice po no co) xs A [q] B s n (hr.kept hb) hA (by omega))
 rw [show decide (([q] : List Itm) ≠ []) = true by simp] at HF
 unfold idV bookV at *
 unfold Itm.v
 clear hr hl hA hn
 go_enter Try.func10, Try.ntmps10
 go_wp2_with fail
 generalize hW1 : ((w.alloc (.cells #[.int .i64 me, .slice (some ⟨b, o, none⟩) ni ci, .slice po no co] 28)).alloc (.cells #[.int .i64 s, .int .i64 n] 42)).alloc (.cells #[.int .i64 0, .int .i64 0, .int .i64 0, .int .i64 0, .int .i64 0, .int .i64 0, .int .i64 0, .int .i64 0] 54) = W1
 have HB1 : Hid (Below w.heap.size w W1) := by show Below _ _ _; rw [← hW1]; exact ((oneB w _).alloc (by simp) _).alloc (by simp <;> omega) _
 have HK1 : Hid (Blk W1 w.heap.size #[.int .i64 me, .slice (some ⟨b, o, none⟩) ni ci, .slice po no co] 28) := by show Blk _ _ _ _; rw [← hW1]; exact ((Blk.new w _ _).alloc _).alloc _
 have HX1 : Hid (Blk W1 (w.heap.size + 1) #[.int .i64 s, .int .i64 n] 42) := by show Blk _ _ _ _; rw [← hW1]; exact (Blk.new' _ _ _ (by simp)).alloc _
 have HR1 : Hid (Blk W1 (w.heap.size + 1 + 1) #[.int .i64 0, .int .i64 0, .int .i64 0, .int .i64 0, .int .i64 0, .int .i64 0, .int .i64 0, .int .i64 0] 54) := by show Blk _ _ _ _; rw [← hW1]; exact Blk.new' _ _ _ (by simp)
 clear hW1
 refine (HF.out _ HB1.out).mono ?_
 rintro y w2 ⟨rfl, hb2⟩
 have HK2 := kbq HK1 hb2
 have HX2 := kbq HX1 hb2
 have HR2 := kbq HR1 hb2
 have HB2 := ktq HB1 hb2
 clear HF hb2 HK1 HX1 HR1
 have b0 : w2.cell? ⟨w.heap.size, 0, none⟩ = some (.int .i64 me) := HK2.out.cell 0
 have b1 : w2.cell? ⟨w.heap.size, 1, none⟩ = some (.slice (some ⟨b, o, none⟩) ni ci) := HK2.out.cell 1
 have b2 : w2.cell? ⟨w.heap.size, 2, none⟩ = some (.slice po no co) := HK2.out.cell 2
 have r0 : w2.cell? ⟨w.heap.size + 1 + 1, 0, none⟩ = some (.int .i64 0) := HR2.out.cell 0
 have fr0 := HR2.out.free 0
 have r1 : w2.cell? ⟨w.heap.size + 1 + 1, 1, none⟩ = some (.int .i64 0) := HR2.out.cell 1
 have fr1 := HR2.out.free 1
 have r2 : w2.cell? ⟨w.heap.size + 1 + 1, 2, none⟩ = some (.int .i64 0) := HR2.out.cell 2
 have fr2 := HR2.out.free 2
 have r3 : w2.cell? ⟨w.heap.size + 1 + 1, 3, none⟩ = some (.int .i64 0) := HR2.out.cell 3
 have fr3 := HR2.out.free 3
 have r4 : w2.cell? ⟨w.heap.size + 1 + 1, 4, none⟩ = some (.int .i64 0) := HR2.out.cell 4
 have fr4 := HR2.out.free 4
 have r5 : w2.cell? ⟨w.heap.size + 1 + 1, 5, none⟩ = some (.int .i64 0) := HR2.out.cell 5
 have fr5 := HR2.out.free 5
 have r6 : w2.cell? ⟨w.heap.size + 1 + 1, 6, none⟩ = some (.int .i64 0) := HR2.out.cell 6
 have fr6 := HR2.out.free 6
 have r7 : w2.cell? ⟨w.heap.size + 1 + 1, 7, none⟩ = some (.int .i64 0) := HR2.out.cell 7
 have fr7 := HR2.out.free 7
 have q0 : w2.cell? ⟨b, o + A.length * 8, none⟩ = some (.int .i64 q.s) := (HB2.out.cell (p := ⟨b, _, none⟩) HQB.out).trans (HQC.out 0 (by decide))
 have q1 : w2.cell? ⟨b, o + A.length * 8 + 1, none⟩ = some (.int .i64 q.n) := (HB2.out.cell (p := ⟨b, _, none⟩) HQB.out).trans (HQC.out 1 (by decide))
 have q2 : w2.cell? ⟨b, o + A.length * 8 + 2, none⟩ = some (.int .i64 q.b) := (HB2.out.cell (p := ⟨b, _, none⟩) HQB.out).trans (HQC.out 2 (by decide))
 have q3 : w2.cell? ⟨b, o + A.length * 8 + 3, none⟩ = some (.int .i64 q.c) := (HB2.out.cell (p := ⟨b, _, none⟩) HQB.out).trans (HQC.out 3 (by decide))
 have q4 : w2.cell? ⟨b, o + A.length * 8 + 4, none⟩ = some (.int .i64 q.a) := (HB2.out.cell (p := ⟨b, _, none⟩) HQB.out).trans (HQC.out 4 (by decide))
 have q5 : w2.cell? ⟨b, o + A.length * 8 + 5, none⟩ = some (.int .i64 q.r) := (HB2.out.cell (p := ⟨b, _, none⟩) HQB.out).trans (HQC.out 5 (by decide))
 have q6 : w2.cell? ⟨b, o + A.length * 8 + 6, none⟩ = some (.int .i64 q.t) := (HB2.out.cell (p := ⟨b, _, none⟩) HQB.out).trans (HQC.out 6 (by decide))
 have q7 : w2.cell? ⟨b, o + A.length * 8 + 7, none⟩ = some (.int .i64 q.y) := (HB2.out.cell (p := ⟨b, _, none⟩) HQB.out).trans (HQC.out 7 (by decide))
 go_wp2_with fail
 have hf1 := HR2.out.set 0 (.int .i64 q.s)
 have hb1 := HB2.out.setCell (p := ⟨w.heap.size + 1 + 1, 0, none⟩) (by show w.heap.size ≤ w.heap.size + 1 + 1; omega) (.int .i64 q.s)
 have hf2 := hf1.set 1 (.int .i64 q.n)
 have hb2 := hb1.setCell (p := ⟨w.heap.size + 1 + 1, 1, none⟩) (by show w.heap.size ≤ w.heap.size + 1 + 1; omega) (.int .i64 q.n)
 have hf3 := hf2.set 2 (.int .i64 q.b)
 have hb3 := hb2.setCell (p := ⟨w.heap.size + 1 + 1, 2, none⟩) (by show w.heap.size ≤ w.heap.size + 1 + 1; omega) (.int .i64 q.b)
 have hf4 := hf3.set 3 (.int .i64 q.c)
 have hb4 := hb3.setCell (p := ⟨w.heap.size + 1 + 1, 3, none⟩) (by show w.heap.size ≤ w.heap.size + 1 + 1; omega) (.int .i64 q.c)
 have hf5 := hf4.set 4 (.int .i64 q.a)
 have hb5 := hb4.setCell (p := ⟨w.heap.size + 1 + 1, 4, none⟩) (by show w.heap.size ≤ w.heap.size + 1 + 1; omega) (.int .i64 q.a)
 have hf6 := hf5.set 5 (.int .i64 q.r)
 have hb6 := hb5.setCell (p := ⟨w.heap.size + 1 + 1, 5, none⟩) (by show w.heap.size ≤ w.heap.size + 1 + 1; omega) (.int .i64 q.r)
 have hf7 := hf6.set 6 (.int .i64 q.t)
 have hb7 := hb6.setCell (p := ⟨w.heap.size + 1 + 1, 6, none⟩) (by show w.heap.size ≤ w.heap.size + 1 + 1; omega) (.int .i64 q.t)
 have hf8 := hf7.set 7 (.int .i64 q.y)
 have hb8 := hb7.setCell (p := ⟨w.heap.size + 1 + 1, 7, none⟩) (by show w.heap.size ≤ w.heap.size + 1 + 1; omega) (.int .i64 q.y)
 refine bodyPost_ret (v := .tuple #[.agg #[.int .i64 q.s, .int .i64 q.n, .int .i64 q.b, .int .i64 q.c, .int .i64 q.a, .int .i64 q.r, .int .i64 q.t, .int .i64 q.y], .bool true]) (by simp [results, Try.results10, go_sem, hf8.cell 0, hf8.cell 1, hf8.cell 2, hf8.cell 3, hf8.cell 4, hf8.cell 5, hf8.cell 6, hf8.cell 7]) rfl ⟨rfl, hb8⟩
set_option linter.unusedSimpArgs false in
set_option maxHeartbeats 4000000 in
set_option maxRecDepth 100000 in
theorem get_none (w : World) (me : Int) (pi po : Option Addr) (ni ci no co : Nat) (s n : Int) (xs A B : List Itm) (hr : TRow encI w (.slice pi ni ci) xs) (hl : xs.length = ni) (hA : AroundF posI ⟨s, n, 0⟩ xs A [] B) (hn : ni ≤ 2000) :
  Calls Try.prog 10 #[bookV me (.slice pi ni ci) (.slice po no co), idV s n] w fun e w' => e = .returned (.tuple #[.agg #[.int .i64 0, .int .i64 0, .int .i64 0, .int .i64 0, .int .i64 0, .int .i64 0, .int .i64 0, .int .i64 0], .bool false]) ∧ Below w.heap.size w w' := by
 have HF := Lib.hid (fun (W : World) (hb : Below w.heap.size w W) => findI_any W me (.slice pi ni ci) (.slice po no co) xs A [] B s n (hr.kept hb) hA (by omega))
 rw [show decide (([] : List Itm) ≠ []) = false by simp] at HF
 unfold idV bookV at *
 clear hr hl hA hn
 go_enter Try.func10, Try.ntmps10
 go_wp2_with fail
 generalize hW1 : ((w.alloc (.cells #[.int .i64 me, .slice pi ni ci, .slice po no co] 28)).alloc (.cells #[.int .i64 s, .int .i64 n] 42)).alloc (.cells #[.int .i64 0, .int .i64 0, .int .i64 0, .int .i64 0, .int .i64 0, .int .i64 0, .int .i64 0, .int .i64 0] 54) = W1
 have HB1 : Hid (Below w.heap.size w W1) := by show Below _ _ _; rw [← hW1]; exact ((oneB w _).alloc (by simp) _).alloc (by simp <;> omega) _
 have HK1 : Hid (Blk W1 w.heap.size #[.int .i64 me, .slice pi ni ci, .slice po no co] 28) := by show Blk _ _ _ _; rw [← hW1]; exact ((Blk.new w _ _).alloc _).alloc _
 have HX1 : Hid (Blk W1 (w.heap.size + 1) #[.int .i64 s, .int .i64 n] 42) := by show Blk _ _ _ _; rw [← hW1]; exact (Blk.new' _ _ _ (by simp)).alloc _
 have HR1 : Hid (Blk W1 (w.heap.size + 1 + 1) #[.int .i64 0, .int .i64 0, .int .i64 0, .int .i64 0, .int .i64 0, .int .i64 0, .int .i64 0, .int .i64 0] 54) := by show Blk _ _ _ _; rw [← hW1]; exact Blk.new' _ _ _ (by simp)
 clear hW1
 refine (HF.out _ HB1.out).mono ?_
 rintro y w2 ⟨rfl, hb2⟩
 have HK2 := kbq HK1 hb2
 have HX2 := kbq HX1 hb2
 have HR2 := kbq HR1 hb2
 have HB2 := ktq HB1 hb2
 clear HF hb2 HK1 HX1 HR1
 have b0 : w2.cell? ⟨w.heap.size, 0, none⟩ = some (.int .i64 me) := HK2.out.cell 0
 have b1 : w2.cell? ⟨w.heap.size, 1, none⟩ = some (.slice pi ni ci) := HK2.out.cell 1
 have b2 : w2.cell? ⟨w.heap.size, 2, none⟩ = some (.slice po no co) := HK2.out.cell 2
 have r0 : w2.cell? ⟨w.heap.size + 1 + 1, 0, none⟩ = some (.int .i64 0) := HR2.out.cell 0
 have fr0 := HR2.out.free 0
 have r1 : w2.cell? ⟨w.heap.size + 1 + 1, 1, none⟩ = some (.int .i64 0) := HR2.out.cell 1
 have fr1 := HR2.out.free 1
 have r2 : w2.cell? ⟨w.heap.size + 1 + 1, 2, none⟩ = some (.int .i64 0) := HR2.out.cell 2
 have fr2 := HR2.out.free 2
 have r3 : w2.cell? ⟨w.heap.size + 1 + 1, 3, none⟩ = some (.int .i64 0) := HR2.out.cell 3
 have fr3 := HR2.out.free 3
 have r4 : w2.cell? ⟨w.heap.size + 1 + 1, 4, none⟩ = some (.int .i64 0) := HR2.out.cell 4
 have fr4 := HR2.out.free 4
 have r5 : w2.cell? ⟨w.heap.size + 1 + 1, 5, none⟩ = some (.int .i64 0) := HR2.out.cell 5
 have fr5 := HR2.out.free 5
 have r6 : w2.cell? ⟨w.heap.size + 1 + 1, 6, none⟩ = some (.int .i64 0) := HR2.out.cell 6
 have fr6 := HR2.out.free 6
 have r7 : w2.cell? ⟨w.heap.size + 1 + 1, 7, none⟩ = some (.int .i64 0) := HR2.out.cell 7
 have fr7 := HR2.out.free 7
 go_wp2_with fail
 have hf1 := HR2.out.set 0 (.int .i64 0)
 have hb1 := HB2.out.setCell (p := ⟨w.heap.size + 1 + 1, 0, none⟩) (by show w.heap.size ≤ w.heap.size + 1 + 1; omega) (.int .i64 0)
 have hf2 := hf1.set 1 (.int .i64 0)
 have hb2 := hb1.setCell (p := ⟨w.heap.size + 1 + 1, 1, none⟩) (by show w.heap.size ≤ w.heap.size + 1 + 1; omega) (.int .i64 0)
 have hf3 := hf2.set 2 (.int .i64 0)
 have hb3 := hb2.setCell (p := ⟨w.heap.size + 1 + 1, 2, none⟩) (by show w.heap.size ≤ w.heap.size + 1 + 1; omega) (.int .i64 0)
 have hf4 := hf3.set 3 (.int .i64 0)
 have hb4 := hb3.setCell (p := ⟨w.heap.size + 1 + 1, 3, none⟩) (by show w.heap.size ≤ w.heap.size + 1 + 1; omega) (.int .i64 0)
 have hf5 := hf4.set 4 (.int .i64 0)
 have hb5 := hb4.setCell (p := ⟨w.heap.size + 1 + 1, 4, none⟩) (by show w.heap.size ≤ w.heap.size + 1 + 1; omega) (.int .i64 0)
 have hf6 := hf5.set 5 (.int .i64 0)
 have hb6 := hb5.setCell (p := ⟨w.heap.size + 1 + 1, 5, none⟩) (by show w.heap.size ≤ w.heap.size + 1 + 1; omega) (.int .i64 0)
 have hf7 := hf6.set 6 (.int .i64 0)
 have hb7 := hb6.setCell (p := ⟨w.heap.size + 1 + 1, 6, none⟩) (by show w.heap.size ≤ w.heap.size + 1 + 1; omega) (.int .i64 0)
 have hf8 := hf7.set 7 (.int .i64 0)
 have hb8 := hb7.setCell (p := ⟨w.heap.size + 1 + 1, 7, none⟩) (by show w.heap.size ≤ w.heap.size + 1 + 1; omega) (.int .i64 0)
 refine bodyPost_ret (v := .tuple #[.agg #[.int .i64 0, .int .i64 0, .int .i64 0, .int .i64 0, .int .i64 0, .int .i64 0, .int .i64 0, .int .i64 0], .bool false]) (by simp [results, Try.results10, go_sem, hf8.cell 0, hf8.cell 1, hf8.cell 2, hf8.cell 3, hf8.cell 4, hf8.cell 5, hf8.cell 6, hf8.cell 7]) rfl ⟨rfl, hb8⟩
end Go.Proofs.Ytmhocihajobkkaa
namespace Go.Proofs.Ytmhocihajobkkaa
open Go.RowKit
/-- The item, the order of a name. -/
def findX (xs : List Itm) (s n : Int) : Option Itm := xs.find? (fun x => decide (x.s = s ∧ x.n = n))
theorem find_around {α : Type} {f : α → Pos} {xs A mid B : List α} {s n : Int} (h : AroundF f ⟨s, n, 0⟩ xs A mid B) : xs.find? (fun x => decide ((f x).e = s ∧ (f x).c = n)) = mid.head? := by
 have hA : A.find? (fun x => decide ((f x).e = s ∧ (f x).c = n)) = none := by
  rw [List.find?_eq_none]
  intro x hx
  have := h.pos.ahead (f x) (List.mem_map.2 ⟨x, hx, rfl⟩)
  rw [ordP_lt] at this
  simp only [decide_eq_true_eq, not_and]
  dsimp only at this
  omega
 have hB : B.find? (fun x => decide ((f x).e = s ∧ (f x).c = n)) = none := by
  rw [List.find?_eq_none]
  intro x hx
  have := h.pos.behind (f x) (List.mem_map.2 ⟨x, hx, rfl⟩)
  rw [ordP_gt] at this
  simp only [decide_eq_true_eq, not_and]
  dsimp only at this
  omega
 rw [h.all, List.append_assoc, List.find?_append, hA, List.find?_append, hB]
 rcases h.mid1 with rfl | ⟨q, rfl, hq⟩
 ·rfl
 ·rw [ordP_eq] at hq
  dsimp only at hq
  simp [hq]
theorem findX_around {xs A mid B : List Itm} {s n : Int} (h : AroundF posI ⟨s, n, 0⟩ xs A mid B) : findX xs s n = mid.head? := find_around h
def SortX (xs : List Itm) : Prop := SortedP (xs.map posI)
theorem dget_any (w : World) (me : Int) (pi po : Option Addr) (ni ci no co : Nat) (s n : Int) (xs : List Itm) (hr : TRow encI w (.slice pi ni ci) xs) (hl : xs.length = ni) (hs : SortX xs) (hn : ni ≤ 2000) :
  Calls Try.prog 10 #[bookV me (.slice pi ni ci) (.slice po no co), idV s n] w fun e w' => e = .returned (.tuple #[((findX xs s n).getD itm0).v, .bool (findX xs s n).isSome]) ∧ Below w.heap.size w w' := by
 obtain ⟨A, mid, B, hA⟩ := aroundF_of_sorted posI ⟨s, n, 0⟩ xs hs
 rw [findX_around hA]
 rcases hA.mid1 with rfl | ⟨q, rfl, _⟩
 ·exact get_none w me pi po ni ci no co s n xs A B hr hl hA hn
 ·exact get_found w me pi po ni ci no co s n xs A B q hr hl hA hn
end Go.Proofs.Ytmhocihajobkkaa
namespace Go.Proofs.Ytmhocihajobkkaa
open Go.RowKit
theorem insX_len {X : List Itm} {x : Itm} (hs : SortX X) : (insX X x).length ≤ X.length + 1 := by
 obtain ⟨A, mid, B, hA⟩ := aroundF_of_sorted posI (posI x) X hs
 exact (ins_around hA).2
theorem dput_any (w : World) (me : Int) (pi po : Option Addr) (ni ci no co : Nat) (x : Itm) (xs : List Itm) (P : Nat → Prop) (hr : TRow encI w (.slice pi ni ci) xs) (hl : xs.length = ni) (hs : SortX xs) (hn : ni < 1024) (h : chkI x = 0) (h1 : x.s = me ∨ x.b = me) (hat : At P (.slice pi ni ci) xs.length) :
  Calls Try.prog 17 #[bookV me (.slice pi ni ci) (.slice po no co), x.v] w fun e w' => ∃ pi' ci', e = .returned (.tuple #[bookV me (.slice pi' (insX xs x).length ci') (.slice po no co), .int .i64 0]) ∧ TRow encI w' (.slice pi' (insX xs x).length ci') (insX xs x) ∧ At (fun b => P b ∨ w.heap.size ≤ b) (.slice pi' (insX xs x).length ci') (insX xs x).length ∧ Below w.heap.size w w' := by
 obtain ⟨A, mid, B, hA⟩ := aroundF_of_sorted posI (posI x) xs hs
 have hins := (ins_around hA).1
 have own : ∀ e w', (∃ pi' ni' ci', e = Ending.returned (.tuple #[.agg #[.int .i64 me, .slice pi' ni' ci', .slice po no co], .int .i64 0]) ∧ OwnT encI w' w.heap.size 54 (.slice pi' ni' ci') (A ++ [x] ++ B) ∧ Below w.heap.size w w') → ∃ pi' ci', e = .returned (.tuple #[bookV me (.slice pi' (insX xs x).length ci') (.slice po no co), .int .i64 0]) ∧ TRow encI w' (.slice pi' (insX xs x).length ci') (insX xs x) ∧ At (fun b => P b ∨ w.heap.size ≤ b) (.slice pi' (insX xs x).length ci') (insX xs x).length ∧ Below w.heap.size w w' := by
  rintro e w' ⟨pi', ni', ci', rfl, ho, hb⟩
  rw [hins] at ho
  obtain ⟨p, c, e1⟩ := ho.form
  cases e1
  exact ⟨_, _, rfl, ho.row, ho.at_P (fun b hb => .inr hb), hb⟩
 rcases hA.mid1 with rfl | ⟨q, rfl, _⟩
 ·exact (put_new w me pi po ni ci no co x xs A B hr hl hA (by omega) h h1 hn).mono own
 ·by_cases hq : q = x
  ·refine (put_same w me pi po ni ci no co x xs A B q hr hl hA (by omega) h h1 hq).mono ?_
   rintro e w' ⟨rfl, hb⟩
   have hx : xs = insX xs x := by rw [← hins, ← hq]; exact hA.all
   have hlen : (insX xs x).length = ni := by rw [← hx]; exact hl
   refine ⟨pi, ci, by rw [hlen]; rfl, ?_, ?_, hb⟩
   ·rw [hlen, ← hx]; exact hr.kept hb
   ·rw [hlen]
    rw [hl] at hat
    exact hat.imp (fun b hb => .inl hb)
  ·exact (put_other2 w me pi po ni ci no co x xs A B q hr hl hA (by omega) h h1 hq).mono own
end Go.Proofs.Ytmhocihajobkkaa
namespace Go.Proofs.Ytmhocihajobkkaa
open Go.RowKit
set_option linter.unusedSimpArgs false
/-- The document's items with an item as it is now. -/
def cputF (xs : List Itm) (x : Itm) : List Itm :=
 match xs.findIdx? (fun z => decide (z.s = x.s ∧ z.n = x.n)) with
 | some k => xs.set k x
 | none => xs ++ [x]
theorem cput_at {xs : List Itm} {x : Itm} {r : Int} (h : AtI xs x.s x.n r) : cputL xs x r = cputF xs x := by
 unfold cputF
 rcases h with ⟨k, hk, rfl, h1, h2, h3⟩ | ⟨rfl, h⟩
 ·have e : xs.findIdx? (fun z => decide (z.s = x.s ∧ z.n = x.n)) = some k := by
   rw [List.findIdx?_eq_some_iff_getElem]
   refine ⟨hk, decide_eq_true ⟨h1, h2⟩, fun j hj => ?_⟩
   have h4 := h3 j (by omega) hj
   simpa using h4
  rw [e]
  unfold cputL
  rw [if_neg (by omega), Int.toNat_natCast]
 ·have e : xs.findIdx? (fun z => decide (z.s = x.s ∧ z.n = x.n)) = none := by
   rw [List.findIdx?_eq_none_iff]
   intro z hz
   exact decide_eq_false (h z hz)
  rw [e]
  unfold cputL
  rw [if_pos (by decide)]
theorem cputF_len (xs : List Itm) (x : Itm) : (cputF xs x).length ≤ xs.length + 1 := by
 unfold cputF
 split <;> simp
/-- The document's items behind one more that is put, if it can be. -/
def fillS (L : List Itm) (x : Itm) : List Itm := if putE 0 x = 0 then cputF L x else L
def fillD (l : List Itm) : List Itm := l.foldl fillS []
theorem fillD_take {l : List Itm} {k : Nat} (hk : k < l.length) : fillD (l.take (k + 1)) = fillS (fillD (l.take k)) l[k] := by
 unfold fillD
 rw [List.take_succ_eq_append_getElem hk, List.foldl_append]
 rfl
theorem fillD_len : ∀ (l : List Itm) (L : List Itm), (l.foldl fillS L).length ≤ L.length + l.length
 | [], _ => Nat.le_refl _
 | x :: l, L => by
  have h1 := fillD_len l (fillS L x)
  have h2 : (fillS L x).length ≤ L.length + 1 := by
   unfold fillS
   split
   ·exact cputF_len L x
   ·omega
  rw [List.foldl_cons, List.length_cons]
  omega
theorem put_q (w : World) (me : Int) (pi po : Option Addr) (ni ci no co : Nat) (x : Itm) (xs : List Itm) (Q : Nat → Prop) (hr : RwN encI Q w (.slice pi ni ci) xs) (hl : xs.length = ni) (hs : SortX xs) (hn : ni < 1024) (hq : ∀ b, w.heap.size ≤ b → Q b) :
  Calls Try.prog 17 #[bookV me (.slice pi ni ci) (.slice po no co), x.v] w fun e w' => ∃ pi' ni' ci', e = .returned (.tuple #[bookV me (.slice pi' ni' ci') (.slice po no co), .int .i64 (putE me x)]) ∧ RwN encI Q w' (.slice pi' ni' ci') (putX me xs x) ∧ ni' = (putX me xs x).length ∧ Below w.heap.size w w' := by
 by_cases h : chkI x = 0
 ·by_cases h1 : x.s = me ∨ x.b = me
  ·have e1 : putX me xs x = insX xs x := by unfold putX; rw [if_pos ⟨h, h1⟩]
   have e2 : putE me x = 0 := by unfold putE; rw [if_pos h, if_pos h1]
   rw [e1, e2]
   refine (dput_any w me pi po ni ci no co x xs Q hr.1 hl hs hn h h1 hr.2).mono ?_
   rintro e w' ⟨pi', ci', rfl, hr', ha', hb⟩
   exact ⟨pi', _, ci', rfl, ⟨hr', ha'.imp (fun b hb => hb.elim id (hq b))⟩, rfl, hb⟩
  ·have e1 : putX me xs x = xs := by unfold putX; rw [if_neg (fun h2 => h1 h2.2)]
   have e2 : putE me x = 140 := by unfold putE; rw [if_pos h, if_neg h1]
   rw [e1, e2]
   refine (put_other w me pi po ni ci no co x h (fun e => h1 (.inl e)) (fun e => h1 (.inr e))).mono ?_
   rintro e w' ⟨rfl, hb⟩
   exact ⟨pi, ni, ci, rfl, hr.kept hb, hl.symm, hb⟩
 ·have e1 : putX me xs x = xs := by unfold putX; rw [if_neg (fun h2 => h h2.1)]
  have e2 : putE me x = chkI x := by unfold putE; rw [if_neg h]
  rw [e1, e2]
  refine (put_chk w me pi po ni ci no co x h).mono ?_
  rintro e w' ⟨rfl, hb⟩
  exact ⟨pi, ni, ci, rfl, hr.kept hb, hl.symm, hb⟩
theorem putX_no {me : Int} {X : List Itm} {x : Itm} (h : putE me x ≠ 0) : putX me X x = X := by
 unfold putX
 unfold putE at h
 rw [if_neg]
 rintro ⟨h1, h2⟩
 rw [if_pos h1, if_pos h2] at h
 exact h rfl
theorem infoB3' {cs : Array Value} (h : cs.size = 3) : (Try.prog.info? 28).map (·.size) = some cs.size := infoB3 h
set_option linter.unusedSimpArgs false in
set_option maxHeartbeats 4000000 in
set_option maxRecDepth 100000 in
theorem filled_any (w : World) (v : Value) (its : List Itm) (hr : TRow encI w v its) (hl : its.length ≤ 200) :
  Calls Try.prog 8 #[v] w (fun y w' => Below w.heap.size w w' ∧ ∃ pi ni ci pd nd cd, y = .returned (.tuple #[.agg #[.int .i64 0, .slice pi ni ci, .slice none 0 0], .agg #[.int .i64 0, .int .i64 0, .slice pd nd cd, .slice none 0 0], .bool true]) ∧ RwN encI (fun b => w.heap.size ≤ b) w' (.slice pi ni ci) (foldX 0 [] its) ∧ ni = (foldX 0 [] its).length ∧ RwN encI (fun b => w.heap.size ≤ b) w' (.slice pd nd cd) (fillD its) ∧ nd = (fillD its).length) := by
 obtain ⟨pv, cv, rfl⟩ := hr.shape
 have HR := Lib.hid hr
 have HN : Hid (its.length ≤ 200) := Lib.hid hl
 clear hr hl
 generalize hln : its.length = n at *
 have HL : Hid (its.length = n) := Lib.hid hln
 clear hln
 have HB0 : Hid (Below w.heap.size w ((w.alloc (.cells #[.int .i64 0, .slice none 0 0, .slice none 0 0] 28)).alloc (.cells #[.int .i64 0, .int .i64 0, .slice none 0 0, .slice none 0 0] 31))) := Lib.hid (((oneB w _).alloc (by simp <;> omega) _))
 have Hr0 : Hid (Blk ((w.alloc (.cells #[.int .i64 0, .slice none 0 0, .slice none 0 0] 28)).alloc (.cells #[.int .i64 0, .int .i64 0, .slice none 0 0, .slice none 0 0] 31)) w.heap.size #[.int .i64 0, .slice none 0 0, .slice none 0 0] 28) := Lib.hid ((Blk.new w #[.int .i64 0, .slice none 0 0, .slice none 0 0] 28).alloc _)
 have Hq0 : Hid (Blk ((w.alloc (.cells #[.int .i64 0, .slice none 0 0, .slice none 0 0] 28)).alloc (.cells #[.int .i64 0, .int .i64 0, .slice none 0 0, .slice none 0 0] 31)) (w.heap.size + 1) #[.int .i64 0, .int .i64 0, .slice none 0 0, .slice none 0 0] 31) := Lib.hid (Blk.new' (w.alloc (.cells #[.int .i64 0, .slice none 0 0, .slice none 0 0] 28)) #[.int .i64 0, .int .i64 0, .slice none 0 0, .slice none 0 0] 31 (by simp))
 have HZ0 : Hid (w.heap.size ≤ ((w.alloc (.cells #[.int .i64 0, .slice none 0 0, .slice none 0 0] 28)).alloc (.cells #[.int .i64 0, .int .i64 0, .slice none 0 0, .slice none 0 0] 31)).heap.size) := Lib.hid HB0.out.size
 go_enter Try.func8, Try.ntmps8
 go_upto_region 1 with fail
 generalize ((w.alloc (.cells #[.int .i64 0, .slice none 0 0, .slice none 0 0] 28)).alloc (.cells #[.int .i64 0, .int .i64 0, .slice none 0 0, .slice none 0 0] 31)) = W at *
 have HG := Lib.hid (newB_any W 0 (by decide))
 unfold bookV at HG
 go_wp2_with fail
 refine HG.out.mono ?_
 rintro y9 w1 ⟨rfl, hb⟩
 clear HG
 have Hr1 := kbq Hr0 hb
 have Hq1 := kbq Hq0 hb
 have HB1 := ktq HB0 hb
 have HZ1 := kzq HZ0 hb.size
 clear Hr0 Hq0 HB0 HZ0
 clear hb
 have HG0 : Hid (w.heap.size + 1 < w1.heap.size) := Lib.hid Hq1.out.lt
 have hba := oneB w1 (.cells #[.int .i64 0, .slice none 0 0, .slice none 0 0] 28)
 have Hr2 := kbq Hr1 hba
 have Hq2 := kbq Hq1 hba
 have Hb2 := Lib.hid (Blk.new w1 #[.int .i64 0, .slice none 0 0, .slice none 0 0] 28)
 have HB2 := Lib.hid (HB1.out.alloc HB1.out.size (.cells #[.int .i64 0, .slice none 0 0, .slice none 0 0] 28))
 have HZ2 := kzq HZ1 hba.size
 have HG2 : Hid (w.heap.size + 1 < w1.heap.size) := HG0
 have HGgb : Hid (w.heap.size ≤ w1.heap.size) := Lib.hid HB1.out.size
 clear hba Hr1 Hq1 HB1 HZ1
 go_upto_region 2 with fail
 generalize (w1.alloc (.cells #[.int .i64 0, .slice none 0 0, .slice none 0 0] 28)) = W1 at *
 generalize hggb : w1.heap.size = gb at *
 clear hggb
 have HGB2 : Hid (gb < W1.heap.size) := Lib.hid Hb2.out.lt
 have hba := oneB W1 (.cells #[.int .i64 0, .int .i64 0, .slice none 0 0, .slice none 0 0] 31)
 have Hr3 := kbq Hr2 hba
 have Hq3 := kbq Hq2 hba
 have Hb3 := kbq Hb2 hba
 have Hw3 := Lib.hid (Blk.new W1 #[.int .i64 0, .int .i64 0, .slice none 0 0, .slice none 0 0] 31)
 have HB3 := Lib.hid (HB2.out.alloc HB2.out.size (.cells #[.int .i64 0, .int .i64 0, .slice none 0 0, .slice none 0 0] 31))
 have HZ3 := kzq HZ2 hba.size
 have HGgw : Hid (w.heap.size ≤ W1.heap.size) := Lib.hid HB2.out.size
 clear hba Hr2 Hq2 Hb2 HB2 HZ2
 go_upto_region 3 with fail
 generalize (W1.alloc (.cells #[.int .i64 0, .int .i64 0, .slice none 0 0, .slice none 0 0] 31)) = W2 at *
 generalize hggw : W1.heap.size = gw at *
 clear hggw
 clear HGgb HGgw
 have Qx3 : Hid (RwN encI (fun b => w.heap.size ≤ b ∧ NotIn [w.heap.size, w.heap.size + 1, gb, gw] b) W2 (.slice none 0 0) (foldX 0 [] (its.take 0))) := Lib.hid (RwN.nil_ _ _ _)
 have Qd3 : Hid (RwN encI (fun b => w.heap.size ≤ b ∧ NotIn [w.heap.size, w.heap.size + 1, gb, gw] b) W2 (.slice none 0 0) (fillD (its.take 0))) := Lib.hid (RwN.nil_ _ _ _)
 have HREL : Hid (Blk W2 w.heap.size #[.int .i64 0, .slice none 0 0, .slice none 0 0] 28 ∧ Blk W2 (w.heap.size + 1) #[.int .i64 0, .int .i64 0, .slice none 0 0, .slice none 0 0] 31 ∧ Blk W2 gb #[.int .i64 0, .slice none 0 0, .slice none 0 0] 28 ∧ Blk W2 gw #[.int .i64 0, .int .i64 0, .slice none 0 0, .slice none 0 0] 31 ∧ RwN encI (fun b => w.heap.size ≤ b ∧ NotIn [w.heap.size, w.heap.size + 1, gb, gw] b) W2 (.slice none 0 0) (foldX 0 [] (its.take 0)) ∧ RwN encI (fun b => w.heap.size ≤ b ∧ NotIn [w.heap.size, w.heap.size + 1, gb, gw] b) W2 (.slice none 0 0) (fillD (its.take 0)) ∧ Below w.heap.size w W2) := ⟨Hr3.out, Hq3.out, Hb3.out, Hw3.out, Qx3.out, Qd3.out, HB3.out⟩
 clear Hr3 Hq3 Hb3 Hw3 HB3 HZ3 Qx3 Qd3
 go_wp2_with fail
 go_loopw [19] (fun i wr => ∃ (k : Nat) (pi : Option Addr) (ni ci : Nat) (pd : Option Addr) (nd cd : Nat), k ≤ n ∧ i = .int .i64 k ∧ Hid (ni = (foldX 0 [] (its.take k)).length ∧ nd = (fillD (its.take k)).length) ∧ Hid (Blk wr w.heap.size #[.int .i64 0, .slice none 0 0, .slice none 0 0] 28 ∧ Blk wr (w.heap.size + 1) #[.int .i64 0, .int .i64 0, .slice none 0 0, .slice none 0 0] 31 ∧ Blk wr gb #[.int .i64 0, .slice pi ni ci, .slice none 0 0] 28 ∧ Blk wr gw #[.int .i64 0, .int .i64 0, .slice pd nd cd, .slice none 0 0] 31 ∧ RwN encI (fun b => w.heap.size ≤ b ∧ NotIn [w.heap.size, w.heap.size + 1, gb, gw] b) wr (.slice pi ni ci) (foldX 0 [] (its.take k)) ∧ RwN encI (fun b => w.heap.size ≤ b ∧ NotIn [w.heap.size, w.heap.size + 1, gb, gw] b) wr (.slice pd nd cd) (fillD (its.take k)) ∧ Below w.heap.size w wr)) (fun i _ => n - (intOf i).toNat)
 case atStart => exact ⟨0, none, 0, 0, none, 0, 0, by omega, rfl, Lib.hid ⟨rfl, rfl⟩, HREL⟩
 case round =>
  obtain ⟨k, pi, ni, ci, pd, nd, cd, hk, rfl, HN2, HK⟩ := hrel
  clear HREL
  have Hr4 := Lib.hid (HK.out.1)
  have Hq4 := Lib.hid (HK.out.2.1)
  have Hb4 := Lib.hid (HK.out.2.2.1)
  have Hw4 := Lib.hid (HK.out.2.2.2.1)
  have Qx4 := Lib.hid (HK.out.2.2.2.2.1)
  have Qd4 := Lib.hid (HK.out.2.2.2.2.2.1)
  have HB4 := Lib.hid (HK.out.2.2.2.2.2.2)
  have HZ4 : Hid (w.heap.size ≤ wr.heap.size) := Lib.hid HB4.out.size
  clear HK
  by_cases hlt : k < n
  ·skip
   have hkl : k < its.length := by rw [HL.out]; exact hlt
   have hltI : (k : Int) < (n : Int) := by omega
   have HFT := Lib.hid (foldX_take (me := 0) (X := []) hkl)
   have HDT := Lib.hid (fillD_take hkl)
   have HGD := Lib.hid (foldX_good (l := its.take k) (goodB_nil 0))
   have HKN : Hid (k ≤ 200) := by show _ ≤ _; have := HN.out; omega
   have hk9 : k + 1 ≤ 201 := by have := HKN.out; omega
   have HLN : Hid ((foldX 0 [] (its.take k)).length ≤ 200) := by
    show _ ≤ _
    have := foldX_len (l := its.take k) (goodB_nil 0)
    rw [List.length_take, List.length_nil] at this
    have := HKN.out
    omega
   have HLD : Hid ((fillD (its.take k)).length ≤ 200) := by
    show _ ≤ _
    have := fillD_len (its.take k) []
    rw [List.length_take, List.length_nil] at this
    have := HKN.out
    unfold fillD
    omega
   obtain ⟨b, o, rfl, hbl, hcs⟩ := (HR.out.kept HB4.out).at_ k hkl
   generalize its[k] = x at *
   have c0 : wr.cell? ⟨b, o + k * 8, none⟩ = some (.int .i64 x.s) := hcs 0 (by decide)
   have c1 : wr.cell? ⟨b, o + k * 8 + 1, none⟩ = some (.int .i64 x.n) := hcs 1 (by decide)
   have c2 : wr.cell? ⟨b, o + k * 8 + 2, none⟩ = some (.int .i64 x.b) := hcs 2 (by decide)
   have c3 : wr.cell? ⟨b, o + k * 8 + 3, none⟩ = some (.int .i64 x.c) := hcs 3 (by decide)
   have c4 : wr.cell? ⟨b, o + k * 8 + 4, none⟩ = some (.int .i64 x.a) := hcs 4 (by decide)
   have c5 : wr.cell? ⟨b, o + k * 8 + 5, none⟩ = some (.int .i64 x.r) := hcs 5 (by decide)
   have c6 : wr.cell? ⟨b, o + k * 8 + 6, none⟩ = some (.int .i64 x.t) := hcs 6 (by decide)
   have c7 : wr.cell? ⟨b, o + k * 8 + 7, none⟩ = some (.int .i64 x.y) := hcs 7 (by decide)
   clear hcs
   have HGI : Hid (gw < wr.heap.size) := Lib.hid Hw4.out.lt
   have hba := oneB wr (.cells #[.int .i64 x.s, .int .i64 x.n, .int .i64 x.b, .int .i64 x.c, .int .i64 x.a, .int .i64 x.r, .int .i64 x.t, .int .i64 x.y] 54)
   have Hr5 := kbq Hr4 hba
   have Hq5 := kbq Hq4 hba
   have Hb5 := kbq Hb4 hba
   have Hw5 := kbq Hw4 hba
   have Qx5 := Lib.hid (Qx4.out.kept hba)
   have Qd5 := Lib.hid (Qd4.out.kept hba)
   have Hi5 := Lib.hid (Blk.new wr #[.int .i64 x.s, .int .i64 x.n, .int .i64 x.b, .int .i64 x.c, .int .i64 x.a, .int .i64 x.r, .int .i64 x.t, .int .i64 x.y] 54)
   have HB5 := Lib.hid (HB4.out.alloc HB4.out.size (.cells #[.int .i64 x.s, .int .i64 x.n, .int .i64 x.b, .int .i64 x.c, .int .i64 x.a, .int .i64 x.r, .int .i64 x.t, .int .i64 x.y] 54))
   have HZ5 := kzq HZ4 hba.size
   have HGgi : Hid (w.heap.size ≤ wr.heap.size) := Lib.hid HB4.out.size
   clear hba Hr4 Hq4 Hb4 Hw4 Qx4 Qd4 HB4 HZ4
   go_upto_region 6 with fail
   clear c0 c1 c2 c3 c4 c5 c6 c7
   generalize (wr.alloc (.cells #[.int .i64 x.s, .int .i64 x.n, .int .i64 x.b, .int .i64 x.c, .int .i64 x.a, .int .i64 x.r, .int .i64 x.t, .int .i64 x.y] 54)) = W3 at *
   generalize hggi : wr.heap.size = gi at *
   clear hggi
   have HQW : Hid (∀ b, W3.heap.size ≤ b → w.heap.size ≤ b ∧ NotIn [w.heap.size, w.heap.size + 1, gb, gw] b) := fun b hb => by
    have h1 := HB5.out.size
    have h2 := HG0.out; have h3 := HGB2.out
    have h4 : gw < W3.heap.size := Hw5.out.lt
    refine ⟨by omega, ?_⟩
    intro hm
    simp only [List.mem_cons, List.not_mem_nil, or_false] at hm
    omega
   have HG := Lib.hid (put_q W3 0 pi none ni ci 0 0 x _ (fun b => w.heap.size ≤ b ∧ NotIn [w.heap.size, w.heap.size + 1, gb, gw] b) Qx5.out HN2.out.1.symm HGD.out.1 (by have := HN2.out; have := HLN.out; omega) HQW.out)
   rw [← HFT.out] at HG
   unfold bookV Itm.v at HG
   have a0 : W3.cell? ⟨gb, 0, none⟩ = some (.int .i64 0) := Hb5.out.cell 0
   have a1 : W3.cell? ⟨gb, 1, none⟩ = some (.slice pi ni ci) := Hb5.out.cell 1
   have a2 : W3.cell? ⟨gb, 2, none⟩ = some (.slice none 0 0) := Hb5.out.cell 2
   have e0 : W3.cell? ⟨gi, 0, none⟩ = some (.int .i64 x.s) := Hi5.out.cell 0
   have e1 : W3.cell? ⟨gi, 1, none⟩ = some (.int .i64 x.n) := Hi5.out.cell 1
   have e2 : W3.cell? ⟨gi, 2, none⟩ = some (.int .i64 x.b) := Hi5.out.cell 2
   have e3 : W3.cell? ⟨gi, 3, none⟩ = some (.int .i64 x.c) := Hi5.out.cell 3
   have e4 : W3.cell? ⟨gi, 4, none⟩ = some (.int .i64 x.a) := Hi5.out.cell 4
   have e5 : W3.cell? ⟨gi, 5, none⟩ = some (.int .i64 x.r) := Hi5.out.cell 5
   have e6 : W3.cell? ⟨gi, 6, none⟩ = some (.int .i64 x.t) := Hi5.out.cell 6
   have e7 : W3.cell? ⟨gi, 7, none⟩ = some (.int .i64 x.y) := Hi5.out.cell 7
   go_wp2_with fail
   clear a0 a1 a2 e0 e1 e2 e3 e4 e5 e6 e7
   refine HG.out.mono ?_
   rintro y9 w4 ⟨p3, n3, c3, rfl, hr3, hn3, hb⟩
   clear HG
   have Hr6 := kbq Hr5 hb
   have Hq6 := kbq Hq5 hb
   have Hb6 := kbq Hb5 hb
   have Hw6 := kbq Hw5 hb
   have Hi6 := kbq Hi5 hb
   have Qx6 := Lib.hid (Qx5.out.kept hb)
   have Qd6 := Lib.hid (Qd5.out.kept hb)
   have HB6 := ktq HB5 hb
   have HZ6 := kzq HZ5 hb.size
   clear Hr5 Hq5 Hb5 Hw5 Hi5 Qx5 Qd5 HB5 HZ5
   clear hb
   have Qy6 := Lib.hid hr3
   have HN3 := Lib.hid hn3
   clear hr3 hn3 HQW
   have hba := oneB w4 (.cells #[.int .i64 0, .slice p3 n3 c3, .slice none 0 0] 28)
   have Hr7 := kbq Hr6 hba
   have Hq7 := kbq Hq6 hba
   have Hb7 := kbq Hb6 hba
   have Hw7 := kbq Hw6 hba
   have Hi7 := kbq Hi6 hba
   have Qx7 := Lib.hid (Qx6.out.kept hba)
   have Qd7 := Lib.hid (Qd6.out.kept hba)
   have Qy7 := Lib.hid (Qy6.out.kept hba)
   have Hn7 := Lib.hid (Blk.new w4 #[.int .i64 0, .slice p3 n3 c3, .slice none 0 0] 28)
   have HB7 := Lib.hid (HB6.out.alloc HB6.out.size (.cells #[.int .i64 0, .slice p3 n3 c3, .slice none 0 0] 28))
   have HZ7 := kzq HZ6 hba.size
   have HGgn : Hid (w.heap.size ≤ w4.heap.size) := Lib.hid HB6.out.size
   clear hba Hr6 Hq6 Hb6 Hw6 Hi6 Qx6 Qd6 Qy6 HB6 HZ6
   go_upto_region 7 with fail
   generalize (w4.alloc (.cells #[.int .i64 0, .slice p3 n3 c3, .slice none 0 0] 28)) = W5 at *
   generalize hggn : w4.heap.size = gn at *
   clear hggn
   clear HGgi HGgn
   by_cases hok : putE 0 x = 0
   ·have hb0 : (putE 0 x == 0) = true := by simpa using hok
    have HDT2 : Hid (fillD (its.take (k + 1)) = cputF (fillD (its.take k)) x) := by show _ = _; rw [HDT.out]; unfold fillS; rw [if_pos hok]
    clear hok
    clear Qx7
    have Qx7 := Qy7
    clear Qy7
    have e0 : W5.cell? ⟨gn, 0, none⟩ = some (.int .i64 0) := Hn7.out.cell 0
    have e1 : W5.cell? ⟨gn, 1, none⟩ = some (.slice p3 n3 c3) := Hn7.out.cell 1
    have e2 : W5.cell? ⟨gn, 2, none⟩ = some (.slice none 0 0) := Hn7.out.cell 2
    go_wp2_with (with_reducible refine stop_storeT 28 (.tmp 5) (.tmp 31) rfl ?_)
    clear hb0 e0 e1 e2
    clear Hn7
    have HTH : Hid (W5.there gb 0 3) := Hb7.out.thereAt
    have hch : Hid (Chg gb W5 (W5.setCells gb 0 (#[.int .i64 0, .slice p3 n3 c3, .slice none 0 0] : Array Value).toList)) := Lib.hid (chg_putL _ _ _ _ _ (Chg.refl _ W5))
    have Hb8 : Hid (Blk (W5.setCells gb 0 (#[.int .i64 0, .slice p3 n3 c3, .slice none 0 0] : Array Value).toList) gb #[.int .i64 0, .slice p3 n3 c3, .slice none 0 0] 28) := Lib.hid (blk_put_all Hb7.out _ rfl)
    have HB8 : Hid (Below w.heap.size w (W5.setCells gb 0 (#[.int .i64 0, .slice p3 n3 c3, .slice none 0 0] : Array Value).toList)) := Lib.hid (below_put (by have h0 := HG0.out; have h1 := HGB2.out; have h2 := HGI.out; omega) _ _ _ _ HB7.out)
    have HZ8 := kzq HZ7 hch.out.size
    have Hr8 := kcq Hr7 hch (by have h0 := HG0.out; have h1 := HGB2.out; have h2 := HGI.out; omega)
    have Hq8 := kcq Hq7 hch (by have h0 := HG0.out; have h1 := HGB2.out; have h2 := HGI.out; omega)
    have Hw8 := kcq Hw7 hch (by have h0 := HG0.out; have h1 := HGB2.out; have h2 := HGI.out; omega)
    have Hi8 := kcq Hi7 hch (by have h0 := HG0.out; have h1 := HGB2.out; have h2 := HGI.out; omega)
    have Qx8 := Lib.hid (Qx7.out.chg hch.out (fun h => notIn_self (by simp) h.2))
    have Qd8 := Lib.hid (Qd7.out.chg hch.out (fun h => notIn_self (by simp) h.2))
    clear hch Hr7 Hq7 Hb7 Hw7 Hi7 Qx7 Qd7 HB7 HZ7
    refine wpList_store_mid rfl 28 (.tmp 5) (.tmp 31) rfl gb 0 #[.int .i64 0, .slice p3 n3 c3, .slice none 0 0] rfl rfl HTH.out (infoB3' rfl) (all_oneCell_toArray (by intro u hu; simp at hu; rcases hu with rfl | rfl | rfl <;> rfl)) ?_
    generalize (W5.setCells gb 0 (#[.int .i64 0, .slice p3 n3 c3, .slice none 0 0] : Array Value).toList) = W6 at *
    clear HTH
    have HG := Lib.hid (ckeep_any W6 0 0 pd none nd cd 0 0 x _ Qd8.out.1 HN2.out.2 (by have := HLD.out; omega))
    unfold Itm.v at HG
    have a0 : W6.cell? ⟨gw, 0, none⟩ = some (.int .i64 0) := Hw8.out.cell 0
    have a1 : W6.cell? ⟨gw, 1, none⟩ = some (.int .i64 0) := Hw8.out.cell 1
    have a2 : W6.cell? ⟨gw, 2, none⟩ = some (.slice pd nd cd) := Hw8.out.cell 2
    have a3 : W6.cell? ⟨gw, 3, none⟩ = some (.slice none 0 0) := Hw8.out.cell 3
    have e0 : W6.cell? ⟨gi, 0, none⟩ = some (.int .i64 x.s) := Hi8.out.cell 0
    have e1 : W6.cell? ⟨gi, 1, none⟩ = some (.int .i64 x.n) := Hi8.out.cell 1
    have e2 : W6.cell? ⟨gi, 2, none⟩ = some (.int .i64 x.b) := Hi8.out.cell 2
    have e3 : W6.cell? ⟨gi, 3, none⟩ = some (.int .i64 x.c) := Hi8.out.cell 3
    have e4 : W6.cell? ⟨gi, 4, none⟩ = some (.int .i64 x.a) := Hi8.out.cell 4
    have e5 : W6.cell? ⟨gi, 5, none⟩ = some (.int .i64 x.r) := Hi8.out.cell 5
    have e6 : W6.cell? ⟨gi, 6, none⟩ = some (.int .i64 x.t) := Hi8.out.cell 6
    have e7 : W6.cell? ⟨gi, 7, none⟩ = some (.int .i64 x.y) := Hi8.out.cell 7
    go_wp2_with fail
    clear a0 a1 a2 a3 e0 e1 e2 e3 e4 e5 e6 e7
    refine HG.out.mono ?_
    rintro y9 w7 ⟨rr, p7, n7, c7, hat, rfl, hown, hn7, hb⟩
    clear HG
    rw [cput_at hat, ← HDT2.out] at hown
    rw [cput_at hat, ← HDT2.out] at hn7
    clear hat HDT2
    have hrow : Hid (RwN encI (fun b => w.heap.size ≤ b ∧ NotIn [w.heap.size, w.heap.size + 1, gb, gw] b) w7 (.slice p7 n7 c7) (fillD (its.take (k + 1)))) := Lib.hid (hown.rwN (fun b hb => by
     have h1 := HB8.out.size
     have h2 := HG0.out; have h3 := HGB2.out
     have h4 : gw < W6.heap.size := Hw8.out.lt
     refine ⟨by omega, ?_⟩
     intro hm
     simp only [List.mem_cons, List.not_mem_nil, or_false] at hm
     omega))
    clear hown
    have Hr9 := kbq Hr8 hb
    have Hq9 := kbq Hq8 hb
    have Hb9 := kbq Hb8 hb
    have Hw9 := kbq Hw8 hb
    have Hi9 := kbq Hi8 hb
    have Qx9 := Lib.hid (Qx8.out.kept hb)
    have Qd9 := Lib.hid (Qd8.out.kept hb)
    have HB9 := ktq HB8 hb
    have HZ9 := kzq HZ8 hb.size
    clear Hr8 Hq8 Hb8 Hw8 Hi8 Qx8 Qd8 HB8 HZ8
    clear hb
    clear Qd9
    have Qd9 := hrow
    have HN7 := Lib.hid hn7
    clear hrow hn7
    go_wp2_with (with_reducible refine stop_storeT 31 (.tmp 7) (.tmp 34) rfl ?_)
    clear Hi9
    have HTH : Hid (w7.there gw 0 4) := Hw9.out.thereAt
    have hch : Hid (Chg gw w7 (w7.setCells gw 0 (#[.int .i64 0, .int .i64 0, .slice p7 n7 c7, .slice none 0 0] : Array Value).toList)) := Lib.hid (chg_putL _ _ _ _ _ (Chg.refl _ w7))
    have Hw10 : Hid (Blk (w7.setCells gw 0 (#[.int .i64 0, .int .i64 0, .slice p7 n7 c7, .slice none 0 0] : Array Value).toList) gw #[.int .i64 0, .int .i64 0, .slice p7 n7 c7, .slice none 0 0] 31) := Lib.hid (blk_put_all Hw9.out _ rfl)
    have HB10 : Hid (Below w.heap.size w (w7.setCells gw 0 (#[.int .i64 0, .int .i64 0, .slice p7 n7 c7, .slice none 0 0] : Array Value).toList)) := Lib.hid (below_put (by have h0 := HG0.out; have h1 := HGB2.out; have h2 := HGI.out; omega) _ _ _ _ HB9.out)
    have HZ10 := kzq HZ9 hch.out.size
    have Hr10 := kcq Hr9 hch (by have h0 := HG0.out; have h1 := HGB2.out; have h2 := HGI.out; omega)
    have Hq10 := kcq Hq9 hch (by have h0 := HG0.out; have h1 := HGB2.out; have h2 := HGI.out; omega)
    have Hb10 := kcq Hb9 hch (by have h0 := HG0.out; have h1 := HGB2.out; have h2 := HGI.out; omega)
    have Qx10 := Lib.hid (Qx9.out.chg hch.out (fun h => notIn_self (by simp) h.2))
    have Qd10 := Lib.hid (Qd9.out.chg hch.out (fun h => notIn_self (by simp) h.2))
    clear hch Hr9 Hq9 Hb9 Hw9 Qx9 Qd9 HB9 HZ9
    refine wpList_store_mid rfl 31 (.tmp 7) (.tmp 34) rfl gw 0 #[.int .i64 0, .int .i64 0, .slice p7 n7 c7, .slice none 0 0] rfl rfl HTH.out (infoDC rfl) (all_oneCell_toArray (by intro u hu; simp at hu; rcases hu with rfl | rfl | rfl | rfl <;> rfl)) ?_
    generalize (w7.setCells gw 0 (#[.int .i64 0, .int .i64 0, .slice p7 n7 c7, .slice none 0 0] : Array Value).toList) = W8 at *
    clear HTH
    have HNX : Hid (Blk W8 w.heap.size #[.int .i64 0, .slice none 0 0, .slice none 0 0] 28 ∧ Blk W8 (w.heap.size + 1) #[.int .i64 0, .int .i64 0, .slice none 0 0, .slice none 0 0] 31 ∧ Blk W8 gb #[.int .i64 0, .slice p3 n3 c3, .slice none 0 0] 28 ∧ Blk W8 gw #[.int .i64 0, .int .i64 0, .slice p7 n7 c7, .slice none 0 0] 31 ∧ RwN encI (fun b => w.heap.size ≤ b ∧ NotIn [w.heap.size, w.heap.size + 1, gb, gw] b) W8 (.slice p3 n3 c3) (foldX 0 [] (its.take (k + 1))) ∧ RwN encI (fun b => w.heap.size ≤ b ∧ NotIn [w.heap.size, w.heap.size + 1, gb, gw] b) W8 (.slice p7 n7 c7) (fillD (its.take (k + 1))) ∧ Below w.heap.size w W8) := ⟨Hr10.out, Hq10.out, Hb10.out, Hw10.out, Qx10.out, Qd10.out, HB10.out⟩
    clear Hr10 Hq10 Hb10 Hw10 Qx10 Qd10 HB10 HZ10
    go_wp2_with fail
    go_roundw
    case rel => exact ⟨k + 1, p3, n3, c3, p7, n7, c7, by omega, by go_num, Lib.hid ⟨HN3.out, HN7.out⟩, HNX⟩
    case measure => simp [intOf]; omega
   ·have hb0 : (putE 0 x == 0) = false := by simpa using hok
    have HDT2 : Hid (fillD (its.take (k + 1)) = fillD (its.take k)) := by show _ = _; rw [HDT.out]; unfold fillS; rw [if_neg hok]
    have HXT2 : Hid (foldX 0 [] (its.take (k + 1)) = foldX 0 [] (its.take k)) := by show _ = _; rw [HFT.out]; exact putX_no hok
    clear hok
    have HN9 : Hid (nd = (fillD (its.take (k + 1))).length) := by show _ = _; rw [HDT2.out]; exact HN2.out.2
    have HN8 : Hid (ni = (foldX 0 [] (its.take (k + 1))).length) := by show _ = _; rw [HXT2.out]; exact HN2.out.1
    have HQD : Hid (RwN encI (fun b => w.heap.size ≤ b ∧ NotIn [w.heap.size, w.heap.size + 1, gb, gw] b) W5 (.slice pd nd cd) (fillD (its.take (k + 1)))) := by show RwN _ _ _ _ _; rw [HDT2.out]; exact Qd7.out
    have HQX : Hid (RwN encI (fun b => w.heap.size ≤ b ∧ NotIn [w.heap.size, w.heap.size + 1, gb, gw] b) W5 (.slice pi ni ci) (foldX 0 [] (its.take (k + 1)))) := by show RwN _ _ _ _ _; rw [HXT2.out]; exact Qx7.out
    have HNX : Hid (Blk W5 w.heap.size #[.int .i64 0, .slice none 0 0, .slice none 0 0] 28 ∧ Blk W5 (w.heap.size + 1) #[.int .i64 0, .int .i64 0, .slice none 0 0, .slice none 0 0] 31 ∧ Blk W5 gb #[.int .i64 0, .slice pi ni ci, .slice none 0 0] 28 ∧ Blk W5 gw #[.int .i64 0, .int .i64 0, .slice pd nd cd, .slice none 0 0] 31 ∧ RwN encI (fun b => w.heap.size ≤ b ∧ NotIn [w.heap.size, w.heap.size + 1, gb, gw] b) W5 (.slice pi ni ci) (foldX 0 [] (its.take (k + 1))) ∧ RwN encI (fun b => w.heap.size ≤ b ∧ NotIn [w.heap.size, w.heap.size + 1, gb, gw] b) W5 (.slice pd nd cd) (fillD (its.take (k + 1))) ∧ Below w.heap.size w W5) := ⟨Hr7.out, Hq7.out, Hb7.out, Hw7.out, HQX.out, HQD.out, HB7.out⟩
    clear Hr7 Hq7 Hb7 Hw7 Hi7 Hn7 Qx7 Qd7 Qy7 HB7 HZ7 HQD HQX
    go_wp2_with fail
    go_roundw
    case rel => exact ⟨k + 1, pi, ni, ci, pd, nd, cd, by omega, by go_num, Lib.hid ⟨HN8.out, HN9.out⟩, HNX⟩
    case measure => simp [intOf]; omega
  ·skip
   have hltI : ¬ (k : Int) < (n : Int) := by omega
   have hkn : k = n := by omega
   have HTK : Hid (its.take k = its) := by show _ = _; rw [List.take_of_length_le (by rw [HL.out]; omega)]
   rw [HTK.out] at Qx4 Qd4 HN2
   clear HTK hkn
   go_upto_region 11 with fail
   have hbd := (Below.refl wr.heap.size wr).drew
   have Hr5 := kbq Hr4 hbd
   have Hq5 := kbq Hq4 hbd
   have Hb5 := kbq Hb4 hbd
   have Hw5 := kbq Hw4 hbd
   have Qx5 := Lib.hid (Qx4.out.kept hbd)
   have Qd5 := Lib.hid (Qd4.out.kept hbd)
   have HB5 := ktq HB4 hbd
   have HZ5 := kzq HZ4 hbd.size
   clear Hr4 Hq4 Hb4 Hw4 Qx4 Qd4 HB4 HZ4
   refine wp_region_held_drew (S := fun w' => w'.cell? ⟨gb, 0, none⟩ = some (.int .i64 0) ∧ w'.cell? ⟨gb, 1, none⟩ = some (.slice pi ni ci) ∧ w'.cell? ⟨gb, 2, none⟩ = some (.slice none 0 0) ∧ w'.cell? ⟨gw, 0, none⟩ = some (.int .i64 0) ∧ w'.cell? ⟨gw, 1, none⟩ = some (.int .i64 0) ∧ w'.cell? ⟨gw, 2, none⟩ = some (.slice pd nd cd) ∧ w'.cell? ⟨gw, 3, none⟩ = some (.slice none 0 0)) (by kernel_rfl) ⟨Hb5.out.cell 0, Hb5.out.cell 1, Hb5.out.cell 2, Hw5.out.cell 0, Hw5.out.cell 1, Hw5.out.cell 2, Hw5.out.cell 3⟩ (fun hS0 => ?_)
   generalize wr.drew = WD at *
   clear hbd
   refine tkq 0 ?_
   refine tkq 1 ?_
   refine tkq 2 ?_
   refine tkq 3 ?_
   refine rdq 4 (fun K hK => ?_)
   have z0 : WD.cell? ⟨w.heap.size, 0, none⟩ = some (.int .i64 0) := Hr5.out.cell 0
   have z1 : WD.cell? ⟨w.heap.size, 1, none⟩ = some (.slice none 0 0) := Hr5.out.cell 1
   have z2 : WD.cell? ⟨w.heap.size, 2, none⟩ = some (.slice none 0 0) := Hr5.out.cell 2
   have f0 := Hr5.out.free 0
   have f1 := Hr5.out.free 1
   have f2 := Hr5.out.free 2
   go_simp
   clear z0 f0 z1 f1 z2 f2
   have hch := Lib.hid ((((Chg.refl w.heap.size WD).set 0 (.int .i64 0)).set 1 (.slice pi ni ci)).set 2 (.slice none 0 0))
   have Hr6 : Hid (Blk _ w.heap.size #[.int .i64 0, .slice pi ni ci, .slice none 0 0] 28) := Lib.hid (((Hr5.out.set 0 (.int .i64 0)).set 1 (.slice pi ni ci)).set 2 (.slice none 0 0))
   have HB6 := ksq HB5 hch (by show w.heap.size ≤ w.heap.size; have h0 := HG0.out; have h1 := HGB2.out; omega)
   have HZ6 := kzq HZ5 hch.out.size
   have Hq6 := kcq Hq5 hch (by have h0 := HG0.out; have h1 := HGB2.out; omega)
   have Hb6 := kcq Hb5 hch (by have h0 := HG0.out; have h1 := HGB2.out; omega)
   have Hw6 := kcq Hw5 hch (by have h0 := HG0.out; have h1 := HGB2.out; omega)
   have Qx6 := Lib.hid (Qx5.out.chg hch.out (fun h => notIn_self (by simp) h.2))
   have Qd6 := Lib.hid (Qd5.out.chg hch.out (fun h => notIn_self (by simp) h.2))
   clear hch hS0 Hr5 Hq5 Hb5 Hw5 Qx5 Qd5 HB5 HZ5
   generalize (((WD.setCell ⟨w.heap.size, 0, none⟩ (.int .i64 0)).setCell ⟨w.heap.size, 1, none⟩ (.slice pi ni ci)).setCell ⟨w.heap.size, 2, none⟩ (.slice none 0 0)) = WP at *
   refine hK.out _ _ ⟨Hb6.out.cell 0, Hb6.out.cell 1, Hb6.out.cell 2, Hw6.out.cell 0, Hw6.out.cell 1, Hw6.out.cell 2, Hw6.out.cell 3⟩ (fun hS0 => ?_)
   clear hK K
   try simp only [Act.put, List.getElem_toArray, List.getElem_cons_succ, List.getElem_cons_zero, List.setIfInBounds_toArray, List.set_cons_zero, List.set_cons_succ]
   refine rdq 5 (fun K hK => ?_)
   have z0 : WP.cell? ⟨(w.heap.size + 1), 0, none⟩ = some (.int .i64 0) := Hq6.out.cell 0
   have z1 : WP.cell? ⟨(w.heap.size + 1), 1, none⟩ = some (.int .i64 0) := Hq6.out.cell 1
   have z2 : WP.cell? ⟨(w.heap.size + 1), 2, none⟩ = some (.slice none 0 0) := Hq6.out.cell 2
   have z3 : WP.cell? ⟨(w.heap.size + 1), 3, none⟩ = some (.slice none 0 0) := Hq6.out.cell 3
   have f0 := Hq6.out.free 0
   have f1 := Hq6.out.free 1
   have f2 := Hq6.out.free 2
   have f3 := Hq6.out.free 3
   go_simp
   clear z0 f0 z1 f1 z2 f2 z3 f3
   have hch := Lib.hid (((((Chg.refl (w.heap.size + 1) WP).set 0 (.int .i64 0)).set 1 (.int .i64 0)).set 2 (.slice pd nd cd)).set 3 (.slice none 0 0))
   have Hq7 : Hid (Blk _ (w.heap.size + 1) #[.int .i64 0, .int .i64 0, .slice pd nd cd, .slice none 0 0] 31) := Lib.hid ((((Hq6.out.set 0 (.int .i64 0)).set 1 (.int .i64 0)).set 2 (.slice pd nd cd)).set 3 (.slice none 0 0))
   have HB7 := ksq HB6 hch (by show w.heap.size ≤ (w.heap.size + 1); have h0 := HG0.out; have h1 := HGB2.out; omega)
   have HZ7 := kzq HZ6 hch.out.size
   have Hr7 := kcq Hr6 hch (by have h0 := HG0.out; have h1 := HGB2.out; omega)
   have Hb7 := kcq Hb6 hch (by have h0 := HG0.out; have h1 := HGB2.out; omega)
   have Hw7 := kcq Hw6 hch (by have h0 := HG0.out; have h1 := HGB2.out; omega)
   have Qx7 := Lib.hid (Qx6.out.chg hch.out (fun h => notIn_self (by simp) h.2))
   have Qd7 := Lib.hid (Qd6.out.chg hch.out (fun h => notIn_self (by simp) h.2))
   clear hch hS0 Hr6 Hq6 Hb6 Hw6 Qx6 Qd6 HB6 HZ6
   generalize ((((WP.setCell ⟨w.heap.size + 1, 0, none⟩ (.int .i64 0)).setCell ⟨w.heap.size + 1, 1, none⟩ (.int .i64 0)).setCell ⟨w.heap.size + 1, 2, none⟩ (.slice pd nd cd)).setCell ⟨w.heap.size + 1, 3, none⟩ (.slice none 0 0)) = WQ at *
   refine hK.out _ _ ⟨Hb7.out.cell 0, Hb7.out.cell 1, Hb7.out.cell 2, Hw7.out.cell 0, Hw7.out.cell 1, Hw7.out.cell 2, Hw7.out.cell 3⟩ (fun hS0 => ?_)
   clear hK K
   try simp only [Act.put, List.getElem_toArray, List.getElem_cons_succ, List.getElem_cons_zero, List.setIfInBounds_toArray, List.set_cons_zero, List.set_cons_succ]
   refine tkq 6 ?_
   refine wpAnyH_done (by kernel_rfl) ?_ _
   clear hS0
   go_wp2_with fail
   have hfr := Hr7.out
   have hfq := Hq7.out
   refine bodyPost_ret (v := .tuple #[.agg #[.int .i64 0, .slice pi ni ci, .slice none 0 0], .agg #[.int .i64 0, .int .i64 0, .slice pd nd cd, .slice none 0 0], .bool true]) (by simp [results, Try.results8, go_sem, hfr.cell 0, hfr.cell 1, hfr.cell 2, hfq.cell 0, hfq.cell 1, hfq.cell 2, hfq.cell 3]) rfl ⟨HB7.out, pi, ni, ci, pd, nd, cd, rfl, Qx7.out.imp (fun _ _ h => h.1), HN2.out.1, Qd7.out.imp (fun _ _ h => h.1), HN2.out.2⟩
end Go.Proofs.Ytmhocihajobkkaa
namespace Go.Proofs.Ytmhocihajobkkaa
open Go.RowKit
set_option linter.unusedSimpArgs false
set_option linter.unusedSimpArgs false in
set_option maxHeartbeats 4000000 in
set_option maxRecDepth 100000 in
theorem findc_any (w : World) (xs : List PtX) (cy : Int) (bp bc n c : Nat) (p : Option Addr) (i : Nat) (hi : i < xs.length) (hr : TRow encP w (.slice p n c) xs) (hn : n = xs.length) (hbp : w.cell? ⟨bp, 2, none⟩ = some (.slice p n c)) (hbc : w.cell? ⟨bc, 0, none⟩ = some (.int .i64 cy)) :
  Calls Try.prog 38 #[.int .i64 i, .pointer (some ⟨bp, 0, none⟩), .pointer (some ⟨bc, 0, none⟩)] w fun e w' => e = .returned (.bool (decide (cy ≤ xs[i].cy))) ∧ Below w.heap.size w w' := by
 obtain ⟨b, o, rfl, hbl, hcs⟩ := hr.at_ i hi
 have c0 : w.cell? ⟨b, o + i * 4, none⟩ = some (.int .i64 xs[i].cy) := hcs 0 (by decide)
 have hin : (i : Int) < (n : Int) := by omega
 generalize xs[i].cy = y at *
 clear hcs hr hi hn
 have hd := (Below.refl w.heap.size w).drew
 have hS1 : w.drew.cell? ⟨bp, 2, none⟩ = some (.slice (some ⟨b, o, none⟩) n c) ∧ w.drew.cell? ⟨b, o + i * 4, none⟩ = some (.int .i64 y) ∧ w.drew.cell? ⟨bc, 0, none⟩ = some (.int .i64 cy) := ⟨(hd.cell (p := ⟨bp, 2, none⟩) (World.block_lt_of_cell? w _ hbp)).trans hbp, (hd.cell (p := ⟨b, _, none⟩) hbl).trans c0, (hd.cell (p := ⟨bc, 0, none⟩) (World.block_lt_of_cell? w _ hbc)).trans hbc⟩
 clear hbl c0 hbp hbc hd
 have HBD := Lib.hid (Below.refl w.heap.size w).drew
 by_cases hle : cy ≤ y
 ·have hdc : decide (cy ≤ y) = true := decide_eq_true hle
  rw [hdc]
  go_enter Try.func38, Try.ntmps38
  go_upto_region 1 with fail
  refine wp_region_held_drew (S := fun w' => w'.cell? ⟨bp, 2, none⟩ = some (.slice (some ⟨b, o, none⟩) n c) ∧ w'.cell? ⟨b, o + i * 4, none⟩ = some (.int .i64 y) ∧ w'.cell? ⟨bc, 0, none⟩ = some (.int .i64 cy)) (by kernel_rfl) hS1 (fun hS0 => ?_)
  refine tkq 0 ?_
  refine tkq 1 ?_
  refine tkq 2 ?_
  refine tkq 3 ?_
  refine tkq 4 ?_
  refine tkq 5 ?_
  refine tkq 6 ?_
  refine tkq 7 ?_
  refine tkq 8 ?_
  refine wpAnyH_done (by kernel_rfl) ?_ _
  go_wp2_with fail
  go_ret
  exact ⟨by simp [hdc], HBD.out⟩
 ·have hdc : decide (cy ≤ y) = false := decide_eq_false hle
  rw [hdc]
  go_enter Try.func38, Try.ntmps38
  go_upto_region 1 with fail
  refine wp_region_held_drew (S := fun w' => w'.cell? ⟨bp, 2, none⟩ = some (.slice (some ⟨b, o, none⟩) n c) ∧ w'.cell? ⟨b, o + i * 4, none⟩ = some (.int .i64 y) ∧ w'.cell? ⟨bc, 0, none⟩ = some (.int .i64 cy)) (by kernel_rfl) hS1 (fun hS0 => ?_)
  refine tkq 0 ?_
  refine tkq 1 ?_
  refine tkq 2 ?_
  refine tkq 3 ?_
  refine tkq 4 ?_
  refine tkq 5 ?_
  refine tkq 6 ?_
  refine tkq 7 ?_
  refine tkq 8 ?_
  refine wpAnyH_done (by kernel_rfl) ?_ _
  go_wp2_with fail
  go_ret
  exact ⟨by simp [hdc], HBD.out⟩
/-- The closure of find says 'from k on', in every world that leaves what was. -/
def SaysC (n k bp bc : Nat) (w : World) : Prop := ∀ W, Below w.heap.size w W → ∀ i : Nat, i < n → Calls Try.prog 38 #[.int .i64 i, .pointer (some ⟨bp, 0, none⟩), .pointer (some ⟨bc, 0, none⟩)] W fun e w' => e = .returned (.bool (decide (k ≤ i))) ∧ Below W.heap.size W w'
set_option linter.unusedSimpArgs false in
set_option maxHeartbeats 4000000 in
set_option maxRecDepth 100000 in
theorem searchC_any (w : World) (n k bp bc : Nat) (hk : k ≤ n) (hn : n ≤ 2000) (hS : SaysC n k bp bc w) :
  Calls Try.prog 37 #[.int .i64 n, .func (.func 38) #[] #[.pointer (some ⟨bp, 0, none⟩), .pointer (some ⟨bc, 0, none⟩)]] w fun e w' => e = .returned (.int .i64 k) ∧ Below w.heap.size w w' := by
 have HS := Lib.hid hS
 clear hS
 go_enter Try.func37, Try.ntmps37
 go_wp2_with fail
 go_loopw [5, 6] (fun vi vj wr => ∃ i j : Nat, vi = .int .i64 i ∧ vj = .int .i64 j ∧ i ≤ k ∧ k ≤ j ∧ j ≤ n ∧ Hid (Below w.heap.size w wr)) (fun vi vj _ => (intOf vj).toNat - (intOf vi).toNat)
 case atStart => exact ⟨0, n, rfl, rfl, Nat.zero_le _, hk, Nat.le_refl _, Lib.hid (Below.refl _ _)⟩
 case round =>
  obtain ⟨i, j, rfl, rfl, hi, hj, hjn, HB⟩ := hrel
  by_cases hlt : (i : Int) < (j : Int)
  ·have hm : (i + j) / 2 < n := by omega
   have hM : ((i : Int) + (j : Int)) / 2 = (((i + j) / 2 : Nat) : Int) := by omega
   have him : i ≤ (i + j) / 2 := by omega
   have hmj : (i + j) / 2 < j := by omega
   have HM := Lib.hid hM
   clear hM
   generalize (i + j) / 2 = m at *
   have HG := Lib.hid (HS.out wr HB.out m hm)
   go_wp2_with fail
   rw [HM.out]
   refine HG.out.mono ?_
   rintro y w1 ⟨rfl, hb⟩
   have HB1 := ktq HB hb
   clear hb HG HM
   by_cases hkm : k ≤ m
   ·have hdk : decide (k ≤ m) = true := decide_eq_true hkm
    rw [hdk]
    go_wp2_with fail
    go_roundw
    case rel => exact ⟨i, m, rfl, rfl, hi, hkm, by omega, HB1⟩
    case measure => simp [intOf]; omega
   ·have hdk : decide (k ≤ m) = false := decide_eq_false hkm
    rw [hdk]
    go_wp2_with fail
    go_roundw
    case rel => exact ⟨m + 1, j, by go_num, rfl, by omega, hj, hjn, HB1⟩
    case measure => simp [intOf]; omega
  ·have hik : i = k := by omega
   subst hik
   go_wp2_with fail
   go_ret
   exact ⟨rfl, HB.out⟩
set_option linter.unusedSimpArgs false in
set_option maxHeartbeats 4000000 in
set_option maxRecDepth 100000 in
theorem find_any (w : World) (me N : Int) (p : Option Addr) (n c : Nat) (xs A mid B : List PtX) (cy : Int) (hr : TRow encP w (.slice p n c) xs) (hn : n = xs.length) (hl : xs.length ≤ 2000) (hA : AroundF posC ⟨cy, 0, 0⟩ xs A mid B) :
  Calls Try.prog 21 #[.agg #[.int .i64 me, .int .i64 N, .slice p n c], .int .i64 cy] w fun e w' => e = .returned (.tuple #[.int .i64 A.length, .bool (decide (mid ≠ []))]) ∧ Below w.heap.size w w' := by
 have hmf : ∀ (fn : Fn) (first cap : Array Value) (w : World), (Instr.makeFunc fn first cap).run Try.prog w = .ok (.func fn first cap) w := fun _ _ _ _ => rfl
 have hB : Below w.heap.size w ((w.alloc (.cells #[.int .i64 me, .int .i64 N, .slice p n c] 36)).alloc (.cells #[.int .i64 cy] 3)) := (oneB w _).alloc (by simp) _
 have hP : Blk ((w.alloc (.cells #[.int .i64 me, .int .i64 N, .slice p n c] 36)).alloc (.cells #[.int .i64 cy] 3)) w.heap.size #[.int .i64 me, .int .i64 N, .slice p n c] 36 := (Blk.new w _ _).alloc _
 have hC : Blk ((w.alloc (.cells #[.int .i64 me, .int .i64 N, .slice p n c] 36)).alloc (.cells #[.int .i64 cy] 3)) (w.heap.size + 1) #[.int .i64 cy] 3 := Blk.new' _ _ _ (by simp)
 have hS : SaysC n A.length w.heap.size (w.heap.size + 1) ((w.alloc (.cells #[.int .i64 me, .int .i64 N, .slice p n c] 36)).alloc (.cells #[.int .i64 cy] 3)) := by
  intro W hb i hi
  have h := findc_any W xs cy w.heap.size (w.heap.size + 1) n c p i (by omega) ((hr.kept hB).kept hb) hn ((hP.below hb hP.lt).cell 2) ((hC.below hb hC.lt).cell 0)
  have hd : decide (cy ≤ xs[i].cy) = decide (A.length ≤ i) := by
   have h1 := hA.lt_iff i (by omega)
   rw [ordP_lt] at h1
   unfold posC at h1
   dsimp only at h1
   by_cases h2 : A.length ≤ i
   ·rw [decide_eq_true h2]; exact decide_eq_true (by omega)
   ·rw [decide_eq_false h2]; exact decide_eq_false (by omega)
  rw [hd] at h
  exact h
 have HG := Lib.hid (searchC_any ((w.alloc (.cells #[.int .i64 me, .int .i64 N, .slice p n c] 36)).alloc (.cells #[.int .i64 cy] 3)) n A.length w.heap.size (w.heap.size + 1) (by have := hA.le; omega) (by omega) hS)
 have HP := Lib.hid hP
 have HC := Lib.hid hC
 have HB := Lib.hid hB
 have HR := Lib.hid (hr.kept hB)
 have HAL := Lib.hid hA.le
 have HAA := Lib.hid hA
 have HN : Hid (n = xs.length ∧ xs.length ≤ 2000) := ⟨hn, hl⟩
 clear hB hP hC hS hr hA hn hl
 obtain ⟨D, hD⟩ : ∃ D, decide (mid ≠ []) = D := ⟨_, rfl⟩
 rw [hD]
 go_enter Try.func21, Try.ntmps21
 go_upto_region 1 with fail
 generalize ((w.alloc (.cells #[.int .i64 me, .int .i64 N, .slice p n c] 36)).alloc (.cells #[.int .i64 cy] 3)) = W at *
 have a2 : W.cell? ⟨w.heap.size, 2, none⟩ = some (.slice p n c) := HP.out.cell 2
 go_wp2_with fail
 clear a2
 refine HG.out.mono ?_
 rintro y w1 ⟨rfl, hb⟩
 have HP1 := kbq HP hb
 have HC1 := kbq HC hb
 have HB1 := ktq HB hb
 have HR1 := Lib.hid (HR.out.kept hb)
 clear hb HG HP HC HB HR
 have hd := (Below.refl w1.heap.size w1).drew
 have HBD := ktq HB1 hd
 by_cases hlt : A.length < n
 ·have hltI : (A.length : Int) < (n : Int) := by omega
  have hD1 : decide (A.length < n) = true := decide_eq_true hlt
  obtain ⟨b, o, rfl, hbl, hcs⟩ := HR1.out.at_ A.length (by have := HN.out; omega)
  have hfd := HAA.out.found (by have := HN.out; omega)
  have c0 : w1.cell? ⟨b, o + A.length * 4, none⟩ = some (.int .i64 (xs[A.length]'(by have := HN.out; omega)).cy) := hcs 0 (by decide)
  rw [ordP_eq] at hfd
  unfold posC at hfd
  dsimp only at hfd
  generalize (xs[A.length]'(by have := HN.out; omega)).cy = y at *
  have hS1 : w1.drew.cell? ⟨w.heap.size, 2, none⟩ = some (.slice (some ⟨b, o, none⟩) n c) ∧ w1.drew.cell? ⟨w.heap.size + 1, 0, none⟩ = some (.int .i64 cy) ∧ w1.drew.cell? ⟨b, o + A.length * 4, none⟩ = some (.int .i64 y) := ⟨(hd.cell (p := ⟨w.heap.size, 2, none⟩) HP1.out.lt).trans (HP1.out.cell 2), (hd.cell (p := ⟨w.heap.size + 1, 0, none⟩) HC1.out.lt).trans (HC1.out.cell 0), (hd.cell (p := ⟨b, _, none⟩) hbl).trans c0⟩
  clear hbl c0 hd hcs
  by_cases hy : y = cy
  ·have hyb : (y == cy) = true := by simpa using hy
   have hmid : D = true := by rw [← hD]; exact decide_eq_true (hfd.1 ⟨hy, rfl⟩)
   subst hmid
   clear hfd hy hD hlt
   go_upto_region 2 with fail
   refine wp_region_held_drew (S := fun w' => w'.cell? ⟨w.heap.size, 2, none⟩ = some (.slice (some ⟨b, o, none⟩) n c) ∧ w'.cell? ⟨w.heap.size + 1, 0, none⟩ = some (.int .i64 cy) ∧ w'.cell? ⟨b, o + A.length * 4, none⟩ = some (.int .i64 y)) (by kernel_rfl) hS1 (fun hS0 => ?_)
   refine tkq 0 ?_
   refine tkq 1 ?_
   refine tkq 2 ?_
   refine tkq 3 ?_
   refine tkq 4 ?_
   refine tkq 5 ?_
   refine tkq 6 ?_
   refine tkq 7 ?_
   refine tkq 8 ?_
   refine tkq 9 ?_
   refine tkq 10 ?_
   refine tkq 11 ?_
   refine tkq 12 ?_
   refine tkq 13 ?_
   refine tkq 14 ?_
   refine tkq 15 ?_
   refine tkq 16 ?_
   refine tkq 17 ?_
   refine wpAnyH_done (by kernel_rfl) ?_ _
   clear hS1 hS0
   go_wp2_with fail
   go_ret2
   exact ⟨rfl, HBD.out⟩
  ·have hyb : (y == cy) = false := by simpa using hy
   have hmid : D = false := by rw [← hD]; exact decide_eq_false (fun h => hy (hfd.2 h).1)
   subst hmid
   clear hfd hy hD hlt
   go_upto_region 2 with fail
   refine wp_region_held_drew (S := fun w' => w'.cell? ⟨w.heap.size, 2, none⟩ = some (.slice (some ⟨b, o, none⟩) n c) ∧ w'.cell? ⟨w.heap.size + 1, 0, none⟩ = some (.int .i64 cy) ∧ w'.cell? ⟨b, o + A.length * 4, none⟩ = some (.int .i64 y)) (by kernel_rfl) hS1 (fun hS0 => ?_)
   refine tkq 0 ?_
   refine tkq 1 ?_
   refine tkq 2 ?_
   refine tkq 3 ?_
   refine tkq 4 ?_
   refine tkq 5 ?_
   refine tkq 6 ?_
   refine tkq 7 ?_
   refine tkq 8 ?_
   refine tkq 9 ?_
   refine tkq 10 ?_
   refine tkq 11 ?_
   refine tkq 12 ?_
   refine tkq 13 ?_
   refine tkq 14 ?_
   refine tkq 15 ?_
   refine tkq 16 ?_
   refine tkq 17 ?_
   refine wpAnyH_done (by kernel_rfl) ?_ _
   clear hS1 hS0
   go_wp2_with fail
   go_ret2
   exact ⟨rfl, HBD.out⟩
 ·have hltI : ¬ (A.length : Int) < (n : Int) := by omega
  have hD1 : decide (A.length < n) = false := decide_eq_false hlt
  have hmid : D = false := by rw [← hD]; exact decide_eq_false (fun h => h (HAA.out.notFound (by have := HN.out; omega)))
  subst hmid
  have hS1 : w1.drew.cell? ⟨w.heap.size, 2, none⟩ = some (.slice p n c) ∧ w1.drew.cell? ⟨w.heap.size + 1, 0, none⟩ = some (.int .i64 cy) := ⟨(hd.cell (p := ⟨w.heap.size, 2, none⟩) HP1.out.lt).trans (HP1.out.cell 2), (hd.cell (p := ⟨w.heap.size + 1, 0, none⟩) HC1.out.lt).trans (HC1.out.cell 0)⟩
  clear hd hD hlt
  go_upto_region 2 with fail
  refine wp_region_held_drew (S := fun w' => w'.cell? ⟨w.heap.size, 2, none⟩ = some (.slice p n c) ∧ w'.cell? ⟨w.heap.size + 1, 0, none⟩ = some (.int .i64 cy)) (by kernel_rfl) hS1 (fun hS0 => ?_)
  refine tkq 0 ?_
  refine tkq 1 ?_
  refine tkq 2 ?_
  refine tkq 3 ?_
  refine tkq 4 ?_
  refine tkq 5 ?_
  refine tkq 6 ?_
  refine tnq 7 ?_
  refine tnq 8 ?_
  refine tnq 9 ?_
  refine tnq 10 ?_
  refine tnq 11 ?_
  refine tnq 12 ?_
  refine tnq 13 ?_
  refine tnq 14 ?_
  refine tkq 15 ?_
  refine tkq 16 ?_
  refine tkq 17 ?_
  refine wpAnyH_done (by kernel_rfl) ?_ _
  clear hS1 hS0
  go_wp2_with fail
  go_ret2
  exact ⟨rfl, HBD.out⟩
end Go.Proofs.Ytmhocihajobkkaa
