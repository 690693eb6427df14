/- slices.Clone of cycles and of what was said by contract; (Chief).with. copy of a whole slice of structs into a row that the call has made. (Chief).run by contract: a cycle with a list of its own of what all have said. slices.Clone of lines and of numbers by contract. (Chief).toAll by contract: to each with lists of its own. What an act of the coordinator answers; (Chief).end by contract. (Chief).due, query by contract. One cell of one element of the call's own slice of structs is written. One cell of what an entity has said is written. cycle.offered by contract. cycle.Both by contract. cycle.net, Nets by contract. (Chief).reckon by contract. -/
import Derived.Test.YteogdfpkcoodlaaR1
import Derived.Laws.CopyOwn
namespace Go.Proofs.Yteogdfpkcoodlaa
open Go.RowKit
set_option linter.unusedSimpArgs false
set_option linter.unusedSimpArgs false in
set_option maxHeartbeats 4000000 in
set_option maxRecDepth 100000 in
theorem cloneR_any (w : World) (v : Value) (xs : List RunX) (hr : TRow encR w v xs) (hn : xs.length * 88 ≤ 140737488355000) :
  Calls Try.prog 64 #[v] w fun e w' => ∃ v', e = .returned v' ∧ OwnT encR w' w.heap.size 56 v' xs ∧ Below w.heap.size w w' := by
 obtain ⟨p, c, rfl⟩ := hr.shape
 cases p with
 | none =>
  have hx : xs = [] := by
   obtain ⟨p', c', e1, _, h⟩ := hr
   cases e1
   rcases h with h | ⟨b, o, h, _⟩
   ·exact h
   ·cases h
  subst hx
  clear hr
  have kq := Lib.run_eql_slice_nil (P := Try.prog) w 25 56 none 0 c 0 0 Try.underlying25
  simp only [List.length_nil]
  go_enter Try.func64, Try.ntmps64
  go_wp2
  go_ret
  exact ⟨_, rfl, OwnT.nil_ _ _ _ _, Below.refl _ _⟩
 | some a =>
  have HR := Lib.hid hr
  have HM := Lib.hid (OwnT.madeE encR w w.heap.size 56 (Nat.le_refl _))
  have HB := Lib.hid (oneB w (.cells #[] 56))
  have HN := Lib.hid hn
  clear hr hn
  generalize hl : xs.length = n at *
  have HL := Lib.hid hl
  clear hl
  have kq := Lib.run_eql_slice_nil (P := Try.prog) w 25 56 (some a) n c 0 0 Try.underlying25
  go_enter Try.func64, Try.ntmps64
  go_wp2_with (at_builtin; with_reducible refine stop_appendT (.tmp 5) (.tmp 6) 25 rfl ?_)
  refine wpList_append_tb rfl (.tmp 5) (.tmp 6) 25 rfl 56 zeroVR 88 w.heap.size eltR rfl (.slice (some ⟨w.heap.size, 0, none⟩) 0 0) (.slice (some a) n c) [] xs rfl rfl HM.out (HR.out.kept HB.out) (by have := HL.out; have := HN.out; simp; omega) (by have := HL.out; have := HN.out; simp; omega) HB.out.size xs n (List.nil_append _) HL.out ?_
  intro p' c' w' ho _ hb
  have HO := Lib.hid ho
  have HB2 := Lib.hid (HB.out.trans hb)
  clear ho hb
  go_wp2_with fail
  go_ret
  exact ⟨_, rfl, HO.out, HB2.out⟩
set_option linter.unusedSimpArgs false in
set_option maxHeartbeats 4000000 in
set_option maxRecDepth 100000 in
theorem cloneH_any (w : World) (v : Value) (xs : List HdX) (hr : TRow encH w v xs) (hn : xs.length * 32 ≤ 140737488355000) :
  Calls Try.prog 22 #[v] w fun e w' => ∃ v', e = .returned v' ∧ OwnT encH w' w.heap.size 80 v' xs ∧ Below w.heap.size w w' := by
 obtain ⟨p, c, rfl⟩ := hr.shape
 cases p with
 | none =>
  have hx : xs = [] := by
   obtain ⟨p', c', e1, _, h⟩ := hr
   cases e1
   rcases h with h | ⟨b, o, h, _⟩
   ·exact h
   ·cases h
  subst hx
  clear hr
  have kq := Lib.run_eql_slice_nil (P := Try.prog) w 54 80 none 0 c 0 0 Try.underlying54
  simp only [List.length_nil]
  go_enter Try.func22, Try.ntmps22
  go_wp2
  go_ret
  exact ⟨_, rfl, OwnT.nil_ _ _ _ _, Below.refl _ _⟩
 | some a =>
  have HR := Lib.hid hr
  have HM := Lib.hid (OwnT.madeE encH w w.heap.size 80 (Nat.le_refl _))
  have HB := Lib.hid (oneB w (.cells #[] 80))
  have HN := Lib.hid hn
  clear hr hn
  generalize hl : xs.length = n at *
  have HL := Lib.hid hl
  clear hl
  have kq := Lib.run_eql_slice_nil (P := Try.prog) w 54 80 (some a) n c 0 0 Try.underlying54
  go_enter Try.func22, Try.ntmps22
  go_wp2_with (at_builtin; with_reducible refine stop_appendT (.tmp 5) (.tmp 6) 54 rfl ?_)
  refine wpList_append_tb rfl (.tmp 5) (.tmp 6) 54 rfl 80 zeroVH 32 w.heap.size eltH rfl (.slice (some ⟨w.heap.size, 0, none⟩) 0 0) (.slice (some a) n c) [] xs rfl rfl HM.out (HR.out.kept HB.out) (by have := HL.out; have := HN.out; simp; omega) (by have := HL.out; have := HN.out; simp; omega) HB.out.size xs n (List.nil_append _) HL.out ?_
  intro p' c' w' ho _ hb
  have HO := Lib.hid ho
  have HB2 := Lib.hid (HB.out.trans hb)
  clear ho hb
  go_wp2_with fail
  go_ret
  exact ⟨_, rfl, HO.out, HB2.out⟩
set_option linter.unusedSimpArgs false in
set_option maxHeartbeats 4000000 in
set_option maxRecDepth 100000 in
theorem cwith_any (w : World) (P : Nat → Prop) (N k : Int) (p : Option Addr) (n c : Nat) (rs : List Rn) (x : RunX) (hrs : RsR P w (.slice p n c) rs) (hn : n = rs.length) (hl : n ≤ 2000) (hk1 : 1 ≤ k) (hk2 : k ≤ n) (hx : x.In P w) :
  Calls Try.prog 48 #[.agg #[.int .i64 N, .slice p n c], .int .i64 k, x.v] w fun e w' => ∃ p' c', e = .returned (.agg #[.int .i64 N, .slice p' n c']) ∧ RsR (fun b => P b ∨ w.heap.size ≤ b) w' (.slice p' n c') (rs.set (k - 1).toNat x.r) ∧ Below w.heap.size w w' := by
 obtain ⟨xs, hr, hat, hin, hm⟩ := hrs
 have hnx : xs.length = n := by rw [hn, ← hm, List.length_map]
 obtain ⟨kn, hk⟩ : ∃ kn : Nat, k = (kn : Int) + 1 := ⟨(k - 1).toNat, by omega⟩
 subst hk
 have hkn : kn < n := by omega
 have HM := Lib.hid hm
 have HIN := Lib.hid hin
 have HNX := Lib.hid hnx
 have HKN := Lib.hid hkn
 have HR := Lib.hid hr
 have HN1 : Hid (n ≤ 2000) := Lib.hid hl
 have HXI := Lib.hid hx
 have hw1 : wrap64 (kn : Int) = (kn : Int) := by unfold wrap64; omega
 clear hr hat hin hm hn hl hx hk1 hk2 hnx
 unfold RunX.v
 have HB0 : Hid (Below w.heap.size w (((w.alloc (.cells #[.int .i64 N, .slice p n c] 27)).alloc (.cells #[.int .i64 x.r.cu, .int .i64 x.r.st, .slice x.pf x.r.hs.length x.cf, .slice x.pl x.r.ls.length x.cl, .slice x.pn x.r.ns.length x.cn] 56)).alloc (.cells #[.int .i64 0, .slice none 0 0] 27))) := Lib.hid ((((oneB w _).alloc (by simp <;> omega) _).alloc (by simp <;> omega) _))
 have Hc0 : Hid (Blk (((w.alloc (.cells #[.int .i64 N, .slice p n c] 27)).alloc (.cells #[.int .i64 x.r.cu, .int .i64 x.r.st, .slice x.pf x.r.hs.length x.cf, .slice x.pl x.r.ls.length x.cl, .slice x.pn x.r.ns.length x.cn] 56)).alloc (.cells #[.int .i64 0, .slice none 0 0] 27)) w.heap.size #[.int .i64 N, .slice p n c] 27) := Lib.hid (((Blk.new w #[.int .i64 N, .slice p n c] 27).alloc _).alloc _)
 have Hx0 : Hid (Blk (((w.alloc (.cells #[.int .i64 N, .slice p n c] 27)).alloc (.cells #[.int .i64 x.r.cu, .int .i64 x.r.st, .slice x.pf x.r.hs.length x.cf, .slice x.pl x.r.ls.length x.cl, .slice x.pn x.r.ns.length x.cn] 56)).alloc (.cells #[.int .i64 0, .slice none 0 0] 27)) (w.heap.size + 1) #[.int .i64 x.r.cu, .int .i64 x.r.st, .slice x.pf x.r.hs.length x.cf, .slice x.pl x.r.ls.length x.cl, .slice x.pn x.r.ns.length x.cn] 56) := Lib.hid ((Blk.new' (w.alloc (.cells #[.int .i64 N, .slice p n c] 27)) #[.int .i64 x.r.cu, .int .i64 x.r.st, .slice x.pf x.r.hs.length x.cf, .slice x.pl x.r.ls.length x.cl, .slice x.pn x.r.ns.length x.cn] 56 (by simp)).alloc _)
 have Hr0 : Hid (Blk (((w.alloc (.cells #[.int .i64 N, .slice p n c] 27)).alloc (.cells #[.int .i64 x.r.cu, .int .i64 x.r.st, .slice x.pf x.r.hs.length x.cf, .slice x.pl x.r.ls.length x.cl, .slice x.pn x.r.ns.length x.cn] 56)).alloc (.cells #[.int .i64 0, .slice none 0 0] 27)) (w.heap.size + 1 + 1) #[.int .i64 0, .slice none 0 0] 27) := Lib.hid (Blk.new' ((w.alloc (.cells #[.int .i64 N, .slice p n c] 27)).alloc (.cells #[.int .i64 x.r.cu, .int .i64 x.r.st, .slice x.pf x.r.hs.length x.cf, .slice x.pl x.r.ls.length x.cl, .slice x.pn x.r.ns.length x.cn] 56)) #[.int .i64 0, .slice none 0 0] 27 (by simp))
 have HZ0 : Hid (w.heap.size ≤ (((w.alloc (.cells #[.int .i64 N, .slice p n c] 27)).alloc (.cells #[.int .i64 x.r.cu, .int .i64 x.r.st, .slice x.pf x.r.hs.length x.cf, .slice x.pl x.r.ls.length x.cl, .slice x.pn x.r.ns.length x.cn] 56)).alloc (.cells #[.int .i64 0, .slice none 0 0] 27)).heap.size) := Lib.hid HB0.out.size
 go_enter Try.func48, Try.ntmps48
 go_upto_region 1 with fail
 generalize (((w.alloc (.cells #[.int .i64 N, .slice p n c] 27)).alloc (.cells #[.int .i64 x.r.cu, .int .i64 x.r.st, .slice x.pf x.r.hs.length x.cf, .slice x.pl x.r.ls.length x.cl, .slice x.pn x.r.ns.length x.cn] 56)).alloc (.cells #[.int .i64 0, .slice none 0 0] 27)) = W at *
 have HWL : Hid (w.heap.size + 1 + 1 < W.heap.size) := Lib.hid Hr0.out.lt
 have HRW := Lib.hid (HR.out.kept HB0.out)
 have HG := Lib.hid (cloneR_any W (.slice p n c) xs HRW.out (by have := HNX.out; have := HN1.out; omega))
 have a0 : W.cell? ⟨w.heap.size, 0, none⟩ = some (.int .i64 N) := Hc0.out.cell 0
 have a1 : W.cell? ⟨w.heap.size, 1, none⟩ = some (.slice p n c) := Hc0.out.cell 1
 go_wp2_with fail
 clear a0 a1
 refine HG.out.mono ?_
 rintro y9 w1 ⟨v1, rfl, ho, hb⟩
 clear HG HRW
 obtain ⟨p1, c1, hv1⟩ := ho.form
 rw [HNX.out] at hv1
 subst hv1
 have HO := Lib.hid ho
 clear ho
 have Hc1 := kbq Hc0 hb
 have Hx1 := kbq Hx0 hb
 have Hr1 := kbq Hr0 hb
 have HB1 := ktq HB0 hb
 have HZ1 := kzq HZ0 hb.size
 clear Hc0 Hx0 Hr0 HB0 HZ0
 clear hb
 have z1 : w1.cell? ⟨w.heap.size, 1, none⟩ = some (.slice p n c) := Hc1.out.cell 1
 have f1 := Hc1.out.free 1
 go_upto_region 2 with fail
 clear z1 f1
 have hch := Lib.hid ((Chg.refl w.heap.size w1).set 1 (.slice p1 n c1))
 have Hc2 : Hid (Blk _ w.heap.size #[.int .i64 N, .slice p1 n c1] 27) := Lib.hid (Hc1.out.set 1 (.slice p1 n c1))
 have HB2 := ksq HB1 hch (Nat.le_refl _)
 have HZ2 : Hid (w.heap.size ≤ (w1.setCell ⟨w.heap.size, 1, none⟩ (.slice p1 n c1)).heap.size) := Lib.hid HB2.out.size
 have Hx2 := kcq Hx1 hch (by omega)
 have Hr2 := kcq Hr1 hch (by omega)
 have HO2 := Lib.hid (HO.out.stay (fun g hg => hch.out.2 g (HO.out.lt g hg) (by have h1 := HO.out.block_ge g hg; have := HWL.out; omega)))
 clear hch HO Hc1 Hx1 Hr1 HB1 HZ1
 generalize (w1.setCell ⟨w.heap.size, 1, none⟩ (.slice p1 n c1)) = W2 at *
 obtain ⟨g, cur, hp1, hgb, hblk, hnc, hmx, hsz, htk, hll⟩ := HO2.out.lies (show 0 < n by have := HKN.out; omega)
 subst hp1
 have HGB : Hid (W.heap.size ≤ g) := Lib.hid hgb
 have HTH := Lib.hid (HO2.out.there kn 5 (by have := HKN.out; show kn * 5 + 5 ≤ c1 * 5; omega) (by have := HKN.out; omega))
 have HCC : Hid (n ≤ c1) := Lib.hid hnc
 clear hgb hblk hnc hmx hsz htk hll
 have hkI : (kn : Int) < (n : Int) := by have := HKN.out; omega
 have hkC : (kn : Int) < (c1 : Int) := by have := HKN.out; have := HCC.out; omega
 have a1 : W2.cell? ⟨w.heap.size, 1, none⟩ = some (.slice (some ⟨g, 0, none⟩) n c1) := Hc2.out.cell 1
 have x0 : W2.cell? ⟨(w.heap.size + 1), 0, none⟩ = some (.int .i64 x.r.cu) := Hx2.out.cell 0
 have x1 : W2.cell? ⟨(w.heap.size + 1), 1, none⟩ = some (.int .i64 x.r.st) := Hx2.out.cell 1
 have x2 : W2.cell? ⟨(w.heap.size + 1), 2, none⟩ = some (.slice x.pf x.r.hs.length x.cf) := Hx2.out.cell 2
 have x3 : W2.cell? ⟨(w.heap.size + 1), 3, none⟩ = some (.slice x.pl x.r.ls.length x.cl) := Hx2.out.cell 3
 have x4 : W2.cell? ⟨(w.heap.size + 1), 4, none⟩ = some (.slice x.pn x.r.ns.length x.cn) := Hx2.out.cell 4
 go_wp2_with (with_reducible refine stop_storeT 56 (.tmp 16) (.tmp 15) rfl ?_)
 clear a1 x0 x1 x2 x3 x4
 have hgl := HWL.out
 have hch : Hid (Chg g W2 (W2.setCells g (kn * 5) (#[.int .i64 x.r.cu, .int .i64 x.r.st, .slice x.pf x.r.hs.length x.cf, .slice x.pl x.r.ls.length x.cl, .slice x.pn x.r.ns.length x.cn] : Array Value).toList)) := Lib.hid (chg_putL _ _ _ _ _ (Chg.refl _ W2))
 have HO3 := Lib.hid (HO2.out.put kn HKN.out x)
 have HB3 : Hid (Below w.heap.size w (W2.setCells g (kn * 5) (#[.int .i64 x.r.cu, .int .i64 x.r.st, .slice x.pf x.r.hs.length x.cf, .slice x.pl x.r.ls.length x.cl, .slice x.pn x.r.ns.length x.cn] : Array Value).toList)) := Lib.hid (below_put (by have := HGB.out; omega) _ _ _ _ HB2.out)
 have HZ3 : Hid (w.heap.size ≤ (W2.setCells g (kn * 5) (#[.int .i64 x.r.cu, .int .i64 x.r.st, .slice x.pf x.r.hs.length x.cf, .slice x.pl x.r.ls.length x.cl, .slice x.pn x.r.ns.length x.cn] : Array Value).toList).heap.size) := Lib.hid HB3.out.size
 have Hc3 := kcq Hc2 hch (by have := HGB.out; omega)
 have Hx3 := kcq Hx2 hch (by have := HGB.out; omega)
 have Hr3 := kcq Hr2 hch (by have := HGB.out; omega)
 have HO4 : Hid (OwnT encR (W2.setCells g (kn * 5) (#[.int .i64 x.r.cu, .int .i64 x.r.st, .slice x.pf x.r.hs.length x.cf, .slice x.pl x.r.ls.length x.cl, .slice x.pn x.r.ns.length x.cn] : Array Value).toList) W.heap.size 56 (.slice (some ⟨g, 0, none⟩) n c1) (xs.set kn x)) := HO3
 clear hgl hch HO2 HO3 Hc2 Hx2 Hr2 HB2 HZ2
 refine wpList_store_mid rfl 56 (.tmp 16) (.tmp 15) rfl g (kn * 5) #[.int .i64 x.r.cu, .int .i64 x.r.st, .slice x.pf x.r.hs.length x.cf, .slice x.pl x.r.ls.length x.cl, .slice x.pn x.r.ns.length x.cn] rfl rfl HTH.out (infoR5 rfl) (all_oneCell_toArray (by intro u hu; simp at hu; rcases hu with rfl | rfl | rfl | rfl | rfl <;> rfl)) ?_
 generalize (W2.setCells g (kn * 5) (#[.int .i64 x.r.cu, .int .i64 x.r.st, .slice x.pf x.r.hs.length x.cf, .slice x.pl x.r.ls.length x.cl, .slice x.pn x.r.ns.length x.cn] : Array Value).toList) = W3 at *
 clear HTH hkI hkC
 have a0 : W3.cell? ⟨w.heap.size, 0, none⟩ = some (.int .i64 N) := Hc3.out.cell 0
 have a1 : W3.cell? ⟨w.heap.size, 1, none⟩ = some (.slice (some ⟨g, 0, none⟩) n c1) := Hc3.out.cell 1
 go_wp2_with (with_reducible refine stop_storeT 27 (.tmp 6) (.tmp 17) rfl ?_)
 clear a0 a1
 have HTH : Hid (W3.there (w.heap.size + 1 + 1) 0 2) := Hr3.out.thereAt
 have hch : Hid (Chg (w.heap.size + 1 + 1) W3 (W3.setCells (w.heap.size + 1 + 1) 0 (#[.int .i64 N, .slice (some ⟨g, 0, none⟩) n c1] : Array Value).toList)) := Lib.hid (chg_putL _ _ _ _ _ (Chg.refl _ W3))
 have Hr4 : Hid (Blk (W3.setCells (w.heap.size + 1 + 1) 0 (#[.int .i64 N, .slice (some ⟨g, 0, none⟩) n c1] : Array Value).toList) (w.heap.size + 1 + 1) #[.int .i64 N, .slice (some ⟨g, 0, none⟩) n c1] 27) := Lib.hid (blk_put_all Hr3.out _ rfl)
 have HB4 : Hid (Below w.heap.size w (W3.setCells (w.heap.size + 1 + 1) 0 (#[.int .i64 N, .slice (some ⟨g, 0, none⟩) n c1] : Array Value).toList)) := Lib.hid (below_put (by omega) _ _ _ _ HB3.out)
 have HZ4 := kzq HZ3 hch.out.size
 have Hc4 := kcq Hc3 hch (by omega)
 have Hx4 := kcq Hx3 hch (by omega)
 have HO5 := Lib.hid (HO4.out.stay (fun g hg => hch.out.2 g (HO4.out.lt g hg) (by have h1 := HO4.out.block_ge g hg; have := HWL.out; omega)))
 clear HO4 hch Hc3 Hx3 Hr3 HB3 HZ3
 refine wpList_store_mid rfl 27 (.tmp 6) (.tmp 17) rfl (w.heap.size + 1 + 1) 0 #[.int .i64 N, .slice (some ⟨g, 0, none⟩) n c1] rfl rfl HTH.out (infoC2 rfl) (all_oneCell_toArray (by intro u hu; simp at hu; rcases hu with rfl | rfl <;> rfl)) ?_
 generalize (W3.setCells (w.heap.size + 1 + 1) 0 (#[.int .i64 N, .slice (some ⟨g, 0, none⟩) n c1] : Array Value).toList) = W4 at *
 clear HTH
 go_wp2_with fail
 have hfr := Hr4.out
 refine bodyPost_ret (v := .agg #[.int .i64 N, .slice (some ⟨g, 0, none⟩) n c1]) (by simp [results, Try.results48, go_sem, hfr.cell 0, hfr.cell 1]) rfl ?_
 refine ⟨_, _, rfl, ⟨xs.set kn x, HO5.out.row, ?_, ?_, ?_⟩, HB4.out⟩
 ·refine HO5.out.at_P (fun b hb => .inr ?_)
  have := HWL.out
  omega
 ·intro y hy
  rcases List.mem_or_eq_of_mem_set hy with h | h
  ·exact ((HIN.out y h).kept HB4.out).imp (fun b h => .inl h)
  ·subst h; exact (HXI.out.kept HB4.out).imp (fun b h => .inl h)
 ·rw [List.map_set, HM.out, Int.add_sub_cancel, Int.toNat_natCast]
end Go.Proofs.Yteogdfpkcoodlaa
namespace Go.Proofs.Yteogdfpkcoodlaa
open Go.RowKit
set_option linter.unusedSimpArgs false
section
variable {α : Type} {e : Enc α}
theorem run_copy_t {P : Program} (w : World) (dT sT ty elem : TypeId) (hu : P.underlying dT = some (.slice elem)) (hs : (P.info? elem).map (·.size) = some e.k) (g n : Nat) (cur : Array Value) (t : TypeId) (hg : w.heap[g]? = some (.cells cur t (0, 0))) (hz : cur.size = n * e.k) (sp : Option Addr) (nS cS : Nat) (xs : List α) (hr : TRow e w (.slice sp nS cS) xs) (hn : xs.length = n) (hnS : nS = n) (h0 : 0 < n) :
  (Builtin.copy_ #[dT, sT] ty #[.slice (some ⟨g, 0, none⟩) n n, .slice sp nS cS]).run P w = .ok (goInt n) (w.setRow g (xs.flatMap e.E).toArray) := by
 subst hnS
 obtain ⟨b, o, hp, _, _⟩ := hr.at_ 0 (by omega)
 subst hp
 have hl := run_loadCells_list (P := P) w ⟨b, o, none⟩ (xs.flatMap e.E) (fun j v hj => hr.newsAt j v hj)
 have hlen := flat_length e xs
 have hst := run_storeCells_at P g 0 t (xs.flatMap e.E) 0 cur w hg (by rw [hlen, hn]; omega) (flat_one e xs)
 rw [show cur.toList.take (0 + 0) ++ xs.flatMap e.E ++ cur.toList.drop (0 + 0 + (xs.flatMap e.E).length) = xs.flatMap e.E by
  rw [List.drop_eq_nil_of_le (by rw [hlen, hn, Array.length_toList]; omega)]; simp] at hst
 rw [hlen, hn] at hl
 cases hq : P.info? elem with
 | none => simp [hq] at hs
 | some i =>
  have hi : i.size = e.k := by simpa [hq] using hs
  simp [Builtin.copy_, run_underlying hu, Builtin.lenOf, Builtin.firstCells, sizeOf, typeInfo, hq, hi, hl, hst]
theorem wpList_copy_t {P : Program} {w : World} {ops : Array Oper} {rest : List Oper} {o : Oper} {a : Act} {Q : Exit → Act → World → Prop} (hgd : o.guard = none) (d s : Operand) (dT sT : TypeId)
  (ho : o.op = .call { callee := .builtin .copy, args := #[d, s], argTypes := #[dT, sT] }) (elem : TypeId) (hu : P.underlying dT = some (.slice elem)) (hsz : (P.info? elem).map (·.size) = some e.k)
  (g n : Nat) (cur : Array Value) (t : TypeId) (hg : Blk w g cur t) (hz : cur.size = n * e.k) (sp : Option Addr) (nS cS : Nat) (xs : List α) (hd : a.eval d = .slice (some ⟨g, 0, none⟩) n n) (hs : a.eval s = .slice sp nS cS) (hr : TRow e w (.slice sp nS cS) xs) (hn : xs.length = n) (hnS : nS = n) (h0 : 0 < n) (hmx : n ≤ maxLen)
  (h : ∀ w', OwnT e w' g t (.slice (some ⟨g, 0, none⟩) n n) xs → Chg g w w' → wpList P ops Q rest (a.put o.dst (goInt n)) w') : wpList P ops Q (o :: rest) a w := by
 refine wpList_plain hgd fun K hK => ?_
 have hrun := run_copy_t (P := P) w dT sT o.type elem hu hsz g n cur t hg hz sp nS cS xs hr hn hnS h0
 unfold Oper.wp
 simp [execOp, ho, resolve, invoke, builtin, hd, hs, hrun, Result.andThen]
 have hrow := setRow_heap w g cur (xs.flatMap e.E).toArray t (0, 0) hg
 refine hK _ _ (h _ (OwnT.mk' hn.symm (Nat.le_refl _) hrow (Nat.le_refl _) hmx ?_ ?_) ⟨?_, ?_⟩)
 ·rw [List.size_toArray, flat_length, hn]
 ·rw [List.toList_toArray, List.take_of_length_le (by rw [flat_length, hn]; exact Nat.le_refl _)]
 ·exact below_setRow (Below.refl _ _) (Nat.zero_le _) _
 ·intro b hb hne
  exact setRow_other w g b _ hne
end
end Go.Proofs.Yteogdfpkcoodlaa
namespace Go.Proofs.Yteogdfpkcoodlaa
open Go.RowKit
set_option linter.unusedSimpArgs false
/-- A cycle whose list of what all have said is the call's own. -/
structure RunO (P : Nat → Prop) (w : World) (base N : Nat) (x : RunX) : Prop where
 g : ∃ g, x.pf = some ⟨g, 0, none⟩ ∧ base ≤ g ∧ g < w.heap.size
 cap : x.cf = N
 len : x.r.hs.length = N
 hs : HsO P w base (.slice x.pf x.r.hs.length x.cf) x.r.hs
 ls : TRow encN w (.slice x.pl x.r.ls.length x.cl) x.r.ls
 al : At P (.slice x.pl x.r.ls.length x.cl) x.r.ls.length
 ns : Row .i64 w (.slice x.pn x.r.ns.length x.cn) x.r.ns
 an : At P (.slice x.pn x.r.ns.length x.cn) x.r.ns.length
theorem RunO.kept {P : Nat → Prop} {w w' : World} {base N : Nat} {x : RunX} (h : RunO P w base N x) (hb : Below w.heap.size w w') : RunO P w' base N x :=
 ⟨by obtain ⟨g, h1, h2, h3⟩ := h.g; exact ⟨g, h1, h2, Nat.lt_of_lt_of_le h3 hb.size⟩, h.cap, h.len, h.hs.kept hb, h.ls.kept hb, h.al, h.ns.kept hb, h.an⟩
theorem RunO.imp {P Q : Nat → Prop} {w : World} {base N : Nat} {x : RunX} (h : RunO P w base N x) (hq : ∀ b, P b → Q b) : RunO Q w base N x := ⟨h.g, h.cap, h.len, h.hs.imp hq, h.ls, h.al.imp hq, h.ns, h.an.imp hq⟩
theorem RunO.in_ {P : Nat → Prop} {w : World} {base N : Nat} {x : RunX} (h : RunO P w base N x) (hP : ∀ b, base ≤ b → b < w.heap.size → P b) : x.In P w := ⟨h.hs.row hP, h.ls, h.al, h.ns, h.an⟩
theorem RunO.chg {P : Nat → Prop} {w w' : World} {base N g : Nat} {x : RunX} (h : RunO P w base N x) (hc : Chg g w w') (hg : g < base) (hp : ¬ P g) : RunO P w' base N x := by
 have hk := KeepP.of_chg hc hp
 obtain ⟨xs, h1, h2, h3⟩ := h.hs
 exact ⟨by obtain ⟨g, h1, h2, h3⟩ := h.g; exact ⟨g, h1, h2, Nat.lt_of_lt_of_le h3 hc.size⟩, h.cap, h.len, ⟨xs, h1.stay (fun b hb => hc.2 b (h1.lt b hb) (by have := h1.block_ge b hb; omega)), fun y hy => (h2 y hy).keepP hk, h3⟩, h.ls.keepP h.al hk, h.al, h.ns.keepP h.an hk, h.an⟩
theorem stop_copyH {P : Program} {ops : Array Oper} {rest : List Oper} {o : Oper} {a : Act} {w : World} {Q : Exit → Act → World → Prop} (d s : Operand) (t u : TypeId)
  (_ : o.op = .call { callee := .builtin .copy, args := #[d, s], argTypes := #[t, u] }) (h : Hid (wpList P ops Q (o :: rest) a w)) : wpList P ops Q (o :: rest) a w := h
theorem sizeH : (Try.prog.info? 80).map (·.size) = some encH.k := by kernel_rfl
set_option linter.unusedSimpArgs false in
set_option maxHeartbeats 4000000 in
set_option maxRecDepth 100000 in
theorem crun_any (w : World) (P : Nat → Prop) (N : Nat) (k : Int) (p : Option Addr) (n c : Nat) (rs : List Rn) (hrs : RsR P w (.slice p n c) rs) (hn : n = rs.length) (hl : n ≤ 2000) (hk1 : 1 ≤ k) (hk2 : k ≤ n) (hN1 : 1 ≤ N) (hN8 : N ≤ 8) (hlen : ∀ r ∈ rs, r.hs.length = N) :
  Calls Try.prog 43 #[.agg #[.int .i64 (N : Int), .slice p n c], .int .i64 k] w fun e w' => ∃ x : RunX, e = .returned x.v ∧ rs[(k - 1).toNat]? = some x.r ∧ RunO P w' w.heap.size N x ∧ Below w.heap.size w w' := by
 obtain ⟨xs, hr, hat, hin, hm⟩ := hrs
 have hnx : xs.length = n := by rw [hn, ← hm, List.length_map]
 obtain ⟨kn, hk⟩ : ∃ kn : Nat, k = (kn : Int) + 1 := ⟨(k - 1).toNat, by omega⟩
 subst hk
 have hkn : kn < xs.length := by omega
 obtain ⟨x, hx⟩ : ∃ x, xs[kn] = x := ⟨_, rfl⟩
 have HXI : Hid (x.In P w) := Lib.hid (hin x (by rw [← hx]; exact List.getElem_mem hkn))
 have HXL : Hid (x.r.hs.length = N) := Lib.hid (hlen x.r (by rw [← hm]; exact List.mem_map_of_mem (by rw [← hx]; exact List.getElem_mem hkn)))
 have HXR : Hid (rs[kn]? = some x.r) := Lib.hid (by rw [← hm, List.getElem?_map, List.getElem?_eq_getElem hkn, hx]; rfl)
 obtain ⟨b, o, hp, hbl, hcs⟩ := hr.at_ kn hkn
 rw [hx] at hcs
 subst hp
 have HBL := Lib.hid hbl
 have HKN : Hid (kn < n) := Lib.hid (by omega)
 have HNN : Hid (1 ≤ N ∧ N ≤ 8) := Lib.hid ⟨hN1, hN8⟩
 have hcap : xs.length ≤ c := hr.cap
 have hkI : (kn : Int) < (n : Int) := by omega
 have hkC : (kn : Int) < (c : Int) := by omega
 have hw1 : wrap64 (kn : Int) = (kn : Int) := by unfold wrap64; omega
 have HCS := Lib.hid hcs
 clear hr hat hin hm hn hk1 hk2 hnx hx hkn hcap hlen hN1 hN8 hbl hcs hl
 have HXW : Hid (∀ t, t < 5 → ∀ W, Below w.heap.size w W → W.cell? ⟨b, o + kn * 5 + t, none⟩ = (encR.E x)[t]?) := Lib.hid (fun t ht W hW => (hW.cell (p := ⟨b, _, none⟩) HBL.out).trans (HCS.out t ht))
 clear HCS
 have HB0 : Hid (Below w.heap.size w ((w.alloc (.cells #[.int .i64 (N : Int), .slice (some ⟨b, o, none⟩) n c] 27)).alloc (.cells #[.int .i64 0, .int .i64 0, .slice none 0 0, .slice none 0 0, .slice none 0 0] 56))) := Lib.hid (((oneB w _).alloc (by simp <;> omega) _))
 have Hc0 : Hid (Blk ((w.alloc (.cells #[.int .i64 (N : Int), .slice (some ⟨b, o, none⟩) n c] 27)).alloc (.cells #[.int .i64 0, .int .i64 0, .slice none 0 0, .slice none 0 0, .slice none 0 0] 56)) w.heap.size #[.int .i64 (N : Int), .slice (some ⟨b, o, none⟩) n c] 27) := Lib.hid ((Blk.new w #[.int .i64 (N : Int), .slice (some ⟨b, o, none⟩) n c] 27).alloc _)
 have Hr0 : Hid (Blk ((w.alloc (.cells #[.int .i64 (N : Int), .slice (some ⟨b, o, none⟩) n c] 27)).alloc (.cells #[.int .i64 0, .int .i64 0, .slice none 0 0, .slice none 0 0, .slice none 0 0] 56)) (w.heap.size + 1) #[.int .i64 0, .int .i64 0, .slice none 0 0, .slice none 0 0, .slice none 0 0] 56) := Lib.hid (Blk.new' (w.alloc (.cells #[.int .i64 (N : Int), .slice (some ⟨b, o, none⟩) n c] 27)) #[.int .i64 0, .int .i64 0, .slice none 0 0, .slice none 0 0, .slice none 0 0] 56 (by simp))
 have HZ0 : Hid (w.heap.size ≤ ((w.alloc (.cells #[.int .i64 (N : Int), .slice (some ⟨b, o, none⟩) n c] 27)).alloc (.cells #[.int .i64 0, .int .i64 0, .slice none 0 0, .slice none 0 0, .slice none 0 0] 56)).heap.size) := Lib.hid HB0.out.size
 go_enter Try.func43, Try.ntmps43
 go_upto_region 1 with fail
 generalize ((w.alloc (.cells #[.int .i64 (N : Int), .slice (some ⟨b, o, none⟩) n c] 27)).alloc (.cells #[.int .i64 0, .int .i64 0, .slice none 0 0, .slice none 0 0, .slice none 0 0] 56)) = W at *
 have HWL : Hid (w.heap.size + 1 < W.heap.size) := Lib.hid Hr0.out.lt
 have a1 : W.cell? ⟨w.heap.size, 1, none⟩ = some (.slice (some ⟨b, o, none⟩) n c) := Hc0.out.cell 1
 have x0 : W.cell? ⟨b, o + kn * 5, none⟩ = some (.int .i64 x.r.cu) := HXW.out 0 (by decide) W HB0.out
 have x1 : W.cell? ⟨b, o + kn * 5 + 1, none⟩ = some (.int .i64 x.r.st) := HXW.out 1 (by decide) W HB0.out
 have x2 : W.cell? ⟨b, o + kn * 5 + 2, none⟩ = some (.slice x.pf x.r.hs.length x.cf) := HXW.out 2 (by decide) W HB0.out
 have x3 : W.cell? ⟨b, o + kn * 5 + 3, none⟩ = some (.slice x.pl x.r.ls.length x.cl) := HXW.out 3 (by decide) W HB0.out
 have x4 : W.cell? ⟨b, o + kn * 5 + 4, none⟩ = some (.slice x.pn x.r.ns.length x.cn) := HXW.out 4 (by decide) W HB0.out
 have hba := oneB W (.cells #[.int .i64 x.r.cu, .int .i64 x.r.st, .slice x.pf x.r.hs.length x.cf, .slice x.pl x.r.ls.length x.cl, .slice x.pn x.r.ns.length x.cn] 56)
 have Hc1 := kbq Hc0 hba
 have Hr1 := kbq Hr0 hba
 have Hx1 := Lib.hid (Blk.new W #[.int .i64 x.r.cu, .int .i64 x.r.st, .slice x.pf x.r.hs.length x.cf, .slice x.pl x.r.ls.length x.cl, .slice x.pn x.r.ns.length x.cn] 56)
 have HB1 := Lib.hid (HB0.out.alloc HB0.out.size (.cells #[.int .i64 x.r.cu, .int .i64 x.r.st, .slice x.pf x.r.hs.length x.cf, .slice x.pl x.r.ls.length x.cl, .slice x.pn x.r.ns.length x.cn] 56))
 have HZ1 := kzq HZ0 hba.size
 have HGgx : Hid (w.heap.size ≤ W.heap.size) := Lib.hid HB0.out.size
 clear hba Hc0 Hr0 HB0 HZ0
 go_upto_region 2 with fail
 clear a1 x0 x1 x2 x3 x4 hkI hkC hw1 HXW
 generalize (W.alloc (.cells #[.int .i64 x.r.cu, .int .i64 x.r.st, .slice x.pf x.r.hs.length x.cf, .slice x.pl x.r.ls.length x.cl, .slice x.pn x.r.ns.length x.cn] 56)) = W1 at *
 generalize hggx : W.heap.size = gx at *
 clear hggx
 have HG := Lib.hid (entities_any W1 (N : Int) (some ⟨b, o, none⟩) n c (by omega) (by have := HNN.out; omega))
 have a0 : W1.cell? ⟨w.heap.size, 0, none⟩ = some (.int .i64 (N : Int)) := Hc1.out.cell 0
 have a1 : W1.cell? ⟨w.heap.size, 1, none⟩ = some (.slice (some ⟨b, o, none⟩) n c) := Hc1.out.cell 1
 go_wp2_with fail
 clear a0 a1
 refine HG.out.mono ?_
 rintro y9 w2 ⟨rfl, hb⟩
 clear HG
 have Hc2 := kbq Hc1 hb
 have Hr2 := kbq Hr1 hb
 have Hx2 := kbq Hx1 hb
 have HB2 := ktq HB1 hb
 have HZ2 := kzq HZ1 hb.size
 clear Hc1 Hr1 Hx1 HB1 HZ1
 clear hb
 obtain ⟨i0, hu, hi, hz, hs, hby⟩ := eltH
 have hmk := run_make (P := Try.prog) w2 54 80 i0 _ hu hi hz .i64 .i64 (N : Int) (N : Int) (by omega) (Int.le_refl _) (by rw [hby]; have := HNN.out; omega) (by have := HNN.out; omega)
 rw [hs] at hmk
 simp only [Int.toNat_natCast, Value.cells, zeroVH] at hmk
 clear hu hi hz hs hby
 have HGM : Hid (gx < w2.heap.size) := Lib.hid Hx2.out.lt
 have hba := oneB w2 (.cells (madeCells #[.bool false, .bool false, .slice none 0 0] (N * encH.k)) 80)
 have Hc3 := kbq Hc2 hba
 have Hr3 := kbq Hr2 hba
 have Hx3 := kbq Hx2 hba
 have Hm3 := Lib.hid (Blk.new w2 (madeCells #[.bool false, .bool false, .slice none 0 0] (N * encH.k)) 80)
 have HB3 := Lib.hid (HB2.out.alloc HB2.out.size (.cells (madeCells #[.bool false, .bool false, .slice none 0 0] (N * encH.k)) 80))
 have HZ3 := kzq HZ2 hba.size
 have HGgm : Hid (w.heap.size ≤ w2.heap.size) := Lib.hid HB2.out.size
 clear hba Hc2 Hr2 Hx2 HB2 HZ2
 go_upto_region 3 with fail
 clear hmk
 generalize (w2.alloc (.cells (madeCells #[.bool false, .bool false, .slice none 0 0] (N * encH.k)) 80)) = W3 at *
 generalize hggm : w2.heap.size = gm at *
 clear hggm
 obtain ⟨ys, yr, yat, yin, ym⟩ := HXI.out.hs
 have hyl : ys.length = N := by rw [← HXL.out, ← ym, List.length_map]
 have HYR := Lib.hid yr
 have HYI0 := Lib.hid yin
 have HYM := Lib.hid ym
 have HYL := Lib.hid hyl
 clear yr yat yin ym hyl
 have x2 : W3.cell? ⟨gx, 2, none⟩ = some (.slice x.pf x.r.hs.length x.cf) := Hx3.out.cell 2
 go_wp2_with (with_reducible refine stop_copyH (.tmp 16) (.tmp 18) 54 54 rfl ?_)
 clear x2
 refine wpList_copy_t (e := encH) rfl (.tmp 16) (.tmp 18) 54 54 rfl 80 Try.underlying54 sizeH gm N (madeCells #[.bool false, .bool false, .slice none 0 0] (N * encH.k)) 80 Hm3.out (by simp [madeCells]) x.pf x.r.hs.length x.cf ys rfl rfl (HYR.out.kept HB3.out) HYL.out HXL.out (by have := HNN.out; omega) (by have := HNN.out; unfold maxLen; omega) ?_
 intro W4 hown hch
 have HO := Lib.hid hown
 have hch := Lib.hid hch
 clear hown
 have Hc4 := kcq Hc3 hch (by have := HWL.out; have := HGM.out; omega)
 have Hr4 := kcq Hr3 hch (by have := HWL.out; have := HGM.out; omega)
 have Hx4 := kcq Hx3 hch (by have := HWL.out; have := HGM.out; omega)
 have HB4 : Hid (Below w.heap.size w W4) := Lib.hid (HB3.out.trans (hch.out.below (by have := HGgm.out; omega) HB3.out.size))
 have HZ4 := kzq HZ3 hch.out.size
 clear hch HYR Hc3 Hr3 Hx3 Hm3 HB3 HZ3
 have z2 : W4.cell? ⟨gx, 2, none⟩ = some (.slice x.pf x.r.hs.length x.cf) := Hx4.out.cell 2
 have f2 := Hx4.out.free 2
 go_upto_region 5 with fail
 clear z2 f2
 have hch := Lib.hid ((Chg.refl gx W4).set 2 (.slice (some ⟨gm, 0, none⟩) N N))
 have Hx5 : Hid (Blk _ gx #[.int .i64 x.r.cu, .int .i64 x.r.st, .slice (some ⟨gm, 0, none⟩) N N, .slice x.pl x.r.ls.length x.cl, .slice x.pn x.r.ns.length x.cn] 56) := Lib.hid (Hx4.out.set 2 (.slice (some ⟨gm, 0, none⟩) N N))
 have HB5 := ksq HB4 hch (by have := HGgx.out; show w.heap.size ≤ gx; omega)
 have HZ5 : Hid (w.heap.size ≤ (W4.setCell ⟨gx, 2, none⟩ (.slice (some ⟨gm, 0, none⟩) N N)).heap.size) := Lib.hid HB5.out.size
 have Hc5 := kcq Hc4 hch (by have := HWL.out; omega)
 have Hr5 := kcq Hr4 hch (by have := HWL.out; omega)
 have HO2 := Lib.hid (HO.out.stay (fun g hg => hch.out.2 g (HO.out.lt g hg) (by have h1 := HO.out.block_ge g hg; have := HGM.out; omega)))
 clear hch HO Hc4 Hr4 Hx4 HB4 HZ4
 generalize (W4.setCell ⟨gx, 2, none⟩ (.slice (some ⟨gm, 0, none⟩) N N)) = W5 at *
 have x0 : W5.cell? ⟨gx, 0, none⟩ = some (.int .i64 x.r.cu) := Hx5.out.cell 0
 have x1 : W5.cell? ⟨gx, 1, none⟩ = some (.int .i64 x.r.st) := Hx5.out.cell 1
 have x2 : W5.cell? ⟨gx, 2, none⟩ = some (.slice (some ⟨gm, 0, none⟩) N N) := Hx5.out.cell 2
 have x3 : W5.cell? ⟨gx, 3, none⟩ = some (.slice x.pl x.r.ls.length x.cl) := Hx5.out.cell 3
 have x4 : W5.cell? ⟨gx, 4, none⟩ = some (.slice x.pn x.r.ns.length x.cn) := Hx5.out.cell 4
 go_wp2_with (with_reducible refine stop_storeT 56 (.tmp 4) (.tmp 22) rfl ?_)
 clear x0 x1 x2 x3 x4
 have HTH : Hid (W5.there (w.heap.size + 1) 0 5) := Hr5.out.thereAt
 have hch : Hid (Chg (w.heap.size + 1) W5 (W5.setCells (w.heap.size + 1) 0 (#[.int .i64 x.r.cu, .int .i64 x.r.st, .slice (some ⟨gm, 0, none⟩) N N, .slice x.pl x.r.ls.length x.cl, .slice x.pn x.r.ns.length x.cn] : Array Value).toList)) := Lib.hid (chg_putL _ _ _ _ _ (Chg.refl _ W5))
 have Hr6 : Hid (Blk (W5.setCells (w.heap.size + 1) 0 (#[.int .i64 x.r.cu, .int .i64 x.r.st, .slice (some ⟨gm, 0, none⟩) N N, .slice x.pl x.r.ls.length x.cl, .slice x.pn x.r.ns.length x.cn] : Array Value).toList) (w.heap.size + 1) #[.int .i64 x.r.cu, .int .i64 x.r.st, .slice (some ⟨gm, 0, none⟩) N N, .slice x.pl x.r.ls.length x.cl, .slice x.pn x.r.ns.length x.cn] 56) := Lib.hid (blk_put_all Hr5.out _ rfl)
 have HB6 : Hid (Below w.heap.size w (W5.setCells (w.heap.size + 1) 0 (#[.int .i64 x.r.cu, .int .i64 x.r.st, .slice (some ⟨gm, 0, none⟩) N N, .slice x.pl x.r.ls.length x.cl, .slice x.pn x.r.ns.length x.cn] : Array Value).toList)) := Lib.hid (below_put (by have := HWL.out; have := HGM.out; omega) _ _ _ _ HB5.out)
 have HZ6 := kzq HZ5 hch.out.size
 have Hc6 := kcq Hc5 hch (by have := HWL.out; have := HGM.out; omega)
 have Hx6 := kcq Hx5 hch (by have := HWL.out; have := HGM.out; omega)
 have HO3 := Lib.hid (HO2.out.stay (fun g hg => hch.out.2 g (HO2.out.lt g hg) (by have h1 := HO2.out.block_ge g hg; have := HGM.out; have := HWL.out; omega)))
 clear HO2 hch Hc5 Hr5 Hx5 HB5 HZ5
 refine wpList_store_mid rfl 56 (.tmp 4) (.tmp 22) rfl (w.heap.size + 1) 0 #[.int .i64 x.r.cu, .int .i64 x.r.st, .slice (some ⟨gm, 0, none⟩) N N, .slice x.pl x.r.ls.length x.cl, .slice x.pn x.r.ns.length x.cn] rfl rfl HTH.out (infoR5 rfl) (all_oneCell_toArray (by intro u hu; simp at hu; rcases hu with rfl | rfl | rfl | rfl | rfl <;> rfl)) ?_
 generalize (W5.setCells (w.heap.size + 1) 0 (#[.int .i64 x.r.cu, .int .i64 x.r.st, .slice (some ⟨gm, 0, none⟩) N N, .slice x.pl x.r.ls.length x.cl, .slice x.pn x.r.ns.length x.cn] : Array Value).toList) = W6 at *
 clear HTH
 go_wp2_with fail
 have hfr := Hr6.out
 refine bodyPost_ret (v := .agg #[.int .i64 x.r.cu, .int .i64 x.r.st, .slice (some ⟨gm, 0, none⟩) N N, .slice x.pl x.r.ls.length x.cl, .slice x.pn x.r.ns.length x.cn]) (by simp [results, Try.results43, go_sem, hfr.cell 0, hfr.cell 1, hfr.cell 2, hfr.cell 3, hfr.cell 4]) rfl ?_
 obtain ⟨g1, h1, h2⟩ : ∃ g1, g1 = gm ∧ w.heap.size ≤ g1 := ⟨gm, rfl, by have := HGM.out; have := HWL.out; omega⟩
 refine ⟨{ x with pf := some ⟨gm, 0, none⟩, cf := N }, ?_, ?_, ⟨⟨gm, rfl, by omega, HO3.out.lt gm rfl⟩, rfl, HXL.out, ⟨ys, ?_, fun y hy => (HYI0.out y hy).kept HB6.out, HYM.out⟩, HXI.out.ls.kept HB6.out, HXI.out.al, HXI.out.ns.kept HB6.out, HXI.out.an⟩, HB6.out⟩
 ·unfold RunX.v
  rw [show x.r.hs.length = N from HXL.out]
 ·rw [Int.add_sub_cancel, Int.toNat_natCast]; exact HXR.out
 ·rw [show x.r.hs.length = N from HXL.out]; exact HO3.out.less (by omega)
end Go.Proofs.Yteogdfpkcoodlaa
namespace Go.Proofs.Yteogdfpkcoodlaa
open Go.RowKit
set_option linter.unusedSimpArgs false in
set_option maxHeartbeats 4000000 in
set_option maxRecDepth 100000 in
theorem cloneN_any (w : World) (v : Value) (xs : List Lin) (hr : TRow encN w v xs) (hn : xs.length * 32 ≤ 140737488355000) :
  Calls Try.prog 23 #[v] w fun e w' => ∃ v', e = .returned v' ∧ OwnT encN w' w.heap.size 64 v' xs ∧ Below w.heap.size w w' := by
 obtain ⟨p, c, rfl⟩ := hr.shape
 cases p with
 | none =>
  have hx : xs = [] := by
   obtain ⟨p', c', e1, _, h⟩ := hr
   cases e1
   rcases h with h | ⟨b, o, h, _⟩
   ·exact h
   ·cases h
  subst hx
  clear hr
  have kq := Lib.run_eql_slice_nil (P := Try.prog) w 33 64 none 0 c 0 0 Try.underlying33
  simp only [List.length_nil]
  go_enter Try.func23, Try.ntmps23
  go_wp2
  go_ret
  exact ⟨_, rfl, OwnT.nil_ _ _ _ _, Below.refl _ _⟩
 | some a =>
  have HR := Lib.hid hr
  have HM := Lib.hid (OwnT.madeE encN w w.heap.size 64 (Nat.le_refl _))
  have HB := Lib.hid (oneB w (.cells #[] 64))
  have HN := Lib.hid hn
  clear hr hn
  generalize hl : xs.length = n at *
  have HL := Lib.hid hl
  clear hl
  have kq := Lib.run_eql_slice_nil (P := Try.prog) w 33 64 (some a) n c 0 0 Try.underlying33
  go_enter Try.func23, Try.ntmps23
  go_wp2_with (at_builtin; with_reducible refine stop_appendT (.tmp 5) (.tmp 6) 33 rfl ?_)
  refine wpList_append_tb rfl (.tmp 5) (.tmp 6) 33 rfl 64 (.agg #[.int .i64 0, .int .i64 0, .int .i64 0, .int .i64 0]) 32 w.heap.size elt_cloneN_any rfl (.slice (some ⟨w.heap.size, 0, none⟩) 0 0) (.slice (some a) n c) [] xs rfl rfl HM.out (HR.out.kept HB.out) (by have := HL.out; have := HN.out; simp; omega) (by have := HL.out; have := HN.out; simp; omega) HB.out.size xs n (List.nil_append _) HL.out ?_
  intro p' c' w' ho _ hb
  have HO := Lib.hid ho
  have HB2 := Lib.hid (HB.out.trans hb)
  clear ho hb
  go_wp2_with fail
  go_ret
  exact ⟨_, rfl, HO.out, HB2.out⟩
set_option linter.unusedSimpArgs false in
set_option maxHeartbeats 4000000 in
set_option maxRecDepth 100000 in
theorem clone64_any (w : World) (v : Value) (xs : List Int) (hr : Row .i64 w v xs) (hn : xs.length * 8 ≤ 140737488355000) :
  Calls Try.prog 24 #[v] w fun e w' => ∃ v', e = .returned v' ∧ Own .i64 w' w.heap.size 2 v' xs ∧ Below w.heap.size w w' := by
 obtain ⟨p, c, rfl⟩ := hr.shape
 cases p with
 | none =>
  have hx : xs = [] := by
   obtain ⟨p', c', e1, _, h⟩ := hr
   cases e1
   rcases h with h | ⟨b, o, h, _⟩
   ·exact h
   ·cases h
  subst hx
  clear hr
  have kq := Lib.run_eql_slice_nil (P := Try.prog) w 34 2 none 0 c 0 0 Try.underlying34
  simp only [List.length_nil]
  go_enter Try.func24, Try.ntmps24
  go_wp2
  go_ret
  exact ⟨_, rfl, Own.nil_ _ _ _ _, Below.refl _ _⟩
 | some a =>
  have HR := Lib.hid hr
  have HM := Lib.hid (Own.made .i64 w w.heap.size 2 (Nat.le_refl _))
  have HB := Lib.hid (oneB w (.cells #[] 2))
  have HN := Lib.hid hn
  clear hr hn
  generalize hl : xs.length = n at *
  have HL := Lib.hid hl
  clear hl
  have kq := Lib.run_eql_slice_nil (P := Try.prog) w 34 2 (some a) n c 0 0 Try.underlying34
  go_enter Try.func24, Try.ntmps24
  go_wp2_with (at_builtin; with_reducible refine stop_appendT (.tmp 5) (.tmp 6) 34 rfl ?_)
  refine wpList_append_row rfl (.tmp 5) (.tmp 6) 34 rfl 2 .i64 8 w.heap.size elt64M (.slice (some ⟨w.heap.size, 0, none⟩) 0 0) (.slice (some a) n c) [] xs rfl rfl HM.out (HR.out.kept HB.out) (by have := HL.out; have := HN.out; simp; omega) (by have := HL.out; have := HN.out; simp; omega) HB.out.size xs n (List.nil_append _) HL.out ?_
  intro p' c' w' ho hb
  have HO := Lib.hid ho
  have HB2 := Lib.hid (HB.out.trans hb)
  clear ho hb
  go_wp2_with fail
  go_ret
  exact ⟨_, rfl, HO.out, HB2.out⟩
end Go.Proofs.Yteogdfpkcoodlaa
namespace Go.Proofs.Yteogdfpkcoodlaa
open Go.RowKit
set_option linter.unusedSimpArgs false
/-- Something that is said to the entities from 0 on. -/
def toAllL (N : Nat) (m : Msg) : List (Int × Msg) := (List.range N).map (fun (i : Nat) => ((i : Int), m))
theorem toAllL_succ (k : Nat) (m : Msg) : toAllL (k + 1) m = toAllL k m ++ [((k : Int), m)] := by
 unfold toAllL
 rw [List.range_succ, List.map_append]
 rfl
theorem toAllL_len (k : Nat) (m : Msg) : (toAllL k m).length = k := by unfold toAllL; simp
def AllR (W : World) (m : Msg) (k : Nat) (v : Value) (wr : World) : Prop := ∃ xs : List SdX, OwnT encS wr W.heap.size 47 v xs ∧ (∀ z ∈ xs, z.x.InF (fun b => W.heap.size ≤ b ∧ v.ownBlock ≠ some b) wr) ∧ xs.map (fun z => (z.tw, z.x.m)) = toAllL k m ∧ Below W.heap.size W wr
theorem AllR.form {W wr : World} {m : Msg} {k : Nat} {v : Value} (h : AllR W m k v wr) : ∃ p c, v = .slice p k c := by
 obtain ⟨xs, h1, _, h3, _⟩ := h
 obtain ⟨p, c, rfl⟩ := h1.form
 have := congrArg List.length h3
 rw [List.length_map, toAllL_len] at this
 exact ⟨p, c, by rw [this]⟩
set_option linter.unusedSimpArgs false in
set_option maxHeartbeats 4000000 in
set_option maxRecDepth 100000 in
theorem toAll_any (w : World) (N : Nat) (p : Option Addr) (n c : Nat) (y : MsgX) (P : Nat → Prop) (h8 : N ≤ 8) (hy : y.InP P w) :
  Calls Try.prog 56 #[.agg #[.int .i64 (N : Int), .slice p n c], y.m.v (.slice y.pl y.m.ls.length y.cl) (.slice y.pn y.m.ns.length y.cn)] w fun e w' => ∃ p' c', e = .returned (.slice p' N c') ∧ SaidL w' w.heap.size (.slice p' N c') (toAllL N y.m) ∧ Below w.heap.size w w' := by
 have HY := Lib.hid hy
 have HNN : Hid (N ≤ 8) := Lib.hid h8
 clear hy h8
 unfold Msg.v
 have HB0 : Hid (Below w.heap.size w ((w.alloc (.cells #[.int .i64 (N : Int), .slice p n c] 27)).alloc (.cells #[.int .i64 y.m.k, .int .i64 y.m.s, .int .i64 y.m.n, .int .i64 y.m.b, .int .i64 y.m.c, .int .i64 y.m.r, .int .i64 y.m.y, .int .i64 y.m.a, .bool y.m.t, .slice y.pl y.m.ls.length y.cl, .slice y.pn y.m.ns.length y.cn] 36))) := Lib.hid (((oneB w _).alloc (by simp <;> omega) _))
 have Hc0 : Hid (Blk ((w.alloc (.cells #[.int .i64 (N : Int), .slice p n c] 27)).alloc (.cells #[.int .i64 y.m.k, .int .i64 y.m.s, .int .i64 y.m.n, .int .i64 y.m.b, .int .i64 y.m.c, .int .i64 y.m.r, .int .i64 y.m.y, .int .i64 y.m.a, .bool y.m.t, .slice y.pl y.m.ls.length y.cl, .slice y.pn y.m.ns.length y.cn] 36)) w.heap.size #[.int .i64 (N : Int), .slice p n c] 27) := Lib.hid ((Blk.new w #[.int .i64 (N : Int), .slice p n c] 27).alloc _)
 have Hm0 : Hid (Blk ((w.alloc (.cells #[.int .i64 (N : Int), .slice p n c] 27)).alloc (.cells #[.int .i64 y.m.k, .int .i64 y.m.s, .int .i64 y.m.n, .int .i64 y.m.b, .int .i64 y.m.c, .int .i64 y.m.r, .int .i64 y.m.y, .int .i64 y.m.a, .bool y.m.t, .slice y.pl y.m.ls.length y.cl, .slice y.pn y.m.ns.length y.cn] 36)) (w.heap.size + 1) #[.int .i64 y.m.k, .int .i64 y.m.s, .int .i64 y.m.n, .int .i64 y.m.b, .int .i64 y.m.c, .int .i64 y.m.r, .int .i64 y.m.y, .int .i64 y.m.a, .bool y.m.t, .slice y.pl y.m.ls.length y.cl, .slice y.pn y.m.ns.length y.cn] 36) := Lib.hid (Blk.new' (w.alloc (.cells #[.int .i64 (N : Int), .slice p n c] 27)) #[.int .i64 y.m.k, .int .i64 y.m.s, .int .i64 y.m.n, .int .i64 y.m.b, .int .i64 y.m.c, .int .i64 y.m.r, .int .i64 y.m.y, .int .i64 y.m.a, .bool y.m.t, .slice y.pl y.m.ls.length y.cl, .slice y.pn y.m.ns.length y.cn] 36 (by simp))
 have HZ0 : Hid (w.heap.size ≤ ((w.alloc (.cells #[.int .i64 (N : Int), .slice p n c] 27)).alloc (.cells #[.int .i64 y.m.k, .int .i64 y.m.s, .int .i64 y.m.n, .int .i64 y.m.b, .int .i64 y.m.c, .int .i64 y.m.r, .int .i64 y.m.y, .int .i64 y.m.a, .bool y.m.t, .slice y.pl y.m.ls.length y.cl, .slice y.pn y.m.ns.length y.cn] 36)).heap.size) := Lib.hid HB0.out.size
 go_enter Try.func56, Try.ntmps56
 go_upto_region 2 with fail
 generalize ((w.alloc (.cells #[.int .i64 (N : Int), .slice p n c] 27)).alloc (.cells #[.int .i64 y.m.k, .int .i64 y.m.s, .int .i64 y.m.n, .int .i64 y.m.b, .int .i64 y.m.c, .int .i64 y.m.r, .int .i64 y.m.y, .int .i64 y.m.a, .bool y.m.t, .slice y.pl y.m.ls.length y.cl, .slice y.pn y.m.ns.length y.cn] 36)) = W at *
 have HYW := Lib.hid (HY.out.kept HB0.out)
 clear HY
 have HG := Lib.hid (entities_any W (N : Int) p n c (by omega) (by have := HNN.out; omega))
 have a0 : W.cell? ⟨w.heap.size, 0, none⟩ = some (.int .i64 (N : Int)) := Hc0.out.cell 0
 have a1 : W.cell? ⟨w.heap.size, 1, none⟩ = some (.slice p n c) := Hc0.out.cell 1
 go_wp2_with fail
 clear a0 a1
 refine HG.out.mono ?_
 rintro y9 w1 ⟨rfl, hb⟩
 clear HG
 have hb9 := hb
 have Hc1 := kbq Hc0 hb
 have Hm1 := kbq Hm0 hb
 have HB1 := ktq HB0 hb
 have HZ1 := kzq HZ0 hb.size
 clear Hc0 Hm0 HB0 HZ0
 clear hb
 have HYY := Lib.hid (HYW.out.kept hb9)
 clear HYW hb9
 have HREL : Hid (AllR w1 y.m 0 (.slice none 0 0) w1) := ⟨[], OwnT.nil_ _ _ _ _, (fun _ h => by cases h), rfl, Below.refl _ _⟩
 have HML := Lib.hid Hm1.out.lt
 go_wp2_with fail
 go_loopw [5, 10] (fun v i wr => ∃ k : Nat, k ≤ N ∧ i = .int .i64 k ∧ Hid (AllR w1 y.m k v wr)) (fun _ i _ => N - (intOf i).toNat)
 case atStart => exact ⟨0, by omega, rfl, HREL⟩
 case round =>
  clear HREL
  obtain ⟨k, hk, rfl, HK⟩ := hrel
  have hk9 : k + 1 ≤ 9 := by have := HNN.out; omega
  obtain ⟨pz, cz, hvz⟩ := HK.out.form
  subst hvz
  by_cases hlt : k < N
  ·have hltI : (k : Int) < (N : Int) := by omega
   have HBK := Lib.hid (by obtain ⟨_, _, _, _, h⟩ := HK.out; exact h : Below w1.heap.size w1 wr)
   have Hm0 := Lib.hid (Hm1.out.below HBK.out Hm1.out.lt)
   have HB0 := Lib.hid (Below.refl wr.heap.size wr)
   have HZ0 : Hid (wr.heap.size ≤ wr.heap.size) := Lib.hid (Nat.le_refl _)
   have HGM : Hid (w.heap.size + 1 < wr.heap.size) := Lib.hid Hm0.out.lt
   have HYR := Lib.hid (HYY.out.kept HBK.out)
   have c0 : wr.cell? ⟨(w.heap.size + 1), 0, none⟩ = some (.int .i64 y.m.k) := Hm0.out.cell 0
   have c1 : wr.cell? ⟨(w.heap.size + 1), 1, none⟩ = some (.int .i64 y.m.s) := Hm0.out.cell 1
   have c2 : wr.cell? ⟨(w.heap.size + 1), 2, none⟩ = some (.int .i64 y.m.n) := Hm0.out.cell 2
   have c3 : wr.cell? ⟨(w.heap.size + 1), 3, none⟩ = some (.int .i64 y.m.b) := Hm0.out.cell 3
   have c4 : wr.cell? ⟨(w.heap.size + 1), 4, none⟩ = some (.int .i64 y.m.c) := Hm0.out.cell 4
   have c5 : wr.cell? ⟨(w.heap.size + 1), 5, none⟩ = some (.int .i64 y.m.r) := Hm0.out.cell 5
   have c6 : wr.cell? ⟨(w.heap.size + 1), 6, none⟩ = some (.int .i64 y.m.y) := Hm0.out.cell 6
   have c7 : wr.cell? ⟨(w.heap.size + 1), 7, none⟩ = some (.int .i64 y.m.a) := Hm0.out.cell 7
   have c8 : wr.cell? ⟨(w.heap.size + 1), 8, none⟩ = some (.bool y.m.t) := Hm0.out.cell 8
   have c9 : wr.cell? ⟨(w.heap.size + 1), 9, none⟩ = some (.slice y.pl y.m.ls.length y.cl) := Hm0.out.cell 9
   have c10 : wr.cell? ⟨(w.heap.size + 1), 10, none⟩ = some (.slice y.pn y.m.ns.length y.cn) := Hm0.out.cell 10
   have hba := oneB wr (.cells #[.int .i64 y.m.k, .int .i64 y.m.s, .int .i64 y.m.n, .int .i64 y.m.b, .int .i64 y.m.c, .int .i64 y.m.r, .int .i64 y.m.y, .int .i64 y.m.a, .bool y.m.t, .slice y.pl y.m.ls.length y.cl, .slice y.pn y.m.ns.length y.cn] 36)
   have Hm1 := kbq Hm0 hba
   have Ho1 := Lib.hid (Blk.new wr #[.int .i64 y.m.k, .int .i64 y.m.s, .int .i64 y.m.n, .int .i64 y.m.b, .int .i64 y.m.c, .int .i64 y.m.r, .int .i64 y.m.y, .int .i64 y.m.a, .bool y.m.t, .slice y.pl y.m.ls.length y.cl, .slice y.pn y.m.ns.length y.cn] 36)
   have HB1 := Lib.hid (HB0.out.alloc HB0.out.size (.cells #[.int .i64 y.m.k, .int .i64 y.m.s, .int .i64 y.m.n, .int .i64 y.m.b, .int .i64 y.m.c, .int .i64 y.m.r, .int .i64 y.m.y, .int .i64 y.m.a, .bool y.m.t, .slice y.pl y.m.ls.length y.cl, .slice y.pn y.m.ns.length y.cn] 36))
   have HZ1 := kzq HZ0 hba.size
   have HGgo : Hid (wr.heap.size ≤ wr.heap.size) := Lib.hid HB0.out.size
   clear hba Hm0 HB0 HZ0
   go_upto_region 6 with fail
   clear c0 c1 c2 c3 c4 c5 c6 c7 c8 c9 c10 hltI
   generalize (wr.alloc (.cells #[.int .i64 y.m.k, .int .i64 y.m.s, .int .i64 y.m.n, .int .i64 y.m.b, .int .i64 y.m.c, .int .i64 y.m.r, .int .i64 y.m.y, .int .i64 y.m.a, .bool y.m.t, .slice y.pl y.m.ls.length y.cl, .slice y.pn y.m.ns.length y.cn] 36)) = W2 at *
   have hbd := (Below.refl W2.heap.size W2).drew
   have Hm2 := kbq Hm1 hbd
   have Ho2 := kbq Ho1 hbd
   have HB2 := ktq HB1 hbd
   have HZ2 := kzq HZ1 hbd.size
   clear Hm1 Ho1 HB1 HZ1
   have hS1 : W2.drew.cell? ⟨w.heap.size + 1, 0, none⟩ = some (.int .i64 y.m.k) ∧ W2.drew.cell? ⟨w.heap.size + 1, 1, none⟩ = some (.int .i64 y.m.s) ∧ W2.drew.cell? ⟨w.heap.size + 1, 2, none⟩ = some (.int .i64 y.m.n) ∧ W2.drew.cell? ⟨w.heap.size + 1, 3, none⟩ = some (.int .i64 y.m.b) ∧ W2.drew.cell? ⟨w.heap.size + 1, 4, none⟩ = some (.int .i64 y.m.c) ∧ W2.drew.cell? ⟨w.heap.size + 1, 5, none⟩ = some (.int .i64 y.m.r) ∧ W2.drew.cell? ⟨w.heap.size + 1, 6, none⟩ = some (.int .i64 y.m.y) ∧ W2.drew.cell? ⟨w.heap.size + 1, 7, none⟩ = some (.int .i64 y.m.a) ∧ W2.drew.cell? ⟨w.heap.size + 1, 8, none⟩ = some (.bool y.m.t) ∧ W2.drew.cell? ⟨w.heap.size + 1, 9, none⟩ = some (.slice y.pl y.m.ls.length y.cl) ∧ W2.drew.cell? ⟨w.heap.size + 1, 10, none⟩ = some (.slice y.pn y.m.ns.length y.cn) := ⟨Hm2.out.cell 0, Hm2.out.cell 1, Hm2.out.cell 2, Hm2.out.cell 3, Hm2.out.cell 4, Hm2.out.cell 5, Hm2.out.cell 6, Hm2.out.cell 7, Hm2.out.cell 8, Hm2.out.cell 9, Hm2.out.cell 10⟩
   have HWD : Hid (wr.heap.size < W2.drew.heap.size) := Lib.hid Ho2.out.lt
   refine wp_region_held_drew (S := fun w' => w'.cell? ⟨w.heap.size + 1, 0, none⟩ = some (.int .i64 y.m.k) ∧ w'.cell? ⟨w.heap.size + 1, 1, none⟩ = some (.int .i64 y.m.s) ∧ w'.cell? ⟨w.heap.size + 1, 2, none⟩ = some (.int .i64 y.m.n) ∧ w'.cell? ⟨w.heap.size + 1, 3, none⟩ = some (.int .i64 y.m.b) ∧ w'.cell? ⟨w.heap.size + 1, 4, none⟩ = some (.int .i64 y.m.c) ∧ w'.cell? ⟨w.heap.size + 1, 5, none⟩ = some (.int .i64 y.m.r) ∧ w'.cell? ⟨w.heap.size + 1, 6, none⟩ = some (.int .i64 y.m.y) ∧ w'.cell? ⟨w.heap.size + 1, 7, none⟩ = some (.int .i64 y.m.a) ∧ w'.cell? ⟨w.heap.size + 1, 8, none⟩ = some (.bool y.m.t) ∧ w'.cell? ⟨w.heap.size + 1, 9, none⟩ = some (.slice y.pl y.m.ls.length y.cl) ∧ w'.cell? ⟨w.heap.size + 1, 10, none⟩ = some (.slice y.pn y.m.ns.length y.cn)) (by kernel_rfl) hS1 (fun hS0 => ?_)
   clear hS1
   generalize W2.drew = WD at *
   clear hbd
   refine tkq 0 ?_
   refine tkq 1 ?_
   refine tkq 3 ?_
   refine tkq 4 ?_
   refine rdq 2 (fun K hK => ?_)
   have HG := Lib.hid (cloneN_any WD (.slice y.pl y.m.ls.length y.cl) y.m.ls (HYR.out.kept HB2.out).ls (by have := HYR.out.sz.1; omega))
   go_simp
   go_at_call 23
   refine HG.out.mono ?_
   rintro y9 w3 ⟨v3, rfl, ho, hb⟩
   clear HG
   have HLE3 : Hid (WD.heap.size ≤ w3.heap.size) := Lib.hid hb.size
   have HOL := Lib.hid ho
   clear ho
   have Hm3 := kbq Hm2 hb
   have Ho3 := kbq Ho2 hb
   have HB3 := ktq HB2 hb
   have HZ3 := kzq HZ2 hb.size
   clear Hm2 Ho2 HB2 HZ2
   clear hb hS0
   obtain ⟨p3, c3, hv3⟩ := HOL.out.form
   generalize hl3 : y.m.ls.length = l3 at hv3
   subst hv3
   subst hl3
   try go_wp2_with fail
   refine hK.out _ _ ⟨Hm3.out.cell 0, Hm3.out.cell 1, Hm3.out.cell 2, Hm3.out.cell 3, Hm3.out.cell 4, Hm3.out.cell 5, Hm3.out.cell 6, Hm3.out.cell 7, Hm3.out.cell 8, Hm3.out.cell 9, Hm3.out.cell 10⟩ (fun hS0 => ?_)
   clear hK K
   try simp only [Act.put, List.getElem_toArray, List.getElem_cons_succ, List.getElem_cons_zero, List.setIfInBounds_toArray, List.set_cons_zero, List.set_cons_succ]
   refine tkq 6 ?_
   refine rdq 5 (fun K hK => ?_)
   have HG := Lib.hid (clone64_any w3 (.slice y.pn y.m.ns.length y.cn) y.m.ns (HYR.out.kept HB3.out).ns (by have := HYR.out.sz.2; omega))
   go_simp
   go_at_call 24
   refine HG.out.mono ?_
   rintro y9 w4 ⟨v4, rfl, ho, hb⟩
   clear HG
   have HW3 : Hid (WD.heap.size ≤ w3.heap.size) := Lib.hid HLE3.out
   have HON := Lib.hid ho
   have HOL2 := Lib.hid (HOL.out.later hb)
   clear ho HOL
   have Hm4 := kbq Hm3 hb
   have Ho4 := kbq Ho3 hb
   have HB4 := ktq HB3 hb
   have HZ4 := kzq HZ3 hb.size
   clear Hm3 Ho3 HB3 HZ3
   clear hb hS0
   obtain ⟨p4, c4, hv4⟩ := HON.out.form
   generalize hl4 : y.m.ns.length = l4 at hv4
   subst hv4
   subst hl4
   try go_wp2_with fail
   refine hK.out _ _ ⟨Hm4.out.cell 0, Hm4.out.cell 1, Hm4.out.cell 2, Hm4.out.cell 3, Hm4.out.cell 4, Hm4.out.cell 5, Hm4.out.cell 6, Hm4.out.cell 7, Hm4.out.cell 8, Hm4.out.cell 9, Hm4.out.cell 10⟩ (fun hS0 => ?_)
   clear hK K
   try simp only [Act.put, List.getElem_toArray, List.getElem_cons_succ, List.getElem_cons_zero, List.setIfInBounds_toArray, List.set_cons_zero, List.set_cons_succ]
   refine rdq 7 (fun K hK => ?_)
   have z0 : w4.cell? ⟨wr.heap.size, 0, none⟩ = some (.int .i64 y.m.k) := Ho4.out.cell 0
   have z1 : w4.cell? ⟨wr.heap.size, 1, none⟩ = some (.int .i64 y.m.s) := Ho4.out.cell 1
   have z2 : w4.cell? ⟨wr.heap.size, 2, none⟩ = some (.int .i64 y.m.n) := Ho4.out.cell 2
   have z3 : w4.cell? ⟨wr.heap.size, 3, none⟩ = some (.int .i64 y.m.b) := Ho4.out.cell 3
   have z4 : w4.cell? ⟨wr.heap.size, 4, none⟩ = some (.int .i64 y.m.c) := Ho4.out.cell 4
   have z5 : w4.cell? ⟨wr.heap.size, 5, none⟩ = some (.int .i64 y.m.r) := Ho4.out.cell 5
   have z6 : w4.cell? ⟨wr.heap.size, 6, none⟩ = some (.int .i64 y.m.y) := Ho4.out.cell 6
   have z7 : w4.cell? ⟨wr.heap.size, 7, none⟩ = some (.int .i64 y.m.a) := Ho4.out.cell 7
   have z8 : w4.cell? ⟨wr.heap.size, 8, none⟩ = some (.bool y.m.t) := Ho4.out.cell 8
   have z9 : w4.cell? ⟨wr.heap.size, 9, none⟩ = some (.slice y.pl y.m.ls.length y.cl) := Ho4.out.cell 9
   have z10 : w4.cell? ⟨wr.heap.size, 10, none⟩ = some (.slice y.pn y.m.ns.length y.cn) := Ho4.out.cell 10
   have f0 := Ho4.out.free 0
   have f1 := Ho4.out.free 1
   have f2 := Ho4.out.free 2
   have f3 := Ho4.out.free 3
   have f4 := Ho4.out.free 4
   have f5 := Ho4.out.free 5
   have f6 := Ho4.out.free 6
   have f7 := Ho4.out.free 7
   have f8 := Ho4.out.free 8
   have f9 := Ho4.out.free 9
   have f10 := Ho4.out.free 10
   go_simp
   clear z0 f0 z1 f1 z2 f2 z3 f3 z4 f4 z5 f5 z6 f6 z7 f7 z8 f8 z9 f9 z10 f10
   have hch := Lib.hid ((Chg.refl wr.heap.size w4).set 9 (.slice p3 y.m.ls.length c3))
   have Ho5 : Hid (Blk _ wr.heap.size #[.int .i64 y.m.k, .int .i64 y.m.s, .int .i64 y.m.n, .int .i64 y.m.b, .int .i64 y.m.c, .int .i64 y.m.r, .int .i64 y.m.y, .int .i64 y.m.a, .bool y.m.t, .slice p3 y.m.ls.length c3, .slice y.pn y.m.ns.length y.cn] 36) := Lib.hid (Ho4.out.set 9 (.slice p3 y.m.ls.length c3))
   have HB5 := ksq HB4 hch (by show wr.heap.size ≤ wr.heap.size; have := HGM.out; omega)
   have HZ5 := kzq HZ4 hch.out.size
   have Hm5 := kcq Hm4 hch (by have := HGM.out; omega)
   have HOL2 := Lib.hid (HOL2.out.stay (fun g hg => hch.out.2 g (HOL2.out.lt g hg) (by have h1 := HOL2.out.block_ge g hg; have := HWD.out; omega)))
   have HON := Lib.hid (HON.out.stayV (fun g hg => hch.out.2 g (World.ownsRow.lt HON.out g hg).2 (by have h1 := (World.ownsRow.lt HON.out g hg).1; have := HWD.out; have := HW3.out; omega)))
   clear hch hS0 Hm4 Ho4 HB4 HZ4
   generalize (w4.setCell ⟨wr.heap.size, 9, none⟩ (.slice p3 y.m.ls.length c3)) = W5 at *
   refine hK.out _ _ ⟨Hm5.out.cell 0, Hm5.out.cell 1, Hm5.out.cell 2, Hm5.out.cell 3, Hm5.out.cell 4, Hm5.out.cell 5, Hm5.out.cell 6, Hm5.out.cell 7, Hm5.out.cell 8, Hm5.out.cell 9, Hm5.out.cell 10⟩ (fun hS0 => ?_)
   clear hK K
   try simp only [Act.put, List.getElem_toArray, List.getElem_cons_succ, List.getElem_cons_zero, List.setIfInBounds_toArray, List.set_cons_zero, List.set_cons_succ]
   refine tkq 8 ?_
   refine rdq 9 (fun K hK => ?_)
   have z0 : W5.cell? ⟨wr.heap.size, 0, none⟩ = some (.int .i64 y.m.k) := Ho5.out.cell 0
   have z1 : W5.cell? ⟨wr.heap.size, 1, none⟩ = some (.int .i64 y.m.s) := Ho5.out.cell 1
   have z2 : W5.cell? ⟨wr.heap.size, 2, none⟩ = some (.int .i64 y.m.n) := Ho5.out.cell 2
   have z3 : W5.cell? ⟨wr.heap.size, 3, none⟩ = some (.int .i64 y.m.b) := Ho5.out.cell 3
   have z4 : W5.cell? ⟨wr.heap.size, 4, none⟩ = some (.int .i64 y.m.c) := Ho5.out.cell 4
   have z5 : W5.cell? ⟨wr.heap.size, 5, none⟩ = some (.int .i64 y.m.r) := Ho5.out.cell 5
   have z6 : W5.cell? ⟨wr.heap.size, 6, none⟩ = some (.int .i64 y.m.y) := Ho5.out.cell 6
   have z7 : W5.cell? ⟨wr.heap.size, 7, none⟩ = some (.int .i64 y.m.a) := Ho5.out.cell 7
   have z8 : W5.cell? ⟨wr.heap.size, 8, none⟩ = some (.bool y.m.t) := Ho5.out.cell 8
   have z9 : W5.cell? ⟨wr.heap.size, 9, none⟩ = some (.slice p3 y.m.ls.length c3) := Ho5.out.cell 9
   have z10 : W5.cell? ⟨wr.heap.size, 10, none⟩ = some (.slice y.pn y.m.ns.length y.cn) := Ho5.out.cell 10
   have f0 := Ho5.out.free 0
   have f1 := Ho5.out.free 1
   have f2 := Ho5.out.free 2
   have f3 := Ho5.out.free 3
   have f4 := Ho5.out.free 4
   have f5 := Ho5.out.free 5
   have f6 := Ho5.out.free 6
   have f7 := Ho5.out.free 7
   have f8 := Ho5.out.free 8
   have f9 := Ho5.out.free 9
   have f10 := Ho5.out.free 10
   go_simp
   clear z0 f0 z1 f1 z2 f2 z3 f3 z4 f4 z5 f5 z6 f6 z7 f7 z8 f8 z9 f9 z10 f10
   have hch := Lib.hid ((Chg.refl wr.heap.size W5).set 10 (.slice p4 y.m.ns.length c4))
   have Ho6 : Hid (Blk _ wr.heap.size #[.int .i64 y.m.k, .int .i64 y.m.s, .int .i64 y.m.n, .int .i64 y.m.b, .int .i64 y.m.c, .int .i64 y.m.r, .int .i64 y.m.y, .int .i64 y.m.a, .bool y.m.t, .slice p3 y.m.ls.length c3, .slice p4 y.m.ns.length c4] 36) := Lib.hid (Ho5.out.set 10 (.slice p4 y.m.ns.length c4))
   have HB6 := ksq HB5 hch (by show wr.heap.size ≤ wr.heap.size; have := HGM.out; omega)
   have HZ6 := kzq HZ5 hch.out.size
   have Hm6 := kcq Hm5 hch (by have := HGM.out; omega)
   have HOL2 := Lib.hid (HOL2.out.stay (fun g hg => hch.out.2 g (HOL2.out.lt g hg) (by have h1 := HOL2.out.block_ge g hg; have := HWD.out; omega)))
   have HON := Lib.hid (HON.out.stayV (fun g hg => hch.out.2 g (World.ownsRow.lt HON.out g hg).2 (by have h1 := (World.ownsRow.lt HON.out g hg).1; have := HWD.out; have := HW3.out; omega)))
   clear hch hS0 Hm5 Ho5 HB5 HZ5
   generalize (W5.setCell ⟨wr.heap.size, 10, none⟩ (.slice p4 y.m.ns.length c4)) = W6 at *
   refine hK.out _ _ ⟨Hm6.out.cell 0, Hm6.out.cell 1, Hm6.out.cell 2, Hm6.out.cell 3, Hm6.out.cell 4, Hm6.out.cell 5, Hm6.out.cell 6, Hm6.out.cell 7, Hm6.out.cell 8, Hm6.out.cell 9, Hm6.out.cell 10⟩ (fun hS0 => ?_)
   clear hK K
   try simp only [Act.put, List.getElem_toArray, List.getElem_cons_succ, List.getElem_cons_zero, List.setIfInBounds_toArray, List.set_cons_zero, List.set_cons_succ]
   refine wpAnyH_done (by kernel_rfl) ?_ _
   clear hS0
   have q0 : W6.cell? ⟨wr.heap.size, 0, none⟩ = some (.int .i64 y.m.k) := Ho6.out.cell 0
   have q1 : W6.cell? ⟨wr.heap.size, 1, none⟩ = some (.int .i64 y.m.s) := Ho6.out.cell 1
   have q2 : W6.cell? ⟨wr.heap.size, 2, none⟩ = some (.int .i64 y.m.n) := Ho6.out.cell 2
   have q3 : W6.cell? ⟨wr.heap.size, 3, none⟩ = some (.int .i64 y.m.b) := Ho6.out.cell 3
   have q4 : W6.cell? ⟨wr.heap.size, 4, none⟩ = some (.int .i64 y.m.c) := Ho6.out.cell 4
   have q5 : W6.cell? ⟨wr.heap.size, 5, none⟩ = some (.int .i64 y.m.r) := Ho6.out.cell 5
   have q6 : W6.cell? ⟨wr.heap.size, 6, none⟩ = some (.int .i64 y.m.y) := Ho6.out.cell 6
   have q7 : W6.cell? ⟨wr.heap.size, 7, none⟩ = some (.int .i64 y.m.a) := Ho6.out.cell 7
   have q8 : W6.cell? ⟨wr.heap.size, 8, none⟩ = some (.bool y.m.t) := Ho6.out.cell 8
   have q9 : W6.cell? ⟨wr.heap.size, 9, none⟩ = some (.slice p3 y.m.ls.length c3) := Ho6.out.cell 9
   have q10 : W6.cell? ⟨wr.heap.size, 10, none⟩ = some (.slice p4 y.m.ns.length c4) := Ho6.out.cell 10
   obtain ⟨xs, hk1, hk2, hk3, hk4⟩ := HK.out
   have HBZ := Lib.hid (oneB W6 (.cells #[.int .i64 (k : Int), .int .i64 y.m.k, .int .i64 y.m.s, .int .i64 y.m.n, .int .i64 y.m.b, .int .i64 y.m.c, .int .i64 y.m.r, .int .i64 y.m.y, .int .i64 y.m.a, .bool y.m.t, .slice p3 y.m.ls.length c3, .slice p4 y.m.ns.length c4] 47))
   have HXS := Lib.hid ((hk1.later HB6.out).later HBZ.out)
   have HXL : Hid (xs.length = k) := Lib.hid (by have := congrArg List.length hk3; rw [List.length_map, toAllL_len] at this; exact this)
   have HXI : Hid (∀ z ∈ xs, z.x.InF (fun b => w1.heap.size ≤ b ∧ (Value.slice pz k cz).ownBlock ≠ some b) (W6.alloc (.cells #[.int .i64 (k : Int), .int .i64 y.m.k, .int .i64 y.m.s, .int .i64 y.m.n, .int .i64 y.m.b, .int .i64 y.m.c, .int .i64 y.m.r, .int .i64 y.m.y, .int .i64 y.m.a, .bool y.m.t, .slice p3 y.m.ls.length c3, .slice p4 y.m.ns.length c4] 47))) := Lib.hid (fun z hz => ((hk2 z hz).kept HB6.out).kept HBZ.out)
   have HOW : Hid (∀ g, (Value.slice pz k cz).ownBlock = some g → g < wr.heap.size) := Lib.hid (fun g hg => hk1.lt g hg)
   have HXM := Lib.hid hk3
   have HROW := Lib.hid (TRow.one_ encS (⟨(k : Int), ⟨y.m, p3, c3, p4, c4⟩⟩ : SdX) (Blk.new W6 #[.int .i64 (k : Int), .int .i64 y.m.k, .int .i64 y.m.s, .int .i64 y.m.n, .int .i64 y.m.b, .int .i64 y.m.c, .int .i64 y.m.r, .int .i64 y.m.y, .int .i64 y.m.a, .bool y.m.t, .slice p3 y.m.ls.length c3, .slice p4 y.m.ns.length c4] 47) rfl (Nat.le_refl 1))
   have HW1 : Hid (w1.heap.size ≤ wr.heap.size) := Lib.hid hk4.size
   clear hk1 hk2 hk3 hk4
   go_wp2_with (at_builtin; with_reducible refine stop_appendT (.tmp 22) (.tmp 26) 39 rfl ?_)
   clear q0 q1 q2 q3 q4 q5 q6 q7 q8 q9 q10
   refine wpList_append_tg rfl (.tmp 22) (.tmp 26) 39 rfl 47 zeroVS 128 w1.heap.size eltS rfl (.slice pz k cz) (.slice (some ⟨W6.heap.size, 0, none⟩) 1 1) xs [(⟨(k : Int), ⟨y.m, p3, c3, p4, c4⟩⟩ : SdX)] rfl rfl HXS.out HROW.out (by have := HXL.out; have := HNN.out; simp; omega) (by have := HXL.out; have := HNN.out; simp; omega) (by have := HW1.out; have := HB6.out.size; have := HBZ.out.size; omega) (xs ++ [(⟨(k : Int), ⟨y.m, p3, c3, p4, c4⟩⟩ : SdX)]) (k + 1) rfl (by rw [List.length_append, HXL.out]; rfl) ?_
   intro p8 c8 w8 ho hg hor hb8
   have HNX : Hid (AllR w1 y.m (k + 1) (.slice p8 (k + 1) c8) w8) := by
    have hs8 : (W6.alloc (.cells #[.int .i64 (k : Int), .int .i64 y.m.k, .int .i64 y.m.s, .int .i64 y.m.n, .int .i64 y.m.b, .int .i64 y.m.c, .int .i64 y.m.r, .int .i64 y.m.y, .int .i64 y.m.a, .bool y.m.t, .slice p3 y.m.ls.length c3, .slice p4 y.m.ns.length c4] 47)).heap.size ≤ w8.heap.size := hb8.size
    have hsz := HBZ.out.size
    have hs6 := HB6.out.size
    have hw3 := HW3.out
    have hwd := HWD.out
    have hkp : KeepP (fun b => w1.heap.size ≤ b ∧ (Value.slice pz k cz).ownBlock ≠ some b) (W6.alloc (.cells #[.int .i64 (k : Int), .int .i64 y.m.k, .int .i64 y.m.s, .int .i64 y.m.n, .int .i64 y.m.b, .int .i64 y.m.c, .int .i64 y.m.r, .int .i64 y.m.y, .int .i64 y.m.a, .bool y.m.t, .slice p3 y.m.ls.length c3, .slice p4 y.m.ns.length c4] 47)) w8 := KeepP.of_grown hg hs8 (fun b hb h => hb.2 h.symm)
    have hne : ∀ b, b < (W6.alloc (.cells #[.int .i64 (k : Int), .int .i64 y.m.k, .int .i64 y.m.s, .int .i64 y.m.n, .int .i64 y.m.b, .int .i64 y.m.c, .int .i64 y.m.r, .int .i64 y.m.y, .int .i64 y.m.a, .bool y.m.t, .slice p3 y.m.ls.length c3, .slice p4 y.m.ns.length c4] 47)).heap.size → (w1.heap.size ≤ b ∧ (Value.slice pz k cz).ownBlock ≠ some b) → (w1.heap.size ≤ b ∧ (Value.slice p8 (k + 1) c8).ownBlock ≠ some b) := fun b hb h => ⟨h.1, by
     rcases hor with h1 | h1
     ·rw [h1]; exact h.2
     ·rw [h1]; intro h2; cases h2; omega⟩
    have hlt6 : ∀ b, wr.heap.size ≤ b → (w1.heap.size ≤ b ∧ (Value.slice pz k cz).ownBlock ≠ some b) := fun b hb => ⟨by have := HW1.out; omega, fun h => by have := HOW.out b h; omega⟩
    refine ⟨xs ++ [(⟨(k : Int), ⟨y.m, p3, c3, p4, c4⟩⟩ : SdX)], ho, fun q hq => ?_, ?_, ?_⟩
    ·rcases List.mem_append.1 hq with h | h
     ·exact (((HXI.out q h).mono (Q := fun b => b < (W6.alloc (.cells #[.int .i64 (k : Int), .int .i64 y.m.k, .int .i64 y.m.s, .int .i64 y.m.n, .int .i64 y.m.b, .int .i64 y.m.c, .int .i64 y.m.r, .int .i64 y.m.y, .int .i64 y.m.a, .bool y.m.t, .slice p3 y.m.ls.length c3, .slice p4 y.m.ns.length c4] 47)).heap.size ∧ (w1.heap.size ≤ b ∧ (Value.slice pz k cz).ownBlock ≠ some b)) (fun b h1 h2 => ⟨h1, h2⟩)).keepP (hkp.weak (fun b h => h.2))).mono (fun b _ h => hne b h.1 h.2)
     ·obtain rfl := List.mem_singleton.1 h
      have hin : ((⟨(k : Int), ⟨y.m, p3, c3, p4, c4⟩⟩ : SdX)).x.InF (fun b => b < (W6.alloc (.cells #[.int .i64 (k : Int), .int .i64 y.m.k, .int .i64 y.m.s, .int .i64 y.m.n, .int .i64 y.m.b, .int .i64 y.m.c, .int .i64 y.m.r, .int .i64 y.m.y, .int .i64 y.m.a, .bool y.m.t, .slice p3 y.m.ls.length c3, .slice p4 y.m.ns.length c4] 47)).heap.size ∧ (w1.heap.size ≤ b ∧ (Value.slice pz k cz).ownBlock ≠ some b)) (W6.alloc (.cells #[.int .i64 (k : Int), .int .i64 y.m.k, .int .i64 y.m.s, .int .i64 y.m.n, .int .i64 y.m.b, .int .i64 y.m.c, .int .i64 y.m.r, .int .i64 y.m.y, .int .i64 y.m.a, .bool y.m.t, .slice p3 y.m.ls.length c3, .slice p4 y.m.ns.length c4] 47)) :=
       ⟨⟨(HOL2.out.row.kept HBZ.out), (HON.out.row.kept HBZ.out), HOL2.out.at_lt.imp (fun b h => ⟨by omega, hlt6 b (by omega)⟩), HON.out.at_lt.imp (fun b h => ⟨by omega, hlt6 b (by omega)⟩), HYR.out.sz⟩, HOL2.out.fre.kept HBZ.out, HON.out.fre.kept HBZ.out⟩
      exact (hin.keepP (hkp.weak (fun b h => h.2))).mono (fun b _ h => hne b h.1 h.2)
    ·rw [List.map_append, HXM.out, toAllL_succ]; rfl
    ·exact (HBK.out.trans ((HB6.out.trans (HBZ.out.mono hs6)).mono HBK.out.size)).trans (hb8.mono (Nat.le_refl _))
   clear ho hg hor hb8 HXS HXL HXI HOW HXM HROW HW1 HBZ HOL2 HON
   go_wp2_with fail
   go_roundw
   case rel => exact ⟨k + 1, by omega, by go_num, HNX⟩
   case measure => simp [intOf]; omega
  ·have hltI : ¬ (k : Int) < (N : Int) := by omega
   obtain rfl : k = N := by omega
   have HE := Lib.hid HK.out
   go_wp2_with fail
   go_ret
   obtain ⟨xs, hk1, hk2, hk3, hk4⟩ := HE.out
   have hle : w.heap.size ≤ w1.heap.size := HZ1.out
   exact ⟨_, _, rfl, ⟨xs, hk1.less hle, fun z hz => (hk2 z hz).mono (fun b _ h => ⟨Nat.le_trans hle h.1, h.2⟩), hk3⟩, HB1.out.trans (hk4.mono hle)⟩
end Go.Proofs.Yteogdfpkcoodlaa
namespace Go.Proofs.Yteogdfpkcoodlaa
open Go.RowKit
set_option linter.unusedSimpArgs false
theorem At.ltT {α : Type} {e : Enc α} {P : Nat → Prop} {w : World} {v : Value} {xs : List α} (h : TRow e w v xs) (ha : At P v xs.length) : At (fun b => P b ∧ b < w.heap.size) v xs.length := fun b o n c e hn => ⟨ha b o n c e hn, by rw [e] at h; exact h.lt_ hn⟩
theorem At.ltR {k : IntKind} {P : Nat → Prop} {w : World} {v : Value} {xs : List Int} (h : Row k w v xs) (ha : At P v xs.length) : At (fun b => P b ∧ b < w.heap.size) v xs.length := fun b o n c e hn => ⟨ha b o n c e hn, by rw [e] at h; exact h.lt_ hn⟩
theorem HsR.lt {P : Nat → Prop} {w : World} {v : Value} {hs : List Hd} (h : HsR P w v hs) : HsR (fun b => P b ∧ b < w.heap.size) w v hs := by
 obtain ⟨xs, h1, h2, h3, h4⟩ := h
 exact ⟨xs, h1, h2.ltT h1, fun x hx => ⟨(h3 x hx).1, (h3 x hx).2.ltT (h3 x hx).1⟩, h4⟩
theorem RunX.In.lt {P : Nat → Prop} {w : World} {x : RunX} (h : x.In P w) : x.In (fun b => P b ∧ b < w.heap.size) w := ⟨h.hs.lt, h.ls, h.al.ltT h.ls, h.ns, h.an.ltR h.ns⟩
theorem RsR.lt {P : Nat → Prop} {w : World} {v : Value} {rs : List Rn} (h : RsR P w v rs) : RsR (fun b => P b ∧ b < w.heap.size) w v rs := by
 obtain ⟨xs, h1, h2, h3, h4⟩ := h
 exact ⟨xs, h1, h2.ltT h1, fun x hx => (h3 x hx).lt, h4⟩
/-- What an act answers: the cycles behind it, what is said, an error. -/
def CPost (w : World) (P : Nat → Prop) (N : Nat) (rs : List Rn) (out : List (Int × Msg)) (err : Int) : Ending → World → Prop := fun e w' => ∃ (p : Option Addr) (n c : Nat) (pv : Option Addr) (nv cv B : Nat), e = .returned (.tuple #[.agg #[.int .i64 (N : Int), .slice p n c], .slice pv nv cv, .int .i64 err]) ∧ n = rs.length ∧ nv = out.length ∧ w.heap.size ≤ B ∧ RsR (fun b => P b ∨ (w.heap.size ≤ b ∧ b < B)) w' (.slice p n c) rs ∧ SaidL w' B (.slice pv nv cv) out ∧ Below w.heap.size w w'
/-- A cycle in another state. -/
def Rn.to (r : Rn) (st : Int) : Rn := { r with st := st }
def RunX.to (x : RunX) (st : Int) : RunX := { x with r := x.r.to st }
theorem RunX.In.to {P : Nat → Prop} {w : World} {x : RunX} (h : x.In P w) (st : Int) : (x.to st).In P w := ⟨h.hs, h.ls, h.al, h.ns, h.an⟩
set_option linter.unusedSimpArgs false in
set_option maxHeartbeats 4000000 in
set_option maxRecDepth 100000 in
theorem cend_any (w : World) (P : Nat → Prop) (N : Nat) (k st : Int) (p : Option Addr) (n c : Nat) (rs : List Rn) (x : RunX) (hrs : RsR P w (.slice p n c) rs) (hpw : ∀ b, P b → b < w.heap.size) (hn : n = rs.length) (hl : n ≤ 2000) (hk1 : 1 ≤ k) (hk2 : k ≤ n) (hx : x.In P w) (h8 : N ≤ 8) :
  Calls Try.prog 50 #[.agg #[.int .i64 (N : Int), .slice p n c], .int .i64 k, x.v, .int .i64 st] w (CPost w P N (rs.set (k - 1).toNat (x.r.to st)) (toAllL N (decM k (x.r.to st))) 0) := by
 have HRS := Lib.hid (hrs.imp (Q := fun b => P b) (fun _ h => h))
 have HPW : Hid (∀ b, P b → b < w.heap.size) := Lib.hid hpw
 have HXI := Lib.hid hx
 have HNN : Hid (N ≤ 8) := Lib.hid h8
 have HKK : Hid (n = rs.length ∧ n ≤ 2000 ∧ 1 ≤ k ∧ k ≤ n) := Lib.hid ⟨hn, hl, hk1, hk2⟩
 clear hrs hpw hx h8 hn hl hk1 hk2
 unfold RunX.v
 have HB0 : Hid (Below w.heap.size w (((w.alloc (.cells #[.int .i64 (N : Int), .slice p n c] 27)).alloc (.cells #[.int .i64 x.r.cu, .int .i64 x.r.st, .slice x.pf x.r.hs.length x.cf, .slice x.pl x.r.ls.length x.cl, .slice x.pn x.r.ns.length x.cn] 56)).alloc (.cells #[.int .i64 0, .slice none 0 0] 27))) := Lib.hid ((((oneB w _).alloc (by simp <;> omega) _).alloc (by simp <;> omega) _))
 have Hc0 : Hid (Blk (((w.alloc (.cells #[.int .i64 (N : Int), .slice p n c] 27)).alloc (.cells #[.int .i64 x.r.cu, .int .i64 x.r.st, .slice x.pf x.r.hs.length x.cf, .slice x.pl x.r.ls.length x.cl, .slice x.pn x.r.ns.length x.cn] 56)).alloc (.cells #[.int .i64 0, .slice none 0 0] 27)) w.heap.size #[.int .i64 (N : Int), .slice p n c] 27) := Lib.hid (((Blk.new w #[.int .i64 (N : Int), .slice p n c] 27).alloc _).alloc _)
 have Hx0 : Hid (Blk (((w.alloc (.cells #[.int .i64 (N : Int), .slice p n c] 27)).alloc (.cells #[.int .i64 x.r.cu, .int .i64 x.r.st, .slice x.pf x.r.hs.length x.cf, .slice x.pl x.r.ls.length x.cl, .slice x.pn x.r.ns.length x.cn] 56)).alloc (.cells #[.int .i64 0, .slice none 0 0] 27)) (w.heap.size + 1) #[.int .i64 x.r.cu, .int .i64 x.r.st, .slice x.pf x.r.hs.length x.cf, .slice x.pl x.r.ls.length x.cl, .slice x.pn x.r.ns.length x.cn] 56) := Lib.hid ((Blk.new' (w.alloc (.cells #[.int .i64 (N : Int), .slice p n c] 27)) #[.int .i64 x.r.cu, .int .i64 x.r.st, .slice x.pf x.r.hs.length x.cf, .slice x.pl x.r.ls.length x.cl, .slice x.pn x.r.ns.length x.cn] 56 (by simp)).alloc _)
 have Hr0 : Hid (Blk (((w.alloc (.cells #[.int .i64 (N : Int), .slice p n c] 27)).alloc (.cells #[.int .i64 x.r.cu, .int .i64 x.r.st, .slice x.pf x.r.hs.length x.cf, .slice x.pl x.r.ls.length x.cl, .slice x.pn x.r.ns.length x.cn] 56)).alloc (.cells #[.int .i64 0, .slice none 0 0] 27)) (w.heap.size + 1 + 1) #[.int .i64 0, .slice none 0 0] 27) := Lib.hid (Blk.new' ((w.alloc (.cells #[.int .i64 (N : Int), .slice p n c] 27)).alloc (.cells #[.int .i64 x.r.cu, .int .i64 x.r.st, .slice x.pf x.r.hs.length x.cf, .slice x.pl x.r.ls.length x.cl, .slice x.pn x.r.ns.length x.cn] 56)) #[.int .i64 0, .slice none 0 0] 27 (by simp))
 have HZ0 : Hid (w.heap.size ≤ (((w.alloc (.cells #[.int .i64 (N : Int), .slice p n c] 27)).alloc (.cells #[.int .i64 x.r.cu, .int .i64 x.r.st, .slice x.pf x.r.hs.length x.cf, .slice x.pl x.r.ls.length x.cl, .slice x.pn x.r.ns.length x.cn] 56)).alloc (.cells #[.int .i64 0, .slice none 0 0] 27)).heap.size) := Lib.hid HB0.out.size
 go_enter Try.func50, Try.ntmps50
 go_upto_region 1 with fail
 generalize (((w.alloc (.cells #[.int .i64 (N : Int), .slice p n c] 27)).alloc (.cells #[.int .i64 x.r.cu, .int .i64 x.r.st, .slice x.pf x.r.hs.length x.cf, .slice x.pl x.r.ls.length x.cl, .slice x.pn x.r.ns.length x.cn] 56)).alloc (.cells #[.int .i64 0, .slice none 0 0] 27)) = W at *
 have HWL : Hid (w.heap.size + 1 + 1 < W.heap.size) := Lib.hid Hr0.out.lt
 have z1 : W.cell? ⟨w.heap.size + 1, 1, none⟩ = some (.int .i64 x.r.st) := Hx0.out.cell 1
 have f1 := Hx0.out.free 1
 go_upto_region 2 with fail
 clear z1 f1
 have hch := Lib.hid ((Chg.refl (w.heap.size + 1) W).set 1 (.int .i64 st))
 have Hx1 : Hid (Blk _ (w.heap.size + 1) #[.int .i64 x.r.cu, .int .i64 st, .slice x.pf x.r.hs.length x.cf, .slice x.pl x.r.ls.length x.cl, .slice x.pn x.r.ns.length x.cn] 56) := Lib.hid (Hx0.out.set 1 (.int .i64 st))
 have HB1 := ksq HB0 hch (by show w.heap.size ≤ (w.heap.size + 1); omega)
 have HZ1 := kzq HZ0 hch.out.size
 have Hc1 := kcq Hc0 hch (by omega)
 have Hr1 := kcq Hr0 hch (by omega)
 clear hch Hc0 Hx0 Hr0 HB0 HZ0
 generalize (W.setCell ⟨w.heap.size + 1, 1, none⟩ (.int .i64 st)) = W1 at *
 have hbd := (Below.refl W1.heap.size W1).drew
 have Hc2 := kbq Hc1 hbd
 have Hx2 := kbq Hx1 hbd
 have Hr2 := kbq Hr1 hbd
 have HB2 := ktq HB1 hbd
 have HZ2 := kzq HZ1 hbd.size
 clear Hc1 Hx1 Hr1 HB1 HZ1
 refine wp_region_held_drew (S := fun w' => w'.cell? ⟨w.heap.size, 0, none⟩ = some (.int .i64 (N : Int)) ∧ w'.cell? ⟨w.heap.size, 1, none⟩ = some (.slice p n c) ∧ w'.cell? ⟨w.heap.size + 1, 0, none⟩ = some (.int .i64 x.r.cu) ∧ w'.cell? ⟨w.heap.size + 1, 1, none⟩ = some (.int .i64 st) ∧ w'.cell? ⟨w.heap.size + 1, 2, none⟩ = some (.slice x.pf x.r.hs.length x.cf) ∧ w'.cell? ⟨w.heap.size + 1, 3, none⟩ = some (.slice x.pl x.r.ls.length x.cl) ∧ w'.cell? ⟨w.heap.size + 1, 4, none⟩ = some (.slice x.pn x.r.ns.length x.cn)) (by kernel_rfl) ⟨Hc2.out.cell 0, Hc2.out.cell 1, Hx2.out.cell 0, Hx2.out.cell 1, Hx2.out.cell 2, Hx2.out.cell 3, Hx2.out.cell 4⟩ (fun hS0 => ?_)
 generalize W1.drew = WD at *
 clear hbd
 refine tkq 0 ?_
 refine tkq 1 ?_
 refine tkq 2 ?_
 refine tkq 4 ?_
 refine tkq 5 ?_
 refine tkq 6 ?_
 refine rdq 3 (fun K hK => ?_)
 have HG := Lib.hid (cwith_any WD P (N : Int) k p n c rs (x.to st) (HRS.out.kept HB2.out) HKK.out.1 HKK.out.2.1 HKK.out.2.2.1 HKK.out.2.2.2 ((HXI.out.kept HB2.out).to st))
 unfold RunX.v RunX.to Rn.to at HG
 go_simp
 go_at_call 48
 refine HG.out.mono ?_
 rintro y9 w3 ⟨p3, c3, rfl, hq, hb⟩
 clear HG
 have HQ := Lib.hid hq.lt
 have HWD2 : Hid (w.heap.size + 1 + 1 < WD.heap.size) := Lib.hid Hr2.out.lt
 have HWD : Hid (w.heap.size ≤ WD.heap.size ∧ WD.heap.size ≤ w3.heap.size) := Lib.hid ⟨HZ2.out, hb.size⟩
 clear hq
 have Hc3 := kbq Hc2 hb
 have Hx3 := kbq Hx2 hb
 have Hr3 := kbq Hr2 hb
 have HB3 := ktq HB2 hb
 have HZ3 := kzq HZ2 hb.size
 clear Hc2 Hx2 Hr2 HB2 HZ2
 clear hb hS0
 try go_wp2_with fail
 refine hK.out _ _ ⟨Hc3.out.cell 0, Hc3.out.cell 1, Hx3.out.cell 0, Hx3.out.cell 1, Hx3.out.cell 2, Hx3.out.cell 3, Hx3.out.cell 4⟩ (fun hS0 => ?_)
 clear hK K
 try simp only [Act.put, List.getElem_toArray, List.getElem_cons_succ, List.getElem_cons_zero, List.setIfInBounds_toArray, List.set_cons_zero, List.set_cons_succ]
 refine rdq 7 (fun K hK => ?_)
 have HG := Lib.hid (decision_any w3 (x.to st) k)
 unfold RunX.v RunX.to Rn.to decM Msg.v at HG
 obtain ⟨bq, hbq⟩ : ∃ bq, (st == 3) = bq := ⟨_, rfl⟩
 have HBQ := Lib.hid hbq
 dsimp only at HG
 rw [hbq] at HG
 clear hbq
 go_simp
 go_at_call 52
 refine HG.out.mono ?_
 rintro y9 w4 ⟨rfl, hb⟩
 clear HG
 have HQ2 := Lib.hid (HQ.out.kept hb)
 have HW4 : Hid (w3.heap.size ≤ w4.heap.size) := Lib.hid hb.size
 clear HQ
 have Hc4 := kbq Hc3 hb
 have Hx4 := kbq Hx3 hb
 have Hr4 := kbq Hr3 hb
 have HB4 := ktq HB3 hb
 have HZ4 := kzq HZ3 hb.size
 clear Hc3 Hx3 Hr3 HB3 HZ3
 clear hb hS0
 try go_wp2_with fail
 refine hK.out _ _ ⟨Hc4.out.cell 0, Hc4.out.cell 1, Hx4.out.cell 0, Hx4.out.cell 1, Hx4.out.cell 2, Hx4.out.cell 3, Hx4.out.cell 4⟩ (fun hS0 => ?_)
 clear hK K
 try simp only [Act.put, List.getElem_toArray, List.getElem_cons_succ, List.getElem_cons_zero, List.setIfInBounds_toArray, List.set_cons_zero, List.set_cons_succ]
 refine rdq 8 (fun K hK => ?_)
 have HG := Lib.hid (toAll_any w4 N p n c (⟨decM k (x.r.to st), none, 0, none, 0⟩ : MsgX) (fun _ => True) HNN.out ⟨TRow.nil_ _ _, Row.nil_ _ _ 0, At.nil_ _ _, At.nil_ _ _, ⟨by show 0 * 32 ≤ _; decide, by show 0 * 8 ≤ _; decide⟩⟩)
 unfold decM Rn.to Msg.v at HG
 dsimp only [List.length_nil] at HG
 rw [HBQ.out] at HG
 go_simp
 go_at_call 56
 refine HG.out.mono ?_
 rintro y9 w5 ⟨p5, c5, rfl, hs, hb⟩
 clear HG
 have HQ3 := Lib.hid (HQ2.out.kept hb)
 have HSD : Hid (SaidL w5 w4.heap.size (.slice p5 N c5) (toAllL N (decM k (x.r.to st)))) := Lib.hid (by unfold decM Rn.to; dsimp only; rw [HBQ.out]; exact hs)
 clear HQ2 hs
 have Hc5 := kbq Hc4 hb
 have Hx5 := kbq Hx4 hb
 have Hr5 := kbq Hr4 hb
 have HB5 := ktq HB4 hb
 have HZ5 := kzq HZ4 hb.size
 clear Hc4 Hx4 Hr4 HB4 HZ4
 clear hb hS0
 try go_wp2_with fail
 refine hK.out _ _ ⟨Hc5.out.cell 0, Hc5.out.cell 1, Hx5.out.cell 0, Hx5.out.cell 1, Hx5.out.cell 2, Hx5.out.cell 3, Hx5.out.cell 4⟩ (fun hS0 => ?_)
 clear hK K
 try simp only [Act.put, List.getElem_toArray, List.getElem_cons_succ, List.getElem_cons_zero, List.setIfInBounds_toArray, List.set_cons_zero, List.set_cons_succ]
 refine rdq 9 (fun K hK => ?_)
 have z0 : w5.cell? ⟨(w.heap.size + 1 + 1), 0, none⟩ = some (.int .i64 0) := Hr5.out.cell 0
 have z1 : w5.cell? ⟨(w.heap.size + 1 + 1), 1, none⟩ = some (.slice none 0 0) := Hr5.out.cell 1
 have f0 := Hr5.out.free 0
 have f1 := Hr5.out.free 1
 go_simp
 clear z0 f0 z1 f1
 have hch := Lib.hid (((Chg.refl (w.heap.size + 1 + 1) w5).set 0 (.int .i64 (N : Int))).set 1 (.slice p3 n c3))
 have Hr6 : Hid (Blk _ (w.heap.size + 1 + 1) #[.int .i64 (N : Int), .slice p3 n c3] 27) := Lib.hid ((Hr5.out.set 0 (.int .i64 (N : Int))).set 1 (.slice p3 n c3))
 have HB6 := ksq HB5 hch (by show w.heap.size ≤ (w.heap.size + 1 + 1); omega)
 have HZ6 := kzq HZ5 hch.out.size
 have Hc6 := kcq Hc5 hch (by omega)
 have Hx6 := kcq Hx5 hch (by omega)
 have hrb := HWL.out
 have HSD2 := Lib.hid (HSD.out.chgS hch.out (by have := HW4.out; have := HWD.out; have := HWD2.out; omega))
 have HQ4 := Lib.hid ((HQ3.out.imp (Q := fun b => b ≠ w.heap.size + 1 + 1 ∧ ((P b ∨ WD.heap.size ≤ b) ∧ b < w3.heap.size)) (fun b h => ⟨fun e => by rcases h.1 with h1 | h1; (have := HPW.out _ h1; omega); (have := HWD2.out; omega), h⟩)).keepP (KeepP.of_chg hch.out (by rintro ⟨h, _⟩; exact h rfl)))
 clear HSD HQ3 hrb
 clear hch hS0 Hc5 Hx5 Hr5 HB5 HZ5
 generalize ((w5.setCell ⟨w.heap.size + 1 + 1, 0, none⟩ (.int .i64 (N : Int))).setCell ⟨w.heap.size + 1 + 1, 1, none⟩ (.slice p3 n c3)) = W6 at *
 refine hK.out _ _ ⟨Hc6.out.cell 0, Hc6.out.cell 1, Hx6.out.cell 0, Hx6.out.cell 1, Hx6.out.cell 2, Hx6.out.cell 3, Hx6.out.cell 4⟩ (fun hS0 => ?_)
 clear hK K
 try simp only [Act.put, List.getElem_toArray, List.getElem_cons_succ, List.getElem_cons_zero, List.setIfInBounds_toArray, List.set_cons_zero, List.set_cons_succ]
 refine tkq 10 ?_
 refine tkq 11 ?_
 refine wpAnyH_done (by kernel_rfl) ?_ _
 clear hS0
 go_wp2_with fail
 have hfr := Hr6.out
 refine bodyPost_ret (v := .tuple #[.agg #[.int .i64 (N : Int), .slice p3 n c3], .slice p5 N c5, .int .i64 0]) (by simp [results, Try.results50, go_sem, hfr.cell 0, hfr.cell 1]) rfl ⟨p3, n, c3, p5, N, c5, w4.heap.size, rfl, by rw [List.length_set]; exact HKK.out.1, by unfold toAllL; simp, by have := HW4.out; have := HWD.out; omega, HQ4.out.imp (fun b h => h.2.1.imp id (fun h2 => ⟨by have := HWD.out; omega, by have := HW4.out; have := h.2.2; omega⟩)), HSD2.out, HB6.out⟩
end Go.Proofs.Yteogdfpkcoodlaa
namespace Go.Proofs.Yteogdfpkcoodlaa
open Go.RowKit
set_option linter.unusedSimpArgs false
/-- The cycle of a number. -/
def rnAt (rs : List Rn) (k : Int) : Rn := (rs[(k - 1).toNat]?).getD ⟨0, 0, [], [], []⟩
abbrev CAns := List Rn × List (Int × Msg) × Int
def CP (w : World) (P : Nat → Prop) (N : Nat) (a : CAns) : Ending → World → Prop := CPost w P N a.1 a.2.1 a.2.2
def dueC (N : Nat) (rs : List Rn) (m : Msg) : CAns := if openB (rnAt rs m.y) = true then (rs.set (m.y - 1).toNat ((rnAt rs m.y).to 4), toAllL N (decM m.y ((rnAt rs m.y).to 4)), 0) else (rs, [], 90)
def queryC (rs : List Rn) (m : Msg) (fro : Int) : CAns := if openB (rnAt rs m.y) = true then (rs, [], 90) else (rs, [(fro, decM m.y (rnAt rs m.y))], 0)
set_option linter.unusedSimpArgs false in
set_option maxHeartbeats 4000000 in
set_option maxRecDepth 100000 in
theorem cdue_any (w : World) (P : Nat → Prop) (N : Nat) (p : Option Addr) (n c : Nat) (rs : List Rn) (y : MsgX) (fro : Int) (hrs : RsR P w (.slice p n c) rs) (hpw : ∀ b, P b → b < w.heap.size) (hn : n = rs.length) (hl : n ≤ 2000) (hk1 : 1 ≤ y.m.y) (hk2 : y.m.y ≤ n) (hN1 : 1 ≤ N) (hN8 : N ≤ 8) (hlen : ∀ r ∈ rs, r.hs.length = N) :
  Calls Try.prog 33 #[.agg #[.int .i64 (N : Int), .slice p n c], y.m.v (.slice y.pl y.m.ls.length y.cl) (.slice y.pn y.m.ns.length y.cn), .int .i64 fro] w (CP w P N (dueC N rs y.m)) := by
 unfold CP
 have HRS := Lib.hid hrs
 have HPW := Lib.hid hpw
 have HNN : Hid (1 ≤ N ∧ N ≤ 8) := Lib.hid ⟨hN1, hN8⟩
 have HKK : Hid (n = rs.length ∧ n ≤ 2000 ∧ 1 ≤ y.m.y ∧ y.m.y ≤ n) := Lib.hid ⟨hn, hl, hk1, hk2⟩
 have HLN := Lib.hid hlen
 clear hrs hpw hN1 hN8 hn hl hk1 hk2 hlen 
 unfold Msg.v
 have HB0 : Hid (Below w.heap.size w (((w.alloc (.cells #[.int .i64 (N : Int), .slice p n c] 27)).alloc (.cells #[.int .i64 y.m.k, .int .i64 y.m.s, .int .i64 y.m.n, .int .i64 y.m.b, .int .i64 y.m.c, .int .i64 y.m.r, .int .i64 y.m.y, .int .i64 y.m.a, .bool y.m.t, .slice y.pl y.m.ls.length y.cl, .slice y.pn y.m.ns.length y.cn] 36)).alloc (.cells #[.int .i64 0, .slice none 0 0] 27))) := Lib.hid ((((oneB w _).alloc (by simp <;> omega) _).alloc (by simp <;> omega) _))
 have Hc0 : Hid (Blk (((w.alloc (.cells #[.int .i64 (N : Int), .slice p n c] 27)).alloc (.cells #[.int .i64 y.m.k, .int .i64 y.m.s, .int .i64 y.m.n, .int .i64 y.m.b, .int .i64 y.m.c, .int .i64 y.m.r, .int .i64 y.m.y, .int .i64 y.m.a, .bool y.m.t, .slice y.pl y.m.ls.length y.cl, .slice y.pn y.m.ns.length y.cn] 36)).alloc (.cells #[.int .i64 0, .slice none 0 0] 27)) w.heap.size #[.int .i64 (N : Int), .slice p n c] 27) := Lib.hid (((Blk.new w #[.int .i64 (N : Int), .slice p n c] 27).alloc _).alloc _)
 have Hm0 : Hid (Blk (((w.alloc (.cells #[.int .i64 (N : Int), .slice p n c] 27)).alloc (.cells #[.int .i64 y.m.k, .int .i64 y.m.s, .int .i64 y.m.n, .int .i64 y.m.b, .int .i64 y.m.c, .int .i64 y.m.r, .int .i64 y.m.y, .int .i64 y.m.a, .bool y.m.t, .slice y.pl y.m.ls.length y.cl, .slice y.pn y.m.ns.length y.cn] 36)).alloc (.cells #[.int .i64 0, .slice none 0 0] 27)) (w.heap.size + 1) #[.int .i64 y.m.k, .int .i64 y.m.s, .int .i64 y.m.n, .int .i64 y.m.b, .int .i64 y.m.c, .int .i64 y.m.r, .int .i64 y.m.y, .int .i64 y.m.a, .bool y.m.t, .slice y.pl y.m.ls.length y.cl, .slice y.pn y.m.ns.length y.cn] 36) := Lib.hid ((Blk.new' (w.alloc (.cells #[.int .i64 (N : Int), .slice p n c] 27)) #[.int .i64 y.m.k, .int .i64 y.m.s, .int .i64 y.m.n, .int .i64 y.m.b, .int .i64 y.m.c, .int .i64 y.m.r, .int .i64 y.m.y, .int .i64 y.m.a, .bool y.m.t, .slice y.pl y.m.ls.length y.cl, .slice y.pn y.m.ns.length y.cn] 36 (by simp)).alloc _)
 have Hr0 : Hid (Blk (((w.alloc (.cells #[.int .i64 (N : Int), .slice p n c] 27)).alloc (.cells #[.int .i64 y.m.k, .int .i64 y.m.s, .int .i64 y.m.n, .int .i64 y.m.b, .int .i64 y.m.c, .int .i64 y.m.r, .int .i64 y.m.y, .int .i64 y.m.a, .bool y.m.t, .slice y.pl y.m.ls.length y.cl, .slice y.pn y.m.ns.length y.cn] 36)).alloc (.cells #[.int .i64 0, .slice none 0 0] 27)) (w.heap.size + 1 + 1) #[.int .i64 0, .slice none 0 0] 27) := Lib.hid (Blk.new' ((w.alloc (.cells #[.int .i64 (N : Int), .slice p n c] 27)).alloc (.cells #[.int .i64 y.m.k, .int .i64 y.m.s, .int .i64 y.m.n, .int .i64 y.m.b, .int .i64 y.m.c, .int .i64 y.m.r, .int .i64 y.m.y, .int .i64 y.m.a, .bool y.m.t, .slice y.pl y.m.ls.length y.cl, .slice y.pn y.m.ns.length y.cn] 36)) #[.int .i64 0, .slice none 0 0] 27 (by simp))
 have HZ0 : Hid (w.heap.size ≤ (((w.alloc (.cells #[.int .i64 (N : Int), .slice p n c] 27)).alloc (.cells #[.int .i64 y.m.k, .int .i64 y.m.s, .int .i64 y.m.n, .int .i64 y.m.b, .int .i64 y.m.c, .int .i64 y.m.r, .int .i64 y.m.y, .int .i64 y.m.a, .bool y.m.t, .slice y.pl y.m.ls.length y.cl, .slice y.pn y.m.ns.length y.cn] 36)).alloc (.cells #[.int .i64 0, .slice none 0 0] 27)).heap.size) := Lib.hid HB0.out.size
 go_enter Try.func33, Try.ntmps33
 go_upto_region 1 with fail
 generalize (((w.alloc (.cells #[.int .i64 (N : Int), .slice p n c] 27)).alloc (.cells #[.int .i64 y.m.k, .int .i64 y.m.s, .int .i64 y.m.n, .int .i64 y.m.b, .int .i64 y.m.c, .int .i64 y.m.r, .int .i64 y.m.y, .int .i64 y.m.a, .bool y.m.t, .slice y.pl y.m.ls.length y.cl, .slice y.pn y.m.ns.length y.cn] 36)).alloc (.cells #[.int .i64 0, .slice none 0 0] 27)) = W at *
 have HWL : Hid (w.heap.size + 1 + 1 < W.heap.size) := Lib.hid Hr0.out.lt
 have HG := Lib.hid (crun_any W P N y.m.y p n c rs (HRS.out.kept HB0.out) HKK.out.1 HKK.out.2.1 HKK.out.2.2.1 HKK.out.2.2.2 HNN.out.1 HNN.out.2 HLN.out)
 have a0 : W.cell? ⟨w.heap.size, 0, none⟩ = some (.int .i64 (N : Int)) := Hc0.out.cell 0
 have a1 : W.cell? ⟨w.heap.size, 1, none⟩ = some (.slice p n c) := Hc0.out.cell 1
 have m6 : W.cell? ⟨(w.heap.size + 1), 6, none⟩ = some (.int .i64 y.m.y) := Hm0.out.cell 6
 go_wp2_with fail
 clear a0 a1 m6
 refine HG.out.mono ?_
 rintro y9 w1 ⟨x, rfl, hx, hro, hb⟩
 clear HG
 have HX : Hid (rnAt rs y.m.y = x.r) := Lib.hid (by unfold rnAt; rw [hx]; rfl)
 have HXS : Hid (rs[(y.m.y - 1).toNat]? = some x.r) := Lib.hid hx
 have HO := Lib.hid hro
 have HW1 : Hid (W.heap.size ≤ w1.heap.size) := Lib.hid hb.size
 clear hx hro
 have Hc1 := kbq Hc0 hb
 have Hm1 := kbq Hm0 hb
 have Hr1 := kbq Hr0 hb
 have HB1 := ktq HB0 hb
 have HZ1 := kzq HZ0 hb.size
 clear Hc0 Hm0 Hr0 HB0 HZ0
 clear hb
 unfold RunX.v
 have hba9 := oneB w1 (.cells #[.int .i64 x.r.cu, .int .i64 x.r.st, .slice x.pf x.r.hs.length x.cf, .slice x.pl x.r.ls.length x.cl, .slice x.pn x.r.ns.length x.cn] 56)
 have HO2 := Lib.hid (HO.out.kept hba9)
 clear hba9 HO
 have hba := oneB w1 (.cells #[.int .i64 x.r.cu, .int .i64 x.r.st, .slice x.pf x.r.hs.length x.cf, .slice x.pl x.r.ls.length x.cl, .slice x.pn x.r.ns.length x.cn] 56)
 have Hc2 := kbq Hc1 hba
 have Hm2 := kbq Hm1 hba
 have Hr2 := kbq Hr1 hba
 have Hx2 := Lib.hid (Blk.new w1 #[.int .i64 x.r.cu, .int .i64 x.r.st, .slice x.pf x.r.hs.length x.cf, .slice x.pl x.r.ls.length x.cl, .slice x.pn x.r.ns.length x.cn] 56)
 have HB2 := Lib.hid (HB1.out.alloc HB1.out.size (.cells #[.int .i64 x.r.cu, .int .i64 x.r.st, .slice x.pf x.r.hs.length x.cf, .slice x.pl x.r.ls.length x.cl, .slice x.pn x.r.ns.length x.cn] 56))
 have HZ2 := kzq HZ1 hba.size
 have HGgx : Hid (w.heap.size ≤ w1.heap.size) := Lib.hid HB1.out.size
 clear hba Hc1 Hm1 Hr1 HB1 HZ1
 go_upto_region 2 with fail
 generalize (w1.alloc (.cells #[.int .i64 x.r.cu, .int .i64 x.r.st, .slice x.pf x.r.hs.length x.cf, .slice x.pl x.r.ls.length x.cl, .slice x.pn x.r.ns.length x.cn] 56)) = W2 at *
 generalize hggx : w1.heap.size = gx at *
 clear hggx
 have HG := Lib.hid (copen_any W2 x)
 unfold RunX.v at HG
 have x0 : W2.cell? ⟨gx, 0, none⟩ = some (.int .i64 x.r.cu) := Hx2.out.cell 0
 have x1 : W2.cell? ⟨gx, 1, none⟩ = some (.int .i64 x.r.st) := Hx2.out.cell 1
 have x2 : W2.cell? ⟨gx, 2, none⟩ = some (.slice x.pf x.r.hs.length x.cf) := Hx2.out.cell 2
 have x3 : W2.cell? ⟨gx, 3, none⟩ = some (.slice x.pl x.r.ls.length x.cl) := Hx2.out.cell 3
 have x4 : W2.cell? ⟨gx, 4, none⟩ = some (.slice x.pn x.r.ns.length x.cn) := Hx2.out.cell 4
 go_wp2_with fail
 clear x0 x1 x2 x3 x4
 refine HG.out.mono ?_
 rintro y9 w3 ⟨rfl, hb⟩
 clear HG
 have Hc3 := kbq Hc2 hb
 have Hm3 := kbq Hm2 hb
 have Hr3 := kbq Hr2 hb
 have Hx3 := kbq Hx2 hb
 have HB3 := ktq HB2 hb
 have HZ3 := kzq HZ2 hb.size
 clear Hc2 Hm2 Hr2 Hx2 HB2 HZ2
 have HO3 := Lib.hid (HO2.out.kept hb)
 clear hb HO2
 obtain ⟨bo, hbo⟩ : ∃ bo, openB x.r = bo := ⟨_, rfl⟩
 have HOB := Lib.hid hbo
 rw [hbo]
 clear hbo
 cases bo
 ·skip
  have HE : Hid (dueC N rs y.m = (rs, [], 90)) := by show _ = _; unfold dueC; rw [HX.out, HOB.out]; rfl
  go_upto_region 3 with fail
  have a0 : w3.cell? ⟨w.heap.size, 0, none⟩ = some (.int .i64 (N : Int)) := Hc3.out.cell 0
  have a1 : w3.cell? ⟨w.heap.size, 1, none⟩ = some (.slice p n c) := Hc3.out.cell 1
  go_wp2_with (with_reducible refine stop_storeT 27 (.tmp 6) (.tmp 17) rfl ?_)
  clear a0 a1
  have HTH : Hid (w3.there (w.heap.size + 1 + 1) 0 2) := Hr3.out.thereAt
  have hch : Hid (Chg (w.heap.size + 1 + 1) w3 (w3.setCells (w.heap.size + 1 + 1) 0 (#[.int .i64 (N : Int), .slice p n c] : Array Value).toList)) := Lib.hid (chg_putL _ _ _ _ _ (Chg.refl _ w3))
  have Hr4 : Hid (Blk (w3.setCells (w.heap.size + 1 + 1) 0 (#[.int .i64 (N : Int), .slice p n c] : Array Value).toList) (w.heap.size + 1 + 1) #[.int .i64 (N : Int), .slice p n c] 27) := Lib.hid (blk_put_all Hr3.out _ rfl)
  have HB4 : Hid (Below w.heap.size w (w3.setCells (w.heap.size + 1 + 1) 0 (#[.int .i64 (N : Int), .slice p n c] : Array Value).toList)) := Lib.hid (below_put (by have := HWL.out; have := HW1.out; omega) _ _ _ _ HB3.out)
  have HZ4 := kzq HZ3 hch.out.size
  have Hc4 := kcq Hc3 hch (by have := HWL.out; have := HW1.out; omega)
  have Hm4 := kcq Hm3 hch (by have := HWL.out; have := HW1.out; omega)
  have Hx4 := kcq Hx3 hch (by have := HWL.out; have := HW1.out; omega)
  clear hch Hc3 Hm3 Hr3 Hx3 HB3 HZ3
  refine wpList_store_mid rfl 27 (.tmp 6) (.tmp 17) rfl (w.heap.size + 1 + 1) 0 #[.int .i64 (N : Int), .slice p n c] rfl rfl HTH.out (infoC2 rfl) (all_oneCell_toArray (by intro u hu; simp at hu; rcases hu with rfl | rfl <;> rfl)) ?_
  generalize (w3.setCells (w.heap.size + 1 + 1) 0 (#[.int .i64 (N : Int), .slice p n c] : Array Value).toList) = W9a at *
  clear HTH
  go_wp2_with fail
  have hfr := Hr4.out
  refine bodyPost_ret (v := .tuple #[.agg #[.int .i64 (N : Int), .slice p n c], .slice none 0 0, .int .i64 90]) (by simp [results, Try.results33, go_sem, hfr.cell 0, hfr.cell 1]) rfl (by rw [HE.out]; exact ⟨p, n, c, none, 0, 0, W9a.heap.size, rfl, HKK.out.1, rfl, HZ4.out, (HRS.out.kept HB4.out).imp (fun b h => .inl h), SaidL.nil_ _ _, HB4.out⟩)
 ·skip
  have HE : Hid (dueC N rs y.m = (rs.set (y.m.y - 1).toNat (x.r.to 4), toAllL N (decM y.m.y (x.r.to 4)), 0)) := by show _ = _; unfold dueC; rw [HX.out, HOB.out]; rfl
  go_upto_region 4 with fail
  have HGX : Hid (W.heap.size ≤ w3.heap.size) := Lib.hid (by have := Hx3.out.lt; have := HW1.out; omega)
  have HG := Lib.hid (cend_any w3 (fun b => P b ∨ (W.heap.size ≤ b ∧ b < w3.heap.size)) N y.m.y 4 p n c rs x ((HRS.out.kept HB3.out).imp (fun b h => .inl h)) (fun b h => h.elim (fun h1 => Nat.lt_of_lt_of_le (HPW.out b h1) HZ3.out) (fun h1 => h1.2)) HKK.out.1 HKK.out.2.1 HKK.out.2.2.1 HKK.out.2.2.2 ((HO3.out.imp (fun b h => .inl h)).in_ (fun b h1 h2 => .inr ⟨h1, h2⟩)) HNN.out.2)
  unfold CPost RunX.v at HG
  have a0 : w3.cell? ⟨w.heap.size, 0, none⟩ = some (.int .i64 (N : Int)) := Hc3.out.cell 0
  have a1 : w3.cell? ⟨w.heap.size, 1, none⟩ = some (.slice p n c) := Hc3.out.cell 1
  have m6 : w3.cell? ⟨(w.heap.size + 1), 6, none⟩ = some (.int .i64 y.m.y) := Hm3.out.cell 6
  have x0 : w3.cell? ⟨gx, 0, none⟩ = some (.int .i64 x.r.cu) := Hx3.out.cell 0
  have x1 : w3.cell? ⟨gx, 1, none⟩ = some (.int .i64 x.r.st) := Hx3.out.cell 1
  have x2 : w3.cell? ⟨gx, 2, none⟩ = some (.slice x.pf x.r.hs.length x.cf) := Hx3.out.cell 2
  have x3 : w3.cell? ⟨gx, 3, none⟩ = some (.slice x.pl x.r.ls.length x.cl) := Hx3.out.cell 3
  have x4 : w3.cell? ⟨gx, 4, none⟩ = some (.slice x.pn x.r.ns.length x.cn) := Hx3.out.cell 4
  go_wp2_with fail
  clear a0 a1 m6 x0 x1 x2 x3 x4
  refine HG.out.mono ?_
  rintro y9 w5 ⟨p3, n3, c3, pv3, nv3, cv3, B3, rfl, hn3, hnv3, hB3, hq3, hs3, hb⟩
  clear HG
  have HN3 := Lib.hid (And.intro hn3 hnv3)
  have HBB : Hid (w3.heap.size ≤ B3) := Lib.hid hB3
  have HQQ := Lib.hid hq3
  have HSS := Lib.hid hs3
  clear hn3 hnv3 hB3 hq3 hs3
  have Hc4 := kbq Hc3 hb
  have Hm4 := kbq Hm3 hb
  have Hr4 := kbq Hr3 hb
  have Hx4 := kbq Hx3 hb
  have HB4 := ktq HB3 hb
  have HZ4 := kzq HZ3 hb.size
  clear Hc3 Hm3 Hr3 Hx3 HB3 HZ3
  clear hb
  go_wp2_with (with_reducible refine stop_storeT 27 (.tmp 6) (.tmp 23) rfl ?_)
  have HTH : Hid (w5.there (w.heap.size + 1 + 1) 0 2) := Hr4.out.thereAt
  have hch : Hid (Chg (w.heap.size + 1 + 1) w5 (w5.setCells (w.heap.size + 1 + 1) 0 (#[.int .i64 (N : Int), .slice p3 n3 c3] : Array Value).toList)) := Lib.hid (chg_putL _ _ _ _ _ (Chg.refl _ w5))
  have Hr5 : Hid (Blk (w5.setCells (w.heap.size + 1 + 1) 0 (#[.int .i64 (N : Int), .slice p3 n3 c3] : Array Value).toList) (w.heap.size + 1 + 1) #[.int .i64 (N : Int), .slice p3 n3 c3] 27) := Lib.hid (blk_put_all Hr4.out _ rfl)
  have HB5 : Hid (Below w.heap.size w (w5.setCells (w.heap.size + 1 + 1) 0 (#[.int .i64 (N : Int), .slice p3 n3 c3] : Array Value).toList)) := Lib.hid (below_put (by have := HWL.out; have := HW1.out; omega) _ _ _ _ HB4.out)
  have HZ5 := kzq HZ4 hch.out.size
  have Hc5 := kcq Hc4 hch (by have := HWL.out; have := HW1.out; omega)
  have Hm5 := kcq Hm4 hch (by have := HWL.out; have := HW1.out; omega)
  have Hx5 := kcq Hx4 hch (by have := HWL.out; have := HW1.out; omega)
  have HST := Lib.hid (HSS.out.chgS hch.out (by have := HBB.out; have := HWL.out; have := HGX.out; omega))
  have HQR := Lib.hid ((HQQ.out.imp (Q := fun b => b ≠ w.heap.size + 1 + 1 ∧ (P b ∨ (w.heap.size ≤ b ∧ b < B3))) (fun b h => by
   have h5 := HBB.out
   have h6 := HWL.out
   have h7 := HGX.out
   rcases h with (h1 | h1) | h1
   ·have := HPW.out _ h1
    exact ⟨by omega, .inl h1⟩
   ·exact ⟨by omega, .inr (by omega)⟩
   ·exact ⟨by omega, .inr (by omega)⟩)).keepP (KeepP.of_chg hch.out (by rintro ⟨h, _⟩; exact h rfl)))
  clear HSS HQQ
  clear hch Hc4 Hm4 Hr4 Hx4 HB4 HZ4
  refine wpList_store_mid rfl 27 (.tmp 6) (.tmp 23) rfl (w.heap.size + 1 + 1) 0 #[.int .i64 (N : Int), .slice p3 n3 c3] rfl rfl HTH.out (infoC2 rfl) (all_oneCell_toArray (by intro u hu; simp at hu; rcases hu with rfl | rfl <;> rfl)) ?_
  generalize (w5.setCells (w.heap.size + 1 + 1) 0 (#[.int .i64 (N : Int), .slice p3 n3 c3] : Array Value).toList) = W9b at *
  clear HTH
  go_wp2_with fail
  have hfr := Hr5.out
  refine bodyPost_ret (v := .tuple #[.agg #[.int .i64 (N : Int), .slice p3 n3 c3], .slice pv3 nv3 cv3, .int .i64 0]) (by simp [results, Try.results33, go_sem, hfr.cell 0, hfr.cell 1]) rfl (by rw [HE.out]; exact ⟨p3, n3, c3, pv3, nv3, cv3, B3, rfl, HN3.out.1, HN3.out.2, by have := HBB.out; have := HWL.out; have := HGX.out; omega, HQR.out.imp (fun b h => h.2), HST.out, HB5.out⟩)
set_option linter.unusedSimpArgs false in
set_option maxHeartbeats 4000000 in
set_option maxRecDepth 100000 in
theorem cquery_any (w : World) (P : Nat → Prop) (N : Nat) (p : Option Addr) (n c : Nat) (rs : List Rn) (y : MsgX) (fro : Int) (hrs : RsR P w (.slice p n c) rs) (hpw : ∀ b, P b → b < w.heap.size) (hn : n = rs.length) (hl : n ≤ 2000) (hk1 : 1 ≤ y.m.y) (hk2 : y.m.y ≤ n) (hN1 : 1 ≤ N) (hN8 : N ≤ 8) (hlen : ∀ r ∈ rs, r.hs.length = N) :
  Calls Try.prog 31 #[.agg #[.int .i64 (N : Int), .slice p n c], y.m.v (.slice y.pl y.m.ls.length y.cl) (.slice y.pn y.m.ns.length y.cn), .int .i64 fro] w (CP w P N (queryC rs y.m fro)) := by
 unfold CP
 have HRS := Lib.hid hrs
 have HPW := Lib.hid hpw
 have HNN : Hid (1 ≤ N ∧ N ≤ 8) := Lib.hid ⟨hN1, hN8⟩
 have HKK : Hid (n = rs.length ∧ n ≤ 2000 ∧ 1 ≤ y.m.y ∧ y.m.y ≤ n) := Lib.hid ⟨hn, hl, hk1, hk2⟩
 have HLN := Lib.hid hlen
 clear hrs hpw hN1 hN8 hn hl hk1 hk2 hlen 
 unfold Msg.v
 have HB0 : Hid (Below w.heap.size w (((w.alloc (.cells #[.int .i64 (N : Int), .slice p n c] 27)).alloc (.cells #[.int .i64 y.m.k, .int .i64 y.m.s, .int .i64 y.m.n, .int .i64 y.m.b, .int .i64 y.m.c, .int .i64 y.m.r, .int .i64 y.m.y, .int .i64 y.m.a, .bool y.m.t, .slice y.pl y.m.ls.length y.cl, .slice y.pn y.m.ns.length y.cn] 36)).alloc (.cells #[.int .i64 0, .slice none 0 0] 27))) := Lib.hid ((((oneB w _).alloc (by simp <;> omega) _).alloc (by simp <;> omega) _))
 have Hc0 : Hid (Blk (((w.alloc (.cells #[.int .i64 (N : Int), .slice p n c] 27)).alloc (.cells #[.int .i64 y.m.k, .int .i64 y.m.s, .int .i64 y.m.n, .int .i64 y.m.b, .int .i64 y.m.c, .int .i64 y.m.r, .int .i64 y.m.y, .int .i64 y.m.a, .bool y.m.t, .slice y.pl y.m.ls.length y.cl, .slice y.pn y.m.ns.length y.cn] 36)).alloc (.cells #[.int .i64 0, .slice none 0 0] 27)) w.heap.size #[.int .i64 (N : Int), .slice p n c] 27) := Lib.hid (((Blk.new w #[.int .i64 (N : Int), .slice p n c] 27).alloc _).alloc _)
 have Hm0 : Hid (Blk (((w.alloc (.cells #[.int .i64 (N : Int), .slice p n c] 27)).alloc (.cells #[.int .i64 y.m.k, .int .i64 y.m.s, .int .i64 y.m.n, .int .i64 y.m.b, .int .i64 y.m.c, .int .i64 y.m.r, .int .i64 y.m.y, .int .i64 y.m.a, .bool y.m.t, .slice y.pl y.m.ls.length y.cl, .slice y.pn y.m.ns.length y.cn] 36)).alloc (.cells #[.int .i64 0, .slice none 0 0] 27)) (w.heap.size + 1) #[.int .i64 y.m.k, .int .i64 y.m.s, .int .i64 y.m.n, .int .i64 y.m.b, .int .i64 y.m.c, .int .i64 y.m.r, .int .i64 y.m.y, .int .i64 y.m.a, .bool y.m.t, .slice y.pl y.m.ls.length y.cl, .slice y.pn y.m.ns.length y.cn] 36) := Lib.hid ((Blk.new' (w.alloc (.cells #[.int .i64 (N : Int), .slice p n c] 27)) #[.int .i64 y.m.k, .int .i64 y.m.s, .int .i64 y.m.n, .int .i64 y.m.b, .int .i64 y.m.c, .int .i64 y.m.r, .int .i64 y.m.y, .int .i64 y.m.a, .bool y.m.t, .slice y.pl y.m.ls.length y.cl, .slice y.pn y.m.ns.length y.cn] 36 (by simp)).alloc _)
 have Hr0 : Hid (Blk (((w.alloc (.cells #[.int .i64 (N : Int), .slice p n c] 27)).alloc (.cells #[.int .i64 y.m.k, .int .i64 y.m.s, .int .i64 y.m.n, .int .i64 y.m.b, .int .i64 y.m.c, .int .i64 y.m.r, .int .i64 y.m.y, .int .i64 y.m.a, .bool y.m.t, .slice y.pl y.m.ls.length y.cl, .slice y.pn y.m.ns.length y.cn] 36)).alloc (.cells #[.int .i64 0, .slice none 0 0] 27)) (w.heap.size + 1 + 1) #[.int .i64 0, .slice none 0 0] 27) := Lib.hid (Blk.new' ((w.alloc (.cells #[.int .i64 (N : Int), .slice p n c] 27)).alloc (.cells #[.int .i64 y.m.k, .int .i64 y.m.s, .int .i64 y.m.n, .int .i64 y.m.b, .int .i64 y.m.c, .int .i64 y.m.r, .int .i64 y.m.y, .int .i64 y.m.a, .bool y.m.t, .slice y.pl y.m.ls.length y.cl, .slice y.pn y.m.ns.length y.cn] 36)) #[.int .i64 0, .slice none 0 0] 27 (by simp))
 have HZ0 : Hid (w.heap.size ≤ (((w.alloc (.cells #[.int .i64 (N : Int), .slice p n c] 27)).alloc (.cells #[.int .i64 y.m.k, .int .i64 y.m.s, .int .i64 y.m.n, .int .i64 y.m.b, .int .i64 y.m.c, .int .i64 y.m.r, .int .i64 y.m.y, .int .i64 y.m.a, .bool y.m.t, .slice y.pl y.m.ls.length y.cl, .slice y.pn y.m.ns.length y.cn] 36)).alloc (.cells #[.int .i64 0, .slice none 0 0] 27)).heap.size) := Lib.hid HB0.out.size
 go_enter Try.func31, Try.ntmps31
 go_upto_region 1 with fail
 generalize (((w.alloc (.cells #[.int .i64 (N : Int), .slice p n c] 27)).alloc (.cells #[.int .i64 y.m.k, .int .i64 y.m.s, .int .i64 y.m.n, .int .i64 y.m.b, .int .i64 y.m.c, .int .i64 y.m.r, .int .i64 y.m.y, .int .i64 y.m.a, .bool y.m.t, .slice y.pl y.m.ls.length y.cl, .slice y.pn y.m.ns.length y.cn] 36)).alloc (.cells #[.int .i64 0, .slice none 0 0] 27)) = W at *
 have HWL : Hid (w.heap.size + 1 + 1 < W.heap.size) := Lib.hid Hr0.out.lt
 have HG := Lib.hid (crun_any W P N y.m.y p n c rs (HRS.out.kept HB0.out) HKK.out.1 HKK.out.2.1 HKK.out.2.2.1 HKK.out.2.2.2 HNN.out.1 HNN.out.2 HLN.out)
 have a0 : W.cell? ⟨w.heap.size, 0, none⟩ = some (.int .i64 (N : Int)) := Hc0.out.cell 0
 have a1 : W.cell? ⟨w.heap.size, 1, none⟩ = some (.slice p n c) := Hc0.out.cell 1
 have m6 : W.cell? ⟨(w.heap.size + 1), 6, none⟩ = some (.int .i64 y.m.y) := Hm0.out.cell 6
 go_wp2_with fail
 clear a0 a1 m6
 refine HG.out.mono ?_
 rintro y9 w1 ⟨x, rfl, hx, hro, hb⟩
 clear HG
 have HX : Hid (rnAt rs y.m.y = x.r) := Lib.hid (by unfold rnAt; rw [hx]; rfl)
 have HXS : Hid (rs[(y.m.y - 1).toNat]? = some x.r) := Lib.hid hx
 have HO := Lib.hid hro
 have HW1 : Hid (W.heap.size ≤ w1.heap.size) := Lib.hid hb.size
 clear hx hro
 have Hc1 := kbq Hc0 hb
 have Hm1 := kbq Hm0 hb
 have Hr1 := kbq Hr0 hb
 have HB1 := ktq HB0 hb
 have HZ1 := kzq HZ0 hb.size
 clear Hc0 Hm0 Hr0 HB0 HZ0
 clear hb
 unfold RunX.v
 have hba9 := oneB w1 (.cells #[.int .i64 x.r.cu, .int .i64 x.r.st, .slice x.pf x.r.hs.length x.cf, .slice x.pl x.r.ls.length x.cl, .slice x.pn x.r.ns.length x.cn] 56)
 have HO2 := Lib.hid (HO.out.kept hba9)
 clear hba9 HO
 have hba := oneB w1 (.cells #[.int .i64 x.r.cu, .int .i64 x.r.st, .slice x.pf x.r.hs.length x.cf, .slice x.pl x.r.ls.length x.cl, .slice x.pn x.r.ns.length x.cn] 56)
 have Hc2 := kbq Hc1 hba
 have Hm2 := kbq Hm1 hba
 have Hr2 := kbq Hr1 hba
 have Hx2 := Lib.hid (Blk.new w1 #[.int .i64 x.r.cu, .int .i64 x.r.st, .slice x.pf x.r.hs.length x.cf, .slice x.pl x.r.ls.length x.cl, .slice x.pn x.r.ns.length x.cn] 56)
 have HB2 := Lib.hid (HB1.out.alloc HB1.out.size (.cells #[.int .i64 x.r.cu, .int .i64 x.r.st, .slice x.pf x.r.hs.length x.cf, .slice x.pl x.r.ls.length x.cl, .slice x.pn x.r.ns.length x.cn] 56))
 have HZ2 := kzq HZ1 hba.size
 have HGgx : Hid (w.heap.size ≤ w1.heap.size) := Lib.hid HB1.out.size
 clear hba Hc1 Hm1 Hr1 HB1 HZ1
 go_upto_region 2 with fail
 generalize (w1.alloc (.cells #[.int .i64 x.r.cu, .int .i64 x.r.st, .slice x.pf x.r.hs.length x.cf, .slice x.pl x.r.ls.length x.cl, .slice x.pn x.r.ns.length x.cn] 56)) = W2 at *
 generalize hggx : w1.heap.size = gx at *
 clear hggx
 have HG := Lib.hid (copen_any W2 x)
 unfold RunX.v at HG
 have x0 : W2.cell? ⟨gx, 0, none⟩ = some (.int .i64 x.r.cu) := Hx2.out.cell 0
 have x1 : W2.cell? ⟨gx, 1, none⟩ = some (.int .i64 x.r.st) := Hx2.out.cell 1
 have x2 : W2.cell? ⟨gx, 2, none⟩ = some (.slice x.pf x.r.hs.length x.cf) := Hx2.out.cell 2
 have x3 : W2.cell? ⟨gx, 3, none⟩ = some (.slice x.pl x.r.ls.length x.cl) := Hx2.out.cell 3
 have x4 : W2.cell? ⟨gx, 4, none⟩ = some (.slice x.pn x.r.ns.length x.cn) := Hx2.out.cell 4
 go_wp2_with fail
 clear x0 x1 x2 x3 x4
 refine HG.out.mono ?_
 rintro y9 w3 ⟨rfl, hb⟩
 clear HG
 have Hc3 := kbq Hc2 hb
 have Hm3 := kbq Hm2 hb
 have Hr3 := kbq Hr2 hb
 have Hx3 := kbq Hx2 hb
 have HB3 := ktq HB2 hb
 have HZ3 := kzq HZ2 hb.size
 clear Hc2 Hm2 Hr2 Hx2 HB2 HZ2
 have HO3 := Lib.hid (HO2.out.kept hb)
 clear hb HO2
 obtain ⟨bo, hbo⟩ : ∃ bo, openB x.r = bo := ⟨_, rfl⟩
 have HOB := Lib.hid hbo
 rw [hbo]
 clear hbo
 cases bo
 ·skip
  have HE : Hid (queryC rs y.m fro = (rs, [(fro, decM y.m.y x.r)], 0)) := by show _ = _; unfold queryC; rw [HX.out, HOB.out]; rfl
  go_upto_region 4 with fail
  have hbd := (Below.refl w3.heap.size w3).drew
  have Hc4 := kbq Hc3 hbd
  have Hm4 := kbq Hm3 hbd
  have Hr4 := kbq Hr3 hbd
  have Hx4 := kbq Hx3 hbd
  have HB4 := ktq HB3 hbd
  have HZ4 := kzq HZ3 hbd.size
  clear Hc3 Hm3 Hr3 Hx3 HB3 HZ3
  refine wp_region_held_drew (S := fun w' => w'.cell? ⟨w.heap.size, 0, none⟩ = some (.int .i64 (N : Int)) ∧ w'.cell? ⟨w.heap.size, 1, none⟩ = some (.slice p n c) ∧ w'.cell? ⟨w.heap.size + 1, 0, none⟩ = some (.int .i64 y.m.k) ∧ w'.cell? ⟨w.heap.size + 1, 1, none⟩ = some (.int .i64 y.m.s) ∧ w'.cell? ⟨w.heap.size + 1, 2, none⟩ = some (.int .i64 y.m.n) ∧ w'.cell? ⟨w.heap.size + 1, 3, none⟩ = some (.int .i64 y.m.b) ∧ w'.cell? ⟨w.heap.size + 1, 4, none⟩ = some (.int .i64 y.m.c) ∧ w'.cell? ⟨w.heap.size + 1, 5, none⟩ = some (.int .i64 y.m.r) ∧ w'.cell? ⟨w.heap.size + 1, 6, none⟩ = some (.int .i64 y.m.y) ∧ w'.cell? ⟨w.heap.size + 1, 7, none⟩ = some (.int .i64 y.m.a) ∧ w'.cell? ⟨w.heap.size + 1, 8, none⟩ = some (.bool y.m.t) ∧ w'.cell? ⟨w.heap.size + 1, 9, none⟩ = some (.slice y.pl y.m.ls.length y.cl) ∧ w'.cell? ⟨w.heap.size + 1, 10, none⟩ = some (.slice y.pn y.m.ns.length y.cn) ∧ w'.cell? ⟨gx, 0, none⟩ = some (.int .i64 x.r.cu) ∧ w'.cell? ⟨gx, 1, none⟩ = some (.int .i64 x.r.st) ∧ w'.cell? ⟨gx, 2, none⟩ = some (.slice x.pf x.r.hs.length x.cf) ∧ w'.cell? ⟨gx, 3, none⟩ = some (.slice x.pl x.r.ls.length x.cl) ∧ w'.cell? ⟨gx, 4, none⟩ = some (.slice x.pn x.r.ns.length x.cn)) (by kernel_rfl) ⟨Hc4.out.cell 0, Hc4.out.cell 1, Hm4.out.cell 0, Hm4.out.cell 1, Hm4.out.cell 2, Hm4.out.cell 3, Hm4.out.cell 4, Hm4.out.cell 5, Hm4.out.cell 6, Hm4.out.cell 7, Hm4.out.cell 8, Hm4.out.cell 9, Hm4.out.cell 10, Hx4.out.cell 0, Hx4.out.cell 1, Hx4.out.cell 2, Hx4.out.cell 3, Hx4.out.cell 4⟩ (fun hS0 => ?_)
  generalize w3.drew = WD at *
  clear hbd
  refine tkq 0 ?_
  refine tkq 1 ?_
  refine tkq 2 ?_
  refine tkq 3 ?_
  refine tkq 4 ?_
  refine rdq 5 (fun K hK => ?_)
  have HWDD : Hid (w.heap.size + 1 + 1 < WD.heap.size) := Lib.hid Hr4.out.lt
  have HG := Lib.hid (decision_any WD x y.m.y)
  unfold RunX.v decM Msg.v at HG
  obtain ⟨bq, hbq⟩ : ∃ bq, (x.r.st == 3) = bq := ⟨_, rfl⟩
  have HBQ := Lib.hid hbq
  dsimp only at HG
  rw [hbq] at HG
  clear hbq
  go_simp
  go_at_call 52
  refine HG.out.mono ?_
  rintro y9 w4 ⟨rfl, hb⟩
  clear HG
  have HLE4 : Hid (WD.heap.size ≤ w4.heap.size) := Lib.hid hb.size
  have Hc5 := kbq Hc4 hb
  have Hm5 := kbq Hm4 hb
  have Hr5 := kbq Hr4 hb
  have Hx5 := kbq Hx4 hb
  have HB5 := ktq HB4 hb
  have HZ5 := kzq HZ4 hb.size
  clear Hc4 Hm4 Hr4 Hx4 HB4 HZ4
  clear hb hS0
  try go_wp2_with fail
  refine hK.out _ _ ⟨Hc5.out.cell 0, Hc5.out.cell 1, Hm5.out.cell 0, Hm5.out.cell 1, Hm5.out.cell 2, Hm5.out.cell 3, Hm5.out.cell 4, Hm5.out.cell 5, Hm5.out.cell 6, Hm5.out.cell 7, Hm5.out.cell 8, Hm5.out.cell 9, Hm5.out.cell 10, Hx5.out.cell 0, Hx5.out.cell 1, Hx5.out.cell 2, Hx5.out.cell 3, Hx5.out.cell 4⟩ (fun hS0 => ?_)
  clear hK K
  try simp only [Act.put, List.getElem_toArray, List.getElem_cons_succ, List.getElem_cons_zero, List.setIfInBounds_toArray, List.set_cons_zero, List.set_cons_succ]
  refine tkq 6 ?_
  refine wpAnyH_ready (rs := [7, 8]) (by kernel_rfl) (by simp) ?_
  refine AllReadyH.cons rfl (fun K hK => ?_) (AllReadyH.cons rfl (fun K hK => ?_) AllReadyH.nil)
  ·skip
   go_simp
   have hba := oneB w4 (.cells #[.int .i64 fro, .int .i64 14, .int .i64 0, .int .i64 0, .int .i64 0, .int .i64 0, .int .i64 0, .int .i64 y.m.y, .int .i64 0, .bool bq, .slice none 0 0, .slice none 0 0] 47)
   have Hc6 := kbq Hc5 hba
   have Hm6 := kbq Hm5 hba
   have Hr6 := kbq Hr5 hba
   have Hx6 := kbq Hx5 hba
   have Hz6 := Lib.hid (Blk.new w4 #[.int .i64 fro, .int .i64 14, .int .i64 0, .int .i64 0, .int .i64 0, .int .i64 0, .int .i64 0, .int .i64 y.m.y, .int .i64 0, .bool bq, .slice none 0 0, .slice none 0 0] 47)
   have HB6 := Lib.hid (HB5.out.alloc HB5.out.size (.cells #[.int .i64 fro, .int .i64 14, .int .i64 0, .int .i64 0, .int .i64 0, .int .i64 0, .int .i64 0, .int .i64 y.m.y, .int .i64 0, .bool bq, .slice none 0 0, .slice none 0 0] 47))
   have HZ6 := kzq HZ5 hba.size
   clear hba hS0 Hc5 Hm5 Hr5 Hx5 HB5 HZ5
   generalize (w4.alloc (.cells #[.int .i64 fro, .int .i64 14, .int .i64 0, .int .i64 0, .int .i64 0, .int .i64 0, .int .i64 0, .int .i64 y.m.y, .int .i64 0, .bool bq, .slice none 0 0, .slice none 0 0] 47)) = W7a at *
   generalize hggz : w4.heap.size = gz at *
   clear hggz
   refine hK.out _ _ ⟨Hc6.out.cell 0, Hc6.out.cell 1, Hm6.out.cell 0, Hm6.out.cell 1, Hm6.out.cell 2, Hm6.out.cell 3, Hm6.out.cell 4, Hm6.out.cell 5, Hm6.out.cell 6, Hm6.out.cell 7, Hm6.out.cell 8, Hm6.out.cell 9, Hm6.out.cell 10, Hx6.out.cell 0, Hx6.out.cell 1, Hx6.out.cell 2, Hx6.out.cell 3, Hx6.out.cell 4⟩ (fun hS0 => ?_)
   clear hK K
   try simp only [Act.put, List.getElem_toArray, List.getElem_cons_succ, List.getElem_cons_zero, List.setIfInBounds_toArray, List.set_cons_zero, List.set_cons_succ]
   refine rdq 8 (fun K hK => ?_)
   have z0 : W7a.cell? ⟨(w.heap.size + 1 + 1), 0, none⟩ = some (.int .i64 0) := Hr6.out.cell 0
   have z1 : W7a.cell? ⟨(w.heap.size + 1 + 1), 1, none⟩ = some (.slice none 0 0) := Hr6.out.cell 1
   have f0 := Hr6.out.free 0
   have f1 := Hr6.out.free 1
   go_simp
   clear z0 f0 z1 f1
   have hch := Lib.hid (((Chg.refl (w.heap.size + 1 + 1) W7a).set 0 (.int .i64 (N : Int))).set 1 (.slice p n c))
   have Hr7 : Hid (Blk _ (w.heap.size + 1 + 1) #[.int .i64 (N : Int), .slice p n c] 27) := Lib.hid ((Hr6.out.set 0 (.int .i64 (N : Int))).set 1 (.slice p n c))
   have HB7 := ksq HB6 hch (by show w.heap.size ≤ (w.heap.size + 1 + 1); have := HWL.out; have := HW1.out; have := HWDD.out; have := HLE4.out; omega)
   have HZ7 := kzq HZ6 hch.out.size
   have Hc7 := kcq Hc6 hch (by have := HWL.out; have := HW1.out; have := HWDD.out; have := HLE4.out; omega)
   have Hm7 := kcq Hm6 hch (by have := HWL.out; have := HW1.out; have := HWDD.out; have := HLE4.out; omega)
   have Hx7 := kcq Hx6 hch (by have := HWL.out; have := HW1.out; have := HWDD.out; have := HLE4.out; omega)
   have Hz7 := kcq Hz6 hch (by have := HWL.out; have := HW1.out; have := HWDD.out; have := HLE4.out; omega)
   clear hch hS0 Hc6 Hm6 Hr6 Hx6 Hz6 HB6 HZ6
   generalize ((W7a.setCell ⟨w.heap.size + 1 + 1, 0, none⟩ (.int .i64 (N : Int))).setCell ⟨w.heap.size + 1 + 1, 1, none⟩ (.slice p n c)) = W8a at *
   refine hK.out _ _ ⟨Hc7.out.cell 0, Hc7.out.cell 1, Hm7.out.cell 0, Hm7.out.cell 1, Hm7.out.cell 2, Hm7.out.cell 3, Hm7.out.cell 4, Hm7.out.cell 5, Hm7.out.cell 6, Hm7.out.cell 7, Hm7.out.cell 8, Hm7.out.cell 9, Hm7.out.cell 10, Hx7.out.cell 0, Hx7.out.cell 1, Hx7.out.cell 2, Hx7.out.cell 3, Hx7.out.cell 4⟩ (fun hS0 => ?_)
   clear hK K
   try simp only [Act.put, List.getElem_toArray, List.getElem_cons_succ, List.getElem_cons_zero, List.setIfInBounds_toArray, List.set_cons_zero, List.set_cons_succ]
   refine tkq 9 ?_
   refine tkq 10 ?_
   refine wpAnyH_done (by kernel_rfl) ?_ _
   clear hS0
   go_wp2_with fail
   have hfr := Hr7.out
   refine bodyPost_ret (v := .tuple #[.agg #[.int .i64 (N : Int), .slice p n c], .slice (some ⟨gz, 0, none⟩) 1 1, .int .i64 0]) (by simp [results, Try.results31, go_sem, hfr.cell 0, hfr.cell 1]) rfl (by rw [HE.out]; exact ⟨p, n, c, _, 1, 1, gz, rfl, HKK.out.1, rfl, by have := HLE4.out; have := HWDD.out; omega, (HRS.out.kept HB7.out).imp (fun b h => .inl h), ⟨[(⟨fro, ⟨decM y.m.y x.r, none, 0, none, 0⟩⟩ : SdX)], OwnT.mk' (g := gz) rfl (Nat.le_refl _) Hz7.out (Nat.le_refl 1) (by decide) rfl (by rw [show decM y.m.y x.r = ⟨14, 0, 0, 0, 0, 0, y.m.y, 0, bq, [], []⟩ from by unfold decM; rw [HBQ.out]]; rfl), fun q hq => by
    obtain rfl := List.mem_singleton.1 hq
    exact ⟨⟨TRow.nil_ _ _, Row.nil_ _ _ 0, At.nil_ _ _, At.nil_ _ _, ⟨by show 0 * 32 ≤ _; decide, by show 0 * 8 ≤ _; decide⟩⟩, Fre.none_ _ _, Fre.none_ _ _⟩, rfl⟩, HB7.out⟩)
  ·skip
   have z0 : w4.cell? ⟨(w.heap.size + 1 + 1), 0, none⟩ = some (.int .i64 0) := Hr5.out.cell 0
   have z1 : w4.cell? ⟨(w.heap.size + 1 + 1), 1, none⟩ = some (.slice none 0 0) := Hr5.out.cell 1
   have f0 := Hr5.out.free 0
   have f1 := Hr5.out.free 1
   go_simp
   clear z0 f0 z1 f1
   have hch := Lib.hid (((Chg.refl (w.heap.size + 1 + 1) w4).set 0 (.int .i64 (N : Int))).set 1 (.slice p n c))
   have Hr6 : Hid (Blk _ (w.heap.size + 1 + 1) #[.int .i64 (N : Int), .slice p n c] 27) := Lib.hid ((Hr5.out.set 0 (.int .i64 (N : Int))).set 1 (.slice p n c))
   have HB6 := ksq HB5 hch (by show w.heap.size ≤ (w.heap.size + 1 + 1); have := HWL.out; have := HW1.out; omega)
   have HZ6 := kzq HZ5 hch.out.size
   have Hc6 := kcq Hc5 hch (by have := HWL.out; have := HW1.out; omega)
   have Hm6 := kcq Hm5 hch (by have := HWL.out; have := HW1.out; omega)
   have Hx6 := kcq Hx5 hch (by have := HWL.out; have := HW1.out; omega)
   have HLE4b : Hid (WD.heap.size ≤ (((w4.setCell ⟨w.heap.size + 1 + 1, 0, none⟩ (.int .i64 (N : Int))).setCell ⟨w.heap.size + 1 + 1, 1, none⟩ (.slice p n c))).heap.size) := Lib.hid (Nat.le_trans HLE4.out hch.out.size)
   clear hch hS0 Hc5 Hm5 Hr5 Hx5 HB5 HZ5
   generalize ((w4.setCell ⟨w.heap.size + 1 + 1, 0, none⟩ (.int .i64 (N : Int))).setCell ⟨w.heap.size + 1 + 1, 1, none⟩ (.slice p n c)) = W8b at *
   refine hK.out _ _ ⟨Hc6.out.cell 0, Hc6.out.cell 1, Hm6.out.cell 0, Hm6.out.cell 1, Hm6.out.cell 2, Hm6.out.cell 3, Hm6.out.cell 4, Hm6.out.cell 5, Hm6.out.cell 6, Hm6.out.cell 7, Hm6.out.cell 8, Hm6.out.cell 9, Hm6.out.cell 10, Hx6.out.cell 0, Hx6.out.cell 1, Hx6.out.cell 2, Hx6.out.cell 3, Hx6.out.cell 4⟩ (fun hS0 => ?_)
   clear hK K
   try simp only [Act.put, List.getElem_toArray, List.getElem_cons_succ, List.getElem_cons_zero, List.setIfInBounds_toArray, List.set_cons_zero, List.set_cons_succ]
   refine rdq 7 (fun K hK => ?_)
   go_simp
   have hba := oneB W8b (.cells #[.int .i64 fro, .int .i64 14, .int .i64 0, .int .i64 0, .int .i64 0, .int .i64 0, .int .i64 0, .int .i64 y.m.y, .int .i64 0, .bool bq, .slice none 0 0, .slice none 0 0] 47)
   have Hc7 := kbq Hc6 hba
   have Hm7 := kbq Hm6 hba
   have Hr7 := kbq Hr6 hba
   have Hx7 := kbq Hx6 hba
   have Hz7 := Lib.hid (Blk.new W8b #[.int .i64 fro, .int .i64 14, .int .i64 0, .int .i64 0, .int .i64 0, .int .i64 0, .int .i64 0, .int .i64 y.m.y, .int .i64 0, .bool bq, .slice none 0 0, .slice none 0 0] 47)
   have HB7 := Lib.hid (HB6.out.alloc HB6.out.size (.cells #[.int .i64 fro, .int .i64 14, .int .i64 0, .int .i64 0, .int .i64 0, .int .i64 0, .int .i64 0, .int .i64 y.m.y, .int .i64 0, .bool bq, .slice none 0 0, .slice none 0 0] 47))
   have HZ7 := kzq HZ6 hba.size
   clear hba hS0 Hc6 Hm6 Hr6 Hx6 HB6 HZ6
   generalize (W8b.alloc (.cells #[.int .i64 fro, .int .i64 14, .int .i64 0, .int .i64 0, .int .i64 0, .int .i64 0, .int .i64 0, .int .i64 y.m.y, .int .i64 0, .bool bq, .slice none 0 0, .slice none 0 0] 47)) = W7b at *
   generalize hggz : W8b.heap.size = gz at *
   clear hggz
   refine hK.out _ _ ⟨Hc7.out.cell 0, Hc7.out.cell 1, Hm7.out.cell 0, Hm7.out.cell 1, Hm7.out.cell 2, Hm7.out.cell 3, Hm7.out.cell 4, Hm7.out.cell 5, Hm7.out.cell 6, Hm7.out.cell 7, Hm7.out.cell 8, Hm7.out.cell 9, Hm7.out.cell 10, Hx7.out.cell 0, Hx7.out.cell 1, Hx7.out.cell 2, Hx7.out.cell 3, Hx7.out.cell 4⟩ (fun hS0 => ?_)
   clear hK K
   try simp only [Act.put, List.getElem_toArray, List.getElem_cons_succ, List.getElem_cons_zero, List.setIfInBounds_toArray, List.set_cons_zero, List.set_cons_succ]
   refine tkq 9 ?_
   refine tkq 10 ?_
   refine wpAnyH_done (by kernel_rfl) ?_ _
   clear hS0
   go_wp2_with fail
   have hfr := Hr7.out
   refine bodyPost_ret (v := .tuple #[.agg #[.int .i64 (N : Int), .slice p n c], .slice (some ⟨gz, 0, none⟩) 1 1, .int .i64 0]) (by simp [results, Try.results31, go_sem, hfr.cell 0, hfr.cell 1]) rfl (by rw [HE.out]; exact ⟨p, n, c, _, 1, 1, gz, rfl, HKK.out.1, rfl, by have := HLE4b.out; have := HWDD.out; omega, (HRS.out.kept HB7.out).imp (fun b h => .inl h), ⟨[(⟨fro, ⟨decM y.m.y x.r, none, 0, none, 0⟩⟩ : SdX)], OwnT.mk' (g := gz) rfl (Nat.le_refl _) Hz7.out (Nat.le_refl 1) (by decide) rfl (by rw [show decM y.m.y x.r = ⟨14, 0, 0, 0, 0, 0, y.m.y, 0, bq, [], []⟩ from by unfold decM; rw [HBQ.out]]; rfl), fun q hq => by
    obtain rfl := List.mem_singleton.1 hq
    exact ⟨⟨TRow.nil_ _ _, Row.nil_ _ _ 0, At.nil_ _ _, At.nil_ _ _, ⟨by show 0 * 32 ≤ _; decide, by show 0 * 8 ≤ _; decide⟩⟩, Fre.none_ _ _, Fre.none_ _ _⟩, rfl⟩, HB7.out⟩)
 ·skip
  have HE : Hid (queryC rs y.m fro = (rs, [], 90)) := by show _ = _; unfold queryC; rw [HX.out, HOB.out]; rfl
  go_upto_region 3 with fail
  have a0 : w3.cell? ⟨w.heap.size, 0, none⟩ = some (.int .i64 (N : Int)) := Hc3.out.cell 0
  have a1 : w3.cell? ⟨w.heap.size, 1, none⟩ = some (.slice p n c) := Hc3.out.cell 1
  go_wp2_with (with_reducible refine stop_storeT 27 (.tmp 6) (.tmp 16) rfl ?_)
  clear a0 a1
  have HTH : Hid (w3.there (w.heap.size + 1 + 1) 0 2) := Hr3.out.thereAt
  have hch : Hid (Chg (w.heap.size + 1 + 1) w3 (w3.setCells (w.heap.size + 1 + 1) 0 (#[.int .i64 (N : Int), .slice p n c] : Array Value).toList)) := Lib.hid (chg_putL _ _ _ _ _ (Chg.refl _ w3))
  have Hr4 : Hid (Blk (w3.setCells (w.heap.size + 1 + 1) 0 (#[.int .i64 (N : Int), .slice p n c] : Array Value).toList) (w.heap.size + 1 + 1) #[.int .i64 (N : Int), .slice p n c] 27) := Lib.hid (blk_put_all Hr3.out _ rfl)
  have HB4 : Hid (Below w.heap.size w (w3.setCells (w.heap.size + 1 + 1) 0 (#[.int .i64 (N : Int), .slice p n c] : Array Value).toList)) := Lib.hid (below_put (by have := HWL.out; have := HW1.out; omega) _ _ _ _ HB3.out)
  have HZ4 := kzq HZ3 hch.out.size
  have Hc4 := kcq Hc3 hch (by have := HWL.out; have := HW1.out; omega)
  have Hm4 := kcq Hm3 hch (by have := HWL.out; have := HW1.out; omega)
  have Hx4 := kcq Hx3 hch (by have := HWL.out; have := HW1.out; omega)
  clear hch Hc3 Hm3 Hr3 Hx3 HB3 HZ3
  refine wpList_store_mid rfl 27 (.tmp 6) (.tmp 16) rfl (w.heap.size + 1 + 1) 0 #[.int .i64 (N : Int), .slice p n c] rfl rfl HTH.out (infoC2 rfl) (all_oneCell_toArray (by intro u hu; simp at hu; rcases hu with rfl | rfl <;> rfl)) ?_
  generalize (w3.setCells (w.heap.size + 1 + 1) 0 (#[.int .i64 (N : Int), .slice p n c] : Array Value).toList) = W9c at *
  clear HTH
  go_wp2_with fail
  have hfr := Hr4.out
  refine bodyPost_ret (v := .tuple #[.agg #[.int .i64 (N : Int), .slice p n c], .slice none 0 0, .int .i64 90]) (by simp [results, Try.results31, go_sem, hfr.cell 0, hfr.cell 1]) rfl (by rw [HE.out]; exact ⟨p, n, c, none, 0, 0, W9c.heap.size, rfl, HKK.out.1, rfl, HZ4.out, (HRS.out.kept HB4.out).imp (fun b h => .inl h), SaidL.nil_ _ _, HB4.out⟩)
end Go.Proofs.Yteogdfpkcoodlaa
namespace Go.Proofs.Yteogdfpkcoodlaa
open Go.RowKit
section
variable {α : Type} {e : Enc α}
theorem OwnT.cell1 {w : World} {base n c g : Nat} {ty : TypeId} {xs : List α} (h : OwnT e w base ty (.slice (some ⟨g, 0, none⟩) n c) xs) (i t : Nat) (hi : i < xs.length) (ht : t < e.k) (x : α) (v : Value) (hx : e.E x = (e.E xs[i]).set t v) : OwnT e (w.setCell ⟨g, i * e.k + t, none⟩ v) base ty (.slice (some ⟨g, 0, none⟩) n c) (xs.set i x) := by
 have hnx : n = xs.length := by
  obtain ⟨p', c', e1⟩ := h.form
  exact (Value.slice.inj e1).2.1
 obtain ⟨g', cur, e1, hb, hg, hn, hm, hs, ht', hl⟩ := h.lies (by omega)
 cases e1
 refine OwnT.mk' (by rw [List.length_set]; exact hl) hb (hg.set (i * e.k + t) v) hn hm (by rw [Array.size_setIfInBounds]; exact hs) ?_
 apply List.ext_getElem?
 intro j
 have hk := e.pos
 by_cases hj : j < n * e.k
 ·have hq : j / e.k < n := (Nat.div_lt_iff_lt_mul hk).2 hj
  have hr : j % e.k < e.k := Nat.mod_lt _ hk
  have e3 : j / e.k * e.k + j % e.k = j := by rw [Nat.mul_comm]; exact Nat.div_add_mod j e.k
  have hjc : j < cur.size := by rw [hs]; exact Nat.lt_of_lt_of_le hj (Nat.mul_le_mul_right _ hn)
  have hset := flat_get e (xs.set i x) (j / e.k) (j % e.k) (by rw [List.length_set]; omega) hr
  rw [e3] at hset
  have h4 := congrArg (fun l => l[j]?) ht'
  simp only [List.getElem?_take] at h4
  rw [if_pos hj, Array.getElem?_toList] at h4
  have h5 := flat_get e xs (j / e.k) (j % e.k) (by omega) hr
  rw [e3, ← h4] at h5
  rw [hset, List.getElem?_take, if_pos hj, Array.getElem?_toList, List.getElem_set]
  by_cases hqi : i = j / e.k
  ·rw [if_pos hqi, hx]
   have h6 : (e.E xs[i]) = e.E xs[j / e.k] := by congr 1; exact getElem_congr rfl hqi _
   by_cases hjt : t = j % e.k
   ·have : i * e.k + t = j := by rw [hqi, hjt]; exact e3
    rw [this, Array.getElem?_setIfInBounds_self_of_lt hjc, ← hjt, List.getElem?_set_self (by rw [e.len]; exact ht)]
   ·rw [Array.getElem?_setIfInBounds_ne (by intro h; apply hjt; rw [hqi] at h; omega), List.getElem?_set_ne hjt, h6, h5]
  ·rw [if_neg hqi, Array.getElem?_setIfInBounds_ne ?_, h5]
   intro h
   apply hqi
   have : (i * e.k + t) / e.k = i := by rw [Nat.mul_comm, Nat.mul_add_div hk, Nat.div_eq_of_lt ht, Nat.add_zero]
   rw [← h, this]
 ·rw [List.getElem?_eq_none (by rw [List.length_take]; omega), List.getElem?_eq_none (by rw [flat_length, List.length_set, ← hl]; omega)]
/-- The cells of an element, free to be written. -/
theorem OwnT.read {w : World} {base n c g : Nat} {ty : TypeId} {xs : List α} (h : OwnT e w base ty (.slice (some ⟨g, 0, none⟩) n c) xs) (i t : Nat) (hi : i < xs.length) (ht : t < e.k) : w.cell? ⟨g, i * e.k + t, none⟩ = (e.E xs[i])[t]? ∧ w.frozen? ⟨g, i * e.k + t, none⟩ = false := by
 have hnx : n = xs.length := by
  obtain ⟨p', c', e1⟩ := h.form
  exact (Value.slice.inj e1).2.1
 obtain ⟨g', cur, e1, hb, hg, _⟩ := h.lies (by omega)
 cases e1
 refine ⟨?_, hg.free _⟩
 have hr := h.row
 obtain ⟨b, o, e2, _, hc⟩ := hr.at_ i hi
 cases e2
 rw [← hc t ht, Nat.zero_add]
end
end Go.Proofs.Yteogdfpkcoodlaa
namespace Go.Proofs.Yteogdfpkcoodlaa
open Go.RowKit
set_option linter.unusedSimpArgs false
def hd0 : Hd := ⟨false, false, []⟩
theorem RunX.v_mk (r : Rn) (pf : Option Addr) (cf : Nat) (pl : Option Addr) (cl : Nat) (pn : Option Addr) (cn : Nat) : (⟨r, pf, cf, pl, cl, pn, cn⟩ : RunX).v = .agg #[.int .i64 r.cu, .int .i64 r.st, .slice pf r.hs.length cf, .slice pl r.ls.length cl, .slice pn r.ns.length cn] := rfl
theorem HsO.at1 {P : Nat → Prop} {w : World} {base g n c : Nat} {hs : List Hd} (h : HsO P w base (.slice (some ⟨g, 0, none⟩) n c) hs) (j : Nat) (hj : j < hs.length) : ∃ x : HdX, x.h = hs[j] ∧ (∀ t, t < 3 → w.cell? ⟨g, j * 3 + t, none⟩ = x.cells[t]? ∧ w.frozen? ⟨g, j * 3 + t, none⟩ = false) ∧ x.In P w := by
 obtain ⟨xs, h1, h2, rfl⟩ := h
 rw [List.length_map] at hj
 refine ⟨xs[j], by rw [List.getElem_map], fun t ht => h1.read j t hj ht, h2 _ (List.getElem_mem hj)⟩
theorem HsO.put1 {P : Nat → Prop} {w : World} {base g n c : Nat} {hs : List Hd} (h : HsO P w base (.slice (some ⟨g, 0, none⟩) n c) hs) (j t : Nat) (hj : j < hs.length) (ht : t < 3) (v : Value) (q : Hd) (hg : ¬ P g)
  (hq : ∀ x : HdX, x.h = hs[j] → x.In P w → ∃ x' : HdX, x'.h = q ∧ x'.cells = x.cells.set t v ∧ x'.In P w) : HsO P (w.setCell ⟨g, j * 3 + t, none⟩ v) base (.slice (some ⟨g, 0, none⟩) n c) (hs.set j q) := by
 obtain ⟨xs, h1, h2, rfl⟩ := h
 rw [List.length_map] at hj
 obtain ⟨x', e1, e2, e3⟩ := hq xs[j] (by rw [List.getElem_map]) (h2 _ (List.getElem_mem hj))
 have hk : KeepP P w (w.setCell ⟨g, j * 3 + t, none⟩ v) := KeepP.of_chg ((Chg.refl g w).set _ v) hg
 refine ⟨xs.set j x', h1.cell1 j t hj ht x' v e2, fun y hy => ?_, by rw [List.map_set, e1]⟩
 rcases List.mem_or_eq_of_mem_set hy with h | h
 ·exact (h2 y h).keepP hk
 ·subst h; exact e3.keepP hk
theorem RunO.put1 {P : Nat → Prop} {w : World} {base N g cl cn : Nat} {r : Rn} {pl pn : Option Addr} (h : RunO P w base N ⟨r, some ⟨g, 0, none⟩, N, pl, cl, pn, cn⟩) (j t : Nat) (hj : j < r.hs.length) (ht : t < 3) (v : Value) (q : Hd) (hg : ¬ P g)
  (hq : ∀ x : HdX, x.h = r.hs[j] → x.In P w → ∃ x' : HdX, x'.h = q ∧ x'.cells = x.cells.set t v ∧ x'.In P w) : RunO P (w.setCell ⟨g, j * 3 + t, none⟩ v) base N ⟨{ r with hs := r.hs.set j q }, some ⟨g, 0, none⟩, N, pl, cl, pn, cn⟩ := by
 have hk : KeepP P w (w.setCell ⟨g, j * 3 + t, none⟩ v) := KeepP.of_chg ((Chg.refl g w).set _ v) hg
 refine ⟨?_, h.cap, ?_, ?_, h.ls.keepP h.al hk, h.al, h.ns.keepP h.an hk, h.an⟩
 ·obtain ⟨g1, e1, h1, h2⟩ := h.g
  exact ⟨g1, e1, h1, by simpa using h2⟩
 ·have h1 := h.len
  show (r.hs.set j q).length = N
  rw [List.length_set]
  exact h1
 ·have h1 := h.hs.put1 j t hj ht v q hg hq
  show HsO P _ base (.slice (some ⟨g, 0, none⟩) (r.hs.set j q).length N) (r.hs.set j q)
  rw [List.length_set]
  exact h1
end Go.Proofs.Yteogdfpkcoodlaa
namespace Go.Proofs.Yteogdfpkcoodlaa
open Go.RowKit
set_option linter.unusedSimpArgs false in
set_option maxHeartbeats 4000000 in
set_option maxRecDepth 100000 in
theorem offered_any (w : World) (v : Value) (xss : List (List Lin)) (who : Int) (x : Lin) (hr : LL w v xss) (hn : xss.length ≤ 1000) (hs : ∀ o ∈ xss, SortN o ∧ o.length ≤ 2000) :
  Calls Try.prog 71 #[v, .int .i64 who, x.v] w fun e w' => e = .returned (.bool (offB xss who x)) ∧ Below w.heap.size w w' := by
 obtain ⟨p, c, rfl⟩ := hr.shape
 have HR := Lib.hid hr
 have HB := Lib.hid (oneB w (.cells #[.int .i64 x.s, .int .i64 x.n, .int .i64 x.b, .int .i64 x.a] 64))
 have HX := Lib.hid (Blk.new w #[.int .i64 x.s, .int .i64 x.n, .int .i64 x.b, .int .i64 x.a] 64)
 clear hr
 by_cases h0 : who < 0
 ·have HE : Hid (offB xss who x = false) := by show _ = _; unfold offB; apply decide_eq_false; omega
  clear hs
  generalize xss.length = n at *
  unfold Lin.v
  go_enter Try.func71, Try.ntmps71
  go_wp2_with fail
  go_ret
  exact ⟨by rw [HE.out]; rfl, HB.out⟩
 by_cases h1 : (xss.length : Int) ≤ who
 ·have HE : Hid (offB xss who x = false) := by show _ = _; unfold offB; apply decide_eq_false; omega
  have h0' : 0 ≤ who := by omega
  clear hs h0
  generalize xss.length = n at *
  unfold Lin.v
  go_enter Try.func71, Try.ntmps71
  go_wp2_with fail
  go_ret
  exact ⟨by rw [HE.out]; rfl, HB.out⟩
 have h0' : 0 ≤ who := by omega
 have h1' : who < (xss.length : Int) := by omega
 have hi : who.toNat < xss.length := by omega
 have hwr : IntKind.i64.wrap who = who := IntWalk.i64_in _ (by omega)
 clear h0 h1
 obtain ⟨b, o, u, rfl, hbl, hcu, hru⟩ := HR.out.at_ who.toNat hi
 have HO : Hid (offB xss who x = decide (x ∈ xss[who.toNat])) := by
  show _ = _
  unfold offB
  rw [List.getD_eq_getElem?_getD, List.getElem?_eq_getElem hi, Option.getD_some]
  simp only [h0', h1', true_and]
 obtain ⟨hso, hln⟩ := hs _ (List.getElem_mem hi)
 generalize xss[who.toNat] = ys at *
 obtain ⟨pu, cu, rfl⟩ := hru.shape
 obtain ⟨A, mid, B, hA⟩ := aroundF_of_sorted posN ⟨x.s, x.n, 0⟩ ys hso
 have HSR := Lib.hid (fun (W : World) (h : Below w.heap.size w W) => searchN_any W _ ys A mid B x (hru.kept h) hA hln)
 have HRU := Lib.hid hru
 have HA := Lib.hid hA
 unfold Lin.v at HSR
 obtain ⟨fd, hfd⟩ : ∃ fd, decide (mid ≠ []) = fd := ⟨_, rfl⟩
 rw [hfd] at HSR
 have HFD := Lib.hid hfd
 clear hfd
 unfold Lin.v
 clear hs hso hi hru hA
 generalize xss.length = n at *
 go_enter Try.func71, Try.ntmps71
 go_wp2_with fail
 have hcu1 := (HB.out.cell (p := ⟨b, o + who.toNat, none⟩) hbl).trans hcu
 have hbl1 := Nat.lt_of_lt_of_le hbl HB.out.size
 generalize hgx : w.heap.size = gx at *
 have HGX := Lib.hid hgx
 clear hcu hbl hgx
 generalize w.alloc (.cells #[.int .i64 x.s, .int .i64 x.n, .int .i64 x.b, .int .i64 x.a] 64) = W1 at *
 have x0 : W1.cell? ⟨gx, 0, none⟩ = some (.int .i64 x.s) := HX.out.cell 0
 have x1 : W1.cell? ⟨gx, 1, none⟩ = some (.int .i64 x.n) := HX.out.cell 1
 have x2 : W1.cell? ⟨gx, 2, none⟩ = some (.int .i64 x.b) := HX.out.cell 2
 have x3 : W1.cell? ⟨gx, 3, none⟩ = some (.int .i64 x.a) := HX.out.cell 3
 have hgl := HX.out.lt
 have hS1 : W1.drew.cell? ⟨b, o + who.toNat, none⟩ = some (.slice pu ys.length cu) ∧ W1.drew.cell? ⟨gx, 0, none⟩ = some (.int .i64 x.s) ∧ W1.drew.cell? ⟨gx, 1, none⟩ = some (.int .i64 x.n) ∧ W1.drew.cell? ⟨gx, 2, none⟩ = some (.int .i64 x.b) ∧ W1.drew.cell? ⟨gx, 3, none⟩ = some (.int .i64 x.a) := ⟨hcu1, x0, x1, x2, x3⟩
 have HS : Hid (∀ w', Below W1.heap.size W1 w' → w'.cell? ⟨b, o + who.toNat, none⟩ = some (.slice pu ys.length cu) ∧ w'.cell? ⟨gx, 0, none⟩ = some (.int .i64 x.s) ∧ w'.cell? ⟨gx, 1, none⟩ = some (.int .i64 x.n) ∧ w'.cell? ⟨gx, 2, none⟩ = some (.int .i64 x.b) ∧ w'.cell? ⟨gx, 3, none⟩ = some (.int .i64 x.a)) := fun w' h => ⟨(h.cell (p := ⟨b, _, none⟩) hbl1).trans hcu1, (h.cell (p := ⟨gx, 0, none⟩) hgl).trans x0, (h.cell (p := ⟨gx, 1, none⟩) hgl).trans x1, (h.cell (p := ⟨gx, 2, none⟩) hgl).trans x2, (h.cell (p := ⟨gx, 3, none⟩) hgl).trans x3⟩
 refine wp_region_held_drew (S := fun w' => w'.cell? ⟨b, o + who.toNat, none⟩ = some (.slice pu ys.length cu) ∧ w'.cell? ⟨gx, 0, none⟩ = some (.int .i64 x.s) ∧ w'.cell? ⟨gx, 1, none⟩ = some (.int .i64 x.n) ∧ w'.cell? ⟨gx, 2, none⟩ = some (.int .i64 x.b) ∧ w'.cell? ⟨gx, 3, none⟩ = some (.int .i64 x.a)) (by kernel_rfl) hS1 (fun hS0 => ?_)
 refine tkq 0 ?_
 refine tkq 1 ?_
 refine tkq 2 ?_
 refine tkq 3 ?_
 refine tkq 4 ?_
 refine rdq 5 (fun K hK => ?_)
 go_simp
 go_at_call 75
 refine (HSR.out W1.drew (by first | exact HB.out.drew | (rw [HGX.out]; exact HB.out.drew))).mono ?_
 rintro y w2 ⟨rfl, hb2⟩
 have HB2 := Lib.hid ((Below.refl W1.heap.size W1).drew.trans (hb2.mono (Nat.le_refl _)))
 clear hb2
 try go_wp2_with fail
 refine hK.out _ _ (HS.out w2 HB2.out) (fun hS => ?_)
 clear hK K
 try simp only [Act.put, List.getElem_toArray, List.getElem_cons_succ, List.getElem_cons_zero, List.setIfInBounds_toArray, List.set_cons_zero, List.set_cons_succ]
 refine tkq 6 ?_
 refine tkq 7 ?_
 refine tkq 8 ?_
 refine tkq 9 ?_
 refine tkq 10 ?_
 refine wpAnyH_done (by kernel_rfl) ?_ _
 have HBW := Lib.hid (HB.out.trans (HB2.out.mono (by have := HB.out.size; have := HGX.out; omega)))
 obtain ⟨hcu2, y0, y1, y2, y3⟩ := HS.out w2 HB2.out
 clear hcu1 x0 x1 x2 x3 hS1 HS hS0
 rcases HA.out.mid1 with hm | ⟨q, hm, hq⟩
 ·have HE : Hid (offB xss who x = false) := by
   show _ = _
   rw [HO.out]
   apply decide_eq_false
   rw [mem_around HA.out, hm]
   simp
  obtain rfl : fd = false := by rw [← HFD.out, hm]; rfl
  clear hm
  go_wp2_with fail
  refine wp_region_held_drew (S := fun w' => True) (by kernel_rfl) trivial (fun hS0 => ?_)
  refine tkq 0 ?_
  refine tkq 1 ?_
  refine tnq 2 ?_
  refine tnq 3 ?_
  refine tnq 4 ?_
  refine tnq 5 ?_
  refine tnq 6 ?_
  refine tnq 7 ?_
  refine tnq 8 ?_
  refine tnq 9 ?_
  refine tnq 10 ?_
  refine tkq 11 ?_
  refine tkq 12 ?_
  refine wpAnyH_done (by kernel_rfl) ?_ _
  go_wp2_with fail
  go_ret
  exact ⟨by rw [HE.out]; rfl, by first | exact HBW.out.drew | (rw [HGX.out]; exact HBW.out.drew)⟩
 ·have HE : Hid (offB xss who x = linEq q x) := by
   show _ = _
   rw [HO.out, linEq_dec, Bool.eq_iff_iff]
   simp only [decide_eq_true_eq]
   rw [mem_around HA.out, hm, List.mem_singleton]
   exact eq_comm
  obtain rfl : fd = true := by rw [← HFD.out, hm]; rfl
  have hAl : A.length < ys.length := by rw [HA.out.all, hm]; simp only [List.length_append, List.length_cons, List.length_nil]; omega
  have hget : ys[A.length] = q := by
   have e := HA.out.all
   rw [hm] at e
   subst e
   simp
  obtain ⟨bq, oq, e1, hblq, hcs⟩ := (HRU.out.kept (w' := w2) (by first | exact HBW.out | (rw [HGX.out]; exact HBW.out))).at_ A.length hAl
  subst e1
  rw [hget] at hcs
  have hAI : ((A.length : Nat) : Int) < (ys.length : Int) := by omega
  have hwA : IntKind.i64.wrap ((A.length : Nat) : Int) = ((A.length : Nat) : Int) := IntWalk.i64_in _ (by omega)
  have c0 : w2.cell? ⟨bq, oq + A.length * 4, none⟩ = some (.int .i64 q.s) := hcs 0 (by decide)
  have c1 : w2.cell? ⟨bq, oq + A.length * 4 + 1, none⟩ = some (.int .i64 q.n) := hcs 1 (by decide)
  have c2 : w2.cell? ⟨bq, oq + A.length * 4 + 2, none⟩ = some (.int .i64 q.b) := hcs 2 (by decide)
  have c3 : w2.cell? ⟨bq, oq + A.length * 4 + 3, none⟩ = some (.int .i64 q.a) := hcs 3 (by decide)
  have hS2 : w2.drew.cell? ⟨b, o + who.toNat, none⟩ = some (.slice (some ⟨bq, oq, none⟩) ys.length cu) ∧ w2.drew.cell? ⟨gx, 0, none⟩ = some (.int .i64 x.s) ∧ w2.drew.cell? ⟨gx, 1, none⟩ = some (.int .i64 x.n) ∧ w2.drew.cell? ⟨gx, 2, none⟩ = some (.int .i64 x.b) ∧ w2.drew.cell? ⟨gx, 3, none⟩ = some (.int .i64 x.a) ∧ w2.drew.cell? ⟨bq, oq + A.length * 4, none⟩ = some (.int .i64 q.s) ∧ w2.drew.cell? ⟨bq, oq + A.length * 4 + 1, none⟩ = some (.int .i64 q.n) ∧ w2.drew.cell? ⟨bq, oq + A.length * 4 + 2, none⟩ = some (.int .i64 q.b) ∧ w2.drew.cell? ⟨bq, oq + A.length * 4 + 3, none⟩ = some (.int .i64 q.a) := ⟨hcu2, y0, y1, y2, y3, c0, c1, c2, c3⟩
  have keq := fun (w : World) => line_eq q x w
  clear hm hget hcs c0 c1 c2 c3 hcu2 y0 y1 y2 y3 hq
  generalize A.length = Al at *
  go_wp2_with fail
  refine wp_region_held_drew (S := fun w' => w'.cell? ⟨b, o + who.toNat, none⟩ = some (.slice (some ⟨bq, oq, none⟩) ys.length cu) ∧ w'.cell? ⟨gx, 0, none⟩ = some (.int .i64 x.s) ∧ w'.cell? ⟨gx, 1, none⟩ = some (.int .i64 x.n) ∧ w'.cell? ⟨gx, 2, none⟩ = some (.int .i64 x.b) ∧ w'.cell? ⟨gx, 3, none⟩ = some (.int .i64 x.a) ∧ w'.cell? ⟨bq, oq + Al * 4, none⟩ = some (.int .i64 q.s) ∧ w'.cell? ⟨bq, oq + Al * 4 + 1, none⟩ = some (.int .i64 q.n) ∧ w'.cell? ⟨bq, oq + Al * 4 + 2, none⟩ = some (.int .i64 q.b) ∧ w'.cell? ⟨bq, oq + Al * 4 + 3, none⟩ = some (.int .i64 q.a)) (by kernel_rfl) hS2 (fun hS0 => ?_)
  refine tkq 0 ?_
  refine tkq 1 ?_
  refine tkq 2 ?_
  refine tkq 3 ?_
  refine tkq 4 ?_
  refine tkq 5 ?_
  refine tkq 6 ?_
  refine tkq 7 ?_
  refine tkq 8 ?_
  refine tkq 9 ?_
  refine tkq 10 ?_
  refine tkq 11 ?_
  refine tkq 12 ?_
  refine wpAnyH_done (by kernel_rfl) ?_ _
  clear keq
  go_wp2_with fail
  go_ret
  exact ⟨by rw [HE.out]; rfl, by first | exact HBW.out.drew | (rw [HGX.out]; exact HBW.out.drew)⟩
end Go.Proofs.Yteogdfpkcoodlaa
namespace Go.Proofs.Yteogdfpkcoodlaa
open Go.RowKit
theorem filt_succ {p : Lin → Bool} {ys : List Lin} {j : Nat} (hj : j < ys.length) : (ys.take (j + 1)).filter p = (ys.take j).filter p ++ (if p ys[j] then [ys[j]] else []) := by
 rw [List.take_succ_eq_append_getElem hj, List.filter_append]
 congr 1
 cases h : p ys[j] <;> simp [h]
set_option linter.unusedSimpArgs false in
set_option maxHeartbeats 4000000 in
set_option maxRecDepth 100000 in
theorem both_any (w : World) (v : Value) (xss : List (List Lin)) (hr : LL w v xss) (hn : xss.length ≤ 1000) (hs : ∀ o ∈ xss, SortN o ∧ o.length ≤ 60) :
  Calls Try.prog 65 #[v] w fun e w' => ∃ v', e = .returned v' ∧ OwnT encN w' w.heap.size 64 v' (bothL xss xss.length) ∧ Below w.heap.size w w' := by
 obtain ⟨p, c, rfl⟩ := hr.shape
 have HR := Lib.hid hr
 have HS := Lib.hid hs
 clear hr hs
 have HBL := Lib.hid (bothL_len xss (fun o ho => (HS.out o ho).2))
 generalize hl : xss.length = n at *
 have HL := Lib.hid hl
 clear hl
 have HOF := Lib.hid (fun (W : World) (h : Below w.heap.size w W) (who : Int) (x : Lin) => offered_any W _ xss who x (HR.out.kept h) (by rw [HL.out]; exact hn) (fun o ho => ⟨(HS.out o ho).1, by have := (HS.out o ho).2; omega⟩))
 unfold Lin.v at HOF
 have HREL : Hid (OwnT encN w w.heap.size 64 (.slice none 0 0) (bothL xss 0) ∧ Below w.heap.size w w) := ⟨OwnT.nil_ _ _ _ _, Below.refl _ _⟩
 go_enter Try.func65, Try.ntmps65
 go_wp2_with fail
 go_loopw [3, 10] (fun v i wr => ∃ k : Nat, k ≤ n ∧ i = .int .i64 k ∧ Hid (OwnT encN wr w.heap.size 64 v (bothL xss k) ∧ Below w.heap.size w wr)) (fun _ i _ => n - (intOf i).toNat)
 case atStart => exact ⟨0, by omega, rfl, HREL⟩
 case round =>
  clear HREL
  obtain ⟨k, hk, rfl, HK⟩ := hrel
  by_cases hlt : k < n
  ·have hkl : k < xss.length := by rw [HL.out]; exact hlt
   have hltI : (k : Int) < (n : Int) := by omega
   obtain ⟨b, o, u, rfl, hbl, hcu0, hru⟩ := HR.out.at_ k hkl
   have hcu := (HK.out.2.cell (p := ⟨b, o + k, none⟩) hbl).trans hcu0
   clear hcu0
   have hys := HS.out _ (List.getElem_mem hkl)
   have HPK : Hid (partL xss k = xss[k].filter (bothF xss k)) := by show _ = _; unfold partL; rw [List.getD_eq_getElem?_getD, List.getElem?_eq_getElem hkl, Option.getD_some]
   generalize xss[k] = ys at *
   obtain ⟨pu, cu, rfl⟩ := hru.shape
   have HRU := Lib.hid hru
   have HYS := Lib.hid hys
   have hyl := hys.2
   have HK60 := Lib.hid (HBL.out k)
   obtain ⟨ho1, hw1⟩ := HK.out
   obtain ⟨pa, ca, hva⟩ := ho1.form
   generalize (bothL xss k).length = na at hva
   subst hva
   generalize wr = W2 at *
   have HREL2 : Hid (OwnT encN W2 w.heap.size 64 (.slice pa na ca) (bothL xss k ++ (ys.take 0).filter (bothF xss k)) ∧ Below w.heap.size w W2) := ⟨by simpa using ho1, hw1⟩
   clear hru hys ho1 hw1 HK
   generalize hly : ys.length = ny at *
   have HLY := Lib.hid hly
   clear hly
   go_wp2_with fail
   go_loopw [3, 17] (fun v i wr => ∃ j : Nat, j ≤ ny ∧ i = .int .i64 j ∧ Hid (OwnT encN wr w.heap.size 64 v (bothL xss k ++ (ys.take j).filter (bothF xss k)) ∧ Below w.heap.size w wr)) (fun _ i _ => ny - (intOf i).toNat)
   case atStart => exact ⟨0, by omega, rfl, HREL2⟩
   case round =>
    obtain ⟨j, hj, rfl, HJ⟩ := hrel
    clear HREL2
    by_cases hltj : j < ny
    ·have hjl : j < ys.length := by rw [HLY.out]; exact hltj
     have hltJ : (j : Int) < (ny : Int) := by omega
     have HFS := Lib.hid (filt_succ (p := bothF xss k) hjl)
     obtain ⟨b2, o2, rfl, hb2l, hcs⟩ := (HRU.out.kept HJ.out.2).at_ j hjl
     generalize ys[j] = x at *
     have c0 : wr.cell? ⟨b2, o2 + j * 4, none⟩ = some (.int .i64 x.s) := hcs 0 (by decide)
     have c1 : wr.cell? ⟨b2, o2 + j * 4 + 1, none⟩ = some (.int .i64 x.n) := hcs 1 (by decide)
     have c2 : wr.cell? ⟨b2, o2 + j * 4 + 2, none⟩ = some (.int .i64 x.b) := hcs 2 (by decide)
     have c3 : wr.cell? ⟨b2, o2 + j * 4 + 3, none⟩ = some (.int .i64 x.a) := hcs 3 (by decide)
     obtain ⟨ho1, hw1⟩ := HJ.out
     obtain ⟨pz, cz, hvz⟩ := ho1.form
     have HZL : Hid ((bothL xss k ++ (ys.take j).filter (bothF xss k)).length ≤ 70000) := by
      show _ ≤ _
      have h1 := HK60.out
      have h2 := List.length_filter_le (bothF xss k) (ys.take j)
      rw [List.length_take] at h2
      rw [List.length_append]
      omega
     generalize hz : bothL xss k ++ (ys.take j).filter (bothF xss k) = zs at *
     generalize hm : zs.length = m at *
     subst hvz
     have HMZ := Lib.hid hm
     have HO := Lib.hid (ho1.later (oneB wr (.cells #[.int .i64 x.s, .int .i64 x.n, .int .i64 x.b, .int .i64 x.a] 64)))
     have HX := Lib.hid (Blk.new wr #[.int .i64 x.s, .int .i64 x.n, .int .i64 x.b, .int .i64 x.a] 64)
     have HW := Lib.hid (hw1.trans ((oneB wr (.cells #[.int .i64 x.s, .int .i64 x.n, .int .i64 x.b, .int .i64 x.a] 64)).mono hw1.size))
     have HZZ := Lib.hid hz
     have hm7 : m ≤ 70000 := HZL.out
     clear ho1 hw1 HJ hcs hz hm
     by_cases hsk : x.s = (k : Int)
     ·have e1 : (x.s == (k : Int)) = true := by simpa using hsk
      have HBF : Hid (bothF xss k x = offB xss x.b x) := by show _ = _; unfold bothF; rw [decide_eq_true hsk, Bool.true_and]
      clear hsk
      go_wp2_with fail
      generalize wr.alloc (.cells #[.int .i64 x.s, .int .i64 x.n, .int .i64 x.b, .int .i64 x.a] 64) = W3 at *
      generalize wr.heap.size = gx at *
      refine (HOF.out W3 HW.out x.b x).mono ?_
      rintro y w2 ⟨rfl, hb2⟩
      have HO2 := Lib.hid (HO.out.later hb2)
      have HX2 := kbq HX hb2
      have HW2 := ktq HW hb2
      clear hb2 HO HX HW c0 c1 c2 c3
      obtain ⟨fb, hfb⟩ : ∃ fb, offB xss x.b x = fb := ⟨_, rfl⟩
      rw [hfb] at HBF ⊢
      clear hfb
      cases fb
      ·have HNX : Hid (OwnT encN w2 w.heap.size 64 (.slice pz m cz) (bothL xss k ++ (ys.take (j + 1)).filter (bothF xss k)) ∧ Below w.heap.size w w2) := ⟨by rw [HFS.out, HBF.out, if_neg (by decide), List.append_nil, HZZ.out]; exact HO2.out, HW2.out⟩
       clear HFS HBF
       go_wp2_with fail
       go_roundw
       case rel => exact ⟨j + 1, by omega, by go_num, HNX⟩
       case measure => simp [intOf]; omega
      ·have HFY : Hid (bothL xss k ++ (ys.take (j + 1)).filter (bothF xss k) = zs ++ [x]) := by show _ = _; rw [HFS.out, HBF.out, if_pos rfl, ← List.append_assoc, HZZ.out]
       have x0 : w2.cell? ⟨gx, 0, none⟩ = some (.int .i64 x.s) := HX2.out.cell 0
       have x1 : w2.cell? ⟨gx, 1, none⟩ = some (.int .i64 x.n) := HX2.out.cell 1
       have x2 : w2.cell? ⟨gx, 2, none⟩ = some (.int .i64 x.b) := HX2.out.cell 2
       have x3 : w2.cell? ⟨gx, 3, none⟩ = some (.int .i64 x.a) := HX2.out.cell 3
       clear HFS HBF
       go_wp2_with (at_builtin; with_reducible refine stop_appendIN (.tmp 33) (.tmp 35) 33 rfl ?_)
       refine wpList_append_t rfl (.tmp 33) (.tmp 35) 33 rfl 64 zeroVNc 32 w.heap.size eltNc rfl (by decide) (.slice pz m cz) (.slice (some ⟨w2.heap.size, 0, none⟩) 1 1) zs [x] rfl rfl (HO2.out.later (oneB w2 (.cells #[.int .i64 x.s, .int .i64 x.n, .int .i64 x.b, .int .i64 x.a] 64))) (TRow.one_ encN x (Blk.new w2 #[.int .i64 x.s, .int .i64 x.n, .int .i64 x.b, .int .i64 x.a] 64) rfl (Nat.le_refl _)) (by have := HMZ.out; simp; omega) (by have := HW2.out.size; simp at this ⊢; omega) (zs ++ [x]) (m + 1) rfl (by rw [List.length_append, HMZ.out]; rfl) ?_
       intro p9 c9 w3 ho3 _ hb3
       have HNX : Hid (OwnT encN w3 w.heap.size 64 (.slice p9 (m + 1) c9) (bothL xss k ++ (ys.take (j + 1)).filter (bothF xss k)) ∧ Below w.heap.size w w3) := ⟨by rw [HFY.out]; exact ho3, HW2.out.trans (((Below.refl _ w2).alloc HW2.out.size _).trans hb3)⟩
       clear ho3 hb3
       go_wp2_with fail
       go_roundw
       case rel => exact ⟨j + 1, by omega, by go_num, HNX⟩
       case measure => simp [intOf]; omega
     ·have e1 : (x.s == (k : Int)) = false := by simpa using hsk
      have HNX : Hid (OwnT encN (wr.alloc (.cells #[.int .i64 x.s, .int .i64 x.n, .int .i64 x.b, .int .i64 x.a] 64)) w.heap.size 64 (.slice pz m cz) (bothL xss k ++ (ys.take (j + 1)).filter (bothF xss k)) ∧ Below w.heap.size w (wr.alloc (.cells #[.int .i64 x.s, .int .i64 x.n, .int .i64 x.b, .int .i64 x.a] 64))) := ⟨by rw [HFS.out, show bothF xss k x = false by unfold bothF; rw [decide_eq_false hsk]; rfl, if_neg (by decide), List.append_nil, HZZ.out]; exact HO.out, HW.out⟩
      clear hsk HFS
      go_wp2_with fail
      go_roundw
      case rel => exact ⟨j + 1, by omega, by go_num, HNX⟩
      case measure => simp [intOf]; omega
    ·have hle : (ny : Int) ≤ (j : Int) := by omega
     have hjn : j = ys.length := by rw [HLY.out]; omega
     have HK2 := HJ.out
     rw [hjn, List.take_length, ← HPK.out, ← bothL_succ] at HK2
     have HNK : Hid (OwnT encN wr w.heap.size 64 _ (bothL xss (k + 1)) ∧ Below w.heap.size w wr) := ⟨HK2.1, HK2.2⟩
     clear hjn HK2 HJ
     go_wp2_with fail
     go_roundw
     case rel => exact ⟨k + 1, by omega, by go_num, HNK⟩
     case measure => simp [intOf]; omega
  ·have hle : (n : Int) ≤ (k : Int) := by omega
   obtain rfl : k = n := by omega
   have HF := Lib.hid HK.out
   obtain ⟨pa, ca, hva⟩ := HF.out.1.form
   generalize (bothL xss k).length = na at hva
   subst hva
   clear HK
   go_wp2_with fail
   go_ret
   exact ⟨_, rfl, HF.out.1, HF.out.2⟩
end Go.Proofs.Yteogdfpkcoodlaa
namespace Go.Proofs.Yteogdfpkcoodlaa
open Go.RowKit
theorem eltAc : Elt Try.prog 34 2 .i64 8 := by
 have ht := Try.underlying34
 have h : (Try.prog.info? 2).map (fun i => (i.zero, i.size, i.bytes)) = some (some (.int .i64 0), 1, 8) := by kernel_rfl
 cases hi : Try.prog.info? 2 with
 | none => rw [hi] at h; cases h
 | some i =>
  rw [hi] at h
  simp only [Option.map_some, Option.some.injEq, Prod.mk.injEq] at h
  exact ⟨i, ht, hi, h.1, h.2.1, h.2.2⟩
theorem Row.atc {k : IntKind} {w : World} {p : Option Addr} {n c : Nat} {zs : List Int} (h : Row k w (.slice p n c) zs) (i : Nat) (hi : i < zs.length) : ∃ b o, p = some ⟨b, o, none⟩ ∧ b < w.heap.size ∧ w.cell? ⟨b, o + i, none⟩ = some (.int k (zs.getD i 0)) := by
 obtain ⟨p', c', e1, _, h⟩ := h
 cases e1
 rcases h with h | ⟨b, o, hp, h⟩
 ·subst h; simp at hi
 ·exact ⟨b, o, hp, World.block_lt_of_cell? w _ (h i hi), h i hi⟩
theorem eq_of_getD {a b : List Int} (hl : a.length = b.length) (h : ∀ j, j < a.length → a.getD j 0 = b.getD j 0) : a = b := by
 apply List.ext_getElem hl
 intro i h1 h2
 have := h i h1
 rwa [List.getD_eq_getElem?_getD, List.getElem?_eq_getElem h1, List.getD_eq_getElem?_getD, List.getElem?_eq_getElem h2] at this
def NRel (W2 : World) (me : Int) (ys : List Lin) (k : Nat) (v : Value) (wr : World) : Prop := Own .i64 wr W2.heap.size 2 v ((ys.take k).map (gives me)) ∧ Below W2.heap.size W2 wr
set_option linter.unusedSimpArgs false in
set_option maxHeartbeats 4000000 in
set_option maxRecDepth 100000 in
theorem net_any (w : World) (me : Int) (v : Value) (xs : List Lin) (hr : TRow encN w v xs) (hn : xs.length ≤ 2000) (ha : ∀ x ∈ xs, 1 ≤ x.a ∧ x.a ≤ 1125899906842624) :
  Calls Try.prog 72 #[.int .i64 me, v] w fun e w' => e = .returned (.tuple #[.int .i64 (netS me xs), .int .i64 0]) ∧ Below w.heap.size w w' := by
 obtain ⟨ys, hys⟩ : ∃ ys, mineL me xs = ys := ⟨_, rfl⟩
 have hM := mine_any w me v xs hr hn
 have HS : Hid (netS me xs = (ys.map (gives me)).sum) := by show _ = _; unfold netS netL; rw [hys]
 have ha : ∀ x ∈ ys, 1 ≤ x.a ∧ x.a ≤ 1125899906842624 := fun x hx => by rw [← hys] at hx; exact ha x (List.mem_filter.1 hx).1
 have hn : ys.length ≤ 2000 := by rw [← hys]; exact Nat.le_trans (List.length_filter_le _ _) hn
 rw [hys] at hM
 clear hys
 have hsm : ∀ z ∈ ys.map (gives me), -1125899906842624 ≤ z ∧ z ≤ 1125899906842624 := fun z hz => by
  obtain ⟨x, hx, rfl⟩ := List.mem_map.1 hz
  have := ha x hx
  unfold gives
  split <;> constructor <;> omega
 have H64 : Hid (All64 (ys.map (gives me))) := fun z hz => by have := hsm z hz; omega
 have HFT : Hid (Fits (ys.map (gives me)).sum) := by
  have h1 := sum_small hsm
  rw [List.length_map] at h1
  have h3 : (1125899906842624 : Int) * (ys.length : Int) ≤ 1125899906842624 * 2000 := Int.mul_le_mul_of_nonneg_left (by omega) (by omega)
  show Fits _
  unfold Fits
  omega
 have HSU : Hid (∀ W v, Row .i64 W v (ys.map (gives me)) → Calls Try.prog 76 #[v] W (SumTo (ys.map (gives me)).sum W)) := fun W v h => sum_any v _ W (by rw [List.length_map]; omega) H64.out h
 have HM := Lib.hid hM
 have HA := Lib.hid ha
 obtain ⟨pv, cv, hv⟩ := hr.shape
 generalize xs.length = nx at hv
 subst hv
 clear ha hM H64 hsm hr
 generalize hl : ys.length = n at *
 have HL := Lib.hid hl
 clear hl
 go_enter Try.func72, Try.ntmps72
 go_wp2_with fail
 refine HM.out.mono ?_
 rintro y W2 ⟨v1, rfl, ho1, hb1⟩
 obtain ⟨p1, c1, hv1⟩ := ho1.form
 rw [HL.out] at hv1
 subst hv1
 have HR := Lib.hid ho1.row
 have HB2 := Lib.hid hb1
 clear ho1 hb1 HM
 have HREL : Hid (NRel W2 me ys 0 (.slice none 0 0) W2) := ⟨Own.nil_ _ _ _ _, Below.refl _ _⟩
 go_wp2_with fail
 go_loopw [6, 13] (fun v i wr => ∃ k : Nat, k ≤ n ∧ i = .int .i64 k ∧ Hid (NRel W2 me ys k v wr)) (fun _ i _ => n - (intOf i).toNat)
 case atStart => exact ⟨0, by omega, rfl, HREL⟩
 case round =>
  obtain ⟨k, hk, rfl, HK⟩ := hrel
  clear HREL
  by_cases hlt : k < n
  ·have hkl : k < ys.length := by rw [HL.out]; exact hlt
   have hltI : (k : Int) < (n : Int) := by omega
   have HTK : Hid (ys.take (k + 1) = ys.take k ++ [ys[k]]) := List.take_succ_eq_append_getElem hkl
   obtain ⟨b, o, rfl, hbl, hcs⟩ := (HR.out.kept HK.out.2).at_ k hkl
   have hax := HA.out _ (List.getElem_mem hkl)
   generalize ys[k] = x at *
   have c0 : wr.cell? ⟨b, o + k * 4, none⟩ = some (.int .i64 x.s) := hcs 0 (by decide)
   have c1 : wr.cell? ⟨b, o + k * 4 + 1, none⟩ = some (.int .i64 x.n) := hcs 1 (by decide)
   have c2 : wr.cell? ⟨b, o + k * 4 + 2, none⟩ = some (.int .i64 x.b) := hcs 2 (by decide)
   have c3 : wr.cell? ⟨b, o + k * 4 + 3, none⟩ = some (.int .i64 x.a) := hcs 3 (by decide)
   have HSUC : Hid ((ys.take (k + 1)).map (gives me) = (ys.take k).map (gives me) ++ [gives me x]) := by
    show _ = _
    rw [HTK.out, List.map_append]; rfl
   have HZL : Hid (((ys.take k).map (gives me)).length ≤ 2000) := by show _ ≤ _; rw [List.length_map, List.length_take]; omega
   obtain ⟨ho1, hw1⟩ := HK.out
   obtain ⟨p2, c2, hv2⟩ := ho1.form
   generalize hz : (ys.take k).map (gives me) = zs at *
   generalize hm : zs.length = m at *
   subst hv2
   have hm2 : m ≤ 2000 := HZL.out
   have HMZ := Lib.hid hm
   have HO1 := Lib.hid (ho1.alloc (.cells #[.int .i64 x.s, .int .i64 x.n, .int .i64 x.b, .int .i64 x.a] 64))
   have HBR := Lib.hid hw1
   have HSZ : Hid (W2.heap.size ≤ wr.heap.size) := hw1.size
   clear ho1 hw1 HK hz hm HTK hcs
   by_cases hs : x.s = me
   ·have e1 : (x.s == me) = true := by simpa using hs
    have HAM : Hid (gives me x = x.a) := if_pos hs
    rw [HAM.out] at HSUC
    clear hs
    go_wp2_with (at_builtin; with_reducible refine stop_appendIN (.tmp 22) (.tmp 25) 34 rfl ?_)
    refine wpList_append_row rfl (.tmp 22) (.tmp 25) 34 rfl 2 .i64 8 W2.heap.size eltAc (.slice p2 m c2) (.slice (some ⟨wr.heap.size + 1, 0, none⟩) 1 1) zs [x.a] rfl rfl (HO1.out.alloc (.cells #[.int .i64 (x.a)] 2)) ⟨some ⟨wr.heap.size + 1, 0, none⟩, 1, rfl, Nat.le_refl _, .inr ⟨wr.heap.size + 1, 0, rfl, fun i hi => ?_⟩⟩ (by have := HMZ.out; simp; omega) (by have := HMZ.out; simp; omega) (by have := HSZ.out; simp at this ⊢; omega) (zs ++ [x.a]) (m + 1) rfl (by rw [List.length_append, HMZ.out]; rfl) ?_
    ·obtain rfl : i = 0 := by simp at hi; omega
     exact (Blk.new' (wr.alloc (.cells #[.int .i64 x.s, .int .i64 x.n, .int .i64 x.b, .int .i64 x.a] 64)) #[.int .i64 (x.a)] 2 (b := wr.heap.size + 1) (by simp)).cell 0
    intro p3 c3 w3 ho3 hb3
    have HNX : Hid (NRel W2 me ys (k + 1) (.slice p3 (m + 1) c3) w3) := ⟨by rw [HSUC.out]; exact ho3, HBR.out.trans ((((Below.refl _ wr).alloc HSZ.out _).alloc (by have := HSZ.out; simp; omega) _).trans hb3)⟩
    clear ho3 hb3
    go_wp2_with fail
    go_roundw
    case rel => exact ⟨k + 1, by omega, by go_num, HNX⟩
    case measure => simp [intOf]; omega
   ·have e1 : (x.s == me) = false := by simpa using hs
    have HAM : Hid (gives me x = -x.a) := if_neg hs
    rw [HAM.out] at HSUC
    clear hs
    go_wp2_with (at_builtin; with_reducible refine stop_appendIN (.tmp 27) (.tmp 31) 34 rfl ?_)
    refine wpList_append_row rfl (.tmp 27) (.tmp 31) 34 rfl 2 .i64 8 W2.heap.size eltAc (.slice p2 m c2) (.slice (some ⟨wr.heap.size + 1, 0, none⟩) 1 1) zs [-x.a] rfl rfl (HO1.out.alloc (.cells #[.int .i64 (-x.a)] 2)) ⟨some ⟨wr.heap.size + 1, 0, none⟩, 1, rfl, Nat.le_refl _, .inr ⟨wr.heap.size + 1, 0, rfl, fun i hi => ?_⟩⟩ (by have := HMZ.out; simp; omega) (by have := HMZ.out; simp; omega) (by have := HSZ.out; simp at this ⊢; omega) (zs ++ [-x.a]) (m + 1) rfl (by rw [List.length_append, HMZ.out]; rfl) ?_
    ·obtain rfl : i = 0 := by simp at hi; omega
     exact (Blk.new' (wr.alloc (.cells #[.int .i64 x.s, .int .i64 x.n, .int .i64 x.b, .int .i64 x.a] 64)) #[.int .i64 (-x.a)] 2 (b := wr.heap.size + 1) (by simp)).cell 0
    intro p3 c3 w3 ho3 hb3
    have HNX : Hid (NRel W2 me ys (k + 1) (.slice p3 (m + 1) c3) w3) := ⟨by rw [HSUC.out]; exact ho3, HBR.out.trans ((((Below.refl _ wr).alloc HSZ.out _).alloc (by have := HSZ.out; simp; omega) _).trans hb3)⟩
    clear ho3 hb3
    go_wp2_with fail
    go_roundw
    case rel => exact ⟨k + 1, by omega, by go_num, HNX⟩
    case measure => simp [intOf]; omega
  ·have hle : (n : Int) ≤ (k : Int) := by omega
   have hkn : k = ys.length := by rw [HL.out]; omega
   have hK := HK.out
   rw [hkn] at hK
   unfold NRel at hK
   rw [List.take_length] at hK
   have HSM := Lib.hid (HSU.out _ _ hK.1.row)
   have HW := Lib.hid (HB2.out.trans (hK.2.mono HB2.out.size))
   clear HK hK hkn
   go_wp2_with fail
   refine HSM.out.mono ?_
   rintro y w3 ⟨rfl, rfl⟩
   rw [sumN_yes HFT.out, sumE_yes HFT.out, ← HS.out]
   go_wp2_with fail
   go_ret2
   exact ⟨rfl, HW.out⟩
/-- What Nets answers. -/
def netsE (n : Int) (xs : List Lin) : Int := if n < 0 ∨ 8 < n then 1 else fitE n xs
def netsV (n : Int) (xs : List Lin) : List Int := if netsE n xs = 0 then netsL n.toNat xs else []
theorem netsL_succ (k : Nat) (xs : List Lin) : netsL (k + 1) xs = netsL k xs ++ [netS (k : Int) xs] := by
 unfold netsL
 rw [List.range_succ, List.map_append]
 rfl
theorem netsL_len (k : Nat) (xs : List Lin) : (netsL k xs).length = k := by unfold netsL; simp
theorem netsV_len_le (n : Int) (xs : List Lin) : (netsV n xs).length ≤ 8 := by
 unfold netsV
 split
 ·rename_i h
  rw [netsL_len]
  unfold netsE at h
  split at h
  ·cases h
  ·omega
 ·simp
def NsRel (w : World) (xs : List Lin) (k : Nat) (v : Value) (wr : World) : Prop := Own .i64 wr w.heap.size 2 v (netsL k xs) ∧ Below w.heap.size w wr
theorem within_a {n : Int} {x : Lin} (h : withinB n x = true) : 1 ≤ x.a ∧ x.a ≤ 1125899906842624 := by
 unfold withinB at h
 have := of_decide_eq_true h
 omega
set_option linter.unusedSimpArgs false in
set_option maxHeartbeats 4000000 in
set_option maxRecDepth 100000 in
theorem lnets_any (w : World) (N : Int) (v : Value) (xs : List Lin) (hr : TRow encN w v xs) (hn : xs.length ≤ 2000) :
  Calls Try.prog 66 #[.int .i64 N, v] w fun e w' => ∃ v', e = .returned (.tuple #[v', .int .i64 (netsE N xs)]) ∧ Own .i64 w' w.heap.size 2 v' (netsV N xs) ∧ Below w.heap.size w w' := by
 have HF := Lib.hid (fun W (h : Below w.heap.size w W) => lfits_any W N v xs (hr.kept h) (by omega))
 obtain ⟨pv, cv, hv⟩ := hr.shape
 have HR := Lib.hid hr
 have HN := Lib.hid hn
 generalize xs.length = nx at hv
 subst hv
 clear hr hn
 by_cases h0 : N < 0
 ·have HE : Hid (netsE N xs = 1) := if_pos (.inl h0)
  have HV : Hid (netsV N xs = []) := by show _ = _; unfold netsV; rw [HE.out, if_neg (by decide)]
  go_enter Try.func66, Try.ntmps66
  go_wp2_with fail
  go_ret2
  exact ⟨_, by rw [HE.out]; rfl, by rw [HV.out]; exact Own.nil_ _ _ _ _, Below.refl _ _⟩
 by_cases h8 : 8 < N
 ·have HE : Hid (netsE N xs = 1) := if_pos (.inr h8)
  have HV : Hid (netsV N xs = []) := by show _ = _; unfold netsV; rw [HE.out, if_neg (by decide)]
  go_enter Try.func66, Try.ntmps66
  go_wp2_with fail
  go_ret2
  exact ⟨_, by rw [HE.out]; rfl, by rw [HV.out]; exact Own.nil_ _ _ _ _, Below.refl _ _⟩
 have HE : Hid (netsE N xs = fitE N xs) := if_neg (by omega)
 have h0' : 0 ≤ N := by omega
 have h8' : N ≤ 8 := by omega
 by_cases hf : fitE N xs = 0
 ·have HV : Hid (netsV N xs = netsL N.toNat xs) := by show _ = _; unfold netsV; rw [HE.out, hf, if_pos rfl]
  have HFZ := Lib.hid hf
  have HA : Hid (∀ x ∈ xs, 1 ≤ x.a ∧ x.a ≤ 1125899906842624) := fun x hx => within_a (fit_within hf x hx)
  obtain ⟨n, rfl⟩ : ∃ n : Nat, N = (n : Int) := ⟨N.toNat, by omega⟩
  have hn8 : n ≤ 8 := by omega
  have HNT : Hid (((n : Nat) : Int).toNat = n) := by show _ = _; omega
  have HNE := Lib.hid (fun (k : Nat) (W : World) (h : Below w.heap.size w W) => net_any W (k : Int) _ xs (HR.out.kept h) HN.out HA.out)
  have HREL : Hid (NsRel w xs 0 (.slice none 0 0) w) := ⟨Own.nil_ _ _ _ _, Below.refl _ _⟩
  clear hf h0 h8 h0' h8'
  go_enter Try.func66, Try.ntmps66
  go_wp2_with fail
  refine (HF.out w (Below.refl _ _)).mono ?_
  rintro y w1 ⟨rfl, hb1⟩
  rw [HFZ.out]
  have HB1 := Lib.hid hb1
  have HREL : Hid (NsRel w xs 0 (.slice none 0 0) w1) := ⟨Own.nil_ _ _ _ _, hb1⟩
  clear hb1
  go_wp2_with fail
  go_loopw [7, 24] (fun v i wr => ∃ k : Nat, k ≤ n ∧ i = .int .i64 k ∧ Hid (NsRel w xs k v wr)) (fun _ i _ => n - (intOf i).toNat)
  case atStart => exact ⟨0, by omega, rfl, HREL⟩
  case round =>
   obtain ⟨k, hk, rfl, HK⟩ := hrel
   clear HREL
   by_cases hlt : k < n
   ·have hltI : (k : Int) < (n : Int) := by omega
    obtain ⟨ho1, hw1⟩ := HK.out
    obtain ⟨p2, c2, hv2⟩ := ho1.form
    rw [netsL_len] at hv2
    subst hv2
    have HO := Lib.hid ho1
    have HW := Lib.hid hw1
    clear ho1 hw1 HK
    go_wp2_with fail
    refine (HNE.out k wr HW.out).mono ?_
    rintro y w2 ⟨rfl, hb2⟩
    have HO2 := Lib.hid (HO.out.later hb2)
    have HW2 := ktq HW hb2
    have HSU := Lib.hid (netsL_succ k xs)
    have HKL := Lib.hid (netsL_len k xs)
    generalize netS (k : Int) xs = z at *
    generalize netsL k xs = zs at *
    clear hb2
    go_wp2_with (at_builtin; with_reducible refine stop_appendIN (.tmp 36) (.tmp 38) 34 rfl ?_)
    refine wpList_append_row rfl (.tmp 36) (.tmp 38) 34 rfl 2 .i64 8 w.heap.size eltAc (.slice p2 k c2) (.slice (some ⟨w2.heap.size, 0, none⟩) 1 1) zs [z] rfl rfl (HO2.out.alloc (.cells #[.int .i64 z] 2)) ⟨some ⟨w2.heap.size, 0, none⟩, 1, rfl, Nat.le_refl _, .inr ⟨w2.heap.size, 0, rfl, fun i hi => ?_⟩⟩ (by have := HKL.out; simp; omega) (by have := HKL.out; simp; omega) (by have := HW2.out.size; simp at this ⊢; omega) (zs ++ [z]) (k + 1) rfl (by rw [List.length_append, HKL.out]; rfl) ?_
    ·obtain rfl : i = 0 := by simp at hi; omega
     exact (Blk.new' w2 #[.int .i64 z] 2 rfl).cell 0
    intro p3 c3 w3 ho3 hb3
    have HNX : Hid (NsRel w xs (k + 1) (.slice p3 (k + 1) c3) w3) := ⟨by rw [HSU.out]; exact ho3, HW2.out.trans (((Below.refl _ w2).alloc HW2.out.size _).trans hb3)⟩
    clear ho3 hb3
    go_wp2_with fail
    go_roundw
    case rel => exact ⟨k + 1, by omega, by go_num, HNX⟩
    case measure => simp [intOf]; omega
   ·have hle : (n : Int) ≤ (k : Int) := by omega
    obtain rfl : k = n := by omega
    obtain ⟨ho1, hw1⟩ := HK.out
    obtain ⟨p2, c2, hv2⟩ := ho1.form
    rw [netsL_len] at hv2
    subst hv2
    have HO := Lib.hid ho1
    have HW := Lib.hid hw1
    clear ho1 hw1 HK
    go_wp2_with fail
    go_ret2
    exact ⟨_, by rw [HE.out, HFZ.out]; rfl, by rw [HV.out, HNT.out]; exact HO.out, HW.out⟩
 ·have HV : Hid (netsV N xs = []) := by show _ = _; unfold netsV; rw [HE.out, if_neg hf]
  obtain ⟨E, hE⟩ : ∃ E, fitE N xs = E := ⟨_, rfl⟩
  have HEE := Lib.hid hE
  rw [hE] at hf HE
  have e1 : (E != 0) = true := by simpa using hf
  clear hf h0 h8 hE
  go_enter Try.func66, Try.ntmps66
  go_wp2_with fail
  refine (HF.out w (Below.refl _ _)).mono ?_
  rintro y w1 ⟨rfl, hb1⟩
  rw [HEE.out]
  have HB1 := Lib.hid hb1
  clear hb1
  go_wp2_with fail
  go_ret2
  exact ⟨_, by rw [HE.out]; rfl, by rw [HV.out]; exact Own.nil_ _ _ _ _, HB1.out⟩
end Go.Proofs.Yteogdfpkcoodlaa
namespace Go.Proofs.Yteogdfpkcoodlaa
open Go.RowKit
set_option linter.unusedSimpArgs false
/-- A list of lines, as it lies in one cell. -/
structure LnX where
 p : Option Addr
 c : Nat
 ls : List Lin
def encL : Enc LnX := ⟨1, fun x => [.slice x.p x.ls.length x.c], by decide, fun _ => rfl, by
 intro y u hu
 rw [List.mem_singleton] at hu
 subst hu
 rfl⟩
theorem eltL : EltT encL Try.prog 93 33 (.slice none 0 0) 24 := eltT_mk Try.underlying93 (by kernel_rfl)
def HdX.ln (x : HdX) : LnX := ⟨x.p, x.c, x.h.ls⟩
def RecR (W : World) (ys : List HdX) (k : Nat) (v : Value) (wr : World) : Prop := OwnT encL wr W.heap.size 33 v ((ys.take k).map HdX.ln) ∧ Below W.heap.size W wr
theorem LL.of_own {P : Nat → Prop} {w : World} {base : Nat} {v : Value} {ys : List HdX} (h : OwnT encL w base 33 v (ys.map HdX.ln)) (hi : ∀ y ∈ ys, y.In P w) : LL w v (ys.map (fun y => y.h.ls)) := by
 obtain ⟨p, c, e, hc, hr⟩ := h.row
 refine ⟨p, c, by rw [e, List.length_map, List.length_map], by rw [List.length_map] at hc ⊢; exact hc, ?_⟩
 rcases hr with hr | ⟨b, o, hp, hb, hr⟩
 ·left
  rw [List.map_eq_nil_iff] at hr
  rw [hr]; rfl
 ·refine .inr ⟨b, o, hp, hb, fun i hi' => ?_⟩
  rw [List.length_map] at hi'
  have h1 := hr i (by rw [List.length_map]; exact hi') 0 (by decide)
  rw [List.getElem_map] at h1
  have h1 : w.cell? ⟨b, o + i * 1 + 0, none⟩ = some (.slice (ys[i]).p (ys[i]).h.ls.length (ys[i]).c) := h1
  rw [Nat.mul_one, Nat.add_zero] at h1
  refine ⟨_, h1, ?_⟩
  rw [List.getElem_map]
  exact (hi _ (List.getElem_mem hi')).1
/-- What is reckoned of a cycle in which all have offered. -/
def Rn.rec_ (r : Rn) (N : Nat) : Rn := { r with st := 2, ls := bothL (r.hs.map Hd.ls) N, ns := netsL N (bothL (r.hs.map Hd.ls) N) }
def prepM (k : Int) (r : Rn) : Msg := ⟨12, 0, 0, 0, 0, 0, k, 0, false, r.ls, r.ns⟩
set_option linter.unusedSimpArgs false in
set_option maxHeartbeats 4000000 in
set_option maxRecDepth 100000 in
theorem creckon_any (w : World) (P : Nat → Prop) (N : Nat) (k : Int) (p : Option Addr) (n c : Nat) (rs : List Rn) (x : RunX) (hrs : RsR P w (.slice p n c) rs) (hpw : ∀ b, P b → b < w.heap.size) (hn : n = rs.length) (hl : n ≤ 2000) (hk1 : 1 ≤ k) (hk2 : k ≤ n) (hx : x.In P w) (hN1 : 1 ≤ N) (hN8 : N ≤ 8) (hlen : x.r.hs.length = N) (hfit : ∀ h ∈ x.r.hs, fitE (N : Int) h.ls = 0 ∧ h.ls.length ≤ 60) :
  Calls Try.prog 49 #[.agg #[.int .i64 (N : Int), .slice p n c], .int .i64 k, x.v] w (CPost w P N (rs.set (k - 1).toNat (x.r.rec_ N)) (toAllL N (prepM k (x.r.rec_ N))) 0) := by
 have HRS := Lib.hid hrs
 have HPW := Lib.hid hpw
 have HNN : Hid (1 ≤ N ∧ N ≤ 8) := Lib.hid ⟨hN1, hN8⟩
 have HKK : Hid (n = rs.length ∧ n ≤ 2000 ∧ 1 ≤ k ∧ k ≤ n) := Lib.hid ⟨hn, hl, hk1, hk2⟩
 obtain ⟨r, pf, cf, pl, cl, pn, cn⟩ := x
 have HXI := Lib.hid hx
 have HLR : Hid (r.hs.length = N) := Lib.hid hlen
 have HFT : Hid (∀ h ∈ r.hs, fitE (N : Int) h.ls = 0 ∧ h.ls.length ≤ 60) := Lib.hid hfit
 obtain ⟨ys, hy1, _, hy2, hy3⟩ := hx.hs
 have HYR : Hid (TRow encH w (.slice pf r.hs.length cf) ys) := Lib.hid hy1
 have HYI := Lib.hid hy2
 have HYM : Hid (ys.map HdX.h = r.hs) := Lib.hid hy3
 have HYL : Hid (ys.length = r.hs.length) := Lib.hid (by rw [← HYM.out, List.length_map])
 clear hrs hpw hN1 hN8 hn hl hk1 hk2 hx hlen hfit hy1 hy2 hy3
 rw [RunX.v_mk]
 have HB0 : Hid (Below w.heap.size w (((w.alloc (.cells #[.int .i64 (N : Int), .slice p n c] 27)).alloc (.cells #[.int .i64 r.cu, .int .i64 r.st, .slice pf r.hs.length cf, .slice pl r.ls.length cl, .slice pn r.ns.length cn] 56)).alloc (.cells #[.int .i64 0, .slice none 0 0] 27))) := Lib.hid ((((oneB w _).alloc (by simp <;> omega) _).alloc (by simp <;> omega) _))
 have Hc0 : Hid (Blk (((w.alloc (.cells #[.int .i64 (N : Int), .slice p n c] 27)).alloc (.cells #[.int .i64 r.cu, .int .i64 r.st, .slice pf r.hs.length cf, .slice pl r.ls.length cl, .slice pn r.ns.length cn] 56)).alloc (.cells #[.int .i64 0, .slice none 0 0] 27)) w.heap.size #[.int .i64 (N : Int), .slice p n c] 27) := Lib.hid (((Blk.new w #[.int .i64 (N : Int), .slice p n c] 27).alloc _).alloc _)
 have Hx0 : Hid (Blk (((w.alloc (.cells #[.int .i64 (N : Int), .slice p n c] 27)).alloc (.cells #[.int .i64 r.cu, .int .i64 r.st, .slice pf r.hs.length cf, .slice pl r.ls.length cl, .slice pn r.ns.length cn] 56)).alloc (.cells #[.int .i64 0, .slice none 0 0] 27)) (w.heap.size + 1) #[.int .i64 r.cu, .int .i64 r.st, .slice pf r.hs.length cf, .slice pl r.ls.length cl, .slice pn r.ns.length cn] 56) := Lib.hid ((Blk.new' (w.alloc (.cells #[.int .i64 (N : Int), .slice p n c] 27)) #[.int .i64 r.cu, .int .i64 r.st, .slice pf r.hs.length cf, .slice pl r.ls.length cl, .slice pn r.ns.length cn] 56 (by simp)).alloc _)
 have Hr0 : Hid (Blk (((w.alloc (.cells #[.int .i64 (N : Int), .slice p n c] 27)).alloc (.cells #[.int .i64 r.cu, .int .i64 r.st, .slice pf r.hs.length cf, .slice pl r.ls.length cl, .slice pn r.ns.length cn] 56)).alloc (.cells #[.int .i64 0, .slice none 0 0] 27)) (w.heap.size + 1 + 1) #[.int .i64 0, .slice none 0 0] 27) := Lib.hid (Blk.new' ((w.alloc (.cells #[.int .i64 (N : Int), .slice p n c] 27)).alloc (.cells #[.int .i64 r.cu, .int .i64 r.st, .slice pf r.hs.length cf, .slice pl r.ls.length cl, .slice pn r.ns.length cn] 56)) #[.int .i64 0, .slice none 0 0] 27 (by simp))
 have HZ0 : Hid (w.heap.size ≤ (((w.alloc (.cells #[.int .i64 (N : Int), .slice p n c] 27)).alloc (.cells #[.int .i64 r.cu, .int .i64 r.st, .slice pf r.hs.length cf, .slice pl r.ls.length cl, .slice pn r.ns.length cn] 56)).alloc (.cells #[.int .i64 0, .slice none 0 0] 27)).heap.size) := Lib.hid HB0.out.size
 go_enter Try.func49, Try.ntmps49
 go_upto_region 2 with fail
 generalize (((w.alloc (.cells #[.int .i64 (N : Int), .slice p n c] 27)).alloc (.cells #[.int .i64 r.cu, .int .i64 r.st, .slice pf r.hs.length cf, .slice pl r.ls.length cl, .slice pn r.ns.length cn] 56)).alloc (.cells #[.int .i64 0, .slice none 0 0] 27)) = W at *
 have HWL : Hid (w.heap.size + 1 + 1 < W.heap.size) := Lib.hid Hr0.out.lt
 have HREL : Hid (RecR W ys 0 (.slice none 0 0) W) := Lib.hid ⟨OwnT.nil_ _ _ _ _, Below.refl _ _⟩
 have HYW := Lib.hid (HYR.out.kept HB0.out)
 have HYN : Hid (ys.length ≤ 8) := Lib.hid (by have := HYL.out; have := HLR.out; have := HNN.out; omega)
 have x2 : W.cell? ⟨(w.heap.size + 1), 2, none⟩ = some (.slice pf r.hs.length cf) := Hx0.out.cell 2
 go_wp2_with fail
 clear x2
 have HLL : Hid (ys.length = r.hs.length) := Lib.hid HYL.out
 generalize hL : r.hs.length = L at *
 have HLQ := Lib.hid hL
 clear hL
 go_loopw [9, 17] (fun v i wr => ∃ k : Nat, k ≤ L ∧ i = .int .i64 k ∧ Hid (RecR W ys k v wr)) (fun _ i _ => L - (intOf i).toNat)
 case atStart => exact ⟨0, by omega, rfl, HREL⟩
 case round =>
  clear HREL
  obtain ⟨q, hq, rfl, HK⟩ := hrel
  obtain ⟨pz, cz, hvz⟩ := HK.out.1.form
  have HZL : Hid (((ys.take q).map HdX.ln).length = q) := Lib.hid (by rw [List.length_map, List.length_take]; have := HLL.out; omega)
  rw [HZL.out] at hvz
  subst hvz
  have hq9 : q + 1 ≤ 9 := by have := HLL.out; have := HYN.out; omega
  by_cases hlt : q < L
  ·have hltI : (q : Int) < (L : Int) := by omega
   have hkl : q < ys.length := by have := HLL.out; omega
   obtain ⟨yb, yo, rfl, hbl, hcs⟩ := (HYW.out.kept HK.out.2).at_ q hkl
   have HTK : Hid ((ys.take q).map HdX.ln ++ [ys[q].ln] = (ys.take (q + 1)).map HdX.ln) := Lib.hid (by rw [List.take_succ_eq_append_getElem hkl, List.map_append]; rfl)
   generalize ys[q] = z at *
   have h0 : wr.cell? ⟨yb, yo + q * 3, none⟩ = some (.bool z.h.o) := hcs 0 (by decide)
   have h1 : wr.cell? ⟨yb, yo + q * 3 + 1, none⟩ = some (.bool z.h.t) := hcs 1 (by decide)
   have h2 : wr.cell? ⟨yb, yo + q * 3 + 2, none⟩ = some (.slice z.p z.h.ls.length z.c) := hcs 2 (by decide)
   have HB0 := Lib.hid (Below.refl wr.heap.size wr)
   have HZ0 : Hid (wr.heap.size ≤ wr.heap.size) := Lib.hid (Nat.le_refl _)
   clear hcs hbl
   have hba := oneB wr (.cells #[.bool z.h.o, .bool z.h.t, .slice z.p z.h.ls.length z.c] 80)
   have Ho1 := Lib.hid (Blk.new wr #[.bool z.h.o, .bool z.h.t, .slice z.p z.h.ls.length z.c] 80)
   have HB1 := Lib.hid (HB0.out.alloc HB0.out.size (.cells #[.bool z.h.o, .bool z.h.t, .slice z.p z.h.ls.length z.c] 80))
   have HZ1 := kzq HZ0 hba.size
   have HGgo : Hid (wr.heap.size ≤ wr.heap.size) := Lib.hid HB0.out.size
   clear hba HB0 HZ0
   go_upto_region 5 with fail
   clear h0 h1 h2 hltI
   generalize (wr.alloc (.cells #[.bool z.h.o, .bool z.h.t, .slice z.p z.h.ls.length z.c] 80)) = W2 at *
   have o2 : W2.cell? ⟨wr.heap.size, 2, none⟩ = some (.slice z.p z.h.ls.length z.c) := Ho1.out.cell 2
   have HBZ := Lib.hid (oneB W2 (.cells #[.slice z.p z.h.ls.length z.c] 33))
   have HROW := Lib.hid (TRow.one_ encL z.ln (Blk.new W2 #[.slice z.p z.h.ls.length z.c] 33) rfl (Nat.le_refl 1))
   have HOW := Lib.hid ((HK.out.1.later HB1.out).later HBZ.out)
   have HWS : Hid (W.heap.size ≤ (W2.alloc (.cells #[.slice z.p z.h.ls.length z.c] 33)).heap.size) := Lib.hid (by have := HK.out.2.size; have := HB1.out.size; have := HBZ.out.size; omega)
   go_wp2_with (at_builtin; with_reducible refine stop_appendT (.tmp 21) (.tmp 24) 93 rfl ?_)
   clear o2
   refine wpList_append_t rfl (.tmp 21) (.tmp 24) 93 rfl 33 (.slice none 0 0) 24 W.heap.size eltL rfl (by decide) (.slice pz q cz) (.slice (some ⟨W2.heap.size, 0, none⟩) 1 1) ((ys.take q).map HdX.ln) [z.ln] rfl rfl HOW.out HROW.out (by have := HZL.out; simp only [List.length_singleton]; omega) HWS.out ((ys.take (q + 1)).map HdX.ln) (q + 1) HTK.out (by rw [← HTK.out, List.length_append, HZL.out]; rfl) ?_
   intro p8 c8 w8 ho _ hb8
   have HNX : Hid (RecR W ys (q + 1) (.slice p8 (q + 1) c8) w8) := Lib.hid ⟨ho, (HK.out.2.trans ((HB1.out.trans (HBZ.out.mono HB1.out.size)).mono HK.out.2.size)).trans hb8⟩
   clear ho hb8 HBZ HROW HOW HWS HTK
   go_wp2_with fail
   go_roundw
   case rel => exact ⟨q + 1, by omega, by go_num, HNX⟩
   case measure => simp [intOf]; omega
  ·have hltI : ¬ (q : Int) < (L : Int) := by omega
   obtain rfl : q = L := by omega
   have hb := HK.out.2
   have HLS : Hid (LL wr (.slice pz q cz) (r.hs.map Hd.ls)) := Lib.hid (by
    have h1 := HK.out.1
    rw [List.take_of_length_le (by rw [HLL.out]; exact Nat.le_refl _)] at h1
    have h2 := LL.of_own (P := P) h1 (fun y hy => ((HYI.out y hy).kept HB0.out).kept HK.out.2)
    rw [show ys.map (fun y => y.h.ls) = r.hs.map Hd.ls by rw [← HYM.out, List.map_map]; rfl] at h2
    exact h2)
   have Hc1 := kbq Hc0 hb
   have Hx1 := kbq Hx0 hb
   have Hr1 := kbq Hr0 hb
   have HB1 := ktq HB0 hb
   have HZ1 := kzq HZ0 hb.size
   clear Hc0 Hx0 Hr0 HB0 HZ0
   clear hb HK hq hq9
   have HXL : Hid ((r.hs.map Hd.ls).length = N) := Lib.hid (by rw [List.length_map, HLQ.out]; exact HLR.out)
   have HXF : Hid (∀ o ∈ r.hs.map Hd.ls, fitE (N : Int) o = 0 ∧ o.length ≤ 60) := Lib.hid (fun o ho => by
    obtain ⟨h, hh, rfl⟩ := List.mem_map.1 ho
    exact HFT.out h hh)
   obtain ⟨xss, hxss⟩ : ∃ xss, r.hs.map Hd.ls = xss := ⟨_, rfl⟩
   rw [hxss] at HLS HXL HXF
   have HXE := Lib.hid hxss
   clear hxss
   have HG := Lib.hid (both_any wr (.slice pz q cz) xss HLS.out (by have := HXL.out; have := HNN.out; omega) (fun o ho => ⟨fit_sort (HXF.out o ho).1, (HXF.out o ho).2⟩))
   rw [HXL.out] at HG
   obtain ⟨ls, hls⟩ : ∃ ls, bothL xss N = ls := ⟨_, rfl⟩
   rw [hls] at HG
   have HLE : Hid (bothL xss N = ls) := Lib.hid hls
   have HLF : Hid (fitE (N : Int) ls = 0) := Lib.hid (by rw [← hls]; exact bothL_fits (N : Int) (fun o ho => (HXF.out o ho).1) N)
   have HLN : Hid (ls.length ≤ 480) := Lib.hid (by rw [← hls]; have h1 := bothL_len xss (fun o ho => (HXF.out o ho).2) N; have := HNN.out; omega)
   clear hls
   go_wp2_with fail
   refine HG.out.mono ?_
   rintro y9 w1 ⟨v1, rfl, ho, hb⟩
   clear HG HLS
   have HWR1 : Hid (wr.heap.size ≤ w1.heap.size) := Lib.hid hb.size
   have HWR : Hid (w.heap.size + 1 + 1 < wr.heap.size) := Lib.hid Hr1.out.lt
   obtain ⟨p1, c1, hv1⟩ := ho.form
   have HO := Lib.hid ho
   clear ho
   have Hc2 := kbq Hc1 hb
   have Hx2 := kbq Hx1 hb
   have Hr2 := kbq Hr1 hb
   have HB2 := ktq HB1 hb
   have HZ2 := kzq HZ1 hb.size
   clear Hc1 Hx1 Hr1 HB1 HZ1
   clear hb
   have HW1 : Hid (w.heap.size + 1 + 1 < wr.heap.size) := Lib.hid HWR.out
   have HW42 : Hid (wr.heap.size ≤ w1.heap.size) := Lib.hid HWR1.out
   obtain ⟨l1, hl1⟩ : ∃ l1, ls.length = l1 := ⟨_, rfl⟩
   rw [hl1] at hv1
   subst hv1
   have HL1 := Lib.hid hl1
   clear hl1
   have z3 : w1.cell? ⟨w.heap.size + 1, 3, none⟩ = some (.slice pl r.ls.length cl) := Hx2.out.cell 3
   have f3 := Hx2.out.free 3
   go_upto_region 8 with fail
   clear z3 f3
   have hch := Lib.hid ((Chg.refl (w.heap.size + 1) w1).set 3 (.slice p1 l1 c1))
   have Hx3 : Hid (Blk _ (w.heap.size + 1) #[.int .i64 r.cu, .int .i64 r.st, .slice pf q cf, .slice p1 l1 c1, .slice pn r.ns.length cn] 56) := Lib.hid (Hx2.out.set 3 (.slice p1 l1 c1))
   have HB3 := ksq HB2 hch (by show w.heap.size ≤ (w.heap.size + 1); have := HWL.out; have := HW1.out; omega)
   have HZ3 := kzq HZ2 hch.out.size
   have Hc3 := kcq Hc2 hch (by have := HWL.out; have := HW1.out; omega)
   have Hr3 := kcq Hr2 hch (by have := HWL.out; have := HW1.out; omega)
   have HW43 : Hid (wr.heap.size ≤ (w1.setCell ⟨w.heap.size + 1, 3, none⟩ (.slice p1 l1 c1)).heap.size) := Lib.hid (Nat.le_trans HW42.out hch.out.size)
   have HO := Lib.hid (HO.out.stay (fun g hg => hch.out.2 g (HO.out.lt g hg) (by have h1 := HO.out.block_ge g hg; have := HW1.out; omega)))
   clear hch Hc2 Hx2 Hr2 HB2 HZ2
   generalize (w1.setCell ⟨w.heap.size + 1, 3, none⟩ (.slice p1 l1 c1)) = W3 at *
   have hbd := (Below.refl W3.heap.size W3).drew
   have Hc4 := kbq Hc3 hbd
   have Hx4 := kbq Hx3 hbd
   have Hr4 := kbq Hr3 hbd
   have HB4 := ktq HB3 hbd
   have HZ4 := kzq HZ3 hbd.size
   clear Hc3 Hx3 Hr3 HB3 HZ3
   have hS1 : W3.drew.cell? ⟨w.heap.size, 0, none⟩ = some (.int .i64 (N : Int)) ∧ W3.drew.cell? ⟨w.heap.size, 1, none⟩ = some (.slice p n c) ∧ W3.drew.cell? ⟨w.heap.size + 1, 0, none⟩ = some (.int .i64 r.cu) ∧ W3.drew.cell? ⟨w.heap.size + 1, 1, none⟩ = some (.int .i64 r.st) ∧ W3.drew.cell? ⟨w.heap.size + 1, 2, none⟩ = some (.slice pf q cf) ∧ W3.drew.cell? ⟨w.heap.size + 1, 3, none⟩ = some (.slice p1 l1 c1) ∧ W3.drew.cell? ⟨w.heap.size + 1, 4, none⟩ = some (.slice pn r.ns.length cn) := ⟨Hc4.out.cell 0, Hc4.out.cell 1, Hx4.out.cell 0, Hx4.out.cell 1, Hx4.out.cell 2, Hx4.out.cell 3, Hx4.out.cell 4⟩
   have HO := Lib.hid (HO.out.later hbd)
   refine wp_region_held_drew (S := fun w' => w'.cell? ⟨w.heap.size, 0, none⟩ = some (.int .i64 (N : Int)) ∧ w'.cell? ⟨w.heap.size, 1, none⟩ = some (.slice p n c) ∧ w'.cell? ⟨w.heap.size + 1, 0, none⟩ = some (.int .i64 r.cu) ∧ w'.cell? ⟨w.heap.size + 1, 1, none⟩ = some (.int .i64 r.st) ∧ w'.cell? ⟨w.heap.size + 1, 2, none⟩ = some (.slice pf q cf) ∧ w'.cell? ⟨w.heap.size + 1, 3, none⟩ = some (.slice p1 l1 c1) ∧ w'.cell? ⟨w.heap.size + 1, 4, none⟩ = some (.slice pn r.ns.length cn)) (by kernel_rfl) hS1 (fun hS0 => ?_)
   clear hS1
   have HW44 : Hid (wr.heap.size ≤ W3.drew.heap.size) := Lib.hid (by have := HW43.out; have := hbd.size; omega)
   generalize W3.drew = WD at *
   clear hbd
   refine tkq 0 ?_
   refine tkq 2 ?_
   refine tkq 3 ?_
   refine rdq 1 (fun K hK => ?_)
   have HG := Lib.hid (entities_any WD (N : Int) p n c (by omega) (by have := HNN.out; omega))
   go_simp
   go_at_call 16
   refine HG.out.mono ?_
   rintro y9 w4 ⟨rfl, hb⟩
   clear HG
   have HW45 : Hid (WD.heap.size ≤ w4.heap.size) := Lib.hid hb.size
   have HO := Lib.hid (HO.out.later hb)
   have Hc5 := kbq Hc4 hb
   have Hx5 := kbq Hx4 hb
   have Hr5 := kbq Hr4 hb
   have HB5 := ktq HB4 hb
   have HZ5 := kzq HZ4 hb.size
   clear Hc4 Hx4 Hr4 HB4 HZ4
   clear hb hS0
   try go_wp2_with fail
   refine hK.out _ _ ⟨Hc5.out.cell 0, Hc5.out.cell 1, Hx5.out.cell 0, Hx5.out.cell 1, Hx5.out.cell 2, Hx5.out.cell 3, Hx5.out.cell 4⟩ (fun hS0 => ?_)
   clear hK K
   try simp only [Act.put, List.getElem_toArray, List.getElem_cons_succ, List.getElem_cons_zero, List.setIfInBounds_toArray, List.set_cons_zero, List.set_cons_succ]
   refine rdq 4 (fun K hK => ?_)
   have HLROW : Hid (TRow encN w4 (.slice p1 l1 c1) ls) := Lib.hid HO.out.row
   have HG := Lib.hid (lnets_any w4 (N : Int) (.slice p1 l1 c1) ls HLROW.out (by have := HLN.out; omega))
   rw [show netsE (N : Int) ls = 0 by unfold netsE; rw [if_neg (by have := HNN.out; omega)]; exact HLF.out] at HG
   go_simp
   go_at_call 66
   refine HG.out.mono ?_
   rintro y9 w5 ⟨v5, rfl, ho, hb⟩
   clear HG
   have HO := Lib.hid (HO.out.later hb)
   have HNV : Hid (netsV (N : Int) ls = netsL N ls) := Lib.hid (by
    have h0 : netsE (N : Int) ls = 0 := by unfold netsE; rw [if_neg (by have := HNN.out; omega)]; exact HLF.out
    unfold netsV; rw [if_pos h0, Int.toNat_natCast])
   rw [HNV.out] at ho
   have HN5 := Lib.hid ho
   clear ho HNV HLROW
   obtain ⟨p5, c5, hv5⟩ := HN5.out.form
   rw [netsL_len] at hv5
   subst hv5
   have HW4 : Hid (wr.heap.size ≤ w4.heap.size) := Lib.hid (by have := HW44.out; have := HW45.out; omega)
   have Hc6 := kbq Hc5 hb
   have Hx6 := kbq Hx5 hb
   have Hr6 := kbq Hr5 hb
   have HB6 := ktq HB5 hb
   have HZ6 := kzq HZ5 hb.size
   clear Hc5 Hx5 Hr5 HB5 HZ5
   clear hb hS0
   try go_wp2_with fail
   refine hK.out _ _ ⟨Hc6.out.cell 0, Hc6.out.cell 1, Hx6.out.cell 0, Hx6.out.cell 1, Hx6.out.cell 2, Hx6.out.cell 3, Hx6.out.cell 4⟩ (fun hS0 => ?_)
   clear hK K
   try simp only [Act.put, List.getElem_toArray, List.getElem_cons_succ, List.getElem_cons_zero, List.setIfInBounds_toArray, List.set_cons_zero, List.set_cons_succ]
   refine tkq 5 ?_
   refine tkq 6 ?_
   refine tkq 7 ?_
   refine tkq 8 ?_
   refine tkq 9 ?_
   refine wpAnyH_done (by kernel_rfl) ?_ _
   clear hS0
   have z4 : w5.cell? ⟨w.heap.size + 1, 4, none⟩ = some (.slice pn r.ns.length cn) := Hx6.out.cell 4
   have f4 := Hx6.out.free 4
   go_upto_region 10 with fail
   clear z4 f4
   have hch := Lib.hid ((Chg.refl (w.heap.size + 1) w5).set 4 (.slice p5 N c5))
   have Hx7 : Hid (Blk _ (w.heap.size + 1) #[.int .i64 r.cu, .int .i64 r.st, .slice pf q cf, .slice p1 l1 c1, .slice p5 N c5] 56) := Lib.hid (Hx6.out.set 4 (.slice p5 N c5))
   have HB7 := ksq HB6 hch (by show w.heap.size ≤ (w.heap.size + 1); have := HWL.out; have := HW1.out; omega)
   have HZ7 := kzq HZ6 hch.out.size
   have Hc7 := kcq Hc6 hch (by have := HWL.out; have := HW1.out; omega)
   have Hr7 := kcq Hr6 hch (by have := HWL.out; have := HW1.out; omega)
   have HO := Lib.hid (HO.out.stay (fun g hg => hch.out.2 g (HO.out.lt g hg) (by have h1 := HO.out.block_ge g hg; have := HW1.out; omega)))
   have HN5 := Lib.hid (HN5.out.stayV (fun g hg => hch.out.2 g (HN5.out.lt g hg) (by have h1 := HN5.out.block_ge g hg; have := HW1.out; have := HW4.out; omega)))
   clear hch Hc6 Hx6 Hr6 HB6 HZ6
   generalize (w5.setCell ⟨w.heap.size + 1, 4, none⟩ (.slice p5 N c5)) = W6 at *
   have hL1 : ¬ (1024 : Int) < (l1 : Int) := by have := HLN.out; have := HL1.out; omega
   have x3 : W6.cell? ⟨(w.heap.size + 1), 3, none⟩ = some (.slice p1 l1 c1) := Hx7.out.cell 3
   go_upto_region 12 with fail
   clear x3 hL1
   have z1 : W6.cell? ⟨w.heap.size + 1, 1, none⟩ = some (.int .i64 r.st) := Hx7.out.cell 1
   have f1 := Hx7.out.free 1
   go_upto_region 13 with fail
   clear z1 f1
   have hch := Lib.hid ((Chg.refl (w.heap.size + 1) W6).set 1 (.int .i64 2))
   have Hx8 : Hid (Blk _ (w.heap.size + 1) #[.int .i64 r.cu, .int .i64 2, .slice pf q cf, .slice p1 l1 c1, .slice p5 N c5] 56) := Lib.hid (Hx7.out.set 1 (.int .i64 2))
   have HB8 := ksq HB7 hch (by show w.heap.size ≤ (w.heap.size + 1); have := HWL.out; have := HW1.out; omega)
   have HZ8 := kzq HZ7 hch.out.size
   have Hc8 := kcq Hc7 hch (by have := HWL.out; have := HW1.out; omega)
   have Hr8 := kcq Hr7 hch (by have := HWL.out; have := HW1.out; omega)
   have HO := Lib.hid (HO.out.stay (fun g hg => hch.out.2 g (HO.out.lt g hg) (by have h1 := HO.out.block_ge g hg; have := HW1.out; omega)))
   have HN5 := Lib.hid (HN5.out.stayV (fun g hg => hch.out.2 g (HN5.out.lt g hg) (by have h1 := HN5.out.block_ge g hg; have := HW1.out; have := HW4.out; omega)))
   clear hch Hc7 Hx7 Hr7 HB7 HZ7
   generalize (W6.setCell ⟨w.heap.size + 1, 1, none⟩ (.int .i64 2)) = W7 at *
   have HR2 : Hid (r.rec_ N = { r with st := 2, ls := ls, ns := netsL N ls }) := Lib.hid (by unfold Rn.rec_; rw [HXE.out, HLE.out])
   obtain ⟨r2, hr2⟩ : ∃ r2 : Rn, r2 = { r with st := 2, ls := ls, ns := netsL N ls } := ⟨_, rfl⟩
   have HE1 : Hid (r2.cu = r.cu ∧ r2.st = 2 ∧ r2.hs = r.hs ∧ r2.ls = ls ∧ r2.ns = netsL N ls) := Lib.hid (by rw [hr2]; exact ⟨rfl, rfl, rfl, rfl, rfl⟩)
   rw [← hr2] at HR2
   clear hr2
   have hbd := (Below.refl W7.heap.size W7).drew
   have Hc9 := kbq Hc8 hbd
   have Hx9 := kbq Hx8 hbd
   have Hr9 := kbq Hr8 hbd
   have HB9 := ktq HB8 hbd
   have HZ9 := kzq HZ8 hbd.size
   clear Hc8 Hx8 Hr8 HB8 HZ8
   have hS1 : W7.drew.cell? ⟨w.heap.size, 0, none⟩ = some (.int .i64 (N : Int)) ∧ W7.drew.cell? ⟨w.heap.size, 1, none⟩ = some (.slice p n c) ∧ W7.drew.cell? ⟨w.heap.size + 1, 0, none⟩ = some (.int .i64 r.cu) ∧ W7.drew.cell? ⟨w.heap.size + 1, 1, none⟩ = some (.int .i64 2) ∧ W7.drew.cell? ⟨w.heap.size + 1, 2, none⟩ = some (.slice pf q cf) ∧ W7.drew.cell? ⟨w.heap.size + 1, 3, none⟩ = some (.slice p1 l1 c1) ∧ W7.drew.cell? ⟨w.heap.size + 1, 4, none⟩ = some (.slice p5 N c5) := ⟨Hc9.out.cell 0, Hc9.out.cell 1, Hx9.out.cell 0, Hx9.out.cell 1, Hx9.out.cell 2, Hx9.out.cell 3, Hx9.out.cell 4⟩
   have HO := Lib.hid (HO.out.later hbd)
   have HN5 := Lib.hid (HN5.out.later hbd)
   refine wp_region_held_drew (S := fun w' => w'.cell? ⟨w.heap.size, 0, none⟩ = some (.int .i64 (N : Int)) ∧ w'.cell? ⟨w.heap.size, 1, none⟩ = some (.slice p n c) ∧ w'.cell? ⟨w.heap.size + 1, 0, none⟩ = some (.int .i64 r.cu) ∧ w'.cell? ⟨w.heap.size + 1, 1, none⟩ = some (.int .i64 2) ∧ w'.cell? ⟨w.heap.size + 1, 2, none⟩ = some (.slice pf q cf) ∧ w'.cell? ⟨w.heap.size + 1, 3, none⟩ = some (.slice p1 l1 c1) ∧ w'.cell? ⟨w.heap.size + 1, 4, none⟩ = some (.slice p5 N c5)) (by kernel_rfl) hS1 (fun hS0 => ?_)
   clear hS1
   generalize W7.drew = WE at *
   clear hbd
   refine tkq 0 ?_
   refine tkq 1 ?_
   refine tkq 2 ?_
   refine tkq 4 ?_
   refine tkq 5 ?_
   refine tkq 6 ?_
   refine tkq 7 ?_
   refine tkq 8 ?_
   refine tkq 9 ?_
   refine tkq 10 ?_
   have HX2 : Hid ((⟨r2, pf, cf, p1, c1, p5, c5⟩ : RunX).In (fun b => P b ∨ (w.heap.size + 1 + 1 < b ∧ b < WE.heap.size)) WE) := Lib.hid (by
    have hw1 := HW1.out
    have hw4 := HW4.out
    refine ⟨?_, ?_, ?_, ?_, ?_⟩
    ·show HsR _ _ (.slice pf r2.hs.length cf) r2.hs
     rw [HE1.out.2.2.1, HLQ.out]
     exact (((by have h := HXI.out.hs; rw [HLQ.out] at h; exact h : HsR P w (.slice pf q cf) r.hs).kept HB9.out)).imp (fun b h => .inl h)
    ·show TRow encN _ (.slice p1 r2.ls.length c1) r2.ls
     rw [HE1.out.2.2.2.1, HL1.out]
     exact HO.out.row
    ·show At _ (.slice p1 r2.ls.length c1) r2.ls.length
     rw [HE1.out.2.2.2.1]
     have h1 := HO.out.at_lt
     rw [HL1.out] at h1 ⊢
     exact h1.imp (fun b h => .inr ⟨by omega, h.2⟩)
    ·show Row .i64 _ (.slice p5 r2.ns.length c5) r2.ns
     rw [HE1.out.2.2.2.2, netsL_len]
     exact HN5.out.row
    ·show At _ (.slice p5 r2.ns.length c5) r2.ns.length
     rw [HE1.out.2.2.2.2]
     have h1 := HN5.out.at_lt
     rw [netsL_len] at h1 ⊢
     exact h1.imp (fun b h => .inr ⟨by omega, h.2⟩))
   have HWR2 : Hid (w.heap.size + 1 + 1 < WE.heap.size) := Lib.hid Hr9.out.lt
   refine rdq 3 (fun K hK => ?_)
   have HG := Lib.hid (cwith_any WE (fun b => P b ∨ (w.heap.size + 1 + 1 < b ∧ b < WE.heap.size)) (N : Int) k p n c rs (⟨r2, pf, cf, p1, c1, p5, c5⟩ : RunX) ((HRS.out.kept HB9.out).imp (fun b h => .inl h)) HKK.out.1 HKK.out.2.1 HKK.out.2.2.1 HKK.out.2.2.2 HX2.out)
   rw [RunX.v_mk, HE1.out.1, HE1.out.2.1, HE1.out.2.2.1, HE1.out.2.2.2.1, HE1.out.2.2.2.2, HLQ.out, HL1.out, netsL_len] at HG
   go_simp
   go_at_call 48
   refine HG.out.mono ?_
   rintro y9 w8 ⟨p3, c3, rfl, hq3, hb⟩
   clear HG
   have HQQ := Lib.hid hq3.lt
   have HO := Lib.hid (HO.out.later hb)
   have HN5 := Lib.hid (HN5.out.later hb)
   have HW8 : Hid (WE.heap.size ≤ w8.heap.size) := Lib.hid hb.size
   clear hq3 HX2
   have Hc10 := kbq Hc9 hb
   have Hx10 := kbq Hx9 hb
   have Hr10 := kbq Hr9 hb
   have HB10 := ktq HB9 hb
   have HZ10 := kzq HZ9 hb.size
   clear Hc9 Hx9 Hr9 HB9 HZ9
   clear hb hS0
   try go_wp2_with fail
   refine hK.out _ _ ⟨Hc10.out.cell 0, Hc10.out.cell 1, Hx10.out.cell 0, Hx10.out.cell 1, Hx10.out.cell 2, Hx10.out.cell 3, Hx10.out.cell 4⟩ (fun hS0 => ?_)
   clear hK K
   try simp only [Act.put, List.getElem_toArray, List.getElem_cons_succ, List.getElem_cons_zero, List.setIfInBounds_toArray, List.set_cons_zero, List.set_cons_succ]
   refine rdq 11 (fun K hK => ?_)
   have HMI : Hid ((⟨prepM k r2, p1, c1, p5, c5⟩ : MsgX).InP (fun _ => True) w8) := Lib.hid (by
    refine ⟨?_, ?_, fun _ _ _ _ _ _ => trivial, fun _ _ _ _ _ _ => trivial, ⟨?_, ?_⟩⟩
    ·show TRow encN w8 (.slice p1 r2.ls.length c1) r2.ls
     rw [HE1.out.2.2.2.1, HL1.out]
     exact HO.out.row
    ·show Row .i64 w8 (.slice p5 r2.ns.length c5) r2.ns
     rw [HE1.out.2.2.2.2, netsL_len]
     exact HN5.out.row
    ·show r2.ls.length * 32 ≤ _
     rw [HE1.out.2.2.2.1]
     have := HLN.out
     omega
    ·show r2.ns.length * 8 ≤ _
     rw [HE1.out.2.2.2.2, netsL_len]
     have := HNN.out
     omega)
   have HG := Lib.hid (toAll_any w8 N p n c (⟨prepM k r2, p1, c1, p5, c5⟩ : MsgX) (fun _ => True) HNN.out.2 HMI.out)
   unfold prepM Msg.v at HG
   dsimp only at HG
   rw [HE1.out.2.2.2.1, HE1.out.2.2.2.2, HL1.out, netsL_len] at HG
   go_simp
   go_at_call 56
   refine HG.out.mono ?_
   rintro y9 w9 ⟨p6, c6, rfl, hs, hb⟩
   clear HG
   have HQQ := Lib.hid (HQQ.out.kept hb)
   have HSS : Hid (SaidL w9 w8.heap.size (.slice p6 N c6) (toAllL N (prepM k r2))) := Lib.hid (by unfold prepM; rw [HE1.out.2.2.2.1, HE1.out.2.2.2.2]; exact hs)
   clear hs HMI HO HN5
   have Hc11 := kbq Hc10 hb
   have Hx11 := kbq Hx10 hb
   have Hr11 := kbq Hr10 hb
   have HB11 := ktq HB10 hb
   have HZ11 := kzq HZ10 hb.size
   clear Hc10 Hx10 Hr10 HB10 HZ10
   clear hb hS0
   try go_wp2_with fail
   refine hK.out _ _ ⟨Hc11.out.cell 0, Hc11.out.cell 1, Hx11.out.cell 0, Hx11.out.cell 1, Hx11.out.cell 2, Hx11.out.cell 3, Hx11.out.cell 4⟩ (fun hS0 => ?_)
   clear hK K
   try simp only [Act.put, List.getElem_toArray, List.getElem_cons_succ, List.getElem_cons_zero, List.setIfInBounds_toArray, List.set_cons_zero, List.set_cons_succ]
   refine rdq 12 (fun K hK => ?_)
   have z0 : w9.cell? ⟨(w.heap.size + 1 + 1), 0, none⟩ = some (.int .i64 0) := Hr11.out.cell 0
   have z1 : w9.cell? ⟨(w.heap.size + 1 + 1), 1, none⟩ = some (.slice none 0 0) := Hr11.out.cell 1
   have f0 := Hr11.out.free 0
   have f1 := Hr11.out.free 1
   go_simp
   clear z0 f0 z1 f1
   have hch := Lib.hid (((Chg.refl (w.heap.size + 1 + 1) w9).set 0 (.int .i64 (N : Int))).set 1 (.slice p3 n c3))
   have Hr12 : Hid (Blk _ (w.heap.size + 1 + 1) #[.int .i64 (N : Int), .slice p3 n c3] 27) := Lib.hid ((Hr11.out.set 0 (.int .i64 (N : Int))).set 1 (.slice p3 n c3))
   have HB12 := ksq HB11 hch (by show w.heap.size ≤ (w.heap.size + 1 + 1); have := HWL.out; have := HW1.out; omega)
   have HZ12 := kzq HZ11 hch.out.size
   have Hc12 := kcq Hc11 hch (by have := HWL.out; have := HW1.out; omega)
   have Hx12 := kcq Hx11 hch (by have := HWL.out; have := HW1.out; omega)
   have HST := Lib.hid (HSS.out.chgS hch.out (by have := HW8.out; have := HWR2.out; omega))
   have HQR := Lib.hid ((HQQ.out.imp (Q := fun b => b ≠ w.heap.size + 1 + 1 ∧ (P b ∨ (w.heap.size ≤ b ∧ b < w8.heap.size))) (fun b h => by
    obtain ⟨h, h9⟩ := h
    have h6 := HWR2.out
    rcases h with (h1 | h1) | h1
    ·have := HPW.out _ h1
     exact ⟨by omega, .inl h1⟩
    ·exact ⟨by omega, .inr ⟨by omega, by omega⟩⟩
    ·exact ⟨by omega, .inr ⟨by omega, by omega⟩⟩)).keepP (KeepP.of_chg hch.out (by rintro ⟨h, _⟩; exact h rfl)))
   clear HSS HQQ
   clear hch hS0 Hc11 Hx11 Hr11 HB11 HZ11
   generalize ((w9.setCell ⟨w.heap.size + 1 + 1, 0, none⟩ (.int .i64 (N : Int))).setCell ⟨w.heap.size + 1 + 1, 1, none⟩ (.slice p3 n c3)) = WZ at *
   refine hK.out _ _ ⟨Hc12.out.cell 0, Hc12.out.cell 1, Hx12.out.cell 0, Hx12.out.cell 1, Hx12.out.cell 2, Hx12.out.cell 3, Hx12.out.cell 4⟩ (fun hS0 => ?_)
   clear hK K
   try simp only [Act.put, List.getElem_toArray, List.getElem_cons_succ, List.getElem_cons_zero, List.setIfInBounds_toArray, List.set_cons_zero, List.set_cons_succ]
   refine tkq 13 ?_
   refine tkq 14 ?_
   refine wpAnyH_done (by kernel_rfl) ?_ _
   clear hS0
   go_wp2_with fail
   have hfr := Hr12.out
   refine bodyPost_ret (v := .tuple #[.agg #[.int .i64 (N : Int), .slice p3 n c3], .slice p6 N c6, .int .i64 0]) (by simp [results, Try.results49, go_sem, hfr.cell 0, hfr.cell 1]) rfl (by rw [HR2.out]; exact ⟨p3, n, c3, p6, N, c6, w8.heap.size, rfl, by rw [List.length_set]; exact HKK.out.1, by rw [toAllL_len], by have := HW8.out; have := HWR2.out; omega, HQR.out.imp (fun b h => h.2), HST.out, HB12.out⟩)
end Go.Proofs.Yteogdfpkcoodlaa
