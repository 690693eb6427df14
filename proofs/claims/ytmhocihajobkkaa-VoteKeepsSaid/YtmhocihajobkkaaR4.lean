/- (vote.Parts).with by contract. vote: what an act answers. vote's due by contract. slices.Contains of lines, decide's closure, vote.holds by contract. vote.holds by contract. cycle.within, compare, Fits by contract. -/
import Derived.Test.YtmhocihajobkkaaR3
import Derived.Deep.RegionHeld3
import Derived.Test.YtmhocihajobkkaaR2
import Derived.Test.YtmhocihajobkkaaR1
import Derived.IntWalk
namespace Go.Proofs.Ytmhocihajobkkaa
open Go.RowKit
set_option linter.unusedSimpArgs false
theorem concat3P (W : World) (b : Nat) (va vb vc : Value) (A C : List PtX) (x : PtX) (t : TypeId) (hB : Blk W b #[va, vb, vc] t) (hA : TRow encP W va A) (hX : TRow encP W vb [x]) (hC : TRow encP W vc C) (hn : A.length + C.length ≤ 5000) :
  Calls Try.prog 66 #[.slice (some ⟨b, 0, none⟩) 3 3] W fun e w' => ∃ v, e = .returned v ∧ OwnT encP w' W.heap.size 58 v (A ++ [x] ++ C) ∧ Below W.heap.size W w' := by
 have h := concatP_any b 0 3 3 [va, vb, vc] [A, [x], C] W (RowsT.three hB rfl hA hX hC) rfl (by omega) (by simp; omega)
 rwa [show [A, [x], C].flatten = A ++ [x] ++ C by simp] at h
set_option linter.unusedSimpArgs false in
set_option maxHeartbeats 4000000 in
set_option maxRecDepth 100000 in
theorem pwith_fc (w : World) (me N : Int) (p : Option Addr) (n c : Nat) (xs A B : List PtX) (q x : PtX) (hr : TRow encP w (.slice p n c) xs) (hn : n = xs.length) (hl : xs.length ≤ 2000) (hA : AroundF posC ⟨x.cy, 0, 0⟩ xs A [q] B) (hcv : c - A.length = 1) :
  Calls Try.prog 50 #[.agg #[.int .i64 me, .int .i64 N, .slice p n c], x.v] w fun e w' => ∃ p' n' c', e = .returned (.agg #[.int .i64 me, .int .i64 N, .slice p' n' c']) ∧ OwnT encP w' w.heap.size 58 (.slice p' n' c') (A ++ [x] ++ B) ∧ Below w.heap.size w w' := by
 subst hn
 have hall := hA.all
 have hlen : xs.length = A.length + 1 + B.length := by rw [hall]; simp; omega
 have hAt : xs.take A.length = A := by rw [hall, List.append_assoc, List.take_left]
 have hBd : xs.drop (A.length + 1) = B := by rw [hall, List.drop_left' (by simp)]
 have hpc : xs.length ≤ c := hr.cap
 have HLEN := Lib.hid hlen
 have HPC := Lib.hid hpc
 have HR := Lib.hid hr
 have HAT := Lib.hid hAt
 have HBD := Lib.hid hBd
 have HAA := Lib.hid hA
 have HL := Lib.hid hl
 obtain ⟨b, o, hpv⟩ : ∃ b o, p = some ⟨b, o, none⟩ := by obtain ⟨b, o, h, _⟩ := hr.at_ A.length (by omega); exact ⟨b, o, h⟩
 subst hpv
 clear hr hall hAt hBd hA
 unfold PtX.v
 have hcap1 : ((A.length : Nat) : Int) ≤ (xs.length : Int) := by omega
 have hcap2 : (xs.length : Int) ≤ (c : Int) := by omega
 have hcap3 : ((A.length : Nat) : Int) ≤ (c : Int) := by omega
 have hcn : A.length ≤ c := by omega
 have hcap4 : ((A.length : Nat) : Int) < (xs.length : Int) := by omega
 have hcap5 : 1 ≤ xs.length - A.length := by omega
 have hcap6 : 1 ≤ c - A.length := by omega
 have hcap7 : ¬ c - A.length = 0 := by omega
 have hbl : A.length + B.length ≤ 5000 := by omega
 clear hlen hl hpc
 have HB0 : Hid (Below w.heap.size w (((w.alloc (.cells #[.int .i64 me, .int .i64 N, .slice (some ⟨b, o, none⟩) xs.length c] 36)).alloc (.cells #[.int .i64 x.cy, .int .i64 x.cu, .int .i64 x.st, .slice x.p x.ls.length x.c] 58)).alloc (.cells #[.int .i64 0, .int .i64 0, .slice none 0 0] 36))) := Lib.hid ((((oneB w _).alloc (by simp <;> omega) _).alloc (by simp <;> omega) _))
 have Hp0 : Hid (Blk (((w.alloc (.cells #[.int .i64 me, .int .i64 N, .slice (some ⟨b, o, none⟩) xs.length c] 36)).alloc (.cells #[.int .i64 x.cy, .int .i64 x.cu, .int .i64 x.st, .slice x.p x.ls.length x.c] 58)).alloc (.cells #[.int .i64 0, .int .i64 0, .slice none 0 0] 36)) w.heap.size #[.int .i64 me, .int .i64 N, .slice (some ⟨b, o, none⟩) xs.length c] 36) := Lib.hid (((Blk.new w #[.int .i64 me, .int .i64 N, .slice (some ⟨b, o, none⟩) xs.length c] 36).alloc _).alloc _)
 have Hx0 : Hid (Blk (((w.alloc (.cells #[.int .i64 me, .int .i64 N, .slice (some ⟨b, o, none⟩) xs.length c] 36)).alloc (.cells #[.int .i64 x.cy, .int .i64 x.cu, .int .i64 x.st, .slice x.p x.ls.length x.c] 58)).alloc (.cells #[.int .i64 0, .int .i64 0, .slice none 0 0] 36)) (w.heap.size + 1) #[.int .i64 x.cy, .int .i64 x.cu, .int .i64 x.st, .slice x.p x.ls.length x.c] 58) := Lib.hid ((Blk.new' (w.alloc (.cells #[.int .i64 me, .int .i64 N, .slice (some ⟨b, o, none⟩) xs.length c] 36)) #[.int .i64 x.cy, .int .i64 x.cu, .int .i64 x.st, .slice x.p x.ls.length x.c] 58 (by simp)).alloc _)
 have Hr0 : Hid (Blk (((w.alloc (.cells #[.int .i64 me, .int .i64 N, .slice (some ⟨b, o, none⟩) xs.length c] 36)).alloc (.cells #[.int .i64 x.cy, .int .i64 x.cu, .int .i64 x.st, .slice x.p x.ls.length x.c] 58)).alloc (.cells #[.int .i64 0, .int .i64 0, .slice none 0 0] 36)) (w.heap.size + 1 + 1) #[.int .i64 0, .int .i64 0, .slice none 0 0] 36) := Lib.hid (Blk.new' ((w.alloc (.cells #[.int .i64 me, .int .i64 N, .slice (some ⟨b, o, none⟩) xs.length c] 36)).alloc (.cells #[.int .i64 x.cy, .int .i64 x.cu, .int .i64 x.st, .slice x.p x.ls.length x.c] 58)) #[.int .i64 0, .int .i64 0, .slice none 0 0] 36 (by simp))
 have HZ0 : Hid (w.heap.size ≤ (((w.alloc (.cells #[.int .i64 me, .int .i64 N, .slice (some ⟨b, o, none⟩) xs.length c] 36)).alloc (.cells #[.int .i64 x.cy, .int .i64 x.cu, .int .i64 x.st, .slice x.p x.ls.length x.c] 58)).alloc (.cells #[.int .i64 0, .int .i64 0, .slice none 0 0] 36)).heap.size) := Lib.hid HB0.out.size
 go_enter Try.func50, Try.ntmps50
 go_upto_region 1 with fail
 generalize (((w.alloc (.cells #[.int .i64 me, .int .i64 N, .slice (some ⟨b, o, none⟩) xs.length c] 36)).alloc (.cells #[.int .i64 x.cy, .int .i64 x.cu, .int .i64 x.st, .slice x.p x.ls.length x.c] 58)).alloc (.cells #[.int .i64 0, .int .i64 0, .slice none 0 0] 36)) = W at *
 have HG := Lib.hid (find_any W me N (some ⟨b, o, none⟩) xs.length c xs A [q] B x.cy (HR.out.kept HB0.out) rfl HL.out HAA.out)
 rw [show decide (([q] : List PtX) ≠ []) = true by simp] at HG
 have a0 : W.cell? ⟨w.heap.size, 0, none⟩ = some (.int .i64 me) := Hp0.out.cell 0
 have a1 : W.cell? ⟨w.heap.size, 1, none⟩ = some (.int .i64 N) := Hp0.out.cell 1
 have a2 : W.cell? ⟨w.heap.size, 2, none⟩ = some (.slice (some ⟨b, o, none⟩) xs.length c) := Hp0.out.cell 2
 have c0 : W.cell? ⟨(w.heap.size + 1), 0, none⟩ = some (.int .i64 x.cy) := Hx0.out.cell 0
 go_wp2_with fail
 clear a0 a1 a2 c0
 refine HG.out.mono ?_
 rintro y w1 ⟨rfl, hb⟩
 clear HG
 have Hp1 := kbq Hp0 hb
 have Hx1 := kbq Hx0 hb
 have Hr1 := kbq Hr0 hb
 have HB1 := ktq HB0 hb
 have HZ1 := kzq HZ0 hb.size
 clear Hp0 Hx0 Hr0 HB0 HZ0
 clear hb
 have a2 : w1.cell? ⟨w.heap.size, 2, none⟩ = some (.slice (some ⟨b, o, none⟩) xs.length c) := Hp1.out.cell 2
 go_upto_region 5 with fail
 clear a2
 have hrw := HR.out.kept HB1.out
 have ha2 := hrw.take A.length (by have := HLEN.out; omega)
 rw [HAT.out] at ha2
 have HRW := Lib.hid hrw
 have HA2 := Lib.hid ha2
 clear hrw ha2
 have hbd := (Below.refl w1.heap.size w1).drew
 refine wp_region_held_drew (S := fun w' => w'.cell? ⟨w.heap.size + 1, 0, none⟩ = some (.int .i64 x.cy) ∧ w'.cell? ⟨w.heap.size + 1, 1, none⟩ = some (.int .i64 x.cu) ∧ w'.cell? ⟨w.heap.size + 1, 2, none⟩ = some (.int .i64 x.st) ∧ w'.cell? ⟨w.heap.size + 1, 3, none⟩ = some (.slice x.p x.ls.length x.c)) (by kernel_rfl) ⟨(Hx1.out.below hbd Hx1.out.lt).cell 0, (Hx1.out.below hbd Hx1.out.lt).cell 1, (Hx1.out.below hbd Hx1.out.lt).cell 2, (Hx1.out.below hbd Hx1.out.lt).cell 3⟩ (fun hS0 => ?_)
 have HRD := Lib.hid (HRW.out.kept hbd)
 have HAD := Lib.hid (HA2.out.kept hbd)
 clear HRW HA2
 generalize w1.drew = WD at *
 have Hp2 := kbq Hp1 hbd
 have Hx2 := kbq Hx1 hbd
 have Hr2 := kbq Hr1 hbd
 have HB2 := ktq HB1 hbd
 have HZ2 := kzq HZ1 hbd.size
 clear Hp1 Hx1 Hr1 HB1 HZ1
 clear hbd
 refine tkq 0 ?_
 refine tkq 2 ?_
 refine tkq 4 ?_
 refine tkq 6 ?_
 refine wpAnyH_ready (rs := [1, 5]) (by kernel_rfl) (by simp) ?_
 refine AllReadyH.cons rfl (fun K hK => ?_) (AllReadyH.cons rfl (fun K hK => ?_) AllReadyH.nil)
 ·skip
  have a2 : WD.cell? ⟨w.heap.size, 2, none⟩ = some (.slice (some ⟨b, o, none⟩) xs.length c) := Hp2.out.cell 2
  go_simp
  clear a2
  refine hK.out _ _ ⟨Hx2.out.cell 0, Hx2.out.cell 1, Hx2.out.cell 2, Hx2.out.cell 3⟩ (fun hS => ?_)
  clear hK K
  try simp only [Act.put, List.getElem_toArray, List.getElem_cons_succ, List.getElem_cons_zero, List.setIfInBounds_toArray, List.set_cons_zero, List.set_cons_succ]
  refine tkq 3 ?_
  refine rdq 5 (fun K hK => ?_)
  go_simp
  have hx2 := TRow.one_ encP x (Blk.new WD #[.int .i64 x.cy, .int .i64 x.cu, .int .i64 x.st, .slice x.p x.ls.length x.c] 58) rfl (Nat.le_refl 1)
  have hbz := (oneB WD (.cells #[.int .i64 x.cy, .int .i64 x.cu, .int .i64 x.st, .slice x.p x.ls.length x.c] 58))
  have HG0 : Hid (WD.heap.size < (WD.alloc (.cells #[.int .i64 x.cy, .int .i64 x.cu, .int .i64 x.st, .slice x.p x.ls.length x.c] 58)).heap.size) := by show _ < _; simp
  have hx2 := Lib.hid hx2
  generalize (WD.alloc (.cells #[.int .i64 x.cy, .int .i64 x.cu, .int .i64 x.st, .slice x.p x.ls.length x.c] 58)) = W5 at *
  have Hp3 := kbq Hp2 hbz
  have Hx3 := kbq Hx2 hbz
  have Hr3 := kbq Hr2 hbz
  have HB3 := ktq HB2 hbz
  have HZ3 := kzq HZ2 hbz.size
  clear Hp2 Hx2 Hr2 HB2 HZ2
  have HRE := Lib.hid (HRD.out.kept hbz)
  have HAE := Lib.hid (HAD.out.kept hbz)
  clear hbz HRD HAD
  refine hK.out _ _ ⟨Hx3.out.cell 0, Hx3.out.cell 1, Hx3.out.cell 2, Hx3.out.cell 3⟩ (fun hS => ?_)
  clear hK K
  try simp only [Act.put, List.getElem_toArray, List.getElem_cons_succ, List.getElem_cons_zero, List.setIfInBounds_toArray, List.set_cons_zero, List.set_cons_succ]
  refine rdq 7 (fun K hK => ?_)
  go_simp
  refine hK.out _ _ (by first | exact ⟨(Hx3.out.alloc _).cell 0, (Hx3.out.alloc _).cell 1, (Hx3.out.alloc _).cell 2, (Hx3.out.alloc _).cell 3⟩ | exact ⟨(Hx3.out.alloc _).drew.cell 0, (Hx3.out.alloc _).drew.cell 1, (Hx3.out.alloc _).drew.cell 2, (Hx3.out.alloc _).drew.cell 3⟩) (fun hS => ?_)
  clear hK K
  try simp only [Act.put, List.getElem_toArray, List.getElem_cons_succ, List.getElem_cons_zero, List.setIfInBounds_toArray, List.set_cons_zero, List.set_cons_succ]
  refine rdq 8 (fun K hK => ?_)
  go_simp
  go_at_call 66
  refine (concat3P _ _ _ _ _ A B x _ (Blk.new' W5 _ _ rfl) (HAE.out.kept (oneB W5 _)) (hx2.out.kept (oneB W5 _)) ?hC hbl).mono ?_
  case hC =>
   refine TRow.kept ?_ (oneB W5 _)
   rw [← HBD.out]
   have hlen : _ = _ := HLEN.out
   have hpc := HPC.out
   exact HRE.out.tail (A.length + 1) (by omega) (by omega) (by omega) (fun b' o' e h => by first | (cases e; refine congrArg (fun z => some (⟨_, z, none⟩ : Addr)) ?_; show _ + _ * 4 + 4 = _ + (_ + 1) * 4; omega) | (subst e; show (some (Addr.add _ _) : Option Addr) = _; rw [addAt]; rfl) | (cases e; simp; done) | (cases e; simp; rw [addAt]; done) | (cases e; simp; omega) | (subst e; simp; omega) | (subst e; simp; rw [addAt]; done) | omega)
  rintro y w3 ⟨v3, rfl, ho3, hb3⟩
  have hbz := (oneB W5 _).trans (hb3.mono (by simp))
  have HO3 := Lib.hid (ho3.less (show w.heap.size ≤ _ from by have := HB3.out.size; simp; omega))
  have HLT : Hid (∀ g, v3.ownBlock = some g → w.heap.size + 1 + 1 < g) := fun g hg => by have h1 := ho3.block_ge g hg; have h3 := Hr3.out.lt; simp at h1; omega
  clear ho3 hb3
  have Hp4 := kbq Hp3 hbz
  have Hx4 := kbq Hx3 hbz
  have Hr4 := kbq Hr3 hbz
  have HB4 := ktq HB3 hbz
  have HZ4 := kzq HZ3 hbz.size
  clear Hp3 Hx3 Hr3 HB3 HZ3
  clear hbz HRE HAE hx2
  obtain ⟨p3, c3, hv3⟩ := HO3.out.form
  generalize (A ++ [x] ++ B).length = n3 at hv3
  subst hv3
  try go_wp2_with fail
  refine hK.out _ _ ⟨Hx4.out.cell 0, Hx4.out.cell 1, Hx4.out.cell 2, Hx4.out.cell 3⟩ (fun hS => ?_)
  clear hK K
  try simp only [Act.put, List.getElem_toArray, List.getElem_cons_succ, List.getElem_cons_zero, List.setIfInBounds_toArray, List.set_cons_zero, List.set_cons_succ]
  refine tkq 9 ?_
  refine rdq 10 (fun K hK => ?_)
  have z2 : w3.cell? ⟨w.heap.size, 2, none⟩ = some (.slice (some ⟨b, o, none⟩) xs.length c) := Hp4.out.cell 2
  have f2 := Hp4.out.free 2
  go_simp
  clear z2 f2
  have hch : Chg w.heap.size w3 (w3.setCell ⟨w.heap.size, 2, none⟩ (.slice p3 n3 c3)) := (Chg.refl _ w3).set 2 _
  have Hp5 : Hid (Blk _ w.heap.size #[.int .i64 me, .int .i64 N, .slice p3 n3 c3] 36) := Lib.hid (Hp4.out.set 2 (.slice p3 n3 c3))
  have Hx5 := Lib.hid (Hx4.out.chg hch (by omega))
  have Hr5 := Lib.hid (Hr4.out.chg hch (by omega))
  have HB5 := Lib.hid (HB4.out.setCell (p := ⟨w.heap.size, 2, none⟩) (Nat.le_refl _) (.slice p3 n3 c3))
  have HZ5 : Hid (w.heap.size ≤ (w3.setCell ⟨w.heap.size, 2, none⟩ (.slice p3 n3 c3)).heap.size) := Lib.hid HB5.out.size
  have HO4 := Lib.hid (HO3.out.stay (fun g hg => hch.2 g (HO3.out.lt g hg) (by have := HLT.out g hg; omega)))
  clear HO3 hch Hp4 Hx4 Hr4 HB4 HZ4
  generalize (w3.setCell ⟨w.heap.size, 2, none⟩ (.slice p3 n3 c3)) = W9 at *
  refine hK.out _ _ ⟨Hx5.out.cell 0, Hx5.out.cell 1, Hx5.out.cell 2, Hx5.out.cell 3⟩ (fun hS => ?_)
  clear hK K
  try simp only [Act.put, List.getElem_toArray, List.getElem_cons_succ, List.getElem_cons_zero, List.setIfInBounds_toArray, List.set_cons_zero, List.set_cons_succ]
  refine wpAnyH_done (by kernel_rfl) ?_ _
  clear hS
  have a0 : W9.cell? ⟨w.heap.size, 0, none⟩ = some (.int .i64 me) := Hp5.out.cell 0
  have a1 : W9.cell? ⟨w.heap.size, 1, none⟩ = some (.int .i64 N) := Hp5.out.cell 1
  have a2 : W9.cell? ⟨w.heap.size, 2, none⟩ = some (.slice p3 n3 c3) := Hp5.out.cell 2
  go_wp2_with (with_reducible refine stop_storeT 36 (.tmp 4) (.tmp 32) rfl ?_)
  clear a0 a1 a2
  have HTH : Hid (W9.there (w.heap.size + 1 + 1) 0 3) := Hr5.out.thereAt
  have hch : Hid (Chg (w.heap.size + 1 + 1) W9 (W9.setCells (w.heap.size + 1 + 1) 0 (#[.int .i64 me, .int .i64 N, .slice p3 n3 c3] : Array Value).toList)) := Lib.hid (chg_putL _ _ _ _ _ (Chg.refl _ W9))
  have Hr6 : Hid (Blk (W9.setCells (w.heap.size + 1 + 1) 0 (#[.int .i64 me, .int .i64 N, .slice p3 n3 c3] : Array Value).toList) (w.heap.size + 1 + 1) #[.int .i64 me, .int .i64 N, .slice p3 n3 c3] 36) := Lib.hid (blk_put_all Hr5.out _ rfl)
  have HB6 : Hid (Below w.heap.size w (W9.setCells (w.heap.size + 1 + 1) 0 (#[.int .i64 me, .int .i64 N, .slice p3 n3 c3] : Array Value).toList)) := Lib.hid (below_put (by omega) _ _ _ _ HB5.out)
  have HZ6 := kzq HZ5 hch.out.size
  have Hp6 := kcq Hp5 hch (by omega)
  have Hx6 := kcq Hx5 hch (by omega)
  have HO5 := Lib.hid (HO4.out.stay (fun g hg => hch.out.2 g (HO4.out.lt g hg) (by have := HLT.out g hg; omega)))
  clear HO4 hch Hp5 Hx5 Hr5 HB5 HZ5
  refine wpList_store_mid rfl 36 (.tmp 4) (.tmp 32) rfl (w.heap.size + 1 + 1) 0 #[.int .i64 me, .int .i64 N, .slice p3 n3 c3] rfl rfl HTH.out (infoP3 rfl) (all_oneCell_toArray (by intro u hu; simp at hu; rcases hu with rfl | rfl | rfl <;> rfl)) ?_
  generalize (W9.setCells (w.heap.size + 1 + 1) 0 (#[.int .i64 me, .int .i64 N, .slice p3 n3 c3] : Array Value).toList) = W10 at *
  clear HTH
  go_wp2_with fail
  have hf := Hr6.out
  refine bodyPost_ret (v := .agg #[.int .i64 me, .int .i64 N, .slice p3 n3 c3]) (by simp [results, Try.results50, go_sem, hf.cell 0, hf.cell 1, hf.cell 2]) rfl ⟨p3, n3, c3, rfl, HO5.out, HB6.out⟩
 ·skip
  go_simp
  have hx2 := TRow.one_ encP x (Blk.new WD #[.int .i64 x.cy, .int .i64 x.cu, .int .i64 x.st, .slice x.p x.ls.length x.c] 58) rfl (Nat.le_refl 1)
  have hbz := (oneB WD (.cells #[.int .i64 x.cy, .int .i64 x.cu, .int .i64 x.st, .slice x.p x.ls.length x.c] 58))
  have HG0 : Hid (WD.heap.size < (WD.alloc (.cells #[.int .i64 x.cy, .int .i64 x.cu, .int .i64 x.st, .slice x.p x.ls.length x.c] 58)).heap.size) := by show _ < _; simp
  have hx2 := Lib.hid hx2
  generalize (WD.alloc (.cells #[.int .i64 x.cy, .int .i64 x.cu, .int .i64 x.st, .slice x.p x.ls.length x.c] 58)) = W5 at *
  have Hp3 := kbq Hp2 hbz
  have Hx3 := kbq Hx2 hbz
  have Hr3 := kbq Hr2 hbz
  have HB3 := ktq HB2 hbz
  have HZ3 := kzq HZ2 hbz.size
  clear Hp2 Hx2 Hr2 HB2 HZ2
  have HRE := Lib.hid (HRD.out.kept hbz)
  have HAE := Lib.hid (HAD.out.kept hbz)
  clear hbz HRD HAD
  refine hK.out _ _ ⟨Hx3.out.cell 0, Hx3.out.cell 1, Hx3.out.cell 2, Hx3.out.cell 3⟩ (fun hS => ?_)
  clear hK K
  try simp only [Act.put, List.getElem_toArray, List.getElem_cons_succ, List.getElem_cons_zero, List.setIfInBounds_toArray, List.set_cons_zero, List.set_cons_succ]
  refine rdq 1 (fun K hK => ?_)
  have a2 : W5.cell? ⟨w.heap.size, 2, none⟩ = some (.slice (some ⟨b, o, none⟩) xs.length c) := Hp3.out.cell 2
  go_simp
  clear a2
  refine hK.out _ _ ⟨Hx3.out.cell 0, Hx3.out.cell 1, Hx3.out.cell 2, Hx3.out.cell 3⟩ (fun hS => ?_)
  clear hK K
  try simp only [Act.put, List.getElem_toArray, List.getElem_cons_succ, List.getElem_cons_zero, List.setIfInBounds_toArray, List.set_cons_zero, List.set_cons_succ]
  refine tkq 3 ?_
  refine rdq 7 (fun K hK => ?_)
  go_simp
  refine hK.out _ _ (by first | exact ⟨(Hx3.out.alloc _).cell 0, (Hx3.out.alloc _).cell 1, (Hx3.out.alloc _).cell 2, (Hx3.out.alloc _).cell 3⟩ | exact ⟨(Hx3.out.alloc _).drew.cell 0, (Hx3.out.alloc _).drew.cell 1, (Hx3.out.alloc _).drew.cell 2, (Hx3.out.alloc _).drew.cell 3⟩) (fun hS => ?_)
  clear hK K
  try simp only [Act.put, List.getElem_toArray, List.getElem_cons_succ, List.getElem_cons_zero, List.setIfInBounds_toArray, List.set_cons_zero, List.set_cons_succ]
  refine rdq 8 (fun K hK => ?_)
  go_simp
  go_at_call 66
  refine (concat3P _ _ _ _ _ A B x _ (Blk.new' W5 _ _ rfl) (HAE.out.kept (oneB W5 _)) (hx2.out.kept (oneB W5 _)) ?hC hbl).mono ?_
  case hC =>
   refine TRow.kept ?_ (oneB W5 _)
   rw [← HBD.out]
   have hlen : _ = _ := HLEN.out
   have hpc := HPC.out
   exact HRE.out.tail (A.length + 1) (by omega) (by omega) (by omega) (fun b' o' e h => by first | (cases e; refine congrArg (fun z => some (⟨_, z, none⟩ : Addr)) ?_; show _ + _ * 4 + 4 = _ + (_ + 1) * 4; omega) | (subst e; show (some (Addr.add _ _) : Option Addr) = _; rw [addAt]; rfl) | (cases e; simp; done) | (cases e; simp; rw [addAt]; done) | (cases e; simp; omega) | (subst e; simp; omega) | (subst e; simp; rw [addAt]; done) | omega)
  rintro y w3 ⟨v3, rfl, ho3, hb3⟩
  have hbz := (oneB W5 _).trans (hb3.mono (by simp))
  have HO3 := Lib.hid (ho3.less (show w.heap.size ≤ _ from by have := HB3.out.size; simp; omega))
  have HLT : Hid (∀ g, v3.ownBlock = some g → w.heap.size + 1 + 1 < g) := fun g hg => by have h1 := ho3.block_ge g hg; have h3 := Hr3.out.lt; simp at h1; omega
  clear ho3 hb3
  have Hp4 := kbq Hp3 hbz
  have Hx4 := kbq Hx3 hbz
  have Hr4 := kbq Hr3 hbz
  have HB4 := ktq HB3 hbz
  have HZ4 := kzq HZ3 hbz.size
  clear Hp3 Hx3 Hr3 HB3 HZ3
  clear hbz HRE HAE hx2
  obtain ⟨p3, c3, hv3⟩ := HO3.out.form
  generalize (A ++ [x] ++ B).length = n3 at hv3
  subst hv3
  try go_wp2_with fail
  refine hK.out _ _ ⟨Hx4.out.cell 0, Hx4.out.cell 1, Hx4.out.cell 2, Hx4.out.cell 3⟩ (fun hS => ?_)
  clear hK K
  try simp only [Act.put, List.getElem_toArray, List.getElem_cons_succ, List.getElem_cons_zero, List.setIfInBounds_toArray, List.set_cons_zero, List.set_cons_succ]
  refine tkq 9 ?_
  refine rdq 10 (fun K hK => ?_)
  have z2 : w3.cell? ⟨w.heap.size, 2, none⟩ = some (.slice (some ⟨b, o, none⟩) xs.length c) := Hp4.out.cell 2
  have f2 := Hp4.out.free 2
  go_simp
  clear z2 f2
  have hch : Chg w.heap.size w3 (w3.setCell ⟨w.heap.size, 2, none⟩ (.slice p3 n3 c3)) := (Chg.refl _ w3).set 2 _
  have Hp5 : Hid (Blk _ w.heap.size #[.int .i64 me, .int .i64 N, .slice p3 n3 c3] 36) := Lib.hid (Hp4.out.set 2 (.slice p3 n3 c3))
  have Hx5 := Lib.hid (Hx4.out.chg hch (by omega))
  have Hr5 := Lib.hid (Hr4.out.chg hch (by omega))
  have HB5 := Lib.hid (HB4.out.setCell (p := ⟨w.heap.size, 2, none⟩) (Nat.le_refl _) (.slice p3 n3 c3))
  have HZ5 : Hid (w.heap.size ≤ (w3.setCell ⟨w.heap.size, 2, none⟩ (.slice p3 n3 c3)).heap.size) := Lib.hid HB5.out.size
  have HO4 := Lib.hid (HO3.out.stay (fun g hg => hch.2 g (HO3.out.lt g hg) (by have := HLT.out g hg; omega)))
  clear HO3 hch Hp4 Hx4 Hr4 HB4 HZ4
  generalize (w3.setCell ⟨w.heap.size, 2, none⟩ (.slice p3 n3 c3)) = W9 at *
  refine hK.out _ _ ⟨Hx5.out.cell 0, Hx5.out.cell 1, Hx5.out.cell 2, Hx5.out.cell 3⟩ (fun hS => ?_)
  clear hK K
  try simp only [Act.put, List.getElem_toArray, List.getElem_cons_succ, List.getElem_cons_zero, List.setIfInBounds_toArray, List.set_cons_zero, List.set_cons_succ]
  refine wpAnyH_done (by kernel_rfl) ?_ _
  clear hS
  have a0 : W9.cell? ⟨w.heap.size, 0, none⟩ = some (.int .i64 me) := Hp5.out.cell 0
  have a1 : W9.cell? ⟨w.heap.size, 1, none⟩ = some (.int .i64 N) := Hp5.out.cell 1
  have a2 : W9.cell? ⟨w.heap.size, 2, none⟩ = some (.slice p3 n3 c3) := Hp5.out.cell 2
  go_wp2_with (with_reducible refine stop_storeT 36 (.tmp 4) (.tmp 32) rfl ?_)
  clear a0 a1 a2
  have HTH : Hid (W9.there (w.heap.size + 1 + 1) 0 3) := Hr5.out.thereAt
  have hch : Hid (Chg (w.heap.size + 1 + 1) W9 (W9.setCells (w.heap.size + 1 + 1) 0 (#[.int .i64 me, .int .i64 N, .slice p3 n3 c3] : Array Value).toList)) := Lib.hid (chg_putL _ _ _ _ _ (Chg.refl _ W9))
  have Hr6 : Hid (Blk (W9.setCells (w.heap.size + 1 + 1) 0 (#[.int .i64 me, .int .i64 N, .slice p3 n3 c3] : Array Value).toList) (w.heap.size + 1 + 1) #[.int .i64 me, .int .i64 N, .slice p3 n3 c3] 36) := Lib.hid (blk_put_all Hr5.out _ rfl)
  have HB6 : Hid (Below w.heap.size w (W9.setCells (w.heap.size + 1 + 1) 0 (#[.int .i64 me, .int .i64 N, .slice p3 n3 c3] : Array Value).toList)) := Lib.hid (below_put (by omega) _ _ _ _ HB5.out)
  have HZ6 := kzq HZ5 hch.out.size
  have Hp6 := kcq Hp5 hch (by omega)
  have Hx6 := kcq Hx5 hch (by omega)
  have HO5 := Lib.hid (HO4.out.stay (fun g hg => hch.out.2 g (HO4.out.lt g hg) (by have := HLT.out g hg; omega)))
  clear HO4 hch Hp5 Hx5 Hr5 HB5 HZ5
  refine wpList_store_mid rfl 36 (.tmp 4) (.tmp 32) rfl (w.heap.size + 1 + 1) 0 #[.int .i64 me, .int .i64 N, .slice p3 n3 c3] rfl rfl HTH.out (infoP3 rfl) (all_oneCell_toArray (by intro u hu; simp at hu; rcases hu with rfl | rfl | rfl <;> rfl)) ?_
  generalize (W9.setCells (w.heap.size + 1 + 1) 0 (#[.int .i64 me, .int .i64 N, .slice p3 n3 c3] : Array Value).toList) = W10 at *
  clear HTH
  go_wp2_with fail
  have hf := Hr6.out
  refine bodyPost_ret (v := .agg #[.int .i64 me, .int .i64 N, .slice p3 n3 c3]) (by simp [results, Try.results50, go_sem, hf.cell 0, hf.cell 1, hf.cell 2]) rfl ⟨p3, n3, c3, rfl, HO5.out, HB6.out⟩
set_option linter.unusedSimpArgs false in
set_option maxHeartbeats 4000000 in
set_option maxRecDepth 100000 in
theorem pwith_fo (w : World) (me N : Int) (p : Option Addr) (n c : Nat) (xs A B : List PtX) (q x : PtX) (hr : TRow encP w (.slice p n c) xs) (hn : n = xs.length) (hl : xs.length ≤ 2000) (hA : AroundF posC ⟨x.cy, 0, 0⟩ xs A [q] B) (hcv : ¬ c - A.length = 1) :
  Calls Try.prog 50 #[.agg #[.int .i64 me, .int .i64 N, .slice p n c], x.v] w fun e w' => ∃ p' n' c', e = .returned (.agg #[.int .i64 me, .int .i64 N, .slice p' n' c']) ∧ OwnT encP w' w.heap.size 58 (.slice p' n' c') (A ++ [x] ++ B) ∧ Below w.heap.size w w' := by
 subst hn
 have hall := hA.all
 have hlen : xs.length = A.length + 1 + B.length := by rw [hall]; simp; omega
 have hAt : xs.take A.length = A := by rw [hall, List.append_assoc, List.take_left]
 have hBd : xs.drop (A.length + 1) = B := by rw [hall, List.drop_left' (by simp)]
 have hpc : xs.length ≤ c := hr.cap
 have HLEN := Lib.hid hlen
 have HPC := Lib.hid hpc
 have HR := Lib.hid hr
 have HAT := Lib.hid hAt
 have HBD := Lib.hid hBd
 have HAA := Lib.hid hA
 have HL := Lib.hid hl
 obtain ⟨b, o, hpv⟩ : ∃ b o, p = some ⟨b, o, none⟩ := by obtain ⟨b, o, h, _⟩ := hr.at_ A.length (by omega); exact ⟨b, o, h⟩
 subst hpv
 clear hr hall hAt hBd hA
 unfold PtX.v
 have hcap1 : ((A.length : Nat) : Int) ≤ (xs.length : Int) := by omega
 have hcap2 : (xs.length : Int) ≤ (c : Int) := by omega
 have hcap3 : ((A.length : Nat) : Int) ≤ (c : Int) := by omega
 have hcn : A.length ≤ c := by omega
 have hcap4 : ((A.length : Nat) : Int) < (xs.length : Int) := by omega
 have hcap5 : 1 ≤ xs.length - A.length := by omega
 have hcap6 : 1 ≤ c - A.length := by omega
 have hcap7 : ¬ c - A.length = 0 := by omega
 have hbl : A.length + B.length ≤ 5000 := by omega
 clear hlen hl hpc
 have HB0 : Hid (Below w.heap.size w (((w.alloc (.cells #[.int .i64 me, .int .i64 N, .slice (some ⟨b, o, none⟩) xs.length c] 36)).alloc (.cells #[.int .i64 x.cy, .int .i64 x.cu, .int .i64 x.st, .slice x.p x.ls.length x.c] 58)).alloc (.cells #[.int .i64 0, .int .i64 0, .slice none 0 0] 36))) := Lib.hid ((((oneB w _).alloc (by simp <;> omega) _).alloc (by simp <;> omega) _))
 have Hp0 : Hid (Blk (((w.alloc (.cells #[.int .i64 me, .int .i64 N, .slice (some ⟨b, o, none⟩) xs.length c] 36)).alloc (.cells #[.int .i64 x.cy, .int .i64 x.cu, .int .i64 x.st, .slice x.p x.ls.length x.c] 58)).alloc (.cells #[.int .i64 0, .int .i64 0, .slice none 0 0] 36)) w.heap.size #[.int .i64 me, .int .i64 N, .slice (some ⟨b, o, none⟩) xs.length c] 36) := Lib.hid (((Blk.new w #[.int .i64 me, .int .i64 N, .slice (some ⟨b, o, none⟩) xs.length c] 36).alloc _).alloc _)
 have Hx0 : Hid (Blk (((w.alloc (.cells #[.int .i64 me, .int .i64 N, .slice (some ⟨b, o, none⟩) xs.length c] 36)).alloc (.cells #[.int .i64 x.cy, .int .i64 x.cu, .int .i64 x.st, .slice x.p x.ls.length x.c] 58)).alloc (.cells #[.int .i64 0, .int .i64 0, .slice none 0 0] 36)) (w.heap.size + 1) #[.int .i64 x.cy, .int .i64 x.cu, .int .i64 x.st, .slice x.p x.ls.length x.c] 58) := Lib.hid ((Blk.new' (w.alloc (.cells #[.int .i64 me, .int .i64 N, .slice (some ⟨b, o, none⟩) xs.length c] 36)) #[.int .i64 x.cy, .int .i64 x.cu, .int .i64 x.st, .slice x.p x.ls.length x.c] 58 (by simp)).alloc _)
 have Hr0 : Hid (Blk (((w.alloc (.cells #[.int .i64 me, .int .i64 N, .slice (some ⟨b, o, none⟩) xs.length c] 36)).alloc (.cells #[.int .i64 x.cy, .int .i64 x.cu, .int .i64 x.st, .slice x.p x.ls.length x.c] 58)).alloc (.cells #[.int .i64 0, .int .i64 0, .slice none 0 0] 36)) (w.heap.size + 1 + 1) #[.int .i64 0, .int .i64 0, .slice none 0 0] 36) := Lib.hid (Blk.new' ((w.alloc (.cells #[.int .i64 me, .int .i64 N, .slice (some ⟨b, o, none⟩) xs.length c] 36)).alloc (.cells #[.int .i64 x.cy, .int .i64 x.cu, .int .i64 x.st, .slice x.p x.ls.length x.c] 58)) #[.int .i64 0, .int .i64 0, .slice none 0 0] 36 (by simp))
 have HZ0 : Hid (w.heap.size ≤ (((w.alloc (.cells #[.int .i64 me, .int .i64 N, .slice (some ⟨b, o, none⟩) xs.length c] 36)).alloc (.cells #[.int .i64 x.cy, .int .i64 x.cu, .int .i64 x.st, .slice x.p x.ls.length x.c] 58)).alloc (.cells #[.int .i64 0, .int .i64 0, .slice none 0 0] 36)).heap.size) := Lib.hid HB0.out.size
 go_enter Try.func50, Try.ntmps50
 go_upto_region 1 with fail
 generalize (((w.alloc (.cells #[.int .i64 me, .int .i64 N, .slice (some ⟨b, o, none⟩) xs.length c] 36)).alloc (.cells #[.int .i64 x.cy, .int .i64 x.cu, .int .i64 x.st, .slice x.p x.ls.length x.c] 58)).alloc (.cells #[.int .i64 0, .int .i64 0, .slice none 0 0] 36)) = W at *
 have HG := Lib.hid (find_any W me N (some ⟨b, o, none⟩) xs.length c xs A [q] B x.cy (HR.out.kept HB0.out) rfl HL.out HAA.out)
 rw [show decide (([q] : List PtX) ≠ []) = true by simp] at HG
 have a0 : W.cell? ⟨w.heap.size, 0, none⟩ = some (.int .i64 me) := Hp0.out.cell 0
 have a1 : W.cell? ⟨w.heap.size, 1, none⟩ = some (.int .i64 N) := Hp0.out.cell 1
 have a2 : W.cell? ⟨w.heap.size, 2, none⟩ = some (.slice (some ⟨b, o, none⟩) xs.length c) := Hp0.out.cell 2
 have c0 : W.cell? ⟨(w.heap.size + 1), 0, none⟩ = some (.int .i64 x.cy) := Hx0.out.cell 0
 go_wp2_with fail
 clear a0 a1 a2 c0
 refine HG.out.mono ?_
 rintro y w1 ⟨rfl, hb⟩
 clear HG
 have Hp1 := kbq Hp0 hb
 have Hx1 := kbq Hx0 hb
 have Hr1 := kbq Hr0 hb
 have HB1 := ktq HB0 hb
 have HZ1 := kzq HZ0 hb.size
 clear Hp0 Hx0 Hr0 HB0 HZ0
 clear hb
 have a2 : w1.cell? ⟨w.heap.size, 2, none⟩ = some (.slice (some ⟨b, o, none⟩) xs.length c) := Hp1.out.cell 2
 go_upto_region 5 with fail
 clear a2
 have hrw := HR.out.kept HB1.out
 have ha2 := hrw.take A.length (by have := HLEN.out; omega)
 rw [HAT.out] at ha2
 have HRW := Lib.hid hrw
 have HA2 := Lib.hid ha2
 clear hrw ha2
 have hbd := (Below.refl w1.heap.size w1).drew
 refine wp_region_held_drew (S := fun w' => w'.cell? ⟨w.heap.size + 1, 0, none⟩ = some (.int .i64 x.cy) ∧ w'.cell? ⟨w.heap.size + 1, 1, none⟩ = some (.int .i64 x.cu) ∧ w'.cell? ⟨w.heap.size + 1, 2, none⟩ = some (.int .i64 x.st) ∧ w'.cell? ⟨w.heap.size + 1, 3, none⟩ = some (.slice x.p x.ls.length x.c)) (by kernel_rfl) ⟨(Hx1.out.below hbd Hx1.out.lt).cell 0, (Hx1.out.below hbd Hx1.out.lt).cell 1, (Hx1.out.below hbd Hx1.out.lt).cell 2, (Hx1.out.below hbd Hx1.out.lt).cell 3⟩ (fun hS0 => ?_)
 have HRD := Lib.hid (HRW.out.kept hbd)
 have HAD := Lib.hid (HA2.out.kept hbd)
 clear HRW HA2
 generalize w1.drew = WD at *
 have Hp2 := kbq Hp1 hbd
 have Hx2 := kbq Hx1 hbd
 have Hr2 := kbq Hr1 hbd
 have HB2 := ktq HB1 hbd
 have HZ2 := kzq HZ1 hbd.size
 clear Hp1 Hx1 Hr1 HB1 HZ1
 clear hbd
 refine tkq 0 ?_
 refine tkq 2 ?_
 refine tkq 4 ?_
 refine tkq 6 ?_
 refine wpAnyH_ready (rs := [1, 5]) (by kernel_rfl) (by simp) ?_
 refine AllReadyH.cons rfl (fun K hK => ?_) (AllReadyH.cons rfl (fun K hK => ?_) AllReadyH.nil)
 ·skip
  have a2 : WD.cell? ⟨w.heap.size, 2, none⟩ = some (.slice (some ⟨b, o, none⟩) xs.length c) := Hp2.out.cell 2
  go_simp
  clear a2
  refine hK.out _ _ ⟨Hx2.out.cell 0, Hx2.out.cell 1, Hx2.out.cell 2, Hx2.out.cell 3⟩ (fun hS => ?_)
  clear hK K
  try simp only [Act.put, List.getElem_toArray, List.getElem_cons_succ, List.getElem_cons_zero, List.setIfInBounds_toArray, List.set_cons_zero, List.set_cons_succ]
  refine tkq 3 ?_
  refine rdq 5 (fun K hK => ?_)
  go_simp
  have hx2 := TRow.one_ encP x (Blk.new WD #[.int .i64 x.cy, .int .i64 x.cu, .int .i64 x.st, .slice x.p x.ls.length x.c] 58) rfl (Nat.le_refl 1)
  have hbz := (oneB WD (.cells #[.int .i64 x.cy, .int .i64 x.cu, .int .i64 x.st, .slice x.p x.ls.length x.c] 58))
  have HG0 : Hid (WD.heap.size < (WD.alloc (.cells #[.int .i64 x.cy, .int .i64 x.cu, .int .i64 x.st, .slice x.p x.ls.length x.c] 58)).heap.size) := by show _ < _; simp
  have hx2 := Lib.hid hx2
  generalize (WD.alloc (.cells #[.int .i64 x.cy, .int .i64 x.cu, .int .i64 x.st, .slice x.p x.ls.length x.c] 58)) = W5 at *
  have Hp3 := kbq Hp2 hbz
  have Hx3 := kbq Hx2 hbz
  have Hr3 := kbq Hr2 hbz
  have HB3 := ktq HB2 hbz
  have HZ3 := kzq HZ2 hbz.size
  clear Hp2 Hx2 Hr2 HB2 HZ2
  have HRE := Lib.hid (HRD.out.kept hbz)
  have HAE := Lib.hid (HAD.out.kept hbz)
  clear hbz HRD HAD
  refine hK.out _ _ ⟨Hx3.out.cell 0, Hx3.out.cell 1, Hx3.out.cell 2, Hx3.out.cell 3⟩ (fun hS => ?_)
  clear hK K
  try simp only [Act.put, List.getElem_toArray, List.getElem_cons_succ, List.getElem_cons_zero, List.setIfInBounds_toArray, List.set_cons_zero, List.set_cons_succ]
  refine rdq 7 (fun K hK => ?_)
  go_simp
  refine hK.out _ _ (by first | exact ⟨(Hx3.out.alloc _).cell 0, (Hx3.out.alloc _).cell 1, (Hx3.out.alloc _).cell 2, (Hx3.out.alloc _).cell 3⟩ | exact ⟨(Hx3.out.alloc _).drew.cell 0, (Hx3.out.alloc _).drew.cell 1, (Hx3.out.alloc _).drew.cell 2, (Hx3.out.alloc _).drew.cell 3⟩) (fun hS => ?_)
  clear hK K
  try simp only [Act.put, List.getElem_toArray, List.getElem_cons_succ, List.getElem_cons_zero, List.setIfInBounds_toArray, List.set_cons_zero, List.set_cons_succ]
  refine rdq 8 (fun K hK => ?_)
  go_simp
  go_at_call 66
  refine (concat3P _ _ _ _ _ A B x _ (Blk.new' W5 _ _ rfl) (HAE.out.kept (oneB W5 _)) (hx2.out.kept (oneB W5 _)) ?hC hbl).mono ?_
  case hC =>
   refine TRow.kept ?_ (oneB W5 _)
   rw [← HBD.out]
   have hlen : _ = _ := HLEN.out
   have hpc := HPC.out
   exact HRE.out.tail (A.length + 1) (by omega) (by omega) (by omega) (fun b' o' e h => by first | (cases e; refine congrArg (fun z => some (⟨_, z, none⟩ : Addr)) ?_; show _ + _ * 4 + 4 = _ + (_ + 1) * 4; omega) | (subst e; show (some (Addr.add _ _) : Option Addr) = _; rw [addAt]; rfl) | (cases e; simp; done) | (cases e; simp; rw [addAt]; done) | (cases e; simp; omega) | (subst e; simp; omega) | (subst e; simp; rw [addAt]; done) | omega)
  rintro y w3 ⟨v3, rfl, ho3, hb3⟩
  have hbz := (oneB W5 _).trans (hb3.mono (by simp))
  have HO3 := Lib.hid (ho3.less (show w.heap.size ≤ _ from by have := HB3.out.size; simp; omega))
  have HLT : Hid (∀ g, v3.ownBlock = some g → w.heap.size + 1 + 1 < g) := fun g hg => by have h1 := ho3.block_ge g hg; have h3 := Hr3.out.lt; simp at h1; omega
  clear ho3 hb3
  have Hp4 := kbq Hp3 hbz
  have Hx4 := kbq Hx3 hbz
  have Hr4 := kbq Hr3 hbz
  have HB4 := ktq HB3 hbz
  have HZ4 := kzq HZ3 hbz.size
  clear Hp3 Hx3 Hr3 HB3 HZ3
  clear hbz HRE HAE hx2
  obtain ⟨p3, c3, hv3⟩ := HO3.out.form
  generalize (A ++ [x] ++ B).length = n3 at hv3
  subst hv3
  try go_wp2_with fail
  refine hK.out _ _ ⟨Hx4.out.cell 0, Hx4.out.cell 1, Hx4.out.cell 2, Hx4.out.cell 3⟩ (fun hS => ?_)
  clear hK K
  try simp only [Act.put, List.getElem_toArray, List.getElem_cons_succ, List.getElem_cons_zero, List.setIfInBounds_toArray, List.set_cons_zero, List.set_cons_succ]
  refine tkq 9 ?_
  refine rdq 10 (fun K hK => ?_)
  have z2 : w3.cell? ⟨w.heap.size, 2, none⟩ = some (.slice (some ⟨b, o, none⟩) xs.length c) := Hp4.out.cell 2
  have f2 := Hp4.out.free 2
  go_simp
  clear z2 f2
  have hch : Chg w.heap.size w3 (w3.setCell ⟨w.heap.size, 2, none⟩ (.slice p3 n3 c3)) := (Chg.refl _ w3).set 2 _
  have Hp5 : Hid (Blk _ w.heap.size #[.int .i64 me, .int .i64 N, .slice p3 n3 c3] 36) := Lib.hid (Hp4.out.set 2 (.slice p3 n3 c3))
  have Hx5 := Lib.hid (Hx4.out.chg hch (by omega))
  have Hr5 := Lib.hid (Hr4.out.chg hch (by omega))
  have HB5 := Lib.hid (HB4.out.setCell (p := ⟨w.heap.size, 2, none⟩) (Nat.le_refl _) (.slice p3 n3 c3))
  have HZ5 : Hid (w.heap.size ≤ (w3.setCell ⟨w.heap.size, 2, none⟩ (.slice p3 n3 c3)).heap.size) := Lib.hid HB5.out.size
  have HO4 := Lib.hid (HO3.out.stay (fun g hg => hch.2 g (HO3.out.lt g hg) (by have := HLT.out g hg; omega)))
  clear HO3 hch Hp4 Hx4 Hr4 HB4 HZ4
  generalize (w3.setCell ⟨w.heap.size, 2, none⟩ (.slice p3 n3 c3)) = W9 at *
  refine hK.out _ _ ⟨Hx5.out.cell 0, Hx5.out.cell 1, Hx5.out.cell 2, Hx5.out.cell 3⟩ (fun hS => ?_)
  clear hK K
  try simp only [Act.put, List.getElem_toArray, List.getElem_cons_succ, List.getElem_cons_zero, List.setIfInBounds_toArray, List.set_cons_zero, List.set_cons_succ]
  refine wpAnyH_done (by kernel_rfl) ?_ _
  clear hS
  have a0 : W9.cell? ⟨w.heap.size, 0, none⟩ = some (.int .i64 me) := Hp5.out.cell 0
  have a1 : W9.cell? ⟨w.heap.size, 1, none⟩ = some (.int .i64 N) := Hp5.out.cell 1
  have a2 : W9.cell? ⟨w.heap.size, 2, none⟩ = some (.slice p3 n3 c3) := Hp5.out.cell 2
  go_wp2_with (with_reducible refine stop_storeT 36 (.tmp 4) (.tmp 32) rfl ?_)
  clear a0 a1 a2
  have HTH : Hid (W9.there (w.heap.size + 1 + 1) 0 3) := Hr5.out.thereAt
  have hch : Hid (Chg (w.heap.size + 1 + 1) W9 (W9.setCells (w.heap.size + 1 + 1) 0 (#[.int .i64 me, .int .i64 N, .slice p3 n3 c3] : Array Value).toList)) := Lib.hid (chg_putL _ _ _ _ _ (Chg.refl _ W9))
  have Hr6 : Hid (Blk (W9.setCells (w.heap.size + 1 + 1) 0 (#[.int .i64 me, .int .i64 N, .slice p3 n3 c3] : Array Value).toList) (w.heap.size + 1 + 1) #[.int .i64 me, .int .i64 N, .slice p3 n3 c3] 36) := Lib.hid (blk_put_all Hr5.out _ rfl)
  have HB6 : Hid (Below w.heap.size w (W9.setCells (w.heap.size + 1 + 1) 0 (#[.int .i64 me, .int .i64 N, .slice p3 n3 c3] : Array Value).toList)) := Lib.hid (below_put (by omega) _ _ _ _ HB5.out)
  have HZ6 := kzq HZ5 hch.out.size
  have Hp6 := kcq Hp5 hch (by omega)
  have Hx6 := kcq Hx5 hch (by omega)
  have HO5 := Lib.hid (HO4.out.stay (fun g hg => hch.out.2 g (HO4.out.lt g hg) (by have := HLT.out g hg; omega)))
  clear HO4 hch Hp5 Hx5 Hr5 HB5 HZ5
  refine wpList_store_mid rfl 36 (.tmp 4) (.tmp 32) rfl (w.heap.size + 1 + 1) 0 #[.int .i64 me, .int .i64 N, .slice p3 n3 c3] rfl rfl HTH.out (infoP3 rfl) (all_oneCell_toArray (by intro u hu; simp at hu; rcases hu with rfl | rfl | rfl <;> rfl)) ?_
  generalize (W9.setCells (w.heap.size + 1 + 1) 0 (#[.int .i64 me, .int .i64 N, .slice p3 n3 c3] : Array Value).toList) = W10 at *
  clear HTH
  go_wp2_with fail
  have hf := Hr6.out
  refine bodyPost_ret (v := .agg #[.int .i64 me, .int .i64 N, .slice p3 n3 c3]) (by simp [results, Try.results50, go_sem, hf.cell 0, hf.cell 1, hf.cell 2]) rfl ⟨p3, n3, c3, rfl, HO5.out, HB6.out⟩
 ·skip
  go_simp
  have hx2 := TRow.one_ encP x (Blk.new WD #[.int .i64 x.cy, .int .i64 x.cu, .int .i64 x.st, .slice x.p x.ls.length x.c] 58) rfl (Nat.le_refl 1)
  have hbz := (oneB WD (.cells #[.int .i64 x.cy, .int .i64 x.cu, .int .i64 x.st, .slice x.p x.ls.length x.c] 58))
  have HG0 : Hid (WD.heap.size < (WD.alloc (.cells #[.int .i64 x.cy, .int .i64 x.cu, .int .i64 x.st, .slice x.p x.ls.length x.c] 58)).heap.size) := by show _ < _; simp
  have hx2 := Lib.hid hx2
  generalize (WD.alloc (.cells #[.int .i64 x.cy, .int .i64 x.cu, .int .i64 x.st, .slice x.p x.ls.length x.c] 58)) = W5 at *
  have Hp3 := kbq Hp2 hbz
  have Hx3 := kbq Hx2 hbz
  have Hr3 := kbq Hr2 hbz
  have HB3 := ktq HB2 hbz
  have HZ3 := kzq HZ2 hbz.size
  clear Hp2 Hx2 Hr2 HB2 HZ2
  have HRE := Lib.hid (HRD.out.kept hbz)
  have HAE := Lib.hid (HAD.out.kept hbz)
  clear hbz HRD HAD
  refine hK.out _ _ ⟨Hx3.out.cell 0, Hx3.out.cell 1, Hx3.out.cell 2, Hx3.out.cell 3⟩ (fun hS => ?_)
  clear hK K
  try simp only [Act.put, List.getElem_toArray, List.getElem_cons_succ, List.getElem_cons_zero, List.setIfInBounds_toArray, List.set_cons_zero, List.set_cons_succ]
  refine rdq 1 (fun K hK => ?_)
  have a2 : W5.cell? ⟨w.heap.size, 2, none⟩ = some (.slice (some ⟨b, o, none⟩) xs.length c) := Hp3.out.cell 2
  go_simp
  clear a2
  refine hK.out _ _ ⟨Hx3.out.cell 0, Hx3.out.cell 1, Hx3.out.cell 2, Hx3.out.cell 3⟩ (fun hS => ?_)
  clear hK K
  try simp only [Act.put, List.getElem_toArray, List.getElem_cons_succ, List.getElem_cons_zero, List.setIfInBounds_toArray, List.set_cons_zero, List.set_cons_succ]
  refine tkq 3 ?_
  refine rdq 7 (fun K hK => ?_)
  go_simp
  refine hK.out _ _ (by first | exact ⟨(Hx3.out.alloc _).cell 0, (Hx3.out.alloc _).cell 1, (Hx3.out.alloc _).cell 2, (Hx3.out.alloc _).cell 3⟩ | exact ⟨(Hx3.out.alloc _).drew.cell 0, (Hx3.out.alloc _).drew.cell 1, (Hx3.out.alloc _).drew.cell 2, (Hx3.out.alloc _).drew.cell 3⟩) (fun hS => ?_)
  clear hK K
  try simp only [Act.put, List.getElem_toArray, List.getElem_cons_succ, List.getElem_cons_zero, List.setIfInBounds_toArray, List.set_cons_zero, List.set_cons_succ]
  refine rdq 8 (fun K hK => ?_)
  go_simp
  go_at_call 66
  refine (concat3P _ _ _ _ _ A B x _ (Blk.new' W5 _ _ rfl) (HAE.out.kept (oneB W5 _)) (hx2.out.kept (oneB W5 _)) ?hC hbl).mono ?_
  case hC =>
   refine TRow.kept ?_ (oneB W5 _)
   rw [← HBD.out]
   have hlen : _ = _ := HLEN.out
   have hpc := HPC.out
   exact HRE.out.tail (A.length + 1) (by omega) (by omega) (by omega) (fun b' o' e h => by first | (cases e; refine congrArg (fun z => some (⟨_, z, none⟩ : Addr)) ?_; show _ + _ * 4 + 4 = _ + (_ + 1) * 4; omega) | (subst e; show (some (Addr.add _ _) : Option Addr) = _; rw [addAt]; rfl) | (cases e; simp; done) | (cases e; simp; rw [addAt]; done) | (cases e; simp; omega) | (subst e; simp; omega) | (subst e; simp; rw [addAt]; done) | omega)
  rintro y w3 ⟨v3, rfl, ho3, hb3⟩
  have hbz := (oneB W5 _).trans (hb3.mono (by simp))
  have HO3 := Lib.hid (ho3.less (show w.heap.size ≤ _ from by have := HB3.out.size; simp; omega))
  have HLT : Hid (∀ g, v3.ownBlock = some g → w.heap.size + 1 + 1 < g) := fun g hg => by have h1 := ho3.block_ge g hg; have h3 := Hr3.out.lt; simp at h1; omega
  clear ho3 hb3
  have Hp4 := kbq Hp3 hbz
  have Hx4 := kbq Hx3 hbz
  have Hr4 := kbq Hr3 hbz
  have HB4 := ktq HB3 hbz
  have HZ4 := kzq HZ3 hbz.size
  clear Hp3 Hx3 Hr3 HB3 HZ3
  clear hbz HRE HAE hx2
  obtain ⟨p3, c3, hv3⟩ := HO3.out.form
  generalize (A ++ [x] ++ B).length = n3 at hv3
  subst hv3
  try go_wp2_with fail
  refine hK.out _ _ ⟨Hx4.out.cell 0, Hx4.out.cell 1, Hx4.out.cell 2, Hx4.out.cell 3⟩ (fun hS => ?_)
  clear hK K
  try simp only [Act.put, List.getElem_toArray, List.getElem_cons_succ, List.getElem_cons_zero, List.setIfInBounds_toArray, List.set_cons_zero, List.set_cons_succ]
  refine tkq 9 ?_
  refine rdq 10 (fun K hK => ?_)
  have z2 : w3.cell? ⟨w.heap.size, 2, none⟩ = some (.slice (some ⟨b, o, none⟩) xs.length c) := Hp4.out.cell 2
  have f2 := Hp4.out.free 2
  go_simp
  clear z2 f2
  have hch : Chg w.heap.size w3 (w3.setCell ⟨w.heap.size, 2, none⟩ (.slice p3 n3 c3)) := (Chg.refl _ w3).set 2 _
  have Hp5 : Hid (Blk _ w.heap.size #[.int .i64 me, .int .i64 N, .slice p3 n3 c3] 36) := Lib.hid (Hp4.out.set 2 (.slice p3 n3 c3))
  have Hx5 := Lib.hid (Hx4.out.chg hch (by omega))
  have Hr5 := Lib.hid (Hr4.out.chg hch (by omega))
  have HB5 := Lib.hid (HB4.out.setCell (p := ⟨w.heap.size, 2, none⟩) (Nat.le_refl _) (.slice p3 n3 c3))
  have HZ5 : Hid (w.heap.size ≤ (w3.setCell ⟨w.heap.size, 2, none⟩ (.slice p3 n3 c3)).heap.size) := Lib.hid HB5.out.size
  have HO4 := Lib.hid (HO3.out.stay (fun g hg => hch.2 g (HO3.out.lt g hg) (by have := HLT.out g hg; omega)))
  clear HO3 hch Hp4 Hx4 Hr4 HB4 HZ4
  generalize (w3.setCell ⟨w.heap.size, 2, none⟩ (.slice p3 n3 c3)) = W9 at *
  refine hK.out _ _ ⟨Hx5.out.cell 0, Hx5.out.cell 1, Hx5.out.cell 2, Hx5.out.cell 3⟩ (fun hS => ?_)
  clear hK K
  try simp only [Act.put, List.getElem_toArray, List.getElem_cons_succ, List.getElem_cons_zero, List.setIfInBounds_toArray, List.set_cons_zero, List.set_cons_succ]
  refine wpAnyH_done (by kernel_rfl) ?_ _
  clear hS
  have a0 : W9.cell? ⟨w.heap.size, 0, none⟩ = some (.int .i64 me) := Hp5.out.cell 0
  have a1 : W9.cell? ⟨w.heap.size, 1, none⟩ = some (.int .i64 N) := Hp5.out.cell 1
  have a2 : W9.cell? ⟨w.heap.size, 2, none⟩ = some (.slice p3 n3 c3) := Hp5.out.cell 2
  go_wp2_with (with_reducible refine stop_storeT 36 (.tmp 4) (.tmp 32) rfl ?_)
  clear a0 a1 a2
  have HTH : Hid (W9.there (w.heap.size + 1 + 1) 0 3) := Hr5.out.thereAt
  have hch : Hid (Chg (w.heap.size + 1 + 1) W9 (W9.setCells (w.heap.size + 1 + 1) 0 (#[.int .i64 me, .int .i64 N, .slice p3 n3 c3] : Array Value).toList)) := Lib.hid (chg_putL _ _ _ _ _ (Chg.refl _ W9))
  have Hr6 : Hid (Blk (W9.setCells (w.heap.size + 1 + 1) 0 (#[.int .i64 me, .int .i64 N, .slice p3 n3 c3] : Array Value).toList) (w.heap.size + 1 + 1) #[.int .i64 me, .int .i64 N, .slice p3 n3 c3] 36) := Lib.hid (blk_put_all Hr5.out _ rfl)
  have HB6 : Hid (Below w.heap.size w (W9.setCells (w.heap.size + 1 + 1) 0 (#[.int .i64 me, .int .i64 N, .slice p3 n3 c3] : Array Value).toList)) := Lib.hid (below_put (by omega) _ _ _ _ HB5.out)
  have HZ6 := kzq HZ5 hch.out.size
  have Hp6 := kcq Hp5 hch (by omega)
  have Hx6 := kcq Hx5 hch (by omega)
  have HO5 := Lib.hid (HO4.out.stay (fun g hg => hch.out.2 g (HO4.out.lt g hg) (by have := HLT.out g hg; omega)))
  clear HO4 hch Hp5 Hx5 Hr5 HB5 HZ5
  refine wpList_store_mid rfl 36 (.tmp 4) (.tmp 32) rfl (w.heap.size + 1 + 1) 0 #[.int .i64 me, .int .i64 N, .slice p3 n3 c3] rfl rfl HTH.out (infoP3 rfl) (all_oneCell_toArray (by intro u hu; simp at hu; rcases hu with rfl | rfl | rfl <;> rfl)) ?_
  generalize (W9.setCells (w.heap.size + 1 + 1) 0 (#[.int .i64 me, .int .i64 N, .slice p3 n3 c3] : Array Value).toList) = W10 at *
  clear HTH
  go_wp2_with fail
  have hf := Hr6.out
  refine bodyPost_ret (v := .agg #[.int .i64 me, .int .i64 N, .slice p3 n3 c3]) (by simp [results, Try.results50, go_sem, hf.cell 0, hf.cell 1, hf.cell 2]) rfl ⟨p3, n3, c3, rfl, HO5.out, HB6.out⟩
set_option linter.unusedSimpArgs false in
set_option maxHeartbeats 4000000 in
set_option maxRecDepth 100000 in
theorem pwith_nc (w : World) (me N : Int) (p : Option Addr) (n c : Nat) (xs A B : List PtX) (x : PtX) (hr : TRow encP w (.slice p n c) xs) (hn : n = xs.length) (hl : xs.length ≤ 2000) (hA : AroundF posC ⟨x.cy, 0, 0⟩ xs A [] B) (hcv : c - A.length = 0) :
  Calls Try.prog 50 #[.agg #[.int .i64 me, .int .i64 N, .slice p n c], x.v] w fun e w' => ∃ p' n' c', e = .returned (.agg #[.int .i64 me, .int .i64 N, .slice p' n' c']) ∧ OwnT encP w' w.heap.size 58 (.slice p' n' c') (A ++ [x] ++ B) ∧ Below w.heap.size w w' := by
 subst hn
 have hall := hA.all
 have hlen : xs.length = A.length + 0 + B.length := by rw [hall]; simp
 have hAt : xs.take A.length = A := by rw [hall, List.append_assoc, List.take_left]
 have hBd : xs.drop (A.length + 0) = B := by rw [hall, List.drop_left' (by simp)]
 have hpc : xs.length ≤ c := hr.cap
 have HLEN := Lib.hid hlen
 have HPC := Lib.hid hpc
 have HR := Lib.hid hr
 have HAT := Lib.hid hAt
 have HBD := Lib.hid hBd
 have HAA := Lib.hid hA
 have HL := Lib.hid hl
 clear hr hall hAt hBd hA
 unfold PtX.v
 have hcap1 : ((A.length : Nat) : Int) ≤ (xs.length : Int) := by omega
 have hcap2 : (xs.length : Int) ≤ (c : Int) := by omega
 have hcap3 : ((A.length : Nat) : Int) ≤ (c : Int) := by omega
 have hcn : A.length ≤ c := by omega
 have hbl : A.length + B.length ≤ 5000 := by omega
 clear hlen hl hpc
 have HB0 : Hid (Below w.heap.size w (((w.alloc (.cells #[.int .i64 me, .int .i64 N, .slice p xs.length c] 36)).alloc (.cells #[.int .i64 x.cy, .int .i64 x.cu, .int .i64 x.st, .slice x.p x.ls.length x.c] 58)).alloc (.cells #[.int .i64 0, .int .i64 0, .slice none 0 0] 36))) := Lib.hid ((((oneB w _).alloc (by simp <;> omega) _).alloc (by simp <;> omega) _))
 have Hp0 : Hid (Blk (((w.alloc (.cells #[.int .i64 me, .int .i64 N, .slice p xs.length c] 36)).alloc (.cells #[.int .i64 x.cy, .int .i64 x.cu, .int .i64 x.st, .slice x.p x.ls.length x.c] 58)).alloc (.cells #[.int .i64 0, .int .i64 0, .slice none 0 0] 36)) w.heap.size #[.int .i64 me, .int .i64 N, .slice p xs.length c] 36) := Lib.hid (((Blk.new w #[.int .i64 me, .int .i64 N, .slice p xs.length c] 36).alloc _).alloc _)
 have Hx0 : Hid (Blk (((w.alloc (.cells #[.int .i64 me, .int .i64 N, .slice p xs.length c] 36)).alloc (.cells #[.int .i64 x.cy, .int .i64 x.cu, .int .i64 x.st, .slice x.p x.ls.length x.c] 58)).alloc (.cells #[.int .i64 0, .int .i64 0, .slice none 0 0] 36)) (w.heap.size + 1) #[.int .i64 x.cy, .int .i64 x.cu, .int .i64 x.st, .slice x.p x.ls.length x.c] 58) := Lib.hid ((Blk.new' (w.alloc (.cells #[.int .i64 me, .int .i64 N, .slice p xs.length c] 36)) #[.int .i64 x.cy, .int .i64 x.cu, .int .i64 x.st, .slice x.p x.ls.length x.c] 58 (by simp)).alloc _)
 have Hr0 : Hid (Blk (((w.alloc (.cells #[.int .i64 me, .int .i64 N, .slice p xs.length c] 36)).alloc (.cells #[.int .i64 x.cy, .int .i64 x.cu, .int .i64 x.st, .slice x.p x.ls.length x.c] 58)).alloc (.cells #[.int .i64 0, .int .i64 0, .slice none 0 0] 36)) (w.heap.size + 1 + 1) #[.int .i64 0, .int .i64 0, .slice none 0 0] 36) := Lib.hid (Blk.new' ((w.alloc (.cells #[.int .i64 me, .int .i64 N, .slice p xs.length c] 36)).alloc (.cells #[.int .i64 x.cy, .int .i64 x.cu, .int .i64 x.st, .slice x.p x.ls.length x.c] 58)) #[.int .i64 0, .int .i64 0, .slice none 0 0] 36 (by simp))
 have HZ0 : Hid (w.heap.size ≤ (((w.alloc (.cells #[.int .i64 me, .int .i64 N, .slice p xs.length c] 36)).alloc (.cells #[.int .i64 x.cy, .int .i64 x.cu, .int .i64 x.st, .slice x.p x.ls.length x.c] 58)).alloc (.cells #[.int .i64 0, .int .i64 0, .slice none 0 0] 36)).heap.size) := Lib.hid HB0.out.size
 go_enter Try.func50, Try.ntmps50
 go_upto_region 1 with fail
 generalize (((w.alloc (.cells #[.int .i64 me, .int .i64 N, .slice p xs.length c] 36)).alloc (.cells #[.int .i64 x.cy, .int .i64 x.cu, .int .i64 x.st, .slice x.p x.ls.length x.c] 58)).alloc (.cells #[.int .i64 0, .int .i64 0, .slice none 0 0] 36)) = W at *
 have HG := Lib.hid (find_any W me N p xs.length c xs A [] B x.cy (HR.out.kept HB0.out) rfl HL.out HAA.out)
 rw [show decide (([] : List PtX) ≠ []) = false by simp] at HG
 have a0 : W.cell? ⟨w.heap.size, 0, none⟩ = some (.int .i64 me) := Hp0.out.cell 0
 have a1 : W.cell? ⟨w.heap.size, 1, none⟩ = some (.int .i64 N) := Hp0.out.cell 1
 have a2 : W.cell? ⟨w.heap.size, 2, none⟩ = some (.slice p xs.length c) := Hp0.out.cell 2
 have c0 : W.cell? ⟨(w.heap.size + 1), 0, none⟩ = some (.int .i64 x.cy) := Hx0.out.cell 0
 go_wp2_with fail
 clear a0 a1 a2 c0
 refine HG.out.mono ?_
 rintro y w1 ⟨rfl, hb⟩
 clear HG
 have Hp1 := kbq Hp0 hb
 have Hx1 := kbq Hx0 hb
 have Hr1 := kbq Hr0 hb
 have HB1 := ktq HB0 hb
 have HZ1 := kzq HZ0 hb.size
 clear Hp0 Hx0 Hr0 HB0 HZ0
 clear hb
 have a2 : w1.cell? ⟨w.heap.size, 2, none⟩ = some (.slice p xs.length c) := Hp1.out.cell 2
 go_upto_region 5 with fail
 clear a2
 have hrw := HR.out.kept HB1.out
 have ha2 := hrw.take A.length (by have := HLEN.out; omega)
 rw [HAT.out] at ha2
 have HRW := Lib.hid hrw
 have HA2 := Lib.hid ha2
 clear hrw ha2
 have hbd := (Below.refl w1.heap.size w1).drew
 refine wp_region_held_drew (S := fun w' => w'.cell? ⟨w.heap.size + 1, 0, none⟩ = some (.int .i64 x.cy) ∧ w'.cell? ⟨w.heap.size + 1, 1, none⟩ = some (.int .i64 x.cu) ∧ w'.cell? ⟨w.heap.size + 1, 2, none⟩ = some (.int .i64 x.st) ∧ w'.cell? ⟨w.heap.size + 1, 3, none⟩ = some (.slice x.p x.ls.length x.c)) (by kernel_rfl) ⟨(Hx1.out.below hbd Hx1.out.lt).cell 0, (Hx1.out.below hbd Hx1.out.lt).cell 1, (Hx1.out.below hbd Hx1.out.lt).cell 2, (Hx1.out.below hbd Hx1.out.lt).cell 3⟩ (fun hS0 => ?_)
 have HRD := Lib.hid (HRW.out.kept hbd)
 have HAD := Lib.hid (HA2.out.kept hbd)
 clear HRW HA2
 generalize w1.drew = WD at *
 have Hp2 := kbq Hp1 hbd
 have Hx2 := kbq Hx1 hbd
 have Hr2 := kbq Hr1 hbd
 have HB2 := ktq HB1 hbd
 have HZ2 := kzq HZ1 hbd.size
 clear Hp1 Hx1 Hr1 HB1 HZ1
 clear hbd
 refine tkq 0 ?_
 refine tkq 2 ?_
 refine tkq 4 ?_
 refine tkq 6 ?_
 refine wpAnyH_ready (rs := [1, 5]) (by kernel_rfl) (by simp) ?_
 refine AllReadyH.cons rfl (fun K hK => ?_) (AllReadyH.cons rfl (fun K hK => ?_) AllReadyH.nil)
 ·skip
  have a2 : WD.cell? ⟨w.heap.size, 2, none⟩ = some (.slice p xs.length c) := Hp2.out.cell 2
  go_simp
  clear a2
  refine hK.out _ _ ⟨Hx2.out.cell 0, Hx2.out.cell 1, Hx2.out.cell 2, Hx2.out.cell 3⟩ (fun hS => ?_)
  clear hK K
  try simp only [Act.put, List.getElem_toArray, List.getElem_cons_succ, List.getElem_cons_zero, List.setIfInBounds_toArray, List.set_cons_zero, List.set_cons_succ]
  refine tkq 3 ?_
  refine rdq 5 (fun K hK => ?_)
  go_simp
  have hx2 := TRow.one_ encP x (Blk.new WD #[.int .i64 x.cy, .int .i64 x.cu, .int .i64 x.st, .slice x.p x.ls.length x.c] 58) rfl (Nat.le_refl 1)
  have hbz := (oneB WD (.cells #[.int .i64 x.cy, .int .i64 x.cu, .int .i64 x.st, .slice x.p x.ls.length x.c] 58))
  have HG0 : Hid (WD.heap.size < (WD.alloc (.cells #[.int .i64 x.cy, .int .i64 x.cu, .int .i64 x.st, .slice x.p x.ls.length x.c] 58)).heap.size) := by show _ < _; simp
  have hx2 := Lib.hid hx2
  generalize (WD.alloc (.cells #[.int .i64 x.cy, .int .i64 x.cu, .int .i64 x.st, .slice x.p x.ls.length x.c] 58)) = W5 at *
  have Hp3 := kbq Hp2 hbz
  have Hx3 := kbq Hx2 hbz
  have Hr3 := kbq Hr2 hbz
  have HB3 := ktq HB2 hbz
  have HZ3 := kzq HZ2 hbz.size
  clear Hp2 Hx2 Hr2 HB2 HZ2
  have HRE := Lib.hid (HRD.out.kept hbz)
  have HAE := Lib.hid (HAD.out.kept hbz)
  clear hbz HRD HAD
  refine hK.out _ _ ⟨Hx3.out.cell 0, Hx3.out.cell 1, Hx3.out.cell 2, Hx3.out.cell 3⟩ (fun hS => ?_)
  clear hK K
  try simp only [Act.put, List.getElem_toArray, List.getElem_cons_succ, List.getElem_cons_zero, List.setIfInBounds_toArray, List.set_cons_zero, List.set_cons_succ]
  refine rdq 7 (fun K hK => ?_)
  go_simp
  refine hK.out _ _ (by first | exact ⟨(Hx3.out.alloc _).cell 0, (Hx3.out.alloc _).cell 1, (Hx3.out.alloc _).cell 2, (Hx3.out.alloc _).cell 3⟩ | exact ⟨(Hx3.out.alloc _).drew.cell 0, (Hx3.out.alloc _).drew.cell 1, (Hx3.out.alloc _).drew.cell 2, (Hx3.out.alloc _).drew.cell 3⟩) (fun hS => ?_)
  clear hK K
  try simp only [Act.put, List.getElem_toArray, List.getElem_cons_succ, List.getElem_cons_zero, List.setIfInBounds_toArray, List.set_cons_zero, List.set_cons_succ]
  refine rdq 8 (fun K hK => ?_)
  go_simp
  go_at_call 66
  refine (concat3P _ _ _ _ _ A B x _ (Blk.new' W5 _ _ rfl) (HAE.out.kept (oneB W5 _)) (hx2.out.kept (oneB W5 _)) ?hC hbl).mono ?_
  case hC =>
   refine TRow.kept ?_ (oneB W5 _)
   rw [← HBD.out]
   have hlen : _ = _ := HLEN.out
   have hpc := HPC.out
   exact HRE.out.tail (A.length + 0) (by omega) (by omega) (by omega) (fun b' o' e h => by first | (cases e; refine congrArg (fun z => some (⟨_, z, none⟩ : Addr)) ?_; show _ + _ * 4 + 4 = _ + (_ + 1) * 4; omega) | (subst e; show (some (Addr.add _ _) : Option Addr) = _; rw [addAt]; rfl) | (cases e; simp; done) | (cases e; simp; rw [addAt]; done) | (cases e; simp; omega) | (subst e; simp; omega) | (subst e; simp; rw [addAt]; done) | omega)
  rintro y w3 ⟨v3, rfl, ho3, hb3⟩
  have hbz := (oneB W5 _).trans (hb3.mono (by simp))
  have HO3 := Lib.hid (ho3.less (show w.heap.size ≤ _ from by have := HB3.out.size; simp; omega))
  have HLT : Hid (∀ g, v3.ownBlock = some g → w.heap.size + 1 + 1 < g) := fun g hg => by have h1 := ho3.block_ge g hg; have h3 := Hr3.out.lt; simp at h1; omega
  clear ho3 hb3
  have Hp4 := kbq Hp3 hbz
  have Hx4 := kbq Hx3 hbz
  have Hr4 := kbq Hr3 hbz
  have HB4 := ktq HB3 hbz
  have HZ4 := kzq HZ3 hbz.size
  clear Hp3 Hx3 Hr3 HB3 HZ3
  clear hbz HRE HAE hx2
  obtain ⟨p3, c3, hv3⟩ := HO3.out.form
  generalize (A ++ [x] ++ B).length = n3 at hv3
  subst hv3
  try go_wp2_with fail
  refine hK.out _ _ ⟨Hx4.out.cell 0, Hx4.out.cell 1, Hx4.out.cell 2, Hx4.out.cell 3⟩ (fun hS => ?_)
  clear hK K
  try simp only [Act.put, List.getElem_toArray, List.getElem_cons_succ, List.getElem_cons_zero, List.setIfInBounds_toArray, List.set_cons_zero, List.set_cons_succ]
  refine tkq 9 ?_
  refine rdq 10 (fun K hK => ?_)
  have z2 : w3.cell? ⟨w.heap.size, 2, none⟩ = some (.slice p xs.length c) := Hp4.out.cell 2
  have f2 := Hp4.out.free 2
  go_simp
  clear z2 f2
  have hch : Chg w.heap.size w3 (w3.setCell ⟨w.heap.size, 2, none⟩ (.slice p3 n3 c3)) := (Chg.refl _ w3).set 2 _
  have Hp5 : Hid (Blk _ w.heap.size #[.int .i64 me, .int .i64 N, .slice p3 n3 c3] 36) := Lib.hid (Hp4.out.set 2 (.slice p3 n3 c3))
  have Hx5 := Lib.hid (Hx4.out.chg hch (by omega))
  have Hr5 := Lib.hid (Hr4.out.chg hch (by omega))
  have HB5 := Lib.hid (HB4.out.setCell (p := ⟨w.heap.size, 2, none⟩) (Nat.le_refl _) (.slice p3 n3 c3))
  have HZ5 : Hid (w.heap.size ≤ (w3.setCell ⟨w.heap.size, 2, none⟩ (.slice p3 n3 c3)).heap.size) := Lib.hid HB5.out.size
  have HO4 := Lib.hid (HO3.out.stay (fun g hg => hch.2 g (HO3.out.lt g hg) (by have := HLT.out g hg; omega)))
  clear HO3 hch Hp4 Hx4 Hr4 HB4 HZ4
  generalize (w3.setCell ⟨w.heap.size, 2, none⟩ (.slice p3 n3 c3)) = W9 at *
  refine hK.out _ _ ⟨Hx5.out.cell 0, Hx5.out.cell 1, Hx5.out.cell 2, Hx5.out.cell 3⟩ (fun hS => ?_)
  clear hK K
  try simp only [Act.put, List.getElem_toArray, List.getElem_cons_succ, List.getElem_cons_zero, List.setIfInBounds_toArray, List.set_cons_zero, List.set_cons_succ]
  refine wpAnyH_done (by kernel_rfl) ?_ _
  clear hS
  have a0 : W9.cell? ⟨w.heap.size, 0, none⟩ = some (.int .i64 me) := Hp5.out.cell 0
  have a1 : W9.cell? ⟨w.heap.size, 1, none⟩ = some (.int .i64 N) := Hp5.out.cell 1
  have a2 : W9.cell? ⟨w.heap.size, 2, none⟩ = some (.slice p3 n3 c3) := Hp5.out.cell 2
  go_wp2_with (with_reducible refine stop_storeT 36 (.tmp 4) (.tmp 32) rfl ?_)
  clear a0 a1 a2
  have HTH : Hid (W9.there (w.heap.size + 1 + 1) 0 3) := Hr5.out.thereAt
  have hch : Hid (Chg (w.heap.size + 1 + 1) W9 (W9.setCells (w.heap.size + 1 + 1) 0 (#[.int .i64 me, .int .i64 N, .slice p3 n3 c3] : Array Value).toList)) := Lib.hid (chg_putL _ _ _ _ _ (Chg.refl _ W9))
  have Hr6 : Hid (Blk (W9.setCells (w.heap.size + 1 + 1) 0 (#[.int .i64 me, .int .i64 N, .slice p3 n3 c3] : Array Value).toList) (w.heap.size + 1 + 1) #[.int .i64 me, .int .i64 N, .slice p3 n3 c3] 36) := Lib.hid (blk_put_all Hr5.out _ rfl)
  have HB6 : Hid (Below w.heap.size w (W9.setCells (w.heap.size + 1 + 1) 0 (#[.int .i64 me, .int .i64 N, .slice p3 n3 c3] : Array Value).toList)) := Lib.hid (below_put (by omega) _ _ _ _ HB5.out)
  have HZ6 := kzq HZ5 hch.out.size
  have Hp6 := kcq Hp5 hch (by omega)
  have Hx6 := kcq Hx5 hch (by omega)
  have HO5 := Lib.hid (HO4.out.stay (fun g hg => hch.out.2 g (HO4.out.lt g hg) (by have := HLT.out g hg; omega)))
  clear HO4 hch Hp5 Hx5 Hr5 HB5 HZ5
  refine wpList_store_mid rfl 36 (.tmp 4) (.tmp 32) rfl (w.heap.size + 1 + 1) 0 #[.int .i64 me, .int .i64 N, .slice p3 n3 c3] rfl rfl HTH.out (infoP3 rfl) (all_oneCell_toArray (by intro u hu; simp at hu; rcases hu with rfl | rfl | rfl <;> rfl)) ?_
  generalize (W9.setCells (w.heap.size + 1 + 1) 0 (#[.int .i64 me, .int .i64 N, .slice p3 n3 c3] : Array Value).toList) = W10 at *
  clear HTH
  go_wp2_with fail
  have hf := Hr6.out
  refine bodyPost_ret (v := .agg #[.int .i64 me, .int .i64 N, .slice p3 n3 c3]) (by simp [results, Try.results50, go_sem, hf.cell 0, hf.cell 1, hf.cell 2]) rfl ⟨p3, n3, c3, rfl, HO5.out, HB6.out⟩
 ·skip
  go_simp
  have hx2 := TRow.one_ encP x (Blk.new WD #[.int .i64 x.cy, .int .i64 x.cu, .int .i64 x.st, .slice x.p x.ls.length x.c] 58) rfl (Nat.le_refl 1)
  have hbz := (oneB WD (.cells #[.int .i64 x.cy, .int .i64 x.cu, .int .i64 x.st, .slice x.p x.ls.length x.c] 58))
  have HG0 : Hid (WD.heap.size < (WD.alloc (.cells #[.int .i64 x.cy, .int .i64 x.cu, .int .i64 x.st, .slice x.p x.ls.length x.c] 58)).heap.size) := by show _ < _; simp
  have hx2 := Lib.hid hx2
  generalize (WD.alloc (.cells #[.int .i64 x.cy, .int .i64 x.cu, .int .i64 x.st, .slice x.p x.ls.length x.c] 58)) = W5 at *
  have Hp3 := kbq Hp2 hbz
  have Hx3 := kbq Hx2 hbz
  have Hr3 := kbq Hr2 hbz
  have HB3 := ktq HB2 hbz
  have HZ3 := kzq HZ2 hbz.size
  clear Hp2 Hx2 Hr2 HB2 HZ2
  have HRE := Lib.hid (HRD.out.kept hbz)
  have HAE := Lib.hid (HAD.out.kept hbz)
  clear hbz HRD HAD
  refine hK.out _ _ ⟨Hx3.out.cell 0, Hx3.out.cell 1, Hx3.out.cell 2, Hx3.out.cell 3⟩ (fun hS => ?_)
  clear hK K
  try simp only [Act.put, List.getElem_toArray, List.getElem_cons_succ, List.getElem_cons_zero, List.setIfInBounds_toArray, List.set_cons_zero, List.set_cons_succ]
  refine rdq 1 (fun K hK => ?_)
  have a2 : W5.cell? ⟨w.heap.size, 2, none⟩ = some (.slice p xs.length c) := Hp3.out.cell 2
  go_simp
  clear a2
  refine hK.out _ _ ⟨Hx3.out.cell 0, Hx3.out.cell 1, Hx3.out.cell 2, Hx3.out.cell 3⟩ (fun hS => ?_)
  clear hK K
  try simp only [Act.put, List.getElem_toArray, List.getElem_cons_succ, List.getElem_cons_zero, List.setIfInBounds_toArray, List.set_cons_zero, List.set_cons_succ]
  refine tkq 3 ?_
  refine rdq 7 (fun K hK => ?_)
  go_simp
  refine hK.out _ _ (by first | exact ⟨(Hx3.out.alloc _).cell 0, (Hx3.out.alloc _).cell 1, (Hx3.out.alloc _).cell 2, (Hx3.out.alloc _).cell 3⟩ | exact ⟨(Hx3.out.alloc _).drew.cell 0, (Hx3.out.alloc _).drew.cell 1, (Hx3.out.alloc _).drew.cell 2, (Hx3.out.alloc _).drew.cell 3⟩) (fun hS => ?_)
  clear hK K
  try simp only [Act.put, List.getElem_toArray, List.getElem_cons_succ, List.getElem_cons_zero, List.setIfInBounds_toArray, List.set_cons_zero, List.set_cons_succ]
  refine rdq 8 (fun K hK => ?_)
  go_simp
  go_at_call 66
  refine (concat3P _ _ _ _ _ A B x _ (Blk.new' W5 _ _ rfl) (HAE.out.kept (oneB W5 _)) (hx2.out.kept (oneB W5 _)) ?hC hbl).mono ?_
  case hC =>
   refine TRow.kept ?_ (oneB W5 _)
   rw [← HBD.out]
   have hlen : _ = _ := HLEN.out
   have hpc := HPC.out
   exact HRE.out.tail (A.length + 0) (by omega) (by omega) (by omega) (fun b' o' e h => by first | (cases e; refine congrArg (fun z => some (⟨_, z, none⟩ : Addr)) ?_; show _ + _ * 4 + 4 = _ + (_ + 1) * 4; omega) | (subst e; show (some (Addr.add _ _) : Option Addr) = _; rw [addAt]; rfl) | (cases e; simp; done) | (cases e; simp; rw [addAt]; done) | (cases e; simp; omega) | (subst e; simp; omega) | (subst e; simp; rw [addAt]; done) | omega)
  rintro y w3 ⟨v3, rfl, ho3, hb3⟩
  have hbz := (oneB W5 _).trans (hb3.mono (by simp))
  have HO3 := Lib.hid (ho3.less (show w.heap.size ≤ _ from by have := HB3.out.size; simp; omega))
  have HLT : Hid (∀ g, v3.ownBlock = some g → w.heap.size + 1 + 1 < g) := fun g hg => by have h1 := ho3.block_ge g hg; have h3 := Hr3.out.lt; simp at h1; omega
  clear ho3 hb3
  have Hp4 := kbq Hp3 hbz
  have Hx4 := kbq Hx3 hbz
  have Hr4 := kbq Hr3 hbz
  have HB4 := ktq HB3 hbz
  have HZ4 := kzq HZ3 hbz.size
  clear Hp3 Hx3 Hr3 HB3 HZ3
  clear hbz HRE HAE hx2
  obtain ⟨p3, c3, hv3⟩ := HO3.out.form
  generalize (A ++ [x] ++ B).length = n3 at hv3
  subst hv3
  try go_wp2_with fail
  refine hK.out _ _ ⟨Hx4.out.cell 0, Hx4.out.cell 1, Hx4.out.cell 2, Hx4.out.cell 3⟩ (fun hS => ?_)
  clear hK K
  try simp only [Act.put, List.getElem_toArray, List.getElem_cons_succ, List.getElem_cons_zero, List.setIfInBounds_toArray, List.set_cons_zero, List.set_cons_succ]
  refine tkq 9 ?_
  refine rdq 10 (fun K hK => ?_)
  have z2 : w3.cell? ⟨w.heap.size, 2, none⟩ = some (.slice p xs.length c) := Hp4.out.cell 2
  have f2 := Hp4.out.free 2
  go_simp
  clear z2 f2
  have hch : Chg w.heap.size w3 (w3.setCell ⟨w.heap.size, 2, none⟩ (.slice p3 n3 c3)) := (Chg.refl _ w3).set 2 _
  have Hp5 : Hid (Blk _ w.heap.size #[.int .i64 me, .int .i64 N, .slice p3 n3 c3] 36) := Lib.hid (Hp4.out.set 2 (.slice p3 n3 c3))
  have Hx5 := Lib.hid (Hx4.out.chg hch (by omega))
  have Hr5 := Lib.hid (Hr4.out.chg hch (by omega))
  have HB5 := Lib.hid (HB4.out.setCell (p := ⟨w.heap.size, 2, none⟩) (Nat.le_refl _) (.slice p3 n3 c3))
  have HZ5 : Hid (w.heap.size ≤ (w3.setCell ⟨w.heap.size, 2, none⟩ (.slice p3 n3 c3)).heap.size) := Lib.hid HB5.out.size
  have HO4 := Lib.hid (HO3.out.stay (fun g hg => hch.2 g (HO3.out.lt g hg) (by have := HLT.out g hg; omega)))
  clear HO3 hch Hp4 Hx4 Hr4 HB4 HZ4
  generalize (w3.setCell ⟨w.heap.size, 2, none⟩ (.slice p3 n3 c3)) = W9 at *
  refine hK.out _ _ ⟨Hx5.out.cell 0, Hx5.out.cell 1, Hx5.out.cell 2, Hx5.out.cell 3⟩ (fun hS => ?_)
  clear hK K
  try simp only [Act.put, List.getElem_toArray, List.getElem_cons_succ, List.getElem_cons_zero, List.setIfInBounds_toArray, List.set_cons_zero, List.set_cons_succ]
  refine wpAnyH_done (by kernel_rfl) ?_ _
  clear hS
  have a0 : W9.cell? ⟨w.heap.size, 0, none⟩ = some (.int .i64 me) := Hp5.out.cell 0
  have a1 : W9.cell? ⟨w.heap.size, 1, none⟩ = some (.int .i64 N) := Hp5.out.cell 1
  have a2 : W9.cell? ⟨w.heap.size, 2, none⟩ = some (.slice p3 n3 c3) := Hp5.out.cell 2
  go_wp2_with (with_reducible refine stop_storeT 36 (.tmp 4) (.tmp 32) rfl ?_)
  clear a0 a1 a2
  have HTH : Hid (W9.there (w.heap.size + 1 + 1) 0 3) := Hr5.out.thereAt
  have hch : Hid (Chg (w.heap.size + 1 + 1) W9 (W9.setCells (w.heap.size + 1 + 1) 0 (#[.int .i64 me, .int .i64 N, .slice p3 n3 c3] : Array Value).toList)) := Lib.hid (chg_putL _ _ _ _ _ (Chg.refl _ W9))
  have Hr6 : Hid (Blk (W9.setCells (w.heap.size + 1 + 1) 0 (#[.int .i64 me, .int .i64 N, .slice p3 n3 c3] : Array Value).toList) (w.heap.size + 1 + 1) #[.int .i64 me, .int .i64 N, .slice p3 n3 c3] 36) := Lib.hid (blk_put_all Hr5.out _ rfl)
  have HB6 : Hid (Below w.heap.size w (W9.setCells (w.heap.size + 1 + 1) 0 (#[.int .i64 me, .int .i64 N, .slice p3 n3 c3] : Array Value).toList)) := Lib.hid (below_put (by omega) _ _ _ _ HB5.out)
  have HZ6 := kzq HZ5 hch.out.size
  have Hp6 := kcq Hp5 hch (by omega)
  have Hx6 := kcq Hx5 hch (by omega)
  have HO5 := Lib.hid (HO4.out.stay (fun g hg => hch.out.2 g (HO4.out.lt g hg) (by have := HLT.out g hg; omega)))
  clear HO4 hch Hp5 Hx5 Hr5 HB5 HZ5
  refine wpList_store_mid rfl 36 (.tmp 4) (.tmp 32) rfl (w.heap.size + 1 + 1) 0 #[.int .i64 me, .int .i64 N, .slice p3 n3 c3] rfl rfl HTH.out (infoP3 rfl) (all_oneCell_toArray (by intro u hu; simp at hu; rcases hu with rfl | rfl | rfl <;> rfl)) ?_
  generalize (W9.setCells (w.heap.size + 1 + 1) 0 (#[.int .i64 me, .int .i64 N, .slice p3 n3 c3] : Array Value).toList) = W10 at *
  clear HTH
  go_wp2_with fail
  have hf := Hr6.out
  refine bodyPost_ret (v := .agg #[.int .i64 me, .int .i64 N, .slice p3 n3 c3]) (by simp [results, Try.results50, go_sem, hf.cell 0, hf.cell 1, hf.cell 2]) rfl ⟨p3, n3, c3, rfl, HO5.out, HB6.out⟩
set_option linter.unusedSimpArgs false in
set_option maxHeartbeats 4000000 in
set_option maxRecDepth 100000 in
theorem pwith_no (w : World) (me N : Int) (p : Option Addr) (n c : Nat) (xs A B : List PtX) (x : PtX) (hr : TRow encP w (.slice p n c) xs) (hn : n = xs.length) (hl : xs.length ≤ 2000) (hA : AroundF posC ⟨x.cy, 0, 0⟩ xs A [] B) (hcv : ¬ c - A.length = 0) :
  Calls Try.prog 50 #[.agg #[.int .i64 me, .int .i64 N, .slice p n c], x.v] w fun e w' => ∃ p' n' c', e = .returned (.agg #[.int .i64 me, .int .i64 N, .slice p' n' c']) ∧ OwnT encP w' w.heap.size 58 (.slice p' n' c') (A ++ [x] ++ B) ∧ Below w.heap.size w w' := by
 subst hn
 have hall := hA.all
 have hlen : xs.length = A.length + 0 + B.length := by rw [hall]; simp
 have hAt : xs.take A.length = A := by rw [hall, List.append_assoc, List.take_left]
 have hBd : xs.drop (A.length + 0) = B := by rw [hall, List.drop_left' (by simp)]
 have hpc : xs.length ≤ c := hr.cap
 have HLEN := Lib.hid hlen
 have HPC := Lib.hid hpc
 have HR := Lib.hid hr
 have HAT := Lib.hid hAt
 have HBD := Lib.hid hBd
 have HAA := Lib.hid hA
 have HL := Lib.hid hl
 clear hr hall hAt hBd hA
 unfold PtX.v
 have hcap1 : ((A.length : Nat) : Int) ≤ (xs.length : Int) := by omega
 have hcap2 : (xs.length : Int) ≤ (c : Int) := by omega
 have hcap3 : ((A.length : Nat) : Int) ≤ (c : Int) := by omega
 have hcn : A.length ≤ c := by omega
 have hbl : A.length + B.length ≤ 5000 := by omega
 clear hlen hl hpc
 have HB0 : Hid (Below w.heap.size w (((w.alloc (.cells #[.int .i64 me, .int .i64 N, .slice p xs.length c] 36)).alloc (.cells #[.int .i64 x.cy, .int .i64 x.cu, .int .i64 x.st, .slice x.p x.ls.length x.c] 58)).alloc (.cells #[.int .i64 0, .int .i64 0, .slice none 0 0] 36))) := Lib.hid ((((oneB w _).alloc (by simp <;> omega) _).alloc (by simp <;> omega) _))
 have Hp0 : Hid (Blk (((w.alloc (.cells #[.int .i64 me, .int .i64 N, .slice p xs.length c] 36)).alloc (.cells #[.int .i64 x.cy, .int .i64 x.cu, .int .i64 x.st, .slice x.p x.ls.length x.c] 58)).alloc (.cells #[.int .i64 0, .int .i64 0, .slice none 0 0] 36)) w.heap.size #[.int .i64 me, .int .i64 N, .slice p xs.length c] 36) := Lib.hid (((Blk.new w #[.int .i64 me, .int .i64 N, .slice p xs.length c] 36).alloc _).alloc _)
 have Hx0 : Hid (Blk (((w.alloc (.cells #[.int .i64 me, .int .i64 N, .slice p xs.length c] 36)).alloc (.cells #[.int .i64 x.cy, .int .i64 x.cu, .int .i64 x.st, .slice x.p x.ls.length x.c] 58)).alloc (.cells #[.int .i64 0, .int .i64 0, .slice none 0 0] 36)) (w.heap.size + 1) #[.int .i64 x.cy, .int .i64 x.cu, .int .i64 x.st, .slice x.p x.ls.length x.c] 58) := Lib.hid ((Blk.new' (w.alloc (.cells #[.int .i64 me, .int .i64 N, .slice p xs.length c] 36)) #[.int .i64 x.cy, .int .i64 x.cu, .int .i64 x.st, .slice x.p x.ls.length x.c] 58 (by simp)).alloc _)
 have Hr0 : Hid (Blk (((w.alloc (.cells #[.int .i64 me, .int .i64 N, .slice p xs.length c] 36)).alloc (.cells #[.int .i64 x.cy, .int .i64 x.cu, .int .i64 x.st, .slice x.p x.ls.length x.c] 58)).alloc (.cells #[.int .i64 0, .int .i64 0, .slice none 0 0] 36)) (w.heap.size + 1 + 1) #[.int .i64 0, .int .i64 0, .slice none 0 0] 36) := Lib.hid (Blk.new' ((w.alloc (.cells #[.int .i64 me, .int .i64 N, .slice p xs.length c] 36)).alloc (.cells #[.int .i64 x.cy, .int .i64 x.cu, .int .i64 x.st, .slice x.p x.ls.length x.c] 58)) #[.int .i64 0, .int .i64 0, .slice none 0 0] 36 (by simp))
 have HZ0 : Hid (w.heap.size ≤ (((w.alloc (.cells #[.int .i64 me, .int .i64 N, .slice p xs.length c] 36)).alloc (.cells #[.int .i64 x.cy, .int .i64 x.cu, .int .i64 x.st, .slice x.p x.ls.length x.c] 58)).alloc (.cells #[.int .i64 0, .int .i64 0, .slice none 0 0] 36)).heap.size) := Lib.hid HB0.out.size
 go_enter Try.func50, Try.ntmps50
 go_upto_region 1 with fail
 generalize (((w.alloc (.cells #[.int .i64 me, .int .i64 N, .slice p xs.length c] 36)).alloc (.cells #[.int .i64 x.cy, .int .i64 x.cu, .int .i64 x.st, .slice x.p x.ls.length x.c] 58)).alloc (.cells #[.int .i64 0, .int .i64 0, .slice none 0 0] 36)) = W at *
 have HG := Lib.hid (find_any W me N p xs.length c xs A [] B x.cy (HR.out.kept HB0.out) rfl HL.out HAA.out)
 rw [show decide (([] : List PtX) ≠ []) = false by simp] at HG
 have a0 : W.cell? ⟨w.heap.size, 0, none⟩ = some (.int .i64 me) := Hp0.out.cell 0
 have a1 : W.cell? ⟨w.heap.size, 1, none⟩ = some (.int .i64 N) := Hp0.out.cell 1
 have a2 : W.cell? ⟨w.heap.size, 2, none⟩ = some (.slice p xs.length c) := Hp0.out.cell 2
 have c0 : W.cell? ⟨(w.heap.size + 1), 0, none⟩ = some (.int .i64 x.cy) := Hx0.out.cell 0
 go_wp2_with fail
 clear a0 a1 a2 c0
 refine HG.out.mono ?_
 rintro y w1 ⟨rfl, hb⟩
 clear HG
 have Hp1 := kbq Hp0 hb
 have Hx1 := kbq Hx0 hb
 have Hr1 := kbq Hr0 hb
 have HB1 := ktq HB0 hb
 have HZ1 := kzq HZ0 hb.size
 clear Hp0 Hx0 Hr0 HB0 HZ0
 clear hb
 have a2 : w1.cell? ⟨w.heap.size, 2, none⟩ = some (.slice p xs.length c) := Hp1.out.cell 2
 go_upto_region 5 with fail
 clear a2
 have hrw := HR.out.kept HB1.out
 have ha2 := hrw.take A.length (by have := HLEN.out; omega)
 rw [HAT.out] at ha2
 have HRW := Lib.hid hrw
 have HA2 := Lib.hid ha2
 clear hrw ha2
 have hbd := (Below.refl w1.heap.size w1).drew
 refine wp_region_held_drew (S := fun w' => w'.cell? ⟨w.heap.size + 1, 0, none⟩ = some (.int .i64 x.cy) ∧ w'.cell? ⟨w.heap.size + 1, 1, none⟩ = some (.int .i64 x.cu) ∧ w'.cell? ⟨w.heap.size + 1, 2, none⟩ = some (.int .i64 x.st) ∧ w'.cell? ⟨w.heap.size + 1, 3, none⟩ = some (.slice x.p x.ls.length x.c)) (by kernel_rfl) ⟨(Hx1.out.below hbd Hx1.out.lt).cell 0, (Hx1.out.below hbd Hx1.out.lt).cell 1, (Hx1.out.below hbd Hx1.out.lt).cell 2, (Hx1.out.below hbd Hx1.out.lt).cell 3⟩ (fun hS0 => ?_)
 have HRD := Lib.hid (HRW.out.kept hbd)
 have HAD := Lib.hid (HA2.out.kept hbd)
 clear HRW HA2
 generalize w1.drew = WD at *
 have Hp2 := kbq Hp1 hbd
 have Hx2 := kbq Hx1 hbd
 have Hr2 := kbq Hr1 hbd
 have HB2 := ktq HB1 hbd
 have HZ2 := kzq HZ1 hbd.size
 clear Hp1 Hx1 Hr1 HB1 HZ1
 clear hbd
 refine tkq 0 ?_
 refine tkq 2 ?_
 refine tkq 4 ?_
 refine tkq 6 ?_
 refine wpAnyH_ready (rs := [1, 5]) (by kernel_rfl) (by simp) ?_
 refine AllReadyH.cons rfl (fun K hK => ?_) (AllReadyH.cons rfl (fun K hK => ?_) AllReadyH.nil)
 ·skip
  have a2 : WD.cell? ⟨w.heap.size, 2, none⟩ = some (.slice p xs.length c) := Hp2.out.cell 2
  go_simp
  clear a2
  refine hK.out _ _ ⟨Hx2.out.cell 0, Hx2.out.cell 1, Hx2.out.cell 2, Hx2.out.cell 3⟩ (fun hS => ?_)
  clear hK K
  try simp only [Act.put, List.getElem_toArray, List.getElem_cons_succ, List.getElem_cons_zero, List.setIfInBounds_toArray, List.set_cons_zero, List.set_cons_succ]
  refine tkq 3 ?_
  refine rdq 5 (fun K hK => ?_)
  go_simp
  have hx2 := TRow.one_ encP x (Blk.new WD #[.int .i64 x.cy, .int .i64 x.cu, .int .i64 x.st, .slice x.p x.ls.length x.c] 58) rfl (Nat.le_refl 1)
  have hbz := (oneB WD (.cells #[.int .i64 x.cy, .int .i64 x.cu, .int .i64 x.st, .slice x.p x.ls.length x.c] 58))
  have HG0 : Hid (WD.heap.size < (WD.alloc (.cells #[.int .i64 x.cy, .int .i64 x.cu, .int .i64 x.st, .slice x.p x.ls.length x.c] 58)).heap.size) := by show _ < _; simp
  have hx2 := Lib.hid hx2
  generalize (WD.alloc (.cells #[.int .i64 x.cy, .int .i64 x.cu, .int .i64 x.st, .slice x.p x.ls.length x.c] 58)) = W5 at *
  have Hp3 := kbq Hp2 hbz
  have Hx3 := kbq Hx2 hbz
  have Hr3 := kbq Hr2 hbz
  have HB3 := ktq HB2 hbz
  have HZ3 := kzq HZ2 hbz.size
  clear Hp2 Hx2 Hr2 HB2 HZ2
  have HRE := Lib.hid (HRD.out.kept hbz)
  have HAE := Lib.hid (HAD.out.kept hbz)
  clear hbz HRD HAD
  refine hK.out _ _ ⟨Hx3.out.cell 0, Hx3.out.cell 1, Hx3.out.cell 2, Hx3.out.cell 3⟩ (fun hS => ?_)
  clear hK K
  try simp only [Act.put, List.getElem_toArray, List.getElem_cons_succ, List.getElem_cons_zero, List.setIfInBounds_toArray, List.set_cons_zero, List.set_cons_succ]
  refine rdq 7 (fun K hK => ?_)
  go_simp
  refine hK.out _ _ (by first | exact ⟨(Hx3.out.alloc _).cell 0, (Hx3.out.alloc _).cell 1, (Hx3.out.alloc _).cell 2, (Hx3.out.alloc _).cell 3⟩ | exact ⟨(Hx3.out.alloc _).drew.cell 0, (Hx3.out.alloc _).drew.cell 1, (Hx3.out.alloc _).drew.cell 2, (Hx3.out.alloc _).drew.cell 3⟩) (fun hS => ?_)
  clear hK K
  try simp only [Act.put, List.getElem_toArray, List.getElem_cons_succ, List.getElem_cons_zero, List.setIfInBounds_toArray, List.set_cons_zero, List.set_cons_succ]
  refine rdq 8 (fun K hK => ?_)
  go_simp
  go_at_call 66
  refine (concat3P _ _ _ _ _ A B x _ (Blk.new' W5 _ _ rfl) (HAE.out.kept (oneB W5 _)) (hx2.out.kept (oneB W5 _)) ?hC hbl).mono ?_
  case hC =>
   refine TRow.kept ?_ (oneB W5 _)
   rw [← HBD.out]
   have hlen : _ = _ := HLEN.out
   have hpc := HPC.out
   exact HRE.out.tail (A.length + 0) (by omega) (by omega) (by omega) (fun b' o' e h => by first | (cases e; refine congrArg (fun z => some (⟨_, z, none⟩ : Addr)) ?_; show _ + _ * 4 + 4 = _ + (_ + 1) * 4; omega) | (subst e; show (some (Addr.add _ _) : Option Addr) = _; rw [addAt]; rfl) | (cases e; simp; done) | (cases e; simp; rw [addAt]; done) | (cases e; simp; omega) | (subst e; simp; omega) | (subst e; simp; rw [addAt]; done) | omega)
  rintro y w3 ⟨v3, rfl, ho3, hb3⟩
  have hbz := (oneB W5 _).trans (hb3.mono (by simp))
  have HO3 := Lib.hid (ho3.less (show w.heap.size ≤ _ from by have := HB3.out.size; simp; omega))
  have HLT : Hid (∀ g, v3.ownBlock = some g → w.heap.size + 1 + 1 < g) := fun g hg => by have h1 := ho3.block_ge g hg; have h3 := Hr3.out.lt; simp at h1; omega
  clear ho3 hb3
  have Hp4 := kbq Hp3 hbz
  have Hx4 := kbq Hx3 hbz
  have Hr4 := kbq Hr3 hbz
  have HB4 := ktq HB3 hbz
  have HZ4 := kzq HZ3 hbz.size
  clear Hp3 Hx3 Hr3 HB3 HZ3
  clear hbz HRE HAE hx2
  obtain ⟨p3, c3, hv3⟩ := HO3.out.form
  generalize (A ++ [x] ++ B).length = n3 at hv3
  subst hv3
  try go_wp2_with fail
  refine hK.out _ _ ⟨Hx4.out.cell 0, Hx4.out.cell 1, Hx4.out.cell 2, Hx4.out.cell 3⟩ (fun hS => ?_)
  clear hK K
  try simp only [Act.put, List.getElem_toArray, List.getElem_cons_succ, List.getElem_cons_zero, List.setIfInBounds_toArray, List.set_cons_zero, List.set_cons_succ]
  refine tkq 9 ?_
  refine rdq 10 (fun K hK => ?_)
  have z2 : w3.cell? ⟨w.heap.size, 2, none⟩ = some (.slice p xs.length c) := Hp4.out.cell 2
  have f2 := Hp4.out.free 2
  go_simp
  clear z2 f2
  have hch : Chg w.heap.size w3 (w3.setCell ⟨w.heap.size, 2, none⟩ (.slice p3 n3 c3)) := (Chg.refl _ w3).set 2 _
  have Hp5 : Hid (Blk _ w.heap.size #[.int .i64 me, .int .i64 N, .slice p3 n3 c3] 36) := Lib.hid (Hp4.out.set 2 (.slice p3 n3 c3))
  have Hx5 := Lib.hid (Hx4.out.chg hch (by omega))
  have Hr5 := Lib.hid (Hr4.out.chg hch (by omega))
  have HB5 := Lib.hid (HB4.out.setCell (p := ⟨w.heap.size, 2, none⟩) (Nat.le_refl _) (.slice p3 n3 c3))
  have HZ5 : Hid (w.heap.size ≤ (w3.setCell ⟨w.heap.size, 2, none⟩ (.slice p3 n3 c3)).heap.size) := Lib.hid HB5.out.size
  have HO4 := Lib.hid (HO3.out.stay (fun g hg => hch.2 g (HO3.out.lt g hg) (by have := HLT.out g hg; omega)))
  clear HO3 hch Hp4 Hx4 Hr4 HB4 HZ4
  generalize (w3.setCell ⟨w.heap.size, 2, none⟩ (.slice p3 n3 c3)) = W9 at *
  refine hK.out _ _ ⟨Hx5.out.cell 0, Hx5.out.cell 1, Hx5.out.cell 2, Hx5.out.cell 3⟩ (fun hS => ?_)
  clear hK K
  try simp only [Act.put, List.getElem_toArray, List.getElem_cons_succ, List.getElem_cons_zero, List.setIfInBounds_toArray, List.set_cons_zero, List.set_cons_succ]
  refine wpAnyH_done (by kernel_rfl) ?_ _
  clear hS
  have a0 : W9.cell? ⟨w.heap.size, 0, none⟩ = some (.int .i64 me) := Hp5.out.cell 0
  have a1 : W9.cell? ⟨w.heap.size, 1, none⟩ = some (.int .i64 N) := Hp5.out.cell 1
  have a2 : W9.cell? ⟨w.heap.size, 2, none⟩ = some (.slice p3 n3 c3) := Hp5.out.cell 2
  go_wp2_with (with_reducible refine stop_storeT 36 (.tmp 4) (.tmp 32) rfl ?_)
  clear a0 a1 a2
  have HTH : Hid (W9.there (w.heap.size + 1 + 1) 0 3) := Hr5.out.thereAt
  have hch : Hid (Chg (w.heap.size + 1 + 1) W9 (W9.setCells (w.heap.size + 1 + 1) 0 (#[.int .i64 me, .int .i64 N, .slice p3 n3 c3] : Array Value).toList)) := Lib.hid (chg_putL _ _ _ _ _ (Chg.refl _ W9))
  have Hr6 : Hid (Blk (W9.setCells (w.heap.size + 1 + 1) 0 (#[.int .i64 me, .int .i64 N, .slice p3 n3 c3] : Array Value).toList) (w.heap.size + 1 + 1) #[.int .i64 me, .int .i64 N, .slice p3 n3 c3] 36) := Lib.hid (blk_put_all Hr5.out _ rfl)
  have HB6 : Hid (Below w.heap.size w (W9.setCells (w.heap.size + 1 + 1) 0 (#[.int .i64 me, .int .i64 N, .slice p3 n3 c3] : Array Value).toList)) := Lib.hid (below_put (by omega) _ _ _ _ HB5.out)
  have HZ6 := kzq HZ5 hch.out.size
  have Hp6 := kcq Hp5 hch (by omega)
  have Hx6 := kcq Hx5 hch (by omega)
  have HO5 := Lib.hid (HO4.out.stay (fun g hg => hch.out.2 g (HO4.out.lt g hg) (by have := HLT.out g hg; omega)))
  clear HO4 hch Hp5 Hx5 Hr5 HB5 HZ5
  refine wpList_store_mid rfl 36 (.tmp 4) (.tmp 32) rfl (w.heap.size + 1 + 1) 0 #[.int .i64 me, .int .i64 N, .slice p3 n3 c3] rfl rfl HTH.out (infoP3 rfl) (all_oneCell_toArray (by intro u hu; simp at hu; rcases hu with rfl | rfl | rfl <;> rfl)) ?_
  generalize (W9.setCells (w.heap.size + 1 + 1) 0 (#[.int .i64 me, .int .i64 N, .slice p3 n3 c3] : Array Value).toList) = W10 at *
  clear HTH
  go_wp2_with fail
  have hf := Hr6.out
  refine bodyPost_ret (v := .agg #[.int .i64 me, .int .i64 N, .slice p3 n3 c3]) (by simp [results, Try.results50, go_sem, hf.cell 0, hf.cell 1, hf.cell 2]) rfl ⟨p3, n3, c3, rfl, HO5.out, HB6.out⟩
 ·skip
  go_simp
  have hx2 := TRow.one_ encP x (Blk.new WD #[.int .i64 x.cy, .int .i64 x.cu, .int .i64 x.st, .slice x.p x.ls.length x.c] 58) rfl (Nat.le_refl 1)
  have hbz := (oneB WD (.cells #[.int .i64 x.cy, .int .i64 x.cu, .int .i64 x.st, .slice x.p x.ls.length x.c] 58))
  have HG0 : Hid (WD.heap.size < (WD.alloc (.cells #[.int .i64 x.cy, .int .i64 x.cu, .int .i64 x.st, .slice x.p x.ls.length x.c] 58)).heap.size) := by show _ < _; simp
  have hx2 := Lib.hid hx2
  generalize (WD.alloc (.cells #[.int .i64 x.cy, .int .i64 x.cu, .int .i64 x.st, .slice x.p x.ls.length x.c] 58)) = W5 at *
  have Hp3 := kbq Hp2 hbz
  have Hx3 := kbq Hx2 hbz
  have Hr3 := kbq Hr2 hbz
  have HB3 := ktq HB2 hbz
  have HZ3 := kzq HZ2 hbz.size
  clear Hp2 Hx2 Hr2 HB2 HZ2
  have HRE := Lib.hid (HRD.out.kept hbz)
  have HAE := Lib.hid (HAD.out.kept hbz)
  clear hbz HRD HAD
  refine hK.out _ _ ⟨Hx3.out.cell 0, Hx3.out.cell 1, Hx3.out.cell 2, Hx3.out.cell 3⟩ (fun hS => ?_)
  clear hK K
  try simp only [Act.put, List.getElem_toArray, List.getElem_cons_succ, List.getElem_cons_zero, List.setIfInBounds_toArray, List.set_cons_zero, List.set_cons_succ]
  refine rdq 1 (fun K hK => ?_)
  have a2 : W5.cell? ⟨w.heap.size, 2, none⟩ = some (.slice p xs.length c) := Hp3.out.cell 2
  go_simp
  clear a2
  refine hK.out _ _ ⟨Hx3.out.cell 0, Hx3.out.cell 1, Hx3.out.cell 2, Hx3.out.cell 3⟩ (fun hS => ?_)
  clear hK K
  try simp only [Act.put, List.getElem_toArray, List.getElem_cons_succ, List.getElem_cons_zero, List.setIfInBounds_toArray, List.set_cons_zero, List.set_cons_succ]
  refine tkq 3 ?_
  refine rdq 7 (fun K hK => ?_)
  go_simp
  refine hK.out _ _ (by first | exact ⟨(Hx3.out.alloc _).cell 0, (Hx3.out.alloc _).cell 1, (Hx3.out.alloc _).cell 2, (Hx3.out.alloc _).cell 3⟩ | exact ⟨(Hx3.out.alloc _).drew.cell 0, (Hx3.out.alloc _).drew.cell 1, (Hx3.out.alloc _).drew.cell 2, (Hx3.out.alloc _).drew.cell 3⟩) (fun hS => ?_)
  clear hK K
  try simp only [Act.put, List.getElem_toArray, List.getElem_cons_succ, List.getElem_cons_zero, List.setIfInBounds_toArray, List.set_cons_zero, List.set_cons_succ]
  refine rdq 8 (fun K hK => ?_)
  go_simp
  go_at_call 66
  refine (concat3P _ _ _ _ _ A B x _ (Blk.new' W5 _ _ rfl) (HAE.out.kept (oneB W5 _)) (hx2.out.kept (oneB W5 _)) ?hC hbl).mono ?_
  case hC =>
   refine TRow.kept ?_ (oneB W5 _)
   rw [← HBD.out]
   have hlen : _ = _ := HLEN.out
   have hpc := HPC.out
   exact HRE.out.tail (A.length + 0) (by omega) (by omega) (by omega) (fun b' o' e h => by first | (cases e; refine congrArg (fun z => some (⟨_, z, none⟩ : Addr)) ?_; show _ + _ * 4 + 4 = _ + (_ + 1) * 4; omega) | (subst e; show (some (Addr.add _ _) : Option Addr) = _; rw [addAt]; rfl) | (cases e; simp; done) | (cases e; simp; rw [addAt]; done) | (cases e; simp; omega) | (subst e; simp; omega) | (subst e; simp; rw [addAt]; done) | omega)
  rintro y w3 ⟨v3, rfl, ho3, hb3⟩
  have hbz := (oneB W5 _).trans (hb3.mono (by simp))
  have HO3 := Lib.hid (ho3.less (show w.heap.size ≤ _ from by have := HB3.out.size; simp; omega))
  have HLT : Hid (∀ g, v3.ownBlock = some g → w.heap.size + 1 + 1 < g) := fun g hg => by have h1 := ho3.block_ge g hg; have h3 := Hr3.out.lt; simp at h1; omega
  clear ho3 hb3
  have Hp4 := kbq Hp3 hbz
  have Hx4 := kbq Hx3 hbz
  have Hr4 := kbq Hr3 hbz
  have HB4 := ktq HB3 hbz
  have HZ4 := kzq HZ3 hbz.size
  clear Hp3 Hx3 Hr3 HB3 HZ3
  clear hbz HRE HAE hx2
  obtain ⟨p3, c3, hv3⟩ := HO3.out.form
  generalize (A ++ [x] ++ B).length = n3 at hv3
  subst hv3
  try go_wp2_with fail
  refine hK.out _ _ ⟨Hx4.out.cell 0, Hx4.out.cell 1, Hx4.out.cell 2, Hx4.out.cell 3⟩ (fun hS => ?_)
  clear hK K
  try simp only [Act.put, List.getElem_toArray, List.getElem_cons_succ, List.getElem_cons_zero, List.setIfInBounds_toArray, List.set_cons_zero, List.set_cons_succ]
  refine tkq 9 ?_
  refine rdq 10 (fun K hK => ?_)
  have z2 : w3.cell? ⟨w.heap.size, 2, none⟩ = some (.slice p xs.length c) := Hp4.out.cell 2
  have f2 := Hp4.out.free 2
  go_simp
  clear z2 f2
  have hch : Chg w.heap.size w3 (w3.setCell ⟨w.heap.size, 2, none⟩ (.slice p3 n3 c3)) := (Chg.refl _ w3).set 2 _
  have Hp5 : Hid (Blk _ w.heap.size #[.int .i64 me, .int .i64 N, .slice p3 n3 c3] 36) := Lib.hid (Hp4.out.set 2 (.slice p3 n3 c3))
  have Hx5 := Lib.hid (Hx4.out.chg hch (by omega))
  have Hr5 := Lib.hid (Hr4.out.chg hch (by omega))
  have HB5 := Lib.hid (HB4.out.setCell (p := ⟨w.heap.size, 2, none⟩) (Nat.le_refl _) (.slice p3 n3 c3))
  have HZ5 : Hid (w.heap.size ≤ (w3.setCell ⟨w.heap.size, 2, none⟩ (.slice p3 n3 c3)).heap.size) := Lib.hid HB5.out.size
  have HO4 := Lib.hid (HO3.out.stay (fun g hg => hch.2 g (HO3.out.lt g hg) (by have := HLT.out g hg; omega)))
  clear HO3 hch Hp4 Hx4 Hr4 HB4 HZ4
  generalize (w3.setCell ⟨w.heap.size, 2, none⟩ (.slice p3 n3 c3)) = W9 at *
  refine hK.out _ _ ⟨Hx5.out.cell 0, Hx5.out.cell 1, Hx5.out.cell 2, Hx5.out.cell 3⟩ (fun hS => ?_)
  clear hK K
  try simp only [Act.put, List.getElem_toArray, List.getElem_cons_succ, List.getElem_cons_zero, List.setIfInBounds_toArray, List.set_cons_zero, List.set_cons_succ]
  refine wpAnyH_done (by kernel_rfl) ?_ _
  clear hS
  have a0 : W9.cell? ⟨w.heap.size, 0, none⟩ = some (.int .i64 me) := Hp5.out.cell 0
  have a1 : W9.cell? ⟨w.heap.size, 1, none⟩ = some (.int .i64 N) := Hp5.out.cell 1
  have a2 : W9.cell? ⟨w.heap.size, 2, none⟩ = some (.slice p3 n3 c3) := Hp5.out.cell 2
  go_wp2_with (with_reducible refine stop_storeT 36 (.tmp 4) (.tmp 32) rfl ?_)
  clear a0 a1 a2
  have HTH : Hid (W9.there (w.heap.size + 1 + 1) 0 3) := Hr5.out.thereAt
  have hch : Hid (Chg (w.heap.size + 1 + 1) W9 (W9.setCells (w.heap.size + 1 + 1) 0 (#[.int .i64 me, .int .i64 N, .slice p3 n3 c3] : Array Value).toList)) := Lib.hid (chg_putL _ _ _ _ _ (Chg.refl _ W9))
  have Hr6 : Hid (Blk (W9.setCells (w.heap.size + 1 + 1) 0 (#[.int .i64 me, .int .i64 N, .slice p3 n3 c3] : Array Value).toList) (w.heap.size + 1 + 1) #[.int .i64 me, .int .i64 N, .slice p3 n3 c3] 36) := Lib.hid (blk_put_all Hr5.out _ rfl)
  have HB6 : Hid (Below w.heap.size w (W9.setCells (w.heap.size + 1 + 1) 0 (#[.int .i64 me, .int .i64 N, .slice p3 n3 c3] : Array Value).toList)) := Lib.hid (below_put (by omega) _ _ _ _ HB5.out)
  have HZ6 := kzq HZ5 hch.out.size
  have Hp6 := kcq Hp5 hch (by omega)
  have Hx6 := kcq Hx5 hch (by omega)
  have HO5 := Lib.hid (HO4.out.stay (fun g hg => hch.out.2 g (HO4.out.lt g hg) (by have := HLT.out g hg; omega)))
  clear HO4 hch Hp5 Hx5 Hr5 HB5 HZ5
  refine wpList_store_mid rfl 36 (.tmp 4) (.tmp 32) rfl (w.heap.size + 1 + 1) 0 #[.int .i64 me, .int .i64 N, .slice p3 n3 c3] rfl rfl HTH.out (infoP3 rfl) (all_oneCell_toArray (by intro u hu; simp at hu; rcases hu with rfl | rfl | rfl <;> rfl)) ?_
  generalize (W9.setCells (w.heap.size + 1 + 1) 0 (#[.int .i64 me, .int .i64 N, .slice p3 n3 c3] : Array Value).toList) = W10 at *
  clear HTH
  go_wp2_with fail
  have hf := Hr6.out
  refine bodyPost_ret (v := .agg #[.int .i64 me, .int .i64 N, .slice p3 n3 c3]) (by simp [results, Try.results50, go_sem, hf.cell 0, hf.cell 1, hf.cell 2]) rfl ⟨p3, n3, c3, rfl, HO5.out, HB6.out⟩
/-- The cycles with one put in, in the place of what it was. -/
def insC (X : List PtX) (x : PtX) : List PtX := X.filter (fun z => decide (z.cy < x.cy)) ++ [x] ++ X.filter (fun z => decide (x.cy < z.cy))
theorem insC_around {X A mid B : List PtX} {x : PtX} (h : AroundF posC ⟨x.cy, 0, 0⟩ X A mid B) : A ++ [x] ++ B = insC X x := by
 have hA : ∀ z ∈ A, z.cy < x.cy := fun z hz => by
  have h1 := h.pos.ahead _ (List.mem_map_of_mem hz)
  rw [ordP_lt] at h1
  unfold posC at h1
  dsimp only at h1
  omega
 have hB : ∀ z ∈ B, x.cy < z.cy := fun z hz => by
  have h1 := h.pos.behind _ (List.mem_map_of_mem hz)
  rw [ordP_gt] at h1
  unfold posC at h1
  dsimp only at h1
  omega
 have hM : ∀ z ∈ mid, z.cy = x.cy := fun z hz => by
  rcases h.mid1 with e | ⟨q, e, hq⟩
  ·rw [e] at hz; cases hz
  ·rw [e] at hz
   rw [List.mem_singleton.1 hz]
   rw [ordP_eq] at hq
   exact hq.1
 have f1 : X.filter (fun z => decide (z.cy < x.cy)) = A := by
  rw [h.all, List.filter_append, List.filter_append, List.filter_eq_self.2 (fun z hz => decide_eq_true (hA z hz)), List.filter_eq_nil_iff.2 (fun z hz => by have := hM z hz; simp; omega), List.filter_eq_nil_iff.2 (fun z hz => by have := hB z hz; simp; omega)]
  simp
 have f2 : X.filter (fun z => decide (x.cy < z.cy)) = B := by
  rw [h.all, List.filter_append, List.filter_append, List.filter_eq_nil_iff.2 (fun z hz => by have := hA z hz; simp; omega), List.filter_eq_nil_iff.2 (fun z hz => by have := hM z hz; simp; omega), List.filter_eq_self.2 (fun z hz => decide_eq_true (hB z hz))]
  simp
 unfold insC
 rw [f1, f2]
theorem pwith_any (w : World) (me N : Int) (p : Option Addr) (n c : Nat) (xs : List PtX) (x : PtX) (hr : TRow encP w (.slice p n c) xs) (hn : n = xs.length) (hl : xs.length ≤ 2000) (hs : SortedP (xs.map posC)) :
  Calls Try.prog 50 #[.agg #[.int .i64 me, .int .i64 N, .slice p n c], x.v] w fun e w' => ∃ p' n' c', e = .returned (.agg #[.int .i64 me, .int .i64 N, .slice p' n' c']) ∧ OwnT encP w' w.heap.size 58 (.slice p' n' c') (insC xs x) ∧ Below w.heap.size w w' := by
 obtain ⟨A, mid, B, hA⟩ := aroundF_of_sorted posC ⟨x.cy, 0, 0⟩ xs hs
 rw [← insC_around hA]
 rcases hA.mid1 with rfl | ⟨q, rfl, _⟩
 ·by_cases hc : c - A.length = 0
  ·exact pwith_nc w me N p n c xs A B x hr hn hl hA hc
  ·exact pwith_no w me N p n c xs A B x hr hn hl hA hc
 ·by_cases hc : c - A.length = 1
  ·exact pwith_fc w me N p n c xs A B q x hr hn hl hA hc
  ·exact pwith_fo w me N p n c xs A B q x hr hn hl hA hc
end Go.Proofs.Ytmhocihajobkkaa
namespace Go.Proofs.Ytmhocihajobkkaa
open Go.RowKit
set_option linter.unusedSimpArgs false
/-- The lines of what is said, as they lie. -/
def SaidR (w : World) (Q : Nat → Prop) (out : List SdX) : Prop := ∀ z ∈ out, TRow encN w (.slice z.x.pl z.x.m.ls.length z.x.cl) z.x.m.ls ∧ At Q (.slice z.x.pl z.x.m.ls.length z.x.cl) z.x.m.ls.length
theorem saidR_nil (w : World) (Q : Nat → Prop) : SaidR w Q [] := fun _ hz => by cases hz
/-- A message that only names a kind, a cycle, and says yes or no. -/
def sayX (k cy : Int) (yes : Bool) : MsgX := ⟨⟨k, 0, 0, 0, 0, 0, cy, 0, yes, [], []⟩, none, 0, none, 0⟩
theorem saidR_say (w : World) (Q : Nat → Prop) (N k cy : Int) (yes : Bool) : SaidR w Q [⟨N, sayX k cy yes⟩] := fun z hz => by
 rw [List.mem_singleton.1 hz]
 exact ⟨TRow.nil_ _ _, At.nil_ _ _⟩
/-- What an act answers: the parts, the book's items, what is said, the error; G tells which. -/
def VPost (w : World) (P : Nat → Prop) (me N mb : Int) (po : Option Addr) (no co : Nat) (G : List PtX → List Itm → List SdX → Int → Prop) (y : Ending) (w' : World) : Prop :=
 Below w.heap.size w w' ∧ ∃ p2 n2 c2 pi2 ni2 ci2 vs ps2 xs2 out e, y = .returned (.tuple #[.agg #[.int .i64 me, .int .i64 N, .slice p2 n2 c2], .agg #[.int .i64 mb, .slice pi2 ni2 ci2, .slice po no co], vs, .int .i64 e]) ∧ PtsR (fun b => P b ∨ w.heap.size ≤ b) w' (.slice p2 n2 c2) ps2 ∧ TRow encI w' (.slice pi2 ni2 ci2) xs2 ∧ At (fun b => P b ∨ w.heap.size ≤ b) (.slice pi2 ni2 ci2) xs2.length ∧ OwnT encS w' w.heap.size 48 vs out ∧ SaidR w' (fun b => P b ∨ w.heap.size ≤ b) out ∧ G ps2 xs2 out e
/-- What an act is handed: the parts, the book's items, in blocks of P that were there. -/
structure VIn (w : World) (P : Nat → Prop) (p : Option Addr) (n c : Nat) (pi : Option Addr) (ni ci : Nat) (ps : List PtX) (xs : List Itm) : Prop where
 pts : PtsR P w (.slice p n c) ps
 its : TRow encI w (.slice pi ni ci) xs
 ai : At P (.slice pi ni ci) xs.length
 lt : ∀ b, P b → b < w.heap.size
 srt : SortX xs
 np : n = ps.length ∧ ps.length ≤ 1000
 nx : ni = xs.length ∧ xs.length ≤ 500
theorem VIn.same {w w' : World} {P : Nat → Prop} {p : Option Addr} {n c : Nat} {pi : Option Addr} {ni ci : Nat} {ps : List PtX} {xs : List Itm} (h : VIn w P p n c pi ni ci ps xs) (hb : Below w.heap.size w w') : PtsR (fun b => P b ∨ w.heap.size ≤ b) w' (.slice p n c) ps ∧ TRow encI w' (.slice pi ni ci) xs ∧ At (fun b => P b ∨ w.heap.size ≤ b) (.slice pi ni ci) xs.length :=
 ⟨(h.pts.kept hb).imp (fun _ h => .inl h), h.its.kept hb, h.ai.imp (fun _ h => .inl h)⟩
end Go.Proofs.Ytmhocihajobkkaa
namespace Go.Proofs.Ytmhocihajobkkaa
open Go.RowKit
set_option linter.unusedSimpArgs false
set_option linter.unusedSimpArgs false in
set_option maxHeartbeats 4000000 in
set_option maxRecDepth 100000 in
theorem vdue_any (w : World) (P : Nat → Prop) (me N mb : Int) (p : Option Addr) (n c : Nat) (pi : Option Addr) (ni ci : Nat) (po : Option Addr) (no co : Nat) (ps : List PtX) (xs : List Itm) (y : MsgX) (hv : VIn w P p n c pi ni ci ps xs) :
  Calls Try.prog 33 #[.agg #[.int .i64 me, .int .i64 N, .slice p n c], bookV mb (.slice pi ni ci) (.slice po no co), y.m.v (.slice y.pl y.m.ls.length y.cl) (.slice y.pn y.m.ns.length y.cn)] w (VPost w P me N mb po no co (fun ps2 xs2 out e => ps2 = ps ∧ xs2 = xs ∧ out = [⟨N, sayX 15 y.m.y false⟩] ∧ e = (openP ps y.m.y).2)) := by
 have HV := Lib.hid hv
 clear hv
 unfold bookV Msg.v
 have HB0 : Hid (Below w.heap.size w (((((w.alloc (.cells #[.int .i64 me, .int .i64 N, .slice p n c] 36)).alloc (.cells #[.int .i64 mb, .slice pi ni ci, .slice po no co] 28)).alloc (.cells #[.int .i64 y.m.k, .int .i64 y.m.s, .int .i64 y.m.n, .int .i64 y.m.b, .int .i64 y.m.c, .int .i64 y.m.r, .int .i64 y.m.y, .int .i64 y.m.a, .bool y.m.t, .slice y.pl y.m.ls.length y.cl, .slice y.pn y.m.ns.length y.cn] 46)).alloc (.cells #[.int .i64 0, .int .i64 0, .slice none 0 0] 36)).alloc (.cells #[.int .i64 0, .slice none 0 0, .slice none 0 0] 28))) := Lib.hid ((((((oneB w _).alloc (by simp <;> omega) _).alloc (by simp <;> omega) _).alloc (by simp <;> omega) _).alloc (by simp <;> omega) _))
 have Hp0 : Hid (Blk (((((w.alloc (.cells #[.int .i64 me, .int .i64 N, .slice p n c] 36)).alloc (.cells #[.int .i64 mb, .slice pi ni ci, .slice po no co] 28)).alloc (.cells #[.int .i64 y.m.k, .int .i64 y.m.s, .int .i64 y.m.n, .int .i64 y.m.b, .int .i64 y.m.c, .int .i64 y.m.r, .int .i64 y.m.y, .int .i64 y.m.a, .bool y.m.t, .slice y.pl y.m.ls.length y.cl, .slice y.pn y.m.ns.length y.cn] 46)).alloc (.cells #[.int .i64 0, .int .i64 0, .slice none 0 0] 36)).alloc (.cells #[.int .i64 0, .slice none 0 0, .slice none 0 0] 28)) w.heap.size #[.int .i64 me, .int .i64 N, .slice p n c] 36) := Lib.hid (((((Blk.new w #[.int .i64 me, .int .i64 N, .slice p n c] 36).alloc _).alloc _).alloc _).alloc _)
 have Hb0 : Hid (Blk (((((w.alloc (.cells #[.int .i64 me, .int .i64 N, .slice p n c] 36)).alloc (.cells #[.int .i64 mb, .slice pi ni ci, .slice po no co] 28)).alloc (.cells #[.int .i64 y.m.k, .int .i64 y.m.s, .int .i64 y.m.n, .int .i64 y.m.b, .int .i64 y.m.c, .int .i64 y.m.r, .int .i64 y.m.y, .int .i64 y.m.a, .bool y.m.t, .slice y.pl y.m.ls.length y.cl, .slice y.pn y.m.ns.length y.cn] 46)).alloc (.cells #[.int .i64 0, .int .i64 0, .slice none 0 0] 36)).alloc (.cells #[.int .i64 0, .slice none 0 0, .slice none 0 0] 28)) (w.heap.size + 1) #[.int .i64 mb, .slice pi ni ci, .slice po no co] 28) := Lib.hid ((((Blk.new' (w.alloc (.cells #[.int .i64 me, .int .i64 N, .slice p n c] 36)) #[.int .i64 mb, .slice pi ni ci, .slice po no co] 28 (by simp)).alloc _).alloc _).alloc _)
 have Hm0 : Hid (Blk (((((w.alloc (.cells #[.int .i64 me, .int .i64 N, .slice p n c] 36)).alloc (.cells #[.int .i64 mb, .slice pi ni ci, .slice po no co] 28)).alloc (.cells #[.int .i64 y.m.k, .int .i64 y.m.s, .int .i64 y.m.n, .int .i64 y.m.b, .int .i64 y.m.c, .int .i64 y.m.r, .int .i64 y.m.y, .int .i64 y.m.a, .bool y.m.t, .slice y.pl y.m.ls.length y.cl, .slice y.pn y.m.ns.length y.cn] 46)).alloc (.cells #[.int .i64 0, .int .i64 0, .slice none 0 0] 36)).alloc (.cells #[.int .i64 0, .slice none 0 0, .slice none 0 0] 28)) (w.heap.size + 1 + 1) #[.int .i64 y.m.k, .int .i64 y.m.s, .int .i64 y.m.n, .int .i64 y.m.b, .int .i64 y.m.c, .int .i64 y.m.r, .int .i64 y.m.y, .int .i64 y.m.a, .bool y.m.t, .slice y.pl y.m.ls.length y.cl, .slice y.pn y.m.ns.length y.cn] 46) := Lib.hid (((Blk.new' ((w.alloc (.cells #[.int .i64 me, .int .i64 N, .slice p n c] 36)).alloc (.cells #[.int .i64 mb, .slice pi ni ci, .slice po no co] 28)) #[.int .i64 y.m.k, .int .i64 y.m.s, .int .i64 y.m.n, .int .i64 y.m.b, .int .i64 y.m.c, .int .i64 y.m.r, .int .i64 y.m.y, .int .i64 y.m.a, .bool y.m.t, .slice y.pl y.m.ls.length y.cl, .slice y.pn y.m.ns.length y.cn] 46 (by simp)).alloc _).alloc _)
 have Hrp0 : Hid (Blk (((((w.alloc (.cells #[.int .i64 me, .int .i64 N, .slice p n c] 36)).alloc (.cells #[.int .i64 mb, .slice pi ni ci, .slice po no co] 28)).alloc (.cells #[.int .i64 y.m.k, .int .i64 y.m.s, .int .i64 y.m.n, .int .i64 y.m.b, .int .i64 y.m.c, .int .i64 y.m.r, .int .i64 y.m.y, .int .i64 y.m.a, .bool y.m.t, .slice y.pl y.m.ls.length y.cl, .slice y.pn y.m.ns.length y.cn] 46)).alloc (.cells #[.int .i64 0, .int .i64 0, .slice none 0 0] 36)).alloc (.cells #[.int .i64 0, .slice none 0 0, .slice none 0 0] 28)) (w.heap.size + 1 + 1 + 1) #[.int .i64 0, .int .i64 0, .slice none 0 0] 36) := Lib.hid ((Blk.new' (((w.alloc (.cells #[.int .i64 me, .int .i64 N, .slice p n c] 36)).alloc (.cells #[.int .i64 mb, .slice pi ni ci, .slice po no co] 28)).alloc (.cells #[.int .i64 y.m.k, .int .i64 y.m.s, .int .i64 y.m.n, .int .i64 y.m.b, .int .i64 y.m.c, .int .i64 y.m.r, .int .i64 y.m.y, .int .i64 y.m.a, .bool y.m.t, .slice y.pl y.m.ls.length y.cl, .slice y.pn y.m.ns.length y.cn] 46)) #[.int .i64 0, .int .i64 0, .slice none 0 0] 36 (by simp)).alloc _)
 have Hrb0 : Hid (Blk (((((w.alloc (.cells #[.int .i64 me, .int .i64 N, .slice p n c] 36)).alloc (.cells #[.int .i64 mb, .slice pi ni ci, .slice po no co] 28)).alloc (.cells #[.int .i64 y.m.k, .int .i64 y.m.s, .int .i64 y.m.n, .int .i64 y.m.b, .int .i64 y.m.c, .int .i64 y.m.r, .int .i64 y.m.y, .int .i64 y.m.a, .bool y.m.t, .slice y.pl y.m.ls.length y.cl, .slice y.pn y.m.ns.length y.cn] 46)).alloc (.cells #[.int .i64 0, .int .i64 0, .slice none 0 0] 36)).alloc (.cells #[.int .i64 0, .slice none 0 0, .slice none 0 0] 28)) (w.heap.size + 1 + 1 + 1 + 1) #[.int .i64 0, .slice none 0 0, .slice none 0 0] 28) := Lib.hid (Blk.new' ((((w.alloc (.cells #[.int .i64 me, .int .i64 N, .slice p n c] 36)).alloc (.cells #[.int .i64 mb, .slice pi ni ci, .slice po no co] 28)).alloc (.cells #[.int .i64 y.m.k, .int .i64 y.m.s, .int .i64 y.m.n, .int .i64 y.m.b, .int .i64 y.m.c, .int .i64 y.m.r, .int .i64 y.m.y, .int .i64 y.m.a, .bool y.m.t, .slice y.pl y.m.ls.length y.cl, .slice y.pn y.m.ns.length y.cn] 46)).alloc (.cells #[.int .i64 0, .int .i64 0, .slice none 0 0] 36)) #[.int .i64 0, .slice none 0 0, .slice none 0 0] 28 (by simp))
 have HZ0 : Hid (w.heap.size ≤ (((((w.alloc (.cells #[.int .i64 me, .int .i64 N, .slice p n c] 36)).alloc (.cells #[.int .i64 mb, .slice pi ni ci, .slice po no co] 28)).alloc (.cells #[.int .i64 y.m.k, .int .i64 y.m.s, .int .i64 y.m.n, .int .i64 y.m.b, .int .i64 y.m.c, .int .i64 y.m.r, .int .i64 y.m.y, .int .i64 y.m.a, .bool y.m.t, .slice y.pl y.m.ls.length y.cl, .slice y.pn y.m.ns.length y.cn] 46)).alloc (.cells #[.int .i64 0, .int .i64 0, .slice none 0 0] 36)).alloc (.cells #[.int .i64 0, .slice none 0 0, .slice none 0 0] 28)).heap.size) := Lib.hid HB0.out.size
 go_enter Try.func33, Try.ntmps33
 go_upto_region 1 with fail
 generalize (((((w.alloc (.cells #[.int .i64 me, .int .i64 N, .slice p n c] 36)).alloc (.cells #[.int .i64 mb, .slice pi ni ci, .slice po no co] 28)).alloc (.cells #[.int .i64 y.m.k, .int .i64 y.m.s, .int .i64 y.m.n, .int .i64 y.m.b, .int .i64 y.m.c, .int .i64 y.m.r, .int .i64 y.m.y, .int .i64 y.m.a, .bool y.m.t, .slice y.pl y.m.ls.length y.cl, .slice y.pn y.m.ns.length y.cn] 46)).alloc (.cells #[.int .i64 0, .int .i64 0, .slice none 0 0] 36)).alloc (.cells #[.int .i64 0, .slice none 0 0, .slice none 0 0] 28)) = W at *
 have HGX : Hid (openP ps y.m.y = openP ps y.m.y) := Lib.hid rfl
 clear HGX
 have HG := Lib.hid (open_any W me N p n c ps y.m.y (HV.out.pts.row.kept HB0.out) HV.out.np.1 (by have := HV.out.np; omega) HV.out.pts.srt)
 obtain ⟨⟨q, f⟩, hq⟩ : ∃ r, openP ps y.m.y = r := ⟨_, rfl⟩
 rw [hq] at HG
 have HQ := Lib.hid hq
 clear hq
 unfold PtX.v at HG
 have a0 : W.cell? ⟨w.heap.size, 0, none⟩ = some (.int .i64 me) := Hp0.out.cell 0
 have a1 : W.cell? ⟨w.heap.size, 1, none⟩ = some (.int .i64 N) := Hp0.out.cell 1
 have a2 : W.cell? ⟨w.heap.size, 2, none⟩ = some (.slice p n c) := Hp0.out.cell 2
 have c6 : W.cell? ⟨(w.heap.size + 1 + 1), 6, none⟩ = some (.int .i64 y.m.y) := Hm0.out.cell 6
 go_wp2_with fail
 clear a0 a1 a2 c6
 refine HG.out.mono ?_
 rintro y9 w1 ⟨rfl, hb⟩
 clear HG
 have Hp1 := kbq Hp0 hb
 have Hb1 := kbq Hb0 hb
 have Hm1 := kbq Hm0 hb
 have Hrp1 := kbq Hrp0 hb
 have Hrb1 := kbq Hrb0 hb
 have HB1 := ktq HB0 hb
 have HZ1 := kzq HZ0 hb.size
 clear Hp0 Hb0 Hm0 Hrp0 Hrb0 HB0 HZ0
 clear hb
 have Hp2 := Lib.hid (Hp1.out.alloc (.cells #[.int .i64 q.cy, .int .i64 q.cu, .int .i64 q.st, .slice q.p q.ls.length q.c] 58))
 have Hb2 := Lib.hid (Hb1.out.alloc (.cells #[.int .i64 q.cy, .int .i64 q.cu, .int .i64 q.st, .slice q.p q.ls.length q.c] 58))
 have Hm2 := Lib.hid (Hm1.out.alloc (.cells #[.int .i64 q.cy, .int .i64 q.cu, .int .i64 q.st, .slice q.p q.ls.length q.c] 58))
 have Hrp2 := Lib.hid (Hrp1.out.alloc (.cells #[.int .i64 q.cy, .int .i64 q.cu, .int .i64 q.st, .slice q.p q.ls.length q.c] 58))
 have Hrb2 := Lib.hid (Hrb1.out.alloc (.cells #[.int .i64 q.cy, .int .i64 q.cu, .int .i64 q.st, .slice q.p q.ls.length q.c] 58))
 have Hq2 := Lib.hid (Blk.new w1 #[.int .i64 q.cy, .int .i64 q.cu, .int .i64 q.st, .slice q.p q.ls.length q.c] 58)
 have HB2 := Lib.hid (HB1.out.alloc HB1.out.size (.cells #[.int .i64 q.cy, .int .i64 q.cu, .int .i64 q.st, .slice q.p q.ls.length q.c] 58))
 have HZ2 := kzq HZ1 (oneB w1 (.cells #[.int .i64 q.cy, .int .i64 q.cu, .int .i64 q.st, .slice q.p q.ls.length q.c] 58)).size
 clear Hp1 Hb1 Hm1 Hrp1 Hrb1 HB1 HZ1
 go_upto_region 2 with fail
 generalize (w1.alloc (.cells #[.int .i64 q.cy, .int .i64 q.cu, .int .i64 q.st, .slice q.p q.ls.length q.c] 58)) = W1 at *
 generalize hggq : w1.heap.size = gq at *
 clear Hq2
 have hlt5 : w.heap.size + 1 + 1 + 1 + 1 < W1.heap.size := Hrb2.out.lt
 have hbd := (Below.refl W1.heap.size W1).drew
 refine wp_region_held_drew (S := fun w' => w'.cell? ⟨w.heap.size, 0, none⟩ = some (.int .i64 me) ∧ w'.cell? ⟨w.heap.size, 1, none⟩ = some (.int .i64 N) ∧ w'.cell? ⟨w.heap.size, 2, none⟩ = some (.slice p n c) ∧ w'.cell? ⟨w.heap.size + 1, 0, none⟩ = some (.int .i64 mb) ∧ w'.cell? ⟨w.heap.size + 1, 1, none⟩ = some (.slice pi ni ci) ∧ w'.cell? ⟨w.heap.size + 1, 2, none⟩ = some (.slice po no co) ∧ w'.cell? ⟨w.heap.size + 1 + 1, 0, none⟩ = some (.int .i64 y.m.k) ∧ w'.cell? ⟨w.heap.size + 1 + 1, 1, none⟩ = some (.int .i64 y.m.s) ∧ w'.cell? ⟨w.heap.size + 1 + 1, 2, none⟩ = some (.int .i64 y.m.n) ∧ w'.cell? ⟨w.heap.size + 1 + 1, 3, none⟩ = some (.int .i64 y.m.b) ∧ w'.cell? ⟨w.heap.size + 1 + 1, 4, none⟩ = some (.int .i64 y.m.c) ∧ w'.cell? ⟨w.heap.size + 1 + 1, 5, none⟩ = some (.int .i64 y.m.r) ∧ w'.cell? ⟨w.heap.size + 1 + 1, 6, none⟩ = some (.int .i64 y.m.y) ∧ w'.cell? ⟨w.heap.size + 1 + 1, 7, none⟩ = some (.int .i64 y.m.a) ∧ w'.cell? ⟨w.heap.size + 1 + 1, 8, none⟩ = some (.bool y.m.t) ∧ w'.cell? ⟨w.heap.size + 1 + 1, 9, none⟩ = some (.slice y.pl y.m.ls.length y.cl) ∧ w'.cell? ⟨w.heap.size + 1 + 1, 10, none⟩ = some (.slice y.pn y.m.ns.length y.cn)) (by kernel_rfl) ⟨(Hp2.out.below hbd Hp2.out.lt).cell 0, (Hp2.out.below hbd Hp2.out.lt).cell 1, (Hp2.out.below hbd Hp2.out.lt).cell 2, (Hb2.out.below hbd Hb2.out.lt).cell 0, (Hb2.out.below hbd Hb2.out.lt).cell 1, (Hb2.out.below hbd Hb2.out.lt).cell 2, (Hm2.out.below hbd Hm2.out.lt).cell 0, (Hm2.out.below hbd Hm2.out.lt).cell 1, (Hm2.out.below hbd Hm2.out.lt).cell 2, (Hm2.out.below hbd Hm2.out.lt).cell 3, (Hm2.out.below hbd Hm2.out.lt).cell 4, (Hm2.out.below hbd Hm2.out.lt).cell 5, (Hm2.out.below hbd Hm2.out.lt).cell 6, (Hm2.out.below hbd Hm2.out.lt).cell 7, (Hm2.out.below hbd Hm2.out.lt).cell 8, (Hm2.out.below hbd Hm2.out.lt).cell 9, (Hm2.out.below hbd Hm2.out.lt).cell 10⟩ (fun hS0 => ?_)
 have HLT5 : Hid (w.heap.size + 1 + 1 + 1 + 1 < W1.drew.heap.size) := Lib.hid (Nat.lt_of_lt_of_le hlt5 hbd.size)
 clear hlt5
 generalize W1.drew = WD at *
 have Hp3 := kbq Hp2 hbd
 have Hb3 := kbq Hb2 hbd
 have Hm3 := kbq Hm2 hbd
 have Hrp3 := kbq Hrp2 hbd
 have Hrb3 := kbq Hrb2 hbd
 have HB3 := ktq HB2 hbd
 have HZ3 := kzq HZ2 hbd.size
 clear Hp2 Hb2 Hm2 Hrp2 Hrb2 HB2 HZ2
 clear hbd
 refine tkq 0 ?_
 refine tkq 1 ?_
 refine tkq 2 ?_
 refine tkq 3 ?_
 refine tkq 4 ?_
 refine tkq 5 ?_
 refine tkq 7 ?_
 refine rdq 6 (fun K hK => ?_)
 have HG := Lib.hid (says_any WD me N p n c (sayX 15 y.m.y false))
 unfold sayX Msg.v at HG
 go_simp
 go_at_call 51
 refine HG.out.mono ?_
 rintro y9 w2 ⟨v5, rfl, hown, hb⟩
 clear HG
 have hown2 := Lib.hid (hown.less (show w.heap.size ≤ WD.heap.size from HB3.out.size))
 have Hp4 := kbq Hp3 hb
 have Hb4 := kbq Hb3 hb
 have Hm4 := kbq Hm3 hb
 have Hrp4 := kbq Hrp3 hb
 have Hrb4 := kbq Hrb3 hb
 have HB4 := ktq HB3 hb
 have HZ4 := kzq HZ3 hb.size
 clear Hp3 Hb3 Hm3 Hrp3 Hrb3 HB3 HZ3
 clear hb hS0
 try go_wp2_with fail
 refine hK.out _ _ ⟨Hp4.out.cell 0, Hp4.out.cell 1, Hp4.out.cell 2, Hb4.out.cell 0, Hb4.out.cell 1, Hb4.out.cell 2, Hm4.out.cell 0, Hm4.out.cell 1, Hm4.out.cell 2, Hm4.out.cell 3, Hm4.out.cell 4, Hm4.out.cell 5, Hm4.out.cell 6, Hm4.out.cell 7, Hm4.out.cell 8, Hm4.out.cell 9, Hm4.out.cell 10⟩ (fun hS0 => ?_)
 clear hK K
 try simp only [Act.put, List.getElem_toArray, List.getElem_cons_succ, List.getElem_cons_zero, List.setIfInBounds_toArray, List.set_cons_zero, List.set_cons_succ]
 have So4 := Lib.hid hown2.out
 have HLO : Hid (∀ g, v5.ownBlock = some g → w.heap.size + 1 + 1 + 1 + 1 < g) := fun g hg => by have h1 := hown.block_ge g hg; have h2 := HLT5.out; omega
 clear hown hown2
 refine rdq 8 (fun K hK => ?_)
 have z0 : w2.cell? ⟨(w.heap.size + 1 + 1 + 1), 0, none⟩ = some (.int .i64 0) := Hrp4.out.cell 0
 have z1 : w2.cell? ⟨(w.heap.size + 1 + 1 + 1), 1, none⟩ = some (.int .i64 0) := Hrp4.out.cell 1
 have z2 : w2.cell? ⟨(w.heap.size + 1 + 1 + 1), 2, none⟩ = some (.slice none 0 0) := Hrp4.out.cell 2
 have f0 := Hrp4.out.free 0
 have f1 := Hrp4.out.free 1
 have f2 := Hrp4.out.free 2
 go_simp
 clear z0 z1 z2 f0 f1 f2
 have hch := Lib.hid ((((Chg.refl (w.heap.size + 1 + 1 + 1) w2).set 0 (.int .i64 me)).set 1 (.int .i64 N)).set 2 (.slice p n c))
 have Hrp5 : Hid (Blk _ (w.heap.size + 1 + 1 + 1) #[.int .i64 me, .int .i64 N, .slice p n c] 36) := Lib.hid (((Hrp4.out.set 0 (.int .i64 me)).set 1 (.int .i64 N)).set 2 (.slice p n c))
 have HB5 := ksq HB4 hch (by show w.heap.size ≤ (w.heap.size + 1 + 1 + 1); omega)
 have HZ5 := kzq HZ4 hch.out.size
 have Hp5 := kcq Hp4 hch (by omega)
 have Hb5 := kcq Hb4 hch (by omega)
 have Hm5 := kcq Hm4 hch (by omega)
 have Hrb5 := kcq Hrb4 hch (by omega)
 have So5 := Lib.hid (So4.out.stay (fun b hb => hch.out.2 b (So4.out.lt b hb) (by have h9 := HLO.out b hb; have h1 := So4.out.block_ge b hb; omega)))
 clear hch hS0 Hp4 Hb4 Hm4 Hrp4 Hrb4 So4 HB4 HZ4
 generalize (((w2.setCell ⟨w.heap.size + 1 + 1 + 1, 0, none⟩ (.int .i64 me)).setCell ⟨w.heap.size + 1 + 1 + 1, 1, none⟩ (.int .i64 N)).setCell ⟨w.heap.size + 1 + 1 + 1, 2, none⟩ (.slice p n c)) = WP at *
 refine hK.out _ _ ⟨Hp5.out.cell 0, Hp5.out.cell 1, Hp5.out.cell 2, Hb5.out.cell 0, Hb5.out.cell 1, Hb5.out.cell 2, Hm5.out.cell 0, Hm5.out.cell 1, Hm5.out.cell 2, Hm5.out.cell 3, Hm5.out.cell 4, Hm5.out.cell 5, Hm5.out.cell 6, Hm5.out.cell 7, Hm5.out.cell 8, Hm5.out.cell 9, Hm5.out.cell 10⟩ (fun hS0 => ?_)
 clear hK K
 try simp only [Act.put, List.getElem_toArray, List.getElem_cons_succ, List.getElem_cons_zero, List.setIfInBounds_toArray, List.set_cons_zero, List.set_cons_succ]
 refine rdq 9 (fun K hK => ?_)
 have z0 : WP.cell? ⟨(w.heap.size + 1 + 1 + 1 + 1), 0, none⟩ = some (.int .i64 0) := Hrb5.out.cell 0
 have z1 : WP.cell? ⟨(w.heap.size + 1 + 1 + 1 + 1), 1, none⟩ = some (.slice none 0 0) := Hrb5.out.cell 1
 have z2 : WP.cell? ⟨(w.heap.size + 1 + 1 + 1 + 1), 2, none⟩ = some (.slice none 0 0) := Hrb5.out.cell 2
 have f0 := Hrb5.out.free 0
 have f1 := Hrb5.out.free 1
 have f2 := Hrb5.out.free 2
 go_simp
 clear z0 z1 z2 f0 f1 f2
 have hch := Lib.hid ((((Chg.refl (w.heap.size + 1 + 1 + 1 + 1) WP).set 0 (.int .i64 mb)).set 1 (.slice pi ni ci)).set 2 (.slice po no co))
 have Hrb6 : Hid (Blk _ (w.heap.size + 1 + 1 + 1 + 1) #[.int .i64 mb, .slice pi ni ci, .slice po no co] 28) := Lib.hid (((Hrb5.out.set 0 (.int .i64 mb)).set 1 (.slice pi ni ci)).set 2 (.slice po no co))
 have HB6 := ksq HB5 hch (by show w.heap.size ≤ (w.heap.size + 1 + 1 + 1 + 1); omega)
 have HZ6 := kzq HZ5 hch.out.size
 have Hp6 := kcq Hp5 hch (by omega)
 have Hb6 := kcq Hb5 hch (by omega)
 have Hm6 := kcq Hm5 hch (by omega)
 have Hrp6 := kcq Hrp5 hch (by omega)
 have So6 := Lib.hid (So5.out.stay (fun b hb => hch.out.2 b (So5.out.lt b hb) (by have h9 := HLO.out b hb; have h1 := So5.out.block_ge b hb; omega)))
 clear hch hS0 Hp5 Hb5 Hm5 Hrp5 Hrb5 So5 HB5 HZ5
 generalize (((WP.setCell ⟨w.heap.size + 1 + 1 + 1 + 1, 0, none⟩ (.int .i64 mb)).setCell ⟨w.heap.size + 1 + 1 + 1 + 1, 1, none⟩ (.slice pi ni ci)).setCell ⟨w.heap.size + 1 + 1 + 1 + 1, 2, none⟩ (.slice po no co)) = WQ at *
 refine hK.out _ _ ⟨Hp6.out.cell 0, Hp6.out.cell 1, Hp6.out.cell 2, Hb6.out.cell 0, Hb6.out.cell 1, Hb6.out.cell 2, Hm6.out.cell 0, Hm6.out.cell 1, Hm6.out.cell 2, Hm6.out.cell 3, Hm6.out.cell 4, Hm6.out.cell 5, Hm6.out.cell 6, Hm6.out.cell 7, Hm6.out.cell 8, Hm6.out.cell 9, Hm6.out.cell 10⟩ (fun hS0 => ?_)
 clear hK K
 try simp only [Act.put, List.getElem_toArray, List.getElem_cons_succ, List.getElem_cons_zero, List.setIfInBounds_toArray, List.set_cons_zero, List.set_cons_succ]
 refine tkq 10 ?_
 refine tkq 11 ?_
 refine wpAnyH_done (by kernel_rfl) ?_ _
 clear hS0
 obtain ⟨p5, c5, hv5⟩ := So6.out.form
 subst hv5
 go_wp2_with fail
 have hfp := Hrp6.out
 have hfb := Hrb6.out
 refine bodyPost_ret (v := .tuple #[.agg #[.int .i64 me, .int .i64 N, .slice p n c], .agg #[.int .i64 mb, .slice pi ni ci, .slice po no co], .slice p5 [(⟨N, sayX 15 y.m.y false⟩ : SdX)].length c5, .int .i64 f]) (by simp [results, Try.results33, go_sem, hfp.cell 0, hfp.cell 1, hfp.cell 2, hfb.cell 0, hfb.cell 1, hfb.cell 2]) rfl ⟨HB6.out, p, n, c, pi, ni, ci, _, ps, xs, [⟨N, sayX 15 y.m.y false⟩], f, rfl, (HV.out.same HB6.out).1, (HV.out.same HB6.out).2.1, (HV.out.same HB6.out).2.2, So6.out, saidR_say _ _ _ _ _ _, rfl, rfl, rfl, by rw [HQ.out]⟩
end Go.Proofs.Ytmhocihajobkkaa
namespace Go.Proofs.Ytmhocihajobkkaa
open Go.RowKit
set_option linter.unusedSimpArgs false
def lineOf (x : Itm) : Lin := ⟨x.s, x.n, x.b, x.a⟩
set_option linter.unusedSimpArgs false in
set_option maxHeartbeats 4000000 in
set_option maxRecDepth 100000 in
theorem index_any (w : World) (v : Value) (xs : List Lin) (x : Lin) (hr : TRow encN w v xs) (hn : xs.length ≤ 100000) :
  Calls Try.prog 71 #[v, x.v] w fun e w' => (∃ r : Int, e = .returned (.int .i64 r) ∧ ((x ∈ xs ∧ 0 ≤ r) ∨ (x ∉ xs ∧ r = -1))) ∧ Below w.heap.size w w' := by
 obtain ⟨p, c, rfl⟩ := hr.shape
 have HR := Lib.hid hr
 have HB := Lib.hid (oneB w (.cells #[.int .i64 x.s, .int .i64 x.n, .int .i64 x.b, .int .i64 x.a] 50))
 have HX := Lib.hid (Blk.new w #[.int .i64 x.s, .int .i64 x.n, .int .i64 x.b, .int .i64 x.a] 50)
 clear hr
 generalize hl : xs.length = n at *
 have HL := Lib.hid hl
 clear hl
 unfold Lin.v
 go_enter Try.func71, Try.ntmps71
 go_wp2_with fail
 generalize w.alloc (.cells #[.int .i64 x.s, .int .i64 x.n, .int .i64 x.b, .int .i64 x.a] 50) = W1 at *
 generalize hgx : w.heap.size = gx at *
 have HGX := Lib.hid hgx
 clear hgx
 go_loopw [8] (fun i wr => ∃ k : Nat, k ≤ n ∧ i = .int .i64 k ∧ Hid (Below gx w wr ∧ Blk wr gx #[.int .i64 x.s, .int .i64 x.n, .int .i64 x.b, .int .i64 x.a] 50 ∧ ∀ j (hj : j < xs.length), j < k → xs[j] ≠ x)) (fun i _ => n - (intOf i).toNat)
 case atStart => exact ⟨0, by omega, rfl, ⟨HB.out, HX.out, fun j hj h => by omega⟩⟩
 case round =>
  obtain ⟨k, hk, rfl, HK⟩ := hrel
  by_cases hlt : k < n
  ·have hkl : k < xs.length := by rw [HL.out]; exact hlt
   have hltI : (k : Int) < (n : Int) := by omega
   obtain ⟨b, o, rfl, hbl, hcs⟩ := (HR.out.kept (by first | exact HK.out.1 | (rw [HGX.out]; exact HK.out.1))).at_ k hkl
   obtain ⟨q, hq⟩ : ∃ q, xs[k] = q := ⟨_, rfl⟩
   rw [hq] at hcs
   have HQ := Lib.hid hq
   clear hq
   have c0 : wr.cell? ⟨b, o + k * 4, none⟩ = some (.int .i64 q.s) := hcs 0 (by decide)
   have c1 : wr.cell? ⟨b, o + k * 4 + 1, none⟩ = some (.int .i64 q.n) := hcs 1 (by decide)
   have c2 : wr.cell? ⟨b, o + k * 4 + 2, none⟩ = some (.int .i64 q.b) := hcs 2 (by decide)
   have c3 : wr.cell? ⟨b, o + k * 4 + 3, none⟩ = some (.int .i64 q.a) := hcs 3 (by decide)
   have x0 : wr.cell? ⟨gx, 0, none⟩ = some (.int .i64 x.s) := HK.out.2.1.cell 0
   have x1 : wr.cell? ⟨gx, 1, none⟩ = some (.int .i64 x.n) := HK.out.2.1.cell 1
   have x2 : wr.cell? ⟨gx, 2, none⟩ = some (.int .i64 x.b) := HK.out.2.1.cell 2
   have x3 : wr.cell? ⟨gx, 3, none⟩ = some (.int .i64 x.a) := HK.out.2.1.cell 3
   have hd := (Below.refl wr.heap.size wr).drew
   have hS1 : wr.drew.cell? ⟨b, o + k * 4, none⟩ = some (.int .i64 q.s) ∧ wr.drew.cell? ⟨b, o + k * 4 + 1, none⟩ = some (.int .i64 q.n) ∧ wr.drew.cell? ⟨b, o + k * 4 + 2, none⟩ = some (.int .i64 q.b) ∧ wr.drew.cell? ⟨b, o + k * 4 + 3, none⟩ = some (.int .i64 q.a) ∧ wr.drew.cell? ⟨gx, 0, none⟩ = some (.int .i64 x.s) ∧ wr.drew.cell? ⟨gx, 1, none⟩ = some (.int .i64 x.n) ∧ wr.drew.cell? ⟨gx, 2, none⟩ = some (.int .i64 x.b) ∧ wr.drew.cell? ⟨gx, 3, none⟩ = some (.int .i64 x.a) := ⟨(hd.cell (p := ⟨b, _, none⟩) hbl).trans c0, (hd.cell (p := ⟨b, _, none⟩) hbl).trans c1, (hd.cell (p := ⟨b, _, none⟩) hbl).trans c2, (hd.cell (p := ⟨b, _, none⟩) hbl).trans c3, (hd.cell (p := ⟨gx, _, none⟩) HK.out.2.1.lt).trans x0, (hd.cell (p := ⟨gx, _, none⟩) HK.out.2.1.lt).trans x1, (hd.cell (p := ⟨gx, _, none⟩) HK.out.2.1.lt).trans x2, (hd.cell (p := ⟨gx, _, none⟩) HK.out.2.1.lt).trans x3⟩
   have keq := fun (w : World) => line_eq x q w
   clear hcs c0 c1 c2 c3 x0 x1 x2 x3 hd
   have hkn : k + 1 ≤ 100001 := by omega
   by_cases hxq : x = q
   ·have hlq : linEq x q = true := linEq_iff.2 hxq
    rw [hlq] at keq
    go_wp2_with fail
    refine wp_region_held_drew (S := fun w' => w'.cell? ⟨b, o + k * 4, none⟩ = some (.int .i64 q.s) ∧ w'.cell? ⟨b, o + k * 4 + 1, none⟩ = some (.int .i64 q.n) ∧ w'.cell? ⟨b, o + k * 4 + 2, none⟩ = some (.int .i64 q.b) ∧ w'.cell? ⟨b, o + k * 4 + 3, none⟩ = some (.int .i64 q.a) ∧ w'.cell? ⟨gx, 0, none⟩ = some (.int .i64 x.s) ∧ w'.cell? ⟨gx, 1, none⟩ = some (.int .i64 x.n) ∧ w'.cell? ⟨gx, 2, none⟩ = some (.int .i64 x.b) ∧ w'.cell? ⟨gx, 3, none⟩ = some (.int .i64 x.a)) (by kernel_rfl) hS1 (fun hS0 => ?_)
    refine tkq 0 ?_
    refine tkq 1 ?_
    refine tkq 2 ?_
    refine tkq 3 ?_
    refine tkq 4 ?_
    refine tkq 5 ?_
    refine wpAnyH_done (by kernel_rfl) ?_ _
    clear hS1 hS0 keq
    have hmem : x ∈ xs := by rw [hxq, ← HQ.out]; exact List.getElem_mem _
    have HBD := Lib.hid (HK.out.1.drew)
    go_wp2_with fail
    go_ret
    exact ⟨⟨_, rfl, .inl ⟨hmem, by omega⟩⟩, by first | exact HBD.out | (rw [HGX.out]; exact HBD.out)⟩
   ·have hlq : linEq x q = false := by rw [Bool.eq_false_iff]; exact fun h => hxq (linEq_iff.1 h)
    rw [hlq] at keq
    have HXQ : Hid (q ≠ x) := fun h => hxq h.symm
    clear hxq hlq
    go_wp2_with fail
    refine wp_region_held_drew (S := fun w' => w'.cell? ⟨b, o + k * 4, none⟩ = some (.int .i64 q.s) ∧ w'.cell? ⟨b, o + k * 4 + 1, none⟩ = some (.int .i64 q.n) ∧ w'.cell? ⟨b, o + k * 4 + 2, none⟩ = some (.int .i64 q.b) ∧ w'.cell? ⟨b, o + k * 4 + 3, none⟩ = some (.int .i64 q.a) ∧ w'.cell? ⟨gx, 0, none⟩ = some (.int .i64 x.s) ∧ w'.cell? ⟨gx, 1, none⟩ = some (.int .i64 x.n) ∧ w'.cell? ⟨gx, 2, none⟩ = some (.int .i64 x.b) ∧ w'.cell? ⟨gx, 3, none⟩ = some (.int .i64 x.a)) (by kernel_rfl) hS1 (fun hS0 => ?_)
    refine tkq 0 ?_
    refine tkq 1 ?_
    refine tkq 2 ?_
    refine tkq 3 ?_
    refine tkq 4 ?_
    refine tkq 5 ?_
    refine wpAnyH_done (by kernel_rfl) ?_ _
    clear hS1 hS0 keq
    have HK2 : Hid (Below gx w wr.drew ∧ Blk wr.drew gx #[.int .i64 x.s, .int .i64 x.n, .int .i64 x.b, .int .i64 x.a] 50 ∧ ∀ j (hj : j < xs.length), j < k + 1 → xs[j] ≠ x) := ⟨HK.out.1.drew, HK.out.2.1.drew, fun j hj h => by
     rcases Nat.lt_or_ge j k with h1 | h1
     ·exact HK.out.2.2 j hj h1
     ·have : j = k := by omega
      subst this
      rw [HQ.out]
      exact HXQ.out⟩
    go_wp2_with fail
    go_roundw
    case rel => exact ⟨k + 1, by omega, by go_num, HK2⟩
    case measure => simp [intOf]; omega
  ·have hltI : ¬ (k : Int) < (n : Int) := by omega
   have hno : x ∉ xs := fun hx => by
    obtain ⟨j, hj, e⟩ := List.mem_iff_getElem.1 hx
    exact HK.out.2.2 j hj (by have := HL.out; omega) e
   go_wp2_with fail
   go_ret
   exact ⟨by first | exact ⟨_, rfl, .inr ⟨hno, rfl⟩⟩ | simp [hno] | exact (0 : Nat), by first | exact HK.out.1 | (rw [HGX.out]; exact HK.out.1)⟩
set_option linter.unusedSimpArgs false in
set_option maxHeartbeats 4000000 in
set_option maxRecDepth 100000 in
theorem contains_any (w : World) (v : Value) (xs : List Lin) (x : Lin) (hr : TRow encN w v xs) (hn : xs.length ≤ 100000) :
  Calls Try.prog 57 #[v, x.v] w fun e w' => e = .returned (.bool (decide (x ∈ xs))) ∧ Below w.heap.size w w' := by
 have HB := Lib.hid (oneB w (.cells #[.int .i64 x.s, .int .i64 x.n, .int .i64 x.b, .int .i64 x.a] 50))
 have HX := Lib.hid (Blk.new w #[.int .i64 x.s, .int .i64 x.n, .int .i64 x.b, .int .i64 x.a] 50)
 have HG := Lib.hid (index_any _ v xs x (hr.kept HB.out) hn)
 obtain ⟨p, c, rfl⟩ := hr.shape
 clear hr hn
 unfold Lin.v at *
 go_enter Try.func57, Try.ntmps57
 go_upto_region 1 with fail
 generalize w.alloc (.cells #[.int .i64 x.s, .int .i64 x.n, .int .i64 x.b, .int .i64 x.a] 50) = W1 at *
 have x0 : W1.cell? ⟨w.heap.size, 0, none⟩ = some (.int .i64 x.s) := HX.out.cell 0
 have x1 : W1.cell? ⟨w.heap.size, 1, none⟩ = some (.int .i64 x.n) := HX.out.cell 1
 have x2 : W1.cell? ⟨w.heap.size, 2, none⟩ = some (.int .i64 x.b) := HX.out.cell 2
 have x3 : W1.cell? ⟨w.heap.size, 3, none⟩ = some (.int .i64 x.a) := HX.out.cell 3
 go_wp2_with fail
 refine HG.out.mono ?_
 rintro y w2 ⟨⟨r, rfl, hr⟩, hb⟩
 have HB2 := ktq HB hb
 clear hb HG x0 x1 x2 x3
 rcases hr with ⟨h1, h2⟩ | ⟨h1, rfl⟩
 ·go_wp2_with fail
  go_ret
  exact ⟨by rw [decide_eq_true h1]; simp [h2], HB2.out⟩
 ·go_wp2_with fail
  go_ret
  exact ⟨by rw [decide_eq_false h1]; rfl, HB2.out⟩
/-- What decide does to an item that the cycle has locked. -/
def decF (t : Bool) (ls : List Lin) (x : Itm) : Itm × Int := if t = true ∧ lineOf x ∈ ls then settleI x else freeI x
set_option linter.unusedSimpArgs false in
set_option maxHeartbeats 4000000 in
set_option maxRecDepth 100000 in
theorem decc_any (w : World) (x : Itm) (t : Bool) (ls : List Lin) (lp : Option Addr) (lc bm bq : Nat) (hm : w.cell? ⟨bm, 8, none⟩ = some (.bool t)) (hp : w.cell? ⟨bq, 3, none⟩ = some (.slice lp ls.length lc)) (hlr : TRow encN w (.slice lp ls.length lc) ls) (hln : ls.length ≤ 100000) :
  Calls Try.prog 56 #[x.v, .pointer (some ⟨bm, 0, none⟩), .pointer (some ⟨bq, 0, none⟩)] w fun e w' => e = ansI (decF t ls x) ∧ Below w.heap.size w w' := by
 have HBM := Lib.hid (World.block_lt_of_cell? w _ hm)
 have HBP := Lib.hid (World.block_lt_of_cell? w _ hp)
 have HM := Lib.hid hm
 have HP := Lib.hid hp
 have HLR := Lib.hid hlr
 have HLN := Lib.hid hln
 obtain ⟨⟨q, f⟩, hr⟩ : ∃ r, decF t ls x = r := ⟨_, rfl⟩
 rw [hr]
 unfold decF at hr
 clear hm hp hlr hln
 unfold Itm.v
 cases t with
 | false =>
  rw [if_neg (fun h => absurd h.1 (by decide))] at hr
  have HB0 : Hid (Below w.heap.size w ((w.alloc (.cells #[.int .i64 x.s, .int .i64 x.n, .int .i64 x.b, .int .i64 x.c, .int .i64 x.a, .int .i64 x.r, .int .i64 x.t, .int .i64 x.y] 54)).alloc (.cells #[.int .i64 0, .int .i64 0, .int .i64 0, .int .i64 0, .int .i64 0, .int .i64 0, .int .i64 0, .int .i64 0] 54))) := Lib.hid (((oneB w _).alloc (by simp <;> omega) _))
  have Hx0 : Hid (Blk ((w.alloc (.cells #[.int .i64 x.s, .int .i64 x.n, .int .i64 x.b, .int .i64 x.c, .int .i64 x.a, .int .i64 x.r, .int .i64 x.t, .int .i64 x.y] 54)).alloc (.cells #[.int .i64 0, .int .i64 0, .int .i64 0, .int .i64 0, .int .i64 0, .int .i64 0, .int .i64 0, .int .i64 0] 54)) w.heap.size #[.int .i64 x.s, .int .i64 x.n, .int .i64 x.b, .int .i64 x.c, .int .i64 x.a, .int .i64 x.r, .int .i64 x.t, .int .i64 x.y] 54) := Lib.hid ((Blk.new w #[.int .i64 x.s, .int .i64 x.n, .int .i64 x.b, .int .i64 x.c, .int .i64 x.a, .int .i64 x.r, .int .i64 x.t, .int .i64 x.y] 54).alloc _)
  have Hr0 : Hid (Blk ((w.alloc (.cells #[.int .i64 x.s, .int .i64 x.n, .int .i64 x.b, .int .i64 x.c, .int .i64 x.a, .int .i64 x.r, .int .i64 x.t, .int .i64 x.y] 54)).alloc (.cells #[.int .i64 0, .int .i64 0, .int .i64 0, .int .i64 0, .int .i64 0, .int .i64 0, .int .i64 0, .int .i64 0] 54)) (w.heap.size + 1) #[.int .i64 0, .int .i64 0, .int .i64 0, .int .i64 0, .int .i64 0, .int .i64 0, .int .i64 0, .int .i64 0] 54) := Lib.hid (Blk.new' (w.alloc (.cells #[.int .i64 x.s, .int .i64 x.n, .int .i64 x.b, .int .i64 x.c, .int .i64 x.a, .int .i64 x.r, .int .i64 x.t, .int .i64 x.y] 54)) #[.int .i64 0, .int .i64 0, .int .i64 0, .int .i64 0, .int .i64 0, .int .i64 0, .int .i64 0, .int .i64 0] 54 (by simp))
  have HZ0 : Hid (w.heap.size ≤ ((w.alloc (.cells #[.int .i64 x.s, .int .i64 x.n, .int .i64 x.b, .int .i64 x.c, .int .i64 x.a, .int .i64 x.r, .int .i64 x.t, .int .i64 x.y] 54)).alloc (.cells #[.int .i64 0, .int .i64 0, .int .i64 0, .int .i64 0, .int .i64 0, .int .i64 0, .int .i64 0, .int .i64 0] 54)).heap.size) := Lib.hid HB0.out.size
  go_enter Try.func56, Try.ntmps56
  go_upto_region 1 with fail
  generalize ((w.alloc (.cells #[.int .i64 x.s, .int .i64 x.n, .int .i64 x.b, .int .i64 x.c, .int .i64 x.a, .int .i64 x.r, .int .i64 x.t, .int .i64 x.y] 54)).alloc (.cells #[.int .i64 0, .int .i64 0, .int .i64 0, .int .i64 0, .int .i64 0, .int .i64 0, .int .i64 0, .int .i64 0] 54)) = W at *
  have hbd := (Below.refl W.heap.size W).drew
  have hm8 := ((HB0.out.trans (hbd.mono HB0.out.size)).cell (p := ⟨bm, 8, none⟩) HBM.out).trans HM.out
  refine wp_region_held_drew (S := fun w' => w'.cell? ⟨bm, 8, none⟩ = some (.bool false)) (by kernel_rfl) hm8 (fun hS0 => ?_)
  clear hm8
  generalize W.drew = WD at *
  have Hx1 := kbq Hx0 hbd
  have Hr1 := kbq Hr0 hbd
  have HB1 := ktq HB0 hbd
  have HZ1 := kzq HZ0 hbd.size
  clear Hx0 Hr0 HB0 HZ0
  clear hbd
  refine tkq 0 ?_
  refine tkq 1 ?_
  refine tkq 2 ?_
  refine tnq 3 ?_
  refine tnq 4 ?_
  refine tnq 5 ?_
  refine tnq 6 ?_
  refine tnq 7 ?_
  refine tkq 8 ?_
  refine wpAnyH_done (by kernel_rfl) ?_ _
  clear hS0
  have HG := Lib.hid (free_any x WD)
  rw [hr] at HG
  clear hr
  unfold ansI Itm.v at HG
  have x0 : WD.cell? ⟨w.heap.size, 0, none⟩ = some (.int .i64 x.s) := Hx1.out.cell 0
  have x1 : WD.cell? ⟨w.heap.size, 1, none⟩ = some (.int .i64 x.n) := Hx1.out.cell 1
  have x2 : WD.cell? ⟨w.heap.size, 2, none⟩ = some (.int .i64 x.b) := Hx1.out.cell 2
  have x3 : WD.cell? ⟨w.heap.size, 3, none⟩ = some (.int .i64 x.c) := Hx1.out.cell 3
  have x4 : WD.cell? ⟨w.heap.size, 4, none⟩ = some (.int .i64 x.a) := Hx1.out.cell 4
  have x5 : WD.cell? ⟨w.heap.size, 5, none⟩ = some (.int .i64 x.r) := Hx1.out.cell 5
  have x6 : WD.cell? ⟨w.heap.size, 6, none⟩ = some (.int .i64 x.t) := Hx1.out.cell 6
  have x7 : WD.cell? ⟨w.heap.size, 7, none⟩ = some (.int .i64 x.y) := Hx1.out.cell 7
  go_wp2_with fail
  clear x0 x1 x2 x3 x4 x5 x6 x7
  refine HG.out.mono ?_
  rintro y w1 ⟨rfl, hb⟩
  clear HG
  have Hx2 := kbq Hx1 hb
  have Hr2 := kbq Hr1 hb
  have HB2 := ktq HB1 hb
  have HZ2 := kzq HZ1 hb.size
  clear Hx1 Hr1 HB1 HZ1
  clear hb
  go_wp2_with (with_reducible refine stop_storeT 54 (.tmp 4) (.tmp 21) rfl ?_)
  have HTH : Hid (w1.there (w.heap.size + 1) 0 8) := Hr2.out.thereAt
  have hch : Hid (Chg (w.heap.size + 1) w1 (w1.setCells (w.heap.size + 1) 0 (#[.int .i64 q.s, .int .i64 q.n, .int .i64 q.b, .int .i64 q.c, .int .i64 q.a, .int .i64 q.r, .int .i64 q.t, .int .i64 q.y] : Array Value).toList)) := Lib.hid (chg_putL _ _ _ _ _ (Chg.refl _ w1))
  have Hr3 : Hid (Blk (w1.setCells (w.heap.size + 1) 0 (#[.int .i64 q.s, .int .i64 q.n, .int .i64 q.b, .int .i64 q.c, .int .i64 q.a, .int .i64 q.r, .int .i64 q.t, .int .i64 q.y] : Array Value).toList) (w.heap.size + 1) #[.int .i64 q.s, .int .i64 q.n, .int .i64 q.b, .int .i64 q.c, .int .i64 q.a, .int .i64 q.r, .int .i64 q.t, .int .i64 q.y] 54) := Lib.hid (blk_put_all Hr2.out _ rfl)
  have HB3 : Hid (Below w.heap.size w (w1.setCells (w.heap.size + 1) 0 (#[.int .i64 q.s, .int .i64 q.n, .int .i64 q.b, .int .i64 q.c, .int .i64 q.a, .int .i64 q.r, .int .i64 q.t, .int .i64 q.y] : Array Value).toList)) := Lib.hid (below_put (by omega) _ _ _ _ HB2.out)
  have HZ3 := kzq HZ2 hch.out.size
  have Hx3 := kcq Hx2 hch (by omega)
  clear hch Hx2 Hr2 HB2 HZ2
  refine wpList_store_mid rfl 54 (.tmp 4) (.tmp 21) rfl (w.heap.size + 1) 0 #[.int .i64 q.s, .int .i64 q.n, .int .i64 q.b, .int .i64 q.c, .int .i64 q.a, .int .i64 q.r, .int .i64 q.t, .int .i64 q.y] rfl rfl HTH.out (infoI8 rfl) (all_oneCell_toArray (by intro u hu; simp at hu; rcases hu with rfl | rfl | rfl | rfl | rfl | rfl | rfl | rfl <;> rfl)) ?_
  generalize (w1.setCells (w.heap.size + 1) 0 (#[.int .i64 q.s, .int .i64 q.n, .int .i64 q.b, .int .i64 q.c, .int .i64 q.a, .int .i64 q.r, .int .i64 q.t, .int .i64 q.y] : Array Value).toList) = W2 at *
  clear HTH
  go_wp2_with fail
  have hf := Hr3.out
  refine bodyPost_ret (v := .tuple #[.agg #[.int .i64 q.s, .int .i64 q.n, .int .i64 q.b, .int .i64 q.c, .int .i64 q.a, .int .i64 q.r, .int .i64 q.t, .int .i64 q.y], .int .i64 f]) (by simp [results, Try.results56, go_sem, hf.cell 0, hf.cell 1, hf.cell 2, hf.cell 3, hf.cell 4, hf.cell 5, hf.cell 6, hf.cell 7]) rfl ⟨rfl, HB3.out⟩
 | true =>
  by_cases hin : lineOf x ∈ ls
  ·rw [if_pos ⟨rfl, hin⟩] at hr
   have HD : Hid (decide (lineOf x ∈ ls) = true) := decide_eq_true hin
   clear hin
   have HB0 : Hid (Below w.heap.size w ((w.alloc (.cells #[.int .i64 x.s, .int .i64 x.n, .int .i64 x.b, .int .i64 x.c, .int .i64 x.a, .int .i64 x.r, .int .i64 x.t, .int .i64 x.y] 54)).alloc (.cells #[.int .i64 0, .int .i64 0, .int .i64 0, .int .i64 0, .int .i64 0, .int .i64 0, .int .i64 0, .int .i64 0] 54))) := Lib.hid (((oneB w _).alloc (by simp <;> omega) _))
   have Hx0 : Hid (Blk ((w.alloc (.cells #[.int .i64 x.s, .int .i64 x.n, .int .i64 x.b, .int .i64 x.c, .int .i64 x.a, .int .i64 x.r, .int .i64 x.t, .int .i64 x.y] 54)).alloc (.cells #[.int .i64 0, .int .i64 0, .int .i64 0, .int .i64 0, .int .i64 0, .int .i64 0, .int .i64 0, .int .i64 0] 54)) w.heap.size #[.int .i64 x.s, .int .i64 x.n, .int .i64 x.b, .int .i64 x.c, .int .i64 x.a, .int .i64 x.r, .int .i64 x.t, .int .i64 x.y] 54) := Lib.hid ((Blk.new w #[.int .i64 x.s, .int .i64 x.n, .int .i64 x.b, .int .i64 x.c, .int .i64 x.a, .int .i64 x.r, .int .i64 x.t, .int .i64 x.y] 54).alloc _)
   have Hr0 : Hid (Blk ((w.alloc (.cells #[.int .i64 x.s, .int .i64 x.n, .int .i64 x.b, .int .i64 x.c, .int .i64 x.a, .int .i64 x.r, .int .i64 x.t, .int .i64 x.y] 54)).alloc (.cells #[.int .i64 0, .int .i64 0, .int .i64 0, .int .i64 0, .int .i64 0, .int .i64 0, .int .i64 0, .int .i64 0] 54)) (w.heap.size + 1) #[.int .i64 0, .int .i64 0, .int .i64 0, .int .i64 0, .int .i64 0, .int .i64 0, .int .i64 0, .int .i64 0] 54) := Lib.hid (Blk.new' (w.alloc (.cells #[.int .i64 x.s, .int .i64 x.n, .int .i64 x.b, .int .i64 x.c, .int .i64 x.a, .int .i64 x.r, .int .i64 x.t, .int .i64 x.y] 54)) #[.int .i64 0, .int .i64 0, .int .i64 0, .int .i64 0, .int .i64 0, .int .i64 0, .int .i64 0, .int .i64 0] 54 (by simp))
   have HZ0 : Hid (w.heap.size ≤ ((w.alloc (.cells #[.int .i64 x.s, .int .i64 x.n, .int .i64 x.b, .int .i64 x.c, .int .i64 x.a, .int .i64 x.r, .int .i64 x.t, .int .i64 x.y] 54)).alloc (.cells #[.int .i64 0, .int .i64 0, .int .i64 0, .int .i64 0, .int .i64 0, .int .i64 0, .int .i64 0, .int .i64 0] 54)).heap.size) := Lib.hid HB0.out.size
   go_enter Try.func56, Try.ntmps56
   go_upto_region 1 with fail
   generalize ((w.alloc (.cells #[.int .i64 x.s, .int .i64 x.n, .int .i64 x.b, .int .i64 x.c, .int .i64 x.a, .int .i64 x.r, .int .i64 x.t, .int .i64 x.y] 54)).alloc (.cells #[.int .i64 0, .int .i64 0, .int .i64 0, .int .i64 0, .int .i64 0, .int .i64 0, .int .i64 0, .int .i64 0] 54)) = W at *
   have hbd := (Below.refl W.heap.size W).drew
   have hm8 := ((HB0.out.trans (hbd.mono HB0.out.size)).cell (p := ⟨bm, 8, none⟩) HBM.out).trans HM.out
   have hp3 := ((HB0.out.trans (hbd.mono HB0.out.size)).cell (p := ⟨bq, 3, none⟩) HBP.out).trans HP.out
   have hxd := Hx0.out.below hbd Hx0.out.lt
   have hS1 : W.drew.cell? ⟨bm, 8, none⟩ = some (.bool true) ∧ W.drew.cell? ⟨bq, 3, none⟩ = some (.slice lp ls.length lc) ∧ W.drew.cell? ⟨w.heap.size, 0, none⟩ = some (.int .i64 x.s) ∧ W.drew.cell? ⟨w.heap.size, 1, none⟩ = some (.int .i64 x.n) ∧ W.drew.cell? ⟨w.heap.size, 2, none⟩ = some (.int .i64 x.b) ∧ W.drew.cell? ⟨w.heap.size, 3, none⟩ = some (.int .i64 x.c) ∧ W.drew.cell? ⟨w.heap.size, 4, none⟩ = some (.int .i64 x.a) ∧ W.drew.cell? ⟨w.heap.size, 5, none⟩ = some (.int .i64 x.r) ∧ W.drew.cell? ⟨w.heap.size, 6, none⟩ = some (.int .i64 x.t) ∧ W.drew.cell? ⟨w.heap.size, 7, none⟩ = some (.int .i64 x.y) := ⟨hm8, hp3, hxd.cell 0, hxd.cell 1, hxd.cell 2, hxd.cell 3, hxd.cell 4, hxd.cell 5, hxd.cell 6, hxd.cell 7⟩
   clear hm8 hp3 hxd
   refine wp_region_held_drew (S := fun w' => w'.cell? ⟨bm, 8, none⟩ = some (.bool true) ∧ w'.cell? ⟨bq, 3, none⟩ = some (.slice lp ls.length lc) ∧ w'.cell? ⟨w.heap.size, 0, none⟩ = some (.int .i64 x.s) ∧ w'.cell? ⟨w.heap.size, 1, none⟩ = some (.int .i64 x.n) ∧ w'.cell? ⟨w.heap.size, 2, none⟩ = some (.int .i64 x.b) ∧ w'.cell? ⟨w.heap.size, 3, none⟩ = some (.int .i64 x.c) ∧ w'.cell? ⟨w.heap.size, 4, none⟩ = some (.int .i64 x.a) ∧ w'.cell? ⟨w.heap.size, 5, none⟩ = some (.int .i64 x.r) ∧ w'.cell? ⟨w.heap.size, 6, none⟩ = some (.int .i64 x.t) ∧ w'.cell? ⟨w.heap.size, 7, none⟩ = some (.int .i64 x.y)) (by kernel_rfl) hS1 (fun hS0 => ?_)
   clear hS1
   generalize W.drew = WD at *
   have Hx1 := kbq Hx0 hbd
   have Hr1 := kbq Hr0 hbd
   have HB1 := ktq HB0 hbd
   have HZ1 := kzq HZ0 hbd.size
   clear Hx0 Hr0 HB0 HZ0
   clear hbd
   refine tkq 0 ?_
   refine tkq 1 ?_
   refine tkq 2 ?_
   refine tkq 3 ?_
   refine tkq 4 ?_
   refine tkq 5 ?_
   refine rdq 6 (fun K hK => ?_)
   have HG := Lib.hid (line_any x WD)
   unfold Itm.v at HG
   go_simp
   go_at_call 49
   refine HG.out.mono ?_
   rintro y w1 ⟨rfl, hb⟩
   clear HG
   have hS2 : w1.cell? ⟨bm, 8, none⟩ = some (.bool true) ∧ w1.cell? ⟨bq, 3, none⟩ = some (.slice lp ls.length lc) ∧ w1.cell? ⟨w.heap.size, 0, none⟩ = some (.int .i64 x.s) ∧ w1.cell? ⟨w.heap.size, 1, none⟩ = some (.int .i64 x.n) ∧ w1.cell? ⟨w.heap.size, 2, none⟩ = some (.int .i64 x.b) ∧ w1.cell? ⟨w.heap.size, 3, none⟩ = some (.int .i64 x.c) ∧ w1.cell? ⟨w.heap.size, 4, none⟩ = some (.int .i64 x.a) ∧ w1.cell? ⟨w.heap.size, 5, none⟩ = some (.int .i64 x.r) ∧ w1.cell? ⟨w.heap.size, 6, none⟩ = some (.int .i64 x.t) ∧ w1.cell? ⟨w.heap.size, 7, none⟩ = some (.int .i64 x.y) := ⟨(hb.cell (p := ⟨bm, 8, none⟩) (World.block_lt_of_cell? _ _ hS0.1)).trans hS0.1, (hb.cell (p := ⟨bq, 3, none⟩) (World.block_lt_of_cell? _ _ hS0.2.1)).trans hS0.2.1, (hb.cell (p := ⟨w.heap.size, 0, none⟩) (World.block_lt_of_cell? _ _ (hS0.2.2.1))).trans hS0.2.2.1, (hb.cell (p := ⟨w.heap.size, 1, none⟩) (World.block_lt_of_cell? _ _ (hS0.2.2.2.1))).trans hS0.2.2.2.1, (hb.cell (p := ⟨w.heap.size, 2, none⟩) (World.block_lt_of_cell? _ _ (hS0.2.2.2.2.1))).trans hS0.2.2.2.2.1, (hb.cell (p := ⟨w.heap.size, 3, none⟩) (World.block_lt_of_cell? _ _ (hS0.2.2.2.2.2.1))).trans hS0.2.2.2.2.2.1, (hb.cell (p := ⟨w.heap.size, 4, none⟩) (World.block_lt_of_cell? _ _ (hS0.2.2.2.2.2.2.1))).trans hS0.2.2.2.2.2.2.1, (hb.cell (p := ⟨w.heap.size, 5, none⟩) (World.block_lt_of_cell? _ _ (hS0.2.2.2.2.2.2.2.1))).trans hS0.2.2.2.2.2.2.2.1, (hb.cell (p := ⟨w.heap.size, 6, none⟩) (World.block_lt_of_cell? _ _ (hS0.2.2.2.2.2.2.2.2.1))).trans hS0.2.2.2.2.2.2.2.2.1, (hb.cell (p := ⟨w.heap.size, 7, none⟩) (World.block_lt_of_cell? _ _ (hS0.2.2.2.2.2.2.2.2.2))).trans hS0.2.2.2.2.2.2.2.2.2⟩
   have Hx2 := kbq Hx1 hb
   have Hr2 := kbq Hr1 hb
   have HB2 := ktq HB1 hb
   have HZ2 := kzq HZ1 hb.size
   clear Hx1 Hr1 HB1 HZ1
   clear hb hS0
   try go_wp2_with fail
   refine hK.out _ _ hS2 (fun hS0 => ?_)
   clear hK K hS2
   try simp only [Act.put, List.getElem_toArray, List.getElem_cons_succ, List.getElem_cons_zero, List.setIfInBounds_toArray, List.set_cons_zero, List.set_cons_succ]
   refine rdq 7 (fun K hK => ?_)
   have HG := Lib.hid (contains_any w1 (.slice lp ls.length lc) ls (lineOf x) (HLR.out.kept HB2.out) HLN.out)
   unfold Lin.v lineOf at HG
   go_simp
   go_at_call 57
   refine HG.out.mono ?_
   rintro y w2 ⟨rfl, hb⟩
   clear HG
   have hS2 : w2.cell? ⟨bm, 8, none⟩ = some (.bool true) ∧ w2.cell? ⟨bq, 3, none⟩ = some (.slice lp ls.length lc) ∧ w2.cell? ⟨w.heap.size, 0, none⟩ = some (.int .i64 x.s) ∧ w2.cell? ⟨w.heap.size, 1, none⟩ = some (.int .i64 x.n) ∧ w2.cell? ⟨w.heap.size, 2, none⟩ = some (.int .i64 x.b) ∧ w2.cell? ⟨w.heap.size, 3, none⟩ = some (.int .i64 x.c) ∧ w2.cell? ⟨w.heap.size, 4, none⟩ = some (.int .i64 x.a) ∧ w2.cell? ⟨w.heap.size, 5, none⟩ = some (.int .i64 x.r) ∧ w2.cell? ⟨w.heap.size, 6, none⟩ = some (.int .i64 x.t) ∧ w2.cell? ⟨w.heap.size, 7, none⟩ = some (.int .i64 x.y) := ⟨(hb.cell (p := ⟨bm, 8, none⟩) (World.block_lt_of_cell? _ _ hS0.1)).trans hS0.1, (hb.cell (p := ⟨bq, 3, none⟩) (World.block_lt_of_cell? _ _ hS0.2.1)).trans hS0.2.1, (hb.cell (p := ⟨w.heap.size, 0, none⟩) (World.block_lt_of_cell? _ _ (hS0.2.2.1))).trans hS0.2.2.1, (hb.cell (p := ⟨w.heap.size, 1, none⟩) (World.block_lt_of_cell? _ _ (hS0.2.2.2.1))).trans hS0.2.2.2.1, (hb.cell (p := ⟨w.heap.size, 2, none⟩) (World.block_lt_of_cell? _ _ (hS0.2.2.2.2.1))).trans hS0.2.2.2.2.1, (hb.cell (p := ⟨w.heap.size, 3, none⟩) (World.block_lt_of_cell? _ _ (hS0.2.2.2.2.2.1))).trans hS0.2.2.2.2.2.1, (hb.cell (p := ⟨w.heap.size, 4, none⟩) (World.block_lt_of_cell? _ _ (hS0.2.2.2.2.2.2.1))).trans hS0.2.2.2.2.2.2.1, (hb.cell (p := ⟨w.heap.size, 5, none⟩) (World.block_lt_of_cell? _ _ (hS0.2.2.2.2.2.2.2.1))).trans hS0.2.2.2.2.2.2.2.1, (hb.cell (p := ⟨w.heap.size, 6, none⟩) (World.block_lt_of_cell? _ _ (hS0.2.2.2.2.2.2.2.2.1))).trans hS0.2.2.2.2.2.2.2.2.1, (hb.cell (p := ⟨w.heap.size, 7, none⟩) (World.block_lt_of_cell? _ _ (hS0.2.2.2.2.2.2.2.2.2))).trans hS0.2.2.2.2.2.2.2.2.2⟩
   have Hx3 := kbq Hx2 hb
   have Hr3 := kbq Hr2 hb
   have HB3 := ktq HB2 hb
   have HZ3 := kzq HZ2 hb.size
   clear Hx2 Hr2 HB2 HZ2
   clear hb hS0
   try go_wp2_with fail
   have hD : decide ((⟨x.s, x.n, x.b, x.a⟩ : Lin) ∈ ls) = true := HD.out
   rw [hD]
   refine hK.out _ _ hS2 (fun hS0 => ?_)
   clear hK K hS2 hD
   try simp only [Act.put, List.getElem_toArray, List.getElem_cons_succ, List.getElem_cons_zero, List.setIfInBounds_toArray, List.set_cons_zero, List.set_cons_succ]
   refine tkq 8 ?_
   refine wpAnyH_done (by kernel_rfl) ?_ _
   clear hS0
   have HG := Lib.hid (settle_any x w2)
   rw [hr] at HG
   clear hr
   unfold ansI Itm.v at HG
   have x0 : w2.cell? ⟨w.heap.size, 0, none⟩ = some (.int .i64 x.s) := Hx3.out.cell 0
   have x1 : w2.cell? ⟨w.heap.size, 1, none⟩ = some (.int .i64 x.n) := Hx3.out.cell 1
   have x2 : w2.cell? ⟨w.heap.size, 2, none⟩ = some (.int .i64 x.b) := Hx3.out.cell 2
   have x3 : w2.cell? ⟨w.heap.size, 3, none⟩ = some (.int .i64 x.c) := Hx3.out.cell 3
   have x4 : w2.cell? ⟨w.heap.size, 4, none⟩ = some (.int .i64 x.a) := Hx3.out.cell 4
   have x5 : w2.cell? ⟨w.heap.size, 5, none⟩ = some (.int .i64 x.r) := Hx3.out.cell 5
   have x6 : w2.cell? ⟨w.heap.size, 6, none⟩ = some (.int .i64 x.t) := Hx3.out.cell 6
   have x7 : w2.cell? ⟨w.heap.size, 7, none⟩ = some (.int .i64 x.y) := Hx3.out.cell 7
   go_wp2_with fail
   clear x0 x1 x2 x3 x4 x5 x6 x7
   refine HG.out.mono ?_
   rintro y w1 ⟨rfl, hb⟩
   clear HG
   have Hx4 := kbq Hx3 hb
   have Hr4 := kbq Hr3 hb
   have HB4 := ktq HB3 hb
   have HZ4 := kzq HZ3 hb.size
   clear Hx3 Hr3 HB3 HZ3
   clear hb
   go_wp2_with (with_reducible refine stop_storeT 54 (.tmp 4) (.tmp 17) rfl ?_)
   have HTH : Hid (w1.there (w.heap.size + 1) 0 8) := Hr4.out.thereAt
   have hch : Hid (Chg (w.heap.size + 1) w1 (w1.setCells (w.heap.size + 1) 0 (#[.int .i64 q.s, .int .i64 q.n, .int .i64 q.b, .int .i64 q.c, .int .i64 q.a, .int .i64 q.r, .int .i64 q.t, .int .i64 q.y] : Array Value).toList)) := Lib.hid (chg_putL _ _ _ _ _ (Chg.refl _ w1))
   have Hr5 : Hid (Blk (w1.setCells (w.heap.size + 1) 0 (#[.int .i64 q.s, .int .i64 q.n, .int .i64 q.b, .int .i64 q.c, .int .i64 q.a, .int .i64 q.r, .int .i64 q.t, .int .i64 q.y] : Array Value).toList) (w.heap.size + 1) #[.int .i64 q.s, .int .i64 q.n, .int .i64 q.b, .int .i64 q.c, .int .i64 q.a, .int .i64 q.r, .int .i64 q.t, .int .i64 q.y] 54) := Lib.hid (blk_put_all Hr4.out _ rfl)
   have HB5 : Hid (Below w.heap.size w (w1.setCells (w.heap.size + 1) 0 (#[.int .i64 q.s, .int .i64 q.n, .int .i64 q.b, .int .i64 q.c, .int .i64 q.a, .int .i64 q.r, .int .i64 q.t, .int .i64 q.y] : Array Value).toList)) := Lib.hid (below_put (by omega) _ _ _ _ HB4.out)
   have HZ5 := kzq HZ4 hch.out.size
   have Hx5 := kcq Hx4 hch (by omega)
   clear hch Hx4 Hr4 HB4 HZ4
   refine wpList_store_mid rfl 54 (.tmp 4) (.tmp 17) rfl (w.heap.size + 1) 0 #[.int .i64 q.s, .int .i64 q.n, .int .i64 q.b, .int .i64 q.c, .int .i64 q.a, .int .i64 q.r, .int .i64 q.t, .int .i64 q.y] rfl rfl HTH.out (infoI8 rfl) (all_oneCell_toArray (by intro u hu; simp at hu; rcases hu with rfl | rfl | rfl | rfl | rfl | rfl | rfl | rfl <;> rfl)) ?_
   generalize (w1.setCells (w.heap.size + 1) 0 (#[.int .i64 q.s, .int .i64 q.n, .int .i64 q.b, .int .i64 q.c, .int .i64 q.a, .int .i64 q.r, .int .i64 q.t, .int .i64 q.y] : Array Value).toList) = W2 at *
   clear HTH
   go_wp2_with fail
   have hf := Hr5.out
   refine bodyPost_ret (v := .tuple #[.agg #[.int .i64 q.s, .int .i64 q.n, .int .i64 q.b, .int .i64 q.c, .int .i64 q.a, .int .i64 q.r, .int .i64 q.t, .int .i64 q.y], .int .i64 f]) (by simp [results, Try.results56, go_sem, hf.cell 0, hf.cell 1, hf.cell 2, hf.cell 3, hf.cell 4, hf.cell 5, hf.cell 6, hf.cell 7]) rfl ⟨rfl, HB5.out⟩
  ·rw [if_neg (fun h => hin h.2)] at hr
   have HD : Hid (decide (lineOf x ∈ ls) = false) := decide_eq_false hin
   clear hin
   have HB0 : Hid (Below w.heap.size w ((w.alloc (.cells #[.int .i64 x.s, .int .i64 x.n, .int .i64 x.b, .int .i64 x.c, .int .i64 x.a, .int .i64 x.r, .int .i64 x.t, .int .i64 x.y] 54)).alloc (.cells #[.int .i64 0, .int .i64 0, .int .i64 0, .int .i64 0, .int .i64 0, .int .i64 0, .int .i64 0, .int .i64 0] 54))) := Lib.hid (((oneB w _).alloc (by simp <;> omega) _))
   have Hx0 : Hid (Blk ((w.alloc (.cells #[.int .i64 x.s, .int .i64 x.n, .int .i64 x.b, .int .i64 x.c, .int .i64 x.a, .int .i64 x.r, .int .i64 x.t, .int .i64 x.y] 54)).alloc (.cells #[.int .i64 0, .int .i64 0, .int .i64 0, .int .i64 0, .int .i64 0, .int .i64 0, .int .i64 0, .int .i64 0] 54)) w.heap.size #[.int .i64 x.s, .int .i64 x.n, .int .i64 x.b, .int .i64 x.c, .int .i64 x.a, .int .i64 x.r, .int .i64 x.t, .int .i64 x.y] 54) := Lib.hid ((Blk.new w #[.int .i64 x.s, .int .i64 x.n, .int .i64 x.b, .int .i64 x.c, .int .i64 x.a, .int .i64 x.r, .int .i64 x.t, .int .i64 x.y] 54).alloc _)
   have Hr0 : Hid (Blk ((w.alloc (.cells #[.int .i64 x.s, .int .i64 x.n, .int .i64 x.b, .int .i64 x.c, .int .i64 x.a, .int .i64 x.r, .int .i64 x.t, .int .i64 x.y] 54)).alloc (.cells #[.int .i64 0, .int .i64 0, .int .i64 0, .int .i64 0, .int .i64 0, .int .i64 0, .int .i64 0, .int .i64 0] 54)) (w.heap.size + 1) #[.int .i64 0, .int .i64 0, .int .i64 0, .int .i64 0, .int .i64 0, .int .i64 0, .int .i64 0, .int .i64 0] 54) := Lib.hid (Blk.new' (w.alloc (.cells #[.int .i64 x.s, .int .i64 x.n, .int .i64 x.b, .int .i64 x.c, .int .i64 x.a, .int .i64 x.r, .int .i64 x.t, .int .i64 x.y] 54)) #[.int .i64 0, .int .i64 0, .int .i64 0, .int .i64 0, .int .i64 0, .int .i64 0, .int .i64 0, .int .i64 0] 54 (by simp))
   have HZ0 : Hid (w.heap.size ≤ ((w.alloc (.cells #[.int .i64 x.s, .int .i64 x.n, .int .i64 x.b, .int .i64 x.c, .int .i64 x.a, .int .i64 x.r, .int .i64 x.t, .int .i64 x.y] 54)).alloc (.cells #[.int .i64 0, .int .i64 0, .int .i64 0, .int .i64 0, .int .i64 0, .int .i64 0, .int .i64 0, .int .i64 0] 54)).heap.size) := Lib.hid HB0.out.size
   go_enter Try.func56, Try.ntmps56
   go_upto_region 1 with fail
   generalize ((w.alloc (.cells #[.int .i64 x.s, .int .i64 x.n, .int .i64 x.b, .int .i64 x.c, .int .i64 x.a, .int .i64 x.r, .int .i64 x.t, .int .i64 x.y] 54)).alloc (.cells #[.int .i64 0, .int .i64 0, .int .i64 0, .int .i64 0, .int .i64 0, .int .i64 0, .int .i64 0, .int .i64 0] 54)) = W at *
   have hbd := (Below.refl W.heap.size W).drew
   have hm8 := ((HB0.out.trans (hbd.mono HB0.out.size)).cell (p := ⟨bm, 8, none⟩) HBM.out).trans HM.out
   have hp3 := ((HB0.out.trans (hbd.mono HB0.out.size)).cell (p := ⟨bq, 3, none⟩) HBP.out).trans HP.out
   have hxd := Hx0.out.below hbd Hx0.out.lt
   have hS1 : W.drew.cell? ⟨bm, 8, none⟩ = some (.bool true) ∧ W.drew.cell? ⟨bq, 3, none⟩ = some (.slice lp ls.length lc) ∧ W.drew.cell? ⟨w.heap.size, 0, none⟩ = some (.int .i64 x.s) ∧ W.drew.cell? ⟨w.heap.size, 1, none⟩ = some (.int .i64 x.n) ∧ W.drew.cell? ⟨w.heap.size, 2, none⟩ = some (.int .i64 x.b) ∧ W.drew.cell? ⟨w.heap.size, 3, none⟩ = some (.int .i64 x.c) ∧ W.drew.cell? ⟨w.heap.size, 4, none⟩ = some (.int .i64 x.a) ∧ W.drew.cell? ⟨w.heap.size, 5, none⟩ = some (.int .i64 x.r) ∧ W.drew.cell? ⟨w.heap.size, 6, none⟩ = some (.int .i64 x.t) ∧ W.drew.cell? ⟨w.heap.size, 7, none⟩ = some (.int .i64 x.y) := ⟨hm8, hp3, hxd.cell 0, hxd.cell 1, hxd.cell 2, hxd.cell 3, hxd.cell 4, hxd.cell 5, hxd.cell 6, hxd.cell 7⟩
   clear hm8 hp3 hxd
   refine wp_region_held_drew (S := fun w' => w'.cell? ⟨bm, 8, none⟩ = some (.bool true) ∧ w'.cell? ⟨bq, 3, none⟩ = some (.slice lp ls.length lc) ∧ w'.cell? ⟨w.heap.size, 0, none⟩ = some (.int .i64 x.s) ∧ w'.cell? ⟨w.heap.size, 1, none⟩ = some (.int .i64 x.n) ∧ w'.cell? ⟨w.heap.size, 2, none⟩ = some (.int .i64 x.b) ∧ w'.cell? ⟨w.heap.size, 3, none⟩ = some (.int .i64 x.c) ∧ w'.cell? ⟨w.heap.size, 4, none⟩ = some (.int .i64 x.a) ∧ w'.cell? ⟨w.heap.size, 5, none⟩ = some (.int .i64 x.r) ∧ w'.cell? ⟨w.heap.size, 6, none⟩ = some (.int .i64 x.t) ∧ w'.cell? ⟨w.heap.size, 7, none⟩ = some (.int .i64 x.y)) (by kernel_rfl) hS1 (fun hS0 => ?_)
   clear hS1
   generalize W.drew = WD at *
   have Hx1 := kbq Hx0 hbd
   have Hr1 := kbq Hr0 hbd
   have HB1 := ktq HB0 hbd
   have HZ1 := kzq HZ0 hbd.size
   clear Hx0 Hr0 HB0 HZ0
   clear hbd
   refine tkq 0 ?_
   refine tkq 1 ?_
   refine tkq 2 ?_
   refine tkq 3 ?_
   refine tkq 4 ?_
   refine tkq 5 ?_
   refine rdq 6 (fun K hK => ?_)
   have HG := Lib.hid (line_any x WD)
   unfold Itm.v at HG
   go_simp
   go_at_call 49
   refine HG.out.mono ?_
   rintro y w1 ⟨rfl, hb⟩
   clear HG
   have hS2 : w1.cell? ⟨bm, 8, none⟩ = some (.bool true) ∧ w1.cell? ⟨bq, 3, none⟩ = some (.slice lp ls.length lc) ∧ w1.cell? ⟨w.heap.size, 0, none⟩ = some (.int .i64 x.s) ∧ w1.cell? ⟨w.heap.size, 1, none⟩ = some (.int .i64 x.n) ∧ w1.cell? ⟨w.heap.size, 2, none⟩ = some (.int .i64 x.b) ∧ w1.cell? ⟨w.heap.size, 3, none⟩ = some (.int .i64 x.c) ∧ w1.cell? ⟨w.heap.size, 4, none⟩ = some (.int .i64 x.a) ∧ w1.cell? ⟨w.heap.size, 5, none⟩ = some (.int .i64 x.r) ∧ w1.cell? ⟨w.heap.size, 6, none⟩ = some (.int .i64 x.t) ∧ w1.cell? ⟨w.heap.size, 7, none⟩ = some (.int .i64 x.y) := ⟨(hb.cell (p := ⟨bm, 8, none⟩) (World.block_lt_of_cell? _ _ hS0.1)).trans hS0.1, (hb.cell (p := ⟨bq, 3, none⟩) (World.block_lt_of_cell? _ _ hS0.2.1)).trans hS0.2.1, (hb.cell (p := ⟨w.heap.size, 0, none⟩) (World.block_lt_of_cell? _ _ (hS0.2.2.1))).trans hS0.2.2.1, (hb.cell (p := ⟨w.heap.size, 1, none⟩) (World.block_lt_of_cell? _ _ (hS0.2.2.2.1))).trans hS0.2.2.2.1, (hb.cell (p := ⟨w.heap.size, 2, none⟩) (World.block_lt_of_cell? _ _ (hS0.2.2.2.2.1))).trans hS0.2.2.2.2.1, (hb.cell (p := ⟨w.heap.size, 3, none⟩) (World.block_lt_of_cell? _ _ (hS0.2.2.2.2.2.1))).trans hS0.2.2.2.2.2.1, (hb.cell (p := ⟨w.heap.size, 4, none⟩) (World.block_lt_of_cell? _ _ (hS0.2.2.2.2.2.2.1))).trans hS0.2.2.2.2.2.2.1, (hb.cell (p := ⟨w.heap.size, 5, none⟩) (World.block_lt_of_cell? _ _ (hS0.2.2.2.2.2.2.2.1))).trans hS0.2.2.2.2.2.2.2.1, (hb.cell (p := ⟨w.heap.size, 6, none⟩) (World.block_lt_of_cell? _ _ (hS0.2.2.2.2.2.2.2.2.1))).trans hS0.2.2.2.2.2.2.2.2.1, (hb.cell (p := ⟨w.heap.size, 7, none⟩) (World.block_lt_of_cell? _ _ (hS0.2.2.2.2.2.2.2.2.2))).trans hS0.2.2.2.2.2.2.2.2.2⟩
   have Hx2 := kbq Hx1 hb
   have Hr2 := kbq Hr1 hb
   have HB2 := ktq HB1 hb
   have HZ2 := kzq HZ1 hb.size
   clear Hx1 Hr1 HB1 HZ1
   clear hb hS0
   try go_wp2_with fail
   refine hK.out _ _ hS2 (fun hS0 => ?_)
   clear hK K hS2
   try simp only [Act.put, List.getElem_toArray, List.getElem_cons_succ, List.getElem_cons_zero, List.setIfInBounds_toArray, List.set_cons_zero, List.set_cons_succ]
   refine rdq 7 (fun K hK => ?_)
   have HG := Lib.hid (contains_any w1 (.slice lp ls.length lc) ls (lineOf x) (HLR.out.kept HB2.out) HLN.out)
   unfold Lin.v lineOf at HG
   go_simp
   go_at_call 57
   refine HG.out.mono ?_
   rintro y w2 ⟨rfl, hb⟩
   clear HG
   have hS2 : w2.cell? ⟨bm, 8, none⟩ = some (.bool true) ∧ w2.cell? ⟨bq, 3, none⟩ = some (.slice lp ls.length lc) ∧ w2.cell? ⟨w.heap.size, 0, none⟩ = some (.int .i64 x.s) ∧ w2.cell? ⟨w.heap.size, 1, none⟩ = some (.int .i64 x.n) ∧ w2.cell? ⟨w.heap.size, 2, none⟩ = some (.int .i64 x.b) ∧ w2.cell? ⟨w.heap.size, 3, none⟩ = some (.int .i64 x.c) ∧ w2.cell? ⟨w.heap.size, 4, none⟩ = some (.int .i64 x.a) ∧ w2.cell? ⟨w.heap.size, 5, none⟩ = some (.int .i64 x.r) ∧ w2.cell? ⟨w.heap.size, 6, none⟩ = some (.int .i64 x.t) ∧ w2.cell? ⟨w.heap.size, 7, none⟩ = some (.int .i64 x.y) := ⟨(hb.cell (p := ⟨bm, 8, none⟩) (World.block_lt_of_cell? _ _ hS0.1)).trans hS0.1, (hb.cell (p := ⟨bq, 3, none⟩) (World.block_lt_of_cell? _ _ hS0.2.1)).trans hS0.2.1, (hb.cell (p := ⟨w.heap.size, 0, none⟩) (World.block_lt_of_cell? _ _ (hS0.2.2.1))).trans hS0.2.2.1, (hb.cell (p := ⟨w.heap.size, 1, none⟩) (World.block_lt_of_cell? _ _ (hS0.2.2.2.1))).trans hS0.2.2.2.1, (hb.cell (p := ⟨w.heap.size, 2, none⟩) (World.block_lt_of_cell? _ _ (hS0.2.2.2.2.1))).trans hS0.2.2.2.2.1, (hb.cell (p := ⟨w.heap.size, 3, none⟩) (World.block_lt_of_cell? _ _ (hS0.2.2.2.2.2.1))).trans hS0.2.2.2.2.2.1, (hb.cell (p := ⟨w.heap.size, 4, none⟩) (World.block_lt_of_cell? _ _ (hS0.2.2.2.2.2.2.1))).trans hS0.2.2.2.2.2.2.1, (hb.cell (p := ⟨w.heap.size, 5, none⟩) (World.block_lt_of_cell? _ _ (hS0.2.2.2.2.2.2.2.1))).trans hS0.2.2.2.2.2.2.2.1, (hb.cell (p := ⟨w.heap.size, 6, none⟩) (World.block_lt_of_cell? _ _ (hS0.2.2.2.2.2.2.2.2.1))).trans hS0.2.2.2.2.2.2.2.2.1, (hb.cell (p := ⟨w.heap.size, 7, none⟩) (World.block_lt_of_cell? _ _ (hS0.2.2.2.2.2.2.2.2.2))).trans hS0.2.2.2.2.2.2.2.2.2⟩
   have Hx3 := kbq Hx2 hb
   have Hr3 := kbq Hr2 hb
   have HB3 := ktq HB2 hb
   have HZ3 := kzq HZ2 hb.size
   clear Hx2 Hr2 HB2 HZ2
   clear hb hS0
   try go_wp2_with fail
   have hD : decide ((⟨x.s, x.n, x.b, x.a⟩ : Lin) ∈ ls) = false := HD.out
   rw [hD]
   refine hK.out _ _ hS2 (fun hS0 => ?_)
   clear hK K hS2 hD
   try simp only [Act.put, List.getElem_toArray, List.getElem_cons_succ, List.getElem_cons_zero, List.setIfInBounds_toArray, List.set_cons_zero, List.set_cons_succ]
   refine tkq 8 ?_
   refine wpAnyH_done (by kernel_rfl) ?_ _
   clear hS0
   have HG := Lib.hid (free_any x w2)
   rw [hr] at HG
   clear hr
   unfold ansI Itm.v at HG
   have x0 : w2.cell? ⟨w.heap.size, 0, none⟩ = some (.int .i64 x.s) := Hx3.out.cell 0
   have x1 : w2.cell? ⟨w.heap.size, 1, none⟩ = some (.int .i64 x.n) := Hx3.out.cell 1
   have x2 : w2.cell? ⟨w.heap.size, 2, none⟩ = some (.int .i64 x.b) := Hx3.out.cell 2
   have x3 : w2.cell? ⟨w.heap.size, 3, none⟩ = some (.int .i64 x.c) := Hx3.out.cell 3
   have x4 : w2.cell? ⟨w.heap.size, 4, none⟩ = some (.int .i64 x.a) := Hx3.out.cell 4
   have x5 : w2.cell? ⟨w.heap.size, 5, none⟩ = some (.int .i64 x.r) := Hx3.out.cell 5
   have x6 : w2.cell? ⟨w.heap.size, 6, none⟩ = some (.int .i64 x.t) := Hx3.out.cell 6
   have x7 : w2.cell? ⟨w.heap.size, 7, none⟩ = some (.int .i64 x.y) := Hx3.out.cell 7
   go_wp2_with fail
   clear x0 x1 x2 x3 x4 x5 x6 x7
   refine HG.out.mono ?_
   rintro y w1 ⟨rfl, hb⟩
   clear HG
   have Hx4 := kbq Hx3 hb
   have Hr4 := kbq Hr3 hb
   have HB4 := ktq HB3 hb
   have HZ4 := kzq HZ3 hb.size
   clear Hx3 Hr3 HB3 HZ3
   clear hb
   go_wp2_with (with_reducible refine stop_storeT 54 (.tmp 4) (.tmp 21) rfl ?_)
   have HTH : Hid (w1.there (w.heap.size + 1) 0 8) := Hr4.out.thereAt
   have hch : Hid (Chg (w.heap.size + 1) w1 (w1.setCells (w.heap.size + 1) 0 (#[.int .i64 q.s, .int .i64 q.n, .int .i64 q.b, .int .i64 q.c, .int .i64 q.a, .int .i64 q.r, .int .i64 q.t, .int .i64 q.y] : Array Value).toList)) := Lib.hid (chg_putL _ _ _ _ _ (Chg.refl _ w1))
   have Hr5 : Hid (Blk (w1.setCells (w.heap.size + 1) 0 (#[.int .i64 q.s, .int .i64 q.n, .int .i64 q.b, .int .i64 q.c, .int .i64 q.a, .int .i64 q.r, .int .i64 q.t, .int .i64 q.y] : Array Value).toList) (w.heap.size + 1) #[.int .i64 q.s, .int .i64 q.n, .int .i64 q.b, .int .i64 q.c, .int .i64 q.a, .int .i64 q.r, .int .i64 q.t, .int .i64 q.y] 54) := Lib.hid (blk_put_all Hr4.out _ rfl)
   have HB5 : Hid (Below w.heap.size w (w1.setCells (w.heap.size + 1) 0 (#[.int .i64 q.s, .int .i64 q.n, .int .i64 q.b, .int .i64 q.c, .int .i64 q.a, .int .i64 q.r, .int .i64 q.t, .int .i64 q.y] : Array Value).toList)) := Lib.hid (below_put (by omega) _ _ _ _ HB4.out)
   have HZ5 := kzq HZ4 hch.out.size
   have Hx5 := kcq Hx4 hch (by omega)
   clear hch Hx4 Hr4 HB4 HZ4
   refine wpList_store_mid rfl 54 (.tmp 4) (.tmp 21) rfl (w.heap.size + 1) 0 #[.int .i64 q.s, .int .i64 q.n, .int .i64 q.b, .int .i64 q.c, .int .i64 q.a, .int .i64 q.r, .int .i64 q.t, .int .i64 q.y] rfl rfl HTH.out (infoI8 rfl) (all_oneCell_toArray (by intro u hu; simp at hu; rcases hu with rfl | rfl | rfl | rfl | rfl | rfl | rfl | rfl <;> rfl)) ?_
   generalize (w1.setCells (w.heap.size + 1) 0 (#[.int .i64 q.s, .int .i64 q.n, .int .i64 q.b, .int .i64 q.c, .int .i64 q.a, .int .i64 q.r, .int .i64 q.t, .int .i64 q.y] : Array Value).toList) = W2 at *
   clear HTH
   go_wp2_with fail
   have hf := Hr5.out
   refine bodyPost_ret (v := .tuple #[.agg #[.int .i64 q.s, .int .i64 q.n, .int .i64 q.b, .int .i64 q.c, .int .i64 q.a, .int .i64 q.r, .int .i64 q.t, .int .i64 q.y], .int .i64 f]) (by simp [results, Try.results56, go_sem, hf.cell 0, hf.cell 1, hf.cell 2, hf.cell 3, hf.cell 4, hf.cell 5, hf.cell 6, hf.cell 7]) rfl ⟨rfl, HB5.out⟩
end Go.Proofs.Ytmhocihajobkkaa
namespace Go.Proofs.Ytmhocihajobkkaa
open Go.RowKit
set_option linter.unusedSimpArgs false
/-- Has the book the item of a line, the very same, locked by the cycle? -/
def holdsOne (xs : List Itm) (cy : Int) (x : Lin) : Bool :=
 match findX xs x.s x.n with
 | none => false
 | some y => (y.t == 3) && ((y.y == cy) && decide (lineOf y = x))
def holdsB (xs : List Itm) (cy : Int) (ls : List Lin) : Bool := ls.all (holdsOne xs cy)
set_option linter.unusedSimpArgs false in
set_option maxHeartbeats 4000000 in
set_option maxRecDepth 100000 in
theorem holds_any (w : World) (me cy : Int) (pi po : Option Addr) (ni ci no co : Nat) (xs : List Itm) (p : Option Addr) (n c : Nat) (ls : List Lin) (hr : TRow encI w (.slice pi ni ci) xs) (hl : xs.length = ni) (hn : ni ≤ 2000) (hs : SortX xs) (hlr : TRow encN w (.slice p n c) ls) (hln : n = ls.length) (hl2 : n ≤ 100000) :
  Calls Try.prog 55 #[bookV me (.slice pi ni ci) (.slice po no co), .int .i64 cy, .slice p n c] w fun e w' => e = .returned (.bool (holdsB xs cy ls)) ∧ Below w.heap.size w w' := by
 unfold bookV
 have HB0 : Hid (Below w.heap.size w (w.alloc (.cells #[.int .i64 me, .slice pi ni ci, .slice po no co] 28))) := Lib.hid ((oneB w _))
 have Hb0 : Hid (Blk (w.alloc (.cells #[.int .i64 me, .slice pi ni ci, .slice po no co] 28)) w.heap.size #[.int .i64 me, .slice pi ni ci, .slice po no co] 28) := Lib.hid (Blk.new w #[.int .i64 me, .slice pi ni ci, .slice po no co] 28)
 have HZ0 : Hid (w.heap.size ≤ (w.alloc (.cells #[.int .i64 me, .slice pi ni ci, .slice po no co] 28)).heap.size) := Lib.hid HB0.out.size
 obtain ⟨D, hD⟩ : ∃ D, holdsB xs cy ls = D := ⟨_, rfl⟩
 rw [hD]
 have HD := Lib.hid hD
 have HR0 := Lib.hid hr
 have HL0 := Lib.hid hlr
 have HSX := Lib.hid hs
 have HNN : Hid (xs.length = ni ∧ ni ≤ 2000 ∧ n = ls.length ∧ n ≤ 100000) := ⟨hl, hn, hln, hl2⟩
 clear hD hr hlr hs hl hn hln hl2
 go_enter Try.func55, Try.ntmps55
 go_upto_region 1 with fail
 generalize (w.alloc (.cells #[.int .i64 me, .slice pi ni ci, .slice po no co] 28)) = W at *
 go_wp2_with fail
 go_loopw [13] (fun i wr => ∃ k : Nat, k ≤ n ∧ i = .int .i64 k ∧ Hid (Blk wr w.heap.size #[.int .i64 me, .slice pi ni ci, .slice po no co] 28) ∧ Hid (Below w.heap.size w wr) ∧ Hid (∀ j (hj : j < ls.length), j < k → holdsOne xs cy ls[j] = true)) (fun i _ => n - (intOf i).toNat)
 case atStart => exact ⟨0, by omega, rfl, Hb0, HB0, fun j hj h => by omega⟩
 case round =>
  obtain ⟨k, hk, rfl, Hb90, HB90, HALL⟩ := hrel
  clear Hb0 HB0 HZ0
  have HZ90 : Hid (w.heap.size ≤ wr.heap.size) := Lib.hid HB90.out.size
  by_cases hlt : k < n
  ·have hltI : (k : Int) < (n : Int) := by omega
   have hk41 : k + 1 ≤ 100001 := by have := HNN.out; omega
   have hkl : k < ls.length := by have := HNN.out; omega
   have HKN : Hid (k < n) := hlt
   obtain ⟨b, o, rfl, hbl, hcs⟩ := (HL0.out.kept HB90.out).at_ k hkl
   have HMEM := Lib.hid (List.getElem_mem hkl)
   obtain ⟨x, hx⟩ : ∃ x, ls[k] = x := ⟨_, rfl⟩
   rw [hx] at hcs HMEM
   have HLX : Hid (∀ hj : k < ls.length, ls[k] = x) := fun _ => hx
   clear hx
   have c0 : wr.cell? ⟨b, o + k * 4, none⟩ = some (.int .i64 x.s) := hcs 0 (by decide)
   have c1 : wr.cell? ⟨b, o + k * 4 + 1, none⟩ = some (.int .i64 x.n) := hcs 1 (by decide)
   have c2 : wr.cell? ⟨b, o + k * 4 + 2, none⟩ = some (.int .i64 x.b) := hcs 2 (by decide)
   have c3 : wr.cell? ⟨b, o + k * 4 + 3, none⟩ = some (.int .i64 x.a) := hcs 3 (by decide)
   clear hcs hbl hkl
   have Hb91 := Lib.hid (Hb90.out.alloc (.cells #[.int .i64 x.s, .int .i64 x.n, .int .i64 x.b, .int .i64 x.a] 50))
   have Hx91 := Lib.hid (Blk.new wr #[.int .i64 x.s, .int .i64 x.n, .int .i64 x.b, .int .i64 x.a] 50)
   have HB91 := Lib.hid (HB90.out.alloc HB90.out.size (.cells #[.int .i64 x.s, .int .i64 x.n, .int .i64 x.b, .int .i64 x.a] 50))
   have HZ91 := kzq HZ90 (oneB wr (.cells #[.int .i64 x.s, .int .i64 x.n, .int .i64 x.b, .int .i64 x.a] 50)).size
   clear Hb90 HB90 HZ90
   go_upto_region 4 with fail
   clear c0 c1 c2 c3
   generalize (wr.alloc (.cells #[.int .i64 x.s, .int .i64 x.n, .int .i64 x.b, .int .i64 x.a] 50)) = wX at *
   generalize hggx : wr.heap.size = gx at *
   have HG := Lib.hid (dget_any wX me pi po ni ci no co x.s x.n xs (HR0.out.kept HB91.out) HNN.out.1 HSX.out HNN.out.2.1)
   obtain ⟨fo, hfo⟩ : ∃ f, findX xs x.s x.n = f := ⟨_, rfl⟩
   rw [hfo] at HG
   have HFO := Lib.hid hfo
   clear hfo
   obtain ⟨bf, hbf⟩ : ∃ b, fo.isSome = b := ⟨_, rfl⟩
   obtain ⟨y, hy⟩ : ∃ q, fo.getD itm0 = q := ⟨_, rfl⟩
   rw [hbf, hy] at HG
   have HONE : Hid (holdsOne xs cy x = (bf && ((y.t == 3) && ((y.y == cy) && decide (lineOf y = x))))) := by
    show _ = _
    unfold holdsOne
    rw [HFO.out, ← hbf, ← hy]
    cases fo <;> rfl
   clear hbf hy HFO
   unfold bookV idV Itm.v at HG
   have a0 : wX.cell? ⟨w.heap.size, 0, none⟩ = some (.int .i64 me) := Hb91.out.cell 0
   have a1 : wX.cell? ⟨w.heap.size, 1, none⟩ = some (.slice pi ni ci) := Hb91.out.cell 1
   have a2 : wX.cell? ⟨w.heap.size, 2, none⟩ = some (.slice po no co) := Hb91.out.cell 2
   have c0 : wX.cell? ⟨gx, 0, none⟩ = some (.int .i64 x.s) := Hx91.out.cell 0
   have c1 : wX.cell? ⟨gx, 1, none⟩ = some (.int .i64 x.n) := Hx91.out.cell 1
   go_wp2_with fail
   clear a0 a1 a2 c0 c1
   refine HG.out.mono ?_
   rintro y8 w4 ⟨rfl, hb⟩
   clear HG
   have Hb92 := kbq Hb91 hb
   have Hx92 := kbq Hx91 hb
   have HB92 := ktq HB91 hb
   have HZ92 := kzq HZ91 hb.size
   clear Hb91 Hx91 HB91 HZ91
   clear hb
   have Hb93 := Lib.hid (Hb92.out.alloc (.cells #[.int .i64 y.s, .int .i64 y.n, .int .i64 y.b, .int .i64 y.c, .int .i64 y.a, .int .i64 y.r, .int .i64 y.t, .int .i64 y.y] 54))
   have Hx93 := Lib.hid (Hx92.out.alloc (.cells #[.int .i64 y.s, .int .i64 y.n, .int .i64 y.b, .int .i64 y.c, .int .i64 y.a, .int .i64 y.r, .int .i64 y.t, .int .i64 y.y] 54))
   have Hy93 := Lib.hid (Blk.new w4 #[.int .i64 y.s, .int .i64 y.n, .int .i64 y.b, .int .i64 y.c, .int .i64 y.a, .int .i64 y.r, .int .i64 y.t, .int .i64 y.y] 54)
   have HB93 := Lib.hid (HB92.out.alloc HB92.out.size (.cells #[.int .i64 y.s, .int .i64 y.n, .int .i64 y.b, .int .i64 y.c, .int .i64 y.a, .int .i64 y.r, .int .i64 y.t, .int .i64 y.y] 54))
   have HZ93 := kzq HZ92 (oneB w4 (.cells #[.int .i64 y.s, .int .i64 y.n, .int .i64 y.b, .int .i64 y.c, .int .i64 y.a, .int .i64 y.r, .int .i64 y.t, .int .i64 y.y] 54)).size
   clear Hb92 Hx92 HB92 HZ92
   go_upto_region 5 with fail
   generalize (w4.alloc (.cells #[.int .i64 y.s, .int .i64 y.n, .int .i64 y.b, .int .i64 y.c, .int .i64 y.a, .int .i64 y.r, .int .i64 y.t, .int .i64 y.y] 54)) = W4 at *
   generalize hggy : w4.heap.size = gy at *
   cases bf with
   | false =>
    have hbd := (Below.refl W4.heap.size W4).drew
    have hyd := Hy93.out.below hbd Hy93.out.lt
    have hxd := Hx93.out.below hbd Hx93.out.lt
    have hS1 : W4.drew.cell? ⟨gy, 0, none⟩ = some (.int .i64 y.s) ∧ W4.drew.cell? ⟨gy, 1, none⟩ = some (.int .i64 y.n) ∧ W4.drew.cell? ⟨gy, 2, none⟩ = some (.int .i64 y.b) ∧ W4.drew.cell? ⟨gy, 3, none⟩ = some (.int .i64 y.c) ∧ W4.drew.cell? ⟨gy, 4, none⟩ = some (.int .i64 y.a) ∧ W4.drew.cell? ⟨gy, 5, none⟩ = some (.int .i64 y.r) ∧ W4.drew.cell? ⟨gy, 6, none⟩ = some (.int .i64 y.t) ∧ W4.drew.cell? ⟨gy, 7, none⟩ = some (.int .i64 y.y) ∧ W4.drew.cell? ⟨gx, 0, none⟩ = some (.int .i64 x.s) ∧ W4.drew.cell? ⟨gx, 1, none⟩ = some (.int .i64 x.n) ∧ W4.drew.cell? ⟨gx, 2, none⟩ = some (.int .i64 x.b) ∧ W4.drew.cell? ⟨gx, 3, none⟩ = some (.int .i64 x.a) := ⟨hyd.cell 0, hyd.cell 1, hyd.cell 2, hyd.cell 3, hyd.cell 4, hyd.cell 5, hyd.cell 6, hyd.cell 7, hxd.cell 0, hxd.cell 1, hxd.cell 2, hxd.cell 3⟩
    clear hyd hxd
    refine wp_region_held_drew (S := fun w' => w'.cell? ⟨gy, 0, none⟩ = some (.int .i64 y.s) ∧ w'.cell? ⟨gy, 1, none⟩ = some (.int .i64 y.n) ∧ w'.cell? ⟨gy, 2, none⟩ = some (.int .i64 y.b) ∧ w'.cell? ⟨gy, 3, none⟩ = some (.int .i64 y.c) ∧ w'.cell? ⟨gy, 4, none⟩ = some (.int .i64 y.a) ∧ w'.cell? ⟨gy, 5, none⟩ = some (.int .i64 y.r) ∧ w'.cell? ⟨gy, 6, none⟩ = some (.int .i64 y.t) ∧ w'.cell? ⟨gy, 7, none⟩ = some (.int .i64 y.y) ∧ w'.cell? ⟨gx, 0, none⟩ = some (.int .i64 x.s) ∧ w'.cell? ⟨gx, 1, none⟩ = some (.int .i64 x.n) ∧ w'.cell? ⟨gx, 2, none⟩ = some (.int .i64 x.b) ∧ w'.cell? ⟨gx, 3, none⟩ = some (.int .i64 x.a)) (by kernel_rfl) hS1 (fun hS0 => ?_)
    clear hS1
    generalize W4.drew = WD at *
    have Hb94 := kbq Hb93 hbd
    have Hx94 := kbq Hx93 hbd
    have Hy94 := kbq Hy93 hbd
    have HB94 := ktq HB93 hbd
    have HZ94 := kzq HZ93 hbd.size
    clear Hb93 Hx93 Hy93 HB93 HZ93
    clear hbd
    refine tkq 0 ?_
    refine tkq 1 ?_
    refine tkq 2 ?_
    refine tnq 3 ?_
    refine tnq 4 ?_
    refine tnq 5 ?_
    refine tkq 6 ?_
    refine tkq 7 ?_
    refine tnq 8 ?_
    refine tnq 9 ?_
    refine tnq 10 ?_
    refine tnq 11 ?_
    refine tkq 12 ?_
    refine tkq 13 ?_
    refine tnq 14 ?_
    refine tnq 15 ?_
    refine tnq 16 ?_
    refine tnq 17 ?_
    refine tkq 18 ?_
    refine wpAnyH_done (by kernel_rfl) ?_ _
    clear hS0
    have hD : D = false := by
     rw [← HD.out]
     unfold holdsB
     rw [List.all_eq_false]
     exact ⟨x, HMEM.out, by rw [HONE.out]; simp⟩
    subst hD
    go_wp2_with fail
    go_ret
    exact ⟨rfl, HB94.out⟩
   | true =>
    by_cases h3 : y.t = 3
    ·have e3 : (y.t != 3) = false := by simpa using h3
     have E3 : Hid (y.t = 3) := h3
     clear h3
     by_cases h5 : y.y = cy
     ·have e5 : (y.y != cy) = false := by simpa using h5
      have E5 : Hid (y.y = cy) := h5
      clear h5
      have keq0 := fun (w : World) => line_eq (lineOf y) x w
      by_cases h7 : lineOf y = x
      ·have keq := fun (w : World) => keq0 w
       rw [linEq_iff.2 h7] at keq
       have hone : holdsOne xs cy x = true := by rw [HONE.out, E3.out, E5.out]; simp [h7]
       have HO1 := Lib.hid hone
       clear keq0 h7 hone
       unfold lineOf at keq
       have hbd := (Below.refl W4.heap.size W4).drew
       have hyd := Hy93.out.below hbd Hy93.out.lt
       have hxd := Hx93.out.below hbd Hx93.out.lt
       have hS1 : W4.drew.cell? ⟨gy, 0, none⟩ = some (.int .i64 y.s) ∧ W4.drew.cell? ⟨gy, 1, none⟩ = some (.int .i64 y.n) ∧ W4.drew.cell? ⟨gy, 2, none⟩ = some (.int .i64 y.b) ∧ W4.drew.cell? ⟨gy, 3, none⟩ = some (.int .i64 y.c) ∧ W4.drew.cell? ⟨gy, 4, none⟩ = some (.int .i64 y.a) ∧ W4.drew.cell? ⟨gy, 5, none⟩ = some (.int .i64 y.r) ∧ W4.drew.cell? ⟨gy, 6, none⟩ = some (.int .i64 y.t) ∧ W4.drew.cell? ⟨gy, 7, none⟩ = some (.int .i64 y.y) ∧ W4.drew.cell? ⟨gx, 0, none⟩ = some (.int .i64 x.s) ∧ W4.drew.cell? ⟨gx, 1, none⟩ = some (.int .i64 x.n) ∧ W4.drew.cell? ⟨gx, 2, none⟩ = some (.int .i64 x.b) ∧ W4.drew.cell? ⟨gx, 3, none⟩ = some (.int .i64 x.a) := ⟨hyd.cell 0, hyd.cell 1, hyd.cell 2, hyd.cell 3, hyd.cell 4, hyd.cell 5, hyd.cell 6, hyd.cell 7, hxd.cell 0, hxd.cell 1, hxd.cell 2, hxd.cell 3⟩
       clear hyd hxd
       refine wp_region_held_drew (S := fun w' => w'.cell? ⟨gy, 0, none⟩ = some (.int .i64 y.s) ∧ w'.cell? ⟨gy, 1, none⟩ = some (.int .i64 y.n) ∧ w'.cell? ⟨gy, 2, none⟩ = some (.int .i64 y.b) ∧ w'.cell? ⟨gy, 3, none⟩ = some (.int .i64 y.c) ∧ w'.cell? ⟨gy, 4, none⟩ = some (.int .i64 y.a) ∧ w'.cell? ⟨gy, 5, none⟩ = some (.int .i64 y.r) ∧ w'.cell? ⟨gy, 6, none⟩ = some (.int .i64 y.t) ∧ w'.cell? ⟨gy, 7, none⟩ = some (.int .i64 y.y) ∧ w'.cell? ⟨gx, 0, none⟩ = some (.int .i64 x.s) ∧ w'.cell? ⟨gx, 1, none⟩ = some (.int .i64 x.n) ∧ w'.cell? ⟨gx, 2, none⟩ = some (.int .i64 x.b) ∧ w'.cell? ⟨gx, 3, none⟩ = some (.int .i64 x.a)) (by kernel_rfl) hS1 (fun hS0 => ?_)
       clear hS1
       generalize W4.drew = WD at *
       have Hb94 := kbq Hb93 hbd
       have Hx94 := kbq Hx93 hbd
       have Hy94 := kbq Hy93 hbd
       have HB94 := ktq HB93 hbd
       have HZ94 := kzq HZ93 hbd.size
       clear Hb93 Hx93 Hy93 HB93 HZ93
       clear hbd
       refine tkq 0 ?_
       refine tkq 1 ?_
       refine tkq 2 ?_
       refine tkq 3 ?_
       refine tkq 4 ?_
       refine tkq 5 ?_
       refine tkq 6 ?_
       refine tkq 7 ?_
       refine tkq 8 ?_
       refine tkq 9 ?_
       refine tkq 10 ?_
       refine tkq 11 ?_
       refine tkq 12 ?_
       refine tkq 13 ?_
       refine tkq 14 ?_
       refine tkq 16 ?_
       refine rdq 15 (fun K hK => ?_)
       have HG := Lib.hid (line_any y WD)
       unfold Itm.v at HG
       go_simp
       go_at_call 49
       refine HG.out.mono ?_
       rintro y7 w1 ⟨rfl, hb⟩
       clear HG
       have Hb95 := kbq Hb94 hb
       have Hx95 := kbq Hx94 hb
       have Hy95 := kbq Hy94 hb
       have HB95 := ktq HB94 hb
       have HZ95 := kzq HZ94 hb.size
       clear Hb94 Hx94 Hy94 HB94 HZ94
       clear hb
       have hS2 : w1.cell? ⟨gy, 0, none⟩ = some (.int .i64 y.s) ∧ w1.cell? ⟨gy, 1, none⟩ = some (.int .i64 y.n) ∧ w1.cell? ⟨gy, 2, none⟩ = some (.int .i64 y.b) ∧ w1.cell? ⟨gy, 3, none⟩ = some (.int .i64 y.c) ∧ w1.cell? ⟨gy, 4, none⟩ = some (.int .i64 y.a) ∧ w1.cell? ⟨gy, 5, none⟩ = some (.int .i64 y.r) ∧ w1.cell? ⟨gy, 6, none⟩ = some (.int .i64 y.t) ∧ w1.cell? ⟨gy, 7, none⟩ = some (.int .i64 y.y) ∧ w1.cell? ⟨gx, 0, none⟩ = some (.int .i64 x.s) ∧ w1.cell? ⟨gx, 1, none⟩ = some (.int .i64 x.n) ∧ w1.cell? ⟨gx, 2, none⟩ = some (.int .i64 x.b) ∧ w1.cell? ⟨gx, 3, none⟩ = some (.int .i64 x.a) := ⟨Hy95.out.cell 0, Hy95.out.cell 1, Hy95.out.cell 2, Hy95.out.cell 3, Hy95.out.cell 4, Hy95.out.cell 5, Hy95.out.cell 6, Hy95.out.cell 7, Hx95.out.cell 0, Hx95.out.cell 1, Hx95.out.cell 2, Hx95.out.cell 3⟩
       try go_wp2_with fail
       refine hK.out _ _ hS2 (fun hS0 => ?_)
       clear hK K hS2
       try simp only [Act.put, List.getElem_toArray, List.getElem_cons_succ, List.getElem_cons_zero, List.setIfInBounds_toArray, List.set_cons_zero, List.set_cons_succ]
       refine tkq 17 ?_
       refine tkq 18 ?_
       refine wpAnyH_done (by kernel_rfl) ?_ _
       clear hS0 keq
       have HAL2 : Hid (∀ j (hj : j < ls.length), j < k + 1 → holdsOne xs cy ls[j] = true) := fun j hj h => by
        rcases Nat.lt_or_ge j k with h1 | h1
        ·exact HALL.out j hj h1
        ·have : j = k := by omega
         subst this
         rw [HLX.out hj]
         exact HO1.out
       go_wp2_with fail
       go_roundw
       case rel => exact ⟨k + 1, by have := HKN.out; omega, by go_num, Hb95, HB95, HAL2⟩
       case measure => have := HKN.out; simp [intOf]; omega
      ·have keq := fun (w : World) => keq0 w
       rw [show linEq (lineOf y) x = false by rw [Bool.eq_false_iff]; exact fun h => h7 (linEq_iff.1 h)] at keq
       have H7 := Lib.hid h7
       clear keq0 h7
       unfold lineOf at keq
       have hbd := (Below.refl W4.heap.size W4).drew
       have hyd := Hy93.out.below hbd Hy93.out.lt
       have hxd := Hx93.out.below hbd Hx93.out.lt
       have hS1 : W4.drew.cell? ⟨gy, 0, none⟩ = some (.int .i64 y.s) ∧ W4.drew.cell? ⟨gy, 1, none⟩ = some (.int .i64 y.n) ∧ W4.drew.cell? ⟨gy, 2, none⟩ = some (.int .i64 y.b) ∧ W4.drew.cell? ⟨gy, 3, none⟩ = some (.int .i64 y.c) ∧ W4.drew.cell? ⟨gy, 4, none⟩ = some (.int .i64 y.a) ∧ W4.drew.cell? ⟨gy, 5, none⟩ = some (.int .i64 y.r) ∧ W4.drew.cell? ⟨gy, 6, none⟩ = some (.int .i64 y.t) ∧ W4.drew.cell? ⟨gy, 7, none⟩ = some (.int .i64 y.y) ∧ W4.drew.cell? ⟨gx, 0, none⟩ = some (.int .i64 x.s) ∧ W4.drew.cell? ⟨gx, 1, none⟩ = some (.int .i64 x.n) ∧ W4.drew.cell? ⟨gx, 2, none⟩ = some (.int .i64 x.b) ∧ W4.drew.cell? ⟨gx, 3, none⟩ = some (.int .i64 x.a) := ⟨hyd.cell 0, hyd.cell 1, hyd.cell 2, hyd.cell 3, hyd.cell 4, hyd.cell 5, hyd.cell 6, hyd.cell 7, hxd.cell 0, hxd.cell 1, hxd.cell 2, hxd.cell 3⟩
       clear hyd hxd
       refine wp_region_held_drew (S := fun w' => w'.cell? ⟨gy, 0, none⟩ = some (.int .i64 y.s) ∧ w'.cell? ⟨gy, 1, none⟩ = some (.int .i64 y.n) ∧ w'.cell? ⟨gy, 2, none⟩ = some (.int .i64 y.b) ∧ w'.cell? ⟨gy, 3, none⟩ = some (.int .i64 y.c) ∧ w'.cell? ⟨gy, 4, none⟩ = some (.int .i64 y.a) ∧ w'.cell? ⟨gy, 5, none⟩ = some (.int .i64 y.r) ∧ w'.cell? ⟨gy, 6, none⟩ = some (.int .i64 y.t) ∧ w'.cell? ⟨gy, 7, none⟩ = some (.int .i64 y.y) ∧ w'.cell? ⟨gx, 0, none⟩ = some (.int .i64 x.s) ∧ w'.cell? ⟨gx, 1, none⟩ = some (.int .i64 x.n) ∧ w'.cell? ⟨gx, 2, none⟩ = some (.int .i64 x.b) ∧ w'.cell? ⟨gx, 3, none⟩ = some (.int .i64 x.a)) (by kernel_rfl) hS1 (fun hS0 => ?_)
       clear hS1
       generalize W4.drew = WD at *
       have Hb94 := kbq Hb93 hbd
       have Hx94 := kbq Hx93 hbd
       have Hy94 := kbq Hy93 hbd
       have HB94 := ktq HB93 hbd
       have HZ94 := kzq HZ93 hbd.size
       clear Hb93 Hx93 Hy93 HB93 HZ93
       clear hbd
       refine tkq 0 ?_
       refine tkq 1 ?_
       refine tkq 2 ?_
       refine tkq 3 ?_
       refine tkq 4 ?_
       refine tkq 5 ?_
       refine tkq 6 ?_
       refine tkq 7 ?_
       refine tkq 8 ?_
       refine tkq 9 ?_
       refine tkq 10 ?_
       refine tkq 11 ?_
       refine tkq 12 ?_
       refine tkq 13 ?_
       refine tkq 14 ?_
       refine tkq 16 ?_
       refine rdq 15 (fun K hK => ?_)
       have HG := Lib.hid (line_any y WD)
       unfold Itm.v at HG
       go_simp
       go_at_call 49
       refine HG.out.mono ?_
       rintro y7 w1 ⟨rfl, hb⟩
       clear HG
       have Hb95 := kbq Hb94 hb
       have Hx95 := kbq Hx94 hb
       have Hy95 := kbq Hy94 hb
       have HB95 := ktq HB94 hb
       have HZ95 := kzq HZ94 hb.size
       clear Hb94 Hx94 Hy94 HB94 HZ94
       clear hb
       have hS2 : w1.cell? ⟨gy, 0, none⟩ = some (.int .i64 y.s) ∧ w1.cell? ⟨gy, 1, none⟩ = some (.int .i64 y.n) ∧ w1.cell? ⟨gy, 2, none⟩ = some (.int .i64 y.b) ∧ w1.cell? ⟨gy, 3, none⟩ = some (.int .i64 y.c) ∧ w1.cell? ⟨gy, 4, none⟩ = some (.int .i64 y.a) ∧ w1.cell? ⟨gy, 5, none⟩ = some (.int .i64 y.r) ∧ w1.cell? ⟨gy, 6, none⟩ = some (.int .i64 y.t) ∧ w1.cell? ⟨gy, 7, none⟩ = some (.int .i64 y.y) ∧ w1.cell? ⟨gx, 0, none⟩ = some (.int .i64 x.s) ∧ w1.cell? ⟨gx, 1, none⟩ = some (.int .i64 x.n) ∧ w1.cell? ⟨gx, 2, none⟩ = some (.int .i64 x.b) ∧ w1.cell? ⟨gx, 3, none⟩ = some (.int .i64 x.a) := ⟨Hy95.out.cell 0, Hy95.out.cell 1, Hy95.out.cell 2, Hy95.out.cell 3, Hy95.out.cell 4, Hy95.out.cell 5, Hy95.out.cell 6, Hy95.out.cell 7, Hx95.out.cell 0, Hx95.out.cell 1, Hx95.out.cell 2, Hx95.out.cell 3⟩
       try go_wp2_with fail
       refine hK.out _ _ hS2 (fun hS0 => ?_)
       clear hK K hS2
       try simp only [Act.put, List.getElem_toArray, List.getElem_cons_succ, List.getElem_cons_zero, List.setIfInBounds_toArray, List.set_cons_zero, List.set_cons_succ]
       refine tkq 17 ?_
       refine tkq 18 ?_
       refine wpAnyH_done (by kernel_rfl) ?_ _
       clear keq
       clear hS0
       have hD : D = false := by
        rw [← HD.out]
        unfold holdsB
        rw [List.all_eq_false]
        exact ⟨x, HMEM.out, by rw [HONE.out]; simp [H7.out]⟩
       subst hD
       go_wp2_with fail
       go_ret
       exact ⟨rfl, HB95.out⟩
     ·have e5 : (y.y != cy) = true := by simpa using h5
      have E5 := Lib.hid h5
      clear h5
      have hbd := (Below.refl W4.heap.size W4).drew
      have hyd := Hy93.out.below hbd Hy93.out.lt
      have hxd := Hx93.out.below hbd Hx93.out.lt
      have hS1 : W4.drew.cell? ⟨gy, 0, none⟩ = some (.int .i64 y.s) ∧ W4.drew.cell? ⟨gy, 1, none⟩ = some (.int .i64 y.n) ∧ W4.drew.cell? ⟨gy, 2, none⟩ = some (.int .i64 y.b) ∧ W4.drew.cell? ⟨gy, 3, none⟩ = some (.int .i64 y.c) ∧ W4.drew.cell? ⟨gy, 4, none⟩ = some (.int .i64 y.a) ∧ W4.drew.cell? ⟨gy, 5, none⟩ = some (.int .i64 y.r) ∧ W4.drew.cell? ⟨gy, 6, none⟩ = some (.int .i64 y.t) ∧ W4.drew.cell? ⟨gy, 7, none⟩ = some (.int .i64 y.y) ∧ W4.drew.cell? ⟨gx, 0, none⟩ = some (.int .i64 x.s) ∧ W4.drew.cell? ⟨gx, 1, none⟩ = some (.int .i64 x.n) ∧ W4.drew.cell? ⟨gx, 2, none⟩ = some (.int .i64 x.b) ∧ W4.drew.cell? ⟨gx, 3, none⟩ = some (.int .i64 x.a) := ⟨hyd.cell 0, hyd.cell 1, hyd.cell 2, hyd.cell 3, hyd.cell 4, hyd.cell 5, hyd.cell 6, hyd.cell 7, hxd.cell 0, hxd.cell 1, hxd.cell 2, hxd.cell 3⟩
      clear hyd hxd
      refine wp_region_held_drew (S := fun w' => w'.cell? ⟨gy, 0, none⟩ = some (.int .i64 y.s) ∧ w'.cell? ⟨gy, 1, none⟩ = some (.int .i64 y.n) ∧ w'.cell? ⟨gy, 2, none⟩ = some (.int .i64 y.b) ∧ w'.cell? ⟨gy, 3, none⟩ = some (.int .i64 y.c) ∧ w'.cell? ⟨gy, 4, none⟩ = some (.int .i64 y.a) ∧ w'.cell? ⟨gy, 5, none⟩ = some (.int .i64 y.r) ∧ w'.cell? ⟨gy, 6, none⟩ = some (.int .i64 y.t) ∧ w'.cell? ⟨gy, 7, none⟩ = some (.int .i64 y.y) ∧ w'.cell? ⟨gx, 0, none⟩ = some (.int .i64 x.s) ∧ w'.cell? ⟨gx, 1, none⟩ = some (.int .i64 x.n) ∧ w'.cell? ⟨gx, 2, none⟩ = some (.int .i64 x.b) ∧ w'.cell? ⟨gx, 3, none⟩ = some (.int .i64 x.a)) (by kernel_rfl) hS1 (fun hS0 => ?_)
      clear hS1
      generalize W4.drew = WD at *
      have Hb94 := kbq Hb93 hbd
      have Hx94 := kbq Hx93 hbd
      have Hy94 := kbq Hy93 hbd
      have HB94 := ktq HB93 hbd
      have HZ94 := kzq HZ93 hbd.size
      clear Hb93 Hx93 Hy93 HB93 HZ93
      clear hbd
      refine tkq 0 ?_
      refine tkq 1 ?_
      refine tkq 2 ?_
      refine tkq 3 ?_
      refine tkq 4 ?_
      refine tkq 5 ?_
      refine tkq 6 ?_
      refine tkq 7 ?_
      refine tkq 8 ?_
      refine tkq 9 ?_
      refine tkq 10 ?_
      refine tkq 11 ?_
      refine tkq 12 ?_
      refine tkq 13 ?_
      refine tnq 14 ?_
      refine tnq 15 ?_
      refine tnq 16 ?_
      refine tnq 17 ?_
      refine tkq 18 ?_
      refine wpAnyH_done (by kernel_rfl) ?_ _
      clear hS0
      have hD : D = false := by
       rw [← HD.out]
       unfold holdsB
       rw [List.all_eq_false]
       exact ⟨x, HMEM.out, by rw [HONE.out]; simp [E5.out]⟩
      subst hD
      go_wp2_with fail
      go_ret
      exact ⟨rfl, HB94.out⟩
    ·have e3 : (y.t != 3) = true := by simpa using h3
     have E3 := Lib.hid h3
     clear h3
     have hbd := (Below.refl W4.heap.size W4).drew
     have hyd := Hy93.out.below hbd Hy93.out.lt
     have hxd := Hx93.out.below hbd Hx93.out.lt
     have hS1 : W4.drew.cell? ⟨gy, 0, none⟩ = some (.int .i64 y.s) ∧ W4.drew.cell? ⟨gy, 1, none⟩ = some (.int .i64 y.n) ∧ W4.drew.cell? ⟨gy, 2, none⟩ = some (.int .i64 y.b) ∧ W4.drew.cell? ⟨gy, 3, none⟩ = some (.int .i64 y.c) ∧ W4.drew.cell? ⟨gy, 4, none⟩ = some (.int .i64 y.a) ∧ W4.drew.cell? ⟨gy, 5, none⟩ = some (.int .i64 y.r) ∧ W4.drew.cell? ⟨gy, 6, none⟩ = some (.int .i64 y.t) ∧ W4.drew.cell? ⟨gy, 7, none⟩ = some (.int .i64 y.y) ∧ W4.drew.cell? ⟨gx, 0, none⟩ = some (.int .i64 x.s) ∧ W4.drew.cell? ⟨gx, 1, none⟩ = some (.int .i64 x.n) ∧ W4.drew.cell? ⟨gx, 2, none⟩ = some (.int .i64 x.b) ∧ W4.drew.cell? ⟨gx, 3, none⟩ = some (.int .i64 x.a) := ⟨hyd.cell 0, hyd.cell 1, hyd.cell 2, hyd.cell 3, hyd.cell 4, hyd.cell 5, hyd.cell 6, hyd.cell 7, hxd.cell 0, hxd.cell 1, hxd.cell 2, hxd.cell 3⟩
     clear hyd hxd
     refine wp_region_held_drew (S := fun w' => w'.cell? ⟨gy, 0, none⟩ = some (.int .i64 y.s) ∧ w'.cell? ⟨gy, 1, none⟩ = some (.int .i64 y.n) ∧ w'.cell? ⟨gy, 2, none⟩ = some (.int .i64 y.b) ∧ w'.cell? ⟨gy, 3, none⟩ = some (.int .i64 y.c) ∧ w'.cell? ⟨gy, 4, none⟩ = some (.int .i64 y.a) ∧ w'.cell? ⟨gy, 5, none⟩ = some (.int .i64 y.r) ∧ w'.cell? ⟨gy, 6, none⟩ = some (.int .i64 y.t) ∧ w'.cell? ⟨gy, 7, none⟩ = some (.int .i64 y.y) ∧ w'.cell? ⟨gx, 0, none⟩ = some (.int .i64 x.s) ∧ w'.cell? ⟨gx, 1, none⟩ = some (.int .i64 x.n) ∧ w'.cell? ⟨gx, 2, none⟩ = some (.int .i64 x.b) ∧ w'.cell? ⟨gx, 3, none⟩ = some (.int .i64 x.a)) (by kernel_rfl) hS1 (fun hS0 => ?_)
     clear hS1
     generalize W4.drew = WD at *
     have Hb94 := kbq Hb93 hbd
     have Hx94 := kbq Hx93 hbd
     have Hy94 := kbq Hy93 hbd
     have HB94 := ktq HB93 hbd
     have HZ94 := kzq HZ93 hbd.size
     clear Hb93 Hx93 Hy93 HB93 HZ93
     clear hbd
     refine tkq 0 ?_
     refine tkq 1 ?_
     refine tkq 2 ?_
     refine tkq 3 ?_
     refine tkq 4 ?_
     refine tkq 5 ?_
     refine tkq 6 ?_
     refine tkq 7 ?_
     refine tnq 8 ?_
     refine tnq 9 ?_
     refine tnq 10 ?_
     refine tnq 11 ?_
     refine tkq 12 ?_
     refine tkq 13 ?_
     refine tnq 14 ?_
     refine tnq 15 ?_
     refine tnq 16 ?_
     refine tnq 17 ?_
     refine tkq 18 ?_
     refine wpAnyH_done (by kernel_rfl) ?_ _
     clear hS0
     have hD : D = false := by
      rw [← HD.out]
      unfold holdsB
      rw [List.all_eq_false]
      exact ⟨x, HMEM.out, by rw [HONE.out]; simp [E3.out]⟩
     subst hD
     go_wp2_with fail
     go_ret
     exact ⟨rfl, HB94.out⟩
  ·have hltI : ¬ (k : Int) < (n : Int) := by omega
   have hD : D = true := by
    rw [← HD.out]
    unfold holdsB
    rw [List.all_eq_true]
    intro x hx
    obtain ⟨j, hj, rfl⟩ := List.mem_iff_getElem.1 hx
    exact HALL.out j hj (by have := HNN.out; omega)
   subst hD
   go_wp2_with fail
   go_ret
   exact ⟨rfl, HB90.out⟩
end Go.Proofs.Ytmhocihajobkkaa
namespace Go.Proofs.Ytmhocihajobkkaa
open Go.RowKit
theorem retBl {a b : Bool} (h : a = b) : Ending.returned (.bool a) = .returned (.bool b) := by rw [h]
theorem ahead_ord {x y : Lin} : aheadB x y = true ↔ ord2 x.s x.n y.s y.n < 0 := by
 unfold aheadB
 have := ord2_cases x.s x.n y.s y.n
 simp only [decide_eq_true_eq]
 omega
set_option linter.unusedSimpArgs false in
set_option maxHeartbeats 4000000 in
set_option maxRecDepth 100000 in
theorem lwithin_any (n : Int) (x : Lin) (w : World) : Calls Try.prog 78 #[.int .i64 n, x.v] w fun e w' => e = .returned (.bool (withinB n x)) ∧ Below w.heap.size w w' := by
 have HB := Lib.hid (oneB w (.cells #[.int .i64 x.s, .int .i64 x.n, .int .i64 x.b, .int .i64 x.a] 50))
 unfold Lin.v at *
 go_enter Try.func78, Try.ntmps78
 go_wp2
 all_goals
  go_ret
  first
   | exact ⟨retBl (by unfold withinB; rw [Bool.eq_iff_iff]; simp only [decide_eq_true_eq, Bool.false_eq_true, false_iff, true_iff, Bool.and_eq_true, bne_iff_ne, ne_eq]; omega), HB.out⟩
   | (have h := HB.out; rw [‹x.s = x.b›] at h; exact ⟨retBl (by unfold withinB; rw [Bool.eq_iff_iff]; simp only [decide_eq_true_eq, Bool.false_eq_true, false_iff, true_iff, Bool.and_eq_true, bne_iff_ne, ne_eq]; omega), h⟩)
set_option linter.unusedSimpArgs false in
set_option maxHeartbeats 4000000 in
set_option maxRecDepth 100000 in
theorem ccompare_any (x y : Lin) (w : World) : Calls Try.prog 79 #[x.v, y.v] w fun e w' => e = .returned (.int .i64 (ord2 x.s x.n y.s y.n)) ∧ Below w.heap.size w w' := by
 have HC := Lib.hid (fun (W : World) => bcompare_any x.s x.n y.s y.n W)
 unfold idV at *
 unfold Lin.v
 go_enter Try.func79, Try.ntmps79
 go_wp2_with fail
 refine (HC.out _).mono ?_
 rintro r w1 ⟨rfl, hb⟩
 have HB := Lib.hid (((oneB w _).alloc (by simp) _).trans (hb.mono (by simp; omega)))
 clear hb
 go_wp2_with fail
 go_ret
 exact ⟨rfl, HB.out⟩
set_option linter.unusedSimpArgs false in
set_option maxHeartbeats 4000000 in
set_option maxRecDepth 100000 in
theorem lfits_any (w : World) (N : Int) (v : Value) (xs : List Lin) (hr : TRow encN w v xs) (hn : xs.length ≤ 100000) :
  Calls Try.prog 76 #[.int .i64 N, v] w fun e w' => e = .returned (.int .i64 (fitE N xs)) ∧ Below w.heap.size w w' := by
 obtain ⟨p, c, rfl⟩ := hr.shape
 have HR := Lib.hid hr
 clear hr
 generalize hl : xs.length = n at *
 have HL := Lib.hid hl
 clear hl
 go_enter Try.func76, Try.ntmps76
 go_wp2_with fail
 go_loopw [5, 9] (fun _ i wr => ∃ k : Nat, k ≤ n ∧ i = .int .i64 k ∧ Hid (Below w.heap.size w wr ∧ ∀ j, j < k → stepE N xs j = 0)) (fun _ i _ => n - (intOf i).toNat)
 case atStart => exact ⟨0, by omega, rfl, ⟨Below.refl _ _, fun j hj => by omega⟩⟩
 case round =>
  obtain ⟨k, hk, rfl, HB⟩ := hrel
  by_cases hlt : k < n
  ·have hkl : k < xs.length := by rw [HL.out]; exact hlt
   have hltI : (k : Int) < (n : Int) := by omega
   obtain ⟨b, o, rfl, hbl, hcs⟩ := (HR.out.kept HB.out.1).at_ k hkl
   obtain ⟨x, hx⟩ : ∃ x, xs[k] = x := ⟨_, rfl⟩
   rw [hx] at hcs
   have HX : Hid (xs.getD k lin0 = x) := by show _ = _; rw [List.getD_eq_getElem?_getD, List.getElem?_eq_getElem hkl, Option.getD_some, hx]
   clear hx
   have c0 : wr.cell? ⟨b, o + k * 4, none⟩ = some (.int .i64 x.s) := hcs 0 (by decide)
   have c1 : wr.cell? ⟨b, o + k * 4 + 1, none⟩ = some (.int .i64 x.n) := hcs 1 (by decide)
   have c2 : wr.cell? ⟨b, o + k * 4 + 2, none⟩ = some (.int .i64 x.b) := hcs 2 (by decide)
   have c3 : wr.cell? ⟨b, o + k * 4 + 3, none⟩ = some (.int .i64 x.a) := hcs 3 (by decide)
   have HWI := Lib.hid (fun W => lwithin_any N x W)
   have HX1 := Lib.hid (Blk.new wr #[.int .i64 x.s, .int .i64 x.n, .int .i64 x.b, .int .i64 x.a] 50)
   have HB1 := Lib.hid (HB.out.1.trans ((oneB wr (.cells #[.int .i64 x.s, .int .i64 x.n, .int .i64 x.b, .int .i64 x.a] 50)).mono HB.out.1.size))
   unfold Lin.v at HWI
   clear hcs
   go_wp2_with fail
   generalize wr.alloc (.cells #[.int .i64 x.s, .int .i64 x.n, .int .i64 x.b, .int .i64 x.a] 50) = W1 at *
   generalize hgx : wr.heap.size = gx at *
   refine (HWI.out W1).mono ?_
   rintro y w1 ⟨rfl, hb1⟩
   have HXB := kbq HX1 hb1
   have HB2 := ktq HB1 hb1
   clear hb1 HX1 HB1 HWI c0 c1 c2 c3 hgx
   cases hw : withinB N x
   ·have HE : Hid (fitE N xs = 1) := by
     have h1 : stepE N xs k = 1 := by unfold stepE; rw [HX.out, hw, if_pos rfl]
     exact (fitE_at hkl HB.out.2 (by rw [h1]; decide)).trans h1
    clear hw
    go_wp2_with fail
    go_ret
    exact ⟨by rw [HE.out]; rfl, HB2.out⟩
   ·have HWT := Lib.hid hw
    clear hw
    have x0 : w1.cell? ⟨gx, 0, none⟩ = some (.int .i64 x.s) := HXB.out.cell 0
    have x1 : w1.cell? ⟨gx, 1, none⟩ = some (.int .i64 x.n) := HXB.out.cell 1
    have x2 : w1.cell? ⟨gx, 2, none⟩ = some (.int .i64 x.b) := HXB.out.cell 2
    have x3 : w1.cell? ⟨gx, 3, none⟩ = some (.int .i64 x.a) := HXB.out.cell 3
    have hgl := HXB.out.lt
    rcases Nat.eq_zero_or_pos k with rfl | hpos
    ·have HN : Hid (Below w.heap.size w w1 ∧ ∀ j, j < 0 + 1 → stepE N xs j = 0) := ⟨HB2.out, fun j hj => by
      obtain rfl : j = 0 := by omega
      unfold stepE
      rw [HX.out, HWT.out, if_neg (by simp), if_neg (by simp)]⟩
     clear hbl
     go_wp2_with fail
     refine wp_region_held_drew (S := fun w' => True) (by kernel_rfl) trivial (fun hS0 => ?_)
     refine tkq 0 ?_
     refine tkq 1 ?_
     refine tkq 2 ?_
     refine tnq 3 ?_
     refine tnq 4 ?_
     refine tnq 5 ?_
     refine tnq 6 ?_
     refine tnq 7 ?_
     refine tnq 8 ?_
     refine tnq 9 ?_
     refine tnq 10 ?_
     refine tkq 11 ?_
     refine wpAnyH_done (by kernel_rfl) ?_ _
     go_wp2_with fail
     go_roundw
     case rel => exact ⟨0 + 1, by omega, by go_num, ⟨HN.out.1.drew, HN.out.2⟩⟩
     case measure => simp [intOf]; omega
    ·obtain ⟨m, rfl⟩ : ∃ m, k = m + 1 := ⟨k - 1, by omega⟩
     have hml : m < xs.length := by omega
     obtain ⟨b', o', e1, hbl2, hcs⟩ := (HR.out.kept HB2.out).at_ m hml
     cases e1
     obtain ⟨q, hq⟩ : ∃ q, xs[m] = q := ⟨_, rfl⟩
     rw [hq] at hcs
     have HQ : Hid (xs.getD m lin0 = q) := by show _ = _; rw [List.getD_eq_getElem?_getD, List.getElem?_eq_getElem hml, Option.getD_some, hq]
     clear hq
     have c0 : w1.cell? ⟨b, o + m * 4, none⟩ = some (.int .i64 q.s) := hcs 0 (by decide)
     have c1 : w1.cell? ⟨b, o + m * 4 + 1, none⟩ = some (.int .i64 q.n) := hcs 1 (by decide)
     have c2 : w1.cell? ⟨b, o + m * 4 + 2, none⟩ = some (.int .i64 q.b) := hcs 2 (by decide)
     have c3 : w1.cell? ⟨b, o + m * 4 + 3, none⟩ = some (.int .i64 q.a) := hcs 3 (by decide)
     have HC := Lib.hid (fun W => ccompare_any q x W)
     unfold Lin.v at HC
     clear hcs
     have hS1 : w1.drew.cell? ⟨gx, 0, none⟩ = some (.int .i64 x.s) ∧ w1.drew.cell? ⟨gx, 1, none⟩ = some (.int .i64 x.n) ∧ w1.drew.cell? ⟨gx, 2, none⟩ = some (.int .i64 x.b) ∧ w1.drew.cell? ⟨gx, 3, none⟩ = some (.int .i64 x.a) ∧ w1.drew.cell? ⟨b, o + m * 4, none⟩ = some (.int .i64 q.s) ∧ w1.drew.cell? ⟨b, o + m * 4 + 1, none⟩ = some (.int .i64 q.n) ∧ w1.drew.cell? ⟨b, o + m * 4 + 2, none⟩ = some (.int .i64 q.b) ∧ w1.drew.cell? ⟨b, o + m * 4 + 3, none⟩ = some (.int .i64 q.a) := ⟨x0, x1, x2, x3, c0, c1, c2, c3⟩
     have HS : Hid (∀ w', Below w1.heap.size w1 w' → w'.cell? ⟨gx, 0, none⟩ = some (.int .i64 x.s) ∧ w'.cell? ⟨gx, 1, none⟩ = some (.int .i64 x.n) ∧ w'.cell? ⟨gx, 2, none⟩ = some (.int .i64 x.b) ∧ w'.cell? ⟨gx, 3, none⟩ = some (.int .i64 x.a) ∧ w'.cell? ⟨b, o + m * 4, none⟩ = some (.int .i64 q.s) ∧ w'.cell? ⟨b, o + m * 4 + 1, none⟩ = some (.int .i64 q.n) ∧ w'.cell? ⟨b, o + m * 4 + 2, none⟩ = some (.int .i64 q.b) ∧ w'.cell? ⟨b, o + m * 4 + 3, none⟩ = some (.int .i64 q.a)) := fun w' h => ⟨(h.cell (p := ⟨gx, 0, none⟩) hgl).trans x0, (h.cell (p := ⟨gx, 1, none⟩) hgl).trans x1, (h.cell (p := ⟨gx, 2, none⟩) hgl).trans x2, (h.cell (p := ⟨gx, 3, none⟩) hgl).trans x3, (h.cell (p := ⟨b, _, none⟩) hbl2).trans c0, (h.cell (p := ⟨b, _, none⟩) hbl2).trans c1, (h.cell (p := ⟨b, _, none⟩) hbl2).trans c2, (h.cell (p := ⟨b, _, none⟩) hbl2).trans c3⟩
     have HSE : Hid (stepE N xs (m + 1) = if aheadB q x = false then 41 else 0) := by
      show _ = _
      unfold stepE
      rw [Nat.add_sub_cancel, HX.out, HWT.out, HQ.out, if_neg (by simp)]
      simp
     have hm1 : ((m + 1 : Nat) : Int) - 1 = (m : Int) := by omega
     have hmn : m < n := by omega
     have hwm : IntKind.i64.wrap (m : Int) = (m : Int) := IntWalk.i64_in _ (by omega)
     have hp0 : (0 : Int) < ((m + 1 : Nat) : Int) := by omega
     clear hpos
     go_wp2_with fail
     refine wp_region_held_drew (S := fun w' => w'.cell? ⟨gx, 0, none⟩ = some (.int .i64 x.s) ∧ w'.cell? ⟨gx, 1, none⟩ = some (.int .i64 x.n) ∧ w'.cell? ⟨gx, 2, none⟩ = some (.int .i64 x.b) ∧ w'.cell? ⟨gx, 3, none⟩ = some (.int .i64 x.a) ∧ w'.cell? ⟨b, o + m * 4, none⟩ = some (.int .i64 q.s) ∧ w'.cell? ⟨b, o + m * 4 + 1, none⟩ = some (.int .i64 q.n) ∧ w'.cell? ⟨b, o + m * 4 + 2, none⟩ = some (.int .i64 q.b) ∧ w'.cell? ⟨b, o + m * 4 + 3, none⟩ = some (.int .i64 q.a)) (by kernel_rfl) hS1 (fun hS0 => ?_)
     refine tkq 0 ?_
     refine tkq 1 ?_
     refine tkq 2 ?_
     refine tkq 3 ?_
     refine tkq 4 ?_
     refine tkq 5 ?_
     refine tkq 6 ?_
     refine tkq 7 ?_
     refine tkq 8 ?_
     refine rdq 9 (fun K hK => ?_)
     go_simp
     go_at_call 79
     refine (HC.out w1.drew).mono ?_
     rintro y w2 ⟨rfl, hb2⟩
     have HB3 := Lib.hid ((Below.refl w1.heap.size w1).drew.trans (hb2.mono (Nat.le_refl _)))
     clear hb2
     try go_wp2_with fail
     refine hK.out _ _ (HS.out w2 HB3.out) (fun hS => ?_)
     clear hK K
     try simp only [Act.put, List.getElem_toArray, List.getElem_cons_succ, List.getElem_cons_zero, List.setIfInBounds_toArray, List.set_cons_zero, List.set_cons_succ]
     refine tkq 10 ?_
     refine tkq 11 ?_
     refine wpAnyH_done (by kernel_rfl) ?_ _
     cases ha : aheadB q x
     ·have hc : 0 ≤ ord2 q.s q.n x.s x.n := by
       have := mt ahead_ord.2 (by rw [ha]; decide)
       omega
      have HE : Hid (fitE N xs = 41) := by
       have h1 : stepE N xs (m + 1) = 41 := by rw [HSE.out, ha, if_pos rfl]
       exact (fitE_at hkl HB.out.2 (by rw [h1]; decide)).trans h1
      have HB4 := Lib.hid (HB2.out.trans (HB3.out.mono HB2.out.size))
      clear ha
      go_wp2_with fail
      go_ret
      exact ⟨by rw [HE.out]; rfl, HB4.out⟩
     ·have hc : ord2 q.s q.n x.s x.n < 0 := ahead_ord.1 ha
      have HN : Hid (Below w.heap.size w w2 ∧ ∀ j, j < m + 1 + 1 → stepE N xs j = 0) := ⟨HB2.out.trans (HB3.out.mono HB2.out.size), fun j hj => by
       by_cases e : j = m + 1
       ·subst e; rw [HSE.out, ha, if_neg (by simp)]
       ·exact HB.out.2 j (by omega)⟩
      clear ha
      go_wp2_with fail
      go_roundw
      case rel => exact ⟨m + 1 + 1, by omega, by go_num, HN⟩
      case measure => simp [intOf]; omega
  ·have hle : (n : Int) ≤ (k : Int) := by omega
   have HE : Hid (fitE N xs = 0) := fitE_all fun j hj => HB.out.2 j (by have := HL.out; omega)
   go_wp2_with fail
   go_ret
   exact ⟨by rw [HE.out]; rfl, HB.out.1⟩
end Go.Proofs.Ytmhocihajobkkaa
