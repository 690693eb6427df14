/- (Chief).due, query by contract. One cell of one element of the call's own slice of structs is written. One cell of what an entity has said is written. cycle.offered by contract. cycle.Both by contract. cycle.net, Nets by contract. (Chief).reckon by contract. slices.ContainsFunc over what was said and over cycles by contract; the closure of start. (Chief).offer by contract. (Chief).vote by contract. Grow and Concat of slices of contra/chief.Run, by contract. -/
import Derived.Test.YteogdfpkcoodlaaS1
import Derived.Lib.AppendZeros
namespace Go.Proofs.Yteogdfpkcoodlaa
open Go.RowKit
set_option linter.unusedSimpArgs false
/-- The cycle of a number. -/
def rnAt (rs : List Rn) (k : Int) : Rn := (rs[(k - 1).toNat]?).getD ⟨0, 0, [], [], []⟩
abbrev CAns := List Rn × List (Int × Msg) × Int
def CP (w : World) (P : Nat → Prop) (N : Nat) (a : CAns) : Ending → World → Prop := CPost w P N a.1 a.2.1 a.2.2
def dueC (N : Nat) (rs : List Rn) (m : Msg) : CAns := if openB (rnAt rs m.y) = true then (rs.set (m.y - 1).toNat ((rnAt rs m.y).to 4), toAllL N (decM m.y ((rnAt rs m.y).to 4)), 0) else (rs, [], 90)
def queryC (rs : List Rn) (m : Msg) (fro : Int) : CAns := if openB (rnAt rs m.y) = true then (rs, [], 90) else (rs, [(fro, decM m.y (rnAt rs m.y))], 0)
set_option linter.unusedSimpArgs false in
set_option maxHeartbeats 4000000 in
set_option maxRecDepth 100000 in
theorem cdue_any (w : World) (P : Nat → Prop) (N : Nat) (p : Option Addr) (n c : Nat) (rs : List Rn) (y : MsgX) (fro : Int) (hrs : RsR P w (.slice p n c) rs) (hpw : ∀ b, P b → b < w.heap.size) (hn : n = rs.length) (hl : n ≤ 2000) (hk1 : 1 ≤ y.m.y) (hk2 : y.m.y ≤ n) (hN1 : 1 ≤ N) (hN8 : N ≤ 8) (hlen : ∀ r ∈ rs, r.hs.length = N) :
  Calls Try.prog 33 #[.agg #[.int .i64 (N : Int), .slice p n c], y.m.v (.slice y.pl y.m.ls.length y.cl) (.slice y.pn y.m.ns.length y.cn), .int .i64 fro] w (CP w P N (dueC N rs y.m)) := by
 unfold CP
 have HRS := Lib.hid hrs
 have HPW := Lib.hid hpw
 have HNN : Hid (1 ≤ N ∧ N ≤ 8) := Lib.hid ⟨hN1, hN8⟩
 have HKK : Hid (n = rs.length ∧ n ≤ 2000 ∧ 1 ≤ y.m.y ∧ y.m.y ≤ n) := Lib.hid ⟨hn, hl, hk1, hk2⟩
 have HLN := Lib.hid hlen
 clear hrs hpw hN1 hN8 hn hl hk1 hk2 hlen 
 unfold Msg.v
 have HB0 : Hid (Below w.heap.size w (((w.alloc (.cells #[.int .i64 (N : Int), .slice p n c] 27)).alloc (.cells #[.int .i64 y.m.k, .int .i64 y.m.s, .int .i64 y.m.n, .int .i64 y.m.b, .int .i64 y.m.c, .int .i64 y.m.r, .int .i64 y.m.y, .int .i64 y.m.a, .bool y.m.t, .slice y.pl y.m.ls.length y.cl, .slice y.pn y.m.ns.length y.cn] 36)).alloc (.cells #[.int .i64 0, .slice none 0 0] 27))) := Lib.hid ((((oneB w _).alloc (by simp <;> omega) _).alloc (by simp <;> omega) _))
 have Hc0 : Hid (Blk (((w.alloc (.cells #[.int .i64 (N : Int), .slice p n c] 27)).alloc (.cells #[.int .i64 y.m.k, .int .i64 y.m.s, .int .i64 y.m.n, .int .i64 y.m.b, .int .i64 y.m.c, .int .i64 y.m.r, .int .i64 y.m.y, .int .i64 y.m.a, .bool y.m.t, .slice y.pl y.m.ls.length y.cl, .slice y.pn y.m.ns.length y.cn] 36)).alloc (.cells #[.int .i64 0, .slice none 0 0] 27)) w.heap.size #[.int .i64 (N : Int), .slice p n c] 27) := Lib.hid (((Blk.new w #[.int .i64 (N : Int), .slice p n c] 27).alloc _).alloc _)
 have Hm0 : Hid (Blk (((w.alloc (.cells #[.int .i64 (N : Int), .slice p n c] 27)).alloc (.cells #[.int .i64 y.m.k, .int .i64 y.m.s, .int .i64 y.m.n, .int .i64 y.m.b, .int .i64 y.m.c, .int .i64 y.m.r, .int .i64 y.m.y, .int .i64 y.m.a, .bool y.m.t, .slice y.pl y.m.ls.length y.cl, .slice y.pn y.m.ns.length y.cn] 36)).alloc (.cells #[.int .i64 0, .slice none 0 0] 27)) (w.heap.size + 1) #[.int .i64 y.m.k, .int .i64 y.m.s, .int .i64 y.m.n, .int .i64 y.m.b, .int .i64 y.m.c, .int .i64 y.m.r, .int .i64 y.m.y, .int .i64 y.m.a, .bool y.m.t, .slice y.pl y.m.ls.length y.cl, .slice y.pn y.m.ns.length y.cn] 36) := Lib.hid ((Blk.new' (w.alloc (.cells #[.int .i64 (N : Int), .slice p n c] 27)) #[.int .i64 y.m.k, .int .i64 y.m.s, .int .i64 y.m.n, .int .i64 y.m.b, .int .i64 y.m.c, .int .i64 y.m.r, .int .i64 y.m.y, .int .i64 y.m.a, .bool y.m.t, .slice y.pl y.m.ls.length y.cl, .slice y.pn y.m.ns.length y.cn] 36 (by simp)).alloc _)
 have Hr0 : Hid (Blk (((w.alloc (.cells #[.int .i64 (N : Int), .slice p n c] 27)).alloc (.cells #[.int .i64 y.m.k, .int .i64 y.m.s, .int .i64 y.m.n, .int .i64 y.m.b, .int .i64 y.m.c, .int .i64 y.m.r, .int .i64 y.m.y, .int .i64 y.m.a, .bool y.m.t, .slice y.pl y.m.ls.length y.cl, .slice y.pn y.m.ns.length y.cn] 36)).alloc (.cells #[.int .i64 0, .slice none 0 0] 27)) (w.heap.size + 1 + 1) #[.int .i64 0, .slice none 0 0] 27) := Lib.hid (Blk.new' ((w.alloc (.cells #[.int .i64 (N : Int), .slice p n c] 27)).alloc (.cells #[.int .i64 y.m.k, .int .i64 y.m.s, .int .i64 y.m.n, .int .i64 y.m.b, .int .i64 y.m.c, .int .i64 y.m.r, .int .i64 y.m.y, .int .i64 y.m.a, .bool y.m.t, .slice y.pl y.m.ls.length y.cl, .slice y.pn y.m.ns.length y.cn] 36)) #[.int .i64 0, .slice none 0 0] 27 (by simp))
 have HZ0 : Hid (w.heap.size ≤ (((w.alloc (.cells #[.int .i64 (N : Int), .slice p n c] 27)).alloc (.cells #[.int .i64 y.m.k, .int .i64 y.m.s, .int .i64 y.m.n, .int .i64 y.m.b, .int .i64 y.m.c, .int .i64 y.m.r, .int .i64 y.m.y, .int .i64 y.m.a, .bool y.m.t, .slice y.pl y.m.ls.length y.cl, .slice y.pn y.m.ns.length y.cn] 36)).alloc (.cells #[.int .i64 0, .slice none 0 0] 27)).heap.size) := Lib.hid HB0.out.size
 go_enter Try.func33, Try.ntmps33
 go_upto_region 1 with fail
 generalize (((w.alloc (.cells #[.int .i64 (N : Int), .slice p n c] 27)).alloc (.cells #[.int .i64 y.m.k, .int .i64 y.m.s, .int .i64 y.m.n, .int .i64 y.m.b, .int .i64 y.m.c, .int .i64 y.m.r, .int .i64 y.m.y, .int .i64 y.m.a, .bool y.m.t, .slice y.pl y.m.ls.length y.cl, .slice y.pn y.m.ns.length y.cn] 36)).alloc (.cells #[.int .i64 0, .slice none 0 0] 27)) = W at *
 have HWL : Hid (w.heap.size + 1 + 1 < W.heap.size) := Lib.hid Hr0.out.lt
 have HG := Lib.hid (crun_any W P N y.m.y p n c rs (HRS.out.kept HB0.out) HKK.out.1 HKK.out.2.1 HKK.out.2.2.1 HKK.out.2.2.2 HNN.out.1 HNN.out.2 HLN.out)
 have a0 : W.cell? ⟨w.heap.size, 0, none⟩ = some (.int .i64 (N : Int)) := Hc0.out.cell 0
 have a1 : W.cell? ⟨w.heap.size, 1, none⟩ = some (.slice p n c) := Hc0.out.cell 1
 have m6 : W.cell? ⟨(w.heap.size + 1), 6, none⟩ = some (.int .i64 y.m.y) := Hm0.out.cell 6
 go_wp2_with fail
 clear a0 a1 m6
 refine HG.out.mono ?_
 rintro y9 w1 ⟨x, rfl, hx, hro, hb⟩
 clear HG
 have HX : Hid (rnAt rs y.m.y = x.r) := Lib.hid (by unfold rnAt; rw [hx]; rfl)
 have HXS : Hid (rs[(y.m.y - 1).toNat]? = some x.r) := Lib.hid hx
 have HO := Lib.hid hro
 have HW1 : Hid (W.heap.size ≤ w1.heap.size) := Lib.hid hb.size
 clear hx hro
 have Hc1 := kbq Hc0 hb
 have Hm1 := kbq Hm0 hb
 have Hr1 := kbq Hr0 hb
 have HB1 := ktq HB0 hb
 have HZ1 := kzq HZ0 hb.size
 clear Hc0 Hm0 Hr0 HB0 HZ0
 clear hb
 unfold RunX.v
 have hba9 := oneB w1 (.cells #[.int .i64 x.r.cu, .int .i64 x.r.st, .slice x.pf x.r.hs.length x.cf, .slice x.pl x.r.ls.length x.cl, .slice x.pn x.r.ns.length x.cn] 56)
 have HO2 := Lib.hid (HO.out.kept hba9)
 clear hba9 HO
 have hba := oneB w1 (.cells #[.int .i64 x.r.cu, .int .i64 x.r.st, .slice x.pf x.r.hs.length x.cf, .slice x.pl x.r.ls.length x.cl, .slice x.pn x.r.ns.length x.cn] 56)
 have Hc2 := kbq Hc1 hba
 have Hm2 := kbq Hm1 hba
 have Hr2 := kbq Hr1 hba
 have Hx2 := Lib.hid (Blk.new w1 #[.int .i64 x.r.cu, .int .i64 x.r.st, .slice x.pf x.r.hs.length x.cf, .slice x.pl x.r.ls.length x.cl, .slice x.pn x.r.ns.length x.cn] 56)
 have HB2 := Lib.hid (HB1.out.alloc HB1.out.size (.cells #[.int .i64 x.r.cu, .int .i64 x.r.st, .slice x.pf x.r.hs.length x.cf, .slice x.pl x.r.ls.length x.cl, .slice x.pn x.r.ns.length x.cn] 56))
 have HZ2 := kzq HZ1 hba.size
 have HGgx : Hid (w.heap.size ≤ w1.heap.size) := Lib.hid HB1.out.size
 clear hba Hc1 Hm1 Hr1 HB1 HZ1
 go_upto_region 2 with fail
 generalize (w1.alloc (.cells #[.int .i64 x.r.cu, .int .i64 x.r.st, .slice x.pf x.r.hs.length x.cf, .slice x.pl x.r.ls.length x.cl, .slice x.pn x.r.ns.length x.cn] 56)) = W2 at *
 generalize hggx : w1.heap.size = gx at *
 clear hggx
 have HG := Lib.hid (copen_any W2 x)
 unfold RunX.v at HG
 have x0 : W2.cell? ⟨gx, 0, none⟩ = some (.int .i64 x.r.cu) := Hx2.out.cell 0
 have x1 : W2.cell? ⟨gx, 1, none⟩ = some (.int .i64 x.r.st) := Hx2.out.cell 1
 have x2 : W2.cell? ⟨gx, 2, none⟩ = some (.slice x.pf x.r.hs.length x.cf) := Hx2.out.cell 2
 have x3 : W2.cell? ⟨gx, 3, none⟩ = some (.slice x.pl x.r.ls.length x.cl) := Hx2.out.cell 3
 have x4 : W2.cell? ⟨gx, 4, none⟩ = some (.slice x.pn x.r.ns.length x.cn) := Hx2.out.cell 4
 go_wp2_with fail
 clear x0 x1 x2 x3 x4
 refine HG.out.mono ?_
 rintro y9 w3 ⟨rfl, hb⟩
 clear HG
 have Hc3 := kbq Hc2 hb
 have Hm3 := kbq Hm2 hb
 have Hr3 := kbq Hr2 hb
 have Hx3 := kbq Hx2 hb
 have HB3 := ktq HB2 hb
 have HZ3 := kzq HZ2 hb.size
 clear Hc2 Hm2 Hr2 Hx2 HB2 HZ2
 have HO3 := Lib.hid (HO2.out.kept hb)
 clear hb HO2
 obtain ⟨bo, hbo⟩ : ∃ bo, openB x.r = bo := ⟨_, rfl⟩
 have HOB := Lib.hid hbo
 rw [hbo]
 clear hbo
 cases bo
 ·skip
  have HE : Hid (dueC N rs y.m = (rs, [], 90)) := by show _ = _; unfold dueC; rw [HX.out, HOB.out]; rfl
  go_upto_region 3 with fail
  have a0 : w3.cell? ⟨w.heap.size, 0, none⟩ = some (.int .i64 (N : Int)) := Hc3.out.cell 0
  have a1 : w3.cell? ⟨w.heap.size, 1, none⟩ = some (.slice p n c) := Hc3.out.cell 1
  go_wp2_with (with_reducible refine stop_storeT 27 (.tmp 6) (.tmp 17) rfl ?_)
  clear a0 a1
  have HTH : Hid (w3.there (w.heap.size + 1 + 1) 0 2) := Hr3.out.thereAt
  have hch : Hid (Chg (w.heap.size + 1 + 1) w3 (w3.setCells (w.heap.size + 1 + 1) 0 (#[.int .i64 (N : Int), .slice p n c] : Array Value).toList)) := Lib.hid (chg_putL _ _ _ _ _ (Chg.refl _ w3))
  have Hr4 : Hid (Blk (w3.setCells (w.heap.size + 1 + 1) 0 (#[.int .i64 (N : Int), .slice p n c] : Array Value).toList) (w.heap.size + 1 + 1) #[.int .i64 (N : Int), .slice p n c] 27) := Lib.hid (blk_put_all Hr3.out _ rfl)
  have HB4 : Hid (Below w.heap.size w (w3.setCells (w.heap.size + 1 + 1) 0 (#[.int .i64 (N : Int), .slice p n c] : Array Value).toList)) := Lib.hid (below_put (by have := HWL.out; have := HW1.out; omega) _ _ _ _ HB3.out)
  have HZ4 := kzq HZ3 hch.out.size
  have Hc4 := kcq Hc3 hch (by have := HWL.out; have := HW1.out; omega)
  have Hm4 := kcq Hm3 hch (by have := HWL.out; have := HW1.out; omega)
  have Hx4 := kcq Hx3 hch (by have := HWL.out; have := HW1.out; omega)
  clear hch Hc3 Hm3 Hr3 Hx3 HB3 HZ3
  refine wpList_store_mid rfl 27 (.tmp 6) (.tmp 17) rfl (w.heap.size + 1 + 1) 0 #[.int .i64 (N : Int), .slice p n c] rfl rfl HTH.out (infoC2 rfl) (all_oneCell_toArray (by intro u hu; simp at hu; rcases hu with rfl | rfl <;> rfl)) ?_
  generalize (w3.setCells (w.heap.size + 1 + 1) 0 (#[.int .i64 (N : Int), .slice p n c] : Array Value).toList) = W9a at *
  clear HTH
  go_wp2_with fail
  have hfr := Hr4.out
  refine bodyPost_ret (v := .tuple #[.agg #[.int .i64 (N : Int), .slice p n c], .slice none 0 0, .int .i64 90]) (by simp [results, Try.results33, go_sem, hfr.cell 0, hfr.cell 1]) rfl (by rw [HE.out]; exact ⟨p, n, c, none, 0, 0, W9a.heap.size, rfl, HKK.out.1, rfl, HZ4.out, (HRS.out.kept HB4.out).imp (fun b h => .inl h), SaidL.nil_ _ _, HB4.out⟩)
 ·skip
  have HE : Hid (dueC N rs y.m = (rs.set (y.m.y - 1).toNat (x.r.to 4), toAllL N (decM y.m.y (x.r.to 4)), 0)) := by show _ = _; unfold dueC; rw [HX.out, HOB.out]; rfl
  go_upto_region 4 with fail
  have HGX : Hid (W.heap.size ≤ w3.heap.size) := Lib.hid (by have := Hx3.out.lt; have := HW1.out; omega)
  have HG := Lib.hid (cend_any w3 (fun b => P b ∨ (W.heap.size ≤ b ∧ b < w3.heap.size)) N y.m.y 4 p n c rs x ((HRS.out.kept HB3.out).imp (fun b h => .inl h)) (fun b h => h.elim (fun h1 => Nat.lt_of_lt_of_le (HPW.out b h1) HZ3.out) (fun h1 => h1.2)) HKK.out.1 HKK.out.2.1 HKK.out.2.2.1 HKK.out.2.2.2 ((HO3.out.imp (fun b h => .inl h)).in_ (fun b h1 h2 => .inr ⟨h1, h2⟩)) HNN.out.2)
  unfold CPost RunX.v at HG
  have a0 : w3.cell? ⟨w.heap.size, 0, none⟩ = some (.int .i64 (N : Int)) := Hc3.out.cell 0
  have a1 : w3.cell? ⟨w.heap.size, 1, none⟩ = some (.slice p n c) := Hc3.out.cell 1
  have m6 : w3.cell? ⟨(w.heap.size + 1), 6, none⟩ = some (.int .i64 y.m.y) := Hm3.out.cell 6
  have x0 : w3.cell? ⟨gx, 0, none⟩ = some (.int .i64 x.r.cu) := Hx3.out.cell 0
  have x1 : w3.cell? ⟨gx, 1, none⟩ = some (.int .i64 x.r.st) := Hx3.out.cell 1
  have x2 : w3.cell? ⟨gx, 2, none⟩ = some (.slice x.pf x.r.hs.length x.cf) := Hx3.out.cell 2
  have x3 : w3.cell? ⟨gx, 3, none⟩ = some (.slice x.pl x.r.ls.length x.cl) := Hx3.out.cell 3
  have x4 : w3.cell? ⟨gx, 4, none⟩ = some (.slice x.pn x.r.ns.length x.cn) := Hx3.out.cell 4
  go_wp2_with fail
  clear a0 a1 m6 x0 x1 x2 x3 x4
  refine HG.out.mono ?_
  rintro y9 w5 ⟨p3, n3, c3, pv3, nv3, cv3, B3, rfl, hn3, hnv3, hB3, hq3, hs3, hb⟩
  clear HG
  have HN3 := Lib.hid (And.intro hn3 hnv3)
  have HBB : Hid (w3.heap.size ≤ B3) := Lib.hid hB3
  have HQQ := Lib.hid hq3
  have HSS := Lib.hid hs3
  clear hn3 hnv3 hB3 hq3 hs3
  have Hc4 := kbq Hc3 hb
  have Hm4 := kbq Hm3 hb
  have Hr4 := kbq Hr3 hb
  have Hx4 := kbq Hx3 hb
  have HB4 := ktq HB3 hb
  have HZ4 := kzq HZ3 hb.size
  clear Hc3 Hm3 Hr3 Hx3 HB3 HZ3
  clear hb
  go_wp2_with (with_reducible refine stop_storeT 27 (.tmp 6) (.tmp 23) rfl ?_)
  have HTH : Hid (w5.there (w.heap.size + 1 + 1) 0 2) := Hr4.out.thereAt
  have hch : Hid (Chg (w.heap.size + 1 + 1) w5 (w5.setCells (w.heap.size + 1 + 1) 0 (#[.int .i64 (N : Int), .slice p3 n3 c3] : Array Value).toList)) := Lib.hid (chg_putL _ _ _ _ _ (Chg.refl _ w5))
  have Hr5 : Hid (Blk (w5.setCells (w.heap.size + 1 + 1) 0 (#[.int .i64 (N : Int), .slice p3 n3 c3] : Array Value).toList) (w.heap.size + 1 + 1) #[.int .i64 (N : Int), .slice p3 n3 c3] 27) := Lib.hid (blk_put_all Hr4.out _ rfl)
  have HB5 : Hid (Below w.heap.size w (w5.setCells (w.heap.size + 1 + 1) 0 (#[.int .i64 (N : Int), .slice p3 n3 c3] : Array Value).toList)) := Lib.hid (below_put (by have := HWL.out; have := HW1.out; omega) _ _ _ _ HB4.out)
  have HZ5 := kzq HZ4 hch.out.size
  have Hc5 := kcq Hc4 hch (by have := HWL.out; have := HW1.out; omega)
  have Hm5 := kcq Hm4 hch (by have := HWL.out; have := HW1.out; omega)
  have Hx5 := kcq Hx4 hch (by have := HWL.out; have := HW1.out; omega)
  have HST := Lib.hid (HSS.out.chgS hch.out (by have := HBB.out; have := HWL.out; have := HGX.out; omega))
  have HQR := Lib.hid ((HQQ.out.imp (Q := fun b => b ≠ w.heap.size + 1 + 1 ∧ (P b ∨ (w.heap.size ≤ b ∧ b < B3))) (fun b h => by
   have h5 := HBB.out
   have h6 := HWL.out
   have h7 := HGX.out
   rcases h with (h1 | h1) | h1
   ·have := HPW.out _ h1
    exact ⟨by omega, .inl h1⟩
   ·exact ⟨by omega, .inr (by omega)⟩
   ·exact ⟨by omega, .inr (by omega)⟩)).keepP (KeepP.of_chg hch.out (by rintro ⟨h, _⟩; exact h rfl)))
  clear HSS HQQ
  clear hch Hc4 Hm4 Hr4 Hx4 HB4 HZ4
  refine wpList_store_mid rfl 27 (.tmp 6) (.tmp 23) rfl (w.heap.size + 1 + 1) 0 #[.int .i64 (N : Int), .slice p3 n3 c3] rfl rfl HTH.out (infoC2 rfl) (all_oneCell_toArray (by intro u hu; simp at hu; rcases hu with rfl | rfl <;> rfl)) ?_
  generalize (w5.setCells (w.heap.size + 1 + 1) 0 (#[.int .i64 (N : Int), .slice p3 n3 c3] : Array Value).toList) = W9b at *
  clear HTH
  go_wp2_with fail
  have hfr := Hr5.out
  refine bodyPost_ret (v := .tuple #[.agg #[.int .i64 (N : Int), .slice p3 n3 c3], .slice pv3 nv3 cv3, .int .i64 0]) (by simp [results, Try.results33, go_sem, hfr.cell 0, hfr.cell 1]) rfl (by rw [HE.out]; exact ⟨p3, n3, c3, pv3, nv3, cv3, B3, rfl, HN3.out.1, HN3.out.2, by have := HBB.out; have := HWL.out; have := HGX.out; omega, HQR.out.imp (fun b h => h.2), HST.out, HB5.out⟩)
set_option linter.unusedSimpArgs false in
set_option maxHeartbeats 4000000 in
set_option maxRecDepth 100000 in
theorem cquery_any (w : World) (P : Nat → Prop) (N : Nat) (p : Option Addr) (n c : Nat) (rs : List Rn) (y : MsgX) (fro : Int) (hrs : RsR P w (.slice p n c) rs) (hpw : ∀ b, P b → b < w.heap.size) (hn : n = rs.length) (hl : n ≤ 2000) (hk1 : 1 ≤ y.m.y) (hk2 : y.m.y ≤ n) (hN1 : 1 ≤ N) (hN8 : N ≤ 8) (hlen : ∀ r ∈ rs, r.hs.length = N) :
  Calls Try.prog 31 #[.agg #[.int .i64 (N : Int), .slice p n c], y.m.v (.slice y.pl y.m.ls.length y.cl) (.slice y.pn y.m.ns.length y.cn), .int .i64 fro] w (CP w P N (queryC rs y.m fro)) := by
 unfold CP
 have HRS := Lib.hid hrs
 have HPW := Lib.hid hpw
 have HNN : Hid (1 ≤ N ∧ N ≤ 8) := Lib.hid ⟨hN1, hN8⟩
 have HKK : Hid (n = rs.length ∧ n ≤ 2000 ∧ 1 ≤ y.m.y ∧ y.m.y ≤ n) := Lib.hid ⟨hn, hl, hk1, hk2⟩
 have HLN := Lib.hid hlen
 clear hrs hpw hN1 hN8 hn hl hk1 hk2 hlen 
 unfold Msg.v
 have HB0 : Hid (Below w.heap.size w (((w.alloc (.cells #[.int .i64 (N : Int), .slice p n c] 27)).alloc (.cells #[.int .i64 y.m.k, .int .i64 y.m.s, .int .i64 y.m.n, .int .i64 y.m.b, .int .i64 y.m.c, .int .i64 y.m.r, .int .i64 y.m.y, .int .i64 y.m.a, .bool y.m.t, .slice y.pl y.m.ls.length y.cl, .slice y.pn y.m.ns.length y.cn] 36)).alloc (.cells #[.int .i64 0, .slice none 0 0] 27))) := Lib.hid ((((oneB w _).alloc (by simp <;> omega) _).alloc (by simp <;> omega) _))
 have Hc0 : Hid (Blk (((w.alloc (.cells #[.int .i64 (N : Int), .slice p n c] 27)).alloc (.cells #[.int .i64 y.m.k, .int .i64 y.m.s, .int .i64 y.m.n, .int .i64 y.m.b, .int .i64 y.m.c, .int .i64 y.m.r, .int .i64 y.m.y, .int .i64 y.m.a, .bool y.m.t, .slice y.pl y.m.ls.length y.cl, .slice y.pn y.m.ns.length y.cn] 36)).alloc (.cells #[.int .i64 0, .slice none 0 0] 27)) w.heap.size #[.int .i64 (N : Int), .slice p n c] 27) := Lib.hid (((Blk.new w #[.int .i64 (N : Int), .slice p n c] 27).alloc _).alloc _)
 have Hm0 : Hid (Blk (((w.alloc (.cells #[.int .i64 (N : Int), .slice p n c] 27)).alloc (.cells #[.int .i64 y.m.k, .int .i64 y.m.s, .int .i64 y.m.n, .int .i64 y.m.b, .int .i64 y.m.c, .int .i64 y.m.r, .int .i64 y.m.y, .int .i64 y.m.a, .bool y.m.t, .slice y.pl y.m.ls.length y.cl, .slice y.pn y.m.ns.length y.cn] 36)).alloc (.cells #[.int .i64 0, .slice none 0 0] 27)) (w.heap.size + 1) #[.int .i64 y.m.k, .int .i64 y.m.s, .int .i64 y.m.n, .int .i64 y.m.b, .int .i64 y.m.c, .int .i64 y.m.r, .int .i64 y.m.y, .int .i64 y.m.a, .bool y.m.t, .slice y.pl y.m.ls.length y.cl, .slice y.pn y.m.ns.length y.cn] 36) := Lib.hid ((Blk.new' (w.alloc (.cells #[.int .i64 (N : Int), .slice p n c] 27)) #[.int .i64 y.m.k, .int .i64 y.m.s, .int .i64 y.m.n, .int .i64 y.m.b, .int .i64 y.m.c, .int .i64 y.m.r, .int .i64 y.m.y, .int .i64 y.m.a, .bool y.m.t, .slice y.pl y.m.ls.length y.cl, .slice y.pn y.m.ns.length y.cn] 36 (by simp)).alloc _)
 have Hr0 : Hid (Blk (((w.alloc (.cells #[.int .i64 (N : Int), .slice p n c] 27)).alloc (.cells #[.int .i64 y.m.k, .int .i64 y.m.s, .int .i64 y.m.n, .int .i64 y.m.b, .int .i64 y.m.c, .int .i64 y.m.r, .int .i64 y.m.y, .int .i64 y.m.a, .bool y.m.t, .slice y.pl y.m.ls.length y.cl, .slice y.pn y.m.ns.length y.cn] 36)).alloc (.cells #[.int .i64 0, .slice none 0 0] 27)) (w.heap.size + 1 + 1) #[.int .i64 0, .slice none 0 0] 27) := Lib.hid (Blk.new' ((w.alloc (.cells #[.int .i64 (N : Int), .slice p n c] 27)).alloc (.cells #[.int .i64 y.m.k, .int .i64 y.m.s, .int .i64 y.m.n, .int .i64 y.m.b, .int .i64 y.m.c, .int .i64 y.m.r, .int .i64 y.m.y, .int .i64 y.m.a, .bool y.m.t, .slice y.pl y.m.ls.length y.cl, .slice y.pn y.m.ns.length y.cn] 36)) #[.int .i64 0, .slice none 0 0] 27 (by simp))
 have HZ0 : Hid (w.heap.size ≤ (((w.alloc (.cells #[.int .i64 (N : Int), .slice p n c] 27)).alloc (.cells #[.int .i64 y.m.k, .int .i64 y.m.s, .int .i64 y.m.n, .int .i64 y.m.b, .int .i64 y.m.c, .int .i64 y.m.r, .int .i64 y.m.y, .int .i64 y.m.a, .bool y.m.t, .slice y.pl y.m.ls.length y.cl, .slice y.pn y.m.ns.length y.cn] 36)).alloc (.cells #[.int .i64 0, .slice none 0 0] 27)).heap.size) := Lib.hid HB0.out.size
 go_enter Try.func31, Try.ntmps31
 go_upto_region 1 with fail
 generalize (((w.alloc (.cells #[.int .i64 (N : Int), .slice p n c] 27)).alloc (.cells #[.int .i64 y.m.k, .int .i64 y.m.s, .int .i64 y.m.n, .int .i64 y.m.b, .int .i64 y.m.c, .int .i64 y.m.r, .int .i64 y.m.y, .int .i64 y.m.a, .bool y.m.t, .slice y.pl y.m.ls.length y.cl, .slice y.pn y.m.ns.length y.cn] 36)).alloc (.cells #[.int .i64 0, .slice none 0 0] 27)) = W at *
 have HWL : Hid (w.heap.size + 1 + 1 < W.heap.size) := Lib.hid Hr0.out.lt
 have HG := Lib.hid (crun_any W P N y.m.y p n c rs (HRS.out.kept HB0.out) HKK.out.1 HKK.out.2.1 HKK.out.2.2.1 HKK.out.2.2.2 HNN.out.1 HNN.out.2 HLN.out)
 have a0 : W.cell? ⟨w.heap.size, 0, none⟩ = some (.int .i64 (N : Int)) := Hc0.out.cell 0
 have a1 : W.cell? ⟨w.heap.size, 1, none⟩ = some (.slice p n c) := Hc0.out.cell 1
 have m6 : W.cell? ⟨(w.heap.size + 1), 6, none⟩ = some (.int .i64 y.m.y) := Hm0.out.cell 6
 go_wp2_with fail
 clear a0 a1 m6
 refine HG.out.mono ?_
 rintro y9 w1 ⟨x, rfl, hx, hro, hb⟩
 clear HG
 have HX : Hid (rnAt rs y.m.y = x.r) := Lib.hid (by unfold rnAt; rw [hx]; rfl)
 have HXS : Hid (rs[(y.m.y - 1).toNat]? = some x.r) := Lib.hid hx
 have HO := Lib.hid hro
 have HW1 : Hid (W.heap.size ≤ w1.heap.size) := Lib.hid hb.size
 clear hx hro
 have Hc1 := kbq Hc0 hb
 have Hm1 := kbq Hm0 hb
 have Hr1 := kbq Hr0 hb
 have HB1 := ktq HB0 hb
 have HZ1 := kzq HZ0 hb.size
 clear Hc0 Hm0 Hr0 HB0 HZ0
 clear hb
 unfold RunX.v
 have hba9 := oneB w1 (.cells #[.int .i64 x.r.cu, .int .i64 x.r.st, .slice x.pf x.r.hs.length x.cf, .slice x.pl x.r.ls.length x.cl, .slice x.pn x.r.ns.length x.cn] 56)
 have HO2 := Lib.hid (HO.out.kept hba9)
 clear hba9 HO
 have hba := oneB w1 (.cells #[.int .i64 x.r.cu, .int .i64 x.r.st, .slice x.pf x.r.hs.length x.cf, .slice x.pl x.r.ls.length x.cl, .slice x.pn x.r.ns.length x.cn] 56)
 have Hc2 := kbq Hc1 hba
 have Hm2 := kbq Hm1 hba
 have Hr2 := kbq Hr1 hba
 have Hx2 := Lib.hid (Blk.new w1 #[.int .i64 x.r.cu, .int .i64 x.r.st, .slice x.pf x.r.hs.length x.cf, .slice x.pl x.r.ls.length x.cl, .slice x.pn x.r.ns.length x.cn] 56)
 have HB2 := Lib.hid (HB1.out.alloc HB1.out.size (.cells #[.int .i64 x.r.cu, .int .i64 x.r.st, .slice x.pf x.r.hs.length x.cf, .slice x.pl x.r.ls.length x.cl, .slice x.pn x.r.ns.length x.cn] 56))
 have HZ2 := kzq HZ1 hba.size
 have HGgx : Hid (w.heap.size ≤ w1.heap.size) := Lib.hid HB1.out.size
 clear hba Hc1 Hm1 Hr1 HB1 HZ1
 go_upto_region 2 with fail
 generalize (w1.alloc (.cells #[.int .i64 x.r.cu, .int .i64 x.r.st, .slice x.pf x.r.hs.length x.cf, .slice x.pl x.r.ls.length x.cl, .slice x.pn x.r.ns.length x.cn] 56)) = W2 at *
 generalize hggx : w1.heap.size = gx at *
 clear hggx
 have HG := Lib.hid (copen_any W2 x)
 unfold RunX.v at HG
 have x0 : W2.cell? ⟨gx, 0, none⟩ = some (.int .i64 x.r.cu) := Hx2.out.cell 0
 have x1 : W2.cell? ⟨gx, 1, none⟩ = some (.int .i64 x.r.st) := Hx2.out.cell 1
 have x2 : W2.cell? ⟨gx, 2, none⟩ = some (.slice x.pf x.r.hs.length x.cf) := Hx2.out.cell 2
 have x3 : W2.cell? ⟨gx, 3, none⟩ = some (.slice x.pl x.r.ls.length x.cl) := Hx2.out.cell 3
 have x4 : W2.cell? ⟨gx, 4, none⟩ = some (.slice x.pn x.r.ns.length x.cn) := Hx2.out.cell 4
 go_wp2_with fail
 clear x0 x1 x2 x3 x4
 refine HG.out.mono ?_
 rintro y9 w3 ⟨rfl, hb⟩
 clear HG
 have Hc3 := kbq Hc2 hb
 have Hm3 := kbq Hm2 hb
 have Hr3 := kbq Hr2 hb
 have Hx3 := kbq Hx2 hb
 have HB3 := ktq HB2 hb
 have HZ3 := kzq HZ2 hb.size
 clear Hc2 Hm2 Hr2 Hx2 HB2 HZ2
 have HO3 := Lib.hid (HO2.out.kept hb)
 clear hb HO2
 obtain ⟨bo, hbo⟩ : ∃ bo, openB x.r = bo := ⟨_, rfl⟩
 have HOB := Lib.hid hbo
 rw [hbo]
 clear hbo
 cases bo
 ·skip
  have HE : Hid (queryC rs y.m fro = (rs, [(fro, decM y.m.y x.r)], 0)) := by show _ = _; unfold queryC; rw [HX.out, HOB.out]; rfl
  go_upto_region 4 with fail
  have hbd := (Below.refl w3.heap.size w3).drew
  have Hc4 := kbq Hc3 hbd
  have Hm4 := kbq Hm3 hbd
  have Hr4 := kbq Hr3 hbd
  have Hx4 := kbq Hx3 hbd
  have HB4 := ktq HB3 hbd
  have HZ4 := kzq HZ3 hbd.size
  clear Hc3 Hm3 Hr3 Hx3 HB3 HZ3
  refine wp_region_held_drew (S := fun w' => w'.cell? ⟨w.heap.size, 0, none⟩ = some (.int .i64 (N : Int)) ∧ w'.cell? ⟨w.heap.size, 1, none⟩ = some (.slice p n c) ∧ w'.cell? ⟨w.heap.size + 1, 0, none⟩ = some (.int .i64 y.m.k) ∧ w'.cell? ⟨w.heap.size + 1, 1, none⟩ = some (.int .i64 y.m.s) ∧ w'.cell? ⟨w.heap.size + 1, 2, none⟩ = some (.int .i64 y.m.n) ∧ w'.cell? ⟨w.heap.size + 1, 3, none⟩ = some (.int .i64 y.m.b) ∧ w'.cell? ⟨w.heap.size + 1, 4, none⟩ = some (.int .i64 y.m.c) ∧ w'.cell? ⟨w.heap.size + 1, 5, none⟩ = some (.int .i64 y.m.r) ∧ w'.cell? ⟨w.heap.size + 1, 6, none⟩ = some (.int .i64 y.m.y) ∧ w'.cell? ⟨w.heap.size + 1, 7, none⟩ = some (.int .i64 y.m.a) ∧ w'.cell? ⟨w.heap.size + 1, 8, none⟩ = some (.bool y.m.t) ∧ w'.cell? ⟨w.heap.size + 1, 9, none⟩ = some (.slice y.pl y.m.ls.length y.cl) ∧ w'.cell? ⟨w.heap.size + 1, 10, none⟩ = some (.slice y.pn y.m.ns.length y.cn) ∧ w'.cell? ⟨gx, 0, none⟩ = some (.int .i64 x.r.cu) ∧ w'.cell? ⟨gx, 1, none⟩ = some (.int .i64 x.r.st) ∧ w'.cell? ⟨gx, 2, none⟩ = some (.slice x.pf x.r.hs.length x.cf) ∧ w'.cell? ⟨gx, 3, none⟩ = some (.slice x.pl x.r.ls.length x.cl) ∧ w'.cell? ⟨gx, 4, none⟩ = some (.slice x.pn x.r.ns.length x.cn)) (by kernel_rfl) ⟨Hc4.out.cell 0, Hc4.out.cell 1, Hm4.out.cell 0, Hm4.out.cell 1, Hm4.out.cell 2, Hm4.out.cell 3, Hm4.out.cell 4, Hm4.out.cell 5, Hm4.out.cell 6, Hm4.out.cell 7, Hm4.out.cell 8, Hm4.out.cell 9, Hm4.out.cell 10, Hx4.out.cell 0, Hx4.out.cell 1, Hx4.out.cell 2, Hx4.out.cell 3, Hx4.out.cell 4⟩ (fun hS0 => ?_)
  generalize w3.drew = WD at *
  clear hbd
  refine tkq 0 ?_
  refine tkq 1 ?_
  refine tkq 2 ?_
  refine tkq 3 ?_
  refine tkq 4 ?_
  refine rdq 5 (fun K hK => ?_)
  have HWDD : Hid (w.heap.size + 1 + 1 < WD.heap.size) := Lib.hid Hr4.out.lt
  have HG := Lib.hid (decision_any WD x y.m.y)
  unfold RunX.v decM Msg.v at HG
  obtain ⟨bq, hbq⟩ : ∃ bq, (x.r.st == 3) = bq := ⟨_, rfl⟩
  have HBQ := Lib.hid hbq
  dsimp only at HG
  rw [hbq] at HG
  clear hbq
  go_simp
  go_at_call 52
  refine HG.out.mono ?_
  rintro y9 w4 ⟨rfl, hb⟩
  clear HG
  have HLE4 : Hid (WD.heap.size ≤ w4.heap.size) := Lib.hid hb.size
  have Hc5 := kbq Hc4 hb
  have Hm5 := kbq Hm4 hb
  have Hr5 := kbq Hr4 hb
  have Hx5 := kbq Hx4 hb
  have HB5 := ktq HB4 hb
  have HZ5 := kzq HZ4 hb.size
  clear Hc4 Hm4 Hr4 Hx4 HB4 HZ4
  clear hb hS0
  try go_wp2_with fail
  refine hK.out _ _ ⟨Hc5.out.cell 0, Hc5.out.cell 1, Hm5.out.cell 0, Hm5.out.cell 1, Hm5.out.cell 2, Hm5.out.cell 3, Hm5.out.cell 4, Hm5.out.cell 5, Hm5.out.cell 6, Hm5.out.cell 7, Hm5.out.cell 8, Hm5.out.cell 9, Hm5.out.cell 10, Hx5.out.cell 0, Hx5.out.cell 1, Hx5.out.cell 2, Hx5.out.cell 3, Hx5.out.cell 4⟩ (fun hS0 => ?_)
  clear hK K
  try simp only [Act.put, List.getElem_toArray, List.getElem_cons_succ, List.getElem_cons_zero, List.setIfInBounds_toArray, List.set_cons_zero, List.set_cons_succ]
  refine tkq 6 ?_
  refine wpAnyH_ready (rs := [7, 8]) (by kernel_rfl) (by simp) ?_
  refine AllReadyH.cons rfl (fun K hK => ?_) (AllReadyH.cons rfl (fun K hK => ?_) AllReadyH.nil)
  ·skip
   go_simp
   have hba := oneB w4 (.cells #[.int .i64 fro, .int .i64 14, .int .i64 0, .int .i64 0, .int .i64 0, .int .i64 0, .int .i64 0, .int .i64 y.m.y, .int .i64 0, .bool bq, .slice none 0 0, .slice none 0 0] 47)
   have Hc6 := kbq Hc5 hba
   have Hm6 := kbq Hm5 hba
   have Hr6 := kbq Hr5 hba
   have Hx6 := kbq Hx5 hba
   have Hz6 := Lib.hid (Blk.new w4 #[.int .i64 fro, .int .i64 14, .int .i64 0, .int .i64 0, .int .i64 0, .int .i64 0, .int .i64 0, .int .i64 y.m.y, .int .i64 0, .bool bq, .slice none 0 0, .slice none 0 0] 47)
   have HB6 := Lib.hid (HB5.out.alloc HB5.out.size (.cells #[.int .i64 fro, .int .i64 14, .int .i64 0, .int .i64 0, .int .i64 0, .int .i64 0, .int .i64 0, .int .i64 y.m.y, .int .i64 0, .bool bq, .slice none 0 0, .slice none 0 0] 47))
   have HZ6 := kzq HZ5 hba.size
   clear hba hS0 Hc5 Hm5 Hr5 Hx5 HB5 HZ5
   generalize (w4.alloc (.cells #[.int .i64 fro, .int .i64 14, .int .i64 0, .int .i64 0, .int .i64 0, .int .i64 0, .int .i64 0, .int .i64 y.m.y, .int .i64 0, .bool bq, .slice none 0 0, .slice none 0 0] 47)) = W7a at *
   generalize hggz : w4.heap.size = gz at *
   clear hggz
   refine hK.out _ _ ⟨Hc6.out.cell 0, Hc6.out.cell 1, Hm6.out.cell 0, Hm6.out.cell 1, Hm6.out.cell 2, Hm6.out.cell 3, Hm6.out.cell 4, Hm6.out.cell 5, Hm6.out.cell 6, Hm6.out.cell 7, Hm6.out.cell 8, Hm6.out.cell 9, Hm6.out.cell 10, Hx6.out.cell 0, Hx6.out.cell 1, Hx6.out.cell 2, Hx6.out.cell 3, Hx6.out.cell 4⟩ (fun hS0 => ?_)
   clear hK K
   try simp only [Act.put, List.getElem_toArray, List.getElem_cons_succ, List.getElem_cons_zero, List.setIfInBounds_toArray, List.set_cons_zero, List.set_cons_succ]
   refine rdq 8 (fun K hK => ?_)
   have z0 : W7a.cell? ⟨(w.heap.size + 1 + 1), 0, none⟩ = some (.int .i64 0) := Hr6.out.cell 0
   have z1 : W7a.cell? ⟨(w.heap.size + 1 + 1), 1, none⟩ = some (.slice none 0 0) := Hr6.out.cell 1
   have f0 := Hr6.out.free 0
   have f1 := Hr6.out.free 1
   go_simp
   clear z0 f0 z1 f1
   have hch := Lib.hid (((Chg.refl (w.heap.size + 1 + 1) W7a).set 0 (.int .i64 (N : Int))).set 1 (.slice p n c))
   have Hr7 : Hid (Blk _ (w.heap.size + 1 + 1) #[.int .i64 (N : Int), .slice p n c] 27) := Lib.hid ((Hr6.out.set 0 (.int .i64 (N : Int))).set 1 (.slice p n c))
   have HB7 := ksq HB6 hch (by show w.heap.size ≤ (w.heap.size + 1 + 1); have := HWL.out; have := HW1.out; have := HWDD.out; have := HLE4.out; omega)
   have HZ7 := kzq HZ6 hch.out.size
   have Hc7 := kcq Hc6 hch (by have := HWL.out; have := HW1.out; have := HWDD.out; have := HLE4.out; omega)
   have Hm7 := kcq Hm6 hch (by have := HWL.out; have := HW1.out; have := HWDD.out; have := HLE4.out; omega)
   have Hx7 := kcq Hx6 hch (by have := HWL.out; have := HW1.out; have := HWDD.out; have := HLE4.out; omega)
   have Hz7 := kcq Hz6 hch (by have := HWL.out; have := HW1.out; have := HWDD.out; have := HLE4.out; omega)
   clear hch hS0 Hc6 Hm6 Hr6 Hx6 Hz6 HB6 HZ6
   generalize ((W7a.setCell ⟨w.heap.size + 1 + 1, 0, none⟩ (.int .i64 (N : Int))).setCell ⟨w.heap.size + 1 + 1, 1, none⟩ (.slice p n c)) = W8a at *
   refine hK.out _ _ ⟨Hc7.out.cell 0, Hc7.out.cell 1, Hm7.out.cell 0, Hm7.out.cell 1, Hm7.out.cell 2, Hm7.out.cell 3, Hm7.out.cell 4, Hm7.out.cell 5, Hm7.out.cell 6, Hm7.out.cell 7, Hm7.out.cell 8, Hm7.out.cell 9, Hm7.out.cell 10, Hx7.out.cell 0, Hx7.out.cell 1, Hx7.out.cell 2, Hx7.out.cell 3, Hx7.out.cell 4⟩ (fun hS0 => ?_)
   clear hK K
   try simp only [Act.put, List.getElem_toArray, List.getElem_cons_succ, List.getElem_cons_zero, List.setIfInBounds_toArray, List.set_cons_zero, List.set_cons_succ]
   refine tkq 9 ?_
   refine tkq 10 ?_
   refine wpAnyH_done (by kernel_rfl) ?_ _
   clear hS0
   go_wp2_with fail
   have hfr := Hr7.out
   refine bodyPost_ret (v := .tuple #[.agg #[.int .i64 (N : Int), .slice p n c], .slice (some ⟨gz, 0, none⟩) 1 1, .int .i64 0]) (by simp [results, Try.results31, go_sem, hfr.cell 0, hfr.cell 1]) rfl (by rw [HE.out]; exact ⟨p, n, c, _, 1, 1, gz, rfl, HKK.out.1, rfl, by have := HLE4.out; have := HWDD.out; omega, (HRS.out.kept HB7.out).imp (fun b h => .inl h), ⟨[(⟨fro, ⟨decM y.m.y x.r, none, 0, none, 0⟩⟩ : SdX)], OwnT.mk' (g := gz) rfl (Nat.le_refl _) Hz7.out (Nat.le_refl 1) (by decide) rfl (by rw [show decM y.m.y x.r = ⟨14, 0, 0, 0, 0, 0, y.m.y, 0, bq, [], []⟩ from by unfold decM; rw [HBQ.out]]; rfl), fun q hq => by
    obtain rfl := List.mem_singleton.1 hq
    exact ⟨⟨TRow.nil_ _ _, Row.nil_ _ _ 0, At.nil_ _ _, At.nil_ _ _, ⟨by show 0 * 32 ≤ _; decide, by show 0 * 8 ≤ _; decide⟩⟩, Fre.none_ _ _, Fre.none_ _ _⟩, rfl⟩, HB7.out⟩)
  ·skip
   have z0 : w4.cell? ⟨(w.heap.size + 1 + 1), 0, none⟩ = some (.int .i64 0) := Hr5.out.cell 0
   have z1 : w4.cell? ⟨(w.heap.size + 1 + 1), 1, none⟩ = some (.slice none 0 0) := Hr5.out.cell 1
   have f0 := Hr5.out.free 0
   have f1 := Hr5.out.free 1
   go_simp
   clear z0 f0 z1 f1
   have hch := Lib.hid (((Chg.refl (w.heap.size + 1 + 1) w4).set 0 (.int .i64 (N : Int))).set 1 (.slice p n c))
   have Hr6 : Hid (Blk _ (w.heap.size + 1 + 1) #[.int .i64 (N : Int), .slice p n c] 27) := Lib.hid ((Hr5.out.set 0 (.int .i64 (N : Int))).set 1 (.slice p n c))
   have HB6 := ksq HB5 hch (by show w.heap.size ≤ (w.heap.size + 1 + 1); have := HWL.out; have := HW1.out; omega)
   have HZ6 := kzq HZ5 hch.out.size
   have Hc6 := kcq Hc5 hch (by have := HWL.out; have := HW1.out; omega)
   have Hm6 := kcq Hm5 hch (by have := HWL.out; have := HW1.out; omega)
   have Hx6 := kcq Hx5 hch (by have := HWL.out; have := HW1.out; omega)
   have HLE4b : Hid (WD.heap.size ≤ (((w4.setCell ⟨w.heap.size + 1 + 1, 0, none⟩ (.int .i64 (N : Int))).setCell ⟨w.heap.size + 1 + 1, 1, none⟩ (.slice p n c))).heap.size) := Lib.hid (Nat.le_trans HLE4.out hch.out.size)
   clear hch hS0 Hc5 Hm5 Hr5 Hx5 HB5 HZ5
   generalize ((w4.setCell ⟨w.heap.size + 1 + 1, 0, none⟩ (.int .i64 (N : Int))).setCell ⟨w.heap.size + 1 + 1, 1, none⟩ (.slice p n c)) = W8b at *
   refine hK.out _ _ ⟨Hc6.out.cell 0, Hc6.out.cell 1, Hm6.out.cell 0, Hm6.out.cell 1, Hm6.out.cell 2, Hm6.out.cell 3, Hm6.out.cell 4, Hm6.out.cell 5, Hm6.out.cell 6, Hm6.out.cell 7, Hm6.out.cell 8, Hm6.out.cell 9, Hm6.out.cell 10, Hx6.out.cell 0, Hx6.out.cell 1, Hx6.out.cell 2, Hx6.out.cell 3, Hx6.out.cell 4⟩ (fun hS0 => ?_)
   clear hK K
   try simp only [Act.put, List.getElem_toArray, List.getElem_cons_succ, List.getElem_cons_zero, List.setIfInBounds_toArray, List.set_cons_zero, List.set_cons_succ]
   refine rdq 7 (fun K hK => ?_)
   go_simp
   have hba := oneB W8b (.cells #[.int .i64 fro, .int .i64 14, .int .i64 0, .int .i64 0, .int .i64 0, .int .i64 0, .int .i64 0, .int .i64 y.m.y, .int .i64 0, .bool bq, .slice none 0 0, .slice none 0 0] 47)
   have Hc7 := kbq Hc6 hba
   have Hm7 := kbq Hm6 hba
   have Hr7 := kbq Hr6 hba
   have Hx7 := kbq Hx6 hba
   have Hz7 := Lib.hid (Blk.new W8b #[.int .i64 fro, .int .i64 14, .int .i64 0, .int .i64 0, .int .i64 0, .int .i64 0, .int .i64 0, .int .i64 y.m.y, .int .i64 0, .bool bq, .slice none 0 0, .slice none 0 0] 47)
   have HB7 := Lib.hid (HB6.out.alloc HB6.out.size (.cells #[.int .i64 fro, .int .i64 14, .int .i64 0, .int .i64 0, .int .i64 0, .int .i64 0, .int .i64 0, .int .i64 y.m.y, .int .i64 0, .bool bq, .slice none 0 0, .slice none 0 0] 47))
   have HZ7 := kzq HZ6 hba.size
   clear hba hS0 Hc6 Hm6 Hr6 Hx6 HB6 HZ6
   generalize (W8b.alloc (.cells #[.int .i64 fro, .int .i64 14, .int .i64 0, .int .i64 0, .int .i64 0, .int .i64 0, .int .i64 0, .int .i64 y.m.y, .int .i64 0, .bool bq, .slice none 0 0, .slice none 0 0] 47)) = W7b at *
   generalize hggz : W8b.heap.size = gz at *
   clear hggz
   refine hK.out _ _ ⟨Hc7.out.cell 0, Hc7.out.cell 1, Hm7.out.cell 0, Hm7.out.cell 1, Hm7.out.cell 2, Hm7.out.cell 3, Hm7.out.cell 4, Hm7.out.cell 5, Hm7.out.cell 6, Hm7.out.cell 7, Hm7.out.cell 8, Hm7.out.cell 9, Hm7.out.cell 10, Hx7.out.cell 0, Hx7.out.cell 1, Hx7.out.cell 2, Hx7.out.cell 3, Hx7.out.cell 4⟩ (fun hS0 => ?_)
   clear hK K
   try simp only [Act.put, List.getElem_toArray, List.getElem_cons_succ, List.getElem_cons_zero, List.setIfInBounds_toArray, List.set_cons_zero, List.set_cons_succ]
   refine tkq 9 ?_
   refine tkq 10 ?_
   refine wpAnyH_done (by kernel_rfl) ?_ _
   clear hS0
   go_wp2_with fail
   have hfr := Hr7.out
   refine bodyPost_ret (v := .tuple #[.agg #[.int .i64 (N : Int), .slice p n c], .slice (some ⟨gz, 0, none⟩) 1 1, .int .i64 0]) (by simp [results, Try.results31, go_sem, hfr.cell 0, hfr.cell 1]) rfl (by rw [HE.out]; exact ⟨p, n, c, _, 1, 1, gz, rfl, HKK.out.1, rfl, by have := HLE4b.out; have := HWDD.out; omega, (HRS.out.kept HB7.out).imp (fun b h => .inl h), ⟨[(⟨fro, ⟨decM y.m.y x.r, none, 0, none, 0⟩⟩ : SdX)], OwnT.mk' (g := gz) rfl (Nat.le_refl _) Hz7.out (Nat.le_refl 1) (by decide) rfl (by rw [show decM y.m.y x.r = ⟨14, 0, 0, 0, 0, 0, y.m.y, 0, bq, [], []⟩ from by unfold decM; rw [HBQ.out]]; rfl), fun q hq => by
    obtain rfl := List.mem_singleton.1 hq
    exact ⟨⟨TRow.nil_ _ _, Row.nil_ _ _ 0, At.nil_ _ _, At.nil_ _ _, ⟨by show 0 * 32 ≤ _; decide, by show 0 * 8 ≤ _; decide⟩⟩, Fre.none_ _ _, Fre.none_ _ _⟩, rfl⟩, HB7.out⟩)
 ·skip
  have HE : Hid (queryC rs y.m fro = (rs, [], 90)) := by show _ = _; unfold queryC; rw [HX.out, HOB.out]; rfl
  go_upto_region 3 with fail
  have a0 : w3.cell? ⟨w.heap.size, 0, none⟩ = some (.int .i64 (N : Int)) := Hc3.out.cell 0
  have a1 : w3.cell? ⟨w.heap.size, 1, none⟩ = some (.slice p n c) := Hc3.out.cell 1
  go_wp2_with (with_reducible refine stop_storeT 27 (.tmp 6) (.tmp 16) rfl ?_)
  clear a0 a1
  have HTH : Hid (w3.there (w.heap.size + 1 + 1) 0 2) := Hr3.out.thereAt
  have hch : Hid (Chg (w.heap.size + 1 + 1) w3 (w3.setCells (w.heap.size + 1 + 1) 0 (#[.int .i64 (N : Int), .slice p n c] : Array Value).toList)) := Lib.hid (chg_putL _ _ _ _ _ (Chg.refl _ w3))
  have Hr4 : Hid (Blk (w3.setCells (w.heap.size + 1 + 1) 0 (#[.int .i64 (N : Int), .slice p n c] : Array Value).toList) (w.heap.size + 1 + 1) #[.int .i64 (N : Int), .slice p n c] 27) := Lib.hid (blk_put_all Hr3.out _ rfl)
  have HB4 : Hid (Below w.heap.size w (w3.setCells (w.heap.size + 1 + 1) 0 (#[.int .i64 (N : Int), .slice p n c] : Array Value).toList)) := Lib.hid (below_put (by have := HWL.out; have := HW1.out; omega) _ _ _ _ HB3.out)
  have HZ4 := kzq HZ3 hch.out.size
  have Hc4 := kcq Hc3 hch (by have := HWL.out; have := HW1.out; omega)
  have Hm4 := kcq Hm3 hch (by have := HWL.out; have := HW1.out; omega)
  have Hx4 := kcq Hx3 hch (by have := HWL.out; have := HW1.out; omega)
  clear hch Hc3 Hm3 Hr3 Hx3 HB3 HZ3
  refine wpList_store_mid rfl 27 (.tmp 6) (.tmp 16) rfl (w.heap.size + 1 + 1) 0 #[.int .i64 (N : Int), .slice p n c] rfl rfl HTH.out (infoC2 rfl) (all_oneCell_toArray (by intro u hu; simp at hu; rcases hu with rfl | rfl <;> rfl)) ?_
  generalize (w3.setCells (w.heap.size + 1 + 1) 0 (#[.int .i64 (N : Int), .slice p n c] : Array Value).toList) = W9c at *
  clear HTH
  go_wp2_with fail
  have hfr := Hr4.out
  refine bodyPost_ret (v := .tuple #[.agg #[.int .i64 (N : Int), .slice p n c], .slice none 0 0, .int .i64 90]) (by simp [results, Try.results31, go_sem, hfr.cell 0, hfr.cell 1]) rfl (by rw [HE.out]; exact ⟨p, n, c, none, 0, 0, W9c.heap.size, rfl, HKK.out.1, rfl, HZ4.out, (HRS.out.kept HB4.out).imp (fun b h => .inl h), SaidL.nil_ _ _, HB4.out⟩)
end Go.Proofs.Yteogdfpkcoodlaa
namespace Go.Proofs.Yteogdfpkcoodlaa
open Go.RowKit
section
variable {α : Type} {e : Enc α}
theorem OwnT.cell1 {w : World} {base n c g : Nat} {ty : TypeId} {xs : List α} (h : OwnT e w base ty (.slice (some ⟨g, 0, none⟩) n c) xs) (i t : Nat) (hi : i < xs.length) (ht : t < e.k) (x : α) (v : Value) (hx : e.E x = (e.E xs[i]).set t v) : OwnT e (w.setCell ⟨g, i * e.k + t, none⟩ v) base ty (.slice (some ⟨g, 0, none⟩) n c) (xs.set i x) := by
 have hnx : n = xs.length := by
  obtain ⟨p', c', e1⟩ := h.form
  exact (Value.slice.inj e1).2.1
 obtain ⟨g', cur, e1, hb, hg, hn, hm, hs, ht', hl⟩ := h.lies (by omega)
 cases e1
 refine OwnT.mk' (by rw [List.length_set]; exact hl) hb (hg.set (i * e.k + t) v) hn hm (by rw [Array.size_setIfInBounds]; exact hs) ?_
 apply List.ext_getElem?
 intro j
 have hk := e.pos
 by_cases hj : j < n * e.k
 ·have hq : j / e.k < n := (Nat.div_lt_iff_lt_mul hk).2 hj
  have hr : j % e.k < e.k := Nat.mod_lt _ hk
  have e3 : j / e.k * e.k + j % e.k = j := by rw [Nat.mul_comm]; exact Nat.div_add_mod j e.k
  have hjc : j < cur.size := by rw [hs]; exact Nat.lt_of_lt_of_le hj (Nat.mul_le_mul_right _ hn)
  have hset := flat_get e (xs.set i x) (j / e.k) (j % e.k) (by rw [List.length_set]; omega) hr
  rw [e3] at hset
  have h4 := congrArg (fun l => l[j]?) ht'
  simp only [List.getElem?_take] at h4
  rw [if_pos hj, Array.getElem?_toList] at h4
  have h5 := flat_get e xs (j / e.k) (j % e.k) (by omega) hr
  rw [e3, ← h4] at h5
  rw [hset, List.getElem?_take, if_pos hj, Array.getElem?_toList, List.getElem_set]
  by_cases hqi : i = j / e.k
  ·rw [if_pos hqi, hx]
   have h6 : (e.E xs[i]) = e.E xs[j / e.k] := by congr 1; exact getElem_congr rfl hqi _
   by_cases hjt : t = j % e.k
   ·have : i * e.k + t = j := by rw [hqi, hjt]; exact e3
    rw [this, Array.getElem?_setIfInBounds_self_of_lt hjc, ← hjt, List.getElem?_set_self (by rw [e.len]; exact ht)]
   ·rw [Array.getElem?_setIfInBounds_ne (by intro h; apply hjt; rw [hqi] at h; omega), List.getElem?_set_ne hjt, h6, h5]
  ·rw [if_neg hqi, Array.getElem?_setIfInBounds_ne ?_, h5]
   intro h
   apply hqi
   have : (i * e.k + t) / e.k = i := by rw [Nat.mul_comm, Nat.mul_add_div hk, Nat.div_eq_of_lt ht, Nat.add_zero]
   rw [← h, this]
 ·rw [List.getElem?_eq_none (by rw [List.length_take]; omega), List.getElem?_eq_none (by rw [flat_length, List.length_set, ← hl]; omega)]
/-- The cells of an element, free to be written. -/
theorem OwnT.read {w : World} {base n c g : Nat} {ty : TypeId} {xs : List α} (h : OwnT e w base ty (.slice (some ⟨g, 0, none⟩) n c) xs) (i t : Nat) (hi : i < xs.length) (ht : t < e.k) : w.cell? ⟨g, i * e.k + t, none⟩ = (e.E xs[i])[t]? ∧ w.frozen? ⟨g, i * e.k + t, none⟩ = false := by
 have hnx : n = xs.length := by
  obtain ⟨p', c', e1⟩ := h.form
  exact (Value.slice.inj e1).2.1
 obtain ⟨g', cur, e1, hb, hg, _⟩ := h.lies (by omega)
 cases e1
 refine ⟨?_, hg.free _⟩
 have hr := h.row
 obtain ⟨b, o, e2, _, hc⟩ := hr.at_ i hi
 cases e2
 rw [← hc t ht, Nat.zero_add]
end
end Go.Proofs.Yteogdfpkcoodlaa
namespace Go.Proofs.Yteogdfpkcoodlaa
open Go.RowKit
set_option linter.unusedSimpArgs false
def hd0 : Hd := ⟨false, false, []⟩
theorem RunX.v_mk (r : Rn) (pf : Option Addr) (cf : Nat) (pl : Option Addr) (cl : Nat) (pn : Option Addr) (cn : Nat) : (⟨r, pf, cf, pl, cl, pn, cn⟩ : RunX).v = .agg #[.int .i64 r.cu, .int .i64 r.st, .slice pf r.hs.length cf, .slice pl r.ls.length cl, .slice pn r.ns.length cn] := rfl
theorem HsO.at1 {P : Nat → Prop} {w : World} {base g n c : Nat} {hs : List Hd} (h : HsO P w base (.slice (some ⟨g, 0, none⟩) n c) hs) (j : Nat) (hj : j < hs.length) : ∃ x : HdX, x.h = hs[j] ∧ (∀ t, t < 3 → w.cell? ⟨g, j * 3 + t, none⟩ = x.cells[t]? ∧ w.frozen? ⟨g, j * 3 + t, none⟩ = false) ∧ x.In P w := by
 obtain ⟨xs, h1, h2, rfl⟩ := h
 rw [List.length_map] at hj
 refine ⟨xs[j], by rw [List.getElem_map], fun t ht => h1.read j t hj ht, h2 _ (List.getElem_mem hj)⟩
theorem HsO.put1 {P : Nat → Prop} {w : World} {base g n c : Nat} {hs : List Hd} (h : HsO P w base (.slice (some ⟨g, 0, none⟩) n c) hs) (j t : Nat) (hj : j < hs.length) (ht : t < 3) (v : Value) (q : Hd) (hg : ¬ P g)
  (hq : ∀ x : HdX, x.h = hs[j] → x.In P w → ∃ x' : HdX, x'.h = q ∧ x'.cells = x.cells.set t v ∧ x'.In P w) : HsO P (w.setCell ⟨g, j * 3 + t, none⟩ v) base (.slice (some ⟨g, 0, none⟩) n c) (hs.set j q) := by
 obtain ⟨xs, h1, h2, rfl⟩ := h
 rw [List.length_map] at hj
 obtain ⟨x', e1, e2, e3⟩ := hq xs[j] (by rw [List.getElem_map]) (h2 _ (List.getElem_mem hj))
 have hk : KeepP P w (w.setCell ⟨g, j * 3 + t, none⟩ v) := KeepP.of_chg ((Chg.refl g w).set _ v) hg
 refine ⟨xs.set j x', h1.cell1 j t hj ht x' v e2, fun y hy => ?_, by rw [List.map_set, e1]⟩
 rcases List.mem_or_eq_of_mem_set hy with h | h
 ·exact (h2 y h).keepP hk
 ·subst h; exact e3.keepP hk
theorem RunO.put1 {P : Nat → Prop} {w : World} {base N g cl cn : Nat} {r : Rn} {pl pn : Option Addr} (h : RunO P w base N ⟨r, some ⟨g, 0, none⟩, N, pl, cl, pn, cn⟩) (j t : Nat) (hj : j < r.hs.length) (ht : t < 3) (v : Value) (q : Hd) (hg : ¬ P g)
  (hq : ∀ x : HdX, x.h = r.hs[j] → x.In P w → ∃ x' : HdX, x'.h = q ∧ x'.cells = x.cells.set t v ∧ x'.In P w) : RunO P (w.setCell ⟨g, j * 3 + t, none⟩ v) base N ⟨{ r with hs := r.hs.set j q }, some ⟨g, 0, none⟩, N, pl, cl, pn, cn⟩ := by
 have hk : KeepP P w (w.setCell ⟨g, j * 3 + t, none⟩ v) := KeepP.of_chg ((Chg.refl g w).set _ v) hg
 refine ⟨?_, h.cap, ?_, ?_, h.ls.keepP h.al hk, h.al, h.ns.keepP h.an hk, h.an⟩
 ·obtain ⟨g1, e1, h1, h2⟩ := h.g
  exact ⟨g1, e1, h1, by simpa using h2⟩
 ·have h1 := h.len
  show (r.hs.set j q).length = N
  rw [List.length_set]
  exact h1
 ·have h1 := h.hs.put1 j t hj ht v q hg hq
  show HsO P _ base (.slice (some ⟨g, 0, none⟩) (r.hs.set j q).length N) (r.hs.set j q)
  rw [List.length_set]
  exact h1
end Go.Proofs.Yteogdfpkcoodlaa
namespace Go.Proofs.Yteogdfpkcoodlaa
open Go.RowKit
set_option linter.unusedSimpArgs false in
set_option maxHeartbeats 4000000 in
set_option maxRecDepth 100000 in
theorem offered_any (w : World) (v : Value) (xss : List (List Lin)) (who : Int) (x : Lin) (hr : LL w v xss) (hn : xss.length ≤ 1000) (hs : ∀ o ∈ xss, SortN o ∧ o.length ≤ 2000) :
  Calls Try.prog 71 #[v, .int .i64 who, x.v] w fun e w' => e = .returned (.bool (offB xss who x)) ∧ Below w.heap.size w w' := by
 obtain ⟨p, c, rfl⟩ := hr.shape
 have HR := Lib.hid hr
 have HB := Lib.hid (oneB w (.cells #[.int .i64 x.s, .int .i64 x.n, .int .i64 x.b, .int .i64 x.a] 64))
 have HX := Lib.hid (Blk.new w #[.int .i64 x.s, .int .i64 x.n, .int .i64 x.b, .int .i64 x.a] 64)
 clear hr
 by_cases h0 : who < 0
 ·have HE : Hid (offB xss who x = false) := by show _ = _; unfold offB; apply decide_eq_false; omega
  clear hs
  generalize xss.length = n at *
  unfold Lin.v
  go_enter Try.func71, Try.ntmps71
  go_wp2_with fail
  go_ret
  exact ⟨by rw [HE.out]; rfl, HB.out⟩
 by_cases h1 : (xss.length : Int) ≤ who
 ·have HE : Hid (offB xss who x = false) := by show _ = _; unfold offB; apply decide_eq_false; omega
  have h0' : 0 ≤ who := by omega
  clear hs h0
  generalize xss.length = n at *
  unfold Lin.v
  go_enter Try.func71, Try.ntmps71
  go_wp2_with fail
  go_ret
  exact ⟨by rw [HE.out]; rfl, HB.out⟩
 have h0' : 0 ≤ who := by omega
 have h1' : who < (xss.length : Int) := by omega
 have hi : who.toNat < xss.length := by omega
 have hwr : IntKind.i64.wrap who = who := IntWalk.i64_in _ (by omega)
 clear h0 h1
 obtain ⟨b, o, u, rfl, hbl, hcu, hru⟩ := HR.out.at_ who.toNat hi
 have HO : Hid (offB xss who x = decide (x ∈ xss[who.toNat])) := by
  show _ = _
  unfold offB
  rw [List.getD_eq_getElem?_getD, List.getElem?_eq_getElem hi, Option.getD_some]
  simp only [h0', h1', true_and]
 obtain ⟨hso, hln⟩ := hs _ (List.getElem_mem hi)
 generalize xss[who.toNat] = ys at *
 obtain ⟨pu, cu, rfl⟩ := hru.shape
 obtain ⟨A, mid, B, hA⟩ := aroundF_of_sorted posN ⟨x.s, x.n, 0⟩ ys hso
 have HSR := Lib.hid (fun (W : World) (h : Below w.heap.size w W) => searchN_any W _ ys A mid B x (hru.kept h) hA hln)
 have HRU := Lib.hid hru
 have HA := Lib.hid hA
 unfold Lin.v at HSR
 obtain ⟨fd, hfd⟩ : ∃ fd, decide (mid ≠ []) = fd := ⟨_, rfl⟩
 rw [hfd] at HSR
 have HFD := Lib.hid hfd
 clear hfd
 unfold Lin.v
 clear hs hso hi hru hA
 generalize xss.length = n at *
 go_enter Try.func71, Try.ntmps71
 go_wp2_with fail
 have hcu1 := (HB.out.cell (p := ⟨b, o + who.toNat, none⟩) hbl).trans hcu
 have hbl1 := Nat.lt_of_lt_of_le hbl HB.out.size
 generalize hgx : w.heap.size = gx at *
 have HGX := Lib.hid hgx
 clear hcu hbl hgx
 generalize w.alloc (.cells #[.int .i64 x.s, .int .i64 x.n, .int .i64 x.b, .int .i64 x.a] 64) = W1 at *
 have x0 : W1.cell? ⟨gx, 0, none⟩ = some (.int .i64 x.s) := HX.out.cell 0
 have x1 : W1.cell? ⟨gx, 1, none⟩ = some (.int .i64 x.n) := HX.out.cell 1
 have x2 : W1.cell? ⟨gx, 2, none⟩ = some (.int .i64 x.b) := HX.out.cell 2
 have x3 : W1.cell? ⟨gx, 3, none⟩ = some (.int .i64 x.a) := HX.out.cell 3
 have hgl := HX.out.lt
 have hS1 : W1.drew.cell? ⟨b, o + who.toNat, none⟩ = some (.slice pu ys.length cu) ∧ W1.drew.cell? ⟨gx, 0, none⟩ = some (.int .i64 x.s) ∧ W1.drew.cell? ⟨gx, 1, none⟩ = some (.int .i64 x.n) ∧ W1.drew.cell? ⟨gx, 2, none⟩ = some (.int .i64 x.b) ∧ W1.drew.cell? ⟨gx, 3, none⟩ = some (.int .i64 x.a) := ⟨hcu1, x0, x1, x2, x3⟩
 have HS : Hid (∀ w', Below W1.heap.size W1 w' → w'.cell? ⟨b, o + who.toNat, none⟩ = some (.slice pu ys.length cu) ∧ w'.cell? ⟨gx, 0, none⟩ = some (.int .i64 x.s) ∧ w'.cell? ⟨gx, 1, none⟩ = some (.int .i64 x.n) ∧ w'.cell? ⟨gx, 2, none⟩ = some (.int .i64 x.b) ∧ w'.cell? ⟨gx, 3, none⟩ = some (.int .i64 x.a)) := fun w' h => ⟨(h.cell (p := ⟨b, _, none⟩) hbl1).trans hcu1, (h.cell (p := ⟨gx, 0, none⟩) hgl).trans x0, (h.cell (p := ⟨gx, 1, none⟩) hgl).trans x1, (h.cell (p := ⟨gx, 2, none⟩) hgl).trans x2, (h.cell (p := ⟨gx, 3, none⟩) hgl).trans x3⟩
 refine wp_region_held_drew (S := fun w' => w'.cell? ⟨b, o + who.toNat, none⟩ = some (.slice pu ys.length cu) ∧ w'.cell? ⟨gx, 0, none⟩ = some (.int .i64 x.s) ∧ w'.cell? ⟨gx, 1, none⟩ = some (.int .i64 x.n) ∧ w'.cell? ⟨gx, 2, none⟩ = some (.int .i64 x.b) ∧ w'.cell? ⟨gx, 3, none⟩ = some (.int .i64 x.a)) (by kernel_rfl) hS1 (fun hS0 => ?_)
 refine tkq 0 ?_
 refine tkq 1 ?_
 refine tkq 2 ?_
 refine tkq 3 ?_
 refine tkq 4 ?_
 refine rdq 5 (fun K hK => ?_)
 go_simp
 go_at_call 75
 refine (HSR.out W1.drew (by first | exact HB.out.drew | (rw [HGX.out]; exact HB.out.drew))).mono ?_
 rintro y w2 ⟨rfl, hb2⟩
 have HB2 := Lib.hid ((Below.refl W1.heap.size W1).drew.trans (hb2.mono (Nat.le_refl _)))
 clear hb2
 try go_wp2_with fail
 refine hK.out _ _ (HS.out w2 HB2.out) (fun hS => ?_)
 clear hK K
 try simp only [Act.put, List.getElem_toArray, List.getElem_cons_succ, List.getElem_cons_zero, List.setIfInBounds_toArray, List.set_cons_zero, List.set_cons_succ]
 refine tkq 6 ?_
 refine tkq 7 ?_
 refine tkq 8 ?_
 refine tkq 9 ?_
 refine tkq 10 ?_
 refine wpAnyH_done (by kernel_rfl) ?_ _
 have HBW := Lib.hid (HB.out.trans (HB2.out.mono (by have := HB.out.size; have := HGX.out; omega)))
 obtain ⟨hcu2, y0, y1, y2, y3⟩ := HS.out w2 HB2.out
 clear hcu1 x0 x1 x2 x3 hS1 HS hS0
 rcases HA.out.mid1 with hm | ⟨q, hm, hq⟩
 ·have HE : Hid (offB xss who x = false) := by
   show _ = _
   rw [HO.out]
   apply decide_eq_false
   rw [mem_around HA.out, hm]
   simp
  obtain rfl : fd = false := by rw [← HFD.out, hm]; rfl
  clear hm
  go_wp2_with fail
  refine wp_region_held_drew (S := fun w' => True) (by kernel_rfl) trivial (fun hS0 => ?_)
  refine tkq 0 ?_
  refine tkq 1 ?_
  refine tnq 2 ?_
  refine tnq 3 ?_
  refine tnq 4 ?_
  refine tnq 5 ?_
  refine tnq 6 ?_
  refine tnq 7 ?_
  refine tnq 8 ?_
  refine tnq 9 ?_
  refine tnq 10 ?_
  refine tkq 11 ?_
  refine tkq 12 ?_
  refine wpAnyH_done (by kernel_rfl) ?_ _
  go_wp2_with fail
  go_ret
  exact ⟨by rw [HE.out]; rfl, by first | exact HBW.out.drew | (rw [HGX.out]; exact HBW.out.drew)⟩
 ·have HE : Hid (offB xss who x = linEq q x) := by
   show _ = _
   rw [HO.out, linEq_dec, Bool.eq_iff_iff]
   simp only [decide_eq_true_eq]
   rw [mem_around HA.out, hm, List.mem_singleton]
   exact eq_comm
  obtain rfl : fd = true := by rw [← HFD.out, hm]; rfl
  have hAl : A.length < ys.length := by rw [HA.out.all, hm]; simp only [List.length_append, List.length_cons, List.length_nil]; omega
  have hget : ys[A.length] = q := by
   have e := HA.out.all
   rw [hm] at e
   subst e
   simp
  obtain ⟨bq, oq, e1, hblq, hcs⟩ := (HRU.out.kept (w' := w2) (by first | exact HBW.out | (rw [HGX.out]; exact HBW.out))).at_ A.length hAl
  subst e1
  rw [hget] at hcs
  have hAI : ((A.length : Nat) : Int) < (ys.length : Int) := by omega
  have hwA : IntKind.i64.wrap ((A.length : Nat) : Int) = ((A.length : Nat) : Int) := IntWalk.i64_in _ (by omega)
  have c0 : w2.cell? ⟨bq, oq + A.length * 4, none⟩ = some (.int .i64 q.s) := hcs 0 (by decide)
  have c1 : w2.cell? ⟨bq, oq + A.length * 4 + 1, none⟩ = some (.int .i64 q.n) := hcs 1 (by decide)
  have c2 : w2.cell? ⟨bq, oq + A.length * 4 + 2, none⟩ = some (.int .i64 q.b) := hcs 2 (by decide)
  have c3 : w2.cell? ⟨bq, oq + A.length * 4 + 3, none⟩ = some (.int .i64 q.a) := hcs 3 (by decide)
  have hS2 : w2.drew.cell? ⟨b, o + who.toNat, none⟩ = some (.slice (some ⟨bq, oq, none⟩) ys.length cu) ∧ w2.drew.cell? ⟨gx, 0, none⟩ = some (.int .i64 x.s) ∧ w2.drew.cell? ⟨gx, 1, none⟩ = some (.int .i64 x.n) ∧ w2.drew.cell? ⟨gx, 2, none⟩ = some (.int .i64 x.b) ∧ w2.drew.cell? ⟨gx, 3, none⟩ = some (.int .i64 x.a) ∧ w2.drew.cell? ⟨bq, oq + A.length * 4, none⟩ = some (.int .i64 q.s) ∧ w2.drew.cell? ⟨bq, oq + A.length * 4 + 1, none⟩ = some (.int .i64 q.n) ∧ w2.drew.cell? ⟨bq, oq + A.length * 4 + 2, none⟩ = some (.int .i64 q.b) ∧ w2.drew.cell? ⟨bq, oq + A.length * 4 + 3, none⟩ = some (.int .i64 q.a) := ⟨hcu2, y0, y1, y2, y3, c0, c1, c2, c3⟩
  have keq := fun (w : World) => line_eq q x w
  clear hm hget hcs c0 c1 c2 c3 hcu2 y0 y1 y2 y3 hq
  generalize A.length = Al at *
  go_wp2_with fail
  refine wp_region_held_drew (S := fun w' => w'.cell? ⟨b, o + who.toNat, none⟩ = some (.slice (some ⟨bq, oq, none⟩) ys.length cu) ∧ w'.cell? ⟨gx, 0, none⟩ = some (.int .i64 x.s) ∧ w'.cell? ⟨gx, 1, none⟩ = some (.int .i64 x.n) ∧ w'.cell? ⟨gx, 2, none⟩ = some (.int .i64 x.b) ∧ w'.cell? ⟨gx, 3, none⟩ = some (.int .i64 x.a) ∧ w'.cell? ⟨bq, oq + Al * 4, none⟩ = some (.int .i64 q.s) ∧ w'.cell? ⟨bq, oq + Al * 4 + 1, none⟩ = some (.int .i64 q.n) ∧ w'.cell? ⟨bq, oq + Al * 4 + 2, none⟩ = some (.int .i64 q.b) ∧ w'.cell? ⟨bq, oq + Al * 4 + 3, none⟩ = some (.int .i64 q.a)) (by kernel_rfl) hS2 (fun hS0 => ?_)
  refine tkq 0 ?_
  refine tkq 1 ?_
  refine tkq 2 ?_
  refine tkq 3 ?_
  refine tkq 4 ?_
  refine tkq 5 ?_
  refine tkq 6 ?_
  refine tkq 7 ?_
  refine tkq 8 ?_
  refine tkq 9 ?_
  refine tkq 10 ?_
  refine tkq 11 ?_
  refine tkq 12 ?_
  refine wpAnyH_done (by kernel_rfl) ?_ _
  clear keq
  go_wp2_with fail
  go_ret
  exact ⟨by rw [HE.out]; rfl, by first | exact HBW.out.drew | (rw [HGX.out]; exact HBW.out.drew)⟩
end Go.Proofs.Yteogdfpkcoodlaa
namespace Go.Proofs.Yteogdfpkcoodlaa
open Go.RowKit
theorem filt_succ {p : Lin → Bool} {ys : List Lin} {j : Nat} (hj : j < ys.length) : (ys.take (j + 1)).filter p = (ys.take j).filter p ++ (if p ys[j] then [ys[j]] else []) := by
 rw [List.take_succ_eq_append_getElem hj, List.filter_append]
 congr 1
 cases h : p ys[j] <;> simp [h]
set_option linter.unusedSimpArgs false in
set_option maxHeartbeats 4000000 in
set_option maxRecDepth 100000 in
theorem both_any (w : World) (v : Value) (xss : List (List Lin)) (hr : LL w v xss) (hn : xss.length ≤ 1000) (hs : ∀ o ∈ xss, SortN o ∧ o.length ≤ 60) :
  Calls Try.prog 65 #[v] w fun e w' => ∃ v', e = .returned v' ∧ OwnT encN w' w.heap.size 64 v' (bothL xss xss.length) ∧ Below w.heap.size w w' := by
 obtain ⟨p, c, rfl⟩ := hr.shape
 have HR := Lib.hid hr
 have HS := Lib.hid hs
 clear hr hs
 have HBL := Lib.hid (bothL_len xss (fun o ho => (HS.out o ho).2))
 generalize hl : xss.length = n at *
 have HL := Lib.hid hl
 clear hl
 have HOF := Lib.hid (fun (W : World) (h : Below w.heap.size w W) (who : Int) (x : Lin) => offered_any W _ xss who x (HR.out.kept h) (by rw [HL.out]; exact hn) (fun o ho => ⟨(HS.out o ho).1, by have := (HS.out o ho).2; omega⟩))
 unfold Lin.v at HOF
 have HREL : Hid (OwnT encN w w.heap.size 64 (.slice none 0 0) (bothL xss 0) ∧ Below w.heap.size w w) := ⟨OwnT.nil_ _ _ _ _, Below.refl _ _⟩
 go_enter Try.func65, Try.ntmps65
 go_wp2_with fail
 go_loopw [3, 10] (fun v i wr => ∃ k : Nat, k ≤ n ∧ i = .int .i64 k ∧ Hid (OwnT encN wr w.heap.size 64 v (bothL xss k) ∧ Below w.heap.size w wr)) (fun _ i _ => n - (intOf i).toNat)
 case atStart => exact ⟨0, by omega, rfl, HREL⟩
 case round =>
  clear HREL
  obtain ⟨k, hk, rfl, HK⟩ := hrel
  by_cases hlt : k < n
  ·have hkl : k < xss.length := by rw [HL.out]; exact hlt
   have hltI : (k : Int) < (n : Int) := by omega
   obtain ⟨b, o, u, rfl, hbl, hcu0, hru⟩ := HR.out.at_ k hkl
   have hcu := (HK.out.2.cell (p := ⟨b, o + k, none⟩) hbl).trans hcu0
   clear hcu0
   have hys := HS.out _ (List.getElem_mem hkl)
   have HPK : Hid (partL xss k = xss[k].filter (bothF xss k)) := by show _ = _; unfold partL; rw [List.getD_eq_getElem?_getD, List.getElem?_eq_getElem hkl, Option.getD_some]
   generalize xss[k] = ys at *
   obtain ⟨pu, cu, rfl⟩ := hru.shape
   have HRU := Lib.hid hru
   have HYS := Lib.hid hys
   have hyl := hys.2
   have HK60 := Lib.hid (HBL.out k)
   obtain ⟨ho1, hw1⟩ := HK.out
   obtain ⟨pa, ca, hva⟩ := ho1.form
   generalize (bothL xss k).length = na at hva
   subst hva
   generalize wr = W2 at *
   have HREL2 : Hid (OwnT encN W2 w.heap.size 64 (.slice pa na ca) (bothL xss k ++ (ys.take 0).filter (bothF xss k)) ∧ Below w.heap.size w W2) := ⟨by simpa using ho1, hw1⟩
   clear hru hys ho1 hw1 HK
   generalize hly : ys.length = ny at *
   have HLY := Lib.hid hly
   clear hly
   go_wp2_with fail
   go_loopw [3, 17] (fun v i wr => ∃ j : Nat, j ≤ ny ∧ i = .int .i64 j ∧ Hid (OwnT encN wr w.heap.size 64 v (bothL xss k ++ (ys.take j).filter (bothF xss k)) ∧ Below w.heap.size w wr)) (fun _ i _ => ny - (intOf i).toNat)
   case atStart => exact ⟨0, by omega, rfl, HREL2⟩
   case round =>
    obtain ⟨j, hj, rfl, HJ⟩ := hrel
    clear HREL2
    by_cases hltj : j < ny
    ·have hjl : j < ys.length := by rw [HLY.out]; exact hltj
     have hltJ : (j : Int) < (ny : Int) := by omega
     have HFS := Lib.hid (filt_succ (p := bothF xss k) hjl)
     obtain ⟨b2, o2, rfl, hb2l, hcs⟩ := (HRU.out.kept HJ.out.2).at_ j hjl
     generalize ys[j] = x at *
     have c0 : wr.cell? ⟨b2, o2 + j * 4, none⟩ = some (.int .i64 x.s) := hcs 0 (by decide)
     have c1 : wr.cell? ⟨b2, o2 + j * 4 + 1, none⟩ = some (.int .i64 x.n) := hcs 1 (by decide)
     have c2 : wr.cell? ⟨b2, o2 + j * 4 + 2, none⟩ = some (.int .i64 x.b) := hcs 2 (by decide)
     have c3 : wr.cell? ⟨b2, o2 + j * 4 + 3, none⟩ = some (.int .i64 x.a) := hcs 3 (by decide)
     obtain ⟨ho1, hw1⟩ := HJ.out
     obtain ⟨pz, cz, hvz⟩ := ho1.form
     have HZL : Hid ((bothL xss k ++ (ys.take j).filter (bothF xss k)).length ≤ 70000) := by
      show _ ≤ _
      have h1 := HK60.out
      have h2 := List.length_filter_le (bothF xss k) (ys.take j)
      rw [List.length_take] at h2
      rw [List.length_append]
      omega
     generalize hz : bothL xss k ++ (ys.take j).filter (bothF xss k) = zs at *
     generalize hm : zs.length = m at *
     subst hvz
     have HMZ := Lib.hid hm
     have HO := Lib.hid (ho1.later (oneB wr (.cells #[.int .i64 x.s, .int .i64 x.n, .int .i64 x.b, .int .i64 x.a] 64)))
     have HX := Lib.hid (Blk.new wr #[.int .i64 x.s, .int .i64 x.n, .int .i64 x.b, .int .i64 x.a] 64)
     have HW := Lib.hid (hw1.trans ((oneB wr (.cells #[.int .i64 x.s, .int .i64 x.n, .int .i64 x.b, .int .i64 x.a] 64)).mono hw1.size))
     have HZZ := Lib.hid hz
     have hm7 : m ≤ 70000 := HZL.out
     clear ho1 hw1 HJ hcs hz hm
     by_cases hsk : x.s = (k : Int)
     ·have e1 : (x.s == (k : Int)) = true := by simpa using hsk
      have HBF : Hid (bothF xss k x = offB xss x.b x) := by show _ = _; unfold bothF; rw [decide_eq_true hsk, Bool.true_and]
      clear hsk
      go_wp2_with fail
      generalize wr.alloc (.cells #[.int .i64 x.s, .int .i64 x.n, .int .i64 x.b, .int .i64 x.a] 64) = W3 at *
      generalize wr.heap.size = gx at *
      refine (HOF.out W3 HW.out x.b x).mono ?_
      rintro y w2 ⟨rfl, hb2⟩
      have HO2 := Lib.hid (HO.out.later hb2)
      have HX2 := kbq HX hb2
      have HW2 := ktq HW hb2
      clear hb2 HO HX HW c0 c1 c2 c3
      obtain ⟨fb, hfb⟩ : ∃ fb, offB xss x.b x = fb := ⟨_, rfl⟩
      rw [hfb] at HBF ⊢
      clear hfb
      cases fb
      ·have HNX : Hid (OwnT encN w2 w.heap.size 64 (.slice pz m cz) (bothL xss k ++ (ys.take (j + 1)).filter (bothF xss k)) ∧ Below w.heap.size w w2) := ⟨by rw [HFS.out, HBF.out, if_neg (by decide), List.append_nil, HZZ.out]; exact HO2.out, HW2.out⟩
       clear HFS HBF
       go_wp2_with fail
       go_roundw
       case rel => exact ⟨j + 1, by omega, by go_num, HNX⟩
       case measure => simp [intOf]; omega
      ·have HFY : Hid (bothL xss k ++ (ys.take (j + 1)).filter (bothF xss k) = zs ++ [x]) := by show _ = _; rw [HFS.out, HBF.out, if_pos rfl, ← List.append_assoc, HZZ.out]
       have x0 : w2.cell? ⟨gx, 0, none⟩ = some (.int .i64 x.s) := HX2.out.cell 0
       have x1 : w2.cell? ⟨gx, 1, none⟩ = some (.int .i64 x.n) := HX2.out.cell 1
       have x2 : w2.cell? ⟨gx, 2, none⟩ = some (.int .i64 x.b) := HX2.out.cell 2
       have x3 : w2.cell? ⟨gx, 3, none⟩ = some (.int .i64 x.a) := HX2.out.cell 3
       clear HFS HBF
       go_wp2_with (at_builtin; with_reducible refine stop_appendIN (.tmp 33) (.tmp 35) 33 rfl ?_)
       refine wpList_append_t rfl (.tmp 33) (.tmp 35) 33 rfl 64 zeroVNc 32 w.heap.size eltNc rfl (by decide) (.slice pz m cz) (.slice (some ⟨w2.heap.size, 0, none⟩) 1 1) zs [x] rfl rfl (HO2.out.later (oneB w2 (.cells #[.int .i64 x.s, .int .i64 x.n, .int .i64 x.b, .int .i64 x.a] 64))) (TRow.one_ encN x (Blk.new w2 #[.int .i64 x.s, .int .i64 x.n, .int .i64 x.b, .int .i64 x.a] 64) rfl (Nat.le_refl _)) (by have := HMZ.out; simp; omega) (by have := HW2.out.size; simp at this ⊢; omega) (zs ++ [x]) (m + 1) rfl (by rw [List.length_append, HMZ.out]; rfl) ?_
       intro p9 c9 w3 ho3 _ hb3
       have HNX : Hid (OwnT encN w3 w.heap.size 64 (.slice p9 (m + 1) c9) (bothL xss k ++ (ys.take (j + 1)).filter (bothF xss k)) ∧ Below w.heap.size w w3) := ⟨by rw [HFY.out]; exact ho3, HW2.out.trans (((Below.refl _ w2).alloc HW2.out.size _).trans hb3)⟩
       clear ho3 hb3
       go_wp2_with fail
       go_roundw
       case rel => exact ⟨j + 1, by omega, by go_num, HNX⟩
       case measure => simp [intOf]; omega
     ·have e1 : (x.s == (k : Int)) = false := by simpa using hsk
      have HNX : Hid (OwnT encN (wr.alloc (.cells #[.int .i64 x.s, .int .i64 x.n, .int .i64 x.b, .int .i64 x.a] 64)) w.heap.size 64 (.slice pz m cz) (bothL xss k ++ (ys.take (j + 1)).filter (bothF xss k)) ∧ Below w.heap.size w (wr.alloc (.cells #[.int .i64 x.s, .int .i64 x.n, .int .i64 x.b, .int .i64 x.a] 64))) := ⟨by rw [HFS.out, show bothF xss k x = false by unfold bothF; rw [decide_eq_false hsk]; rfl, if_neg (by decide), List.append_nil, HZZ.out]; exact HO.out, HW.out⟩
      clear hsk HFS
      go_wp2_with fail
      go_roundw
      case rel => exact ⟨j + 1, by omega, by go_num, HNX⟩
      case measure => simp [intOf]; omega
    ·have hle : (ny : Int) ≤ (j : Int) := by omega
     have hjn : j = ys.length := by rw [HLY.out]; omega
     have HK2 := HJ.out
     rw [hjn, List.take_length, ← HPK.out, ← bothL_succ] at HK2
     have HNK : Hid (OwnT encN wr w.heap.size 64 _ (bothL xss (k + 1)) ∧ Below w.heap.size w wr) := ⟨HK2.1, HK2.2⟩
     clear hjn HK2 HJ
     go_wp2_with fail
     go_roundw
     case rel => exact ⟨k + 1, by omega, by go_num, HNK⟩
     case measure => simp [intOf]; omega
  ·have hle : (n : Int) ≤ (k : Int) := by omega
   obtain rfl : k = n := by omega
   have HF := Lib.hid HK.out
   obtain ⟨pa, ca, hva⟩ := HF.out.1.form
   generalize (bothL xss k).length = na at hva
   subst hva
   clear HK
   go_wp2_with fail
   go_ret
   exact ⟨_, rfl, HF.out.1, HF.out.2⟩
end Go.Proofs.Yteogdfpkcoodlaa
namespace Go.Proofs.Yteogdfpkcoodlaa
open Go.RowKit
theorem eltAc : Elt Try.prog 34 2 .i64 8 := by
 have ht := Try.underlying34
 have h : (Try.prog.info? 2).map (fun i => (i.zero, i.size, i.bytes)) = some (some (.int .i64 0), 1, 8) := by kernel_rfl
 cases hi : Try.prog.info? 2 with
 | none => rw [hi] at h; cases h
 | some i =>
  rw [hi] at h
  simp only [Option.map_some, Option.some.injEq, Prod.mk.injEq] at h
  exact ⟨i, ht, hi, h.1, h.2.1, h.2.2⟩
theorem Row.atc {k : IntKind} {w : World} {p : Option Addr} {n c : Nat} {zs : List Int} (h : Row k w (.slice p n c) zs) (i : Nat) (hi : i < zs.length) : ∃ b o, p = some ⟨b, o, none⟩ ∧ b < w.heap.size ∧ w.cell? ⟨b, o + i, none⟩ = some (.int k (zs.getD i 0)) := by
 obtain ⟨p', c', e1, _, h⟩ := h
 cases e1
 rcases h with h | ⟨b, o, hp, h⟩
 ·subst h; simp at hi
 ·exact ⟨b, o, hp, World.block_lt_of_cell? w _ (h i hi), h i hi⟩
theorem eq_of_getD {a b : List Int} (hl : a.length = b.length) (h : ∀ j, j < a.length → a.getD j 0 = b.getD j 0) : a = b := by
 apply List.ext_getElem hl
 intro i h1 h2
 have := h i h1
 rwa [List.getD_eq_getElem?_getD, List.getElem?_eq_getElem h1, List.getD_eq_getElem?_getD, List.getElem?_eq_getElem h2] at this
def NRel (W2 : World) (me : Int) (ys : List Lin) (k : Nat) (v : Value) (wr : World) : Prop := Own .i64 wr W2.heap.size 2 v ((ys.take k).map (gives me)) ∧ Below W2.heap.size W2 wr
set_option linter.unusedSimpArgs false in
set_option maxHeartbeats 4000000 in
set_option maxRecDepth 100000 in
theorem net_any (w : World) (me : Int) (v : Value) (xs : List Lin) (hr : TRow encN w v xs) (hn : xs.length ≤ 2000) (ha : ∀ x ∈ xs, 1 ≤ x.a ∧ x.a ≤ 1125899906842624) :
  Calls Try.prog 72 #[.int .i64 me, v] w fun e w' => e = .returned (.tuple #[.int .i64 (netS me xs), .int .i64 0]) ∧ Below w.heap.size w w' := by
 obtain ⟨ys, hys⟩ : ∃ ys, mineL me xs = ys := ⟨_, rfl⟩
 have hM := mine_any w me v xs hr hn
 have HS : Hid (netS me xs = (ys.map (gives me)).sum) := by show _ = _; unfold netS netL; rw [hys]
 have ha : ∀ x ∈ ys, 1 ≤ x.a ∧ x.a ≤ 1125899906842624 := fun x hx => by rw [← hys] at hx; exact ha x (List.mem_filter.1 hx).1
 have hn : ys.length ≤ 2000 := by rw [← hys]; exact Nat.le_trans (List.length_filter_le _ _) hn
 rw [hys] at hM
 clear hys
 have hsm : ∀ z ∈ ys.map (gives me), -1125899906842624 ≤ z ∧ z ≤ 1125899906842624 := fun z hz => by
  obtain ⟨x, hx, rfl⟩ := List.mem_map.1 hz
  have := ha x hx
  unfold gives
  split <;> constructor <;> omega
 have H64 : Hid (All64 (ys.map (gives me))) := fun z hz => by have := hsm z hz; omega
 have HFT : Hid (Fits (ys.map (gives me)).sum) := by
  have h1 := sum_small hsm
  rw [List.length_map] at h1
  have h3 : (1125899906842624 : Int) * (ys.length : Int) ≤ 1125899906842624 * 2000 := Int.mul_le_mul_of_nonneg_left (by omega) (by omega)
  show Fits _
  unfold Fits
  omega
 have HSU : Hid (∀ W v, Row .i64 W v (ys.map (gives me)) → Calls Try.prog 76 #[v] W (SumTo (ys.map (gives me)).sum W)) := fun W v h => sum_any v _ W (by rw [List.length_map]; omega) H64.out h
 have HM := Lib.hid hM
 have HA := Lib.hid ha
 obtain ⟨pv, cv, hv⟩ := hr.shape
 generalize xs.length = nx at hv
 subst hv
 clear ha hM H64 hsm hr
 generalize hl : ys.length = n at *
 have HL := Lib.hid hl
 clear hl
 go_enter Try.func72, Try.ntmps72
 go_wp2_with fail
 refine HM.out.mono ?_
 rintro y W2 ⟨v1, rfl, ho1, hb1⟩
 obtain ⟨p1, c1, hv1⟩ := ho1.form
 rw [HL.out] at hv1
 subst hv1
 have HR := Lib.hid ho1.row
 have HB2 := Lib.hid hb1
 clear ho1 hb1 HM
 have HREL : Hid (NRel W2 me ys 0 (.slice none 0 0) W2) := ⟨Own.nil_ _ _ _ _, Below.refl _ _⟩
 go_wp2_with fail
 go_loopw [6, 13] (fun v i wr => ∃ k : Nat, k ≤ n ∧ i = .int .i64 k ∧ Hid (NRel W2 me ys k v wr)) (fun _ i _ => n - (intOf i).toNat)
 case atStart => exact ⟨0, by omega, rfl, HREL⟩
 case round =>
  obtain ⟨k, hk, rfl, HK⟩ := hrel
  clear HREL
  by_cases hlt : k < n
  ·have hkl : k < ys.length := by rw [HL.out]; exact hlt
   have hltI : (k : Int) < (n : Int) := by omega
   have HTK : Hid (ys.take (k + 1) = ys.take k ++ [ys[k]]) := List.take_succ_eq_append_getElem hkl
   obtain ⟨b, o, rfl, hbl, hcs⟩ := (HR.out.kept HK.out.2).at_ k hkl
   have hax := HA.out _ (List.getElem_mem hkl)
   generalize ys[k] = x at *
   have c0 : wr.cell? ⟨b, o + k * 4, none⟩ = some (.int .i64 x.s) := hcs 0 (by decide)
   have c1 : wr.cell? ⟨b, o + k * 4 + 1, none⟩ = some (.int .i64 x.n) := hcs 1 (by decide)
   have c2 : wr.cell? ⟨b, o + k * 4 + 2, none⟩ = some (.int .i64 x.b) := hcs 2 (by decide)
   have c3 : wr.cell? ⟨b, o + k * 4 + 3, none⟩ = some (.int .i64 x.a) := hcs 3 (by decide)
   have HSUC : Hid ((ys.take (k + 1)).map (gives me) = (ys.take k).map (gives me) ++ [gives me x]) := by
    show _ = _
    rw [HTK.out, List.map_append]; rfl
   have HZL : Hid (((ys.take k).map (gives me)).length ≤ 2000) := by show _ ≤ _; rw [List.length_map, List.length_take]; omega
   obtain ⟨ho1, hw1⟩ := HK.out
   obtain ⟨p2, c2, hv2⟩ := ho1.form
   generalize hz : (ys.take k).map (gives me) = zs at *
   generalize hm : zs.length = m at *
   subst hv2
   have hm2 : m ≤ 2000 := HZL.out
   have HMZ := Lib.hid hm
   have HO1 := Lib.hid (ho1.alloc (.cells #[.int .i64 x.s, .int .i64 x.n, .int .i64 x.b, .int .i64 x.a] 64))
   have HBR := Lib.hid hw1
   have HSZ : Hid (W2.heap.size ≤ wr.heap.size) := hw1.size
   clear ho1 hw1 HK hz hm HTK hcs
   by_cases hs : x.s = me
   ·have e1 : (x.s == me) = true := by simpa using hs
    have HAM : Hid (gives me x = x.a) := if_pos hs
    rw [HAM.out] at HSUC
    clear hs
    go_wp2_with (at_builtin; with_reducible refine stop_appendIN (.tmp 22) (.tmp 25) 34 rfl ?_)
    refine wpList_append_row rfl (.tmp 22) (.tmp 25) 34 rfl 2 .i64 8 W2.heap.size eltAc (.slice p2 m c2) (.slice (some ⟨wr.heap.size + 1, 0, none⟩) 1 1) zs [x.a] rfl rfl (HO1.out.alloc (.cells #[.int .i64 (x.a)] 2)) ⟨some ⟨wr.heap.size + 1, 0, none⟩, 1, rfl, Nat.le_refl _, .inr ⟨wr.heap.size + 1, 0, rfl, fun i hi => ?_⟩⟩ (by have := HMZ.out; simp; omega) (by have := HMZ.out; simp; omega) (by have := HSZ.out; simp at this ⊢; omega) (zs ++ [x.a]) (m + 1) rfl (by rw [List.length_append, HMZ.out]; rfl) ?_
    ·obtain rfl : i = 0 := by simp at hi; omega
     exact (Blk.new' (wr.alloc (.cells #[.int .i64 x.s, .int .i64 x.n, .int .i64 x.b, .int .i64 x.a] 64)) #[.int .i64 (x.a)] 2 (b := wr.heap.size + 1) (by simp)).cell 0
    intro p3 c3 w3 ho3 hb3
    have HNX : Hid (NRel W2 me ys (k + 1) (.slice p3 (m + 1) c3) w3) := ⟨by rw [HSUC.out]; exact ho3, HBR.out.trans ((((Below.refl _ wr).alloc HSZ.out _).alloc (by have := HSZ.out; simp; omega) _).trans hb3)⟩
    clear ho3 hb3
    go_wp2_with fail
    go_roundw
    case rel => exact ⟨k + 1, by omega, by go_num, HNX⟩
    case measure => simp [intOf]; omega
   ·have e1 : (x.s == me) = false := by simpa using hs
    have HAM : Hid (gives me x = -x.a) := if_neg hs
    rw [HAM.out] at HSUC
    clear hs
    go_wp2_with (at_builtin; with_reducible refine stop_appendIN (.tmp 27) (.tmp 31) 34 rfl ?_)
    refine wpList_append_row rfl (.tmp 27) (.tmp 31) 34 rfl 2 .i64 8 W2.heap.size eltAc (.slice p2 m c2) (.slice (some ⟨wr.heap.size + 1, 0, none⟩) 1 1) zs [-x.a] rfl rfl (HO1.out.alloc (.cells #[.int .i64 (-x.a)] 2)) ⟨some ⟨wr.heap.size + 1, 0, none⟩, 1, rfl, Nat.le_refl _, .inr ⟨wr.heap.size + 1, 0, rfl, fun i hi => ?_⟩⟩ (by have := HMZ.out; simp; omega) (by have := HMZ.out; simp; omega) (by have := HSZ.out; simp at this ⊢; omega) (zs ++ [-x.a]) (m + 1) rfl (by rw [List.length_append, HMZ.out]; rfl) ?_
    ·obtain rfl : i = 0 := by simp at hi; omega
     exact (Blk.new' (wr.alloc (.cells #[.int .i64 x.s, .int .i64 x.n, .int .i64 x.b, .int .i64 x.a] 64)) #[.int .i64 (-x.a)] 2 (b := wr.heap.size + 1) (by simp)).cell 0
    intro p3 c3 w3 ho3 hb3
    have HNX : Hid (NRel W2 me ys (k + 1) (.slice p3 (m + 1) c3) w3) := ⟨by rw [HSUC.out]; exact ho3, HBR.out.trans ((((Below.refl _ wr).alloc HSZ.out _).alloc (by have := HSZ.out; simp; omega) _).trans hb3)⟩
    clear ho3 hb3
    go_wp2_with fail
    go_roundw
    case rel => exact ⟨k + 1, by omega, by go_num, HNX⟩
    case measure => simp [intOf]; omega
  ·have hle : (n : Int) ≤ (k : Int) := by omega
   have hkn : k = ys.length := by rw [HL.out]; omega
   have hK := HK.out
   rw [hkn] at hK
   unfold NRel at hK
   rw [List.take_length] at hK
   have HSM := Lib.hid (HSU.out _ _ hK.1.row)
   have HW := Lib.hid (HB2.out.trans (hK.2.mono HB2.out.size))
   clear HK hK hkn
   go_wp2_with fail
   refine HSM.out.mono ?_
   rintro y w3 ⟨rfl, rfl⟩
   rw [sumN_yes HFT.out, sumE_yes HFT.out, ← HS.out]
   go_wp2_with fail
   go_ret2
   exact ⟨rfl, HW.out⟩
/-- What Nets answers. -/
def netsE (n : Int) (xs : List Lin) : Int := if n < 0 ∨ 8 < n then 1 else fitE n xs
def netsV (n : Int) (xs : List Lin) : List Int := if netsE n xs = 0 then netsL n.toNat xs else []
theorem netsL_succ (k : Nat) (xs : List Lin) : netsL (k + 1) xs = netsL k xs ++ [netS (k : Int) xs] := by
 unfold netsL
 rw [List.range_succ, List.map_append]
 rfl
theorem netsL_len (k : Nat) (xs : List Lin) : (netsL k xs).length = k := by unfold netsL; simp
theorem netsV_len_le (n : Int) (xs : List Lin) : (netsV n xs).length ≤ 8 := by
 unfold netsV
 split
 ·rename_i h
  rw [netsL_len]
  unfold netsE at h
  split at h
  ·cases h
  ·omega
 ·simp
def NsRel (w : World) (xs : List Lin) (k : Nat) (v : Value) (wr : World) : Prop := Own .i64 wr w.heap.size 2 v (netsL k xs) ∧ Below w.heap.size w wr
theorem within_a {n : Int} {x : Lin} (h : withinB n x = true) : 1 ≤ x.a ∧ x.a ≤ 1125899906842624 := by
 unfold withinB at h
 have := of_decide_eq_true h
 omega
set_option linter.unusedSimpArgs false in
set_option maxHeartbeats 4000000 in
set_option maxRecDepth 100000 in
theorem lnets_any (w : World) (N : Int) (v : Value) (xs : List Lin) (hr : TRow encN w v xs) (hn : xs.length ≤ 2000) :
  Calls Try.prog 66 #[.int .i64 N, v] w fun e w' => ∃ v', e = .returned (.tuple #[v', .int .i64 (netsE N xs)]) ∧ Own .i64 w' w.heap.size 2 v' (netsV N xs) ∧ Below w.heap.size w w' := by
 have HF := Lib.hid (fun W (h : Below w.heap.size w W) => lfits_any W N v xs (hr.kept h) (by omega))
 obtain ⟨pv, cv, hv⟩ := hr.shape
 have HR := Lib.hid hr
 have HN := Lib.hid hn
 generalize xs.length = nx at hv
 subst hv
 clear hr hn
 by_cases h0 : N < 0
 ·have HE : Hid (netsE N xs = 1) := if_pos (.inl h0)
  have HV : Hid (netsV N xs = []) := by show _ = _; unfold netsV; rw [HE.out, if_neg (by decide)]
  go_enter Try.func66, Try.ntmps66
  go_wp2_with fail
  go_ret2
  exact ⟨_, by rw [HE.out]; rfl, by rw [HV.out]; exact Own.nil_ _ _ _ _, Below.refl _ _⟩
 by_cases h8 : 8 < N
 ·have HE : Hid (netsE N xs = 1) := if_pos (.inr h8)
  have HV : Hid (netsV N xs = []) := by show _ = _; unfold netsV; rw [HE.out, if_neg (by decide)]
  go_enter Try.func66, Try.ntmps66
  go_wp2_with fail
  go_ret2
  exact ⟨_, by rw [HE.out]; rfl, by rw [HV.out]; exact Own.nil_ _ _ _ _, Below.refl _ _⟩
 have HE : Hid (netsE N xs = fitE N xs) := if_neg (by omega)
 have h0' : 0 ≤ N := by omega
 have h8' : N ≤ 8 := by omega
 by_cases hf : fitE N xs = 0
 ·have HV : Hid (netsV N xs = netsL N.toNat xs) := by show _ = _; unfold netsV; rw [HE.out, hf, if_pos rfl]
  have HFZ := Lib.hid hf
  have HA : Hid (∀ x ∈ xs, 1 ≤ x.a ∧ x.a ≤ 1125899906842624) := fun x hx => within_a (fit_within hf x hx)
  obtain ⟨n, rfl⟩ : ∃ n : Nat, N = (n : Int) := ⟨N.toNat, by omega⟩
  have hn8 : n ≤ 8 := by omega
  have HNT : Hid (((n : Nat) : Int).toNat = n) := by show _ = _; omega
  have HNE := Lib.hid (fun (k : Nat) (W : World) (h : Below w.heap.size w W) => net_any W (k : Int) _ xs (HR.out.kept h) HN.out HA.out)
  have HREL : Hid (NsRel w xs 0 (.slice none 0 0) w) := ⟨Own.nil_ _ _ _ _, Below.refl _ _⟩
  clear hf h0 h8 h0' h8'
  go_enter Try.func66, Try.ntmps66
  go_wp2_with fail
  refine (HF.out w (Below.refl _ _)).mono ?_
  rintro y w1 ⟨rfl, hb1⟩
  rw [HFZ.out]
  have HB1 := Lib.hid hb1
  have HREL : Hid (NsRel w xs 0 (.slice none 0 0) w1) := ⟨Own.nil_ _ _ _ _, hb1⟩
  clear hb1
  go_wp2_with fail
  go_loopw [7, 24] (fun v i wr => ∃ k : Nat, k ≤ n ∧ i = .int .i64 k ∧ Hid (NsRel w xs k v wr)) (fun _ i _ => n - (intOf i).toNat)
  case atStart => exact ⟨0, by omega, rfl, HREL⟩
  case round =>
   obtain ⟨k, hk, rfl, HK⟩ := hrel
   clear HREL
   by_cases hlt : k < n
   ·have hltI : (k : Int) < (n : Int) := by omega
    obtain ⟨ho1, hw1⟩ := HK.out
    obtain ⟨p2, c2, hv2⟩ := ho1.form
    rw [netsL_len] at hv2
    subst hv2
    have HO := Lib.hid ho1
    have HW := Lib.hid hw1
    clear ho1 hw1 HK
    go_wp2_with fail
    refine (HNE.out k wr HW.out).mono ?_
    rintro y w2 ⟨rfl, hb2⟩
    have HO2 := Lib.hid (HO.out.later hb2)
    have HW2 := ktq HW hb2
    have HSU := Lib.hid (netsL_succ k xs)
    have HKL := Lib.hid (netsL_len k xs)
    generalize netS (k : Int) xs = z at *
    generalize netsL k xs = zs at *
    clear hb2
    go_wp2_with (at_builtin; with_reducible refine stop_appendIN (.tmp 36) (.tmp 38) 34 rfl ?_)
    refine wpList_append_row rfl (.tmp 36) (.tmp 38) 34 rfl 2 .i64 8 w.heap.size eltAc (.slice p2 k c2) (.slice (some ⟨w2.heap.size, 0, none⟩) 1 1) zs [z] rfl rfl (HO2.out.alloc (.cells #[.int .i64 z] 2)) ⟨some ⟨w2.heap.size, 0, none⟩, 1, rfl, Nat.le_refl _, .inr ⟨w2.heap.size, 0, rfl, fun i hi => ?_⟩⟩ (by have := HKL.out; simp; omega) (by have := HKL.out; simp; omega) (by have := HW2.out.size; simp at this ⊢; omega) (zs ++ [z]) (k + 1) rfl (by rw [List.length_append, HKL.out]; rfl) ?_
    ·obtain rfl : i = 0 := by simp at hi; omega
     exact (Blk.new' w2 #[.int .i64 z] 2 rfl).cell 0
    intro p3 c3 w3 ho3 hb3
    have HNX : Hid (NsRel w xs (k + 1) (.slice p3 (k + 1) c3) w3) := ⟨by rw [HSU.out]; exact ho3, HW2.out.trans (((Below.refl _ w2).alloc HW2.out.size _).trans hb3)⟩
    clear ho3 hb3
    go_wp2_with fail
    go_roundw
    case rel => exact ⟨k + 1, by omega, by go_num, HNX⟩
    case measure => simp [intOf]; omega
   ·have hle : (n : Int) ≤ (k : Int) := by omega
    obtain rfl : k = n := by omega
    obtain ⟨ho1, hw1⟩ := HK.out
    obtain ⟨p2, c2, hv2⟩ := ho1.form
    rw [netsL_len] at hv2
    subst hv2
    have HO := Lib.hid ho1
    have HW := Lib.hid hw1
    clear ho1 hw1 HK
    go_wp2_with fail
    go_ret2
    exact ⟨_, by rw [HE.out, HFZ.out]; rfl, by rw [HV.out, HNT.out]; exact HO.out, HW.out⟩
 ·have HV : Hid (netsV N xs = []) := by show _ = _; unfold netsV; rw [HE.out, if_neg hf]
  obtain ⟨E, hE⟩ : ∃ E, fitE N xs = E := ⟨_, rfl⟩
  have HEE := Lib.hid hE
  rw [hE] at hf HE
  have e1 : (E != 0) = true := by simpa using hf
  clear hf h0 h8 hE
  go_enter Try.func66, Try.ntmps66
  go_wp2_with fail
  refine (HF.out w (Below.refl _ _)).mono ?_
  rintro y w1 ⟨rfl, hb1⟩
  rw [HEE.out]
  have HB1 := Lib.hid hb1
  clear hb1
  go_wp2_with fail
  go_ret2
  exact ⟨_, by rw [HE.out]; rfl, by rw [HV.out]; exact Own.nil_ _ _ _ _, HB1.out⟩
end Go.Proofs.Yteogdfpkcoodlaa
namespace Go.Proofs.Yteogdfpkcoodlaa
open Go.RowKit
set_option linter.unusedSimpArgs false
/-- A list of lines, as it lies in one cell. -/
structure LnX where
 p : Option Addr
 c : Nat
 ls : List Lin
def encL : Enc LnX := ⟨1, fun x => [.slice x.p x.ls.length x.c], by decide, fun _ => rfl, by
 intro y u hu
 rw [List.mem_singleton] at hu
 subst hu
 rfl⟩
theorem eltL : EltT encL Try.prog 93 33 (.slice none 0 0) 24 := eltT_mk Try.underlying93 (by kernel_rfl)
def HdX.ln (x : HdX) : LnX := ⟨x.p, x.c, x.h.ls⟩
def RecR (W : World) (ys : List HdX) (k : Nat) (v : Value) (wr : World) : Prop := OwnT encL wr W.heap.size 33 v ((ys.take k).map HdX.ln) ∧ Below W.heap.size W wr
theorem LL.of_own {P : Nat → Prop} {w : World} {base : Nat} {v : Value} {ys : List HdX} (h : OwnT encL w base 33 v (ys.map HdX.ln)) (hi : ∀ y ∈ ys, y.In P w) : LL w v (ys.map (fun y => y.h.ls)) := by
 obtain ⟨p, c, e, hc, hr⟩ := h.row
 refine ⟨p, c, by rw [e, List.length_map, List.length_map], by rw [List.length_map] at hc ⊢; exact hc, ?_⟩
 rcases hr with hr | ⟨b, o, hp, hb, hr⟩
 ·left
  rw [List.map_eq_nil_iff] at hr
  rw [hr]; rfl
 ·refine .inr ⟨b, o, hp, hb, fun i hi' => ?_⟩
  rw [List.length_map] at hi'
  have h1 := hr i (by rw [List.length_map]; exact hi') 0 (by decide)
  rw [List.getElem_map] at h1
  have h1 : w.cell? ⟨b, o + i * 1 + 0, none⟩ = some (.slice (ys[i]).p (ys[i]).h.ls.length (ys[i]).c) := h1
  rw [Nat.mul_one, Nat.add_zero] at h1
  refine ⟨_, h1, ?_⟩
  rw [List.getElem_map]
  exact (hi _ (List.getElem_mem hi')).1
/-- What is reckoned of a cycle in which all have offered. -/
def Rn.rec_ (r : Rn) (N : Nat) : Rn := { r with st := 2, ls := bothL (r.hs.map Hd.ls) N, ns := netsL N (bothL (r.hs.map Hd.ls) N) }
def prepM (k : Int) (r : Rn) : Msg := ⟨12, 0, 0, 0, 0, 0, k, 0, false, r.ls, r.ns⟩
set_option linter.unusedSimpArgs false in
set_option maxHeartbeats 4000000 in
set_option maxRecDepth 100000 in
theorem creckon_any (w : World) (P : Nat → Prop) (N : Nat) (k : Int) (p : Option Addr) (n c : Nat) (rs : List Rn) (x : RunX) (hrs : RsR P w (.slice p n c) rs) (hpw : ∀ b, P b → b < w.heap.size) (hn : n = rs.length) (hl : n ≤ 2000) (hk1 : 1 ≤ k) (hk2 : k ≤ n) (hx : x.In P w) (hN1 : 1 ≤ N) (hN8 : N ≤ 8) (hlen : x.r.hs.length = N) (hfit : ∀ h ∈ x.r.hs, fitE (N : Int) h.ls = 0 ∧ h.ls.length ≤ 60) :
  Calls Try.prog 49 #[.agg #[.int .i64 (N : Int), .slice p n c], .int .i64 k, x.v] w (CPost w P N (rs.set (k - 1).toNat (x.r.rec_ N)) (toAllL N (prepM k (x.r.rec_ N))) 0) := by
 have HRS := Lib.hid hrs
 have HPW := Lib.hid hpw
 have HNN : Hid (1 ≤ N ∧ N ≤ 8) := Lib.hid ⟨hN1, hN8⟩
 have HKK : Hid (n = rs.length ∧ n ≤ 2000 ∧ 1 ≤ k ∧ k ≤ n) := Lib.hid ⟨hn, hl, hk1, hk2⟩
 obtain ⟨r, pf, cf, pl, cl, pn, cn⟩ := x
 have HXI := Lib.hid hx
 have HLR : Hid (r.hs.length = N) := Lib.hid hlen
 have HFT : Hid (∀ h ∈ r.hs, fitE (N : Int) h.ls = 0 ∧ h.ls.length ≤ 60) := Lib.hid hfit
 obtain ⟨ys, hy1, _, hy2, hy3⟩ := hx.hs
 have HYR : Hid (TRow encH w (.slice pf r.hs.length cf) ys) := Lib.hid hy1
 have HYI := Lib.hid hy2
 have HYM : Hid (ys.map HdX.h = r.hs) := Lib.hid hy3
 have HYL : Hid (ys.length = r.hs.length) := Lib.hid (by rw [← HYM.out, List.length_map])
 clear hrs hpw hN1 hN8 hn hl hk1 hk2 hx hlen hfit hy1 hy2 hy3
 rw [RunX.v_mk]
 have HB0 : Hid (Below w.heap.size w (((w.alloc (.cells #[.int .i64 (N : Int), .slice p n c] 27)).alloc (.cells #[.int .i64 r.cu, .int .i64 r.st, .slice pf r.hs.length cf, .slice pl r.ls.length cl, .slice pn r.ns.length cn] 56)).alloc (.cells #[.int .i64 0, .slice none 0 0] 27))) := Lib.hid ((((oneB w _).alloc (by simp <;> omega) _).alloc (by simp <;> omega) _))
 have Hc0 : Hid (Blk (((w.alloc (.cells #[.int .i64 (N : Int), .slice p n c] 27)).alloc (.cells #[.int .i64 r.cu, .int .i64 r.st, .slice pf r.hs.length cf, .slice pl r.ls.length cl, .slice pn r.ns.length cn] 56)).alloc (.cells #[.int .i64 0, .slice none 0 0] 27)) w.heap.size #[.int .i64 (N : Int), .slice p n c] 27) := Lib.hid (((Blk.new w #[.int .i64 (N : Int), .slice p n c] 27).alloc _).alloc _)
 have Hx0 : Hid (Blk (((w.alloc (.cells #[.int .i64 (N : Int), .slice p n c] 27)).alloc (.cells #[.int .i64 r.cu, .int .i64 r.st, .slice pf r.hs.length cf, .slice pl r.ls.length cl, .slice pn r.ns.length cn] 56)).alloc (.cells #[.int .i64 0, .slice none 0 0] 27)) (w.heap.size + 1) #[.int .i64 r.cu, .int .i64 r.st, .slice pf r.hs.length cf, .slice pl r.ls.length cl, .slice pn r.ns.length cn] 56) := Lib.hid ((Blk.new' (w.alloc (.cells #[.int .i64 (N : Int), .slice p n c] 27)) #[.int .i64 r.cu, .int .i64 r.st, .slice pf r.hs.length cf, .slice pl r.ls.length cl, .slice pn r.ns.length cn] 56 (by simp)).alloc _)
 have Hr0 : Hid (Blk (((w.alloc (.cells #[.int .i64 (N : Int), .slice p n c] 27)).alloc (.cells #[.int .i64 r.cu, .int .i64 r.st, .slice pf r.hs.length cf, .slice pl r.ls.length cl, .slice pn r.ns.length cn] 56)).alloc (.cells #[.int .i64 0, .slice none 0 0] 27)) (w.heap.size + 1 + 1) #[.int .i64 0, .slice none 0 0] 27) := Lib.hid (Blk.new' ((w.alloc (.cells #[.int .i64 (N : Int), .slice p n c] 27)).alloc (.cells #[.int .i64 r.cu, .int .i64 r.st, .slice pf r.hs.length cf, .slice pl r.ls.length cl, .slice pn r.ns.length cn] 56)) #[.int .i64 0, .slice none 0 0] 27 (by simp))
 have HZ0 : Hid (w.heap.size ≤ (((w.alloc (.cells #[.int .i64 (N : Int), .slice p n c] 27)).alloc (.cells #[.int .i64 r.cu, .int .i64 r.st, .slice pf r.hs.length cf, .slice pl r.ls.length cl, .slice pn r.ns.length cn] 56)).alloc (.cells #[.int .i64 0, .slice none 0 0] 27)).heap.size) := Lib.hid HB0.out.size
 go_enter Try.func49, Try.ntmps49
 go_upto_region 2 with fail
 generalize (((w.alloc (.cells #[.int .i64 (N : Int), .slice p n c] 27)).alloc (.cells #[.int .i64 r.cu, .int .i64 r.st, .slice pf r.hs.length cf, .slice pl r.ls.length cl, .slice pn r.ns.length cn] 56)).alloc (.cells #[.int .i64 0, .slice none 0 0] 27)) = W at *
 have HWL : Hid (w.heap.size + 1 + 1 < W.heap.size) := Lib.hid Hr0.out.lt
 have HREL : Hid (RecR W ys 0 (.slice none 0 0) W) := Lib.hid ⟨OwnT.nil_ _ _ _ _, Below.refl _ _⟩
 have HYW := Lib.hid (HYR.out.kept HB0.out)
 have HYN : Hid (ys.length ≤ 8) := Lib.hid (by have := HYL.out; have := HLR.out; have := HNN.out; omega)
 have x2 : W.cell? ⟨(w.heap.size + 1), 2, none⟩ = some (.slice pf r.hs.length cf) := Hx0.out.cell 2
 go_wp2_with fail
 clear x2
 have HLL : Hid (ys.length = r.hs.length) := Lib.hid HYL.out
 generalize hL : r.hs.length = L at *
 have HLQ := Lib.hid hL
 clear hL
 go_loopw [9, 17] (fun v i wr => ∃ k : Nat, k ≤ L ∧ i = .int .i64 k ∧ Hid (RecR W ys k v wr)) (fun _ i _ => L - (intOf i).toNat)
 case atStart => exact ⟨0, by omega, rfl, HREL⟩
 case round =>
  clear HREL
  obtain ⟨q, hq, rfl, HK⟩ := hrel
  obtain ⟨pz, cz, hvz⟩ := HK.out.1.form
  have HZL : Hid (((ys.take q).map HdX.ln).length = q) := Lib.hid (by rw [List.length_map, List.length_take]; have := HLL.out; omega)
  rw [HZL.out] at hvz
  subst hvz
  have hq9 : q + 1 ≤ 9 := by have := HLL.out; have := HYN.out; omega
  by_cases hlt : q < L
  ·have hltI : (q : Int) < (L : Int) := by omega
   have hkl : q < ys.length := by have := HLL.out; omega
   obtain ⟨yb, yo, rfl, hbl, hcs⟩ := (HYW.out.kept HK.out.2).at_ q hkl
   have HTK : Hid ((ys.take q).map HdX.ln ++ [ys[q].ln] = (ys.take (q + 1)).map HdX.ln) := Lib.hid (by rw [List.take_succ_eq_append_getElem hkl, List.map_append]; rfl)
   generalize ys[q] = z at *
   have h0 : wr.cell? ⟨yb, yo + q * 3, none⟩ = some (.bool z.h.o) := hcs 0 (by decide)
   have h1 : wr.cell? ⟨yb, yo + q * 3 + 1, none⟩ = some (.bool z.h.t) := hcs 1 (by decide)
   have h2 : wr.cell? ⟨yb, yo + q * 3 + 2, none⟩ = some (.slice z.p z.h.ls.length z.c) := hcs 2 (by decide)
   have HB0 := Lib.hid (Below.refl wr.heap.size wr)
   have HZ0 : Hid (wr.heap.size ≤ wr.heap.size) := Lib.hid (Nat.le_refl _)
   clear hcs hbl
   have hba := oneB wr (.cells #[.bool z.h.o, .bool z.h.t, .slice z.p z.h.ls.length z.c] 80)
   have Ho1 := Lib.hid (Blk.new wr #[.bool z.h.o, .bool z.h.t, .slice z.p z.h.ls.length z.c] 80)
   have HB1 := Lib.hid (HB0.out.alloc HB0.out.size (.cells #[.bool z.h.o, .bool z.h.t, .slice z.p z.h.ls.length z.c] 80))
   have HZ1 := kzq HZ0 hba.size
   have HGgo : Hid (wr.heap.size ≤ wr.heap.size) := Lib.hid HB0.out.size
   clear hba HB0 HZ0
   go_upto_region 5 with fail
   clear h0 h1 h2 hltI
   generalize (wr.alloc (.cells #[.bool z.h.o, .bool z.h.t, .slice z.p z.h.ls.length z.c] 80)) = W2 at *
   have o2 : W2.cell? ⟨wr.heap.size, 2, none⟩ = some (.slice z.p z.h.ls.length z.c) := Ho1.out.cell 2
   have HBZ := Lib.hid (oneB W2 (.cells #[.slice z.p z.h.ls.length z.c] 33))
   have HROW := Lib.hid (TRow.one_ encL z.ln (Blk.new W2 #[.slice z.p z.h.ls.length z.c] 33) rfl (Nat.le_refl 1))
   have HOW := Lib.hid ((HK.out.1.later HB1.out).later HBZ.out)
   have HWS : Hid (W.heap.size ≤ (W2.alloc (.cells #[.slice z.p z.h.ls.length z.c] 33)).heap.size) := Lib.hid (by have := HK.out.2.size; have := HB1.out.size; have := HBZ.out.size; omega)
   go_wp2_with (at_builtin; with_reducible refine stop_appendT (.tmp 21) (.tmp 24) 93 rfl ?_)
   clear o2
   refine wpList_append_t rfl (.tmp 21) (.tmp 24) 93 rfl 33 (.slice none 0 0) 24 W.heap.size eltL rfl (by decide) (.slice pz q cz) (.slice (some ⟨W2.heap.size, 0, none⟩) 1 1) ((ys.take q).map HdX.ln) [z.ln] rfl rfl HOW.out HROW.out (by have := HZL.out; simp only [List.length_singleton]; omega) HWS.out ((ys.take (q + 1)).map HdX.ln) (q + 1) HTK.out (by rw [← HTK.out, List.length_append, HZL.out]; rfl) ?_
   intro p8 c8 w8 ho _ hb8
   have HNX : Hid (RecR W ys (q + 1) (.slice p8 (q + 1) c8) w8) := Lib.hid ⟨ho, (HK.out.2.trans ((HB1.out.trans (HBZ.out.mono HB1.out.size)).mono HK.out.2.size)).trans hb8⟩
   clear ho hb8 HBZ HROW HOW HWS HTK
   go_wp2_with fail
   go_roundw
   case rel => exact ⟨q + 1, by omega, by go_num, HNX⟩
   case measure => simp [intOf]; omega
  ·have hltI : ¬ (q : Int) < (L : Int) := by omega
   obtain rfl : q = L := by omega
   have hb := HK.out.2
   have HLS : Hid (LL wr (.slice pz q cz) (r.hs.map Hd.ls)) := Lib.hid (by
    have h1 := HK.out.1
    rw [List.take_of_length_le (by rw [HLL.out]; exact Nat.le_refl _)] at h1
    have h2 := LL.of_own (P := P) h1 (fun y hy => ((HYI.out y hy).kept HB0.out).kept HK.out.2)
    rw [show ys.map (fun y => y.h.ls) = r.hs.map Hd.ls by rw [← HYM.out, List.map_map]; rfl] at h2
    exact h2)
   have Hc1 := kbq Hc0 hb
   have Hx1 := kbq Hx0 hb
   have Hr1 := kbq Hr0 hb
   have HB1 := ktq HB0 hb
   have HZ1 := kzq HZ0 hb.size
   clear Hc0 Hx0 Hr0 HB0 HZ0
   clear hb HK hq hq9
   have HXL : Hid ((r.hs.map Hd.ls).length = N) := Lib.hid (by rw [List.length_map, HLQ.out]; exact HLR.out)
   have HXF : Hid (∀ o ∈ r.hs.map Hd.ls, fitE (N : Int) o = 0 ∧ o.length ≤ 60) := Lib.hid (fun o ho => by
    obtain ⟨h, hh, rfl⟩ := List.mem_map.1 ho
    exact HFT.out h hh)
   obtain ⟨xss, hxss⟩ : ∃ xss, r.hs.map Hd.ls = xss := ⟨_, rfl⟩
   rw [hxss] at HLS HXL HXF
   have HXE := Lib.hid hxss
   clear hxss
   have HG := Lib.hid (both_any wr (.slice pz q cz) xss HLS.out (by have := HXL.out; have := HNN.out; omega) (fun o ho => ⟨fit_sort (HXF.out o ho).1, (HXF.out o ho).2⟩))
   rw [HXL.out] at HG
   obtain ⟨ls, hls⟩ : ∃ ls, bothL xss N = ls := ⟨_, rfl⟩
   rw [hls] at HG
   have HLE : Hid (bothL xss N = ls) := Lib.hid hls
   have HLF : Hid (fitE (N : Int) ls = 0) := Lib.hid (by rw [← hls]; exact bothL_fits (N : Int) (fun o ho => (HXF.out o ho).1) N)
   have HLN : Hid (ls.length ≤ 480) := Lib.hid (by rw [← hls]; have h1 := bothL_len xss (fun o ho => (HXF.out o ho).2) N; have := HNN.out; omega)
   clear hls
   go_wp2_with fail
   refine HG.out.mono ?_
   rintro y9 w1 ⟨v1, rfl, ho, hb⟩
   clear HG HLS
   have HWR1 : Hid (wr.heap.size ≤ w1.heap.size) := Lib.hid hb.size
   have HWR : Hid (w.heap.size + 1 + 1 < wr.heap.size) := Lib.hid Hr1.out.lt
   obtain ⟨p1, c1, hv1⟩ := ho.form
   have HO := Lib.hid ho
   clear ho
   have Hc2 := kbq Hc1 hb
   have Hx2 := kbq Hx1 hb
   have Hr2 := kbq Hr1 hb
   have HB2 := ktq HB1 hb
   have HZ2 := kzq HZ1 hb.size
   clear Hc1 Hx1 Hr1 HB1 HZ1
   clear hb
   have HW1 : Hid (w.heap.size + 1 + 1 < wr.heap.size) := Lib.hid HWR.out
   have HW42 : Hid (wr.heap.size ≤ w1.heap.size) := Lib.hid HWR1.out
   obtain ⟨l1, hl1⟩ : ∃ l1, ls.length = l1 := ⟨_, rfl⟩
   rw [hl1] at hv1
   subst hv1
   have HL1 := Lib.hid hl1
   clear hl1
   have z3 : w1.cell? ⟨w.heap.size + 1, 3, none⟩ = some (.slice pl r.ls.length cl) := Hx2.out.cell 3
   have f3 := Hx2.out.free 3
   go_upto_region 8 with fail
   clear z3 f3
   have hch := Lib.hid ((Chg.refl (w.heap.size + 1) w1).set 3 (.slice p1 l1 c1))
   have Hx3 : Hid (Blk _ (w.heap.size + 1) #[.int .i64 r.cu, .int .i64 r.st, .slice pf q cf, .slice p1 l1 c1, .slice pn r.ns.length cn] 56) := Lib.hid (Hx2.out.set 3 (.slice p1 l1 c1))
   have HB3 := ksq HB2 hch (by show w.heap.size ≤ (w.heap.size + 1); have := HWL.out; have := HW1.out; omega)
   have HZ3 := kzq HZ2 hch.out.size
   have Hc3 := kcq Hc2 hch (by have := HWL.out; have := HW1.out; omega)
   have Hr3 := kcq Hr2 hch (by have := HWL.out; have := HW1.out; omega)
   have HW43 : Hid (wr.heap.size ≤ (w1.setCell ⟨w.heap.size + 1, 3, none⟩ (.slice p1 l1 c1)).heap.size) := Lib.hid (Nat.le_trans HW42.out hch.out.size)
   have HO := Lib.hid (HO.out.stay (fun g hg => hch.out.2 g (HO.out.lt g hg) (by have h1 := HO.out.block_ge g hg; have := HW1.out; omega)))
   clear hch Hc2 Hx2 Hr2 HB2 HZ2
   generalize (w1.setCell ⟨w.heap.size + 1, 3, none⟩ (.slice p1 l1 c1)) = W3 at *
   have hbd := (Below.refl W3.heap.size W3).drew
   have Hc4 := kbq Hc3 hbd
   have Hx4 := kbq Hx3 hbd
   have Hr4 := kbq Hr3 hbd
   have HB4 := ktq HB3 hbd
   have HZ4 := kzq HZ3 hbd.size
   clear Hc3 Hx3 Hr3 HB3 HZ3
   have hS1 : W3.drew.cell? ⟨w.heap.size, 0, none⟩ = some (.int .i64 (N : Int)) ∧ W3.drew.cell? ⟨w.heap.size, 1, none⟩ = some (.slice p n c) ∧ W3.drew.cell? ⟨w.heap.size + 1, 0, none⟩ = some (.int .i64 r.cu) ∧ W3.drew.cell? ⟨w.heap.size + 1, 1, none⟩ = some (.int .i64 r.st) ∧ W3.drew.cell? ⟨w.heap.size + 1, 2, none⟩ = some (.slice pf q cf) ∧ W3.drew.cell? ⟨w.heap.size + 1, 3, none⟩ = some (.slice p1 l1 c1) ∧ W3.drew.cell? ⟨w.heap.size + 1, 4, none⟩ = some (.slice pn r.ns.length cn) := ⟨Hc4.out.cell 0, Hc4.out.cell 1, Hx4.out.cell 0, Hx4.out.cell 1, Hx4.out.cell 2, Hx4.out.cell 3, Hx4.out.cell 4⟩
   have HO := Lib.hid (HO.out.later hbd)
   refine wp_region_held_drew (S := fun w' => w'.cell? ⟨w.heap.size, 0, none⟩ = some (.int .i64 (N : Int)) ∧ w'.cell? ⟨w.heap.size, 1, none⟩ = some (.slice p n c) ∧ w'.cell? ⟨w.heap.size + 1, 0, none⟩ = some (.int .i64 r.cu) ∧ w'.cell? ⟨w.heap.size + 1, 1, none⟩ = some (.int .i64 r.st) ∧ w'.cell? ⟨w.heap.size + 1, 2, none⟩ = some (.slice pf q cf) ∧ w'.cell? ⟨w.heap.size + 1, 3, none⟩ = some (.slice p1 l1 c1) ∧ w'.cell? ⟨w.heap.size + 1, 4, none⟩ = some (.slice pn r.ns.length cn)) (by kernel_rfl) hS1 (fun hS0 => ?_)
   clear hS1
   have HW44 : Hid (wr.heap.size ≤ W3.drew.heap.size) := Lib.hid (by have := HW43.out; have := hbd.size; omega)
   generalize W3.drew = WD at *
   clear hbd
   refine tkq 0 ?_
   refine tkq 2 ?_
   refine tkq 3 ?_
   refine rdq 1 (fun K hK => ?_)
   have HG := Lib.hid (entities_any WD (N : Int) p n c (by omega) (by have := HNN.out; omega))
   go_simp
   go_at_call 16
   refine HG.out.mono ?_
   rintro y9 w4 ⟨rfl, hb⟩
   clear HG
   have HW45 : Hid (WD.heap.size ≤ w4.heap.size) := Lib.hid hb.size
   have HO := Lib.hid (HO.out.later hb)
   have Hc5 := kbq Hc4 hb
   have Hx5 := kbq Hx4 hb
   have Hr5 := kbq Hr4 hb
   have HB5 := ktq HB4 hb
   have HZ5 := kzq HZ4 hb.size
   clear Hc4 Hx4 Hr4 HB4 HZ4
   clear hb hS0
   try go_wp2_with fail
   refine hK.out _ _ ⟨Hc5.out.cell 0, Hc5.out.cell 1, Hx5.out.cell 0, Hx5.out.cell 1, Hx5.out.cell 2, Hx5.out.cell 3, Hx5.out.cell 4⟩ (fun hS0 => ?_)
   clear hK K
   try simp only [Act.put, List.getElem_toArray, List.getElem_cons_succ, List.getElem_cons_zero, List.setIfInBounds_toArray, List.set_cons_zero, List.set_cons_succ]
   refine rdq 4 (fun K hK => ?_)
   have HLROW : Hid (TRow encN w4 (.slice p1 l1 c1) ls) := Lib.hid HO.out.row
   have HG := Lib.hid (lnets_any w4 (N : Int) (.slice p1 l1 c1) ls HLROW.out (by have := HLN.out; omega))
   rw [show netsE (N : Int) ls = 0 by unfold netsE; rw [if_neg (by have := HNN.out; omega)]; exact HLF.out] at HG
   go_simp
   go_at_call 66
   refine HG.out.mono ?_
   rintro y9 w5 ⟨v5, rfl, ho, hb⟩
   clear HG
   have HO := Lib.hid (HO.out.later hb)
   have HNV : Hid (netsV (N : Int) ls = netsL N ls) := Lib.hid (by
    have h0 : netsE (N : Int) ls = 0 := by unfold netsE; rw [if_neg (by have := HNN.out; omega)]; exact HLF.out
    unfold netsV; rw [if_pos h0, Int.toNat_natCast])
   rw [HNV.out] at ho
   have HN5 := Lib.hid ho
   clear ho HNV HLROW
   obtain ⟨p5, c5, hv5⟩ := HN5.out.form
   rw [netsL_len] at hv5
   subst hv5
   have HW4 : Hid (wr.heap.size ≤ w4.heap.size) := Lib.hid (by have := HW44.out; have := HW45.out; omega)
   have Hc6 := kbq Hc5 hb
   have Hx6 := kbq Hx5 hb
   have Hr6 := kbq Hr5 hb
   have HB6 := ktq HB5 hb
   have HZ6 := kzq HZ5 hb.size
   clear Hc5 Hx5 Hr5 HB5 HZ5
   clear hb hS0
   try go_wp2_with fail
   refine hK.out _ _ ⟨Hc6.out.cell 0, Hc6.out.cell 1, Hx6.out.cell 0, Hx6.out.cell 1, Hx6.out.cell 2, Hx6.out.cell 3, Hx6.out.cell 4⟩ (fun hS0 => ?_)
   clear hK K
   try simp only [Act.put, List.getElem_toArray, List.getElem_cons_succ, List.getElem_cons_zero, List.setIfInBounds_toArray, List.set_cons_zero, List.set_cons_succ]
   refine tkq 5 ?_
   refine tkq 6 ?_
   refine tkq 7 ?_
   refine tkq 8 ?_
   refine tkq 9 ?_
   refine wpAnyH_done (by kernel_rfl) ?_ _
   clear hS0
   have z4 : w5.cell? ⟨w.heap.size + 1, 4, none⟩ = some (.slice pn r.ns.length cn) := Hx6.out.cell 4
   have f4 := Hx6.out.free 4
   go_upto_region 10 with fail
   clear z4 f4
   have hch := Lib.hid ((Chg.refl (w.heap.size + 1) w5).set 4 (.slice p5 N c5))
   have Hx7 : Hid (Blk _ (w.heap.size + 1) #[.int .i64 r.cu, .int .i64 r.st, .slice pf q cf, .slice p1 l1 c1, .slice p5 N c5] 56) := Lib.hid (Hx6.out.set 4 (.slice p5 N c5))
   have HB7 := ksq HB6 hch (by show w.heap.size ≤ (w.heap.size + 1); have := HWL.out; have := HW1.out; omega)
   have HZ7 := kzq HZ6 hch.out.size
   have Hc7 := kcq Hc6 hch (by have := HWL.out; have := HW1.out; omega)
   have Hr7 := kcq Hr6 hch (by have := HWL.out; have := HW1.out; omega)
   have HO := Lib.hid (HO.out.stay (fun g hg => hch.out.2 g (HO.out.lt g hg) (by have h1 := HO.out.block_ge g hg; have := HW1.out; omega)))
   have HN5 := Lib.hid (HN5.out.stayV (fun g hg => hch.out.2 g (HN5.out.lt g hg) (by have h1 := HN5.out.block_ge g hg; have := HW1.out; have := HW4.out; omega)))
   clear hch Hc6 Hx6 Hr6 HB6 HZ6
   generalize (w5.setCell ⟨w.heap.size + 1, 4, none⟩ (.slice p5 N c5)) = W6 at *
   have hL1 : ¬ (1024 : Int) < (l1 : Int) := by have := HLN.out; have := HL1.out; omega
   have x3 : W6.cell? ⟨(w.heap.size + 1), 3, none⟩ = some (.slice p1 l1 c1) := Hx7.out.cell 3
   go_upto_region 12 with fail
   clear x3 hL1
   have z1 : W6.cell? ⟨w.heap.size + 1, 1, none⟩ = some (.int .i64 r.st) := Hx7.out.cell 1
   have f1 := Hx7.out.free 1
   go_upto_region 13 with fail
   clear z1 f1
   have hch := Lib.hid ((Chg.refl (w.heap.size + 1) W6).set 1 (.int .i64 2))
   have Hx8 : Hid (Blk _ (w.heap.size + 1) #[.int .i64 r.cu, .int .i64 2, .slice pf q cf, .slice p1 l1 c1, .slice p5 N c5] 56) := Lib.hid (Hx7.out.set 1 (.int .i64 2))
   have HB8 := ksq HB7 hch (by show w.heap.size ≤ (w.heap.size + 1); have := HWL.out; have := HW1.out; omega)
   have HZ8 := kzq HZ7 hch.out.size
   have Hc8 := kcq Hc7 hch (by have := HWL.out; have := HW1.out; omega)
   have Hr8 := kcq Hr7 hch (by have := HWL.out; have := HW1.out; omega)
   have HO := Lib.hid (HO.out.stay (fun g hg => hch.out.2 g (HO.out.lt g hg) (by have h1 := HO.out.block_ge g hg; have := HW1.out; omega)))
   have HN5 := Lib.hid (HN5.out.stayV (fun g hg => hch.out.2 g (HN5.out.lt g hg) (by have h1 := HN5.out.block_ge g hg; have := HW1.out; have := HW4.out; omega)))
   clear hch Hc7 Hx7 Hr7 HB7 HZ7
   generalize (W6.setCell ⟨w.heap.size + 1, 1, none⟩ (.int .i64 2)) = W7 at *
   have HR2 : Hid (r.rec_ N = { r with st := 2, ls := ls, ns := netsL N ls }) := Lib.hid (by unfold Rn.rec_; rw [HXE.out, HLE.out])
   obtain ⟨r2, hr2⟩ : ∃ r2 : Rn, r2 = { r with st := 2, ls := ls, ns := netsL N ls } := ⟨_, rfl⟩
   have HE1 : Hid (r2.cu = r.cu ∧ r2.st = 2 ∧ r2.hs = r.hs ∧ r2.ls = ls ∧ r2.ns = netsL N ls) := Lib.hid (by rw [hr2]; exact ⟨rfl, rfl, rfl, rfl, rfl⟩)
   rw [← hr2] at HR2
   clear hr2
   have hbd := (Below.refl W7.heap.size W7).drew
   have Hc9 := kbq Hc8 hbd
   have Hx9 := kbq Hx8 hbd
   have Hr9 := kbq Hr8 hbd
   have HB9 := ktq HB8 hbd
   have HZ9 := kzq HZ8 hbd.size
   clear Hc8 Hx8 Hr8 HB8 HZ8
   have hS1 : W7.drew.cell? ⟨w.heap.size, 0, none⟩ = some (.int .i64 (N : Int)) ∧ W7.drew.cell? ⟨w.heap.size, 1, none⟩ = some (.slice p n c) ∧ W7.drew.cell? ⟨w.heap.size + 1, 0, none⟩ = some (.int .i64 r.cu) ∧ W7.drew.cell? ⟨w.heap.size + 1, 1, none⟩ = some (.int .i64 2) ∧ W7.drew.cell? ⟨w.heap.size + 1, 2, none⟩ = some (.slice pf q cf) ∧ W7.drew.cell? ⟨w.heap.size + 1, 3, none⟩ = some (.slice p1 l1 c1) ∧ W7.drew.cell? ⟨w.heap.size + 1, 4, none⟩ = some (.slice p5 N c5) := ⟨Hc9.out.cell 0, Hc9.out.cell 1, Hx9.out.cell 0, Hx9.out.cell 1, Hx9.out.cell 2, Hx9.out.cell 3, Hx9.out.cell 4⟩
   have HO := Lib.hid (HO.out.later hbd)
   have HN5 := Lib.hid (HN5.out.later hbd)
   refine wp_region_held_drew (S := fun w' => w'.cell? ⟨w.heap.size, 0, none⟩ = some (.int .i64 (N : Int)) ∧ w'.cell? ⟨w.heap.size, 1, none⟩ = some (.slice p n c) ∧ w'.cell? ⟨w.heap.size + 1, 0, none⟩ = some (.int .i64 r.cu) ∧ w'.cell? ⟨w.heap.size + 1, 1, none⟩ = some (.int .i64 2) ∧ w'.cell? ⟨w.heap.size + 1, 2, none⟩ = some (.slice pf q cf) ∧ w'.cell? ⟨w.heap.size + 1, 3, none⟩ = some (.slice p1 l1 c1) ∧ w'.cell? ⟨w.heap.size + 1, 4, none⟩ = some (.slice p5 N c5)) (by kernel_rfl) hS1 (fun hS0 => ?_)
   clear hS1
   generalize W7.drew = WE at *
   clear hbd
   refine tkq 0 ?_
   refine tkq 1 ?_
   refine tkq 2 ?_
   refine tkq 4 ?_
   refine tkq 5 ?_
   refine tkq 6 ?_
   refine tkq 7 ?_
   refine tkq 8 ?_
   refine tkq 9 ?_
   refine tkq 10 ?_
   have HX2 : Hid ((⟨r2, pf, cf, p1, c1, p5, c5⟩ : RunX).In (fun b => P b ∨ (w.heap.size + 1 + 1 < b ∧ b < WE.heap.size)) WE) := Lib.hid (by
    have hw1 := HW1.out
    have hw4 := HW4.out
    refine ⟨?_, ?_, ?_, ?_, ?_⟩
    ·show HsR _ _ (.slice pf r2.hs.length cf) r2.hs
     rw [HE1.out.2.2.1, HLQ.out]
     exact (((by have h := HXI.out.hs; rw [HLQ.out] at h; exact h : HsR P w (.slice pf q cf) r.hs).kept HB9.out)).imp (fun b h => .inl h)
    ·show TRow encN _ (.slice p1 r2.ls.length c1) r2.ls
     rw [HE1.out.2.2.2.1, HL1.out]
     exact HO.out.row
    ·show At _ (.slice p1 r2.ls.length c1) r2.ls.length
     rw [HE1.out.2.2.2.1]
     have h1 := HO.out.at_lt
     rw [HL1.out] at h1 ⊢
     exact h1.imp (fun b h => .inr ⟨by omega, h.2⟩)
    ·show Row .i64 _ (.slice p5 r2.ns.length c5) r2.ns
     rw [HE1.out.2.2.2.2, netsL_len]
     exact HN5.out.row
    ·show At _ (.slice p5 r2.ns.length c5) r2.ns.length
     rw [HE1.out.2.2.2.2]
     have h1 := HN5.out.at_lt
     rw [netsL_len] at h1 ⊢
     exact h1.imp (fun b h => .inr ⟨by omega, h.2⟩))
   have HWR2 : Hid (w.heap.size + 1 + 1 < WE.heap.size) := Lib.hid Hr9.out.lt
   refine rdq 3 (fun K hK => ?_)
   have HG := Lib.hid (cwith_any WE (fun b => P b ∨ (w.heap.size + 1 + 1 < b ∧ b < WE.heap.size)) (N : Int) k p n c rs (⟨r2, pf, cf, p1, c1, p5, c5⟩ : RunX) ((HRS.out.kept HB9.out).imp (fun b h => .inl h)) HKK.out.1 HKK.out.2.1 HKK.out.2.2.1 HKK.out.2.2.2 HX2.out)
   rw [RunX.v_mk, HE1.out.1, HE1.out.2.1, HE1.out.2.2.1, HE1.out.2.2.2.1, HE1.out.2.2.2.2, HLQ.out, HL1.out, netsL_len] at HG
   go_simp
   go_at_call 48
   refine HG.out.mono ?_
   rintro y9 w8 ⟨p3, c3, rfl, hq3, hb⟩
   clear HG
   have HQQ := Lib.hid hq3.lt
   have HO := Lib.hid (HO.out.later hb)
   have HN5 := Lib.hid (HN5.out.later hb)
   have HW8 : Hid (WE.heap.size ≤ w8.heap.size) := Lib.hid hb.size
   clear hq3 HX2
   have Hc10 := kbq Hc9 hb
   have Hx10 := kbq Hx9 hb
   have Hr10 := kbq Hr9 hb
   have HB10 := ktq HB9 hb
   have HZ10 := kzq HZ9 hb.size
   clear Hc9 Hx9 Hr9 HB9 HZ9
   clear hb hS0
   try go_wp2_with fail
   refine hK.out _ _ ⟨Hc10.out.cell 0, Hc10.out.cell 1, Hx10.out.cell 0, Hx10.out.cell 1, Hx10.out.cell 2, Hx10.out.cell 3, Hx10.out.cell 4⟩ (fun hS0 => ?_)
   clear hK K
   try simp only [Act.put, List.getElem_toArray, List.getElem_cons_succ, List.getElem_cons_zero, List.setIfInBounds_toArray, List.set_cons_zero, List.set_cons_succ]
   refine rdq 11 (fun K hK => ?_)
   have HMI : Hid ((⟨prepM k r2, p1, c1, p5, c5⟩ : MsgX).InP (fun _ => True) w8) := Lib.hid (by
    refine ⟨?_, ?_, fun _ _ _ _ _ _ => trivial, fun _ _ _ _ _ _ => trivial, ⟨?_, ?_⟩⟩
    ·show TRow encN w8 (.slice p1 r2.ls.length c1) r2.ls
     rw [HE1.out.2.2.2.1, HL1.out]
     exact HO.out.row
    ·show Row .i64 w8 (.slice p5 r2.ns.length c5) r2.ns
     rw [HE1.out.2.2.2.2, netsL_len]
     exact HN5.out.row
    ·show r2.ls.length * 32 ≤ _
     rw [HE1.out.2.2.2.1]
     have := HLN.out
     omega
    ·show r2.ns.length * 8 ≤ _
     rw [HE1.out.2.2.2.2, netsL_len]
     have := HNN.out
     omega)
   have HG := Lib.hid (toAll_any w8 N p n c (⟨prepM k r2, p1, c1, p5, c5⟩ : MsgX) (fun _ => True) HNN.out.2 HMI.out)
   unfold prepM Msg.v at HG
   dsimp only at HG
   rw [HE1.out.2.2.2.1, HE1.out.2.2.2.2, HL1.out, netsL_len] at HG
   go_simp
   go_at_call 56
   refine HG.out.mono ?_
   rintro y9 w9 ⟨p6, c6, rfl, hs, hb⟩
   clear HG
   have HQQ := Lib.hid (HQQ.out.kept hb)
   have HSS : Hid (SaidL w9 w8.heap.size (.slice p6 N c6) (toAllL N (prepM k r2))) := Lib.hid (by unfold prepM; rw [HE1.out.2.2.2.1, HE1.out.2.2.2.2]; exact hs)
   clear hs HMI HO HN5
   have Hc11 := kbq Hc10 hb
   have Hx11 := kbq Hx10 hb
   have Hr11 := kbq Hr10 hb
   have HB11 := ktq HB10 hb
   have HZ11 := kzq HZ10 hb.size
   clear Hc10 Hx10 Hr10 HB10 HZ10
   clear hb hS0
   try go_wp2_with fail
   refine hK.out _ _ ⟨Hc11.out.cell 0, Hc11.out.cell 1, Hx11.out.cell 0, Hx11.out.cell 1, Hx11.out.cell 2, Hx11.out.cell 3, Hx11.out.cell 4⟩ (fun hS0 => ?_)
   clear hK K
   try simp only [Act.put, List.getElem_toArray, List.getElem_cons_succ, List.getElem_cons_zero, List.setIfInBounds_toArray, List.set_cons_zero, List.set_cons_succ]
   refine rdq 12 (fun K hK => ?_)
   have z0 : w9.cell? ⟨(w.heap.size + 1 + 1), 0, none⟩ = some (.int .i64 0) := Hr11.out.cell 0
   have z1 : w9.cell? ⟨(w.heap.size + 1 + 1), 1, none⟩ = some (.slice none 0 0) := Hr11.out.cell 1
   have f0 := Hr11.out.free 0
   have f1 := Hr11.out.free 1
   go_simp
   clear z0 f0 z1 f1
   have hch := Lib.hid (((Chg.refl (w.heap.size + 1 + 1) w9).set 0 (.int .i64 (N : Int))).set 1 (.slice p3 n c3))
   have Hr12 : Hid (Blk _ (w.heap.size + 1 + 1) #[.int .i64 (N : Int), .slice p3 n c3] 27) := Lib.hid ((Hr11.out.set 0 (.int .i64 (N : Int))).set 1 (.slice p3 n c3))
   have HB12 := ksq HB11 hch (by show w.heap.size ≤ (w.heap.size + 1 + 1); have := HWL.out; have := HW1.out; omega)
   have HZ12 := kzq HZ11 hch.out.size
   have Hc12 := kcq Hc11 hch (by have := HWL.out; have := HW1.out; omega)
   have Hx12 := kcq Hx11 hch (by have := HWL.out; have := HW1.out; omega)
   have HST := Lib.hid (HSS.out.chgS hch.out (by have := HW8.out; have := HWR2.out; omega))
   have HQR := Lib.hid ((HQQ.out.imp (Q := fun b => b ≠ w.heap.size + 1 + 1 ∧ (P b ∨ (w.heap.size ≤ b ∧ b < w8.heap.size))) (fun b h => by
    obtain ⟨h, h9⟩ := h
    have h6 := HWR2.out
    rcases h with (h1 | h1) | h1
    ·have := HPW.out _ h1
     exact ⟨by omega, .inl h1⟩
    ·exact ⟨by omega, .inr ⟨by omega, by omega⟩⟩
    ·exact ⟨by omega, .inr ⟨by omega, by omega⟩⟩)).keepP (KeepP.of_chg hch.out (by rintro ⟨h, _⟩; exact h rfl)))
   clear HSS HQQ
   clear hch hS0 Hc11 Hx11 Hr11 HB11 HZ11
   generalize ((w9.setCell ⟨w.heap.size + 1 + 1, 0, none⟩ (.int .i64 (N : Int))).setCell ⟨w.heap.size + 1 + 1, 1, none⟩ (.slice p3 n c3)) = WZ at *
   refine hK.out _ _ ⟨Hc12.out.cell 0, Hc12.out.cell 1, Hx12.out.cell 0, Hx12.out.cell 1, Hx12.out.cell 2, Hx12.out.cell 3, Hx12.out.cell 4⟩ (fun hS0 => ?_)
   clear hK K
   try simp only [Act.put, List.getElem_toArray, List.getElem_cons_succ, List.getElem_cons_zero, List.setIfInBounds_toArray, List.set_cons_zero, List.set_cons_succ]
   refine tkq 13 ?_
   refine tkq 14 ?_
   refine wpAnyH_done (by kernel_rfl) ?_ _
   clear hS0
   go_wp2_with fail
   have hfr := Hr12.out
   refine bodyPost_ret (v := .tuple #[.agg #[.int .i64 (N : Int), .slice p3 n c3], .slice p6 N c6, .int .i64 0]) (by simp [results, Try.results49, go_sem, hfr.cell 0, hfr.cell 1]) rfl (by rw [HR2.out]; exact ⟨p3, n, c3, p6, N, c6, w8.heap.size, rfl, by rw [List.length_set]; exact HKK.out.1, by rw [toAllL_len], by have := HW8.out; have := HWR2.out; omega, HQR.out.imp (fun b h => h.2), HST.out, HB12.out⟩)
end Go.Proofs.Yteogdfpkcoodlaa
namespace Go.Proofs.Yteogdfpkcoodlaa
open Go.RowKit
set_option linter.unusedSimpArgs false
set_option linter.unusedSimpArgs false in
set_option maxHeartbeats 4000000 in
set_option maxRecDepth 100000 in
theorem idx_offer (w : World) (v : Value) (xs : List HdX) (p : HdX → Bool) (base : Nat) (hr : TRow encH w v xs) (hin : ∀ x ∈ xs, ∃ Q, x.In Q w) (hP : ∀ W, Below base w W → ∀ x : HdX, (∃ Q, x.In Q W) → Calls Try.prog 47 #[x.v] W fun e w' => e = .returned (.bool (p x)) ∧ Below W.heap.size W w') (hb : base ≤ w.heap.size) (hn : xs.length ≤ 2000) :
  Calls Try.prog 63 #[v, (.func (.func 47) #[] #[])] w fun e w' => ∃ r : Int, e = .returned (.int .i64 r) ∧ decide (0 ≤ r) = xs.any p ∧ Below w.heap.size w w' := by
 obtain ⟨pv, c, rfl⟩ := hr.shape
 have HR := Lib.hid hr
 have HPP := Lib.hid hP
 have HBB := Lib.hid hb
 have HIN := Lib.hid hin
 clear hr hP hb hin
 generalize hl : xs.length = n at *
 have HL := Lib.hid hl
 clear hl
 go_enter Try.func63, Try.ntmps63
 go_wp2_with fail
 go_loopw [5, 8] (fun _ i wr => ∃ k : Nat, k ≤ n ∧ i = .int .i64 k ∧ Hid (Below w.heap.size w wr ∧ ∀ j (hj : j < xs.length), j < k → p xs[j] = false)) (fun _ i _ => n - (intOf i).toNat)
 case atStart => exact ⟨0, by omega, rfl, ⟨Below.refl _ _, fun j hj h => by omega⟩⟩
 case round =>
  obtain ⟨k, hk, rfl, HB⟩ := hrel
  by_cases hlt : k < n
  ·have hkl : k < xs.length := by rw [HL.out]; exact hlt
   have hltI : (k : Int) < (n : Int) := by omega
   obtain ⟨b, o, rfl, hbl, hcs⟩ := (HR.out.kept HB.out.1).at_ k hkl
   obtain ⟨x, hx⟩ : ∃ x, xs[k] = x := ⟨_, rfl⟩
   have HX := Lib.hid hx
   rw [hx] at hcs
   have c0 : wr.cell? ⟨b, o + k * 3, none⟩ = some (.bool x.h.o) := hcs 0 (by decide)
   have c1 : wr.cell? ⟨b, o + k * 3 + 1, none⟩ = some (.bool x.h.t) := hcs 1 (by decide)
   have c2 : wr.cell? ⟨b, o + k * 3 + 2, none⟩ = some (.slice x.p x.h.ls.length x.c) := hcs 2 (by decide)
   have HD := Lib.hid (HPP.out wr (HB.out.1.mono HBB.out) x (by have h1 := HIN.out x (by rw [← hx]; exact List.getElem_mem hkl); obtain ⟨Q, h2⟩ := h1; exact ⟨Q, h2.kept HB.out.1⟩))
   clear hx
   unfold HdX.v at HD
   obtain ⟨px, hpx⟩ : ∃ px, p x = px := ⟨_, rfl⟩
   rw [hpx] at HD
   have HPX := Lib.hid hpx
   clear hcs hpx
   cases px
   ·go_wp2_with fail
    refine HD.out.mono ?_
    rintro y w1 ⟨rfl, hb⟩
    have HN : Hid (Below w.heap.size w w1 ∧ ∀ j (hj : j < xs.length), j < k + 1 → p xs[j] = false) := ⟨HB.out.1.trans (hb.mono HB.out.1.size), fun j hj h => by
     by_cases e : j = k
     ·subst e; rw [HX.out]; exact HPX.out
     ·exact HB.out.2 j hj (by omega)⟩
    clear hb c0 c1 c2 HD
    go_wp2_with fail
    go_roundw
    case rel => exact ⟨k + 1, by omega, by go_num, HN⟩
    case measure => simp [intOf]; omega
   ·go_wp2_with fail
    refine HD.out.mono ?_
    rintro y w1 ⟨rfl, hb⟩
    have HN := Lib.hid (HB.out.1.trans (hb.mono HB.out.1.size))
    clear hb c0 c1 c2 HD
    go_wp2_with fail
    go_ret
    refine ⟨_, rfl, ?_, HN.out⟩
    rw [show xs.any p = true from List.any_eq_true.2 ⟨xs[k], List.getElem_mem hkl, by rw [HX.out]; exact HPX.out⟩]
    exact decide_eq_true (by omega)
  ·have hle : (n : Int) ≤ (k : Int) := by omega
   go_wp2_with fail
   go_ret
   refine ⟨_, rfl, ?_, HB.out.1⟩
   rw [show xs.any p = false from List.any_eq_false.2 (fun x hx => by
    obtain ⟨j, hj, rfl⟩ := List.mem_iff_getElem.1 hx
    rw [HB.out.2 j hj (by have := HL.out; omega)]
    simp)]
   rfl
set_option linter.unusedSimpArgs false in
set_option maxHeartbeats 4000000 in
set_option maxRecDepth 100000 in
theorem has_offer (w : World) (v : Value) (xs : List HdX) (p : HdX → Bool) (base : Nat) (hr : TRow encH w v xs) (hin : ∀ x ∈ xs, ∃ Q, x.In Q w) (hP : ∀ W, Below base w W → ∀ x : HdX, (∃ Q, x.In Q W) → Calls Try.prog 47 #[x.v] W fun e w' => e = .returned (.bool (p x)) ∧ Below W.heap.size W w') (hb : base ≤ w.heap.size) (hn : xs.length ≤ 2000) :
  Calls Try.prog 46 #[v, (.func (.func 47) #[] #[])] w fun e w' => e = .returned (.bool (xs.any p)) ∧ Below w.heap.size w w' := by
 have HG := Lib.hid (idx_offer w v xs p base hr hin hP hb hn)
 clear hr hin hP hb hn
 go_enter Try.func46, Try.ntmps46
 go_wp2_with fail
 refine HG.out.mono ?_
 rintro y9 w1 ⟨r, rfl, hr, hb⟩
 have HR := Lib.hid hr
 have HB := Lib.hid hb
 clear hr hb HG
 go_wp2_with fail
 go_ret
 exact ⟨by rw [HR.out]; rfl, HB.out⟩
set_option linter.unusedSimpArgs false in
set_option maxHeartbeats 4000000 in
set_option maxRecDepth 100000 in
theorem idx_vote (w : World) (v : Value) (xs : List HdX) (p : HdX → Bool) (base : Nat) (hr : TRow encH w v xs) (hin : ∀ x ∈ xs, ∃ Q, x.In Q w) (hP : ∀ W, Below base w W → ∀ x : HdX, (∃ Q, x.In Q W) → Calls Try.prog 51 #[x.v] W fun e w' => e = .returned (.bool (p x)) ∧ Below W.heap.size W w') (hb : base ≤ w.heap.size) (hn : xs.length ≤ 2000) :
  Calls Try.prog 63 #[v, (.func (.func 51) #[] #[])] w fun e w' => ∃ r : Int, e = .returned (.int .i64 r) ∧ decide (0 ≤ r) = xs.any p ∧ Below w.heap.size w w' := by
 obtain ⟨pv, c, rfl⟩ := hr.shape
 have HR := Lib.hid hr
 have HPP := Lib.hid hP
 have HBB := Lib.hid hb
 have HIN := Lib.hid hin
 clear hr hP hb hin
 generalize hl : xs.length = n at *
 have HL := Lib.hid hl
 clear hl
 go_enter Try.func63, Try.ntmps63
 go_wp2_with fail
 go_loopw [5, 8] (fun _ i wr => ∃ k : Nat, k ≤ n ∧ i = .int .i64 k ∧ Hid (Below w.heap.size w wr ∧ ∀ j (hj : j < xs.length), j < k → p xs[j] = false)) (fun _ i _ => n - (intOf i).toNat)
 case atStart => exact ⟨0, by omega, rfl, ⟨Below.refl _ _, fun j hj h => by omega⟩⟩
 case round =>
  obtain ⟨k, hk, rfl, HB⟩ := hrel
  by_cases hlt : k < n
  ·have hkl : k < xs.length := by rw [HL.out]; exact hlt
   have hltI : (k : Int) < (n : Int) := by omega
   obtain ⟨b, o, rfl, hbl, hcs⟩ := (HR.out.kept HB.out.1).at_ k hkl
   obtain ⟨x, hx⟩ : ∃ x, xs[k] = x := ⟨_, rfl⟩
   have HX := Lib.hid hx
   rw [hx] at hcs
   have c0 : wr.cell? ⟨b, o + k * 3, none⟩ = some (.bool x.h.o) := hcs 0 (by decide)
   have c1 : wr.cell? ⟨b, o + k * 3 + 1, none⟩ = some (.bool x.h.t) := hcs 1 (by decide)
   have c2 : wr.cell? ⟨b, o + k * 3 + 2, none⟩ = some (.slice x.p x.h.ls.length x.c) := hcs 2 (by decide)
   have HD := Lib.hid (HPP.out wr (HB.out.1.mono HBB.out) x (by have h1 := HIN.out x (by rw [← hx]; exact List.getElem_mem hkl); obtain ⟨Q, h2⟩ := h1; exact ⟨Q, h2.kept HB.out.1⟩))
   clear hx
   unfold HdX.v at HD
   obtain ⟨px, hpx⟩ : ∃ px, p x = px := ⟨_, rfl⟩
   rw [hpx] at HD
   have HPX := Lib.hid hpx
   clear hcs hpx
   cases px
   ·go_wp2_with fail
    refine HD.out.mono ?_
    rintro y w1 ⟨rfl, hb⟩
    have HN : Hid (Below w.heap.size w w1 ∧ ∀ j (hj : j < xs.length), j < k + 1 → p xs[j] = false) := ⟨HB.out.1.trans (hb.mono HB.out.1.size), fun j hj h => by
     by_cases e : j = k
     ·subst e; rw [HX.out]; exact HPX.out
     ·exact HB.out.2 j hj (by omega)⟩
    clear hb c0 c1 c2 HD
    go_wp2_with fail
    go_roundw
    case rel => exact ⟨k + 1, by omega, by go_num, HN⟩
    case measure => simp [intOf]; omega
   ·go_wp2_with fail
    refine HD.out.mono ?_
    rintro y w1 ⟨rfl, hb⟩
    have HN := Lib.hid (HB.out.1.trans (hb.mono HB.out.1.size))
    clear hb c0 c1 c2 HD
    go_wp2_with fail
    go_ret
    refine ⟨_, rfl, ?_, HN.out⟩
    rw [show xs.any p = true from List.any_eq_true.2 ⟨xs[k], List.getElem_mem hkl, by rw [HX.out]; exact HPX.out⟩]
    exact decide_eq_true (by omega)
  ·have hle : (n : Int) ≤ (k : Int) := by omega
   go_wp2_with fail
   go_ret
   refine ⟨_, rfl, ?_, HB.out.1⟩
   rw [show xs.any p = false from List.any_eq_false.2 (fun x hx => by
    obtain ⟨j, hj, rfl⟩ := List.mem_iff_getElem.1 hx
    rw [HB.out.2 j hj (by have := HL.out; omega)]
    simp)]
   rfl
set_option linter.unusedSimpArgs false in
set_option maxHeartbeats 4000000 in
set_option maxRecDepth 100000 in
theorem has_vote (w : World) (v : Value) (xs : List HdX) (p : HdX → Bool) (base : Nat) (hr : TRow encH w v xs) (hin : ∀ x ∈ xs, ∃ Q, x.In Q w) (hP : ∀ W, Below base w W → ∀ x : HdX, (∃ Q, x.In Q W) → Calls Try.prog 51 #[x.v] W fun e w' => e = .returned (.bool (p x)) ∧ Below W.heap.size W w') (hb : base ≤ w.heap.size) (hn : xs.length ≤ 2000) :
  Calls Try.prog 46 #[v, (.func (.func 51) #[] #[])] w fun e w' => e = .returned (.bool (xs.any p)) ∧ Below w.heap.size w w' := by
 have HG := Lib.hid (idx_vote w v xs p base hr hin hP hb hn)
 clear hr hin hP hb hn
 go_enter Try.func46, Try.ntmps46
 go_wp2_with fail
 refine HG.out.mono ?_
 rintro y9 w1 ⟨r, rfl, hr, hb⟩
 have HR := Lib.hid hr
 have HB := Lib.hid hb
 clear hr hb HG
 go_wp2_with fail
 go_ret
 exact ⟨by rw [HR.out]; rfl, HB.out⟩
set_option linter.unusedSimpArgs false in
set_option maxHeartbeats 4000000 in
set_option maxRecDepth 100000 in
theorem idx_start (w : World) (v : Value) (xs : List RunX) (p : RunX → Bool) (base : Nat) (bf : Nat) (hr : TRow encR w v xs) (hin : ∀ x ∈ xs, ∃ Q, x.In Q w) (hP : ∀ W, Below base w W → ∀ x : RunX, (∃ Q, x.In Q W) → Calls Try.prog 53 #[x.v, .pointer (some ⟨bf, 0, none⟩)] W fun e w' => e = .returned (.bool (p x)) ∧ Below W.heap.size W w') (hb : base ≤ w.heap.size) (hn : xs.length ≤ 2000) :
  Calls Try.prog 67 #[v, (.func (.func 53) #[] #[.pointer (some ⟨bf, 0, none⟩)])] w fun e w' => ∃ r : Int, e = .returned (.int .i64 r) ∧ decide (0 ≤ r) = xs.any p ∧ Below w.heap.size w w' := by
 obtain ⟨pv, c, rfl⟩ := hr.shape
 have HR := Lib.hid hr
 have HPP := Lib.hid hP
 have HBB := Lib.hid hb
 have HIN := Lib.hid hin
 clear hr hP hb hin
 generalize hl : xs.length = n at *
 have HL := Lib.hid hl
 clear hl
 go_enter Try.func67, Try.ntmps67
 go_wp2_with fail
 go_loopw [5, 8] (fun _ i wr => ∃ k : Nat, k ≤ n ∧ i = .int .i64 k ∧ Hid (Below w.heap.size w wr ∧ ∀ j (hj : j < xs.length), j < k → p xs[j] = false)) (fun _ i _ => n - (intOf i).toNat)
 case atStart => exact ⟨0, by omega, rfl, ⟨Below.refl _ _, fun j hj h => by omega⟩⟩
 case round =>
  obtain ⟨k, hk, rfl, HB⟩ := hrel
  by_cases hlt : k < n
  ·have hkl : k < xs.length := by rw [HL.out]; exact hlt
   have hltI : (k : Int) < (n : Int) := by omega
   obtain ⟨b, o, rfl, hbl, hcs⟩ := (HR.out.kept HB.out.1).at_ k hkl
   obtain ⟨x, hx⟩ : ∃ x, xs[k] = x := ⟨_, rfl⟩
   have HX := Lib.hid hx
   rw [hx] at hcs
   have c0 : wr.cell? ⟨b, o + k * 5, none⟩ = some (.int .i64 x.r.cu) := hcs 0 (by decide)
   have c1 : wr.cell? ⟨b, o + k * 5 + 1, none⟩ = some (.int .i64 x.r.st) := hcs 1 (by decide)
   have c2 : wr.cell? ⟨b, o + k * 5 + 2, none⟩ = some (.slice x.pf x.r.hs.length x.cf) := hcs 2 (by decide)
   have c3 : wr.cell? ⟨b, o + k * 5 + 3, none⟩ = some (.slice x.pl x.r.ls.length x.cl) := hcs 3 (by decide)
   have c4 : wr.cell? ⟨b, o + k * 5 + 4, none⟩ = some (.slice x.pn x.r.ns.length x.cn) := hcs 4 (by decide)
   have HD := Lib.hid (HPP.out wr (HB.out.1.mono HBB.out) x (by have h1 := HIN.out x (by rw [← hx]; exact List.getElem_mem hkl); obtain ⟨Q, h2⟩ := h1; exact ⟨Q, h2.kept HB.out.1⟩))
   clear hx
   unfold RunX.v at HD
   obtain ⟨px, hpx⟩ : ∃ px, p x = px := ⟨_, rfl⟩
   rw [hpx] at HD
   have HPX := Lib.hid hpx
   clear hcs hpx
   cases px
   ·go_wp2_with fail
    refine HD.out.mono ?_
    rintro y w1 ⟨rfl, hb⟩
    have HN : Hid (Below w.heap.size w w1 ∧ ∀ j (hj : j < xs.length), j < k + 1 → p xs[j] = false) := ⟨HB.out.1.trans (hb.mono HB.out.1.size), fun j hj h => by
     by_cases e : j = k
     ·subst e; rw [HX.out]; exact HPX.out
     ·exact HB.out.2 j hj (by omega)⟩
    clear hb c0 c1 c2 c3 c4 HD
    go_wp2_with fail
    go_roundw
    case rel => exact ⟨k + 1, by omega, by go_num, HN⟩
    case measure => simp [intOf]; omega
   ·go_wp2_with fail
    refine HD.out.mono ?_
    rintro y w1 ⟨rfl, hb⟩
    have HN := Lib.hid (HB.out.1.trans (hb.mono HB.out.1.size))
    clear hb c0 c1 c2 c3 c4 HD
    go_wp2_with fail
    go_ret
    refine ⟨_, rfl, ?_, HN.out⟩
    rw [show xs.any p = true from List.any_eq_true.2 ⟨xs[k], List.getElem_mem hkl, by rw [HX.out]; exact HPX.out⟩]
    exact decide_eq_true (by omega)
  ·have hle : (n : Int) ≤ (k : Int) := by omega
   go_wp2_with fail
   go_ret
   refine ⟨_, rfl, ?_, HB.out.1⟩
   rw [show xs.any p = false from List.any_eq_false.2 (fun x hx => by
    obtain ⟨j, hj, rfl⟩ := List.mem_iff_getElem.1 hx
    rw [HB.out.2 j hj (by have := HL.out; omega)]
    simp)]
   rfl
set_option linter.unusedSimpArgs false in
set_option maxHeartbeats 4000000 in
set_option maxRecDepth 100000 in
theorem has_start (w : World) (v : Value) (xs : List RunX) (p : RunX → Bool) (base : Nat) (bf : Nat) (hr : TRow encR w v xs) (hin : ∀ x ∈ xs, ∃ Q, x.In Q w) (hP : ∀ W, Below base w W → ∀ x : RunX, (∃ Q, x.In Q W) → Calls Try.prog 53 #[x.v, .pointer (some ⟨bf, 0, none⟩)] W fun e w' => e = .returned (.bool (p x)) ∧ Below W.heap.size W w') (hb : base ≤ w.heap.size) (hn : xs.length ≤ 2000) :
  Calls Try.prog 54 #[v, (.func (.func 53) #[] #[.pointer (some ⟨bf, 0, none⟩)])] w fun e w' => e = .returned (.bool (xs.any p)) ∧ Below w.heap.size w w' := by
 have HG := Lib.hid (idx_start w v xs p base bf hr hin hP hb hn)
 clear hr hin hP hb hn
 go_enter Try.func54, Try.ntmps54
 go_wp2_with fail
 refine HG.out.mono ?_
 rintro y9 w1 ⟨r, rfl, hr, hb⟩
 have HR := Lib.hid hr
 have HB := Lib.hid hb
 clear hr hb HG
 go_wp2_with fail
 go_ret
 exact ⟨by rw [HR.out]; rfl, HB.out⟩
set_option linter.unusedSimpArgs false in
set_option maxHeartbeats 4000000 in
set_option maxRecDepth 100000 in
theorem another_any (w : World) (x : RunX) (cu : Int) (bf : Nat) (hm : w.cell? ⟨bf, 4, none⟩ = some (.int .i64 cu)) :
  Calls Try.prog 53 #[x.v, .pointer (some ⟨bf, 0, none⟩)] w fun e w' => e = .returned (.bool (x.r.cu == cu && openB x.r)) ∧ Below w.heap.size w w' := by
 unfold RunX.v
 obtain ⟨b0, h1⟩ : ∃ b0, (x.r.cu == cu) = b0 := ⟨_, rfl⟩
 rw [h1]
 have HB0 : Hid (Below w.heap.size w (w.alloc (.cells #[.int .i64 x.r.cu, .int .i64 x.r.st, .slice x.pf x.r.hs.length x.cf, .slice x.pl x.r.ls.length x.cl, .slice x.pn x.r.ns.length x.cn] 56))) := Lib.hid ((oneB w _))
 have Hx0 : Hid (Blk (w.alloc (.cells #[.int .i64 x.r.cu, .int .i64 x.r.st, .slice x.pf x.r.hs.length x.cf, .slice x.pl x.r.ls.length x.cl, .slice x.pn x.r.ns.length x.cn] 56)) w.heap.size #[.int .i64 x.r.cu, .int .i64 x.r.st, .slice x.pf x.r.hs.length x.cf, .slice x.pl x.r.ls.length x.cl, .slice x.pn x.r.ns.length x.cn] 56) := Lib.hid (Blk.new w #[.int .i64 x.r.cu, .int .i64 x.r.st, .slice x.pf x.r.hs.length x.cf, .slice x.pl x.r.ls.length x.cl, .slice x.pn x.r.ns.length x.cn] 56)
 have HZ0 : Hid (w.heap.size ≤ (w.alloc (.cells #[.int .i64 x.r.cu, .int .i64 x.r.st, .slice x.pf x.r.hs.length x.cf, .slice x.pl x.r.ls.length x.cl, .slice x.pn x.r.ns.length x.cn] 56)).heap.size) := Lib.hid HB0.out.size
 have HM : Hid ((w.alloc (.cells #[.int .i64 x.r.cu, .int .i64 x.r.st, .slice x.pf x.r.hs.length x.cf, .slice x.pl x.r.ls.length x.cl, .slice x.pn x.r.ns.length x.cn] 56)).cell? ⟨bf, 4, none⟩ = some (.int .i64 cu)) := (HB0.out.cell (p := ⟨bf, 4, none⟩) (World.block_lt_of_cell? w _ hm)).trans hm
 clear hm
 go_enter Try.func53, Try.ntmps53
 go_upto_region 1 with fail
 generalize (w.alloc (.cells #[.int .i64 x.r.cu, .int .i64 x.r.st, .slice x.pf x.r.hs.length x.cf, .slice x.pl x.r.ls.length x.cl, .slice x.pn x.r.ns.length x.cn] 56)) = W at *
 have m4 := HM.out
 cases b0
 ·skip
  have x0 : W.cell? ⟨w.heap.size, 0, none⟩ = some (.int .i64 x.r.cu) := Hx0.out.cell 0
  have x1 : W.cell? ⟨w.heap.size, 1, none⟩ = some (.int .i64 x.r.st) := Hx0.out.cell 1
  have x2 : W.cell? ⟨w.heap.size, 2, none⟩ = some (.slice x.pf x.r.hs.length x.cf) := Hx0.out.cell 2
  have x3 : W.cell? ⟨w.heap.size, 3, none⟩ = some (.slice x.pl x.r.ls.length x.cl) := Hx0.out.cell 3
  have x4 : W.cell? ⟨w.heap.size, 4, none⟩ = some (.slice x.pn x.r.ns.length x.cn) := Hx0.out.cell 4
  go_wp2_with fail
  go_ret
  exact ⟨rfl, HB0.out⟩
 ·skip
  have HG := Lib.hid (copen_any W x)
  unfold RunX.v at HG
  have x0 : W.cell? ⟨w.heap.size, 0, none⟩ = some (.int .i64 x.r.cu) := Hx0.out.cell 0
  have x1 : W.cell? ⟨w.heap.size, 1, none⟩ = some (.int .i64 x.r.st) := Hx0.out.cell 1
  have x2 : W.cell? ⟨w.heap.size, 2, none⟩ = some (.slice x.pf x.r.hs.length x.cf) := Hx0.out.cell 2
  have x3 : W.cell? ⟨w.heap.size, 3, none⟩ = some (.slice x.pl x.r.ls.length x.cl) := Hx0.out.cell 3
  have x4 : W.cell? ⟨w.heap.size, 4, none⟩ = some (.slice x.pn x.r.ns.length x.cn) := Hx0.out.cell 4
  go_wp2_with fail
  clear x0 x1 x2 x3 x4 m4
  refine HG.out.mono ?_
  rintro y9 w1 ⟨rfl, hb⟩
  have HB1 := ktq HB0 hb
  clear hb HG
  go_wp2_with fail
  go_ret
  exact ⟨rfl, HB1.out⟩
end Go.Proofs.Yteogdfpkcoodlaa
namespace Go.Proofs.Yteogdfpkcoodlaa
open Go.RowKit
set_option linter.unusedSimpArgs false
def Rn.offer (r : Rn) (j : Nat) (ls : List Lin) : Rn := { r with hs := r.hs.set j ⟨true, (r.hs.getD j hd0).t, ls⟩ }
/-- What an entity's offer does. -/
def offerC (N : Nat) (rs : List Rn) (m : Msg) (j : Nat) : CAns :=
 if ((rnAt rs m.y).st != 1) = true then (rs, [], 90) else if ((rnAt rs m.y).hs.getD j hd0).o = true then (rs, [], 5) else
 if (mineL (j : Int) m.ls).length < m.ls.length then (rs, [], 140) else if fitE (N : Int) m.ls ≠ 0 then (rs, [], fitE (N : Int) m.ls) else
 if ((rnAt rs m.y).offer j m.ls).hs.any (fun h => !h.o) = true then (rs.set (m.y - 1).toNat ((rnAt rs m.y).offer j m.ls), [], 0) else (rs.set (m.y - 1).toNat (((rnAt rs m.y).offer j m.ls).rec_ N), toAllL N (prepM m.y (((rnAt rs m.y).offer j m.ls).rec_ N)), 0)
set_option linter.unusedSimpArgs false in
set_option maxHeartbeats 4000000 in
set_option maxRecDepth 100000 in
theorem coffer_any (w : World) (P : Nat → Prop) (N : Nat) (p : Option Addr) (n c : Nat) (rs : List Rn) (y : MsgX) (j : Nat) (hrs : RsR P w (.slice p n c) rs) (hpw : ∀ b, P b → b < w.heap.size) (hn : n = rs.length) (hl : n ≤ 2000) (hk1 : 1 ≤ y.m.y) (hk2 : y.m.y ≤ n) (hN1 : 1 ≤ N) (hN8 : N ≤ 8) (hlen : ∀ r ∈ rs, r.hs.length = N) (hj : j < N) (Pm : Nat → Prop) (hy : y.InP Pm w) (hyl : y.m.ls.length ≤ 60) (hfit : ∀ r ∈ rs, ∀ h ∈ r.hs, fitE (N : Int) h.ls = 0 ∧ h.ls.length ≤ 60) :
  Calls Try.prog 29 #[.agg #[.int .i64 (N : Int), .slice p n c], y.m.v (.slice y.pl y.m.ls.length y.cl) (.slice y.pn y.m.ns.length y.cn), .int .i64 (j : Int)] w (CP w P N (offerC N rs y.m j)) := by
 unfold CP
 have HRS := Lib.hid hrs
 have HPW := Lib.hid hpw
 have HNN : Hid (1 ≤ N ∧ N ≤ 8) := Lib.hid ⟨hN1, hN8⟩
 have HKK : Hid (n = rs.length ∧ n ≤ 2000 ∧ 1 ≤ y.m.y ∧ y.m.y ≤ n) := Lib.hid ⟨hn, hl, hk1, hk2⟩
 have HLN := Lib.hid hlen
 have HJ : Hid (j < N) := Lib.hid hj
 have HY := Lib.hid hy
 have HYL : Hid (y.m.ls.length ≤ 60) := Lib.hid hyl
 have HFT := Lib.hid hfit
 clear hrs hpw hN1 hN8 hn hl hk1 hk2 hlen hj hy hyl hfit
 unfold Msg.v
 have HB0 : Hid (Below w.heap.size w (((w.alloc (.cells #[.int .i64 (N : Int), .slice p n c] 27)).alloc (.cells #[.int .i64 y.m.k, .int .i64 y.m.s, .int .i64 y.m.n, .int .i64 y.m.b, .int .i64 y.m.c, .int .i64 y.m.r, .int .i64 y.m.y, .int .i64 y.m.a, .bool y.m.t, .slice y.pl y.m.ls.length y.cl, .slice y.pn y.m.ns.length y.cn] 36)).alloc (.cells #[.int .i64 0, .slice none 0 0] 27))) := Lib.hid ((((oneB w _).alloc (by simp <;> omega) _).alloc (by simp <;> omega) _))
 have Hc0 : Hid (Blk (((w.alloc (.cells #[.int .i64 (N : Int), .slice p n c] 27)).alloc (.cells #[.int .i64 y.m.k, .int .i64 y.m.s, .int .i64 y.m.n, .int .i64 y.m.b, .int .i64 y.m.c, .int .i64 y.m.r, .int .i64 y.m.y, .int .i64 y.m.a, .bool y.m.t, .slice y.pl y.m.ls.length y.cl, .slice y.pn y.m.ns.length y.cn] 36)).alloc (.cells #[.int .i64 0, .slice none 0 0] 27)) w.heap.size #[.int .i64 (N : Int), .slice p n c] 27) := Lib.hid (((Blk.new w #[.int .i64 (N : Int), .slice p n c] 27).alloc _).alloc _)
 have Hm0 : Hid (Blk (((w.alloc (.cells #[.int .i64 (N : Int), .slice p n c] 27)).alloc (.cells #[.int .i64 y.m.k, .int .i64 y.m.s, .int .i64 y.m.n, .int .i64 y.m.b, .int .i64 y.m.c, .int .i64 y.m.r, .int .i64 y.m.y, .int .i64 y.m.a, .bool y.m.t, .slice y.pl y.m.ls.length y.cl, .slice y.pn y.m.ns.length y.cn] 36)).alloc (.cells #[.int .i64 0, .slice none 0 0] 27)) (w.heap.size + 1) #[.int .i64 y.m.k, .int .i64 y.m.s, .int .i64 y.m.n, .int .i64 y.m.b, .int .i64 y.m.c, .int .i64 y.m.r, .int .i64 y.m.y, .int .i64 y.m.a, .bool y.m.t, .slice y.pl y.m.ls.length y.cl, .slice y.pn y.m.ns.length y.cn] 36) := Lib.hid ((Blk.new' (w.alloc (.cells #[.int .i64 (N : Int), .slice p n c] 27)) #[.int .i64 y.m.k, .int .i64 y.m.s, .int .i64 y.m.n, .int .i64 y.m.b, .int .i64 y.m.c, .int .i64 y.m.r, .int .i64 y.m.y, .int .i64 y.m.a, .bool y.m.t, .slice y.pl y.m.ls.length y.cl, .slice y.pn y.m.ns.length y.cn] 36 (by simp)).alloc _)
 have Hr0 : Hid (Blk (((w.alloc (.cells #[.int .i64 (N : Int), .slice p n c] 27)).alloc (.cells #[.int .i64 y.m.k, .int .i64 y.m.s, .int .i64 y.m.n, .int .i64 y.m.b, .int .i64 y.m.c, .int .i64 y.m.r, .int .i64 y.m.y, .int .i64 y.m.a, .bool y.m.t, .slice y.pl y.m.ls.length y.cl, .slice y.pn y.m.ns.length y.cn] 36)).alloc (.cells #[.int .i64 0, .slice none 0 0] 27)) (w.heap.size + 1 + 1) #[.int .i64 0, .slice none 0 0] 27) := Lib.hid (Blk.new' ((w.alloc (.cells #[.int .i64 (N : Int), .slice p n c] 27)).alloc (.cells #[.int .i64 y.m.k, .int .i64 y.m.s, .int .i64 y.m.n, .int .i64 y.m.b, .int .i64 y.m.c, .int .i64 y.m.r, .int .i64 y.m.y, .int .i64 y.m.a, .bool y.m.t, .slice y.pl y.m.ls.length y.cl, .slice y.pn y.m.ns.length y.cn] 36)) #[.int .i64 0, .slice none 0 0] 27 (by simp))
 have HZ0 : Hid (w.heap.size ≤ (((w.alloc (.cells #[.int .i64 (N : Int), .slice p n c] 27)).alloc (.cells #[.int .i64 y.m.k, .int .i64 y.m.s, .int .i64 y.m.n, .int .i64 y.m.b, .int .i64 y.m.c, .int .i64 y.m.r, .int .i64 y.m.y, .int .i64 y.m.a, .bool y.m.t, .slice y.pl y.m.ls.length y.cl, .slice y.pn y.m.ns.length y.cn] 36)).alloc (.cells #[.int .i64 0, .slice none 0 0] 27)).heap.size) := Lib.hid HB0.out.size
 go_enter Try.func29, Try.ntmps29
 go_upto_region 1 with fail
 generalize (((w.alloc (.cells #[.int .i64 (N : Int), .slice p n c] 27)).alloc (.cells #[.int .i64 y.m.k, .int .i64 y.m.s, .int .i64 y.m.n, .int .i64 y.m.b, .int .i64 y.m.c, .int .i64 y.m.r, .int .i64 y.m.y, .int .i64 y.m.a, .bool y.m.t, .slice y.pl y.m.ls.length y.cl, .slice y.pn y.m.ns.length y.cn] 36)).alloc (.cells #[.int .i64 0, .slice none 0 0] 27)) = W at *
 have HWL : Hid (w.heap.size + 1 + 1 < W.heap.size) := Lib.hid Hr0.out.lt
 have HG := Lib.hid (crun_any W P N y.m.y p n c rs (HRS.out.kept HB0.out) HKK.out.1 HKK.out.2.1 HKK.out.2.2.1 HKK.out.2.2.2 HNN.out.1 HNN.out.2 HLN.out)
 have a0 : W.cell? ⟨w.heap.size, 0, none⟩ = some (.int .i64 (N : Int)) := Hc0.out.cell 0
 have a1 : W.cell? ⟨w.heap.size, 1, none⟩ = some (.slice p n c) := Hc0.out.cell 1
 have m6 : W.cell? ⟨(w.heap.size + 1), 6, none⟩ = some (.int .i64 y.m.y) := Hm0.out.cell 6
 go_wp2_with fail
 clear a0 a1 m6
 refine HG.out.mono ?_
 rintro y9 w1 ⟨x, rfl, hx, hro, hb⟩
 clear HG
 obtain ⟨r, pf, cf, pl, cl, pn, cn⟩ := x
 obtain ⟨g, hpf, hgb, hgl⟩ := hro.g
 have hcf : N = cf := hro.cap.symm
 have hpf : some ⟨g, 0, none⟩ = pf := hpf.symm
 subst hcf
 subst hpf
 have HLR : Hid (r.hs.length = N) := Lib.hid hro.len
 have HGL : Hid (W.heap.size ≤ g ∧ g < w1.heap.size) := Lib.hid ⟨hgb, hgl⟩
 clear hgb hgl
 have HX : Hid (rnAt rs y.m.y = r) := Lib.hid (by unfold rnAt; rw [hx]; rfl)
 have HXS : Hid (rs[(y.m.y - 1).toNat]? = some r) := Lib.hid hx
 have HO := Lib.hid hro
 have HW1 : Hid (W.heap.size ≤ w1.heap.size) := Lib.hid hb.size
 clear hx hro
 have Hc1 := kbq Hc0 hb
 have Hm1 := kbq Hm0 hb
 have Hr1 := kbq Hr0 hb
 have HB1 := ktq HB0 hb
 have HZ1 := kzq HZ0 hb.size
 clear Hc0 Hm0 Hr0 HB0 HZ0
 clear hb
 rw [RunX.v_mk]
 have hba9 := oneB w1 (.cells #[.int .i64 r.cu, .int .i64 r.st, .slice (some ⟨g, 0, none⟩) r.hs.length N, .slice pl r.ls.length cl, .slice pn r.ns.length cn] 56)
 have HO2 := Lib.hid (HO.out.kept hba9)
 clear hba9 HO
 have hba := oneB w1 (.cells #[.int .i64 r.cu, .int .i64 r.st, .slice (some ⟨g, 0, none⟩) r.hs.length N, .slice pl r.ls.length cl, .slice pn r.ns.length cn] 56)
 have Hc2 := kbq Hc1 hba
 have Hm2 := kbq Hm1 hba
 have Hr2 := kbq Hr1 hba
 have Hx2 := Lib.hid (Blk.new w1 #[.int .i64 r.cu, .int .i64 r.st, .slice (some ⟨g, 0, none⟩) r.hs.length N, .slice pl r.ls.length cl, .slice pn r.ns.length cn] 56)
 have HB2 := Lib.hid (HB1.out.alloc HB1.out.size (.cells #[.int .i64 r.cu, .int .i64 r.st, .slice (some ⟨g, 0, none⟩) r.hs.length N, .slice pl r.ls.length cl, .slice pn r.ns.length cn] 56))
 have HZ2 := kzq HZ1 hba.size
 have HGgx : Hid (w.heap.size ≤ w1.heap.size) := Lib.hid HB1.out.size
 clear hba Hc1 Hm1 Hr1 HB1 HZ1
 go_upto_region 2 with fail
 generalize (w1.alloc (.cells #[.int .i64 r.cu, .int .i64 r.st, .slice (some ⟨g, 0, none⟩) r.hs.length N, .slice pl r.ls.length cl, .slice pn r.ns.length cn] 56)) = W2 at *
 generalize hggx : w1.heap.size = gx at *
 clear hggx
 obtain ⟨bs, hbs⟩ : ∃ bs, (r.st != 1) = bs := ⟨_, rfl⟩
 have HBS := Lib.hid hbs
 cases bs
 ·skip
  have hst : (r.st != 1) = false := hbs
  clear hbs
  have x1 : W2.cell? ⟨gx, 1, none⟩ = some (.int .i64 r.st) := Hx2.out.cell 1
  go_upto_region 4 with fail
  clear x1 hst
  have HJL : Hid (j < r.hs.length) := Lib.hid (by have := HJ.out; have := HLR.out; omega)
  obtain ⟨xo, hxo, hco, hio⟩ := HO2.out.hs.at1 j HJL.out
  have hxo : xo.h = r.hs[j]'HJL.out := hxo
  have HXO : Hid (r.hs.getD j hd0 = xo.h) := Lib.hid (by rw [hxo, List.getD_eq_getElem?_getD, List.getElem?_eq_getElem HJL.out]; rfl)
  have HXQ : Hid (∀ x : HdX, x.h = r.hs[j]'HJL.out → x.h = xo.h) := Lib.hid (fun x h => h.trans hxo.symm)
  obtain ⟨bo, hbo⟩ : ∃ bo, xo.h.o = bo := ⟨_, rfl⟩
  have HBO := Lib.hid hbo
  have z1 : W2.cell? ⟨g, j * 3, none⟩ = some (.bool bo) := by rw [← hbo]; exact (hco 0 (by decide)).1
  clear hxo hco hio hbo
  have hjN : (j : Int) < (r.hs.length : Int) := by have := HJL.out; omega
  have hjC : (j : Int) < (N : Int) := by have := HJ.out; omega
  cases bo
  ·skip
   have x2 : W2.cell? ⟨gx, 2, none⟩ = some (.slice (some ⟨g, 0, none⟩) r.hs.length N) := Hx2.out.cell 2
   go_upto_region 6 with fail
   clear x2 z1
   obtain ⟨lm, hlm⟩ : ∃ lm, (mineL (j : Int) y.m.ls).length = lm := ⟨_, rfl⟩
   have HLM := Lib.hid hlm
   clear hlm
   by_cases hmi : lm < y.m.ls.length
   ·skip
    have hmiI : (lm : Int) < (y.m.ls.length : Int) := by omega
    have HMI : Hid ((mineL (j : Int) y.m.ls).length < y.m.ls.length) := Lib.hid (by rw [HLM.out]; exact hmi)
    clear hmi
    have hbd := (Below.refl W2.heap.size W2).drew
    have Hc3 := kbq Hc2 hbd
    have Hm3 := kbq Hm2 hbd
    have Hr3 := kbq Hr2 hbd
    have Hx3 := kbq Hx2 hbd
    have HB3 := ktq HB2 hbd
    have HZ3 := kzq HZ2 hbd.size
    clear Hc2 Hm2 Hr2 Hx2 HB2 HZ2
    have hS1 : W2.drew.cell? ⟨w.heap.size + 1, 0, none⟩ = some (.int .i64 y.m.k) ∧ W2.drew.cell? ⟨w.heap.size + 1, 1, none⟩ = some (.int .i64 y.m.s) ∧ W2.drew.cell? ⟨w.heap.size + 1, 2, none⟩ = some (.int .i64 y.m.n) ∧ W2.drew.cell? ⟨w.heap.size + 1, 3, none⟩ = some (.int .i64 y.m.b) ∧ W2.drew.cell? ⟨w.heap.size + 1, 4, none⟩ = some (.int .i64 y.m.c) ∧ W2.drew.cell? ⟨w.heap.size + 1, 5, none⟩ = some (.int .i64 y.m.r) ∧ W2.drew.cell? ⟨w.heap.size + 1, 6, none⟩ = some (.int .i64 y.m.y) ∧ W2.drew.cell? ⟨w.heap.size + 1, 7, none⟩ = some (.int .i64 y.m.a) ∧ W2.drew.cell? ⟨w.heap.size + 1, 8, none⟩ = some (.bool y.m.t) ∧ W2.drew.cell? ⟨w.heap.size + 1, 9, none⟩ = some (.slice y.pl y.m.ls.length y.cl) ∧ W2.drew.cell? ⟨w.heap.size + 1, 10, none⟩ = some (.slice y.pn y.m.ns.length y.cn) := ⟨Hm3.out.cell 0, Hm3.out.cell 1, Hm3.out.cell 2, Hm3.out.cell 3, Hm3.out.cell 4, Hm3.out.cell 5, Hm3.out.cell 6, Hm3.out.cell 7, Hm3.out.cell 8, Hm3.out.cell 9, Hm3.out.cell 10⟩
    have HO2 := Lib.hid (HO2.out.kept hbd)
    refine wp_region_held_drew (S := fun w' => w'.cell? ⟨w.heap.size + 1, 0, none⟩ = some (.int .i64 y.m.k) ∧ w'.cell? ⟨w.heap.size + 1, 1, none⟩ = some (.int .i64 y.m.s) ∧ w'.cell? ⟨w.heap.size + 1, 2, none⟩ = some (.int .i64 y.m.n) ∧ w'.cell? ⟨w.heap.size + 1, 3, none⟩ = some (.int .i64 y.m.b) ∧ w'.cell? ⟨w.heap.size + 1, 4, none⟩ = some (.int .i64 y.m.c) ∧ w'.cell? ⟨w.heap.size + 1, 5, none⟩ = some (.int .i64 y.m.r) ∧ w'.cell? ⟨w.heap.size + 1, 6, none⟩ = some (.int .i64 y.m.y) ∧ w'.cell? ⟨w.heap.size + 1, 7, none⟩ = some (.int .i64 y.m.a) ∧ w'.cell? ⟨w.heap.size + 1, 8, none⟩ = some (.bool y.m.t) ∧ w'.cell? ⟨w.heap.size + 1, 9, none⟩ = some (.slice y.pl y.m.ls.length y.cl) ∧ w'.cell? ⟨w.heap.size + 1, 10, none⟩ = some (.slice y.pn y.m.ns.length y.cn)) (by kernel_rfl) hS1 (fun hS0 => ?_)
    clear hS1
    generalize W2.drew = WDa at *
    clear hbd
    refine tkq 0 ?_
    refine tkq 1 ?_
    refine tkq 2 ?_
    refine tkq 5 ?_
    refine tkq 6 ?_
    refine tkq 7 ?_
    refine rdq 3 (fun K hK => ?_)
    have HG := Lib.hid (mine_any WDa (j : Int) (.slice y.pl y.m.ls.length y.cl) y.m.ls (HY.out.kept HB3.out).ls (by have := HYL.out; omega))
    go_simp
    go_at_call 44
    refine HG.out.mono ?_
    rintro y9 w4a ⟨v4, rfl, ho, hb⟩
    clear HG
    have HO2 := Lib.hid (HO2.out.kept hb)
    obtain ⟨p4, c4, hv4⟩ := ho.form
    rw [HLM.out] at hv4
    subst hv4
    clear ho
    have Hc4 := kbq Hc3 hb
    have Hm4 := kbq Hm3 hb
    have Hr4 := kbq Hr3 hb
    have Hx4 := kbq Hx3 hb
    have HB4 := ktq HB3 hb
    have HZ4 := kzq HZ3 hb.size
    clear Hc3 Hm3 Hr3 Hx3 HB3 HZ3
    clear hb hS0
    try go_wp2_with fail
    refine hK.out _ _ ⟨Hm4.out.cell 0, Hm4.out.cell 1, Hm4.out.cell 2, Hm4.out.cell 3, Hm4.out.cell 4, Hm4.out.cell 5, Hm4.out.cell 6, Hm4.out.cell 7, Hm4.out.cell 8, Hm4.out.cell 9, Hm4.out.cell 10⟩ (fun hS0 => ?_)
    clear hK K
    try simp only [Act.put, List.getElem_toArray, List.getElem_cons_succ, List.getElem_cons_zero, List.setIfInBounds_toArray, List.set_cons_zero, List.set_cons_succ]
    refine tkq 4 ?_
    refine tkq 8 ?_
    refine tkq 9 ?_
    refine wpAnyH_done (by kernel_rfl) ?_ _
    clear hS0
    have HE : Hid (offerC N rs y.m j = (rs, [], 140)) := by show _ = _; unfold offerC; rw [HX.out, if_neg (by rw [HBS.out]; decide), if_neg (by rw [HXO.out, HBO.out]; decide), if_pos HMI.out]
    go_upto_region 7 with fail
    clear hmiI hjN hjC
    have a0 : w4a.cell? ⟨w.heap.size, 0, none⟩ = some (.int .i64 (N : Int)) := Hc4.out.cell 0
    have a1 : w4a.cell? ⟨w.heap.size, 1, none⟩ = some (.slice p n c) := Hc4.out.cell 1
    go_wp2_with (with_reducible refine stop_storeT 27 (.tmp 6) (.tmp 38) rfl ?_)
    clear a0 a1
    have HTH : Hid (w4a.there (w.heap.size + 1 + 1) 0 2) := Hr4.out.thereAt
    have hch : Hid (Chg (w.heap.size + 1 + 1) w4a (w4a.setCells (w.heap.size + 1 + 1) 0 (#[.int .i64 (N : Int), .slice p n c] : Array Value).toList)) := Lib.hid (chg_putL _ _ _ _ _ (Chg.refl _ w4a))
    have Hr5 : Hid (Blk (w4a.setCells (w.heap.size + 1 + 1) 0 (#[.int .i64 (N : Int), .slice p n c] : Array Value).toList) (w.heap.size + 1 + 1) #[.int .i64 (N : Int), .slice p n c] 27) := Lib.hid (blk_put_all Hr4.out _ rfl)
    have HB5 : Hid (Below w.heap.size w (w4a.setCells (w.heap.size + 1 + 1) 0 (#[.int .i64 (N : Int), .slice p n c] : Array Value).toList)) := Lib.hid (below_put (by have := HWL.out; have := HW1.out; have := HGL.out; omega) _ _ _ _ HB4.out)
    have HZ5 := kzq HZ4 hch.out.size
    have Hc5 := kcq Hc4 hch (by have := HWL.out; have := HW1.out; have := HGL.out; omega)
    have Hm5 := kcq Hm4 hch (by have := HWL.out; have := HW1.out; have := HGL.out; omega)
    have Hx5 := kcq Hx4 hch (by have := HWL.out; have := HW1.out; have := HGL.out; omega)
    clear hch Hc4 Hm4 Hr4 Hx4 HB4 HZ4
    refine wpList_store_mid rfl 27 (.tmp 6) (.tmp 38) rfl (w.heap.size + 1 + 1) 0 #[.int .i64 (N : Int), .slice p n c] rfl rfl HTH.out (infoC2 rfl) (all_oneCell_toArray (by intro u hu; simp at hu; rcases hu with rfl | rfl <;> rfl)) ?_
    generalize (w4a.setCells (w.heap.size + 1 + 1) 0 (#[.int .i64 (N : Int), .slice p n c] : Array Value).toList) = W9m at *
    clear HTH
    go_wp2_with fail
    have hfr := Hr5.out
    refine bodyPost_ret (v := .tuple #[.agg #[.int .i64 (N : Int), .slice p n c], .slice none 0 0, .int .i64 140]) (by simp [results, Try.results29, go_sem, hfr.cell 0, hfr.cell 1]) rfl (by rw [HE.out]; exact ⟨p, n, c, none, 0, 0, W9m.heap.size, rfl, HKK.out.1, rfl, HZ5.out, (HRS.out.kept HB5.out).imp (fun b h => .inl h), SaidL.nil_ _ _, HB5.out⟩)
   ·skip
    have hmiI : ¬ (lm : Int) < (y.m.ls.length : Int) := by omega
    have HMI : Hid (¬ (mineL (j : Int) y.m.ls).length < y.m.ls.length) := Lib.hid (by rw [HLM.out]; exact hmi)
    clear hmi
    have hbd := (Below.refl W2.heap.size W2).drew
    have Hc3 := kbq Hc2 hbd
    have Hm3 := kbq Hm2 hbd
    have Hr3 := kbq Hr2 hbd
    have Hx3 := kbq Hx2 hbd
    have HB3 := ktq HB2 hbd
    have HZ3 := kzq HZ2 hbd.size
    clear Hc2 Hm2 Hr2 Hx2 HB2 HZ2
    have hS1 : W2.drew.cell? ⟨w.heap.size + 1, 0, none⟩ = some (.int .i64 y.m.k) ∧ W2.drew.cell? ⟨w.heap.size + 1, 1, none⟩ = some (.int .i64 y.m.s) ∧ W2.drew.cell? ⟨w.heap.size + 1, 2, none⟩ = some (.int .i64 y.m.n) ∧ W2.drew.cell? ⟨w.heap.size + 1, 3, none⟩ = some (.int .i64 y.m.b) ∧ W2.drew.cell? ⟨w.heap.size + 1, 4, none⟩ = some (.int .i64 y.m.c) ∧ W2.drew.cell? ⟨w.heap.size + 1, 5, none⟩ = some (.int .i64 y.m.r) ∧ W2.drew.cell? ⟨w.heap.size + 1, 6, none⟩ = some (.int .i64 y.m.y) ∧ W2.drew.cell? ⟨w.heap.size + 1, 7, none⟩ = some (.int .i64 y.m.a) ∧ W2.drew.cell? ⟨w.heap.size + 1, 8, none⟩ = some (.bool y.m.t) ∧ W2.drew.cell? ⟨w.heap.size + 1, 9, none⟩ = some (.slice y.pl y.m.ls.length y.cl) ∧ W2.drew.cell? ⟨w.heap.size + 1, 10, none⟩ = some (.slice y.pn y.m.ns.length y.cn) := ⟨Hm3.out.cell 0, Hm3.out.cell 1, Hm3.out.cell 2, Hm3.out.cell 3, Hm3.out.cell 4, Hm3.out.cell 5, Hm3.out.cell 6, Hm3.out.cell 7, Hm3.out.cell 8, Hm3.out.cell 9, Hm3.out.cell 10⟩
    have HO2 := Lib.hid (HO2.out.kept hbd)
    refine wp_region_held_drew (S := fun w' => w'.cell? ⟨w.heap.size + 1, 0, none⟩ = some (.int .i64 y.m.k) ∧ w'.cell? ⟨w.heap.size + 1, 1, none⟩ = some (.int .i64 y.m.s) ∧ w'.cell? ⟨w.heap.size + 1, 2, none⟩ = some (.int .i64 y.m.n) ∧ w'.cell? ⟨w.heap.size + 1, 3, none⟩ = some (.int .i64 y.m.b) ∧ w'.cell? ⟨w.heap.size + 1, 4, none⟩ = some (.int .i64 y.m.c) ∧ w'.cell? ⟨w.heap.size + 1, 5, none⟩ = some (.int .i64 y.m.r) ∧ w'.cell? ⟨w.heap.size + 1, 6, none⟩ = some (.int .i64 y.m.y) ∧ w'.cell? ⟨w.heap.size + 1, 7, none⟩ = some (.int .i64 y.m.a) ∧ w'.cell? ⟨w.heap.size + 1, 8, none⟩ = some (.bool y.m.t) ∧ w'.cell? ⟨w.heap.size + 1, 9, none⟩ = some (.slice y.pl y.m.ls.length y.cl) ∧ w'.cell? ⟨w.heap.size + 1, 10, none⟩ = some (.slice y.pn y.m.ns.length y.cn)) (by kernel_rfl) hS1 (fun hS0 => ?_)
    clear hS1
    generalize W2.drew = WDb at *
    clear hbd
    refine tkq 0 ?_
    refine tkq 1 ?_
    refine tkq 2 ?_
    refine tkq 5 ?_
    refine tkq 6 ?_
    refine tkq 7 ?_
    refine rdq 3 (fun K hK => ?_)
    have HG := Lib.hid (mine_any WDb (j : Int) (.slice y.pl y.m.ls.length y.cl) y.m.ls (HY.out.kept HB3.out).ls (by have := HYL.out; omega))
    go_simp
    go_at_call 44
    refine HG.out.mono ?_
    rintro y9 w4b ⟨v4, rfl, ho, hb⟩
    clear HG
    have HO2 := Lib.hid (HO2.out.kept hb)
    obtain ⟨p4, c4, hv4⟩ := ho.form
    rw [HLM.out] at hv4
    subst hv4
    clear ho
    have Hc4 := kbq Hc3 hb
    have Hm4 := kbq Hm3 hb
    have Hr4 := kbq Hr3 hb
    have Hx4 := kbq Hx3 hb
    have HB4 := ktq HB3 hb
    have HZ4 := kzq HZ3 hb.size
    clear Hc3 Hm3 Hr3 Hx3 HB3 HZ3
    clear hb hS0
    try go_wp2_with fail
    refine hK.out _ _ ⟨Hm4.out.cell 0, Hm4.out.cell 1, Hm4.out.cell 2, Hm4.out.cell 3, Hm4.out.cell 4, Hm4.out.cell 5, Hm4.out.cell 6, Hm4.out.cell 7, Hm4.out.cell 8, Hm4.out.cell 9, Hm4.out.cell 10⟩ (fun hS0 => ?_)
    clear hK K
    try simp only [Act.put, List.getElem_toArray, List.getElem_cons_succ, List.getElem_cons_zero, List.setIfInBounds_toArray, List.set_cons_zero, List.set_cons_succ]
    refine tkq 4 ?_
    refine tkq 8 ?_
    refine tkq 9 ?_
    refine wpAnyH_done (by kernel_rfl) ?_ _
    clear hS0
    go_upto_region 8 with fail
    clear hmiI
    have hbd := (Below.refl w4b.heap.size w4b).drew
    have Hc5 := kbq Hc4 hbd
    have Hm5 := kbq Hm4 hbd
    have Hr5 := kbq Hr4 hbd
    have Hx5 := kbq Hx4 hbd
    have HB5 := ktq HB4 hbd
    have HZ5 := kzq HZ4 hbd.size
    clear Hc4 Hm4 Hr4 Hx4 HB4 HZ4
    have hS1 : w4b.drew.cell? ⟨w.heap.size, 0, none⟩ = some (.int .i64 (N : Int)) ∧ w4b.drew.cell? ⟨w.heap.size, 1, none⟩ = some (.slice p n c) ∧ w4b.drew.cell? ⟨w.heap.size + 1, 0, none⟩ = some (.int .i64 y.m.k) ∧ w4b.drew.cell? ⟨w.heap.size + 1, 1, none⟩ = some (.int .i64 y.m.s) ∧ w4b.drew.cell? ⟨w.heap.size + 1, 2, none⟩ = some (.int .i64 y.m.n) ∧ w4b.drew.cell? ⟨w.heap.size + 1, 3, none⟩ = some (.int .i64 y.m.b) ∧ w4b.drew.cell? ⟨w.heap.size + 1, 4, none⟩ = some (.int .i64 y.m.c) ∧ w4b.drew.cell? ⟨w.heap.size + 1, 5, none⟩ = some (.int .i64 y.m.r) ∧ w4b.drew.cell? ⟨w.heap.size + 1, 6, none⟩ = some (.int .i64 y.m.y) ∧ w4b.drew.cell? ⟨w.heap.size + 1, 7, none⟩ = some (.int .i64 y.m.a) ∧ w4b.drew.cell? ⟨w.heap.size + 1, 8, none⟩ = some (.bool y.m.t) ∧ w4b.drew.cell? ⟨w.heap.size + 1, 9, none⟩ = some (.slice y.pl y.m.ls.length y.cl) ∧ w4b.drew.cell? ⟨w.heap.size + 1, 10, none⟩ = some (.slice y.pn y.m.ns.length y.cn) := ⟨Hc5.out.cell 0, Hc5.out.cell 1, Hm5.out.cell 0, Hm5.out.cell 1, Hm5.out.cell 2, Hm5.out.cell 3, Hm5.out.cell 4, Hm5.out.cell 5, Hm5.out.cell 6, Hm5.out.cell 7, Hm5.out.cell 8, Hm5.out.cell 9, Hm5.out.cell 10⟩
    have HO2 := Lib.hid (HO2.out.kept hbd)
    refine wp_region_held_drew (S := fun w' => w'.cell? ⟨w.heap.size, 0, none⟩ = some (.int .i64 (N : Int)) ∧ w'.cell? ⟨w.heap.size, 1, none⟩ = some (.slice p n c) ∧ w'.cell? ⟨w.heap.size + 1, 0, none⟩ = some (.int .i64 y.m.k) ∧ w'.cell? ⟨w.heap.size + 1, 1, none⟩ = some (.int .i64 y.m.s) ∧ w'.cell? ⟨w.heap.size + 1, 2, none⟩ = some (.int .i64 y.m.n) ∧ w'.cell? ⟨w.heap.size + 1, 3, none⟩ = some (.int .i64 y.m.b) ∧ w'.cell? ⟨w.heap.size + 1, 4, none⟩ = some (.int .i64 y.m.c) ∧ w'.cell? ⟨w.heap.size + 1, 5, none⟩ = some (.int .i64 y.m.r) ∧ w'.cell? ⟨w.heap.size + 1, 6, none⟩ = some (.int .i64 y.m.y) ∧ w'.cell? ⟨w.heap.size + 1, 7, none⟩ = some (.int .i64 y.m.a) ∧ w'.cell? ⟨w.heap.size + 1, 8, none⟩ = some (.bool y.m.t) ∧ w'.cell? ⟨w.heap.size + 1, 9, none⟩ = some (.slice y.pl y.m.ls.length y.cl) ∧ w'.cell? ⟨w.heap.size + 1, 10, none⟩ = some (.slice y.pn y.m.ns.length y.cn)) (by kernel_rfl) hS1 (fun hS0 => ?_)
    clear hS1
    generalize w4b.drew = WE at *
    clear hbd
    refine tkq 0 ?_
    refine tkq 2 ?_
    refine tkq 3 ?_
    refine rdq 1 (fun K hK => ?_)
    have HG := Lib.hid (entities_any WE (N : Int) p n c (by omega) (by have := HNN.out; omega))
    go_simp
    go_at_call 16
    refine HG.out.mono ?_
    rintro y9 w5 ⟨rfl, hb⟩
    clear HG
    have HO2 := Lib.hid (HO2.out.kept hb)
    have Hc6 := kbq Hc5 hb
    have Hm6 := kbq Hm5 hb
    have Hr6 := kbq Hr5 hb
    have Hx6 := kbq Hx5 hb
    have HB6 := ktq HB5 hb
    have HZ6 := kzq HZ5 hb.size
    clear Hc5 Hm5 Hr5 Hx5 HB5 HZ5
    clear hb hS0
    try go_wp2_with fail
    refine hK.out _ _ ⟨Hc6.out.cell 0, Hc6.out.cell 1, Hm6.out.cell 0, Hm6.out.cell 1, Hm6.out.cell 2, Hm6.out.cell 3, Hm6.out.cell 4, Hm6.out.cell 5, Hm6.out.cell 6, Hm6.out.cell 7, Hm6.out.cell 8, Hm6.out.cell 9, Hm6.out.cell 10⟩ (fun hS0 => ?_)
    clear hK K
    try simp only [Act.put, List.getElem_toArray, List.getElem_cons_succ, List.getElem_cons_zero, List.setIfInBounds_toArray, List.set_cons_zero, List.set_cons_succ]
    refine rdq 4 (fun K hK => ?_)
    have HG := Lib.hid (lfits_any w5 (N : Int) (.slice y.pl y.m.ls.length y.cl) y.m.ls (HY.out.kept HB6.out).ls (by have := HYL.out; omega))
    obtain ⟨fe, hfe⟩ : ∃ fe, fitE (N : Int) y.m.ls = fe := ⟨_, rfl⟩
    rw [hfe] at HG
    have HFQ := Lib.hid hfe
    clear hfe
    go_simp
    go_at_call 45
    refine HG.out.mono ?_
    rintro y9 w6 ⟨rfl, hb⟩
    clear HG
    have HO2 := Lib.hid (HO2.out.kept hb)
    have Hc7 := kbq Hc6 hb
    have Hm7 := kbq Hm6 hb
    have Hr7 := kbq Hr6 hb
    have Hx7 := kbq Hx6 hb
    have HB7 := ktq HB6 hb
    have HZ7 := kzq HZ6 hb.size
    clear Hc6 Hm6 Hr6 Hx6 HB6 HZ6
    clear hb hS0
    try go_wp2_with fail
    refine hK.out _ _ ⟨Hc7.out.cell 0, Hc7.out.cell 1, Hm7.out.cell 0, Hm7.out.cell 1, Hm7.out.cell 2, Hm7.out.cell 3, Hm7.out.cell 4, Hm7.out.cell 5, Hm7.out.cell 6, Hm7.out.cell 7, Hm7.out.cell 8, Hm7.out.cell 9, Hm7.out.cell 10⟩ (fun hS0 => ?_)
    clear hK K
    try simp only [Act.put, List.getElem_toArray, List.getElem_cons_succ, List.getElem_cons_zero, List.setIfInBounds_toArray, List.set_cons_zero, List.set_cons_succ]
    refine tkq 5 ?_
    refine wpAnyH_done (by kernel_rfl) ?_ _
    clear hS0
    by_cases hfe : fe = 0
    ·skip
     have HFE : Hid (fitE (N : Int) y.m.ls = 0) := Lib.hid (by rw [HFQ.out]; exact hfe)
     have hfb : (fe != 0) = false := by simpa using hfe
     clear hfe
     go_upto_region 11 with fail
     clear hfb
     have hbd := (Below.refl w6.heap.size w6).drew
     have Hc8 := kbq Hc7 hbd
     have Hm8 := kbq Hm7 hbd
     have Hr8 := kbq Hr7 hbd
     have Hx8 := kbq Hx7 hbd
     have HB8 := ktq HB7 hbd
     have HZ8 := kzq HZ7 hbd.size
     clear Hc7 Hm7 Hr7 Hx7 HB7 HZ7
     have hS1 : w6.drew.cell? ⟨gx, 0, none⟩ = some (.int .i64 r.cu) ∧ w6.drew.cell? ⟨gx, 1, none⟩ = some (.int .i64 r.st) ∧ w6.drew.cell? ⟨gx, 2, none⟩ = some (.slice (some ⟨g, 0, none⟩) r.hs.length N) ∧ w6.drew.cell? ⟨gx, 3, none⟩ = some (.slice pl r.ls.length cl) ∧ w6.drew.cell? ⟨gx, 4, none⟩ = some (.slice pn r.ns.length cn) ∧ w6.drew.cell? ⟨w.heap.size + 1, 0, none⟩ = some (.int .i64 y.m.k) ∧ w6.drew.cell? ⟨w.heap.size + 1, 1, none⟩ = some (.int .i64 y.m.s) ∧ w6.drew.cell? ⟨w.heap.size + 1, 2, none⟩ = some (.int .i64 y.m.n) ∧ w6.drew.cell? ⟨w.heap.size + 1, 3, none⟩ = some (.int .i64 y.m.b) ∧ w6.drew.cell? ⟨w.heap.size + 1, 4, none⟩ = some (.int .i64 y.m.c) ∧ w6.drew.cell? ⟨w.heap.size + 1, 5, none⟩ = some (.int .i64 y.m.r) ∧ w6.drew.cell? ⟨w.heap.size + 1, 6, none⟩ = some (.int .i64 y.m.y) ∧ w6.drew.cell? ⟨w.heap.size + 1, 7, none⟩ = some (.int .i64 y.m.a) ∧ w6.drew.cell? ⟨w.heap.size + 1, 8, none⟩ = some (.bool y.m.t) ∧ w6.drew.cell? ⟨w.heap.size + 1, 9, none⟩ = some (.slice y.pl y.m.ls.length y.cl) ∧ w6.drew.cell? ⟨w.heap.size + 1, 10, none⟩ = some (.slice y.pn y.m.ns.length y.cn) := ⟨Hx8.out.cell 0, Hx8.out.cell 1, Hx8.out.cell 2, Hx8.out.cell 3, Hx8.out.cell 4, Hm8.out.cell 0, Hm8.out.cell 1, Hm8.out.cell 2, Hm8.out.cell 3, Hm8.out.cell 4, Hm8.out.cell 5, Hm8.out.cell 6, Hm8.out.cell 7, Hm8.out.cell 8, Hm8.out.cell 9, Hm8.out.cell 10⟩
     have HO2 := Lib.hid (HO2.out.kept hbd)
     refine wp_region_held_drew (S := fun w' => w'.cell? ⟨gx, 0, none⟩ = some (.int .i64 r.cu) ∧ w'.cell? ⟨gx, 1, none⟩ = some (.int .i64 r.st) ∧ w'.cell? ⟨gx, 2, none⟩ = some (.slice (some ⟨g, 0, none⟩) r.hs.length N) ∧ w'.cell? ⟨gx, 3, none⟩ = some (.slice pl r.ls.length cl) ∧ w'.cell? ⟨gx, 4, none⟩ = some (.slice pn r.ns.length cn) ∧ w'.cell? ⟨w.heap.size + 1, 0, none⟩ = some (.int .i64 y.m.k) ∧ w'.cell? ⟨w.heap.size + 1, 1, none⟩ = some (.int .i64 y.m.s) ∧ w'.cell? ⟨w.heap.size + 1, 2, none⟩ = some (.int .i64 y.m.n) ∧ w'.cell? ⟨w.heap.size + 1, 3, none⟩ = some (.int .i64 y.m.b) ∧ w'.cell? ⟨w.heap.size + 1, 4, none⟩ = some (.int .i64 y.m.c) ∧ w'.cell? ⟨w.heap.size + 1, 5, none⟩ = some (.int .i64 y.m.r) ∧ w'.cell? ⟨w.heap.size + 1, 6, none⟩ = some (.int .i64 y.m.y) ∧ w'.cell? ⟨w.heap.size + 1, 7, none⟩ = some (.int .i64 y.m.a) ∧ w'.cell? ⟨w.heap.size + 1, 8, none⟩ = some (.bool y.m.t) ∧ w'.cell? ⟨w.heap.size + 1, 9, none⟩ = some (.slice y.pl y.m.ls.length y.cl) ∧ w'.cell? ⟨w.heap.size + 1, 10, none⟩ = some (.slice y.pn y.m.ns.length y.cn)) (by kernel_rfl) hS1 (fun hS0 => ?_)
     clear hS1
     generalize w6.drew = WF at *
     clear hbd
     refine tkq 0 ?_
     refine tkq 1 ?_
     refine tkq 2 ?_
     refine tkq 3 ?_
     refine tkq 4 ?_
     refine tkq 5 ?_
     refine tkq 6 ?_
     refine tkq 7 ?_
     refine rdq 8 (fun K hK => ?_)
     have HG := Lib.hid (cloneNc_any WF (.slice y.pl y.m.ls.length y.cl) y.m.ls (HY.out.kept HB8.out).ls (by have := HYL.out; omega))
     go_simp
     go_at_call 23
     refine HG.out.mono ?_
     rintro y9 w7 ⟨v7, rfl, ho, hb⟩
     clear HG
     have HO2 := Lib.hid (HO2.out.kept hb)
     have HNL := Lib.hid ho
     have HGF : Hid (gx < WF.heap.size ∧ W.heap.size ≤ WF.heap.size) := Lib.hid ⟨Hx8.out.lt, by have := Hr8.out.lt; have h1 := HW1.out; have h2 := Hx8.out.lt; omega⟩
     clear ho
     obtain ⟨p7, c7, hv7⟩ := HNL.out.form
     obtain ⟨l7, hl7⟩ : ∃ l7, y.m.ls.length = l7 := ⟨_, rfl⟩
     rw [hl7] at hv7
     subst hv7
     have HL7 := Lib.hid hl7
     clear hl7
     have Hc9 := kbq Hc8 hb
     have Hm9 := kbq Hm8 hb
     have Hr9 := kbq Hr8 hb
     have Hx9 := kbq Hx8 hb
     have HB9 := ktq HB8 hb
     have HZ9 := kzq HZ8 hb.size
     clear Hc8 Hm8 Hr8 Hx8 HB8 HZ8
     clear hb hS0
     try go_wp2_with fail
     refine hK.out _ _ ⟨Hx9.out.cell 0, Hx9.out.cell 1, Hx9.out.cell 2, Hx9.out.cell 3, Hx9.out.cell 4, Hm9.out.cell 0, Hm9.out.cell 1, Hm9.out.cell 2, Hm9.out.cell 3, Hm9.out.cell 4, Hm9.out.cell 5, Hm9.out.cell 6, Hm9.out.cell 7, Hm9.out.cell 8, Hm9.out.cell 9, Hm9.out.cell 10⟩ (fun hS0 => ?_)
     clear hK K
     try simp only [Act.put, List.getElem_toArray, List.getElem_cons_succ, List.getElem_cons_zero, List.setIfInBounds_toArray, List.set_cons_zero, List.set_cons_succ]
     refine tkq 9 ?_
     refine tkq 10 ?_
     refine rdq 11 (fun K hK => ?_)
     obtain ⟨xq, hxq, hcq, _⟩ := HO2.out.hs.at1 j HJL.out
     have z9 : w7.cell? ⟨g, j * 3, none⟩ = xq.cells[0]? := (hcq 0 (by decide)).1
     have z9 : w7.cell? ⟨g, j * 3, none⟩ = some (.bool xq.h.o) := z9
     have f9 : w7.frozen? ⟨g, j * 3, none⟩ = false := (hcq 0 (by decide)).2
     clear hxq hcq
     go_simp
     clear z9 f9
     have hch := Lib.hid ((Chg.refl g w7).set (j * 3) (.bool true))
     have HB10 := ksq HB9 hch (by show w.heap.size ≤ g; have := HWL.out; have := HW1.out; have := HGL.out; omega)
     have HZ10 := kzq HZ9 hch.out.size
     have Hc10 := kcq Hc9 hch (by have := HWL.out; have := HW1.out; have := HGL.out; omega)
     have Hm10 := kcq Hm9 hch (by have := HWL.out; have := HW1.out; have := HGL.out; omega)
     have Hr10 := kcq Hr9 hch (by have := HWL.out; have := HW1.out; have := HGL.out; omega)
     have Hx10 := kcq Hx9 hch (by have := HWL.out; have := HW1.out; have := HGL.out; omega)
     have HGP : Hid (¬ (fun b => P b ∨ (W.heap.size ≤ b ∧ b ≠ g)) g) := Lib.hid (fun h => h.elim (fun h => by have := HPW.out g h; have := HWL.out; have := HW1.out; have := HGL.out; omega) (fun h => h.2 rfl))
     obtain ⟨q1, hq1⟩ : ∃ q1 : Hd, q1 = ⟨true, xo.h.t, xo.h.ls⟩ := ⟨_, rfl⟩
     have HQ1 := Lib.hid hq1
     have HOa : Hid (RunO (fun b => P b ∨ (W.heap.size ≤ b ∧ b ≠ g)) (w7.setCell ⟨g, j * 3, none⟩ (.bool true)) W.heap.size N ⟨{ r with hs := r.hs.set j q1 }, some ⟨g, 0, none⟩, N, pl, cl, pn, cn⟩) := Lib.hid ((HO2.out.imp (fun b h => .inl h)).put1 j 0 HJL.out (by decide) (.bool true) q1 HGP.out (fun x h1 h2 => ⟨⟨⟨true, x.h.t, x.h.ls⟩, x.p, x.c⟩, by rw [HXQ.out x h1]; exact hq1.symm, rfl, h2⟩))
     have HJL2 : Hid (j < ({ r with hs := r.hs.set j q1 } : Rn).hs.length) := Lib.hid (by show j < (r.hs.set j q1).length; rw [List.length_set]; exact HJL.out)
     have HNL := Lib.hid (HNL.out.stay (fun b hb => hch.out.2 b (HNL.out.lt b hb) (by have h1 := HNL.out.block_ge b hb; have := HGF.out; have := HWL.out; have := HW1.out; have := HGL.out; omega)))
     clear hq1 HO2
     clear hch hS0 Hc9 Hm9 Hr9 Hx9 HB9 HZ9
     generalize (w7.setCell ⟨g, j * 3, none⟩ (.bool true)) = WG at *
     refine hK.out _ _ ⟨Hx10.out.cell 0, Hx10.out.cell 1, Hx10.out.cell 2, Hx10.out.cell 3, Hx10.out.cell 4, Hm10.out.cell 0, Hm10.out.cell 1, Hm10.out.cell 2, Hm10.out.cell 3, Hm10.out.cell 4, Hm10.out.cell 5, Hm10.out.cell 6, Hm10.out.cell 7, Hm10.out.cell 8, Hm10.out.cell 9, Hm10.out.cell 10⟩ (fun hS0 => ?_)
     clear hK K
     try simp only [Act.put, List.getElem_toArray, List.getElem_cons_succ, List.getElem_cons_zero, List.setIfInBounds_toArray, List.set_cons_zero, List.set_cons_succ]
     refine tkq 12 ?_
     refine tkq 13 ?_
     refine rdq 14 (fun K hK => ?_)
     obtain ⟨xq, hxq, hcq, _⟩ := HOa.out.hs.at1 j HJL2.out
     have z9 : WG.cell? ⟨g, j * 3 + 2, none⟩ = xq.cells[2]? := (hcq 2 (by decide)).1
     have z9 : WG.cell? ⟨g, j * 3 + 2, none⟩ = some (.slice xq.p xq.h.ls.length xq.c) := z9
     have f9 : WG.frozen? ⟨g, j * 3 + 2, none⟩ = false := (hcq 2 (by decide)).2
     clear hxq hcq
     go_simp
     clear z9 f9
     have hch := Lib.hid ((Chg.refl g WG).set (j * 3 + 2) (.slice p7 l7 c7))
     have HB11 := ksq HB10 hch (by show w.heap.size ≤ g; have := HWL.out; have := HW1.out; have := HGL.out; omega)
     have HZ11 := kzq HZ10 hch.out.size
     have Hc11 := kcq Hc10 hch (by have := HWL.out; have := HW1.out; have := HGL.out; omega)
     have Hm11 := kcq Hm10 hch (by have := HWL.out; have := HW1.out; have := HGL.out; omega)
     have Hr11 := kcq Hr10 hch (by have := HWL.out; have := HW1.out; have := HGL.out; omega)
     have Hx11 := kcq Hx10 hch (by have := HWL.out; have := HW1.out; have := HGL.out; omega)
     have HO3 : Hid (RunO (fun b => P b ∨ (W.heap.size ≤ b ∧ b ≠ g)) (WG.setCell ⟨g, j * 3 + 2, none⟩ (.slice p7 l7 c7)) W.heap.size N ⟨r.offer j y.m.ls, some ⟨g, 0, none⟩, N, pl, cl, pn, cn⟩) := Lib.hid (by
      have h1 := HOa.out.put1 j 2 HJL2.out (by decide) (.slice p7 l7 c7) ⟨true, xo.h.t, y.m.ls⟩ HGP.out (fun x h1 h2 => ⟨⟨⟨true, xo.h.t, y.m.ls⟩, p7, c7⟩, rfl, by
       have h3 : ({ r with hs := r.hs.set j q1 } : Rn).hs[j]'HJL2.out = q1 := by show (r.hs.set j q1)[j]'_ = q1; rw [List.getElem_set_self]
       rw [h3, HQ1.out] at h1
       show [.bool true, .bool xo.h.t, .slice p7 y.m.ls.length c7] = [Value.bool x.h.o, .bool x.h.t, .slice x.p x.h.ls.length x.c].set 2 _
       rw [h1, HL7.out]
       rfl, ⟨by rw [show (⟨⟨true, xo.h.t, y.m.ls⟩, p7, c7⟩ : HdX).h.ls.length = l7 from HL7.out]; exact HNL.out.row, by
        have h4 := HNL.out.at_lt
        rw [HL7.out] at h4
        show At _ (.slice p7 y.m.ls.length c7) y.m.ls.length
        rw [HL7.out]
        exact h4.imp (fun b h => .inr ⟨by have := HGF.out; omega, by have := HGF.out; have := HGL.out; omega⟩)⟩⟩)
      have h2 : r.offer j y.m.ls = { r with hs := (r.hs.set j q1).set j ⟨true, xo.h.t, y.m.ls⟩ } := by
       unfold Rn.offer
       rw [HXO.out, List.set_set]
      rw [h2]
      exact h1)
     have HVL : Hid ((r.offer j y.m.ls).hs.length = r.hs.length) := Lib.hid (by unfold Rn.offer; rw [List.length_set])
     have HVS : Hid ((r.offer j y.m.ls).cu = r.cu ∧ (r.offer j y.m.ls).st = r.st ∧ (r.offer j y.m.ls).ls = r.ls ∧ (r.offer j y.m.ls).ns = r.ns) := Lib.hid ⟨rfl, rfl, rfl, rfl⟩
     clear HOa HNL HJL2 HQ1
     clear hch hS0 Hc10 Hm10 Hr10 Hx10 HB10 HZ10
     generalize (WG.setCell ⟨g, j * 3 + 2, none⟩ (.slice p7 l7 c7)) = WV at *
     refine hK.out _ _ ⟨Hx11.out.cell 0, Hx11.out.cell 1, Hx11.out.cell 2, Hx11.out.cell 3, Hx11.out.cell 4, Hm11.out.cell 0, Hm11.out.cell 1, Hm11.out.cell 2, Hm11.out.cell 3, Hm11.out.cell 4, Hm11.out.cell 5, Hm11.out.cell 6, Hm11.out.cell 7, Hm11.out.cell 8, Hm11.out.cell 9, Hm11.out.cell 10⟩ (fun hS0 => ?_)
     clear hK K
     try simp only [Act.put, List.getElem_toArray, List.getElem_cons_succ, List.getElem_cons_zero, List.setIfInBounds_toArray, List.set_cons_zero, List.set_cons_succ]
     refine wpAnyH_done (by kernel_rfl) ?_ _
     clear hS0
     have HFV : Hid (∀ h ∈ (r.offer j y.m.ls).hs, fitE (N : Int) h.ls = 0 ∧ h.ls.length ≤ 60) := Lib.hid (fun h hh => by
      have hh : h ∈ r.hs.set j ⟨true, (r.hs.getD j hd0).t, y.m.ls⟩ := hh
      rcases List.mem_or_eq_of_mem_set hh with h1 | h1
      ·exact HFT.out r (List.mem_of_getElem? HXS.out) h h1
      ·subst h1; exact ⟨HFE.out, HYL.out⟩)
     obtain ⟨v, hv⟩ : ∃ v, r.offer j y.m.ls = v := ⟨_, rfl⟩
     rw [hv] at HO3 HVL HVS HFV
     have HV := Lib.hid hv
     clear hv hjN hjC
     have Hxx : Hid (Blk WV gx #[.int .i64 v.cu, .int .i64 v.st, .slice (some ⟨g, 0, none⟩) v.hs.length N, .slice pl v.ls.length cl, .slice pn v.ns.length cn] 56) := Lib.hid (by rw [HVL.out, HVS.out.1, HVS.out.2.1, HVS.out.2.2.1, HVS.out.2.2.2]; exact Hx11.out)
     clear Hx11
     have Hx11 := Hxx
     clear Hxx
     go_upto_region 12 with fail
     obtain ⟨ys, hy1, hy2, hy3⟩ := HO3.out.hs
     have HYS := Lib.hid hy1.row
     have HYI : Hid (∀ x ∈ ys, ∃ Q, x.In Q WV) := Lib.hid (fun x hx => ⟨_, hy2 x hx⟩)
     have HYN : Hid (ys.length ≤ 8) := Lib.hid (by have h1 := congrArg List.length hy3; rw [List.length_map] at h1; have h1 : ys.length = v.hs.length := h1; have := HVL.out; have := HLR.out; have := HNN.out; omega)
     have HYA : Hid (ys.any (fun x => !x.h.o) = v.hs.any (fun h => !h.o)) := Lib.hid (by have hy3 : ys.map HdX.h = v.hs := hy3; rw [← hy3, List.any_map]; rfl)
     clear hy1 hy2 hy3
     have HG := Lib.hid (has_offer WV (.slice (some ⟨g, 0, none⟩) v.hs.length N) ys (fun x => !x.h.o) WV.heap.size HYS.out HYI.out (fun W0 hW0 x0 hx0 => noO_any W0 x0) (Nat.le_refl _) (by have := HYN.out; omega))
     rw [HYA.out] at HG
     obtain ⟨ba, hba⟩ : ∃ ba, v.hs.any (fun h => !h.o) = ba := ⟨_, rfl⟩
     rw [hba] at HG
     have HBA := Lib.hid hba
     clear hba HYS HYI HYA HYN
     have x2 : WV.cell? ⟨gx, 2, none⟩ = some (.slice (some ⟨g, 0, none⟩) v.hs.length N) := Hx11.out.cell 2
     go_wp2_with fail
     clear x2
     refine HG.out.mono ?_
     rintro y9 w8 ⟨rfl, hb⟩
     clear HG
     have HO4 := Lib.hid (HO3.out.kept hb)
     clear HO3
     have Hc12 := kbq Hc11 hb
     have Hm12 := kbq Hm11 hb
     have Hr12 := kbq Hr11 hb
     have Hx12 := kbq Hx11 hb
     have HB12 := ktq HB11 hb
     have HZ12 := kzq HZ11 hb.size
     clear Hc11 Hm11 Hr11 Hx11 HB11 HZ11
     clear hb
     cases ba
     ·skip
      have HE : Hid (offerC N rs y.m j = (rs.set (y.m.y - 1).toNat (v.rec_ N), toAllL N (prepM y.m.y (v.rec_ N)), 0)) := by show _ = _; unfold offerC; rw [HX.out, if_neg (by rw [HBS.out]; decide), if_neg (by rw [HXO.out, HBO.out]; decide), if_neg HMI.out, if_neg (fun h => h HFE.out), HV.out, if_neg (by rw [HBA.out]; decide)]
      go_upto_region 14 with fail
      have HGX : Hid (W.heap.size ≤ w8.heap.size) := Lib.hid (by have := Hx12.out.lt; have := HW1.out; omega)
      have HG := Lib.hid (creckon_any w8 (fun b => P b ∨ (W.heap.size ≤ b ∧ b < w8.heap.size)) N y.m.y p n c rs (⟨v, some ⟨g, 0, none⟩, N, pl, cl, pn, cn⟩ : RunX) ((HRS.out.kept HB12.out).imp (fun b h => .inl h)) (fun b h => h.elim (fun h1 => Nat.lt_of_lt_of_le (HPW.out b h1) HZ12.out) (fun h1 => h1.2)) HKK.out.1 HKK.out.2.1 HKK.out.2.2.1 HKK.out.2.2.2 (((HO4.out.imp (Q := fun b => P b ∨ W.heap.size ≤ b) (fun b h => h.imp id (fun h => h.1))).in_ (fun b h1 _ => .inr h1)).lt.imp (fun b h => h.1.imp id (fun h1 => ⟨h1, h.2⟩))) HNN.out.1 HNN.out.2 (HVL.out.trans HLR.out) HFV.out)
      unfold CPost at HG
      rw [RunX.v_mk] at HG
      have a0 : w8.cell? ⟨w.heap.size, 0, none⟩ = some (.int .i64 (N : Int)) := Hc12.out.cell 0
      have a1 : w8.cell? ⟨w.heap.size, 1, none⟩ = some (.slice p n c) := Hc12.out.cell 1
      have m6 : w8.cell? ⟨(w.heap.size + 1), 6, none⟩ = some (.int .i64 y.m.y) := Hm12.out.cell 6
      have x0 : w8.cell? ⟨gx, 0, none⟩ = some (.int .i64 v.cu) := Hx12.out.cell 0
      have x1 : w8.cell? ⟨gx, 1, none⟩ = some (.int .i64 v.st) := Hx12.out.cell 1
      have x2 : w8.cell? ⟨gx, 2, none⟩ = some (.slice (some ⟨g, 0, none⟩) v.hs.length N) := Hx12.out.cell 2
      have x3 : w8.cell? ⟨gx, 3, none⟩ = some (.slice pl v.ls.length cl) := Hx12.out.cell 3
      have x4 : w8.cell? ⟨gx, 4, none⟩ = some (.slice pn v.ns.length cn) := Hx12.out.cell 4
      go_wp2_with fail
      clear a0 a1 m6 x0 x1 x2 x3 x4
      refine HG.out.mono ?_
      rintro y9 w9 ⟨p3, n3, c3, pv3, nv3, cv3, B3, rfl, hn3, hnv3, hB3, hq3, hs3, hb⟩
      clear HG
      have HN3 := Lib.hid (And.intro hn3 hnv3)
      have HBB : Hid (w8.heap.size ≤ B3) := Lib.hid hB3
      have HQQ := Lib.hid hq3
      have HSS := Lib.hid hs3
      clear hn3 hnv3 hB3 hq3 hs3
      have Hc13 := kbq Hc12 hb
      have Hm13 := kbq Hm12 hb
      have Hr13 := kbq Hr12 hb
      have Hx13 := kbq Hx12 hb
      have HB13 := ktq HB12 hb
      have HZ13 := kzq HZ12 hb.size
      clear Hc12 Hm12 Hr12 Hx12 HB12 HZ12
      clear hb
      go_wp2_with (with_reducible refine stop_storeT 27 (.tmp 6) (.tmp 74) rfl ?_)
      have HTH : Hid (w9.there (w.heap.size + 1 + 1) 0 2) := Hr13.out.thereAt
      have hch : Hid (Chg (w.heap.size + 1 + 1) w9 (w9.setCells (w.heap.size + 1 + 1) 0 (#[.int .i64 (N : Int), .slice p3 n3 c3] : Array Value).toList)) := Lib.hid (chg_putL _ _ _ _ _ (Chg.refl _ w9))
      have Hr14 : Hid (Blk (w9.setCells (w.heap.size + 1 + 1) 0 (#[.int .i64 (N : Int), .slice p3 n3 c3] : Array Value).toList) (w.heap.size + 1 + 1) #[.int .i64 (N : Int), .slice p3 n3 c3] 27) := Lib.hid (blk_put_all Hr13.out _ rfl)
      have HB14 : Hid (Below w.heap.size w (w9.setCells (w.heap.size + 1 + 1) 0 (#[.int .i64 (N : Int), .slice p3 n3 c3] : Array Value).toList)) := Lib.hid (below_put (by have := HWL.out; have := HW1.out; have := HGL.out; omega) _ _ _ _ HB13.out)
      have HZ14 := kzq HZ13 hch.out.size
      have Hc14 := kcq Hc13 hch (by have := HWL.out; have := HW1.out; have := HGL.out; omega)
      have Hm14 := kcq Hm13 hch (by have := HWL.out; have := HW1.out; have := HGL.out; omega)
      have Hx14 := kcq Hx13 hch (by have := HWL.out; have := HW1.out; have := HGL.out; omega)
      have HST := Lib.hid (HSS.out.chgS hch.out (by have := HBB.out; have := HWL.out; have := HGX.out; omega))
      have HQR := Lib.hid ((HQQ.out.imp (Q := fun b => b ≠ w.heap.size + 1 + 1 ∧ (P b ∨ (w.heap.size ≤ b ∧ b < B3))) (fun b h => by
       have h5 := HBB.out
       have h6 := HWL.out
       have h7 := HGX.out
       rcases h with (h1 | h1) | h1
       ·have := HPW.out _ h1
        exact ⟨by omega, .inl h1⟩
       ·exact ⟨by omega, .inr (by omega)⟩
       ·exact ⟨by omega, .inr (by omega)⟩)).keepP (KeepP.of_chg hch.out (by rintro ⟨h, _⟩; exact h rfl)))
      clear HSS HQQ
      clear hch Hc13 Hm13 Hr13 Hx13 HB13 HZ13
      refine wpList_store_mid rfl 27 (.tmp 6) (.tmp 74) rfl (w.heap.size + 1 + 1) 0 #[.int .i64 (N : Int), .slice p3 n3 c3] rfl rfl HTH.out (infoC2 rfl) (all_oneCell_toArray (by intro u hu; simp at hu; rcases hu with rfl | rfl <;> rfl)) ?_
      generalize (w9.setCells (w.heap.size + 1 + 1) 0 (#[.int .i64 (N : Int), .slice p3 n3 c3] : Array Value).toList) = W9q at *
      clear HTH
      go_wp2_with fail
      have hfr := Hr14.out
      refine bodyPost_ret (v := .tuple #[.agg #[.int .i64 (N : Int), .slice p3 n3 c3], .slice pv3 nv3 cv3, .int .i64 0]) (by simp [results, Try.results29, go_sem, hfr.cell 0, hfr.cell 1]) rfl (by rw [HE.out]; exact ⟨p3, n3, c3, pv3, nv3, cv3, B3, rfl, HN3.out.1, HN3.out.2, by have := HBB.out; have := HWL.out; have := HGX.out; omega, HQR.out.imp (fun b h => h.2), HST.out, HB14.out⟩)
     ·skip
      have HE : Hid (offerC N rs y.m j = (rs.set (y.m.y - 1).toNat v, [], 0)) := by show _ = _; unfold offerC; rw [HX.out, if_neg (by rw [HBS.out]; decide), if_neg (by rw [HXO.out, HBO.out]; decide), if_neg HMI.out, if_neg (fun h => h HFE.out), HV.out, if_pos HBA.out]
      go_upto_region 13 with fail
      have HGX : Hid (W.heap.size ≤ w8.heap.size) := Lib.hid (by have := Hx12.out.lt; have := HW1.out; omega)
      have HG := Lib.hid (cwith_any w8 (fun b => P b ∨ (W.heap.size ≤ b ∧ b < w8.heap.size)) (N : Int) y.m.y p n c rs (⟨v, some ⟨g, 0, none⟩, N, pl, cl, pn, cn⟩ : RunX) ((HRS.out.kept HB12.out).imp (fun b h => .inl h)) HKK.out.1 HKK.out.2.1 HKK.out.2.2.1 HKK.out.2.2.2 (((HO4.out.imp (Q := fun b => P b ∨ W.heap.size ≤ b) (fun b h => h.imp id (fun h => h.1))).in_ (fun b h1 _ => .inr h1)).lt.imp (fun b h => h.1.imp id (fun h1 => ⟨h1, h.2⟩))))
      rw [RunX.v_mk] at HG
      have a0 : w8.cell? ⟨w.heap.size, 0, none⟩ = some (.int .i64 (N : Int)) := Hc12.out.cell 0
      have a1 : w8.cell? ⟨w.heap.size, 1, none⟩ = some (.slice p n c) := Hc12.out.cell 1
      have m6 : w8.cell? ⟨(w.heap.size + 1), 6, none⟩ = some (.int .i64 y.m.y) := Hm12.out.cell 6
      have x0 : w8.cell? ⟨gx, 0, none⟩ = some (.int .i64 v.cu) := Hx12.out.cell 0
      have x1 : w8.cell? ⟨gx, 1, none⟩ = some (.int .i64 v.st) := Hx12.out.cell 1
      have x2 : w8.cell? ⟨gx, 2, none⟩ = some (.slice (some ⟨g, 0, none⟩) v.hs.length N) := Hx12.out.cell 2
      have x3 : w8.cell? ⟨gx, 3, none⟩ = some (.slice pl v.ls.length cl) := Hx12.out.cell 3
      have x4 : w8.cell? ⟨gx, 4, none⟩ = some (.slice pn v.ns.length cn) := Hx12.out.cell 4
      go_wp2_with fail
      clear a0 a1 m6 x0 x1 x2 x3 x4
      refine HG.out.mono ?_
      rintro y9 w5 ⟨p3, c3, rfl, hq3, hb⟩
      clear HG
      have HQQ := Lib.hid hq3.lt
      have HBB : Hid (w8.heap.size ≤ w5.heap.size) := Lib.hid hb.size
      clear hq3
      have Hc13 := kbq Hc12 hb
      have Hm13 := kbq Hm12 hb
      have Hr13 := kbq Hr12 hb
      have Hx13 := kbq Hx12 hb
      have HB13 := ktq HB12 hb
      have HZ13 := kzq HZ12 hb.size
      clear Hc12 Hm12 Hr12 Hx12 HB12 HZ12
      clear hb
      go_wp2_with (with_reducible refine stop_storeT 27 (.tmp 6) (.tmp 68) rfl ?_)
      have HTH : Hid (w5.there (w.heap.size + 1 + 1) 0 2) := Hr13.out.thereAt
      have hch : Hid (Chg (w.heap.size + 1 + 1) w5 (w5.setCells (w.heap.size + 1 + 1) 0 (#[.int .i64 (N : Int), .slice p3 n c3] : Array Value).toList)) := Lib.hid (chg_putL _ _ _ _ _ (Chg.refl _ w5))
      have Hr14 : Hid (Blk (w5.setCells (w.heap.size + 1 + 1) 0 (#[.int .i64 (N : Int), .slice p3 n c3] : Array Value).toList) (w.heap.size + 1 + 1) #[.int .i64 (N : Int), .slice p3 n c3] 27) := Lib.hid (blk_put_all Hr13.out _ rfl)
      have HB14 : Hid (Below w.heap.size w (w5.setCells (w.heap.size + 1 + 1) 0 (#[.int .i64 (N : Int), .slice p3 n c3] : Array Value).toList)) := Lib.hid (below_put (by have := HWL.out; have := HW1.out; have := HGL.out; omega) _ _ _ _ HB13.out)
      have HZ14 := kzq HZ13 hch.out.size
      have Hc14 := kcq Hc13 hch (by have := HWL.out; have := HW1.out; have := HGL.out; omega)
      have Hm14 := kcq Hm13 hch (by have := HWL.out; have := HW1.out; have := HGL.out; omega)
      have Hx14 := kcq Hx13 hch (by have := HWL.out; have := HW1.out; have := HGL.out; omega)
      have HQR := Lib.hid ((HQQ.out.imp (Q := fun b => b ≠ w.heap.size + 1 + 1 ∧ (P b ∨ (w.heap.size ≤ b ∧ b < w5.heap.size))) (fun b h => by
       have h5 := HBB.out
       have h6 := HWL.out
       have h7 := HGX.out
       obtain ⟨h, h9⟩ := h
       rcases h with (h1 | h1) | h1
       ·have := HPW.out _ h1
        exact ⟨by omega, .inl h1⟩
       ·exact ⟨by omega, .inr (by omega)⟩
       ·exact ⟨by omega, .inr (by omega)⟩)).keepP (KeepP.of_chg hch.out (by rintro ⟨h, _⟩; exact h rfl)))
      clear HQQ
      clear hch Hc13 Hm13 Hr13 Hx13 HB13 HZ13
      refine wpList_store_mid rfl 27 (.tmp 6) (.tmp 68) rfl (w.heap.size + 1 + 1) 0 #[.int .i64 (N : Int), .slice p3 n c3] rfl rfl HTH.out (infoC2 rfl) (all_oneCell_toArray (by intro u hu; simp at hu; rcases hu with rfl | rfl <;> rfl)) ?_
      generalize (w5.setCells (w.heap.size + 1 + 1) 0 (#[.int .i64 (N : Int), .slice p3 n c3] : Array Value).toList) = W9w at *
      clear HTH
      go_wp2_with fail
      have hfr := Hr14.out
      refine bodyPost_ret (v := .tuple #[.agg #[.int .i64 (N : Int), .slice p3 n c3], .slice none 0 0, .int .i64 0]) (by simp [results, Try.results29, go_sem, hfr.cell 0, hfr.cell 1]) rfl (by rw [HE.out]; exact ⟨p3, n, c3, none, 0, 0, w5.heap.size, rfl, by rw [List.length_set]; exact HKK.out.1, rfl, by have := HBB.out; have := HGX.out; have := HWL.out; omega, HQR.out.imp (fun b h => h.2), SaidL.nil_ _ _, HB14.out⟩)
    ·skip
     have HFE : Hid (fitE (N : Int) y.m.ls ≠ 0) := Lib.hid (by rw [HFQ.out]; exact hfe)
     have hfb : (fe != 0) = true := by simpa using hfe
     clear hfe
     have HE : Hid (offerC N rs y.m j = (rs, [], fe)) := by show _ = _; unfold offerC; rw [HX.out, if_neg (by rw [HBS.out]; decide), if_neg (by rw [HXO.out, HBO.out]; decide), if_neg HMI.out, if_pos HFE.out, HFQ.out]
     go_upto_region 10 with fail
     clear hfb hjN hjC
     have a0 : w6.cell? ⟨w.heap.size, 0, none⟩ = some (.int .i64 (N : Int)) := Hc7.out.cell 0
     have a1 : w6.cell? ⟨w.heap.size, 1, none⟩ = some (.slice p n c) := Hc7.out.cell 1
     go_wp2_with (with_reducible refine stop_storeT 27 (.tmp 6) (.tmp 46) rfl ?_)
     clear a0 a1
     have HTH : Hid (w6.there (w.heap.size + 1 + 1) 0 2) := Hr7.out.thereAt
     have hch : Hid (Chg (w.heap.size + 1 + 1) w6 (w6.setCells (w.heap.size + 1 + 1) 0 (#[.int .i64 (N : Int), .slice p n c] : Array Value).toList)) := Lib.hid (chg_putL _ _ _ _ _ (Chg.refl _ w6))
     have Hr8 : Hid (Blk (w6.setCells (w.heap.size + 1 + 1) 0 (#[.int .i64 (N : Int), .slice p n c] : Array Value).toList) (w.heap.size + 1 + 1) #[.int .i64 (N : Int), .slice p n c] 27) := Lib.hid (blk_put_all Hr7.out _ rfl)
     have HB8 : Hid (Below w.heap.size w (w6.setCells (w.heap.size + 1 + 1) 0 (#[.int .i64 (N : Int), .slice p n c] : Array Value).toList)) := Lib.hid (below_put (by have := HWL.out; have := HW1.out; have := HGL.out; omega) _ _ _ _ HB7.out)
     have HZ8 := kzq HZ7 hch.out.size
     have Hc8 := kcq Hc7 hch (by have := HWL.out; have := HW1.out; have := HGL.out; omega)
     have Hm8 := kcq Hm7 hch (by have := HWL.out; have := HW1.out; have := HGL.out; omega)
     have Hx8 := kcq Hx7 hch (by have := HWL.out; have := HW1.out; have := HGL.out; omega)
     clear hch Hc7 Hm7 Hr7 Hx7 HB7 HZ7
     refine wpList_store_mid rfl 27 (.tmp 6) (.tmp 46) rfl (w.heap.size + 1 + 1) 0 #[.int .i64 (N : Int), .slice p n c] rfl rfl HTH.out (infoC2 rfl) (all_oneCell_toArray (by intro u hu; simp at hu; rcases hu with rfl | rfl <;> rfl)) ?_
     generalize (w6.setCells (w.heap.size + 1 + 1) 0 (#[.int .i64 (N : Int), .slice p n c] : Array Value).toList) = W9f at *
     clear HTH
     go_wp2_with fail
     have hfr := Hr8.out
     refine bodyPost_ret (v := .tuple #[.agg #[.int .i64 (N : Int), .slice p n c], .slice none 0 0, .int .i64 fe]) (by simp [results, Try.results29, go_sem, hfr.cell 0, hfr.cell 1]) rfl (by rw [HE.out]; exact ⟨p, n, c, none, 0, 0, W9f.heap.size, rfl, HKK.out.1, rfl, HZ8.out, (HRS.out.kept HB8.out).imp (fun b h => .inl h), SaidL.nil_ _ _, HB8.out⟩)
  ·skip
   have x2 : W2.cell? ⟨gx, 2, none⟩ = some (.slice (some ⟨g, 0, none⟩) r.hs.length N) := Hx2.out.cell 2
   have HE : Hid (offerC N rs y.m j = (rs, [], 5)) := by show _ = _; unfold offerC; rw [HX.out, if_neg (by rw [HBS.out]; decide), if_pos (by rw [HXO.out, HBO.out])]
   go_upto_region 5 with fail
   clear x2 z1 hjN hjC
   have a0 : W2.cell? ⟨w.heap.size, 0, none⟩ = some (.int .i64 (N : Int)) := Hc2.out.cell 0
   have a1 : W2.cell? ⟨w.heap.size, 1, none⟩ = some (.slice p n c) := Hc2.out.cell 1
   go_wp2_with (with_reducible refine stop_storeT 27 (.tmp 6) (.tmp 27) rfl ?_)
   clear a0 a1
   have HTH : Hid (W2.there (w.heap.size + 1 + 1) 0 2) := Hr2.out.thereAt
   have hch : Hid (Chg (w.heap.size + 1 + 1) W2 (W2.setCells (w.heap.size + 1 + 1) 0 (#[.int .i64 (N : Int), .slice p n c] : Array Value).toList)) := Lib.hid (chg_putL _ _ _ _ _ (Chg.refl _ W2))
   have Hr3 : Hid (Blk (W2.setCells (w.heap.size + 1 + 1) 0 (#[.int .i64 (N : Int), .slice p n c] : Array Value).toList) (w.heap.size + 1 + 1) #[.int .i64 (N : Int), .slice p n c] 27) := Lib.hid (blk_put_all Hr2.out _ rfl)
   have HB3 : Hid (Below w.heap.size w (W2.setCells (w.heap.size + 1 + 1) 0 (#[.int .i64 (N : Int), .slice p n c] : Array Value).toList)) := Lib.hid (below_put (by have := HWL.out; have := HW1.out; have := HGL.out; omega) _ _ _ _ HB2.out)
   have HZ3 := kzq HZ2 hch.out.size
   have Hc3 := kcq Hc2 hch (by have := HWL.out; have := HW1.out; have := HGL.out; omega)
   have Hm3 := kcq Hm2 hch (by have := HWL.out; have := HW1.out; have := HGL.out; omega)
   have Hx3 := kcq Hx2 hch (by have := HWL.out; have := HW1.out; have := HGL.out; omega)
   clear hch Hc2 Hm2 Hr2 Hx2 HB2 HZ2
   refine wpList_store_mid rfl 27 (.tmp 6) (.tmp 27) rfl (w.heap.size + 1 + 1) 0 #[.int .i64 (N : Int), .slice p n c] rfl rfl HTH.out (infoC2 rfl) (all_oneCell_toArray (by intro u hu; simp at hu; rcases hu with rfl | rfl <;> rfl)) ?_
   generalize (W2.setCells (w.heap.size + 1 + 1) 0 (#[.int .i64 (N : Int), .slice p n c] : Array Value).toList) = W9t at *
   clear HTH
   go_wp2_with fail
   have hfr := Hr3.out
   refine bodyPost_ret (v := .tuple #[.agg #[.int .i64 (N : Int), .slice p n c], .slice none 0 0, .int .i64 5]) (by simp [results, Try.results29, go_sem, hfr.cell 0, hfr.cell 1]) rfl (by rw [HE.out]; exact ⟨p, n, c, none, 0, 0, W9t.heap.size, rfl, HKK.out.1, rfl, HZ3.out, (HRS.out.kept HB3.out).imp (fun b h => .inl h), SaidL.nil_ _ _, HB3.out⟩)
 ·skip
  have hst : (r.st != 1) = true := hbs
  clear hbs
  have x1 : W2.cell? ⟨gx, 1, none⟩ = some (.int .i64 r.st) := Hx2.out.cell 1
  have HE : Hid (offerC N rs y.m j = (rs, [], 90)) := by show _ = _; unfold offerC; rw [HX.out, if_pos HBS.out]
  go_upto_region 3 with fail
  clear x1 hst
  have a0 : W2.cell? ⟨w.heap.size, 0, none⟩ = some (.int .i64 (N : Int)) := Hc2.out.cell 0
  have a1 : W2.cell? ⟨w.heap.size, 1, none⟩ = some (.slice p n c) := Hc2.out.cell 1
  go_wp2_with (with_reducible refine stop_storeT 27 (.tmp 6) (.tmp 19) rfl ?_)
  clear a0 a1
  have HTH : Hid (W2.there (w.heap.size + 1 + 1) 0 2) := Hr2.out.thereAt
  have hch : Hid (Chg (w.heap.size + 1 + 1) W2 (W2.setCells (w.heap.size + 1 + 1) 0 (#[.int .i64 (N : Int), .slice p n c] : Array Value).toList)) := Lib.hid (chg_putL _ _ _ _ _ (Chg.refl _ W2))
  have Hr3 : Hid (Blk (W2.setCells (w.heap.size + 1 + 1) 0 (#[.int .i64 (N : Int), .slice p n c] : Array Value).toList) (w.heap.size + 1 + 1) #[.int .i64 (N : Int), .slice p n c] 27) := Lib.hid (blk_put_all Hr2.out _ rfl)
  have HB3 : Hid (Below w.heap.size w (W2.setCells (w.heap.size + 1 + 1) 0 (#[.int .i64 (N : Int), .slice p n c] : Array Value).toList)) := Lib.hid (below_put (by have := HWL.out; have := HW1.out; have := HGL.out; omega) _ _ _ _ HB2.out)
  have HZ3 := kzq HZ2 hch.out.size
  have Hc3 := kcq Hc2 hch (by have := HWL.out; have := HW1.out; have := HGL.out; omega)
  have Hm3 := kcq Hm2 hch (by have := HWL.out; have := HW1.out; have := HGL.out; omega)
  have Hx3 := kcq Hx2 hch (by have := HWL.out; have := HW1.out; have := HGL.out; omega)
  clear hch Hc2 Hm2 Hr2 Hx2 HB2 HZ2
  refine wpList_store_mid rfl 27 (.tmp 6) (.tmp 19) rfl (w.heap.size + 1 + 1) 0 #[.int .i64 (N : Int), .slice p n c] rfl rfl HTH.out (infoC2 rfl) (all_oneCell_toArray (by intro u hu; simp at hu; rcases hu with rfl | rfl <;> rfl)) ?_
  generalize (W2.setCells (w.heap.size + 1 + 1) 0 (#[.int .i64 (N : Int), .slice p n c] : Array Value).toList) = W9s at *
  clear HTH
  go_wp2_with fail
  have hfr := Hr3.out
  refine bodyPost_ret (v := .tuple #[.agg #[.int .i64 (N : Int), .slice p n c], .slice none 0 0, .int .i64 90]) (by simp [results, Try.results29, go_sem, hfr.cell 0, hfr.cell 1]) rfl (by rw [HE.out]; exact ⟨p, n, c, none, 0, 0, W9s.heap.size, rfl, HKK.out.1, rfl, HZ3.out, (HRS.out.kept HB3.out).imp (fun b h => .inl h), SaidL.nil_ _ _, HB3.out⟩)
end Go.Proofs.Yteogdfpkcoodlaa
namespace Go.Proofs.Yteogdfpkcoodlaa
open Go.RowKit
set_option linter.unusedSimpArgs false
def Rn.vote (r : Rn) (j : Nat) : Rn := { r with hs := r.hs.set j { r.hs.getD j hd0 with t := true } }
/-- What an entity's vote does. -/
def voteC (N : Nat) (rs : List Rn) (m : Msg) (j : Nat) : CAns :=
 if ((rnAt rs m.y).st != 2) = true then (rs, [], 90) else if ((rnAt rs m.y).hs.getD j hd0).t = true then (rs, [], 5) else
 if m.t = false then (rs.set (m.y - 1).toNat (((rnAt rs m.y).vote j).to 4), toAllL N (decM m.y (((rnAt rs m.y).vote j).to 4)), 0) else
 if ((rnAt rs m.y).vote j).hs.any (fun h => !h.t) = true then (rs.set (m.y - 1).toNat ((rnAt rs m.y).vote j), [], 0) else (rs.set (m.y - 1).toNat (((rnAt rs m.y).vote j).to 3), toAllL N (decM m.y (((rnAt rs m.y).vote j).to 3)), 0)
set_option linter.unusedSimpArgs false in
set_option maxHeartbeats 4000000 in
set_option maxRecDepth 100000 in
theorem cvote_any (w : World) (P : Nat → Prop) (N : Nat) (p : Option Addr) (n c : Nat) (rs : List Rn) (y : MsgX) (j : Nat) (hrs : RsR P w (.slice p n c) rs) (hpw : ∀ b, P b → b < w.heap.size) (hn : n = rs.length) (hl : n ≤ 2000) (hk1 : 1 ≤ y.m.y) (hk2 : y.m.y ≤ n) (hN1 : 1 ≤ N) (hN8 : N ≤ 8) (hlen : ∀ r ∈ rs, r.hs.length = N) (hj : j < N) :
  Calls Try.prog 30 #[.agg #[.int .i64 (N : Int), .slice p n c], y.m.v (.slice y.pl y.m.ls.length y.cl) (.slice y.pn y.m.ns.length y.cn), .int .i64 (j : Int)] w (CP w P N (voteC N rs y.m j)) := by
 unfold CP
 have HRS := Lib.hid hrs
 have HPW := Lib.hid hpw
 have HNN : Hid (1 ≤ N ∧ N ≤ 8) := Lib.hid ⟨hN1, hN8⟩
 have HKK : Hid (n = rs.length ∧ n ≤ 2000 ∧ 1 ≤ y.m.y ∧ y.m.y ≤ n) := Lib.hid ⟨hn, hl, hk1, hk2⟩
 have HLN := Lib.hid hlen
 have HJ : Hid (j < N) := Lib.hid hj
 clear hrs hpw hN1 hN8 hn hl hk1 hk2 hlen hj
 unfold Msg.v
 have HB0 : Hid (Below w.heap.size w (((w.alloc (.cells #[.int .i64 (N : Int), .slice p n c] 27)).alloc (.cells #[.int .i64 y.m.k, .int .i64 y.m.s, .int .i64 y.m.n, .int .i64 y.m.b, .int .i64 y.m.c, .int .i64 y.m.r, .int .i64 y.m.y, .int .i64 y.m.a, .bool y.m.t, .slice y.pl y.m.ls.length y.cl, .slice y.pn y.m.ns.length y.cn] 36)).alloc (.cells #[.int .i64 0, .slice none 0 0] 27))) := Lib.hid ((((oneB w _).alloc (by simp <;> omega) _).alloc (by simp <;> omega) _))
 have Hc0 : Hid (Blk (((w.alloc (.cells #[.int .i64 (N : Int), .slice p n c] 27)).alloc (.cells #[.int .i64 y.m.k, .int .i64 y.m.s, .int .i64 y.m.n, .int .i64 y.m.b, .int .i64 y.m.c, .int .i64 y.m.r, .int .i64 y.m.y, .int .i64 y.m.a, .bool y.m.t, .slice y.pl y.m.ls.length y.cl, .slice y.pn y.m.ns.length y.cn] 36)).alloc (.cells #[.int .i64 0, .slice none 0 0] 27)) w.heap.size #[.int .i64 (N : Int), .slice p n c] 27) := Lib.hid (((Blk.new w #[.int .i64 (N : Int), .slice p n c] 27).alloc _).alloc _)
 have Hm0 : Hid (Blk (((w.alloc (.cells #[.int .i64 (N : Int), .slice p n c] 27)).alloc (.cells #[.int .i64 y.m.k, .int .i64 y.m.s, .int .i64 y.m.n, .int .i64 y.m.b, .int .i64 y.m.c, .int .i64 y.m.r, .int .i64 y.m.y, .int .i64 y.m.a, .bool y.m.t, .slice y.pl y.m.ls.length y.cl, .slice y.pn y.m.ns.length y.cn] 36)).alloc (.cells #[.int .i64 0, .slice none 0 0] 27)) (w.heap.size + 1) #[.int .i64 y.m.k, .int .i64 y.m.s, .int .i64 y.m.n, .int .i64 y.m.b, .int .i64 y.m.c, .int .i64 y.m.r, .int .i64 y.m.y, .int .i64 y.m.a, .bool y.m.t, .slice y.pl y.m.ls.length y.cl, .slice y.pn y.m.ns.length y.cn] 36) := Lib.hid ((Blk.new' (w.alloc (.cells #[.int .i64 (N : Int), .slice p n c] 27)) #[.int .i64 y.m.k, .int .i64 y.m.s, .int .i64 y.m.n, .int .i64 y.m.b, .int .i64 y.m.c, .int .i64 y.m.r, .int .i64 y.m.y, .int .i64 y.m.a, .bool y.m.t, .slice y.pl y.m.ls.length y.cl, .slice y.pn y.m.ns.length y.cn] 36 (by simp)).alloc _)
 have Hr0 : Hid (Blk (((w.alloc (.cells #[.int .i64 (N : Int), .slice p n c] 27)).alloc (.cells #[.int .i64 y.m.k, .int .i64 y.m.s, .int .i64 y.m.n, .int .i64 y.m.b, .int .i64 y.m.c, .int .i64 y.m.r, .int .i64 y.m.y, .int .i64 y.m.a, .bool y.m.t, .slice y.pl y.m.ls.length y.cl, .slice y.pn y.m.ns.length y.cn] 36)).alloc (.cells #[.int .i64 0, .slice none 0 0] 27)) (w.heap.size + 1 + 1) #[.int .i64 0, .slice none 0 0] 27) := Lib.hid (Blk.new' ((w.alloc (.cells #[.int .i64 (N : Int), .slice p n c] 27)).alloc (.cells #[.int .i64 y.m.k, .int .i64 y.m.s, .int .i64 y.m.n, .int .i64 y.m.b, .int .i64 y.m.c, .int .i64 y.m.r, .int .i64 y.m.y, .int .i64 y.m.a, .bool y.m.t, .slice y.pl y.m.ls.length y.cl, .slice y.pn y.m.ns.length y.cn] 36)) #[.int .i64 0, .slice none 0 0] 27 (by simp))
 have HZ0 : Hid (w.heap.size ≤ (((w.alloc (.cells #[.int .i64 (N : Int), .slice p n c] 27)).alloc (.cells #[.int .i64 y.m.k, .int .i64 y.m.s, .int .i64 y.m.n, .int .i64 y.m.b, .int .i64 y.m.c, .int .i64 y.m.r, .int .i64 y.m.y, .int .i64 y.m.a, .bool y.m.t, .slice y.pl y.m.ls.length y.cl, .slice y.pn y.m.ns.length y.cn] 36)).alloc (.cells #[.int .i64 0, .slice none 0 0] 27)).heap.size) := Lib.hid HB0.out.size
 go_enter Try.func30, Try.ntmps30
 go_upto_region 1 with fail
 generalize (((w.alloc (.cells #[.int .i64 (N : Int), .slice p n c] 27)).alloc (.cells #[.int .i64 y.m.k, .int .i64 y.m.s, .int .i64 y.m.n, .int .i64 y.m.b, .int .i64 y.m.c, .int .i64 y.m.r, .int .i64 y.m.y, .int .i64 y.m.a, .bool y.m.t, .slice y.pl y.m.ls.length y.cl, .slice y.pn y.m.ns.length y.cn] 36)).alloc (.cells #[.int .i64 0, .slice none 0 0] 27)) = W at *
 have HWL : Hid (w.heap.size + 1 + 1 < W.heap.size) := Lib.hid Hr0.out.lt
 have HG := Lib.hid (crun_any W P N y.m.y p n c rs (HRS.out.kept HB0.out) HKK.out.1 HKK.out.2.1 HKK.out.2.2.1 HKK.out.2.2.2 HNN.out.1 HNN.out.2 HLN.out)
 have a0 : W.cell? ⟨w.heap.size, 0, none⟩ = some (.int .i64 (N : Int)) := Hc0.out.cell 0
 have a1 : W.cell? ⟨w.heap.size, 1, none⟩ = some (.slice p n c) := Hc0.out.cell 1
 have m6 : W.cell? ⟨(w.heap.size + 1), 6, none⟩ = some (.int .i64 y.m.y) := Hm0.out.cell 6
 go_wp2_with fail
 clear a0 a1 m6
 refine HG.out.mono ?_
 rintro y9 w1 ⟨x, rfl, hx, hro, hb⟩
 clear HG
 obtain ⟨r, pf, cf, pl, cl, pn, cn⟩ := x
 obtain ⟨g, hpf, hgb, hgl⟩ := hro.g
 have hcf : N = cf := hro.cap.symm
 have hpf : some ⟨g, 0, none⟩ = pf := hpf.symm
 subst hcf
 subst hpf
 have HLR : Hid (r.hs.length = N) := Lib.hid hro.len
 have HGL : Hid (W.heap.size ≤ g ∧ g < w1.heap.size) := Lib.hid ⟨hgb, hgl⟩
 clear hgb hgl
 have HX : Hid (rnAt rs y.m.y = r) := Lib.hid (by unfold rnAt; rw [hx]; rfl)
 have HXS : Hid (rs[(y.m.y - 1).toNat]? = some r) := Lib.hid hx
 have HO := Lib.hid hro
 have HW1 : Hid (W.heap.size ≤ w1.heap.size) := Lib.hid hb.size
 clear hx hro
 have Hc1 := kbq Hc0 hb
 have Hm1 := kbq Hm0 hb
 have Hr1 := kbq Hr0 hb
 have HB1 := ktq HB0 hb
 have HZ1 := kzq HZ0 hb.size
 clear Hc0 Hm0 Hr0 HB0 HZ0
 clear hb
 rw [RunX.v_mk]
 have hba9 := oneB w1 (.cells #[.int .i64 r.cu, .int .i64 r.st, .slice (some ⟨g, 0, none⟩) r.hs.length N, .slice pl r.ls.length cl, .slice pn r.ns.length cn] 56)
 have HO2 := Lib.hid (HO.out.kept hba9)
 clear hba9 HO
 have hba := oneB w1 (.cells #[.int .i64 r.cu, .int .i64 r.st, .slice (some ⟨g, 0, none⟩) r.hs.length N, .slice pl r.ls.length cl, .slice pn r.ns.length cn] 56)
 have Hc2 := kbq Hc1 hba
 have Hm2 := kbq Hm1 hba
 have Hr2 := kbq Hr1 hba
 have Hx2 := Lib.hid (Blk.new w1 #[.int .i64 r.cu, .int .i64 r.st, .slice (some ⟨g, 0, none⟩) r.hs.length N, .slice pl r.ls.length cl, .slice pn r.ns.length cn] 56)
 have HB2 := Lib.hid (HB1.out.alloc HB1.out.size (.cells #[.int .i64 r.cu, .int .i64 r.st, .slice (some ⟨g, 0, none⟩) r.hs.length N, .slice pl r.ls.length cl, .slice pn r.ns.length cn] 56))
 have HZ2 := kzq HZ1 hba.size
 have HGgx : Hid (w.heap.size ≤ w1.heap.size) := Lib.hid HB1.out.size
 clear hba Hc1 Hm1 Hr1 HB1 HZ1
 go_upto_region 2 with fail
 generalize (w1.alloc (.cells #[.int .i64 r.cu, .int .i64 r.st, .slice (some ⟨g, 0, none⟩) r.hs.length N, .slice pl r.ls.length cl, .slice pn r.ns.length cn] 56)) = W2 at *
 generalize hggx : w1.heap.size = gx at *
 clear hggx
 obtain ⟨bs, hbs⟩ : ∃ bs, (r.st != 2) = bs := ⟨_, rfl⟩
 have HBS := Lib.hid hbs
 cases bs
 ·skip
  have hst : (r.st != 2) = false := hbs
  clear hbs
  have x1 : W2.cell? ⟨gx, 1, none⟩ = some (.int .i64 r.st) := Hx2.out.cell 1
  go_upto_region 4 with fail
  clear x1 hst
  obtain ⟨xo, hxo, hco, hio⟩ := HO2.out.hs.at1 j (by have := HJ.out; have := HLR.out; show j < r.hs.length; omega)
  have hxo : xo.h = r.hs[j]'(by have := HJ.out; have := HLR.out; omega) := hxo
  have HXO : Hid (r.hs.getD j hd0 = xo.h) := Lib.hid (by rw [hxo, List.getD_eq_getElem?_getD, List.getElem?_eq_getElem (by have := HJ.out; have := HLR.out; omega)]; rfl)
  have HXQ : Hid (∀ x : HdX, x.h = r.hs[j]'(by have := HJ.out; have := HLR.out; omega) → x.h = xo.h) := Lib.hid (fun x h => h.trans hxo.symm)
  obtain ⟨bt, hbt⟩ : ∃ bt, xo.h.t = bt := ⟨_, rfl⟩
  have HBT := Lib.hid hbt
  have z1 : W2.cell? ⟨g, j * 3 + 1, none⟩ = some (.bool bt) := by rw [← hbt]; exact (hco 1 (by decide)).1
  have HF1 := Lib.hid (hco 1 (by decide)).2
  clear hxo hco hio hbt
  have hjN : (j : Int) < (r.hs.length : Int) := by have := HJ.out; have := HLR.out; omega
  have hjC : (j : Int) < (N : Int) := by have := HJ.out; omega
  cases bt
  ·skip
   have x2 : W2.cell? ⟨gx, 2, none⟩ = some (.slice (some ⟨g, 0, none⟩) r.hs.length N) := Hx2.out.cell 2
   go_upto_region 6 with fail
   have f1 := HF1.out
   go_upto_region 7 with fail
   clear x2 z1 f1 HF1
   have hch := Lib.hid ((Chg.refl g W2).set (j * 3 + 1) (.bool true))
   have HB3 := ksq HB2 hch (by show w.heap.size ≤ g; have := HWL.out; have := HW1.out; have := HGL.out; omega)
   have HZ3 := kzq HZ2 hch.out.size
   have Hc3 := kcq Hc2 hch (by have := HWL.out; have := HW1.out; have := HGL.out; omega)
   have Hm3 := kcq Hm2 hch (by have := HWL.out; have := HW1.out; have := HGL.out; omega)
   have Hr3 := kcq Hr2 hch (by have := HWL.out; have := HW1.out; have := HGL.out; omega)
   have Hx3 := kcq Hx2 hch (by have := HWL.out; have := HW1.out; have := HGL.out; omega)
   have HO3 : Hid (RunO P (W2.setCell ⟨g, j * 3 + 1, none⟩ (.bool true)) W.heap.size N ⟨r.vote j, some ⟨g, 0, none⟩, N, pl, cl, pn, cn⟩) := Lib.hid (by
    have hgp : ¬ P g := fun h => by have := HPW.out g h; have := HWL.out; have := HW1.out; have := HGL.out; omega
    unfold Rn.vote
    rw [HXO.out]
    exact HO2.out.put1 j 1 (by have := HJ.out; have := HLR.out; omega) (by decide) (.bool true) { xo.h with t := true } hgp (fun x h1 h2 => ⟨⟨{ x.h with t := true }, x.p, x.c⟩, by rw [HXQ.out x h1], rfl, h2⟩))
   have HLV : Hid ((r.vote j).hs.length = r.hs.length) := Lib.hid (by unfold Rn.vote; rw [List.length_set])
   have HVS : Hid ((r.vote j).cu = r.cu ∧ (r.vote j).st = r.st ∧ (r.vote j).ls = r.ls ∧ (r.vote j).ns = r.ns) := Lib.hid ⟨rfl, rfl, rfl, rfl⟩
   clear hch HO2 HXQ Hc2 Hm2 Hr2 Hx2 HB2 HZ2
   generalize (W2.setCell ⟨g, j * 3 + 1, none⟩ (.bool true)) = WV at *
   obtain ⟨v, hv⟩ : ∃ v, r.vote j = v := ⟨_, rfl⟩
   rw [hv] at HO3 HLV HVS
   have HV := Lib.hid hv
   clear hv
   have Hxx : Hid (Blk WV gx #[.int .i64 v.cu, .int .i64 v.st, .slice (some ⟨g, 0, none⟩) v.hs.length N, .slice pl v.ls.length cl, .slice pn v.ns.length cn] 56) := Lib.hid (by rw [HLV.out, HVS.out.1, HVS.out.2.1, HVS.out.2.2.1, HVS.out.2.2.2]; exact Hx3.out)
   clear Hx3
   have Hx3 := Hxx
   clear Hxx
   obtain ⟨by_, hby⟩ : ∃ b, y.m.t = b := ⟨_, rfl⟩
   have HBY := Lib.hid hby
   clear hjN hjC
   have m8 : WV.cell? ⟨(w.heap.size + 1), 8, none⟩ = some (.bool by_) := by rw [← hby]; exact Hm3.out.cell 8
   clear hby
   cases by_
   ·skip
    have HE : Hid (voteC N rs y.m j = (rs.set (y.m.y - 1).toNat ((⟨v, some ⟨g, 0, none⟩, N, pl, cl, pn, cn⟩ : RunX).r.to 4), toAllL N (decM y.m.y ((⟨v, some ⟨g, 0, none⟩, N, pl, cl, pn, cn⟩ : RunX).r.to 4)), 0)) := by show _ = _; unfold voteC; rw [HX.out, if_neg (by rw [HBS.out]; decide), if_neg (by rw [HXO.out, HBT.out]; decide), if_pos HBY.out, HV.out]
    go_upto_region 8 with fail
    clear m8
    have HGX : Hid (W.heap.size ≤ WV.heap.size) := Lib.hid (by have := Hx3.out.lt; have := HW1.out; omega)
    have HG := Lib.hid (cend_any WV (fun b => P b ∨ (W.heap.size ≤ b ∧ b < WV.heap.size)) N y.m.y 4 p n c rs (⟨v, some ⟨g, 0, none⟩, N, pl, cl, pn, cn⟩ : RunX) ((HRS.out.kept HB3.out).imp (fun b h => .inl h)) (fun b h => h.elim (fun h1 => Nat.lt_of_lt_of_le (HPW.out b h1) HZ3.out) (fun h1 => h1.2)) HKK.out.1 HKK.out.2.1 HKK.out.2.2.1 HKK.out.2.2.2 ((HO3.out.imp (fun b h => .inl h)).in_ (fun b h1 h2 => .inr ⟨h1, h2⟩)) HNN.out.2)
    unfold CPost RunX.v at HG
    have a0 : WV.cell? ⟨w.heap.size, 0, none⟩ = some (.int .i64 (N : Int)) := Hc3.out.cell 0
    have a1 : WV.cell? ⟨w.heap.size, 1, none⟩ = some (.slice p n c) := Hc3.out.cell 1
    have m6 : WV.cell? ⟨(w.heap.size + 1), 6, none⟩ = some (.int .i64 y.m.y) := Hm3.out.cell 6
    have x0 : WV.cell? ⟨gx, 0, none⟩ = some (.int .i64 v.cu) := Hx3.out.cell 0
    have x1 : WV.cell? ⟨gx, 1, none⟩ = some (.int .i64 v.st) := Hx3.out.cell 1
    have x2 : WV.cell? ⟨gx, 2, none⟩ = some (.slice (some ⟨g, 0, none⟩) v.hs.length N) := Hx3.out.cell 2
    have x3 : WV.cell? ⟨gx, 3, none⟩ = some (.slice pl v.ls.length cl) := Hx3.out.cell 3
    have x4 : WV.cell? ⟨gx, 4, none⟩ = some (.slice pn v.ns.length cn) := Hx3.out.cell 4
    go_wp2_with fail
    clear a0 a1 m6 x0 x1 x2 x3 x4
    refine HG.out.mono ?_
    rintro y9 w5 ⟨p3, n3, c3, pv3, nv3, cv3, B3, rfl, hn3, hnv3, hB3, hq3, hs3, hb⟩
    clear HG
    have HN3 := Lib.hid (And.intro hn3 hnv3)
    have HBB : Hid (WV.heap.size ≤ B3) := Lib.hid hB3
    have HQQ := Lib.hid hq3
    have HSS := Lib.hid hs3
    clear hn3 hnv3 hB3 hq3 hs3
    have Hc4 := kbq Hc3 hb
    have Hm4 := kbq Hm3 hb
    have Hr4 := kbq Hr3 hb
    have Hx4 := kbq Hx3 hb
    have HB4 := ktq HB3 hb
    have HZ4 := kzq HZ3 hb.size
    clear Hc3 Hm3 Hr3 Hx3 HB3 HZ3
    clear hb
    go_wp2_with (with_reducible refine stop_storeT 27 (.tmp 6) (.tmp 41) rfl ?_)
    have HTH : Hid (w5.there (w.heap.size + 1 + 1) 0 2) := Hr4.out.thereAt
    have hch : Hid (Chg (w.heap.size + 1 + 1) w5 (w5.setCells (w.heap.size + 1 + 1) 0 (#[.int .i64 (N : Int), .slice p3 n3 c3] : Array Value).toList)) := Lib.hid (chg_putL _ _ _ _ _ (Chg.refl _ w5))
    have Hr5 : Hid (Blk (w5.setCells (w.heap.size + 1 + 1) 0 (#[.int .i64 (N : Int), .slice p3 n3 c3] : Array Value).toList) (w.heap.size + 1 + 1) #[.int .i64 (N : Int), .slice p3 n3 c3] 27) := Lib.hid (blk_put_all Hr4.out _ rfl)
    have HB5 : Hid (Below w.heap.size w (w5.setCells (w.heap.size + 1 + 1) 0 (#[.int .i64 (N : Int), .slice p3 n3 c3] : Array Value).toList)) := Lib.hid (below_put (by have := HWL.out; have := HW1.out; have := HGL.out; omega) _ _ _ _ HB4.out)
    have HZ5 := kzq HZ4 hch.out.size
    have Hc5 := kcq Hc4 hch (by have := HWL.out; have := HW1.out; have := HGL.out; omega)
    have Hm5 := kcq Hm4 hch (by have := HWL.out; have := HW1.out; have := HGL.out; omega)
    have Hx5 := kcq Hx4 hch (by have := HWL.out; have := HW1.out; have := HGL.out; omega)
    have HST := Lib.hid (HSS.out.chgS hch.out (by have := HBB.out; have := HWL.out; have := HGX.out; omega))
    have HQR := Lib.hid ((HQQ.out.imp (Q := fun b => b ≠ w.heap.size + 1 + 1 ∧ (P b ∨ (w.heap.size ≤ b ∧ b < B3))) (fun b h => by
     have h5 := HBB.out
     have h6 := HWL.out
     have h7 := HGX.out
     rcases h with (h1 | h1) | h1
     ·have := HPW.out _ h1
      exact ⟨by omega, .inl h1⟩
     ·exact ⟨by omega, .inr (by omega)⟩
     ·exact ⟨by omega, .inr (by omega)⟩)).keepP (KeepP.of_chg hch.out (by rintro ⟨h, _⟩; exact h rfl)))
    clear HSS HQQ
    clear hch Hc4 Hm4 Hr4 Hx4 HB4 HZ4
    refine wpList_store_mid rfl 27 (.tmp 6) (.tmp 41) rfl (w.heap.size + 1 + 1) 0 #[.int .i64 (N : Int), .slice p3 n3 c3] rfl rfl HTH.out (infoC2 rfl) (all_oneCell_toArray (by intro u hu; simp at hu; rcases hu with rfl | rfl <;> rfl)) ?_
    generalize (w5.setCells (w.heap.size + 1 + 1) 0 (#[.int .i64 (N : Int), .slice p3 n3 c3] : Array Value).toList) = W9n at *
    clear HTH
    go_wp2_with fail
    have hfr := Hr5.out
    refine bodyPost_ret (v := .tuple #[.agg #[.int .i64 (N : Int), .slice p3 n3 c3], .slice pv3 nv3 cv3, .int .i64 0]) (by simp [results, Try.results30, go_sem, hfr.cell 0, hfr.cell 1]) rfl (by rw [HE.out]; exact ⟨p3, n3, c3, pv3, nv3, cv3, B3, rfl, HN3.out.1, HN3.out.2, by have := HBB.out; have := HWL.out; have := HGX.out; omega, HQR.out.imp (fun b h => h.2), HST.out, HB5.out⟩)
   ·skip
    go_upto_region 9 with fail
    clear m8
    obtain ⟨ys, hy1, hy2, hy3⟩ := HO3.out.hs
    have HYS := Lib.hid hy1.row
    have HYI : Hid (∀ x ∈ ys, ∃ Q, x.In Q WV) := Lib.hid (fun x hx => ⟨P, hy2 x hx⟩)
    have HYL : Hid (ys.length ≤ 8) := Lib.hid (by have h1 := congrArg List.length hy3; rw [List.length_map] at h1; have h1 : ys.length = v.hs.length := h1; have := HLV.out; have := HLR.out; have := HNN.out; omega)
    have HYA : Hid (ys.any (fun x => !x.h.t) = v.hs.any (fun h => !h.t)) := Lib.hid (by have hy3 : ys.map HdX.h = v.hs := hy3; rw [← hy3, List.any_map]; rfl)
    clear hy1 hy2 hy3
    have HG := Lib.hid (has_vote WV (.slice (some ⟨g, 0, none⟩) v.hs.length N) ys (fun x => !x.h.t) WV.heap.size HYS.out HYI.out (fun W0 hW0 x0 hx0 => noT_any W0 x0) (Nat.le_refl _) (by have := HYL.out; omega))
    rw [HYA.out] at HG
    obtain ⟨ba, hba⟩ : ∃ ba, v.hs.any (fun h => !h.t) = ba := ⟨_, rfl⟩
    rw [hba] at HG
    have HBA := Lib.hid hba
    clear hba HYS HYI HYA HYL
    have x2 : WV.cell? ⟨gx, 2, none⟩ = some (.slice (some ⟨g, 0, none⟩) v.hs.length N) := Hx3.out.cell 2
    go_wp2_with fail
    clear x2
    refine HG.out.mono ?_
    rintro y9 w4 ⟨rfl, hb⟩
    clear HG
    have HO4 := Lib.hid (HO3.out.kept hb)
    clear HO3
    have Hc4 := kbq Hc3 hb
    have Hm4 := kbq Hm3 hb
    have Hr4 := kbq Hr3 hb
    have Hx4 := kbq Hx3 hb
    have HB4 := ktq HB3 hb
    have HZ4 := kzq HZ3 hb.size
    clear Hc3 Hm3 Hr3 Hx3 HB3 HZ3
    clear hb
    cases ba
    ·skip
     have HE : Hid (voteC N rs y.m j = (rs.set (y.m.y - 1).toNat ((⟨v, some ⟨g, 0, none⟩, N, pl, cl, pn, cn⟩ : RunX).r.to 3), toAllL N (decM y.m.y ((⟨v, some ⟨g, 0, none⟩, N, pl, cl, pn, cn⟩ : RunX).r.to 3)), 0)) := by show _ = _; unfold voteC; rw [HX.out, if_neg (by rw [HBS.out]; decide), if_neg (by rw [HXO.out, HBT.out]; decide), if_neg (by rw [HBY.out]; decide), HV.out, if_neg (by rw [HBA.out]; decide)]
     go_upto_region 11 with fail
     have HGX : Hid (W.heap.size ≤ w4.heap.size) := Lib.hid (by have := Hx4.out.lt; have := HW1.out; omega)
     have HG := Lib.hid (cend_any w4 (fun b => P b ∨ (W.heap.size ≤ b ∧ b < w4.heap.size)) N y.m.y 3 p n c rs (⟨v, some ⟨g, 0, none⟩, N, pl, cl, pn, cn⟩ : RunX) ((HRS.out.kept HB4.out).imp (fun b h => .inl h)) (fun b h => h.elim (fun h1 => Nat.lt_of_lt_of_le (HPW.out b h1) HZ4.out) (fun h1 => h1.2)) HKK.out.1 HKK.out.2.1 HKK.out.2.2.1 HKK.out.2.2.2 ((HO4.out.imp (fun b h => .inl h)).in_ (fun b h1 h2 => .inr ⟨h1, h2⟩)) HNN.out.2)
     unfold CPost RunX.v at HG
     have a0 : w4.cell? ⟨w.heap.size, 0, none⟩ = some (.int .i64 (N : Int)) := Hc4.out.cell 0
     have a1 : w4.cell? ⟨w.heap.size, 1, none⟩ = some (.slice p n c) := Hc4.out.cell 1
     have m6 : w4.cell? ⟨(w.heap.size + 1), 6, none⟩ = some (.int .i64 y.m.y) := Hm4.out.cell 6
     have x0 : w4.cell? ⟨gx, 0, none⟩ = some (.int .i64 v.cu) := Hx4.out.cell 0
     have x1 : w4.cell? ⟨gx, 1, none⟩ = some (.int .i64 v.st) := Hx4.out.cell 1
     have x2 : w4.cell? ⟨gx, 2, none⟩ = some (.slice (some ⟨g, 0, none⟩) v.hs.length N) := Hx4.out.cell 2
     have x3 : w4.cell? ⟨gx, 3, none⟩ = some (.slice pl v.ls.length cl) := Hx4.out.cell 3
     have x4 : w4.cell? ⟨gx, 4, none⟩ = some (.slice pn v.ns.length cn) := Hx4.out.cell 4
     go_wp2_with fail
     clear a0 a1 m6 x0 x1 x2 x3 x4
     refine HG.out.mono ?_
     rintro y9 w5 ⟨p3, n3, c3, pv3, nv3, cv3, B3, rfl, hn3, hnv3, hB3, hq3, hs3, hb⟩
     clear HG
     have HN3 := Lib.hid (And.intro hn3 hnv3)
     have HBB : Hid (w4.heap.size ≤ B3) := Lib.hid hB3
     have HQQ := Lib.hid hq3
     have HSS := Lib.hid hs3
     clear hn3 hnv3 hB3 hq3 hs3
     have Hc5 := kbq Hc4 hb
     have Hm5 := kbq Hm4 hb
     have Hr5 := kbq Hr4 hb
     have Hx5 := kbq Hx4 hb
     have HB5 := ktq HB4 hb
     have HZ5 := kzq HZ4 hb.size
     clear Hc4 Hm4 Hr4 Hx4 HB4 HZ4
     clear hb
     go_wp2_with (with_reducible refine stop_storeT 27 (.tmp 6) (.tmp 58) rfl ?_)
     have HTH : Hid (w5.there (w.heap.size + 1 + 1) 0 2) := Hr5.out.thereAt
     have hch : Hid (Chg (w.heap.size + 1 + 1) w5 (w5.setCells (w.heap.size + 1 + 1) 0 (#[.int .i64 (N : Int), .slice p3 n3 c3] : Array Value).toList)) := Lib.hid (chg_putL _ _ _ _ _ (Chg.refl _ w5))
     have Hr6 : Hid (Blk (w5.setCells (w.heap.size + 1 + 1) 0 (#[.int .i64 (N : Int), .slice p3 n3 c3] : Array Value).toList) (w.heap.size + 1 + 1) #[.int .i64 (N : Int), .slice p3 n3 c3] 27) := Lib.hid (blk_put_all Hr5.out _ rfl)
     have HB6 : Hid (Below w.heap.size w (w5.setCells (w.heap.size + 1 + 1) 0 (#[.int .i64 (N : Int), .slice p3 n3 c3] : Array Value).toList)) := Lib.hid (below_put (by have := HWL.out; have := HW1.out; have := HGL.out; omega) _ _ _ _ HB5.out)
     have HZ6 := kzq HZ5 hch.out.size
     have Hc6 := kcq Hc5 hch (by have := HWL.out; have := HW1.out; have := HGL.out; omega)
     have Hm6 := kcq Hm5 hch (by have := HWL.out; have := HW1.out; have := HGL.out; omega)
     have Hx6 := kcq Hx5 hch (by have := HWL.out; have := HW1.out; have := HGL.out; omega)
     have HST := Lib.hid (HSS.out.chgS hch.out (by have := HBB.out; have := HWL.out; have := HGX.out; omega))
     have HQR := Lib.hid ((HQQ.out.imp (Q := fun b => b ≠ w.heap.size + 1 + 1 ∧ (P b ∨ (w.heap.size ≤ b ∧ b < B3))) (fun b h => by
      have h5 := HBB.out
      have h6 := HWL.out
      have h7 := HGX.out
      rcases h with (h1 | h1) | h1
      ·have := HPW.out _ h1
       exact ⟨by omega, .inl h1⟩
      ·exact ⟨by omega, .inr (by omega)⟩
      ·exact ⟨by omega, .inr (by omega)⟩)).keepP (KeepP.of_chg hch.out (by rintro ⟨h, _⟩; exact h rfl)))
     clear HSS HQQ
     clear hch Hc5 Hm5 Hr5 Hx5 HB5 HZ5
     refine wpList_store_mid rfl 27 (.tmp 6) (.tmp 58) rfl (w.heap.size + 1 + 1) 0 #[.int .i64 (N : Int), .slice p3 n3 c3] rfl rfl HTH.out (infoC2 rfl) (all_oneCell_toArray (by intro u hu; simp at hu; rcases hu with rfl | rfl <;> rfl)) ?_
     generalize (w5.setCells (w.heap.size + 1 + 1) 0 (#[.int .i64 (N : Int), .slice p3 n3 c3] : Array Value).toList) = W9y at *
     clear HTH
     go_wp2_with fail
     have hfr := Hr6.out
     refine bodyPost_ret (v := .tuple #[.agg #[.int .i64 (N : Int), .slice p3 n3 c3], .slice pv3 nv3 cv3, .int .i64 0]) (by simp [results, Try.results30, go_sem, hfr.cell 0, hfr.cell 1]) rfl (by rw [HE.out]; exact ⟨p3, n3, c3, pv3, nv3, cv3, B3, rfl, HN3.out.1, HN3.out.2, by have := HBB.out; have := HWL.out; have := HGX.out; omega, HQR.out.imp (fun b h => h.2), HST.out, HB6.out⟩)
    ·skip
     have HE : Hid (voteC N rs y.m j = (rs.set (y.m.y - 1).toNat v, [], 0)) := by show _ = _; unfold voteC; rw [HX.out, if_neg (by rw [HBS.out]; decide), if_neg (by rw [HXO.out, HBT.out]; decide), if_neg (by rw [HBY.out]; decide), HV.out, if_pos HBA.out]
     go_upto_region 10 with fail
     have HGX : Hid (W.heap.size ≤ w4.heap.size) := Lib.hid (by have := Hx4.out.lt; have := HW1.out; omega)
     have HG := Lib.hid (cwith_any w4 (fun b => P b ∨ (W.heap.size ≤ b ∧ b < w4.heap.size)) (N : Int) y.m.y p n c rs (⟨v, some ⟨g, 0, none⟩, N, pl, cl, pn, cn⟩ : RunX) ((HRS.out.kept HB4.out).imp (fun b h => .inl h)) HKK.out.1 HKK.out.2.1 HKK.out.2.2.1 HKK.out.2.2.2 ((HO4.out.imp (fun b h => .inl h)).in_ (fun b h1 h2 => .inr ⟨h1, h2⟩)))
     unfold RunX.v at HG
     have a0 : w4.cell? ⟨w.heap.size, 0, none⟩ = some (.int .i64 (N : Int)) := Hc4.out.cell 0
     have a1 : w4.cell? ⟨w.heap.size, 1, none⟩ = some (.slice p n c) := Hc4.out.cell 1
     have m6 : w4.cell? ⟨(w.heap.size + 1), 6, none⟩ = some (.int .i64 y.m.y) := Hm4.out.cell 6
     have x0 : w4.cell? ⟨gx, 0, none⟩ = some (.int .i64 v.cu) := Hx4.out.cell 0
     have x1 : w4.cell? ⟨gx, 1, none⟩ = some (.int .i64 v.st) := Hx4.out.cell 1
     have x2 : w4.cell? ⟨gx, 2, none⟩ = some (.slice (some ⟨g, 0, none⟩) v.hs.length N) := Hx4.out.cell 2
     have x3 : w4.cell? ⟨gx, 3, none⟩ = some (.slice pl v.ls.length cl) := Hx4.out.cell 3
     have x4 : w4.cell? ⟨gx, 4, none⟩ = some (.slice pn v.ns.length cn) := Hx4.out.cell 4
     go_wp2_with fail
     clear a0 a1 m6 x0 x1 x2 x3 x4
     refine HG.out.mono ?_
     rintro y9 w5 ⟨p3, c3, rfl, hq3, hb⟩
     clear HG
     have HQQ := Lib.hid hq3.lt
     have HBB : Hid (w4.heap.size ≤ w5.heap.size) := Lib.hid hb.size
     clear hq3
     have Hc5 := kbq Hc4 hb
     have Hm5 := kbq Hm4 hb
     have Hr5 := kbq Hr4 hb
     have Hx5 := kbq Hx4 hb
     have HB5 := ktq HB4 hb
     have HZ5 := kzq HZ4 hb.size
     clear Hc4 Hm4 Hr4 Hx4 HB4 HZ4
     clear hb
     go_wp2_with (with_reducible refine stop_storeT 27 (.tmp 6) (.tmp 52) rfl ?_)
     have HTH : Hid (w5.there (w.heap.size + 1 + 1) 0 2) := Hr5.out.thereAt
     have hch : Hid (Chg (w.heap.size + 1 + 1) w5 (w5.setCells (w.heap.size + 1 + 1) 0 (#[.int .i64 (N : Int), .slice p3 n c3] : Array Value).toList)) := Lib.hid (chg_putL _ _ _ _ _ (Chg.refl _ w5))
     have Hr6 : Hid (Blk (w5.setCells (w.heap.size + 1 + 1) 0 (#[.int .i64 (N : Int), .slice p3 n c3] : Array Value).toList) (w.heap.size + 1 + 1) #[.int .i64 (N : Int), .slice p3 n c3] 27) := Lib.hid (blk_put_all Hr5.out _ rfl)
     have HB6 : Hid (Below w.heap.size w (w5.setCells (w.heap.size + 1 + 1) 0 (#[.int .i64 (N : Int), .slice p3 n c3] : Array Value).toList)) := Lib.hid (below_put (by have := HWL.out; have := HW1.out; have := HGL.out; omega) _ _ _ _ HB5.out)
     have HZ6 := kzq HZ5 hch.out.size
     have Hc6 := kcq Hc5 hch (by have := HWL.out; have := HW1.out; have := HGL.out; omega)
     have Hm6 := kcq Hm5 hch (by have := HWL.out; have := HW1.out; have := HGL.out; omega)
     have Hx6 := kcq Hx5 hch (by have := HWL.out; have := HW1.out; have := HGL.out; omega)
     have HQR := Lib.hid ((HQQ.out.imp (Q := fun b => b ≠ w.heap.size + 1 + 1 ∧ (P b ∨ (w.heap.size ≤ b ∧ b < w5.heap.size))) (fun b h => by
      have h5 := HBB.out
      have h6 := HWL.out
      have h7 := HGX.out
      obtain ⟨h, h9⟩ := h
      rcases h with (h1 | h1) | h1
      ·have := HPW.out _ h1
       exact ⟨by omega, .inl h1⟩
      ·exact ⟨by omega, .inr (by omega)⟩
      ·exact ⟨by omega, .inr (by omega)⟩)).keepP (KeepP.of_chg hch.out (by rintro ⟨h, _⟩; exact h rfl)))
     clear HQQ
     clear hch Hc5 Hm5 Hr5 Hx5 HB5 HZ5
     refine wpList_store_mid rfl 27 (.tmp 6) (.tmp 52) rfl (w.heap.size + 1 + 1) 0 #[.int .i64 (N : Int), .slice p3 n c3] rfl rfl HTH.out (infoC2 rfl) (all_oneCell_toArray (by intro u hu; simp at hu; rcases hu with rfl | rfl <;> rfl)) ?_
     generalize (w5.setCells (w.heap.size + 1 + 1) 0 (#[.int .i64 (N : Int), .slice p3 n c3] : Array Value).toList) = W9w at *
     clear HTH
     go_wp2_with fail
     have hfr := Hr6.out
     refine bodyPost_ret (v := .tuple #[.agg #[.int .i64 (N : Int), .slice p3 n c3], .slice none 0 0, .int .i64 0]) (by simp [results, Try.results30, go_sem, hfr.cell 0, hfr.cell 1]) rfl (by rw [HE.out]; exact ⟨p3, n, c3, none, 0, 0, w5.heap.size, rfl, by rw [List.length_set]; exact HKK.out.1, rfl, by have := HBB.out; have := HGX.out; have := HWL.out; omega, HQR.out.imp (fun b h => h.2), SaidL.nil_ _ _, HB6.out⟩)
  ·skip
   have x2 : W2.cell? ⟨gx, 2, none⟩ = some (.slice (some ⟨g, 0, none⟩) r.hs.length N) := Hx2.out.cell 2
   have HE : Hid (voteC N rs y.m j = (rs, [], 5)) := by show _ = _; unfold voteC; rw [HX.out, if_neg (by rw [HBS.out]; decide), if_pos (by rw [HXO.out, HBT.out])]
   go_upto_region 5 with fail
   clear x2 z1 HF1 hjN hjC
   have a0 : W2.cell? ⟨w.heap.size, 0, none⟩ = some (.int .i64 (N : Int)) := Hc2.out.cell 0
   have a1 : W2.cell? ⟨w.heap.size, 1, none⟩ = some (.slice p n c) := Hc2.out.cell 1
   go_wp2_with (with_reducible refine stop_storeT 27 (.tmp 6) (.tmp 26) rfl ?_)
   clear a0 a1
   have HTH : Hid (W2.there (w.heap.size + 1 + 1) 0 2) := Hr2.out.thereAt
   have hch : Hid (Chg (w.heap.size + 1 + 1) W2 (W2.setCells (w.heap.size + 1 + 1) 0 (#[.int .i64 (N : Int), .slice p n c] : Array Value).toList)) := Lib.hid (chg_putL _ _ _ _ _ (Chg.refl _ W2))
   have Hr3 : Hid (Blk (W2.setCells (w.heap.size + 1 + 1) 0 (#[.int .i64 (N : Int), .slice p n c] : Array Value).toList) (w.heap.size + 1 + 1) #[.int .i64 (N : Int), .slice p n c] 27) := Lib.hid (blk_put_all Hr2.out _ rfl)
   have HB3 : Hid (Below w.heap.size w (W2.setCells (w.heap.size + 1 + 1) 0 (#[.int .i64 (N : Int), .slice p n c] : Array Value).toList)) := Lib.hid (below_put (by have := HWL.out; have := HW1.out; have := HGL.out; omega) _ _ _ _ HB2.out)
   have HZ3 := kzq HZ2 hch.out.size
   have Hc3 := kcq Hc2 hch (by have := HWL.out; have := HW1.out; have := HGL.out; omega)
   have Hm3 := kcq Hm2 hch (by have := HWL.out; have := HW1.out; have := HGL.out; omega)
   have Hx3 := kcq Hx2 hch (by have := HWL.out; have := HW1.out; have := HGL.out; omega)
   clear hch Hc2 Hm2 Hr2 Hx2 HB2 HZ2
   refine wpList_store_mid rfl 27 (.tmp 6) (.tmp 26) rfl (w.heap.size + 1 + 1) 0 #[.int .i64 (N : Int), .slice p n c] rfl rfl HTH.out (infoC2 rfl) (all_oneCell_toArray (by intro u hu; simp at hu; rcases hu with rfl | rfl <;> rfl)) ?_
   generalize (W2.setCells (w.heap.size + 1 + 1) 0 (#[.int .i64 (N : Int), .slice p n c] : Array Value).toList) = W9t at *
   clear HTH
   go_wp2_with fail
   have hfr := Hr3.out
   refine bodyPost_ret (v := .tuple #[.agg #[.int .i64 (N : Int), .slice p n c], .slice none 0 0, .int .i64 5]) (by simp [results, Try.results30, go_sem, hfr.cell 0, hfr.cell 1]) rfl (by rw [HE.out]; exact ⟨p, n, c, none, 0, 0, W9t.heap.size, rfl, HKK.out.1, rfl, HZ3.out, (HRS.out.kept HB3.out).imp (fun b h => .inl h), SaidL.nil_ _ _, HB3.out⟩)
 ·skip
  have hst : (r.st != 2) = true := hbs
  clear hbs
  have x1 : W2.cell? ⟨gx, 1, none⟩ = some (.int .i64 r.st) := Hx2.out.cell 1
  have HE : Hid (voteC N rs y.m j = (rs, [], 90)) := by show _ = _; unfold voteC; rw [HX.out, if_pos HBS.out]
  go_upto_region 3 with fail
  clear x1 hst
  have a0 : W2.cell? ⟨w.heap.size, 0, none⟩ = some (.int .i64 (N : Int)) := Hc2.out.cell 0
  have a1 : W2.cell? ⟨w.heap.size, 1, none⟩ = some (.slice p n c) := Hc2.out.cell 1
  go_wp2_with (with_reducible refine stop_storeT 27 (.tmp 6) (.tmp 18) rfl ?_)
  clear a0 a1
  have HTH : Hid (W2.there (w.heap.size + 1 + 1) 0 2) := Hr2.out.thereAt
  have hch : Hid (Chg (w.heap.size + 1 + 1) W2 (W2.setCells (w.heap.size + 1 + 1) 0 (#[.int .i64 (N : Int), .slice p n c] : Array Value).toList)) := Lib.hid (chg_putL _ _ _ _ _ (Chg.refl _ W2))
  have Hr3 : Hid (Blk (W2.setCells (w.heap.size + 1 + 1) 0 (#[.int .i64 (N : Int), .slice p n c] : Array Value).toList) (w.heap.size + 1 + 1) #[.int .i64 (N : Int), .slice p n c] 27) := Lib.hid (blk_put_all Hr2.out _ rfl)
  have HB3 : Hid (Below w.heap.size w (W2.setCells (w.heap.size + 1 + 1) 0 (#[.int .i64 (N : Int), .slice p n c] : Array Value).toList)) := Lib.hid (below_put (by have := HWL.out; have := HW1.out; have := HGL.out; omega) _ _ _ _ HB2.out)
  have HZ3 := kzq HZ2 hch.out.size
  have Hc3 := kcq Hc2 hch (by have := HWL.out; have := HW1.out; have := HGL.out; omega)
  have Hm3 := kcq Hm2 hch (by have := HWL.out; have := HW1.out; have := HGL.out; omega)
  have Hx3 := kcq Hx2 hch (by have := HWL.out; have := HW1.out; have := HGL.out; omega)
  clear hch Hc2 Hm2 Hr2 Hx2 HB2 HZ2
  refine wpList_store_mid rfl 27 (.tmp 6) (.tmp 18) rfl (w.heap.size + 1 + 1) 0 #[.int .i64 (N : Int), .slice p n c] rfl rfl HTH.out (infoC2 rfl) (all_oneCell_toArray (by intro u hu; simp at hu; rcases hu with rfl | rfl <;> rfl)) ?_
  generalize (W2.setCells (w.heap.size + 1 + 1) 0 (#[.int .i64 (N : Int), .slice p n c] : Array Value).toList) = W9s at *
  clear HTH
  go_wp2_with fail
  have hfr := Hr3.out
  refine bodyPost_ret (v := .tuple #[.agg #[.int .i64 (N : Int), .slice p n c], .slice none 0 0, .int .i64 90]) (by simp [results, Try.results30, go_sem, hfr.cell 0, hfr.cell 1]) rfl (by rw [HE.out]; exact ⟨p, n, c, none, 0, 0, W9s.heap.size, rfl, HKK.out.1, rfl, HZ3.out, (HRS.out.kept HB3.out).imp (fun b h => .inl h), SaidL.nil_ _ _, HB3.out⟩)
end Go.Proofs.Yteogdfpkcoodlaa
namespace Go.Proofs.Yteogdfpkcoodlaa
open Go.RowKit
set_option maxHeartbeats 1000000 in
set_option maxRecDepth 100000 in
theorem growR_nil (n : Nat) (w : World) (hn : n ≤ 1000000) :
  Calls Try.prog 68 #[.slice none 0 0, .int .i64 n] w fun e w' => ∃ v, e = .returned v ∧ OwnT encR w' w.heap.size 56 v [] ∧ Below w.heap.size w w' := by
 obtain ⟨i0, _, hi, hz, hs, hby⟩ := eltR
 by_cases h0 : n = 0
 ·subst h0
  go_enter Try.func68, Try.ntmps68
  go_wp2
  go_ret
  exact ⟨_, rfl, OwnT.nil_ encR _ _ _, Below.refl _ _⟩
 ·have hpos : (0 : Int) < (n : Int) := by omega
  have happ := Lib.run_append_nil_zeros (P := Try.prog) w 25 3 25 56 i0 zeroVR .i64 .i64 Try.underlying25 Try.underlying3 hi hz n (by omega) (by rw [hs]; decide) (by omega) (by rw [hby]; omega)
  generalize hcap : grownCap w n 0 56 = cap2 at happ
  have hcapge : n ≤ cap2 := by rw [← hcap]; exact grownCap_ge w _ 0 56
  have hcaple : cap2 ≤ maxLen := by rw [← hcap]; exact grownCap_le_maxLen w _ 0 56 (by unfold maxLen; omega)
  generalize hZ : (Builtin.zeroCells zeroVR.cells n ++ Builtin.zeroCells zeroVR.cells (cap2 - n)) = Z at happ
  have hZs : Z.size = cap2 * 5 := by rw [← hZ]; simp [Builtin.zeroCells, Value.cells, zeroVR]; omega
  clear hcap hZ h0
  have HG := Lib.hid hcapge
  have HL := Lib.hid hcaple
  have HS := Lib.hid hZs
  clear hcapge hcaple hZs
  go_enter Try.func68, Try.ntmps68
  go_wp2_with (at_builtin; refine Lib.wpList_append_run _ rfl _ _ _ _ rfl _ _ rfl rfl _ _ happ ?_)
  go_ret
  exact ⟨_, rfl, ⟨by simp, .inr ⟨w.heap.size, cap2, Z, rfl, Nat.le_refl _, heap_alloc_new w.drew _, Nat.zero_le _, HL.out, HS.out, by simp⟩⟩, (Below.refl _ _).drew.alloc (Nat.le_refl _) _⟩
set_option maxHeartbeats 2000000 in
set_option maxRecDepth 100000 in
theorem concatR_any (b o m c : Nat) (vs : List Value) (pss : List (List RunX)) (w : World) (hR : RowsT encR w b o vs pss) (hm : m = pss.length) (hmc : m ≤ 1000) (hbig : pss.flatten.length ≤ 100000) :
  Calls Try.prog 55 #[.slice (some ⟨b, o, none⟩) m c] w fun e w' => ∃ v, e = .returned v ∧ OwnT encR w' w.heap.size 56 v pss.flatten ∧ Below w.heap.size w w' := by
 have HR := Lib.hid hR.2
 have HM := Lib.hid hm
 have HSB : Hid (∀ k, (catT pss k).length ≤ 100000) := fun k => Nat.le_trans (catT_le pss k) hbig
 clear hR hm
 go_enter Try.func55, Try.ntmps55
 go_wp2
 go_loop [3, 11] (fun s i => ∃ (k : Nat), k ≤ m ∧ i = .int .i64 k ∧ s = .int .i64 ((catT pss k).length : Nat)) (fun _ i => m - (intOf i).toNat)
 case atStart => exact ⟨0, by omega, rfl, rfl⟩
 case round =>
  obtain ⟨k, hk, rfl, rfl⟩ := hrel
  by_cases hlt : k < m
  ·obtain ⟨hc, hrow⟩ := HR.out k (by rw [← HM.out]; exact hlt)
   obtain ⟨p1, c1, hv⟩ := hrow.shape
   rw [hv] at hc
   have hs := Lib.hid (catT_len pss k (by rw [← HM.out]; exact hlt))
   have hsb := HSB.out (k + 1)
   rw [hs.out] at hsb
   clear hv hrow
   generalize (pss.getD k []).length = L at *
   go_wp2
   go_round
   case rel => exact ⟨k + 1, by omega, by go_num, by rw [hs.out]; go_num⟩
   case measure => simp [intOf]; omega
  ·have hkm : (m : Int) ≤ (k : Int) := by omega
   have hsb := HSB.out k
   go_wp2_with fail
   refine (growR_nil _ _ (by omega)).mono ?_
   rintro e w1 ⟨v1, rfl, ho1, hb1⟩
   have hstart : CatRelT encR 56 w pss 0 v1 w1 := ⟨by simpa [catT] using ho1, hb1⟩
   have HST := Lib.hid hstart
   clear hstart ho1 hb1
   go_wp2_with fail
   go_loopw [6, 27] (fun v i wr => ∃ (j : Nat), j ≤ m ∧ i = .int .i64 j ∧ Hid (CatRelT encR 56 w pss j v wr)) (fun _ i _ => m - (intOf i).toNat)
   case atStart => exact ⟨0, by omega, rfl, HST⟩
   case round =>
    obtain ⟨j, hj, rfl, HJ⟩ := hrel
    by_cases hlt : j < m
    ·have hlz : j < pss.length := by rw [← HM.out]; exact hlt
     obtain ⟨hc, hrow⟩ := HR.out j hlz
     obtain ⟨p1, c1, hv⟩ := hrow.shape
     have hbl := World.block_lt_of_cell? w _ hc
     have HRW := Lib.hid hrow
     rw [hv] at hc HRW
     have hcw := (HJ.out.2.cell (p := ⟨b, o + j, none⟩) hbl).trans hc
     have HLEN : Hid ((catT pss j).length + (pss.getD j []).length ≤ 100000) := by have h := HSB.out (j + 1); rw [catT_len pss j hlz] at h; exact h
     have HLZ := Lib.hid hlz
     clear hv hrow hc hbl hlz
     obtain ⟨p0, c0, hv0⟩ := HJ.out.1.form
     have HJ2 := HJ.out
     rw [hv0] at HJ2
     have HJ3 := Lib.hid HJ2
     subst hv0
     clear HJ2
     go_wp2_with (at_builtin; go_loud (refine wpList_append_t rfl _ _ 25 rfl 56 zeroVR 88 w.heap.size eltR rfl (by decide) _ _ (catT pss j) (pss.getD j []) rfl rfl HJ3.out.1 (HRW.out.kept (HJ3.out.2)) (by have h : _ ≤ _ := HLEN.out; omega) HJ3.out.2.size (catT pss (j + 1)) ((catT pss (j + 1)).length) (catT_succ pss j HLZ.out) rfl ?_; intro p2 c2 w2 ho2 _ hb2; have HN := Lib.hid (show CatRelT encR 56 w pss (j + 1) _ w2 from ⟨ho2, HJ3.out.2.trans hb2⟩); clear ho2 hb2))
     go_roundw
     case rel => exact ⟨j + 1, by omega, by go_num, HN⟩
     case measure => simp [intOf]; omega
    ·have hjm : (m : Int) ≤ (j : Int) := by omega
     have hjz : j = pss.length := by rw [← HM.out]; omega
     have hE := HJ.out
     rw [hjz] at hE
     have HE := Lib.hid hE
     clear hjz hE
     go_wp2
     go_ret
     exact ⟨_, rfl, by have := HE.out.1; unfold catT at this; rwa [List.take_length] at this, HE.out.2⟩
end Go.Proofs.Yteogdfpkcoodlaa
