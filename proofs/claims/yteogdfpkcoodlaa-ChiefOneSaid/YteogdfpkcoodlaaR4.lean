/- (Chief).Do by contract. (Chief).Get by contract: a cycle in memory of its own. (Chief).Waits by contract. Rows that lie in no block of a list. chief's Do, Get, Waits in a law: the cycles in blocks of Q; what is said. contralaw18.leads by contract. -/
import Derived.Test.YteogdfpkcoodlaaR3
import Derived.Test.YteogdfpkcoodlaaR2
import Derived.Test.YteogdfpkcoodlaaR1
namespace Go.Proofs.Yteogdfpkcoodlaa
open Go.RowKit
set_option linter.unusedSimpArgs false
theorem ceqin_f (w : World) (d : Nat) (F : FuncId) (fs cs : Array Value) : (Op.equalIn (d + 1) 68 (.func (.func F) fs cs) .nilFunc).run Try.prog w = .ok false w := by
 simp [Op.equalIn, run_underlying Try.underlying68]
theorem ceqin_n (w : World) (d : Nat) : (Op.equalIn (d + 1) 68 .nilFunc .nilFunc).run Try.prog w = .ok true w := by
 simp [Op.equalIn, run_underlying Try.underlying68]
theorem ceqf (w : World) (F : FuncId) (fs cs : Array Value) : (binOp .eql 68 (.func (.func F) fs cs) .nilFunc).run Try.prog w = .ok (.bool false) w := by
 simp only [binOp]
 simp [Op.equal, Op.maxDepth, ceqin_f w 9999 F fs cs]
theorem ceqn (w : World) : (binOp .eql 68 .nilFunc .nilFunc).run Try.prog w = .ok (.bool true) w := by
 simp only [binOp]
 simp [Op.equal, Op.maxDepth, ceqin_n w 9999]
/-- Is there a cycle of that number? -/
def hasB (rs : List Rn) (k : Int) : Bool := decide (1 ≤ k ∧ k ≤ (rs.length : Int))
/-- What the coordinator does at a message. -/
def doC (N : Nat) (rs : List Rn) (m : Msg) (fro : Int) : CAns :=
 if fro = -1 then
  if m.k = 5 then startC N rs m else if m.k = 16 then (if hasB rs m.y = true then dueC N rs m else (rs, [], 4)) else (rs, [], 110)
 else if m.k = 11 ∨ m.k = 13 ∨ m.k = 15 then
  if fro < 0 ∨ (N : Int) ≤ fro then (rs, [], 140) else if hasB rs m.y = false then (rs, [], 4) else
  if m.k = 11 then offerC N rs m fro.toNat else if m.k = 13 then voteC N rs m fro.toNat else queryC rs m fro
 else (rs, [], 110)
/-- Each cycle knows of each entity, and offers fit. -/
def COk (N : Nat) (rs : List Rn) : Prop := ∀ r ∈ rs, r.hs.length = N ∧ ∀ h ∈ r.hs, fitE (N : Int) h.ls = 0 ∧ h.ls.length ≤ 60
set_option linter.unusedSimpArgs false in
set_option maxHeartbeats 4000000 in
set_option maxRecDepth 100000 in
theorem byE_11 (w : World) : Calls Try.prog 14 #[.int .i64 11] w fun e w' => e = .returned (.func (.func 29) #[] #[]) ∧ Below w.heap.size w w' := by
 go_enter Try.func14, Try.ntmps14
 go_wp2_with fail
 go_ret
 exact ⟨rfl, Below.refl _ _⟩
set_option linter.unusedSimpArgs false in
set_option maxHeartbeats 4000000 in
set_option maxRecDepth 100000 in
theorem byE_13 (w : World) : Calls Try.prog 14 #[.int .i64 13] w fun e w' => e = .returned (.func (.func 30) #[] #[]) ∧ Below w.heap.size w w' := by
 go_enter Try.func14, Try.ntmps14
 go_wp2_with fail
 go_ret
 exact ⟨rfl, Below.refl _ _⟩
set_option linter.unusedSimpArgs false in
set_option maxHeartbeats 4000000 in
set_option maxRecDepth 100000 in
theorem byE_15 (w : World) : Calls Try.prog 14 #[.int .i64 15] w fun e w' => e = .returned (.func (.func 31) #[] #[]) ∧ Below w.heap.size w w' := by
 go_enter Try.func14, Try.ntmps14
 go_wp2_with fail
 go_ret
 exact ⟨rfl, Below.refl _ _⟩
set_option linter.unusedSimpArgs false in
set_option maxHeartbeats 4000000 in
set_option maxRecDepth 100000 in
theorem byE_none (w : World) (k : Int) (h0 : k ≠ 11) (h1 : k ≠ 13) (h2 : k ≠ 15) : Calls Try.prog 14 #[.int .i64 k] w fun e w' => e = .returned .nilFunc ∧ Below w.heap.size w w' := by
 have e0 : (k == 11) = false := by simpa using h0
 have e1 : (k == 13) = false := by simpa using h1
 have e2 : (k == 15) = false := by simpa using h2
 clear h0 h1 h2
 go_enter Try.func14, Try.ntmps14
 go_wp2_with fail
 go_ret
 exact ⟨rfl, Below.refl _ _⟩
set_option linter.unusedSimpArgs false in
set_option maxHeartbeats 4000000 in
set_option maxRecDepth 100000 in
theorem byC_5 (w : World) : Calls Try.prog 15 #[.int .i64 5] w fun e w' => e = .returned (.func (.func 32) #[] #[]) ∧ Below w.heap.size w w' := by
 go_enter Try.func15, Try.ntmps15
 go_wp2_with fail
 go_ret
 exact ⟨rfl, Below.refl _ _⟩
set_option linter.unusedSimpArgs false in
set_option maxHeartbeats 4000000 in
set_option maxRecDepth 100000 in
theorem byC_16 (w : World) : Calls Try.prog 15 #[.int .i64 16] w fun e w' => e = .returned (.func (.func 33) #[] #[]) ∧ Below w.heap.size w w' := by
 go_enter Try.func15, Try.ntmps15
 go_wp2_with fail
 go_ret
 exact ⟨rfl, Below.refl _ _⟩
set_option linter.unusedSimpArgs false in
set_option maxHeartbeats 4000000 in
set_option maxRecDepth 100000 in
theorem byC_none (w : World) (k : Int) (h0 : k ≠ 5) (h1 : k ≠ 16) : Calls Try.prog 15 #[.int .i64 k] w fun e w' => e = .returned .nilFunc ∧ Below w.heap.size w w' := by
 have e0 : (k == 5) = false := by simpa using h0
 have e1 : (k == 16) = false := by simpa using h1
 clear h0 h1
 go_enter Try.func15, Try.ntmps15
 go_wp2_with fail
 go_ret
 exact ⟨rfl, Below.refl _ _⟩
theorem of_hasB {rs : List Rn} {k : Int} {n : Nat} (h : hasB rs k = true) (hn : n = rs.length) : 1 ≤ k ∧ k ≤ n := by
 unfold hasB at h
 have := of_decide_eq_true h
 exact ⟨this.1, by rw [hn]; exact this.2⟩
set_option linter.unusedSimpArgs false in
set_option maxHeartbeats 4000000 in
set_option maxRecDepth 100000 in
theorem cdo_any (w : World) (P : Nat → Prop) (N : Nat) (p : Option Addr) (n c : Nat) (rs : List Rn) (y : MsgX) (fro : Int) (hrs : RsR P w (.slice p n c) rs) (hpw : ∀ b, P b → b < w.heap.size) (hn : n = rs.length) (hl : n ≤ 1000) (hN1 : 1 ≤ N) (hN8 : N ≤ 8) (hok : COk N rs) (Pm : Nat → Prop) (hy : y.InP Pm w) (hyl : y.m.ls.length ≤ 60) :
  Calls Try.prog 7 #[.agg #[.int .i64 (N : Int), .slice p n c], y.m.v (.slice y.pl y.m.ls.length y.cl) (.slice y.pn y.m.ns.length y.cn), .int .i64 fro] w (CP w P N (doC N rs y.m fro)) := by
 unfold CP
 have qE := ceqf
 have qN := ceqn
 have HRS := Lib.hid hrs
 have HPW := Lib.hid hpw
 have HNN : Hid (1 ≤ N ∧ N ≤ 8) := Lib.hid ⟨hN1, hN8⟩
 have HKK : Hid (n = rs.length ∧ n ≤ 1000) := Lib.hid ⟨hn, hl⟩
 have HOK := Lib.hid hok
 have HY := Lib.hid hy
 have HYL := Lib.hid hyl
 clear hrs hpw hN1 hN8 hn hl hok hy hyl
 unfold Msg.v
 have HB0 : Hid (Below w.heap.size w (((w.alloc (.cells #[.int .i64 (N : Int), .slice p n c] 27)).alloc (.cells #[.int .i64 y.m.k, .int .i64 y.m.s, .int .i64 y.m.n, .int .i64 y.m.b, .int .i64 y.m.c, .int .i64 y.m.r, .int .i64 y.m.y, .int .i64 y.m.a, .bool y.m.t, .slice y.pl y.m.ls.length y.cl, .slice y.pn y.m.ns.length y.cn] 36)).alloc (.cells #[.int .i64 0, .slice none 0 0] 27))) := Lib.hid ((((oneB w _).alloc (by simp <;> omega) _).alloc (by simp <;> omega) _))
 have Hc0 : Hid (Blk (((w.alloc (.cells #[.int .i64 (N : Int), .slice p n c] 27)).alloc (.cells #[.int .i64 y.m.k, .int .i64 y.m.s, .int .i64 y.m.n, .int .i64 y.m.b, .int .i64 y.m.c, .int .i64 y.m.r, .int .i64 y.m.y, .int .i64 y.m.a, .bool y.m.t, .slice y.pl y.m.ls.length y.cl, .slice y.pn y.m.ns.length y.cn] 36)).alloc (.cells #[.int .i64 0, .slice none 0 0] 27)) w.heap.size #[.int .i64 (N : Int), .slice p n c] 27) := Lib.hid (((Blk.new w #[.int .i64 (N : Int), .slice p n c] 27).alloc _).alloc _)
 have Hm0 : Hid (Blk (((w.alloc (.cells #[.int .i64 (N : Int), .slice p n c] 27)).alloc (.cells #[.int .i64 y.m.k, .int .i64 y.m.s, .int .i64 y.m.n, .int .i64 y.m.b, .int .i64 y.m.c, .int .i64 y.m.r, .int .i64 y.m.y, .int .i64 y.m.a, .bool y.m.t, .slice y.pl y.m.ls.length y.cl, .slice y.pn y.m.ns.length y.cn] 36)).alloc (.cells #[.int .i64 0, .slice none 0 0] 27)) (w.heap.size + 1) #[.int .i64 y.m.k, .int .i64 y.m.s, .int .i64 y.m.n, .int .i64 y.m.b, .int .i64 y.m.c, .int .i64 y.m.r, .int .i64 y.m.y, .int .i64 y.m.a, .bool y.m.t, .slice y.pl y.m.ls.length y.cl, .slice y.pn y.m.ns.length y.cn] 36) := Lib.hid ((Blk.new' (w.alloc (.cells #[.int .i64 (N : Int), .slice p n c] 27)) #[.int .i64 y.m.k, .int .i64 y.m.s, .int .i64 y.m.n, .int .i64 y.m.b, .int .i64 y.m.c, .int .i64 y.m.r, .int .i64 y.m.y, .int .i64 y.m.a, .bool y.m.t, .slice y.pl y.m.ls.length y.cl, .slice y.pn y.m.ns.length y.cn] 36 (by simp)).alloc _)
 have Hr0 : Hid (Blk (((w.alloc (.cells #[.int .i64 (N : Int), .slice p n c] 27)).alloc (.cells #[.int .i64 y.m.k, .int .i64 y.m.s, .int .i64 y.m.n, .int .i64 y.m.b, .int .i64 y.m.c, .int .i64 y.m.r, .int .i64 y.m.y, .int .i64 y.m.a, .bool y.m.t, .slice y.pl y.m.ls.length y.cl, .slice y.pn y.m.ns.length y.cn] 36)).alloc (.cells #[.int .i64 0, .slice none 0 0] 27)) (w.heap.size + 1 + 1) #[.int .i64 0, .slice none 0 0] 27) := Lib.hid (Blk.new' ((w.alloc (.cells #[.int .i64 (N : Int), .slice p n c] 27)).alloc (.cells #[.int .i64 y.m.k, .int .i64 y.m.s, .int .i64 y.m.n, .int .i64 y.m.b, .int .i64 y.m.c, .int .i64 y.m.r, .int .i64 y.m.y, .int .i64 y.m.a, .bool y.m.t, .slice y.pl y.m.ls.length y.cl, .slice y.pn y.m.ns.length y.cn] 36)) #[.int .i64 0, .slice none 0 0] 27 (by simp))
 have HZ0 : Hid (w.heap.size ≤ (((w.alloc (.cells #[.int .i64 (N : Int), .slice p n c] 27)).alloc (.cells #[.int .i64 y.m.k, .int .i64 y.m.s, .int .i64 y.m.n, .int .i64 y.m.b, .int .i64 y.m.c, .int .i64 y.m.r, .int .i64 y.m.y, .int .i64 y.m.a, .bool y.m.t, .slice y.pl y.m.ls.length y.cl, .slice y.pn y.m.ns.length y.cn] 36)).alloc (.cells #[.int .i64 0, .slice none 0 0] 27)).heap.size) := Lib.hid HB0.out.size
 go_enter Try.func7, Try.ntmps7
 go_upto_region 1 with fail
 generalize (((w.alloc (.cells #[.int .i64 (N : Int), .slice p n c] 27)).alloc (.cells #[.int .i64 y.m.k, .int .i64 y.m.s, .int .i64 y.m.n, .int .i64 y.m.b, .int .i64 y.m.c, .int .i64 y.m.r, .int .i64 y.m.y, .int .i64 y.m.a, .bool y.m.t, .slice y.pl y.m.ls.length y.cl, .slice y.pn y.m.ns.length y.cn] 36)).alloc (.cells #[.int .i64 0, .slice none 0 0] 27)) = W at *
 have HWL : Hid (w.heap.size + 1 + 1 < W.heap.size) := Lib.hid Hr0.out.lt
 by_cases hf : fro = -1
 ·skip
  have HFR : Hid (fro = -1) := Lib.hid hf
  subst hf
  by_cases hk : y.m.k = 5
  ·skip
   have HKE : Hid (y.m.k = 5) := Lib.hid hk
   clear hk
   have HG := Lib.hid (byE_none W 5 (by decide) (by decide) (by decide))
   have c0 : W.cell? ⟨w.heap.size + 1, 0, none⟩ = some (.int .i64 5) := by have h := Hm0.out.cell 0; rw [← HKE.out]; exact h
   go_wp2_with fail
   refine HG.out.mono ?_
   rintro y9 w1 ⟨rfl, hb⟩
   clear HG c0
   have HW1 : Hid (W.heap.size ≤ w1.heap.size) := Lib.hid hb.size
   have Hc1 := kbq Hc0 hb
   have Hm1 := kbq Hm0 hb
   have Hr1 := kbq Hr0 hb
   have HB1 := ktq HB0 hb
   have HZ1 := kzq HZ0 hb.size
   clear Hc0 Hm0 Hr0 HB0 HZ0
   clear hb
   have HWW : Hid (W.heap.size ≤ w1.heap.size) := Lib.hid HW1.out
   have HG := Lib.hid (byC_5 w1)
   have c0 : w1.cell? ⟨w.heap.size + 1, 0, none⟩ = some (.int .i64 5) := by have h := Hm1.out.cell 0; rw [← HKE.out]; exact h
   go_wp2_with fail
   refine HG.out.mono ?_
   rintro y9 w2 ⟨rfl, hb⟩
   clear HG c0
   have HWW : Hid (W.heap.size ≤ w2.heap.size) := Lib.hid (Nat.le_trans HWW.out hb.size)
   have Hc2 := kbq Hc1 hb
   have Hm2 := kbq Hm1 hb
   have Hr2 := kbq Hr1 hb
   have HB2 := ktq HB1 hb
   have HZ2 := kzq HZ1 hb.size
   clear Hc1 Hm1 Hr1 HB1 HZ1
   clear hb
   have c0 : w2.cell? ⟨w.heap.size + 1, 0, none⟩ = some (.int .i64 5) := by have h := Hm2.out.cell 0; rw [← HKE.out]; exact h
   obtain ⟨A, hA⟩ : ∃ A, startC N rs y.m = A := ⟨_, rfl⟩
   have HE : Hid (doC N rs y.m (-1) = A) := Lib.hid (by show _ = _; unfold doC; rw [if_pos rfl, if_pos HKE.out]; exact hA)
   go_upto_region 10 with fail
   clear c0
   have HGX : Hid (W.heap.size ≤ w2.heap.size) := Lib.hid (by have h1 := HWW.out; exact h1)
   have HG := Lib.hid (cstart_any w2 (fun b => P b ∨ (W.heap.size ≤ b ∧ b < w2.heap.size)) N p n c rs y (-1) ((HRS.out.kept HB2.out).imp (fun b h => .inl h)) (fun b h => h.elim (fun h1 => Nat.lt_of_lt_of_le (HPW.out b h1) HZ2.out) (fun h1 => h1.2)) HKK.out.1 HKK.out.2 HNN.out.1 HNN.out.2)
   unfold CP CPost Msg.v at HG
   rw [hA] at HG
   clear hA
   have a0 : w2.cell? ⟨w.heap.size, 0, none⟩ = some (.int .i64 (N : Int)) := Hc2.out.cell 0
   have a1 : w2.cell? ⟨w.heap.size, 1, none⟩ = some (.slice p n c) := Hc2.out.cell 1
   have m0 : w2.cell? ⟨(w.heap.size + 1), 0, none⟩ = some (.int .i64 y.m.k) := Hm2.out.cell 0
   have m1 : w2.cell? ⟨(w.heap.size + 1), 1, none⟩ = some (.int .i64 y.m.s) := Hm2.out.cell 1
   have m2 : w2.cell? ⟨(w.heap.size + 1), 2, none⟩ = some (.int .i64 y.m.n) := Hm2.out.cell 2
   have m3 : w2.cell? ⟨(w.heap.size + 1), 3, none⟩ = some (.int .i64 y.m.b) := Hm2.out.cell 3
   have m4 : w2.cell? ⟨(w.heap.size + 1), 4, none⟩ = some (.int .i64 y.m.c) := Hm2.out.cell 4
   have m5 : w2.cell? ⟨(w.heap.size + 1), 5, none⟩ = some (.int .i64 y.m.r) := Hm2.out.cell 5
   have m6 : w2.cell? ⟨(w.heap.size + 1), 6, none⟩ = some (.int .i64 y.m.y) := Hm2.out.cell 6
   have m7 : w2.cell? ⟨(w.heap.size + 1), 7, none⟩ = some (.int .i64 y.m.a) := Hm2.out.cell 7
   have m8 : w2.cell? ⟨(w.heap.size + 1), 8, none⟩ = some (.bool y.m.t) := Hm2.out.cell 8
   have m9 : w2.cell? ⟨(w.heap.size + 1), 9, none⟩ = some (.slice y.pl y.m.ls.length y.cl) := Hm2.out.cell 9
   have m10 : w2.cell? ⟨(w.heap.size + 1), 10, none⟩ = some (.slice y.pn y.m.ns.length y.cn) := Hm2.out.cell 10
   go_wp2_with fail
   clear a0 a1 m0 m1 m2 m3 m4 m5 m6 m7 m8 m9 m10
   refine HG.out.mono ?_
   rintro y9 w5 ⟨p3, n3, c3, pv3, nv3, cv3, B3, rfl, hn3, hnv3, hB3, hq3, hs3, hb⟩
   clear HG
   have HN3 := Lib.hid (And.intro hn3 hnv3)
   have HBB : Hid (w2.heap.size ≤ B3) := Lib.hid hB3
   have HQQ := Lib.hid hq3
   have HSS := Lib.hid hs3
   clear hn3 hnv3 hB3 hq3 hs3
   have Hc3 := kbq Hc2 hb
   have Hm3 := kbq Hm2 hb
   have Hr3 := kbq Hr2 hb
   have HB3 := ktq HB2 hb
   have HZ3 := kzq HZ2 hb.size
   clear Hc2 Hm2 Hr2 HB2 HZ2
   clear hb
   obtain ⟨rs3, out3, e3⟩ := A
   go_wp2_with (with_reducible refine stop_storeT 27 (.tmp 6) (.tmp 53) rfl ?_)
   have HTH : Hid (w5.there (w.heap.size + 1 + 1) 0 2) := Hr3.out.thereAt
   have hch : Hid (Chg (w.heap.size + 1 + 1) w5 (w5.setCells (w.heap.size + 1 + 1) 0 (#[.int .i64 (N : Int), .slice p3 n3 c3] : Array Value).toList)) := Lib.hid (chg_putL _ _ _ _ _ (Chg.refl _ w5))
   have Hr4 : Hid (Blk (w5.setCells (w.heap.size + 1 + 1) 0 (#[.int .i64 (N : Int), .slice p3 n3 c3] : Array Value).toList) (w.heap.size + 1 + 1) #[.int .i64 (N : Int), .slice p3 n3 c3] 27) := Lib.hid (blk_put_all Hr3.out _ rfl)
   have HB4 : Hid (Below w.heap.size w (w5.setCells (w.heap.size + 1 + 1) 0 (#[.int .i64 (N : Int), .slice p3 n3 c3] : Array Value).toList)) := Lib.hid (below_put (by have := HWL.out; omega) _ _ _ _ HB3.out)
   have HZ4 := kzq HZ3 hch.out.size
   have Hc4 := kcq Hc3 hch (by have := HWL.out; omega)
   have Hm4 := kcq Hm3 hch (by have := HWL.out; omega)
   have HST := Lib.hid (HSS.out.chgS hch.out (by have := HBB.out; have := HWL.out; have := HGX.out; omega))
   have HQR := Lib.hid ((HQQ.out.imp (Q := fun b => b ≠ w.heap.size + 1 + 1 ∧ (P b ∨ (w.heap.size ≤ b ∧ b < B3))) (fun b h => by
    have h5 := HBB.out
    have h6 := HWL.out
    have h7 := HGX.out
    rcases h with (h1 | h1) | h1
    ·have := HPW.out _ h1
     exact ⟨by omega, .inl h1⟩
    ·exact ⟨by omega, .inr (by omega)⟩
    ·exact ⟨by omega, .inr (by omega)⟩)).keepP (KeepP.of_chg hch.out (by rintro ⟨h, _⟩; exact h rfl)))
   clear HSS HQQ
   clear hch Hc3 Hm3 Hr3 HB3 HZ3
   refine wpList_store_mid rfl 27 (.tmp 6) (.tmp 53) rfl (w.heap.size + 1 + 1) 0 #[.int .i64 (N : Int), .slice p3 n3 c3] rfl rfl HTH.out (infoC2 rfl) (all_oneCell_toArray (by intro u hu; simp at hu; rcases hu with rfl | rfl <;> rfl)) ?_
   generalize (w5.setCells (w.heap.size + 1 + 1) 0 (#[.int .i64 (N : Int), .slice p3 n3 c3] : Array Value).toList) = W9s at *
   clear HTH
   go_wp2_with fail
   have hfr := Hr4.out
   refine bodyPost_ret (v := .tuple #[.agg #[.int .i64 (N : Int), .slice p3 n3 c3], .slice pv3 nv3 cv3, .int .i64 e3]) (by simp [results, Try.results7, go_sem, hfr.cell 0, hfr.cell 1]) rfl (by rw [HE.out]; exact ⟨p3, n3, c3, pv3, nv3, cv3, B3, rfl, HN3.out.1, HN3.out.2, by have := HBB.out; have := HWL.out; have := HGX.out; omega, HQR.out.imp (fun b h => h.2), HST.out, HB4.out⟩)
  have hk5 := hk
  clear hk
  by_cases hk : y.m.k = 16
  ·skip
   have HKE : Hid (y.m.k = 16) := Lib.hid hk
   clear hk
   have HG := Lib.hid (byE_none W 16 (by decide) (by decide) (by decide))
   have c0 : W.cell? ⟨w.heap.size + 1, 0, none⟩ = some (.int .i64 16) := by have h := Hm0.out.cell 0; rw [← HKE.out]; exact h
   go_wp2_with fail
   refine HG.out.mono ?_
   rintro y9 w1 ⟨rfl, hb⟩
   clear HG c0
   have HW1 : Hid (W.heap.size ≤ w1.heap.size) := Lib.hid hb.size
   have Hc1 := kbq Hc0 hb
   have Hm1 := kbq Hm0 hb
   have Hr1 := kbq Hr0 hb
   have HB1 := ktq HB0 hb
   have HZ1 := kzq HZ0 hb.size
   clear Hc0 Hm0 Hr0 HB0 HZ0
   clear hb
   have HWW : Hid (W.heap.size ≤ w1.heap.size) := Lib.hid HW1.out
   have HG := Lib.hid (byC_16 w1)
   have c0 : w1.cell? ⟨w.heap.size + 1, 0, none⟩ = some (.int .i64 16) := by have h := Hm1.out.cell 0; rw [← HKE.out]; exact h
   go_wp2_with fail
   refine HG.out.mono ?_
   rintro y9 w2 ⟨rfl, hb⟩
   clear HG c0
   have HWW : Hid (W.heap.size ≤ w2.heap.size) := Lib.hid (Nat.le_trans HWW.out hb.size)
   have Hc2 := kbq Hc1 hb
   have Hm2 := kbq Hm1 hb
   have Hr2 := kbq Hr1 hb
   have HB2 := ktq HB1 hb
   have HZ2 := kzq HZ1 hb.size
   clear Hc1 Hm1 Hr1 HB1 HZ1
   clear hb
   have c0 : w2.cell? ⟨w.heap.size + 1, 0, none⟩ = some (.int .i64 16) := by have h := Hm2.out.cell 0; rw [← HKE.out]; exact h
   have HG := Lib.hid (chas_any w2 (N : Int) y.m.y p n c)
   rw [show decide (1 ≤ y.m.y ∧ y.m.y ≤ (n : Int)) = hasB rs y.m.y by unfold hasB; rw [← HKK.out.1]] at HG
   obtain ⟨bh, hbh⟩ : ∃ bh, hasB rs y.m.y = bh := ⟨_, rfl⟩
   rw [hbh] at HG
   have HHS := Lib.hid hbh
   clear hbh
   have a0 : w2.cell? ⟨w.heap.size, 0, none⟩ = some (.int .i64 (N : Int)) := Hc2.out.cell 0
   have a1 : w2.cell? ⟨w.heap.size, 1, none⟩ = some (.slice p n c) := Hc2.out.cell 1
   have m6 : w2.cell? ⟨(w.heap.size + 1), 6, none⟩ = some (.int .i64 y.m.y) := Hm2.out.cell 6
   go_wp2_with fail
   clear a0 a1 m6 
   refine HG.out.mono ?_
   rintro y9 w8 ⟨rfl, hb⟩
   clear HG c0
   have HWW : Hid (W.heap.size ≤ w8.heap.size) := Lib.hid (Nat.le_trans HWW.out hb.size)
   have Hc3 := kbq Hc2 hb
   have Hm3 := kbq Hm2 hb
   have Hr3 := kbq Hr2 hb
   have HB3 := ktq HB2 hb
   have HZ3 := kzq HZ2 hb.size
   clear Hc2 Hm2 Hr2 HB2 HZ2
   clear hb
   cases bh
   ·skip
    have HE : Hid (doC N rs y.m (-1) = (rs, [], 4)) := Lib.hid (by unfold doC; rw [if_pos rfl, if_neg (by rw [HKE.out]; decide), if_pos HKE.out, if_neg (by rw [HHS.out]; decide)])
    go_upto_region 9 with fail
    have a0 : w8.cell? ⟨w.heap.size, 0, none⟩ = some (.int .i64 (N : Int)) := Hc3.out.cell 0
    have a1 : w8.cell? ⟨w.heap.size, 1, none⟩ = some (.slice p n c) := Hc3.out.cell 1
    go_wp2_with (with_reducible refine stop_storeT 27 (.tmp 6) (.tmp 47) rfl ?_)
    clear a0 a1
    have HTH : Hid (w8.there (w.heap.size + 1 + 1) 0 2) := Hr3.out.thereAt
    have hch : Hid (Chg (w.heap.size + 1 + 1) w8 (w8.setCells (w.heap.size + 1 + 1) 0 (#[.int .i64 (N : Int), .slice p n c] : Array Value).toList)) := Lib.hid (chg_putL _ _ _ _ _ (Chg.refl _ w8))
    have Hr4 : Hid (Blk (w8.setCells (w.heap.size + 1 + 1) 0 (#[.int .i64 (N : Int), .slice p n c] : Array Value).toList) (w.heap.size + 1 + 1) #[.int .i64 (N : Int), .slice p n c] 27) := Lib.hid (blk_put_all Hr3.out _ rfl)
    have HB4 : Hid (Below w.heap.size w (w8.setCells (w.heap.size + 1 + 1) 0 (#[.int .i64 (N : Int), .slice p n c] : Array Value).toList)) := Lib.hid (below_put (by have := HWL.out; omega) _ _ _ _ HB3.out)
    have HZ4 := kzq HZ3 hch.out.size
    have Hc4 := kcq Hc3 hch (by have := HWL.out; omega)
    have Hm4 := kcq Hm3 hch (by have := HWL.out; omega)
    clear hch Hc3 Hm3 Hr3 HB3 HZ3
    refine wpList_store_mid rfl 27 (.tmp 6) (.tmp 47) rfl (w.heap.size + 1 + 1) 0 #[.int .i64 (N : Int), .slice p n c] rfl rfl HTH.out (infoC2 rfl) (all_oneCell_toArray (by intro u hu; simp at hu; rcases hu with rfl | rfl <;> rfl)) ?_
    generalize (w8.setCells (w.heap.size + 1 + 1) 0 (#[.int .i64 (N : Int), .slice p n c] : Array Value).toList) = W9h at *
    clear HTH
    go_wp2_with fail
    have hfr := Hr4.out
    refine bodyPost_ret (v := .tuple #[.agg #[.int .i64 (N : Int), .slice p n c], .slice none 0 0, .int .i64 4]) (by simp [results, Try.results7, go_sem, hfr.cell 0, hfr.cell 1]) rfl (by rw [HE.out]; exact ⟨p, n, c, none, 0, 0, W9h.heap.size, rfl, HKK.out.1, rfl, HZ4.out, (HRS.out.kept HB4.out).imp (fun b h => .inl h), SaidL.nil_ _ _, HB4.out⟩)
   ·skip
    obtain ⟨A, hA⟩ : ∃ A, dueC N rs y.m = A := ⟨_, rfl⟩
    have HE : Hid (doC N rs y.m (-1) = A) := Lib.hid (by show _ = _; unfold doC; rw [if_pos rfl, if_neg (by rw [HKE.out]; decide), if_pos HKE.out, if_pos HHS.out]; exact hA)
    go_upto_region 10 with fail
    have HGX : Hid (W.heap.size ≤ w8.heap.size) := Lib.hid (by have h1 := HWW.out; exact h1)
    have HG := Lib.hid (cdue_any w8 (fun b => P b ∨ (W.heap.size ≤ b ∧ b < w8.heap.size)) N p n c rs y (-1) ((HRS.out.kept HB3.out).imp (fun b h => .inl h)) (fun b h => h.elim (fun h1 => Nat.lt_of_lt_of_le (HPW.out b h1) HZ3.out) (fun h1 => h1.2)) HKK.out.1 (by have := HKK.out; omega) (of_hasB HHS.out HKK.out.1).1 (of_hasB HHS.out HKK.out.1).2 HNN.out.1 HNN.out.2 (fun r hr => (HOK.out r hr).1))
    unfold CP CPost Msg.v at HG
    rw [hA] at HG
    clear hA
    have a0 : w8.cell? ⟨w.heap.size, 0, none⟩ = some (.int .i64 (N : Int)) := Hc3.out.cell 0
    have a1 : w8.cell? ⟨w.heap.size, 1, none⟩ = some (.slice p n c) := Hc3.out.cell 1
    have m0 : w8.cell? ⟨(w.heap.size + 1), 0, none⟩ = some (.int .i64 y.m.k) := Hm3.out.cell 0
    have m1 : w8.cell? ⟨(w.heap.size + 1), 1, none⟩ = some (.int .i64 y.m.s) := Hm3.out.cell 1
    have m2 : w8.cell? ⟨(w.heap.size + 1), 2, none⟩ = some (.int .i64 y.m.n) := Hm3.out.cell 2
    have m3 : w8.cell? ⟨(w.heap.size + 1), 3, none⟩ = some (.int .i64 y.m.b) := Hm3.out.cell 3
    have m4 : w8.cell? ⟨(w.heap.size + 1), 4, none⟩ = some (.int .i64 y.m.c) := Hm3.out.cell 4
    have m5 : w8.cell? ⟨(w.heap.size + 1), 5, none⟩ = some (.int .i64 y.m.r) := Hm3.out.cell 5
    have m6 : w8.cell? ⟨(w.heap.size + 1), 6, none⟩ = some (.int .i64 y.m.y) := Hm3.out.cell 6
    have m7 : w8.cell? ⟨(w.heap.size + 1), 7, none⟩ = some (.int .i64 y.m.a) := Hm3.out.cell 7
    have m8 : w8.cell? ⟨(w.heap.size + 1), 8, none⟩ = some (.bool y.m.t) := Hm3.out.cell 8
    have m9 : w8.cell? ⟨(w.heap.size + 1), 9, none⟩ = some (.slice y.pl y.m.ls.length y.cl) := Hm3.out.cell 9
    have m10 : w8.cell? ⟨(w.heap.size + 1), 10, none⟩ = some (.slice y.pn y.m.ns.length y.cn) := Hm3.out.cell 10
    go_wp2_with fail
    clear a0 a1 m0 m1 m2 m3 m4 m5 m6 m7 m8 m9 m10
    refine HG.out.mono ?_
    rintro y9 w5 ⟨p3, n3, c3, pv3, nv3, cv3, B3, rfl, hn3, hnv3, hB3, hq3, hs3, hb⟩
    clear HG
    have HN3 := Lib.hid (And.intro hn3 hnv3)
    have HBB : Hid (w8.heap.size ≤ B3) := Lib.hid hB3
    have HQQ := Lib.hid hq3
    have HSS := Lib.hid hs3
    clear hn3 hnv3 hB3 hq3 hs3
    have Hc4 := kbq Hc3 hb
    have Hm4 := kbq Hm3 hb
    have Hr4 := kbq Hr3 hb
    have HB4 := ktq HB3 hb
    have HZ4 := kzq HZ3 hb.size
    clear Hc3 Hm3 Hr3 HB3 HZ3
    clear hb
    obtain ⟨rs3, out3, e3⟩ := A
    go_wp2_with (with_reducible refine stop_storeT 27 (.tmp 6) (.tmp 53) rfl ?_)
    have HTH : Hid (w5.there (w.heap.size + 1 + 1) 0 2) := Hr4.out.thereAt
    have hch : Hid (Chg (w.heap.size + 1 + 1) w5 (w5.setCells (w.heap.size + 1 + 1) 0 (#[.int .i64 (N : Int), .slice p3 n3 c3] : Array Value).toList)) := Lib.hid (chg_putL _ _ _ _ _ (Chg.refl _ w5))
    have Hr5 : Hid (Blk (w5.setCells (w.heap.size + 1 + 1) 0 (#[.int .i64 (N : Int), .slice p3 n3 c3] : Array Value).toList) (w.heap.size + 1 + 1) #[.int .i64 (N : Int), .slice p3 n3 c3] 27) := Lib.hid (blk_put_all Hr4.out _ rfl)
    have HB5 : Hid (Below w.heap.size w (w5.setCells (w.heap.size + 1 + 1) 0 (#[.int .i64 (N : Int), .slice p3 n3 c3] : Array Value).toList)) := Lib.hid (below_put (by have := HWL.out; omega) _ _ _ _ HB4.out)
    have HZ5 := kzq HZ4 hch.out.size
    have Hc5 := kcq Hc4 hch (by have := HWL.out; omega)
    have Hm5 := kcq Hm4 hch (by have := HWL.out; omega)
    have HST := Lib.hid (HSS.out.chgS hch.out (by have := HBB.out; have := HWL.out; have := HGX.out; omega))
    have HQR := Lib.hid ((HQQ.out.imp (Q := fun b => b ≠ w.heap.size + 1 + 1 ∧ (P b ∨ (w.heap.size ≤ b ∧ b < B3))) (fun b h => by
     have h5 := HBB.out
     have h6 := HWL.out
     have h7 := HGX.out
     rcases h with (h1 | h1) | h1
     ·have := HPW.out _ h1
      exact ⟨by omega, .inl h1⟩
     ·exact ⟨by omega, .inr (by omega)⟩
     ·exact ⟨by omega, .inr (by omega)⟩)).keepP (KeepP.of_chg hch.out (by rintro ⟨h, _⟩; exact h rfl)))
    clear HSS HQQ
    clear hch Hc4 Hm4 Hr4 HB4 HZ4
    refine wpList_store_mid rfl 27 (.tmp 6) (.tmp 53) rfl (w.heap.size + 1 + 1) 0 #[.int .i64 (N : Int), .slice p3 n3 c3] rfl rfl HTH.out (infoC2 rfl) (all_oneCell_toArray (by intro u hu; simp at hu; rcases hu with rfl | rfl <;> rfl)) ?_
    generalize (w5.setCells (w.heap.size + 1 + 1) 0 (#[.int .i64 (N : Int), .slice p3 n3 c3] : Array Value).toList) = W9d at *
    clear HTH
    go_wp2_with fail
    have hfr := Hr5.out
    refine bodyPost_ret (v := .tuple #[.agg #[.int .i64 (N : Int), .slice p3 n3 c3], .slice pv3 nv3 cv3, .int .i64 e3]) (by simp [results, Try.results7, go_sem, hfr.cell 0, hfr.cell 1]) rfl (by rw [HE.out]; exact ⟨p3, n3, c3, pv3, nv3, cv3, B3, rfl, HN3.out.1, HN3.out.2, by have := HBB.out; have := HWL.out; have := HGX.out; omega, HQR.out.imp (fun b h => h.2), HST.out, HB5.out⟩)
  have hk16 := hk
  clear hk
  have HN5 := Lib.hid hk5
  have HN16 := Lib.hid hk16
  by_cases hk : y.m.k = 11
  ·skip
   have HKE : Hid (y.m.k = 11) := Lib.hid hk
   clear hk hk5 hk16
   have HG := Lib.hid (byE_11 W)
   have c0 : W.cell? ⟨w.heap.size + 1, 0, none⟩ = some (.int .i64 11) := by have h := Hm0.out.cell 0; rw [← HKE.out]; exact h
   go_wp2_with fail
   refine HG.out.mono ?_
   rintro y9 w1 ⟨rfl, hb⟩
   clear HG c0
   have Hc1 := kbq Hc0 hb
   have Hm1 := kbq Hm0 hb
   have Hr1 := kbq Hr0 hb
   have HB1 := ktq HB0 hb
   have HZ1 := kzq HZ0 hb.size
   clear Hc0 Hm0 Hr0 HB0 HZ0
   clear hb
   have HG := Lib.hid (byC_none w1 y.m.k HN5.out HN16.out)
   have c0 : w1.cell? ⟨(w.heap.size + 1), 0, none⟩ = some (.int .i64 y.m.k) := Hm1.out.cell 0
   go_wp2_with fail
   refine HG.out.mono ?_
   rintro y9 w2 ⟨rfl, hb⟩
   clear HG c0
   have Hc2 := kbq Hc1 hb
   have Hm2 := kbq Hm1 hb
   have Hr2 := kbq Hr1 hb
   have HB2 := ktq HB1 hb
   have HZ2 := kzq HZ1 hb.size
   clear Hc1 Hm1 Hr1 HB1 HZ1
   clear hb
   have HE : Hid (doC N rs y.m (-1) = (rs, [], 110)) := Lib.hid (by unfold doC; rw [if_pos rfl, if_neg HN5.out, if_neg HN16.out])
   go_upto_region 5 with fail
   have a0 : w2.cell? ⟨w.heap.size, 0, none⟩ = some (.int .i64 (N : Int)) := Hc2.out.cell 0
   have a1 : w2.cell? ⟨w.heap.size, 1, none⟩ = some (.slice p n c) := Hc2.out.cell 1
   go_wp2_with (with_reducible refine stop_storeT 27 (.tmp 6) (.tmp 21) rfl ?_)
   clear a0 a1
   have HTH : Hid (w2.there (w.heap.size + 1 + 1) 0 2) := Hr2.out.thereAt
   have hch : Hid (Chg (w.heap.size + 1 + 1) w2 (w2.setCells (w.heap.size + 1 + 1) 0 (#[.int .i64 (N : Int), .slice p n c] : Array Value).toList)) := Lib.hid (chg_putL _ _ _ _ _ (Chg.refl _ w2))
   have Hr3 : Hid (Blk (w2.setCells (w.heap.size + 1 + 1) 0 (#[.int .i64 (N : Int), .slice p n c] : Array Value).toList) (w.heap.size + 1 + 1) #[.int .i64 (N : Int), .slice p n c] 27) := Lib.hid (blk_put_all Hr2.out _ rfl)
   have HB3 : Hid (Below w.heap.size w (w2.setCells (w.heap.size + 1 + 1) 0 (#[.int .i64 (N : Int), .slice p n c] : Array Value).toList)) := Lib.hid (below_put (by have := HWL.out; omega) _ _ _ _ HB2.out)
   have HZ3 := kzq HZ2 hch.out.size
   have Hc3 := kcq Hc2 hch (by have := HWL.out; omega)
   have Hm3 := kcq Hm2 hch (by have := HWL.out; omega)
   clear hch Hc2 Hm2 Hr2 HB2 HZ2
   refine wpList_store_mid rfl 27 (.tmp 6) (.tmp 21) rfl (w.heap.size + 1 + 1) 0 #[.int .i64 (N : Int), .slice p n c] rfl rfl HTH.out (infoC2 rfl) (all_oneCell_toArray (by intro u hu; simp at hu; rcases hu with rfl | rfl <;> rfl)) ?_
   generalize (w2.setCells (w.heap.size + 1 + 1) 0 (#[.int .i64 (N : Int), .slice p n c] : Array Value).toList) = W9n at *
   clear HTH
   go_wp2_with fail
   have hfr := Hr3.out
   refine bodyPost_ret (v := .tuple #[.agg #[.int .i64 (N : Int), .slice p n c], .slice none 0 0, .int .i64 110]) (by simp [results, Try.results7, go_sem, hfr.cell 0, hfr.cell 1]) rfl (by rw [HE.out]; exact ⟨p, n, c, none, 0, 0, W9n.heap.size, rfl, HKK.out.1, rfl, HZ3.out, (HRS.out.kept HB3.out).imp (fun b h => .inl h), SaidL.nil_ _ _, HB3.out⟩)
  have hk11 := hk
  clear hk
  by_cases hk : y.m.k = 13
  ·skip
   have HKE : Hid (y.m.k = 13) := Lib.hid hk
   clear hk hk5 hk16
   have HG := Lib.hid (byE_13 W)
   have c0 : W.cell? ⟨w.heap.size + 1, 0, none⟩ = some (.int .i64 13) := by have h := Hm0.out.cell 0; rw [← HKE.out]; exact h
   go_wp2_with fail
   refine HG.out.mono ?_
   rintro y9 w1 ⟨rfl, hb⟩
   clear HG c0
   have Hc1 := kbq Hc0 hb
   have Hm1 := kbq Hm0 hb
   have Hr1 := kbq Hr0 hb
   have HB1 := ktq HB0 hb
   have HZ1 := kzq HZ0 hb.size
   clear Hc0 Hm0 Hr0 HB0 HZ0
   clear hb
   have HG := Lib.hid (byC_none w1 y.m.k HN5.out HN16.out)
   have c0 : w1.cell? ⟨(w.heap.size + 1), 0, none⟩ = some (.int .i64 y.m.k) := Hm1.out.cell 0
   go_wp2_with fail
   refine HG.out.mono ?_
   rintro y9 w2 ⟨rfl, hb⟩
   clear HG c0
   have Hc2 := kbq Hc1 hb
   have Hm2 := kbq Hm1 hb
   have Hr2 := kbq Hr1 hb
   have HB2 := ktq HB1 hb
   have HZ2 := kzq HZ1 hb.size
   clear Hc1 Hm1 Hr1 HB1 HZ1
   clear hb
   have HE : Hid (doC N rs y.m (-1) = (rs, [], 110)) := Lib.hid (by unfold doC; rw [if_pos rfl, if_neg HN5.out, if_neg HN16.out])
   go_upto_region 5 with fail
   have a0 : w2.cell? ⟨w.heap.size, 0, none⟩ = some (.int .i64 (N : Int)) := Hc2.out.cell 0
   have a1 : w2.cell? ⟨w.heap.size, 1, none⟩ = some (.slice p n c) := Hc2.out.cell 1
   go_wp2_with (with_reducible refine stop_storeT 27 (.tmp 6) (.tmp 21) rfl ?_)
   clear a0 a1
   have HTH : Hid (w2.there (w.heap.size + 1 + 1) 0 2) := Hr2.out.thereAt
   have hch : Hid (Chg (w.heap.size + 1 + 1) w2 (w2.setCells (w.heap.size + 1 + 1) 0 (#[.int .i64 (N : Int), .slice p n c] : Array Value).toList)) := Lib.hid (chg_putL _ _ _ _ _ (Chg.refl _ w2))
   have Hr3 : Hid (Blk (w2.setCells (w.heap.size + 1 + 1) 0 (#[.int .i64 (N : Int), .slice p n c] : Array Value).toList) (w.heap.size + 1 + 1) #[.int .i64 (N : Int), .slice p n c] 27) := Lib.hid (blk_put_all Hr2.out _ rfl)
   have HB3 : Hid (Below w.heap.size w (w2.setCells (w.heap.size + 1 + 1) 0 (#[.int .i64 (N : Int), .slice p n c] : Array Value).toList)) := Lib.hid (below_put (by have := HWL.out; omega) _ _ _ _ HB2.out)
   have HZ3 := kzq HZ2 hch.out.size
   have Hc3 := kcq Hc2 hch (by have := HWL.out; omega)
   have Hm3 := kcq Hm2 hch (by have := HWL.out; omega)
   clear hch Hc2 Hm2 Hr2 HB2 HZ2
   refine wpList_store_mid rfl 27 (.tmp 6) (.tmp 21) rfl (w.heap.size + 1 + 1) 0 #[.int .i64 (N : Int), .slice p n c] rfl rfl HTH.out (infoC2 rfl) (all_oneCell_toArray (by intro u hu; simp at hu; rcases hu with rfl | rfl <;> rfl)) ?_
   generalize (w2.setCells (w.heap.size + 1 + 1) 0 (#[.int .i64 (N : Int), .slice p n c] : Array Value).toList) = W9n at *
   clear HTH
   go_wp2_with fail
   have hfr := Hr3.out
   refine bodyPost_ret (v := .tuple #[.agg #[.int .i64 (N : Int), .slice p n c], .slice none 0 0, .int .i64 110]) (by simp [results, Try.results7, go_sem, hfr.cell 0, hfr.cell 1]) rfl (by rw [HE.out]; exact ⟨p, n, c, none, 0, 0, W9n.heap.size, rfl, HKK.out.1, rfl, HZ3.out, (HRS.out.kept HB3.out).imp (fun b h => .inl h), SaidL.nil_ _ _, HB3.out⟩)
  have hk13 := hk
  clear hk
  by_cases hk : y.m.k = 15
  ·skip
   have HKE : Hid (y.m.k = 15) := Lib.hid hk
   clear hk hk5 hk16
   have HG := Lib.hid (byE_15 W)
   have c0 : W.cell? ⟨w.heap.size + 1, 0, none⟩ = some (.int .i64 15) := by have h := Hm0.out.cell 0; rw [← HKE.out]; exact h
   go_wp2_with fail
   refine HG.out.mono ?_
   rintro y9 w1 ⟨rfl, hb⟩
   clear HG c0
   have Hc1 := kbq Hc0 hb
   have Hm1 := kbq Hm0 hb
   have Hr1 := kbq Hr0 hb
   have HB1 := ktq HB0 hb
   have HZ1 := kzq HZ0 hb.size
   clear Hc0 Hm0 Hr0 HB0 HZ0
   clear hb
   have HG := Lib.hid (byC_none w1 y.m.k HN5.out HN16.out)
   have c0 : w1.cell? ⟨(w.heap.size + 1), 0, none⟩ = some (.int .i64 y.m.k) := Hm1.out.cell 0
   go_wp2_with fail
   refine HG.out.mono ?_
   rintro y9 w2 ⟨rfl, hb⟩
   clear HG c0
   have Hc2 := kbq Hc1 hb
   have Hm2 := kbq Hm1 hb
   have Hr2 := kbq Hr1 hb
   have HB2 := ktq HB1 hb
   have HZ2 := kzq HZ1 hb.size
   clear Hc1 Hm1 Hr1 HB1 HZ1
   clear hb
   have HE : Hid (doC N rs y.m (-1) = (rs, [], 110)) := Lib.hid (by unfold doC; rw [if_pos rfl, if_neg HN5.out, if_neg HN16.out])
   go_upto_region 5 with fail
   have a0 : w2.cell? ⟨w.heap.size, 0, none⟩ = some (.int .i64 (N : Int)) := Hc2.out.cell 0
   have a1 : w2.cell? ⟨w.heap.size, 1, none⟩ = some (.slice p n c) := Hc2.out.cell 1
   go_wp2_with (with_reducible refine stop_storeT 27 (.tmp 6) (.tmp 21) rfl ?_)
   clear a0 a1
   have HTH : Hid (w2.there (w.heap.size + 1 + 1) 0 2) := Hr2.out.thereAt
   have hch : Hid (Chg (w.heap.size + 1 + 1) w2 (w2.setCells (w.heap.size + 1 + 1) 0 (#[.int .i64 (N : Int), .slice p n c] : Array Value).toList)) := Lib.hid (chg_putL _ _ _ _ _ (Chg.refl _ w2))
   have Hr3 : Hid (Blk (w2.setCells (w.heap.size + 1 + 1) 0 (#[.int .i64 (N : Int), .slice p n c] : Array Value).toList) (w.heap.size + 1 + 1) #[.int .i64 (N : Int), .slice p n c] 27) := Lib.hid (blk_put_all Hr2.out _ rfl)
   have HB3 : Hid (Below w.heap.size w (w2.setCells (w.heap.size + 1 + 1) 0 (#[.int .i64 (N : Int), .slice p n c] : Array Value).toList)) := Lib.hid (below_put (by have := HWL.out; omega) _ _ _ _ HB2.out)
   have HZ3 := kzq HZ2 hch.out.size
   have Hc3 := kcq Hc2 hch (by have := HWL.out; omega)
   have Hm3 := kcq Hm2 hch (by have := HWL.out; omega)
   clear hch Hc2 Hm2 Hr2 HB2 HZ2
   refine wpList_store_mid rfl 27 (.tmp 6) (.tmp 21) rfl (w.heap.size + 1 + 1) 0 #[.int .i64 (N : Int), .slice p n c] rfl rfl HTH.out (infoC2 rfl) (all_oneCell_toArray (by intro u hu; simp at hu; rcases hu with rfl | rfl <;> rfl)) ?_
   generalize (w2.setCells (w.heap.size + 1 + 1) 0 (#[.int .i64 (N : Int), .slice p n c] : Array Value).toList) = W9n at *
   clear HTH
   go_wp2_with fail
   have hfr := Hr3.out
   refine bodyPost_ret (v := .tuple #[.agg #[.int .i64 (N : Int), .slice p n c], .slice none 0 0, .int .i64 110]) (by simp [results, Try.results7, go_sem, hfr.cell 0, hfr.cell 1]) rfl (by rw [HE.out]; exact ⟨p, n, c, none, 0, 0, W9n.heap.size, rfl, HKK.out.1, rfl, HZ3.out, (HRS.out.kept HB3.out).imp (fun b h => .inl h), SaidL.nil_ _ _, HB3.out⟩)
  have hk15 := hk
  clear hk
  have HG := Lib.hid (byE_none W y.m.k hk11 hk13 hk15)
  have c0 : W.cell? ⟨(w.heap.size + 1), 0, none⟩ = some (.int .i64 y.m.k) := Hm0.out.cell 0
  go_wp2_with fail
  refine HG.out.mono ?_
  rintro y9 w1 ⟨rfl, hb⟩
  clear HG c0
  have Hc1 := kbq Hc0 hb
  have Hm1 := kbq Hm0 hb
  have Hr1 := kbq Hr0 hb
  have HB1 := ktq HB0 hb
  have HZ1 := kzq HZ0 hb.size
  clear Hc0 Hm0 Hr0 HB0 HZ0
  clear hb
  have HG := Lib.hid (byC_none w1 y.m.k HN5.out HN16.out)
  have c0 : w1.cell? ⟨(w.heap.size + 1), 0, none⟩ = some (.int .i64 y.m.k) := Hm1.out.cell 0
  go_wp2_with fail
  refine HG.out.mono ?_
  rintro y9 w2 ⟨rfl, hb⟩
  clear HG c0
  have Hc2 := kbq Hc1 hb
  have Hm2 := kbq Hm1 hb
  have Hr2 := kbq Hr1 hb
  have HB2 := ktq HB1 hb
  have HZ2 := kzq HZ1 hb.size
  clear Hc1 Hm1 Hr1 HB1 HZ1
  clear hb
  have HE : Hid (doC N rs y.m (-1) = (rs, [], 110)) := Lib.hid (by unfold doC; rw [if_pos rfl, if_neg HN5.out, if_neg HN16.out])
  go_upto_region 5 with fail
  have a0 : w2.cell? ⟨w.heap.size, 0, none⟩ = some (.int .i64 (N : Int)) := Hc2.out.cell 0
  have a1 : w2.cell? ⟨w.heap.size, 1, none⟩ = some (.slice p n c) := Hc2.out.cell 1
  go_wp2_with (with_reducible refine stop_storeT 27 (.tmp 6) (.tmp 21) rfl ?_)
  clear a0 a1
  have HTH : Hid (w2.there (w.heap.size + 1 + 1) 0 2) := Hr2.out.thereAt
  have hch : Hid (Chg (w.heap.size + 1 + 1) w2 (w2.setCells (w.heap.size + 1 + 1) 0 (#[.int .i64 (N : Int), .slice p n c] : Array Value).toList)) := Lib.hid (chg_putL _ _ _ _ _ (Chg.refl _ w2))
  have Hr3 : Hid (Blk (w2.setCells (w.heap.size + 1 + 1) 0 (#[.int .i64 (N : Int), .slice p n c] : Array Value).toList) (w.heap.size + 1 + 1) #[.int .i64 (N : Int), .slice p n c] 27) := Lib.hid (blk_put_all Hr2.out _ rfl)
  have HB3 : Hid (Below w.heap.size w (w2.setCells (w.heap.size + 1 + 1) 0 (#[.int .i64 (N : Int), .slice p n c] : Array Value).toList)) := Lib.hid (below_put (by have := HWL.out; omega) _ _ _ _ HB2.out)
  have HZ3 := kzq HZ2 hch.out.size
  have Hc3 := kcq Hc2 hch (by have := HWL.out; omega)
  have Hm3 := kcq Hm2 hch (by have := HWL.out; omega)
  clear hch Hc2 Hm2 Hr2 HB2 HZ2
  refine wpList_store_mid rfl 27 (.tmp 6) (.tmp 21) rfl (w.heap.size + 1 + 1) 0 #[.int .i64 (N : Int), .slice p n c] rfl rfl HTH.out (infoC2 rfl) (all_oneCell_toArray (by intro u hu; simp at hu; rcases hu with rfl | rfl <;> rfl)) ?_
  generalize (w2.setCells (w.heap.size + 1 + 1) 0 (#[.int .i64 (N : Int), .slice p n c] : Array Value).toList) = W9n at *
  clear HTH
  go_wp2_with fail
  have hfr := Hr3.out
  refine bodyPost_ret (v := .tuple #[.agg #[.int .i64 (N : Int), .slice p n c], .slice none 0 0, .int .i64 110]) (by simp [results, Try.results7, go_sem, hfr.cell 0, hfr.cell 1]) rfl (by rw [HE.out]; exact ⟨p, n, c, none, 0, 0, W9n.heap.size, rfl, HKK.out.1, rfl, HZ3.out, (HRS.out.kept HB3.out).imp (fun b h => .inl h), SaidL.nil_ _ _, HB3.out⟩)
 ·skip
  have HFR : Hid (fro ≠ -1) := Lib.hid hf
  have hfb : (fro == -1) = false := by simpa using hf
  have hfn : (fro != -1) = true := by simpa using hf
  clear hf
  by_cases hk : y.m.k = 11
  ·skip
   have HKE : Hid (y.m.k = 11) := Lib.hid hk
   clear hk
   have HG := Lib.hid (byE_11 W)
   have c0 : W.cell? ⟨w.heap.size + 1, 0, none⟩ = some (.int .i64 11) := by have h := Hm0.out.cell 0; rw [← HKE.out]; exact h
   go_wp2_with fail
   refine HG.out.mono ?_
   rintro y9 w1 ⟨rfl, hb⟩
   clear HG c0
   have HWW : Hid (W.heap.size ≤ w1.heap.size) := Lib.hid hb.size
   have Hc1 := kbq Hc0 hb
   have Hm1 := kbq Hm0 hb
   have Hr1 := kbq Hr0 hb
   have HB1 := ktq HB0 hb
   have HZ1 := kzq HZ0 hb.size
   clear Hc0 Hm0 Hr0 HB0 HZ0
   clear hb
   by_cases hf0 : fro < 0
   ·skip
    have HE : Hid (doC N rs y.m fro = (rs, [], 140)) := Lib.hid (by unfold doC; rw [if_neg HFR.out, if_pos (by rw [HKE.out]; simp), if_pos (.inl hf0)])
    go_upto_region 7 with fail
    clear hf0 hfb hfn
    have a0 : w1.cell? ⟨w.heap.size, 0, none⟩ = some (.int .i64 (N : Int)) := Hc1.out.cell 0
    have a1 : w1.cell? ⟨w.heap.size, 1, none⟩ = some (.slice p n c) := Hc1.out.cell 1
    go_wp2_with (with_reducible refine stop_storeT 27 (.tmp 6) (.tmp 35) rfl ?_)
    clear a0 a1
    have HTH : Hid (w1.there (w.heap.size + 1 + 1) 0 2) := Hr1.out.thereAt
    have hch : Hid (Chg (w.heap.size + 1 + 1) w1 (w1.setCells (w.heap.size + 1 + 1) 0 (#[.int .i64 (N : Int), .slice p n c] : Array Value).toList)) := Lib.hid (chg_putL _ _ _ _ _ (Chg.refl _ w1))
    have Hr2 : Hid (Blk (w1.setCells (w.heap.size + 1 + 1) 0 (#[.int .i64 (N : Int), .slice p n c] : Array Value).toList) (w.heap.size + 1 + 1) #[.int .i64 (N : Int), .slice p n c] 27) := Lib.hid (blk_put_all Hr1.out _ rfl)
    have HB2 : Hid (Below w.heap.size w (w1.setCells (w.heap.size + 1 + 1) 0 (#[.int .i64 (N : Int), .slice p n c] : Array Value).toList)) := Lib.hid (below_put (by have := HWL.out; omega) _ _ _ _ HB1.out)
    have HZ2 := kzq HZ1 hch.out.size
    have Hc2 := kcq Hc1 hch (by have := HWL.out; omega)
    have Hm2 := kcq Hm1 hch (by have := HWL.out; omega)
    clear hch Hc1 Hm1 Hr1 HB1 HZ1
    refine wpList_store_mid rfl 27 (.tmp 6) (.tmp 35) rfl (w.heap.size + 1 + 1) 0 #[.int .i64 (N : Int), .slice p n c] rfl rfl HTH.out (infoC2 rfl) (all_oneCell_toArray (by intro u hu; simp at hu; rcases hu with rfl | rfl <;> rfl)) ?_
    generalize (w1.setCells (w.heap.size + 1 + 1) 0 (#[.int .i64 (N : Int), .slice p n c] : Array Value).toList) = W9f at *
    clear HTH
    go_wp2_with fail
    have hfr := Hr2.out
    refine bodyPost_ret (v := .tuple #[.agg #[.int .i64 (N : Int), .slice p n c], .slice none 0 0, .int .i64 140]) (by simp [results, Try.results7, go_sem, hfr.cell 0, hfr.cell 1]) rfl (by rw [HE.out]; exact ⟨p, n, c, none, 0, 0, W9f.heap.size, rfl, HKK.out.1, rfl, HZ2.out, (HRS.out.kept HB2.out).imp (fun b h => .inl h), SaidL.nil_ _ _, HB2.out⟩)
   obtain ⟨fn, hfq⟩ : ∃ fn : Nat, fro = fn := ⟨fro.toNat, by omega⟩
   subst hfq
   have HG := Lib.hid (entities_any w1 (N : Int) p n c (by omega) (by have := HNN.out; omega))
   have a0 : w1.cell? ⟨w.heap.size, 0, none⟩ = some (.int .i64 (N : Int)) := Hc1.out.cell 0
   have a1 : w1.cell? ⟨w.heap.size, 1, none⟩ = some (.slice p n c) := Hc1.out.cell 1
   go_wp2_with fail
   clear a0 a1 hf0 hfb hfn
   refine HG.out.mono ?_
   rintro y9 w3 ⟨rfl, hb⟩
   clear HG
   have HWW : Hid (W.heap.size ≤ w3.heap.size) := Lib.hid (Nat.le_trans HWW.out hb.size)
   have Hc2 := kbq Hc1 hb
   have Hm2 := kbq Hm1 hb
   have Hr2 := kbq Hr1 hb
   have HB2 := ktq HB1 hb
   have HZ2 := kzq HZ1 hb.size
   clear Hc1 Hm1 Hr1 HB1 HZ1
   clear hb
   by_cases hfN : N ≤ fn
   ·skip
    have hfI : (N : Int) ≤ (fn : Int) := by omega
    have HE : Hid (doC N rs y.m (fn : Int) = (rs, [], 140)) := Lib.hid (by unfold doC; rw [if_neg HFR.out, if_pos (by rw [HKE.out]; simp), if_pos (.inr hfI)])
    go_upto_region 7 with fail
    clear hfN hfI
    have a0 : w3.cell? ⟨w.heap.size, 0, none⟩ = some (.int .i64 (N : Int)) := Hc2.out.cell 0
    have a1 : w3.cell? ⟨w.heap.size, 1, none⟩ = some (.slice p n c) := Hc2.out.cell 1
    go_wp2_with (with_reducible refine stop_storeT 27 (.tmp 6) (.tmp 35) rfl ?_)
    clear a0 a1
    have HTH : Hid (w3.there (w.heap.size + 1 + 1) 0 2) := Hr2.out.thereAt
    have hch : Hid (Chg (w.heap.size + 1 + 1) w3 (w3.setCells (w.heap.size + 1 + 1) 0 (#[.int .i64 (N : Int), .slice p n c] : Array Value).toList)) := Lib.hid (chg_putL _ _ _ _ _ (Chg.refl _ w3))
    have Hr3 : Hid (Blk (w3.setCells (w.heap.size + 1 + 1) 0 (#[.int .i64 (N : Int), .slice p n c] : Array Value).toList) (w.heap.size + 1 + 1) #[.int .i64 (N : Int), .slice p n c] 27) := Lib.hid (blk_put_all Hr2.out _ rfl)
    have HB3 : Hid (Below w.heap.size w (w3.setCells (w.heap.size + 1 + 1) 0 (#[.int .i64 (N : Int), .slice p n c] : Array Value).toList)) := Lib.hid (below_put (by have := HWL.out; omega) _ _ _ _ HB2.out)
    have HZ3 := kzq HZ2 hch.out.size
    have Hc3 := kcq Hc2 hch (by have := HWL.out; omega)
    have Hm3 := kcq Hm2 hch (by have := HWL.out; omega)
    clear hch Hc2 Hm2 Hr2 HB2 HZ2
    refine wpList_store_mid rfl 27 (.tmp 6) (.tmp 35) rfl (w.heap.size + 1 + 1) 0 #[.int .i64 (N : Int), .slice p n c] rfl rfl HTH.out (infoC2 rfl) (all_oneCell_toArray (by intro u hu; simp at hu; rcases hu with rfl | rfl <;> rfl)) ?_
    generalize (w3.setCells (w.heap.size + 1 + 1) 0 (#[.int .i64 (N : Int), .slice p n c] : Array Value).toList) = W9g at *
    clear HTH
    go_wp2_with fail
    have hfr := Hr3.out
    refine bodyPost_ret (v := .tuple #[.agg #[.int .i64 (N : Int), .slice p n c], .slice none 0 0, .int .i64 140]) (by simp [results, Try.results7, go_sem, hfr.cell 0, hfr.cell 1]) rfl (by rw [HE.out]; exact ⟨p, n, c, none, 0, 0, W9g.heap.size, rfl, HKK.out.1, rfl, HZ3.out, (HRS.out.kept HB3.out).imp (fun b h => .inl h), SaidL.nil_ _ _, HB3.out⟩)
   have HFN : Hid (fn < N) := Lib.hid (by omega)
   have hfI : ¬ (N : Int) ≤ (fn : Int) := by omega
   clear hfN
   have c0 : w3.cell? ⟨w.heap.size + 1, 0, none⟩ = some (.int .i64 11) := by have h := Hm2.out.cell 0; rw [← HKE.out]; exact h
   have HG := Lib.hid (chas_any w3 (N : Int) y.m.y p n c)
   rw [show decide (1 ≤ y.m.y ∧ y.m.y ≤ (n : Int)) = hasB rs y.m.y by unfold hasB; rw [← HKK.out.1]] at HG
   obtain ⟨bh, hbh⟩ : ∃ bh, hasB rs y.m.y = bh := ⟨_, rfl⟩
   rw [hbh] at HG
   have HHS := Lib.hid hbh
   clear hbh
   have a0 : w3.cell? ⟨w.heap.size, 0, none⟩ = some (.int .i64 (N : Int)) := Hc2.out.cell 0
   have a1 : w3.cell? ⟨w.heap.size, 1, none⟩ = some (.slice p n c) := Hc2.out.cell 1
   have m6 : w3.cell? ⟨(w.heap.size + 1), 6, none⟩ = some (.int .i64 y.m.y) := Hm2.out.cell 6
   go_wp2_with fail
   clear a0 a1 m6 hfI
   refine HG.out.mono ?_
   rintro y9 w8 ⟨rfl, hb⟩
   clear HG c0
   have HWW : Hid (W.heap.size ≤ w8.heap.size) := Lib.hid (Nat.le_trans HWW.out hb.size)
   have Hc3 := kbq Hc2 hb
   have Hm3 := kbq Hm2 hb
   have Hr3 := kbq Hr2 hb
   have HB3 := ktq HB2 hb
   have HZ3 := kzq HZ2 hb.size
   clear Hc2 Hm2 Hr2 HB2 HZ2
   clear hb
   cases bh
   ·skip
    have HE : Hid (doC N rs y.m (fn : Int) = (rs, [], 4)) := Lib.hid (by unfold doC; rw [if_neg HFR.out, if_pos (by rw [HKE.out]; simp), if_neg (by have := HFN.out; omega), if_pos HHS.out])
    go_upto_region 9 with fail
    have a0 : w8.cell? ⟨w.heap.size, 0, none⟩ = some (.int .i64 (N : Int)) := Hc3.out.cell 0
    have a1 : w8.cell? ⟨w.heap.size, 1, none⟩ = some (.slice p n c) := Hc3.out.cell 1
    go_wp2_with (with_reducible refine stop_storeT 27 (.tmp 6) (.tmp 47) rfl ?_)
    clear a0 a1
    have HTH : Hid (w8.there (w.heap.size + 1 + 1) 0 2) := Hr3.out.thereAt
    have hch : Hid (Chg (w.heap.size + 1 + 1) w8 (w8.setCells (w.heap.size + 1 + 1) 0 (#[.int .i64 (N : Int), .slice p n c] : Array Value).toList)) := Lib.hid (chg_putL _ _ _ _ _ (Chg.refl _ w8))
    have Hr4 : Hid (Blk (w8.setCells (w.heap.size + 1 + 1) 0 (#[.int .i64 (N : Int), .slice p n c] : Array Value).toList) (w.heap.size + 1 + 1) #[.int .i64 (N : Int), .slice p n c] 27) := Lib.hid (blk_put_all Hr3.out _ rfl)
    have HB4 : Hid (Below w.heap.size w (w8.setCells (w.heap.size + 1 + 1) 0 (#[.int .i64 (N : Int), .slice p n c] : Array Value).toList)) := Lib.hid (below_put (by have := HWL.out; omega) _ _ _ _ HB3.out)
    have HZ4 := kzq HZ3 hch.out.size
    have Hc4 := kcq Hc3 hch (by have := HWL.out; omega)
    have Hm4 := kcq Hm3 hch (by have := HWL.out; omega)
    clear hch Hc3 Hm3 Hr3 HB3 HZ3
    refine wpList_store_mid rfl 27 (.tmp 6) (.tmp 47) rfl (w.heap.size + 1 + 1) 0 #[.int .i64 (N : Int), .slice p n c] rfl rfl HTH.out (infoC2 rfl) (all_oneCell_toArray (by intro u hu; simp at hu; rcases hu with rfl | rfl <;> rfl)) ?_
    generalize (w8.setCells (w.heap.size + 1 + 1) 0 (#[.int .i64 (N : Int), .slice p n c] : Array Value).toList) = W9h at *
    clear HTH
    go_wp2_with fail
    have hfr := Hr4.out
    refine bodyPost_ret (v := .tuple #[.agg #[.int .i64 (N : Int), .slice p n c], .slice none 0 0, .int .i64 4]) (by simp [results, Try.results7, go_sem, hfr.cell 0, hfr.cell 1]) rfl (by rw [HE.out]; exact ⟨p, n, c, none, 0, 0, W9h.heap.size, rfl, HKK.out.1, rfl, HZ4.out, (HRS.out.kept HB4.out).imp (fun b h => .inl h), SaidL.nil_ _ _, HB4.out⟩)
   ·skip
    obtain ⟨A, hA⟩ : ∃ A, offerC N rs y.m fn = A := ⟨_, rfl⟩
    have HE : Hid (doC N rs y.m (fn : Int) = A) := Lib.hid (by show _ = _; unfold doC; rw [if_neg HFR.out, if_pos (by rw [HKE.out]; simp), if_neg (by have := HFN.out; omega), if_neg (by rw [HHS.out]; decide), if_pos HKE.out, Int.toNat_natCast]; exact hA)
    go_upto_region 10 with fail
    have HGX : Hid (W.heap.size ≤ w8.heap.size) := Lib.hid (by have h1 := HWW.out; exact h1)
    have HG := Lib.hid (coffer_any w8 (fun b => P b ∨ (W.heap.size ≤ b ∧ b < w8.heap.size)) N p n c rs y fn ((HRS.out.kept HB3.out).imp (fun b h => .inl h)) (fun b h => h.elim (fun h1 => Nat.lt_of_lt_of_le (HPW.out b h1) HZ3.out) (fun h1 => h1.2)) HKK.out.1 (by have := HKK.out; omega) (of_hasB HHS.out HKK.out.1).1 (of_hasB HHS.out HKK.out.1).2 HNN.out.1 HNN.out.2 (fun r hr => (HOK.out r hr).1) HFN.out Pm (HY.out.kept HB3.out) HYL.out (fun r hr => (HOK.out r hr).2))
    unfold CP CPost Msg.v at HG
    rw [hA] at HG
    clear hA
    have a0 : w8.cell? ⟨w.heap.size, 0, none⟩ = some (.int .i64 (N : Int)) := Hc3.out.cell 0
    have a1 : w8.cell? ⟨w.heap.size, 1, none⟩ = some (.slice p n c) := Hc3.out.cell 1
    have m0 : w8.cell? ⟨(w.heap.size + 1), 0, none⟩ = some (.int .i64 y.m.k) := Hm3.out.cell 0
    have m1 : w8.cell? ⟨(w.heap.size + 1), 1, none⟩ = some (.int .i64 y.m.s) := Hm3.out.cell 1
    have m2 : w8.cell? ⟨(w.heap.size + 1), 2, none⟩ = some (.int .i64 y.m.n) := Hm3.out.cell 2
    have m3 : w8.cell? ⟨(w.heap.size + 1), 3, none⟩ = some (.int .i64 y.m.b) := Hm3.out.cell 3
    have m4 : w8.cell? ⟨(w.heap.size + 1), 4, none⟩ = some (.int .i64 y.m.c) := Hm3.out.cell 4
    have m5 : w8.cell? ⟨(w.heap.size + 1), 5, none⟩ = some (.int .i64 y.m.r) := Hm3.out.cell 5
    have m6 : w8.cell? ⟨(w.heap.size + 1), 6, none⟩ = some (.int .i64 y.m.y) := Hm3.out.cell 6
    have m7 : w8.cell? ⟨(w.heap.size + 1), 7, none⟩ = some (.int .i64 y.m.a) := Hm3.out.cell 7
    have m8 : w8.cell? ⟨(w.heap.size + 1), 8, none⟩ = some (.bool y.m.t) := Hm3.out.cell 8
    have m9 : w8.cell? ⟨(w.heap.size + 1), 9, none⟩ = some (.slice y.pl y.m.ls.length y.cl) := Hm3.out.cell 9
    have m10 : w8.cell? ⟨(w.heap.size + 1), 10, none⟩ = some (.slice y.pn y.m.ns.length y.cn) := Hm3.out.cell 10
    go_wp2_with fail
    clear a0 a1 m0 m1 m2 m3 m4 m5 m6 m7 m8 m9 m10
    refine HG.out.mono ?_
    rintro y9 w5 ⟨p3, n3, c3, pv3, nv3, cv3, B3, rfl, hn3, hnv3, hB3, hq3, hs3, hb⟩
    clear HG
    have HN3 := Lib.hid (And.intro hn3 hnv3)
    have HBB : Hid (w8.heap.size ≤ B3) := Lib.hid hB3
    have HQQ := Lib.hid hq3
    have HSS := Lib.hid hs3
    clear hn3 hnv3 hB3 hq3 hs3
    have Hc4 := kbq Hc3 hb
    have Hm4 := kbq Hm3 hb
    have Hr4 := kbq Hr3 hb
    have HB4 := ktq HB3 hb
    have HZ4 := kzq HZ3 hb.size
    clear Hc3 Hm3 Hr3 HB3 HZ3
    clear hb
    obtain ⟨rs3, out3, e3⟩ := A
    go_wp2_with (with_reducible refine stop_storeT 27 (.tmp 6) (.tmp 53) rfl ?_)
    have HTH : Hid (w5.there (w.heap.size + 1 + 1) 0 2) := Hr4.out.thereAt
    have hch : Hid (Chg (w.heap.size + 1 + 1) w5 (w5.setCells (w.heap.size + 1 + 1) 0 (#[.int .i64 (N : Int), .slice p3 n3 c3] : Array Value).toList)) := Lib.hid (chg_putL _ _ _ _ _ (Chg.refl _ w5))
    have Hr5 : Hid (Blk (w5.setCells (w.heap.size + 1 + 1) 0 (#[.int .i64 (N : Int), .slice p3 n3 c3] : Array Value).toList) (w.heap.size + 1 + 1) #[.int .i64 (N : Int), .slice p3 n3 c3] 27) := Lib.hid (blk_put_all Hr4.out _ rfl)
    have HB5 : Hid (Below w.heap.size w (w5.setCells (w.heap.size + 1 + 1) 0 (#[.int .i64 (N : Int), .slice p3 n3 c3] : Array Value).toList)) := Lib.hid (below_put (by have := HWL.out; omega) _ _ _ _ HB4.out)
    have HZ5 := kzq HZ4 hch.out.size
    have Hc5 := kcq Hc4 hch (by have := HWL.out; omega)
    have Hm5 := kcq Hm4 hch (by have := HWL.out; omega)
    have HST := Lib.hid (HSS.out.chgS hch.out (by have := HBB.out; have := HWL.out; have := HGX.out; omega))
    have HQR := Lib.hid ((HQQ.out.imp (Q := fun b => b ≠ w.heap.size + 1 + 1 ∧ (P b ∨ (w.heap.size ≤ b ∧ b < B3))) (fun b h => by
     have h5 := HBB.out
     have h6 := HWL.out
     have h7 := HGX.out
     rcases h with (h1 | h1) | h1
     ·have := HPW.out _ h1
      exact ⟨by omega, .inl h1⟩
     ·exact ⟨by omega, .inr (by omega)⟩
     ·exact ⟨by omega, .inr (by omega)⟩)).keepP (KeepP.of_chg hch.out (by rintro ⟨h, _⟩; exact h rfl)))
    clear HSS HQQ
    clear hch Hc4 Hm4 Hr4 HB4 HZ4
    refine wpList_store_mid rfl 27 (.tmp 6) (.tmp 53) rfl (w.heap.size + 1 + 1) 0 #[.int .i64 (N : Int), .slice p3 n3 c3] rfl rfl HTH.out (infoC2 rfl) (all_oneCell_toArray (by intro u hu; simp at hu; rcases hu with rfl | rfl <;> rfl)) ?_
    generalize (w5.setCells (w.heap.size + 1 + 1) 0 (#[.int .i64 (N : Int), .slice p3 n3 c3] : Array Value).toList) = W9d at *
    clear HTH
    go_wp2_with fail
    have hfr := Hr5.out
    refine bodyPost_ret (v := .tuple #[.agg #[.int .i64 (N : Int), .slice p3 n3 c3], .slice pv3 nv3 cv3, .int .i64 e3]) (by simp [results, Try.results7, go_sem, hfr.cell 0, hfr.cell 1]) rfl (by rw [HE.out]; exact ⟨p3, n3, c3, pv3, nv3, cv3, B3, rfl, HN3.out.1, HN3.out.2, by have := HBB.out; have := HWL.out; have := HGX.out; omega, HQR.out.imp (fun b h => h.2), HST.out, HB5.out⟩)
  have hk11 := hk
  clear hk
  by_cases hk : y.m.k = 13
  ·skip
   have HKE : Hid (y.m.k = 13) := Lib.hid hk
   clear hk
   have HG := Lib.hid (byE_13 W)
   have c0 : W.cell? ⟨w.heap.size + 1, 0, none⟩ = some (.int .i64 13) := by have h := Hm0.out.cell 0; rw [← HKE.out]; exact h
   go_wp2_with fail
   refine HG.out.mono ?_
   rintro y9 w1 ⟨rfl, hb⟩
   clear HG c0
   have HWW : Hid (W.heap.size ≤ w1.heap.size) := Lib.hid hb.size
   have Hc1 := kbq Hc0 hb
   have Hm1 := kbq Hm0 hb
   have Hr1 := kbq Hr0 hb
   have HB1 := ktq HB0 hb
   have HZ1 := kzq HZ0 hb.size
   clear Hc0 Hm0 Hr0 HB0 HZ0
   clear hb
   by_cases hf0 : fro < 0
   ·skip
    have HE : Hid (doC N rs y.m fro = (rs, [], 140)) := Lib.hid (by unfold doC; rw [if_neg HFR.out, if_pos (by rw [HKE.out]; simp), if_pos (.inl hf0)])
    go_upto_region 7 with fail
    clear hf0 hfb hfn
    have a0 : w1.cell? ⟨w.heap.size, 0, none⟩ = some (.int .i64 (N : Int)) := Hc1.out.cell 0
    have a1 : w1.cell? ⟨w.heap.size, 1, none⟩ = some (.slice p n c) := Hc1.out.cell 1
    go_wp2_with (with_reducible refine stop_storeT 27 (.tmp 6) (.tmp 35) rfl ?_)
    clear a0 a1
    have HTH : Hid (w1.there (w.heap.size + 1 + 1) 0 2) := Hr1.out.thereAt
    have hch : Hid (Chg (w.heap.size + 1 + 1) w1 (w1.setCells (w.heap.size + 1 + 1) 0 (#[.int .i64 (N : Int), .slice p n c] : Array Value).toList)) := Lib.hid (chg_putL _ _ _ _ _ (Chg.refl _ w1))
    have Hr2 : Hid (Blk (w1.setCells (w.heap.size + 1 + 1) 0 (#[.int .i64 (N : Int), .slice p n c] : Array Value).toList) (w.heap.size + 1 + 1) #[.int .i64 (N : Int), .slice p n c] 27) := Lib.hid (blk_put_all Hr1.out _ rfl)
    have HB2 : Hid (Below w.heap.size w (w1.setCells (w.heap.size + 1 + 1) 0 (#[.int .i64 (N : Int), .slice p n c] : Array Value).toList)) := Lib.hid (below_put (by have := HWL.out; omega) _ _ _ _ HB1.out)
    have HZ2 := kzq HZ1 hch.out.size
    have Hc2 := kcq Hc1 hch (by have := HWL.out; omega)
    have Hm2 := kcq Hm1 hch (by have := HWL.out; omega)
    clear hch Hc1 Hm1 Hr1 HB1 HZ1
    refine wpList_store_mid rfl 27 (.tmp 6) (.tmp 35) rfl (w.heap.size + 1 + 1) 0 #[.int .i64 (N : Int), .slice p n c] rfl rfl HTH.out (infoC2 rfl) (all_oneCell_toArray (by intro u hu; simp at hu; rcases hu with rfl | rfl <;> rfl)) ?_
    generalize (w1.setCells (w.heap.size + 1 + 1) 0 (#[.int .i64 (N : Int), .slice p n c] : Array Value).toList) = W9f at *
    clear HTH
    go_wp2_with fail
    have hfr := Hr2.out
    refine bodyPost_ret (v := .tuple #[.agg #[.int .i64 (N : Int), .slice p n c], .slice none 0 0, .int .i64 140]) (by simp [results, Try.results7, go_sem, hfr.cell 0, hfr.cell 1]) rfl (by rw [HE.out]; exact ⟨p, n, c, none, 0, 0, W9f.heap.size, rfl, HKK.out.1, rfl, HZ2.out, (HRS.out.kept HB2.out).imp (fun b h => .inl h), SaidL.nil_ _ _, HB2.out⟩)
   obtain ⟨fn, hfq⟩ : ∃ fn : Nat, fro = fn := ⟨fro.toNat, by omega⟩
   subst hfq
   have HG := Lib.hid (entities_any w1 (N : Int) p n c (by omega) (by have := HNN.out; omega))
   have a0 : w1.cell? ⟨w.heap.size, 0, none⟩ = some (.int .i64 (N : Int)) := Hc1.out.cell 0
   have a1 : w1.cell? ⟨w.heap.size, 1, none⟩ = some (.slice p n c) := Hc1.out.cell 1
   go_wp2_with fail
   clear a0 a1 hf0 hfb hfn
   refine HG.out.mono ?_
   rintro y9 w3 ⟨rfl, hb⟩
   clear HG
   have HWW : Hid (W.heap.size ≤ w3.heap.size) := Lib.hid (Nat.le_trans HWW.out hb.size)
   have Hc2 := kbq Hc1 hb
   have Hm2 := kbq Hm1 hb
   have Hr2 := kbq Hr1 hb
   have HB2 := ktq HB1 hb
   have HZ2 := kzq HZ1 hb.size
   clear Hc1 Hm1 Hr1 HB1 HZ1
   clear hb
   by_cases hfN : N ≤ fn
   ·skip
    have hfI : (N : Int) ≤ (fn : Int) := by omega
    have HE : Hid (doC N rs y.m (fn : Int) = (rs, [], 140)) := Lib.hid (by unfold doC; rw [if_neg HFR.out, if_pos (by rw [HKE.out]; simp), if_pos (.inr hfI)])
    go_upto_region 7 with fail
    clear hfN hfI
    have a0 : w3.cell? ⟨w.heap.size, 0, none⟩ = some (.int .i64 (N : Int)) := Hc2.out.cell 0
    have a1 : w3.cell? ⟨w.heap.size, 1, none⟩ = some (.slice p n c) := Hc2.out.cell 1
    go_wp2_with (with_reducible refine stop_storeT 27 (.tmp 6) (.tmp 35) rfl ?_)
    clear a0 a1
    have HTH : Hid (w3.there (w.heap.size + 1 + 1) 0 2) := Hr2.out.thereAt
    have hch : Hid (Chg (w.heap.size + 1 + 1) w3 (w3.setCells (w.heap.size + 1 + 1) 0 (#[.int .i64 (N : Int), .slice p n c] : Array Value).toList)) := Lib.hid (chg_putL _ _ _ _ _ (Chg.refl _ w3))
    have Hr3 : Hid (Blk (w3.setCells (w.heap.size + 1 + 1) 0 (#[.int .i64 (N : Int), .slice p n c] : Array Value).toList) (w.heap.size + 1 + 1) #[.int .i64 (N : Int), .slice p n c] 27) := Lib.hid (blk_put_all Hr2.out _ rfl)
    have HB3 : Hid (Below w.heap.size w (w3.setCells (w.heap.size + 1 + 1) 0 (#[.int .i64 (N : Int), .slice p n c] : Array Value).toList)) := Lib.hid (below_put (by have := HWL.out; omega) _ _ _ _ HB2.out)
    have HZ3 := kzq HZ2 hch.out.size
    have Hc3 := kcq Hc2 hch (by have := HWL.out; omega)
    have Hm3 := kcq Hm2 hch (by have := HWL.out; omega)
    clear hch Hc2 Hm2 Hr2 HB2 HZ2
    refine wpList_store_mid rfl 27 (.tmp 6) (.tmp 35) rfl (w.heap.size + 1 + 1) 0 #[.int .i64 (N : Int), .slice p n c] rfl rfl HTH.out (infoC2 rfl) (all_oneCell_toArray (by intro u hu; simp at hu; rcases hu with rfl | rfl <;> rfl)) ?_
    generalize (w3.setCells (w.heap.size + 1 + 1) 0 (#[.int .i64 (N : Int), .slice p n c] : Array Value).toList) = W9g at *
    clear HTH
    go_wp2_with fail
    have hfr := Hr3.out
    refine bodyPost_ret (v := .tuple #[.agg #[.int .i64 (N : Int), .slice p n c], .slice none 0 0, .int .i64 140]) (by simp [results, Try.results7, go_sem, hfr.cell 0, hfr.cell 1]) rfl (by rw [HE.out]; exact ⟨p, n, c, none, 0, 0, W9g.heap.size, rfl, HKK.out.1, rfl, HZ3.out, (HRS.out.kept HB3.out).imp (fun b h => .inl h), SaidL.nil_ _ _, HB3.out⟩)
   have HFN : Hid (fn < N) := Lib.hid (by omega)
   have hfI : ¬ (N : Int) ≤ (fn : Int) := by omega
   clear hfN
   have c0 : w3.cell? ⟨w.heap.size + 1, 0, none⟩ = some (.int .i64 13) := by have h := Hm2.out.cell 0; rw [← HKE.out]; exact h
   have HG := Lib.hid (chas_any w3 (N : Int) y.m.y p n c)
   rw [show decide (1 ≤ y.m.y ∧ y.m.y ≤ (n : Int)) = hasB rs y.m.y by unfold hasB; rw [← HKK.out.1]] at HG
   obtain ⟨bh, hbh⟩ : ∃ bh, hasB rs y.m.y = bh := ⟨_, rfl⟩
   rw [hbh] at HG
   have HHS := Lib.hid hbh
   clear hbh
   have a0 : w3.cell? ⟨w.heap.size, 0, none⟩ = some (.int .i64 (N : Int)) := Hc2.out.cell 0
   have a1 : w3.cell? ⟨w.heap.size, 1, none⟩ = some (.slice p n c) := Hc2.out.cell 1
   have m6 : w3.cell? ⟨(w.heap.size + 1), 6, none⟩ = some (.int .i64 y.m.y) := Hm2.out.cell 6
   go_wp2_with fail
   clear a0 a1 m6 hfI
   refine HG.out.mono ?_
   rintro y9 w8 ⟨rfl, hb⟩
   clear HG c0
   have HWW : Hid (W.heap.size ≤ w8.heap.size) := Lib.hid (Nat.le_trans HWW.out hb.size)
   have Hc3 := kbq Hc2 hb
   have Hm3 := kbq Hm2 hb
   have Hr3 := kbq Hr2 hb
   have HB3 := ktq HB2 hb
   have HZ3 := kzq HZ2 hb.size
   clear Hc2 Hm2 Hr2 HB2 HZ2
   clear hb
   cases bh
   ·skip
    have HE : Hid (doC N rs y.m (fn : Int) = (rs, [], 4)) := Lib.hid (by unfold doC; rw [if_neg HFR.out, if_pos (by rw [HKE.out]; simp), if_neg (by have := HFN.out; omega), if_pos HHS.out])
    go_upto_region 9 with fail
    have a0 : w8.cell? ⟨w.heap.size, 0, none⟩ = some (.int .i64 (N : Int)) := Hc3.out.cell 0
    have a1 : w8.cell? ⟨w.heap.size, 1, none⟩ = some (.slice p n c) := Hc3.out.cell 1
    go_wp2_with (with_reducible refine stop_storeT 27 (.tmp 6) (.tmp 47) rfl ?_)
    clear a0 a1
    have HTH : Hid (w8.there (w.heap.size + 1 + 1) 0 2) := Hr3.out.thereAt
    have hch : Hid (Chg (w.heap.size + 1 + 1) w8 (w8.setCells (w.heap.size + 1 + 1) 0 (#[.int .i64 (N : Int), .slice p n c] : Array Value).toList)) := Lib.hid (chg_putL _ _ _ _ _ (Chg.refl _ w8))
    have Hr4 : Hid (Blk (w8.setCells (w.heap.size + 1 + 1) 0 (#[.int .i64 (N : Int), .slice p n c] : Array Value).toList) (w.heap.size + 1 + 1) #[.int .i64 (N : Int), .slice p n c] 27) := Lib.hid (blk_put_all Hr3.out _ rfl)
    have HB4 : Hid (Below w.heap.size w (w8.setCells (w.heap.size + 1 + 1) 0 (#[.int .i64 (N : Int), .slice p n c] : Array Value).toList)) := Lib.hid (below_put (by have := HWL.out; omega) _ _ _ _ HB3.out)
    have HZ4 := kzq HZ3 hch.out.size
    have Hc4 := kcq Hc3 hch (by have := HWL.out; omega)
    have Hm4 := kcq Hm3 hch (by have := HWL.out; omega)
    clear hch Hc3 Hm3 Hr3 HB3 HZ3
    refine wpList_store_mid rfl 27 (.tmp 6) (.tmp 47) rfl (w.heap.size + 1 + 1) 0 #[.int .i64 (N : Int), .slice p n c] rfl rfl HTH.out (infoC2 rfl) (all_oneCell_toArray (by intro u hu; simp at hu; rcases hu with rfl | rfl <;> rfl)) ?_
    generalize (w8.setCells (w.heap.size + 1 + 1) 0 (#[.int .i64 (N : Int), .slice p n c] : Array Value).toList) = W9h at *
    clear HTH
    go_wp2_with fail
    have hfr := Hr4.out
    refine bodyPost_ret (v := .tuple #[.agg #[.int .i64 (N : Int), .slice p n c], .slice none 0 0, .int .i64 4]) (by simp [results, Try.results7, go_sem, hfr.cell 0, hfr.cell 1]) rfl (by rw [HE.out]; exact ⟨p, n, c, none, 0, 0, W9h.heap.size, rfl, HKK.out.1, rfl, HZ4.out, (HRS.out.kept HB4.out).imp (fun b h => .inl h), SaidL.nil_ _ _, HB4.out⟩)
   ·skip
    obtain ⟨A, hA⟩ : ∃ A, voteC N rs y.m fn = A := ⟨_, rfl⟩
    have HE : Hid (doC N rs y.m (fn : Int) = A) := Lib.hid (by show _ = _; unfold doC; rw [if_neg HFR.out, if_pos (by rw [HKE.out]; simp), if_neg (by have := HFN.out; omega), if_neg (by rw [HHS.out]; decide), if_neg (by rw [HKE.out]; decide), if_pos HKE.out, Int.toNat_natCast]; exact hA)
    go_upto_region 10 with fail
    have HGX : Hid (W.heap.size ≤ w8.heap.size) := Lib.hid (by have h1 := HWW.out; exact h1)
    have HG := Lib.hid (cvote_any w8 (fun b => P b ∨ (W.heap.size ≤ b ∧ b < w8.heap.size)) N p n c rs y fn ((HRS.out.kept HB3.out).imp (fun b h => .inl h)) (fun b h => h.elim (fun h1 => Nat.lt_of_lt_of_le (HPW.out b h1) HZ3.out) (fun h1 => h1.2)) HKK.out.1 (by have := HKK.out; omega) (of_hasB HHS.out HKK.out.1).1 (of_hasB HHS.out HKK.out.1).2 HNN.out.1 HNN.out.2 (fun r hr => (HOK.out r hr).1) HFN.out)
    unfold CP CPost Msg.v at HG
    rw [hA] at HG
    clear hA
    have a0 : w8.cell? ⟨w.heap.size, 0, none⟩ = some (.int .i64 (N : Int)) := Hc3.out.cell 0
    have a1 : w8.cell? ⟨w.heap.size, 1, none⟩ = some (.slice p n c) := Hc3.out.cell 1
    have m0 : w8.cell? ⟨(w.heap.size + 1), 0, none⟩ = some (.int .i64 y.m.k) := Hm3.out.cell 0
    have m1 : w8.cell? ⟨(w.heap.size + 1), 1, none⟩ = some (.int .i64 y.m.s) := Hm3.out.cell 1
    have m2 : w8.cell? ⟨(w.heap.size + 1), 2, none⟩ = some (.int .i64 y.m.n) := Hm3.out.cell 2
    have m3 : w8.cell? ⟨(w.heap.size + 1), 3, none⟩ = some (.int .i64 y.m.b) := Hm3.out.cell 3
    have m4 : w8.cell? ⟨(w.heap.size + 1), 4, none⟩ = some (.int .i64 y.m.c) := Hm3.out.cell 4
    have m5 : w8.cell? ⟨(w.heap.size + 1), 5, none⟩ = some (.int .i64 y.m.r) := Hm3.out.cell 5
    have m6 : w8.cell? ⟨(w.heap.size + 1), 6, none⟩ = some (.int .i64 y.m.y) := Hm3.out.cell 6
    have m7 : w8.cell? ⟨(w.heap.size + 1), 7, none⟩ = some (.int .i64 y.m.a) := Hm3.out.cell 7
    have m8 : w8.cell? ⟨(w.heap.size + 1), 8, none⟩ = some (.bool y.m.t) := Hm3.out.cell 8
    have m9 : w8.cell? ⟨(w.heap.size + 1), 9, none⟩ = some (.slice y.pl y.m.ls.length y.cl) := Hm3.out.cell 9
    have m10 : w8.cell? ⟨(w.heap.size + 1), 10, none⟩ = some (.slice y.pn y.m.ns.length y.cn) := Hm3.out.cell 10
    go_wp2_with fail
    clear a0 a1 m0 m1 m2 m3 m4 m5 m6 m7 m8 m9 m10
    refine HG.out.mono ?_
    rintro y9 w5 ⟨p3, n3, c3, pv3, nv3, cv3, B3, rfl, hn3, hnv3, hB3, hq3, hs3, hb⟩
    clear HG
    have HN3 := Lib.hid (And.intro hn3 hnv3)
    have HBB : Hid (w8.heap.size ≤ B3) := Lib.hid hB3
    have HQQ := Lib.hid hq3
    have HSS := Lib.hid hs3
    clear hn3 hnv3 hB3 hq3 hs3
    have Hc4 := kbq Hc3 hb
    have Hm4 := kbq Hm3 hb
    have Hr4 := kbq Hr3 hb
    have HB4 := ktq HB3 hb
    have HZ4 := kzq HZ3 hb.size
    clear Hc3 Hm3 Hr3 HB3 HZ3
    clear hb
    obtain ⟨rs3, out3, e3⟩ := A
    go_wp2_with (with_reducible refine stop_storeT 27 (.tmp 6) (.tmp 53) rfl ?_)
    have HTH : Hid (w5.there (w.heap.size + 1 + 1) 0 2) := Hr4.out.thereAt
    have hch : Hid (Chg (w.heap.size + 1 + 1) w5 (w5.setCells (w.heap.size + 1 + 1) 0 (#[.int .i64 (N : Int), .slice p3 n3 c3] : Array Value).toList)) := Lib.hid (chg_putL _ _ _ _ _ (Chg.refl _ w5))
    have Hr5 : Hid (Blk (w5.setCells (w.heap.size + 1 + 1) 0 (#[.int .i64 (N : Int), .slice p3 n3 c3] : Array Value).toList) (w.heap.size + 1 + 1) #[.int .i64 (N : Int), .slice p3 n3 c3] 27) := Lib.hid (blk_put_all Hr4.out _ rfl)
    have HB5 : Hid (Below w.heap.size w (w5.setCells (w.heap.size + 1 + 1) 0 (#[.int .i64 (N : Int), .slice p3 n3 c3] : Array Value).toList)) := Lib.hid (below_put (by have := HWL.out; omega) _ _ _ _ HB4.out)
    have HZ5 := kzq HZ4 hch.out.size
    have Hc5 := kcq Hc4 hch (by have := HWL.out; omega)
    have Hm5 := kcq Hm4 hch (by have := HWL.out; omega)
    have HST := Lib.hid (HSS.out.chgS hch.out (by have := HBB.out; have := HWL.out; have := HGX.out; omega))
    have HQR := Lib.hid ((HQQ.out.imp (Q := fun b => b ≠ w.heap.size + 1 + 1 ∧ (P b ∨ (w.heap.size ≤ b ∧ b < B3))) (fun b h => by
     have h5 := HBB.out
     have h6 := HWL.out
     have h7 := HGX.out
     rcases h with (h1 | h1) | h1
     ·have := HPW.out _ h1
      exact ⟨by omega, .inl h1⟩
     ·exact ⟨by omega, .inr (by omega)⟩
     ·exact ⟨by omega, .inr (by omega)⟩)).keepP (KeepP.of_chg hch.out (by rintro ⟨h, _⟩; exact h rfl)))
    clear HSS HQQ
    clear hch Hc4 Hm4 Hr4 HB4 HZ4
    refine wpList_store_mid rfl 27 (.tmp 6) (.tmp 53) rfl (w.heap.size + 1 + 1) 0 #[.int .i64 (N : Int), .slice p3 n3 c3] rfl rfl HTH.out (infoC2 rfl) (all_oneCell_toArray (by intro u hu; simp at hu; rcases hu with rfl | rfl <;> rfl)) ?_
    generalize (w5.setCells (w.heap.size + 1 + 1) 0 (#[.int .i64 (N : Int), .slice p3 n3 c3] : Array Value).toList) = W9d at *
    clear HTH
    go_wp2_with fail
    have hfr := Hr5.out
    refine bodyPost_ret (v := .tuple #[.agg #[.int .i64 (N : Int), .slice p3 n3 c3], .slice pv3 nv3 cv3, .int .i64 e3]) (by simp [results, Try.results7, go_sem, hfr.cell 0, hfr.cell 1]) rfl (by rw [HE.out]; exact ⟨p3, n3, c3, pv3, nv3, cv3, B3, rfl, HN3.out.1, HN3.out.2, by have := HBB.out; have := HWL.out; have := HGX.out; omega, HQR.out.imp (fun b h => h.2), HST.out, HB5.out⟩)
  have hk13 := hk
  clear hk
  by_cases hk : y.m.k = 15
  ·skip
   have HKE : Hid (y.m.k = 15) := Lib.hid hk
   clear hk
   have HG := Lib.hid (byE_15 W)
   have c0 : W.cell? ⟨w.heap.size + 1, 0, none⟩ = some (.int .i64 15) := by have h := Hm0.out.cell 0; rw [← HKE.out]; exact h
   go_wp2_with fail
   refine HG.out.mono ?_
   rintro y9 w1 ⟨rfl, hb⟩
   clear HG c0
   have HWW : Hid (W.heap.size ≤ w1.heap.size) := Lib.hid hb.size
   have Hc1 := kbq Hc0 hb
   have Hm1 := kbq Hm0 hb
   have Hr1 := kbq Hr0 hb
   have HB1 := ktq HB0 hb
   have HZ1 := kzq HZ0 hb.size
   clear Hc0 Hm0 Hr0 HB0 HZ0
   clear hb
   by_cases hf0 : fro < 0
   ·skip
    have HE : Hid (doC N rs y.m fro = (rs, [], 140)) := Lib.hid (by unfold doC; rw [if_neg HFR.out, if_pos (by rw [HKE.out]; simp), if_pos (.inl hf0)])
    go_upto_region 7 with fail
    clear hf0 hfb hfn
    have a0 : w1.cell? ⟨w.heap.size, 0, none⟩ = some (.int .i64 (N : Int)) := Hc1.out.cell 0
    have a1 : w1.cell? ⟨w.heap.size, 1, none⟩ = some (.slice p n c) := Hc1.out.cell 1
    go_wp2_with (with_reducible refine stop_storeT 27 (.tmp 6) (.tmp 35) rfl ?_)
    clear a0 a1
    have HTH : Hid (w1.there (w.heap.size + 1 + 1) 0 2) := Hr1.out.thereAt
    have hch : Hid (Chg (w.heap.size + 1 + 1) w1 (w1.setCells (w.heap.size + 1 + 1) 0 (#[.int .i64 (N : Int), .slice p n c] : Array Value).toList)) := Lib.hid (chg_putL _ _ _ _ _ (Chg.refl _ w1))
    have Hr2 : Hid (Blk (w1.setCells (w.heap.size + 1 + 1) 0 (#[.int .i64 (N : Int), .slice p n c] : Array Value).toList) (w.heap.size + 1 + 1) #[.int .i64 (N : Int), .slice p n c] 27) := Lib.hid (blk_put_all Hr1.out _ rfl)
    have HB2 : Hid (Below w.heap.size w (w1.setCells (w.heap.size + 1 + 1) 0 (#[.int .i64 (N : Int), .slice p n c] : Array Value).toList)) := Lib.hid (below_put (by have := HWL.out; omega) _ _ _ _ HB1.out)
    have HZ2 := kzq HZ1 hch.out.size
    have Hc2 := kcq Hc1 hch (by have := HWL.out; omega)
    have Hm2 := kcq Hm1 hch (by have := HWL.out; omega)
    clear hch Hc1 Hm1 Hr1 HB1 HZ1
    refine wpList_store_mid rfl 27 (.tmp 6) (.tmp 35) rfl (w.heap.size + 1 + 1) 0 #[.int .i64 (N : Int), .slice p n c] rfl rfl HTH.out (infoC2 rfl) (all_oneCell_toArray (by intro u hu; simp at hu; rcases hu with rfl | rfl <;> rfl)) ?_
    generalize (w1.setCells (w.heap.size + 1 + 1) 0 (#[.int .i64 (N : Int), .slice p n c] : Array Value).toList) = W9f at *
    clear HTH
    go_wp2_with fail
    have hfr := Hr2.out
    refine bodyPost_ret (v := .tuple #[.agg #[.int .i64 (N : Int), .slice p n c], .slice none 0 0, .int .i64 140]) (by simp [results, Try.results7, go_sem, hfr.cell 0, hfr.cell 1]) rfl (by rw [HE.out]; exact ⟨p, n, c, none, 0, 0, W9f.heap.size, rfl, HKK.out.1, rfl, HZ2.out, (HRS.out.kept HB2.out).imp (fun b h => .inl h), SaidL.nil_ _ _, HB2.out⟩)
   obtain ⟨fn, hfq⟩ : ∃ fn : Nat, fro = fn := ⟨fro.toNat, by omega⟩
   subst hfq
   have HG := Lib.hid (entities_any w1 (N : Int) p n c (by omega) (by have := HNN.out; omega))
   have a0 : w1.cell? ⟨w.heap.size, 0, none⟩ = some (.int .i64 (N : Int)) := Hc1.out.cell 0
   have a1 : w1.cell? ⟨w.heap.size, 1, none⟩ = some (.slice p n c) := Hc1.out.cell 1
   go_wp2_with fail
   clear a0 a1 hf0 hfb hfn
   refine HG.out.mono ?_
   rintro y9 w3 ⟨rfl, hb⟩
   clear HG
   have HWW : Hid (W.heap.size ≤ w3.heap.size) := Lib.hid (Nat.le_trans HWW.out hb.size)
   have Hc2 := kbq Hc1 hb
   have Hm2 := kbq Hm1 hb
   have Hr2 := kbq Hr1 hb
   have HB2 := ktq HB1 hb
   have HZ2 := kzq HZ1 hb.size
   clear Hc1 Hm1 Hr1 HB1 HZ1
   clear hb
   by_cases hfN : N ≤ fn
   ·skip
    have hfI : (N : Int) ≤ (fn : Int) := by omega
    have HE : Hid (doC N rs y.m (fn : Int) = (rs, [], 140)) := Lib.hid (by unfold doC; rw [if_neg HFR.out, if_pos (by rw [HKE.out]; simp), if_pos (.inr hfI)])
    go_upto_region 7 with fail
    clear hfN hfI
    have a0 : w3.cell? ⟨w.heap.size, 0, none⟩ = some (.int .i64 (N : Int)) := Hc2.out.cell 0
    have a1 : w3.cell? ⟨w.heap.size, 1, none⟩ = some (.slice p n c) := Hc2.out.cell 1
    go_wp2_with (with_reducible refine stop_storeT 27 (.tmp 6) (.tmp 35) rfl ?_)
    clear a0 a1
    have HTH : Hid (w3.there (w.heap.size + 1 + 1) 0 2) := Hr2.out.thereAt
    have hch : Hid (Chg (w.heap.size + 1 + 1) w3 (w3.setCells (w.heap.size + 1 + 1) 0 (#[.int .i64 (N : Int), .slice p n c] : Array Value).toList)) := Lib.hid (chg_putL _ _ _ _ _ (Chg.refl _ w3))
    have Hr3 : Hid (Blk (w3.setCells (w.heap.size + 1 + 1) 0 (#[.int .i64 (N : Int), .slice p n c] : Array Value).toList) (w.heap.size + 1 + 1) #[.int .i64 (N : Int), .slice p n c] 27) := Lib.hid (blk_put_all Hr2.out _ rfl)
    have HB3 : Hid (Below w.heap.size w (w3.setCells (w.heap.size + 1 + 1) 0 (#[.int .i64 (N : Int), .slice p n c] : Array Value).toList)) := Lib.hid (below_put (by have := HWL.out; omega) _ _ _ _ HB2.out)
    have HZ3 := kzq HZ2 hch.out.size
    have Hc3 := kcq Hc2 hch (by have := HWL.out; omega)
    have Hm3 := kcq Hm2 hch (by have := HWL.out; omega)
    clear hch Hc2 Hm2 Hr2 HB2 HZ2
    refine wpList_store_mid rfl 27 (.tmp 6) (.tmp 35) rfl (w.heap.size + 1 + 1) 0 #[.int .i64 (N : Int), .slice p n c] rfl rfl HTH.out (infoC2 rfl) (all_oneCell_toArray (by intro u hu; simp at hu; rcases hu with rfl | rfl <;> rfl)) ?_
    generalize (w3.setCells (w.heap.size + 1 + 1) 0 (#[.int .i64 (N : Int), .slice p n c] : Array Value).toList) = W9g at *
    clear HTH
    go_wp2_with fail
    have hfr := Hr3.out
    refine bodyPost_ret (v := .tuple #[.agg #[.int .i64 (N : Int), .slice p n c], .slice none 0 0, .int .i64 140]) (by simp [results, Try.results7, go_sem, hfr.cell 0, hfr.cell 1]) rfl (by rw [HE.out]; exact ⟨p, n, c, none, 0, 0, W9g.heap.size, rfl, HKK.out.1, rfl, HZ3.out, (HRS.out.kept HB3.out).imp (fun b h => .inl h), SaidL.nil_ _ _, HB3.out⟩)
   have HFN : Hid (fn < N) := Lib.hid (by omega)
   have hfI : ¬ (N : Int) ≤ (fn : Int) := by omega
   clear hfN
   have c0 : w3.cell? ⟨w.heap.size + 1, 0, none⟩ = some (.int .i64 15) := by have h := Hm2.out.cell 0; rw [← HKE.out]; exact h
   have HG := Lib.hid (chas_any w3 (N : Int) y.m.y p n c)
   rw [show decide (1 ≤ y.m.y ∧ y.m.y ≤ (n : Int)) = hasB rs y.m.y by unfold hasB; rw [← HKK.out.1]] at HG
   obtain ⟨bh, hbh⟩ : ∃ bh, hasB rs y.m.y = bh := ⟨_, rfl⟩
   rw [hbh] at HG
   have HHS := Lib.hid hbh
   clear hbh
   have a0 : w3.cell? ⟨w.heap.size, 0, none⟩ = some (.int .i64 (N : Int)) := Hc2.out.cell 0
   have a1 : w3.cell? ⟨w.heap.size, 1, none⟩ = some (.slice p n c) := Hc2.out.cell 1
   have m6 : w3.cell? ⟨(w.heap.size + 1), 6, none⟩ = some (.int .i64 y.m.y) := Hm2.out.cell 6
   go_wp2_with fail
   clear a0 a1 m6 hfI
   refine HG.out.mono ?_
   rintro y9 w8 ⟨rfl, hb⟩
   clear HG c0
   have HWW : Hid (W.heap.size ≤ w8.heap.size) := Lib.hid (Nat.le_trans HWW.out hb.size)
   have Hc3 := kbq Hc2 hb
   have Hm3 := kbq Hm2 hb
   have Hr3 := kbq Hr2 hb
   have HB3 := ktq HB2 hb
   have HZ3 := kzq HZ2 hb.size
   clear Hc2 Hm2 Hr2 HB2 HZ2
   clear hb
   cases bh
   ·skip
    have HE : Hid (doC N rs y.m (fn : Int) = (rs, [], 4)) := Lib.hid (by unfold doC; rw [if_neg HFR.out, if_pos (by rw [HKE.out]; simp), if_neg (by have := HFN.out; omega), if_pos HHS.out])
    go_upto_region 9 with fail
    have a0 : w8.cell? ⟨w.heap.size, 0, none⟩ = some (.int .i64 (N : Int)) := Hc3.out.cell 0
    have a1 : w8.cell? ⟨w.heap.size, 1, none⟩ = some (.slice p n c) := Hc3.out.cell 1
    go_wp2_with (with_reducible refine stop_storeT 27 (.tmp 6) (.tmp 47) rfl ?_)
    clear a0 a1
    have HTH : Hid (w8.there (w.heap.size + 1 + 1) 0 2) := Hr3.out.thereAt
    have hch : Hid (Chg (w.heap.size + 1 + 1) w8 (w8.setCells (w.heap.size + 1 + 1) 0 (#[.int .i64 (N : Int), .slice p n c] : Array Value).toList)) := Lib.hid (chg_putL _ _ _ _ _ (Chg.refl _ w8))
    have Hr4 : Hid (Blk (w8.setCells (w.heap.size + 1 + 1) 0 (#[.int .i64 (N : Int), .slice p n c] : Array Value).toList) (w.heap.size + 1 + 1) #[.int .i64 (N : Int), .slice p n c] 27) := Lib.hid (blk_put_all Hr3.out _ rfl)
    have HB4 : Hid (Below w.heap.size w (w8.setCells (w.heap.size + 1 + 1) 0 (#[.int .i64 (N : Int), .slice p n c] : Array Value).toList)) := Lib.hid (below_put (by have := HWL.out; omega) _ _ _ _ HB3.out)
    have HZ4 := kzq HZ3 hch.out.size
    have Hc4 := kcq Hc3 hch (by have := HWL.out; omega)
    have Hm4 := kcq Hm3 hch (by have := HWL.out; omega)
    clear hch Hc3 Hm3 Hr3 HB3 HZ3
    refine wpList_store_mid rfl 27 (.tmp 6) (.tmp 47) rfl (w.heap.size + 1 + 1) 0 #[.int .i64 (N : Int), .slice p n c] rfl rfl HTH.out (infoC2 rfl) (all_oneCell_toArray (by intro u hu; simp at hu; rcases hu with rfl | rfl <;> rfl)) ?_
    generalize (w8.setCells (w.heap.size + 1 + 1) 0 (#[.int .i64 (N : Int), .slice p n c] : Array Value).toList) = W9h at *
    clear HTH
    go_wp2_with fail
    have hfr := Hr4.out
    refine bodyPost_ret (v := .tuple #[.agg #[.int .i64 (N : Int), .slice p n c], .slice none 0 0, .int .i64 4]) (by simp [results, Try.results7, go_sem, hfr.cell 0, hfr.cell 1]) rfl (by rw [HE.out]; exact ⟨p, n, c, none, 0, 0, W9h.heap.size, rfl, HKK.out.1, rfl, HZ4.out, (HRS.out.kept HB4.out).imp (fun b h => .inl h), SaidL.nil_ _ _, HB4.out⟩)
   ·skip
    obtain ⟨A, hA⟩ : ∃ A, queryC rs y.m (fn : Int) = A := ⟨_, rfl⟩
    have HE : Hid (doC N rs y.m (fn : Int) = A) := Lib.hid (by show _ = _; unfold doC; rw [if_neg HFR.out, if_pos (by rw [HKE.out]; simp), if_neg (by have := HFN.out; omega), if_neg (by rw [HHS.out]; decide), if_neg (by rw [HKE.out]; decide), if_neg (by rw [HKE.out]; decide)]; exact hA)
    go_upto_region 10 with fail
    have HGX : Hid (W.heap.size ≤ w8.heap.size) := Lib.hid (by have h1 := HWW.out; exact h1)
    have HG := Lib.hid (cquery_any w8 (fun b => P b ∨ (W.heap.size ≤ b ∧ b < w8.heap.size)) N p n c rs y (fn : Int) ((HRS.out.kept HB3.out).imp (fun b h => .inl h)) (fun b h => h.elim (fun h1 => Nat.lt_of_lt_of_le (HPW.out b h1) HZ3.out) (fun h1 => h1.2)) HKK.out.1 (by have := HKK.out; omega) (of_hasB HHS.out HKK.out.1).1 (of_hasB HHS.out HKK.out.1).2 HNN.out.1 HNN.out.2 (fun r hr => (HOK.out r hr).1))
    unfold CP CPost Msg.v at HG
    rw [hA] at HG
    clear hA
    have a0 : w8.cell? ⟨w.heap.size, 0, none⟩ = some (.int .i64 (N : Int)) := Hc3.out.cell 0
    have a1 : w8.cell? ⟨w.heap.size, 1, none⟩ = some (.slice p n c) := Hc3.out.cell 1
    have m0 : w8.cell? ⟨(w.heap.size + 1), 0, none⟩ = some (.int .i64 y.m.k) := Hm3.out.cell 0
    have m1 : w8.cell? ⟨(w.heap.size + 1), 1, none⟩ = some (.int .i64 y.m.s) := Hm3.out.cell 1
    have m2 : w8.cell? ⟨(w.heap.size + 1), 2, none⟩ = some (.int .i64 y.m.n) := Hm3.out.cell 2
    have m3 : w8.cell? ⟨(w.heap.size + 1), 3, none⟩ = some (.int .i64 y.m.b) := Hm3.out.cell 3
    have m4 : w8.cell? ⟨(w.heap.size + 1), 4, none⟩ = some (.int .i64 y.m.c) := Hm3.out.cell 4
    have m5 : w8.cell? ⟨(w.heap.size + 1), 5, none⟩ = some (.int .i64 y.m.r) := Hm3.out.cell 5
    have m6 : w8.cell? ⟨(w.heap.size + 1), 6, none⟩ = some (.int .i64 y.m.y) := Hm3.out.cell 6
    have m7 : w8.cell? ⟨(w.heap.size + 1), 7, none⟩ = some (.int .i64 y.m.a) := Hm3.out.cell 7
    have m8 : w8.cell? ⟨(w.heap.size + 1), 8, none⟩ = some (.bool y.m.t) := Hm3.out.cell 8
    have m9 : w8.cell? ⟨(w.heap.size + 1), 9, none⟩ = some (.slice y.pl y.m.ls.length y.cl) := Hm3.out.cell 9
    have m10 : w8.cell? ⟨(w.heap.size + 1), 10, none⟩ = some (.slice y.pn y.m.ns.length y.cn) := Hm3.out.cell 10
    go_wp2_with fail
    clear a0 a1 m0 m1 m2 m3 m4 m5 m6 m7 m8 m9 m10
    refine HG.out.mono ?_
    rintro y9 w5 ⟨p3, n3, c3, pv3, nv3, cv3, B3, rfl, hn3, hnv3, hB3, hq3, hs3, hb⟩
    clear HG
    have HN3 := Lib.hid (And.intro hn3 hnv3)
    have HBB : Hid (w8.heap.size ≤ B3) := Lib.hid hB3
    have HQQ := Lib.hid hq3
    have HSS := Lib.hid hs3
    clear hn3 hnv3 hB3 hq3 hs3
    have Hc4 := kbq Hc3 hb
    have Hm4 := kbq Hm3 hb
    have Hr4 := kbq Hr3 hb
    have HB4 := ktq HB3 hb
    have HZ4 := kzq HZ3 hb.size
    clear Hc3 Hm3 Hr3 HB3 HZ3
    clear hb
    obtain ⟨rs3, out3, e3⟩ := A
    go_wp2_with (with_reducible refine stop_storeT 27 (.tmp 6) (.tmp 53) rfl ?_)
    have HTH : Hid (w5.there (w.heap.size + 1 + 1) 0 2) := Hr4.out.thereAt
    have hch : Hid (Chg (w.heap.size + 1 + 1) w5 (w5.setCells (w.heap.size + 1 + 1) 0 (#[.int .i64 (N : Int), .slice p3 n3 c3] : Array Value).toList)) := Lib.hid (chg_putL _ _ _ _ _ (Chg.refl _ w5))
    have Hr5 : Hid (Blk (w5.setCells (w.heap.size + 1 + 1) 0 (#[.int .i64 (N : Int), .slice p3 n3 c3] : Array Value).toList) (w.heap.size + 1 + 1) #[.int .i64 (N : Int), .slice p3 n3 c3] 27) := Lib.hid (blk_put_all Hr4.out _ rfl)
    have HB5 : Hid (Below w.heap.size w (w5.setCells (w.heap.size + 1 + 1) 0 (#[.int .i64 (N : Int), .slice p3 n3 c3] : Array Value).toList)) := Lib.hid (below_put (by have := HWL.out; omega) _ _ _ _ HB4.out)
    have HZ5 := kzq HZ4 hch.out.size
    have Hc5 := kcq Hc4 hch (by have := HWL.out; omega)
    have Hm5 := kcq Hm4 hch (by have := HWL.out; omega)
    have HST := Lib.hid (HSS.out.chgS hch.out (by have := HBB.out; have := HWL.out; have := HGX.out; omega))
    have HQR := Lib.hid ((HQQ.out.imp (Q := fun b => b ≠ w.heap.size + 1 + 1 ∧ (P b ∨ (w.heap.size ≤ b ∧ b < B3))) (fun b h => by
     have h5 := HBB.out
     have h6 := HWL.out
     have h7 := HGX.out
     rcases h with (h1 | h1) | h1
     ·have := HPW.out _ h1
      exact ⟨by omega, .inl h1⟩
     ·exact ⟨by omega, .inr (by omega)⟩
     ·exact ⟨by omega, .inr (by omega)⟩)).keepP (KeepP.of_chg hch.out (by rintro ⟨h, _⟩; exact h rfl)))
    clear HSS HQQ
    clear hch Hc4 Hm4 Hr4 HB4 HZ4
    refine wpList_store_mid rfl 27 (.tmp 6) (.tmp 53) rfl (w.heap.size + 1 + 1) 0 #[.int .i64 (N : Int), .slice p3 n3 c3] rfl rfl HTH.out (infoC2 rfl) (all_oneCell_toArray (by intro u hu; simp at hu; rcases hu with rfl | rfl <;> rfl)) ?_
    generalize (w5.setCells (w.heap.size + 1 + 1) 0 (#[.int .i64 (N : Int), .slice p3 n3 c3] : Array Value).toList) = W9d at *
    clear HTH
    go_wp2_with fail
    have hfr := Hr5.out
    refine bodyPost_ret (v := .tuple #[.agg #[.int .i64 (N : Int), .slice p3 n3 c3], .slice pv3 nv3 cv3, .int .i64 e3]) (by simp [results, Try.results7, go_sem, hfr.cell 0, hfr.cell 1]) rfl (by rw [HE.out]; exact ⟨p3, n3, c3, pv3, nv3, cv3, B3, rfl, HN3.out.1, HN3.out.2, by have := HBB.out; have := HWL.out; have := HGX.out; omega, HQR.out.imp (fun b h => h.2), HST.out, HB5.out⟩)
  have hk15 := hk
  clear hk
  have HKN : Hid (¬ (y.m.k = 11 ∨ y.m.k = 13 ∨ y.m.k = 15)) := Lib.hid (by rintro (h | h | h); exact hk11 h; exact hk13 h; exact hk15 h)
  have HG := Lib.hid (byE_none W y.m.k hk11 hk13 hk15)
  have c0 : W.cell? ⟨(w.heap.size + 1), 0, none⟩ = some (.int .i64 y.m.k) := Hm0.out.cell 0
  go_wp2_with fail
  refine HG.out.mono ?_
  rintro y9 w1 ⟨rfl, hb⟩
  clear HG c0
  have Hc1 := kbq Hc0 hb
  have Hm1 := kbq Hm0 hb
  have Hr1 := kbq Hr0 hb
  have HB1 := ktq HB0 hb
  have HZ1 := kzq HZ0 hb.size
  clear Hc0 Hm0 Hr0 HB0 HZ0
  clear hb
  clear hk11 hk13 hk15
  have HE : Hid (doC N rs y.m fro = (rs, [], 110)) := Lib.hid (by unfold doC; rw [if_neg HFR.out, if_neg HKN.out])
  go_upto_region 5 with fail
  clear hfb hfn
  have a0 : w1.cell? ⟨w.heap.size, 0, none⟩ = some (.int .i64 (N : Int)) := Hc1.out.cell 0
  have a1 : w1.cell? ⟨w.heap.size, 1, none⟩ = some (.slice p n c) := Hc1.out.cell 1
  go_wp2_with (with_reducible refine stop_storeT 27 (.tmp 6) (.tmp 21) rfl ?_)
  clear a0 a1
  have HTH : Hid (w1.there (w.heap.size + 1 + 1) 0 2) := Hr1.out.thereAt
  have hch : Hid (Chg (w.heap.size + 1 + 1) w1 (w1.setCells (w.heap.size + 1 + 1) 0 (#[.int .i64 (N : Int), .slice p n c] : Array Value).toList)) := Lib.hid (chg_putL _ _ _ _ _ (Chg.refl _ w1))
  have Hr2 : Hid (Blk (w1.setCells (w.heap.size + 1 + 1) 0 (#[.int .i64 (N : Int), .slice p n c] : Array Value).toList) (w.heap.size + 1 + 1) #[.int .i64 (N : Int), .slice p n c] 27) := Lib.hid (blk_put_all Hr1.out _ rfl)
  have HB2 : Hid (Below w.heap.size w (w1.setCells (w.heap.size + 1 + 1) 0 (#[.int .i64 (N : Int), .slice p n c] : Array Value).toList)) := Lib.hid (below_put (by have := HWL.out; omega) _ _ _ _ HB1.out)
  have HZ2 := kzq HZ1 hch.out.size
  have Hc2 := kcq Hc1 hch (by have := HWL.out; omega)
  have Hm2 := kcq Hm1 hch (by have := HWL.out; omega)
  clear hch Hc1 Hm1 Hr1 HB1 HZ1
  refine wpList_store_mid rfl 27 (.tmp 6) (.tmp 21) rfl (w.heap.size + 1 + 1) 0 #[.int .i64 (N : Int), .slice p n c] rfl rfl HTH.out (infoC2 rfl) (all_oneCell_toArray (by intro u hu; simp at hu; rcases hu with rfl | rfl <;> rfl)) ?_
  generalize (w1.setCells (w.heap.size + 1 + 1) 0 (#[.int .i64 (N : Int), .slice p n c] : Array Value).toList) = W9z at *
  clear HTH
  go_wp2_with fail
  have hfr := Hr2.out
  refine bodyPost_ret (v := .tuple #[.agg #[.int .i64 (N : Int), .slice p n c], .slice none 0 0, .int .i64 110]) (by simp [results, Try.results7, go_sem, hfr.cell 0, hfr.cell 1]) rfl (by rw [HE.out]; exact ⟨p, n, c, none, 0, 0, W9z.heap.size, rfl, HKK.out.1, rfl, HZ2.out, (HRS.out.kept HB2.out).imp (fun b h => .inl h), SaidL.nil_ _ _, HB2.out⟩)
end Go.Proofs.Yteogdfpkcoodlaa
namespace Go.Proofs.Yteogdfpkcoodlaa
open Go.RowKit
set_option linter.unusedSimpArgs false
/-- What all have said, of which the first k lists are copies. -/
def GetR (P : Nat → Prop) (B : Nat) (W : World) (g L c : Nat) (hs : List Hd) (k : Nat) (wr : World) : Prop := ∃ zs : List HdX, OwnT encH wr B 80 (.slice (some ⟨g, 0, none⟩) L c) zs ∧ zs.map HdX.h = hs ∧ (∀ i (h : i < zs.length), (i < k → (zs[i]).In (fun b => B ≤ b ∧ b ≠ g) wr) ∧ (k ≤ i → (zs[i]).In P wr)) ∧ Below B W wr
def noRun : RunX := ⟨⟨0, 0, [], [], []⟩, none, 0, none, 0, none, 0⟩
def GetP (w' : World) (base : Nat) (rs : List Rn) (k : Int) (x : RunX) (b : Bool) : Prop := (b = true → x.r = rnAt rs k ∧ x.In (fun b => base ≤ b) w' ∧ Fre w' x.pl x.r.ls.length) ∧ (b = false → x = noRun)
set_option linter.unusedSimpArgs false in
set_option maxHeartbeats 4000000 in
set_option maxRecDepth 100000 in
theorem cget_any (w : World) (P : Nat → Prop) (N : Nat) (k : Int) (p : Option Addr) (n c : Nat) (rs : List Rn) (hrs : RsR P w (.slice p n c) rs) (hpw : ∀ b, P b → b < w.heap.size) (hn : n = rs.length) (hN1 : 1 ≤ N) (hN8 : N ≤ 8) (hlen : ∀ r ∈ rs, r.hs.length = N) (hsz : ∀ r ∈ rs, (∀ h ∈ r.hs, h.ls.length * 32 ≤ 140737488355000) ∧ r.ls.length * 32 ≤ 140737488355000 ∧ r.ns.length * 8 ≤ 140737488355000) (hnl : n ≤ 2000) :
  Calls Try.prog 11 #[.agg #[.int .i64 (N : Int), .slice p n c], .int .i64 k] w fun e w' => ∃ x : RunX, e = .returned (.tuple #[x.v, .bool (decide (1 ≤ k ∧ k ≤ (n : Int)))]) ∧ GetP w' w.heap.size rs k x (decide (1 ≤ k ∧ k ≤ (n : Int))) ∧ Below w.heap.size w w' := by
 obtain ⟨xs, hr, hat, hin, hm⟩ := hrs
 have HNX0 : Hid (xs.length = n) := Lib.hid (by rw [hn, ← hm, List.length_map])
 have HPW := Lib.hid hpw
 have HNQ : Hid (n = rs.length) := Lib.hid hn
 have HR0 := Lib.hid hr
 have HIN := Lib.hid hin
 have HM := Lib.hid hm
 have HLN := Lib.hid hlen
 have HSZ0 := Lib.hid hsz
 have HNN : Hid (1 ≤ N ∧ N ≤ 8) := Lib.hid ⟨hN1, hN8⟩
 have HNL0 : Hid (n ≤ 2000) := Lib.hid hnl
 obtain ⟨bh, hbh⟩ : ∃ bh, decide (1 ≤ k ∧ k ≤ (n : Int)) = bh := ⟨_, rfl⟩
 rw [hbh]
 have HHS := Lib.hid hbh
 clear hn hr hat hin hm hlen hsz hN1 hN8 hnl hpw hbh
 have HB0 : Hid (Below w.heap.size w ((w.alloc (.cells #[.int .i64 (N : Int), .slice p n c] 27)).alloc (.cells #[.int .i64 0, .int .i64 0, .slice none 0 0, .slice none 0 0, .slice none 0 0] 56))) := Lib.hid (((oneB w _).alloc (by simp <;> omega) _))
 have Hc0 : Hid (Blk ((w.alloc (.cells #[.int .i64 (N : Int), .slice p n c] 27)).alloc (.cells #[.int .i64 0, .int .i64 0, .slice none 0 0, .slice none 0 0, .slice none 0 0] 56)) w.heap.size #[.int .i64 (N : Int), .slice p n c] 27) := Lib.hid ((Blk.new w #[.int .i64 (N : Int), .slice p n c] 27).alloc _)
 have Hr0 : Hid (Blk ((w.alloc (.cells #[.int .i64 (N : Int), .slice p n c] 27)).alloc (.cells #[.int .i64 0, .int .i64 0, .slice none 0 0, .slice none 0 0, .slice none 0 0] 56)) (w.heap.size + 1) #[.int .i64 0, .int .i64 0, .slice none 0 0, .slice none 0 0, .slice none 0 0] 56) := Lib.hid (Blk.new' (w.alloc (.cells #[.int .i64 (N : Int), .slice p n c] 27)) #[.int .i64 0, .int .i64 0, .slice none 0 0, .slice none 0 0, .slice none 0 0] 56 (by simp))
 have HZ0 : Hid (w.heap.size ≤ ((w.alloc (.cells #[.int .i64 (N : Int), .slice p n c] 27)).alloc (.cells #[.int .i64 0, .int .i64 0, .slice none 0 0, .slice none 0 0, .slice none 0 0] 56)).heap.size) := Lib.hid HB0.out.size
 go_enter Try.func11, Try.ntmps11
 go_upto_region 1 with fail
 generalize ((w.alloc (.cells #[.int .i64 (N : Int), .slice p n c] 27)).alloc (.cells #[.int .i64 0, .int .i64 0, .slice none 0 0, .slice none 0 0, .slice none 0 0] 56)) = W at *
 have HWL : Hid (w.heap.size + 1 < W.heap.size) := Lib.hid Hr0.out.lt
 have HG := Lib.hid (chas_any W (N : Int) k p n c)
 rw [HHS.out] at HG
 have a0 : W.cell? ⟨w.heap.size, 0, none⟩ = some (.int .i64 (N : Int)) := Hc0.out.cell 0
 have a1 : W.cell? ⟨w.heap.size, 1, none⟩ = some (.slice p n c) := Hc0.out.cell 1
 go_wp2_with fail
 clear a0 a1
 refine HG.out.mono ?_
 rintro y9 w1 ⟨rfl, hb⟩
 clear HG
 have HW1 : Hid (W.heap.size ≤ w1.heap.size) := Lib.hid hb.size
 have Hc1 := kbq Hc0 hb
 have Hr1 := kbq Hr0 hb
 have HB1 := ktq HB0 hb
 have HZ1 := kzq HZ0 hb.size
 clear Hc0 Hr0 HB0 HZ0
 clear hb
 cases bh
 ·skip
  go_upto_region 2 with fail
  go_wp2_with (with_reducible refine stop_storeT 56 (.tmp 4) (.tmp 13) rfl ?_)
  have HTH : Hid (w1.there (w.heap.size + 1) 0 5) := Hr1.out.thereAt
  have hch : Hid (Chg (w.heap.size + 1) w1 (w1.setCells (w.heap.size + 1) 0 (#[.int .i64 0, .int .i64 0, .slice none 0 0, .slice none 0 0, .slice none 0 0] : Array Value).toList)) := Lib.hid (chg_putL _ _ _ _ _ (Chg.refl _ w1))
  have Hr2 : Hid (Blk (w1.setCells (w.heap.size + 1) 0 (#[.int .i64 0, .int .i64 0, .slice none 0 0, .slice none 0 0, .slice none 0 0] : Array Value).toList) (w.heap.size + 1) #[.int .i64 0, .int .i64 0, .slice none 0 0, .slice none 0 0, .slice none 0 0] 56) := Lib.hid (blk_put_all Hr1.out _ rfl)
  have HB2 : Hid (Below w.heap.size w (w1.setCells (w.heap.size + 1) 0 (#[.int .i64 0, .int .i64 0, .slice none 0 0, .slice none 0 0, .slice none 0 0] : Array Value).toList)) := Lib.hid (below_put (by have := HWL.out; omega) _ _ _ _ HB1.out)
  have HZ2 := kzq HZ1 hch.out.size
  have Hc2 := kcq Hc1 hch (by have := HWL.out; omega)
  clear hch Hc1 Hr1 HB1 HZ1
  refine wpList_store_mid rfl 56 (.tmp 4) (.tmp 13) rfl (w.heap.size + 1) 0 #[.int .i64 0, .int .i64 0, .slice none 0 0, .slice none 0 0, .slice none 0 0] rfl rfl HTH.out (infoR5 rfl) (all_oneCell_toArray (by intro u hu; simp at hu; rcases hu with rfl | rfl | rfl | rfl | rfl <;> rfl)) ?_
  generalize (w1.setCells (w.heap.size + 1) 0 (#[.int .i64 0, .int .i64 0, .slice none 0 0, .slice none 0 0, .slice none 0 0] : Array Value).toList) = W9 at *
  clear HTH
  go_wp2_with fail
  have hfr := Hr2.out
  refine bodyPost_ret (v := .tuple #[.agg #[.int .i64 0, .int .i64 0, .slice none 0 0, .slice none 0 0, .slice none 0 0], .bool false]) (by simp [results, Try.results11, go_sem, hfr.cell 0, hfr.cell 1, hfr.cell 2, hfr.cell 3, hfr.cell 4]) rfl ⟨noRun, rfl, ⟨(fun h => by cases h), (fun _ => rfl)⟩, HB2.out⟩
 ·skip
  have hk1 : 1 ≤ k ∧ k ≤ (n : Int) := of_decide_eq_true HHS.out
  obtain ⟨kn, hk⟩ : ∃ kn : Nat, k = (kn : Int) + 1 := ⟨(k - 1).toNat, by omega⟩
  subst hk
  have hnx : xs.length = n := HNX0.out
  have hr := HR0.out
  have hin := HIN.out
  have hm := HM.out
  have hlen := HLN.out
  have hsz := HSZ0.out
  have hnl := HNL0.out
  have hkn : kn < xs.length := by omega
  obtain ⟨x, hx⟩ : ∃ x, xs[kn] = x := ⟨_, rfl⟩
  have HXI : Hid (x.In P w) := Lib.hid (hin x (by rw [← hx]; exact List.getElem_mem hkn))
  have HXR : Hid (rnAt rs ((kn : Int) + 1) = x.r) := Lib.hid (by unfold rnAt; rw [Int.add_sub_cancel, Int.toNat_natCast, ← hm, List.getElem?_map, List.getElem?_eq_getElem hkn, hx]; rfl)
  have HXL : Hid (x.r.hs.length = N) := Lib.hid (hlen x.r (by rw [← hm]; exact List.mem_map_of_mem (by rw [← hx]; exact List.getElem_mem hkn)))
  have HSZ : Hid ((∀ h ∈ x.r.hs, h.ls.length * 32 ≤ 140737488355000) ∧ x.r.ls.length * 32 ≤ 140737488355000 ∧ x.r.ns.length * 8 ≤ 140737488355000) := Lib.hid (hsz x.r (by rw [← hm]; exact List.mem_map_of_mem (by rw [← hx]; exact List.getElem_mem hkn)))
  obtain ⟨b, o, hp, hbl, hcs⟩ := (hr.kept HB1.out).at_ kn hkn
  rw [hx] at hcs
  subst hp
  have hcap : xs.length ≤ c := hr.cap
  have hkI : (kn : Int) < (n : Int) := by omega
  have hkC : (kn : Int) < (c : Int) := by omega
  have hw1 : wrap64 (kn : Int) = (kn : Int) := by unfold wrap64; omega
  clear hr hin hm hnx hk1 hx hcap hbl hlen hsz hkn hnl HHS HR0 HIN HM HLN HSZ0 HNL0 HNX0
  have a1 : w1.cell? ⟨w.heap.size, 1, none⟩ = some (.slice (some ⟨b, o, none⟩) n c) := Hc1.out.cell 1
  have x0 : w1.cell? ⟨b, o + kn * 5, none⟩ = some (.int .i64 x.r.cu) := hcs 0 (by decide)
  have x1 : w1.cell? ⟨b, o + kn * 5 + 1, none⟩ = some (.int .i64 x.r.st) := hcs 1 (by decide)
  have x2 : w1.cell? ⟨b, o + kn * 5 + 2, none⟩ = some (.slice x.pf x.r.hs.length x.cf) := hcs 2 (by decide)
  have x3 : w1.cell? ⟨b, o + kn * 5 + 3, none⟩ = some (.slice x.pl x.r.ls.length x.cl) := hcs 3 (by decide)
  have x4 : w1.cell? ⟨b, o + kn * 5 + 4, none⟩ = some (.slice x.pn x.r.ns.length x.cn) := hcs 4 (by decide)
  clear hcs
  have hba := oneB w1 (.cells #[.int .i64 x.r.cu, .int .i64 x.r.st, .slice x.pf x.r.hs.length x.cf, .slice x.pl x.r.ls.length x.cl, .slice x.pn x.r.ns.length x.cn] 56)
  have Hc2 := kbq Hc1 hba
  have Hr2 := kbq Hr1 hba
  have Hx2 := Lib.hid (Blk.new w1 #[.int .i64 x.r.cu, .int .i64 x.r.st, .slice x.pf x.r.hs.length x.cf, .slice x.pl x.r.ls.length x.cl, .slice x.pn x.r.ns.length x.cn] 56)
  have HB2 := Lib.hid (HB1.out.alloc HB1.out.size (.cells #[.int .i64 x.r.cu, .int .i64 x.r.st, .slice x.pf x.r.hs.length x.cf, .slice x.pl x.r.ls.length x.cl, .slice x.pn x.r.ns.length x.cn] 56))
  have HZ2 := kzq HZ1 hba.size
  have HGgx : Hid (w.heap.size ≤ w1.heap.size) := Lib.hid HB1.out.size
  clear hba Hc1 Hr1 HB1 HZ1
  go_upto_region 4 with fail
  clear a1 x0 x1 x2 x3 x4 hkI hkC hw1
  generalize (w1.alloc (.cells #[.int .i64 x.r.cu, .int .i64 x.r.st, .slice x.pf x.r.hs.length x.cf, .slice x.pl x.r.ls.length x.cl, .slice x.pn x.r.ns.length x.cn] 56)) = W2 at *
  generalize hggx : w1.heap.size = gx at *
  clear hggx
  obtain ⟨ys, hy1, _, hy2, hy3⟩ := HXI.out.hs
  have HYR := Lib.hid hy1
  have HYI := Lib.hid hy2
  have HYM := Lib.hid hy3
  have HYL : Hid (ys.length = x.r.hs.length) := Lib.hid (by rw [← hy3, List.length_map])
  clear hy1 hy2 hy3
  have HG := Lib.hid (cloneH_any W2 (.slice x.pf x.r.hs.length x.cf) ys (HYR.out.kept HB2.out) (by have := HYL.out; have := HXL.out; have := HNN.out; omega))
  have x2 : W2.cell? ⟨gx, 2, none⟩ = some (.slice x.pf x.r.hs.length x.cf) := Hx2.out.cell 2
  go_wp2_with fail
  clear x2
  refine HG.out.mono ?_
  rintro y9 w3 ⟨v3, rfl, ho, hb⟩
  clear HG
  obtain ⟨p3, c3, hv3⟩ := ho.form
  rw [HYL.out] at hv3
  subst hv3
  obtain ⟨g, cur, hp3, hgb, hblk, hnc, hmx, hsz, htk, hll⟩ := ho.lies (by have := HXL.out; have := HNN.out; omega)
  subst hp3
  have HGB : Hid (W2.heap.size ≤ g ∧ g < w3.heap.size ∧ x.r.hs.length ≤ c3) := Lib.hid ⟨hgb, hblk.lt, hnc⟩
  have HGX2 : Hid (gx < W2.heap.size) := Lib.hid Hx2.out.lt
  have HO := Lib.hid ho
  clear ho hgb hblk hnc hmx hsz htk hll
  have Hc3 := kbq Hc2 hb
  have Hr3 := kbq Hr2 hb
  have Hx3 := kbq Hx2 hb
  have HB3 := ktq HB2 hb
  have HZ3 := kzq HZ2 hb.size
  clear Hc2 Hr2 Hx2 HB2 HZ2
  clear hb
  have z2 : w3.cell? ⟨gx, 2, none⟩ = some (.slice x.pf x.r.hs.length x.cf) := Hx3.out.cell 2
  have f2 := Hx3.out.free 2
  go_upto_region 5 with fail
  clear z2 f2
  have hch := Lib.hid ((Chg.refl gx w3).set 2 (.slice (some ⟨g, 0, none⟩) x.r.hs.length c3))
  have Hx4 : Hid (Blk _ gx #[.int .i64 x.r.cu, .int .i64 x.r.st, .slice (some ⟨g, 0, none⟩) x.r.hs.length c3, .slice x.pl x.r.ls.length x.cl, .slice x.pn x.r.ns.length x.cn] 56) := Lib.hid (Hx3.out.set 2 (.slice (some ⟨g, 0, none⟩) x.r.hs.length c3))
  have HB4 := ksq HB3 hch (by show w.heap.size ≤ gx; have := HWL.out; have := HW1.out; have := HGX2.out; have := HGB.out; omega)
  have HZ4 := kzq HZ3 hch.out.size
  have Hc4 := kcq Hc3 hch (by have := HWL.out; have := HW1.out; have := HGX2.out; have := HGB.out; omega)
  have Hr4 := kcq Hr3 hch (by have := HWL.out; have := HW1.out; have := HGX2.out; have := HGB.out; omega)
  have HO := Lib.hid (HO.out.stay (fun b hb => hch.out.2 b (HO.out.lt b hb) (by have h1 := HO.out.block_ge b hb; have := HGX2.out; omega)))
  clear hch Hc3 Hr3 Hx3 HB3 HZ3
  generalize (w3.setCell ⟨gx, 2, none⟩ (.slice (some ⟨g, 0, none⟩) x.r.hs.length c3)) = W4 at *
  have HGW : Hid (g < W4.heap.size ∧ w.heap.size < W4.heap.size) := Lib.hid ⟨HO.out.lt g rfl, by have := Hr4.out.lt; omega⟩
  have HREL : Hid (GetR P W2.heap.size W4 g x.r.hs.length c3 x.r.hs 0 W4) := Lib.hid ⟨ys, HO.out, HYM.out, fun i hi => ⟨fun h => by omega, fun _ => ((HYI.out _ (List.getElem_mem hi)).kept HB4.out)⟩, Below.refl _ _⟩
  have HBW4 : Hid (Below w.heap.size w W4) := Lib.hid HB4.out
  have x2 : W4.cell? ⟨gx, 2, none⟩ = some (.slice (some ⟨g, 0, none⟩) x.r.hs.length c3) := Hx4.out.cell 2
  go_wp2_with fail
  clear x2
  have HLL : Hid (x.r.hs.length ≤ 8) := Lib.hid (by have := HXL.out; have := HNN.out; omega)
  have HLC : Hid (x.r.hs.length ≤ c3) := Lib.hid HGB.out.2.2
  have HSH : Hid (∀ h ∈ x.r.hs, h.ls.length * 32 ≤ 140737488355000) := Lib.hid HSZ.out.1
  have HXB := Lib.hid Hx4.out
  have HCB := Lib.hid Hc4.out
  have HRB := Lib.hid Hr4.out
  have HBB := Lib.hid HB4.out
  have HRL : Hid (Blk W4 gx #[.int .i64 x.r.cu, .int .i64 x.r.st, .slice (some ⟨g, 0, none⟩) x.r.hs.length c3, .slice x.pl x.r.ls.length x.cl, .slice x.pn x.r.ns.length x.cn] 56 ∧ Blk W4 (w.heap.size + 1) #[.int .i64 0, .int .i64 0, .slice none 0 0, .slice none 0 0, .slice none 0 0] 56 ∧ GetR P W2.heap.size W4 g x.r.hs.length c3 x.r.hs 0 W4) := Lib.hid ⟨HXB.out, HRB.out, HREL.out⟩
  clear Hx4 Hc4 Hr4 HB4 HZ4 HXB HCB HRB HREL HO
  generalize hL : x.r.hs.length = L at *
  have HLQ := Lib.hid hL
  clear hL
  go_loopw [27] (fun i wr => ∃ k : Nat, k ≤ L ∧ i = .int .i64 k ∧ Hid (Blk wr gx #[.int .i64 x.r.cu, .int .i64 x.r.st, .slice (some ⟨g, 0, none⟩) L c3, .slice x.pl x.r.ls.length x.cl, .slice x.pn x.r.ns.length x.cn] 56 ∧ Blk wr (w.heap.size + 1) #[.int .i64 0, .int .i64 0, .slice none 0 0, .slice none 0 0, .slice none 0 0] 56 ∧ GetR P W2.heap.size W4 g L c3 x.r.hs k wr)) (fun i _ => L - (intOf i).toNat)
  case atStart => exact ⟨0, by omega, rfl, HRL⟩
  case round =>
   clear HRL
   obtain ⟨q, hq, rfl, HK⟩ := hrel
   have hq9 : q + 1 ≤ 9 := by have := HLL.out; omega
   by_cases hlt : q < L
   ·have hltI : (q : Int) < (L : Int) := by omega
    have hqC : (q : Int) < (c3 : Int) := by have := HLC.out; omega
    obtain ⟨zs, hz1, hz2, hz3, hz4⟩ := HK.out.2.2
    have hzl : zs.length = L := by rw [← HLQ.out, ← hz2, List.length_map]
    have hqz : q < zs.length := by omega
    have HV1 := Lib.hid hz1
    have HV2 := Lib.hid hz2
    have HV3 := Lib.hid hz3
    have HV4 := Lib.hid hz4
    have HQZ := Lib.hid hqz
    have HZI : Hid ((zs[q]'HQZ.out).In P wr) := Lib.hid ((hz3 q hqz).2 (Nat.le_refl q))
    have HZM : Hid ((zs[q]'HQZ.out).h ∈ x.r.hs) := Lib.hid (by rw [← hz2]; exact List.mem_map_of_mem (List.getElem_mem hqz))
    have hc0 := hz1.read q 0 hqz (by decide)
    have hc1 := hz1.read q 1 hqz (by decide)
    have hc2 := hz1.read q 2 hqz (by decide)
    obtain ⟨z, hz⟩ : ∃ z, zs[q]'HQZ.out = z := ⟨_, rfl⟩
    rw [hz] at hc0 hc1 hc2 HZI HZM
    have HZE := Lib.hid hz
    clear hz1 hz2 hz3 hz4 hzl hqz hz
    have z0 : wr.cell? ⟨g, q * 3, none⟩ = some (.bool z.h.o) := hc0.1
    have z1 : wr.cell? ⟨g, q * 3 + 1, none⟩ = some (.bool z.h.t) := hc1.1
    have z2 : wr.cell? ⟨g, q * 3 + 2, none⟩ = some (.slice z.p z.h.ls.length z.c) := hc2.1
    clear hc0 hc1 hc2
    have HB0 := Lib.hid (Below.refl wr.heap.size wr)
    have HZ0 : Hid (wr.heap.size ≤ wr.heap.size) := Lib.hid (Nat.le_refl _)
    have Hx0 := Lib.hid HK.out.1
    have Hr0 := Lib.hid HK.out.2.1
    have HGQ : Hid (g < wr.heap.size ∧ gx < g ∧ w.heap.size + 1 < gx) := Lib.hid ⟨HV1.out.lt g rfl, by have := HGB.out; have := HGX2.out; omega, by have := HWL.out; have := HW1.out; omega⟩
    have hba := oneB wr (.cells #[.bool z.h.o, .bool z.h.t, .slice z.p z.h.ls.length z.c] 80)
    have Hx1 := kbq Hx0 hba
    have Hr1 := kbq Hr0 hba
    have Ho1 := Lib.hid (Blk.new wr #[.bool z.h.o, .bool z.h.t, .slice z.p z.h.ls.length z.c] 80)
    have HB1 := Lib.hid (HB0.out.alloc HB0.out.size (.cells #[.bool z.h.o, .bool z.h.t, .slice z.p z.h.ls.length z.c] 80))
    have HZ1 := kzq HZ0 hba.size
    have HGgo : Hid (wr.heap.size ≤ wr.heap.size) := Lib.hid HB0.out.size
    clear hba Hx0 Hr0 HB0 HZ0
    go_upto_region 8 with fail
    clear z0 z1 z2
    generalize (wr.alloc (.cells #[.bool z.h.o, .bool z.h.t, .slice z.p z.h.ls.length z.c] 80)) = W5 at *
    have hbd := (Below.refl W5.heap.size W5).drew
    have Hx2 := kbq Hx1 hbd
    have Hr2 := kbq Hr1 hbd
    have Ho2 := kbq Ho1 hbd
    have HB2 := ktq HB1 hbd
    have HZ2 := kzq HZ1 hbd.size
    clear Hx1 Hr1 Ho1 HB1 HZ1
    refine wp_region_held_drew (S := fun w' => w'.cell? ⟨gx, 0, none⟩ = some (.int .i64 x.r.cu) ∧ w'.cell? ⟨gx, 1, none⟩ = some (.int .i64 x.r.st) ∧ w'.cell? ⟨gx, 2, none⟩ = some (.slice (some ⟨g, 0, none⟩) L c3) ∧ w'.cell? ⟨gx, 3, none⟩ = some (.slice x.pl x.r.ls.length x.cl) ∧ w'.cell? ⟨gx, 4, none⟩ = some (.slice x.pn x.r.ns.length x.cn) ∧ w'.cell? ⟨wr.heap.size, 0, none⟩ = some (.bool z.h.o) ∧ w'.cell? ⟨wr.heap.size, 1, none⟩ = some (.bool z.h.t) ∧ w'.cell? ⟨wr.heap.size, 2, none⟩ = some (.slice z.p z.h.ls.length z.c)) (by kernel_rfl) ⟨Hx2.out.cell 0, Hx2.out.cell 1, Hx2.out.cell 2, Hx2.out.cell 3, Hx2.out.cell 4, Ho2.out.cell 0, Ho2.out.cell 1, Ho2.out.cell 2⟩ (fun hS0 => ?_)
    generalize W5.drew = WD at *
    clear hbd
    refine tkq 0 ?_
    refine tkq 1 ?_
    refine tkq 2 ?_
    refine tkq 3 ?_
    refine tkq 4 ?_
    refine rdq 5 (fun K hK => ?_)
    have HWDD : Hid (wr.heap.size < WD.heap.size) := Lib.hid Ho2.out.lt
    have HG := Lib.hid (cloneN_any WD (.slice z.p z.h.ls.length z.c) z.h.ls (HZI.out.kept HB2.out).1 (HSH.out z.h HZM.out))
    go_simp
    go_at_call 23
    refine HG.out.mono ?_
    rintro y9 w6 ⟨v6, rfl, ho, hb⟩
    clear HG
    have HNL := Lib.hid ho
    have HWD6 : Hid (wr.heap.size < WD.heap.size) := Lib.hid HWDD.out
    clear ho
    obtain ⟨p6, c6, hv6⟩ := HNL.out.form
    obtain ⟨l6, hl6⟩ : ∃ l6, z.h.ls.length = l6 := ⟨_, rfl⟩
    rw [hl6] at hv6
    subst hv6
    have HL6 := Lib.hid hl6
    clear hl6
    have Hx3 := kbq Hx2 hb
    have Hr3 := kbq Hr2 hb
    have Ho3 := kbq Ho2 hb
    have HB3 := ktq HB2 hb
    have HZ3 := kzq HZ2 hb.size
    clear Hx2 Hr2 Ho2 HB2 HZ2
    clear hb hS0
    try go_wp2_with fail
    refine hK.out _ _ ⟨Hx3.out.cell 0, Hx3.out.cell 1, Hx3.out.cell 2, Hx3.out.cell 3, Hx3.out.cell 4, Ho3.out.cell 0, Ho3.out.cell 1, Ho3.out.cell 2⟩ (fun hS0 => ?_)
    clear hK K
    try simp only [Act.put, List.getElem_toArray, List.getElem_cons_succ, List.getElem_cons_zero, List.setIfInBounds_toArray, List.set_cons_zero, List.set_cons_succ]
    refine tkq 6 ?_
    refine tkq 7 ?_
    refine rdq 8 (fun K hK => ?_)
    have z9 : w6.cell? ⟨g, q * 3 + 2, none⟩ = some (.slice z.p z.h.ls.length z.c) := by
     have h1 := ((HV1.out.later HB3.out).read q 2 HQZ.out (by decide)).1
     rw [HZE.out] at h1
     exact h1
    have f9 : w6.frozen? ⟨g, q * 3 + 2, none⟩ = false := ((HV1.out.later HB3.out).read q 2 HQZ.out (by decide)).2
    go_simp
    clear z9 f9
    have hch := Lib.hid ((Chg.refl g w6).set (q * 3 + 2) (.slice p6 l6 c6))
    have HX2 := kcq Hx3 hch (by have := HGQ.out; omega)
    have HR2 := kcq Hr3 hch (by have := HGQ.out; omega)
    have HO2 : Hid (Blk (w6.setCell ⟨g, q * 3 + 2, none⟩ (.slice p6 l6 c6)) wr.heap.size #[.bool z.h.o, .bool z.h.t, .slice z.p z.h.ls.length z.c] 80) := kcq Ho3 hch (by have := HGQ.out; omega)
    have HNX : Hid (Blk (w6.setCell ⟨g, q * 3 + 2, none⟩ (.slice p6 l6 c6)) gx #[.int .i64 x.r.cu, .int .i64 x.r.st, .slice (some ⟨g, 0, none⟩) L c3, .slice x.pl x.r.ls.length x.cl, .slice x.pn x.r.ns.length x.cn] 56 ∧ Blk (w6.setCell ⟨g, q * 3 + 2, none⟩ (.slice p6 l6 c6)) (w.heap.size + 1) #[.int .i64 0, .int .i64 0, .slice none 0 0, .slice none 0 0, .slice none 0 0] 56 ∧ GetR P W2.heap.size W4 g L c3 x.r.hs (q + 1) (w6.setCell ⟨g, q * 3 + 2, none⟩ (.slice p6 l6 c6))) := Lib.hid (by
     refine ⟨HX2.out, HR2.out, zs.set q ⟨z.h, p6, c6⟩, (HV1.out.later HB3.out).cell1 q 2 HQZ.out (by decide) ⟨z.h, p6, c6⟩ (.slice p6 l6 c6) (by rw [HZE.out]; show [Value.bool z.h.o, .bool z.h.t, .slice p6 z.h.ls.length c6] = _; rw [HL6.out]; rfl), by rw [List.map_set, HV2.out]; show x.r.hs.set q z.h = _; rw [show z.h = x.r.hs[q]'(by have h1 := congrArg List.length HV2.out; rw [List.length_map] at h1; rw [← h1]; exact HQZ.out) by rw [← HZE.out]; have := HV2.out; simp only [← this, List.getElem_map]]; exact List.set_getElem_self _, fun i hi => ?_, ?_⟩
     ·rw [List.length_set] at hi
      have hgp : ¬ P g := fun h => by have := HPW.out g h; have := HGQ.out; omega
      by_cases hiq : i = q
      ·have hqi := hiq.symm
       subst hqi
       refine ⟨fun _ => ?_, fun h => by omega⟩
       rw [List.getElem_set_self]
       have hkn : KeepP (fun b => W2.heap.size ≤ b ∧ b ≠ g) w6 (w6.setCell ⟨g, q * 3 + 2, none⟩ (.slice p6 l6 c6)) := KeepP.of_chg hch.out (fun h => h.2 rfl)
       have h1 : (⟨z.h, p6, c6⟩ : HdX).In (fun b => W2.heap.size ≤ b ∧ b ≠ g) w6 := by
        refine ⟨?_, ?_⟩
        ·show TRow encN w6 (.slice p6 z.h.ls.length c6) z.h.ls
         rw [HL6.out]; exact HNL.out.row
        ·show At _ (.slice p6 z.h.ls.length c6) z.h.ls.length
         have h4 := HNL.out.at_lt
         rw [HL6.out] at h4 ⊢
         exact h4.imp (fun b h => ⟨by have := HWD6.out; have := HGQ.out; have := HGB.out; omega, by have := HWD6.out; have := HGQ.out; omega⟩)
       exact h1.keepP hkn
      ·have hne : (zs.set q ⟨z.h, p6, c6⟩)[i]'(by rw [List.length_set]; exact hi) = zs[i] := List.getElem_set_ne (Ne.symm hiq) _
       rw [hne]
       have h2 := HV3.out i hi
       refine ⟨fun h => ?_, fun h => ?_⟩
       ·exact ((h2.1 (by omega)).kept HB3.out).keepP (KeepP.of_chg hch.out (fun h => h.2 rfl))
       ·exact ((h2.2 (by omega)).kept HB3.out).keepP (KeepP.of_chg hch.out hgp)
     ·exact (HV4.out.trans (HB3.out.mono (by have := HGQ.out; have := HGB.out; omega))).trans (hch.out.below (by have := HGB.out; omega) (by have := HGQ.out; have := HGB.out; have := HB3.out.size; omega)))
    have hS9 : (w6.setCell ⟨g, q * 3 + 2, none⟩ (.slice p6 l6 c6)).cell? ⟨gx, 0, none⟩ = some (.int .i64 x.r.cu) ∧ (w6.setCell ⟨g, q * 3 + 2, none⟩ (.slice p6 l6 c6)).cell? ⟨gx, 1, none⟩ = some (.int .i64 x.r.st) ∧ (w6.setCell ⟨g, q * 3 + 2, none⟩ (.slice p6 l6 c6)).cell? ⟨gx, 2, none⟩ = some (.slice (some ⟨g, 0, none⟩) L c3) ∧ (w6.setCell ⟨g, q * 3 + 2, none⟩ (.slice p6 l6 c6)).cell? ⟨gx, 3, none⟩ = some (.slice x.pl x.r.ls.length x.cl) ∧ (w6.setCell ⟨g, q * 3 + 2, none⟩ (.slice p6 l6 c6)).cell? ⟨gx, 4, none⟩ = some (.slice x.pn x.r.ns.length x.cn) ∧ (w6.setCell ⟨g, q * 3 + 2, none⟩ (.slice p6 l6 c6)).cell? ⟨wr.heap.size, 0, none⟩ = some (.bool z.h.o) ∧ (w6.setCell ⟨g, q * 3 + 2, none⟩ (.slice p6 l6 c6)).cell? ⟨wr.heap.size, 1, none⟩ = some (.bool z.h.t) ∧ (w6.setCell ⟨g, q * 3 + 2, none⟩ (.slice p6 l6 c6)).cell? ⟨wr.heap.size, 2, none⟩ = some (.slice z.p z.h.ls.length z.c) := ⟨HX2.out.cell 0, HX2.out.cell 1, HX2.out.cell 2, HX2.out.cell 3, HX2.out.cell 4, HO2.out.cell 0, HO2.out.cell 1, HO2.out.cell 2⟩
    clear hch hS0 HX2 HR2 HO2 Hx3 Hr3 Ho3 HB3 HZ3 HV1 HV2 HV3 HV4 HZI HZM HZE HNL HK
    generalize (w6.setCell ⟨g, q * 3 + 2, none⟩ (.slice p6 l6 c6)) = W7 at *
    refine hK.out _ _ hS9 (fun hS0 => ?_)
    clear hK K hS9
    try simp only [Act.put, List.getElem_toArray, List.getElem_cons_succ, List.getElem_cons_zero, List.setIfInBounds_toArray, List.set_cons_zero, List.set_cons_succ]
    refine wpAnyH_done (by kernel_rfl) ?_ _
    clear hS0
    clear hltI hqC
    go_wp2_with fail
    go_roundw
    case rel => exact ⟨q + 1, by omega, by go_num, HNX⟩
    case measure => simp [intOf]; omega
   ·skip
    have hltI : ¬ (q : Int) < (L : Int) := by omega
    obtain rfl : q = L := by omega
    obtain ⟨zs, hz1, hz2, hz3, hz4⟩ := HK.out.2.2
    have HV1 := Lib.hid hz1
    have HV2 := Lib.hid hz2
    have HV3 : Hid (∀ z ∈ zs, z.In (fun b => W2.heap.size ≤ b ∧ b ≠ g) wr) := Lib.hid (fun z hz => by
     obtain ⟨i, hi, rfl⟩ := List.mem_iff_getElem.1 hz
     exact (hz3 i hi).1 (by have h1 := congrArg List.length hz2; rw [List.length_map, HLQ.out] at h1; omega))
    have HV4 := Lib.hid hz4
    have Hx60 := Lib.hid HK.out.1
    have Hr60 := Lib.hid HK.out.2.1
    have HB60 : Hid (Below w.heap.size w wr) := Lib.hid (HBW4.out.trans (hz4.mono (by have := HGX2.out; have := HWL.out; have := HW1.out; omega)))
    have HZ60 : Hid (w.heap.size ≤ wr.heap.size) := Lib.hid HB60.out.size
    clear hz1 hz2 hz3 hz4 HK hq hq9
    go_upto_region 10 with fail
    clear hltI
    have hbd := (Below.refl wr.heap.size wr).drew
    have Hx61 := kbq Hx60 hbd
    have Hr61 := kbq Hr60 hbd
    have HB61 := ktq HB60 hbd
    have HZ61 := kzq HZ60 hbd.size
    clear Hx60 Hr60 HB60 HZ60
    have hS1 : True := trivial
    have HV1 := Lib.hid (HV1.out.later hbd)
    have HV3 : Hid (∀ z ∈ zs, z.In (fun b => W2.heap.size ≤ b ∧ b ≠ g) _) := Lib.hid (fun z hz => (HV3.out z hz).kept hbd)
    have HGE : Hid (g < wr.drew.heap.size ∧ W2.heap.size ≤ wr.drew.heap.size) := Lib.hid ⟨HV1.out.lt g rfl, by have h1 := HV1.out.lt g rfl; have := HGB.out; omega⟩
    refine wp_region_held_drew (S := fun w' => True) (by kernel_rfl) hS1 (fun hS0 => ?_)
    clear hS1
    generalize wr.drew = WE at *
    clear hbd
    refine tkq 0 ?_
    refine tkq 3 ?_
    refine wpAnyH_ready (rs := [1, 4]) (by kernel_rfl) (by simp) ?_
    refine AllReadyH.cons rfl (fun K hK => ?_) (AllReadyH.cons rfl (fun K hK => ?_) AllReadyH.nil)
    ·skip
     have u3 : WE.cell? ⟨gx, 3, none⟩ = some (.slice x.pl x.r.ls.length x.cl) := Hx61.out.cell 3
     go_simp
     clear u3 hS0
     refine hK.out _ _ trivial (fun hS0 => ?_)
     clear hK K
     try simp only [Act.put, List.getElem_toArray, List.getElem_cons_succ, List.getElem_cons_zero, List.setIfInBounds_toArray, List.set_cons_zero, List.set_cons_succ]
     refine wpAnyH_ready (rs := [2, 4]) (by kernel_rfl) (by simp) ?_
     refine AllReadyH.cons rfl (fun K hK => ?_) (AllReadyH.cons rfl (fun K hK => ?_) AllReadyH.nil)
     ·skip
      have HG := Lib.hid (cloneN_any WE (.slice x.pl x.r.ls.length x.cl) x.r.ls (HXI.out.kept HB61.out).ls HSZ.out.2.1)
      go_simp
      go_at_call 23
      refine HG.out.mono ?_
      rintro y9 w7 ⟨v7, rfl, ho, hb⟩
      clear HG
      have HW7 : Hid (WE.heap.size ≤ w7.heap.size) := Lib.hid hb.size
      have HV1 := Lib.hid (HV1.out.later hb)
      have HV3 : Hid (∀ z ∈ zs, z.In (fun b => W2.heap.size ≤ b ∧ b ≠ g) _) := Lib.hid (fun z hz => (HV3.out z hz).kept hb)
      have HNL := Lib.hid ho
      clear ho
      obtain ⟨p7, c7, hv7⟩ := HNL.out.form
      obtain ⟨l7, hl7⟩ : ∃ l7, x.r.ls.length = l7 := ⟨_, rfl⟩
      rw [hl7] at hv7
      subst hv7
      have HL7 := Lib.hid hl7
      clear hl7
      have Hx62 := kbq Hx61 hb
      have Hr62 := kbq Hr61 hb
      have HB62 := ktq HB61 hb
      have HZ62 := kzq HZ61 hb.size
      clear Hx61 Hr61 HB61 HZ61
      clear hb hS0
      try go_wp2_with fail
      refine hK.out _ _ trivial (fun hS0 => ?_)
      clear hK K
      try simp only [Act.put, List.getElem_toArray, List.getElem_cons_succ, List.getElem_cons_zero, List.setIfInBounds_toArray, List.set_cons_zero, List.set_cons_succ]
      refine rdq 4 (fun K hK => ?_)
      have u4 : w7.cell? ⟨gx, 4, none⟩ = some (.slice x.pn x.r.ns.length x.cn) := Hx62.out.cell 4
      go_simp
      clear u4 hS0
      refine hK.out _ _ trivial (fun hS0 => ?_)
      clear hK K
      try simp only [Act.put, List.getElem_toArray, List.getElem_cons_succ, List.getElem_cons_zero, List.setIfInBounds_toArray, List.set_cons_zero, List.set_cons_succ]
      refine tkq 6 ?_
      refine rdq 5 (fun K hK => ?_)
      have HG := Lib.hid (clone64_any w7 (.slice x.pn x.r.ns.length x.cn) x.r.ns (HXI.out.kept HB62.out).ns HSZ.out.2.2)
      go_simp
      go_at_call 24
      refine HG.out.mono ?_
      rintro y9 w8 ⟨v8, rfl, ho, hb⟩
      clear HG
      have HV1 := Lib.hid (HV1.out.later hb)
      have HV3 : Hid (∀ z ∈ zs, z.In (fun b => W2.heap.size ≤ b ∧ b ≠ g) _) := Lib.hid (fun z hz => (HV3.out z hz).kept hb)
      have HNL := Lib.hid (HNL.out.later hb)
      have HNN8 := Lib.hid ho
      clear ho
      obtain ⟨p8, c8, hv8⟩ := HNN8.out.form
      obtain ⟨l8, hl8⟩ : ∃ l8, x.r.ns.length = l8 := ⟨_, rfl⟩
      rw [hl8] at hv8
      subst hv8
      have HL8 := Lib.hid hl8
      clear hl8
      have Hx63 := kbq Hx62 hb
      have Hr63 := kbq Hr62 hb
      have HB63 := ktq HB62 hb
      have HZ63 := kzq HZ62 hb.size
      clear Hx62 Hr62 HB62 HZ62
      clear hb hS0
      try go_wp2_with fail
      refine hK.out _ _ trivial (fun hS0 => ?_)
      clear hK K
      try simp only [Act.put, List.getElem_toArray, List.getElem_cons_succ, List.getElem_cons_zero, List.setIfInBounds_toArray, List.set_cons_zero, List.set_cons_succ]
      refine rdq 7 (fun K hK => ?_)
      have z0 : w8.cell? ⟨gx, 0, none⟩ = some (.int .i64 x.r.cu) := Hx63.out.cell 0
      have z1 : w8.cell? ⟨gx, 1, none⟩ = some (.int .i64 x.r.st) := Hx63.out.cell 1
      have z2 : w8.cell? ⟨gx, 2, none⟩ = some (.slice (some ⟨g, 0, none⟩) q c3) := Hx63.out.cell 2
      have z3 : w8.cell? ⟨gx, 3, none⟩ = some (.slice x.pl x.r.ls.length x.cl) := Hx63.out.cell 3
      have z4 : w8.cell? ⟨gx, 4, none⟩ = some (.slice x.pn x.r.ns.length x.cn) := Hx63.out.cell 4
      have f0 := Hx63.out.free 0
      have f1 := Hx63.out.free 1
      have f2 := Hx63.out.free 2
      have f3 := Hx63.out.free 3
      have f4 := Hx63.out.free 4
      go_simp
      clear z0 f0 z1 f1 z2 f2 z3 f3 z4 f4
      have hch := Lib.hid ((Chg.refl gx w8).set 3 (.slice p7 l7 c7))
      have Hx64 : Hid (Blk _ gx #[.int .i64 x.r.cu, .int .i64 x.r.st, .slice (some ⟨g, 0, none⟩) q c3, .slice p7 l7 c7, .slice x.pn x.r.ns.length x.cn] 56) := Lib.hid (Hx63.out.set 3 (.slice p7 l7 c7))
      have HB64 := ksq HB63 hch (by show w.heap.size ≤ gx; have := HWL.out; have := HW1.out; have := HGX2.out; omega)
      have HZ64 := kzq HZ63 hch.out.size
      have Hr64 := kcq Hr63 hch (by have := HWL.out; have := HW1.out; have := HGX2.out; omega)
      have HV3 : Hid (∀ z ∈ zs, z.In (fun b => W2.heap.size ≤ b ∧ b ≠ g) _) := Lib.hid (fun z hz => (HV3.out z hz).keepP (KeepP.of_chg hch.out (fun h => by have := HGX2.out; omega)))
      have HV1 := Lib.hid (HV1.out.stay (fun b hb => hch.out.2 b (HV1.out.lt b hb) (by have h1 := HV1.out.block_ge b hb; have := HGX2.out; omega)))
      have HNL := Lib.hid (HNL.out.stay (fun b hb => hch.out.2 b (HNL.out.lt b hb) (by have h1 := HNL.out.block_ge b hb; have := HGE.out; have := HGX2.out; omega)))
      have HNN8 := Lib.hid (HNN8.out.stayV (fun b hb => hch.out.2 b (HNN8.out.lt b hb) (by have h1 := HNN8.out.block_ge b hb; have := HW7.out; have := HGE.out; have := HGX2.out; omega)))
      clear hch hS0 Hx63 Hr63 HB63 HZ63
      generalize (w8.setCell ⟨gx, 3, none⟩ (.slice p7 l7 c7)) = WG at *
      refine hK.out _ _ (trivial) (fun hS0 => ?_)
      clear hK K
      try simp only [Act.put, List.getElem_toArray, List.getElem_cons_succ, List.getElem_cons_zero, List.setIfInBounds_toArray, List.set_cons_zero, List.set_cons_succ]
      refine tkq 8 ?_
      refine rdq 9 (fun K hK => ?_)
      have z0 : WG.cell? ⟨gx, 0, none⟩ = some (.int .i64 x.r.cu) := Hx64.out.cell 0
      have z1 : WG.cell? ⟨gx, 1, none⟩ = some (.int .i64 x.r.st) := Hx64.out.cell 1
      have z2 : WG.cell? ⟨gx, 2, none⟩ = some (.slice (some ⟨g, 0, none⟩) q c3) := Hx64.out.cell 2
      have z3 : WG.cell? ⟨gx, 3, none⟩ = some (.slice p7 l7 c7) := Hx64.out.cell 3
      have z4 : WG.cell? ⟨gx, 4, none⟩ = some (.slice x.pn x.r.ns.length x.cn) := Hx64.out.cell 4
      have f0 := Hx64.out.free 0
      have f1 := Hx64.out.free 1
      have f2 := Hx64.out.free 2
      have f3 := Hx64.out.free 3
      have f4 := Hx64.out.free 4
      go_simp
      clear z0 f0 z1 f1 z2 f2 z3 f3 z4 f4
      have hch := Lib.hid ((Chg.refl gx WG).set 4 (.slice p8 l8 c8))
      have Hx65 : Hid (Blk _ gx #[.int .i64 x.r.cu, .int .i64 x.r.st, .slice (some ⟨g, 0, none⟩) q c3, .slice p7 l7 c7, .slice p8 l8 c8] 56) := Lib.hid (Hx64.out.set 4 (.slice p8 l8 c8))
      have HB65 := ksq HB64 hch (by show w.heap.size ≤ gx; have := HWL.out; have := HW1.out; have := HGX2.out; omega)
      have HZ65 := kzq HZ64 hch.out.size
      have Hr65 := kcq Hr64 hch (by have := HWL.out; have := HW1.out; have := HGX2.out; omega)
      have HV3 : Hid (∀ z ∈ zs, z.In (fun b => W2.heap.size ≤ b ∧ b ≠ g) _) := Lib.hid (fun z hz => (HV3.out z hz).keepP (KeepP.of_chg hch.out (fun h => by have := HGX2.out; omega)))
      have HV1 := Lib.hid (HV1.out.stay (fun b hb => hch.out.2 b (HV1.out.lt b hb) (by have h1 := HV1.out.block_ge b hb; have := HGX2.out; omega)))
      have HNL := Lib.hid (HNL.out.stay (fun b hb => hch.out.2 b (HNL.out.lt b hb) (by have h1 := HNL.out.block_ge b hb; have := HGE.out; have := HGX2.out; omega)))
      have HNN8 := Lib.hid (HNN8.out.stayV (fun b hb => hch.out.2 b (HNN8.out.lt b hb) (by have h1 := HNN8.out.block_ge b hb; have := HW7.out; have := HGE.out; have := HGX2.out; omega)))
      clear hch hS0 Hx64 Hr64 HB64 HZ64
      generalize (WG.setCell ⟨gx, 4, none⟩ (.slice p8 l8 c8)) = WH at *
      refine hK.out _ _ (trivial) (fun hS0 => ?_)
      clear hK K
      try simp only [Act.put, List.getElem_toArray, List.getElem_cons_succ, List.getElem_cons_zero, List.setIfInBounds_toArray, List.set_cons_zero, List.set_cons_succ]
      refine wpAnyH_done (by kernel_rfl) ?_ _
      clear hS0
      have x0 : WH.cell? ⟨gx, 0, none⟩ = some (.int .i64 x.r.cu) := Hx65.out.cell 0
      have x1 : WH.cell? ⟨gx, 1, none⟩ = some (.int .i64 x.r.st) := Hx65.out.cell 1
      have x2 : WH.cell? ⟨gx, 2, none⟩ = some (.slice (some ⟨g, 0, none⟩) q c3) := Hx65.out.cell 2
      have x3 : WH.cell? ⟨gx, 3, none⟩ = some (.slice p7 l7 c7) := Hx65.out.cell 3
      have x4 : WH.cell? ⟨gx, 4, none⟩ = some (.slice p8 l8 c8) := Hx65.out.cell 4
      go_wp2_with (with_reducible refine stop_storeT 56 (.tmp 4) (.tmp 49) rfl ?_)
      clear x0 x1 x2 x3 x4
      have HTH : Hid (WH.there (w.heap.size + 1) 0 5) := Hr65.out.thereAt
      have hch : Hid (Chg (w.heap.size + 1) WH (WH.setCells (w.heap.size + 1) 0 (#[.int .i64 x.r.cu, .int .i64 x.r.st, .slice (some ⟨g, 0, none⟩) q c3, .slice p7 l7 c7, .slice p8 l8 c8] : Array Value).toList)) := Lib.hid (chg_putL _ _ _ _ _ (Chg.refl _ WH))
      have Hr66 : Hid (Blk (WH.setCells (w.heap.size + 1) 0 (#[.int .i64 x.r.cu, .int .i64 x.r.st, .slice (some ⟨g, 0, none⟩) q c3, .slice p7 l7 c7, .slice p8 l8 c8] : Array Value).toList) (w.heap.size + 1) #[.int .i64 x.r.cu, .int .i64 x.r.st, .slice (some ⟨g, 0, none⟩) q c3, .slice p7 l7 c7, .slice p8 l8 c8] 56) := Lib.hid (blk_put_all Hr65.out _ rfl)
      have HB66 : Hid (Below w.heap.size w (WH.setCells (w.heap.size + 1) 0 (#[.int .i64 x.r.cu, .int .i64 x.r.st, .slice (some ⟨g, 0, none⟩) q c3, .slice p7 l7 c7, .slice p8 l8 c8] : Array Value).toList)) := Lib.hid (below_put (by have := HWL.out; have := HW1.out; have := HGX2.out; omega) _ _ _ _ HB65.out)
      have HZ66 := kzq HZ65 hch.out.size
      have Hx66 := kcq Hx65 hch (by have := HWL.out; have := HW1.out; have := HGX2.out; omega)
      have HV3 : Hid (∀ z ∈ zs, z.In (fun b => W2.heap.size ≤ b ∧ b ≠ g) _) := Lib.hid (fun z hz => (HV3.out z hz).keepP (KeepP.of_chg hch.out (fun h => by have := HGX2.out; have := HWL.out; have := HW1.out; omega)))
      have HV1 := Lib.hid (HV1.out.stay (fun b hb => hch.out.2 b (HV1.out.lt b hb) (by have h1 := HV1.out.block_ge b hb; have := HGX2.out; have := HWL.out; have := HW1.out; omega)))
      have HNL := Lib.hid (HNL.out.stay (fun b hb => hch.out.2 b (HNL.out.lt b hb) (by have h1 := HNL.out.block_ge b hb; have := HGE.out; have := HGX2.out; have := HWL.out; have := HW1.out; omega)))
      have HNN8 := Lib.hid (HNN8.out.stayV (fun b hb => hch.out.2 b (HNN8.out.lt b hb) (by have h1 := HNN8.out.block_ge b hb; have := HW7.out; have := HGE.out; have := HGX2.out; have := HWL.out; have := HW1.out; omega)))
      clear hch Hx65 Hr65 HB65 HZ65
      refine wpList_store_mid rfl 56 (.tmp 4) (.tmp 49) rfl (w.heap.size + 1) 0 #[.int .i64 x.r.cu, .int .i64 x.r.st, .slice (some ⟨g, 0, none⟩) q c3, .slice p7 l7 c7, .slice p8 l8 c8] rfl rfl HTH.out (infoR5 rfl) (all_oneCell_toArray (by intro u hu; simp at hu; rcases hu with rfl | rfl | rfl | rfl | rfl <;> rfl)) ?_
      generalize (WH.setCells (w.heap.size + 1) 0 (#[.int .i64 x.r.cu, .int .i64 x.r.st, .slice (some ⟨g, 0, none⟩) q c3, .slice p7 l7 c7, .slice p8 l8 c8] : Array Value).toList) = WI at *
      clear HTH
      go_wp2_with fail
      have hfr := Hr66.out
      refine bodyPost_ret (v := .tuple #[.agg #[.int .i64 x.r.cu, .int .i64 x.r.st, .slice (some ⟨g, 0, none⟩) q c3, .slice p7 l7 c7, .slice p8 l8 c8], .bool true]) (by simp [results, Try.results11, go_sem, hfr.cell 0, hfr.cell 1, hfr.cell 2, hfr.cell 3, hfr.cell 4]) rfl ?_
      refine ⟨(⟨x.r, some ⟨g, 0, none⟩, c3, p7, c7, p8, c8⟩ : RunX), by rw [RunX.v_mk, HLQ.out, HL7.out, HL8.out], ⟨fun _ => ⟨HXR.out.symm, ⟨?_, ?_, ?_, ?_, ?_⟩, by rw [HL7.out]; have h4 := HNL.out.fre; rw [HL7.out] at h4; exact h4⟩, (fun h => by cases h)⟩, HB66.out⟩
      ·show HsR _ _ (.slice (some ⟨g, 0, none⟩) x.r.hs.length c3) x.r.hs
       rw [HLQ.out]
       refine ⟨zs, HV1.out.row, HV1.out.at_lt.imp (fun b h => by have := HGX2.out; have := HWL.out; have := HW1.out; omega), fun z hz => (HV3.out z hz).imp (fun b h => by have := HGX2.out; have := HWL.out; have := HW1.out; omega), HV2.out⟩
      ·show TRow encN _ (.slice p7 x.r.ls.length c7) x.r.ls
       rw [HL7.out]; exact HNL.out.row
      ·show At _ (.slice p7 x.r.ls.length c7) x.r.ls.length
       have h4 := HNL.out.at_lt
       rw [HL7.out] at h4 ⊢
       exact h4.imp (fun b h => by have := HGE.out; have := HGX2.out; have := HWL.out; have := HW1.out; omega)
      ·show Row .i64 _ (.slice p8 x.r.ns.length c8) x.r.ns
       rw [HL8.out]; exact HNN8.out.row
      ·show At _ (.slice p8 x.r.ns.length c8) x.r.ns.length
       have h4 := HNN8.out.at_lt
       rw [HL8.out] at h4 ⊢
       exact h4.imp (fun b h => by have := HW7.out; have := HGE.out; have := HGX2.out; have := HWL.out; have := HW1.out; omega)
     ·skip
      have u4 : WE.cell? ⟨gx, 4, none⟩ = some (.slice x.pn x.r.ns.length x.cn) := Hx61.out.cell 4
      go_simp
      clear u4 hS0
      refine hK.out _ _ trivial (fun hS0 => ?_)
      clear hK K
      try simp only [Act.put, List.getElem_toArray, List.getElem_cons_succ, List.getElem_cons_zero, List.setIfInBounds_toArray, List.set_cons_zero, List.set_cons_succ]
      refine rdq 2 (fun K hK => ?_)
      have HG := Lib.hid (cloneN_any WE (.slice x.pl x.r.ls.length x.cl) x.r.ls (HXI.out.kept HB61.out).ls HSZ.out.2.1)
      go_simp
      go_at_call 23
      refine HG.out.mono ?_
      rintro y9 w7 ⟨v7, rfl, ho, hb⟩
      clear HG
      have HW7 : Hid (WE.heap.size ≤ w7.heap.size) := Lib.hid hb.size
      have HV1 := Lib.hid (HV1.out.later hb)
      have HV3 : Hid (∀ z ∈ zs, z.In (fun b => W2.heap.size ≤ b ∧ b ≠ g) _) := Lib.hid (fun z hz => (HV3.out z hz).kept hb)
      have HNL := Lib.hid ho
      clear ho
      obtain ⟨p7, c7, hv7⟩ := HNL.out.form
      obtain ⟨l7, hl7⟩ : ∃ l7, x.r.ls.length = l7 := ⟨_, rfl⟩
      rw [hl7] at hv7
      subst hv7
      have HL7 := Lib.hid hl7
      clear hl7
      have Hx62 := kbq Hx61 hb
      have Hr62 := kbq Hr61 hb
      have HB62 := ktq HB61 hb
      have HZ62 := kzq HZ61 hb.size
      clear Hx61 Hr61 HB61 HZ61
      clear hb hS0
      try go_wp2_with fail
      refine hK.out _ _ trivial (fun hS0 => ?_)
      clear hK K
      try simp only [Act.put, List.getElem_toArray, List.getElem_cons_succ, List.getElem_cons_zero, List.setIfInBounds_toArray, List.set_cons_zero, List.set_cons_succ]
      refine tkq 6 ?_
      refine rdq 5 (fun K hK => ?_)
      have HG := Lib.hid (clone64_any w7 (.slice x.pn x.r.ns.length x.cn) x.r.ns (HXI.out.kept HB62.out).ns HSZ.out.2.2)
      go_simp
      go_at_call 24
      refine HG.out.mono ?_
      rintro y9 w8 ⟨v8, rfl, ho, hb⟩
      clear HG
      have HV1 := Lib.hid (HV1.out.later hb)
      have HV3 : Hid (∀ z ∈ zs, z.In (fun b => W2.heap.size ≤ b ∧ b ≠ g) _) := Lib.hid (fun z hz => (HV3.out z hz).kept hb)
      have HNL := Lib.hid (HNL.out.later hb)
      have HNN8 := Lib.hid ho
      clear ho
      obtain ⟨p8, c8, hv8⟩ := HNN8.out.form
      obtain ⟨l8, hl8⟩ : ∃ l8, x.r.ns.length = l8 := ⟨_, rfl⟩
      rw [hl8] at hv8
      subst hv8
      have HL8 := Lib.hid hl8
      clear hl8
      have Hx63 := kbq Hx62 hb
      have Hr63 := kbq Hr62 hb
      have HB63 := ktq HB62 hb
      have HZ63 := kzq HZ62 hb.size
      clear Hx62 Hr62 HB62 HZ62
      clear hb hS0
      try go_wp2_with fail
      refine hK.out _ _ trivial (fun hS0 => ?_)
      clear hK K
      try simp only [Act.put, List.getElem_toArray, List.getElem_cons_succ, List.getElem_cons_zero, List.setIfInBounds_toArray, List.set_cons_zero, List.set_cons_succ]
      refine rdq 7 (fun K hK => ?_)
      have z0 : w8.cell? ⟨gx, 0, none⟩ = some (.int .i64 x.r.cu) := Hx63.out.cell 0
      have z1 : w8.cell? ⟨gx, 1, none⟩ = some (.int .i64 x.r.st) := Hx63.out.cell 1
      have z2 : w8.cell? ⟨gx, 2, none⟩ = some (.slice (some ⟨g, 0, none⟩) q c3) := Hx63.out.cell 2
      have z3 : w8.cell? ⟨gx, 3, none⟩ = some (.slice x.pl x.r.ls.length x.cl) := Hx63.out.cell 3
      have z4 : w8.cell? ⟨gx, 4, none⟩ = some (.slice x.pn x.r.ns.length x.cn) := Hx63.out.cell 4
      have f0 := Hx63.out.free 0
      have f1 := Hx63.out.free 1
      have f2 := Hx63.out.free 2
      have f3 := Hx63.out.free 3
      have f4 := Hx63.out.free 4
      go_simp
      clear z0 f0 z1 f1 z2 f2 z3 f3 z4 f4
      have hch := Lib.hid ((Chg.refl gx w8).set 3 (.slice p7 l7 c7))
      have Hx64 : Hid (Blk _ gx #[.int .i64 x.r.cu, .int .i64 x.r.st, .slice (some ⟨g, 0, none⟩) q c3, .slice p7 l7 c7, .slice x.pn x.r.ns.length x.cn] 56) := Lib.hid (Hx63.out.set 3 (.slice p7 l7 c7))
      have HB64 := ksq HB63 hch (by show w.heap.size ≤ gx; have := HWL.out; have := HW1.out; have := HGX2.out; omega)
      have HZ64 := kzq HZ63 hch.out.size
      have Hr64 := kcq Hr63 hch (by have := HWL.out; have := HW1.out; have := HGX2.out; omega)
      have HV3 : Hid (∀ z ∈ zs, z.In (fun b => W2.heap.size ≤ b ∧ b ≠ g) _) := Lib.hid (fun z hz => (HV3.out z hz).keepP (KeepP.of_chg hch.out (fun h => by have := HGX2.out; omega)))
      have HV1 := Lib.hid (HV1.out.stay (fun b hb => hch.out.2 b (HV1.out.lt b hb) (by have h1 := HV1.out.block_ge b hb; have := HGX2.out; omega)))
      have HNL := Lib.hid (HNL.out.stay (fun b hb => hch.out.2 b (HNL.out.lt b hb) (by have h1 := HNL.out.block_ge b hb; have := HGE.out; have := HGX2.out; omega)))
      have HNN8 := Lib.hid (HNN8.out.stayV (fun b hb => hch.out.2 b (HNN8.out.lt b hb) (by have h1 := HNN8.out.block_ge b hb; have := HW7.out; have := HGE.out; have := HGX2.out; omega)))
      clear hch hS0 Hx63 Hr63 HB63 HZ63
      generalize (w8.setCell ⟨gx, 3, none⟩ (.slice p7 l7 c7)) = WG at *
      refine hK.out _ _ (trivial) (fun hS0 => ?_)
      clear hK K
      try simp only [Act.put, List.getElem_toArray, List.getElem_cons_succ, List.getElem_cons_zero, List.setIfInBounds_toArray, List.set_cons_zero, List.set_cons_succ]
      refine tkq 8 ?_
      refine rdq 9 (fun K hK => ?_)
      have z0 : WG.cell? ⟨gx, 0, none⟩ = some (.int .i64 x.r.cu) := Hx64.out.cell 0
      have z1 : WG.cell? ⟨gx, 1, none⟩ = some (.int .i64 x.r.st) := Hx64.out.cell 1
      have z2 : WG.cell? ⟨gx, 2, none⟩ = some (.slice (some ⟨g, 0, none⟩) q c3) := Hx64.out.cell 2
      have z3 : WG.cell? ⟨gx, 3, none⟩ = some (.slice p7 l7 c7) := Hx64.out.cell 3
      have z4 : WG.cell? ⟨gx, 4, none⟩ = some (.slice x.pn x.r.ns.length x.cn) := Hx64.out.cell 4
      have f0 := Hx64.out.free 0
      have f1 := Hx64.out.free 1
      have f2 := Hx64.out.free 2
      have f3 := Hx64.out.free 3
      have f4 := Hx64.out.free 4
      go_simp
      clear z0 f0 z1 f1 z2 f2 z3 f3 z4 f4
      have hch := Lib.hid ((Chg.refl gx WG).set 4 (.slice p8 l8 c8))
      have Hx65 : Hid (Blk _ gx #[.int .i64 x.r.cu, .int .i64 x.r.st, .slice (some ⟨g, 0, none⟩) q c3, .slice p7 l7 c7, .slice p8 l8 c8] 56) := Lib.hid (Hx64.out.set 4 (.slice p8 l8 c8))
      have HB65 := ksq HB64 hch (by show w.heap.size ≤ gx; have := HWL.out; have := HW1.out; have := HGX2.out; omega)
      have HZ65 := kzq HZ64 hch.out.size
      have Hr65 := kcq Hr64 hch (by have := HWL.out; have := HW1.out; have := HGX2.out; omega)
      have HV3 : Hid (∀ z ∈ zs, z.In (fun b => W2.heap.size ≤ b ∧ b ≠ g) _) := Lib.hid (fun z hz => (HV3.out z hz).keepP (KeepP.of_chg hch.out (fun h => by have := HGX2.out; omega)))
      have HV1 := Lib.hid (HV1.out.stay (fun b hb => hch.out.2 b (HV1.out.lt b hb) (by have h1 := HV1.out.block_ge b hb; have := HGX2.out; omega)))
      have HNL := Lib.hid (HNL.out.stay (fun b hb => hch.out.2 b (HNL.out.lt b hb) (by have h1 := HNL.out.block_ge b hb; have := HGE.out; have := HGX2.out; omega)))
      have HNN8 := Lib.hid (HNN8.out.stayV (fun b hb => hch.out.2 b (HNN8.out.lt b hb) (by have h1 := HNN8.out.block_ge b hb; have := HW7.out; have := HGE.out; have := HGX2.out; omega)))
      clear hch hS0 Hx64 Hr64 HB64 HZ64
      generalize (WG.setCell ⟨gx, 4, none⟩ (.slice p8 l8 c8)) = WH at *
      refine hK.out _ _ (trivial) (fun hS0 => ?_)
      clear hK K
      try simp only [Act.put, List.getElem_toArray, List.getElem_cons_succ, List.getElem_cons_zero, List.setIfInBounds_toArray, List.set_cons_zero, List.set_cons_succ]
      refine wpAnyH_done (by kernel_rfl) ?_ _
      clear hS0
      have x0 : WH.cell? ⟨gx, 0, none⟩ = some (.int .i64 x.r.cu) := Hx65.out.cell 0
      have x1 : WH.cell? ⟨gx, 1, none⟩ = some (.int .i64 x.r.st) := Hx65.out.cell 1
      have x2 : WH.cell? ⟨gx, 2, none⟩ = some (.slice (some ⟨g, 0, none⟩) q c3) := Hx65.out.cell 2
      have x3 : WH.cell? ⟨gx, 3, none⟩ = some (.slice p7 l7 c7) := Hx65.out.cell 3
      have x4 : WH.cell? ⟨gx, 4, none⟩ = some (.slice p8 l8 c8) := Hx65.out.cell 4
      go_wp2_with (with_reducible refine stop_storeT 56 (.tmp 4) (.tmp 49) rfl ?_)
      clear x0 x1 x2 x3 x4
      have HTH : Hid (WH.there (w.heap.size + 1) 0 5) := Hr65.out.thereAt
      have hch : Hid (Chg (w.heap.size + 1) WH (WH.setCells (w.heap.size + 1) 0 (#[.int .i64 x.r.cu, .int .i64 x.r.st, .slice (some ⟨g, 0, none⟩) q c3, .slice p7 l7 c7, .slice p8 l8 c8] : Array Value).toList)) := Lib.hid (chg_putL _ _ _ _ _ (Chg.refl _ WH))
      have Hr66 : Hid (Blk (WH.setCells (w.heap.size + 1) 0 (#[.int .i64 x.r.cu, .int .i64 x.r.st, .slice (some ⟨g, 0, none⟩) q c3, .slice p7 l7 c7, .slice p8 l8 c8] : Array Value).toList) (w.heap.size + 1) #[.int .i64 x.r.cu, .int .i64 x.r.st, .slice (some ⟨g, 0, none⟩) q c3, .slice p7 l7 c7, .slice p8 l8 c8] 56) := Lib.hid (blk_put_all Hr65.out _ rfl)
      have HB66 : Hid (Below w.heap.size w (WH.setCells (w.heap.size + 1) 0 (#[.int .i64 x.r.cu, .int .i64 x.r.st, .slice (some ⟨g, 0, none⟩) q c3, .slice p7 l7 c7, .slice p8 l8 c8] : Array Value).toList)) := Lib.hid (below_put (by have := HWL.out; have := HW1.out; have := HGX2.out; omega) _ _ _ _ HB65.out)
      have HZ66 := kzq HZ65 hch.out.size
      have Hx66 := kcq Hx65 hch (by have := HWL.out; have := HW1.out; have := HGX2.out; omega)
      have HV3 : Hid (∀ z ∈ zs, z.In (fun b => W2.heap.size ≤ b ∧ b ≠ g) _) := Lib.hid (fun z hz => (HV3.out z hz).keepP (KeepP.of_chg hch.out (fun h => by have := HGX2.out; have := HWL.out; have := HW1.out; omega)))
      have HV1 := Lib.hid (HV1.out.stay (fun b hb => hch.out.2 b (HV1.out.lt b hb) (by have h1 := HV1.out.block_ge b hb; have := HGX2.out; have := HWL.out; have := HW1.out; omega)))
      have HNL := Lib.hid (HNL.out.stay (fun b hb => hch.out.2 b (HNL.out.lt b hb) (by have h1 := HNL.out.block_ge b hb; have := HGE.out; have := HGX2.out; have := HWL.out; have := HW1.out; omega)))
      have HNN8 := Lib.hid (HNN8.out.stayV (fun b hb => hch.out.2 b (HNN8.out.lt b hb) (by have h1 := HNN8.out.block_ge b hb; have := HW7.out; have := HGE.out; have := HGX2.out; have := HWL.out; have := HW1.out; omega)))
      clear hch Hx65 Hr65 HB65 HZ65
      refine wpList_store_mid rfl 56 (.tmp 4) (.tmp 49) rfl (w.heap.size + 1) 0 #[.int .i64 x.r.cu, .int .i64 x.r.st, .slice (some ⟨g, 0, none⟩) q c3, .slice p7 l7 c7, .slice p8 l8 c8] rfl rfl HTH.out (infoR5 rfl) (all_oneCell_toArray (by intro u hu; simp at hu; rcases hu with rfl | rfl | rfl | rfl | rfl <;> rfl)) ?_
      generalize (WH.setCells (w.heap.size + 1) 0 (#[.int .i64 x.r.cu, .int .i64 x.r.st, .slice (some ⟨g, 0, none⟩) q c3, .slice p7 l7 c7, .slice p8 l8 c8] : Array Value).toList) = WI at *
      clear HTH
      go_wp2_with fail
      have hfr := Hr66.out
      refine bodyPost_ret (v := .tuple #[.agg #[.int .i64 x.r.cu, .int .i64 x.r.st, .slice (some ⟨g, 0, none⟩) q c3, .slice p7 l7 c7, .slice p8 l8 c8], .bool true]) (by simp [results, Try.results11, go_sem, hfr.cell 0, hfr.cell 1, hfr.cell 2, hfr.cell 3, hfr.cell 4]) rfl ?_
      refine ⟨(⟨x.r, some ⟨g, 0, none⟩, c3, p7, c7, p8, c8⟩ : RunX), by rw [RunX.v_mk, HLQ.out, HL7.out, HL8.out], ⟨fun _ => ⟨HXR.out.symm, ⟨?_, ?_, ?_, ?_, ?_⟩, by rw [HL7.out]; have h4 := HNL.out.fre; rw [HL7.out] at h4; exact h4⟩, (fun h => by cases h)⟩, HB66.out⟩
      ·show HsR _ _ (.slice (some ⟨g, 0, none⟩) x.r.hs.length c3) x.r.hs
       rw [HLQ.out]
       refine ⟨zs, HV1.out.row, HV1.out.at_lt.imp (fun b h => by have := HGX2.out; have := HWL.out; have := HW1.out; omega), fun z hz => (HV3.out z hz).imp (fun b h => by have := HGX2.out; have := HWL.out; have := HW1.out; omega), HV2.out⟩
      ·show TRow encN _ (.slice p7 x.r.ls.length c7) x.r.ls
       rw [HL7.out]; exact HNL.out.row
      ·show At _ (.slice p7 x.r.ls.length c7) x.r.ls.length
       have h4 := HNL.out.at_lt
       rw [HL7.out] at h4 ⊢
       exact h4.imp (fun b h => by have := HGE.out; have := HGX2.out; have := HWL.out; have := HW1.out; omega)
      ·show Row .i64 _ (.slice p8 x.r.ns.length c8) x.r.ns
       rw [HL8.out]; exact HNN8.out.row
      ·show At _ (.slice p8 x.r.ns.length c8) x.r.ns.length
       have h4 := HNN8.out.at_lt
       rw [HL8.out] at h4 ⊢
       exact h4.imp (fun b h => by have := HW7.out; have := HGE.out; have := HGX2.out; have := HWL.out; have := HW1.out; omega)
    ·skip
     have u4 : WE.cell? ⟨gx, 4, none⟩ = some (.slice x.pn x.r.ns.length x.cn) := Hx61.out.cell 4
     go_simp
     clear u4 hS0
     refine hK.out _ _ trivial (fun hS0 => ?_)
     clear hK K
     try simp only [Act.put, List.getElem_toArray, List.getElem_cons_succ, List.getElem_cons_zero, List.setIfInBounds_toArray, List.set_cons_zero, List.set_cons_succ]
     refine rdq 1 (fun K hK => ?_)
     have u3 : WE.cell? ⟨gx, 3, none⟩ = some (.slice x.pl x.r.ls.length x.cl) := Hx61.out.cell 3
     go_simp
     clear u3 hS0
     refine hK.out _ _ trivial (fun hS0 => ?_)
     clear hK K
     try simp only [Act.put, List.getElem_toArray, List.getElem_cons_succ, List.getElem_cons_zero, List.setIfInBounds_toArray, List.set_cons_zero, List.set_cons_succ]
     refine rdq 2 (fun K hK => ?_)
     have HG := Lib.hid (cloneN_any WE (.slice x.pl x.r.ls.length x.cl) x.r.ls (HXI.out.kept HB61.out).ls HSZ.out.2.1)
     go_simp
     go_at_call 23
     refine HG.out.mono ?_
     rintro y9 w7 ⟨v7, rfl, ho, hb⟩
     clear HG
     have HW7 : Hid (WE.heap.size ≤ w7.heap.size) := Lib.hid hb.size
     have HV1 := Lib.hid (HV1.out.later hb)
     have HV3 : Hid (∀ z ∈ zs, z.In (fun b => W2.heap.size ≤ b ∧ b ≠ g) _) := Lib.hid (fun z hz => (HV3.out z hz).kept hb)
     have HNL := Lib.hid ho
     clear ho
     obtain ⟨p7, c7, hv7⟩ := HNL.out.form
     obtain ⟨l7, hl7⟩ : ∃ l7, x.r.ls.length = l7 := ⟨_, rfl⟩
     rw [hl7] at hv7
     subst hv7
     have HL7 := Lib.hid hl7
     clear hl7
     have Hx62 := kbq Hx61 hb
     have Hr62 := kbq Hr61 hb
     have HB62 := ktq HB61 hb
     have HZ62 := kzq HZ61 hb.size
     clear Hx61 Hr61 HB61 HZ61
     clear hb hS0
     try go_wp2_with fail
     refine hK.out _ _ trivial (fun hS0 => ?_)
     clear hK K
     try simp only [Act.put, List.getElem_toArray, List.getElem_cons_succ, List.getElem_cons_zero, List.setIfInBounds_toArray, List.set_cons_zero, List.set_cons_succ]
     refine tkq 6 ?_
     refine rdq 5 (fun K hK => ?_)
     have HG := Lib.hid (clone64_any w7 (.slice x.pn x.r.ns.length x.cn) x.r.ns (HXI.out.kept HB62.out).ns HSZ.out.2.2)
     go_simp
     go_at_call 24
     refine HG.out.mono ?_
     rintro y9 w8 ⟨v8, rfl, ho, hb⟩
     clear HG
     have HV1 := Lib.hid (HV1.out.later hb)
     have HV3 : Hid (∀ z ∈ zs, z.In (fun b => W2.heap.size ≤ b ∧ b ≠ g) _) := Lib.hid (fun z hz => (HV3.out z hz).kept hb)
     have HNL := Lib.hid (HNL.out.later hb)
     have HNN8 := Lib.hid ho
     clear ho
     obtain ⟨p8, c8, hv8⟩ := HNN8.out.form
     obtain ⟨l8, hl8⟩ : ∃ l8, x.r.ns.length = l8 := ⟨_, rfl⟩
     rw [hl8] at hv8
     subst hv8
     have HL8 := Lib.hid hl8
     clear hl8
     have Hx63 := kbq Hx62 hb
     have Hr63 := kbq Hr62 hb
     have HB63 := ktq HB62 hb
     have HZ63 := kzq HZ62 hb.size
     clear Hx62 Hr62 HB62 HZ62
     clear hb hS0
     try go_wp2_with fail
     refine hK.out _ _ trivial (fun hS0 => ?_)
     clear hK K
     try simp only [Act.put, List.getElem_toArray, List.getElem_cons_succ, List.getElem_cons_zero, List.setIfInBounds_toArray, List.set_cons_zero, List.set_cons_succ]
     refine rdq 7 (fun K hK => ?_)
     have z0 : w8.cell? ⟨gx, 0, none⟩ = some (.int .i64 x.r.cu) := Hx63.out.cell 0
     have z1 : w8.cell? ⟨gx, 1, none⟩ = some (.int .i64 x.r.st) := Hx63.out.cell 1
     have z2 : w8.cell? ⟨gx, 2, none⟩ = some (.slice (some ⟨g, 0, none⟩) q c3) := Hx63.out.cell 2
     have z3 : w8.cell? ⟨gx, 3, none⟩ = some (.slice x.pl x.r.ls.length x.cl) := Hx63.out.cell 3
     have z4 : w8.cell? ⟨gx, 4, none⟩ = some (.slice x.pn x.r.ns.length x.cn) := Hx63.out.cell 4
     have f0 := Hx63.out.free 0
     have f1 := Hx63.out.free 1
     have f2 := Hx63.out.free 2
     have f3 := Hx63.out.free 3
     have f4 := Hx63.out.free 4
     go_simp
     clear z0 f0 z1 f1 z2 f2 z3 f3 z4 f4
     have hch := Lib.hid ((Chg.refl gx w8).set 3 (.slice p7 l7 c7))
     have Hx64 : Hid (Blk _ gx #[.int .i64 x.r.cu, .int .i64 x.r.st, .slice (some ⟨g, 0, none⟩) q c3, .slice p7 l7 c7, .slice x.pn x.r.ns.length x.cn] 56) := Lib.hid (Hx63.out.set 3 (.slice p7 l7 c7))
     have HB64 := ksq HB63 hch (by show w.heap.size ≤ gx; have := HWL.out; have := HW1.out; have := HGX2.out; omega)
     have HZ64 := kzq HZ63 hch.out.size
     have Hr64 := kcq Hr63 hch (by have := HWL.out; have := HW1.out; have := HGX2.out; omega)
     have HV3 : Hid (∀ z ∈ zs, z.In (fun b => W2.heap.size ≤ b ∧ b ≠ g) _) := Lib.hid (fun z hz => (HV3.out z hz).keepP (KeepP.of_chg hch.out (fun h => by have := HGX2.out; omega)))
     have HV1 := Lib.hid (HV1.out.stay (fun b hb => hch.out.2 b (HV1.out.lt b hb) (by have h1 := HV1.out.block_ge b hb; have := HGX2.out; omega)))
     have HNL := Lib.hid (HNL.out.stay (fun b hb => hch.out.2 b (HNL.out.lt b hb) (by have h1 := HNL.out.block_ge b hb; have := HGE.out; have := HGX2.out; omega)))
     have HNN8 := Lib.hid (HNN8.out.stayV (fun b hb => hch.out.2 b (HNN8.out.lt b hb) (by have h1 := HNN8.out.block_ge b hb; have := HW7.out; have := HGE.out; have := HGX2.out; omega)))
     clear hch hS0 Hx63 Hr63 HB63 HZ63
     generalize (w8.setCell ⟨gx, 3, none⟩ (.slice p7 l7 c7)) = WG at *
     refine hK.out _ _ (trivial) (fun hS0 => ?_)
     clear hK K
     try simp only [Act.put, List.getElem_toArray, List.getElem_cons_succ, List.getElem_cons_zero, List.setIfInBounds_toArray, List.set_cons_zero, List.set_cons_succ]
     refine tkq 8 ?_
     refine rdq 9 (fun K hK => ?_)
     have z0 : WG.cell? ⟨gx, 0, none⟩ = some (.int .i64 x.r.cu) := Hx64.out.cell 0
     have z1 : WG.cell? ⟨gx, 1, none⟩ = some (.int .i64 x.r.st) := Hx64.out.cell 1
     have z2 : WG.cell? ⟨gx, 2, none⟩ = some (.slice (some ⟨g, 0, none⟩) q c3) := Hx64.out.cell 2
     have z3 : WG.cell? ⟨gx, 3, none⟩ = some (.slice p7 l7 c7) := Hx64.out.cell 3
     have z4 : WG.cell? ⟨gx, 4, none⟩ = some (.slice x.pn x.r.ns.length x.cn) := Hx64.out.cell 4
     have f0 := Hx64.out.free 0
     have f1 := Hx64.out.free 1
     have f2 := Hx64.out.free 2
     have f3 := Hx64.out.free 3
     have f4 := Hx64.out.free 4
     go_simp
     clear z0 f0 z1 f1 z2 f2 z3 f3 z4 f4
     have hch := Lib.hid ((Chg.refl gx WG).set 4 (.slice p8 l8 c8))
     have Hx65 : Hid (Blk _ gx #[.int .i64 x.r.cu, .int .i64 x.r.st, .slice (some ⟨g, 0, none⟩) q c3, .slice p7 l7 c7, .slice p8 l8 c8] 56) := Lib.hid (Hx64.out.set 4 (.slice p8 l8 c8))
     have HB65 := ksq HB64 hch (by show w.heap.size ≤ gx; have := HWL.out; have := HW1.out; have := HGX2.out; omega)
     have HZ65 := kzq HZ64 hch.out.size
     have Hr65 := kcq Hr64 hch (by have := HWL.out; have := HW1.out; have := HGX2.out; omega)
     have HV3 : Hid (∀ z ∈ zs, z.In (fun b => W2.heap.size ≤ b ∧ b ≠ g) _) := Lib.hid (fun z hz => (HV3.out z hz).keepP (KeepP.of_chg hch.out (fun h => by have := HGX2.out; omega)))
     have HV1 := Lib.hid (HV1.out.stay (fun b hb => hch.out.2 b (HV1.out.lt b hb) (by have h1 := HV1.out.block_ge b hb; have := HGX2.out; omega)))
     have HNL := Lib.hid (HNL.out.stay (fun b hb => hch.out.2 b (HNL.out.lt b hb) (by have h1 := HNL.out.block_ge b hb; have := HGE.out; have := HGX2.out; omega)))
     have HNN8 := Lib.hid (HNN8.out.stayV (fun b hb => hch.out.2 b (HNN8.out.lt b hb) (by have h1 := HNN8.out.block_ge b hb; have := HW7.out; have := HGE.out; have := HGX2.out; omega)))
     clear hch hS0 Hx64 Hr64 HB64 HZ64
     generalize (WG.setCell ⟨gx, 4, none⟩ (.slice p8 l8 c8)) = WH at *
     refine hK.out _ _ (trivial) (fun hS0 => ?_)
     clear hK K
     try simp only [Act.put, List.getElem_toArray, List.getElem_cons_succ, List.getElem_cons_zero, List.setIfInBounds_toArray, List.set_cons_zero, List.set_cons_succ]
     refine wpAnyH_done (by kernel_rfl) ?_ _
     clear hS0
     have x0 : WH.cell? ⟨gx, 0, none⟩ = some (.int .i64 x.r.cu) := Hx65.out.cell 0
     have x1 : WH.cell? ⟨gx, 1, none⟩ = some (.int .i64 x.r.st) := Hx65.out.cell 1
     have x2 : WH.cell? ⟨gx, 2, none⟩ = some (.slice (some ⟨g, 0, none⟩) q c3) := Hx65.out.cell 2
     have x3 : WH.cell? ⟨gx, 3, none⟩ = some (.slice p7 l7 c7) := Hx65.out.cell 3
     have x4 : WH.cell? ⟨gx, 4, none⟩ = some (.slice p8 l8 c8) := Hx65.out.cell 4
     go_wp2_with (with_reducible refine stop_storeT 56 (.tmp 4) (.tmp 49) rfl ?_)
     clear x0 x1 x2 x3 x4
     have HTH : Hid (WH.there (w.heap.size + 1) 0 5) := Hr65.out.thereAt
     have hch : Hid (Chg (w.heap.size + 1) WH (WH.setCells (w.heap.size + 1) 0 (#[.int .i64 x.r.cu, .int .i64 x.r.st, .slice (some ⟨g, 0, none⟩) q c3, .slice p7 l7 c7, .slice p8 l8 c8] : Array Value).toList)) := Lib.hid (chg_putL _ _ _ _ _ (Chg.refl _ WH))
     have Hr66 : Hid (Blk (WH.setCells (w.heap.size + 1) 0 (#[.int .i64 x.r.cu, .int .i64 x.r.st, .slice (some ⟨g, 0, none⟩) q c3, .slice p7 l7 c7, .slice p8 l8 c8] : Array Value).toList) (w.heap.size + 1) #[.int .i64 x.r.cu, .int .i64 x.r.st, .slice (some ⟨g, 0, none⟩) q c3, .slice p7 l7 c7, .slice p8 l8 c8] 56) := Lib.hid (blk_put_all Hr65.out _ rfl)
     have HB66 : Hid (Below w.heap.size w (WH.setCells (w.heap.size + 1) 0 (#[.int .i64 x.r.cu, .int .i64 x.r.st, .slice (some ⟨g, 0, none⟩) q c3, .slice p7 l7 c7, .slice p8 l8 c8] : Array Value).toList)) := Lib.hid (below_put (by have := HWL.out; have := HW1.out; have := HGX2.out; omega) _ _ _ _ HB65.out)
     have HZ66 := kzq HZ65 hch.out.size
     have Hx66 := kcq Hx65 hch (by have := HWL.out; have := HW1.out; have := HGX2.out; omega)
     have HV3 : Hid (∀ z ∈ zs, z.In (fun b => W2.heap.size ≤ b ∧ b ≠ g) _) := Lib.hid (fun z hz => (HV3.out z hz).keepP (KeepP.of_chg hch.out (fun h => by have := HGX2.out; have := HWL.out; have := HW1.out; omega)))
     have HV1 := Lib.hid (HV1.out.stay (fun b hb => hch.out.2 b (HV1.out.lt b hb) (by have h1 := HV1.out.block_ge b hb; have := HGX2.out; have := HWL.out; have := HW1.out; omega)))
     have HNL := Lib.hid (HNL.out.stay (fun b hb => hch.out.2 b (HNL.out.lt b hb) (by have h1 := HNL.out.block_ge b hb; have := HGE.out; have := HGX2.out; have := HWL.out; have := HW1.out; omega)))
     have HNN8 := Lib.hid (HNN8.out.stayV (fun b hb => hch.out.2 b (HNN8.out.lt b hb) (by have h1 := HNN8.out.block_ge b hb; have := HW7.out; have := HGE.out; have := HGX2.out; have := HWL.out; have := HW1.out; omega)))
     clear hch Hx65 Hr65 HB65 HZ65
     refine wpList_store_mid rfl 56 (.tmp 4) (.tmp 49) rfl (w.heap.size + 1) 0 #[.int .i64 x.r.cu, .int .i64 x.r.st, .slice (some ⟨g, 0, none⟩) q c3, .slice p7 l7 c7, .slice p8 l8 c8] rfl rfl HTH.out (infoR5 rfl) (all_oneCell_toArray (by intro u hu; simp at hu; rcases hu with rfl | rfl | rfl | rfl | rfl <;> rfl)) ?_
     generalize (WH.setCells (w.heap.size + 1) 0 (#[.int .i64 x.r.cu, .int .i64 x.r.st, .slice (some ⟨g, 0, none⟩) q c3, .slice p7 l7 c7, .slice p8 l8 c8] : Array Value).toList) = WI at *
     clear HTH
     go_wp2_with fail
     have hfr := Hr66.out
     refine bodyPost_ret (v := .tuple #[.agg #[.int .i64 x.r.cu, .int .i64 x.r.st, .slice (some ⟨g, 0, none⟩) q c3, .slice p7 l7 c7, .slice p8 l8 c8], .bool true]) (by simp [results, Try.results11, go_sem, hfr.cell 0, hfr.cell 1, hfr.cell 2, hfr.cell 3, hfr.cell 4]) rfl ?_
     refine ⟨(⟨x.r, some ⟨g, 0, none⟩, c3, p7, c7, p8, c8⟩ : RunX), by rw [RunX.v_mk, HLQ.out, HL7.out, HL8.out], ⟨fun _ => ⟨HXR.out.symm, ⟨?_, ?_, ?_, ?_, ?_⟩, by rw [HL7.out]; have h4 := HNL.out.fre; rw [HL7.out] at h4; exact h4⟩, (fun h => by cases h)⟩, HB66.out⟩
     ·show HsR _ _ (.slice (some ⟨g, 0, none⟩) x.r.hs.length c3) x.r.hs
      rw [HLQ.out]
      refine ⟨zs, HV1.out.row, HV1.out.at_lt.imp (fun b h => by have := HGX2.out; have := HWL.out; have := HW1.out; omega), fun z hz => (HV3.out z hz).imp (fun b h => by have := HGX2.out; have := HWL.out; have := HW1.out; omega), HV2.out⟩
     ·show TRow encN _ (.slice p7 x.r.ls.length c7) x.r.ls
      rw [HL7.out]; exact HNL.out.row
     ·show At _ (.slice p7 x.r.ls.length c7) x.r.ls.length
      have h4 := HNL.out.at_lt
      rw [HL7.out] at h4 ⊢
      exact h4.imp (fun b h => by have := HGE.out; have := HGX2.out; have := HWL.out; have := HW1.out; omega)
     ·show Row .i64 _ (.slice p8 x.r.ns.length c8) x.r.ns
      rw [HL8.out]; exact HNN8.out.row
     ·show At _ (.slice p8 x.r.ns.length c8) x.r.ns.length
      have h4 := HNN8.out.at_lt
      rw [HL8.out] at h4 ⊢
      exact h4.imp (fun b h => by have := HW7.out; have := HGE.out; have := HGX2.out; have := HWL.out; have := HW1.out; omega)
end Go.Proofs.Yteogdfpkcoodlaa
namespace Go.Proofs.Yteogdfpkcoodlaa
open Go.RowKit
set_option linter.unusedSimpArgs false
/-- The numbers of the first k cycles that are open. -/
def waitC (rs : List Rn) (k : Nat) : List Int := ((List.range k).filter (fun i => openB (rs.getD i ⟨0, 0, [], [], []⟩))).map (fun (i : Nat) => (i : Int) + 1)
theorem waitC_succ (rs : List Rn) (k : Nat) : waitC rs (k + 1) = waitC rs k ++ (if openB (rs.getD k ⟨0, 0, [], [], []⟩) = true then [(k : Int) + 1] else []) := by
 unfold waitC
 rw [List.range_succ, List.filter_append, List.map_append, List.filter_cons, List.filter_nil]
 split <;> rfl
theorem waitC_len (rs : List Rn) (k : Nat) : (waitC rs k).length ≤ k := by
 unfold waitC
 rw [List.length_map]
 have := List.length_filter_le (fun i => openB (rs.getD i ⟨0, 0, [], [], []⟩)) (List.range k)
 rwa [List.length_range] at this
theorem eltInC : Elt Try.prog 65 3 .i64 8 := by
 have ht := Try.underlying65
 have h : (Try.prog.info? 3).map (fun i => (i.zero, i.size, i.bytes)) = some (some (.int .i64 0), 1, 8) := by kernel_rfl
 cases hi : Try.prog.info? 3 with
 | none => rw [hi] at h; cases h
 | some i =>
  rw [hi] at h
  simp only [Option.map_some, Option.some.injEq, Prod.mk.injEq] at h
  exact ⟨i, ht, hi, h.1, h.2.1, h.2.2⟩
set_option linter.unusedSimpArgs false in
set_option maxHeartbeats 4000000 in
set_option maxRecDepth 100000 in
theorem cwaits_any (w : World) (P : Nat → Prop) (N : Nat) (p : Option Addr) (n c : Nat) (rs : List Rn) (hrs : RsR P w (.slice p n c) rs) (hn : n = rs.length) (hl : n ≤ 2000) :
  Calls Try.prog 13 #[.agg #[.int .i64 (N : Int), .slice p n c]] w fun e w' => ∃ p' c', e = .returned (.slice p' (waitC rs n).length c') ∧ Row .i64 w' (.slice p' (waitC rs n).length c') (waitC rs n) ∧ Below w.heap.size w w' := by
 obtain ⟨xs, hr, _, hin, hm⟩ := hrs
 have HR := Lib.hid hr
 have HXM := Lib.hid hm
 have HXL : Hid (xs.length = n ∧ n ≤ 2000) := Lib.hid ⟨by rw [hn, ← hm, List.length_map], hl⟩
 clear hr hin hm hn hl
 have HB0 : Hid (Below w.heap.size w (w.alloc (.cells #[.int .i64 (N : Int), .slice p n c] 27))) := Lib.hid ((oneB w _))
 have Hc0 : Hid (Blk (w.alloc (.cells #[.int .i64 (N : Int), .slice p n c] 27)) w.heap.size #[.int .i64 (N : Int), .slice p n c] 27) := Lib.hid (Blk.new w #[.int .i64 (N : Int), .slice p n c] 27)
 have HZ0 : Hid (w.heap.size ≤ (w.alloc (.cells #[.int .i64 (N : Int), .slice p n c] 27)).heap.size) := Lib.hid HB0.out.size
 go_enter Try.func13, Try.ntmps13
 go_upto_region 2 with fail
 generalize (w.alloc (.cells #[.int .i64 (N : Int), .slice p n c] 27)) = W at *
 have HRW := Lib.hid (HR.out.kept HB0.out)
 have HREL : Hid (Own .i64 W W.heap.size 3 (.slice none 0 0) (waitC rs 0) ∧ Below W.heap.size W W) := Lib.hid ⟨Own.nil_ _ _ _ _, Below.refl _ _⟩
 have a1 : W.cell? ⟨w.heap.size, 1, none⟩ = some (.slice p n c) := Hc0.out.cell 1
 go_wp2_with fail
 clear a1
 go_loopw [3, 9] (fun v i wr => ∃ k : Nat, k ≤ n ∧ i = .int .i64 k ∧ Hid (Own .i64 wr W.heap.size 3 v (waitC rs k) ∧ Below W.heap.size W wr)) (fun _ i _ => n - (intOf i).toNat)
 case atStart => exact ⟨0, by omega, rfl, HREL⟩
 case round =>
  clear HREL
  obtain ⟨k, hk, rfl, HK⟩ := hrel
  obtain ⟨pz, cz, hvz⟩ := HK.out.1.form
  have HLZ : Hid ((waitC rs k).length ≤ k) := Lib.hid (waitC_len rs k)
  generalize hmz : (waitC rs k).length = mz at *
  subst hvz
  have HMZ := Lib.hid hmz
  clear hmz
  by_cases hlt : k < n
  ·have hkl : k < xs.length := by have := HXL.out; omega
   have hltI : (k : Int) < (n : Int) := by omega
   have hk9 : k + 1 ≤ 2001 := by have := HXL.out; omega
   have HWT := Lib.hid (waitC_succ rs k)
   have hgx : rs.getD k ⟨0, 0, [], [], []⟩ = (xs[k]).r := by rw [← HXM.out, List.getD_eq_getElem?_getD, List.getElem?_map, List.getElem?_eq_getElem hkl]; rfl
   rw [hgx] at HWT
   clear hgx
   obtain ⟨b, o, rfl, hbl, hcs⟩ := (HRW.out.kept HK.out.2).at_ k hkl
   generalize xs[k] = x at *
   have c0 : wr.cell? ⟨b, o + k * 5, none⟩ = some (.int .i64 x.r.cu) := hcs 0 (by decide)
   have c1 : wr.cell? ⟨b, o + k * 5 + 1, none⟩ = some (.int .i64 x.r.st) := hcs 1 (by decide)
   have c2 : wr.cell? ⟨b, o + k * 5 + 2, none⟩ = some (.slice x.pf x.r.hs.length x.cf) := hcs 2 (by decide)
   have c3 : wr.cell? ⟨b, o + k * 5 + 3, none⟩ = some (.slice x.pl x.r.ls.length x.cl) := hcs 3 (by decide)
   have c4 : wr.cell? ⟨b, o + k * 5 + 4, none⟩ = some (.slice x.pn x.r.ns.length x.cn) := hcs 4 (by decide)
   have HB0 := Lib.hid (Below.refl wr.heap.size wr)
   have HZ0 : Hid (wr.heap.size ≤ wr.heap.size) := Lib.hid (Nat.le_refl _)
   clear hcs hbl
   have hba := oneB wr (.cells #[.int .i64 x.r.cu, .int .i64 x.r.st, .slice x.pf x.r.hs.length x.cf, .slice x.pl x.r.ls.length x.cl, .slice x.pn x.r.ns.length x.cn] 56)
   have Hx1 := Lib.hid (Blk.new wr #[.int .i64 x.r.cu, .int .i64 x.r.st, .slice x.pf x.r.hs.length x.cf, .slice x.pl x.r.ls.length x.cl, .slice x.pn x.r.ns.length x.cn] 56)
   have HB1 := Lib.hid (HB0.out.alloc HB0.out.size (.cells #[.int .i64 x.r.cu, .int .i64 x.r.st, .slice x.pf x.r.hs.length x.cf, .slice x.pl x.r.ls.length x.cl, .slice x.pn x.r.ns.length x.cn] 56))
   have HZ1 := kzq HZ0 hba.size
   have HGgx : Hid (wr.heap.size ≤ wr.heap.size) := Lib.hid HB0.out.size
   clear hba HB0 HZ0
   go_upto_region 5 with fail
   clear c0 c1 c2 c3 c4 hltI
   generalize (wr.alloc (.cells #[.int .i64 x.r.cu, .int .i64 x.r.st, .slice x.pf x.r.hs.length x.cf, .slice x.pl x.r.ls.length x.cl, .slice x.pn x.r.ns.length x.cn] 56)) = W2 at *
   have HG := Lib.hid (copen_any W2 x)
   unfold RunX.v at HG
   have c0 : W2.cell? ⟨wr.heap.size, 0, none⟩ = some (.int .i64 x.r.cu) := Hx1.out.cell 0
   have c1 : W2.cell? ⟨wr.heap.size, 1, none⟩ = some (.int .i64 x.r.st) := Hx1.out.cell 1
   have c2 : W2.cell? ⟨wr.heap.size, 2, none⟩ = some (.slice x.pf x.r.hs.length x.cf) := Hx1.out.cell 2
   have c3 : W2.cell? ⟨wr.heap.size, 3, none⟩ = some (.slice x.pl x.r.ls.length x.cl) := Hx1.out.cell 3
   have c4 : W2.cell? ⟨wr.heap.size, 4, none⟩ = some (.slice x.pn x.r.ns.length x.cn) := Hx1.out.cell 4
   go_wp2_with fail
   clear c0 c1 c2 c3 c4
   refine HG.out.mono ?_
   rintro y9 w3 ⟨rfl, hb⟩
   clear HG
   have Hx2 := kbq Hx1 hb
   have HB2 := ktq HB1 hb
   have HZ2 := kzq HZ1 hb.size
   clear Hx1 HB1 HZ1
   clear hb
   obtain ⟨bo, hbo⟩ : ∃ bo, openB x.r = bo := ⟨_, rfl⟩
   rw [hbo] at HWT ⊢
   clear hbo
   cases bo
   ·have HNX : Hid (Own .i64 w3 W.heap.size 3 (.slice pz mz cz) (waitC rs (k + 1)) ∧ Below W.heap.size W w3) := Lib.hid ⟨by rw [HWT.out]; simpa using HK.out.1.later HB2.out, HK.out.2.trans (HB2.out.mono HK.out.2.size)⟩
    clear HWT
    go_wp2_with fail
    go_roundw
    case rel => exact ⟨k + 1, by omega, by go_num, HNX⟩
    case measure => simp [intOf]; omega
   ·have hw1 : wrap64 ((k : Int) + 1) = (k : Int) + 1 := by unfold wrap64; omega
    have HO3 := Lib.hid (HK.out.1.later HB2.out)
    have HWS : Hid (W.heap.size ≤ w3.heap.size) := Lib.hid (by have := HK.out.2.size; have := HB2.out.size; omega)
    go_wp2_with (at_builtin; with_reducible refine stop_appendT (.tmp 16) (.tmp 19) 65 rfl ?_)
    refine wpList_append_row rfl (.tmp 16) (.tmp 19) 65 rfl 3 .i64 8 W.heap.size eltInC (.slice pz mz cz) (.slice (some ⟨w3.heap.size, 0, none⟩) 1 1) (waitC rs k) [(k : Int) + 1] rfl rfl (HO3.out.alloc (.cells #[.int .i64 ((k : Int) + 1)] 3)) ⟨some ⟨w3.heap.size, 0, none⟩, 1, rfl, Nat.le_refl _, .inr ⟨w3.heap.size, 0, rfl, fun i hi => ?_⟩⟩ (by rw [HMZ.out]; have := HLZ.out; simp; omega) (by rw [HMZ.out]; have := HLZ.out; simp; omega) (by have := HWS.out; have := (oneB w3 (.cells #[.int .i64 ((k : Int) + 1)] 3)).size; omega) (waitC rs k ++ [(k : Int) + 1]) (mz + 1) rfl (by rw [List.length_append, HMZ.out]; rfl) ?_
    ·obtain rfl : i = 0 := by simp at hi; omega
     exact (Blk.new w3 #[.int .i64 ((k : Int) + 1)] 3).cell 0
    intro p9 c9 w9 ho9 hb9
    have HNX : Hid (Own .i64 w9 W.heap.size 3 (.slice p9 (mz + 1) c9) (waitC rs (k + 1)) ∧ Below W.heap.size W w9) := Lib.hid ⟨by rw [HWT.out]; exact ho9, ((HK.out.2.trans (HB2.out.mono HK.out.2.size)).trans ((oneB w3 (.cells #[.int .i64 ((k : Int) + 1)] 3)).mono HWS.out)).trans hb9⟩
    clear ho9 hb9 HWT
    go_wp2_with fail
    go_roundw
    case rel => exact ⟨k + 1, by omega, by go_num, HNX⟩
    case measure => simp [intOf]; omega
  ·have hltI : ¬ (k : Int) < (n : Int) := by omega
   obtain rfl : k = n := by omega
   go_wp2_with fail
   go_ret
   exact ⟨pz, cz, by rw [HMZ.out]; rfl, by rw [HMZ.out]; exact HK.out.1.row, HB0.out.trans (HK.out.2.mono HB0.out.size)⟩
end Go.Proofs.Yteogdfpkcoodlaa
namespace Go.Proofs.Yteogdfpkcoodlaa
open Go.RowKit
def NotIn (gs : List Nat) (b : Nat) : Prop := b ∉ gs
theorem notIn_self {gs : List Nat} {g : Nat} (h : g ∈ gs) : ¬ NotIn gs g := fun hn => hn h
/-- A row in blocks of Q. -/
def RwN {α : Type} (e : Enc α) (Q : Nat → Prop) (w : World) (v : Value) (xs : List α) : Prop := TRow e w v xs ∧ At Q v xs.length
section
variable {α : Type} {e : Enc α} {Q : Nat → Prop} {w w' : World} {v : Value} {xs : List α}
theorem RwN.kept (h : RwN e Q w v xs) (hb : Below w.heap.size w w') : RwN e Q w' v xs := ⟨h.1.kept hb, h.2⟩
theorem RwN.chg {g : Nat} (h : RwN e Q w v xs) (hc : Chg g w w') (hg : ¬ Q g) : RwN e Q w' v xs := ⟨h.1.keepP h.2 (KeepP.of_chg hc hg), h.2⟩
theorem RwN.nil_ (e : Enc α) (Q : Nat → Prop) (w : World) : RwN e Q w (.slice none 0 0) [] := ⟨TRow.nil_ e w, fun _ _ _ _ h => by cases h⟩
theorem RwN.lt (h : RwN e Q w v xs) : At (fun b => b < w.heap.size ∧ Q b) v xs.length := by
 rintro b o n c rfl hn
 exact ⟨h.1.lt_ hn, h.2 b o n c rfl hn⟩
theorem RwN.imp {R : Nat → Prop} (h : RwN e Q w v xs) (hq : ∀ b, b < w.heap.size → Q b → R b) : RwN e R w v xs := by
 refine ⟨h.1, ?_⟩
 rintro b o n c rfl hn
 have h2 := h.lt b o n c rfl hn
 exact hq b h2.1 h2.2
theorem OwnT.rwN {base : Nat} {ty : TypeId} (h : OwnT e w base ty v xs) (hq : ∀ b, base ≤ b → Q b) : RwN e Q w v xs := ⟨h.row, by
 rintro b o n c rfl hn
 exact hq b (h.block_ge b rfl)⟩
end
end Go.Proofs.Yteogdfpkcoodlaa
namespace Go.Proofs.Yteogdfpkcoodlaa
open Go.RowKit
set_option linter.unusedSimpArgs false
/-- Each cycle knows of each entity; offers fit; what is reckoned is of a size. -/
def LOk (N : Nat) (rs : List Rn) : Prop := COk N rs ∧ ∀ r ∈ rs, r.ls.length ≤ 480 ∧ r.ns.length ≤ 8
theorem rec_size {N : Nat} {r : Rn} (h8 : N ≤ 8) (hf : ∀ h ∈ r.hs, fitE (N : Int) h.ls = 0 ∧ h.ls.length ≤ 60) : (r.rec_ N).ls.length ≤ 480 ∧ (r.rec_ N).ns.length ≤ 8 := by
 unfold Rn.rec_
 dsimp only
 have h1 := bothL_len (r.hs.map Hd.ls) (fun o ho => by obtain ⟨h, hh, rfl⟩ := List.mem_map.1 ho; exact (hf h hh).2) N
 rw [netsL_len]
 omega
theorem LOk.set {N : Nat} {rs : List Rn} (h : LOk N rs) (i : Nat) (q : Rn) (h1 : q.hs.length = N) (h2 : ∀ h ∈ q.hs, fitE (N : Int) h.ls = 0 ∧ h.ls.length ≤ 60) (h3 : q.ls.length ≤ 480 ∧ q.ns.length ≤ 8) : LOk N (rs.set i q) := by
 refine ⟨fun r hr => ?_, fun r hr => ?_⟩
 ·rcases List.mem_or_eq_of_mem_set hr with h' | h'
  ·exact h.1 r h'
  ·subst h'; exact ⟨h1, h2⟩
 ·rcases List.mem_or_eq_of_mem_set hr with h' | h'
  ·exact h.2 r h'
  ·subst h'; exact h3
theorem rnAt_mem {rs : List Rn} {k : Int} (h : hasB rs k = true) : rnAt rs k ∈ rs := by
 have h1 := of_hasB h rfl
 have hlt : (k - 1).toNat < rs.length := by omega
 unfold rnAt
 rw [List.getElem?_eq_getElem hlt]
 exact List.getElem_mem hlt
theorem set_at_out {α : Type} (l : List α) (i : Nat) (x : α) (h : ¬ i < l.length) : l.set i x = l := List.set_eq_of_length_le (by omega)
theorem do_ok {N : Nat} {rs : List Rn} (h : LOk N rs) (h8 : N ≤ 8) (m : Msg) (hm : m.ls.length ≤ 60) (fro : Int) : LOk N (doC N rs m fro).1 ∧ rs.length ≤ (doC N rs m fro).1.length ∧ (doC N rs m fro).1.length ≤ rs.length + 1 := by
 have hto : ∀ r ∈ rs, ∀ st, LOk N (rs.set (m.y - 1).toNat (r.to st)) := fun r hr st => h.set _ _ (h.1 r hr).1 (h.1 r hr).2 (h.2 r hr)
 have hsame : LOk N rs ∧ rs.length ≤ rs.length ∧ rs.length ≤ rs.length + 1 := ⟨h, Nat.le_refl _, Nat.le_succ _⟩
 have hst : ∀ q, LOk N (rs.set (m.y - 1).toNat q) → LOk N (rs.set (m.y - 1).toNat q) ∧ rs.length ≤ (rs.set (m.y - 1).toNat q).length ∧ (rs.set (m.y - 1).toNat q).length ≤ rs.length + 1 := fun q hq => ⟨hq, by rw [List.length_set]; exact Nat.le_refl _, by rw [List.length_set]; exact Nat.le_succ _⟩
 unfold doC
 split
 ·split
  ·unfold startC
   split
   ·exact hsame
   ·split
    ·exact hsame
    ·refine ⟨⟨fun r hr => ?_, fun r hr => ?_⟩, by simp, by simp⟩
     ·rcases List.mem_append.1 hr with h' | h'
      ·exact h.1 r h'
      ·obtain rfl := List.mem_singleton.1 h'
       exact ⟨by unfold rn0; simp, fun q hq => by
        have := (List.mem_replicate.1 hq).2
        subst this
        exact ⟨rfl, by decide⟩⟩
     ·rcases List.mem_append.1 hr with h' | h'
      ·exact h.2 r h'
      ·obtain rfl := List.mem_singleton.1 h'
       exact ⟨by show 0 ≤ 480; decide, by show 0 ≤ 8; decide⟩
  ·split
   ·split
    ·next hh =>
     unfold dueC
     split
     ·exact hst _ (hto _ (rnAt_mem hh) 4)
     ·exact hsame
    ·exact hsame
   ·exact hsame
 ·split
  ·split
   ·exact hsame
   ·split
    ·exact hsame
    ·next hh =>
     have hh : hasB rs m.y = true := by simpa using hh
     have hr := rnAt_mem hh
     have hszr := h.2 _ hr
     split
     ·unfold offerC
      split
      ·exact hsame
      ·split
       ·exact hsame
       ·split
        ·exact hsame
        ·split
         ·exact hsame
         ·next hfe =>
          have hfe : fitE (N : Int) m.ls = 0 := Classical.byContradiction hfe
          have h1 : ((rnAt rs m.y).offer fro.toNat m.ls).hs.length = N := by unfold Rn.offer; rw [List.length_set]; exact (h.1 _ hr).1
          have h2 : ∀ q ∈ ((rnAt rs m.y).offer fro.toNat m.ls).hs, fitE (N : Int) q.ls = 0 ∧ q.ls.length ≤ 60 := fun q hq => by
           rcases List.mem_or_eq_of_mem_set hq with h' | h'
           ·exact (h.1 _ hr).2 q h'
           ·subst h'; exact ⟨hfe, hm⟩
          split
          ·exact hst _ (h.set _ _ h1 h2 (hszr))
          ·exact hst _ (h.set _ _ h1 h2 (rec_size h8 h2))
     ·split
      ·unfold voteC
       have h1 : ((rnAt rs m.y).vote fro.toNat).hs.length = N := by unfold Rn.vote; rw [List.length_set]; exact (h.1 _ hr).1
       have h2 : ∀ q ∈ ((rnAt rs m.y).vote fro.toNat).hs, fitE (N : Int) q.ls = 0 ∧ q.ls.length ≤ 60 := fun q hq => by
        rcases List.mem_or_eq_of_mem_set hq with h' | h'
        ·exact (h.1 _ hr).2 q h'
        ·subst h'
         show fitE (N : Int) ((rnAt rs m.y).hs.getD fro.toNat hd0).ls = 0 ∧ _
         by_cases hj : fro.toNat < (rnAt rs m.y).hs.length
         ·rw [List.getD_eq_getElem?_getD, List.getElem?_eq_getElem hj]
          exact (h.1 _ hr).2 _ (List.getElem_mem hj)
         ·rw [List.getD_eq_getElem?_getD, List.getElem?_eq_none (by omega)]
          exact ⟨rfl, by decide⟩
       split
       ·exact hsame
       ·split
        ·exact hsame
        ·split
         ·exact hst _ (h.set _ _ h1 h2 (hszr))
         ·split
          ·exact hst _ (h.set _ _ h1 h2 (hszr))
          ·exact hst _ (h.set _ _ h1 h2 (hszr))
      ·unfold queryC
       split
       ·exact hsame
       ·exact hsame
  ·exact hsame
theorem RsR.chg {Q : Nat → Prop} {w w' : World} {v : Value} {rs : List Rn} {g : Nat} (h : RsR Q w v rs) (hc : Chg g w w') (hg : ¬ Q g) : RsR Q w' v rs := h.keepP (KeepP.of_chg hc hg)
/-- The coordinator's cycles, in blocks of Q. -/
structure Ct (Q : Nat → Prop) (w : World) (N : Nat) (p : Option Addr) (n c : Nat) (xs : List Rn) : Prop where
 rs : RsR Q w (.slice p n c) xs
 n : n = xs.length
 ok : LOk N xs
theorem Ct.kept {Q : Nat → Prop} {w w' : World} {N : Nat} {p : Option Addr} {n c : Nat} {rs : List Rn} (h : Ct Q w N p n c rs) (hb : Below w.heap.size w w') : Ct Q w' N p n c rs := ⟨h.rs.kept hb, h.n, h.ok⟩
theorem Ct.chg {Q : Nat → Prop} {w w' : World} {N : Nat} {p : Option Addr} {n c : Nat} {rs : List Rn} {g : Nat} (h : Ct Q w N p n c rs) (hc : Chg g w w') (hg : ¬ Q g) : Ct Q w' N p n c rs := ⟨h.rs.chg hc hg, h.n, h.ok⟩
theorem Ct.nil_ (Q : Nat → Prop) (w : World) (N : Nat) : Ct Q w N none 0 0 [] := ⟨RsR.nil_ _ _, rfl, ⟨(fun _ h => nomatch h), (fun _ h => nomatch h)⟩⟩
/-- What is said, in blocks of Q. -/
def SdR (Q : Nat → Prop) (w : World) (v : Value) (l : List (Int × Msg)) : Prop := ∃ xs : List SdX, RwN encS Q w v xs ∧ (∀ z ∈ xs, z.x.InP Q w) ∧ xs.map (fun z => (z.tw, z.x.m)) = l
theorem SdR.kept {Q : Nat → Prop} {w w' : World} {v : Value} {l : List (Int × Msg)} (h : SdR Q w v l) (hb : Below w.heap.size w w') : SdR Q w' v l := by
 obtain ⟨xs, h1, h2, h3⟩ := h
 exact ⟨xs, h1.kept hb, fun z hz => (h2 z hz).kept hb, h3⟩
theorem SdR.chg {Q : Nat → Prop} {w w' : World} {v : Value} {l : List (Int × Msg)} {g : Nat} (h : SdR Q w v l) (hc : Chg g w w') (hg : ¬ Q g) : SdR Q w' v l := by
 obtain ⟨xs, h1, h2, h3⟩ := h
 exact ⟨xs, h1.chg hc hg, fun z hz => (h2 z hz).keepP (KeepP.of_chg hc hg), h3⟩
/-- The cells of one thing that is said. -/
def SdAt (Q : Nat → Prop) (b o i : Nat) (z : SdX) (w : World) : Prop := (Q b ∧ b < w.heap.size ∧ ∀ q, q < 12 → w.cell? ⟨b, o + i * 12 + q, none⟩ = (SdX.cells z)[q]?) ∧ z.x.InP Q w
theorem SdAt.kept {Q : Nat → Prop} {b o i : Nat} {z : SdX} {w w' : World} (h : SdAt Q b o i z w) (hb : Below w.heap.size w w') : SdAt Q b o i z w' :=
 ⟨⟨h.1.1, Nat.lt_of_lt_of_le h.1.2.1 hb.size, fun q hq => (hb.cell (p := ⟨b, _, none⟩) h.1.2.1).trans (h.1.2.2 q hq)⟩, h.2.kept hb⟩
theorem SdAt.chg {Q : Nat → Prop} {b o i g : Nat} {z : SdX} {w w' : World} (h : SdAt Q b o i z w) (hc : Chg g w w') (hg : ¬ Q g) : SdAt Q b o i z w' :=
 ⟨⟨h.1.1, Nat.lt_of_lt_of_le h.1.2.1 hc.size, fun q hq => (hc.cell (a := ⟨b, _, none⟩) h.1.2.1 (fun e => hg (e ▸ h.1.1))).trans (h.1.2.2 q hq)⟩, h.2.keepP (KeepP.of_chg hc hg)⟩
theorem SdR.at_ {Q : Nat → Prop} {w : World} {p : Option Addr} {n c : Nat} {l : List (Int × Msg)} (h : SdR Q w (.slice p n c) l) (hl : 0 < l.length) : ∃ b o, p = some ⟨b, o, none⟩ ∧ ∀ i (hi : i < l.length), ∃ z : SdX, z.tw = l[i].1 ∧ z.x.m = l[i].2 ∧ SdAt Q b o i z w := by
 obtain ⟨xs, h1, h2, rfl⟩ := h
 rw [List.length_map] at hl
 obtain ⟨b, o, e1, hb, _⟩ := h1.1.at_ 0 hl
 subst e1
 refine ⟨b, o, rfl, fun i hi => ?_⟩
 rw [List.length_map] at hi
 obtain ⟨b2, o2, e2, _, hc⟩ := h1.1.at_ i hi
 cases e2
 exact ⟨xs[i], by rw [List.getElem_map], by rw [List.getElem_map], ⟨h1.2 b o n c rfl hl, hb, hc⟩, h2 _ (List.getElem_mem hi)⟩
theorem SaidL.sdR {Q : Nat → Prop} {w : World} {B : Nat} {v : Value} {l : List (Int × Msg)} (h : SaidL w B v l) (hq : ∀ b, B ≤ b → Q b) : SdR Q w v l := by
 obtain ⟨xs, h1, h2, h3⟩ := h
 exact ⟨xs, h1.rwN hq, fun z hz => (h2 z hz).i.mono (fun b _ h => hq b h.1), h3⟩
theorem cdo_q (w : World) (Q : Nat → Prop) (N : Nat) (NI : Int) (hNI : NI = (N : Int)) (p : Option Addr) (n c : Nat) (rs : List Rn) (y : MsgX) (fro : Int) (h : Ct Q w N p n c rs) (hq : ∀ b, w.heap.size ≤ b → Q b) (hl : n ≤ 1000) (hN1 : 1 ≤ N) (hN8 : N ≤ 8) (Pm : Nat → Prop) (hy : y.InP Pm w) (hyl : y.m.ls.length ≤ 60) (rs2 : List Rn) (out : List (Int × Msg)) (err : Int) (hA : doC N rs y.m fro = (rs2, out, err)) :
  Calls Try.prog 7 #[.agg #[.int .i64 NI, .slice p n c], y.m.v (.slice y.pl y.m.ls.length y.cl) (.slice y.pn y.m.ns.length y.cn), .int .i64 fro] w fun a w' =>
   Below w.heap.size w w' ∧ ∃ p2 n2 c2 pv nv cv, a = .returned (.tuple #[.agg #[.int .i64 NI, .slice p2 n2 c2], .slice pv nv cv, .int .i64 err]) ∧ Ct Q w' N p2 n2 c2 rs2 ∧ nv = out.length ∧ SdR Q w' (.slice pv nv cv) out := by
 subst hNI
 have ho := do_ok h.ok hN8 y.m hyl fro
 refine (cdo_any w (fun b => Q b ∧ b < w.heap.size) N p n c rs y fro h.rs.lt (fun b hb => hb.2) h.n hl hN1 hN8 h.ok.1 Pm hy hyl).mono ?_
 rintro a w' ⟨p2, n2, c2, pv, nv, cv, B, rfl, hn2, hnv, hB, hr, hs, hb⟩
 rw [hA] at hn2 hnv hr hs ho
 rw [hA]
 exact ⟨hb, p2, n2, c2, pv, nv, cv, rfl, ⟨hr.imp (fun b hb => hb.elim And.left (fun h => hq b h.1)), hn2, ho.1⟩, hnv, hs.sdR (fun b hb => hq b (Nat.le_trans hB hb))⟩
theorem cget_q (w : World) (Q : Nat → Prop) (N : Nat) (NI : Int) (hNI : NI = (N : Int)) (k : Int) (p : Option Addr) (n c : Nat) (rs : List Rn) (h : Ct Q w N p n c rs) (hl : n ≤ 2000) (hN1 : 1 ≤ N) (hN8 : N ≤ 8) (b : Bool) (hB : hasB rs k = b) :
  Calls Try.prog 11 #[.agg #[.int .i64 NI, .slice p n c], .int .i64 k] w fun a w' => Below w.heap.size w w' ∧ ∃ x : RunX, a = .returned (.tuple #[x.v, .bool b]) ∧ GetP w' w.heap.size rs k x b := by
 subst hNI
 have hb : decide (1 ≤ k ∧ k ≤ (n : Int)) = b := by rw [← hB]; unfold hasB; rw [← h.n]
 have h1 := cget_any w (fun b => Q b ∧ b < w.heap.size) N k p n c rs h.rs.lt (fun b hb => hb.2) h.n hN1 hN8 (fun r hr => (h.ok.1 r hr).1) (fun r hr => ⟨fun q hq => by have := ((h.ok.1 r hr).2 q hq).2; omega, by have := (h.ok.2 r hr).1; omega, by have := (h.ok.2 r hr).2; omega⟩) hl
 rw [hb] at h1
 refine h1.mono ?_
 rintro a w' ⟨x, rfl, hg, hbl⟩
 exact ⟨hbl, x, rfl, hg⟩
theorem cwaits_q (w : World) (Q : Nat → Prop) (N : Nat) (NI : Int) (hNI : NI = (N : Int)) (p : Option Addr) (n c : Nat) (rs : List Rn) (h : Ct Q w N p n c rs) (hl : n ≤ 2000) (L : List Int) (hL : waitC rs n = L) :
  Calls Try.prog 13 #[.agg #[.int .i64 NI, .slice p n c]] w fun a w' => Below w.heap.size w w' ∧ ∃ p' n' c', a = .returned (.slice p' n' c') ∧ n' = L.length ∧ Row .i64 w' (.slice p' n' c') L := by
 subst hNI
 subst hL
 refine (cwaits_any w Q N p n c rs h.rs h.n hl).mono ?_
 rintro a w' ⟨p', c', rfl, hr, hb⟩
 exact ⟨hb, p', _, c', rfl, rfl, hr⟩
end Go.Proofs.Yteogdfpkcoodlaa
namespace Go.Proofs.Yteogdfpkcoodlaa
open Go.RowKit
set_option linter.unusedSimpArgs false
def ll1 : Lin := ⟨0, 1, 1, 70⟩
def mS : Msg := ⟨5, 0, 0, 0, 0, 0, 0, 0, false, [], []⟩
def mO : Msg := ⟨11, 0, 0, 0, 0, 0, 1, 0, false, [ll1], []⟩
def mV : Msg := ⟨13, 0, 0, 0, 0, 0, 1, 0, true, [], []⟩
def mP : Msg := ⟨12, 0, 0, 0, 0, 0, 1, 0, false, [ll1], [70, -70]⟩
def mD : Msg := ⟨14, 0, 0, 0, 0, 0, 1, 0, true, [], []⟩
def rsA : List Rn := [⟨0, 1, [hd0, hd0], [], []⟩]
def rsB : List Rn := [⟨0, 1, [⟨true, false, [ll1]⟩, hd0], [], []⟩]
def rsC : List Rn := [⟨0, 2, [⟨true, false, [ll1]⟩, ⟨true, false, [ll1]⟩], [ll1], [70, -70]⟩]
def rsD : List Rn := [⟨0, 2, [⟨true, false, [ll1]⟩, ⟨true, true, [ll1]⟩], [ll1], [70, -70]⟩]
def rsE : List Rn := [⟨0, 3, [⟨true, true, [ll1]⟩, ⟨true, true, [ll1]⟩], [ll1], [70, -70]⟩]
theorem lead1 : doC 2 [] mS (-1) = (rsA, [(0, askM 1 0), (1, askM 1 0)], 0) := by rfl
theorem lead2 : doC 2 rsA mO 0 = (rsB, [], 0) := by rfl
theorem lead3 : doC 2 rsB mO 1 = (rsC, [(0, mP), (1, mP)], 0) := by rfl
theorem lead4 : doC 2 rsC mV 1 = (rsD, [], 0) := by rfl
theorem lead5 : doC 2 rsD mV 0 = (rsE, [(0, mD), (1, mD)], 0) := by rfl
set_option linter.unusedSimpArgs false in
set_option maxHeartbeats 4000000 in
set_option maxRecDepth 100000 in
theorem leads_any (w : World) : Calls Try.prog 5 #[] w fun e w' => e = .returned (.bool true) ∧ Below w.heap.size w w' := by
 have HB0 := Lib.hid (Below.refl w.heap.size w)
 have HZ0 : Hid (w.heap.size ≤ w.heap.size) := Lib.hid (Nat.le_refl _)
 go_enter Try.func5, Try.ntmps5
 have hba := oneB w (.cells #[.int .i64 2, .slice none 0 0] 27)
 have Hc1 := Lib.hid (Blk.new w #[.int .i64 2, .slice none 0 0] 27)
 have HB1 := Lib.hid (HB0.out.alloc HB0.out.size (.cells #[.int .i64 2, .slice none 0 0] 27))
 have HZ1 := kzq HZ0 hba.size
 have HGgc : Hid (w.heap.size ≤ w.heap.size) := Lib.hid HB0.out.size
 clear hba HB0 HZ0
 go_upto_region 2 with fail
 generalize (w.alloc (.cells #[.int .i64 2, .slice none 0 0] 27)) = W0 at *
 have Qc1 : Hid (Ct (NotIn [w.heap.size]) W0 2 none 0 0 []) := Lib.hid (Ct.nil_ _ _ _)
 have HG := Lib.hid (cdo_q W0 (NotIn [w.heap.size]) 2 2 rfl none 0 0 [] (⟨mS, none, 0, none, 0⟩ : MsgX) (-1) Qc1.out (fun b hb hm => by have h0 := Hc1.out.lt; simp only [List.mem_cons, List.not_mem_nil, or_false] at hm; omega) (by rw [Qc1.out.n]; decide) (by decide) (by decide) (fun _ => True) ⟨TRow.nil_ _ _, Row.nil_ _ _ 0, At.nil_ _ _, At.nil_ _ _, ⟨by show 0 * 32 ≤ _; decide, by show 0 * 8 ≤ _; decide⟩⟩ (by decide) rsA [(0, askM 1 0), (1, askM 1 0)] 0 lead1)
 simp only [mS, ll1, Msg.v, List.length_cons, List.length_nil, Nat.zero_add] at HG
 have a0 : W0.cell? ⟨w.heap.size, 0, none⟩ = some (.int .i64 2) := Hc1.out.cell 0
 have a1 : W0.cell? ⟨w.heap.size, 1, none⟩ = some (.slice none 0 0) := Hc1.out.cell 1
 go_wp2_with fail
 clear a0 a1 
 refine HG.out.mono ?_
 rintro y9 w1 ⟨hb, p1, n1, c1, pv1, nv1, cv1, rfl, hc, hnv, hsd⟩
 clear HG Qc1
 have Hc2 := kbq Hc1 hb
 have HB2 := ktq HB1 hb
 have HZ2 := kzq HZ1 hb.size
 clear Hc1 HB1 HZ1
 clear hb
 have Qc2 := Lib.hid hc
 have Qs2 := Lib.hid hsd
 clear hc hsd
 replace hnv : nv1 = 2 := hnv
 subst hnv
 go_wp2_with (with_reducible refine stop_storeT 27 (.tmp 1) (.tmp 13) rfl ?_)
 have HTH : Hid (w1.there w.heap.size 0 2) := Hc2.out.thereAt
 have hch : Hid (Chg w.heap.size w1 (w1.setCells w.heap.size 0 (#[.int .i64 2, .slice p1 n1 c1] : Array Value).toList)) := Lib.hid (chg_putL _ _ _ _ _ (Chg.refl _ w1))
 have Hc3 : Hid (Blk (w1.setCells w.heap.size 0 (#[.int .i64 2, .slice p1 n1 c1] : Array Value).toList) w.heap.size #[.int .i64 2, .slice p1 n1 c1] 27) := Lib.hid (blk_put_all Hc2.out _ rfl)
 have HB3 : Hid (Below w.heap.size w (w1.setCells w.heap.size 0 (#[.int .i64 2, .slice p1 n1 c1] : Array Value).toList)) := Lib.hid (below_put (by omega) _ _ _ _ HB2.out)
 have HZ3 := kzq HZ2 hch.out.size
 have Qc3 := Lib.hid (Qc2.out.chg hch.out (notIn_self (by simp)))
 have Qs3 := Lib.hid (Qs2.out.chg hch.out (notIn_self (by simp)))
 clear hch Hc2 Qc2 Qs2 HB2 HZ2
 refine wpList_store_mid rfl 27 (.tmp 1) (.tmp 13) rfl w.heap.size 0 #[.int .i64 2, .slice p1 n1 c1] rfl rfl HTH.out (infoC2 rfl) (all_oneCell_toArray (by intro u hu; simp at hu; rcases hu with rfl | rfl <;> rfl)) ?_
 generalize (w1.setCells w.heap.size 0 (#[.int .i64 2, .slice p1 n1 c1] : Array Value).toList) = W1 at *
 clear HTH
 have HGL : Hid (w.heap.size < W1.heap.size) := Lib.hid Hc3.out.lt
 have hba := oneB W1 (.cells #[.int .i64 0, .int .i64 1, .int .i64 1, .int .i64 70] 64)
 have Hc4 := kbq Hc3 hba
 have Qc4 := Lib.hid (Qc3.out.kept hba)
 have Qs4 := Lib.hid (Qs3.out.kept hba)
 have Hl4 := Lib.hid (Blk.new W1 #[.int .i64 0, .int .i64 1, .int .i64 1, .int .i64 70] 64)
 have HB4 := Lib.hid (HB3.out.alloc HB3.out.size (.cells #[.int .i64 0, .int .i64 1, .int .i64 1, .int .i64 70] 64))
 have HZ4 := kzq HZ3 hba.size
 have HGgl : Hid (w.heap.size ≤ W1.heap.size) := Lib.hid HB3.out.size
 clear hba Hc3 Qc3 Qs3 HB3 HZ3
 go_upto_region 4 with fail
 generalize (W1.alloc (.cells #[.int .i64 0, .int .i64 1, .int .i64 1, .int .i64 70] 64)) = W2 at *
 generalize hggl : W1.heap.size = gl at *
 clear hggl
 obtain ⟨bo, oo, hpv, hsa⟩ := Qs4.out.at_ (by decide)
 subst hpv
 obtain ⟨za, hz1, hz2, hz3⟩ := hsa 1 (by decide)
 have HMa : Hid (za.x.m = askM 1 0) := Lib.hid hz2
 have Qza4 := Lib.hid hz3
 clear hz1 hz2 hz3
 clear hsa Qs4
 have e1 : W2.cell? ⟨bo, oo + 13, none⟩ = some (.int .i64 10) := by
  have h := Qza4.out.1.2.2 1 (by decide)
  have h2 : (SdX.cells za)[1]? = some (.int .i64 za.x.m.k) := rfl
  rw [HMa.out] at h2
  exact h.trans h2
 have e6 : W2.cell? ⟨bo, oo + 19, none⟩ = some (.int .i64 1) := by
  have h := Qza4.out.1.2.2 7 (by decide)
  have h2 : (SdX.cells za)[7]? = some (.int .i64 za.x.m.y) := rfl
  rw [HMa.out] at h2
  exact h.trans h2
 go_upto_region 6 with fail
 clear e1 e6
 have HG := Lib.hid (cdo_q W2 (NotIn [w.heap.size]) 2 2 rfl p1 n1 c1 rsA (⟨mO, some ⟨gl, 0, none⟩, 1, none, 0⟩ : MsgX) 0 Qc4.out (fun b hb hm => by have h0 := Hc4.out.lt; simp only [List.mem_cons, List.not_mem_nil, or_false] at hm; omega) (by rw [Qc4.out.n]; decide) (by decide) (by decide) (fun _ => True) ⟨TRow.one_ encN ll1 Hl4.out rfl (Nat.le_refl _), Row.nil_ _ _ 0, fun _ _ _ _ _ _ => trivial, fun _ _ _ _ _ _ => trivial, ⟨by show 1 * 32 ≤ _; decide, by show 0 * 8 ≤ _; decide⟩⟩ (by show 1 ≤ 60; decide) rsB [] 0 lead2)
 simp only [mO, ll1, Msg.v, List.length_cons, List.length_nil, Nat.zero_add] at HG
 have a0 : W2.cell? ⟨w.heap.size, 0, none⟩ = some (.int .i64 2) := Hc4.out.cell 0
 have a1 : W2.cell? ⟨w.heap.size, 1, none⟩ = some (.slice p1 n1 c1) := Hc4.out.cell 1
 go_wp2_with fail
 clear a0 a1 
 refine HG.out.mono ?_
 rintro y9 w3 ⟨hb, p3, n3, c3, pv3, nv3, cv3, rfl, hc, hnv, hsd⟩
 clear HG Qc4
 clear Qza4
 have Hc5 := kbq Hc4 hb
 have Hl5 := kbq Hl4 hb
 have HB5 := ktq HB4 hb
 have HZ5 := kzq HZ4 hb.size
 clear Hc4 Hl4 HB4 HZ4
 clear hb
 have Qc5 := Lib.hid hc
 have Qs5 := Lib.hid hsd
 clear hc hsd
 replace hnv : nv3 = 0 := hnv
 subst hnv
 go_wp2_with (with_reducible refine stop_storeT 27 (.tmp 1) (.tmp 47) rfl ?_)
 have HTH : Hid (w3.there w.heap.size 0 2) := Hc5.out.thereAt
 have hch : Hid (Chg w.heap.size w3 (w3.setCells w.heap.size 0 (#[.int .i64 2, .slice p3 n3 c3] : Array Value).toList)) := Lib.hid (chg_putL _ _ _ _ _ (Chg.refl _ w3))
 have Hc6 : Hid (Blk (w3.setCells w.heap.size 0 (#[.int .i64 2, .slice p3 n3 c3] : Array Value).toList) w.heap.size #[.int .i64 2, .slice p3 n3 c3] 27) := Lib.hid (blk_put_all Hc5.out _ rfl)
 have HB6 : Hid (Below w.heap.size w (w3.setCells w.heap.size 0 (#[.int .i64 2, .slice p3 n3 c3] : Array Value).toList)) := Lib.hid (below_put (by have := HGL.out; omega) _ _ _ _ HB5.out)
 have HZ6 := kzq HZ5 hch.out.size
 have Hl6 := kcq Hl5 hch (by have := HGL.out; omega)
 have Qc6 := Lib.hid (Qc5.out.chg hch.out (notIn_self (by simp)))
 have Qs6 := Lib.hid (Qs5.out.chg hch.out (notIn_self (by simp)))
 clear hch Hc5 Hl5 Qc5 Qs5 HB5 HZ5
 refine wpList_store_mid rfl 27 (.tmp 1) (.tmp 47) rfl w.heap.size 0 #[.int .i64 2, .slice p3 n3 c3] rfl rfl HTH.out (infoC2 rfl) (all_oneCell_toArray (by intro u hu; simp at hu; rcases hu with rfl | rfl <;> rfl)) ?_
 generalize (w3.setCells w.heap.size 0 (#[.int .i64 2, .slice p3 n3 c3] : Array Value).toList) = W3 at *
 clear HTH
 have HG := Lib.hid (cdo_q W3 (NotIn [w.heap.size]) 2 2 rfl p3 n3 c3 rsB (⟨mO, some ⟨gl, 0, none⟩, 1, none, 0⟩ : MsgX) 1 Qc6.out (fun b hb hm => by have h0 := Hc6.out.lt; simp only [List.mem_cons, List.not_mem_nil, or_false] at hm; omega) (by rw [Qc6.out.n]; decide) (by decide) (by decide) (fun _ => True) ⟨TRow.one_ encN ll1 Hl6.out rfl (Nat.le_refl _), Row.nil_ _ _ 0, fun _ _ _ _ _ _ => trivial, fun _ _ _ _ _ _ => trivial, ⟨by show 1 * 32 ≤ _; decide, by show 0 * 8 ≤ _; decide⟩⟩ (by show 1 ≤ 60; decide) rsC [(0, mP), (1, mP)] 0 lead3)
 simp only [mO, ll1, Msg.v, List.length_cons, List.length_nil, Nat.zero_add] at HG
 have a0 : W3.cell? ⟨w.heap.size, 0, none⟩ = some (.int .i64 2) := Hc6.out.cell 0
 have a1 : W3.cell? ⟨w.heap.size, 1, none⟩ = some (.slice p3 n3 c3) := Hc6.out.cell 1
 go_wp2_with fail
 clear a0 a1 
 refine HG.out.mono ?_
 rintro y9 w4 ⟨hb, p4, n4, c4, pv4, nv4, cv4, rfl, hc, hnv, hsd⟩
 clear HG Qc6
 clear Qs6
 have Hc7 := kbq Hc6 hb
 have Hl7 := kbq Hl6 hb
 have HB7 := ktq HB6 hb
 have HZ7 := kzq HZ6 hb.size
 clear Hc6 Hl6 HB6 HZ6
 clear hb
 have Qc7 := Lib.hid hc
 have Qs7 := Lib.hid hsd
 clear hc hsd
 replace hnv : nv4 = 2 := hnv
 subst hnv
 go_wp2_with (with_reducible refine stop_storeT 27 (.tmp 1) (.tmp 55) rfl ?_)
 have HTH : Hid (w4.there w.heap.size 0 2) := Hc7.out.thereAt
 have hch : Hid (Chg w.heap.size w4 (w4.setCells w.heap.size 0 (#[.int .i64 2, .slice p4 n4 c4] : Array Value).toList)) := Lib.hid (chg_putL _ _ _ _ _ (Chg.refl _ w4))
 have Hc8 : Hid (Blk (w4.setCells w.heap.size 0 (#[.int .i64 2, .slice p4 n4 c4] : Array Value).toList) w.heap.size #[.int .i64 2, .slice p4 n4 c4] 27) := Lib.hid (blk_put_all Hc7.out _ rfl)
 have HB8 : Hid (Below w.heap.size w (w4.setCells w.heap.size 0 (#[.int .i64 2, .slice p4 n4 c4] : Array Value).toList)) := Lib.hid (below_put (by have := HGL.out; omega) _ _ _ _ HB7.out)
 have HZ8 := kzq HZ7 hch.out.size
 have Hl8 := kcq Hl7 hch (by have := HGL.out; omega)
 have Qc8 := Lib.hid (Qc7.out.chg hch.out (notIn_self (by simp)))
 have Qs8 := Lib.hid (Qs7.out.chg hch.out (notIn_self (by simp)))
 clear hch Hc7 Hl7 Qc7 Qs7 HB7 HZ7
 refine wpList_store_mid rfl 27 (.tmp 1) (.tmp 55) rfl w.heap.size 0 #[.int .i64 2, .slice p4 n4 c4] rfl rfl HTH.out (infoC2 rfl) (all_oneCell_toArray (by intro u hu; simp at hu; rcases hu with rfl | rfl <;> rfl)) ?_
 generalize (w4.setCells w.heap.size 0 (#[.int .i64 2, .slice p4 n4 c4] : Array Value).toList) = W4 at *
 clear HTH
 obtain ⟨bp, op, hpv, hsa⟩ := Qs8.out.at_ (by decide)
 subst hpv
 obtain ⟨zb, hz1, hz2, hz3⟩ := hsa 0 (by decide)
 have HMb : Hid (zb.x.m = mP) := Lib.hid hz2
 have Qzb8 := Lib.hid hz3
 clear hz1 hz2 hz3
 clear hsa Qs8
 obtain ⟨bn, on, hpn, hbn, hcn⟩ := Row.atc (show Row .i64 W4 (.slice zb.x.pn zb.x.m.ns.length zb.x.cn) zb.x.m.ns from Qzb8.out.2.ns) 1 (by rw [HMb.out]; decide)
 have e10 : W4.cell? ⟨bp, op + 11, none⟩ = some (.slice (some ⟨bn, on, none⟩) 2 zb.x.cn) := by
  have h := Qzb8.out.1.2.2 11 (by decide)
  have h2 : (SdX.cells zb)[11]? = some (.slice zb.x.pn zb.x.m.ns.length zb.x.cn) := rfl
  rw [HMb.out, hpn] at h2
  have h3 : W4.cell? ⟨bp, op + 11, none⟩ = (SdX.cells zb)[11]? := by
   have h4 := h
   rwa [Nat.zero_mul, Nat.add_zero] at h4
  exact h3.trans h2
 have e11 : W4.cell? ⟨bn, on + 1, none⟩ = some (.int .i64 (-70)) := by rw [hcn, HMb.out]; rfl
 clear hpn hbn hcn
 go_upto_region 10 with fail
 clear e10 e11
 have HG := Lib.hid (cdo_q W4 (NotIn [w.heap.size]) 2 2 rfl p4 n4 c4 rsC (⟨mV, none, 0, none, 0⟩ : MsgX) 1 Qc8.out (fun b hb hm => by have h0 := Hc8.out.lt; simp only [List.mem_cons, List.not_mem_nil, or_false] at hm; omega) (by rw [Qc8.out.n]; decide) (by decide) (by decide) (fun _ => True) ⟨TRow.nil_ _ _, Row.nil_ _ _ 0, At.nil_ _ _, At.nil_ _ _, ⟨by show 0 * 32 ≤ _; decide, by show 0 * 8 ≤ _; decide⟩⟩ (by decide) rsD [] 0 lead4)
 simp only [mV, ll1, Msg.v, List.length_cons, List.length_nil, Nat.zero_add] at HG
 have a0 : W4.cell? ⟨w.heap.size, 0, none⟩ = some (.int .i64 2) := Hc8.out.cell 0
 have a1 : W4.cell? ⟨w.heap.size, 1, none⟩ = some (.slice p4 n4 c4) := Hc8.out.cell 1
 go_wp2_with fail
 clear a0 a1 
 refine HG.out.mono ?_
 rintro y9 w5 ⟨hb, p5, n5, c5, pv5, nv5, cv5, rfl, hc, hnv, hsd⟩
 clear HG Qc8
 clear Qzb8
 have Hc9 := kbq Hc8 hb
 have Hl9 := kbq Hl8 hb
 have HB9 := ktq HB8 hb
 have HZ9 := kzq HZ8 hb.size
 clear Hc8 Hl8 HB8 HZ8
 clear hb
 have Qc9 := Lib.hid hc
 have Qs9 := Lib.hid hsd
 clear hc hsd
 replace hnv : nv5 = 0 := hnv
 subst hnv
 go_wp2_with (with_reducible refine stop_storeT 27 (.tmp 1) (.tmp 90) rfl ?_)
 have HTH : Hid (w5.there w.heap.size 0 2) := Hc9.out.thereAt
 have hch : Hid (Chg w.heap.size w5 (w5.setCells w.heap.size 0 (#[.int .i64 2, .slice p5 n5 c5] : Array Value).toList)) := Lib.hid (chg_putL _ _ _ _ _ (Chg.refl _ w5))
 have Hc10 : Hid (Blk (w5.setCells w.heap.size 0 (#[.int .i64 2, .slice p5 n5 c5] : Array Value).toList) w.heap.size #[.int .i64 2, .slice p5 n5 c5] 27) := Lib.hid (blk_put_all Hc9.out _ rfl)
 have HB10 : Hid (Below w.heap.size w (w5.setCells w.heap.size 0 (#[.int .i64 2, .slice p5 n5 c5] : Array Value).toList)) := Lib.hid (below_put (by have := HGL.out; omega) _ _ _ _ HB9.out)
 have HZ10 := kzq HZ9 hch.out.size
 have Hl10 := kcq Hl9 hch (by have := HGL.out; omega)
 have Qc10 := Lib.hid (Qc9.out.chg hch.out (notIn_self (by simp)))
 have Qs10 := Lib.hid (Qs9.out.chg hch.out (notIn_self (by simp)))
 clear hch Hc9 Hl9 Qc9 Qs9 HB9 HZ9
 refine wpList_store_mid rfl 27 (.tmp 1) (.tmp 90) rfl w.heap.size 0 #[.int .i64 2, .slice p5 n5 c5] rfl rfl HTH.out (infoC2 rfl) (all_oneCell_toArray (by intro u hu; simp at hu; rcases hu with rfl | rfl <;> rfl)) ?_
 generalize (w5.setCells w.heap.size 0 (#[.int .i64 2, .slice p5 n5 c5] : Array Value).toList) = W5 at *
 clear HTH
 have HG := Lib.hid (cdo_q W5 (NotIn [w.heap.size]) 2 2 rfl p5 n5 c5 rsD (⟨mV, none, 0, none, 0⟩ : MsgX) 0 Qc10.out (fun b hb hm => by have h0 := Hc10.out.lt; simp only [List.mem_cons, List.not_mem_nil, or_false] at hm; omega) (by rw [Qc10.out.n]; decide) (by decide) (by decide) (fun _ => True) ⟨TRow.nil_ _ _, Row.nil_ _ _ 0, At.nil_ _ _, At.nil_ _ _, ⟨by show 0 * 32 ≤ _; decide, by show 0 * 8 ≤ _; decide⟩⟩ (by decide) rsE [(0, mD), (1, mD)] 0 lead5)
 simp only [mV, ll1, Msg.v, List.length_cons, List.length_nil, Nat.zero_add] at HG
 have a0 : W5.cell? ⟨w.heap.size, 0, none⟩ = some (.int .i64 2) := Hc10.out.cell 0
 have a1 : W5.cell? ⟨w.heap.size, 1, none⟩ = some (.slice p5 n5 c5) := Hc10.out.cell 1
 go_wp2_with fail
 clear a0 a1 
 refine HG.out.mono ?_
 rintro y9 w6 ⟨hb, p6, n6, c6, pv6, nv6, cv6, rfl, hc, hnv, hsd⟩
 clear HG Qc10
 clear Qs10
 have Hc11 := kbq Hc10 hb
 have Hl11 := kbq Hl10 hb
 have HB11 := ktq HB10 hb
 have HZ11 := kzq HZ10 hb.size
 clear Hc10 Hl10 HB10 HZ10
 clear hb
 have Qc11 := Lib.hid hc
 have Qs11 := Lib.hid hsd
 clear hc hsd
 replace hnv : nv6 = 2 := hnv
 subst hnv
 go_wp2_with (with_reducible refine stop_storeT 27 (.tmp 1) (.tmp 97) rfl ?_)
 have HTH : Hid (w6.there w.heap.size 0 2) := Hc11.out.thereAt
 have hch : Hid (Chg w.heap.size w6 (w6.setCells w.heap.size 0 (#[.int .i64 2, .slice p6 n6 c6] : Array Value).toList)) := Lib.hid (chg_putL _ _ _ _ _ (Chg.refl _ w6))
 have Hc12 : Hid (Blk (w6.setCells w.heap.size 0 (#[.int .i64 2, .slice p6 n6 c6] : Array Value).toList) w.heap.size #[.int .i64 2, .slice p6 n6 c6] 27) := Lib.hid (blk_put_all Hc11.out _ rfl)
 have HB12 : Hid (Below w.heap.size w (w6.setCells w.heap.size 0 (#[.int .i64 2, .slice p6 n6 c6] : Array Value).toList)) := Lib.hid (below_put (by have := HGL.out; omega) _ _ _ _ HB11.out)
 have HZ12 := kzq HZ11 hch.out.size
 have Hl12 := kcq Hl11 hch (by have := HGL.out; omega)
 have Qc12 := Lib.hid (Qc11.out.chg hch.out (notIn_self (by simp)))
 have Qs12 := Lib.hid (Qs11.out.chg hch.out (notIn_self (by simp)))
 clear hch Hc11 Hl11 Qc11 Qs11 HB11 HZ11
 refine wpList_store_mid rfl 27 (.tmp 1) (.tmp 97) rfl w.heap.size 0 #[.int .i64 2, .slice p6 n6 c6] rfl rfl HTH.out (infoC2 rfl) (all_oneCell_toArray (by intro u hu; simp at hu; rcases hu with rfl | rfl <;> rfl)) ?_
 generalize (w6.setCells w.heap.size 0 (#[.int .i64 2, .slice p6 n6 c6] : Array Value).toList) = W6 at *
 clear HTH
 obtain ⟨bd, od, hpv, hsa⟩ := Qs12.out.at_ (by decide)
 subst hpv
 obtain ⟨zd, hz1, hz2, hz3⟩ := hsa 0 (by decide)
 have HMd : Hid (zd.x.m = mD) := Lib.hid hz2
 have Qzd12 := Lib.hid hz3
 clear hz1 hz2 hz3
 clear hsa Qs12
 have HG := Lib.hid (cget_q W6 (NotIn [w.heap.size]) 2 2 rfl 1 p6 n6 c6 rsE Qc12.out (by rw [Qc12.out.n]; decide) (by decide) (by decide) true rfl)
 have a0 : W6.cell? ⟨w.heap.size, 0, none⟩ = some (.int .i64 2) := Hc12.out.cell 0
 have a1 : W6.cell? ⟨w.heap.size, 1, none⟩ = some (.slice p6 n6 c6) := Hc12.out.cell 1
 go_wp2_with fail
 clear a0 a1
 refine HG.out.mono ?_
 rintro y9 w7 ⟨hb, x, rfl, hg⟩
 clear HG
 have HXR : Hid (x.r.st = 3) := Lib.hid (by rw [(hg.1 rfl).1]; rfl)
 clear hg
 unfold RunX.v
 have Hc13 := kbq Hc12 hb
 have Hl13 := kbq Hl12 hb
 have Qc13 := Lib.hid (Qc12.out.kept hb)
 have Qzd13 := Lib.hid (Qzd12.out.kept hb)
 have HB13 := ktq HB12 hb
 have HZ13 := kzq HZ12 hb.size
 clear Hc12 Hl12 Qc12 Qzd12 HB12 HZ12
 clear hb
 have hba := oneB w7 (.cells #[.int .i64 x.r.cu, .int .i64 x.r.st, .slice x.pf x.r.hs.length x.cf, .slice x.pl x.r.ls.length x.cl, .slice x.pn x.r.ns.length x.cn] 56)
 have Hc14 := kbq Hc13 hba
 have Hl14 := kbq Hl13 hba
 have Qc14 := Lib.hid (Qc13.out.kept hba)
 have Qzd14 := Lib.hid (Qzd13.out.kept hba)
 have Hx14 := Lib.hid (Blk.new w7 #[.int .i64 x.r.cu, .int .i64 x.r.st, .slice x.pf x.r.hs.length x.cf, .slice x.pl x.r.ls.length x.cl, .slice x.pn x.r.ns.length x.cn] 56)
 have HB14 := Lib.hid (HB13.out.alloc HB13.out.size (.cells #[.int .i64 x.r.cu, .int .i64 x.r.st, .slice x.pf x.r.hs.length x.cf, .slice x.pl x.r.ls.length x.cl, .slice x.pn x.r.ns.length x.cn] 56))
 have HZ14 := kzq HZ13 hba.size
 have HGgx : Hid (w.heap.size ≤ w7.heap.size) := Lib.hid HB13.out.size
 clear hba Hc13 Hl13 Qc13 Qzd13 HB13 HZ13
 go_upto_region 13 with fail
 generalize (w7.alloc (.cells #[.int .i64 x.r.cu, .int .i64 x.r.st, .slice x.pf x.r.hs.length x.cf, .slice x.pl x.r.ls.length x.cl, .slice x.pn x.r.ns.length x.cn] 56)) = W8 at *
 generalize hggx : w7.heap.size = gx at *
 clear hggx
 have e1 : W8.cell? ⟨gx, 1, none⟩ = some (.int .i64 3) := by have h := Hx14.out.cell 1; have h2 := HXR.out; rw [h]; show some (Value.int .i64 x.r.st) = _; rw [h2]
 have e9 : W8.cell? ⟨bd, od + 9, none⟩ = some (.bool true) := by
  have h := Qzd14.out.1.2.2 9 (by decide)
  have h2 : (SdX.cells zd)[9]? = some (.bool zd.x.m.t) := rfl
  rw [HMd.out] at h2
  rw [Nat.zero_mul, Nat.add_zero] at h
  exact h.trans h2
 have HG := Lib.hid (cwaits_q W8 (NotIn [w.heap.size]) 2 2 rfl p6 n6 c6 rsE Qc14.out (by rw [Qc14.out.n]; decide) [] (by rw [Qc14.out.n]; rfl))
 have a0 : W8.cell? ⟨w.heap.size, 0, none⟩ = some (.int .i64 2) := Hc14.out.cell 0
 have a1 : W8.cell? ⟨w.heap.size, 1, none⟩ = some (.slice p6 n6 c6) := Hc14.out.cell 1
 go_wp2_with fail
 clear a0 a1 e1 e9
 refine HG.out.mono ?_
 rintro y9 w9 ⟨hb, pw, nw, cw, rfl, hnw, hrw⟩
 clear HG hrw
 replace hnw : nw = 0 := hnw
 subst hnw
 have Hc15 := kbq Hc14 hb
 have Hl15 := kbq Hl14 hb
 have Hx15 := kbq Hx14 hb
 have Qc15 := Lib.hid (Qc14.out.kept hb)
 have Qzd15 := Lib.hid (Qzd14.out.kept hb)
 have HB15 := ktq HB14 hb
 have HZ15 := kzq HZ14 hb.size
 clear Hc14 Hl14 Hx14 Qc14 Qzd14 HB14 HZ14
 clear hb
 go_wp2_with fail
 go_ret
 exact ⟨rfl, HB15.out⟩
end Go.Proofs.Yteogdfpkcoodlaa
