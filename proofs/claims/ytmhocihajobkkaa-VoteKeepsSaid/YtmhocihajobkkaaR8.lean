/- vote's Do by contract. vote: what a word does to items and cycles, in plain words. vote.Parts.Do in a law: the cycles and the book's items, in blocks of Q. A row of structs that lies whole in a block. the three steps of contralaw17.votes. -/
import Derived.Test.YtmhocihajobkkaaR6
import Derived.Test.YtmhocihajobkkaaR7
import Derived.Test.YtmhocihajobkkaaR3
import Derived.Test.YtmhocihajobkkaaR2
import Derived.Test.YtmhocihajobkkaaR1
namespace Go.Proofs.Ytmhocihajobkkaa
open Go.RowKit
set_option linter.unusedSimpArgs false
set_option linter.unusedSimpArgs false in
set_option maxHeartbeats 4000000 in
set_option maxRecDepth 100000 in
theorem at_ask (w : World) (me N : Int) (p : Option Addr) (n c : Nat) : Calls Try.prog 19 #[.agg #[.int .i64 me, .int .i64 N, .slice p n c], .int .i64 10] w fun e w' => e = .returned (.func (.func 30) #[.agg #[.int .i64 me, .int .i64 N, .slice p n c]] #[]) ∧ Below w.heap.size w w' := by
 have hmf : ∀ (fn : Fn) (first cap : Array Value) (w : World), (Instr.makeFunc fn first cap).run Try.prog w = .ok (.func fn first cap) w := fun _ _ _ _ => rfl
 have HB0 : Hid (Below w.heap.size w (w.alloc (.cells #[.int .i64 me, .int .i64 N, .slice p n c] 36))) := Lib.hid ((oneB w _))
 have Hp0 : Hid (Blk (w.alloc (.cells #[.int .i64 me, .int .i64 N, .slice p n c] 36)) w.heap.size #[.int .i64 me, .int .i64 N, .slice p n c] 36) := Lib.hid (Blk.new w #[.int .i64 me, .int .i64 N, .slice p n c] 36)
 have HZ0 : Hid (w.heap.size ≤ (w.alloc (.cells #[.int .i64 me, .int .i64 N, .slice p n c] 36)).heap.size) := Lib.hid HB0.out.size
 go_enter Try.func19, Try.ntmps19
 go_upto_region 1 with fail
 generalize (w.alloc (.cells #[.int .i64 me, .int .i64 N, .slice p n c] 36)) = W at *
 have a0 : W.cell? ⟨w.heap.size, 0, none⟩ = some (.int .i64 me) := Hp0.out.cell 0
 have a1 : W.cell? ⟨w.heap.size, 1, none⟩ = some (.int .i64 N) := Hp0.out.cell 1
 have a2 : W.cell? ⟨w.heap.size, 2, none⟩ = some (.slice p n c) := Hp0.out.cell 2
 go_wp2_with fail
 go_ret
 exact ⟨rfl, HB0.out⟩
set_option linter.unusedSimpArgs false in
set_option maxHeartbeats 4000000 in
set_option maxRecDepth 100000 in
theorem at_prepare (w : World) (me N : Int) (p : Option Addr) (n c : Nat) : Calls Try.prog 19 #[.agg #[.int .i64 me, .int .i64 N, .slice p n c], .int .i64 12] w fun e w' => e = .returned (.func (.func 31) #[.agg #[.int .i64 me, .int .i64 N, .slice p n c]] #[]) ∧ Below w.heap.size w w' := by
 have hmf : ∀ (fn : Fn) (first cap : Array Value) (w : World), (Instr.makeFunc fn first cap).run Try.prog w = .ok (.func fn first cap) w := fun _ _ _ _ => rfl
 have HB0 : Hid (Below w.heap.size w (w.alloc (.cells #[.int .i64 me, .int .i64 N, .slice p n c] 36))) := Lib.hid ((oneB w _))
 have Hp0 : Hid (Blk (w.alloc (.cells #[.int .i64 me, .int .i64 N, .slice p n c] 36)) w.heap.size #[.int .i64 me, .int .i64 N, .slice p n c] 36) := Lib.hid (Blk.new w #[.int .i64 me, .int .i64 N, .slice p n c] 36)
 have HZ0 : Hid (w.heap.size ≤ (w.alloc (.cells #[.int .i64 me, .int .i64 N, .slice p n c] 36)).heap.size) := Lib.hid HB0.out.size
 go_enter Try.func19, Try.ntmps19
 go_upto_region 1 with fail
 generalize (w.alloc (.cells #[.int .i64 me, .int .i64 N, .slice p n c] 36)) = W at *
 have a0 : W.cell? ⟨w.heap.size, 0, none⟩ = some (.int .i64 me) := Hp0.out.cell 0
 have a1 : W.cell? ⟨w.heap.size, 1, none⟩ = some (.int .i64 N) := Hp0.out.cell 1
 have a2 : W.cell? ⟨w.heap.size, 2, none⟩ = some (.slice p n c) := Hp0.out.cell 2
 go_wp2_with fail
 go_ret
 exact ⟨rfl, HB0.out⟩
set_option linter.unusedSimpArgs false in
set_option maxHeartbeats 4000000 in
set_option maxRecDepth 100000 in
theorem at_decide (w : World) (me N : Int) (p : Option Addr) (n c : Nat) : Calls Try.prog 19 #[.agg #[.int .i64 me, .int .i64 N, .slice p n c], .int .i64 14] w fun e w' => e = .returned (.func (.func 32) #[.agg #[.int .i64 me, .int .i64 N, .slice p n c]] #[]) ∧ Below w.heap.size w w' := by
 have hmf : ∀ (fn : Fn) (first cap : Array Value) (w : World), (Instr.makeFunc fn first cap).run Try.prog w = .ok (.func fn first cap) w := fun _ _ _ _ => rfl
 have HB0 : Hid (Below w.heap.size w (w.alloc (.cells #[.int .i64 me, .int .i64 N, .slice p n c] 36))) := Lib.hid ((oneB w _))
 have Hp0 : Hid (Blk (w.alloc (.cells #[.int .i64 me, .int .i64 N, .slice p n c] 36)) w.heap.size #[.int .i64 me, .int .i64 N, .slice p n c] 36) := Lib.hid (Blk.new w #[.int .i64 me, .int .i64 N, .slice p n c] 36)
 have HZ0 : Hid (w.heap.size ≤ (w.alloc (.cells #[.int .i64 me, .int .i64 N, .slice p n c] 36)).heap.size) := Lib.hid HB0.out.size
 go_enter Try.func19, Try.ntmps19
 go_upto_region 1 with fail
 generalize (w.alloc (.cells #[.int .i64 me, .int .i64 N, .slice p n c] 36)) = W at *
 have a0 : W.cell? ⟨w.heap.size, 0, none⟩ = some (.int .i64 me) := Hp0.out.cell 0
 have a1 : W.cell? ⟨w.heap.size, 1, none⟩ = some (.int .i64 N) := Hp0.out.cell 1
 have a2 : W.cell? ⟨w.heap.size, 2, none⟩ = some (.slice p n c) := Hp0.out.cell 2
 go_wp2_with fail
 go_ret
 exact ⟨rfl, HB0.out⟩
set_option linter.unusedSimpArgs false in
set_option maxHeartbeats 4000000 in
set_option maxRecDepth 100000 in
theorem at_due (w : World) (me N : Int) (p : Option Addr) (n c : Nat) : Calls Try.prog 19 #[.agg #[.int .i64 me, .int .i64 N, .slice p n c], .int .i64 16] w fun e w' => e = .returned (.func (.func 33) #[.agg #[.int .i64 me, .int .i64 N, .slice p n c]] #[]) ∧ Below w.heap.size w w' := by
 have hmf : ∀ (fn : Fn) (first cap : Array Value) (w : World), (Instr.makeFunc fn first cap).run Try.prog w = .ok (.func fn first cap) w := fun _ _ _ _ => rfl
 have HB0 : Hid (Below w.heap.size w (w.alloc (.cells #[.int .i64 me, .int .i64 N, .slice p n c] 36))) := Lib.hid ((oneB w _))
 have Hp0 : Hid (Blk (w.alloc (.cells #[.int .i64 me, .int .i64 N, .slice p n c] 36)) w.heap.size #[.int .i64 me, .int .i64 N, .slice p n c] 36) := Lib.hid (Blk.new w #[.int .i64 me, .int .i64 N, .slice p n c] 36)
 have HZ0 : Hid (w.heap.size ≤ (w.alloc (.cells #[.int .i64 me, .int .i64 N, .slice p n c] 36)).heap.size) := Lib.hid HB0.out.size
 go_enter Try.func19, Try.ntmps19
 go_upto_region 1 with fail
 generalize (w.alloc (.cells #[.int .i64 me, .int .i64 N, .slice p n c] 36)) = W at *
 have a0 : W.cell? ⟨w.heap.size, 0, none⟩ = some (.int .i64 me) := Hp0.out.cell 0
 have a1 : W.cell? ⟨w.heap.size, 1, none⟩ = some (.int .i64 N) := Hp0.out.cell 1
 have a2 : W.cell? ⟨w.heap.size, 2, none⟩ = some (.slice p n c) := Hp0.out.cell 2
 go_wp2_with fail
 go_ret
 exact ⟨rfl, HB0.out⟩
set_option linter.unusedSimpArgs false in
set_option maxHeartbeats 4000000 in
set_option maxRecDepth 100000 in
theorem at_none (w : World) (me N k : Int) (p : Option Addr) (n c : Nat) (h0 : k ≠ 10) (h1 : k ≠ 12) (h2 : k ≠ 14) (h3 : k ≠ 16) : Calls Try.prog 19 #[.agg #[.int .i64 me, .int .i64 N, .slice p n c], .int .i64 k] w fun e w' => e = .returned .nilFunc ∧ Below w.heap.size w w' := by
 have e0 : (k == 10) = false := by simpa using h0
 have e1 : (k == 12) = false := by simpa using h1
 have e2 : (k == 14) = false := by simpa using h2
 have e3 : (k == 16) = false := by simpa using h3
 clear h0 h1 h2 h3
 have HB0 : Hid (Below w.heap.size w (w.alloc (.cells #[.int .i64 me, .int .i64 N, .slice p n c] 36))) := Lib.hid ((oneB w _))
 have Hp0 : Hid (Blk (w.alloc (.cells #[.int .i64 me, .int .i64 N, .slice p n c] 36)) w.heap.size #[.int .i64 me, .int .i64 N, .slice p n c] 36) := Lib.hid (Blk.new w #[.int .i64 me, .int .i64 N, .slice p n c] 36)
 have HZ0 : Hid (w.heap.size ≤ (w.alloc (.cells #[.int .i64 me, .int .i64 N, .slice p n c] 36)).heap.size) := Lib.hid HB0.out.size
 go_enter Try.func19, Try.ntmps19
 go_upto_region 1 with fail
 generalize (w.alloc (.cells #[.int .i64 me, .int .i64 N, .slice p n c] 36)) = W at *
 have a0 : W.cell? ⟨w.heap.size, 0, none⟩ = some (.int .i64 me) := Hp0.out.cell 0
 have a1 : W.cell? ⟨w.heap.size, 1, none⟩ = some (.int .i64 N) := Hp0.out.cell 1
 have a2 : W.cell? ⟨w.heap.size, 2, none⟩ = some (.slice p n c) := Hp0.out.cell 2
 go_wp2_with fail
 go_ret
 exact ⟨rfl, HB0.out⟩
theorem veqin_f (w : World) (d : Nat) (F : FuncId) (fs cs : Array Value) : (Op.equalIn (d + 1) 72 (.func (.func F) fs cs) .nilFunc).run Try.prog w = .ok false w := by
 simp [Op.equalIn, run_underlying Try.underlying72]
theorem veqin_n (w : World) (d : Nat) : (Op.equalIn (d + 1) 72 .nilFunc .nilFunc).run Try.prog w = .ok true w := by
 simp [Op.equalIn, run_underlying Try.underlying72]
theorem veqf (w : World) (F : FuncId) (fs cs : Array Value) : (binOp .eql 72 (.func (.func F) fs cs) .nilFunc).run Try.prog w = .ok (.bool false) w := by
 simp only [binOp]
 simp [Op.equal, Op.maxDepth, veqin_f w 9999 F fs cs]
theorem veqn (w : World) : (binOp .eql 72 .nilFunc .nilFunc).run Try.prog w = .ok (.bool true) w := by
 simp only [binOp]
 simp [Op.equal, Op.maxDepth, veqin_n w 9999]
def DueG (N : Int) (ps : List PtX) (xs : List Itm) (m : Msg) (ps2 : List PtX) (xs2 : List Itm) (out : List SdX) (e : Int) : Prop := ps2 = ps ∧ xs2 = xs ∧ out = [⟨N, sayX 15 m.y false⟩] ∧ e = (openP ps m.y).2
/-- What is done at a kind of message. -/
def actG (me N : Int) (ps : List PtX) (xs : List Itm) (m : Msg) : List PtX → List Itm → List SdX → Int → Prop :=
 if m.k = 10 then AskG N ps xs m else if m.k = 12 then PrepG me N ps xs m else if m.k = 14 then DecG ps xs m else DueG N ps xs m
def kindBad (m : Msg) (fro : Int) : Prop := (m.k ≠ 10 ∧ m.k ≠ 12 ∧ m.k ≠ 14 ∧ m.k ≠ 16) ∨ ¬ ((fro = -1) ↔ (m.k = 16))
/-- What Do makes of what an act answers. -/
def DoV (G : List PtX → List Itm → List SdX → Int → Prop) (ps : List PtX) (xs : List Itm) (ps2 : List PtX) (xs2 : List Itm) (out : List SdX) (e : Int) : Prop :=
 ∃ ps3 xs3 out3 e3, G ps3 xs3 out3 e3 ∧ (e3 ≠ 0 → ps2 = ps ∧ xs2 = xs ∧ out = [] ∧ e = e3) ∧ (e3 = 0 → ps2 = ps3 ∧ xs2 = xs3 ∧ out = out3 ∧ e = 0)
def VoteG (me N : Int) (ps : List PtX) (xs : List Itm) (m : Msg) (fro : Int) (ps2 : List PtX) (xs2 : List Itm) (out : List SdX) (e : Int) : Prop :=
 (kindBad m fro → ps2 = ps ∧ xs2 = xs ∧ out = [] ∧ e = 110) ∧ (¬ kindBad m fro → fro ≠ -1 → fro ≠ N → ps2 = ps ∧ xs2 = xs ∧ out = [] ∧ e = 140) ∧
 (¬ kindBad m fro → (fro = -1 ∨ fro = N) → DoV (actG me N ps xs m) ps xs ps2 xs2 out e)
set_option linter.unusedSimpArgs false in
set_option maxHeartbeats 4000000 in
set_option maxRecDepth 100000 in
theorem vdo_any (w : World) (P : Nat → Prop) (me N mb : Int) (p : Option Addr) (n c : Nat) (pi : Option Addr) (ni ci : Nat) (po : Option Addr) (no co : Nat) (ps : List PtX) (xs : List Itm) (y : MsgX) (hv : VIn w P p n c pi ni ci ps xs) (fro : Int) (hin : y.In w) (hls : y.m.ls.length ≤ 2000) (hns : y.m.ns.length ≤ 100000) (hgood : ∀ x ∈ xs, chkI x = 0 ∧ (x.s = mb ∨ x.b = mb)) (hql : ∀ z ∈ ps, z.ls.length ≤ 2000) :
  Calls Try.prog 9 #[.agg #[.int .i64 me, .int .i64 N, .slice p n c], bookV mb (.slice pi ni ci) (.slice po no co), y.m.v (.slice y.pl y.m.ls.length y.cl) (.slice y.pn y.m.ns.length y.cn), .int .i64 fro] w (VPost w P me N mb po no co (VoteG me N ps xs y.m fro)) := by
 have HV := Lib.hid hv
 have HIN := Lib.hid hin
 have HLN : Hid (y.m.ls.length ≤ 2000 ∧ y.m.ns.length ≤ 100000) := ⟨hls, hns⟩
 have HGD := Lib.hid hgood
 have HQL := Lib.hid hql
 have qE := veqf
 have qN := veqn
 clear hv hin hls hns hgood hql
 unfold bookV Msg.v
 have HB0 : Hid (Below w.heap.size w (((((w.alloc (.cells #[.int .i64 me, .int .i64 N, .slice p n c] 36)).alloc (.cells #[.int .i64 mb, .slice pi ni ci, .slice po no co] 28)).alloc (.cells #[.int .i64 y.m.k, .int .i64 y.m.s, .int .i64 y.m.n, .int .i64 y.m.b, .int .i64 y.m.c, .int .i64 y.m.r, .int .i64 y.m.y, .int .i64 y.m.a, .bool y.m.t, .slice y.pl y.m.ls.length y.cl, .slice y.pn y.m.ns.length y.cn] 46)).alloc (.cells #[.int .i64 0, .int .i64 0, .slice none 0 0] 36)).alloc (.cells #[.int .i64 0, .slice none 0 0, .slice none 0 0] 28))) := Lib.hid ((((((oneB w _).alloc (by simp <;> omega) _).alloc (by simp <;> omega) _).alloc (by simp <;> omega) _).alloc (by simp <;> omega) _))
 have Hp0 : Hid (Blk (((((w.alloc (.cells #[.int .i64 me, .int .i64 N, .slice p n c] 36)).alloc (.cells #[.int .i64 mb, .slice pi ni ci, .slice po no co] 28)).alloc (.cells #[.int .i64 y.m.k, .int .i64 y.m.s, .int .i64 y.m.n, .int .i64 y.m.b, .int .i64 y.m.c, .int .i64 y.m.r, .int .i64 y.m.y, .int .i64 y.m.a, .bool y.m.t, .slice y.pl y.m.ls.length y.cl, .slice y.pn y.m.ns.length y.cn] 46)).alloc (.cells #[.int .i64 0, .int .i64 0, .slice none 0 0] 36)).alloc (.cells #[.int .i64 0, .slice none 0 0, .slice none 0 0] 28)) w.heap.size #[.int .i64 me, .int .i64 N, .slice p n c] 36) := Lib.hid (((((Blk.new w #[.int .i64 me, .int .i64 N, .slice p n c] 36).alloc _).alloc _).alloc _).alloc _)
 have Hb0 : Hid (Blk (((((w.alloc (.cells #[.int .i64 me, .int .i64 N, .slice p n c] 36)).alloc (.cells #[.int .i64 mb, .slice pi ni ci, .slice po no co] 28)).alloc (.cells #[.int .i64 y.m.k, .int .i64 y.m.s, .int .i64 y.m.n, .int .i64 y.m.b, .int .i64 y.m.c, .int .i64 y.m.r, .int .i64 y.m.y, .int .i64 y.m.a, .bool y.m.t, .slice y.pl y.m.ls.length y.cl, .slice y.pn y.m.ns.length y.cn] 46)).alloc (.cells #[.int .i64 0, .int .i64 0, .slice none 0 0] 36)).alloc (.cells #[.int .i64 0, .slice none 0 0, .slice none 0 0] 28)) (w.heap.size + 1) #[.int .i64 mb, .slice pi ni ci, .slice po no co] 28) := Lib.hid ((((Blk.new' (w.alloc (.cells #[.int .i64 me, .int .i64 N, .slice p n c] 36)) #[.int .i64 mb, .slice pi ni ci, .slice po no co] 28 (by simp)).alloc _).alloc _).alloc _)
 have Hm0 : Hid (Blk (((((w.alloc (.cells #[.int .i64 me, .int .i64 N, .slice p n c] 36)).alloc (.cells #[.int .i64 mb, .slice pi ni ci, .slice po no co] 28)).alloc (.cells #[.int .i64 y.m.k, .int .i64 y.m.s, .int .i64 y.m.n, .int .i64 y.m.b, .int .i64 y.m.c, .int .i64 y.m.r, .int .i64 y.m.y, .int .i64 y.m.a, .bool y.m.t, .slice y.pl y.m.ls.length y.cl, .slice y.pn y.m.ns.length y.cn] 46)).alloc (.cells #[.int .i64 0, .int .i64 0, .slice none 0 0] 36)).alloc (.cells #[.int .i64 0, .slice none 0 0, .slice none 0 0] 28)) (w.heap.size + 1 + 1) #[.int .i64 y.m.k, .int .i64 y.m.s, .int .i64 y.m.n, .int .i64 y.m.b, .int .i64 y.m.c, .int .i64 y.m.r, .int .i64 y.m.y, .int .i64 y.m.a, .bool y.m.t, .slice y.pl y.m.ls.length y.cl, .slice y.pn y.m.ns.length y.cn] 46) := Lib.hid (((Blk.new' ((w.alloc (.cells #[.int .i64 me, .int .i64 N, .slice p n c] 36)).alloc (.cells #[.int .i64 mb, .slice pi ni ci, .slice po no co] 28)) #[.int .i64 y.m.k, .int .i64 y.m.s, .int .i64 y.m.n, .int .i64 y.m.b, .int .i64 y.m.c, .int .i64 y.m.r, .int .i64 y.m.y, .int .i64 y.m.a, .bool y.m.t, .slice y.pl y.m.ls.length y.cl, .slice y.pn y.m.ns.length y.cn] 46 (by simp)).alloc _).alloc _)
 have Hrp0 : Hid (Blk (((((w.alloc (.cells #[.int .i64 me, .int .i64 N, .slice p n c] 36)).alloc (.cells #[.int .i64 mb, .slice pi ni ci, .slice po no co] 28)).alloc (.cells #[.int .i64 y.m.k, .int .i64 y.m.s, .int .i64 y.m.n, .int .i64 y.m.b, .int .i64 y.m.c, .int .i64 y.m.r, .int .i64 y.m.y, .int .i64 y.m.a, .bool y.m.t, .slice y.pl y.m.ls.length y.cl, .slice y.pn y.m.ns.length y.cn] 46)).alloc (.cells #[.int .i64 0, .int .i64 0, .slice none 0 0] 36)).alloc (.cells #[.int .i64 0, .slice none 0 0, .slice none 0 0] 28)) (w.heap.size + 1 + 1 + 1) #[.int .i64 0, .int .i64 0, .slice none 0 0] 36) := Lib.hid ((Blk.new' (((w.alloc (.cells #[.int .i64 me, .int .i64 N, .slice p n c] 36)).alloc (.cells #[.int .i64 mb, .slice pi ni ci, .slice po no co] 28)).alloc (.cells #[.int .i64 y.m.k, .int .i64 y.m.s, .int .i64 y.m.n, .int .i64 y.m.b, .int .i64 y.m.c, .int .i64 y.m.r, .int .i64 y.m.y, .int .i64 y.m.a, .bool y.m.t, .slice y.pl y.m.ls.length y.cl, .slice y.pn y.m.ns.length y.cn] 46)) #[.int .i64 0, .int .i64 0, .slice none 0 0] 36 (by simp)).alloc _)
 have Hrb0 : Hid (Blk (((((w.alloc (.cells #[.int .i64 me, .int .i64 N, .slice p n c] 36)).alloc (.cells #[.int .i64 mb, .slice pi ni ci, .slice po no co] 28)).alloc (.cells #[.int .i64 y.m.k, .int .i64 y.m.s, .int .i64 y.m.n, .int .i64 y.m.b, .int .i64 y.m.c, .int .i64 y.m.r, .int .i64 y.m.y, .int .i64 y.m.a, .bool y.m.t, .slice y.pl y.m.ls.length y.cl, .slice y.pn y.m.ns.length y.cn] 46)).alloc (.cells #[.int .i64 0, .int .i64 0, .slice none 0 0] 36)).alloc (.cells #[.int .i64 0, .slice none 0 0, .slice none 0 0] 28)) (w.heap.size + 1 + 1 + 1 + 1) #[.int .i64 0, .slice none 0 0, .slice none 0 0] 28) := Lib.hid (Blk.new' ((((w.alloc (.cells #[.int .i64 me, .int .i64 N, .slice p n c] 36)).alloc (.cells #[.int .i64 mb, .slice pi ni ci, .slice po no co] 28)).alloc (.cells #[.int .i64 y.m.k, .int .i64 y.m.s, .int .i64 y.m.n, .int .i64 y.m.b, .int .i64 y.m.c, .int .i64 y.m.r, .int .i64 y.m.y, .int .i64 y.m.a, .bool y.m.t, .slice y.pl y.m.ls.length y.cl, .slice y.pn y.m.ns.length y.cn] 46)).alloc (.cells #[.int .i64 0, .int .i64 0, .slice none 0 0] 36)) #[.int .i64 0, .slice none 0 0, .slice none 0 0] 28 (by simp))
 have HZ0 : Hid (w.heap.size ≤ (((((w.alloc (.cells #[.int .i64 me, .int .i64 N, .slice p n c] 36)).alloc (.cells #[.int .i64 mb, .slice pi ni ci, .slice po no co] 28)).alloc (.cells #[.int .i64 y.m.k, .int .i64 y.m.s, .int .i64 y.m.n, .int .i64 y.m.b, .int .i64 y.m.c, .int .i64 y.m.r, .int .i64 y.m.y, .int .i64 y.m.a, .bool y.m.t, .slice y.pl y.m.ls.length y.cl, .slice y.pn y.m.ns.length y.cn] 46)).alloc (.cells #[.int .i64 0, .int .i64 0, .slice none 0 0] 36)).alloc (.cells #[.int .i64 0, .slice none 0 0, .slice none 0 0] 28)).heap.size) := Lib.hid HB0.out.size
 go_enter Try.func9, Try.ntmps9
 go_upto_region 1 with fail
 generalize (((((w.alloc (.cells #[.int .i64 me, .int .i64 N, .slice p n c] 36)).alloc (.cells #[.int .i64 mb, .slice pi ni ci, .slice po no co] 28)).alloc (.cells #[.int .i64 y.m.k, .int .i64 y.m.s, .int .i64 y.m.n, .int .i64 y.m.b, .int .i64 y.m.c, .int .i64 y.m.r, .int .i64 y.m.y, .int .i64 y.m.a, .bool y.m.t, .slice y.pl y.m.ls.length y.cl, .slice y.pn y.m.ns.length y.cn] 46)).alloc (.cells #[.int .i64 0, .int .i64 0, .slice none 0 0] 36)).alloc (.cells #[.int .i64 0, .slice none 0 0, .slice none 0 0] 28)) = W at *
 by_cases hk : y.m.k = 10
 ·skip
  have HK : Hid (y.m.k = 10) := hk
  have HG := Lib.hid (at_ask W me N p n c)
  have a0 : W.cell? ⟨w.heap.size, 0, none⟩ = some (.int .i64 me) := Hp0.out.cell 0
  have a1 : W.cell? ⟨w.heap.size, 1, none⟩ = some (.int .i64 N) := Hp0.out.cell 1
  have a2 : W.cell? ⟨w.heap.size, 2, none⟩ = some (.slice p n c) := Hp0.out.cell 2
  have c0 : W.cell? ⟨(w.heap.size + 1 + 1), 0, none⟩ = some (.int .i64 y.m.k) := Hm0.out.cell 0
  rw [hk] at c0
  clear hk
  go_wp2_with fail
  clear a0 a1 a2
  refine HG.out.mono ?_
  rintro y9 w1 ⟨rfl, hb⟩
  clear HG c0
  have Hp1 := kbq Hp0 hb
  have Hb1 := kbq Hb0 hb
  have Hm1 := kbq Hm0 hb
  have Hrp1 := kbq Hrp0 hb
  have Hrb1 := kbq Hrb0 hb
  have HB1 := ktq HB0 hb
  have HZ1 := kzq HZ0 hb.size
  clear Hp0 Hb0 Hm0 Hrp0 Hrb0 HB0 HZ0
  clear hb
  have c0 : w1.cell? ⟨w.heap.size + 1 + 1, 0, none⟩ = some (.int .i64 10) := by have h := Hm1.out.cell 0; rw [← HK.out]; exact h
  by_cases hm : fro = -1
  ·have hmb : (fro == -1) = true := by simpa using hm
   have hmn : (fro != -1) = false := by simpa using hm
   have HBB : Hid (kindBad y.m fro) := by
    show _
    unfold kindBad
    rw [HK.out]
    exact .inr (fun h => absurd (h.1 hm) (by decide))
   clear hm
   go_upto_region 3 with fail
   clear c0 hmb hmn
   have hbd := (Below.refl w1.heap.size w1).drew
   refine wp_region_held_drew (S := fun w' => w'.cell? ⟨w.heap.size, 0, none⟩ = some (.int .i64 me) ∧ w'.cell? ⟨w.heap.size, 1, none⟩ = some (.int .i64 N) ∧ w'.cell? ⟨w.heap.size, 2, none⟩ = some (.slice p n c) ∧ w'.cell? ⟨w.heap.size + 1, 0, none⟩ = some (.int .i64 mb) ∧ w'.cell? ⟨w.heap.size + 1, 1, none⟩ = some (.slice pi ni ci) ∧ w'.cell? ⟨w.heap.size + 1, 2, none⟩ = some (.slice po no co)) (by kernel_rfl) ⟨(Hp1.out.below hbd Hp1.out.lt).cell 0, (Hp1.out.below hbd Hp1.out.lt).cell 1, (Hp1.out.below hbd Hp1.out.lt).cell 2, (Hb1.out.below hbd Hb1.out.lt).cell 0, (Hb1.out.below hbd Hb1.out.lt).cell 1, (Hb1.out.below hbd Hb1.out.lt).cell 2⟩ (fun hS0 => ?_)
   generalize w1.drew = WDakb at *
   have Hp2 := kbq Hp1 hbd
   have Hb2 := kbq Hb1 hbd
   have Hm2 := kbq Hm1 hbd
   have Hrp2 := kbq Hrp1 hbd
   have Hrb2 := kbq Hrb1 hbd
   have HB2 := ktq HB1 hbd
   have HZ2 := kzq HZ1 hbd.size
   clear Hp1 Hb1 Hm1 Hrp1 Hrb1 HB1 HZ1
   clear hbd
   refine tkq 0 ?_
   refine tkq 1 ?_
   refine rdq 2 (fun K hK => ?_)
   have z0 : WDakb.cell? ⟨(w.heap.size + 1 + 1 + 1), 0, none⟩ = some (.int .i64 0) := Hrp2.out.cell 0
   have z1 : WDakb.cell? ⟨(w.heap.size + 1 + 1 + 1), 1, none⟩ = some (.int .i64 0) := Hrp2.out.cell 1
   have z2 : WDakb.cell? ⟨(w.heap.size + 1 + 1 + 1), 2, none⟩ = some (.slice none 0 0) := Hrp2.out.cell 2
   have f0 := Hrp2.out.free 0
   have f1 := Hrp2.out.free 1
   have f2 := Hrp2.out.free 2
   go_simp
   clear z0 z1 z2 f0 f1 f2
   have hch := Lib.hid ((((Chg.refl (w.heap.size + 1 + 1 + 1) WDakb).set 0 (.int .i64 me)).set 1 (.int .i64 N)).set 2 (.slice p n c))
   have Hrp3 : Hid (Blk _ (w.heap.size + 1 + 1 + 1) #[.int .i64 me, .int .i64 N, .slice p n c] 36) := Lib.hid (((Hrp2.out.set 0 (.int .i64 me)).set 1 (.int .i64 N)).set 2 (.slice p n c))
   have HB3 := ksq HB2 hch (by show w.heap.size ≤ (w.heap.size + 1 + 1 + 1); omega)
   have HZ3 := kzq HZ2 hch.out.size
   have Hp3 := kcq Hp2 hch (by omega)
   have Hb3 := kcq Hb2 hch (by omega)
   have Hm3 := kcq Hm2 hch (by omega)
   have Hrb3 := kcq Hrb2 hch (by omega)
   clear hch hS0 Hp2 Hb2 Hm2 Hrp2 Hrb2 HB2 HZ2
   generalize (((WDakb.setCell ⟨w.heap.size + 1 + 1 + 1, 0, none⟩ (.int .i64 me)).setCell ⟨w.heap.size + 1 + 1 + 1, 1, none⟩ (.int .i64 N)).setCell ⟨w.heap.size + 1 + 1 + 1, 2, none⟩ (.slice p n c)) = WPakb at *
   refine hK.out _ _ ⟨Hp3.out.cell 0, Hp3.out.cell 1, Hp3.out.cell 2, Hb3.out.cell 0, Hb3.out.cell 1, Hb3.out.cell 2⟩ (fun hS0 => ?_)
   clear hK K
   try simp only [Act.put, List.getElem_toArray, List.getElem_cons_succ, List.getElem_cons_zero, List.setIfInBounds_toArray, List.set_cons_zero, List.set_cons_succ]
   refine rdq 3 (fun K hK => ?_)
   have z0 : WPakb.cell? ⟨(w.heap.size + 1 + 1 + 1 + 1), 0, none⟩ = some (.int .i64 0) := Hrb3.out.cell 0
   have z1 : WPakb.cell? ⟨(w.heap.size + 1 + 1 + 1 + 1), 1, none⟩ = some (.slice none 0 0) := Hrb3.out.cell 1
   have z2 : WPakb.cell? ⟨(w.heap.size + 1 + 1 + 1 + 1), 2, none⟩ = some (.slice none 0 0) := Hrb3.out.cell 2
   have f0 := Hrb3.out.free 0
   have f1 := Hrb3.out.free 1
   have f2 := Hrb3.out.free 2
   go_simp
   clear z0 z1 z2 f0 f1 f2
   have hch := Lib.hid ((((Chg.refl (w.heap.size + 1 + 1 + 1 + 1) WPakb).set 0 (.int .i64 mb)).set 1 (.slice pi ni ci)).set 2 (.slice po no co))
   have Hrb4 : Hid (Blk _ (w.heap.size + 1 + 1 + 1 + 1) #[.int .i64 mb, .slice pi ni ci, .slice po no co] 28) := Lib.hid (((Hrb3.out.set 0 (.int .i64 mb)).set 1 (.slice pi ni ci)).set 2 (.slice po no co))
   have HB4 := ksq HB3 hch (by show w.heap.size ≤ (w.heap.size + 1 + 1 + 1 + 1); omega)
   have HZ4 := kzq HZ3 hch.out.size
   have Hp4 := kcq Hp3 hch (by omega)
   have Hb4 := kcq Hb3 hch (by omega)
   have Hm4 := kcq Hm3 hch (by omega)
   have Hrp4 := kcq Hrp3 hch (by omega)
   clear hch hS0 Hp3 Hb3 Hm3 Hrp3 Hrb3 HB3 HZ3
   generalize (((WPakb.setCell ⟨w.heap.size + 1 + 1 + 1 + 1, 0, none⟩ (.int .i64 mb)).setCell ⟨w.heap.size + 1 + 1 + 1 + 1, 1, none⟩ (.slice pi ni ci)).setCell ⟨w.heap.size + 1 + 1 + 1 + 1, 2, none⟩ (.slice po no co)) = WQakb at *
   refine hK.out _ _ ⟨Hp4.out.cell 0, Hp4.out.cell 1, Hp4.out.cell 2, Hb4.out.cell 0, Hb4.out.cell 1, Hb4.out.cell 2⟩ (fun hS0 => ?_)
   clear hK K
   try simp only [Act.put, List.getElem_toArray, List.getElem_cons_succ, List.getElem_cons_zero, List.setIfInBounds_toArray, List.set_cons_zero, List.set_cons_succ]
   refine tkq 4 ?_
   refine tkq 5 ?_
   refine wpAnyH_done (by kernel_rfl) ?_ _
   clear hS0
   go_wp2_with fail
   have hfp := Hrp4.out
   have hfb := Hrb4.out
   refine bodyPost_ret (v := .tuple #[.agg #[.int .i64 me, .int .i64 N, .slice p n c], .agg #[.int .i64 mb, .slice pi ni ci, .slice po no co], .slice none 0 0, .int .i64 110]) (by simp [results, Try.results9, go_sem, hfp.cell 0, hfp.cell 1, hfp.cell 2, hfb.cell 0, hfb.cell 1, hfb.cell 2]) rfl ⟨HB4.out, p, n, c, pi, ni, ci, _, ps, xs, [], 110, rfl, (HV.out.same HB4.out).1, (HV.out.same HB4.out).2.1, (HV.out.same HB4.out).2.2, OwnT.nil_ _ _ _ _, saidR_nil _ _, fun _ => ⟨rfl, rfl, rfl, rfl⟩, fun h => absurd HBB.out h, fun h => absurd HBB.out h⟩
  ·have hmb : (fro == -1) = false := by simpa using hm
   have hmn : (fro != -1) = true := by simpa using hm
   by_cases hN : fro = N
   ·have hnb : (fro != N) = false := by simpa using hN
    have HNB : Hid (¬ kindBad y.m fro) := by
     show ¬ _
     unfold kindBad
     rw [HK.out]
     rintro (h | h)
     ·exact h.1 rfl
     ·exact h ⟨fun h1 => absurd h1 hm, fun h1 => absurd h1 (by decide)⟩
    have HFR : Hid (fro = -1 ∨ fro = N) := .inr hN
    clear hm hN
    have a1 : w1.cell? ⟨w.heap.size, 1, none⟩ = some (.int .i64 N) := Hp1.out.cell 1
    go_upto_region 6 with fail
    clear a1 c0 hmb hmn hnb
    have HG := Lib.hid (vask_any w1 P me N mb p n c pi ni ci po no co ps xs y (VIn.mk (HV.out.pts.kept HB1.out) (HV.out.its.kept HB1.out) HV.out.ai (fun b hb => Nat.lt_of_lt_of_le (HV.out.lt b hb) HB1.out.size) HV.out.srt HV.out.np HV.out.nx) HGD.out)
    unfold bookV Msg.v at HG
    have a0 : w1.cell? ⟨(w.heap.size + 1), 0, none⟩ = some (.int .i64 mb) := Hb1.out.cell 0
    have a1 : w1.cell? ⟨(w.heap.size + 1), 1, none⟩ = some (.slice pi ni ci) := Hb1.out.cell 1
    have a2 : w1.cell? ⟨(w.heap.size + 1), 2, none⟩ = some (.slice po no co) := Hb1.out.cell 2
    have c0 : w1.cell? ⟨(w.heap.size + 1 + 1), 0, none⟩ = some (.int .i64 y.m.k) := Hm1.out.cell 0
    have c1 : w1.cell? ⟨(w.heap.size + 1 + 1), 1, none⟩ = some (.int .i64 y.m.s) := Hm1.out.cell 1
    have c2 : w1.cell? ⟨(w.heap.size + 1 + 1), 2, none⟩ = some (.int .i64 y.m.n) := Hm1.out.cell 2
    have c3 : w1.cell? ⟨(w.heap.size + 1 + 1), 3, none⟩ = some (.int .i64 y.m.b) := Hm1.out.cell 3
    have c4 : w1.cell? ⟨(w.heap.size + 1 + 1), 4, none⟩ = some (.int .i64 y.m.c) := Hm1.out.cell 4
    have c5 : w1.cell? ⟨(w.heap.size + 1 + 1), 5, none⟩ = some (.int .i64 y.m.r) := Hm1.out.cell 5
    have c6 : w1.cell? ⟨(w.heap.size + 1 + 1), 6, none⟩ = some (.int .i64 y.m.y) := Hm1.out.cell 6
    have c7 : w1.cell? ⟨(w.heap.size + 1 + 1), 7, none⟩ = some (.int .i64 y.m.a) := Hm1.out.cell 7
    have c8 : w1.cell? ⟨(w.heap.size + 1 + 1), 8, none⟩ = some (.bool y.m.t) := Hm1.out.cell 8
    have c9 : w1.cell? ⟨(w.heap.size + 1 + 1), 9, none⟩ = some (.slice y.pl y.m.ls.length y.cl) := Hm1.out.cell 9
    have c10 : w1.cell? ⟨(w.heap.size + 1 + 1), 10, none⟩ = some (.slice y.pn y.m.ns.length y.cn) := Hm1.out.cell 10
    go_wp2_with fail
    clear a0 a1 a2 c0 c1 c2 c3 c4 c5 c6 c7 c8 c9 c10
    refine HG.out.mono ?_
    rintro y9 w4 ⟨hb, p2, n2, c2, pi2, ni2, ci2, vs, ps2, xs2, out, e, rfl, hp, hr, ha, ho, hsr, hG⟩
    clear HG
    have HWL : Hid (w1.heap.size ≤ w4.heap.size) := Lib.hid hb.size
    have HLW : Hid (w.heap.size + 1 + 1 + 1 + 1 < w1.heap.size) := Hrb1.out.lt
    have Hp2 := kbq Hp1 hb
    have Hb2 := kbq Hb1 hb
    have Hm2 := kbq Hm1 hb
    have Hrp2 := kbq Hrp1 hb
    have Hrb2 := kbq Hrb1 hb
    have HB2 := ktq HB1 hb
    have HZ2 := kzq HZ1 hb.size
    clear Hp1 Hb1 Hm1 Hrp1 Hrb1 HB1 HZ1
    clear hb
    have Hp3 := Lib.hid ((Hp2.out.alloc (.cells #[.int .i64 me, .int .i64 N, .slice p2 n2 c2] 36)).alloc (.cells #[.int .i64 mb, .slice pi2 ni2 ci2, .slice po no co] 28))
    have Hb3 := Lib.hid ((Hb2.out.alloc (.cells #[.int .i64 me, .int .i64 N, .slice p2 n2 c2] 36)).alloc (.cells #[.int .i64 mb, .slice pi2 ni2 ci2, .slice po no co] 28))
    have Hm3 := Lib.hid ((Hm2.out.alloc (.cells #[.int .i64 me, .int .i64 N, .slice p2 n2 c2] 36)).alloc (.cells #[.int .i64 mb, .slice pi2 ni2 ci2, .slice po no co] 28))
    have Hrp3 := Lib.hid ((Hrp2.out.alloc (.cells #[.int .i64 me, .int .i64 N, .slice p2 n2 c2] 36)).alloc (.cells #[.int .i64 mb, .slice pi2 ni2 ci2, .slice po no co] 28))
    have Hrb3 := Lib.hid ((Hrb2.out.alloc (.cells #[.int .i64 me, .int .i64 N, .slice p2 n2 c2] 36)).alloc (.cells #[.int .i64 mb, .slice pi2 ni2 ci2, .slice po no co] 28))
    have hbz : Below w4.heap.size w4 ((w4.alloc (.cells #[.int .i64 me, .int .i64 N, .slice p2 n2 c2] 36)).alloc (.cells #[.int .i64 mb, .slice pi2 ni2 ci2, .slice po no co] 28)) := (oneB w4 _).alloc (by simp) _
    have Hxp3 := Lib.hid ((Blk.new w4 #[.int .i64 me, .int .i64 N, .slice p2 n2 c2] 36).alloc (.cells #[.int .i64 mb, .slice pi2 ni2 ci2, .slice po no co] 28))
    have Hxb3 : Hid (Blk ((w4.alloc (.cells #[.int .i64 me, .int .i64 N, .slice p2 n2 c2] 36)).alloc (.cells #[.int .i64 mb, .slice pi2 ni2 ci2, .slice po no co] 28)) (w4.heap.size + 1) #[.int .i64 mb, .slice pi2 ni2 ci2, .slice po no co] 28) := Lib.hid (Blk.new' _ _ _ (by simp))
    have HB3 := ktq HB2 hbz
    have HZ3 : Hid (w.heap.size ≤ ((w4.alloc (.cells #[.int .i64 me, .int .i64 N, .slice p2 n2 c2] 36)).alloc (.cells #[.int .i64 mb, .slice pi2 ni2 ci2, .slice po no co] 28)).heap.size) := Lib.hid HB3.out.size
    have HP := Lib.hid (hp.kept hbz)
    have HR := Lib.hid (hr.kept hbz)
    have HA := Lib.hid ha
    have HO := Lib.hid (ho.later hbz)
    have HSR : Hid (SaidR ((w4.alloc (.cells #[.int .i64 me, .int .i64 N, .slice p2 n2 c2] 36)).alloc (.cells #[.int .i64 mb, .slice pi2 ni2 ci2, .slice po no co] 28)) (fun b => P b ∨ w1.heap.size ≤ b) out) := Lib.hid (fun z hz => ⟨(hsr z hz).1.kept hbz, (hsr z hz).2⟩)
    have HGG := Lib.hid hG
    clear hp hr ha ho hsr hG hbz Hp2 Hb2 Hm2 Hrp2 Hrb2 HB2 HZ2
    go_upto_region 7 with fail
    generalize ((w4.alloc (.cells #[.int .i64 me, .int .i64 N, .slice p2 n2 c2] 36)).alloc (.cells #[.int .i64 mb, .slice pi2 ni2 ci2, .slice po no co] 28)) = W4 at *
    generalize w4.heap.size = g4 at *
    by_cases he : e = 0
    ·subst he
     go_upto_region 9 with fail
     have hbd := (Below.refl W4.heap.size W4).drew
     refine wp_region_held_drew (S := fun w' => w'.cell? ⟨g4, 0, none⟩ = some (.int .i64 me) ∧ w'.cell? ⟨g4, 1, none⟩ = some (.int .i64 N) ∧ w'.cell? ⟨g4, 2, none⟩ = some (.slice p2 n2 c2) ∧ w'.cell? ⟨g4 + 1, 0, none⟩ = some (.int .i64 mb) ∧ w'.cell? ⟨g4 + 1, 1, none⟩ = some (.slice pi2 ni2 ci2) ∧ w'.cell? ⟨g4 + 1, 2, none⟩ = some (.slice po no co)) (by kernel_rfl) ⟨(Hxp3.out.below hbd Hxp3.out.lt).cell 0, (Hxp3.out.below hbd Hxp3.out.lt).cell 1, (Hxp3.out.below hbd Hxp3.out.lt).cell 2, (Hxb3.out.below hbd Hxb3.out.lt).cell 0, (Hxb3.out.below hbd Hxb3.out.lt).cell 1, (Hxb3.out.below hbd Hxb3.out.lt).cell 2⟩ (fun hS0 => ?_)
     have HP := Lib.hid (HP.out.kept hbd)
     have HR := Lib.hid (HR.out.kept hbd)
     have HO := Lib.hid (HO.out.later hbd)
     have HSR : Hid (SaidR W4.drew (fun b => P b ∨ w1.heap.size ≤ b) out) := Lib.hid (fun z hz => ⟨(HSR.out z hz).1.kept hbd, (HSR.out z hz).2⟩)
     generalize W4.drew = WDaka at *
     have Hp4 := kbq Hp3 hbd
     have Hb4 := kbq Hb3 hbd
     have Hm4 := kbq Hm3 hbd
     have Hrp4 := kbq Hrp3 hbd
     have Hrb4 := kbq Hrb3 hbd
     have Hxp4 := kbq Hxp3 hbd
     have Hxb4 := kbq Hxb3 hbd
     have HB4 := ktq HB3 hbd
     have HZ4 := kzq HZ3 hbd.size
     clear Hp3 Hb3 Hm3 Hrp3 Hrb3 Hxp3 Hxb3 HB3 HZ3
     clear hbd
     refine tkq 0 ?_
     refine tkq 1 ?_
     refine tkq 2 ?_
     refine rdq 3 (fun K hK => ?_)
     have z0 : WDaka.cell? ⟨(w.heap.size + 1 + 1 + 1), 0, none⟩ = some (.int .i64 0) := Hrp4.out.cell 0
     have z1 : WDaka.cell? ⟨(w.heap.size + 1 + 1 + 1), 1, none⟩ = some (.int .i64 0) := Hrp4.out.cell 1
     have z2 : WDaka.cell? ⟨(w.heap.size + 1 + 1 + 1), 2, none⟩ = some (.slice none 0 0) := Hrp4.out.cell 2
     have f0 := Hrp4.out.free 0
     have f1 := Hrp4.out.free 1
     have f2 := Hrp4.out.free 2
     go_simp
     clear z0 z1 z2 f0 f1 f2
     have hch := Lib.hid ((((Chg.refl (w.heap.size + 1 + 1 + 1) WDaka).set 0 (.int .i64 me)).set 1 (.int .i64 N)).set 2 (.slice p2 n2 c2))
     have Hrp5 : Hid (Blk _ (w.heap.size + 1 + 1 + 1) #[.int .i64 me, .int .i64 N, .slice p2 n2 c2] 36) := Lib.hid (((Hrp4.out.set 0 (.int .i64 me)).set 1 (.int .i64 N)).set 2 (.slice p2 n2 c2))
     have HB5 := ksq HB4 hch (by show w.heap.size ≤ (w.heap.size + 1 + 1 + 1); omega)
     have HZ5 := kzq HZ4 hch.out.size
     have Hp5 := kcq Hp4 hch (by have h7 := HLW.out; have h8 := HWL.out; omega)
     have Hb5 := kcq Hb4 hch (by have h7 := HLW.out; have h8 := HWL.out; omega)
     have Hm5 := kcq Hm4 hch (by have h7 := HLW.out; have h8 := HWL.out; omega)
     have Hrb5 := kcq Hrb4 hch (by have h7 := HLW.out; have h8 := HWL.out; omega)
     have Hxp5 := kcq Hxp4 hch (by have h7 := HLW.out; have h8 := HWL.out; omega)
     have Hxb5 := kcq Hxb4 hch (by have h7 := HLW.out; have h8 := HWL.out; omega)
     have hn3 : ∀ g, g = w.heap.size + 1 + 1 + 1 ∨ g = w.heap.size + 1 + 1 + 1 + 1 → ¬ (P g ∨ w1.heap.size ≤ g) := fun g hg h => by
      have h7 := HLW.out
      have h9 := HV.out.lt
      rcases h with h | h
      ·have h8 := h9 _ h; omega
      ·omega
     have hkp := KeepP.of_chg (P := fun b => P b ∨ w1.heap.size ≤ b) hch.out (hn3 _ (by have h7 := HLW.out; have h8 := HWL.out; omega))
     have HP := Lib.hid (HP.out.keepP hkp)
     have HR := Lib.hid (HR.out.keepP HA.out hkp)
     have HO := Lib.hid (HO.out.stay (fun b hb => hch.out.2 b (HO.out.lt b hb) (by have h1 := HO.out.block_ge b hb; have h7 := HLW.out; omega)))
     have HSR : Hid (SaidR _ (fun b => P b ∨ w1.heap.size ≤ b) out) := Lib.hid (fun z hz => ⟨(HSR.out z hz).1.keepP (HSR.out z hz).2 hkp, (HSR.out z hz).2⟩)
     clear hn3 hkp
     clear hch hS0 Hp4 Hb4 Hm4 Hrp4 Hrb4 Hxp4 Hxb4 HB4 HZ4
     generalize (((WDaka.setCell ⟨w.heap.size + 1 + 1 + 1, 0, none⟩ (.int .i64 me)).setCell ⟨w.heap.size + 1 + 1 + 1, 1, none⟩ (.int .i64 N)).setCell ⟨w.heap.size + 1 + 1 + 1, 2, none⟩ (.slice p2 n2 c2)) = WPaka at *
     refine hK.out _ _ ⟨Hxp5.out.cell 0, Hxp5.out.cell 1, Hxp5.out.cell 2, Hxb5.out.cell 0, Hxb5.out.cell 1, Hxb5.out.cell 2⟩ (fun hS0 => ?_)
     clear hK K
     try simp only [Act.put, List.getElem_toArray, List.getElem_cons_succ, List.getElem_cons_zero, List.setIfInBounds_toArray, List.set_cons_zero, List.set_cons_succ]
     refine rdq 4 (fun K hK => ?_)
     have z0 : WPaka.cell? ⟨(w.heap.size + 1 + 1 + 1 + 1), 0, none⟩ = some (.int .i64 0) := Hrb5.out.cell 0
     have z1 : WPaka.cell? ⟨(w.heap.size + 1 + 1 + 1 + 1), 1, none⟩ = some (.slice none 0 0) := Hrb5.out.cell 1
     have z2 : WPaka.cell? ⟨(w.heap.size + 1 + 1 + 1 + 1), 2, none⟩ = some (.slice none 0 0) := Hrb5.out.cell 2
     have f0 := Hrb5.out.free 0
     have f1 := Hrb5.out.free 1
     have f2 := Hrb5.out.free 2
     go_simp
     clear z0 z1 z2 f0 f1 f2
     have hch := Lib.hid ((((Chg.refl (w.heap.size + 1 + 1 + 1 + 1) WPaka).set 0 (.int .i64 mb)).set 1 (.slice pi2 ni2 ci2)).set 2 (.slice po no co))
     have Hrb6 : Hid (Blk _ (w.heap.size + 1 + 1 + 1 + 1) #[.int .i64 mb, .slice pi2 ni2 ci2, .slice po no co] 28) := Lib.hid (((Hrb5.out.set 0 (.int .i64 mb)).set 1 (.slice pi2 ni2 ci2)).set 2 (.slice po no co))
     have HB6 := ksq HB5 hch (by show w.heap.size ≤ (w.heap.size + 1 + 1 + 1 + 1); omega)
     have HZ6 := kzq HZ5 hch.out.size
     have Hp6 := kcq Hp5 hch (by have h7 := HLW.out; have h8 := HWL.out; omega)
     have Hb6 := kcq Hb5 hch (by have h7 := HLW.out; have h8 := HWL.out; omega)
     have Hm6 := kcq Hm5 hch (by have h7 := HLW.out; have h8 := HWL.out; omega)
     have Hrp6 := kcq Hrp5 hch (by have h7 := HLW.out; have h8 := HWL.out; omega)
     have Hxp6 := kcq Hxp5 hch (by have h7 := HLW.out; have h8 := HWL.out; omega)
     have Hxb6 := kcq Hxb5 hch (by have h7 := HLW.out; have h8 := HWL.out; omega)
     have hn3 : ∀ g, g = w.heap.size + 1 + 1 + 1 ∨ g = w.heap.size + 1 + 1 + 1 + 1 → ¬ (P g ∨ w1.heap.size ≤ g) := fun g hg h => by
      have h7 := HLW.out
      have h9 := HV.out.lt
      rcases h with h | h
      ·have h8 := h9 _ h; omega
      ·omega
     have hkp := KeepP.of_chg (P := fun b => P b ∨ w1.heap.size ≤ b) hch.out (hn3 _ (by have h7 := HLW.out; have h8 := HWL.out; omega))
     have HP := Lib.hid (HP.out.keepP hkp)
     have HR := Lib.hid (HR.out.keepP HA.out hkp)
     have HO := Lib.hid (HO.out.stay (fun b hb => hch.out.2 b (HO.out.lt b hb) (by have h1 := HO.out.block_ge b hb; have h7 := HLW.out; omega)))
     have HSR : Hid (SaidR _ (fun b => P b ∨ w1.heap.size ≤ b) out) := Lib.hid (fun z hz => ⟨(HSR.out z hz).1.keepP (HSR.out z hz).2 hkp, (HSR.out z hz).2⟩)
     clear hn3 hkp
     clear hch hS0 Hp5 Hb5 Hm5 Hrp5 Hrb5 Hxp5 Hxb5 HB5 HZ5
     generalize (((WPaka.setCell ⟨w.heap.size + 1 + 1 + 1 + 1, 0, none⟩ (.int .i64 mb)).setCell ⟨w.heap.size + 1 + 1 + 1 + 1, 1, none⟩ (.slice pi2 ni2 ci2)).setCell ⟨w.heap.size + 1 + 1 + 1 + 1, 2, none⟩ (.slice po no co)) = WQaka at *
     refine hK.out _ _ ⟨Hxp6.out.cell 0, Hxp6.out.cell 1, Hxp6.out.cell 2, Hxb6.out.cell 0, Hxb6.out.cell 1, Hxb6.out.cell 2⟩ (fun hS0 => ?_)
     clear hK K
     try simp only [Act.put, List.getElem_toArray, List.getElem_cons_succ, List.getElem_cons_zero, List.setIfInBounds_toArray, List.set_cons_zero, List.set_cons_succ]
     refine tkq 5 ?_
     refine tkq 6 ?_
     refine wpAnyH_done (by kernel_rfl) ?_ _
     clear hS0
     obtain ⟨p5, c5, hv5⟩ := HO.out.form
     obtain ⟨lo, hlo⟩ : ∃ k, out.length = k := ⟨_, rfl⟩
     rw [hlo] at hv5
     clear hlo
     subst hv5
     go_wp2_with fail
     have hfp := Hrp6.out
     have hfb := Hrb6.out
     refine bodyPost_ret (v := .tuple #[.agg #[.int .i64 me, .int .i64 N, .slice p2 n2 c2], .agg #[.int .i64 mb, .slice pi2 ni2 ci2, .slice po no co], .slice p5 lo c5, .int .i64 0]) (by simp [results, Try.results9, go_sem, hfp.cell 0, hfp.cell 1, hfp.cell 2, hfb.cell 0, hfb.cell 1, hfb.cell 2]) rfl ⟨HB6.out, p2, n2, c2, pi2, ni2, ci2, _, ps2, xs2, out, 0, rfl, HP.out.imp (fun b h => h.imp id (fun h => by have h7 := HLW.out; omega)), HR.out, HA.out.imp (fun b h => h.imp id (fun h => by have h7 := HLW.out; omega)), HO.out.less (by have h7 := HLW.out; omega), fun z hz => ⟨(HSR.out z hz).1, (HSR.out z hz).2.imp (fun b h => h.imp id (fun h => by have h7 := HLW.out; omega))⟩, fun h => absurd h HNB.out, fun _ h1 h2 => absurd HFR.out (by omega), fun _ _ => ⟨ps2, xs2, out, 0, by unfold actG; rw [HK.out]; exact HGG.out, fun h => absurd rfl h, fun _ => ⟨rfl, rfl, rfl, rfl⟩⟩⟩
    ·have heb : (e != 0) = true := by simpa using he
     have HE : Hid (e ≠ 0) := he
     clear he
     go_upto_region 8 with fail
     clear heb HP HR HA HO HSR Hxp3 Hxb3
     have hbd := (Below.refl W4.heap.size W4).drew
     refine wp_region_held_drew (S := fun w' => w'.cell? ⟨w.heap.size, 0, none⟩ = some (.int .i64 me) ∧ w'.cell? ⟨w.heap.size, 1, none⟩ = some (.int .i64 N) ∧ w'.cell? ⟨w.heap.size, 2, none⟩ = some (.slice p n c) ∧ w'.cell? ⟨w.heap.size + 1, 0, none⟩ = some (.int .i64 mb) ∧ w'.cell? ⟨w.heap.size + 1, 1, none⟩ = some (.slice pi ni ci) ∧ w'.cell? ⟨w.heap.size + 1, 2, none⟩ = some (.slice po no co)) (by kernel_rfl) ⟨(Hp3.out.below hbd Hp3.out.lt).cell 0, (Hp3.out.below hbd Hp3.out.lt).cell 1, (Hp3.out.below hbd Hp3.out.lt).cell 2, (Hb3.out.below hbd Hb3.out.lt).cell 0, (Hb3.out.below hbd Hb3.out.lt).cell 1, (Hb3.out.below hbd Hb3.out.lt).cell 2⟩ (fun hS0 => ?_)
     generalize W4.drew = WDakae at *
     have Hp4 := kbq Hp3 hbd
     have Hb4 := kbq Hb3 hbd
     have Hm4 := kbq Hm3 hbd
     have Hrp4 := kbq Hrp3 hbd
     have Hrb4 := kbq Hrb3 hbd
     have HB4 := ktq HB3 hbd
     have HZ4 := kzq HZ3 hbd.size
     clear Hp3 Hb3 Hm3 Hrp3 Hrb3 HB3 HZ3
     clear hbd
     refine tkq 0 ?_
     refine tkq 1 ?_
     refine tkq 2 ?_
     refine rdq 3 (fun K hK => ?_)
     have z0 : WDakae.cell? ⟨(w.heap.size + 1 + 1 + 1), 0, none⟩ = some (.int .i64 0) := Hrp4.out.cell 0
     have z1 : WDakae.cell? ⟨(w.heap.size + 1 + 1 + 1), 1, none⟩ = some (.int .i64 0) := Hrp4.out.cell 1
     have z2 : WDakae.cell? ⟨(w.heap.size + 1 + 1 + 1), 2, none⟩ = some (.slice none 0 0) := Hrp4.out.cell 2
     have f0 := Hrp4.out.free 0
     have f1 := Hrp4.out.free 1
     have f2 := Hrp4.out.free 2
     go_simp
     clear z0 z1 z2 f0 f1 f2
     have hch := Lib.hid ((((Chg.refl (w.heap.size + 1 + 1 + 1) WDakae).set 0 (.int .i64 me)).set 1 (.int .i64 N)).set 2 (.slice p n c))
     have Hrp5 : Hid (Blk _ (w.heap.size + 1 + 1 + 1) #[.int .i64 me, .int .i64 N, .slice p n c] 36) := Lib.hid (((Hrp4.out.set 0 (.int .i64 me)).set 1 (.int .i64 N)).set 2 (.slice p n c))
     have HB5 := ksq HB4 hch (by show w.heap.size ≤ (w.heap.size + 1 + 1 + 1); omega)
     have HZ5 := kzq HZ4 hch.out.size
     have Hp5 := kcq Hp4 hch (by have h7 := HLW.out; have h8 := HWL.out; omega)
     have Hb5 := kcq Hb4 hch (by have h7 := HLW.out; have h8 := HWL.out; omega)
     have Hm5 := kcq Hm4 hch (by have h7 := HLW.out; have h8 := HWL.out; omega)
     have Hrb5 := kcq Hrb4 hch (by have h7 := HLW.out; have h8 := HWL.out; omega)
     clear hch hS0 Hp4 Hb4 Hm4 Hrp4 Hrb4 HB4 HZ4
     generalize (((WDakae.setCell ⟨w.heap.size + 1 + 1 + 1, 0, none⟩ (.int .i64 me)).setCell ⟨w.heap.size + 1 + 1 + 1, 1, none⟩ (.int .i64 N)).setCell ⟨w.heap.size + 1 + 1 + 1, 2, none⟩ (.slice p n c)) = WPakae at *
     refine hK.out _ _ ⟨Hp5.out.cell 0, Hp5.out.cell 1, Hp5.out.cell 2, Hb5.out.cell 0, Hb5.out.cell 1, Hb5.out.cell 2⟩ (fun hS0 => ?_)
     clear hK K
     try simp only [Act.put, List.getElem_toArray, List.getElem_cons_succ, List.getElem_cons_zero, List.setIfInBounds_toArray, List.set_cons_zero, List.set_cons_succ]
     refine rdq 4 (fun K hK => ?_)
     have z0 : WPakae.cell? ⟨(w.heap.size + 1 + 1 + 1 + 1), 0, none⟩ = some (.int .i64 0) := Hrb5.out.cell 0
     have z1 : WPakae.cell? ⟨(w.heap.size + 1 + 1 + 1 + 1), 1, none⟩ = some (.slice none 0 0) := Hrb5.out.cell 1
     have z2 : WPakae.cell? ⟨(w.heap.size + 1 + 1 + 1 + 1), 2, none⟩ = some (.slice none 0 0) := Hrb5.out.cell 2
     have f0 := Hrb5.out.free 0
     have f1 := Hrb5.out.free 1
     have f2 := Hrb5.out.free 2
     go_simp
     clear z0 z1 z2 f0 f1 f2
     have hch := Lib.hid ((((Chg.refl (w.heap.size + 1 + 1 + 1 + 1) WPakae).set 0 (.int .i64 mb)).set 1 (.slice pi ni ci)).set 2 (.slice po no co))
     have Hrb6 : Hid (Blk _ (w.heap.size + 1 + 1 + 1 + 1) #[.int .i64 mb, .slice pi ni ci, .slice po no co] 28) := Lib.hid (((Hrb5.out.set 0 (.int .i64 mb)).set 1 (.slice pi ni ci)).set 2 (.slice po no co))
     have HB6 := ksq HB5 hch (by show w.heap.size ≤ (w.heap.size + 1 + 1 + 1 + 1); omega)
     have HZ6 := kzq HZ5 hch.out.size
     have Hp6 := kcq Hp5 hch (by have h7 := HLW.out; have h8 := HWL.out; omega)
     have Hb6 := kcq Hb5 hch (by have h7 := HLW.out; have h8 := HWL.out; omega)
     have Hm6 := kcq Hm5 hch (by have h7 := HLW.out; have h8 := HWL.out; omega)
     have Hrp6 := kcq Hrp5 hch (by have h7 := HLW.out; have h8 := HWL.out; omega)
     clear hch hS0 Hp5 Hb5 Hm5 Hrp5 Hrb5 HB5 HZ5
     generalize (((WPakae.setCell ⟨w.heap.size + 1 + 1 + 1 + 1, 0, none⟩ (.int .i64 mb)).setCell ⟨w.heap.size + 1 + 1 + 1 + 1, 1, none⟩ (.slice pi ni ci)).setCell ⟨w.heap.size + 1 + 1 + 1 + 1, 2, none⟩ (.slice po no co)) = WQakae at *
     refine hK.out _ _ ⟨Hp6.out.cell 0, Hp6.out.cell 1, Hp6.out.cell 2, Hb6.out.cell 0, Hb6.out.cell 1, Hb6.out.cell 2⟩ (fun hS0 => ?_)
     clear hK K
     try simp only [Act.put, List.getElem_toArray, List.getElem_cons_succ, List.getElem_cons_zero, List.setIfInBounds_toArray, List.set_cons_zero, List.set_cons_succ]
     refine tkq 5 ?_
     refine tkq 6 ?_
     refine wpAnyH_done (by kernel_rfl) ?_ _
     clear hS0
     go_wp2_with fail
     have hfp := Hrp6.out
     have hfb := Hrb6.out
     refine bodyPost_ret (v := .tuple #[.agg #[.int .i64 me, .int .i64 N, .slice p n c], .agg #[.int .i64 mb, .slice pi ni ci, .slice po no co], .slice none 0 0, .int .i64 e]) (by simp [results, Try.results9, go_sem, hfp.cell 0, hfp.cell 1, hfp.cell 2, hfb.cell 0, hfb.cell 1, hfb.cell 2]) rfl ⟨HB6.out, p, n, c, pi, ni, ci, _, ps, xs, [], e, rfl, (HV.out.same HB6.out).1, (HV.out.same HB6.out).2.1, (HV.out.same HB6.out).2.2, OwnT.nil_ _ _ _ _, saidR_nil _ _, fun h => absurd h HNB.out, fun _ h1 h2 => absurd HFR.out (by omega), fun _ _ => ⟨ps2, xs2, out, e, by unfold actG; rw [HK.out]; exact HGG.out, fun _ => ⟨rfl, rfl, rfl, rfl⟩, fun h => absurd h HE.out⟩⟩
   ·have hnb : (fro != N) = true := by simpa using hN
    have HNB : Hid (¬ kindBad y.m fro) := by
     show ¬ _
     unfold kindBad
     rw [HK.out]
     rintro (h | h)
     ·exact h.1 rfl
     ·exact h ⟨fun h1 => absurd h1 hm, fun h1 => absurd h1 (by decide)⟩
    have HFN : Hid (fro ≠ -1 ∧ fro ≠ N) := ⟨hm, hN⟩
    clear hm hN
    have a1 : w1.cell? ⟨w.heap.size, 1, none⟩ = some (.int .i64 N) := Hp1.out.cell 1
    go_upto_region 5 with fail
    clear a1 c0 hmb hmn hnb
    have hbd := (Below.refl w1.heap.size w1).drew
    refine wp_region_held_drew (S := fun w' => w'.cell? ⟨w.heap.size, 0, none⟩ = some (.int .i64 me) ∧ w'.cell? ⟨w.heap.size, 1, none⟩ = some (.int .i64 N) ∧ w'.cell? ⟨w.heap.size, 2, none⟩ = some (.slice p n c) ∧ w'.cell? ⟨w.heap.size + 1, 0, none⟩ = some (.int .i64 mb) ∧ w'.cell? ⟨w.heap.size + 1, 1, none⟩ = some (.slice pi ni ci) ∧ w'.cell? ⟨w.heap.size + 1, 2, none⟩ = some (.slice po no co)) (by kernel_rfl) ⟨(Hp1.out.below hbd Hp1.out.lt).cell 0, (Hp1.out.below hbd Hp1.out.lt).cell 1, (Hp1.out.below hbd Hp1.out.lt).cell 2, (Hb1.out.below hbd Hb1.out.lt).cell 0, (Hb1.out.below hbd Hb1.out.lt).cell 1, (Hb1.out.below hbd Hb1.out.lt).cell 2⟩ (fun hS0 => ?_)
    generalize w1.drew = WDakc at *
    have Hp2 := kbq Hp1 hbd
    have Hb2 := kbq Hb1 hbd
    have Hm2 := kbq Hm1 hbd
    have Hrp2 := kbq Hrp1 hbd
    have Hrb2 := kbq Hrb1 hbd
    have HB2 := ktq HB1 hbd
    have HZ2 := kzq HZ1 hbd.size
    clear Hp1 Hb1 Hm1 Hrp1 Hrb1 HB1 HZ1
    clear hbd
    refine tkq 0 ?_
    refine tkq 1 ?_
    refine rdq 2 (fun K hK => ?_)
    have z0 : WDakc.cell? ⟨(w.heap.size + 1 + 1 + 1), 0, none⟩ = some (.int .i64 0) := Hrp2.out.cell 0
    have z1 : WDakc.cell? ⟨(w.heap.size + 1 + 1 + 1), 1, none⟩ = some (.int .i64 0) := Hrp2.out.cell 1
    have z2 : WDakc.cell? ⟨(w.heap.size + 1 + 1 + 1), 2, none⟩ = some (.slice none 0 0) := Hrp2.out.cell 2
    have f0 := Hrp2.out.free 0
    have f1 := Hrp2.out.free 1
    have f2 := Hrp2.out.free 2
    go_simp
    clear z0 z1 z2 f0 f1 f2
    have hch := Lib.hid ((((Chg.refl (w.heap.size + 1 + 1 + 1) WDakc).set 0 (.int .i64 me)).set 1 (.int .i64 N)).set 2 (.slice p n c))
    have Hrp3 : Hid (Blk _ (w.heap.size + 1 + 1 + 1) #[.int .i64 me, .int .i64 N, .slice p n c] 36) := Lib.hid (((Hrp2.out.set 0 (.int .i64 me)).set 1 (.int .i64 N)).set 2 (.slice p n c))
    have HB3 := ksq HB2 hch (by show w.heap.size ≤ (w.heap.size + 1 + 1 + 1); omega)
    have HZ3 := kzq HZ2 hch.out.size
    have Hp3 := kcq Hp2 hch (by omega)
    have Hb3 := kcq Hb2 hch (by omega)
    have Hm3 := kcq Hm2 hch (by omega)
    have Hrb3 := kcq Hrb2 hch (by omega)
    clear hch hS0 Hp2 Hb2 Hm2 Hrp2 Hrb2 HB2 HZ2
    generalize (((WDakc.setCell ⟨w.heap.size + 1 + 1 + 1, 0, none⟩ (.int .i64 me)).setCell ⟨w.heap.size + 1 + 1 + 1, 1, none⟩ (.int .i64 N)).setCell ⟨w.heap.size + 1 + 1 + 1, 2, none⟩ (.slice p n c)) = WPakc at *
    refine hK.out _ _ ⟨Hp3.out.cell 0, Hp3.out.cell 1, Hp3.out.cell 2, Hb3.out.cell 0, Hb3.out.cell 1, Hb3.out.cell 2⟩ (fun hS0 => ?_)
    clear hK K
    try simp only [Act.put, List.getElem_toArray, List.getElem_cons_succ, List.getElem_cons_zero, List.setIfInBounds_toArray, List.set_cons_zero, List.set_cons_succ]
    refine rdq 3 (fun K hK => ?_)
    have z0 : WPakc.cell? ⟨(w.heap.size + 1 + 1 + 1 + 1), 0, none⟩ = some (.int .i64 0) := Hrb3.out.cell 0
    have z1 : WPakc.cell? ⟨(w.heap.size + 1 + 1 + 1 + 1), 1, none⟩ = some (.slice none 0 0) := Hrb3.out.cell 1
    have z2 : WPakc.cell? ⟨(w.heap.size + 1 + 1 + 1 + 1), 2, none⟩ = some (.slice none 0 0) := Hrb3.out.cell 2
    have f0 := Hrb3.out.free 0
    have f1 := Hrb3.out.free 1
    have f2 := Hrb3.out.free 2
    go_simp
    clear z0 z1 z2 f0 f1 f2
    have hch := Lib.hid ((((Chg.refl (w.heap.size + 1 + 1 + 1 + 1) WPakc).set 0 (.int .i64 mb)).set 1 (.slice pi ni ci)).set 2 (.slice po no co))
    have Hrb4 : Hid (Blk _ (w.heap.size + 1 + 1 + 1 + 1) #[.int .i64 mb, .slice pi ni ci, .slice po no co] 28) := Lib.hid (((Hrb3.out.set 0 (.int .i64 mb)).set 1 (.slice pi ni ci)).set 2 (.slice po no co))
    have HB4 := ksq HB3 hch (by show w.heap.size ≤ (w.heap.size + 1 + 1 + 1 + 1); omega)
    have HZ4 := kzq HZ3 hch.out.size
    have Hp4 := kcq Hp3 hch (by omega)
    have Hb4 := kcq Hb3 hch (by omega)
    have Hm4 := kcq Hm3 hch (by omega)
    have Hrp4 := kcq Hrp3 hch (by omega)
    clear hch hS0 Hp3 Hb3 Hm3 Hrp3 Hrb3 HB3 HZ3
    generalize (((WPakc.setCell ⟨w.heap.size + 1 + 1 + 1 + 1, 0, none⟩ (.int .i64 mb)).setCell ⟨w.heap.size + 1 + 1 + 1 + 1, 1, none⟩ (.slice pi ni ci)).setCell ⟨w.heap.size + 1 + 1 + 1 + 1, 2, none⟩ (.slice po no co)) = WQakc at *
    refine hK.out _ _ ⟨Hp4.out.cell 0, Hp4.out.cell 1, Hp4.out.cell 2, Hb4.out.cell 0, Hb4.out.cell 1, Hb4.out.cell 2⟩ (fun hS0 => ?_)
    clear hK K
    try simp only [Act.put, List.getElem_toArray, List.getElem_cons_succ, List.getElem_cons_zero, List.setIfInBounds_toArray, List.set_cons_zero, List.set_cons_succ]
    refine tkq 4 ?_
    refine tkq 5 ?_
    refine wpAnyH_done (by kernel_rfl) ?_ _
    clear hS0
    go_wp2_with fail
    have hfp := Hrp4.out
    have hfb := Hrb4.out
    refine bodyPost_ret (v := .tuple #[.agg #[.int .i64 me, .int .i64 N, .slice p n c], .agg #[.int .i64 mb, .slice pi ni ci, .slice po no co], .slice none 0 0, .int .i64 140]) (by simp [results, Try.results9, go_sem, hfp.cell 0, hfp.cell 1, hfp.cell 2, hfb.cell 0, hfb.cell 1, hfb.cell 2]) rfl ⟨HB4.out, p, n, c, pi, ni, ci, _, ps, xs, [], 140, rfl, (HV.out.same HB4.out).1, (HV.out.same HB4.out).2.1, (HV.out.same HB4.out).2.2, OwnT.nil_ _ _ _ _, saidR_nil _ _, fun h => absurd h HNB.out, fun _ _ _ => ⟨rfl, rfl, rfl, rfl⟩, fun _ h => absurd h (by have := HFN.out; omega)⟩
 have hk10 := hk
 clear hk
 by_cases hk : y.m.k = 12
 ·skip
  have HK : Hid (y.m.k = 12) := hk
  have HG := Lib.hid (at_prepare W me N p n c)
  have a0 : W.cell? ⟨w.heap.size, 0, none⟩ = some (.int .i64 me) := Hp0.out.cell 0
  have a1 : W.cell? ⟨w.heap.size, 1, none⟩ = some (.int .i64 N) := Hp0.out.cell 1
  have a2 : W.cell? ⟨w.heap.size, 2, none⟩ = some (.slice p n c) := Hp0.out.cell 2
  have c0 : W.cell? ⟨(w.heap.size + 1 + 1), 0, none⟩ = some (.int .i64 y.m.k) := Hm0.out.cell 0
  rw [hk] at c0
  clear hk
  go_wp2_with fail
  clear a0 a1 a2
  refine HG.out.mono ?_
  rintro y9 w1 ⟨rfl, hb⟩
  clear HG c0
  have Hp1 := kbq Hp0 hb
  have Hb1 := kbq Hb0 hb
  have Hm1 := kbq Hm0 hb
  have Hrp1 := kbq Hrp0 hb
  have Hrb1 := kbq Hrb0 hb
  have HB1 := ktq HB0 hb
  have HZ1 := kzq HZ0 hb.size
  clear Hp0 Hb0 Hm0 Hrp0 Hrb0 HB0 HZ0
  clear hb
  have c0 : w1.cell? ⟨w.heap.size + 1 + 1, 0, none⟩ = some (.int .i64 12) := by have h := Hm1.out.cell 0; rw [← HK.out]; exact h
  by_cases hm : fro = -1
  ·have hmb : (fro == -1) = true := by simpa using hm
   have hmn : (fro != -1) = false := by simpa using hm
   have HBB : Hid (kindBad y.m fro) := by
    show _
    unfold kindBad
    rw [HK.out]
    exact .inr (fun h => absurd (h.1 hm) (by decide))
   clear hm
   go_upto_region 3 with fail
   clear c0 hmb hmn
   have hbd := (Below.refl w1.heap.size w1).drew
   refine wp_region_held_drew (S := fun w' => w'.cell? ⟨w.heap.size, 0, none⟩ = some (.int .i64 me) ∧ w'.cell? ⟨w.heap.size, 1, none⟩ = some (.int .i64 N) ∧ w'.cell? ⟨w.heap.size, 2, none⟩ = some (.slice p n c) ∧ w'.cell? ⟨w.heap.size + 1, 0, none⟩ = some (.int .i64 mb) ∧ w'.cell? ⟨w.heap.size + 1, 1, none⟩ = some (.slice pi ni ci) ∧ w'.cell? ⟨w.heap.size + 1, 2, none⟩ = some (.slice po no co)) (by kernel_rfl) ⟨(Hp1.out.below hbd Hp1.out.lt).cell 0, (Hp1.out.below hbd Hp1.out.lt).cell 1, (Hp1.out.below hbd Hp1.out.lt).cell 2, (Hb1.out.below hbd Hb1.out.lt).cell 0, (Hb1.out.below hbd Hb1.out.lt).cell 1, (Hb1.out.below hbd Hb1.out.lt).cell 2⟩ (fun hS0 => ?_)
   generalize w1.drew = WDpeb at *
   have Hp2 := kbq Hp1 hbd
   have Hb2 := kbq Hb1 hbd
   have Hm2 := kbq Hm1 hbd
   have Hrp2 := kbq Hrp1 hbd
   have Hrb2 := kbq Hrb1 hbd
   have HB2 := ktq HB1 hbd
   have HZ2 := kzq HZ1 hbd.size
   clear Hp1 Hb1 Hm1 Hrp1 Hrb1 HB1 HZ1
   clear hbd
   refine tkq 0 ?_
   refine tkq 1 ?_
   refine rdq 2 (fun K hK => ?_)
   have z0 : WDpeb.cell? ⟨(w.heap.size + 1 + 1 + 1), 0, none⟩ = some (.int .i64 0) := Hrp2.out.cell 0
   have z1 : WDpeb.cell? ⟨(w.heap.size + 1 + 1 + 1), 1, none⟩ = some (.int .i64 0) := Hrp2.out.cell 1
   have z2 : WDpeb.cell? ⟨(w.heap.size + 1 + 1 + 1), 2, none⟩ = some (.slice none 0 0) := Hrp2.out.cell 2
   have f0 := Hrp2.out.free 0
   have f1 := Hrp2.out.free 1
   have f2 := Hrp2.out.free 2
   go_simp
   clear z0 z1 z2 f0 f1 f2
   have hch := Lib.hid ((((Chg.refl (w.heap.size + 1 + 1 + 1) WDpeb).set 0 (.int .i64 me)).set 1 (.int .i64 N)).set 2 (.slice p n c))
   have Hrp3 : Hid (Blk _ (w.heap.size + 1 + 1 + 1) #[.int .i64 me, .int .i64 N, .slice p n c] 36) := Lib.hid (((Hrp2.out.set 0 (.int .i64 me)).set 1 (.int .i64 N)).set 2 (.slice p n c))
   have HB3 := ksq HB2 hch (by show w.heap.size ≤ (w.heap.size + 1 + 1 + 1); omega)
   have HZ3 := kzq HZ2 hch.out.size
   have Hp3 := kcq Hp2 hch (by omega)
   have Hb3 := kcq Hb2 hch (by omega)
   have Hm3 := kcq Hm2 hch (by omega)
   have Hrb3 := kcq Hrb2 hch (by omega)
   clear hch hS0 Hp2 Hb2 Hm2 Hrp2 Hrb2 HB2 HZ2
   generalize (((WDpeb.setCell ⟨w.heap.size + 1 + 1 + 1, 0, none⟩ (.int .i64 me)).setCell ⟨w.heap.size + 1 + 1 + 1, 1, none⟩ (.int .i64 N)).setCell ⟨w.heap.size + 1 + 1 + 1, 2, none⟩ (.slice p n c)) = WPpeb at *
   refine hK.out _ _ ⟨Hp3.out.cell 0, Hp3.out.cell 1, Hp3.out.cell 2, Hb3.out.cell 0, Hb3.out.cell 1, Hb3.out.cell 2⟩ (fun hS0 => ?_)
   clear hK K
   try simp only [Act.put, List.getElem_toArray, List.getElem_cons_succ, List.getElem_cons_zero, List.setIfInBounds_toArray, List.set_cons_zero, List.set_cons_succ]
   refine rdq 3 (fun K hK => ?_)
   have z0 : WPpeb.cell? ⟨(w.heap.size + 1 + 1 + 1 + 1), 0, none⟩ = some (.int .i64 0) := Hrb3.out.cell 0
   have z1 : WPpeb.cell? ⟨(w.heap.size + 1 + 1 + 1 + 1), 1, none⟩ = some (.slice none 0 0) := Hrb3.out.cell 1
   have z2 : WPpeb.cell? ⟨(w.heap.size + 1 + 1 + 1 + 1), 2, none⟩ = some (.slice none 0 0) := Hrb3.out.cell 2
   have f0 := Hrb3.out.free 0
   have f1 := Hrb3.out.free 1
   have f2 := Hrb3.out.free 2
   go_simp
   clear z0 z1 z2 f0 f1 f2
   have hch := Lib.hid ((((Chg.refl (w.heap.size + 1 + 1 + 1 + 1) WPpeb).set 0 (.int .i64 mb)).set 1 (.slice pi ni ci)).set 2 (.slice po no co))
   have Hrb4 : Hid (Blk _ (w.heap.size + 1 + 1 + 1 + 1) #[.int .i64 mb, .slice pi ni ci, .slice po no co] 28) := Lib.hid (((Hrb3.out.set 0 (.int .i64 mb)).set 1 (.slice pi ni ci)).set 2 (.slice po no co))
   have HB4 := ksq HB3 hch (by show w.heap.size ≤ (w.heap.size + 1 + 1 + 1 + 1); omega)
   have HZ4 := kzq HZ3 hch.out.size
   have Hp4 := kcq Hp3 hch (by omega)
   have Hb4 := kcq Hb3 hch (by omega)
   have Hm4 := kcq Hm3 hch (by omega)
   have Hrp4 := kcq Hrp3 hch (by omega)
   clear hch hS0 Hp3 Hb3 Hm3 Hrp3 Hrb3 HB3 HZ3
   generalize (((WPpeb.setCell ⟨w.heap.size + 1 + 1 + 1 + 1, 0, none⟩ (.int .i64 mb)).setCell ⟨w.heap.size + 1 + 1 + 1 + 1, 1, none⟩ (.slice pi ni ci)).setCell ⟨w.heap.size + 1 + 1 + 1 + 1, 2, none⟩ (.slice po no co)) = WQpeb at *
   refine hK.out _ _ ⟨Hp4.out.cell 0, Hp4.out.cell 1, Hp4.out.cell 2, Hb4.out.cell 0, Hb4.out.cell 1, Hb4.out.cell 2⟩ (fun hS0 => ?_)
   clear hK K
   try simp only [Act.put, List.getElem_toArray, List.getElem_cons_succ, List.getElem_cons_zero, List.setIfInBounds_toArray, List.set_cons_zero, List.set_cons_succ]
   refine tkq 4 ?_
   refine tkq 5 ?_
   refine wpAnyH_done (by kernel_rfl) ?_ _
   clear hS0
   go_wp2_with fail
   have hfp := Hrp4.out
   have hfb := Hrb4.out
   refine bodyPost_ret (v := .tuple #[.agg #[.int .i64 me, .int .i64 N, .slice p n c], .agg #[.int .i64 mb, .slice pi ni ci, .slice po no co], .slice none 0 0, .int .i64 110]) (by simp [results, Try.results9, go_sem, hfp.cell 0, hfp.cell 1, hfp.cell 2, hfb.cell 0, hfb.cell 1, hfb.cell 2]) rfl ⟨HB4.out, p, n, c, pi, ni, ci, _, ps, xs, [], 110, rfl, (HV.out.same HB4.out).1, (HV.out.same HB4.out).2.1, (HV.out.same HB4.out).2.2, OwnT.nil_ _ _ _ _, saidR_nil _ _, fun _ => ⟨rfl, rfl, rfl, rfl⟩, fun h => absurd HBB.out h, fun h => absurd HBB.out h⟩
  ·have hmb : (fro == -1) = false := by simpa using hm
   have hmn : (fro != -1) = true := by simpa using hm
   by_cases hN : fro = N
   ·have hnb : (fro != N) = false := by simpa using hN
    have HNB : Hid (¬ kindBad y.m fro) := by
     show ¬ _
     unfold kindBad
     rw [HK.out]
     rintro (h | h)
     ·exact h.2.1 rfl
     ·exact h ⟨fun h1 => absurd h1 hm, fun h1 => absurd h1 (by decide)⟩
    have HFR : Hid (fro = -1 ∨ fro = N) := .inr hN
    clear hm hN
    have a1 : w1.cell? ⟨w.heap.size, 1, none⟩ = some (.int .i64 N) := Hp1.out.cell 1
    go_upto_region 6 with fail
    clear a1 c0 hmb hmn hnb
    have HG := Lib.hid (vprepare_any w1 P me N mb p n c pi ni ci po no co ps xs y (VIn.mk (HV.out.pts.kept HB1.out) (HV.out.its.kept HB1.out) HV.out.ai (fun b hb => Nat.lt_of_lt_of_le (HV.out.lt b hb) HB1.out.size) HV.out.srt HV.out.np HV.out.nx) (by have h := HIN.out; exact ⟨h.1.kept HB1.out, h.2.kept HB1.out, h.3⟩) HLN.out.1 HLN.out.2)
    unfold bookV Msg.v at HG
    have a0 : w1.cell? ⟨(w.heap.size + 1), 0, none⟩ = some (.int .i64 mb) := Hb1.out.cell 0
    have a1 : w1.cell? ⟨(w.heap.size + 1), 1, none⟩ = some (.slice pi ni ci) := Hb1.out.cell 1
    have a2 : w1.cell? ⟨(w.heap.size + 1), 2, none⟩ = some (.slice po no co) := Hb1.out.cell 2
    have c0 : w1.cell? ⟨(w.heap.size + 1 + 1), 0, none⟩ = some (.int .i64 y.m.k) := Hm1.out.cell 0
    have c1 : w1.cell? ⟨(w.heap.size + 1 + 1), 1, none⟩ = some (.int .i64 y.m.s) := Hm1.out.cell 1
    have c2 : w1.cell? ⟨(w.heap.size + 1 + 1), 2, none⟩ = some (.int .i64 y.m.n) := Hm1.out.cell 2
    have c3 : w1.cell? ⟨(w.heap.size + 1 + 1), 3, none⟩ = some (.int .i64 y.m.b) := Hm1.out.cell 3
    have c4 : w1.cell? ⟨(w.heap.size + 1 + 1), 4, none⟩ = some (.int .i64 y.m.c) := Hm1.out.cell 4
    have c5 : w1.cell? ⟨(w.heap.size + 1 + 1), 5, none⟩ = some (.int .i64 y.m.r) := Hm1.out.cell 5
    have c6 : w1.cell? ⟨(w.heap.size + 1 + 1), 6, none⟩ = some (.int .i64 y.m.y) := Hm1.out.cell 6
    have c7 : w1.cell? ⟨(w.heap.size + 1 + 1), 7, none⟩ = some (.int .i64 y.m.a) := Hm1.out.cell 7
    have c8 : w1.cell? ⟨(w.heap.size + 1 + 1), 8, none⟩ = some (.bool y.m.t) := Hm1.out.cell 8
    have c9 : w1.cell? ⟨(w.heap.size + 1 + 1), 9, none⟩ = some (.slice y.pl y.m.ls.length y.cl) := Hm1.out.cell 9
    have c10 : w1.cell? ⟨(w.heap.size + 1 + 1), 10, none⟩ = some (.slice y.pn y.m.ns.length y.cn) := Hm1.out.cell 10
    go_wp2_with fail
    clear a0 a1 a2 c0 c1 c2 c3 c4 c5 c6 c7 c8 c9 c10
    refine HG.out.mono ?_
    rintro y9 w4 ⟨hb, p2, n2, c2, pi2, ni2, ci2, vs, ps2, xs2, out, e, rfl, hp, hr, ha, ho, hsr, hG⟩
    clear HG
    have HWL : Hid (w1.heap.size ≤ w4.heap.size) := Lib.hid hb.size
    have HLW : Hid (w.heap.size + 1 + 1 + 1 + 1 < w1.heap.size) := Hrb1.out.lt
    have Hp2 := kbq Hp1 hb
    have Hb2 := kbq Hb1 hb
    have Hm2 := kbq Hm1 hb
    have Hrp2 := kbq Hrp1 hb
    have Hrb2 := kbq Hrb1 hb
    have HB2 := ktq HB1 hb
    have HZ2 := kzq HZ1 hb.size
    clear Hp1 Hb1 Hm1 Hrp1 Hrb1 HB1 HZ1
    clear hb
    have Hp3 := Lib.hid ((Hp2.out.alloc (.cells #[.int .i64 me, .int .i64 N, .slice p2 n2 c2] 36)).alloc (.cells #[.int .i64 mb, .slice pi2 ni2 ci2, .slice po no co] 28))
    have Hb3 := Lib.hid ((Hb2.out.alloc (.cells #[.int .i64 me, .int .i64 N, .slice p2 n2 c2] 36)).alloc (.cells #[.int .i64 mb, .slice pi2 ni2 ci2, .slice po no co] 28))
    have Hm3 := Lib.hid ((Hm2.out.alloc (.cells #[.int .i64 me, .int .i64 N, .slice p2 n2 c2] 36)).alloc (.cells #[.int .i64 mb, .slice pi2 ni2 ci2, .slice po no co] 28))
    have Hrp3 := Lib.hid ((Hrp2.out.alloc (.cells #[.int .i64 me, .int .i64 N, .slice p2 n2 c2] 36)).alloc (.cells #[.int .i64 mb, .slice pi2 ni2 ci2, .slice po no co] 28))
    have Hrb3 := Lib.hid ((Hrb2.out.alloc (.cells #[.int .i64 me, .int .i64 N, .slice p2 n2 c2] 36)).alloc (.cells #[.int .i64 mb, .slice pi2 ni2 ci2, .slice po no co] 28))
    have hbz : Below w4.heap.size w4 ((w4.alloc (.cells #[.int .i64 me, .int .i64 N, .slice p2 n2 c2] 36)).alloc (.cells #[.int .i64 mb, .slice pi2 ni2 ci2, .slice po no co] 28)) := (oneB w4 _).alloc (by simp) _
    have Hxp3 := Lib.hid ((Blk.new w4 #[.int .i64 me, .int .i64 N, .slice p2 n2 c2] 36).alloc (.cells #[.int .i64 mb, .slice pi2 ni2 ci2, .slice po no co] 28))
    have Hxb3 : Hid (Blk ((w4.alloc (.cells #[.int .i64 me, .int .i64 N, .slice p2 n2 c2] 36)).alloc (.cells #[.int .i64 mb, .slice pi2 ni2 ci2, .slice po no co] 28)) (w4.heap.size + 1) #[.int .i64 mb, .slice pi2 ni2 ci2, .slice po no co] 28) := Lib.hid (Blk.new' _ _ _ (by simp))
    have HB3 := ktq HB2 hbz
    have HZ3 : Hid (w.heap.size ≤ ((w4.alloc (.cells #[.int .i64 me, .int .i64 N, .slice p2 n2 c2] 36)).alloc (.cells #[.int .i64 mb, .slice pi2 ni2 ci2, .slice po no co] 28)).heap.size) := Lib.hid HB3.out.size
    have HP := Lib.hid (hp.kept hbz)
    have HR := Lib.hid (hr.kept hbz)
    have HA := Lib.hid ha
    have HO := Lib.hid (ho.later hbz)
    have HSR : Hid (SaidR ((w4.alloc (.cells #[.int .i64 me, .int .i64 N, .slice p2 n2 c2] 36)).alloc (.cells #[.int .i64 mb, .slice pi2 ni2 ci2, .slice po no co] 28)) (fun b => P b ∨ w1.heap.size ≤ b) out) := Lib.hid (fun z hz => ⟨(hsr z hz).1.kept hbz, (hsr z hz).2⟩)
    have HGG := Lib.hid hG
    clear hp hr ha ho hsr hG hbz Hp2 Hb2 Hm2 Hrp2 Hrb2 HB2 HZ2
    go_upto_region 7 with fail
    generalize ((w4.alloc (.cells #[.int .i64 me, .int .i64 N, .slice p2 n2 c2] 36)).alloc (.cells #[.int .i64 mb, .slice pi2 ni2 ci2, .slice po no co] 28)) = W4 at *
    generalize w4.heap.size = g4 at *
    by_cases he : e = 0
    ·subst he
     go_upto_region 9 with fail
     have hbd := (Below.refl W4.heap.size W4).drew
     refine wp_region_held_drew (S := fun w' => w'.cell? ⟨g4, 0, none⟩ = some (.int .i64 me) ∧ w'.cell? ⟨g4, 1, none⟩ = some (.int .i64 N) ∧ w'.cell? ⟨g4, 2, none⟩ = some (.slice p2 n2 c2) ∧ w'.cell? ⟨g4 + 1, 0, none⟩ = some (.int .i64 mb) ∧ w'.cell? ⟨g4 + 1, 1, none⟩ = some (.slice pi2 ni2 ci2) ∧ w'.cell? ⟨g4 + 1, 2, none⟩ = some (.slice po no co)) (by kernel_rfl) ⟨(Hxp3.out.below hbd Hxp3.out.lt).cell 0, (Hxp3.out.below hbd Hxp3.out.lt).cell 1, (Hxp3.out.below hbd Hxp3.out.lt).cell 2, (Hxb3.out.below hbd Hxb3.out.lt).cell 0, (Hxb3.out.below hbd Hxb3.out.lt).cell 1, (Hxb3.out.below hbd Hxb3.out.lt).cell 2⟩ (fun hS0 => ?_)
     have HP := Lib.hid (HP.out.kept hbd)
     have HR := Lib.hid (HR.out.kept hbd)
     have HO := Lib.hid (HO.out.later hbd)
     have HSR : Hid (SaidR W4.drew (fun b => P b ∨ w1.heap.size ≤ b) out) := Lib.hid (fun z hz => ⟨(HSR.out z hz).1.kept hbd, (HSR.out z hz).2⟩)
     generalize W4.drew = WDpea at *
     have Hp4 := kbq Hp3 hbd
     have Hb4 := kbq Hb3 hbd
     have Hm4 := kbq Hm3 hbd
     have Hrp4 := kbq Hrp3 hbd
     have Hrb4 := kbq Hrb3 hbd
     have Hxp4 := kbq Hxp3 hbd
     have Hxb4 := kbq Hxb3 hbd
     have HB4 := ktq HB3 hbd
     have HZ4 := kzq HZ3 hbd.size
     clear Hp3 Hb3 Hm3 Hrp3 Hrb3 Hxp3 Hxb3 HB3 HZ3
     clear hbd
     refine tkq 0 ?_
     refine tkq 1 ?_
     refine tkq 2 ?_
     refine rdq 3 (fun K hK => ?_)
     have z0 : WDpea.cell? ⟨(w.heap.size + 1 + 1 + 1), 0, none⟩ = some (.int .i64 0) := Hrp4.out.cell 0
     have z1 : WDpea.cell? ⟨(w.heap.size + 1 + 1 + 1), 1, none⟩ = some (.int .i64 0) := Hrp4.out.cell 1
     have z2 : WDpea.cell? ⟨(w.heap.size + 1 + 1 + 1), 2, none⟩ = some (.slice none 0 0) := Hrp4.out.cell 2
     have f0 := Hrp4.out.free 0
     have f1 := Hrp4.out.free 1
     have f2 := Hrp4.out.free 2
     go_simp
     clear z0 z1 z2 f0 f1 f2
     have hch := Lib.hid ((((Chg.refl (w.heap.size + 1 + 1 + 1) WDpea).set 0 (.int .i64 me)).set 1 (.int .i64 N)).set 2 (.slice p2 n2 c2))
     have Hrp5 : Hid (Blk _ (w.heap.size + 1 + 1 + 1) #[.int .i64 me, .int .i64 N, .slice p2 n2 c2] 36) := Lib.hid (((Hrp4.out.set 0 (.int .i64 me)).set 1 (.int .i64 N)).set 2 (.slice p2 n2 c2))
     have HB5 := ksq HB4 hch (by show w.heap.size ≤ (w.heap.size + 1 + 1 + 1); omega)
     have HZ5 := kzq HZ4 hch.out.size
     have Hp5 := kcq Hp4 hch (by have h7 := HLW.out; have h8 := HWL.out; omega)
     have Hb5 := kcq Hb4 hch (by have h7 := HLW.out; have h8 := HWL.out; omega)
     have Hm5 := kcq Hm4 hch (by have h7 := HLW.out; have h8 := HWL.out; omega)
     have Hrb5 := kcq Hrb4 hch (by have h7 := HLW.out; have h8 := HWL.out; omega)
     have Hxp5 := kcq Hxp4 hch (by have h7 := HLW.out; have h8 := HWL.out; omega)
     have Hxb5 := kcq Hxb4 hch (by have h7 := HLW.out; have h8 := HWL.out; omega)
     have hn3 : ∀ g, g = w.heap.size + 1 + 1 + 1 ∨ g = w.heap.size + 1 + 1 + 1 + 1 → ¬ (P g ∨ w1.heap.size ≤ g) := fun g hg h => by
      have h7 := HLW.out
      have h9 := HV.out.lt
      rcases h with h | h
      ·have h8 := h9 _ h; omega
      ·omega
     have hkp := KeepP.of_chg (P := fun b => P b ∨ w1.heap.size ≤ b) hch.out (hn3 _ (by have h7 := HLW.out; have h8 := HWL.out; omega))
     have HP := Lib.hid (HP.out.keepP hkp)
     have HR := Lib.hid (HR.out.keepP HA.out hkp)
     have HO := Lib.hid (HO.out.stay (fun b hb => hch.out.2 b (HO.out.lt b hb) (by have h1 := HO.out.block_ge b hb; have h7 := HLW.out; omega)))
     have HSR : Hid (SaidR _ (fun b => P b ∨ w1.heap.size ≤ b) out) := Lib.hid (fun z hz => ⟨(HSR.out z hz).1.keepP (HSR.out z hz).2 hkp, (HSR.out z hz).2⟩)
     clear hn3 hkp
     clear hch hS0 Hp4 Hb4 Hm4 Hrp4 Hrb4 Hxp4 Hxb4 HB4 HZ4
     generalize (((WDpea.setCell ⟨w.heap.size + 1 + 1 + 1, 0, none⟩ (.int .i64 me)).setCell ⟨w.heap.size + 1 + 1 + 1, 1, none⟩ (.int .i64 N)).setCell ⟨w.heap.size + 1 + 1 + 1, 2, none⟩ (.slice p2 n2 c2)) = WPpea at *
     refine hK.out _ _ ⟨Hxp5.out.cell 0, Hxp5.out.cell 1, Hxp5.out.cell 2, Hxb5.out.cell 0, Hxb5.out.cell 1, Hxb5.out.cell 2⟩ (fun hS0 => ?_)
     clear hK K
     try simp only [Act.put, List.getElem_toArray, List.getElem_cons_succ, List.getElem_cons_zero, List.setIfInBounds_toArray, List.set_cons_zero, List.set_cons_succ]
     refine rdq 4 (fun K hK => ?_)
     have z0 : WPpea.cell? ⟨(w.heap.size + 1 + 1 + 1 + 1), 0, none⟩ = some (.int .i64 0) := Hrb5.out.cell 0
     have z1 : WPpea.cell? ⟨(w.heap.size + 1 + 1 + 1 + 1), 1, none⟩ = some (.slice none 0 0) := Hrb5.out.cell 1
     have z2 : WPpea.cell? ⟨(w.heap.size + 1 + 1 + 1 + 1), 2, none⟩ = some (.slice none 0 0) := Hrb5.out.cell 2
     have f0 := Hrb5.out.free 0
     have f1 := Hrb5.out.free 1
     have f2 := Hrb5.out.free 2
     go_simp
     clear z0 z1 z2 f0 f1 f2
     have hch := Lib.hid ((((Chg.refl (w.heap.size + 1 + 1 + 1 + 1) WPpea).set 0 (.int .i64 mb)).set 1 (.slice pi2 ni2 ci2)).set 2 (.slice po no co))
     have Hrb6 : Hid (Blk _ (w.heap.size + 1 + 1 + 1 + 1) #[.int .i64 mb, .slice pi2 ni2 ci2, .slice po no co] 28) := Lib.hid (((Hrb5.out.set 0 (.int .i64 mb)).set 1 (.slice pi2 ni2 ci2)).set 2 (.slice po no co))
     have HB6 := ksq HB5 hch (by show w.heap.size ≤ (w.heap.size + 1 + 1 + 1 + 1); omega)
     have HZ6 := kzq HZ5 hch.out.size
     have Hp6 := kcq Hp5 hch (by have h7 := HLW.out; have h8 := HWL.out; omega)
     have Hb6 := kcq Hb5 hch (by have h7 := HLW.out; have h8 := HWL.out; omega)
     have Hm6 := kcq Hm5 hch (by have h7 := HLW.out; have h8 := HWL.out; omega)
     have Hrp6 := kcq Hrp5 hch (by have h7 := HLW.out; have h8 := HWL.out; omega)
     have Hxp6 := kcq Hxp5 hch (by have h7 := HLW.out; have h8 := HWL.out; omega)
     have Hxb6 := kcq Hxb5 hch (by have h7 := HLW.out; have h8 := HWL.out; omega)
     have hn3 : ∀ g, g = w.heap.size + 1 + 1 + 1 ∨ g = w.heap.size + 1 + 1 + 1 + 1 → ¬ (P g ∨ w1.heap.size ≤ g) := fun g hg h => by
      have h7 := HLW.out
      have h9 := HV.out.lt
      rcases h with h | h
      ·have h8 := h9 _ h; omega
      ·omega
     have hkp := KeepP.of_chg (P := fun b => P b ∨ w1.heap.size ≤ b) hch.out (hn3 _ (by have h7 := HLW.out; have h8 := HWL.out; omega))
     have HP := Lib.hid (HP.out.keepP hkp)
     have HR := Lib.hid (HR.out.keepP HA.out hkp)
     have HO := Lib.hid (HO.out.stay (fun b hb => hch.out.2 b (HO.out.lt b hb) (by have h1 := HO.out.block_ge b hb; have h7 := HLW.out; omega)))
     have HSR : Hid (SaidR _ (fun b => P b ∨ w1.heap.size ≤ b) out) := Lib.hid (fun z hz => ⟨(HSR.out z hz).1.keepP (HSR.out z hz).2 hkp, (HSR.out z hz).2⟩)
     clear hn3 hkp
     clear hch hS0 Hp5 Hb5 Hm5 Hrp5 Hrb5 Hxp5 Hxb5 HB5 HZ5
     generalize (((WPpea.setCell ⟨w.heap.size + 1 + 1 + 1 + 1, 0, none⟩ (.int .i64 mb)).setCell ⟨w.heap.size + 1 + 1 + 1 + 1, 1, none⟩ (.slice pi2 ni2 ci2)).setCell ⟨w.heap.size + 1 + 1 + 1 + 1, 2, none⟩ (.slice po no co)) = WQpea at *
     refine hK.out _ _ ⟨Hxp6.out.cell 0, Hxp6.out.cell 1, Hxp6.out.cell 2, Hxb6.out.cell 0, Hxb6.out.cell 1, Hxb6.out.cell 2⟩ (fun hS0 => ?_)
     clear hK K
     try simp only [Act.put, List.getElem_toArray, List.getElem_cons_succ, List.getElem_cons_zero, List.setIfInBounds_toArray, List.set_cons_zero, List.set_cons_succ]
     refine tkq 5 ?_
     refine tkq 6 ?_
     refine wpAnyH_done (by kernel_rfl) ?_ _
     clear hS0
     obtain ⟨p5, c5, hv5⟩ := HO.out.form
     obtain ⟨lo, hlo⟩ : ∃ k, out.length = k := ⟨_, rfl⟩
     rw [hlo] at hv5
     clear hlo
     subst hv5
     go_wp2_with fail
     have hfp := Hrp6.out
     have hfb := Hrb6.out
     refine bodyPost_ret (v := .tuple #[.agg #[.int .i64 me, .int .i64 N, .slice p2 n2 c2], .agg #[.int .i64 mb, .slice pi2 ni2 ci2, .slice po no co], .slice p5 lo c5, .int .i64 0]) (by simp [results, Try.results9, go_sem, hfp.cell 0, hfp.cell 1, hfp.cell 2, hfb.cell 0, hfb.cell 1, hfb.cell 2]) rfl ⟨HB6.out, p2, n2, c2, pi2, ni2, ci2, _, ps2, xs2, out, 0, rfl, HP.out.imp (fun b h => h.imp id (fun h => by have h7 := HLW.out; omega)), HR.out, HA.out.imp (fun b h => h.imp id (fun h => by have h7 := HLW.out; omega)), HO.out.less (by have h7 := HLW.out; omega), fun z hz => ⟨(HSR.out z hz).1, (HSR.out z hz).2.imp (fun b h => h.imp id (fun h => by have h7 := HLW.out; omega))⟩, fun h => absurd h HNB.out, fun _ h1 h2 => absurd HFR.out (by omega), fun _ _ => ⟨ps2, xs2, out, 0, by unfold actG; rw [HK.out]; exact HGG.out, fun h => absurd rfl h, fun _ => ⟨rfl, rfl, rfl, rfl⟩⟩⟩
    ·have heb : (e != 0) = true := by simpa using he
     have HE : Hid (e ≠ 0) := he
     clear he
     go_upto_region 8 with fail
     clear heb HP HR HA HO HSR Hxp3 Hxb3
     have hbd := (Below.refl W4.heap.size W4).drew
     refine wp_region_held_drew (S := fun w' => w'.cell? ⟨w.heap.size, 0, none⟩ = some (.int .i64 me) ∧ w'.cell? ⟨w.heap.size, 1, none⟩ = some (.int .i64 N) ∧ w'.cell? ⟨w.heap.size, 2, none⟩ = some (.slice p n c) ∧ w'.cell? ⟨w.heap.size + 1, 0, none⟩ = some (.int .i64 mb) ∧ w'.cell? ⟨w.heap.size + 1, 1, none⟩ = some (.slice pi ni ci) ∧ w'.cell? ⟨w.heap.size + 1, 2, none⟩ = some (.slice po no co)) (by kernel_rfl) ⟨(Hp3.out.below hbd Hp3.out.lt).cell 0, (Hp3.out.below hbd Hp3.out.lt).cell 1, (Hp3.out.below hbd Hp3.out.lt).cell 2, (Hb3.out.below hbd Hb3.out.lt).cell 0, (Hb3.out.below hbd Hb3.out.lt).cell 1, (Hb3.out.below hbd Hb3.out.lt).cell 2⟩ (fun hS0 => ?_)
     generalize W4.drew = WDpeae at *
     have Hp4 := kbq Hp3 hbd
     have Hb4 := kbq Hb3 hbd
     have Hm4 := kbq Hm3 hbd
     have Hrp4 := kbq Hrp3 hbd
     have Hrb4 := kbq Hrb3 hbd
     have HB4 := ktq HB3 hbd
     have HZ4 := kzq HZ3 hbd.size
     clear Hp3 Hb3 Hm3 Hrp3 Hrb3 HB3 HZ3
     clear hbd
     refine tkq 0 ?_
     refine tkq 1 ?_
     refine tkq 2 ?_
     refine rdq 3 (fun K hK => ?_)
     have z0 : WDpeae.cell? ⟨(w.heap.size + 1 + 1 + 1), 0, none⟩ = some (.int .i64 0) := Hrp4.out.cell 0
     have z1 : WDpeae.cell? ⟨(w.heap.size + 1 + 1 + 1), 1, none⟩ = some (.int .i64 0) := Hrp4.out.cell 1
     have z2 : WDpeae.cell? ⟨(w.heap.size + 1 + 1 + 1), 2, none⟩ = some (.slice none 0 0) := Hrp4.out.cell 2
     have f0 := Hrp4.out.free 0
     have f1 := Hrp4.out.free 1
     have f2 := Hrp4.out.free 2
     go_simp
     clear z0 z1 z2 f0 f1 f2
     have hch := Lib.hid ((((Chg.refl (w.heap.size + 1 + 1 + 1) WDpeae).set 0 (.int .i64 me)).set 1 (.int .i64 N)).set 2 (.slice p n c))
     have Hrp5 : Hid (Blk _ (w.heap.size + 1 + 1 + 1) #[.int .i64 me, .int .i64 N, .slice p n c] 36) := Lib.hid (((Hrp4.out.set 0 (.int .i64 me)).set 1 (.int .i64 N)).set 2 (.slice p n c))
     have HB5 := ksq HB4 hch (by show w.heap.size ≤ (w.heap.size + 1 + 1 + 1); omega)
     have HZ5 := kzq HZ4 hch.out.size
     have Hp5 := kcq Hp4 hch (by have h7 := HLW.out; have h8 := HWL.out; omega)
     have Hb5 := kcq Hb4 hch (by have h7 := HLW.out; have h8 := HWL.out; omega)
     have Hm5 := kcq Hm4 hch (by have h7 := HLW.out; have h8 := HWL.out; omega)
     have Hrb5 := kcq Hrb4 hch (by have h7 := HLW.out; have h8 := HWL.out; omega)
     clear hch hS0 Hp4 Hb4 Hm4 Hrp4 Hrb4 HB4 HZ4
     generalize (((WDpeae.setCell ⟨w.heap.size + 1 + 1 + 1, 0, none⟩ (.int .i64 me)).setCell ⟨w.heap.size + 1 + 1 + 1, 1, none⟩ (.int .i64 N)).setCell ⟨w.heap.size + 1 + 1 + 1, 2, none⟩ (.slice p n c)) = WPpeae at *
     refine hK.out _ _ ⟨Hp5.out.cell 0, Hp5.out.cell 1, Hp5.out.cell 2, Hb5.out.cell 0, Hb5.out.cell 1, Hb5.out.cell 2⟩ (fun hS0 => ?_)
     clear hK K
     try simp only [Act.put, List.getElem_toArray, List.getElem_cons_succ, List.getElem_cons_zero, List.setIfInBounds_toArray, List.set_cons_zero, List.set_cons_succ]
     refine rdq 4 (fun K hK => ?_)
     have z0 : WPpeae.cell? ⟨(w.heap.size + 1 + 1 + 1 + 1), 0, none⟩ = some (.int .i64 0) := Hrb5.out.cell 0
     have z1 : WPpeae.cell? ⟨(w.heap.size + 1 + 1 + 1 + 1), 1, none⟩ = some (.slice none 0 0) := Hrb5.out.cell 1
     have z2 : WPpeae.cell? ⟨(w.heap.size + 1 + 1 + 1 + 1), 2, none⟩ = some (.slice none 0 0) := Hrb5.out.cell 2
     have f0 := Hrb5.out.free 0
     have f1 := Hrb5.out.free 1
     have f2 := Hrb5.out.free 2
     go_simp
     clear z0 z1 z2 f0 f1 f2
     have hch := Lib.hid ((((Chg.refl (w.heap.size + 1 + 1 + 1 + 1) WPpeae).set 0 (.int .i64 mb)).set 1 (.slice pi ni ci)).set 2 (.slice po no co))
     have Hrb6 : Hid (Blk _ (w.heap.size + 1 + 1 + 1 + 1) #[.int .i64 mb, .slice pi ni ci, .slice po no co] 28) := Lib.hid (((Hrb5.out.set 0 (.int .i64 mb)).set 1 (.slice pi ni ci)).set 2 (.slice po no co))
     have HB6 := ksq HB5 hch (by show w.heap.size ≤ (w.heap.size + 1 + 1 + 1 + 1); omega)
     have HZ6 := kzq HZ5 hch.out.size
     have Hp6 := kcq Hp5 hch (by have h7 := HLW.out; have h8 := HWL.out; omega)
     have Hb6 := kcq Hb5 hch (by have h7 := HLW.out; have h8 := HWL.out; omega)
     have Hm6 := kcq Hm5 hch (by have h7 := HLW.out; have h8 := HWL.out; omega)
     have Hrp6 := kcq Hrp5 hch (by have h7 := HLW.out; have h8 := HWL.out; omega)
     clear hch hS0 Hp5 Hb5 Hm5 Hrp5 Hrb5 HB5 HZ5
     generalize (((WPpeae.setCell ⟨w.heap.size + 1 + 1 + 1 + 1, 0, none⟩ (.int .i64 mb)).setCell ⟨w.heap.size + 1 + 1 + 1 + 1, 1, none⟩ (.slice pi ni ci)).setCell ⟨w.heap.size + 1 + 1 + 1 + 1, 2, none⟩ (.slice po no co)) = WQpeae at *
     refine hK.out _ _ ⟨Hp6.out.cell 0, Hp6.out.cell 1, Hp6.out.cell 2, Hb6.out.cell 0, Hb6.out.cell 1, Hb6.out.cell 2⟩ (fun hS0 => ?_)
     clear hK K
     try simp only [Act.put, List.getElem_toArray, List.getElem_cons_succ, List.getElem_cons_zero, List.setIfInBounds_toArray, List.set_cons_zero, List.set_cons_succ]
     refine tkq 5 ?_
     refine tkq 6 ?_
     refine wpAnyH_done (by kernel_rfl) ?_ _
     clear hS0
     go_wp2_with fail
     have hfp := Hrp6.out
     have hfb := Hrb6.out
     refine bodyPost_ret (v := .tuple #[.agg #[.int .i64 me, .int .i64 N, .slice p n c], .agg #[.int .i64 mb, .slice pi ni ci, .slice po no co], .slice none 0 0, .int .i64 e]) (by simp [results, Try.results9, go_sem, hfp.cell 0, hfp.cell 1, hfp.cell 2, hfb.cell 0, hfb.cell 1, hfb.cell 2]) rfl ⟨HB6.out, p, n, c, pi, ni, ci, _, ps, xs, [], e, rfl, (HV.out.same HB6.out).1, (HV.out.same HB6.out).2.1, (HV.out.same HB6.out).2.2, OwnT.nil_ _ _ _ _, saidR_nil _ _, fun h => absurd h HNB.out, fun _ h1 h2 => absurd HFR.out (by omega), fun _ _ => ⟨ps2, xs2, out, e, by unfold actG; rw [HK.out]; exact HGG.out, fun _ => ⟨rfl, rfl, rfl, rfl⟩, fun h => absurd h HE.out⟩⟩
   ·have hnb : (fro != N) = true := by simpa using hN
    have HNB : Hid (¬ kindBad y.m fro) := by
     show ¬ _
     unfold kindBad
     rw [HK.out]
     rintro (h | h)
     ·exact h.2.1 rfl
     ·exact h ⟨fun h1 => absurd h1 hm, fun h1 => absurd h1 (by decide)⟩
    have HFN : Hid (fro ≠ -1 ∧ fro ≠ N) := ⟨hm, hN⟩
    clear hm hN
    have a1 : w1.cell? ⟨w.heap.size, 1, none⟩ = some (.int .i64 N) := Hp1.out.cell 1
    go_upto_region 5 with fail
    clear a1 c0 hmb hmn hnb
    have hbd := (Below.refl w1.heap.size w1).drew
    refine wp_region_held_drew (S := fun w' => w'.cell? ⟨w.heap.size, 0, none⟩ = some (.int .i64 me) ∧ w'.cell? ⟨w.heap.size, 1, none⟩ = some (.int .i64 N) ∧ w'.cell? ⟨w.heap.size, 2, none⟩ = some (.slice p n c) ∧ w'.cell? ⟨w.heap.size + 1, 0, none⟩ = some (.int .i64 mb) ∧ w'.cell? ⟨w.heap.size + 1, 1, none⟩ = some (.slice pi ni ci) ∧ w'.cell? ⟨w.heap.size + 1, 2, none⟩ = some (.slice po no co)) (by kernel_rfl) ⟨(Hp1.out.below hbd Hp1.out.lt).cell 0, (Hp1.out.below hbd Hp1.out.lt).cell 1, (Hp1.out.below hbd Hp1.out.lt).cell 2, (Hb1.out.below hbd Hb1.out.lt).cell 0, (Hb1.out.below hbd Hb1.out.lt).cell 1, (Hb1.out.below hbd Hb1.out.lt).cell 2⟩ (fun hS0 => ?_)
    generalize w1.drew = WDpec at *
    have Hp2 := kbq Hp1 hbd
    have Hb2 := kbq Hb1 hbd
    have Hm2 := kbq Hm1 hbd
    have Hrp2 := kbq Hrp1 hbd
    have Hrb2 := kbq Hrb1 hbd
    have HB2 := ktq HB1 hbd
    have HZ2 := kzq HZ1 hbd.size
    clear Hp1 Hb1 Hm1 Hrp1 Hrb1 HB1 HZ1
    clear hbd
    refine tkq 0 ?_
    refine tkq 1 ?_
    refine rdq 2 (fun K hK => ?_)
    have z0 : WDpec.cell? ⟨(w.heap.size + 1 + 1 + 1), 0, none⟩ = some (.int .i64 0) := Hrp2.out.cell 0
    have z1 : WDpec.cell? ⟨(w.heap.size + 1 + 1 + 1), 1, none⟩ = some (.int .i64 0) := Hrp2.out.cell 1
    have z2 : WDpec.cell? ⟨(w.heap.size + 1 + 1 + 1), 2, none⟩ = some (.slice none 0 0) := Hrp2.out.cell 2
    have f0 := Hrp2.out.free 0
    have f1 := Hrp2.out.free 1
    have f2 := Hrp2.out.free 2
    go_simp
    clear z0 z1 z2 f0 f1 f2
    have hch := Lib.hid ((((Chg.refl (w.heap.size + 1 + 1 + 1) WDpec).set 0 (.int .i64 me)).set 1 (.int .i64 N)).set 2 (.slice p n c))
    have Hrp3 : Hid (Blk _ (w.heap.size + 1 + 1 + 1) #[.int .i64 me, .int .i64 N, .slice p n c] 36) := Lib.hid (((Hrp2.out.set 0 (.int .i64 me)).set 1 (.int .i64 N)).set 2 (.slice p n c))
    have HB3 := ksq HB2 hch (by show w.heap.size ≤ (w.heap.size + 1 + 1 + 1); omega)
    have HZ3 := kzq HZ2 hch.out.size
    have Hp3 := kcq Hp2 hch (by omega)
    have Hb3 := kcq Hb2 hch (by omega)
    have Hm3 := kcq Hm2 hch (by omega)
    have Hrb3 := kcq Hrb2 hch (by omega)
    clear hch hS0 Hp2 Hb2 Hm2 Hrp2 Hrb2 HB2 HZ2
    generalize (((WDpec.setCell ⟨w.heap.size + 1 + 1 + 1, 0, none⟩ (.int .i64 me)).setCell ⟨w.heap.size + 1 + 1 + 1, 1, none⟩ (.int .i64 N)).setCell ⟨w.heap.size + 1 + 1 + 1, 2, none⟩ (.slice p n c)) = WPpec at *
    refine hK.out _ _ ⟨Hp3.out.cell 0, Hp3.out.cell 1, Hp3.out.cell 2, Hb3.out.cell 0, Hb3.out.cell 1, Hb3.out.cell 2⟩ (fun hS0 => ?_)
    clear hK K
    try simp only [Act.put, List.getElem_toArray, List.getElem_cons_succ, List.getElem_cons_zero, List.setIfInBounds_toArray, List.set_cons_zero, List.set_cons_succ]
    refine rdq 3 (fun K hK => ?_)
    have z0 : WPpec.cell? ⟨(w.heap.size + 1 + 1 + 1 + 1), 0, none⟩ = some (.int .i64 0) := Hrb3.out.cell 0
    have z1 : WPpec.cell? ⟨(w.heap.size + 1 + 1 + 1 + 1), 1, none⟩ = some (.slice none 0 0) := Hrb3.out.cell 1
    have z2 : WPpec.cell? ⟨(w.heap.size + 1 + 1 + 1 + 1), 2, none⟩ = some (.slice none 0 0) := Hrb3.out.cell 2
    have f0 := Hrb3.out.free 0
    have f1 := Hrb3.out.free 1
    have f2 := Hrb3.out.free 2
    go_simp
    clear z0 z1 z2 f0 f1 f2
    have hch := Lib.hid ((((Chg.refl (w.heap.size + 1 + 1 + 1 + 1) WPpec).set 0 (.int .i64 mb)).set 1 (.slice pi ni ci)).set 2 (.slice po no co))
    have Hrb4 : Hid (Blk _ (w.heap.size + 1 + 1 + 1 + 1) #[.int .i64 mb, .slice pi ni ci, .slice po no co] 28) := Lib.hid (((Hrb3.out.set 0 (.int .i64 mb)).set 1 (.slice pi ni ci)).set 2 (.slice po no co))
    have HB4 := ksq HB3 hch (by show w.heap.size ≤ (w.heap.size + 1 + 1 + 1 + 1); omega)
    have HZ4 := kzq HZ3 hch.out.size
    have Hp4 := kcq Hp3 hch (by omega)
    have Hb4 := kcq Hb3 hch (by omega)
    have Hm4 := kcq Hm3 hch (by omega)
    have Hrp4 := kcq Hrp3 hch (by omega)
    clear hch hS0 Hp3 Hb3 Hm3 Hrp3 Hrb3 HB3 HZ3
    generalize (((WPpec.setCell ⟨w.heap.size + 1 + 1 + 1 + 1, 0, none⟩ (.int .i64 mb)).setCell ⟨w.heap.size + 1 + 1 + 1 + 1, 1, none⟩ (.slice pi ni ci)).setCell ⟨w.heap.size + 1 + 1 + 1 + 1, 2, none⟩ (.slice po no co)) = WQpec at *
    refine hK.out _ _ ⟨Hp4.out.cell 0, Hp4.out.cell 1, Hp4.out.cell 2, Hb4.out.cell 0, Hb4.out.cell 1, Hb4.out.cell 2⟩ (fun hS0 => ?_)
    clear hK K
    try simp only [Act.put, List.getElem_toArray, List.getElem_cons_succ, List.getElem_cons_zero, List.setIfInBounds_toArray, List.set_cons_zero, List.set_cons_succ]
    refine tkq 4 ?_
    refine tkq 5 ?_
    refine wpAnyH_done (by kernel_rfl) ?_ _
    clear hS0
    go_wp2_with fail
    have hfp := Hrp4.out
    have hfb := Hrb4.out
    refine bodyPost_ret (v := .tuple #[.agg #[.int .i64 me, .int .i64 N, .slice p n c], .agg #[.int .i64 mb, .slice pi ni ci, .slice po no co], .slice none 0 0, .int .i64 140]) (by simp [results, Try.results9, go_sem, hfp.cell 0, hfp.cell 1, hfp.cell 2, hfb.cell 0, hfb.cell 1, hfb.cell 2]) rfl ⟨HB4.out, p, n, c, pi, ni, ci, _, ps, xs, [], 140, rfl, (HV.out.same HB4.out).1, (HV.out.same HB4.out).2.1, (HV.out.same HB4.out).2.2, OwnT.nil_ _ _ _ _, saidR_nil _ _, fun h => absurd h HNB.out, fun _ _ _ => ⟨rfl, rfl, rfl, rfl⟩, fun _ h => absurd h (by have := HFN.out; omega)⟩
 have hk12 := hk
 clear hk
 by_cases hk : y.m.k = 14
 ·skip
  have HK : Hid (y.m.k = 14) := hk
  have HG := Lib.hid (at_decide W me N p n c)
  have a0 : W.cell? ⟨w.heap.size, 0, none⟩ = some (.int .i64 me) := Hp0.out.cell 0
  have a1 : W.cell? ⟨w.heap.size, 1, none⟩ = some (.int .i64 N) := Hp0.out.cell 1
  have a2 : W.cell? ⟨w.heap.size, 2, none⟩ = some (.slice p n c) := Hp0.out.cell 2
  have c0 : W.cell? ⟨(w.heap.size + 1 + 1), 0, none⟩ = some (.int .i64 y.m.k) := Hm0.out.cell 0
  rw [hk] at c0
  clear hk
  go_wp2_with fail
  clear a0 a1 a2
  refine HG.out.mono ?_
  rintro y9 w1 ⟨rfl, hb⟩
  clear HG c0
  have Hp1 := kbq Hp0 hb
  have Hb1 := kbq Hb0 hb
  have Hm1 := kbq Hm0 hb
  have Hrp1 := kbq Hrp0 hb
  have Hrb1 := kbq Hrb0 hb
  have HB1 := ktq HB0 hb
  have HZ1 := kzq HZ0 hb.size
  clear Hp0 Hb0 Hm0 Hrp0 Hrb0 HB0 HZ0
  clear hb
  have c0 : w1.cell? ⟨w.heap.size + 1 + 1, 0, none⟩ = some (.int .i64 14) := by have h := Hm1.out.cell 0; rw [← HK.out]; exact h
  by_cases hm : fro = -1
  ·have hmb : (fro == -1) = true := by simpa using hm
   have hmn : (fro != -1) = false := by simpa using hm
   have HBB : Hid (kindBad y.m fro) := by
    show _
    unfold kindBad
    rw [HK.out]
    exact .inr (fun h => absurd (h.1 hm) (by decide))
   clear hm
   go_upto_region 3 with fail
   clear c0 hmb hmn
   have hbd := (Below.refl w1.heap.size w1).drew
   refine wp_region_held_drew (S := fun w' => w'.cell? ⟨w.heap.size, 0, none⟩ = some (.int .i64 me) ∧ w'.cell? ⟨w.heap.size, 1, none⟩ = some (.int .i64 N) ∧ w'.cell? ⟨w.heap.size, 2, none⟩ = some (.slice p n c) ∧ w'.cell? ⟨w.heap.size + 1, 0, none⟩ = some (.int .i64 mb) ∧ w'.cell? ⟨w.heap.size + 1, 1, none⟩ = some (.slice pi ni ci) ∧ w'.cell? ⟨w.heap.size + 1, 2, none⟩ = some (.slice po no co)) (by kernel_rfl) ⟨(Hp1.out.below hbd Hp1.out.lt).cell 0, (Hp1.out.below hbd Hp1.out.lt).cell 1, (Hp1.out.below hbd Hp1.out.lt).cell 2, (Hb1.out.below hbd Hb1.out.lt).cell 0, (Hb1.out.below hbd Hb1.out.lt).cell 1, (Hb1.out.below hbd Hb1.out.lt).cell 2⟩ (fun hS0 => ?_)
   generalize w1.drew = WDdcb at *
   have Hp2 := kbq Hp1 hbd
   have Hb2 := kbq Hb1 hbd
   have Hm2 := kbq Hm1 hbd
   have Hrp2 := kbq Hrp1 hbd
   have Hrb2 := kbq Hrb1 hbd
   have HB2 := ktq HB1 hbd
   have HZ2 := kzq HZ1 hbd.size
   clear Hp1 Hb1 Hm1 Hrp1 Hrb1 HB1 HZ1
   clear hbd
   refine tkq 0 ?_
   refine tkq 1 ?_
   refine rdq 2 (fun K hK => ?_)
   have z0 : WDdcb.cell? ⟨(w.heap.size + 1 + 1 + 1), 0, none⟩ = some (.int .i64 0) := Hrp2.out.cell 0
   have z1 : WDdcb.cell? ⟨(w.heap.size + 1 + 1 + 1), 1, none⟩ = some (.int .i64 0) := Hrp2.out.cell 1
   have z2 : WDdcb.cell? ⟨(w.heap.size + 1 + 1 + 1), 2, none⟩ = some (.slice none 0 0) := Hrp2.out.cell 2
   have f0 := Hrp2.out.free 0
   have f1 := Hrp2.out.free 1
   have f2 := Hrp2.out.free 2
   go_simp
   clear z0 z1 z2 f0 f1 f2
   have hch := Lib.hid ((((Chg.refl (w.heap.size + 1 + 1 + 1) WDdcb).set 0 (.int .i64 me)).set 1 (.int .i64 N)).set 2 (.slice p n c))
   have Hrp3 : Hid (Blk _ (w.heap.size + 1 + 1 + 1) #[.int .i64 me, .int .i64 N, .slice p n c] 36) := Lib.hid (((Hrp2.out.set 0 (.int .i64 me)).set 1 (.int .i64 N)).set 2 (.slice p n c))
   have HB3 := ksq HB2 hch (by show w.heap.size ≤ (w.heap.size + 1 + 1 + 1); omega)
   have HZ3 := kzq HZ2 hch.out.size
   have Hp3 := kcq Hp2 hch (by omega)
   have Hb3 := kcq Hb2 hch (by omega)
   have Hm3 := kcq Hm2 hch (by omega)
   have Hrb3 := kcq Hrb2 hch (by omega)
   clear hch hS0 Hp2 Hb2 Hm2 Hrp2 Hrb2 HB2 HZ2
   generalize (((WDdcb.setCell ⟨w.heap.size + 1 + 1 + 1, 0, none⟩ (.int .i64 me)).setCell ⟨w.heap.size + 1 + 1 + 1, 1, none⟩ (.int .i64 N)).setCell ⟨w.heap.size + 1 + 1 + 1, 2, none⟩ (.slice p n c)) = WPdcb at *
   refine hK.out _ _ ⟨Hp3.out.cell 0, Hp3.out.cell 1, Hp3.out.cell 2, Hb3.out.cell 0, Hb3.out.cell 1, Hb3.out.cell 2⟩ (fun hS0 => ?_)
   clear hK K
   try simp only [Act.put, List.getElem_toArray, List.getElem_cons_succ, List.getElem_cons_zero, List.setIfInBounds_toArray, List.set_cons_zero, List.set_cons_succ]
   refine rdq 3 (fun K hK => ?_)
   have z0 : WPdcb.cell? ⟨(w.heap.size + 1 + 1 + 1 + 1), 0, none⟩ = some (.int .i64 0) := Hrb3.out.cell 0
   have z1 : WPdcb.cell? ⟨(w.heap.size + 1 + 1 + 1 + 1), 1, none⟩ = some (.slice none 0 0) := Hrb3.out.cell 1
   have z2 : WPdcb.cell? ⟨(w.heap.size + 1 + 1 + 1 + 1), 2, none⟩ = some (.slice none 0 0) := Hrb3.out.cell 2
   have f0 := Hrb3.out.free 0
   have f1 := Hrb3.out.free 1
   have f2 := Hrb3.out.free 2
   go_simp
   clear z0 z1 z2 f0 f1 f2
   have hch := Lib.hid ((((Chg.refl (w.heap.size + 1 + 1 + 1 + 1) WPdcb).set 0 (.int .i64 mb)).set 1 (.slice pi ni ci)).set 2 (.slice po no co))
   have Hrb4 : Hid (Blk _ (w.heap.size + 1 + 1 + 1 + 1) #[.int .i64 mb, .slice pi ni ci, .slice po no co] 28) := Lib.hid (((Hrb3.out.set 0 (.int .i64 mb)).set 1 (.slice pi ni ci)).set 2 (.slice po no co))
   have HB4 := ksq HB3 hch (by show w.heap.size ≤ (w.heap.size + 1 + 1 + 1 + 1); omega)
   have HZ4 := kzq HZ3 hch.out.size
   have Hp4 := kcq Hp3 hch (by omega)
   have Hb4 := kcq Hb3 hch (by omega)
   have Hm4 := kcq Hm3 hch (by omega)
   have Hrp4 := kcq Hrp3 hch (by omega)
   clear hch hS0 Hp3 Hb3 Hm3 Hrp3 Hrb3 HB3 HZ3
   generalize (((WPdcb.setCell ⟨w.heap.size + 1 + 1 + 1 + 1, 0, none⟩ (.int .i64 mb)).setCell ⟨w.heap.size + 1 + 1 + 1 + 1, 1, none⟩ (.slice pi ni ci)).setCell ⟨w.heap.size + 1 + 1 + 1 + 1, 2, none⟩ (.slice po no co)) = WQdcb at *
   refine hK.out _ _ ⟨Hp4.out.cell 0, Hp4.out.cell 1, Hp4.out.cell 2, Hb4.out.cell 0, Hb4.out.cell 1, Hb4.out.cell 2⟩ (fun hS0 => ?_)
   clear hK K
   try simp only [Act.put, List.getElem_toArray, List.getElem_cons_succ, List.getElem_cons_zero, List.setIfInBounds_toArray, List.set_cons_zero, List.set_cons_succ]
   refine tkq 4 ?_
   refine tkq 5 ?_
   refine wpAnyH_done (by kernel_rfl) ?_ _
   clear hS0
   go_wp2_with fail
   have hfp := Hrp4.out
   have hfb := Hrb4.out
   refine bodyPost_ret (v := .tuple #[.agg #[.int .i64 me, .int .i64 N, .slice p n c], .agg #[.int .i64 mb, .slice pi ni ci, .slice po no co], .slice none 0 0, .int .i64 110]) (by simp [results, Try.results9, go_sem, hfp.cell 0, hfp.cell 1, hfp.cell 2, hfb.cell 0, hfb.cell 1, hfb.cell 2]) rfl ⟨HB4.out, p, n, c, pi, ni, ci, _, ps, xs, [], 110, rfl, (HV.out.same HB4.out).1, (HV.out.same HB4.out).2.1, (HV.out.same HB4.out).2.2, OwnT.nil_ _ _ _ _, saidR_nil _ _, fun _ => ⟨rfl, rfl, rfl, rfl⟩, fun h => absurd HBB.out h, fun h => absurd HBB.out h⟩
  ·have hmb : (fro == -1) = false := by simpa using hm
   have hmn : (fro != -1) = true := by simpa using hm
   by_cases hN : fro = N
   ·have hnb : (fro != N) = false := by simpa using hN
    have HNB : Hid (¬ kindBad y.m fro) := by
     show ¬ _
     unfold kindBad
     rw [HK.out]
     rintro (h | h)
     ·exact h.2.2.1 rfl
     ·exact h ⟨fun h1 => absurd h1 hm, fun h1 => absurd h1 (by decide)⟩
    have HFR : Hid (fro = -1 ∨ fro = N) := .inr hN
    clear hm hN
    have a1 : w1.cell? ⟨w.heap.size, 1, none⟩ = some (.int .i64 N) := Hp1.out.cell 1
    go_upto_region 6 with fail
    clear a1 c0 hmb hmn hnb
    have HG := Lib.hid (vdecide_any w1 P me N mb p n c pi ni ci po no co ps xs y (VIn.mk (HV.out.pts.kept HB1.out) (HV.out.its.kept HB1.out) HV.out.ai (fun b hb => Nat.lt_of_lt_of_le (HV.out.lt b hb) HB1.out.size) HV.out.srt HV.out.np HV.out.nx) HGD.out HQL.out)
    unfold bookV Msg.v at HG
    have a0 : w1.cell? ⟨(w.heap.size + 1), 0, none⟩ = some (.int .i64 mb) := Hb1.out.cell 0
    have a1 : w1.cell? ⟨(w.heap.size + 1), 1, none⟩ = some (.slice pi ni ci) := Hb1.out.cell 1
    have a2 : w1.cell? ⟨(w.heap.size + 1), 2, none⟩ = some (.slice po no co) := Hb1.out.cell 2
    have c0 : w1.cell? ⟨(w.heap.size + 1 + 1), 0, none⟩ = some (.int .i64 y.m.k) := Hm1.out.cell 0
    have c1 : w1.cell? ⟨(w.heap.size + 1 + 1), 1, none⟩ = some (.int .i64 y.m.s) := Hm1.out.cell 1
    have c2 : w1.cell? ⟨(w.heap.size + 1 + 1), 2, none⟩ = some (.int .i64 y.m.n) := Hm1.out.cell 2
    have c3 : w1.cell? ⟨(w.heap.size + 1 + 1), 3, none⟩ = some (.int .i64 y.m.b) := Hm1.out.cell 3
    have c4 : w1.cell? ⟨(w.heap.size + 1 + 1), 4, none⟩ = some (.int .i64 y.m.c) := Hm1.out.cell 4
    have c5 : w1.cell? ⟨(w.heap.size + 1 + 1), 5, none⟩ = some (.int .i64 y.m.r) := Hm1.out.cell 5
    have c6 : w1.cell? ⟨(w.heap.size + 1 + 1), 6, none⟩ = some (.int .i64 y.m.y) := Hm1.out.cell 6
    have c7 : w1.cell? ⟨(w.heap.size + 1 + 1), 7, none⟩ = some (.int .i64 y.m.a) := Hm1.out.cell 7
    have c8 : w1.cell? ⟨(w.heap.size + 1 + 1), 8, none⟩ = some (.bool y.m.t) := Hm1.out.cell 8
    have c9 : w1.cell? ⟨(w.heap.size + 1 + 1), 9, none⟩ = some (.slice y.pl y.m.ls.length y.cl) := Hm1.out.cell 9
    have c10 : w1.cell? ⟨(w.heap.size + 1 + 1), 10, none⟩ = some (.slice y.pn y.m.ns.length y.cn) := Hm1.out.cell 10
    go_wp2_with fail
    clear a0 a1 a2 c0 c1 c2 c3 c4 c5 c6 c7 c8 c9 c10
    refine HG.out.mono ?_
    rintro y9 w4 ⟨hb, p2, n2, c2, pi2, ni2, ci2, vs, ps2, xs2, out, e, rfl, hp, hr, ha, ho, hsr, hG⟩
    clear HG
    have HWL : Hid (w1.heap.size ≤ w4.heap.size) := Lib.hid hb.size
    have HLW : Hid (w.heap.size + 1 + 1 + 1 + 1 < w1.heap.size) := Hrb1.out.lt
    have Hp2 := kbq Hp1 hb
    have Hb2 := kbq Hb1 hb
    have Hm2 := kbq Hm1 hb
    have Hrp2 := kbq Hrp1 hb
    have Hrb2 := kbq Hrb1 hb
    have HB2 := ktq HB1 hb
    have HZ2 := kzq HZ1 hb.size
    clear Hp1 Hb1 Hm1 Hrp1 Hrb1 HB1 HZ1
    clear hb
    have Hp3 := Lib.hid ((Hp2.out.alloc (.cells #[.int .i64 me, .int .i64 N, .slice p2 n2 c2] 36)).alloc (.cells #[.int .i64 mb, .slice pi2 ni2 ci2, .slice po no co] 28))
    have Hb3 := Lib.hid ((Hb2.out.alloc (.cells #[.int .i64 me, .int .i64 N, .slice p2 n2 c2] 36)).alloc (.cells #[.int .i64 mb, .slice pi2 ni2 ci2, .slice po no co] 28))
    have Hm3 := Lib.hid ((Hm2.out.alloc (.cells #[.int .i64 me, .int .i64 N, .slice p2 n2 c2] 36)).alloc (.cells #[.int .i64 mb, .slice pi2 ni2 ci2, .slice po no co] 28))
    have Hrp3 := Lib.hid ((Hrp2.out.alloc (.cells #[.int .i64 me, .int .i64 N, .slice p2 n2 c2] 36)).alloc (.cells #[.int .i64 mb, .slice pi2 ni2 ci2, .slice po no co] 28))
    have Hrb3 := Lib.hid ((Hrb2.out.alloc (.cells #[.int .i64 me, .int .i64 N, .slice p2 n2 c2] 36)).alloc (.cells #[.int .i64 mb, .slice pi2 ni2 ci2, .slice po no co] 28))
    have hbz : Below w4.heap.size w4 ((w4.alloc (.cells #[.int .i64 me, .int .i64 N, .slice p2 n2 c2] 36)).alloc (.cells #[.int .i64 mb, .slice pi2 ni2 ci2, .slice po no co] 28)) := (oneB w4 _).alloc (by simp) _
    have Hxp3 := Lib.hid ((Blk.new w4 #[.int .i64 me, .int .i64 N, .slice p2 n2 c2] 36).alloc (.cells #[.int .i64 mb, .slice pi2 ni2 ci2, .slice po no co] 28))
    have Hxb3 : Hid (Blk ((w4.alloc (.cells #[.int .i64 me, .int .i64 N, .slice p2 n2 c2] 36)).alloc (.cells #[.int .i64 mb, .slice pi2 ni2 ci2, .slice po no co] 28)) (w4.heap.size + 1) #[.int .i64 mb, .slice pi2 ni2 ci2, .slice po no co] 28) := Lib.hid (Blk.new' _ _ _ (by simp))
    have HB3 := ktq HB2 hbz
    have HZ3 : Hid (w.heap.size ≤ ((w4.alloc (.cells #[.int .i64 me, .int .i64 N, .slice p2 n2 c2] 36)).alloc (.cells #[.int .i64 mb, .slice pi2 ni2 ci2, .slice po no co] 28)).heap.size) := Lib.hid HB3.out.size
    have HP := Lib.hid (hp.kept hbz)
    have HR := Lib.hid (hr.kept hbz)
    have HA := Lib.hid ha
    have HO := Lib.hid (ho.later hbz)
    have HSR : Hid (SaidR ((w4.alloc (.cells #[.int .i64 me, .int .i64 N, .slice p2 n2 c2] 36)).alloc (.cells #[.int .i64 mb, .slice pi2 ni2 ci2, .slice po no co] 28)) (fun b => P b ∨ w1.heap.size ≤ b) out) := Lib.hid (fun z hz => ⟨(hsr z hz).1.kept hbz, (hsr z hz).2⟩)
    have HGG := Lib.hid hG
    clear hp hr ha ho hsr hG hbz Hp2 Hb2 Hm2 Hrp2 Hrb2 HB2 HZ2
    go_upto_region 7 with fail
    generalize ((w4.alloc (.cells #[.int .i64 me, .int .i64 N, .slice p2 n2 c2] 36)).alloc (.cells #[.int .i64 mb, .slice pi2 ni2 ci2, .slice po no co] 28)) = W4 at *
    generalize w4.heap.size = g4 at *
    by_cases he : e = 0
    ·subst he
     go_upto_region 9 with fail
     have hbd := (Below.refl W4.heap.size W4).drew
     refine wp_region_held_drew (S := fun w' => w'.cell? ⟨g4, 0, none⟩ = some (.int .i64 me) ∧ w'.cell? ⟨g4, 1, none⟩ = some (.int .i64 N) ∧ w'.cell? ⟨g4, 2, none⟩ = some (.slice p2 n2 c2) ∧ w'.cell? ⟨g4 + 1, 0, none⟩ = some (.int .i64 mb) ∧ w'.cell? ⟨g4 + 1, 1, none⟩ = some (.slice pi2 ni2 ci2) ∧ w'.cell? ⟨g4 + 1, 2, none⟩ = some (.slice po no co)) (by kernel_rfl) ⟨(Hxp3.out.below hbd Hxp3.out.lt).cell 0, (Hxp3.out.below hbd Hxp3.out.lt).cell 1, (Hxp3.out.below hbd Hxp3.out.lt).cell 2, (Hxb3.out.below hbd Hxb3.out.lt).cell 0, (Hxb3.out.below hbd Hxb3.out.lt).cell 1, (Hxb3.out.below hbd Hxb3.out.lt).cell 2⟩ (fun hS0 => ?_)
     have HP := Lib.hid (HP.out.kept hbd)
     have HR := Lib.hid (HR.out.kept hbd)
     have HO := Lib.hid (HO.out.later hbd)
     have HSR : Hid (SaidR W4.drew (fun b => P b ∨ w1.heap.size ≤ b) out) := Lib.hid (fun z hz => ⟨(HSR.out z hz).1.kept hbd, (HSR.out z hz).2⟩)
     generalize W4.drew = WDdca at *
     have Hp4 := kbq Hp3 hbd
     have Hb4 := kbq Hb3 hbd
     have Hm4 := kbq Hm3 hbd
     have Hrp4 := kbq Hrp3 hbd
     have Hrb4 := kbq Hrb3 hbd
     have Hxp4 := kbq Hxp3 hbd
     have Hxb4 := kbq Hxb3 hbd
     have HB4 := ktq HB3 hbd
     have HZ4 := kzq HZ3 hbd.size
     clear Hp3 Hb3 Hm3 Hrp3 Hrb3 Hxp3 Hxb3 HB3 HZ3
     clear hbd
     refine tkq 0 ?_
     refine tkq 1 ?_
     refine tkq 2 ?_
     refine rdq 3 (fun K hK => ?_)
     have z0 : WDdca.cell? ⟨(w.heap.size + 1 + 1 + 1), 0, none⟩ = some (.int .i64 0) := Hrp4.out.cell 0
     have z1 : WDdca.cell? ⟨(w.heap.size + 1 + 1 + 1), 1, none⟩ = some (.int .i64 0) := Hrp4.out.cell 1
     have z2 : WDdca.cell? ⟨(w.heap.size + 1 + 1 + 1), 2, none⟩ = some (.slice none 0 0) := Hrp4.out.cell 2
     have f0 := Hrp4.out.free 0
     have f1 := Hrp4.out.free 1
     have f2 := Hrp4.out.free 2
     go_simp
     clear z0 z1 z2 f0 f1 f2
     have hch := Lib.hid ((((Chg.refl (w.heap.size + 1 + 1 + 1) WDdca).set 0 (.int .i64 me)).set 1 (.int .i64 N)).set 2 (.slice p2 n2 c2))
     have Hrp5 : Hid (Blk _ (w.heap.size + 1 + 1 + 1) #[.int .i64 me, .int .i64 N, .slice p2 n2 c2] 36) := Lib.hid (((Hrp4.out.set 0 (.int .i64 me)).set 1 (.int .i64 N)).set 2 (.slice p2 n2 c2))
     have HB5 := ksq HB4 hch (by show w.heap.size ≤ (w.heap.size + 1 + 1 + 1); omega)
     have HZ5 := kzq HZ4 hch.out.size
     have Hp5 := kcq Hp4 hch (by have h7 := HLW.out; have h8 := HWL.out; omega)
     have Hb5 := kcq Hb4 hch (by have h7 := HLW.out; have h8 := HWL.out; omega)
     have Hm5 := kcq Hm4 hch (by have h7 := HLW.out; have h8 := HWL.out; omega)
     have Hrb5 := kcq Hrb4 hch (by have h7 := HLW.out; have h8 := HWL.out; omega)
     have Hxp5 := kcq Hxp4 hch (by have h7 := HLW.out; have h8 := HWL.out; omega)
     have Hxb5 := kcq Hxb4 hch (by have h7 := HLW.out; have h8 := HWL.out; omega)
     have hn3 : ∀ g, g = w.heap.size + 1 + 1 + 1 ∨ g = w.heap.size + 1 + 1 + 1 + 1 → ¬ (P g ∨ w1.heap.size ≤ g) := fun g hg h => by
      have h7 := HLW.out
      have h9 := HV.out.lt
      rcases h with h | h
      ·have h8 := h9 _ h; omega
      ·omega
     have hkp := KeepP.of_chg (P := fun b => P b ∨ w1.heap.size ≤ b) hch.out (hn3 _ (by have h7 := HLW.out; have h8 := HWL.out; omega))
     have HP := Lib.hid (HP.out.keepP hkp)
     have HR := Lib.hid (HR.out.keepP HA.out hkp)
     have HO := Lib.hid (HO.out.stay (fun b hb => hch.out.2 b (HO.out.lt b hb) (by have h1 := HO.out.block_ge b hb; have h7 := HLW.out; omega)))
     have HSR : Hid (SaidR _ (fun b => P b ∨ w1.heap.size ≤ b) out) := Lib.hid (fun z hz => ⟨(HSR.out z hz).1.keepP (HSR.out z hz).2 hkp, (HSR.out z hz).2⟩)
     clear hn3 hkp
     clear hch hS0 Hp4 Hb4 Hm4 Hrp4 Hrb4 Hxp4 Hxb4 HB4 HZ4
     generalize (((WDdca.setCell ⟨w.heap.size + 1 + 1 + 1, 0, none⟩ (.int .i64 me)).setCell ⟨w.heap.size + 1 + 1 + 1, 1, none⟩ (.int .i64 N)).setCell ⟨w.heap.size + 1 + 1 + 1, 2, none⟩ (.slice p2 n2 c2)) = WPdca at *
     refine hK.out _ _ ⟨Hxp5.out.cell 0, Hxp5.out.cell 1, Hxp5.out.cell 2, Hxb5.out.cell 0, Hxb5.out.cell 1, Hxb5.out.cell 2⟩ (fun hS0 => ?_)
     clear hK K
     try simp only [Act.put, List.getElem_toArray, List.getElem_cons_succ, List.getElem_cons_zero, List.setIfInBounds_toArray, List.set_cons_zero, List.set_cons_succ]
     refine rdq 4 (fun K hK => ?_)
     have z0 : WPdca.cell? ⟨(w.heap.size + 1 + 1 + 1 + 1), 0, none⟩ = some (.int .i64 0) := Hrb5.out.cell 0
     have z1 : WPdca.cell? ⟨(w.heap.size + 1 + 1 + 1 + 1), 1, none⟩ = some (.slice none 0 0) := Hrb5.out.cell 1
     have z2 : WPdca.cell? ⟨(w.heap.size + 1 + 1 + 1 + 1), 2, none⟩ = some (.slice none 0 0) := Hrb5.out.cell 2
     have f0 := Hrb5.out.free 0
     have f1 := Hrb5.out.free 1
     have f2 := Hrb5.out.free 2
     go_simp
     clear z0 z1 z2 f0 f1 f2
     have hch := Lib.hid ((((Chg.refl (w.heap.size + 1 + 1 + 1 + 1) WPdca).set 0 (.int .i64 mb)).set 1 (.slice pi2 ni2 ci2)).set 2 (.slice po no co))
     have Hrb6 : Hid (Blk _ (w.heap.size + 1 + 1 + 1 + 1) #[.int .i64 mb, .slice pi2 ni2 ci2, .slice po no co] 28) := Lib.hid (((Hrb5.out.set 0 (.int .i64 mb)).set 1 (.slice pi2 ni2 ci2)).set 2 (.slice po no co))
     have HB6 := ksq HB5 hch (by show w.heap.size ≤ (w.heap.size + 1 + 1 + 1 + 1); omega)
     have HZ6 := kzq HZ5 hch.out.size
     have Hp6 := kcq Hp5 hch (by have h7 := HLW.out; have h8 := HWL.out; omega)
     have Hb6 := kcq Hb5 hch (by have h7 := HLW.out; have h8 := HWL.out; omega)
     have Hm6 := kcq Hm5 hch (by have h7 := HLW.out; have h8 := HWL.out; omega)
     have Hrp6 := kcq Hrp5 hch (by have h7 := HLW.out; have h8 := HWL.out; omega)
     have Hxp6 := kcq Hxp5 hch (by have h7 := HLW.out; have h8 := HWL.out; omega)
     have Hxb6 := kcq Hxb5 hch (by have h7 := HLW.out; have h8 := HWL.out; omega)
     have hn3 : ∀ g, g = w.heap.size + 1 + 1 + 1 ∨ g = w.heap.size + 1 + 1 + 1 + 1 → ¬ (P g ∨ w1.heap.size ≤ g) := fun g hg h => by
      have h7 := HLW.out
      have h9 := HV.out.lt
      rcases h with h | h
      ·have h8 := h9 _ h; omega
      ·omega
     have hkp := KeepP.of_chg (P := fun b => P b ∨ w1.heap.size ≤ b) hch.out (hn3 _ (by have h7 := HLW.out; have h8 := HWL.out; omega))
     have HP := Lib.hid (HP.out.keepP hkp)
     have HR := Lib.hid (HR.out.keepP HA.out hkp)
     have HO := Lib.hid (HO.out.stay (fun b hb => hch.out.2 b (HO.out.lt b hb) (by have h1 := HO.out.block_ge b hb; have h7 := HLW.out; omega)))
     have HSR : Hid (SaidR _ (fun b => P b ∨ w1.heap.size ≤ b) out) := Lib.hid (fun z hz => ⟨(HSR.out z hz).1.keepP (HSR.out z hz).2 hkp, (HSR.out z hz).2⟩)
     clear hn3 hkp
     clear hch hS0 Hp5 Hb5 Hm5 Hrp5 Hrb5 Hxp5 Hxb5 HB5 HZ5
     generalize (((WPdca.setCell ⟨w.heap.size + 1 + 1 + 1 + 1, 0, none⟩ (.int .i64 mb)).setCell ⟨w.heap.size + 1 + 1 + 1 + 1, 1, none⟩ (.slice pi2 ni2 ci2)).setCell ⟨w.heap.size + 1 + 1 + 1 + 1, 2, none⟩ (.slice po no co)) = WQdca at *
     refine hK.out _ _ ⟨Hxp6.out.cell 0, Hxp6.out.cell 1, Hxp6.out.cell 2, Hxb6.out.cell 0, Hxb6.out.cell 1, Hxb6.out.cell 2⟩ (fun hS0 => ?_)
     clear hK K
     try simp only [Act.put, List.getElem_toArray, List.getElem_cons_succ, List.getElem_cons_zero, List.setIfInBounds_toArray, List.set_cons_zero, List.set_cons_succ]
     refine tkq 5 ?_
     refine tkq 6 ?_
     refine wpAnyH_done (by kernel_rfl) ?_ _
     clear hS0
     obtain ⟨p5, c5, hv5⟩ := HO.out.form
     obtain ⟨lo, hlo⟩ : ∃ k, out.length = k := ⟨_, rfl⟩
     rw [hlo] at hv5
     clear hlo
     subst hv5
     go_wp2_with fail
     have hfp := Hrp6.out
     have hfb := Hrb6.out
     refine bodyPost_ret (v := .tuple #[.agg #[.int .i64 me, .int .i64 N, .slice p2 n2 c2], .agg #[.int .i64 mb, .slice pi2 ni2 ci2, .slice po no co], .slice p5 lo c5, .int .i64 0]) (by simp [results, Try.results9, go_sem, hfp.cell 0, hfp.cell 1, hfp.cell 2, hfb.cell 0, hfb.cell 1, hfb.cell 2]) rfl ⟨HB6.out, p2, n2, c2, pi2, ni2, ci2, _, ps2, xs2, out, 0, rfl, HP.out.imp (fun b h => h.imp id (fun h => by have h7 := HLW.out; omega)), HR.out, HA.out.imp (fun b h => h.imp id (fun h => by have h7 := HLW.out; omega)), HO.out.less (by have h7 := HLW.out; omega), fun z hz => ⟨(HSR.out z hz).1, (HSR.out z hz).2.imp (fun b h => h.imp id (fun h => by have h7 := HLW.out; omega))⟩, fun h => absurd h HNB.out, fun _ h1 h2 => absurd HFR.out (by omega), fun _ _ => ⟨ps2, xs2, out, 0, by unfold actG; rw [HK.out]; exact HGG.out, fun h => absurd rfl h, fun _ => ⟨rfl, rfl, rfl, rfl⟩⟩⟩
    ·have heb : (e != 0) = true := by simpa using he
     have HE : Hid (e ≠ 0) := he
     clear he
     go_upto_region 8 with fail
     clear heb HP HR HA HO HSR Hxp3 Hxb3
     have hbd := (Below.refl W4.heap.size W4).drew
     refine wp_region_held_drew (S := fun w' => w'.cell? ⟨w.heap.size, 0, none⟩ = some (.int .i64 me) ∧ w'.cell? ⟨w.heap.size, 1, none⟩ = some (.int .i64 N) ∧ w'.cell? ⟨w.heap.size, 2, none⟩ = some (.slice p n c) ∧ w'.cell? ⟨w.heap.size + 1, 0, none⟩ = some (.int .i64 mb) ∧ w'.cell? ⟨w.heap.size + 1, 1, none⟩ = some (.slice pi ni ci) ∧ w'.cell? ⟨w.heap.size + 1, 2, none⟩ = some (.slice po no co)) (by kernel_rfl) ⟨(Hp3.out.below hbd Hp3.out.lt).cell 0, (Hp3.out.below hbd Hp3.out.lt).cell 1, (Hp3.out.below hbd Hp3.out.lt).cell 2, (Hb3.out.below hbd Hb3.out.lt).cell 0, (Hb3.out.below hbd Hb3.out.lt).cell 1, (Hb3.out.below hbd Hb3.out.lt).cell 2⟩ (fun hS0 => ?_)
     generalize W4.drew = WDdcae at *
     have Hp4 := kbq Hp3 hbd
     have Hb4 := kbq Hb3 hbd
     have Hm4 := kbq Hm3 hbd
     have Hrp4 := kbq Hrp3 hbd
     have Hrb4 := kbq Hrb3 hbd
     have HB4 := ktq HB3 hbd
     have HZ4 := kzq HZ3 hbd.size
     clear Hp3 Hb3 Hm3 Hrp3 Hrb3 HB3 HZ3
     clear hbd
     refine tkq 0 ?_
     refine tkq 1 ?_
     refine tkq 2 ?_
     refine rdq 3 (fun K hK => ?_)
     have z0 : WDdcae.cell? ⟨(w.heap.size + 1 + 1 + 1), 0, none⟩ = some (.int .i64 0) := Hrp4.out.cell 0
     have z1 : WDdcae.cell? ⟨(w.heap.size + 1 + 1 + 1), 1, none⟩ = some (.int .i64 0) := Hrp4.out.cell 1
     have z2 : WDdcae.cell? ⟨(w.heap.size + 1 + 1 + 1), 2, none⟩ = some (.slice none 0 0) := Hrp4.out.cell 2
     have f0 := Hrp4.out.free 0
     have f1 := Hrp4.out.free 1
     have f2 := Hrp4.out.free 2
     go_simp
     clear z0 z1 z2 f0 f1 f2
     have hch := Lib.hid ((((Chg.refl (w.heap.size + 1 + 1 + 1) WDdcae).set 0 (.int .i64 me)).set 1 (.int .i64 N)).set 2 (.slice p n c))
     have Hrp5 : Hid (Blk _ (w.heap.size + 1 + 1 + 1) #[.int .i64 me, .int .i64 N, .slice p n c] 36) := Lib.hid (((Hrp4.out.set 0 (.int .i64 me)).set 1 (.int .i64 N)).set 2 (.slice p n c))
     have HB5 := ksq HB4 hch (by show w.heap.size ≤ (w.heap.size + 1 + 1 + 1); omega)
     have HZ5 := kzq HZ4 hch.out.size
     have Hp5 := kcq Hp4 hch (by have h7 := HLW.out; have h8 := HWL.out; omega)
     have Hb5 := kcq Hb4 hch (by have h7 := HLW.out; have h8 := HWL.out; omega)
     have Hm5 := kcq Hm4 hch (by have h7 := HLW.out; have h8 := HWL.out; omega)
     have Hrb5 := kcq Hrb4 hch (by have h7 := HLW.out; have h8 := HWL.out; omega)
     clear hch hS0 Hp4 Hb4 Hm4 Hrp4 Hrb4 HB4 HZ4
     generalize (((WDdcae.setCell ⟨w.heap.size + 1 + 1 + 1, 0, none⟩ (.int .i64 me)).setCell ⟨w.heap.size + 1 + 1 + 1, 1, none⟩ (.int .i64 N)).setCell ⟨w.heap.size + 1 + 1 + 1, 2, none⟩ (.slice p n c)) = WPdcae at *
     refine hK.out _ _ ⟨Hp5.out.cell 0, Hp5.out.cell 1, Hp5.out.cell 2, Hb5.out.cell 0, Hb5.out.cell 1, Hb5.out.cell 2⟩ (fun hS0 => ?_)
     clear hK K
     try simp only [Act.put, List.getElem_toArray, List.getElem_cons_succ, List.getElem_cons_zero, List.setIfInBounds_toArray, List.set_cons_zero, List.set_cons_succ]
     refine rdq 4 (fun K hK => ?_)
     have z0 : WPdcae.cell? ⟨(w.heap.size + 1 + 1 + 1 + 1), 0, none⟩ = some (.int .i64 0) := Hrb5.out.cell 0
     have z1 : WPdcae.cell? ⟨(w.heap.size + 1 + 1 + 1 + 1), 1, none⟩ = some (.slice none 0 0) := Hrb5.out.cell 1
     have z2 : WPdcae.cell? ⟨(w.heap.size + 1 + 1 + 1 + 1), 2, none⟩ = some (.slice none 0 0) := Hrb5.out.cell 2
     have f0 := Hrb5.out.free 0
     have f1 := Hrb5.out.free 1
     have f2 := Hrb5.out.free 2
     go_simp
     clear z0 z1 z2 f0 f1 f2
     have hch := Lib.hid ((((Chg.refl (w.heap.size + 1 + 1 + 1 + 1) WPdcae).set 0 (.int .i64 mb)).set 1 (.slice pi ni ci)).set 2 (.slice po no co))
     have Hrb6 : Hid (Blk _ (w.heap.size + 1 + 1 + 1 + 1) #[.int .i64 mb, .slice pi ni ci, .slice po no co] 28) := Lib.hid (((Hrb5.out.set 0 (.int .i64 mb)).set 1 (.slice pi ni ci)).set 2 (.slice po no co))
     have HB6 := ksq HB5 hch (by show w.heap.size ≤ (w.heap.size + 1 + 1 + 1 + 1); omega)
     have HZ6 := kzq HZ5 hch.out.size
     have Hp6 := kcq Hp5 hch (by have h7 := HLW.out; have h8 := HWL.out; omega)
     have Hb6 := kcq Hb5 hch (by have h7 := HLW.out; have h8 := HWL.out; omega)
     have Hm6 := kcq Hm5 hch (by have h7 := HLW.out; have h8 := HWL.out; omega)
     have Hrp6 := kcq Hrp5 hch (by have h7 := HLW.out; have h8 := HWL.out; omega)
     clear hch hS0 Hp5 Hb5 Hm5 Hrp5 Hrb5 HB5 HZ5
     generalize (((WPdcae.setCell ⟨w.heap.size + 1 + 1 + 1 + 1, 0, none⟩ (.int .i64 mb)).setCell ⟨w.heap.size + 1 + 1 + 1 + 1, 1, none⟩ (.slice pi ni ci)).setCell ⟨w.heap.size + 1 + 1 + 1 + 1, 2, none⟩ (.slice po no co)) = WQdcae at *
     refine hK.out _ _ ⟨Hp6.out.cell 0, Hp6.out.cell 1, Hp6.out.cell 2, Hb6.out.cell 0, Hb6.out.cell 1, Hb6.out.cell 2⟩ (fun hS0 => ?_)
     clear hK K
     try simp only [Act.put, List.getElem_toArray, List.getElem_cons_succ, List.getElem_cons_zero, List.setIfInBounds_toArray, List.set_cons_zero, List.set_cons_succ]
     refine tkq 5 ?_
     refine tkq 6 ?_
     refine wpAnyH_done (by kernel_rfl) ?_ _
     clear hS0
     go_wp2_with fail
     have hfp := Hrp6.out
     have hfb := Hrb6.out
     refine bodyPost_ret (v := .tuple #[.agg #[.int .i64 me, .int .i64 N, .slice p n c], .agg #[.int .i64 mb, .slice pi ni ci, .slice po no co], .slice none 0 0, .int .i64 e]) (by simp [results, Try.results9, go_sem, hfp.cell 0, hfp.cell 1, hfp.cell 2, hfb.cell 0, hfb.cell 1, hfb.cell 2]) rfl ⟨HB6.out, p, n, c, pi, ni, ci, _, ps, xs, [], e, rfl, (HV.out.same HB6.out).1, (HV.out.same HB6.out).2.1, (HV.out.same HB6.out).2.2, OwnT.nil_ _ _ _ _, saidR_nil _ _, fun h => absurd h HNB.out, fun _ h1 h2 => absurd HFR.out (by omega), fun _ _ => ⟨ps2, xs2, out, e, by unfold actG; rw [HK.out]; exact HGG.out, fun _ => ⟨rfl, rfl, rfl, rfl⟩, fun h => absurd h HE.out⟩⟩
   ·have hnb : (fro != N) = true := by simpa using hN
    have HNB : Hid (¬ kindBad y.m fro) := by
     show ¬ _
     unfold kindBad
     rw [HK.out]
     rintro (h | h)
     ·exact h.2.2.1 rfl
     ·exact h ⟨fun h1 => absurd h1 hm, fun h1 => absurd h1 (by decide)⟩
    have HFN : Hid (fro ≠ -1 ∧ fro ≠ N) := ⟨hm, hN⟩
    clear hm hN
    have a1 : w1.cell? ⟨w.heap.size, 1, none⟩ = some (.int .i64 N) := Hp1.out.cell 1
    go_upto_region 5 with fail
    clear a1 c0 hmb hmn hnb
    have hbd := (Below.refl w1.heap.size w1).drew
    refine wp_region_held_drew (S := fun w' => w'.cell? ⟨w.heap.size, 0, none⟩ = some (.int .i64 me) ∧ w'.cell? ⟨w.heap.size, 1, none⟩ = some (.int .i64 N) ∧ w'.cell? ⟨w.heap.size, 2, none⟩ = some (.slice p n c) ∧ w'.cell? ⟨w.heap.size + 1, 0, none⟩ = some (.int .i64 mb) ∧ w'.cell? ⟨w.heap.size + 1, 1, none⟩ = some (.slice pi ni ci) ∧ w'.cell? ⟨w.heap.size + 1, 2, none⟩ = some (.slice po no co)) (by kernel_rfl) ⟨(Hp1.out.below hbd Hp1.out.lt).cell 0, (Hp1.out.below hbd Hp1.out.lt).cell 1, (Hp1.out.below hbd Hp1.out.lt).cell 2, (Hb1.out.below hbd Hb1.out.lt).cell 0, (Hb1.out.below hbd Hb1.out.lt).cell 1, (Hb1.out.below hbd Hb1.out.lt).cell 2⟩ (fun hS0 => ?_)
    generalize w1.drew = WDdcc at *
    have Hp2 := kbq Hp1 hbd
    have Hb2 := kbq Hb1 hbd
    have Hm2 := kbq Hm1 hbd
    have Hrp2 := kbq Hrp1 hbd
    have Hrb2 := kbq Hrb1 hbd
    have HB2 := ktq HB1 hbd
    have HZ2 := kzq HZ1 hbd.size
    clear Hp1 Hb1 Hm1 Hrp1 Hrb1 HB1 HZ1
    clear hbd
    refine tkq 0 ?_
    refine tkq 1 ?_
    refine rdq 2 (fun K hK => ?_)
    have z0 : WDdcc.cell? ⟨(w.heap.size + 1 + 1 + 1), 0, none⟩ = some (.int .i64 0) := Hrp2.out.cell 0
    have z1 : WDdcc.cell? ⟨(w.heap.size + 1 + 1 + 1), 1, none⟩ = some (.int .i64 0) := Hrp2.out.cell 1
    have z2 : WDdcc.cell? ⟨(w.heap.size + 1 + 1 + 1), 2, none⟩ = some (.slice none 0 0) := Hrp2.out.cell 2
    have f0 := Hrp2.out.free 0
    have f1 := Hrp2.out.free 1
    have f2 := Hrp2.out.free 2
    go_simp
    clear z0 z1 z2 f0 f1 f2
    have hch := Lib.hid ((((Chg.refl (w.heap.size + 1 + 1 + 1) WDdcc).set 0 (.int .i64 me)).set 1 (.int .i64 N)).set 2 (.slice p n c))
    have Hrp3 : Hid (Blk _ (w.heap.size + 1 + 1 + 1) #[.int .i64 me, .int .i64 N, .slice p n c] 36) := Lib.hid (((Hrp2.out.set 0 (.int .i64 me)).set 1 (.int .i64 N)).set 2 (.slice p n c))
    have HB3 := ksq HB2 hch (by show w.heap.size ≤ (w.heap.size + 1 + 1 + 1); omega)
    have HZ3 := kzq HZ2 hch.out.size
    have Hp3 := kcq Hp2 hch (by omega)
    have Hb3 := kcq Hb2 hch (by omega)
    have Hm3 := kcq Hm2 hch (by omega)
    have Hrb3 := kcq Hrb2 hch (by omega)
    clear hch hS0 Hp2 Hb2 Hm2 Hrp2 Hrb2 HB2 HZ2
    generalize (((WDdcc.setCell ⟨w.heap.size + 1 + 1 + 1, 0, none⟩ (.int .i64 me)).setCell ⟨w.heap.size + 1 + 1 + 1, 1, none⟩ (.int .i64 N)).setCell ⟨w.heap.size + 1 + 1 + 1, 2, none⟩ (.slice p n c)) = WPdcc at *
    refine hK.out _ _ ⟨Hp3.out.cell 0, Hp3.out.cell 1, Hp3.out.cell 2, Hb3.out.cell 0, Hb3.out.cell 1, Hb3.out.cell 2⟩ (fun hS0 => ?_)
    clear hK K
    try simp only [Act.put, List.getElem_toArray, List.getElem_cons_succ, List.getElem_cons_zero, List.setIfInBounds_toArray, List.set_cons_zero, List.set_cons_succ]
    refine rdq 3 (fun K hK => ?_)
    have z0 : WPdcc.cell? ⟨(w.heap.size + 1 + 1 + 1 + 1), 0, none⟩ = some (.int .i64 0) := Hrb3.out.cell 0
    have z1 : WPdcc.cell? ⟨(w.heap.size + 1 + 1 + 1 + 1), 1, none⟩ = some (.slice none 0 0) := Hrb3.out.cell 1
    have z2 : WPdcc.cell? ⟨(w.heap.size + 1 + 1 + 1 + 1), 2, none⟩ = some (.slice none 0 0) := Hrb3.out.cell 2
    have f0 := Hrb3.out.free 0
    have f1 := Hrb3.out.free 1
    have f2 := Hrb3.out.free 2
    go_simp
    clear z0 z1 z2 f0 f1 f2
    have hch := Lib.hid ((((Chg.refl (w.heap.size + 1 + 1 + 1 + 1) WPdcc).set 0 (.int .i64 mb)).set 1 (.slice pi ni ci)).set 2 (.slice po no co))
    have Hrb4 : Hid (Blk _ (w.heap.size + 1 + 1 + 1 + 1) #[.int .i64 mb, .slice pi ni ci, .slice po no co] 28) := Lib.hid (((Hrb3.out.set 0 (.int .i64 mb)).set 1 (.slice pi ni ci)).set 2 (.slice po no co))
    have HB4 := ksq HB3 hch (by show w.heap.size ≤ (w.heap.size + 1 + 1 + 1 + 1); omega)
    have HZ4 := kzq HZ3 hch.out.size
    have Hp4 := kcq Hp3 hch (by omega)
    have Hb4 := kcq Hb3 hch (by omega)
    have Hm4 := kcq Hm3 hch (by omega)
    have Hrp4 := kcq Hrp3 hch (by omega)
    clear hch hS0 Hp3 Hb3 Hm3 Hrp3 Hrb3 HB3 HZ3
    generalize (((WPdcc.setCell ⟨w.heap.size + 1 + 1 + 1 + 1, 0, none⟩ (.int .i64 mb)).setCell ⟨w.heap.size + 1 + 1 + 1 + 1, 1, none⟩ (.slice pi ni ci)).setCell ⟨w.heap.size + 1 + 1 + 1 + 1, 2, none⟩ (.slice po no co)) = WQdcc at *
    refine hK.out _ _ ⟨Hp4.out.cell 0, Hp4.out.cell 1, Hp4.out.cell 2, Hb4.out.cell 0, Hb4.out.cell 1, Hb4.out.cell 2⟩ (fun hS0 => ?_)
    clear hK K
    try simp only [Act.put, List.getElem_toArray, List.getElem_cons_succ, List.getElem_cons_zero, List.setIfInBounds_toArray, List.set_cons_zero, List.set_cons_succ]
    refine tkq 4 ?_
    refine tkq 5 ?_
    refine wpAnyH_done (by kernel_rfl) ?_ _
    clear hS0
    go_wp2_with fail
    have hfp := Hrp4.out
    have hfb := Hrb4.out
    refine bodyPost_ret (v := .tuple #[.agg #[.int .i64 me, .int .i64 N, .slice p n c], .agg #[.int .i64 mb, .slice pi ni ci, .slice po no co], .slice none 0 0, .int .i64 140]) (by simp [results, Try.results9, go_sem, hfp.cell 0, hfp.cell 1, hfp.cell 2, hfb.cell 0, hfb.cell 1, hfb.cell 2]) rfl ⟨HB4.out, p, n, c, pi, ni, ci, _, ps, xs, [], 140, rfl, (HV.out.same HB4.out).1, (HV.out.same HB4.out).2.1, (HV.out.same HB4.out).2.2, OwnT.nil_ _ _ _ _, saidR_nil _ _, fun h => absurd h HNB.out, fun _ _ _ => ⟨rfl, rfl, rfl, rfl⟩, fun _ h => absurd h (by have := HFN.out; omega)⟩
 have hk14 := hk
 clear hk
 by_cases hk : y.m.k = 16
 ·skip
  have HK : Hid (y.m.k = 16) := hk
  have HG := Lib.hid (at_due W me N p n c)
  have a0 : W.cell? ⟨w.heap.size, 0, none⟩ = some (.int .i64 me) := Hp0.out.cell 0
  have a1 : W.cell? ⟨w.heap.size, 1, none⟩ = some (.int .i64 N) := Hp0.out.cell 1
  have a2 : W.cell? ⟨w.heap.size, 2, none⟩ = some (.slice p n c) := Hp0.out.cell 2
  have c0 : W.cell? ⟨(w.heap.size + 1 + 1), 0, none⟩ = some (.int .i64 y.m.k) := Hm0.out.cell 0
  rw [hk] at c0
  clear hk
  go_wp2_with fail
  clear a0 a1 a2
  refine HG.out.mono ?_
  rintro y9 w1 ⟨rfl, hb⟩
  clear HG c0
  have Hp1 := kbq Hp0 hb
  have Hb1 := kbq Hb0 hb
  have Hm1 := kbq Hm0 hb
  have Hrp1 := kbq Hrp0 hb
  have Hrb1 := kbq Hrb0 hb
  have HB1 := ktq HB0 hb
  have HZ1 := kzq HZ0 hb.size
  clear Hp0 Hb0 Hm0 Hrp0 Hrb0 HB0 HZ0
  clear hb
  have c0 : w1.cell? ⟨w.heap.size + 1 + 1, 0, none⟩ = some (.int .i64 16) := by have h := Hm1.out.cell 0; rw [← HK.out]; exact h
  by_cases hm : fro = -1
  ·have hmb : (fro == -1) = true := by simpa using hm
   have hmn : (fro != -1) = false := by simpa using hm
   have HNB : Hid (¬ kindBad y.m fro) := by
    show ¬ _
    unfold kindBad
    rw [HK.out]
    rintro (h | h)
    ·exact h.2.2.2 rfl
    ·exact h ⟨fun _ => rfl, fun _ => hm⟩
   have HFR : Hid (fro = -1 ∨ fro = N) := .inl hm
   clear hm
   have a1 : w1.cell? ⟨w.heap.size, 1, none⟩ = some (.int .i64 N) := Hp1.out.cell 1
   go_upto_region 6 with fail
   clear a1 c0 hmb hmn
   have HG := Lib.hid (vdue_any w1 P me N mb p n c pi ni ci po no co ps xs y (VIn.mk (HV.out.pts.kept HB1.out) (HV.out.its.kept HB1.out) HV.out.ai (fun b hb => Nat.lt_of_lt_of_le (HV.out.lt b hb) HB1.out.size) HV.out.srt HV.out.np HV.out.nx) )
   unfold bookV Msg.v at HG
   have a0 : w1.cell? ⟨(w.heap.size + 1), 0, none⟩ = some (.int .i64 mb) := Hb1.out.cell 0
   have a1 : w1.cell? ⟨(w.heap.size + 1), 1, none⟩ = some (.slice pi ni ci) := Hb1.out.cell 1
   have a2 : w1.cell? ⟨(w.heap.size + 1), 2, none⟩ = some (.slice po no co) := Hb1.out.cell 2
   have c0 : w1.cell? ⟨(w.heap.size + 1 + 1), 0, none⟩ = some (.int .i64 y.m.k) := Hm1.out.cell 0
   have c1 : w1.cell? ⟨(w.heap.size + 1 + 1), 1, none⟩ = some (.int .i64 y.m.s) := Hm1.out.cell 1
   have c2 : w1.cell? ⟨(w.heap.size + 1 + 1), 2, none⟩ = some (.int .i64 y.m.n) := Hm1.out.cell 2
   have c3 : w1.cell? ⟨(w.heap.size + 1 + 1), 3, none⟩ = some (.int .i64 y.m.b) := Hm1.out.cell 3
   have c4 : w1.cell? ⟨(w.heap.size + 1 + 1), 4, none⟩ = some (.int .i64 y.m.c) := Hm1.out.cell 4
   have c5 : w1.cell? ⟨(w.heap.size + 1 + 1), 5, none⟩ = some (.int .i64 y.m.r) := Hm1.out.cell 5
   have c6 : w1.cell? ⟨(w.heap.size + 1 + 1), 6, none⟩ = some (.int .i64 y.m.y) := Hm1.out.cell 6
   have c7 : w1.cell? ⟨(w.heap.size + 1 + 1), 7, none⟩ = some (.int .i64 y.m.a) := Hm1.out.cell 7
   have c8 : w1.cell? ⟨(w.heap.size + 1 + 1), 8, none⟩ = some (.bool y.m.t) := Hm1.out.cell 8
   have c9 : w1.cell? ⟨(w.heap.size + 1 + 1), 9, none⟩ = some (.slice y.pl y.m.ls.length y.cl) := Hm1.out.cell 9
   have c10 : w1.cell? ⟨(w.heap.size + 1 + 1), 10, none⟩ = some (.slice y.pn y.m.ns.length y.cn) := Hm1.out.cell 10
   go_wp2_with fail
   clear a0 a1 a2 c0 c1 c2 c3 c4 c5 c6 c7 c8 c9 c10
   refine HG.out.mono ?_
   rintro y9 w4 ⟨hb, p2, n2, c2, pi2, ni2, ci2, vs, ps2, xs2, out, e, rfl, hp, hr, ha, ho, hsr, hG⟩
   clear HG
   have HWL : Hid (w1.heap.size ≤ w4.heap.size) := Lib.hid hb.size
   have HLW : Hid (w.heap.size + 1 + 1 + 1 + 1 < w1.heap.size) := Hrb1.out.lt
   have Hp2 := kbq Hp1 hb
   have Hb2 := kbq Hb1 hb
   have Hm2 := kbq Hm1 hb
   have Hrp2 := kbq Hrp1 hb
   have Hrb2 := kbq Hrb1 hb
   have HB2 := ktq HB1 hb
   have HZ2 := kzq HZ1 hb.size
   clear Hp1 Hb1 Hm1 Hrp1 Hrb1 HB1 HZ1
   clear hb
   have Hp3 := Lib.hid ((Hp2.out.alloc (.cells #[.int .i64 me, .int .i64 N, .slice p2 n2 c2] 36)).alloc (.cells #[.int .i64 mb, .slice pi2 ni2 ci2, .slice po no co] 28))
   have Hb3 := Lib.hid ((Hb2.out.alloc (.cells #[.int .i64 me, .int .i64 N, .slice p2 n2 c2] 36)).alloc (.cells #[.int .i64 mb, .slice pi2 ni2 ci2, .slice po no co] 28))
   have Hm3 := Lib.hid ((Hm2.out.alloc (.cells #[.int .i64 me, .int .i64 N, .slice p2 n2 c2] 36)).alloc (.cells #[.int .i64 mb, .slice pi2 ni2 ci2, .slice po no co] 28))
   have Hrp3 := Lib.hid ((Hrp2.out.alloc (.cells #[.int .i64 me, .int .i64 N, .slice p2 n2 c2] 36)).alloc (.cells #[.int .i64 mb, .slice pi2 ni2 ci2, .slice po no co] 28))
   have Hrb3 := Lib.hid ((Hrb2.out.alloc (.cells #[.int .i64 me, .int .i64 N, .slice p2 n2 c2] 36)).alloc (.cells #[.int .i64 mb, .slice pi2 ni2 ci2, .slice po no co] 28))
   have hbz : Below w4.heap.size w4 ((w4.alloc (.cells #[.int .i64 me, .int .i64 N, .slice p2 n2 c2] 36)).alloc (.cells #[.int .i64 mb, .slice pi2 ni2 ci2, .slice po no co] 28)) := (oneB w4 _).alloc (by simp) _
   have Hxp3 := Lib.hid ((Blk.new w4 #[.int .i64 me, .int .i64 N, .slice p2 n2 c2] 36).alloc (.cells #[.int .i64 mb, .slice pi2 ni2 ci2, .slice po no co] 28))
   have Hxb3 : Hid (Blk ((w4.alloc (.cells #[.int .i64 me, .int .i64 N, .slice p2 n2 c2] 36)).alloc (.cells #[.int .i64 mb, .slice pi2 ni2 ci2, .slice po no co] 28)) (w4.heap.size + 1) #[.int .i64 mb, .slice pi2 ni2 ci2, .slice po no co] 28) := Lib.hid (Blk.new' _ _ _ (by simp))
   have HB3 := ktq HB2 hbz
   have HZ3 : Hid (w.heap.size ≤ ((w4.alloc (.cells #[.int .i64 me, .int .i64 N, .slice p2 n2 c2] 36)).alloc (.cells #[.int .i64 mb, .slice pi2 ni2 ci2, .slice po no co] 28)).heap.size) := Lib.hid HB3.out.size
   have HP := Lib.hid (hp.kept hbz)
   have HR := Lib.hid (hr.kept hbz)
   have HA := Lib.hid ha
   have HO := Lib.hid (ho.later hbz)
   have HSR : Hid (SaidR ((w4.alloc (.cells #[.int .i64 me, .int .i64 N, .slice p2 n2 c2] 36)).alloc (.cells #[.int .i64 mb, .slice pi2 ni2 ci2, .slice po no co] 28)) (fun b => P b ∨ w1.heap.size ≤ b) out) := Lib.hid (fun z hz => ⟨(hsr z hz).1.kept hbz, (hsr z hz).2⟩)
   have HGG := Lib.hid hG
   clear hp hr ha ho hsr hG hbz Hp2 Hb2 Hm2 Hrp2 Hrb2 HB2 HZ2
   go_upto_region 7 with fail
   generalize ((w4.alloc (.cells #[.int .i64 me, .int .i64 N, .slice p2 n2 c2] 36)).alloc (.cells #[.int .i64 mb, .slice pi2 ni2 ci2, .slice po no co] 28)) = W4 at *
   generalize w4.heap.size = g4 at *
   by_cases he : e = 0
   ·subst he
    go_upto_region 9 with fail
    have hbd := (Below.refl W4.heap.size W4).drew
    refine wp_region_held_drew (S := fun w' => w'.cell? ⟨g4, 0, none⟩ = some (.int .i64 me) ∧ w'.cell? ⟨g4, 1, none⟩ = some (.int .i64 N) ∧ w'.cell? ⟨g4, 2, none⟩ = some (.slice p2 n2 c2) ∧ w'.cell? ⟨g4 + 1, 0, none⟩ = some (.int .i64 mb) ∧ w'.cell? ⟨g4 + 1, 1, none⟩ = some (.slice pi2 ni2 ci2) ∧ w'.cell? ⟨g4 + 1, 2, none⟩ = some (.slice po no co)) (by kernel_rfl) ⟨(Hxp3.out.below hbd Hxp3.out.lt).cell 0, (Hxp3.out.below hbd Hxp3.out.lt).cell 1, (Hxp3.out.below hbd Hxp3.out.lt).cell 2, (Hxb3.out.below hbd Hxb3.out.lt).cell 0, (Hxb3.out.below hbd Hxb3.out.lt).cell 1, (Hxb3.out.below hbd Hxb3.out.lt).cell 2⟩ (fun hS0 => ?_)
    have HP := Lib.hid (HP.out.kept hbd)
    have HR := Lib.hid (HR.out.kept hbd)
    have HO := Lib.hid (HO.out.later hbd)
    have HSR : Hid (SaidR W4.drew (fun b => P b ∨ w1.heap.size ≤ b) out) := Lib.hid (fun z hz => ⟨(HSR.out z hz).1.kept hbd, (HSR.out z hz).2⟩)
    generalize W4.drew = WDdea at *
    have Hp4 := kbq Hp3 hbd
    have Hb4 := kbq Hb3 hbd
    have Hm4 := kbq Hm3 hbd
    have Hrp4 := kbq Hrp3 hbd
    have Hrb4 := kbq Hrb3 hbd
    have Hxp4 := kbq Hxp3 hbd
    have Hxb4 := kbq Hxb3 hbd
    have HB4 := ktq HB3 hbd
    have HZ4 := kzq HZ3 hbd.size
    clear Hp3 Hb3 Hm3 Hrp3 Hrb3 Hxp3 Hxb3 HB3 HZ3
    clear hbd
    refine tkq 0 ?_
    refine tkq 1 ?_
    refine tkq 2 ?_
    refine rdq 3 (fun K hK => ?_)
    have z0 : WDdea.cell? ⟨(w.heap.size + 1 + 1 + 1), 0, none⟩ = some (.int .i64 0) := Hrp4.out.cell 0
    have z1 : WDdea.cell? ⟨(w.heap.size + 1 + 1 + 1), 1, none⟩ = some (.int .i64 0) := Hrp4.out.cell 1
    have z2 : WDdea.cell? ⟨(w.heap.size + 1 + 1 + 1), 2, none⟩ = some (.slice none 0 0) := Hrp4.out.cell 2
    have f0 := Hrp4.out.free 0
    have f1 := Hrp4.out.free 1
    have f2 := Hrp4.out.free 2
    go_simp
    clear z0 z1 z2 f0 f1 f2
    have hch := Lib.hid ((((Chg.refl (w.heap.size + 1 + 1 + 1) WDdea).set 0 (.int .i64 me)).set 1 (.int .i64 N)).set 2 (.slice p2 n2 c2))
    have Hrp5 : Hid (Blk _ (w.heap.size + 1 + 1 + 1) #[.int .i64 me, .int .i64 N, .slice p2 n2 c2] 36) := Lib.hid (((Hrp4.out.set 0 (.int .i64 me)).set 1 (.int .i64 N)).set 2 (.slice p2 n2 c2))
    have HB5 := ksq HB4 hch (by show w.heap.size ≤ (w.heap.size + 1 + 1 + 1); omega)
    have HZ5 := kzq HZ4 hch.out.size
    have Hp5 := kcq Hp4 hch (by have h7 := HLW.out; have h8 := HWL.out; omega)
    have Hb5 := kcq Hb4 hch (by have h7 := HLW.out; have h8 := HWL.out; omega)
    have Hm5 := kcq Hm4 hch (by have h7 := HLW.out; have h8 := HWL.out; omega)
    have Hrb5 := kcq Hrb4 hch (by have h7 := HLW.out; have h8 := HWL.out; omega)
    have Hxp5 := kcq Hxp4 hch (by have h7 := HLW.out; have h8 := HWL.out; omega)
    have Hxb5 := kcq Hxb4 hch (by have h7 := HLW.out; have h8 := HWL.out; omega)
    have hn3 : ∀ g, g = w.heap.size + 1 + 1 + 1 ∨ g = w.heap.size + 1 + 1 + 1 + 1 → ¬ (P g ∨ w1.heap.size ≤ g) := fun g hg h => by
     have h7 := HLW.out
     have h9 := HV.out.lt
     rcases h with h | h
     ·have h8 := h9 _ h; omega
     ·omega
    have hkp := KeepP.of_chg (P := fun b => P b ∨ w1.heap.size ≤ b) hch.out (hn3 _ (by have h7 := HLW.out; have h8 := HWL.out; omega))
    have HP := Lib.hid (HP.out.keepP hkp)
    have HR := Lib.hid (HR.out.keepP HA.out hkp)
    have HO := Lib.hid (HO.out.stay (fun b hb => hch.out.2 b (HO.out.lt b hb) (by have h1 := HO.out.block_ge b hb; have h7 := HLW.out; omega)))
    have HSR : Hid (SaidR _ (fun b => P b ∨ w1.heap.size ≤ b) out) := Lib.hid (fun z hz => ⟨(HSR.out z hz).1.keepP (HSR.out z hz).2 hkp, (HSR.out z hz).2⟩)
    clear hn3 hkp
    clear hch hS0 Hp4 Hb4 Hm4 Hrp4 Hrb4 Hxp4 Hxb4 HB4 HZ4
    generalize (((WDdea.setCell ⟨w.heap.size + 1 + 1 + 1, 0, none⟩ (.int .i64 me)).setCell ⟨w.heap.size + 1 + 1 + 1, 1, none⟩ (.int .i64 N)).setCell ⟨w.heap.size + 1 + 1 + 1, 2, none⟩ (.slice p2 n2 c2)) = WPdea at *
    refine hK.out _ _ ⟨Hxp5.out.cell 0, Hxp5.out.cell 1, Hxp5.out.cell 2, Hxb5.out.cell 0, Hxb5.out.cell 1, Hxb5.out.cell 2⟩ (fun hS0 => ?_)
    clear hK K
    try simp only [Act.put, List.getElem_toArray, List.getElem_cons_succ, List.getElem_cons_zero, List.setIfInBounds_toArray, List.set_cons_zero, List.set_cons_succ]
    refine rdq 4 (fun K hK => ?_)
    have z0 : WPdea.cell? ⟨(w.heap.size + 1 + 1 + 1 + 1), 0, none⟩ = some (.int .i64 0) := Hrb5.out.cell 0
    have z1 : WPdea.cell? ⟨(w.heap.size + 1 + 1 + 1 + 1), 1, none⟩ = some (.slice none 0 0) := Hrb5.out.cell 1
    have z2 : WPdea.cell? ⟨(w.heap.size + 1 + 1 + 1 + 1), 2, none⟩ = some (.slice none 0 0) := Hrb5.out.cell 2
    have f0 := Hrb5.out.free 0
    have f1 := Hrb5.out.free 1
    have f2 := Hrb5.out.free 2
    go_simp
    clear z0 z1 z2 f0 f1 f2
    have hch := Lib.hid ((((Chg.refl (w.heap.size + 1 + 1 + 1 + 1) WPdea).set 0 (.int .i64 mb)).set 1 (.slice pi2 ni2 ci2)).set 2 (.slice po no co))
    have Hrb6 : Hid (Blk _ (w.heap.size + 1 + 1 + 1 + 1) #[.int .i64 mb, .slice pi2 ni2 ci2, .slice po no co] 28) := Lib.hid (((Hrb5.out.set 0 (.int .i64 mb)).set 1 (.slice pi2 ni2 ci2)).set 2 (.slice po no co))
    have HB6 := ksq HB5 hch (by show w.heap.size ≤ (w.heap.size + 1 + 1 + 1 + 1); omega)
    have HZ6 := kzq HZ5 hch.out.size
    have Hp6 := kcq Hp5 hch (by have h7 := HLW.out; have h8 := HWL.out; omega)
    have Hb6 := kcq Hb5 hch (by have h7 := HLW.out; have h8 := HWL.out; omega)
    have Hm6 := kcq Hm5 hch (by have h7 := HLW.out; have h8 := HWL.out; omega)
    have Hrp6 := kcq Hrp5 hch (by have h7 := HLW.out; have h8 := HWL.out; omega)
    have Hxp6 := kcq Hxp5 hch (by have h7 := HLW.out; have h8 := HWL.out; omega)
    have Hxb6 := kcq Hxb5 hch (by have h7 := HLW.out; have h8 := HWL.out; omega)
    have hn3 : ∀ g, g = w.heap.size + 1 + 1 + 1 ∨ g = w.heap.size + 1 + 1 + 1 + 1 → ¬ (P g ∨ w1.heap.size ≤ g) := fun g hg h => by
     have h7 := HLW.out
     have h9 := HV.out.lt
     rcases h with h | h
     ·have h8 := h9 _ h; omega
     ·omega
    have hkp := KeepP.of_chg (P := fun b => P b ∨ w1.heap.size ≤ b) hch.out (hn3 _ (by have h7 := HLW.out; have h8 := HWL.out; omega))
    have HP := Lib.hid (HP.out.keepP hkp)
    have HR := Lib.hid (HR.out.keepP HA.out hkp)
    have HO := Lib.hid (HO.out.stay (fun b hb => hch.out.2 b (HO.out.lt b hb) (by have h1 := HO.out.block_ge b hb; have h7 := HLW.out; omega)))
    have HSR : Hid (SaidR _ (fun b => P b ∨ w1.heap.size ≤ b) out) := Lib.hid (fun z hz => ⟨(HSR.out z hz).1.keepP (HSR.out z hz).2 hkp, (HSR.out z hz).2⟩)
    clear hn3 hkp
    clear hch hS0 Hp5 Hb5 Hm5 Hrp5 Hrb5 Hxp5 Hxb5 HB5 HZ5
    generalize (((WPdea.setCell ⟨w.heap.size + 1 + 1 + 1 + 1, 0, none⟩ (.int .i64 mb)).setCell ⟨w.heap.size + 1 + 1 + 1 + 1, 1, none⟩ (.slice pi2 ni2 ci2)).setCell ⟨w.heap.size + 1 + 1 + 1 + 1, 2, none⟩ (.slice po no co)) = WQdea at *
    refine hK.out _ _ ⟨Hxp6.out.cell 0, Hxp6.out.cell 1, Hxp6.out.cell 2, Hxb6.out.cell 0, Hxb6.out.cell 1, Hxb6.out.cell 2⟩ (fun hS0 => ?_)
    clear hK K
    try simp only [Act.put, List.getElem_toArray, List.getElem_cons_succ, List.getElem_cons_zero, List.setIfInBounds_toArray, List.set_cons_zero, List.set_cons_succ]
    refine tkq 5 ?_
    refine tkq 6 ?_
    refine wpAnyH_done (by kernel_rfl) ?_ _
    clear hS0
    obtain ⟨p5, c5, hv5⟩ := HO.out.form
    obtain ⟨lo, hlo⟩ : ∃ k, out.length = k := ⟨_, rfl⟩
    rw [hlo] at hv5
    clear hlo
    subst hv5
    go_wp2_with fail
    have hfp := Hrp6.out
    have hfb := Hrb6.out
    refine bodyPost_ret (v := .tuple #[.agg #[.int .i64 me, .int .i64 N, .slice p2 n2 c2], .agg #[.int .i64 mb, .slice pi2 ni2 ci2, .slice po no co], .slice p5 lo c5, .int .i64 0]) (by simp [results, Try.results9, go_sem, hfp.cell 0, hfp.cell 1, hfp.cell 2, hfb.cell 0, hfb.cell 1, hfb.cell 2]) rfl ⟨HB6.out, p2, n2, c2, pi2, ni2, ci2, _, ps2, xs2, out, 0, rfl, HP.out.imp (fun b h => h.imp id (fun h => by have h7 := HLW.out; omega)), HR.out, HA.out.imp (fun b h => h.imp id (fun h => by have h7 := HLW.out; omega)), HO.out.less (by have h7 := HLW.out; omega), fun z hz => ⟨(HSR.out z hz).1, (HSR.out z hz).2.imp (fun b h => h.imp id (fun h => by have h7 := HLW.out; omega))⟩, fun h => absurd h HNB.out, fun _ h1 h2 => absurd HFR.out (by omega), fun _ _ => ⟨ps2, xs2, out, 0, by unfold actG; rw [HK.out]; exact HGG.out, fun h => absurd rfl h, fun _ => ⟨rfl, rfl, rfl, rfl⟩⟩⟩
   ·have heb : (e != 0) = true := by simpa using he
    have HE : Hid (e ≠ 0) := he
    clear he
    go_upto_region 8 with fail
    clear heb HP HR HA HO HSR Hxp3 Hxb3
    have hbd := (Below.refl W4.heap.size W4).drew
    refine wp_region_held_drew (S := fun w' => w'.cell? ⟨w.heap.size, 0, none⟩ = some (.int .i64 me) ∧ w'.cell? ⟨w.heap.size, 1, none⟩ = some (.int .i64 N) ∧ w'.cell? ⟨w.heap.size, 2, none⟩ = some (.slice p n c) ∧ w'.cell? ⟨w.heap.size + 1, 0, none⟩ = some (.int .i64 mb) ∧ w'.cell? ⟨w.heap.size + 1, 1, none⟩ = some (.slice pi ni ci) ∧ w'.cell? ⟨w.heap.size + 1, 2, none⟩ = some (.slice po no co)) (by kernel_rfl) ⟨(Hp3.out.below hbd Hp3.out.lt).cell 0, (Hp3.out.below hbd Hp3.out.lt).cell 1, (Hp3.out.below hbd Hp3.out.lt).cell 2, (Hb3.out.below hbd Hb3.out.lt).cell 0, (Hb3.out.below hbd Hb3.out.lt).cell 1, (Hb3.out.below hbd Hb3.out.lt).cell 2⟩ (fun hS0 => ?_)
    generalize W4.drew = WDdeae at *
    have Hp4 := kbq Hp3 hbd
    have Hb4 := kbq Hb3 hbd
    have Hm4 := kbq Hm3 hbd
    have Hrp4 := kbq Hrp3 hbd
    have Hrb4 := kbq Hrb3 hbd
    have HB4 := ktq HB3 hbd
    have HZ4 := kzq HZ3 hbd.size
    clear Hp3 Hb3 Hm3 Hrp3 Hrb3 HB3 HZ3
    clear hbd
    refine tkq 0 ?_
    refine tkq 1 ?_
    refine tkq 2 ?_
    refine rdq 3 (fun K hK => ?_)
    have z0 : WDdeae.cell? ⟨(w.heap.size + 1 + 1 + 1), 0, none⟩ = some (.int .i64 0) := Hrp4.out.cell 0
    have z1 : WDdeae.cell? ⟨(w.heap.size + 1 + 1 + 1), 1, none⟩ = some (.int .i64 0) := Hrp4.out.cell 1
    have z2 : WDdeae.cell? ⟨(w.heap.size + 1 + 1 + 1), 2, none⟩ = some (.slice none 0 0) := Hrp4.out.cell 2
    have f0 := Hrp4.out.free 0
    have f1 := Hrp4.out.free 1
    have f2 := Hrp4.out.free 2
    go_simp
    clear z0 z1 z2 f0 f1 f2
    have hch := Lib.hid ((((Chg.refl (w.heap.size + 1 + 1 + 1) WDdeae).set 0 (.int .i64 me)).set 1 (.int .i64 N)).set 2 (.slice p n c))
    have Hrp5 : Hid (Blk _ (w.heap.size + 1 + 1 + 1) #[.int .i64 me, .int .i64 N, .slice p n c] 36) := Lib.hid (((Hrp4.out.set 0 (.int .i64 me)).set 1 (.int .i64 N)).set 2 (.slice p n c))
    have HB5 := ksq HB4 hch (by show w.heap.size ≤ (w.heap.size + 1 + 1 + 1); omega)
    have HZ5 := kzq HZ4 hch.out.size
    have Hp5 := kcq Hp4 hch (by have h7 := HLW.out; have h8 := HWL.out; omega)
    have Hb5 := kcq Hb4 hch (by have h7 := HLW.out; have h8 := HWL.out; omega)
    have Hm5 := kcq Hm4 hch (by have h7 := HLW.out; have h8 := HWL.out; omega)
    have Hrb5 := kcq Hrb4 hch (by have h7 := HLW.out; have h8 := HWL.out; omega)
    clear hch hS0 Hp4 Hb4 Hm4 Hrp4 Hrb4 HB4 HZ4
    generalize (((WDdeae.setCell ⟨w.heap.size + 1 + 1 + 1, 0, none⟩ (.int .i64 me)).setCell ⟨w.heap.size + 1 + 1 + 1, 1, none⟩ (.int .i64 N)).setCell ⟨w.heap.size + 1 + 1 + 1, 2, none⟩ (.slice p n c)) = WPdeae at *
    refine hK.out _ _ ⟨Hp5.out.cell 0, Hp5.out.cell 1, Hp5.out.cell 2, Hb5.out.cell 0, Hb5.out.cell 1, Hb5.out.cell 2⟩ (fun hS0 => ?_)
    clear hK K
    try simp only [Act.put, List.getElem_toArray, List.getElem_cons_succ, List.getElem_cons_zero, List.setIfInBounds_toArray, List.set_cons_zero, List.set_cons_succ]
    refine rdq 4 (fun K hK => ?_)
    have z0 : WPdeae.cell? ⟨(w.heap.size + 1 + 1 + 1 + 1), 0, none⟩ = some (.int .i64 0) := Hrb5.out.cell 0
    have z1 : WPdeae.cell? ⟨(w.heap.size + 1 + 1 + 1 + 1), 1, none⟩ = some (.slice none 0 0) := Hrb5.out.cell 1
    have z2 : WPdeae.cell? ⟨(w.heap.size + 1 + 1 + 1 + 1), 2, none⟩ = some (.slice none 0 0) := Hrb5.out.cell 2
    have f0 := Hrb5.out.free 0
    have f1 := Hrb5.out.free 1
    have f2 := Hrb5.out.free 2
    go_simp
    clear z0 z1 z2 f0 f1 f2
    have hch := Lib.hid ((((Chg.refl (w.heap.size + 1 + 1 + 1 + 1) WPdeae).set 0 (.int .i64 mb)).set 1 (.slice pi ni ci)).set 2 (.slice po no co))
    have Hrb6 : Hid (Blk _ (w.heap.size + 1 + 1 + 1 + 1) #[.int .i64 mb, .slice pi ni ci, .slice po no co] 28) := Lib.hid (((Hrb5.out.set 0 (.int .i64 mb)).set 1 (.slice pi ni ci)).set 2 (.slice po no co))
    have HB6 := ksq HB5 hch (by show w.heap.size ≤ (w.heap.size + 1 + 1 + 1 + 1); omega)
    have HZ6 := kzq HZ5 hch.out.size
    have Hp6 := kcq Hp5 hch (by have h7 := HLW.out; have h8 := HWL.out; omega)
    have Hb6 := kcq Hb5 hch (by have h7 := HLW.out; have h8 := HWL.out; omega)
    have Hm6 := kcq Hm5 hch (by have h7 := HLW.out; have h8 := HWL.out; omega)
    have Hrp6 := kcq Hrp5 hch (by have h7 := HLW.out; have h8 := HWL.out; omega)
    clear hch hS0 Hp5 Hb5 Hm5 Hrp5 Hrb5 HB5 HZ5
    generalize (((WPdeae.setCell ⟨w.heap.size + 1 + 1 + 1 + 1, 0, none⟩ (.int .i64 mb)).setCell ⟨w.heap.size + 1 + 1 + 1 + 1, 1, none⟩ (.slice pi ni ci)).setCell ⟨w.heap.size + 1 + 1 + 1 + 1, 2, none⟩ (.slice po no co)) = WQdeae at *
    refine hK.out _ _ ⟨Hp6.out.cell 0, Hp6.out.cell 1, Hp6.out.cell 2, Hb6.out.cell 0, Hb6.out.cell 1, Hb6.out.cell 2⟩ (fun hS0 => ?_)
    clear hK K
    try simp only [Act.put, List.getElem_toArray, List.getElem_cons_succ, List.getElem_cons_zero, List.setIfInBounds_toArray, List.set_cons_zero, List.set_cons_succ]
    refine tkq 5 ?_
    refine tkq 6 ?_
    refine wpAnyH_done (by kernel_rfl) ?_ _
    clear hS0
    go_wp2_with fail
    have hfp := Hrp6.out
    have hfb := Hrb6.out
    refine bodyPost_ret (v := .tuple #[.agg #[.int .i64 me, .int .i64 N, .slice p n c], .agg #[.int .i64 mb, .slice pi ni ci, .slice po no co], .slice none 0 0, .int .i64 e]) (by simp [results, Try.results9, go_sem, hfp.cell 0, hfp.cell 1, hfp.cell 2, hfb.cell 0, hfb.cell 1, hfb.cell 2]) rfl ⟨HB6.out, p, n, c, pi, ni, ci, _, ps, xs, [], e, rfl, (HV.out.same HB6.out).1, (HV.out.same HB6.out).2.1, (HV.out.same HB6.out).2.2, OwnT.nil_ _ _ _ _, saidR_nil _ _, fun h => absurd h HNB.out, fun _ h1 h2 => absurd HFR.out (by omega), fun _ _ => ⟨ps2, xs2, out, e, by unfold actG; rw [HK.out]; exact HGG.out, fun _ => ⟨rfl, rfl, rfl, rfl⟩, fun h => absurd h HE.out⟩⟩
  ·have hmb : (fro == -1) = false := by simpa using hm
   have hmn : (fro != -1) = true := by simpa using hm
   have HBB : Hid (kindBad y.m fro) := by
    show _
    unfold kindBad
    rw [HK.out]
    exact .inr (fun h => hm (h.2 rfl))
   clear hm
   go_upto_region 3 with fail
   clear c0 hmb hmn
   have hbd := (Below.refl w1.heap.size w1).drew
   refine wp_region_held_drew (S := fun w' => w'.cell? ⟨w.heap.size, 0, none⟩ = some (.int .i64 me) ∧ w'.cell? ⟨w.heap.size, 1, none⟩ = some (.int .i64 N) ∧ w'.cell? ⟨w.heap.size, 2, none⟩ = some (.slice p n c) ∧ w'.cell? ⟨w.heap.size + 1, 0, none⟩ = some (.int .i64 mb) ∧ w'.cell? ⟨w.heap.size + 1, 1, none⟩ = some (.slice pi ni ci) ∧ w'.cell? ⟨w.heap.size + 1, 2, none⟩ = some (.slice po no co)) (by kernel_rfl) ⟨(Hp1.out.below hbd Hp1.out.lt).cell 0, (Hp1.out.below hbd Hp1.out.lt).cell 1, (Hp1.out.below hbd Hp1.out.lt).cell 2, (Hb1.out.below hbd Hb1.out.lt).cell 0, (Hb1.out.below hbd Hb1.out.lt).cell 1, (Hb1.out.below hbd Hb1.out.lt).cell 2⟩ (fun hS0 => ?_)
   generalize w1.drew = WDdeb at *
   have Hp2 := kbq Hp1 hbd
   have Hb2 := kbq Hb1 hbd
   have Hm2 := kbq Hm1 hbd
   have Hrp2 := kbq Hrp1 hbd
   have Hrb2 := kbq Hrb1 hbd
   have HB2 := ktq HB1 hbd
   have HZ2 := kzq HZ1 hbd.size
   clear Hp1 Hb1 Hm1 Hrp1 Hrb1 HB1 HZ1
   clear hbd
   refine tkq 0 ?_
   refine tkq 1 ?_
   refine rdq 2 (fun K hK => ?_)
   have z0 : WDdeb.cell? ⟨(w.heap.size + 1 + 1 + 1), 0, none⟩ = some (.int .i64 0) := Hrp2.out.cell 0
   have z1 : WDdeb.cell? ⟨(w.heap.size + 1 + 1 + 1), 1, none⟩ = some (.int .i64 0) := Hrp2.out.cell 1
   have z2 : WDdeb.cell? ⟨(w.heap.size + 1 + 1 + 1), 2, none⟩ = some (.slice none 0 0) := Hrp2.out.cell 2
   have f0 := Hrp2.out.free 0
   have f1 := Hrp2.out.free 1
   have f2 := Hrp2.out.free 2
   go_simp
   clear z0 z1 z2 f0 f1 f2
   have hch := Lib.hid ((((Chg.refl (w.heap.size + 1 + 1 + 1) WDdeb).set 0 (.int .i64 me)).set 1 (.int .i64 N)).set 2 (.slice p n c))
   have Hrp3 : Hid (Blk _ (w.heap.size + 1 + 1 + 1) #[.int .i64 me, .int .i64 N, .slice p n c] 36) := Lib.hid (((Hrp2.out.set 0 (.int .i64 me)).set 1 (.int .i64 N)).set 2 (.slice p n c))
   have HB3 := ksq HB2 hch (by show w.heap.size ≤ (w.heap.size + 1 + 1 + 1); omega)
   have HZ3 := kzq HZ2 hch.out.size
   have Hp3 := kcq Hp2 hch (by omega)
   have Hb3 := kcq Hb2 hch (by omega)
   have Hm3 := kcq Hm2 hch (by omega)
   have Hrb3 := kcq Hrb2 hch (by omega)
   clear hch hS0 Hp2 Hb2 Hm2 Hrp2 Hrb2 HB2 HZ2
   generalize (((WDdeb.setCell ⟨w.heap.size + 1 + 1 + 1, 0, none⟩ (.int .i64 me)).setCell ⟨w.heap.size + 1 + 1 + 1, 1, none⟩ (.int .i64 N)).setCell ⟨w.heap.size + 1 + 1 + 1, 2, none⟩ (.slice p n c)) = WPdeb at *
   refine hK.out _ _ ⟨Hp3.out.cell 0, Hp3.out.cell 1, Hp3.out.cell 2, Hb3.out.cell 0, Hb3.out.cell 1, Hb3.out.cell 2⟩ (fun hS0 => ?_)
   clear hK K
   try simp only [Act.put, List.getElem_toArray, List.getElem_cons_succ, List.getElem_cons_zero, List.setIfInBounds_toArray, List.set_cons_zero, List.set_cons_succ]
   refine rdq 3 (fun K hK => ?_)
   have z0 : WPdeb.cell? ⟨(w.heap.size + 1 + 1 + 1 + 1), 0, none⟩ = some (.int .i64 0) := Hrb3.out.cell 0
   have z1 : WPdeb.cell? ⟨(w.heap.size + 1 + 1 + 1 + 1), 1, none⟩ = some (.slice none 0 0) := Hrb3.out.cell 1
   have z2 : WPdeb.cell? ⟨(w.heap.size + 1 + 1 + 1 + 1), 2, none⟩ = some (.slice none 0 0) := Hrb3.out.cell 2
   have f0 := Hrb3.out.free 0
   have f1 := Hrb3.out.free 1
   have f2 := Hrb3.out.free 2
   go_simp
   clear z0 z1 z2 f0 f1 f2
   have hch := Lib.hid ((((Chg.refl (w.heap.size + 1 + 1 + 1 + 1) WPdeb).set 0 (.int .i64 mb)).set 1 (.slice pi ni ci)).set 2 (.slice po no co))
   have Hrb4 : Hid (Blk _ (w.heap.size + 1 + 1 + 1 + 1) #[.int .i64 mb, .slice pi ni ci, .slice po no co] 28) := Lib.hid (((Hrb3.out.set 0 (.int .i64 mb)).set 1 (.slice pi ni ci)).set 2 (.slice po no co))
   have HB4 := ksq HB3 hch (by show w.heap.size ≤ (w.heap.size + 1 + 1 + 1 + 1); omega)
   have HZ4 := kzq HZ3 hch.out.size
   have Hp4 := kcq Hp3 hch (by omega)
   have Hb4 := kcq Hb3 hch (by omega)
   have Hm4 := kcq Hm3 hch (by omega)
   have Hrp4 := kcq Hrp3 hch (by omega)
   clear hch hS0 Hp3 Hb3 Hm3 Hrp3 Hrb3 HB3 HZ3
   generalize (((WPdeb.setCell ⟨w.heap.size + 1 + 1 + 1 + 1, 0, none⟩ (.int .i64 mb)).setCell ⟨w.heap.size + 1 + 1 + 1 + 1, 1, none⟩ (.slice pi ni ci)).setCell ⟨w.heap.size + 1 + 1 + 1 + 1, 2, none⟩ (.slice po no co)) = WQdeb at *
   refine hK.out _ _ ⟨Hp4.out.cell 0, Hp4.out.cell 1, Hp4.out.cell 2, Hb4.out.cell 0, Hb4.out.cell 1, Hb4.out.cell 2⟩ (fun hS0 => ?_)
   clear hK K
   try simp only [Act.put, List.getElem_toArray, List.getElem_cons_succ, List.getElem_cons_zero, List.setIfInBounds_toArray, List.set_cons_zero, List.set_cons_succ]
   refine tkq 4 ?_
   refine tkq 5 ?_
   refine wpAnyH_done (by kernel_rfl) ?_ _
   clear hS0
   go_wp2_with fail
   have hfp := Hrp4.out
   have hfb := Hrb4.out
   refine bodyPost_ret (v := .tuple #[.agg #[.int .i64 me, .int .i64 N, .slice p n c], .agg #[.int .i64 mb, .slice pi ni ci, .slice po no co], .slice none 0 0, .int .i64 110]) (by simp [results, Try.results9, go_sem, hfp.cell 0, hfp.cell 1, hfp.cell 2, hfb.cell 0, hfb.cell 1, hfb.cell 2]) rfl ⟨HB4.out, p, n, c, pi, ni, ci, _, ps, xs, [], 110, rfl, (HV.out.same HB4.out).1, (HV.out.same HB4.out).2.1, (HV.out.same HB4.out).2.2, OwnT.nil_ _ _ _ _, saidR_nil _ _, fun _ => ⟨rfl, rfl, rfl, rfl⟩, fun h => absurd HBB.out h, fun h => absurd HBB.out h⟩
 have hk16 := hk
 clear hk
 have HBB : Hid (kindBad y.m fro) := Lib.hid (.inl ⟨hk10, hk12, hk14, hk16⟩)
 have HG := Lib.hid (at_none W me N y.m.k p n c hk10 hk12 hk14 hk16)
 have a0 : W.cell? ⟨w.heap.size, 0, none⟩ = some (.int .i64 me) := Hp0.out.cell 0
 have a1 : W.cell? ⟨w.heap.size, 1, none⟩ = some (.int .i64 N) := Hp0.out.cell 1
 have a2 : W.cell? ⟨w.heap.size, 2, none⟩ = some (.slice p n c) := Hp0.out.cell 2
 have c0 : W.cell? ⟨(w.heap.size + 1 + 1), 0, none⟩ = some (.int .i64 y.m.k) := Hm0.out.cell 0
 clear hk10 hk12 hk14 hk16
 go_wp2_with fail
 clear a0 a1 a2
 refine HG.out.mono ?_
 rintro y9 w1 ⟨rfl, hb⟩
 clear HG c0
 have Hp1 := kbq Hp0 hb
 have Hb1 := kbq Hb0 hb
 have Hm1 := kbq Hm0 hb
 have Hrp1 := kbq Hrp0 hb
 have Hrb1 := kbq Hrb0 hb
 have HB1 := ktq HB0 hb
 have HZ1 := kzq HZ0 hb.size
 clear Hp0 Hb0 Hm0 Hrp0 Hrb0 HB0 HZ0
 clear hb
 go_upto_region 3 with fail
 have hbd := (Below.refl w1.heap.size w1).drew
 refine wp_region_held_drew (S := fun w' => w'.cell? ⟨w.heap.size, 0, none⟩ = some (.int .i64 me) ∧ w'.cell? ⟨w.heap.size, 1, none⟩ = some (.int .i64 N) ∧ w'.cell? ⟨w.heap.size, 2, none⟩ = some (.slice p n c) ∧ w'.cell? ⟨w.heap.size + 1, 0, none⟩ = some (.int .i64 mb) ∧ w'.cell? ⟨w.heap.size + 1, 1, none⟩ = some (.slice pi ni ci) ∧ w'.cell? ⟨w.heap.size + 1, 2, none⟩ = some (.slice po no co)) (by kernel_rfl) ⟨(Hp1.out.below hbd Hp1.out.lt).cell 0, (Hp1.out.below hbd Hp1.out.lt).cell 1, (Hp1.out.below hbd Hp1.out.lt).cell 2, (Hb1.out.below hbd Hb1.out.lt).cell 0, (Hb1.out.below hbd Hb1.out.lt).cell 1, (Hb1.out.below hbd Hb1.out.lt).cell 2⟩ (fun hS0 => ?_)
 generalize w1.drew = WDz at *
 have Hp2 := kbq Hp1 hbd
 have Hb2 := kbq Hb1 hbd
 have Hm2 := kbq Hm1 hbd
 have Hrp2 := kbq Hrp1 hbd
 have Hrb2 := kbq Hrb1 hbd
 have HB2 := ktq HB1 hbd
 have HZ2 := kzq HZ1 hbd.size
 clear Hp1 Hb1 Hm1 Hrp1 Hrb1 HB1 HZ1
 clear hbd
 refine tkq 0 ?_
 refine tkq 1 ?_
 refine rdq 2 (fun K hK => ?_)
 have z0 : WDz.cell? ⟨(w.heap.size + 1 + 1 + 1), 0, none⟩ = some (.int .i64 0) := Hrp2.out.cell 0
 have z1 : WDz.cell? ⟨(w.heap.size + 1 + 1 + 1), 1, none⟩ = some (.int .i64 0) := Hrp2.out.cell 1
 have z2 : WDz.cell? ⟨(w.heap.size + 1 + 1 + 1), 2, none⟩ = some (.slice none 0 0) := Hrp2.out.cell 2
 have f0 := Hrp2.out.free 0
 have f1 := Hrp2.out.free 1
 have f2 := Hrp2.out.free 2
 go_simp
 clear z0 z1 z2 f0 f1 f2
 have hch := Lib.hid ((((Chg.refl (w.heap.size + 1 + 1 + 1) WDz).set 0 (.int .i64 me)).set 1 (.int .i64 N)).set 2 (.slice p n c))
 have Hrp3 : Hid (Blk _ (w.heap.size + 1 + 1 + 1) #[.int .i64 me, .int .i64 N, .slice p n c] 36) := Lib.hid (((Hrp2.out.set 0 (.int .i64 me)).set 1 (.int .i64 N)).set 2 (.slice p n c))
 have HB3 := ksq HB2 hch (by show w.heap.size ≤ (w.heap.size + 1 + 1 + 1); omega)
 have HZ3 := kzq HZ2 hch.out.size
 have Hp3 := kcq Hp2 hch (by omega)
 have Hb3 := kcq Hb2 hch (by omega)
 have Hm3 := kcq Hm2 hch (by omega)
 have Hrb3 := kcq Hrb2 hch (by omega)
 clear hch hS0 Hp2 Hb2 Hm2 Hrp2 Hrb2 HB2 HZ2
 generalize (((WDz.setCell ⟨w.heap.size + 1 + 1 + 1, 0, none⟩ (.int .i64 me)).setCell ⟨w.heap.size + 1 + 1 + 1, 1, none⟩ (.int .i64 N)).setCell ⟨w.heap.size + 1 + 1 + 1, 2, none⟩ (.slice p n c)) = WPz at *
 refine hK.out _ _ ⟨Hp3.out.cell 0, Hp3.out.cell 1, Hp3.out.cell 2, Hb3.out.cell 0, Hb3.out.cell 1, Hb3.out.cell 2⟩ (fun hS0 => ?_)
 clear hK K
 try simp only [Act.put, List.getElem_toArray, List.getElem_cons_succ, List.getElem_cons_zero, List.setIfInBounds_toArray, List.set_cons_zero, List.set_cons_succ]
 refine rdq 3 (fun K hK => ?_)
 have z0 : WPz.cell? ⟨(w.heap.size + 1 + 1 + 1 + 1), 0, none⟩ = some (.int .i64 0) := Hrb3.out.cell 0
 have z1 : WPz.cell? ⟨(w.heap.size + 1 + 1 + 1 + 1), 1, none⟩ = some (.slice none 0 0) := Hrb3.out.cell 1
 have z2 : WPz.cell? ⟨(w.heap.size + 1 + 1 + 1 + 1), 2, none⟩ = some (.slice none 0 0) := Hrb3.out.cell 2
 have f0 := Hrb3.out.free 0
 have f1 := Hrb3.out.free 1
 have f2 := Hrb3.out.free 2
 go_simp
 clear z0 z1 z2 f0 f1 f2
 have hch := Lib.hid ((((Chg.refl (w.heap.size + 1 + 1 + 1 + 1) WPz).set 0 (.int .i64 mb)).set 1 (.slice pi ni ci)).set 2 (.slice po no co))
 have Hrb4 : Hid (Blk _ (w.heap.size + 1 + 1 + 1 + 1) #[.int .i64 mb, .slice pi ni ci, .slice po no co] 28) := Lib.hid (((Hrb3.out.set 0 (.int .i64 mb)).set 1 (.slice pi ni ci)).set 2 (.slice po no co))
 have HB4 := ksq HB3 hch (by show w.heap.size ≤ (w.heap.size + 1 + 1 + 1 + 1); omega)
 have HZ4 := kzq HZ3 hch.out.size
 have Hp4 := kcq Hp3 hch (by omega)
 have Hb4 := kcq Hb3 hch (by omega)
 have Hm4 := kcq Hm3 hch (by omega)
 have Hrp4 := kcq Hrp3 hch (by omega)
 clear hch hS0 Hp3 Hb3 Hm3 Hrp3 Hrb3 HB3 HZ3
 generalize (((WPz.setCell ⟨w.heap.size + 1 + 1 + 1 + 1, 0, none⟩ (.int .i64 mb)).setCell ⟨w.heap.size + 1 + 1 + 1 + 1, 1, none⟩ (.slice pi ni ci)).setCell ⟨w.heap.size + 1 + 1 + 1 + 1, 2, none⟩ (.slice po no co)) = WQz at *
 refine hK.out _ _ ⟨Hp4.out.cell 0, Hp4.out.cell 1, Hp4.out.cell 2, Hb4.out.cell 0, Hb4.out.cell 1, Hb4.out.cell 2⟩ (fun hS0 => ?_)
 clear hK K
 try simp only [Act.put, List.getElem_toArray, List.getElem_cons_succ, List.getElem_cons_zero, List.setIfInBounds_toArray, List.set_cons_zero, List.set_cons_succ]
 refine tkq 4 ?_
 refine tkq 5 ?_
 refine wpAnyH_done (by kernel_rfl) ?_ _
 clear hS0
 go_wp2_with fail
 have hfp := Hrp4.out
 have hfb := Hrb4.out
 refine bodyPost_ret (v := .tuple #[.agg #[.int .i64 me, .int .i64 N, .slice p n c], .agg #[.int .i64 mb, .slice pi ni ci, .slice po no co], .slice none 0 0, .int .i64 110]) (by simp [results, Try.results9, go_sem, hfp.cell 0, hfp.cell 1, hfp.cell 2, hfb.cell 0, hfb.cell 1, hfb.cell 2]) rfl ⟨HB4.out, p, n, c, pi, ni, ci, _, ps, xs, [], 110, rfl, (HV.out.same HB4.out).1, (HV.out.same HB4.out).2.1, (HV.out.same HB4.out).2.2, OwnT.nil_ _ _ _ _, saidR_nil _ _, fun _ => ⟨rfl, rfl, rfl, rfl⟩, fun h => absurd HBB.out h, fun h => absurd HBB.out h⟩
end Go.Proofs.Ytmhocihajobkkaa
namespace Go.Proofs.Ytmhocihajobkkaa
open Go.RowKit
/-- What an act makes of an item. -/
def ActX (m : Msg) (x y : Itm) : Prop :=
 y = x ∨ (m.k = 10 ∧ x.t = 3 ∧ x.y = 0 ∧ 1 ≤ m.y ∧ x.c = m.c ∧ y = { x with y := m.y }) ∨ (m.k = 14 ∧ x.t = 3 ∧ x.y = m.y ∧ x.y ≠ 0 ∧ (y = { x with t := 5 } ∨ y = { x with y := 0 }))
theorem lock_is {x : Itm} {n : Int} (h3 : x.t = 3) (h0 : x.y = 0) (hn : 1 ≤ n ∧ n ≤ 1048576) : lockI x n = ({ x with y := n }, 0) := by
 unfold lockI
 rw [if_pos ⟨h3, h0⟩, if_pos hn]
theorem dec_is {x : Itm} {t : Bool} {ls : List Lin} (h3 : x.t = 3) (h0 : x.y ≠ 0) : decF t ls x = if t = true ∧ lineOf x ∈ ls then ({ x with t := 5 }, 0) else ({ x with y := 0 }, 0) := by
 have hc : x.t = 3 ∧ x.y ≠ 0 := ⟨h3, h0⟩
 unfold decF settleI freeI
 rw [if_pos hc, if_pos hc]
theorem ask_ok {m : Msg} (h : ¬ askBad m) : 1 ≤ m.y ∧ m.y ≤ 1048576 ∧ 0 ≤ m.c ∧ m.c < 8 := by
 unfold askBad at h
 omega
theorem offer_sub (xs : List Itm) (m : Msg) : (offerL xs m).Sublist xs := (List.take_sublist _ _).trans List.filter_sublist
theorem offer_keep {xs : List Itm} {m : Msg} {x : Itm} (h : x ∈ offerL xs m) : keepF m.c x = true := (List.mem_filter.1 ((List.take_sublist _ _).subset h)).2
/-- What asking makes of the items. -/
theorem ask_items {mb : Int} {xs : List Itm} {m : Msg} (hg : GoodB mb xs) (hk : m.k = 10) (hm : ¬ askBad m) : GoodB mb (eachX (fun x => lockI x m.y) xs (offerL xs m)) ∧ (eachX (fun x => lockI x m.y) xs (offerL xs m)).length = xs.length ∧
  ∀ x ∈ xs, ∃ y, findX (eachX (fun x => lockI x m.y) xs (offerL xs m)) x.s x.n = some y ∧ ActX m x y := by
 have hm := ask_ok hm
 have hl : ∀ x ∈ offerL xs m, lockI x m.y = ({ x with y := m.y }, 0) := fun x hx => by
  obtain ⟨h1, h2, h3⟩ := keepF_ok (offer_keep hx)
  exact lock_is h1 h3 ⟨hm.1, hm.2.1⟩
 refine ⟨each_good hg (fun x hx => ?_), each_len_eq hg.1 (fun x hx => ⟨x, (offer_sub xs m).subset hx, ?_⟩), fun x hx => ?_⟩
 ·obtain ⟨h1, h2, h3⟩ := keepF_ok (offer_keep hx)
  have h4 := hg.2 x ((offer_sub xs m).subset hx)
  exact (lock_ok h1 h3 ⟨hm.1, hm.2.1⟩ h4.1 h4.2).2
 ·show sameN (lockI x m.y).1 x
  rw [hl x hx]
  exact ⟨rfl, rfl⟩
 ·rcases each_item (f := fun x => lockI x m.y) hg.1 (offer_sub xs m) (fun x hx => by rw [hl x hx]; exact ⟨rfl, rfl⟩) hx with ⟨h1, h2⟩ | ⟨h1, h2⟩
  ·refine ⟨_, h2, ?_⟩
   rw [hl x h1]
   obtain ⟨h4, h5, h6⟩ := keepF_ok (offer_keep h1)
   exact .inr (.inl ⟨hk, h4, h6, hm.1, h5, rfl⟩)
  ·exact ⟨_, h2, .inl rfl⟩
/-- What deciding makes of the items. -/
theorem dec_items {mb : Int} {xs : List Itm} {m : Msg} {ls : List Lin} (hg : GoodB mb xs) (hk : m.k = 14) : GoodB mb (eachX (decF m.t ls) xs (xs.filter (keepL m.y))) ∧ (eachX (decF m.t ls) xs (xs.filter (keepL m.y))).length = xs.length ∧
  ∀ x ∈ xs, ∃ y, findX (eachX (decF m.t ls) xs (xs.filter (keepL m.y))) x.s x.n = some y ∧ ActX m x y := by
 have hl : ∀ x ∈ xs.filter (keepL m.y), (decF m.t ls x).1 = { x with t := 5 } ∨ (decF m.t ls x).1 = { x with y := 0 } := fun x hx => by
  obtain ⟨h1, h2, h3⟩ := keepL_ok (List.mem_filter.1 hx).2
  rw [dec_is h1 h3]
  split
  ·exact .inl rfl
  ·exact .inr rfl
 have hn : ∀ x ∈ xs.filter (keepL m.y), (decF m.t ls x).1.s = x.s ∧ (decF m.t ls x).1.n = x.n := fun x hx => by
  rcases hl x hx with h | h <;> rw [h] <;> exact ⟨rfl, rfl⟩
 refine ⟨each_good hg (fun x hx => ?_), each_len_eq hg.1 (fun x hx => ⟨x, (List.mem_filter.1 hx).1, hn x hx⟩), fun x hx => ?_⟩
 ·obtain ⟨h1, h2, h3⟩ := keepL_ok (List.mem_filter.1 hx).2
  have h4 := hg.2 x (List.mem_filter.1 hx).1
  exact (decF_ok h1 h3 h4.1 h4.2).2
 ·rcases each_item (f := decF m.t ls) hg.1 List.filter_sublist hn hx with ⟨h1, h2⟩ | ⟨h1, h2⟩
  ·refine ⟨_, h2, .inr (.inr ⟨hk, ?_⟩)⟩
   obtain ⟨h4, h5, h6⟩ := keepL_ok (List.mem_filter.1 h1).2
   exact ⟨h4, h5, h6, hl x h1⟩
  ·exact ⟨_, h2, .inl rfl⟩
/-- Nothing is done to a book. -/
theorem none_items {mb : Int} {xs : List Itm} (m : Msg) (hg : GoodB mb xs) : GoodB mb xs ∧ xs.length = xs.length ∧ ∀ x ∈ xs, ∃ y, findX xs x.s x.n = some y ∧ ActX m x y := ⟨hg, rfl, fun _ hx => ⟨_, find_sort hg.1 hx, .inl rfl⟩⟩
theorem act_items {me N mb e : Int} {ps ps2 : List PtX} {xs xs2 : List Itm} {m : Msg} {out : List SdX} (hg : GoodB mb xs) (h : actG me N ps xs m ps2 xs2 out e) :
  GoodB mb xs2 ∧ xs2.length = xs.length ∧ ∀ x ∈ xs, ∃ y, findX xs2 x.s x.n = some y ∧ ActX m x y := by
 unfold actG at h
 split at h
 ·rename_i h10
  obtain ⟨h1, h2, h3⟩ := h
  by_cases hb : askBad m
  ·obtain ⟨_, rfl, _⟩ := h1 hb; exact none_items m hg
  ·by_cases hf : findC ps m.y = none
   ·obtain ⟨_, _, rfl, _⟩ := h3 hb hf; exact ask_items hg h10 hb
   ·obtain ⟨_, rfl, _⟩ := h2 hb hf; exact none_items m hg
 ·split at h
  ·obtain ⟨rfl, _⟩ := h; exact none_items m hg
  ·split at h
   ·rename_i h14
    obtain ⟨_, h1, h2, h3⟩ := h
    by_cases h0 : (openP ps m.y).2 = 0
    ·by_cases hy : m.t = true → (openP ps m.y).1.st = 2
     ·obtain ⟨_, _, rfl⟩ := h3 h0 hy; exact dec_items hg h14
     ·have hy2 : m.t = true ∧ (openP ps m.y).1.st ≠ 2 := by
       by_cases ht : m.t = true
       ·exact ⟨ht, fun h => hy (fun _ => h)⟩
       ·exact absurd (fun h => absurd h ht) hy
      obtain ⟨_, rfl, _⟩ := h2 h0 hy2.1 hy2.2; exact none_items m hg
    ·obtain ⟨_, rfl, _⟩ := h1 h0; exact none_items m hg
   ·obtain ⟨_, rfl, _⟩ := h; exact none_items m hg
theorem not_bad {m : Msg} {fro : Int} (h : ¬ kindBad m fro) : m.k = 10 ∨ m.k = 12 ∨ m.k = 14 ∨ m.k = 16 := by
 unfold kindBad at h
 omega
/-- What a word does to the items. -/
theorem vote_items {me N mb fro e : Int} {ps ps2 : List PtX} {xs xs2 : List Itm} {m : Msg} {out : List SdX} (hg : GoodB mb xs) (h : VoteG me N ps xs m fro ps2 xs2 out e) :
  GoodB mb xs2 ∧ xs2.length = xs.length ∧ ∀ x ∈ xs, ∃ y, findX xs2 x.s x.n = some y ∧ ActX m x y := by
 obtain ⟨h1, h2, h3⟩ := h
 by_cases hb : kindBad m fro
 ·obtain ⟨_, rfl, _⟩ := h1 hb; exact none_items m hg
 ·by_cases hf : fro = -1 ∨ fro = N
  ·obtain ⟨ps3, xs3, out3, e3, h4, h5, h6⟩ := h3 hb hf
   by_cases h0 : e3 = 0
   ·obtain ⟨_, rfl, _⟩ := h6 h0; exact act_items hg h4
   ·obtain ⟨_, rfl, _⟩ := h5 h0; exact none_items m hg
  ·obtain ⟨_, rfl, _⟩ := h2 hb (fun h => hf (.inl h)) (fun h => hf (.inr h)); exact none_items m hg
/-- What a word does to a list of cycles: at most one is put. -/
def PutsC (ps ps2 : List PtX) : Prop := ps2 = ps ∨ ∃ q, ps2 = insC ps q ∧ q.ls.length ≤ 2000
theorem insC_len {X : List PtX} {x : PtX} (hs : SortedP (X.map posC)) : (insC X x).length ≤ X.length + 1 := by
 obtain ⟨A, mid, B, hA⟩ := aroundF_of_sorted posC ⟨x.cy, 0, 0⟩ X hs
 rw [← insC_around hA, hA.all]
 simp only [List.length_append, List.length_cons, List.length_nil]
 omega
theorem PutsC.len {ps ps2 : List PtX} (h : PutsC ps ps2) (hs : SortedP (ps.map posC)) : ps2.length ≤ ps.length + 1 := by
 rcases h with rfl | ⟨q, rfl, _⟩
 ·omega
 ·exact insC_len hs
theorem PutsC.ls {ps ps2 : List PtX} (h : PutsC ps ps2) (hq : ∀ z ∈ ps, z.ls.length ≤ 2000) : ∀ z ∈ ps2, z.ls.length ≤ 2000 := by
 rcases h with rfl | ⟨q, rfl, hql⟩
 ·exact hq
 ·exact fun z hz => (insC_mem hz).elim (fun e => e ▸ hql) (hq z)
theorem open_len {ps : List PtX} {cy : Int} (h : (openP ps cy).2 = 0) (hq : ∀ z ∈ ps, z.ls.length ≤ 2000) : (openP ps cy).1.ls.length ≤ 2000 :=
 hq _ (openP_mem (q := (openP ps cy).1) (by rw [← h]))
theorem mine_len (me : Int) (ls : List Lin) : (mineL me ls).length ≤ ls.length := List.length_filter_le _ _
theorem act_puts {me N e : Int} {ps ps2 : List PtX} {xs xs2 : List Itm} {m : Msg} {out : List SdX} (hq : ∀ z ∈ ps, z.ls.length ≤ 2000) (hm : m.ls.length ≤ 2000) (h : actG me N ps xs m ps2 xs2 out e) : PutsC ps ps2 := by
 unfold actG at h
 split at h
 ·obtain ⟨h1, h2, h3⟩ := h
  by_cases hb : askBad m
  ·exact .inl (h1 hb).1
  ·by_cases hf : findC ps m.y = none
   ·exact .inr ⟨_, (h3 hb hf).2.1, by show ([] : List Lin).length ≤ 2000; simp⟩
   ·exact .inl (h2 hb hf).1
 ·split at h
  ·obtain ⟨_, h1, h2, h3⟩ := h
   by_cases h0 : (openP ps m.y).2 = 0
   ·by_cases hs : (openP ps m.y).1.st = 1
    ·obtain ⟨_, _, h4, h5⟩ := h3 h0 hs
     cases hb : prepB me N xs m
     ·exact .inr ⟨_, h4 hb, open_len h0 hq⟩
     ·obtain ⟨lp, lc, h6⟩ := h5 hb
      exact .inr ⟨_, h6, Nat.le_trans (mine_len me m.ls) hm⟩
    ·exact .inl (h2 h0 hs).1
   ·exact .inl (h1 h0).1
  ·split at h
   ·obtain ⟨_, h1, h2, h3⟩ := h
    by_cases h0 : (openP ps m.y).2 = 0
    ·by_cases hy : m.t = true → (openP ps m.y).1.st = 2
     ·exact .inr ⟨_, (h3 h0 hy).2.1, open_len h0 hq⟩
     ·have hy2 : m.t = true ∧ (openP ps m.y).1.st ≠ 2 := by
       by_cases ht : m.t = true
       ·exact ⟨ht, fun h => hy (fun _ => h)⟩
       ·exact absurd (fun h => absurd h ht) hy
      exact .inl (h2 h0 hy2.1 hy2.2).1
    ·exact .inl (h1 h0).1
   ·exact .inl h.1
theorem vote_puts {me N fro e : Int} {ps ps2 : List PtX} {xs xs2 : List Itm} {m : Msg} {out : List SdX} (hq : ∀ z ∈ ps, z.ls.length ≤ 2000) (hm : m.ls.length ≤ 2000) (h : VoteG me N ps xs m fro ps2 xs2 out e) : PutsC ps ps2 := by
 obtain ⟨h1, h2, h3⟩ := h
 by_cases hb : kindBad m fro
 ·exact .inl (h1 hb).1
 ·by_cases hf : fro = -1 ∨ fro = N
  ·obtain ⟨ps3, xs3, out3, e3, h4, h5, h6⟩ := h3 hb hf
   by_cases h0 : e3 = 0
   ·rw [(h6 h0).1]; exact act_puts hq hm h4
   ·exact .inl (h5 h0).1
  ·exact .inl (h2 hb (fun h => hf (.inl h)) (fun h => hf (.inr h))).1
/-- What is said: nothing, or one message to the coordinator about the cycle; what is offered is free. -/
def SayOne (N : Int) (xs : List Itm) (m : Msg) (out : List SdX) : Prop :=
 out = [] ∨ ∃ z, out = [z] ∧ z.tw = N ∧ z.x.m.y = m.y ∧ ∃ os : List Itm, z.x.m.ls = os.map lineOf ∧ ∀ x ∈ os, x ∈ xs ∧ x.t = 3 ∧ x.y = 0
theorem act_says {me N e : Int} {ps ps2 : List PtX} {xs xs2 : List Itm} {m : Msg} {out : List SdX} (h : actG me N ps xs m ps2 xs2 out e) : SayOne N xs m out := by
 unfold actG at h
 split at h
 ·obtain ⟨h1, h2, h3⟩ := h
  by_cases hb : askBad m
  ·exact .inl (h1 hb).2.2.1
  ·by_cases hf : findC ps m.y = none
   ·obtain ⟨_, _, _, lp, lc, h4⟩ := h3 hb hf
    refine .inr ⟨_, h4, rfl, rfl, offerL xs m, rfl, fun x hx => ?_⟩
    obtain ⟨h5, h6, h7⟩ := keepF_ok (offer_keep hx)
    exact ⟨(offer_sub xs m).subset hx, h5, h7⟩
   ·exact .inl (h2 hb hf).2.2.1
 ·split at h
  ·obtain ⟨_, h1, h2, h3⟩ := h
   by_cases h0 : (openP ps m.y).2 = 0
   ·by_cases hs : (openP ps m.y).1.st = 1
    ·exact .inr ⟨_, (h3 h0 hs).2.1, rfl, rfl, [], rfl, fun _ hx => by cases hx⟩
    ·exact .inl (h2 h0 hs).2.1
   ·exact .inl (h1 h0).2.1
  ·split at h
   ·exact .inl h.1
   ·exact .inr ⟨_, h.2.2.1, rfl, rfl, [], rfl, fun _ hx => by cases hx⟩
theorem vote_says {me N fro e : Int} {ps ps2 : List PtX} {xs xs2 : List Itm} {m : Msg} {out : List SdX} (h : VoteG me N ps xs m fro ps2 xs2 out e) : SayOne N xs m out := by
 obtain ⟨h1, h2, h3⟩ := h
 by_cases hb : kindBad m fro
 ·exact .inl (h1 hb).2.2.1
 ·by_cases hf : fro = -1 ∨ fro = N
  ·obtain ⟨ps3, xs3, out3, e3, h4, h5, h6⟩ := h3 hb hf
   by_cases h0 : e3 = 0
   ·rw [(h6 h0).2.2.1]; exact act_says h4
   ·exact .inl (h5 h0).2.2.1
  ·exact .inl (h2 hb (fun h => hf (.inl h)) (fun h => hf (.inr h))).2.2.1
end Go.Proofs.Ytmhocihajobkkaa
namespace Go.Proofs.Ytmhocihajobkkaa
open Go.RowKit
theorem PtsR.chg {Q : Nat → Prop} {w w' : World} {v : Value} {xs : List PtX} {g : Nat} (h : PtsR Q w v xs) (hc : Chg g w w') (hg : ¬ Q g) : PtsR Q w' v xs := h.keepP (KeepP.of_chg hc hg)
theorem PtsR.lt {Q : Nat → Prop} {w : World} {v : Value} {xs : List PtX} (h : PtsR Q w v xs) : PtsR (fun b => b < w.heap.size ∧ Q b) w v xs :=
 ⟨h.row, RwN.lt ⟨h.row, h.at_⟩, fun x hx => ⟨(h.ls x hx).1, RwN.lt ⟨(h.ls x hx).1, (h.ls x hx).2⟩⟩, h.srt⟩
theorem PtsR.nil_ (Q : Nat → Prop) (w : World) : PtsR Q w (.slice none 0 0) [] := ⟨TRow.nil_ _ _, At.nil_ _ _, (fun _ h => by cases h), List.Pairwise.nil⟩
/-- The cycles and the items, in blocks of Q. -/
structure Vt (Q : Nat → Prop) (w : World) (mb : Int) (p : Option Addr) (n c : Nat) (pi : Option Addr) (ni ci : Nat) (ps : List PtX) (xs : List Itm) : Prop where
 pts : PtsR Q w (.slice p n c) ps
 its : RwN encI Q w (.slice pi ni ci) xs
 good : GoodB mb xs
 np : n = ps.length
 nx : ni = xs.length
 ql : ∀ z ∈ ps, z.ls.length ≤ 2000
theorem Vt.kept {Q : Nat → Prop} {w w' : World} {mb : Int} {p : Option Addr} {n c : Nat} {pi : Option Addr} {ni ci : Nat} {ps : List PtX} {xs : List Itm} (h : Vt Q w mb p n c pi ni ci ps xs) (hb : Below w.heap.size w w') : Vt Q w' mb p n c pi ni ci ps xs :=
 ⟨h.pts.kept hb, h.its.kept hb, h.good, h.np, h.nx, h.ql⟩
theorem Vt.chg {Q : Nat → Prop} {w w' : World} {mb : Int} {p : Option Addr} {n c : Nat} {pi : Option Addr} {ni ci : Nat} {ps : List PtX} {xs : List Itm} {g : Nat} (h : Vt Q w mb p n c pi ni ci ps xs) (hc : Chg g w w') (hg : ¬ Q g) : Vt Q w' mb p n c pi ni ci ps xs :=
 ⟨h.pts.chg hc hg, h.its.chg hc hg, h.good, h.np, h.nx, h.ql⟩
/-- What is said, and where its lines lie. -/
def Sdo (Q : Nat → Prop) (base : Nat) (w : World) (v : Value) (out : List SdX) : Prop := OwnT encS w base 48 v out ∧ RwN encS Q w v out ∧ SaidR w Q out
theorem Sdo.kept {Q : Nat → Prop} {base : Nat} {w w' : World} {v : Value} {out : List SdX} (h : Sdo Q base w v out) (hb : Below w.heap.size w w') : Sdo Q base w' v out :=
 ⟨h.1.later hb, h.2.1.kept hb, fun z hz => ⟨(h.2.2 z hz).1.kept hb, (h.2.2 z hz).2⟩⟩
theorem Sdo.chg {Q : Nat → Prop} {base g : Nat} {w w' : World} {v : Value} {out : List SdX} (h : Sdo Q base w v out) (hc : Chg g w w') (hg : ¬ Q g) (hb : g < base := by omega) : Sdo Q base w' v out :=
 ⟨h.1.stay (fun b hb2 => hc.2 b (h.1.lt b hb2) (by have := h.1.block_ge b hb2; omega)), h.2.1.chg hc hg, fun z hz => ⟨(h.2.2 z hz).1.keepP (h.2.2 z hz).2 (KeepP.of_chg hc hg), (h.2.2 z hz).2⟩⟩
/-- What is said, as it is read only. -/
def SdQ (Q : Nat → Prop) (w : World) (v : Value) (out : List SdX) : Prop := RwN encS Q w v out ∧ SaidR w Q out
theorem SdQ.kept {Q : Nat → Prop} {w w' : World} {v : Value} {out : List SdX} (h : SdQ Q w v out) (hb : Below w.heap.size w w') : SdQ Q w' v out :=
 ⟨h.1.kept hb, fun z hz => ⟨(h.2 z hz).1.kept hb, (h.2 z hz).2⟩⟩
theorem SdQ.chg {Q : Nat → Prop} {g : Nat} {w w' : World} {v : Value} {out : List SdX} (h : SdQ Q w v out) (hc : Chg g w w') (hg : ¬ Q g) : SdQ Q w' v out :=
 ⟨h.1.chg hc hg, fun z hz => ⟨(h.2 z hz).1.keepP (h.2 z hz).2 (KeepP.of_chg hc hg), (h.2 z hz).2⟩⟩
/-- The cells of what is said first, and its lines. -/
def SdC (Q : Nat → Prop) (b o : Nat) (z : SdX) (w : World) : Prop := (Q b ∧ b < w.heap.size ∧ ∀ q, q < 12 → w.cell? ⟨b, o + q, none⟩ = (SdX.cells z)[q]?) ∧ RwN encN Q w (.slice z.x.pl z.x.m.ls.length z.x.cl) z.x.m.ls
theorem SdC.kept {Q : Nat → Prop} {b o : Nat} {z : SdX} {w w' : World} (h : SdC Q b o z w) (hb : Below w.heap.size w w') : SdC Q b o z w' :=
 ⟨⟨h.1.1, Nat.lt_of_lt_of_le h.1.2.1 hb.size, fun q hq => (hb.cell (p := ⟨b, _, none⟩) h.1.2.1).trans (h.1.2.2 q hq)⟩, h.2.kept hb⟩
theorem SdC.chg {Q : Nat → Prop} {b o g : Nat} {z : SdX} {w w' : World} (h : SdC Q b o z w) (hc : Chg g w w') (hg : ¬ Q g) : SdC Q b o z w' :=
 ⟨⟨h.1.1, Nat.lt_of_lt_of_le h.1.2.1 hc.size, fun q hq => (hc.cell (a := ⟨b, _, none⟩) h.1.2.1 (fun e => hg (e ▸ h.1.1))).trans (h.1.2.2 q hq)⟩, h.2.chg hc hg⟩
theorem SdC.cell {Q : Nat → Prop} {b o : Nat} {z : SdX} {w : World} (h : SdC Q b o z w) (q : Nat) (hq : q < 12) : w.cell? ⟨b, o + q, none⟩ = (SdX.cells z)[q]? := h.1.2.2 q hq
theorem sd_one {Q : Nat → Prop} {w : World} {p : Option Addr} {n c : Nat} {z : SdX} (h : SdQ Q w (.slice p n c) [z]) : ∃ b o, p = some ⟨b, o, none⟩ ∧ SdC Q b o z w := by
 obtain ⟨b, o, e1, hb, hc⟩ := h.1.1.at_ 0 (by simp)
 subst e1
 refine ⟨b, o, rfl, ⟨h.1.2 b o n c rfl (by simp), hb, fun q hq => ?_⟩, (h.2 z (by simp)).1, (h.2 z (by simp)).2⟩
 have := hc q hq
 simp only [Nat.zero_mul, Nat.add_zero, List.getElem_cons_zero] at this
 exact this
theorem vdo_q (w : World) (Q : Nat → Prop) (me N mb : Int) (p : Option Addr) (n c : Nat) (pi : Option Addr) (ni ci : Nat) (po : Option Addr) (no co : Nat) (ps : List PtX) (xs : List Itm) (y : MsgX) (fro : Int)
  (h : Vt Q w mb p n c pi ni ci ps xs) (hq : ∀ b, w.heap.size ≤ b → Q b) (hps : ps.length ≤ 1000) (hxs : xs.length ≤ 500) (hin : y.In w) (hls : y.m.ls.length ≤ 2000) (hns : y.m.ns.length ≤ 100000) :
  Calls Try.prog 9 #[.agg #[.int .i64 me, .int .i64 N, .slice p n c], .agg #[.int .i64 mb, .slice pi ni ci, .slice po no co], y.m.v (.slice y.pl y.m.ls.length y.cl) (.slice y.pn y.m.ns.length y.cn), .int .i64 fro] w fun a w' =>
   Below w.heap.size w w' ∧ ∃ p2 n2 c2 pi2 ni2 ci2 pv nv cv ps2 xs2 out e, a = .returned (.tuple #[.agg #[.int .i64 me, .int .i64 N, .slice p2 n2 c2], .agg #[.int .i64 mb, .slice pi2 ni2 ci2, .slice po no co], .slice pv nv cv, .int .i64 e]) ∧ Vt Q w' mb p2 n2 c2 pi2 ni2 ci2 ps2 xs2 ∧ nv = out.length ∧ SdQ Q w' (.slice pv nv cv) out ∧ VoteG me N ps xs y.m fro ps2 xs2 out e := by
 have hv : VIn w (fun b => b < w.heap.size ∧ Q b) p n c pi ni ci ps xs := ⟨h.pts.lt, h.its.1, h.its.lt, fun _ hb => hb.1, h.good.1, ⟨h.np, hps⟩, ⟨h.nx, hxs⟩⟩
 refine (vdo_any w _ me N mb p n c pi ni ci po no co ps xs y hv fro hin hls hns h.good.2 h.ql).mono ?_
 rintro a w' ⟨hb, p2, n2, c2, pi2, ni2, ci2, vs, ps2, xs2, out, e, rfl, hp, hr, ha, ho, hs, hG⟩
 have hQ : ∀ b, (b < w.heap.size ∧ Q b) ∨ w.heap.size ≤ b → Q b := fun b h => h.elim And.right (hq b)
 obtain ⟨pv, cv, rfl⟩ := ho.form
 obtain ⟨h1, h2, h3⟩ := vote_items h.good hG
 obtain ⟨_, _, e1⟩ := hp.row.shape
 obtain ⟨_, _, e2⟩ := hr.shape
 exact ⟨hb, p2, n2, c2, pi2, ni2, ci2, pv, _, cv, ps2, xs2, out, e, rfl, ⟨hp.imp hQ, ⟨hr, ha.imp hQ⟩, h1, (Value.slice.inj e1).2.1, (Value.slice.inj e2).2.1, (vote_puts h.ql hls hG).ls h.ql⟩, rfl, ⟨ho.rwN hq, fun z hz => ⟨(hs z hz).1, (hs z hz).2.imp hQ⟩⟩, hG⟩
end Go.Proofs.Ytmhocihajobkkaa
namespace Go.Proofs.Ytmhocihajobkkaa
open Go.RowKit
theorem TRow.lit {α : Type} (e : Enc α) {w : World} {b : Nat} {cs : Array Value} {ty : TypeId} (xs : List α) (n c : Nat) (hB : Blk w b cs ty) (hcs : cs.toList = xs.flatMap e.E) (hn : n = xs.length) (hc : n ≤ c) : TRow e w (.slice (some ⟨b, 0, none⟩) n c) xs := by
 subst hn
 refine ⟨_, c, rfl, hc, .inr ⟨b, 0, rfl, hB.lt, fun i hi t ht => ?_⟩⟩
 rw [Nat.zero_add, hB.cell, ← Array.getElem?_toList, hcs, flat_get e xs i t hi ht]
end Go.Proofs.Ytmhocihajobkkaa
namespace Go.Proofs.Ytmhocihajobkkaa
open Go.RowKit
set_option linter.unusedSimpArgs false
theorem sayX_in (w : World) (k cy : Int) (t : Bool) (hk : 0 ≤ k ∧ k ≤ 100) (hc : 0 ≤ cy ∧ cy ≤ 1000) : (sayX k cy t).In w := by
 refine ⟨TRow.nil_ _ _, Row.nil_ _ _ _, ?_, (fun _ h => by cases h), (fun _ h => by cases h)⟩
 unfold I64 sayX
 dsimp only
 omega
def v1 : List Itm := [⟨0, 1, 1, 0, 70, 0, 3, 0⟩]
def v2 : List Itm := [⟨0, 1, 1, 0, 70, 0, 3, 1⟩]
def v3 : List Itm := [⟨0, 1, 1, 0, 70, 0, 5, 1⟩]
def vl : Lin := ⟨0, 1, 1, 70⟩
def mAsk : Msg := ⟨10, 0, 0, 0, 0, 0, 1, 0, false, [], []⟩
def mPre : Msg := ⟨12, 0, 0, 0, 0, 0, 1, 0, false, [vl], [70, -70]⟩
def mDec : Msg := ⟨14, 0, 0, 0, 0, 0, 1, 0, true, [], []⟩
theorem row_two {w : World} {g : Nat} {a b : Int} {T : TypeId} (h : Blk w g #[.int .i64 a, .int .i64 b] T) : Row .i64 w (.slice (some ⟨g, 0, none⟩) 2 2) [a, b] := by
 refine ⟨some ⟨g, 0, none⟩, 2, rfl, Nat.le_refl _, .inr ⟨g, 0, rfl, fun i hi => ?_⟩⟩
 match i, hi with
 | 0, _ => exact h.cell 0
 | 1, _ => exact h.cell 1
 | i + 2, hi => exact absurd hi (by simp)
theorem mPre_fit : mPre.Fit := by unfold Msg.Fit mPre I64 Lin.Fit vl I64; decide
theorem votes1 {ps2 : List PtX} {xs2 : List Itm} {out : List SdX} {e : Int} (h : VoteG 0 2 [] v1 mAsk 2 ps2 xs2 out e) : e = 0 ∧ ps2 = [⟨1, 0, 1, none, 0, []⟩] ∧ xs2 = v2 ∧ ∃ lp lc, out = [⟨2, ⟨⟨11, 0, 0, 0, 0, 0, 1, 0, false, [vl], []⟩, lp, lc, none, 0⟩⟩] := by
 obtain ⟨_, _, h3⟩ := h
 have hk : ¬ kindBad mAsk 2 := by unfold kindBad mAsk; simp
 obtain ⟨ps3, xs3, out3, e3, hg, h4, h5⟩ := h3 hk (.inr rfl)
 unfold actG at hg
 rw [if_pos (show mAsk.k = 10 from rfl)] at hg
 obtain ⟨_, _, h6⟩ := hg
 obtain ⟨h7, h8, h9, lp, lc, h10⟩ := h6 (by unfold askBad mAsk; decide) rfl
 obtain ⟨rfl, rfl, rfl, rfl⟩ := h5 h7
 refine ⟨rfl, h8.trans rfl, h9.trans (by decide +kernel), lp, lc, h10.trans ?_⟩
 rw [show (offerL v1 mAsk).map lineOf = [vl] by decide +kernel]
 rfl
theorem votes2 {ps2 : List PtX} {xs2 : List Itm} {out : List SdX} {e : Int} (h : VoteG 0 2 [⟨1, 0, 1, none, 0, []⟩] v2 mPre 2 ps2 xs2 out e) : e = 0 ∧ xs2 = v2 ∧ out = [⟨2, sayX 13 1 true⟩] ∧ ∃ lp lc, ps2 = [⟨1, 0, 2, lp, lc, [vl]⟩] := by
 obtain ⟨_, _, h3⟩ := h
 have hk : ¬ kindBad mPre 2 := by unfold kindBad mPre; simp
 obtain ⟨ps3, xs3, out3, e3, hg, h4, h5⟩ := h3 hk (.inr rfl)
 unfold actG at hg
 rw [if_neg (show mPre.k ≠ 10 by decide), if_pos (show mPre.k = 12 from rfl)] at hg
 obtain ⟨h6, _, _, h7⟩ := hg
 have hb : prepB 0 2 v2 mPre = true := by decide +kernel
 obtain ⟨h8, h9, _, h10⟩ := h7 rfl rfl
 obtain ⟨rfl, rfl, rfl, rfl⟩ := h5 h8
 obtain ⟨lp, lc, h11⟩ := h10 hb
 rw [hb] at h9
 exact ⟨rfl, h6, h9, lp, lc, h11⟩
theorem votes3 {ps2 : List PtX} {xs2 : List Itm} {out : List SdX} {e : Int} {lp : Option Addr} {lc : Nat} (h : VoteG 0 2 [⟨1, 0, 2, lp, lc, [vl]⟩] v2 mDec 2 ps2 xs2 out e) : e = 0 ∧ xs2 = v3 ∧ ps2 = [⟨1, 0, 4, lp, lc, [vl]⟩] := by
 obtain ⟨_, _, h3⟩ := h
 have hk : ¬ kindBad mDec 2 := by unfold kindBad mDec; simp
 obtain ⟨ps3, xs3, out3, e3, hg, h4, h5⟩ := h3 hk (.inr rfl)
 unfold actG at hg
 rw [if_neg (show mDec.k ≠ 10 by decide), if_neg (show mDec.k ≠ 12 by decide), if_pos (show mDec.k = 14 from rfl)] at hg
 obtain ⟨_, _, _, h6⟩ := hg
 obtain ⟨h7, h8, h9⟩ := h6 rfl (fun _ => rfl)
 obtain ⟨rfl, rfl, rfl, rfl⟩ := h5 h7
 refine ⟨rfl, h9.trans ?_, h8⟩
 show eachX (decF true [vl]) v2 (v2.filter (keepL 1)) = v3
 decide +kernel
end Go.Proofs.Ytmhocihajobkkaa
