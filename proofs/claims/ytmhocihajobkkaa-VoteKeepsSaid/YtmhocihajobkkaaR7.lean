/- vote's decide by contract. -/
import Derived.Test.YtmhocihajobkkaaR5
import Derived.Test.YtmhocihajobkkaaR3
import Derived.Test.YtmhocihajobkkaaR1
namespace Go.Proofs.Ytmhocihajobkkaa
open Go.RowKit
set_option linter.unusedSimpArgs false
/-- What decide answers. -/
def DecG (ps : List PtX) (xs : List Itm) (m : Msg) (ps2 : List PtX) (xs2 : List Itm) (out : List SdX) (e : Int) : Prop :=
 out = [] ∧ ((openP ps m.y).2 ≠ 0 → ps2 = ps ∧ xs2 = xs ∧ e = (openP ps m.y).2) ∧ ((openP ps m.y).2 = 0 → m.t = true → (openP ps m.y).1.st ≠ 2 → ps2 = ps ∧ xs2 = xs ∧ e = 90) ∧
 ((openP ps m.y).2 = 0 → (m.t = true → (openP ps m.y).1.st = 2) → e = 0 ∧ ps2 = insC ps ⟨(openP ps m.y).1.cy, (openP ps m.y).1.cu, if m.t = true then 4 else 5, (openP ps m.y).1.p, (openP ps m.y).1.c, (openP ps m.y).1.ls⟩ ∧ xs2 = eachX (decF m.t (openP ps m.y).1.ls) xs (xs.filter (keepL m.y)))
theorem keepL_ok {cy : Int} {x : Itm} (h : keepL cy x = true) : x.t = 3 ∧ x.y = cy ∧ x.y ≠ 0 := by
 unfold keepL outL at h
 simp only [Bool.not_eq_true', Bool.or_eq_false_iff, bne_eq_false_iff_eq, beq_eq_false_iff_ne] at h
 exact ⟨h.1, h.2.2, h.2.1⟩
theorem decF_ok {t : Bool} {ls : List Lin} {x : Itm} {mb : Int} (h3 : x.t = 3) (h0 : x.y ≠ 0) (hc : chkI x = 0) (hp : x.s = mb ∨ x.b = mb) : (decF t ls x).2 = 0 ∧ chkI (decF t ls x).1 = 0 ∧ ((decF t ls x).1.s = mb ∨ (decF t ls x).1.b = mb) := by
 unfold decF
 split
 ·have h1 := act_ok 7 0 hc
  have e : actI x 7 0 = settleI x := rfl
  rw [e] at h1
  unfold settleI at h1 ⊢
  rw [if_pos ⟨h3, h0⟩] at h1 ⊢
  exact ⟨rfl, h1, hp⟩
 ·have h1 := act_ok 6 0 hc
  have e : actI x 6 0 = freeI x := rfl
  rw [e] at h1
  unfold freeI at h1 ⊢
  rw [if_pos ⟨h3, h0⟩] at h1 ⊢
  exact ⟨rfl, h1, hp⟩
set_option linter.unusedSimpArgs false in
set_option maxHeartbeats 4000000 in
set_option maxRecDepth 100000 in
theorem vdecide_any (w : World) (P : Nat → Prop) (me N mb : Int) (p : Option Addr) (n c : Nat) (pi : Option Addr) (ni ci : Nat) (po : Option Addr) (no co : Nat) (ps : List PtX) (xs : List Itm) (y : MsgX) (hv : VIn w P p n c pi ni ci ps xs) (hgood : ∀ x ∈ xs, chkI x = 0 ∧ (x.s = mb ∨ x.b = mb)) (hql : ∀ z ∈ ps, z.ls.length ≤ 2000) :
  Calls Try.prog 32 #[.agg #[.int .i64 me, .int .i64 N, .slice p n c], bookV mb (.slice pi ni ci) (.slice po no co), y.m.v (.slice y.pl y.m.ls.length y.cl) (.slice y.pn y.m.ns.length y.cn)] w (VPost w P me N mb po no co (DecG ps xs y.m)) := by
 have HV := Lib.hid hv
 have HGD := Lib.hid hgood
 have HQL := Lib.hid hql
 have hmf : ∀ (fn : Fn) (first cap : Array Value) (w : World), (Instr.makeFunc fn first cap).run Try.prog w = .ok (.func fn first cap) w := fun _ _ _ _ => rfl
 clear hv hgood hql
 unfold bookV Msg.v
 have HB0 : Hid (Below w.heap.size w (((((w.alloc (.cells #[.int .i64 me, .int .i64 N, .slice p n c] 36)).alloc (.cells #[.int .i64 mb, .slice pi ni ci, .slice po no co] 28)).alloc (.cells #[.int .i64 y.m.k, .int .i64 y.m.s, .int .i64 y.m.n, .int .i64 y.m.b, .int .i64 y.m.c, .int .i64 y.m.r, .int .i64 y.m.y, .int .i64 y.m.a, .bool y.m.t, .slice y.pl y.m.ls.length y.cl, .slice y.pn y.m.ns.length y.cn] 46)).alloc (.cells #[.int .i64 0, .int .i64 0, .slice none 0 0] 36)).alloc (.cells #[.int .i64 0, .slice none 0 0, .slice none 0 0] 28))) := Lib.hid ((((((oneB w _).alloc (by simp <;> omega) _).alloc (by simp <;> omega) _).alloc (by simp <;> omega) _).alloc (by simp <;> omega) _))
 have Hp0 : Hid (Blk (((((w.alloc (.cells #[.int .i64 me, .int .i64 N, .slice p n c] 36)).alloc (.cells #[.int .i64 mb, .slice pi ni ci, .slice po no co] 28)).alloc (.cells #[.int .i64 y.m.k, .int .i64 y.m.s, .int .i64 y.m.n, .int .i64 y.m.b, .int .i64 y.m.c, .int .i64 y.m.r, .int .i64 y.m.y, .int .i64 y.m.a, .bool y.m.t, .slice y.pl y.m.ls.length y.cl, .slice y.pn y.m.ns.length y.cn] 46)).alloc (.cells #[.int .i64 0, .int .i64 0, .slice none 0 0] 36)).alloc (.cells #[.int .i64 0, .slice none 0 0, .slice none 0 0] 28)) w.heap.size #[.int .i64 me, .int .i64 N, .slice p n c] 36) := Lib.hid (((((Blk.new w #[.int .i64 me, .int .i64 N, .slice p n c] 36).alloc _).alloc _).alloc _).alloc _)
 have Hb0 : Hid (Blk (((((w.alloc (.cells #[.int .i64 me, .int .i64 N, .slice p n c] 36)).alloc (.cells #[.int .i64 mb, .slice pi ni ci, .slice po no co] 28)).alloc (.cells #[.int .i64 y.m.k, .int .i64 y.m.s, .int .i64 y.m.n, .int .i64 y.m.b, .int .i64 y.m.c, .int .i64 y.m.r, .int .i64 y.m.y, .int .i64 y.m.a, .bool y.m.t, .slice y.pl y.m.ls.length y.cl, .slice y.pn y.m.ns.length y.cn] 46)).alloc (.cells #[.int .i64 0, .int .i64 0, .slice none 0 0] 36)).alloc (.cells #[.int .i64 0, .slice none 0 0, .slice none 0 0] 28)) (w.heap.size + 1) #[.int .i64 mb, .slice pi ni ci, .slice po no co] 28) := Lib.hid ((((Blk.new' (w.alloc (.cells #[.int .i64 me, .int .i64 N, .slice p n c] 36)) #[.int .i64 mb, .slice pi ni ci, .slice po no co] 28 (by simp)).alloc _).alloc _).alloc _)
 have Hm0 : Hid (Blk (((((w.alloc (.cells #[.int .i64 me, .int .i64 N, .slice p n c] 36)).alloc (.cells #[.int .i64 mb, .slice pi ni ci, .slice po no co] 28)).alloc (.cells #[.int .i64 y.m.k, .int .i64 y.m.s, .int .i64 y.m.n, .int .i64 y.m.b, .int .i64 y.m.c, .int .i64 y.m.r, .int .i64 y.m.y, .int .i64 y.m.a, .bool y.m.t, .slice y.pl y.m.ls.length y.cl, .slice y.pn y.m.ns.length y.cn] 46)).alloc (.cells #[.int .i64 0, .int .i64 0, .slice none 0 0] 36)).alloc (.cells #[.int .i64 0, .slice none 0 0, .slice none 0 0] 28)) (w.heap.size + 1 + 1) #[.int .i64 y.m.k, .int .i64 y.m.s, .int .i64 y.m.n, .int .i64 y.m.b, .int .i64 y.m.c, .int .i64 y.m.r, .int .i64 y.m.y, .int .i64 y.m.a, .bool y.m.t, .slice y.pl y.m.ls.length y.cl, .slice y.pn y.m.ns.length y.cn] 46) := Lib.hid (((Blk.new' ((w.alloc (.cells #[.int .i64 me, .int .i64 N, .slice p n c] 36)).alloc (.cells #[.int .i64 mb, .slice pi ni ci, .slice po no co] 28)) #[.int .i64 y.m.k, .int .i64 y.m.s, .int .i64 y.m.n, .int .i64 y.m.b, .int .i64 y.m.c, .int .i64 y.m.r, .int .i64 y.m.y, .int .i64 y.m.a, .bool y.m.t, .slice y.pl y.m.ls.length y.cl, .slice y.pn y.m.ns.length y.cn] 46 (by simp)).alloc _).alloc _)
 have Hrp0 : Hid (Blk (((((w.alloc (.cells #[.int .i64 me, .int .i64 N, .slice p n c] 36)).alloc (.cells #[.int .i64 mb, .slice pi ni ci, .slice po no co] 28)).alloc (.cells #[.int .i64 y.m.k, .int .i64 y.m.s, .int .i64 y.m.n, .int .i64 y.m.b, .int .i64 y.m.c, .int .i64 y.m.r, .int .i64 y.m.y, .int .i64 y.m.a, .bool y.m.t, .slice y.pl y.m.ls.length y.cl, .slice y.pn y.m.ns.length y.cn] 46)).alloc (.cells #[.int .i64 0, .int .i64 0, .slice none 0 0] 36)).alloc (.cells #[.int .i64 0, .slice none 0 0, .slice none 0 0] 28)) (w.heap.size + 1 + 1 + 1) #[.int .i64 0, .int .i64 0, .slice none 0 0] 36) := Lib.hid ((Blk.new' (((w.alloc (.cells #[.int .i64 me, .int .i64 N, .slice p n c] 36)).alloc (.cells #[.int .i64 mb, .slice pi ni ci, .slice po no co] 28)).alloc (.cells #[.int .i64 y.m.k, .int .i64 y.m.s, .int .i64 y.m.n, .int .i64 y.m.b, .int .i64 y.m.c, .int .i64 y.m.r, .int .i64 y.m.y, .int .i64 y.m.a, .bool y.m.t, .slice y.pl y.m.ls.length y.cl, .slice y.pn y.m.ns.length y.cn] 46)) #[.int .i64 0, .int .i64 0, .slice none 0 0] 36 (by simp)).alloc _)
 have Hrb0 : Hid (Blk (((((w.alloc (.cells #[.int .i64 me, .int .i64 N, .slice p n c] 36)).alloc (.cells #[.int .i64 mb, .slice pi ni ci, .slice po no co] 28)).alloc (.cells #[.int .i64 y.m.k, .int .i64 y.m.s, .int .i64 y.m.n, .int .i64 y.m.b, .int .i64 y.m.c, .int .i64 y.m.r, .int .i64 y.m.y, .int .i64 y.m.a, .bool y.m.t, .slice y.pl y.m.ls.length y.cl, .slice y.pn y.m.ns.length y.cn] 46)).alloc (.cells #[.int .i64 0, .int .i64 0, .slice none 0 0] 36)).alloc (.cells #[.int .i64 0, .slice none 0 0, .slice none 0 0] 28)) (w.heap.size + 1 + 1 + 1 + 1) #[.int .i64 0, .slice none 0 0, .slice none 0 0] 28) := Lib.hid (Blk.new' ((((w.alloc (.cells #[.int .i64 me, .int .i64 N, .slice p n c] 36)).alloc (.cells #[.int .i64 mb, .slice pi ni ci, .slice po no co] 28)).alloc (.cells #[.int .i64 y.m.k, .int .i64 y.m.s, .int .i64 y.m.n, .int .i64 y.m.b, .int .i64 y.m.c, .int .i64 y.m.r, .int .i64 y.m.y, .int .i64 y.m.a, .bool y.m.t, .slice y.pl y.m.ls.length y.cl, .slice y.pn y.m.ns.length y.cn] 46)).alloc (.cells #[.int .i64 0, .int .i64 0, .slice none 0 0] 36)) #[.int .i64 0, .slice none 0 0, .slice none 0 0] 28 (by simp))
 have HZ0 : Hid (w.heap.size ≤ (((((w.alloc (.cells #[.int .i64 me, .int .i64 N, .slice p n c] 36)).alloc (.cells #[.int .i64 mb, .slice pi ni ci, .slice po no co] 28)).alloc (.cells #[.int .i64 y.m.k, .int .i64 y.m.s, .int .i64 y.m.n, .int .i64 y.m.b, .int .i64 y.m.c, .int .i64 y.m.r, .int .i64 y.m.y, .int .i64 y.m.a, .bool y.m.t, .slice y.pl y.m.ls.length y.cl, .slice y.pn y.m.ns.length y.cn] 46)).alloc (.cells #[.int .i64 0, .int .i64 0, .slice none 0 0] 36)).alloc (.cells #[.int .i64 0, .slice none 0 0, .slice none 0 0] 28)).heap.size) := Lib.hid HB0.out.size
 go_enter Try.func32, Try.ntmps32
 go_upto_region 1 with fail
 generalize (((((w.alloc (.cells #[.int .i64 me, .int .i64 N, .slice p n c] 36)).alloc (.cells #[.int .i64 mb, .slice pi ni ci, .slice po no co] 28)).alloc (.cells #[.int .i64 y.m.k, .int .i64 y.m.s, .int .i64 y.m.n, .int .i64 y.m.b, .int .i64 y.m.c, .int .i64 y.m.r, .int .i64 y.m.y, .int .i64 y.m.a, .bool y.m.t, .slice y.pl y.m.ls.length y.cl, .slice y.pn y.m.ns.length y.cn] 46)).alloc (.cells #[.int .i64 0, .int .i64 0, .slice none 0 0] 36)).alloc (.cells #[.int .i64 0, .slice none 0 0, .slice none 0 0] 28)) = W at *
 have HG := Lib.hid (open_any W me N p n c ps y.m.y (HV.out.pts.row.kept HB0.out) HV.out.np.1 (by have := HV.out.np; omega) HV.out.pts.srt)
 obtain ⟨⟨q, f⟩, hq⟩ : ∃ r, openP ps y.m.y = r := ⟨_, rfl⟩
 rw [hq] at HG
 have HQ := Lib.hid hq
 clear hq
 unfold PtX.v at HG
 have a0 : W.cell? ⟨w.heap.size, 0, none⟩ = some (.int .i64 me) := Hp0.out.cell 0
 have a1 : W.cell? ⟨w.heap.size, 1, none⟩ = some (.int .i64 N) := Hp0.out.cell 1
 have a2 : W.cell? ⟨w.heap.size, 2, none⟩ = some (.slice p n c) := Hp0.out.cell 2
 have c6 : W.cell? ⟨(w.heap.size + 1 + 1), 6, none⟩ = some (.int .i64 y.m.y) := Hm0.out.cell 6
 go_wp2_with fail
 clear a0 a1 a2 c6
 refine HG.out.mono ?_
 rintro y9 w1 ⟨rfl, hb⟩
 clear HG
 have Hp1 := kbq Hp0 hb
 have Hb1 := kbq Hb0 hb
 have Hm1 := kbq Hm0 hb
 have Hrp1 := kbq Hrp0 hb
 have Hrb1 := kbq Hrb0 hb
 have HB1 := ktq HB0 hb
 have HZ1 := kzq HZ0 hb.size
 clear Hp0 Hb0 Hm0 Hrp0 Hrb0 HB0 HZ0
 clear hb
 have HGQ9 : Hid (w.heap.size + 1 + 1 + 1 + 1 < w1.heap.size) := Lib.hid Hrb1.out.lt
 have Hp2 := Lib.hid (Hp1.out.alloc (.cells #[.int .i64 q.cy, .int .i64 q.cu, .int .i64 q.st, .slice q.p q.ls.length q.c] 58))
 have Hb2 := Lib.hid (Hb1.out.alloc (.cells #[.int .i64 q.cy, .int .i64 q.cu, .int .i64 q.st, .slice q.p q.ls.length q.c] 58))
 have Hm2 := Lib.hid (Hm1.out.alloc (.cells #[.int .i64 q.cy, .int .i64 q.cu, .int .i64 q.st, .slice q.p q.ls.length q.c] 58))
 have Hrp2 := Lib.hid (Hrp1.out.alloc (.cells #[.int .i64 q.cy, .int .i64 q.cu, .int .i64 q.st, .slice q.p q.ls.length q.c] 58))
 have Hrb2 := Lib.hid (Hrb1.out.alloc (.cells #[.int .i64 q.cy, .int .i64 q.cu, .int .i64 q.st, .slice q.p q.ls.length q.c] 58))
 have Hq2 := Lib.hid (Blk.new w1 #[.int .i64 q.cy, .int .i64 q.cu, .int .i64 q.st, .slice q.p q.ls.length q.c] 58)
 have HB2 := Lib.hid (HB1.out.alloc HB1.out.size (.cells #[.int .i64 q.cy, .int .i64 q.cu, .int .i64 q.st, .slice q.p q.ls.length q.c] 58))
 have HZ2 := kzq HZ1 (oneB w1 (.cells #[.int .i64 q.cy, .int .i64 q.cu, .int .i64 q.st, .slice q.p q.ls.length q.c] 58)).size
 clear Hp1 Hb1 Hm1 Hrp1 Hrb1 HB1 HZ1
 go_upto_region 2 with fail
 have HGQ0 : Hid (w.heap.size + 1 + 1 + 1 + 1 < w1.heap.size) := HGQ9
 generalize (w1.alloc (.cells #[.int .i64 q.cy, .int .i64 q.cu, .int .i64 q.st, .slice q.p q.ls.length q.c] 58)) = W1 at *
 generalize hggq : w1.heap.size = gq at *
 have HGQ : Hid (w.heap.size + 1 + 1 + 1 + 1 < gq) := HGQ0
 by_cases hf : f = 0
 ·subst hf
  have m8 : W1.cell? ⟨w.heap.size + 1 + 1, 8, none⟩ = some (.bool y.m.t) := Hm2.out.cell 8
  have x2 : W1.cell? ⟨gq, 2, none⟩ = some (.int .i64 q.st) := Hq2.out.cell 2
  cases htv : y.m.t with
  | true =>
   have HTV : Hid (y.m.t = true) := htv
   rw [htv] at m8
   clear htv
   by_cases h2 : q.st = 2
   ·have h2b : (q.st != 2) = false := by simpa using h2
    have HS2 : Hid (q.st = 2) := h2
    clear h2
    go_upto_region 6 with fail
    clear m8 x2 h2b
    have hbd := (Below.refl W1.heap.size W1).drew
    refine wp_region_held_drew (S := fun w' => w'.cell? ⟨w.heap.size + 1 + 1, 0, none⟩ = some (.int .i64 y.m.k) ∧ w'.cell? ⟨w.heap.size + 1 + 1, 1, none⟩ = some (.int .i64 y.m.s) ∧ w'.cell? ⟨w.heap.size + 1 + 1, 2, none⟩ = some (.int .i64 y.m.n) ∧ w'.cell? ⟨w.heap.size + 1 + 1, 3, none⟩ = some (.int .i64 y.m.b) ∧ w'.cell? ⟨w.heap.size + 1 + 1, 4, none⟩ = some (.int .i64 y.m.c) ∧ w'.cell? ⟨w.heap.size + 1 + 1, 5, none⟩ = some (.int .i64 y.m.r) ∧ w'.cell? ⟨w.heap.size + 1 + 1, 6, none⟩ = some (.int .i64 y.m.y) ∧ w'.cell? ⟨w.heap.size + 1 + 1, 7, none⟩ = some (.int .i64 y.m.a) ∧ w'.cell? ⟨w.heap.size + 1 + 1, 8, none⟩ = some (.bool y.m.t) ∧ w'.cell? ⟨w.heap.size + 1 + 1, 9, none⟩ = some (.slice y.pl y.m.ls.length y.cl) ∧ w'.cell? ⟨w.heap.size + 1 + 1, 10, none⟩ = some (.slice y.pn y.m.ns.length y.cn) ∧ w'.cell? ⟨gq, 0, none⟩ = some (.int .i64 q.cy) ∧ w'.cell? ⟨gq, 1, none⟩ = some (.int .i64 q.cu) ∧ w'.cell? ⟨gq, 2, none⟩ = some (.int .i64 q.st) ∧ w'.cell? ⟨gq, 3, none⟩ = some (.slice q.p q.ls.length q.c)) (by kernel_rfl) ⟨(Hm2.out.below hbd Hm2.out.lt).cell 0, (Hm2.out.below hbd Hm2.out.lt).cell 1, (Hm2.out.below hbd Hm2.out.lt).cell 2, (Hm2.out.below hbd Hm2.out.lt).cell 3, (Hm2.out.below hbd Hm2.out.lt).cell 4, (Hm2.out.below hbd Hm2.out.lt).cell 5, (Hm2.out.below hbd Hm2.out.lt).cell 6, (Hm2.out.below hbd Hm2.out.lt).cell 7, (Hm2.out.below hbd Hm2.out.lt).cell 8, (Hm2.out.below hbd Hm2.out.lt).cell 9, (Hm2.out.below hbd Hm2.out.lt).cell 10, (Hq2.out.below hbd Hq2.out.lt).cell 0, (Hq2.out.below hbd Hq2.out.lt).cell 1, (Hq2.out.below hbd Hq2.out.lt).cell 2, (Hq2.out.below hbd Hq2.out.lt).cell 3⟩ (fun hS0 => ?_)
    generalize W1.drew = WDy at *
    have Hp3 := kbq Hp2 hbd
    have Hb3 := kbq Hb2 hbd
    have Hm3 := kbq Hm2 hbd
    have Hrp3 := kbq Hrp2 hbd
    have Hrb3 := kbq Hrb2 hbd
    have Hq3 := kbq Hq2 hbd
    have HB3 := ktq HB2 hbd
    have HZ3 := kzq HZ2 hbd.size
    clear Hp2 Hb2 Hm2 Hrp2 Hrb2 Hq2 HB2 HZ2
    clear hbd
    refine tkq 2 ?_
    refine tkq 3 ?_
    refine tkq 5 ?_
    refine wpAnyH_ready (rs := [0, 1]) (by kernel_rfl) (by simp) ?_
    refine AllReadyH.cons rfl (fun K hK => ?_) (AllReadyH.cons rfl (fun K hK => ?_) AllReadyH.nil)
    ·skip
     have a0 : WDy.cell? ⟨(w.heap.size + 1), 0, none⟩ = some (.int .i64 mb) := Hb3.out.cell 0
     have a1 : WDy.cell? ⟨(w.heap.size + 1), 1, none⟩ = some (.slice pi ni ci) := Hb3.out.cell 1
     have a2 : WDy.cell? ⟨(w.heap.size + 1), 2, none⟩ = some (.slice po no co) := Hb3.out.cell 2
     go_simp
     clear a0 a1 a2
     refine hK.out _ _ ⟨Hm3.out.cell 0, Hm3.out.cell 1, Hm3.out.cell 2, Hm3.out.cell 3, Hm3.out.cell 4, Hm3.out.cell 5, Hm3.out.cell 6, Hm3.out.cell 7, Hm3.out.cell 8, Hm3.out.cell 9, Hm3.out.cell 10, Hq3.out.cell 0, Hq3.out.cell 1, Hq3.out.cell 2, Hq3.out.cell 3⟩ (fun hS0 => ?_)
     clear hK K
     try simp only [Act.put, List.getElem_toArray, List.getElem_cons_succ, List.getElem_cons_zero, List.setIfInBounds_toArray, List.set_cons_zero, List.set_cons_succ]
     refine rdq 1 (fun K hK => ?_)
     have a0 : WDy.cell? ⟨(w.heap.size + 1), 0, none⟩ = some (.int .i64 mb) := Hb3.out.cell 0
     have a1 : WDy.cell? ⟨(w.heap.size + 1), 1, none⟩ = some (.slice pi ni ci) := Hb3.out.cell 1
     have a2 : WDy.cell? ⟨(w.heap.size + 1), 2, none⟩ = some (.slice po no co) := Hb3.out.cell 2
     go_simp
     clear a0 a1 a2
     refine hK.out _ _ ⟨Hm3.out.cell 0, Hm3.out.cell 1, Hm3.out.cell 2, Hm3.out.cell 3, Hm3.out.cell 4, Hm3.out.cell 5, Hm3.out.cell 6, Hm3.out.cell 7, Hm3.out.cell 8, Hm3.out.cell 9, Hm3.out.cell 10, Hq3.out.cell 0, Hq3.out.cell 1, Hq3.out.cell 2, Hq3.out.cell 3⟩ (fun hS0 => ?_)
     clear hK K
     try simp only [Act.put, List.getElem_toArray, List.getElem_cons_succ, List.getElem_cons_zero, List.setIfInBounds_toArray, List.set_cons_zero, List.set_cons_succ]
     refine rdq 4 (fun K hK => ?_)
     have HG := Lib.hid (blocked_any WDy mb pi po ni ci no co xs y.m.y (HV.out.its.kept HB3.out) (by have := HV.out.nx; omega))
     unfold bookV at HG
     go_simp
     go_at_call 14
     refine HG.out.mono ?_
     rintro y9 wL ⟨vL, rfl, hown, hb⟩
     clear HG
     have HIT := Lib.hid hown
     clear hown
     have Hp4 := kbq Hp3 hb
     have Hb4 := kbq Hb3 hb
     have Hm4 := kbq Hm3 hb
     have Hrp4 := kbq Hrp3 hb
     have Hrb4 := kbq Hrb3 hb
     have Hq4 := kbq Hq3 hb
     have HB4 := ktq HB3 hb
     have HZ4 := kzq HZ3 hb.size
     clear Hp3 Hb3 Hm3 Hrp3 Hrb3 Hq3 HB3 HZ3
     have HIR : Hid (TRow encI wL vL (xs.filter (keepL y.m.y))) := Lib.hid HIT.out.row
     clear hb hS0
     have hst : ∃ pL cL, vL = .slice pL (xs.filter (keepL y.m.y)).length cL := HIT.out.form
     obtain ⟨pL, cL, hvL⟩ := hst
     clear HIT
     obtain ⟨nL, hnL⟩ : ∃ k, (xs.filter (keepL y.m.y)).length = k := ⟨_, rfl⟩
     rw [hnL] at hvL
     have HNL := Lib.hid hnL
     clear hnL
     subst hvL
     try go_wp2_with fail
     refine hK.out _ _ ⟨Hm4.out.cell 0, Hm4.out.cell 1, Hm4.out.cell 2, Hm4.out.cell 3, Hm4.out.cell 4, Hm4.out.cell 5, Hm4.out.cell 6, Hm4.out.cell 7, Hm4.out.cell 8, Hm4.out.cell 9, Hm4.out.cell 10, Hq4.out.cell 0, Hq4.out.cell 1, Hq4.out.cell 2, Hq4.out.cell 3⟩ (fun hS0 => ?_)
     clear hK K
     try simp only [Act.put, List.getElem_toArray, List.getElem_cons_succ, List.getElem_cons_zero, List.setIfInBounds_toArray, List.set_cons_zero, List.set_cons_succ]
     refine rdq 6 (fun K hK => ?_)
     have hsay : ∀ W, Below wL.heap.size wL W → ∀ x : Itm, Calls Try.prog 56 #[x.v, .pointer (some ⟨w.heap.size + 1 + 1, 0, none⟩), .pointer (some ⟨gq, 0, none⟩)] W fun e w' => e = ansI (decF y.m.t q.ls x) ∧ Below W.heap.size W w' := fun W hb x => decc_any W x y.m.t q.ls q.p q.c (w.heap.size + 1 + 1) gq ((Hm4.out.below hb Hm4.out.lt).cell 8) ((Hq4.out.below hb Hq4.out.lt).cell 3) (((HV.out.pts.ls q (openP_mem HQ.out)).1.kept HB4.out).kept hb) (by have := HQL.out q (openP_mem HQ.out); omega)
     have hokx : ∀ x ∈ xs.filter (keepL y.m.y), (decF y.m.t q.ls x).2 = 0 ∧ chkI (decF y.m.t q.ls x).1 = 0 ∧ ((decF y.m.t q.ls x).1.s = mb ∨ (decF y.m.t q.ls x).1.b = mb) := fun x hx => by
      obtain ⟨h1, h2⟩ := List.mem_filter.1 hx
      obtain ⟨h3, _, h5⟩ := keepL_ok h2
      obtain ⟨h6, h7⟩ := HGD.out x h1
      exact decF_ok h3 h5 h6 h7
     have HG := Lib.hid (each_decide wL mb pi po ni ci no co xs (xs.filter (keepL y.m.y)) pL nL cL (decF y.m.t q.ls) P (w.heap.size + 1 + 1) gq (HV.out.its.kept HB4.out) HV.out.nx.1 (by have h := HV.out.ai; rw [← HV.out.nx.1] at h; exact h) (fun b hb => Nat.lt_of_lt_of_le (HV.out.lt b hb) HB4.out.size) HV.out.srt HIR.out HNL.out.symm (by have h1 := HV.out.nx; have h2 := List.length_filter_le (keepL y.m.y) xs; omega) hokx hsay)
     clear hsay hokx
     obtain ⟨xz, hxz⟩ : ∃ l, eachX (decF y.m.t q.ls) xs (xs.filter (keepL y.m.y)) = l := ⟨_, rfl⟩
     rw [hxz] at HG
     have HXZ := Lib.hid hxz
     clear hxz
     unfold bookV at HG
     go_simp
     go_at_call 46
     refine HG.out.mono ?_
     rintro y9 wE ⟨pz, cz, rfl, hrow, hat, hb⟩
     clear HG HIR
     have HRZ := Lib.hid hrow
     have HAZ : Hid (At (fun b => P b ∨ gq < b) (.slice pz xz.length cz) xz.length) := Lib.hid (hat.imp (fun b h => h.imp id (fun h => by have := Hq4.out.lt; omega)))
     have HLZ : Hid (∀ b, P b → b < w.heap.size) := Lib.hid HV.out.lt
     clear hrow hat
     have Hp5 := kbq Hp4 hb
     have Hb5 := kbq Hb4 hb
     have Hm5 := kbq Hm4 hb
     have Hrp5 := kbq Hrp4 hb
     have Hrb5 := kbq Hrb4 hb
     have Hq5 := kbq Hq4 hb
     have HB5 := ktq HB4 hb
     have HZ5 := kzq HZ4 hb.size
     clear Hp4 Hb4 Hm4 Hrp4 Hrb4 Hq4 HB4 HZ4
     clear hb hS0
     try go_wp2_with fail
     refine hK.out _ _ ⟨Hm5.out.cell 0, Hm5.out.cell 1, Hm5.out.cell 2, Hm5.out.cell 3, Hm5.out.cell 4, Hm5.out.cell 5, Hm5.out.cell 6, Hm5.out.cell 7, Hm5.out.cell 8, Hm5.out.cell 9, Hm5.out.cell 10, Hq5.out.cell 0, Hq5.out.cell 1, Hq5.out.cell 2, Hq5.out.cell 3⟩ (fun hS0 => ?_)
     clear hK K
     try simp only [Act.put, List.getElem_toArray, List.getElem_cons_succ, List.getElem_cons_zero, List.setIfInBounds_toArray, List.set_cons_zero, List.set_cons_succ]
     refine tkq 7 ?_
     refine tkq 8 ?_
     refine tkq 9 ?_
     refine rdq 10 (fun K hK => ?_)
     have z0 : wE.cell? ⟨(w.heap.size + 1), 0, none⟩ = some (.int .i64 mb) := Hb5.out.cell 0
     have z1 : wE.cell? ⟨(w.heap.size + 1), 1, none⟩ = some (.slice pi ni ci) := Hb5.out.cell 1
     have z2 : wE.cell? ⟨(w.heap.size + 1), 2, none⟩ = some (.slice po no co) := Hb5.out.cell 2
     have f0 := Hb5.out.free 0
     have f1 := Hb5.out.free 1
     have f2 := Hb5.out.free 2
     go_simp
     clear z0 z1 z2 f0 f1 f2
     have hch := Lib.hid ((((Chg.refl (w.heap.size + 1) wE).set 0 (.int .i64 mb)).set 1 (.slice pz xz.length cz)).set 2 (.slice po no co))
     have Hb6 : Hid (Blk _ (w.heap.size + 1) #[.int .i64 mb, .slice pz xz.length cz, .slice po no co] 28) := Lib.hid (((Hb5.out.set 0 (.int .i64 mb)).set 1 (.slice pz xz.length cz)).set 2 (.slice po no co))
     have HB6 := ksq HB5 hch (by show w.heap.size ≤ (w.heap.size + 1); omega)
     have HZ6 := kzq HZ5 hch.out.size
     have Hp6 := kcq Hp5 hch (by have := HGQ.out; omega)
     have Hm6 := kcq Hm5 hch (by have := HGQ.out; omega)
     have Hrp6 := kcq Hrp5 hch (by have := HGQ.out; omega)
     have Hrb6 := kcq Hrb5 hch (by have := HGQ.out; omega)
     have Hq6 := kcq Hq5 hch (by have := HGQ.out; omega)
     have HRZ := Lib.hid (HRZ.out.keepP HAZ.out (KeepP.of_chg hch.out (by have := HGQ.out; have h9 := HLZ.out; rintro (h | h); (have h8 := h9 _ h; omega); have h8 := HGQ.out; omega)))
     clear hch hS0 Hp5 Hb5 Hm5 Hrp5 Hrb5 Hq5 HB5 HZ5
     generalize (((wE.setCell ⟨w.heap.size + 1, 0, none⟩ (.int .i64 mb)).setCell ⟨w.heap.size + 1, 1, none⟩ (.slice pz xz.length cz)).setCell ⟨w.heap.size + 1, 2, none⟩ (.slice po no co)) = WBya at *
     refine hK.out _ _ ⟨Hm6.out.cell 0, Hm6.out.cell 1, Hm6.out.cell 2, Hm6.out.cell 3, Hm6.out.cell 4, Hm6.out.cell 5, Hm6.out.cell 6, Hm6.out.cell 7, Hm6.out.cell 8, Hm6.out.cell 9, Hm6.out.cell 10, Hq6.out.cell 0, Hq6.out.cell 1, Hq6.out.cell 2, Hq6.out.cell 3⟩ (fun hS0 => ?_)
     clear hK K
     try simp only [Act.put, List.getElem_toArray, List.getElem_cons_succ, List.getElem_cons_zero, List.setIfInBounds_toArray, List.set_cons_zero, List.set_cons_succ]
     refine tkq 11 ?_
     refine wpAnyH_done (by kernel_rfl) ?_ _
     clear hS0
     go_upto_region 7 with fail
     have z2 : WBya.cell? ⟨gq, 2, none⟩ = some (.int .i64 q.st) := Hq6.out.cell 2
     have f2 := Hq6.out.free 2
     go_upto_region 8 with fail
     clear z2 f2
     have hch := Lib.hid ((Chg.refl gq WBya).set 2 (.int .i64 5))
     have Hq7 : Hid (Blk _ gq #[.int .i64 q.cy, .int .i64 q.cu, .int .i64 5, .slice q.p q.ls.length q.c] 58) := Lib.hid (Hq6.out.set 2 (.int .i64 5))
     have HB7 := ksq HB6 hch (by show w.heap.size ≤ gq; have := HGQ.out; omega)
     have HZ7 := kzq HZ6 hch.out.size
     have Hp7 := kcq Hp6 hch (by have := HGQ.out; omega)
     have Hb7 := kcq Hb6 hch (by have := HGQ.out; omega)
     have Hm7 := kcq Hm6 hch (by have := HGQ.out; omega)
     have Hrp7 := kcq Hrp6 hch (by have := HGQ.out; omega)
     have Hrb7 := kcq Hrb6 hch (by have := HGQ.out; omega)
     have HRZ := Lib.hid (HRZ.out.keepP HAZ.out (KeepP.of_chg hch.out (by have := HGQ.out; have h9 := HLZ.out; rintro (h | h); (have h8 := h9 _ h; omega); omega)))
     clear hch Hp6 Hb6 Hm6 Hrp6 Hrb6 Hq6 HB6 HZ6
     generalize (WBya.setCell ⟨gq, 2, none⟩ (.int .i64 5)) = W7ya at *
     have c8 : W7ya.cell? ⟨(w.heap.size + 1 + 1), 8, none⟩ = some (.bool true) := by have h := Hm7.out.cell 8; rw [← HTV.out]; exact h
     go_upto_region 9 with fail
     clear c8
     have z2 : W7ya.cell? ⟨gq, 2, none⟩ = some (.int .i64 5) := Hq7.out.cell 2
     have f2 := Hq7.out.free 2
     go_upto_region 10 with fail
     clear z2 f2
     have hch := Lib.hid ((Chg.refl gq W7ya).set 2 (.int .i64 4))
     have Hq8 : Hid (Blk _ gq #[.int .i64 q.cy, .int .i64 q.cu, .int .i64 4, .slice q.p q.ls.length q.c] 58) := Lib.hid (Hq7.out.set 2 (.int .i64 4))
     have HB8 := ksq HB7 hch (by show w.heap.size ≤ gq; have := HGQ.out; omega)
     have HZ8 := kzq HZ7 hch.out.size
     have Hp8 := kcq Hp7 hch (by have := HGQ.out; omega)
     have Hb8 := kcq Hb7 hch (by have := HGQ.out; omega)
     have Hm8 := kcq Hm7 hch (by have := HGQ.out; omega)
     have Hrp8 := kcq Hrp7 hch (by have := HGQ.out; omega)
     have Hrb8 := kcq Hrb7 hch (by have := HGQ.out; omega)
     have HRZ := Lib.hid (HRZ.out.keepP HAZ.out (KeepP.of_chg hch.out (by have := HGQ.out; have h9 := HLZ.out; rintro (h | h); (have h8 := h9 _ h; omega); omega)))
     clear hch Hp7 Hb7 Hm7 Hrp7 Hrb7 Hq7 HB7 HZ7
     generalize (W7ya.setCell ⟨gq, 2, none⟩ (.int .i64 4)) = W9ya at *
     have hbd := (Below.refl W9ya.heap.size W9ya).drew
     refine wp_region_held_drew (S := fun w' => w'.cell? ⟨w.heap.size, 0, none⟩ = some (.int .i64 me) ∧ w'.cell? ⟨w.heap.size, 1, none⟩ = some (.int .i64 N) ∧ w'.cell? ⟨w.heap.size, 2, none⟩ = some (.slice p n c) ∧ w'.cell? ⟨w.heap.size + 1, 0, none⟩ = some (.int .i64 mb) ∧ w'.cell? ⟨w.heap.size + 1, 1, none⟩ = some (.slice pz xz.length cz) ∧ w'.cell? ⟨w.heap.size + 1, 2, none⟩ = some (.slice po no co) ∧ w'.cell? ⟨gq, 0, none⟩ = some (.int .i64 q.cy) ∧ w'.cell? ⟨gq, 1, none⟩ = some (.int .i64 q.cu) ∧ w'.cell? ⟨gq, 2, none⟩ = some (.int .i64 4) ∧ w'.cell? ⟨gq, 3, none⟩ = some (.slice q.p q.ls.length q.c)) (by kernel_rfl) ⟨(Hp8.out.below hbd Hp8.out.lt).cell 0, (Hp8.out.below hbd Hp8.out.lt).cell 1, (Hp8.out.below hbd Hp8.out.lt).cell 2, (Hb8.out.below hbd Hb8.out.lt).cell 0, (Hb8.out.below hbd Hb8.out.lt).cell 1, (Hb8.out.below hbd Hb8.out.lt).cell 2, (Hq8.out.below hbd Hq8.out.lt).cell 0, (Hq8.out.below hbd Hq8.out.lt).cell 1, (Hq8.out.below hbd Hq8.out.lt).cell 2, (Hq8.out.below hbd Hq8.out.lt).cell 3⟩ (fun hS0 => ?_)
     have HRZ := Lib.hid (HRZ.out.kept hbd)
     generalize W9ya.drew = WFya at *
     have Hp9 := kbq Hp8 hbd
     have Hb9 := kbq Hb8 hbd
     have Hm9 := kbq Hm8 hbd
     have Hrp9 := kbq Hrp8 hbd
     have Hrb9 := kbq Hrb8 hbd
     have Hq9 := kbq Hq8 hbd
     have HB9 := ktq HB8 hbd
     have HZ9 := kzq HZ8 hbd.size
     clear Hp8 Hb8 Hm8 Hrp8 Hrb8 Hq8 HB8 HZ8
     clear hbd
     refine tkq 0 ?_
     refine tkq 1 ?_
     refine tkq 3 ?_
     refine tkq 4 ?_
     refine rdq 2 (fun K hK => ?_)
     have HG := Lib.hid (pwith_any WFya me N p n c ps (⟨q.cy, q.cu, 4, q.p, q.c, q.ls⟩ : PtX) (HV.out.pts.row.kept HB9.out) HV.out.np.1 (by have := HV.out.np; omega) HV.out.pts.srt)
     unfold PtX.v at HG
     go_simp
     go_at_call 50
     refine HG.out.mono ?_
     rintro y9 w3ya ⟨p3, n3, c3, rfl, hown, hb⟩
     clear HG
     have HP3 := Lib.hid hown
     have HSN : Hid (w.heap.size ≤ WFya.heap.size) := Lib.hid HB9.out.size
     have HG3 : Hid (∀ g, (Value.slice p3 n3 c3).ownBlock = some g → gq < g) := fun g hg => by have h1 := hown.block_ge g hg; have h2 := Hq9.out.lt; omega
     have HRZ := Lib.hid (HRZ.out.kept hb)
     clear hown
     have Hp10 := kbq Hp9 hb
     have Hb10 := kbq Hb9 hb
     have Hm10 := kbq Hm9 hb
     have Hrp10 := kbq Hrp9 hb
     have Hrb10 := kbq Hrb9 hb
     have Hq10 := kbq Hq9 hb
     have HB10 := ktq HB9 hb
     have HZ10 := kzq HZ9 hb.size
     clear Hp9 Hb9 Hm9 Hrp9 Hrb9 Hq9 HB9 HZ9
     clear hb hS0
     try go_wp2_with fail
     refine hK.out _ _ ⟨Hp10.out.cell 0, Hp10.out.cell 1, Hp10.out.cell 2, Hb10.out.cell 0, Hb10.out.cell 1, Hb10.out.cell 2, Hq10.out.cell 0, Hq10.out.cell 1, Hq10.out.cell 2, Hq10.out.cell 3⟩ (fun hS0 => ?_)
     clear hK K
     try simp only [Act.put, List.getElem_toArray, List.getElem_cons_succ, List.getElem_cons_zero, List.setIfInBounds_toArray, List.set_cons_zero, List.set_cons_succ]
     have Sn10 := HP3
     clear HP3
     refine rdq 5 (fun K hK => ?_)
     have z0 : w3ya.cell? ⟨(w.heap.size + 1 + 1 + 1), 0, none⟩ = some (.int .i64 0) := Hrp10.out.cell 0
     have z1 : w3ya.cell? ⟨(w.heap.size + 1 + 1 + 1), 1, none⟩ = some (.int .i64 0) := Hrp10.out.cell 1
     have z2 : w3ya.cell? ⟨(w.heap.size + 1 + 1 + 1), 2, none⟩ = some (.slice none 0 0) := Hrp10.out.cell 2
     have f0 := Hrp10.out.free 0
     have f1 := Hrp10.out.free 1
     have f2 := Hrp10.out.free 2
     go_simp
     clear z0 z1 z2 f0 f1 f2
     have hch := Lib.hid ((((Chg.refl (w.heap.size + 1 + 1 + 1) w3ya).set 0 (.int .i64 me)).set 1 (.int .i64 N)).set 2 (.slice p3 n3 c3))
     have Hrp11 : Hid (Blk _ (w.heap.size + 1 + 1 + 1) #[.int .i64 me, .int .i64 N, .slice p3 n3 c3] 36) := Lib.hid (((Hrp10.out.set 0 (.int .i64 me)).set 1 (.int .i64 N)).set 2 (.slice p3 n3 c3))
     have HB11 := ksq HB10 hch (by show w.heap.size ≤ (w.heap.size + 1 + 1 + 1); omega)
     have HZ11 := kzq HZ10 hch.out.size
     have Hp11 := kcq Hp10 hch (by have := HGQ.out; omega)
     have Hb11 := kcq Hb10 hch (by have := HGQ.out; omega)
     have Hm11 := kcq Hm10 hch (by have := HGQ.out; omega)
     have Hrb11 := kcq Hrb10 hch (by have := HGQ.out; omega)
     have Hq11 := kcq Hq10 hch (by have := HGQ.out; omega)
     have Sn11 := Lib.hid (Sn10.out.stay (fun b hb => hch.out.2 b (Sn10.out.lt b hb) (by have h1 := Sn10.out.block_ge b hb; have h9 := HG3.out b hb; have h8 := HGQ.out; omega)))
     have HRZ := Lib.hid (HRZ.out.keepP HAZ.out (KeepP.of_chg hch.out (by have := HGQ.out; have h9 := HLZ.out; rintro (h | h); (have h8 := h9 _ h; omega); have h8 := HGQ.out; omega)))
     clear hch hS0 Hp10 Hb10 Hm10 Hrp10 Hrb10 Hq10 Sn10 HB10 HZ10
     generalize (((w3ya.setCell ⟨w.heap.size + 1 + 1 + 1, 0, none⟩ (.int .i64 me)).setCell ⟨w.heap.size + 1 + 1 + 1, 1, none⟩ (.int .i64 N)).setCell ⟨w.heap.size + 1 + 1 + 1, 2, none⟩ (.slice p3 n3 c3)) = WPya at *
     refine hK.out _ _ ⟨Hp11.out.cell 0, Hp11.out.cell 1, Hp11.out.cell 2, Hb11.out.cell 0, Hb11.out.cell 1, Hb11.out.cell 2, Hq11.out.cell 0, Hq11.out.cell 1, Hq11.out.cell 2, Hq11.out.cell 3⟩ (fun hS0 => ?_)
     clear hK K
     try simp only [Act.put, List.getElem_toArray, List.getElem_cons_succ, List.getElem_cons_zero, List.setIfInBounds_toArray, List.set_cons_zero, List.set_cons_succ]
     refine rdq 6 (fun K hK => ?_)
     have z0 : WPya.cell? ⟨(w.heap.size + 1 + 1 + 1 + 1), 0, none⟩ = some (.int .i64 0) := Hrb11.out.cell 0
     have z1 : WPya.cell? ⟨(w.heap.size + 1 + 1 + 1 + 1), 1, none⟩ = some (.slice none 0 0) := Hrb11.out.cell 1
     have z2 : WPya.cell? ⟨(w.heap.size + 1 + 1 + 1 + 1), 2, none⟩ = some (.slice none 0 0) := Hrb11.out.cell 2
     have f0 := Hrb11.out.free 0
     have f1 := Hrb11.out.free 1
     have f2 := Hrb11.out.free 2
     go_simp
     clear z0 z1 z2 f0 f1 f2
     have hch := Lib.hid ((((Chg.refl (w.heap.size + 1 + 1 + 1 + 1) WPya).set 0 (.int .i64 mb)).set 1 (.slice pz xz.length cz)).set 2 (.slice po no co))
     have Hrb12 : Hid (Blk _ (w.heap.size + 1 + 1 + 1 + 1) #[.int .i64 mb, .slice pz xz.length cz, .slice po no co] 28) := Lib.hid (((Hrb11.out.set 0 (.int .i64 mb)).set 1 (.slice pz xz.length cz)).set 2 (.slice po no co))
     have HB12 := ksq HB11 hch (by show w.heap.size ≤ (w.heap.size + 1 + 1 + 1 + 1); omega)
     have HZ12 := kzq HZ11 hch.out.size
     have Hp12 := kcq Hp11 hch (by have := HGQ.out; omega)
     have Hb12 := kcq Hb11 hch (by have := HGQ.out; omega)
     have Hm12 := kcq Hm11 hch (by have := HGQ.out; omega)
     have Hrp12 := kcq Hrp11 hch (by have := HGQ.out; omega)
     have Hq12 := kcq Hq11 hch (by have := HGQ.out; omega)
     have Sn12 := Lib.hid (Sn11.out.stay (fun b hb => hch.out.2 b (Sn11.out.lt b hb) (by have h1 := Sn11.out.block_ge b hb; have h9 := HG3.out b hb; have h8 := HGQ.out; omega)))
     have HRZ := Lib.hid (HRZ.out.keepP HAZ.out (KeepP.of_chg hch.out (by have := HGQ.out; have h9 := HLZ.out; rintro (h | h); (have h8 := h9 _ h; omega); have h8 := HGQ.out; omega)))
     clear hch hS0 Hp11 Hb11 Hm11 Hrp11 Hrb11 Hq11 Sn11 HB11 HZ11
     generalize (((WPya.setCell ⟨w.heap.size + 1 + 1 + 1 + 1, 0, none⟩ (.int .i64 mb)).setCell ⟨w.heap.size + 1 + 1 + 1 + 1, 1, none⟩ (.slice pz xz.length cz)).setCell ⟨w.heap.size + 1 + 1 + 1 + 1, 2, none⟩ (.slice po no co)) = WQya at *
     refine hK.out _ _ ⟨Hp12.out.cell 0, Hp12.out.cell 1, Hp12.out.cell 2, Hb12.out.cell 0, Hb12.out.cell 1, Hb12.out.cell 2, Hq12.out.cell 0, Hq12.out.cell 1, Hq12.out.cell 2, Hq12.out.cell 3⟩ (fun hS0 => ?_)
     clear hK K
     try simp only [Act.put, List.getElem_toArray, List.getElem_cons_succ, List.getElem_cons_zero, List.setIfInBounds_toArray, List.set_cons_zero, List.set_cons_succ]
     refine tkq 7 ?_
     refine tkq 8 ?_
     refine wpAnyH_done (by kernel_rfl) ?_ _
     clear hS0
     go_wp2_with fail
     have hfp := Hrp12.out
     have hfb := Hrb12.out
     refine bodyPost_ret (v := .tuple #[.agg #[.int .i64 me, .int .i64 N, .slice p3 n3 c3], .agg #[.int .i64 mb, .slice pz xz.length cz, .slice po no co], .slice none 0 0, .int .i64 0]) (by simp [results, Try.results32, go_sem, hfp.cell 0, hfp.cell 1, hfp.cell 2, hfb.cell 0, hfb.cell 1, hfb.cell 2]) rfl ⟨HB12.out, p3, n3, c3, pz, xz.length, cz, _, insC ps (⟨q.cy, q.cu, 4, q.p, q.c, q.ls⟩ : PtX), xz, [], 0, rfl, insC_pts HV.out.pts HB12.out Sn12.out ⟨((HV.out.pts.ls q (openP_mem HQ.out)).1.kept HB12.out), (HV.out.pts.ls q (openP_mem HQ.out)).2.imp (fun _ h => .inl h)⟩ (fun _ h => .inl h) (fun b hb => .inr (Nat.le_trans HSN.out hb)), HRZ.out, HAZ.out.imp (fun b h => h.imp id (fun h => by have := HGQ.out; omega)), OwnT.nil_ _ _ _ _, saidR_nil _ _, ?_⟩
     refine ⟨rfl, fun h => absurd (by rw [HQ.out]) h, fun _ _ h => absurd (by rw [HQ.out]; exact HS2.out) h, fun _ _ => ⟨rfl, ?_, ?_⟩⟩
     ·rw [HQ.out, HTV.out]; rfl
     ·rw [HQ.out]; exact HXZ.out.symm
    ·skip
     have a0 : WDy.cell? ⟨(w.heap.size + 1), 0, none⟩ = some (.int .i64 mb) := Hb3.out.cell 0
     have a1 : WDy.cell? ⟨(w.heap.size + 1), 1, none⟩ = some (.slice pi ni ci) := Hb3.out.cell 1
     have a2 : WDy.cell? ⟨(w.heap.size + 1), 2, none⟩ = some (.slice po no co) := Hb3.out.cell 2
     go_simp
     clear a0 a1 a2
     refine hK.out _ _ ⟨Hm3.out.cell 0, Hm3.out.cell 1, Hm3.out.cell 2, Hm3.out.cell 3, Hm3.out.cell 4, Hm3.out.cell 5, Hm3.out.cell 6, Hm3.out.cell 7, Hm3.out.cell 8, Hm3.out.cell 9, Hm3.out.cell 10, Hq3.out.cell 0, Hq3.out.cell 1, Hq3.out.cell 2, Hq3.out.cell 3⟩ (fun hS0 => ?_)
     clear hK K
     try simp only [Act.put, List.getElem_toArray, List.getElem_cons_succ, List.getElem_cons_zero, List.setIfInBounds_toArray, List.set_cons_zero, List.set_cons_succ]
     refine wpAnyH_ready (rs := [0, 4]) (by kernel_rfl) (by simp) ?_
     refine AllReadyH.cons rfl (fun K hK => ?_) (AllReadyH.cons rfl (fun K hK => ?_) AllReadyH.nil)
     ·skip
      have a0 : WDy.cell? ⟨(w.heap.size + 1), 0, none⟩ = some (.int .i64 mb) := Hb3.out.cell 0
      have a1 : WDy.cell? ⟨(w.heap.size + 1), 1, none⟩ = some (.slice pi ni ci) := Hb3.out.cell 1
      have a2 : WDy.cell? ⟨(w.heap.size + 1), 2, none⟩ = some (.slice po no co) := Hb3.out.cell 2
      go_simp
      clear a0 a1 a2
      refine hK.out _ _ ⟨Hm3.out.cell 0, Hm3.out.cell 1, Hm3.out.cell 2, Hm3.out.cell 3, Hm3.out.cell 4, Hm3.out.cell 5, Hm3.out.cell 6, Hm3.out.cell 7, Hm3.out.cell 8, Hm3.out.cell 9, Hm3.out.cell 10, Hq3.out.cell 0, Hq3.out.cell 1, Hq3.out.cell 2, Hq3.out.cell 3⟩ (fun hS0 => ?_)
      clear hK K
      try simp only [Act.put, List.getElem_toArray, List.getElem_cons_succ, List.getElem_cons_zero, List.setIfInBounds_toArray, List.set_cons_zero, List.set_cons_succ]
      refine rdq 4 (fun K hK => ?_)
      have HG := Lib.hid (blocked_any WDy mb pi po ni ci no co xs y.m.y (HV.out.its.kept HB3.out) (by have := HV.out.nx; omega))
      unfold bookV at HG
      go_simp
      go_at_call 14
      refine HG.out.mono ?_
      rintro y9 wL ⟨vL, rfl, hown, hb⟩
      clear HG
      have HIT := Lib.hid hown
      clear hown
      have Hp4 := kbq Hp3 hb
      have Hb4 := kbq Hb3 hb
      have Hm4 := kbq Hm3 hb
      have Hrp4 := kbq Hrp3 hb
      have Hrb4 := kbq Hrb3 hb
      have Hq4 := kbq Hq3 hb
      have HB4 := ktq HB3 hb
      have HZ4 := kzq HZ3 hb.size
      clear Hp3 Hb3 Hm3 Hrp3 Hrb3 Hq3 HB3 HZ3
      have HIR : Hid (TRow encI wL vL (xs.filter (keepL y.m.y))) := Lib.hid HIT.out.row
      clear hb hS0
      have hst : ∃ pL cL, vL = .slice pL (xs.filter (keepL y.m.y)).length cL := HIT.out.form
      obtain ⟨pL, cL, hvL⟩ := hst
      clear HIT
      obtain ⟨nL, hnL⟩ : ∃ k, (xs.filter (keepL y.m.y)).length = k := ⟨_, rfl⟩
      rw [hnL] at hvL
      have HNL := Lib.hid hnL
      clear hnL
      subst hvL
      try go_wp2_with fail
      refine hK.out _ _ ⟨Hm4.out.cell 0, Hm4.out.cell 1, Hm4.out.cell 2, Hm4.out.cell 3, Hm4.out.cell 4, Hm4.out.cell 5, Hm4.out.cell 6, Hm4.out.cell 7, Hm4.out.cell 8, Hm4.out.cell 9, Hm4.out.cell 10, Hq4.out.cell 0, Hq4.out.cell 1, Hq4.out.cell 2, Hq4.out.cell 3⟩ (fun hS0 => ?_)
      clear hK K
      try simp only [Act.put, List.getElem_toArray, List.getElem_cons_succ, List.getElem_cons_zero, List.setIfInBounds_toArray, List.set_cons_zero, List.set_cons_succ]
      refine rdq 6 (fun K hK => ?_)
      have hsay : ∀ W, Below wL.heap.size wL W → ∀ x : Itm, Calls Try.prog 56 #[x.v, .pointer (some ⟨w.heap.size + 1 + 1, 0, none⟩), .pointer (some ⟨gq, 0, none⟩)] W fun e w' => e = ansI (decF y.m.t q.ls x) ∧ Below W.heap.size W w' := fun W hb x => decc_any W x y.m.t q.ls q.p q.c (w.heap.size + 1 + 1) gq ((Hm4.out.below hb Hm4.out.lt).cell 8) ((Hq4.out.below hb Hq4.out.lt).cell 3) (((HV.out.pts.ls q (openP_mem HQ.out)).1.kept HB4.out).kept hb) (by have := HQL.out q (openP_mem HQ.out); omega)
      have hokx : ∀ x ∈ xs.filter (keepL y.m.y), (decF y.m.t q.ls x).2 = 0 ∧ chkI (decF y.m.t q.ls x).1 = 0 ∧ ((decF y.m.t q.ls x).1.s = mb ∨ (decF y.m.t q.ls x).1.b = mb) := fun x hx => by
       obtain ⟨h1, h2⟩ := List.mem_filter.1 hx
       obtain ⟨h3, _, h5⟩ := keepL_ok h2
       obtain ⟨h6, h7⟩ := HGD.out x h1
       exact decF_ok h3 h5 h6 h7
      have HG := Lib.hid (each_decide wL mb pi po ni ci no co xs (xs.filter (keepL y.m.y)) pL nL cL (decF y.m.t q.ls) P (w.heap.size + 1 + 1) gq (HV.out.its.kept HB4.out) HV.out.nx.1 (by have h := HV.out.ai; rw [← HV.out.nx.1] at h; exact h) (fun b hb => Nat.lt_of_lt_of_le (HV.out.lt b hb) HB4.out.size) HV.out.srt HIR.out HNL.out.symm (by have h1 := HV.out.nx; have h2 := List.length_filter_le (keepL y.m.y) xs; omega) hokx hsay)
      clear hsay hokx
      obtain ⟨xz, hxz⟩ : ∃ l, eachX (decF y.m.t q.ls) xs (xs.filter (keepL y.m.y)) = l := ⟨_, rfl⟩
      rw [hxz] at HG
      have HXZ := Lib.hid hxz
      clear hxz
      unfold bookV at HG
      go_simp
      go_at_call 46
      refine HG.out.mono ?_
      rintro y9 wE ⟨pz, cz, rfl, hrow, hat, hb⟩
      clear HG HIR
      have HRZ := Lib.hid hrow
      have HAZ : Hid (At (fun b => P b ∨ gq < b) (.slice pz xz.length cz) xz.length) := Lib.hid (hat.imp (fun b h => h.imp id (fun h => by have := Hq4.out.lt; omega)))
      have HLZ : Hid (∀ b, P b → b < w.heap.size) := Lib.hid HV.out.lt
      clear hrow hat
      have Hp5 := kbq Hp4 hb
      have Hb5 := kbq Hb4 hb
      have Hm5 := kbq Hm4 hb
      have Hrp5 := kbq Hrp4 hb
      have Hrb5 := kbq Hrb4 hb
      have Hq5 := kbq Hq4 hb
      have HB5 := ktq HB4 hb
      have HZ5 := kzq HZ4 hb.size
      clear Hp4 Hb4 Hm4 Hrp4 Hrb4 Hq4 HB4 HZ4
      clear hb hS0
      try go_wp2_with fail
      refine hK.out _ _ ⟨Hm5.out.cell 0, Hm5.out.cell 1, Hm5.out.cell 2, Hm5.out.cell 3, Hm5.out.cell 4, Hm5.out.cell 5, Hm5.out.cell 6, Hm5.out.cell 7, Hm5.out.cell 8, Hm5.out.cell 9, Hm5.out.cell 10, Hq5.out.cell 0, Hq5.out.cell 1, Hq5.out.cell 2, Hq5.out.cell 3⟩ (fun hS0 => ?_)
      clear hK K
      try simp only [Act.put, List.getElem_toArray, List.getElem_cons_succ, List.getElem_cons_zero, List.setIfInBounds_toArray, List.set_cons_zero, List.set_cons_succ]
      refine tkq 7 ?_
      refine tkq 8 ?_
      refine tkq 9 ?_
      refine rdq 10 (fun K hK => ?_)
      have z0 : wE.cell? ⟨(w.heap.size + 1), 0, none⟩ = some (.int .i64 mb) := Hb5.out.cell 0
      have z1 : wE.cell? ⟨(w.heap.size + 1), 1, none⟩ = some (.slice pi ni ci) := Hb5.out.cell 1
      have z2 : wE.cell? ⟨(w.heap.size + 1), 2, none⟩ = some (.slice po no co) := Hb5.out.cell 2
      have f0 := Hb5.out.free 0
      have f1 := Hb5.out.free 1
      have f2 := Hb5.out.free 2
      go_simp
      clear z0 z1 z2 f0 f1 f2
      have hch := Lib.hid ((((Chg.refl (w.heap.size + 1) wE).set 0 (.int .i64 mb)).set 1 (.slice pz xz.length cz)).set 2 (.slice po no co))
      have Hb6 : Hid (Blk _ (w.heap.size + 1) #[.int .i64 mb, .slice pz xz.length cz, .slice po no co] 28) := Lib.hid (((Hb5.out.set 0 (.int .i64 mb)).set 1 (.slice pz xz.length cz)).set 2 (.slice po no co))
      have HB6 := ksq HB5 hch (by show w.heap.size ≤ (w.heap.size + 1); omega)
      have HZ6 := kzq HZ5 hch.out.size
      have Hp6 := kcq Hp5 hch (by have := HGQ.out; omega)
      have Hm6 := kcq Hm5 hch (by have := HGQ.out; omega)
      have Hrp6 := kcq Hrp5 hch (by have := HGQ.out; omega)
      have Hrb6 := kcq Hrb5 hch (by have := HGQ.out; omega)
      have Hq6 := kcq Hq5 hch (by have := HGQ.out; omega)
      have HRZ := Lib.hid (HRZ.out.keepP HAZ.out (KeepP.of_chg hch.out (by have := HGQ.out; have h9 := HLZ.out; rintro (h | h); (have h8 := h9 _ h; omega); have h8 := HGQ.out; omega)))
      clear hch hS0 Hp5 Hb5 Hm5 Hrp5 Hrb5 Hq5 HB5 HZ5
      generalize (((wE.setCell ⟨w.heap.size + 1, 0, none⟩ (.int .i64 mb)).setCell ⟨w.heap.size + 1, 1, none⟩ (.slice pz xz.length cz)).setCell ⟨w.heap.size + 1, 2, none⟩ (.slice po no co)) = WByb at *
      refine hK.out _ _ ⟨Hm6.out.cell 0, Hm6.out.cell 1, Hm6.out.cell 2, Hm6.out.cell 3, Hm6.out.cell 4, Hm6.out.cell 5, Hm6.out.cell 6, Hm6.out.cell 7, Hm6.out.cell 8, Hm6.out.cell 9, Hm6.out.cell 10, Hq6.out.cell 0, Hq6.out.cell 1, Hq6.out.cell 2, Hq6.out.cell 3⟩ (fun hS0 => ?_)
      clear hK K
      try simp only [Act.put, List.getElem_toArray, List.getElem_cons_succ, List.getElem_cons_zero, List.setIfInBounds_toArray, List.set_cons_zero, List.set_cons_succ]
      refine tkq 11 ?_
      refine wpAnyH_done (by kernel_rfl) ?_ _
      clear hS0
      go_upto_region 7 with fail
      have z2 : WByb.cell? ⟨gq, 2, none⟩ = some (.int .i64 q.st) := Hq6.out.cell 2
      have f2 := Hq6.out.free 2
      go_upto_region 8 with fail
      clear z2 f2
      have hch := Lib.hid ((Chg.refl gq WByb).set 2 (.int .i64 5))
      have Hq7 : Hid (Blk _ gq #[.int .i64 q.cy, .int .i64 q.cu, .int .i64 5, .slice q.p q.ls.length q.c] 58) := Lib.hid (Hq6.out.set 2 (.int .i64 5))
      have HB7 := ksq HB6 hch (by show w.heap.size ≤ gq; have := HGQ.out; omega)
      have HZ7 := kzq HZ6 hch.out.size
      have Hp7 := kcq Hp6 hch (by have := HGQ.out; omega)
      have Hb7 := kcq Hb6 hch (by have := HGQ.out; omega)
      have Hm7 := kcq Hm6 hch (by have := HGQ.out; omega)
      have Hrp7 := kcq Hrp6 hch (by have := HGQ.out; omega)
      have Hrb7 := kcq Hrb6 hch (by have := HGQ.out; omega)
      have HRZ := Lib.hid (HRZ.out.keepP HAZ.out (KeepP.of_chg hch.out (by have := HGQ.out; have h9 := HLZ.out; rintro (h | h); (have h8 := h9 _ h; omega); omega)))
      clear hch Hp6 Hb6 Hm6 Hrp6 Hrb6 Hq6 HB6 HZ6
      generalize (WByb.setCell ⟨gq, 2, none⟩ (.int .i64 5)) = W7yb at *
      have c8 : W7yb.cell? ⟨(w.heap.size + 1 + 1), 8, none⟩ = some (.bool true) := by have h := Hm7.out.cell 8; rw [← HTV.out]; exact h
      go_upto_region 9 with fail
      clear c8
      have z2 : W7yb.cell? ⟨gq, 2, none⟩ = some (.int .i64 5) := Hq7.out.cell 2
      have f2 := Hq7.out.free 2
      go_upto_region 10 with fail
      clear z2 f2
      have hch := Lib.hid ((Chg.refl gq W7yb).set 2 (.int .i64 4))
      have Hq8 : Hid (Blk _ gq #[.int .i64 q.cy, .int .i64 q.cu, .int .i64 4, .slice q.p q.ls.length q.c] 58) := Lib.hid (Hq7.out.set 2 (.int .i64 4))
      have HB8 := ksq HB7 hch (by show w.heap.size ≤ gq; have := HGQ.out; omega)
      have HZ8 := kzq HZ7 hch.out.size
      have Hp8 := kcq Hp7 hch (by have := HGQ.out; omega)
      have Hb8 := kcq Hb7 hch (by have := HGQ.out; omega)
      have Hm8 := kcq Hm7 hch (by have := HGQ.out; omega)
      have Hrp8 := kcq Hrp7 hch (by have := HGQ.out; omega)
      have Hrb8 := kcq Hrb7 hch (by have := HGQ.out; omega)
      have HRZ := Lib.hid (HRZ.out.keepP HAZ.out (KeepP.of_chg hch.out (by have := HGQ.out; have h9 := HLZ.out; rintro (h | h); (have h8 := h9 _ h; omega); omega)))
      clear hch Hp7 Hb7 Hm7 Hrp7 Hrb7 Hq7 HB7 HZ7
      generalize (W7yb.setCell ⟨gq, 2, none⟩ (.int .i64 4)) = W9yb at *
      have hbd := (Below.refl W9yb.heap.size W9yb).drew
      refine wp_region_held_drew (S := fun w' => w'.cell? ⟨w.heap.size, 0, none⟩ = some (.int .i64 me) ∧ w'.cell? ⟨w.heap.size, 1, none⟩ = some (.int .i64 N) ∧ w'.cell? ⟨w.heap.size, 2, none⟩ = some (.slice p n c) ∧ w'.cell? ⟨w.heap.size + 1, 0, none⟩ = some (.int .i64 mb) ∧ w'.cell? ⟨w.heap.size + 1, 1, none⟩ = some (.slice pz xz.length cz) ∧ w'.cell? ⟨w.heap.size + 1, 2, none⟩ = some (.slice po no co) ∧ w'.cell? ⟨gq, 0, none⟩ = some (.int .i64 q.cy) ∧ w'.cell? ⟨gq, 1, none⟩ = some (.int .i64 q.cu) ∧ w'.cell? ⟨gq, 2, none⟩ = some (.int .i64 4) ∧ w'.cell? ⟨gq, 3, none⟩ = some (.slice q.p q.ls.length q.c)) (by kernel_rfl) ⟨(Hp8.out.below hbd Hp8.out.lt).cell 0, (Hp8.out.below hbd Hp8.out.lt).cell 1, (Hp8.out.below hbd Hp8.out.lt).cell 2, (Hb8.out.below hbd Hb8.out.lt).cell 0, (Hb8.out.below hbd Hb8.out.lt).cell 1, (Hb8.out.below hbd Hb8.out.lt).cell 2, (Hq8.out.below hbd Hq8.out.lt).cell 0, (Hq8.out.below hbd Hq8.out.lt).cell 1, (Hq8.out.below hbd Hq8.out.lt).cell 2, (Hq8.out.below hbd Hq8.out.lt).cell 3⟩ (fun hS0 => ?_)
      have HRZ := Lib.hid (HRZ.out.kept hbd)
      generalize W9yb.drew = WFyb at *
      have Hp9 := kbq Hp8 hbd
      have Hb9 := kbq Hb8 hbd
      have Hm9 := kbq Hm8 hbd
      have Hrp9 := kbq Hrp8 hbd
      have Hrb9 := kbq Hrb8 hbd
      have Hq9 := kbq Hq8 hbd
      have HB9 := ktq HB8 hbd
      have HZ9 := kzq HZ8 hbd.size
      clear Hp8 Hb8 Hm8 Hrp8 Hrb8 Hq8 HB8 HZ8
      clear hbd
      refine tkq 0 ?_
      refine tkq 1 ?_
      refine tkq 3 ?_
      refine tkq 4 ?_
      refine rdq 2 (fun K hK => ?_)
      have HG := Lib.hid (pwith_any WFyb me N p n c ps (⟨q.cy, q.cu, 4, q.p, q.c, q.ls⟩ : PtX) (HV.out.pts.row.kept HB9.out) HV.out.np.1 (by have := HV.out.np; omega) HV.out.pts.srt)
      unfold PtX.v at HG
      go_simp
      go_at_call 50
      refine HG.out.mono ?_
      rintro y9 w3yb ⟨p3, n3, c3, rfl, hown, hb⟩
      clear HG
      have HP3 := Lib.hid hown
      have HSN : Hid (w.heap.size ≤ WFyb.heap.size) := Lib.hid HB9.out.size
      have HG3 : Hid (∀ g, (Value.slice p3 n3 c3).ownBlock = some g → gq < g) := fun g hg => by have h1 := hown.block_ge g hg; have h2 := Hq9.out.lt; omega
      have HRZ := Lib.hid (HRZ.out.kept hb)
      clear hown
      have Hp10 := kbq Hp9 hb
      have Hb10 := kbq Hb9 hb
      have Hm10 := kbq Hm9 hb
      have Hrp10 := kbq Hrp9 hb
      have Hrb10 := kbq Hrb9 hb
      have Hq10 := kbq Hq9 hb
      have HB10 := ktq HB9 hb
      have HZ10 := kzq HZ9 hb.size
      clear Hp9 Hb9 Hm9 Hrp9 Hrb9 Hq9 HB9 HZ9
      clear hb hS0
      try go_wp2_with fail
      refine hK.out _ _ ⟨Hp10.out.cell 0, Hp10.out.cell 1, Hp10.out.cell 2, Hb10.out.cell 0, Hb10.out.cell 1, Hb10.out.cell 2, Hq10.out.cell 0, Hq10.out.cell 1, Hq10.out.cell 2, Hq10.out.cell 3⟩ (fun hS0 => ?_)
      clear hK K
      try simp only [Act.put, List.getElem_toArray, List.getElem_cons_succ, List.getElem_cons_zero, List.setIfInBounds_toArray, List.set_cons_zero, List.set_cons_succ]
      have Sn10 := HP3
      clear HP3
      refine rdq 5 (fun K hK => ?_)
      have z0 : w3yb.cell? ⟨(w.heap.size + 1 + 1 + 1), 0, none⟩ = some (.int .i64 0) := Hrp10.out.cell 0
      have z1 : w3yb.cell? ⟨(w.heap.size + 1 + 1 + 1), 1, none⟩ = some (.int .i64 0) := Hrp10.out.cell 1
      have z2 : w3yb.cell? ⟨(w.heap.size + 1 + 1 + 1), 2, none⟩ = some (.slice none 0 0) := Hrp10.out.cell 2
      have f0 := Hrp10.out.free 0
      have f1 := Hrp10.out.free 1
      have f2 := Hrp10.out.free 2
      go_simp
      clear z0 z1 z2 f0 f1 f2
      have hch := Lib.hid ((((Chg.refl (w.heap.size + 1 + 1 + 1) w3yb).set 0 (.int .i64 me)).set 1 (.int .i64 N)).set 2 (.slice p3 n3 c3))
      have Hrp11 : Hid (Blk _ (w.heap.size + 1 + 1 + 1) #[.int .i64 me, .int .i64 N, .slice p3 n3 c3] 36) := Lib.hid (((Hrp10.out.set 0 (.int .i64 me)).set 1 (.int .i64 N)).set 2 (.slice p3 n3 c3))
      have HB11 := ksq HB10 hch (by show w.heap.size ≤ (w.heap.size + 1 + 1 + 1); omega)
      have HZ11 := kzq HZ10 hch.out.size
      have Hp11 := kcq Hp10 hch (by have := HGQ.out; omega)
      have Hb11 := kcq Hb10 hch (by have := HGQ.out; omega)
      have Hm11 := kcq Hm10 hch (by have := HGQ.out; omega)
      have Hrb11 := kcq Hrb10 hch (by have := HGQ.out; omega)
      have Hq11 := kcq Hq10 hch (by have := HGQ.out; omega)
      have Sn11 := Lib.hid (Sn10.out.stay (fun b hb => hch.out.2 b (Sn10.out.lt b hb) (by have h1 := Sn10.out.block_ge b hb; have h9 := HG3.out b hb; have h8 := HGQ.out; omega)))
      have HRZ := Lib.hid (HRZ.out.keepP HAZ.out (KeepP.of_chg hch.out (by have := HGQ.out; have h9 := HLZ.out; rintro (h | h); (have h8 := h9 _ h; omega); have h8 := HGQ.out; omega)))
      clear hch hS0 Hp10 Hb10 Hm10 Hrp10 Hrb10 Hq10 Sn10 HB10 HZ10
      generalize (((w3yb.setCell ⟨w.heap.size + 1 + 1 + 1, 0, none⟩ (.int .i64 me)).setCell ⟨w.heap.size + 1 + 1 + 1, 1, none⟩ (.int .i64 N)).setCell ⟨w.heap.size + 1 + 1 + 1, 2, none⟩ (.slice p3 n3 c3)) = WPyb at *
      refine hK.out _ _ ⟨Hp11.out.cell 0, Hp11.out.cell 1, Hp11.out.cell 2, Hb11.out.cell 0, Hb11.out.cell 1, Hb11.out.cell 2, Hq11.out.cell 0, Hq11.out.cell 1, Hq11.out.cell 2, Hq11.out.cell 3⟩ (fun hS0 => ?_)
      clear hK K
      try simp only [Act.put, List.getElem_toArray, List.getElem_cons_succ, List.getElem_cons_zero, List.setIfInBounds_toArray, List.set_cons_zero, List.set_cons_succ]
      refine rdq 6 (fun K hK => ?_)
      have z0 : WPyb.cell? ⟨(w.heap.size + 1 + 1 + 1 + 1), 0, none⟩ = some (.int .i64 0) := Hrb11.out.cell 0
      have z1 : WPyb.cell? ⟨(w.heap.size + 1 + 1 + 1 + 1), 1, none⟩ = some (.slice none 0 0) := Hrb11.out.cell 1
      have z2 : WPyb.cell? ⟨(w.heap.size + 1 + 1 + 1 + 1), 2, none⟩ = some (.slice none 0 0) := Hrb11.out.cell 2
      have f0 := Hrb11.out.free 0
      have f1 := Hrb11.out.free 1
      have f2 := Hrb11.out.free 2
      go_simp
      clear z0 z1 z2 f0 f1 f2
      have hch := Lib.hid ((((Chg.refl (w.heap.size + 1 + 1 + 1 + 1) WPyb).set 0 (.int .i64 mb)).set 1 (.slice pz xz.length cz)).set 2 (.slice po no co))
      have Hrb12 : Hid (Blk _ (w.heap.size + 1 + 1 + 1 + 1) #[.int .i64 mb, .slice pz xz.length cz, .slice po no co] 28) := Lib.hid (((Hrb11.out.set 0 (.int .i64 mb)).set 1 (.slice pz xz.length cz)).set 2 (.slice po no co))
      have HB12 := ksq HB11 hch (by show w.heap.size ≤ (w.heap.size + 1 + 1 + 1 + 1); omega)
      have HZ12 := kzq HZ11 hch.out.size
      have Hp12 := kcq Hp11 hch (by have := HGQ.out; omega)
      have Hb12 := kcq Hb11 hch (by have := HGQ.out; omega)
      have Hm12 := kcq Hm11 hch (by have := HGQ.out; omega)
      have Hrp12 := kcq Hrp11 hch (by have := HGQ.out; omega)
      have Hq12 := kcq Hq11 hch (by have := HGQ.out; omega)
      have Sn12 := Lib.hid (Sn11.out.stay (fun b hb => hch.out.2 b (Sn11.out.lt b hb) (by have h1 := Sn11.out.block_ge b hb; have h9 := HG3.out b hb; have h8 := HGQ.out; omega)))
      have HRZ := Lib.hid (HRZ.out.keepP HAZ.out (KeepP.of_chg hch.out (by have := HGQ.out; have h9 := HLZ.out; rintro (h | h); (have h8 := h9 _ h; omega); have h8 := HGQ.out; omega)))
      clear hch hS0 Hp11 Hb11 Hm11 Hrp11 Hrb11 Hq11 Sn11 HB11 HZ11
      generalize (((WPyb.setCell ⟨w.heap.size + 1 + 1 + 1 + 1, 0, none⟩ (.int .i64 mb)).setCell ⟨w.heap.size + 1 + 1 + 1 + 1, 1, none⟩ (.slice pz xz.length cz)).setCell ⟨w.heap.size + 1 + 1 + 1 + 1, 2, none⟩ (.slice po no co)) = WQyb at *
      refine hK.out _ _ ⟨Hp12.out.cell 0, Hp12.out.cell 1, Hp12.out.cell 2, Hb12.out.cell 0, Hb12.out.cell 1, Hb12.out.cell 2, Hq12.out.cell 0, Hq12.out.cell 1, Hq12.out.cell 2, Hq12.out.cell 3⟩ (fun hS0 => ?_)
      clear hK K
      try simp only [Act.put, List.getElem_toArray, List.getElem_cons_succ, List.getElem_cons_zero, List.setIfInBounds_toArray, List.set_cons_zero, List.set_cons_succ]
      refine tkq 7 ?_
      refine tkq 8 ?_
      refine wpAnyH_done (by kernel_rfl) ?_ _
      clear hS0
      go_wp2_with fail
      have hfp := Hrp12.out
      have hfb := Hrb12.out
      refine bodyPost_ret (v := .tuple #[.agg #[.int .i64 me, .int .i64 N, .slice p3 n3 c3], .agg #[.int .i64 mb, .slice pz xz.length cz, .slice po no co], .slice none 0 0, .int .i64 0]) (by simp [results, Try.results32, go_sem, hfp.cell 0, hfp.cell 1, hfp.cell 2, hfb.cell 0, hfb.cell 1, hfb.cell 2]) rfl ⟨HB12.out, p3, n3, c3, pz, xz.length, cz, _, insC ps (⟨q.cy, q.cu, 4, q.p, q.c, q.ls⟩ : PtX), xz, [], 0, rfl, insC_pts HV.out.pts HB12.out Sn12.out ⟨((HV.out.pts.ls q (openP_mem HQ.out)).1.kept HB12.out), (HV.out.pts.ls q (openP_mem HQ.out)).2.imp (fun _ h => .inl h)⟩ (fun _ h => .inl h) (fun b hb => .inr (Nat.le_trans HSN.out hb)), HRZ.out, HAZ.out.imp (fun b h => h.imp id (fun h => by have := HGQ.out; omega)), OwnT.nil_ _ _ _ _, saidR_nil _ _, ?_⟩
      refine ⟨rfl, fun h => absurd (by rw [HQ.out]) h, fun _ _ h => absurd (by rw [HQ.out]; exact HS2.out) h, fun _ _ => ⟨rfl, ?_, ?_⟩⟩
      ·rw [HQ.out, HTV.out]; rfl
      ·rw [HQ.out]; exact HXZ.out.symm
     ·skip
      have HG := Lib.hid (blocked_any WDy mb pi po ni ci no co xs y.m.y (HV.out.its.kept HB3.out) (by have := HV.out.nx; omega))
      unfold bookV at HG
      go_simp
      go_at_call 14
      refine HG.out.mono ?_
      rintro y9 wL ⟨vL, rfl, hown, hb⟩
      clear HG
      have HIT := Lib.hid hown
      clear hown
      have Hp4 := kbq Hp3 hb
      have Hb4 := kbq Hb3 hb
      have Hm4 := kbq Hm3 hb
      have Hrp4 := kbq Hrp3 hb
      have Hrb4 := kbq Hrb3 hb
      have Hq4 := kbq Hq3 hb
      have HB4 := ktq HB3 hb
      have HZ4 := kzq HZ3 hb.size
      clear Hp3 Hb3 Hm3 Hrp3 Hrb3 Hq3 HB3 HZ3
      have HIR : Hid (TRow encI wL vL (xs.filter (keepL y.m.y))) := Lib.hid HIT.out.row
      clear hb hS0
      have hst : ∃ pL cL, vL = .slice pL (xs.filter (keepL y.m.y)).length cL := HIT.out.form
      obtain ⟨pL, cL, hvL⟩ := hst
      clear HIT
      obtain ⟨nL, hnL⟩ : ∃ k, (xs.filter (keepL y.m.y)).length = k := ⟨_, rfl⟩
      rw [hnL] at hvL
      have HNL := Lib.hid hnL
      clear hnL
      subst hvL
      try go_wp2_with fail
      refine hK.out _ _ ⟨Hm4.out.cell 0, Hm4.out.cell 1, Hm4.out.cell 2, Hm4.out.cell 3, Hm4.out.cell 4, Hm4.out.cell 5, Hm4.out.cell 6, Hm4.out.cell 7, Hm4.out.cell 8, Hm4.out.cell 9, Hm4.out.cell 10, Hq4.out.cell 0, Hq4.out.cell 1, Hq4.out.cell 2, Hq4.out.cell 3⟩ (fun hS0 => ?_)
      clear hK K
      try simp only [Act.put, List.getElem_toArray, List.getElem_cons_succ, List.getElem_cons_zero, List.setIfInBounds_toArray, List.set_cons_zero, List.set_cons_succ]
      refine rdq 0 (fun K hK => ?_)
      have a0 : wL.cell? ⟨(w.heap.size + 1), 0, none⟩ = some (.int .i64 mb) := Hb4.out.cell 0
      have a1 : wL.cell? ⟨(w.heap.size + 1), 1, none⟩ = some (.slice pi ni ci) := Hb4.out.cell 1
      have a2 : wL.cell? ⟨(w.heap.size + 1), 2, none⟩ = some (.slice po no co) := Hb4.out.cell 2
      go_simp
      clear a0 a1 a2
      refine hK.out _ _ ⟨Hm4.out.cell 0, Hm4.out.cell 1, Hm4.out.cell 2, Hm4.out.cell 3, Hm4.out.cell 4, Hm4.out.cell 5, Hm4.out.cell 6, Hm4.out.cell 7, Hm4.out.cell 8, Hm4.out.cell 9, Hm4.out.cell 10, Hq4.out.cell 0, Hq4.out.cell 1, Hq4.out.cell 2, Hq4.out.cell 3⟩ (fun hS0 => ?_)
      clear hK K
      try simp only [Act.put, List.getElem_toArray, List.getElem_cons_succ, List.getElem_cons_zero, List.setIfInBounds_toArray, List.set_cons_zero, List.set_cons_succ]
      refine rdq 6 (fun K hK => ?_)
      have hsay : ∀ W, Below wL.heap.size wL W → ∀ x : Itm, Calls Try.prog 56 #[x.v, .pointer (some ⟨w.heap.size + 1 + 1, 0, none⟩), .pointer (some ⟨gq, 0, none⟩)] W fun e w' => e = ansI (decF y.m.t q.ls x) ∧ Below W.heap.size W w' := fun W hb x => decc_any W x y.m.t q.ls q.p q.c (w.heap.size + 1 + 1) gq ((Hm4.out.below hb Hm4.out.lt).cell 8) ((Hq4.out.below hb Hq4.out.lt).cell 3) (((HV.out.pts.ls q (openP_mem HQ.out)).1.kept HB4.out).kept hb) (by have := HQL.out q (openP_mem HQ.out); omega)
      have hokx : ∀ x ∈ xs.filter (keepL y.m.y), (decF y.m.t q.ls x).2 = 0 ∧ chkI (decF y.m.t q.ls x).1 = 0 ∧ ((decF y.m.t q.ls x).1.s = mb ∨ (decF y.m.t q.ls x).1.b = mb) := fun x hx => by
       obtain ⟨h1, h2⟩ := List.mem_filter.1 hx
       obtain ⟨h3, _, h5⟩ := keepL_ok h2
       obtain ⟨h6, h7⟩ := HGD.out x h1
       exact decF_ok h3 h5 h6 h7
      have HG := Lib.hid (each_decide wL mb pi po ni ci no co xs (xs.filter (keepL y.m.y)) pL nL cL (decF y.m.t q.ls) P (w.heap.size + 1 + 1) gq (HV.out.its.kept HB4.out) HV.out.nx.1 (by have h := HV.out.ai; rw [← HV.out.nx.1] at h; exact h) (fun b hb => Nat.lt_of_lt_of_le (HV.out.lt b hb) HB4.out.size) HV.out.srt HIR.out HNL.out.symm (by have h1 := HV.out.nx; have h2 := List.length_filter_le (keepL y.m.y) xs; omega) hokx hsay)
      clear hsay hokx
      obtain ⟨xz, hxz⟩ : ∃ l, eachX (decF y.m.t q.ls) xs (xs.filter (keepL y.m.y)) = l := ⟨_, rfl⟩
      rw [hxz] at HG
      have HXZ := Lib.hid hxz
      clear hxz
      unfold bookV at HG
      go_simp
      go_at_call 46
      refine HG.out.mono ?_
      rintro y9 wE ⟨pz, cz, rfl, hrow, hat, hb⟩
      clear HG HIR
      have HRZ := Lib.hid hrow
      have HAZ : Hid (At (fun b => P b ∨ gq < b) (.slice pz xz.length cz) xz.length) := Lib.hid (hat.imp (fun b h => h.imp id (fun h => by have := Hq4.out.lt; omega)))
      have HLZ : Hid (∀ b, P b → b < w.heap.size) := Lib.hid HV.out.lt
      clear hrow hat
      have Hp5 := kbq Hp4 hb
      have Hb5 := kbq Hb4 hb
      have Hm5 := kbq Hm4 hb
      have Hrp5 := kbq Hrp4 hb
      have Hrb5 := kbq Hrb4 hb
      have Hq5 := kbq Hq4 hb
      have HB5 := ktq HB4 hb
      have HZ5 := kzq HZ4 hb.size
      clear Hp4 Hb4 Hm4 Hrp4 Hrb4 Hq4 HB4 HZ4
      clear hb hS0
      try go_wp2_with fail
      refine hK.out _ _ ⟨Hm5.out.cell 0, Hm5.out.cell 1, Hm5.out.cell 2, Hm5.out.cell 3, Hm5.out.cell 4, Hm5.out.cell 5, Hm5.out.cell 6, Hm5.out.cell 7, Hm5.out.cell 8, Hm5.out.cell 9, Hm5.out.cell 10, Hq5.out.cell 0, Hq5.out.cell 1, Hq5.out.cell 2, Hq5.out.cell 3⟩ (fun hS0 => ?_)
      clear hK K
      try simp only [Act.put, List.getElem_toArray, List.getElem_cons_succ, List.getElem_cons_zero, List.setIfInBounds_toArray, List.set_cons_zero, List.set_cons_succ]
      refine tkq 7 ?_
      refine tkq 8 ?_
      refine tkq 9 ?_
      refine rdq 10 (fun K hK => ?_)
      have z0 : wE.cell? ⟨(w.heap.size + 1), 0, none⟩ = some (.int .i64 mb) := Hb5.out.cell 0
      have z1 : wE.cell? ⟨(w.heap.size + 1), 1, none⟩ = some (.slice pi ni ci) := Hb5.out.cell 1
      have z2 : wE.cell? ⟨(w.heap.size + 1), 2, none⟩ = some (.slice po no co) := Hb5.out.cell 2
      have f0 := Hb5.out.free 0
      have f1 := Hb5.out.free 1
      have f2 := Hb5.out.free 2
      go_simp
      clear z0 z1 z2 f0 f1 f2
      have hch := Lib.hid ((((Chg.refl (w.heap.size + 1) wE).set 0 (.int .i64 mb)).set 1 (.slice pz xz.length cz)).set 2 (.slice po no co))
      have Hb6 : Hid (Blk _ (w.heap.size + 1) #[.int .i64 mb, .slice pz xz.length cz, .slice po no co] 28) := Lib.hid (((Hb5.out.set 0 (.int .i64 mb)).set 1 (.slice pz xz.length cz)).set 2 (.slice po no co))
      have HB6 := ksq HB5 hch (by show w.heap.size ≤ (w.heap.size + 1); omega)
      have HZ6 := kzq HZ5 hch.out.size
      have Hp6 := kcq Hp5 hch (by have := HGQ.out; omega)
      have Hm6 := kcq Hm5 hch (by have := HGQ.out; omega)
      have Hrp6 := kcq Hrp5 hch (by have := HGQ.out; omega)
      have Hrb6 := kcq Hrb5 hch (by have := HGQ.out; omega)
      have Hq6 := kcq Hq5 hch (by have := HGQ.out; omega)
      have HRZ := Lib.hid (HRZ.out.keepP HAZ.out (KeepP.of_chg hch.out (by have := HGQ.out; have h9 := HLZ.out; rintro (h | h); (have h8 := h9 _ h; omega); have h8 := HGQ.out; omega)))
      clear hch hS0 Hp5 Hb5 Hm5 Hrp5 Hrb5 Hq5 HB5 HZ5
      generalize (((wE.setCell ⟨w.heap.size + 1, 0, none⟩ (.int .i64 mb)).setCell ⟨w.heap.size + 1, 1, none⟩ (.slice pz xz.length cz)).setCell ⟨w.heap.size + 1, 2, none⟩ (.slice po no co)) = WByc at *
      refine hK.out _ _ ⟨Hm6.out.cell 0, Hm6.out.cell 1, Hm6.out.cell 2, Hm6.out.cell 3, Hm6.out.cell 4, Hm6.out.cell 5, Hm6.out.cell 6, Hm6.out.cell 7, Hm6.out.cell 8, Hm6.out.cell 9, Hm6.out.cell 10, Hq6.out.cell 0, Hq6.out.cell 1, Hq6.out.cell 2, Hq6.out.cell 3⟩ (fun hS0 => ?_)
      clear hK K
      try simp only [Act.put, List.getElem_toArray, List.getElem_cons_succ, List.getElem_cons_zero, List.setIfInBounds_toArray, List.set_cons_zero, List.set_cons_succ]
      refine tkq 11 ?_
      refine wpAnyH_done (by kernel_rfl) ?_ _
      clear hS0
      go_upto_region 7 with fail
      have z2 : WByc.cell? ⟨gq, 2, none⟩ = some (.int .i64 q.st) := Hq6.out.cell 2
      have f2 := Hq6.out.free 2
      go_upto_region 8 with fail
      clear z2 f2
      have hch := Lib.hid ((Chg.refl gq WByc).set 2 (.int .i64 5))
      have Hq7 : Hid (Blk _ gq #[.int .i64 q.cy, .int .i64 q.cu, .int .i64 5, .slice q.p q.ls.length q.c] 58) := Lib.hid (Hq6.out.set 2 (.int .i64 5))
      have HB7 := ksq HB6 hch (by show w.heap.size ≤ gq; have := HGQ.out; omega)
      have HZ7 := kzq HZ6 hch.out.size
      have Hp7 := kcq Hp6 hch (by have := HGQ.out; omega)
      have Hb7 := kcq Hb6 hch (by have := HGQ.out; omega)
      have Hm7 := kcq Hm6 hch (by have := HGQ.out; omega)
      have Hrp7 := kcq Hrp6 hch (by have := HGQ.out; omega)
      have Hrb7 := kcq Hrb6 hch (by have := HGQ.out; omega)
      have HRZ := Lib.hid (HRZ.out.keepP HAZ.out (KeepP.of_chg hch.out (by have := HGQ.out; have h9 := HLZ.out; rintro (h | h); (have h8 := h9 _ h; omega); omega)))
      clear hch Hp6 Hb6 Hm6 Hrp6 Hrb6 Hq6 HB6 HZ6
      generalize (WByc.setCell ⟨gq, 2, none⟩ (.int .i64 5)) = W7yc at *
      have c8 : W7yc.cell? ⟨(w.heap.size + 1 + 1), 8, none⟩ = some (.bool true) := by have h := Hm7.out.cell 8; rw [← HTV.out]; exact h
      go_upto_region 9 with fail
      clear c8
      have z2 : W7yc.cell? ⟨gq, 2, none⟩ = some (.int .i64 5) := Hq7.out.cell 2
      have f2 := Hq7.out.free 2
      go_upto_region 10 with fail
      clear z2 f2
      have hch := Lib.hid ((Chg.refl gq W7yc).set 2 (.int .i64 4))
      have Hq8 : Hid (Blk _ gq #[.int .i64 q.cy, .int .i64 q.cu, .int .i64 4, .slice q.p q.ls.length q.c] 58) := Lib.hid (Hq7.out.set 2 (.int .i64 4))
      have HB8 := ksq HB7 hch (by show w.heap.size ≤ gq; have := HGQ.out; omega)
      have HZ8 := kzq HZ7 hch.out.size
      have Hp8 := kcq Hp7 hch (by have := HGQ.out; omega)
      have Hb8 := kcq Hb7 hch (by have := HGQ.out; omega)
      have Hm8 := kcq Hm7 hch (by have := HGQ.out; omega)
      have Hrp8 := kcq Hrp7 hch (by have := HGQ.out; omega)
      have Hrb8 := kcq Hrb7 hch (by have := HGQ.out; omega)
      have HRZ := Lib.hid (HRZ.out.keepP HAZ.out (KeepP.of_chg hch.out (by have := HGQ.out; have h9 := HLZ.out; rintro (h | h); (have h8 := h9 _ h; omega); omega)))
      clear hch Hp7 Hb7 Hm7 Hrp7 Hrb7 Hq7 HB7 HZ7
      generalize (W7yc.setCell ⟨gq, 2, none⟩ (.int .i64 4)) = W9yc at *
      have hbd := (Below.refl W9yc.heap.size W9yc).drew
      refine wp_region_held_drew (S := fun w' => w'.cell? ⟨w.heap.size, 0, none⟩ = some (.int .i64 me) ∧ w'.cell? ⟨w.heap.size, 1, none⟩ = some (.int .i64 N) ∧ w'.cell? ⟨w.heap.size, 2, none⟩ = some (.slice p n c) ∧ w'.cell? ⟨w.heap.size + 1, 0, none⟩ = some (.int .i64 mb) ∧ w'.cell? ⟨w.heap.size + 1, 1, none⟩ = some (.slice pz xz.length cz) ∧ w'.cell? ⟨w.heap.size + 1, 2, none⟩ = some (.slice po no co) ∧ w'.cell? ⟨gq, 0, none⟩ = some (.int .i64 q.cy) ∧ w'.cell? ⟨gq, 1, none⟩ = some (.int .i64 q.cu) ∧ w'.cell? ⟨gq, 2, none⟩ = some (.int .i64 4) ∧ w'.cell? ⟨gq, 3, none⟩ = some (.slice q.p q.ls.length q.c)) (by kernel_rfl) ⟨(Hp8.out.below hbd Hp8.out.lt).cell 0, (Hp8.out.below hbd Hp8.out.lt).cell 1, (Hp8.out.below hbd Hp8.out.lt).cell 2, (Hb8.out.below hbd Hb8.out.lt).cell 0, (Hb8.out.below hbd Hb8.out.lt).cell 1, (Hb8.out.below hbd Hb8.out.lt).cell 2, (Hq8.out.below hbd Hq8.out.lt).cell 0, (Hq8.out.below hbd Hq8.out.lt).cell 1, (Hq8.out.below hbd Hq8.out.lt).cell 2, (Hq8.out.below hbd Hq8.out.lt).cell 3⟩ (fun hS0 => ?_)
      have HRZ := Lib.hid (HRZ.out.kept hbd)
      generalize W9yc.drew = WFyc at *
      have Hp9 := kbq Hp8 hbd
      have Hb9 := kbq Hb8 hbd
      have Hm9 := kbq Hm8 hbd
      have Hrp9 := kbq Hrp8 hbd
      have Hrb9 := kbq Hrb8 hbd
      have Hq9 := kbq Hq8 hbd
      have HB9 := ktq HB8 hbd
      have HZ9 := kzq HZ8 hbd.size
      clear Hp8 Hb8 Hm8 Hrp8 Hrb8 Hq8 HB8 HZ8
      clear hbd
      refine tkq 0 ?_
      refine tkq 1 ?_
      refine tkq 3 ?_
      refine tkq 4 ?_
      refine rdq 2 (fun K hK => ?_)
      have HG := Lib.hid (pwith_any WFyc me N p n c ps (⟨q.cy, q.cu, 4, q.p, q.c, q.ls⟩ : PtX) (HV.out.pts.row.kept HB9.out) HV.out.np.1 (by have := HV.out.np; omega) HV.out.pts.srt)
      unfold PtX.v at HG
      go_simp
      go_at_call 50
      refine HG.out.mono ?_
      rintro y9 w3yc ⟨p3, n3, c3, rfl, hown, hb⟩
      clear HG
      have HP3 := Lib.hid hown
      have HSN : Hid (w.heap.size ≤ WFyc.heap.size) := Lib.hid HB9.out.size
      have HG3 : Hid (∀ g, (Value.slice p3 n3 c3).ownBlock = some g → gq < g) := fun g hg => by have h1 := hown.block_ge g hg; have h2 := Hq9.out.lt; omega
      have HRZ := Lib.hid (HRZ.out.kept hb)
      clear hown
      have Hp10 := kbq Hp9 hb
      have Hb10 := kbq Hb9 hb
      have Hm10 := kbq Hm9 hb
      have Hrp10 := kbq Hrp9 hb
      have Hrb10 := kbq Hrb9 hb
      have Hq10 := kbq Hq9 hb
      have HB10 := ktq HB9 hb
      have HZ10 := kzq HZ9 hb.size
      clear Hp9 Hb9 Hm9 Hrp9 Hrb9 Hq9 HB9 HZ9
      clear hb hS0
      try go_wp2_with fail
      refine hK.out _ _ ⟨Hp10.out.cell 0, Hp10.out.cell 1, Hp10.out.cell 2, Hb10.out.cell 0, Hb10.out.cell 1, Hb10.out.cell 2, Hq10.out.cell 0, Hq10.out.cell 1, Hq10.out.cell 2, Hq10.out.cell 3⟩ (fun hS0 => ?_)
      clear hK K
      try simp only [Act.put, List.getElem_toArray, List.getElem_cons_succ, List.getElem_cons_zero, List.setIfInBounds_toArray, List.set_cons_zero, List.set_cons_succ]
      have Sn10 := HP3
      clear HP3
      refine rdq 5 (fun K hK => ?_)
      have z0 : w3yc.cell? ⟨(w.heap.size + 1 + 1 + 1), 0, none⟩ = some (.int .i64 0) := Hrp10.out.cell 0
      have z1 : w3yc.cell? ⟨(w.heap.size + 1 + 1 + 1), 1, none⟩ = some (.int .i64 0) := Hrp10.out.cell 1
      have z2 : w3yc.cell? ⟨(w.heap.size + 1 + 1 + 1), 2, none⟩ = some (.slice none 0 0) := Hrp10.out.cell 2
      have f0 := Hrp10.out.free 0
      have f1 := Hrp10.out.free 1
      have f2 := Hrp10.out.free 2
      go_simp
      clear z0 z1 z2 f0 f1 f2
      have hch := Lib.hid ((((Chg.refl (w.heap.size + 1 + 1 + 1) w3yc).set 0 (.int .i64 me)).set 1 (.int .i64 N)).set 2 (.slice p3 n3 c3))
      have Hrp11 : Hid (Blk _ (w.heap.size + 1 + 1 + 1) #[.int .i64 me, .int .i64 N, .slice p3 n3 c3] 36) := Lib.hid (((Hrp10.out.set 0 (.int .i64 me)).set 1 (.int .i64 N)).set 2 (.slice p3 n3 c3))
      have HB11 := ksq HB10 hch (by show w.heap.size ≤ (w.heap.size + 1 + 1 + 1); omega)
      have HZ11 := kzq HZ10 hch.out.size
      have Hp11 := kcq Hp10 hch (by have := HGQ.out; omega)
      have Hb11 := kcq Hb10 hch (by have := HGQ.out; omega)
      have Hm11 := kcq Hm10 hch (by have := HGQ.out; omega)
      have Hrb11 := kcq Hrb10 hch (by have := HGQ.out; omega)
      have Hq11 := kcq Hq10 hch (by have := HGQ.out; omega)
      have Sn11 := Lib.hid (Sn10.out.stay (fun b hb => hch.out.2 b (Sn10.out.lt b hb) (by have h1 := Sn10.out.block_ge b hb; have h9 := HG3.out b hb; have h8 := HGQ.out; omega)))
      have HRZ := Lib.hid (HRZ.out.keepP HAZ.out (KeepP.of_chg hch.out (by have := HGQ.out; have h9 := HLZ.out; rintro (h | h); (have h8 := h9 _ h; omega); have h8 := HGQ.out; omega)))
      clear hch hS0 Hp10 Hb10 Hm10 Hrp10 Hrb10 Hq10 Sn10 HB10 HZ10
      generalize (((w3yc.setCell ⟨w.heap.size + 1 + 1 + 1, 0, none⟩ (.int .i64 me)).setCell ⟨w.heap.size + 1 + 1 + 1, 1, none⟩ (.int .i64 N)).setCell ⟨w.heap.size + 1 + 1 + 1, 2, none⟩ (.slice p3 n3 c3)) = WPyc at *
      refine hK.out _ _ ⟨Hp11.out.cell 0, Hp11.out.cell 1, Hp11.out.cell 2, Hb11.out.cell 0, Hb11.out.cell 1, Hb11.out.cell 2, Hq11.out.cell 0, Hq11.out.cell 1, Hq11.out.cell 2, Hq11.out.cell 3⟩ (fun hS0 => ?_)
      clear hK K
      try simp only [Act.put, List.getElem_toArray, List.getElem_cons_succ, List.getElem_cons_zero, List.setIfInBounds_toArray, List.set_cons_zero, List.set_cons_succ]
      refine rdq 6 (fun K hK => ?_)
      have z0 : WPyc.cell? ⟨(w.heap.size + 1 + 1 + 1 + 1), 0, none⟩ = some (.int .i64 0) := Hrb11.out.cell 0
      have z1 : WPyc.cell? ⟨(w.heap.size + 1 + 1 + 1 + 1), 1, none⟩ = some (.slice none 0 0) := Hrb11.out.cell 1
      have z2 : WPyc.cell? ⟨(w.heap.size + 1 + 1 + 1 + 1), 2, none⟩ = some (.slice none 0 0) := Hrb11.out.cell 2
      have f0 := Hrb11.out.free 0
      have f1 := Hrb11.out.free 1
      have f2 := Hrb11.out.free 2
      go_simp
      clear z0 z1 z2 f0 f1 f2
      have hch := Lib.hid ((((Chg.refl (w.heap.size + 1 + 1 + 1 + 1) WPyc).set 0 (.int .i64 mb)).set 1 (.slice pz xz.length cz)).set 2 (.slice po no co))
      have Hrb12 : Hid (Blk _ (w.heap.size + 1 + 1 + 1 + 1) #[.int .i64 mb, .slice pz xz.length cz, .slice po no co] 28) := Lib.hid (((Hrb11.out.set 0 (.int .i64 mb)).set 1 (.slice pz xz.length cz)).set 2 (.slice po no co))
      have HB12 := ksq HB11 hch (by show w.heap.size ≤ (w.heap.size + 1 + 1 + 1 + 1); omega)
      have HZ12 := kzq HZ11 hch.out.size
      have Hp12 := kcq Hp11 hch (by have := HGQ.out; omega)
      have Hb12 := kcq Hb11 hch (by have := HGQ.out; omega)
      have Hm12 := kcq Hm11 hch (by have := HGQ.out; omega)
      have Hrp12 := kcq Hrp11 hch (by have := HGQ.out; omega)
      have Hq12 := kcq Hq11 hch (by have := HGQ.out; omega)
      have Sn12 := Lib.hid (Sn11.out.stay (fun b hb => hch.out.2 b (Sn11.out.lt b hb) (by have h1 := Sn11.out.block_ge b hb; have h9 := HG3.out b hb; have h8 := HGQ.out; omega)))
      have HRZ := Lib.hid (HRZ.out.keepP HAZ.out (KeepP.of_chg hch.out (by have := HGQ.out; have h9 := HLZ.out; rintro (h | h); (have h8 := h9 _ h; omega); have h8 := HGQ.out; omega)))
      clear hch hS0 Hp11 Hb11 Hm11 Hrp11 Hrb11 Hq11 Sn11 HB11 HZ11
      generalize (((WPyc.setCell ⟨w.heap.size + 1 + 1 + 1 + 1, 0, none⟩ (.int .i64 mb)).setCell ⟨w.heap.size + 1 + 1 + 1 + 1, 1, none⟩ (.slice pz xz.length cz)).setCell ⟨w.heap.size + 1 + 1 + 1 + 1, 2, none⟩ (.slice po no co)) = WQyc at *
      refine hK.out _ _ ⟨Hp12.out.cell 0, Hp12.out.cell 1, Hp12.out.cell 2, Hb12.out.cell 0, Hb12.out.cell 1, Hb12.out.cell 2, Hq12.out.cell 0, Hq12.out.cell 1, Hq12.out.cell 2, Hq12.out.cell 3⟩ (fun hS0 => ?_)
      clear hK K
      try simp only [Act.put, List.getElem_toArray, List.getElem_cons_succ, List.getElem_cons_zero, List.setIfInBounds_toArray, List.set_cons_zero, List.set_cons_succ]
      refine tkq 7 ?_
      refine tkq 8 ?_
      refine wpAnyH_done (by kernel_rfl) ?_ _
      clear hS0
      go_wp2_with fail
      have hfp := Hrp12.out
      have hfb := Hrb12.out
      refine bodyPost_ret (v := .tuple #[.agg #[.int .i64 me, .int .i64 N, .slice p3 n3 c3], .agg #[.int .i64 mb, .slice pz xz.length cz, .slice po no co], .slice none 0 0, .int .i64 0]) (by simp [results, Try.results32, go_sem, hfp.cell 0, hfp.cell 1, hfp.cell 2, hfb.cell 0, hfb.cell 1, hfb.cell 2]) rfl ⟨HB12.out, p3, n3, c3, pz, xz.length, cz, _, insC ps (⟨q.cy, q.cu, 4, q.p, q.c, q.ls⟩ : PtX), xz, [], 0, rfl, insC_pts HV.out.pts HB12.out Sn12.out ⟨((HV.out.pts.ls q (openP_mem HQ.out)).1.kept HB12.out), (HV.out.pts.ls q (openP_mem HQ.out)).2.imp (fun _ h => .inl h)⟩ (fun _ h => .inl h) (fun b hb => .inr (Nat.le_trans HSN.out hb)), HRZ.out, HAZ.out.imp (fun b h => h.imp id (fun h => by have := HGQ.out; omega)), OwnT.nil_ _ _ _ _, saidR_nil _ _, ?_⟩
      refine ⟨rfl, fun h => absurd (by rw [HQ.out]) h, fun _ _ h => absurd (by rw [HQ.out]; exact HS2.out) h, fun _ _ => ⟨rfl, ?_, ?_⟩⟩
      ·rw [HQ.out, HTV.out]; rfl
      ·rw [HQ.out]; exact HXZ.out.symm
   ·have h2b : (q.st != 2) = true := by simpa using h2
    have HS2 : Hid (q.st ≠ 2) := h2
    clear h2
    go_upto_region 5 with fail
    clear m8 x2 h2b
    clear Hq2
    have hbd := (Below.refl W1.heap.size W1).drew
    refine wp_region_held_drew (S := fun w' => w'.cell? ⟨w.heap.size, 0, none⟩ = some (.int .i64 me) ∧ w'.cell? ⟨w.heap.size, 1, none⟩ = some (.int .i64 N) ∧ w'.cell? ⟨w.heap.size, 2, none⟩ = some (.slice p n c) ∧ w'.cell? ⟨w.heap.size + 1, 0, none⟩ = some (.int .i64 mb) ∧ w'.cell? ⟨w.heap.size + 1, 1, none⟩ = some (.slice pi ni ci) ∧ w'.cell? ⟨w.heap.size + 1, 2, none⟩ = some (.slice po no co)) (by kernel_rfl) ⟨(Hp2.out.below hbd Hp2.out.lt).cell 0, (Hp2.out.below hbd Hp2.out.lt).cell 1, (Hp2.out.below hbd Hp2.out.lt).cell 2, (Hb2.out.below hbd Hb2.out.lt).cell 0, (Hb2.out.below hbd Hb2.out.lt).cell 1, (Hb2.out.below hbd Hb2.out.lt).cell 2⟩ (fun hS0 => ?_)
    generalize W1.drew = WDe at *
    have Hp3 := kbq Hp2 hbd
    have Hb3 := kbq Hb2 hbd
    have Hm3 := kbq Hm2 hbd
    have Hrp3 := kbq Hrp2 hbd
    have Hrb3 := kbq Hrb2 hbd
    have HB3 := ktq HB2 hbd
    have HZ3 := kzq HZ2 hbd.size
    clear Hp2 Hb2 Hm2 Hrp2 Hrb2 HB2 HZ2
    clear hbd
    refine tkq 0 ?_
    refine tkq 1 ?_
    refine rdq 2 (fun K hK => ?_)
    have z0 : WDe.cell? ⟨(w.heap.size + 1 + 1 + 1), 0, none⟩ = some (.int .i64 0) := Hrp3.out.cell 0
    have z1 : WDe.cell? ⟨(w.heap.size + 1 + 1 + 1), 1, none⟩ = some (.int .i64 0) := Hrp3.out.cell 1
    have z2 : WDe.cell? ⟨(w.heap.size + 1 + 1 + 1), 2, none⟩ = some (.slice none 0 0) := Hrp3.out.cell 2
    have f0 := Hrp3.out.free 0
    have f1 := Hrp3.out.free 1
    have f2 := Hrp3.out.free 2
    go_simp
    clear z0 z1 z2 f0 f1 f2
    have hch := Lib.hid ((((Chg.refl (w.heap.size + 1 + 1 + 1) WDe).set 0 (.int .i64 me)).set 1 (.int .i64 N)).set 2 (.slice p n c))
    have Hrp4 : Hid (Blk _ (w.heap.size + 1 + 1 + 1) #[.int .i64 me, .int .i64 N, .slice p n c] 36) := Lib.hid (((Hrp3.out.set 0 (.int .i64 me)).set 1 (.int .i64 N)).set 2 (.slice p n c))
    have HB4 := ksq HB3 hch (by show w.heap.size ≤ (w.heap.size + 1 + 1 + 1); omega)
    have HZ4 := kzq HZ3 hch.out.size
    have Hp4 := kcq Hp3 hch (by omega)
    have Hb4 := kcq Hb3 hch (by omega)
    have Hm4 := kcq Hm3 hch (by omega)
    have Hrb4 := kcq Hrb3 hch (by omega)
    clear hch hS0 Hp3 Hb3 Hm3 Hrp3 Hrb3 HB3 HZ3
    generalize (((WDe.setCell ⟨w.heap.size + 1 + 1 + 1, 0, none⟩ (.int .i64 me)).setCell ⟨w.heap.size + 1 + 1 + 1, 1, none⟩ (.int .i64 N)).setCell ⟨w.heap.size + 1 + 1 + 1, 2, none⟩ (.slice p n c)) = WPe at *
    refine hK.out _ _ ⟨Hp4.out.cell 0, Hp4.out.cell 1, Hp4.out.cell 2, Hb4.out.cell 0, Hb4.out.cell 1, Hb4.out.cell 2⟩ (fun hS0 => ?_)
    clear hK K
    try simp only [Act.put, List.getElem_toArray, List.getElem_cons_succ, List.getElem_cons_zero, List.setIfInBounds_toArray, List.set_cons_zero, List.set_cons_succ]
    refine rdq 3 (fun K hK => ?_)
    have z0 : WPe.cell? ⟨(w.heap.size + 1 + 1 + 1 + 1), 0, none⟩ = some (.int .i64 0) := Hrb4.out.cell 0
    have z1 : WPe.cell? ⟨(w.heap.size + 1 + 1 + 1 + 1), 1, none⟩ = some (.slice none 0 0) := Hrb4.out.cell 1
    have z2 : WPe.cell? ⟨(w.heap.size + 1 + 1 + 1 + 1), 2, none⟩ = some (.slice none 0 0) := Hrb4.out.cell 2
    have f0 := Hrb4.out.free 0
    have f1 := Hrb4.out.free 1
    have f2 := Hrb4.out.free 2
    go_simp
    clear z0 z1 z2 f0 f1 f2
    have hch := Lib.hid ((((Chg.refl (w.heap.size + 1 + 1 + 1 + 1) WPe).set 0 (.int .i64 mb)).set 1 (.slice pi ni ci)).set 2 (.slice po no co))
    have Hrb5 : Hid (Blk _ (w.heap.size + 1 + 1 + 1 + 1) #[.int .i64 mb, .slice pi ni ci, .slice po no co] 28) := Lib.hid (((Hrb4.out.set 0 (.int .i64 mb)).set 1 (.slice pi ni ci)).set 2 (.slice po no co))
    have HB5 := ksq HB4 hch (by show w.heap.size ≤ (w.heap.size + 1 + 1 + 1 + 1); omega)
    have HZ5 := kzq HZ4 hch.out.size
    have Hp5 := kcq Hp4 hch (by omega)
    have Hb5 := kcq Hb4 hch (by omega)
    have Hm5 := kcq Hm4 hch (by omega)
    have Hrp5 := kcq Hrp4 hch (by omega)
    clear hch hS0 Hp4 Hb4 Hm4 Hrp4 Hrb4 HB4 HZ4
    generalize (((WPe.setCell ⟨w.heap.size + 1 + 1 + 1 + 1, 0, none⟩ (.int .i64 mb)).setCell ⟨w.heap.size + 1 + 1 + 1 + 1, 1, none⟩ (.slice pi ni ci)).setCell ⟨w.heap.size + 1 + 1 + 1 + 1, 2, none⟩ (.slice po no co)) = WQe at *
    refine hK.out _ _ ⟨Hp5.out.cell 0, Hp5.out.cell 1, Hp5.out.cell 2, Hb5.out.cell 0, Hb5.out.cell 1, Hb5.out.cell 2⟩ (fun hS0 => ?_)
    clear hK K
    try simp only [Act.put, List.getElem_toArray, List.getElem_cons_succ, List.getElem_cons_zero, List.setIfInBounds_toArray, List.set_cons_zero, List.set_cons_succ]
    refine tkq 4 ?_
    refine tkq 5 ?_
    refine wpAnyH_done (by kernel_rfl) ?_ _
    clear hS0
    go_wp2_with fail
    have hfp := Hrp5.out
    have hfb := Hrb5.out
    refine bodyPost_ret (v := .tuple #[.agg #[.int .i64 me, .int .i64 N, .slice p n c], .agg #[.int .i64 mb, .slice pi ni ci, .slice po no co], .slice none 0 0, .int .i64 90]) (by simp [results, Try.results32, go_sem, hfp.cell 0, hfp.cell 1, hfp.cell 2, hfb.cell 0, hfb.cell 1, hfb.cell 2]) rfl ⟨HB5.out, p, n, c, pi, ni, ci, _, ps, xs, [], 90, rfl, (HV.out.same HB5.out).1, (HV.out.same HB5.out).2.1, (HV.out.same HB5.out).2.2, OwnT.nil_ _ _ _ _, saidR_nil _ _, rfl, fun h => absurd (by rw [HQ.out]) h, fun _ _ _ => ⟨rfl, rfl, rfl⟩, fun _ h => absurd (by have h3 := h HTV.out; rw [HQ.out] at h3; exact h3) HS2.out⟩
  | false =>
   have HTV : Hid (y.m.t = false) := htv
   rw [htv] at m8
   clear htv
   go_upto_region 6 with fail
   clear m8 x2
   have hbd := (Below.refl W1.heap.size W1).drew
   refine wp_region_held_drew (S := fun w' => w'.cell? ⟨w.heap.size + 1 + 1, 0, none⟩ = some (.int .i64 y.m.k) ∧ w'.cell? ⟨w.heap.size + 1 + 1, 1, none⟩ = some (.int .i64 y.m.s) ∧ w'.cell? ⟨w.heap.size + 1 + 1, 2, none⟩ = some (.int .i64 y.m.n) ∧ w'.cell? ⟨w.heap.size + 1 + 1, 3, none⟩ = some (.int .i64 y.m.b) ∧ w'.cell? ⟨w.heap.size + 1 + 1, 4, none⟩ = some (.int .i64 y.m.c) ∧ w'.cell? ⟨w.heap.size + 1 + 1, 5, none⟩ = some (.int .i64 y.m.r) ∧ w'.cell? ⟨w.heap.size + 1 + 1, 6, none⟩ = some (.int .i64 y.m.y) ∧ w'.cell? ⟨w.heap.size + 1 + 1, 7, none⟩ = some (.int .i64 y.m.a) ∧ w'.cell? ⟨w.heap.size + 1 + 1, 8, none⟩ = some (.bool y.m.t) ∧ w'.cell? ⟨w.heap.size + 1 + 1, 9, none⟩ = some (.slice y.pl y.m.ls.length y.cl) ∧ w'.cell? ⟨w.heap.size + 1 + 1, 10, none⟩ = some (.slice y.pn y.m.ns.length y.cn) ∧ w'.cell? ⟨gq, 0, none⟩ = some (.int .i64 q.cy) ∧ w'.cell? ⟨gq, 1, none⟩ = some (.int .i64 q.cu) ∧ w'.cell? ⟨gq, 2, none⟩ = some (.int .i64 q.st) ∧ w'.cell? ⟨gq, 3, none⟩ = some (.slice q.p q.ls.length q.c)) (by kernel_rfl) ⟨(Hm2.out.below hbd Hm2.out.lt).cell 0, (Hm2.out.below hbd Hm2.out.lt).cell 1, (Hm2.out.below hbd Hm2.out.lt).cell 2, (Hm2.out.below hbd Hm2.out.lt).cell 3, (Hm2.out.below hbd Hm2.out.lt).cell 4, (Hm2.out.below hbd Hm2.out.lt).cell 5, (Hm2.out.below hbd Hm2.out.lt).cell 6, (Hm2.out.below hbd Hm2.out.lt).cell 7, (Hm2.out.below hbd Hm2.out.lt).cell 8, (Hm2.out.below hbd Hm2.out.lt).cell 9, (Hm2.out.below hbd Hm2.out.lt).cell 10, (Hq2.out.below hbd Hq2.out.lt).cell 0, (Hq2.out.below hbd Hq2.out.lt).cell 1, (Hq2.out.below hbd Hq2.out.lt).cell 2, (Hq2.out.below hbd Hq2.out.lt).cell 3⟩ (fun hS0 => ?_)
   generalize W1.drew = WDn at *
   have Hp3 := kbq Hp2 hbd
   have Hb3 := kbq Hb2 hbd
   have Hm3 := kbq Hm2 hbd
   have Hrp3 := kbq Hrp2 hbd
   have Hrb3 := kbq Hrb2 hbd
   have Hq3 := kbq Hq2 hbd
   have HB3 := ktq HB2 hbd
   have HZ3 := kzq HZ2 hbd.size
   clear Hp2 Hb2 Hm2 Hrp2 Hrb2 Hq2 HB2 HZ2
   clear hbd
   refine tkq 2 ?_
   refine tkq 3 ?_
   refine tkq 5 ?_
   refine wpAnyH_ready (rs := [0, 1]) (by kernel_rfl) (by simp) ?_
   refine AllReadyH.cons rfl (fun K hK => ?_) (AllReadyH.cons rfl (fun K hK => ?_) AllReadyH.nil)
   ·skip
    have a0 : WDn.cell? ⟨(w.heap.size + 1), 0, none⟩ = some (.int .i64 mb) := Hb3.out.cell 0
    have a1 : WDn.cell? ⟨(w.heap.size + 1), 1, none⟩ = some (.slice pi ni ci) := Hb3.out.cell 1
    have a2 : WDn.cell? ⟨(w.heap.size + 1), 2, none⟩ = some (.slice po no co) := Hb3.out.cell 2
    go_simp
    clear a0 a1 a2
    refine hK.out _ _ ⟨Hm3.out.cell 0, Hm3.out.cell 1, Hm3.out.cell 2, Hm3.out.cell 3, Hm3.out.cell 4, Hm3.out.cell 5, Hm3.out.cell 6, Hm3.out.cell 7, Hm3.out.cell 8, Hm3.out.cell 9, Hm3.out.cell 10, Hq3.out.cell 0, Hq3.out.cell 1, Hq3.out.cell 2, Hq3.out.cell 3⟩ (fun hS0 => ?_)
    clear hK K
    try simp only [Act.put, List.getElem_toArray, List.getElem_cons_succ, List.getElem_cons_zero, List.setIfInBounds_toArray, List.set_cons_zero, List.set_cons_succ]
    refine rdq 1 (fun K hK => ?_)
    have a0 : WDn.cell? ⟨(w.heap.size + 1), 0, none⟩ = some (.int .i64 mb) := Hb3.out.cell 0
    have a1 : WDn.cell? ⟨(w.heap.size + 1), 1, none⟩ = some (.slice pi ni ci) := Hb3.out.cell 1
    have a2 : WDn.cell? ⟨(w.heap.size + 1), 2, none⟩ = some (.slice po no co) := Hb3.out.cell 2
    go_simp
    clear a0 a1 a2
    refine hK.out _ _ ⟨Hm3.out.cell 0, Hm3.out.cell 1, Hm3.out.cell 2, Hm3.out.cell 3, Hm3.out.cell 4, Hm3.out.cell 5, Hm3.out.cell 6, Hm3.out.cell 7, Hm3.out.cell 8, Hm3.out.cell 9, Hm3.out.cell 10, Hq3.out.cell 0, Hq3.out.cell 1, Hq3.out.cell 2, Hq3.out.cell 3⟩ (fun hS0 => ?_)
    clear hK K
    try simp only [Act.put, List.getElem_toArray, List.getElem_cons_succ, List.getElem_cons_zero, List.setIfInBounds_toArray, List.set_cons_zero, List.set_cons_succ]
    refine rdq 4 (fun K hK => ?_)
    have HG := Lib.hid (blocked_any WDn mb pi po ni ci no co xs y.m.y (HV.out.its.kept HB3.out) (by have := HV.out.nx; omega))
    unfold bookV at HG
    go_simp
    go_at_call 14
    refine HG.out.mono ?_
    rintro y9 wL ⟨vL, rfl, hown, hb⟩
    clear HG
    have HIT := Lib.hid hown
    clear hown
    have Hp4 := kbq Hp3 hb
    have Hb4 := kbq Hb3 hb
    have Hm4 := kbq Hm3 hb
    have Hrp4 := kbq Hrp3 hb
    have Hrb4 := kbq Hrb3 hb
    have Hq4 := kbq Hq3 hb
    have HB4 := ktq HB3 hb
    have HZ4 := kzq HZ3 hb.size
    clear Hp3 Hb3 Hm3 Hrp3 Hrb3 Hq3 HB3 HZ3
    have HIR : Hid (TRow encI wL vL (xs.filter (keepL y.m.y))) := Lib.hid HIT.out.row
    clear hb hS0
    have hst : ∃ pL cL, vL = .slice pL (xs.filter (keepL y.m.y)).length cL := HIT.out.form
    obtain ⟨pL, cL, hvL⟩ := hst
    clear HIT
    obtain ⟨nL, hnL⟩ : ∃ k, (xs.filter (keepL y.m.y)).length = k := ⟨_, rfl⟩
    rw [hnL] at hvL
    have HNL := Lib.hid hnL
    clear hnL
    subst hvL
    try go_wp2_with fail
    refine hK.out _ _ ⟨Hm4.out.cell 0, Hm4.out.cell 1, Hm4.out.cell 2, Hm4.out.cell 3, Hm4.out.cell 4, Hm4.out.cell 5, Hm4.out.cell 6, Hm4.out.cell 7, Hm4.out.cell 8, Hm4.out.cell 9, Hm4.out.cell 10, Hq4.out.cell 0, Hq4.out.cell 1, Hq4.out.cell 2, Hq4.out.cell 3⟩ (fun hS0 => ?_)
    clear hK K
    try simp only [Act.put, List.getElem_toArray, List.getElem_cons_succ, List.getElem_cons_zero, List.setIfInBounds_toArray, List.set_cons_zero, List.set_cons_succ]
    refine rdq 6 (fun K hK => ?_)
    have hsay : ∀ W, Below wL.heap.size wL W → ∀ x : Itm, Calls Try.prog 56 #[x.v, .pointer (some ⟨w.heap.size + 1 + 1, 0, none⟩), .pointer (some ⟨gq, 0, none⟩)] W fun e w' => e = ansI (decF y.m.t q.ls x) ∧ Below W.heap.size W w' := fun W hb x => decc_any W x y.m.t q.ls q.p q.c (w.heap.size + 1 + 1) gq ((Hm4.out.below hb Hm4.out.lt).cell 8) ((Hq4.out.below hb Hq4.out.lt).cell 3) (((HV.out.pts.ls q (openP_mem HQ.out)).1.kept HB4.out).kept hb) (by have := HQL.out q (openP_mem HQ.out); omega)
    have hokx : ∀ x ∈ xs.filter (keepL y.m.y), (decF y.m.t q.ls x).2 = 0 ∧ chkI (decF y.m.t q.ls x).1 = 0 ∧ ((decF y.m.t q.ls x).1.s = mb ∨ (decF y.m.t q.ls x).1.b = mb) := fun x hx => by
     obtain ⟨h1, h2⟩ := List.mem_filter.1 hx
     obtain ⟨h3, _, h5⟩ := keepL_ok h2
     obtain ⟨h6, h7⟩ := HGD.out x h1
     exact decF_ok h3 h5 h6 h7
    have HG := Lib.hid (each_decide wL mb pi po ni ci no co xs (xs.filter (keepL y.m.y)) pL nL cL (decF y.m.t q.ls) P (w.heap.size + 1 + 1) gq (HV.out.its.kept HB4.out) HV.out.nx.1 (by have h := HV.out.ai; rw [← HV.out.nx.1] at h; exact h) (fun b hb => Nat.lt_of_lt_of_le (HV.out.lt b hb) HB4.out.size) HV.out.srt HIR.out HNL.out.symm (by have h1 := HV.out.nx; have h2 := List.length_filter_le (keepL y.m.y) xs; omega) hokx hsay)
    clear hsay hokx
    obtain ⟨xz, hxz⟩ : ∃ l, eachX (decF y.m.t q.ls) xs (xs.filter (keepL y.m.y)) = l := ⟨_, rfl⟩
    rw [hxz] at HG
    have HXZ := Lib.hid hxz
    clear hxz
    unfold bookV at HG
    go_simp
    go_at_call 46
    refine HG.out.mono ?_
    rintro y9 wE ⟨pz, cz, rfl, hrow, hat, hb⟩
    clear HG HIR
    have HRZ := Lib.hid hrow
    have HAZ : Hid (At (fun b => P b ∨ gq < b) (.slice pz xz.length cz) xz.length) := Lib.hid (hat.imp (fun b h => h.imp id (fun h => by have := Hq4.out.lt; omega)))
    have HLZ : Hid (∀ b, P b → b < w.heap.size) := Lib.hid HV.out.lt
    clear hrow hat
    have Hp5 := kbq Hp4 hb
    have Hb5 := kbq Hb4 hb
    have Hm5 := kbq Hm4 hb
    have Hrp5 := kbq Hrp4 hb
    have Hrb5 := kbq Hrb4 hb
    have Hq5 := kbq Hq4 hb
    have HB5 := ktq HB4 hb
    have HZ5 := kzq HZ4 hb.size
    clear Hp4 Hb4 Hm4 Hrp4 Hrb4 Hq4 HB4 HZ4
    clear hb hS0
    try go_wp2_with fail
    refine hK.out _ _ ⟨Hm5.out.cell 0, Hm5.out.cell 1, Hm5.out.cell 2, Hm5.out.cell 3, Hm5.out.cell 4, Hm5.out.cell 5, Hm5.out.cell 6, Hm5.out.cell 7, Hm5.out.cell 8, Hm5.out.cell 9, Hm5.out.cell 10, Hq5.out.cell 0, Hq5.out.cell 1, Hq5.out.cell 2, Hq5.out.cell 3⟩ (fun hS0 => ?_)
    clear hK K
    try simp only [Act.put, List.getElem_toArray, List.getElem_cons_succ, List.getElem_cons_zero, List.setIfInBounds_toArray, List.set_cons_zero, List.set_cons_succ]
    refine tkq 7 ?_
    refine tkq 8 ?_
    refine tkq 9 ?_
    refine rdq 10 (fun K hK => ?_)
    have z0 : wE.cell? ⟨(w.heap.size + 1), 0, none⟩ = some (.int .i64 mb) := Hb5.out.cell 0
    have z1 : wE.cell? ⟨(w.heap.size + 1), 1, none⟩ = some (.slice pi ni ci) := Hb5.out.cell 1
    have z2 : wE.cell? ⟨(w.heap.size + 1), 2, none⟩ = some (.slice po no co) := Hb5.out.cell 2
    have f0 := Hb5.out.free 0
    have f1 := Hb5.out.free 1
    have f2 := Hb5.out.free 2
    go_simp
    clear z0 z1 z2 f0 f1 f2
    have hch := Lib.hid ((((Chg.refl (w.heap.size + 1) wE).set 0 (.int .i64 mb)).set 1 (.slice pz xz.length cz)).set 2 (.slice po no co))
    have Hb6 : Hid (Blk _ (w.heap.size + 1) #[.int .i64 mb, .slice pz xz.length cz, .slice po no co] 28) := Lib.hid (((Hb5.out.set 0 (.int .i64 mb)).set 1 (.slice pz xz.length cz)).set 2 (.slice po no co))
    have HB6 := ksq HB5 hch (by show w.heap.size ≤ (w.heap.size + 1); omega)
    have HZ6 := kzq HZ5 hch.out.size
    have Hp6 := kcq Hp5 hch (by have := HGQ.out; omega)
    have Hm6 := kcq Hm5 hch (by have := HGQ.out; omega)
    have Hrp6 := kcq Hrp5 hch (by have := HGQ.out; omega)
    have Hrb6 := kcq Hrb5 hch (by have := HGQ.out; omega)
    have Hq6 := kcq Hq5 hch (by have := HGQ.out; omega)
    have HRZ := Lib.hid (HRZ.out.keepP HAZ.out (KeepP.of_chg hch.out (by have := HGQ.out; have h9 := HLZ.out; rintro (h | h); (have h8 := h9 _ h; omega); have h8 := HGQ.out; omega)))
    clear hch hS0 Hp5 Hb5 Hm5 Hrp5 Hrb5 Hq5 HB5 HZ5
    generalize (((wE.setCell ⟨w.heap.size + 1, 0, none⟩ (.int .i64 mb)).setCell ⟨w.heap.size + 1, 1, none⟩ (.slice pz xz.length cz)).setCell ⟨w.heap.size + 1, 2, none⟩ (.slice po no co)) = WBna at *
    refine hK.out _ _ ⟨Hm6.out.cell 0, Hm6.out.cell 1, Hm6.out.cell 2, Hm6.out.cell 3, Hm6.out.cell 4, Hm6.out.cell 5, Hm6.out.cell 6, Hm6.out.cell 7, Hm6.out.cell 8, Hm6.out.cell 9, Hm6.out.cell 10, Hq6.out.cell 0, Hq6.out.cell 1, Hq6.out.cell 2, Hq6.out.cell 3⟩ (fun hS0 => ?_)
    clear hK K
    try simp only [Act.put, List.getElem_toArray, List.getElem_cons_succ, List.getElem_cons_zero, List.setIfInBounds_toArray, List.set_cons_zero, List.set_cons_succ]
    refine tkq 11 ?_
    refine wpAnyH_done (by kernel_rfl) ?_ _
    clear hS0
    go_upto_region 7 with fail
    have z2 : WBna.cell? ⟨gq, 2, none⟩ = some (.int .i64 q.st) := Hq6.out.cell 2
    have f2 := Hq6.out.free 2
    go_upto_region 8 with fail
    clear z2 f2
    have hch := Lib.hid ((Chg.refl gq WBna).set 2 (.int .i64 5))
    have Hq7 : Hid (Blk _ gq #[.int .i64 q.cy, .int .i64 q.cu, .int .i64 5, .slice q.p q.ls.length q.c] 58) := Lib.hid (Hq6.out.set 2 (.int .i64 5))
    have HB7 := ksq HB6 hch (by show w.heap.size ≤ gq; have := HGQ.out; omega)
    have HZ7 := kzq HZ6 hch.out.size
    have Hp7 := kcq Hp6 hch (by have := HGQ.out; omega)
    have Hb7 := kcq Hb6 hch (by have := HGQ.out; omega)
    have Hm7 := kcq Hm6 hch (by have := HGQ.out; omega)
    have Hrp7 := kcq Hrp6 hch (by have := HGQ.out; omega)
    have Hrb7 := kcq Hrb6 hch (by have := HGQ.out; omega)
    have HRZ := Lib.hid (HRZ.out.keepP HAZ.out (KeepP.of_chg hch.out (by have := HGQ.out; have h9 := HLZ.out; rintro (h | h); (have h8 := h9 _ h; omega); omega)))
    clear hch Hp6 Hb6 Hm6 Hrp6 Hrb6 Hq6 HB6 HZ6
    generalize (WBna.setCell ⟨gq, 2, none⟩ (.int .i64 5)) = W7na at *
    have c8 : W7na.cell? ⟨(w.heap.size + 1 + 1), 8, none⟩ = some (.bool false) := by have h := Hm7.out.cell 8; rw [← HTV.out]; exact h
    go_upto_region 10 with fail
    clear c8
    have hbd := (Below.refl W7na.heap.size W7na).drew
    refine wp_region_held_drew (S := fun w' => w'.cell? ⟨w.heap.size, 0, none⟩ = some (.int .i64 me) ∧ w'.cell? ⟨w.heap.size, 1, none⟩ = some (.int .i64 N) ∧ w'.cell? ⟨w.heap.size, 2, none⟩ = some (.slice p n c) ∧ w'.cell? ⟨w.heap.size + 1, 0, none⟩ = some (.int .i64 mb) ∧ w'.cell? ⟨w.heap.size + 1, 1, none⟩ = some (.slice pz xz.length cz) ∧ w'.cell? ⟨w.heap.size + 1, 2, none⟩ = some (.slice po no co) ∧ w'.cell? ⟨gq, 0, none⟩ = some (.int .i64 q.cy) ∧ w'.cell? ⟨gq, 1, none⟩ = some (.int .i64 q.cu) ∧ w'.cell? ⟨gq, 2, none⟩ = some (.int .i64 5) ∧ w'.cell? ⟨gq, 3, none⟩ = some (.slice q.p q.ls.length q.c)) (by kernel_rfl) ⟨(Hp7.out.below hbd Hp7.out.lt).cell 0, (Hp7.out.below hbd Hp7.out.lt).cell 1, (Hp7.out.below hbd Hp7.out.lt).cell 2, (Hb7.out.below hbd Hb7.out.lt).cell 0, (Hb7.out.below hbd Hb7.out.lt).cell 1, (Hb7.out.below hbd Hb7.out.lt).cell 2, (Hq7.out.below hbd Hq7.out.lt).cell 0, (Hq7.out.below hbd Hq7.out.lt).cell 1, (Hq7.out.below hbd Hq7.out.lt).cell 2, (Hq7.out.below hbd Hq7.out.lt).cell 3⟩ (fun hS0 => ?_)
    have HRZ := Lib.hid (HRZ.out.kept hbd)
    generalize W7na.drew = WFna at *
    have Hp8 := kbq Hp7 hbd
    have Hb8 := kbq Hb7 hbd
    have Hm8 := kbq Hm7 hbd
    have Hrp8 := kbq Hrp7 hbd
    have Hrb8 := kbq Hrb7 hbd
    have Hq8 := kbq Hq7 hbd
    have HB8 := ktq HB7 hbd
    have HZ8 := kzq HZ7 hbd.size
    clear Hp7 Hb7 Hm7 Hrp7 Hrb7 Hq7 HB7 HZ7
    clear hbd
    refine tkq 0 ?_
    refine tkq 1 ?_
    refine tkq 3 ?_
    refine tkq 4 ?_
    refine rdq 2 (fun K hK => ?_)
    have HG := Lib.hid (pwith_any WFna me N p n c ps (⟨q.cy, q.cu, 5, q.p, q.c, q.ls⟩ : PtX) (HV.out.pts.row.kept HB8.out) HV.out.np.1 (by have := HV.out.np; omega) HV.out.pts.srt)
    unfold PtX.v at HG
    go_simp
    go_at_call 50
    refine HG.out.mono ?_
    rintro y9 w3na ⟨p3, n3, c3, rfl, hown, hb⟩
    clear HG
    have HP3 := Lib.hid hown
    have HSN : Hid (w.heap.size ≤ WFna.heap.size) := Lib.hid HB8.out.size
    have HG3 : Hid (∀ g, (Value.slice p3 n3 c3).ownBlock = some g → gq < g) := fun g hg => by have h1 := hown.block_ge g hg; have h2 := Hq8.out.lt; omega
    have HRZ := Lib.hid (HRZ.out.kept hb)
    clear hown
    have Hp9 := kbq Hp8 hb
    have Hb9 := kbq Hb8 hb
    have Hm9 := kbq Hm8 hb
    have Hrp9 := kbq Hrp8 hb
    have Hrb9 := kbq Hrb8 hb
    have Hq9 := kbq Hq8 hb
    have HB9 := ktq HB8 hb
    have HZ9 := kzq HZ8 hb.size
    clear Hp8 Hb8 Hm8 Hrp8 Hrb8 Hq8 HB8 HZ8
    clear hb hS0
    try go_wp2_with fail
    refine hK.out _ _ ⟨Hp9.out.cell 0, Hp9.out.cell 1, Hp9.out.cell 2, Hb9.out.cell 0, Hb9.out.cell 1, Hb9.out.cell 2, Hq9.out.cell 0, Hq9.out.cell 1, Hq9.out.cell 2, Hq9.out.cell 3⟩ (fun hS0 => ?_)
    clear hK K
    try simp only [Act.put, List.getElem_toArray, List.getElem_cons_succ, List.getElem_cons_zero, List.setIfInBounds_toArray, List.set_cons_zero, List.set_cons_succ]
    have Sn9 := HP3
    clear HP3
    refine rdq 5 (fun K hK => ?_)
    have z0 : w3na.cell? ⟨(w.heap.size + 1 + 1 + 1), 0, none⟩ = some (.int .i64 0) := Hrp9.out.cell 0
    have z1 : w3na.cell? ⟨(w.heap.size + 1 + 1 + 1), 1, none⟩ = some (.int .i64 0) := Hrp9.out.cell 1
    have z2 : w3na.cell? ⟨(w.heap.size + 1 + 1 + 1), 2, none⟩ = some (.slice none 0 0) := Hrp9.out.cell 2
    have f0 := Hrp9.out.free 0
    have f1 := Hrp9.out.free 1
    have f2 := Hrp9.out.free 2
    go_simp
    clear z0 z1 z2 f0 f1 f2
    have hch := Lib.hid ((((Chg.refl (w.heap.size + 1 + 1 + 1) w3na).set 0 (.int .i64 me)).set 1 (.int .i64 N)).set 2 (.slice p3 n3 c3))
    have Hrp10 : Hid (Blk _ (w.heap.size + 1 + 1 + 1) #[.int .i64 me, .int .i64 N, .slice p3 n3 c3] 36) := Lib.hid (((Hrp9.out.set 0 (.int .i64 me)).set 1 (.int .i64 N)).set 2 (.slice p3 n3 c3))
    have HB10 := ksq HB9 hch (by show w.heap.size ≤ (w.heap.size + 1 + 1 + 1); omega)
    have HZ10 := kzq HZ9 hch.out.size
    have Hp10 := kcq Hp9 hch (by have := HGQ.out; omega)
    have Hb10 := kcq Hb9 hch (by have := HGQ.out; omega)
    have Hm10 := kcq Hm9 hch (by have := HGQ.out; omega)
    have Hrb10 := kcq Hrb9 hch (by have := HGQ.out; omega)
    have Hq10 := kcq Hq9 hch (by have := HGQ.out; omega)
    have Sn10 := Lib.hid (Sn9.out.stay (fun b hb => hch.out.2 b (Sn9.out.lt b hb) (by have h1 := Sn9.out.block_ge b hb; have h9 := HG3.out b hb; have h8 := HGQ.out; omega)))
    have HRZ := Lib.hid (HRZ.out.keepP HAZ.out (KeepP.of_chg hch.out (by have := HGQ.out; have h9 := HLZ.out; rintro (h | h); (have h8 := h9 _ h; omega); have h8 := HGQ.out; omega)))
    clear hch hS0 Hp9 Hb9 Hm9 Hrp9 Hrb9 Hq9 Sn9 HB9 HZ9
    generalize (((w3na.setCell ⟨w.heap.size + 1 + 1 + 1, 0, none⟩ (.int .i64 me)).setCell ⟨w.heap.size + 1 + 1 + 1, 1, none⟩ (.int .i64 N)).setCell ⟨w.heap.size + 1 + 1 + 1, 2, none⟩ (.slice p3 n3 c3)) = WPna at *
    refine hK.out _ _ ⟨Hp10.out.cell 0, Hp10.out.cell 1, Hp10.out.cell 2, Hb10.out.cell 0, Hb10.out.cell 1, Hb10.out.cell 2, Hq10.out.cell 0, Hq10.out.cell 1, Hq10.out.cell 2, Hq10.out.cell 3⟩ (fun hS0 => ?_)
    clear hK K
    try simp only [Act.put, List.getElem_toArray, List.getElem_cons_succ, List.getElem_cons_zero, List.setIfInBounds_toArray, List.set_cons_zero, List.set_cons_succ]
    refine rdq 6 (fun K hK => ?_)
    have z0 : WPna.cell? ⟨(w.heap.size + 1 + 1 + 1 + 1), 0, none⟩ = some (.int .i64 0) := Hrb10.out.cell 0
    have z1 : WPna.cell? ⟨(w.heap.size + 1 + 1 + 1 + 1), 1, none⟩ = some (.slice none 0 0) := Hrb10.out.cell 1
    have z2 : WPna.cell? ⟨(w.heap.size + 1 + 1 + 1 + 1), 2, none⟩ = some (.slice none 0 0) := Hrb10.out.cell 2
    have f0 := Hrb10.out.free 0
    have f1 := Hrb10.out.free 1
    have f2 := Hrb10.out.free 2
    go_simp
    clear z0 z1 z2 f0 f1 f2
    have hch := Lib.hid ((((Chg.refl (w.heap.size + 1 + 1 + 1 + 1) WPna).set 0 (.int .i64 mb)).set 1 (.slice pz xz.length cz)).set 2 (.slice po no co))
    have Hrb11 : Hid (Blk _ (w.heap.size + 1 + 1 + 1 + 1) #[.int .i64 mb, .slice pz xz.length cz, .slice po no co] 28) := Lib.hid (((Hrb10.out.set 0 (.int .i64 mb)).set 1 (.slice pz xz.length cz)).set 2 (.slice po no co))
    have HB11 := ksq HB10 hch (by show w.heap.size ≤ (w.heap.size + 1 + 1 + 1 + 1); omega)
    have HZ11 := kzq HZ10 hch.out.size
    have Hp11 := kcq Hp10 hch (by have := HGQ.out; omega)
    have Hb11 := kcq Hb10 hch (by have := HGQ.out; omega)
    have Hm11 := kcq Hm10 hch (by have := HGQ.out; omega)
    have Hrp11 := kcq Hrp10 hch (by have := HGQ.out; omega)
    have Hq11 := kcq Hq10 hch (by have := HGQ.out; omega)
    have Sn11 := Lib.hid (Sn10.out.stay (fun b hb => hch.out.2 b (Sn10.out.lt b hb) (by have h1 := Sn10.out.block_ge b hb; have h9 := HG3.out b hb; have h8 := HGQ.out; omega)))
    have HRZ := Lib.hid (HRZ.out.keepP HAZ.out (KeepP.of_chg hch.out (by have := HGQ.out; have h9 := HLZ.out; rintro (h | h); (have h8 := h9 _ h; omega); have h8 := HGQ.out; omega)))
    clear hch hS0 Hp10 Hb10 Hm10 Hrp10 Hrb10 Hq10 Sn10 HB10 HZ10
    generalize (((WPna.setCell ⟨w.heap.size + 1 + 1 + 1 + 1, 0, none⟩ (.int .i64 mb)).setCell ⟨w.heap.size + 1 + 1 + 1 + 1, 1, none⟩ (.slice pz xz.length cz)).setCell ⟨w.heap.size + 1 + 1 + 1 + 1, 2, none⟩ (.slice po no co)) = WQna at *
    refine hK.out _ _ ⟨Hp11.out.cell 0, Hp11.out.cell 1, Hp11.out.cell 2, Hb11.out.cell 0, Hb11.out.cell 1, Hb11.out.cell 2, Hq11.out.cell 0, Hq11.out.cell 1, Hq11.out.cell 2, Hq11.out.cell 3⟩ (fun hS0 => ?_)
    clear hK K
    try simp only [Act.put, List.getElem_toArray, List.getElem_cons_succ, List.getElem_cons_zero, List.setIfInBounds_toArray, List.set_cons_zero, List.set_cons_succ]
    refine tkq 7 ?_
    refine tkq 8 ?_
    refine wpAnyH_done (by kernel_rfl) ?_ _
    clear hS0
    go_wp2_with fail
    have hfp := Hrp11.out
    have hfb := Hrb11.out
    refine bodyPost_ret (v := .tuple #[.agg #[.int .i64 me, .int .i64 N, .slice p3 n3 c3], .agg #[.int .i64 mb, .slice pz xz.length cz, .slice po no co], .slice none 0 0, .int .i64 0]) (by simp [results, Try.results32, go_sem, hfp.cell 0, hfp.cell 1, hfp.cell 2, hfb.cell 0, hfb.cell 1, hfb.cell 2]) rfl ⟨HB11.out, p3, n3, c3, pz, xz.length, cz, _, insC ps (⟨q.cy, q.cu, 5, q.p, q.c, q.ls⟩ : PtX), xz, [], 0, rfl, insC_pts HV.out.pts HB11.out Sn11.out ⟨((HV.out.pts.ls q (openP_mem HQ.out)).1.kept HB11.out), (HV.out.pts.ls q (openP_mem HQ.out)).2.imp (fun _ h => .inl h)⟩ (fun _ h => .inl h) (fun b hb => .inr (Nat.le_trans HSN.out hb)), HRZ.out, HAZ.out.imp (fun b h => h.imp id (fun h => by have := HGQ.out; omega)), OwnT.nil_ _ _ _ _, saidR_nil _ _, ?_⟩
    refine ⟨rfl, fun h => absurd (by rw [HQ.out]) h, fun _ h => absurd h (by rw [HTV.out]; decide), fun _ _ => ⟨rfl, ?_, ?_⟩⟩
    ·rw [HQ.out, HTV.out]; rfl
    ·rw [HQ.out]; exact HXZ.out.symm
   ·skip
    have a0 : WDn.cell? ⟨(w.heap.size + 1), 0, none⟩ = some (.int .i64 mb) := Hb3.out.cell 0
    have a1 : WDn.cell? ⟨(w.heap.size + 1), 1, none⟩ = some (.slice pi ni ci) := Hb3.out.cell 1
    have a2 : WDn.cell? ⟨(w.heap.size + 1), 2, none⟩ = some (.slice po no co) := Hb3.out.cell 2
    go_simp
    clear a0 a1 a2
    refine hK.out _ _ ⟨Hm3.out.cell 0, Hm3.out.cell 1, Hm3.out.cell 2, Hm3.out.cell 3, Hm3.out.cell 4, Hm3.out.cell 5, Hm3.out.cell 6, Hm3.out.cell 7, Hm3.out.cell 8, Hm3.out.cell 9, Hm3.out.cell 10, Hq3.out.cell 0, Hq3.out.cell 1, Hq3.out.cell 2, Hq3.out.cell 3⟩ (fun hS0 => ?_)
    clear hK K
    try simp only [Act.put, List.getElem_toArray, List.getElem_cons_succ, List.getElem_cons_zero, List.setIfInBounds_toArray, List.set_cons_zero, List.set_cons_succ]
    refine wpAnyH_ready (rs := [0, 4]) (by kernel_rfl) (by simp) ?_
    refine AllReadyH.cons rfl (fun K hK => ?_) (AllReadyH.cons rfl (fun K hK => ?_) AllReadyH.nil)
    ·skip
     have a0 : WDn.cell? ⟨(w.heap.size + 1), 0, none⟩ = some (.int .i64 mb) := Hb3.out.cell 0
     have a1 : WDn.cell? ⟨(w.heap.size + 1), 1, none⟩ = some (.slice pi ni ci) := Hb3.out.cell 1
     have a2 : WDn.cell? ⟨(w.heap.size + 1), 2, none⟩ = some (.slice po no co) := Hb3.out.cell 2
     go_simp
     clear a0 a1 a2
     refine hK.out _ _ ⟨Hm3.out.cell 0, Hm3.out.cell 1, Hm3.out.cell 2, Hm3.out.cell 3, Hm3.out.cell 4, Hm3.out.cell 5, Hm3.out.cell 6, Hm3.out.cell 7, Hm3.out.cell 8, Hm3.out.cell 9, Hm3.out.cell 10, Hq3.out.cell 0, Hq3.out.cell 1, Hq3.out.cell 2, Hq3.out.cell 3⟩ (fun hS0 => ?_)
     clear hK K
     try simp only [Act.put, List.getElem_toArray, List.getElem_cons_succ, List.getElem_cons_zero, List.setIfInBounds_toArray, List.set_cons_zero, List.set_cons_succ]
     refine rdq 4 (fun K hK => ?_)
     have HG := Lib.hid (blocked_any WDn mb pi po ni ci no co xs y.m.y (HV.out.its.kept HB3.out) (by have := HV.out.nx; omega))
     unfold bookV at HG
     go_simp
     go_at_call 14
     refine HG.out.mono ?_
     rintro y9 wL ⟨vL, rfl, hown, hb⟩
     clear HG
     have HIT := Lib.hid hown
     clear hown
     have Hp4 := kbq Hp3 hb
     have Hb4 := kbq Hb3 hb
     have Hm4 := kbq Hm3 hb
     have Hrp4 := kbq Hrp3 hb
     have Hrb4 := kbq Hrb3 hb
     have Hq4 := kbq Hq3 hb
     have HB4 := ktq HB3 hb
     have HZ4 := kzq HZ3 hb.size
     clear Hp3 Hb3 Hm3 Hrp3 Hrb3 Hq3 HB3 HZ3
     have HIR : Hid (TRow encI wL vL (xs.filter (keepL y.m.y))) := Lib.hid HIT.out.row
     clear hb hS0
     have hst : ∃ pL cL, vL = .slice pL (xs.filter (keepL y.m.y)).length cL := HIT.out.form
     obtain ⟨pL, cL, hvL⟩ := hst
     clear HIT
     obtain ⟨nL, hnL⟩ : ∃ k, (xs.filter (keepL y.m.y)).length = k := ⟨_, rfl⟩
     rw [hnL] at hvL
     have HNL := Lib.hid hnL
     clear hnL
     subst hvL
     try go_wp2_with fail
     refine hK.out _ _ ⟨Hm4.out.cell 0, Hm4.out.cell 1, Hm4.out.cell 2, Hm4.out.cell 3, Hm4.out.cell 4, Hm4.out.cell 5, Hm4.out.cell 6, Hm4.out.cell 7, Hm4.out.cell 8, Hm4.out.cell 9, Hm4.out.cell 10, Hq4.out.cell 0, Hq4.out.cell 1, Hq4.out.cell 2, Hq4.out.cell 3⟩ (fun hS0 => ?_)
     clear hK K
     try simp only [Act.put, List.getElem_toArray, List.getElem_cons_succ, List.getElem_cons_zero, List.setIfInBounds_toArray, List.set_cons_zero, List.set_cons_succ]
     refine rdq 6 (fun K hK => ?_)
     have hsay : ∀ W, Below wL.heap.size wL W → ∀ x : Itm, Calls Try.prog 56 #[x.v, .pointer (some ⟨w.heap.size + 1 + 1, 0, none⟩), .pointer (some ⟨gq, 0, none⟩)] W fun e w' => e = ansI (decF y.m.t q.ls x) ∧ Below W.heap.size W w' := fun W hb x => decc_any W x y.m.t q.ls q.p q.c (w.heap.size + 1 + 1) gq ((Hm4.out.below hb Hm4.out.lt).cell 8) ((Hq4.out.below hb Hq4.out.lt).cell 3) (((HV.out.pts.ls q (openP_mem HQ.out)).1.kept HB4.out).kept hb) (by have := HQL.out q (openP_mem HQ.out); omega)
     have hokx : ∀ x ∈ xs.filter (keepL y.m.y), (decF y.m.t q.ls x).2 = 0 ∧ chkI (decF y.m.t q.ls x).1 = 0 ∧ ((decF y.m.t q.ls x).1.s = mb ∨ (decF y.m.t q.ls x).1.b = mb) := fun x hx => by
      obtain ⟨h1, h2⟩ := List.mem_filter.1 hx
      obtain ⟨h3, _, h5⟩ := keepL_ok h2
      obtain ⟨h6, h7⟩ := HGD.out x h1
      exact decF_ok h3 h5 h6 h7
     have HG := Lib.hid (each_decide wL mb pi po ni ci no co xs (xs.filter (keepL y.m.y)) pL nL cL (decF y.m.t q.ls) P (w.heap.size + 1 + 1) gq (HV.out.its.kept HB4.out) HV.out.nx.1 (by have h := HV.out.ai; rw [← HV.out.nx.1] at h; exact h) (fun b hb => Nat.lt_of_lt_of_le (HV.out.lt b hb) HB4.out.size) HV.out.srt HIR.out HNL.out.symm (by have h1 := HV.out.nx; have h2 := List.length_filter_le (keepL y.m.y) xs; omega) hokx hsay)
     clear hsay hokx
     obtain ⟨xz, hxz⟩ : ∃ l, eachX (decF y.m.t q.ls) xs (xs.filter (keepL y.m.y)) = l := ⟨_, rfl⟩
     rw [hxz] at HG
     have HXZ := Lib.hid hxz
     clear hxz
     unfold bookV at HG
     go_simp
     go_at_call 46
     refine HG.out.mono ?_
     rintro y9 wE ⟨pz, cz, rfl, hrow, hat, hb⟩
     clear HG HIR
     have HRZ := Lib.hid hrow
     have HAZ : Hid (At (fun b => P b ∨ gq < b) (.slice pz xz.length cz) xz.length) := Lib.hid (hat.imp (fun b h => h.imp id (fun h => by have := Hq4.out.lt; omega)))
     have HLZ : Hid (∀ b, P b → b < w.heap.size) := Lib.hid HV.out.lt
     clear hrow hat
     have Hp5 := kbq Hp4 hb
     have Hb5 := kbq Hb4 hb
     have Hm5 := kbq Hm4 hb
     have Hrp5 := kbq Hrp4 hb
     have Hrb5 := kbq Hrb4 hb
     have Hq5 := kbq Hq4 hb
     have HB5 := ktq HB4 hb
     have HZ5 := kzq HZ4 hb.size
     clear Hp4 Hb4 Hm4 Hrp4 Hrb4 Hq4 HB4 HZ4
     clear hb hS0
     try go_wp2_with fail
     refine hK.out _ _ ⟨Hm5.out.cell 0, Hm5.out.cell 1, Hm5.out.cell 2, Hm5.out.cell 3, Hm5.out.cell 4, Hm5.out.cell 5, Hm5.out.cell 6, Hm5.out.cell 7, Hm5.out.cell 8, Hm5.out.cell 9, Hm5.out.cell 10, Hq5.out.cell 0, Hq5.out.cell 1, Hq5.out.cell 2, Hq5.out.cell 3⟩ (fun hS0 => ?_)
     clear hK K
     try simp only [Act.put, List.getElem_toArray, List.getElem_cons_succ, List.getElem_cons_zero, List.setIfInBounds_toArray, List.set_cons_zero, List.set_cons_succ]
     refine tkq 7 ?_
     refine tkq 8 ?_
     refine tkq 9 ?_
     refine rdq 10 (fun K hK => ?_)
     have z0 : wE.cell? ⟨(w.heap.size + 1), 0, none⟩ = some (.int .i64 mb) := Hb5.out.cell 0
     have z1 : wE.cell? ⟨(w.heap.size + 1), 1, none⟩ = some (.slice pi ni ci) := Hb5.out.cell 1
     have z2 : wE.cell? ⟨(w.heap.size + 1), 2, none⟩ = some (.slice po no co) := Hb5.out.cell 2
     have f0 := Hb5.out.free 0
     have f1 := Hb5.out.free 1
     have f2 := Hb5.out.free 2
     go_simp
     clear z0 z1 z2 f0 f1 f2
     have hch := Lib.hid ((((Chg.refl (w.heap.size + 1) wE).set 0 (.int .i64 mb)).set 1 (.slice pz xz.length cz)).set 2 (.slice po no co))
     have Hb6 : Hid (Blk _ (w.heap.size + 1) #[.int .i64 mb, .slice pz xz.length cz, .slice po no co] 28) := Lib.hid (((Hb5.out.set 0 (.int .i64 mb)).set 1 (.slice pz xz.length cz)).set 2 (.slice po no co))
     have HB6 := ksq HB5 hch (by show w.heap.size ≤ (w.heap.size + 1); omega)
     have HZ6 := kzq HZ5 hch.out.size
     have Hp6 := kcq Hp5 hch (by have := HGQ.out; omega)
     have Hm6 := kcq Hm5 hch (by have := HGQ.out; omega)
     have Hrp6 := kcq Hrp5 hch (by have := HGQ.out; omega)
     have Hrb6 := kcq Hrb5 hch (by have := HGQ.out; omega)
     have Hq6 := kcq Hq5 hch (by have := HGQ.out; omega)
     have HRZ := Lib.hid (HRZ.out.keepP HAZ.out (KeepP.of_chg hch.out (by have := HGQ.out; have h9 := HLZ.out; rintro (h | h); (have h8 := h9 _ h; omega); have h8 := HGQ.out; omega)))
     clear hch hS0 Hp5 Hb5 Hm5 Hrp5 Hrb5 Hq5 HB5 HZ5
     generalize (((wE.setCell ⟨w.heap.size + 1, 0, none⟩ (.int .i64 mb)).setCell ⟨w.heap.size + 1, 1, none⟩ (.slice pz xz.length cz)).setCell ⟨w.heap.size + 1, 2, none⟩ (.slice po no co)) = WBnb at *
     refine hK.out _ _ ⟨Hm6.out.cell 0, Hm6.out.cell 1, Hm6.out.cell 2, Hm6.out.cell 3, Hm6.out.cell 4, Hm6.out.cell 5, Hm6.out.cell 6, Hm6.out.cell 7, Hm6.out.cell 8, Hm6.out.cell 9, Hm6.out.cell 10, Hq6.out.cell 0, Hq6.out.cell 1, Hq6.out.cell 2, Hq6.out.cell 3⟩ (fun hS0 => ?_)
     clear hK K
     try simp only [Act.put, List.getElem_toArray, List.getElem_cons_succ, List.getElem_cons_zero, List.setIfInBounds_toArray, List.set_cons_zero, List.set_cons_succ]
     refine tkq 11 ?_
     refine wpAnyH_done (by kernel_rfl) ?_ _
     clear hS0
     go_upto_region 7 with fail
     have z2 : WBnb.cell? ⟨gq, 2, none⟩ = some (.int .i64 q.st) := Hq6.out.cell 2
     have f2 := Hq6.out.free 2
     go_upto_region 8 with fail
     clear z2 f2
     have hch := Lib.hid ((Chg.refl gq WBnb).set 2 (.int .i64 5))
     have Hq7 : Hid (Blk _ gq #[.int .i64 q.cy, .int .i64 q.cu, .int .i64 5, .slice q.p q.ls.length q.c] 58) := Lib.hid (Hq6.out.set 2 (.int .i64 5))
     have HB7 := ksq HB6 hch (by show w.heap.size ≤ gq; have := HGQ.out; omega)
     have HZ7 := kzq HZ6 hch.out.size
     have Hp7 := kcq Hp6 hch (by have := HGQ.out; omega)
     have Hb7 := kcq Hb6 hch (by have := HGQ.out; omega)
     have Hm7 := kcq Hm6 hch (by have := HGQ.out; omega)
     have Hrp7 := kcq Hrp6 hch (by have := HGQ.out; omega)
     have Hrb7 := kcq Hrb6 hch (by have := HGQ.out; omega)
     have HRZ := Lib.hid (HRZ.out.keepP HAZ.out (KeepP.of_chg hch.out (by have := HGQ.out; have h9 := HLZ.out; rintro (h | h); (have h8 := h9 _ h; omega); omega)))
     clear hch Hp6 Hb6 Hm6 Hrp6 Hrb6 Hq6 HB6 HZ6
     generalize (WBnb.setCell ⟨gq, 2, none⟩ (.int .i64 5)) = W7nb at *
     have c8 : W7nb.cell? ⟨(w.heap.size + 1 + 1), 8, none⟩ = some (.bool false) := by have h := Hm7.out.cell 8; rw [← HTV.out]; exact h
     go_upto_region 10 with fail
     clear c8
     have hbd := (Below.refl W7nb.heap.size W7nb).drew
     refine wp_region_held_drew (S := fun w' => w'.cell? ⟨w.heap.size, 0, none⟩ = some (.int .i64 me) ∧ w'.cell? ⟨w.heap.size, 1, none⟩ = some (.int .i64 N) ∧ w'.cell? ⟨w.heap.size, 2, none⟩ = some (.slice p n c) ∧ w'.cell? ⟨w.heap.size + 1, 0, none⟩ = some (.int .i64 mb) ∧ w'.cell? ⟨w.heap.size + 1, 1, none⟩ = some (.slice pz xz.length cz) ∧ w'.cell? ⟨w.heap.size + 1, 2, none⟩ = some (.slice po no co) ∧ w'.cell? ⟨gq, 0, none⟩ = some (.int .i64 q.cy) ∧ w'.cell? ⟨gq, 1, none⟩ = some (.int .i64 q.cu) ∧ w'.cell? ⟨gq, 2, none⟩ = some (.int .i64 5) ∧ w'.cell? ⟨gq, 3, none⟩ = some (.slice q.p q.ls.length q.c)) (by kernel_rfl) ⟨(Hp7.out.below hbd Hp7.out.lt).cell 0, (Hp7.out.below hbd Hp7.out.lt).cell 1, (Hp7.out.below hbd Hp7.out.lt).cell 2, (Hb7.out.below hbd Hb7.out.lt).cell 0, (Hb7.out.below hbd Hb7.out.lt).cell 1, (Hb7.out.below hbd Hb7.out.lt).cell 2, (Hq7.out.below hbd Hq7.out.lt).cell 0, (Hq7.out.below hbd Hq7.out.lt).cell 1, (Hq7.out.below hbd Hq7.out.lt).cell 2, (Hq7.out.below hbd Hq7.out.lt).cell 3⟩ (fun hS0 => ?_)
     have HRZ := Lib.hid (HRZ.out.kept hbd)
     generalize W7nb.drew = WFnb at *
     have Hp8 := kbq Hp7 hbd
     have Hb8 := kbq Hb7 hbd
     have Hm8 := kbq Hm7 hbd
     have Hrp8 := kbq Hrp7 hbd
     have Hrb8 := kbq Hrb7 hbd
     have Hq8 := kbq Hq7 hbd
     have HB8 := ktq HB7 hbd
     have HZ8 := kzq HZ7 hbd.size
     clear Hp7 Hb7 Hm7 Hrp7 Hrb7 Hq7 HB7 HZ7
     clear hbd
     refine tkq 0 ?_
     refine tkq 1 ?_
     refine tkq 3 ?_
     refine tkq 4 ?_
     refine rdq 2 (fun K hK => ?_)
     have HG := Lib.hid (pwith_any WFnb me N p n c ps (⟨q.cy, q.cu, 5, q.p, q.c, q.ls⟩ : PtX) (HV.out.pts.row.kept HB8.out) HV.out.np.1 (by have := HV.out.np; omega) HV.out.pts.srt)
     unfold PtX.v at HG
     go_simp
     go_at_call 50
     refine HG.out.mono ?_
     rintro y9 w3nb ⟨p3, n3, c3, rfl, hown, hb⟩
     clear HG
     have HP3 := Lib.hid hown
     have HSN : Hid (w.heap.size ≤ WFnb.heap.size) := Lib.hid HB8.out.size
     have HG3 : Hid (∀ g, (Value.slice p3 n3 c3).ownBlock = some g → gq < g) := fun g hg => by have h1 := hown.block_ge g hg; have h2 := Hq8.out.lt; omega
     have HRZ := Lib.hid (HRZ.out.kept hb)
     clear hown
     have Hp9 := kbq Hp8 hb
     have Hb9 := kbq Hb8 hb
     have Hm9 := kbq Hm8 hb
     have Hrp9 := kbq Hrp8 hb
     have Hrb9 := kbq Hrb8 hb
     have Hq9 := kbq Hq8 hb
     have HB9 := ktq HB8 hb
     have HZ9 := kzq HZ8 hb.size
     clear Hp8 Hb8 Hm8 Hrp8 Hrb8 Hq8 HB8 HZ8
     clear hb hS0
     try go_wp2_with fail
     refine hK.out _ _ ⟨Hp9.out.cell 0, Hp9.out.cell 1, Hp9.out.cell 2, Hb9.out.cell 0, Hb9.out.cell 1, Hb9.out.cell 2, Hq9.out.cell 0, Hq9.out.cell 1, Hq9.out.cell 2, Hq9.out.cell 3⟩ (fun hS0 => ?_)
     clear hK K
     try simp only [Act.put, List.getElem_toArray, List.getElem_cons_succ, List.getElem_cons_zero, List.setIfInBounds_toArray, List.set_cons_zero, List.set_cons_succ]
     have Sn9 := HP3
     clear HP3
     refine rdq 5 (fun K hK => ?_)
     have z0 : w3nb.cell? ⟨(w.heap.size + 1 + 1 + 1), 0, none⟩ = some (.int .i64 0) := Hrp9.out.cell 0
     have z1 : w3nb.cell? ⟨(w.heap.size + 1 + 1 + 1), 1, none⟩ = some (.int .i64 0) := Hrp9.out.cell 1
     have z2 : w3nb.cell? ⟨(w.heap.size + 1 + 1 + 1), 2, none⟩ = some (.slice none 0 0) := Hrp9.out.cell 2
     have f0 := Hrp9.out.free 0
     have f1 := Hrp9.out.free 1
     have f2 := Hrp9.out.free 2
     go_simp
     clear z0 z1 z2 f0 f1 f2
     have hch := Lib.hid ((((Chg.refl (w.heap.size + 1 + 1 + 1) w3nb).set 0 (.int .i64 me)).set 1 (.int .i64 N)).set 2 (.slice p3 n3 c3))
     have Hrp10 : Hid (Blk _ (w.heap.size + 1 + 1 + 1) #[.int .i64 me, .int .i64 N, .slice p3 n3 c3] 36) := Lib.hid (((Hrp9.out.set 0 (.int .i64 me)).set 1 (.int .i64 N)).set 2 (.slice p3 n3 c3))
     have HB10 := ksq HB9 hch (by show w.heap.size ≤ (w.heap.size + 1 + 1 + 1); omega)
     have HZ10 := kzq HZ9 hch.out.size
     have Hp10 := kcq Hp9 hch (by have := HGQ.out; omega)
     have Hb10 := kcq Hb9 hch (by have := HGQ.out; omega)
     have Hm10 := kcq Hm9 hch (by have := HGQ.out; omega)
     have Hrb10 := kcq Hrb9 hch (by have := HGQ.out; omega)
     have Hq10 := kcq Hq9 hch (by have := HGQ.out; omega)
     have Sn10 := Lib.hid (Sn9.out.stay (fun b hb => hch.out.2 b (Sn9.out.lt b hb) (by have h1 := Sn9.out.block_ge b hb; have h9 := HG3.out b hb; have h8 := HGQ.out; omega)))
     have HRZ := Lib.hid (HRZ.out.keepP HAZ.out (KeepP.of_chg hch.out (by have := HGQ.out; have h9 := HLZ.out; rintro (h | h); (have h8 := h9 _ h; omega); have h8 := HGQ.out; omega)))
     clear hch hS0 Hp9 Hb9 Hm9 Hrp9 Hrb9 Hq9 Sn9 HB9 HZ9
     generalize (((w3nb.setCell ⟨w.heap.size + 1 + 1 + 1, 0, none⟩ (.int .i64 me)).setCell ⟨w.heap.size + 1 + 1 + 1, 1, none⟩ (.int .i64 N)).setCell ⟨w.heap.size + 1 + 1 + 1, 2, none⟩ (.slice p3 n3 c3)) = WPnb at *
     refine hK.out _ _ ⟨Hp10.out.cell 0, Hp10.out.cell 1, Hp10.out.cell 2, Hb10.out.cell 0, Hb10.out.cell 1, Hb10.out.cell 2, Hq10.out.cell 0, Hq10.out.cell 1, Hq10.out.cell 2, Hq10.out.cell 3⟩ (fun hS0 => ?_)
     clear hK K
     try simp only [Act.put, List.getElem_toArray, List.getElem_cons_succ, List.getElem_cons_zero, List.setIfInBounds_toArray, List.set_cons_zero, List.set_cons_succ]
     refine rdq 6 (fun K hK => ?_)
     have z0 : WPnb.cell? ⟨(w.heap.size + 1 + 1 + 1 + 1), 0, none⟩ = some (.int .i64 0) := Hrb10.out.cell 0
     have z1 : WPnb.cell? ⟨(w.heap.size + 1 + 1 + 1 + 1), 1, none⟩ = some (.slice none 0 0) := Hrb10.out.cell 1
     have z2 : WPnb.cell? ⟨(w.heap.size + 1 + 1 + 1 + 1), 2, none⟩ = some (.slice none 0 0) := Hrb10.out.cell 2
     have f0 := Hrb10.out.free 0
     have f1 := Hrb10.out.free 1
     have f2 := Hrb10.out.free 2
     go_simp
     clear z0 z1 z2 f0 f1 f2
     have hch := Lib.hid ((((Chg.refl (w.heap.size + 1 + 1 + 1 + 1) WPnb).set 0 (.int .i64 mb)).set 1 (.slice pz xz.length cz)).set 2 (.slice po no co))
     have Hrb11 : Hid (Blk _ (w.heap.size + 1 + 1 + 1 + 1) #[.int .i64 mb, .slice pz xz.length cz, .slice po no co] 28) := Lib.hid (((Hrb10.out.set 0 (.int .i64 mb)).set 1 (.slice pz xz.length cz)).set 2 (.slice po no co))
     have HB11 := ksq HB10 hch (by show w.heap.size ≤ (w.heap.size + 1 + 1 + 1 + 1); omega)
     have HZ11 := kzq HZ10 hch.out.size
     have Hp11 := kcq Hp10 hch (by have := HGQ.out; omega)
     have Hb11 := kcq Hb10 hch (by have := HGQ.out; omega)
     have Hm11 := kcq Hm10 hch (by have := HGQ.out; omega)
     have Hrp11 := kcq Hrp10 hch (by have := HGQ.out; omega)
     have Hq11 := kcq Hq10 hch (by have := HGQ.out; omega)
     have Sn11 := Lib.hid (Sn10.out.stay (fun b hb => hch.out.2 b (Sn10.out.lt b hb) (by have h1 := Sn10.out.block_ge b hb; have h9 := HG3.out b hb; have h8 := HGQ.out; omega)))
     have HRZ := Lib.hid (HRZ.out.keepP HAZ.out (KeepP.of_chg hch.out (by have := HGQ.out; have h9 := HLZ.out; rintro (h | h); (have h8 := h9 _ h; omega); have h8 := HGQ.out; omega)))
     clear hch hS0 Hp10 Hb10 Hm10 Hrp10 Hrb10 Hq10 Sn10 HB10 HZ10
     generalize (((WPnb.setCell ⟨w.heap.size + 1 + 1 + 1 + 1, 0, none⟩ (.int .i64 mb)).setCell ⟨w.heap.size + 1 + 1 + 1 + 1, 1, none⟩ (.slice pz xz.length cz)).setCell ⟨w.heap.size + 1 + 1 + 1 + 1, 2, none⟩ (.slice po no co)) = WQnb at *
     refine hK.out _ _ ⟨Hp11.out.cell 0, Hp11.out.cell 1, Hp11.out.cell 2, Hb11.out.cell 0, Hb11.out.cell 1, Hb11.out.cell 2, Hq11.out.cell 0, Hq11.out.cell 1, Hq11.out.cell 2, Hq11.out.cell 3⟩ (fun hS0 => ?_)
     clear hK K
     try simp only [Act.put, List.getElem_toArray, List.getElem_cons_succ, List.getElem_cons_zero, List.setIfInBounds_toArray, List.set_cons_zero, List.set_cons_succ]
     refine tkq 7 ?_
     refine tkq 8 ?_
     refine wpAnyH_done (by kernel_rfl) ?_ _
     clear hS0
     go_wp2_with fail
     have hfp := Hrp11.out
     have hfb := Hrb11.out
     refine bodyPost_ret (v := .tuple #[.agg #[.int .i64 me, .int .i64 N, .slice p3 n3 c3], .agg #[.int .i64 mb, .slice pz xz.length cz, .slice po no co], .slice none 0 0, .int .i64 0]) (by simp [results, Try.results32, go_sem, hfp.cell 0, hfp.cell 1, hfp.cell 2, hfb.cell 0, hfb.cell 1, hfb.cell 2]) rfl ⟨HB11.out, p3, n3, c3, pz, xz.length, cz, _, insC ps (⟨q.cy, q.cu, 5, q.p, q.c, q.ls⟩ : PtX), xz, [], 0, rfl, insC_pts HV.out.pts HB11.out Sn11.out ⟨((HV.out.pts.ls q (openP_mem HQ.out)).1.kept HB11.out), (HV.out.pts.ls q (openP_mem HQ.out)).2.imp (fun _ h => .inl h)⟩ (fun _ h => .inl h) (fun b hb => .inr (Nat.le_trans HSN.out hb)), HRZ.out, HAZ.out.imp (fun b h => h.imp id (fun h => by have := HGQ.out; omega)), OwnT.nil_ _ _ _ _, saidR_nil _ _, ?_⟩
     refine ⟨rfl, fun h => absurd (by rw [HQ.out]) h, fun _ h => absurd h (by rw [HTV.out]; decide), fun _ _ => ⟨rfl, ?_, ?_⟩⟩
     ·rw [HQ.out, HTV.out]; rfl
     ·rw [HQ.out]; exact HXZ.out.symm
    ·skip
     have HG := Lib.hid (blocked_any WDn mb pi po ni ci no co xs y.m.y (HV.out.its.kept HB3.out) (by have := HV.out.nx; omega))
     unfold bookV at HG
     go_simp
     go_at_call 14
     refine HG.out.mono ?_
     rintro y9 wL ⟨vL, rfl, hown, hb⟩
     clear HG
     have HIT := Lib.hid hown
     clear hown
     have Hp4 := kbq Hp3 hb
     have Hb4 := kbq Hb3 hb
     have Hm4 := kbq Hm3 hb
     have Hrp4 := kbq Hrp3 hb
     have Hrb4 := kbq Hrb3 hb
     have Hq4 := kbq Hq3 hb
     have HB4 := ktq HB3 hb
     have HZ4 := kzq HZ3 hb.size
     clear Hp3 Hb3 Hm3 Hrp3 Hrb3 Hq3 HB3 HZ3
     have HIR : Hid (TRow encI wL vL (xs.filter (keepL y.m.y))) := Lib.hid HIT.out.row
     clear hb hS0
     have hst : ∃ pL cL, vL = .slice pL (xs.filter (keepL y.m.y)).length cL := HIT.out.form
     obtain ⟨pL, cL, hvL⟩ := hst
     clear HIT
     obtain ⟨nL, hnL⟩ : ∃ k, (xs.filter (keepL y.m.y)).length = k := ⟨_, rfl⟩
     rw [hnL] at hvL
     have HNL := Lib.hid hnL
     clear hnL
     subst hvL
     try go_wp2_with fail
     refine hK.out _ _ ⟨Hm4.out.cell 0, Hm4.out.cell 1, Hm4.out.cell 2, Hm4.out.cell 3, Hm4.out.cell 4, Hm4.out.cell 5, Hm4.out.cell 6, Hm4.out.cell 7, Hm4.out.cell 8, Hm4.out.cell 9, Hm4.out.cell 10, Hq4.out.cell 0, Hq4.out.cell 1, Hq4.out.cell 2, Hq4.out.cell 3⟩ (fun hS0 => ?_)
     clear hK K
     try simp only [Act.put, List.getElem_toArray, List.getElem_cons_succ, List.getElem_cons_zero, List.setIfInBounds_toArray, List.set_cons_zero, List.set_cons_succ]
     refine rdq 0 (fun K hK => ?_)
     have a0 : wL.cell? ⟨(w.heap.size + 1), 0, none⟩ = some (.int .i64 mb) := Hb4.out.cell 0
     have a1 : wL.cell? ⟨(w.heap.size + 1), 1, none⟩ = some (.slice pi ni ci) := Hb4.out.cell 1
     have a2 : wL.cell? ⟨(w.heap.size + 1), 2, none⟩ = some (.slice po no co) := Hb4.out.cell 2
     go_simp
     clear a0 a1 a2
     refine hK.out _ _ ⟨Hm4.out.cell 0, Hm4.out.cell 1, Hm4.out.cell 2, Hm4.out.cell 3, Hm4.out.cell 4, Hm4.out.cell 5, Hm4.out.cell 6, Hm4.out.cell 7, Hm4.out.cell 8, Hm4.out.cell 9, Hm4.out.cell 10, Hq4.out.cell 0, Hq4.out.cell 1, Hq4.out.cell 2, Hq4.out.cell 3⟩ (fun hS0 => ?_)
     clear hK K
     try simp only [Act.put, List.getElem_toArray, List.getElem_cons_succ, List.getElem_cons_zero, List.setIfInBounds_toArray, List.set_cons_zero, List.set_cons_succ]
     refine rdq 6 (fun K hK => ?_)
     have hsay : ∀ W, Below wL.heap.size wL W → ∀ x : Itm, Calls Try.prog 56 #[x.v, .pointer (some ⟨w.heap.size + 1 + 1, 0, none⟩), .pointer (some ⟨gq, 0, none⟩)] W fun e w' => e = ansI (decF y.m.t q.ls x) ∧ Below W.heap.size W w' := fun W hb x => decc_any W x y.m.t q.ls q.p q.c (w.heap.size + 1 + 1) gq ((Hm4.out.below hb Hm4.out.lt).cell 8) ((Hq4.out.below hb Hq4.out.lt).cell 3) (((HV.out.pts.ls q (openP_mem HQ.out)).1.kept HB4.out).kept hb) (by have := HQL.out q (openP_mem HQ.out); omega)
     have hokx : ∀ x ∈ xs.filter (keepL y.m.y), (decF y.m.t q.ls x).2 = 0 ∧ chkI (decF y.m.t q.ls x).1 = 0 ∧ ((decF y.m.t q.ls x).1.s = mb ∨ (decF y.m.t q.ls x).1.b = mb) := fun x hx => by
      obtain ⟨h1, h2⟩ := List.mem_filter.1 hx
      obtain ⟨h3, _, h5⟩ := keepL_ok h2
      obtain ⟨h6, h7⟩ := HGD.out x h1
      exact decF_ok h3 h5 h6 h7
     have HG := Lib.hid (each_decide wL mb pi po ni ci no co xs (xs.filter (keepL y.m.y)) pL nL cL (decF y.m.t q.ls) P (w.heap.size + 1 + 1) gq (HV.out.its.kept HB4.out) HV.out.nx.1 (by have h := HV.out.ai; rw [← HV.out.nx.1] at h; exact h) (fun b hb => Nat.lt_of_lt_of_le (HV.out.lt b hb) HB4.out.size) HV.out.srt HIR.out HNL.out.symm (by have h1 := HV.out.nx; have h2 := List.length_filter_le (keepL y.m.y) xs; omega) hokx hsay)
     clear hsay hokx
     obtain ⟨xz, hxz⟩ : ∃ l, eachX (decF y.m.t q.ls) xs (xs.filter (keepL y.m.y)) = l := ⟨_, rfl⟩
     rw [hxz] at HG
     have HXZ := Lib.hid hxz
     clear hxz
     unfold bookV at HG
     go_simp
     go_at_call 46
     refine HG.out.mono ?_
     rintro y9 wE ⟨pz, cz, rfl, hrow, hat, hb⟩
     clear HG HIR
     have HRZ := Lib.hid hrow
     have HAZ : Hid (At (fun b => P b ∨ gq < b) (.slice pz xz.length cz) xz.length) := Lib.hid (hat.imp (fun b h => h.imp id (fun h => by have := Hq4.out.lt; omega)))
     have HLZ : Hid (∀ b, P b → b < w.heap.size) := Lib.hid HV.out.lt
     clear hrow hat
     have Hp5 := kbq Hp4 hb
     have Hb5 := kbq Hb4 hb
     have Hm5 := kbq Hm4 hb
     have Hrp5 := kbq Hrp4 hb
     have Hrb5 := kbq Hrb4 hb
     have Hq5 := kbq Hq4 hb
     have HB5 := ktq HB4 hb
     have HZ5 := kzq HZ4 hb.size
     clear Hp4 Hb4 Hm4 Hrp4 Hrb4 Hq4 HB4 HZ4
     clear hb hS0
     try go_wp2_with fail
     refine hK.out _ _ ⟨Hm5.out.cell 0, Hm5.out.cell 1, Hm5.out.cell 2, Hm5.out.cell 3, Hm5.out.cell 4, Hm5.out.cell 5, Hm5.out.cell 6, Hm5.out.cell 7, Hm5.out.cell 8, Hm5.out.cell 9, Hm5.out.cell 10, Hq5.out.cell 0, Hq5.out.cell 1, Hq5.out.cell 2, Hq5.out.cell 3⟩ (fun hS0 => ?_)
     clear hK K
     try simp only [Act.put, List.getElem_toArray, List.getElem_cons_succ, List.getElem_cons_zero, List.setIfInBounds_toArray, List.set_cons_zero, List.set_cons_succ]
     refine tkq 7 ?_
     refine tkq 8 ?_
     refine tkq 9 ?_
     refine rdq 10 (fun K hK => ?_)
     have z0 : wE.cell? ⟨(w.heap.size + 1), 0, none⟩ = some (.int .i64 mb) := Hb5.out.cell 0
     have z1 : wE.cell? ⟨(w.heap.size + 1), 1, none⟩ = some (.slice pi ni ci) := Hb5.out.cell 1
     have z2 : wE.cell? ⟨(w.heap.size + 1), 2, none⟩ = some (.slice po no co) := Hb5.out.cell 2
     have f0 := Hb5.out.free 0
     have f1 := Hb5.out.free 1
     have f2 := Hb5.out.free 2
     go_simp
     clear z0 z1 z2 f0 f1 f2
     have hch := Lib.hid ((((Chg.refl (w.heap.size + 1) wE).set 0 (.int .i64 mb)).set 1 (.slice pz xz.length cz)).set 2 (.slice po no co))
     have Hb6 : Hid (Blk _ (w.heap.size + 1) #[.int .i64 mb, .slice pz xz.length cz, .slice po no co] 28) := Lib.hid (((Hb5.out.set 0 (.int .i64 mb)).set 1 (.slice pz xz.length cz)).set 2 (.slice po no co))
     have HB6 := ksq HB5 hch (by show w.heap.size ≤ (w.heap.size + 1); omega)
     have HZ6 := kzq HZ5 hch.out.size
     have Hp6 := kcq Hp5 hch (by have := HGQ.out; omega)
     have Hm6 := kcq Hm5 hch (by have := HGQ.out; omega)
     have Hrp6 := kcq Hrp5 hch (by have := HGQ.out; omega)
     have Hrb6 := kcq Hrb5 hch (by have := HGQ.out; omega)
     have Hq6 := kcq Hq5 hch (by have := HGQ.out; omega)
     have HRZ := Lib.hid (HRZ.out.keepP HAZ.out (KeepP.of_chg hch.out (by have := HGQ.out; have h9 := HLZ.out; rintro (h | h); (have h8 := h9 _ h; omega); have h8 := HGQ.out; omega)))
     clear hch hS0 Hp5 Hb5 Hm5 Hrp5 Hrb5 Hq5 HB5 HZ5
     generalize (((wE.setCell ⟨w.heap.size + 1, 0, none⟩ (.int .i64 mb)).setCell ⟨w.heap.size + 1, 1, none⟩ (.slice pz xz.length cz)).setCell ⟨w.heap.size + 1, 2, none⟩ (.slice po no co)) = WBnc at *
     refine hK.out _ _ ⟨Hm6.out.cell 0, Hm6.out.cell 1, Hm6.out.cell 2, Hm6.out.cell 3, Hm6.out.cell 4, Hm6.out.cell 5, Hm6.out.cell 6, Hm6.out.cell 7, Hm6.out.cell 8, Hm6.out.cell 9, Hm6.out.cell 10, Hq6.out.cell 0, Hq6.out.cell 1, Hq6.out.cell 2, Hq6.out.cell 3⟩ (fun hS0 => ?_)
     clear hK K
     try simp only [Act.put, List.getElem_toArray, List.getElem_cons_succ, List.getElem_cons_zero, List.setIfInBounds_toArray, List.set_cons_zero, List.set_cons_succ]
     refine tkq 11 ?_
     refine wpAnyH_done (by kernel_rfl) ?_ _
     clear hS0
     go_upto_region 7 with fail
     have z2 : WBnc.cell? ⟨gq, 2, none⟩ = some (.int .i64 q.st) := Hq6.out.cell 2
     have f2 := Hq6.out.free 2
     go_upto_region 8 with fail
     clear z2 f2
     have hch := Lib.hid ((Chg.refl gq WBnc).set 2 (.int .i64 5))
     have Hq7 : Hid (Blk _ gq #[.int .i64 q.cy, .int .i64 q.cu, .int .i64 5, .slice q.p q.ls.length q.c] 58) := Lib.hid (Hq6.out.set 2 (.int .i64 5))
     have HB7 := ksq HB6 hch (by show w.heap.size ≤ gq; have := HGQ.out; omega)
     have HZ7 := kzq HZ6 hch.out.size
     have Hp7 := kcq Hp6 hch (by have := HGQ.out; omega)
     have Hb7 := kcq Hb6 hch (by have := HGQ.out; omega)
     have Hm7 := kcq Hm6 hch (by have := HGQ.out; omega)
     have Hrp7 := kcq Hrp6 hch (by have := HGQ.out; omega)
     have Hrb7 := kcq Hrb6 hch (by have := HGQ.out; omega)
     have HRZ := Lib.hid (HRZ.out.keepP HAZ.out (KeepP.of_chg hch.out (by have := HGQ.out; have h9 := HLZ.out; rintro (h | h); (have h8 := h9 _ h; omega); omega)))
     clear hch Hp6 Hb6 Hm6 Hrp6 Hrb6 Hq6 HB6 HZ6
     generalize (WBnc.setCell ⟨gq, 2, none⟩ (.int .i64 5)) = W7nc at *
     have c8 : W7nc.cell? ⟨(w.heap.size + 1 + 1), 8, none⟩ = some (.bool false) := by have h := Hm7.out.cell 8; rw [← HTV.out]; exact h
     go_upto_region 10 with fail
     clear c8
     have hbd := (Below.refl W7nc.heap.size W7nc).drew
     refine wp_region_held_drew (S := fun w' => w'.cell? ⟨w.heap.size, 0, none⟩ = some (.int .i64 me) ∧ w'.cell? ⟨w.heap.size, 1, none⟩ = some (.int .i64 N) ∧ w'.cell? ⟨w.heap.size, 2, none⟩ = some (.slice p n c) ∧ w'.cell? ⟨w.heap.size + 1, 0, none⟩ = some (.int .i64 mb) ∧ w'.cell? ⟨w.heap.size + 1, 1, none⟩ = some (.slice pz xz.length cz) ∧ w'.cell? ⟨w.heap.size + 1, 2, none⟩ = some (.slice po no co) ∧ w'.cell? ⟨gq, 0, none⟩ = some (.int .i64 q.cy) ∧ w'.cell? ⟨gq, 1, none⟩ = some (.int .i64 q.cu) ∧ w'.cell? ⟨gq, 2, none⟩ = some (.int .i64 5) ∧ w'.cell? ⟨gq, 3, none⟩ = some (.slice q.p q.ls.length q.c)) (by kernel_rfl) ⟨(Hp7.out.below hbd Hp7.out.lt).cell 0, (Hp7.out.below hbd Hp7.out.lt).cell 1, (Hp7.out.below hbd Hp7.out.lt).cell 2, (Hb7.out.below hbd Hb7.out.lt).cell 0, (Hb7.out.below hbd Hb7.out.lt).cell 1, (Hb7.out.below hbd Hb7.out.lt).cell 2, (Hq7.out.below hbd Hq7.out.lt).cell 0, (Hq7.out.below hbd Hq7.out.lt).cell 1, (Hq7.out.below hbd Hq7.out.lt).cell 2, (Hq7.out.below hbd Hq7.out.lt).cell 3⟩ (fun hS0 => ?_)
     have HRZ := Lib.hid (HRZ.out.kept hbd)
     generalize W7nc.drew = WFnc at *
     have Hp8 := kbq Hp7 hbd
     have Hb8 := kbq Hb7 hbd
     have Hm8 := kbq Hm7 hbd
     have Hrp8 := kbq Hrp7 hbd
     have Hrb8 := kbq Hrb7 hbd
     have Hq8 := kbq Hq7 hbd
     have HB8 := ktq HB7 hbd
     have HZ8 := kzq HZ7 hbd.size
     clear Hp7 Hb7 Hm7 Hrp7 Hrb7 Hq7 HB7 HZ7
     clear hbd
     refine tkq 0 ?_
     refine tkq 1 ?_
     refine tkq 3 ?_
     refine tkq 4 ?_
     refine rdq 2 (fun K hK => ?_)
     have HG := Lib.hid (pwith_any WFnc me N p n c ps (⟨q.cy, q.cu, 5, q.p, q.c, q.ls⟩ : PtX) (HV.out.pts.row.kept HB8.out) HV.out.np.1 (by have := HV.out.np; omega) HV.out.pts.srt)
     unfold PtX.v at HG
     go_simp
     go_at_call 50
     refine HG.out.mono ?_
     rintro y9 w3nc ⟨p3, n3, c3, rfl, hown, hb⟩
     clear HG
     have HP3 := Lib.hid hown
     have HSN : Hid (w.heap.size ≤ WFnc.heap.size) := Lib.hid HB8.out.size
     have HG3 : Hid (∀ g, (Value.slice p3 n3 c3).ownBlock = some g → gq < g) := fun g hg => by have h1 := hown.block_ge g hg; have h2 := Hq8.out.lt; omega
     have HRZ := Lib.hid (HRZ.out.kept hb)
     clear hown
     have Hp9 := kbq Hp8 hb
     have Hb9 := kbq Hb8 hb
     have Hm9 := kbq Hm8 hb
     have Hrp9 := kbq Hrp8 hb
     have Hrb9 := kbq Hrb8 hb
     have Hq9 := kbq Hq8 hb
     have HB9 := ktq HB8 hb
     have HZ9 := kzq HZ8 hb.size
     clear Hp8 Hb8 Hm8 Hrp8 Hrb8 Hq8 HB8 HZ8
     clear hb hS0
     try go_wp2_with fail
     refine hK.out _ _ ⟨Hp9.out.cell 0, Hp9.out.cell 1, Hp9.out.cell 2, Hb9.out.cell 0, Hb9.out.cell 1, Hb9.out.cell 2, Hq9.out.cell 0, Hq9.out.cell 1, Hq9.out.cell 2, Hq9.out.cell 3⟩ (fun hS0 => ?_)
     clear hK K
     try simp only [Act.put, List.getElem_toArray, List.getElem_cons_succ, List.getElem_cons_zero, List.setIfInBounds_toArray, List.set_cons_zero, List.set_cons_succ]
     have Sn9 := HP3
     clear HP3
     refine rdq 5 (fun K hK => ?_)
     have z0 : w3nc.cell? ⟨(w.heap.size + 1 + 1 + 1), 0, none⟩ = some (.int .i64 0) := Hrp9.out.cell 0
     have z1 : w3nc.cell? ⟨(w.heap.size + 1 + 1 + 1), 1, none⟩ = some (.int .i64 0) := Hrp9.out.cell 1
     have z2 : w3nc.cell? ⟨(w.heap.size + 1 + 1 + 1), 2, none⟩ = some (.slice none 0 0) := Hrp9.out.cell 2
     have f0 := Hrp9.out.free 0
     have f1 := Hrp9.out.free 1
     have f2 := Hrp9.out.free 2
     go_simp
     clear z0 z1 z2 f0 f1 f2
     have hch := Lib.hid ((((Chg.refl (w.heap.size + 1 + 1 + 1) w3nc).set 0 (.int .i64 me)).set 1 (.int .i64 N)).set 2 (.slice p3 n3 c3))
     have Hrp10 : Hid (Blk _ (w.heap.size + 1 + 1 + 1) #[.int .i64 me, .int .i64 N, .slice p3 n3 c3] 36) := Lib.hid (((Hrp9.out.set 0 (.int .i64 me)).set 1 (.int .i64 N)).set 2 (.slice p3 n3 c3))
     have HB10 := ksq HB9 hch (by show w.heap.size ≤ (w.heap.size + 1 + 1 + 1); omega)
     have HZ10 := kzq HZ9 hch.out.size
     have Hp10 := kcq Hp9 hch (by have := HGQ.out; omega)
     have Hb10 := kcq Hb9 hch (by have := HGQ.out; omega)
     have Hm10 := kcq Hm9 hch (by have := HGQ.out; omega)
     have Hrb10 := kcq Hrb9 hch (by have := HGQ.out; omega)
     have Hq10 := kcq Hq9 hch (by have := HGQ.out; omega)
     have Sn10 := Lib.hid (Sn9.out.stay (fun b hb => hch.out.2 b (Sn9.out.lt b hb) (by have h1 := Sn9.out.block_ge b hb; have h9 := HG3.out b hb; have h8 := HGQ.out; omega)))
     have HRZ := Lib.hid (HRZ.out.keepP HAZ.out (KeepP.of_chg hch.out (by have := HGQ.out; have h9 := HLZ.out; rintro (h | h); (have h8 := h9 _ h; omega); have h8 := HGQ.out; omega)))
     clear hch hS0 Hp9 Hb9 Hm9 Hrp9 Hrb9 Hq9 Sn9 HB9 HZ9
     generalize (((w3nc.setCell ⟨w.heap.size + 1 + 1 + 1, 0, none⟩ (.int .i64 me)).setCell ⟨w.heap.size + 1 + 1 + 1, 1, none⟩ (.int .i64 N)).setCell ⟨w.heap.size + 1 + 1 + 1, 2, none⟩ (.slice p3 n3 c3)) = WPnc at *
     refine hK.out _ _ ⟨Hp10.out.cell 0, Hp10.out.cell 1, Hp10.out.cell 2, Hb10.out.cell 0, Hb10.out.cell 1, Hb10.out.cell 2, Hq10.out.cell 0, Hq10.out.cell 1, Hq10.out.cell 2, Hq10.out.cell 3⟩ (fun hS0 => ?_)
     clear hK K
     try simp only [Act.put, List.getElem_toArray, List.getElem_cons_succ, List.getElem_cons_zero, List.setIfInBounds_toArray, List.set_cons_zero, List.set_cons_succ]
     refine rdq 6 (fun K hK => ?_)
     have z0 : WPnc.cell? ⟨(w.heap.size + 1 + 1 + 1 + 1), 0, none⟩ = some (.int .i64 0) := Hrb10.out.cell 0
     have z1 : WPnc.cell? ⟨(w.heap.size + 1 + 1 + 1 + 1), 1, none⟩ = some (.slice none 0 0) := Hrb10.out.cell 1
     have z2 : WPnc.cell? ⟨(w.heap.size + 1 + 1 + 1 + 1), 2, none⟩ = some (.slice none 0 0) := Hrb10.out.cell 2
     have f0 := Hrb10.out.free 0
     have f1 := Hrb10.out.free 1
     have f2 := Hrb10.out.free 2
     go_simp
     clear z0 z1 z2 f0 f1 f2
     have hch := Lib.hid ((((Chg.refl (w.heap.size + 1 + 1 + 1 + 1) WPnc).set 0 (.int .i64 mb)).set 1 (.slice pz xz.length cz)).set 2 (.slice po no co))
     have Hrb11 : Hid (Blk _ (w.heap.size + 1 + 1 + 1 + 1) #[.int .i64 mb, .slice pz xz.length cz, .slice po no co] 28) := Lib.hid (((Hrb10.out.set 0 (.int .i64 mb)).set 1 (.slice pz xz.length cz)).set 2 (.slice po no co))
     have HB11 := ksq HB10 hch (by show w.heap.size ≤ (w.heap.size + 1 + 1 + 1 + 1); omega)
     have HZ11 := kzq HZ10 hch.out.size
     have Hp11 := kcq Hp10 hch (by have := HGQ.out; omega)
     have Hb11 := kcq Hb10 hch (by have := HGQ.out; omega)
     have Hm11 := kcq Hm10 hch (by have := HGQ.out; omega)
     have Hrp11 := kcq Hrp10 hch (by have := HGQ.out; omega)
     have Hq11 := kcq Hq10 hch (by have := HGQ.out; omega)
     have Sn11 := Lib.hid (Sn10.out.stay (fun b hb => hch.out.2 b (Sn10.out.lt b hb) (by have h1 := Sn10.out.block_ge b hb; have h9 := HG3.out b hb; have h8 := HGQ.out; omega)))
     have HRZ := Lib.hid (HRZ.out.keepP HAZ.out (KeepP.of_chg hch.out (by have := HGQ.out; have h9 := HLZ.out; rintro (h | h); (have h8 := h9 _ h; omega); have h8 := HGQ.out; omega)))
     clear hch hS0 Hp10 Hb10 Hm10 Hrp10 Hrb10 Hq10 Sn10 HB10 HZ10
     generalize (((WPnc.setCell ⟨w.heap.size + 1 + 1 + 1 + 1, 0, none⟩ (.int .i64 mb)).setCell ⟨w.heap.size + 1 + 1 + 1 + 1, 1, none⟩ (.slice pz xz.length cz)).setCell ⟨w.heap.size + 1 + 1 + 1 + 1, 2, none⟩ (.slice po no co)) = WQnc at *
     refine hK.out _ _ ⟨Hp11.out.cell 0, Hp11.out.cell 1, Hp11.out.cell 2, Hb11.out.cell 0, Hb11.out.cell 1, Hb11.out.cell 2, Hq11.out.cell 0, Hq11.out.cell 1, Hq11.out.cell 2, Hq11.out.cell 3⟩ (fun hS0 => ?_)
     clear hK K
     try simp only [Act.put, List.getElem_toArray, List.getElem_cons_succ, List.getElem_cons_zero, List.setIfInBounds_toArray, List.set_cons_zero, List.set_cons_succ]
     refine tkq 7 ?_
     refine tkq 8 ?_
     refine wpAnyH_done (by kernel_rfl) ?_ _
     clear hS0
     go_wp2_with fail
     have hfp := Hrp11.out
     have hfb := Hrb11.out
     refine bodyPost_ret (v := .tuple #[.agg #[.int .i64 me, .int .i64 N, .slice p3 n3 c3], .agg #[.int .i64 mb, .slice pz xz.length cz, .slice po no co], .slice none 0 0, .int .i64 0]) (by simp [results, Try.results32, go_sem, hfp.cell 0, hfp.cell 1, hfp.cell 2, hfb.cell 0, hfb.cell 1, hfb.cell 2]) rfl ⟨HB11.out, p3, n3, c3, pz, xz.length, cz, _, insC ps (⟨q.cy, q.cu, 5, q.p, q.c, q.ls⟩ : PtX), xz, [], 0, rfl, insC_pts HV.out.pts HB11.out Sn11.out ⟨((HV.out.pts.ls q (openP_mem HQ.out)).1.kept HB11.out), (HV.out.pts.ls q (openP_mem HQ.out)).2.imp (fun _ h => .inl h)⟩ (fun _ h => .inl h) (fun b hb => .inr (Nat.le_trans HSN.out hb)), HRZ.out, HAZ.out.imp (fun b h => h.imp id (fun h => by have := HGQ.out; omega)), OwnT.nil_ _ _ _ _, saidR_nil _ _, ?_⟩
     refine ⟨rfl, fun h => absurd (by rw [HQ.out]) h, fun _ h => absurd h (by rw [HTV.out]; decide), fun _ _ => ⟨rfl, ?_, ?_⟩⟩
     ·rw [HQ.out, HTV.out]; rfl
     ·rw [HQ.out]; exact HXZ.out.symm
 ·have hfb : (f != 0) = true := by simpa using hf
  have HF : Hid (f ≠ 0) := hf
  clear hf
  go_upto_region 3 with fail
  clear hfb
  clear Hq2
  have hbd := (Below.refl W1.heap.size W1).drew
  refine wp_region_held_drew (S := fun w' => w'.cell? ⟨w.heap.size, 0, none⟩ = some (.int .i64 me) ∧ w'.cell? ⟨w.heap.size, 1, none⟩ = some (.int .i64 N) ∧ w'.cell? ⟨w.heap.size, 2, none⟩ = some (.slice p n c) ∧ w'.cell? ⟨w.heap.size + 1, 0, none⟩ = some (.int .i64 mb) ∧ w'.cell? ⟨w.heap.size + 1, 1, none⟩ = some (.slice pi ni ci) ∧ w'.cell? ⟨w.heap.size + 1, 2, none⟩ = some (.slice po no co)) (by kernel_rfl) ⟨(Hp2.out.below hbd Hp2.out.lt).cell 0, (Hp2.out.below hbd Hp2.out.lt).cell 1, (Hp2.out.below hbd Hp2.out.lt).cell 2, (Hb2.out.below hbd Hb2.out.lt).cell 0, (Hb2.out.below hbd Hb2.out.lt).cell 1, (Hb2.out.below hbd Hb2.out.lt).cell 2⟩ (fun hS0 => ?_)
  generalize W1.drew = WDf at *
  have Hp3 := kbq Hp2 hbd
  have Hb3 := kbq Hb2 hbd
  have Hm3 := kbq Hm2 hbd
  have Hrp3 := kbq Hrp2 hbd
  have Hrb3 := kbq Hrb2 hbd
  have HB3 := ktq HB2 hbd
  have HZ3 := kzq HZ2 hbd.size
  clear Hp2 Hb2 Hm2 Hrp2 Hrb2 HB2 HZ2
  clear hbd
  refine tkq 0 ?_
  refine tkq 1 ?_
  refine tkq 2 ?_
  refine rdq 3 (fun K hK => ?_)
  have z0 : WDf.cell? ⟨(w.heap.size + 1 + 1 + 1), 0, none⟩ = some (.int .i64 0) := Hrp3.out.cell 0
  have z1 : WDf.cell? ⟨(w.heap.size + 1 + 1 + 1), 1, none⟩ = some (.int .i64 0) := Hrp3.out.cell 1
  have z2 : WDf.cell? ⟨(w.heap.size + 1 + 1 + 1), 2, none⟩ = some (.slice none 0 0) := Hrp3.out.cell 2
  have f0 := Hrp3.out.free 0
  have f1 := Hrp3.out.free 1
  have f2 := Hrp3.out.free 2
  go_simp
  clear z0 z1 z2 f0 f1 f2
  have hch := Lib.hid ((((Chg.refl (w.heap.size + 1 + 1 + 1) WDf).set 0 (.int .i64 me)).set 1 (.int .i64 N)).set 2 (.slice p n c))
  have Hrp4 : Hid (Blk _ (w.heap.size + 1 + 1 + 1) #[.int .i64 me, .int .i64 N, .slice p n c] 36) := Lib.hid (((Hrp3.out.set 0 (.int .i64 me)).set 1 (.int .i64 N)).set 2 (.slice p n c))
  have HB4 := ksq HB3 hch (by show w.heap.size ≤ (w.heap.size + 1 + 1 + 1); omega)
  have HZ4 := kzq HZ3 hch.out.size
  have Hp4 := kcq Hp3 hch (by omega)
  have Hb4 := kcq Hb3 hch (by omega)
  have Hm4 := kcq Hm3 hch (by omega)
  have Hrb4 := kcq Hrb3 hch (by omega)
  clear hch hS0 Hp3 Hb3 Hm3 Hrp3 Hrb3 HB3 HZ3
  generalize (((WDf.setCell ⟨w.heap.size + 1 + 1 + 1, 0, none⟩ (.int .i64 me)).setCell ⟨w.heap.size + 1 + 1 + 1, 1, none⟩ (.int .i64 N)).setCell ⟨w.heap.size + 1 + 1 + 1, 2, none⟩ (.slice p n c)) = WPf at *
  refine hK.out _ _ ⟨Hp4.out.cell 0, Hp4.out.cell 1, Hp4.out.cell 2, Hb4.out.cell 0, Hb4.out.cell 1, Hb4.out.cell 2⟩ (fun hS0 => ?_)
  clear hK K
  try simp only [Act.put, List.getElem_toArray, List.getElem_cons_succ, List.getElem_cons_zero, List.setIfInBounds_toArray, List.set_cons_zero, List.set_cons_succ]
  refine rdq 4 (fun K hK => ?_)
  have z0 : WPf.cell? ⟨(w.heap.size + 1 + 1 + 1 + 1), 0, none⟩ = some (.int .i64 0) := Hrb4.out.cell 0
  have z1 : WPf.cell? ⟨(w.heap.size + 1 + 1 + 1 + 1), 1, none⟩ = some (.slice none 0 0) := Hrb4.out.cell 1
  have z2 : WPf.cell? ⟨(w.heap.size + 1 + 1 + 1 + 1), 2, none⟩ = some (.slice none 0 0) := Hrb4.out.cell 2
  have f0 := Hrb4.out.free 0
  have f1 := Hrb4.out.free 1
  have f2 := Hrb4.out.free 2
  go_simp
  clear z0 z1 z2 f0 f1 f2
  have hch := Lib.hid ((((Chg.refl (w.heap.size + 1 + 1 + 1 + 1) WPf).set 0 (.int .i64 mb)).set 1 (.slice pi ni ci)).set 2 (.slice po no co))
  have Hrb5 : Hid (Blk _ (w.heap.size + 1 + 1 + 1 + 1) #[.int .i64 mb, .slice pi ni ci, .slice po no co] 28) := Lib.hid (((Hrb4.out.set 0 (.int .i64 mb)).set 1 (.slice pi ni ci)).set 2 (.slice po no co))
  have HB5 := ksq HB4 hch (by show w.heap.size ≤ (w.heap.size + 1 + 1 + 1 + 1); omega)
  have HZ5 := kzq HZ4 hch.out.size
  have Hp5 := kcq Hp4 hch (by omega)
  have Hb5 := kcq Hb4 hch (by omega)
  have Hm5 := kcq Hm4 hch (by omega)
  have Hrp5 := kcq Hrp4 hch (by omega)
  clear hch hS0 Hp4 Hb4 Hm4 Hrp4 Hrb4 HB4 HZ4
  generalize (((WPf.setCell ⟨w.heap.size + 1 + 1 + 1 + 1, 0, none⟩ (.int .i64 mb)).setCell ⟨w.heap.size + 1 + 1 + 1 + 1, 1, none⟩ (.slice pi ni ci)).setCell ⟨w.heap.size + 1 + 1 + 1 + 1, 2, none⟩ (.slice po no co)) = WQf at *
  refine hK.out _ _ ⟨Hp5.out.cell 0, Hp5.out.cell 1, Hp5.out.cell 2, Hb5.out.cell 0, Hb5.out.cell 1, Hb5.out.cell 2⟩ (fun hS0 => ?_)
  clear hK K
  try simp only [Act.put, List.getElem_toArray, List.getElem_cons_succ, List.getElem_cons_zero, List.setIfInBounds_toArray, List.set_cons_zero, List.set_cons_succ]
  refine tkq 5 ?_
  refine tkq 6 ?_
  refine wpAnyH_done (by kernel_rfl) ?_ _
  clear hS0
  go_wp2_with fail
  have hfp := Hrp5.out
  have hfb := Hrb5.out
  refine bodyPost_ret (v := .tuple #[.agg #[.int .i64 me, .int .i64 N, .slice p n c], .agg #[.int .i64 mb, .slice pi ni ci, .slice po no co], .slice none 0 0, .int .i64 f]) (by simp [results, Try.results32, go_sem, hfp.cell 0, hfp.cell 1, hfp.cell 2, hfb.cell 0, hfb.cell 1, hfb.cell 2]) rfl ⟨HB5.out, p, n, c, pi, ni, ci, _, ps, xs, [], f, rfl, (HV.out.same HB5.out).1, (HV.out.same HB5.out).2.1, (HV.out.same HB5.out).2.2, OwnT.nil_ _ _ _ _, saidR_nil _ _, rfl, fun _ => ⟨rfl, rfl, by rw [HQ.out]⟩, fun h => absurd (by rw [HQ.out] at h; exact h) HF.out, fun h => absurd (by rw [HQ.out] at h; exact h) HF.out⟩
end Go.Proofs.Ytmhocihajobkkaa
