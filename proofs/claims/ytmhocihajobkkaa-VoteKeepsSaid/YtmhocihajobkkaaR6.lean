/- vote's ask by contract. -/
import Derived.Test.YtmhocihajobkkaaR5
import Derived.Test.YtmhocihajobkkaaR3
import Derived.Test.YtmhocihajobkkaaR1
namespace Go.Proofs.Ytmhocihajobkkaa
open Go.RowKit
set_option linter.unusedSimpArgs false
def askBad (m : Msg) : Prop := m.y < 1 ∨ 1048576 < m.y ∨ m.c < 0 ∨ 8 ≤ m.c
/-- What is offered. -/
def offerL (xs : List Itm) (m : Msg) : List Itm := (xs.filter (keepF m.c)).take 128
/-- What ask answers. -/
def AskG (N : Int) (ps : List PtX) (xs : List Itm) (m : Msg) (ps2 : List PtX) (xs2 : List Itm) (out : List SdX) (e : Int) : Prop :=
 (askBad m → ps2 = ps ∧ xs2 = xs ∧ out = [] ∧ e = 1) ∧ (¬ askBad m → findC ps m.y ≠ none → ps2 = ps ∧ xs2 = xs ∧ out = [] ∧ e = 5) ∧
 (¬ askBad m → findC ps m.y = none → e = 0 ∧ ps2 = insC ps ⟨m.y, m.c, 1, none, 0, []⟩ ∧ xs2 = eachX (fun x => lockI x m.y) xs (offerL xs m) ∧
  ∃ lp lc, out = [⟨N, ⟨⟨11, 0, 0, 0, 0, 0, m.y, 0, false, (offerL xs m).map lineOf, []⟩, lp, lc, none, 0⟩⟩])
theorem keepF_ok {c : Int} {x : Itm} (h : keepF c x = true) : x.t = 3 ∧ x.c = c ∧ x.y = 0 := by
 unfold keepF outF at h
 simp only [Bool.not_eq_true', Bool.or_eq_false_iff, bne_eq_false_iff_eq] at h
 exact ⟨h.1, h.2.1, h.2.2⟩
theorem lock_ok {cy : Int} {x : Itm} {mb : Int} (h3 : x.t = 3) (h0 : x.y = 0) (hcy : 1 ≤ cy ∧ cy ≤ 1048576) (hc : chkI x = 0) (hp : x.s = mb ∨ x.b = mb) : (lockI x cy).2 = 0 ∧ chkI (lockI x cy).1 = 0 ∧ ((lockI x cy).1.s = mb ∨ (lockI x cy).1.b = mb) := by
 have h1 := act_ok 5 cy hc
 have e : actI x 5 cy = lockI x cy := rfl
 rw [e] at h1
 unfold lockI at h1 ⊢
 rw [if_pos ⟨h3, h0⟩, if_pos hcy] at h1 ⊢
 exact ⟨rfl, h1, hp⟩
set_option linter.unusedSimpArgs false in
set_option maxHeartbeats 4000000 in
set_option maxRecDepth 100000 in
theorem vask_any (w : World) (P : Nat → Prop) (me N mb : Int) (p : Option Addr) (n c : Nat) (pi : Option Addr) (ni ci : Nat) (po : Option Addr) (no co : Nat) (ps : List PtX) (xs : List Itm) (y : MsgX) (hv : VIn w P p n c pi ni ci ps xs) (hgood : ∀ x ∈ xs, chkI x = 0 ∧ (x.s = mb ∨ x.b = mb)) :
  Calls Try.prog 30 #[.agg #[.int .i64 me, .int .i64 N, .slice p n c], bookV mb (.slice pi ni ci) (.slice po no co), y.m.v (.slice y.pl y.m.ls.length y.cl) (.slice y.pn y.m.ns.length y.cn)] w (VPost w P me N mb po no co (AskG N ps xs y.m)) := by
 have HV := Lib.hid hv
 have HGD := Lib.hid hgood
 have hmf : ∀ (fn : Fn) (first cap : Array Value) (w : World), (Instr.makeFunc fn first cap).run Try.prog w = .ok (.func fn first cap) w := fun _ _ _ _ => rfl
 clear hv hgood
 unfold bookV Msg.v
 have HB0 : Hid (Below w.heap.size w (((((w.alloc (.cells #[.int .i64 me, .int .i64 N, .slice p n c] 36)).alloc (.cells #[.int .i64 mb, .slice pi ni ci, .slice po no co] 28)).alloc (.cells #[.int .i64 y.m.k, .int .i64 y.m.s, .int .i64 y.m.n, .int .i64 y.m.b, .int .i64 y.m.c, .int .i64 y.m.r, .int .i64 y.m.y, .int .i64 y.m.a, .bool y.m.t, .slice y.pl y.m.ls.length y.cl, .slice y.pn y.m.ns.length y.cn] 46)).alloc (.cells #[.int .i64 0, .int .i64 0, .slice none 0 0] 36)).alloc (.cells #[.int .i64 0, .slice none 0 0, .slice none 0 0] 28))) := Lib.hid ((((((oneB w _).alloc (by simp <;> omega) _).alloc (by simp <;> omega) _).alloc (by simp <;> omega) _).alloc (by simp <;> omega) _))
 have Hp0 : Hid (Blk (((((w.alloc (.cells #[.int .i64 me, .int .i64 N, .slice p n c] 36)).alloc (.cells #[.int .i64 mb, .slice pi ni ci, .slice po no co] 28)).alloc (.cells #[.int .i64 y.m.k, .int .i64 y.m.s, .int .i64 y.m.n, .int .i64 y.m.b, .int .i64 y.m.c, .int .i64 y.m.r, .int .i64 y.m.y, .int .i64 y.m.a, .bool y.m.t, .slice y.pl y.m.ls.length y.cl, .slice y.pn y.m.ns.length y.cn] 46)).alloc (.cells #[.int .i64 0, .int .i64 0, .slice none 0 0] 36)).alloc (.cells #[.int .i64 0, .slice none 0 0, .slice none 0 0] 28)) w.heap.size #[.int .i64 me, .int .i64 N, .slice p n c] 36) := Lib.hid (((((Blk.new w #[.int .i64 me, .int .i64 N, .slice p n c] 36).alloc _).alloc _).alloc _).alloc _)
 have Hb0 : Hid (Blk (((((w.alloc (.cells #[.int .i64 me, .int .i64 N, .slice p n c] 36)).alloc (.cells #[.int .i64 mb, .slice pi ni ci, .slice po no co] 28)).alloc (.cells #[.int .i64 y.m.k, .int .i64 y.m.s, .int .i64 y.m.n, .int .i64 y.m.b, .int .i64 y.m.c, .int .i64 y.m.r, .int .i64 y.m.y, .int .i64 y.m.a, .bool y.m.t, .slice y.pl y.m.ls.length y.cl, .slice y.pn y.m.ns.length y.cn] 46)).alloc (.cells #[.int .i64 0, .int .i64 0, .slice none 0 0] 36)).alloc (.cells #[.int .i64 0, .slice none 0 0, .slice none 0 0] 28)) (w.heap.size + 1) #[.int .i64 mb, .slice pi ni ci, .slice po no co] 28) := Lib.hid ((((Blk.new' (w.alloc (.cells #[.int .i64 me, .int .i64 N, .slice p n c] 36)) #[.int .i64 mb, .slice pi ni ci, .slice po no co] 28 (by simp)).alloc _).alloc _).alloc _)
 have Hm0 : Hid (Blk (((((w.alloc (.cells #[.int .i64 me, .int .i64 N, .slice p n c] 36)).alloc (.cells #[.int .i64 mb, .slice pi ni ci, .slice po no co] 28)).alloc (.cells #[.int .i64 y.m.k, .int .i64 y.m.s, .int .i64 y.m.n, .int .i64 y.m.b, .int .i64 y.m.c, .int .i64 y.m.r, .int .i64 y.m.y, .int .i64 y.m.a, .bool y.m.t, .slice y.pl y.m.ls.length y.cl, .slice y.pn y.m.ns.length y.cn] 46)).alloc (.cells #[.int .i64 0, .int .i64 0, .slice none 0 0] 36)).alloc (.cells #[.int .i64 0, .slice none 0 0, .slice none 0 0] 28)) (w.heap.size + 1 + 1) #[.int .i64 y.m.k, .int .i64 y.m.s, .int .i64 y.m.n, .int .i64 y.m.b, .int .i64 y.m.c, .int .i64 y.m.r, .int .i64 y.m.y, .int .i64 y.m.a, .bool y.m.t, .slice y.pl y.m.ls.length y.cl, .slice y.pn y.m.ns.length y.cn] 46) := Lib.hid (((Blk.new' ((w.alloc (.cells #[.int .i64 me, .int .i64 N, .slice p n c] 36)).alloc (.cells #[.int .i64 mb, .slice pi ni ci, .slice po no co] 28)) #[.int .i64 y.m.k, .int .i64 y.m.s, .int .i64 y.m.n, .int .i64 y.m.b, .int .i64 y.m.c, .int .i64 y.m.r, .int .i64 y.m.y, .int .i64 y.m.a, .bool y.m.t, .slice y.pl y.m.ls.length y.cl, .slice y.pn y.m.ns.length y.cn] 46 (by simp)).alloc _).alloc _)
 have Hrp0 : Hid (Blk (((((w.alloc (.cells #[.int .i64 me, .int .i64 N, .slice p n c] 36)).alloc (.cells #[.int .i64 mb, .slice pi ni ci, .slice po no co] 28)).alloc (.cells #[.int .i64 y.m.k, .int .i64 y.m.s, .int .i64 y.m.n, .int .i64 y.m.b, .int .i64 y.m.c, .int .i64 y.m.r, .int .i64 y.m.y, .int .i64 y.m.a, .bool y.m.t, .slice y.pl y.m.ls.length y.cl, .slice y.pn y.m.ns.length y.cn] 46)).alloc (.cells #[.int .i64 0, .int .i64 0, .slice none 0 0] 36)).alloc (.cells #[.int .i64 0, .slice none 0 0, .slice none 0 0] 28)) (w.heap.size + 1 + 1 + 1) #[.int .i64 0, .int .i64 0, .slice none 0 0] 36) := Lib.hid ((Blk.new' (((w.alloc (.cells #[.int .i64 me, .int .i64 N, .slice p n c] 36)).alloc (.cells #[.int .i64 mb, .slice pi ni ci, .slice po no co] 28)).alloc (.cells #[.int .i64 y.m.k, .int .i64 y.m.s, .int .i64 y.m.n, .int .i64 y.m.b, .int .i64 y.m.c, .int .i64 y.m.r, .int .i64 y.m.y, .int .i64 y.m.a, .bool y.m.t, .slice y.pl y.m.ls.length y.cl, .slice y.pn y.m.ns.length y.cn] 46)) #[.int .i64 0, .int .i64 0, .slice none 0 0] 36 (by simp)).alloc _)
 have Hrb0 : Hid (Blk (((((w.alloc (.cells #[.int .i64 me, .int .i64 N, .slice p n c] 36)).alloc (.cells #[.int .i64 mb, .slice pi ni ci, .slice po no co] 28)).alloc (.cells #[.int .i64 y.m.k, .int .i64 y.m.s, .int .i64 y.m.n, .int .i64 y.m.b, .int .i64 y.m.c, .int .i64 y.m.r, .int .i64 y.m.y, .int .i64 y.m.a, .bool y.m.t, .slice y.pl y.m.ls.length y.cl, .slice y.pn y.m.ns.length y.cn] 46)).alloc (.cells #[.int .i64 0, .int .i64 0, .slice none 0 0] 36)).alloc (.cells #[.int .i64 0, .slice none 0 0, .slice none 0 0] 28)) (w.heap.size + 1 + 1 + 1 + 1) #[.int .i64 0, .slice none 0 0, .slice none 0 0] 28) := Lib.hid (Blk.new' ((((w.alloc (.cells #[.int .i64 me, .int .i64 N, .slice p n c] 36)).alloc (.cells #[.int .i64 mb, .slice pi ni ci, .slice po no co] 28)).alloc (.cells #[.int .i64 y.m.k, .int .i64 y.m.s, .int .i64 y.m.n, .int .i64 y.m.b, .int .i64 y.m.c, .int .i64 y.m.r, .int .i64 y.m.y, .int .i64 y.m.a, .bool y.m.t, .slice y.pl y.m.ls.length y.cl, .slice y.pn y.m.ns.length y.cn] 46)).alloc (.cells #[.int .i64 0, .int .i64 0, .slice none 0 0] 36)) #[.int .i64 0, .slice none 0 0, .slice none 0 0] 28 (by simp))
 have HZ0 : Hid (w.heap.size ≤ (((((w.alloc (.cells #[.int .i64 me, .int .i64 N, .slice p n c] 36)).alloc (.cells #[.int .i64 mb, .slice pi ni ci, .slice po no co] 28)).alloc (.cells #[.int .i64 y.m.k, .int .i64 y.m.s, .int .i64 y.m.n, .int .i64 y.m.b, .int .i64 y.m.c, .int .i64 y.m.r, .int .i64 y.m.y, .int .i64 y.m.a, .bool y.m.t, .slice y.pl y.m.ls.length y.cl, .slice y.pn y.m.ns.length y.cn] 46)).alloc (.cells #[.int .i64 0, .int .i64 0, .slice none 0 0] 36)).alloc (.cells #[.int .i64 0, .slice none 0 0, .slice none 0 0] 28)).heap.size) := Lib.hid HB0.out.size
 go_enter Try.func30, Try.ntmps30
 go_upto_region 1 with fail
 generalize (((((w.alloc (.cells #[.int .i64 me, .int .i64 N, .slice p n c] 36)).alloc (.cells #[.int .i64 mb, .slice pi ni ci, .slice po no co] 28)).alloc (.cells #[.int .i64 y.m.k, .int .i64 y.m.s, .int .i64 y.m.n, .int .i64 y.m.b, .int .i64 y.m.c, .int .i64 y.m.r, .int .i64 y.m.y, .int .i64 y.m.a, .bool y.m.t, .slice y.pl y.m.ls.length y.cl, .slice y.pn y.m.ns.length y.cn] 46)).alloc (.cells #[.int .i64 0, .int .i64 0, .slice none 0 0] 36)).alloc (.cells #[.int .i64 0, .slice none 0 0, .slice none 0 0] 28)) = W at *
 have c4 : W.cell? ⟨(w.heap.size + 1 + 1), 4, none⟩ = some (.int .i64 y.m.c) := Hm0.out.cell 4
 have c6 : W.cell? ⟨(w.heap.size + 1 + 1), 6, none⟩ = some (.int .i64 y.m.y) := Hm0.out.cell 6
 by_cases g0 : y.m.y < 1
 ·skip
  have HBAD : Hid (askBad y.m) := .inl g0
  go_upto_region 2 with fail
  clear c4 c6
  have hbd := (Below.refl W.heap.size W).drew
  refine wp_region_held_drew (S := fun w' => w'.cell? ⟨w.heap.size, 0, none⟩ = some (.int .i64 me) ∧ w'.cell? ⟨w.heap.size, 1, none⟩ = some (.int .i64 N) ∧ w'.cell? ⟨w.heap.size, 2, none⟩ = some (.slice p n c) ∧ w'.cell? ⟨w.heap.size + 1, 0, none⟩ = some (.int .i64 mb) ∧ w'.cell? ⟨w.heap.size + 1, 1, none⟩ = some (.slice pi ni ci) ∧ w'.cell? ⟨w.heap.size + 1, 2, none⟩ = some (.slice po no co)) (by kernel_rfl) ⟨(Hp0.out.below hbd Hp0.out.lt).cell 0, (Hp0.out.below hbd Hp0.out.lt).cell 1, (Hp0.out.below hbd Hp0.out.lt).cell 2, (Hb0.out.below hbd Hb0.out.lt).cell 0, (Hb0.out.below hbd Hb0.out.lt).cell 1, (Hb0.out.below hbd Hb0.out.lt).cell 2⟩ (fun hS0 => ?_)
  generalize W.drew = WD0 at *
  have Hp1 := kbq Hp0 hbd
  have Hb1 := kbq Hb0 hbd
  have Hm1 := kbq Hm0 hbd
  have Hrp1 := kbq Hrp0 hbd
  have Hrb1 := kbq Hrb0 hbd
  have HB1 := ktq HB0 hbd
  have HZ1 := kzq HZ0 hbd.size
  clear Hp0 Hb0 Hm0 Hrp0 Hrb0 HB0 HZ0
  clear hbd
  refine tkq 0 ?_
  refine tkq 1 ?_
  refine rdq 2 (fun K hK => ?_)
  have z0 : WD0.cell? ⟨(w.heap.size + 1 + 1 + 1), 0, none⟩ = some (.int .i64 0) := Hrp1.out.cell 0
  have z1 : WD0.cell? ⟨(w.heap.size + 1 + 1 + 1), 1, none⟩ = some (.int .i64 0) := Hrp1.out.cell 1
  have z2 : WD0.cell? ⟨(w.heap.size + 1 + 1 + 1), 2, none⟩ = some (.slice none 0 0) := Hrp1.out.cell 2
  have f0 := Hrp1.out.free 0
  have f1 := Hrp1.out.free 1
  have f2 := Hrp1.out.free 2
  go_simp
  clear z0 z1 z2 f0 f1 f2
  have hch := Lib.hid ((((Chg.refl (w.heap.size + 1 + 1 + 1) WD0).set 0 (.int .i64 me)).set 1 (.int .i64 N)).set 2 (.slice p n c))
  have Hrp2 : Hid (Blk _ (w.heap.size + 1 + 1 + 1) #[.int .i64 me, .int .i64 N, .slice p n c] 36) := Lib.hid (((Hrp1.out.set 0 (.int .i64 me)).set 1 (.int .i64 N)).set 2 (.slice p n c))
  have HB2 := ksq HB1 hch (by show w.heap.size ≤ (w.heap.size + 1 + 1 + 1); omega)
  have HZ2 := kzq HZ1 hch.out.size
  have Hp2 := kcq Hp1 hch (by omega)
  have Hb2 := kcq Hb1 hch (by omega)
  have Hm2 := kcq Hm1 hch (by omega)
  have Hrb2 := kcq Hrb1 hch (by omega)
  clear hch hS0 Hp1 Hb1 Hm1 Hrp1 Hrb1 HB1 HZ1
  generalize (((WD0.setCell ⟨w.heap.size + 1 + 1 + 1, 0, none⟩ (.int .i64 me)).setCell ⟨w.heap.size + 1 + 1 + 1, 1, none⟩ (.int .i64 N)).setCell ⟨w.heap.size + 1 + 1 + 1, 2, none⟩ (.slice p n c)) = WP0 at *
  refine hK.out _ _ ⟨Hp2.out.cell 0, Hp2.out.cell 1, Hp2.out.cell 2, Hb2.out.cell 0, Hb2.out.cell 1, Hb2.out.cell 2⟩ (fun hS0 => ?_)
  clear hK K
  try simp only [Act.put, List.getElem_toArray, List.getElem_cons_succ, List.getElem_cons_zero, List.setIfInBounds_toArray, List.set_cons_zero, List.set_cons_succ]
  refine rdq 3 (fun K hK => ?_)
  have z0 : WP0.cell? ⟨(w.heap.size + 1 + 1 + 1 + 1), 0, none⟩ = some (.int .i64 0) := Hrb2.out.cell 0
  have z1 : WP0.cell? ⟨(w.heap.size + 1 + 1 + 1 + 1), 1, none⟩ = some (.slice none 0 0) := Hrb2.out.cell 1
  have z2 : WP0.cell? ⟨(w.heap.size + 1 + 1 + 1 + 1), 2, none⟩ = some (.slice none 0 0) := Hrb2.out.cell 2
  have f0 := Hrb2.out.free 0
  have f1 := Hrb2.out.free 1
  have f2 := Hrb2.out.free 2
  go_simp
  clear z0 z1 z2 f0 f1 f2
  have hch := Lib.hid ((((Chg.refl (w.heap.size + 1 + 1 + 1 + 1) WP0).set 0 (.int .i64 mb)).set 1 (.slice pi ni ci)).set 2 (.slice po no co))
  have Hrb3 : Hid (Blk _ (w.heap.size + 1 + 1 + 1 + 1) #[.int .i64 mb, .slice pi ni ci, .slice po no co] 28) := Lib.hid (((Hrb2.out.set 0 (.int .i64 mb)).set 1 (.slice pi ni ci)).set 2 (.slice po no co))
  have HB3 := ksq HB2 hch (by show w.heap.size ≤ (w.heap.size + 1 + 1 + 1 + 1); omega)
  have HZ3 := kzq HZ2 hch.out.size
  have Hp3 := kcq Hp2 hch (by omega)
  have Hb3 := kcq Hb2 hch (by omega)
  have Hm3 := kcq Hm2 hch (by omega)
  have Hrp3 := kcq Hrp2 hch (by omega)
  clear hch hS0 Hp2 Hb2 Hm2 Hrp2 Hrb2 HB2 HZ2
  generalize (((WP0.setCell ⟨w.heap.size + 1 + 1 + 1 + 1, 0, none⟩ (.int .i64 mb)).setCell ⟨w.heap.size + 1 + 1 + 1 + 1, 1, none⟩ (.slice pi ni ci)).setCell ⟨w.heap.size + 1 + 1 + 1 + 1, 2, none⟩ (.slice po no co)) = WQ0 at *
  refine hK.out _ _ ⟨Hp3.out.cell 0, Hp3.out.cell 1, Hp3.out.cell 2, Hb3.out.cell 0, Hb3.out.cell 1, Hb3.out.cell 2⟩ (fun hS0 => ?_)
  clear hK K
  try simp only [Act.put, List.getElem_toArray, List.getElem_cons_succ, List.getElem_cons_zero, List.setIfInBounds_toArray, List.set_cons_zero, List.set_cons_succ]
  refine tkq 4 ?_
  refine tkq 5 ?_
  refine wpAnyH_done (by kernel_rfl) ?_ _
  clear hS0
  go_wp2_with fail
  have hfp := Hrp3.out
  have hfb := Hrb3.out
  refine bodyPost_ret (v := .tuple #[.agg #[.int .i64 me, .int .i64 N, .slice p n c], .agg #[.int .i64 mb, .slice pi ni ci, .slice po no co], .slice none 0 0, .int .i64 1]) (by simp [results, Try.results30, go_sem, hfp.cell 0, hfp.cell 1, hfp.cell 2, hfb.cell 0, hfb.cell 1, hfb.cell 2]) rfl ⟨HB3.out, p, n, c, pi, ni, ci, _, ps, xs, [], 1, rfl, (HV.out.same HB3.out).1, (HV.out.same HB3.out).2.1, (HV.out.same HB3.out).2.2, OwnT.nil_ _ _ _ _, saidR_nil _ _, fun _ => ⟨rfl, rfl, rfl, rfl⟩, fun h => absurd HBAD.out h, fun h => absurd HBAD.out h⟩
 by_cases g1 : 1048576 < y.m.y
 ·skip
  have HBAD : Hid (askBad y.m) := .inr (.inl g1)
  go_upto_region 2 with fail
  clear c4 c6
  have hbd := (Below.refl W.heap.size W).drew
  refine wp_region_held_drew (S := fun w' => w'.cell? ⟨w.heap.size, 0, none⟩ = some (.int .i64 me) ∧ w'.cell? ⟨w.heap.size, 1, none⟩ = some (.int .i64 N) ∧ w'.cell? ⟨w.heap.size, 2, none⟩ = some (.slice p n c) ∧ w'.cell? ⟨w.heap.size + 1, 0, none⟩ = some (.int .i64 mb) ∧ w'.cell? ⟨w.heap.size + 1, 1, none⟩ = some (.slice pi ni ci) ∧ w'.cell? ⟨w.heap.size + 1, 2, none⟩ = some (.slice po no co)) (by kernel_rfl) ⟨(Hp0.out.below hbd Hp0.out.lt).cell 0, (Hp0.out.below hbd Hp0.out.lt).cell 1, (Hp0.out.below hbd Hp0.out.lt).cell 2, (Hb0.out.below hbd Hb0.out.lt).cell 0, (Hb0.out.below hbd Hb0.out.lt).cell 1, (Hb0.out.below hbd Hb0.out.lt).cell 2⟩ (fun hS0 => ?_)
  generalize W.drew = WD1 at *
  have Hp1 := kbq Hp0 hbd
  have Hb1 := kbq Hb0 hbd
  have Hm1 := kbq Hm0 hbd
  have Hrp1 := kbq Hrp0 hbd
  have Hrb1 := kbq Hrb0 hbd
  have HB1 := ktq HB0 hbd
  have HZ1 := kzq HZ0 hbd.size
  clear Hp0 Hb0 Hm0 Hrp0 Hrb0 HB0 HZ0
  clear hbd
  refine tkq 0 ?_
  refine tkq 1 ?_
  refine rdq 2 (fun K hK => ?_)
  have z0 : WD1.cell? ⟨(w.heap.size + 1 + 1 + 1), 0, none⟩ = some (.int .i64 0) := Hrp1.out.cell 0
  have z1 : WD1.cell? ⟨(w.heap.size + 1 + 1 + 1), 1, none⟩ = some (.int .i64 0) := Hrp1.out.cell 1
  have z2 : WD1.cell? ⟨(w.heap.size + 1 + 1 + 1), 2, none⟩ = some (.slice none 0 0) := Hrp1.out.cell 2
  have f0 := Hrp1.out.free 0
  have f1 := Hrp1.out.free 1
  have f2 := Hrp1.out.free 2
  go_simp
  clear z0 z1 z2 f0 f1 f2
  have hch := Lib.hid ((((Chg.refl (w.heap.size + 1 + 1 + 1) WD1).set 0 (.int .i64 me)).set 1 (.int .i64 N)).set 2 (.slice p n c))
  have Hrp2 : Hid (Blk _ (w.heap.size + 1 + 1 + 1) #[.int .i64 me, .int .i64 N, .slice p n c] 36) := Lib.hid (((Hrp1.out.set 0 (.int .i64 me)).set 1 (.int .i64 N)).set 2 (.slice p n c))
  have HB2 := ksq HB1 hch (by show w.heap.size ≤ (w.heap.size + 1 + 1 + 1); omega)
  have HZ2 := kzq HZ1 hch.out.size
  have Hp2 := kcq Hp1 hch (by omega)
  have Hb2 := kcq Hb1 hch (by omega)
  have Hm2 := kcq Hm1 hch (by omega)
  have Hrb2 := kcq Hrb1 hch (by omega)
  clear hch hS0 Hp1 Hb1 Hm1 Hrp1 Hrb1 HB1 HZ1
  generalize (((WD1.setCell ⟨w.heap.size + 1 + 1 + 1, 0, none⟩ (.int .i64 me)).setCell ⟨w.heap.size + 1 + 1 + 1, 1, none⟩ (.int .i64 N)).setCell ⟨w.heap.size + 1 + 1 + 1, 2, none⟩ (.slice p n c)) = WP1 at *
  refine hK.out _ _ ⟨Hp2.out.cell 0, Hp2.out.cell 1, Hp2.out.cell 2, Hb2.out.cell 0, Hb2.out.cell 1, Hb2.out.cell 2⟩ (fun hS0 => ?_)
  clear hK K
  try simp only [Act.put, List.getElem_toArray, List.getElem_cons_succ, List.getElem_cons_zero, List.setIfInBounds_toArray, List.set_cons_zero, List.set_cons_succ]
  refine rdq 3 (fun K hK => ?_)
  have z0 : WP1.cell? ⟨(w.heap.size + 1 + 1 + 1 + 1), 0, none⟩ = some (.int .i64 0) := Hrb2.out.cell 0
  have z1 : WP1.cell? ⟨(w.heap.size + 1 + 1 + 1 + 1), 1, none⟩ = some (.slice none 0 0) := Hrb2.out.cell 1
  have z2 : WP1.cell? ⟨(w.heap.size + 1 + 1 + 1 + 1), 2, none⟩ = some (.slice none 0 0) := Hrb2.out.cell 2
  have f0 := Hrb2.out.free 0
  have f1 := Hrb2.out.free 1
  have f2 := Hrb2.out.free 2
  go_simp
  clear z0 z1 z2 f0 f1 f2
  have hch := Lib.hid ((((Chg.refl (w.heap.size + 1 + 1 + 1 + 1) WP1).set 0 (.int .i64 mb)).set 1 (.slice pi ni ci)).set 2 (.slice po no co))
  have Hrb3 : Hid (Blk _ (w.heap.size + 1 + 1 + 1 + 1) #[.int .i64 mb, .slice pi ni ci, .slice po no co] 28) := Lib.hid (((Hrb2.out.set 0 (.int .i64 mb)).set 1 (.slice pi ni ci)).set 2 (.slice po no co))
  have HB3 := ksq HB2 hch (by show w.heap.size ≤ (w.heap.size + 1 + 1 + 1 + 1); omega)
  have HZ3 := kzq HZ2 hch.out.size
  have Hp3 := kcq Hp2 hch (by omega)
  have Hb3 := kcq Hb2 hch (by omega)
  have Hm3 := kcq Hm2 hch (by omega)
  have Hrp3 := kcq Hrp2 hch (by omega)
  clear hch hS0 Hp2 Hb2 Hm2 Hrp2 Hrb2 HB2 HZ2
  generalize (((WP1.setCell ⟨w.heap.size + 1 + 1 + 1 + 1, 0, none⟩ (.int .i64 mb)).setCell ⟨w.heap.size + 1 + 1 + 1 + 1, 1, none⟩ (.slice pi ni ci)).setCell ⟨w.heap.size + 1 + 1 + 1 + 1, 2, none⟩ (.slice po no co)) = WQ1 at *
  refine hK.out _ _ ⟨Hp3.out.cell 0, Hp3.out.cell 1, Hp3.out.cell 2, Hb3.out.cell 0, Hb3.out.cell 1, Hb3.out.cell 2⟩ (fun hS0 => ?_)
  clear hK K
  try simp only [Act.put, List.getElem_toArray, List.getElem_cons_succ, List.getElem_cons_zero, List.setIfInBounds_toArray, List.set_cons_zero, List.set_cons_succ]
  refine tkq 4 ?_
  refine tkq 5 ?_
  refine wpAnyH_done (by kernel_rfl) ?_ _
  clear hS0
  go_wp2_with fail
  have hfp := Hrp3.out
  have hfb := Hrb3.out
  refine bodyPost_ret (v := .tuple #[.agg #[.int .i64 me, .int .i64 N, .slice p n c], .agg #[.int .i64 mb, .slice pi ni ci, .slice po no co], .slice none 0 0, .int .i64 1]) (by simp [results, Try.results30, go_sem, hfp.cell 0, hfp.cell 1, hfp.cell 2, hfb.cell 0, hfb.cell 1, hfb.cell 2]) rfl ⟨HB3.out, p, n, c, pi, ni, ci, _, ps, xs, [], 1, rfl, (HV.out.same HB3.out).1, (HV.out.same HB3.out).2.1, (HV.out.same HB3.out).2.2, OwnT.nil_ _ _ _ _, saidR_nil _ _, fun _ => ⟨rfl, rfl, rfl, rfl⟩, fun h => absurd HBAD.out h, fun h => absurd HBAD.out h⟩
 by_cases g2 : y.m.c < 0
 ·skip
  have HBAD : Hid (askBad y.m) := .inr (.inr (.inl g2))
  go_upto_region 2 with fail
  clear c4 c6
  have hbd := (Below.refl W.heap.size W).drew
  refine wp_region_held_drew (S := fun w' => w'.cell? ⟨w.heap.size, 0, none⟩ = some (.int .i64 me) ∧ w'.cell? ⟨w.heap.size, 1, none⟩ = some (.int .i64 N) ∧ w'.cell? ⟨w.heap.size, 2, none⟩ = some (.slice p n c) ∧ w'.cell? ⟨w.heap.size + 1, 0, none⟩ = some (.int .i64 mb) ∧ w'.cell? ⟨w.heap.size + 1, 1, none⟩ = some (.slice pi ni ci) ∧ w'.cell? ⟨w.heap.size + 1, 2, none⟩ = some (.slice po no co)) (by kernel_rfl) ⟨(Hp0.out.below hbd Hp0.out.lt).cell 0, (Hp0.out.below hbd Hp0.out.lt).cell 1, (Hp0.out.below hbd Hp0.out.lt).cell 2, (Hb0.out.below hbd Hb0.out.lt).cell 0, (Hb0.out.below hbd Hb0.out.lt).cell 1, (Hb0.out.below hbd Hb0.out.lt).cell 2⟩ (fun hS0 => ?_)
  generalize W.drew = WD2 at *
  have Hp1 := kbq Hp0 hbd
  have Hb1 := kbq Hb0 hbd
  have Hm1 := kbq Hm0 hbd
  have Hrp1 := kbq Hrp0 hbd
  have Hrb1 := kbq Hrb0 hbd
  have HB1 := ktq HB0 hbd
  have HZ1 := kzq HZ0 hbd.size
  clear Hp0 Hb0 Hm0 Hrp0 Hrb0 HB0 HZ0
  clear hbd
  refine tkq 0 ?_
  refine tkq 1 ?_
  refine rdq 2 (fun K hK => ?_)
  have z0 : WD2.cell? ⟨(w.heap.size + 1 + 1 + 1), 0, none⟩ = some (.int .i64 0) := Hrp1.out.cell 0
  have z1 : WD2.cell? ⟨(w.heap.size + 1 + 1 + 1), 1, none⟩ = some (.int .i64 0) := Hrp1.out.cell 1
  have z2 : WD2.cell? ⟨(w.heap.size + 1 + 1 + 1), 2, none⟩ = some (.slice none 0 0) := Hrp1.out.cell 2
  have f0 := Hrp1.out.free 0
  have f1 := Hrp1.out.free 1
  have f2 := Hrp1.out.free 2
  go_simp
  clear z0 z1 z2 f0 f1 f2
  have hch := Lib.hid ((((Chg.refl (w.heap.size + 1 + 1 + 1) WD2).set 0 (.int .i64 me)).set 1 (.int .i64 N)).set 2 (.slice p n c))
  have Hrp2 : Hid (Blk _ (w.heap.size + 1 + 1 + 1) #[.int .i64 me, .int .i64 N, .slice p n c] 36) := Lib.hid (((Hrp1.out.set 0 (.int .i64 me)).set 1 (.int .i64 N)).set 2 (.slice p n c))
  have HB2 := ksq HB1 hch (by show w.heap.size ≤ (w.heap.size + 1 + 1 + 1); omega)
  have HZ2 := kzq HZ1 hch.out.size
  have Hp2 := kcq Hp1 hch (by omega)
  have Hb2 := kcq Hb1 hch (by omega)
  have Hm2 := kcq Hm1 hch (by omega)
  have Hrb2 := kcq Hrb1 hch (by omega)
  clear hch hS0 Hp1 Hb1 Hm1 Hrp1 Hrb1 HB1 HZ1
  generalize (((WD2.setCell ⟨w.heap.size + 1 + 1 + 1, 0, none⟩ (.int .i64 me)).setCell ⟨w.heap.size + 1 + 1 + 1, 1, none⟩ (.int .i64 N)).setCell ⟨w.heap.size + 1 + 1 + 1, 2, none⟩ (.slice p n c)) = WP2 at *
  refine hK.out _ _ ⟨Hp2.out.cell 0, Hp2.out.cell 1, Hp2.out.cell 2, Hb2.out.cell 0, Hb2.out.cell 1, Hb2.out.cell 2⟩ (fun hS0 => ?_)
  clear hK K
  try simp only [Act.put, List.getElem_toArray, List.getElem_cons_succ, List.getElem_cons_zero, List.setIfInBounds_toArray, List.set_cons_zero, List.set_cons_succ]
  refine rdq 3 (fun K hK => ?_)
  have z0 : WP2.cell? ⟨(w.heap.size + 1 + 1 + 1 + 1), 0, none⟩ = some (.int .i64 0) := Hrb2.out.cell 0
  have z1 : WP2.cell? ⟨(w.heap.size + 1 + 1 + 1 + 1), 1, none⟩ = some (.slice none 0 0) := Hrb2.out.cell 1
  have z2 : WP2.cell? ⟨(w.heap.size + 1 + 1 + 1 + 1), 2, none⟩ = some (.slice none 0 0) := Hrb2.out.cell 2
  have f0 := Hrb2.out.free 0
  have f1 := Hrb2.out.free 1
  have f2 := Hrb2.out.free 2
  go_simp
  clear z0 z1 z2 f0 f1 f2
  have hch := Lib.hid ((((Chg.refl (w.heap.size + 1 + 1 + 1 + 1) WP2).set 0 (.int .i64 mb)).set 1 (.slice pi ni ci)).set 2 (.slice po no co))
  have Hrb3 : Hid (Blk _ (w.heap.size + 1 + 1 + 1 + 1) #[.int .i64 mb, .slice pi ni ci, .slice po no co] 28) := Lib.hid (((Hrb2.out.set 0 (.int .i64 mb)).set 1 (.slice pi ni ci)).set 2 (.slice po no co))
  have HB3 := ksq HB2 hch (by show w.heap.size ≤ (w.heap.size + 1 + 1 + 1 + 1); omega)
  have HZ3 := kzq HZ2 hch.out.size
  have Hp3 := kcq Hp2 hch (by omega)
  have Hb3 := kcq Hb2 hch (by omega)
  have Hm3 := kcq Hm2 hch (by omega)
  have Hrp3 := kcq Hrp2 hch (by omega)
  clear hch hS0 Hp2 Hb2 Hm2 Hrp2 Hrb2 HB2 HZ2
  generalize (((WP2.setCell ⟨w.heap.size + 1 + 1 + 1 + 1, 0, none⟩ (.int .i64 mb)).setCell ⟨w.heap.size + 1 + 1 + 1 + 1, 1, none⟩ (.slice pi ni ci)).setCell ⟨w.heap.size + 1 + 1 + 1 + 1, 2, none⟩ (.slice po no co)) = WQ2 at *
  refine hK.out _ _ ⟨Hp3.out.cell 0, Hp3.out.cell 1, Hp3.out.cell 2, Hb3.out.cell 0, Hb3.out.cell 1, Hb3.out.cell 2⟩ (fun hS0 => ?_)
  clear hK K
  try simp only [Act.put, List.getElem_toArray, List.getElem_cons_succ, List.getElem_cons_zero, List.setIfInBounds_toArray, List.set_cons_zero, List.set_cons_succ]
  refine tkq 4 ?_
  refine tkq 5 ?_
  refine wpAnyH_done (by kernel_rfl) ?_ _
  clear hS0
  go_wp2_with fail
  have hfp := Hrp3.out
  have hfb := Hrb3.out
  refine bodyPost_ret (v := .tuple #[.agg #[.int .i64 me, .int .i64 N, .slice p n c], .agg #[.int .i64 mb, .slice pi ni ci, .slice po no co], .slice none 0 0, .int .i64 1]) (by simp [results, Try.results30, go_sem, hfp.cell 0, hfp.cell 1, hfp.cell 2, hfb.cell 0, hfb.cell 1, hfb.cell 2]) rfl ⟨HB3.out, p, n, c, pi, ni, ci, _, ps, xs, [], 1, rfl, (HV.out.same HB3.out).1, (HV.out.same HB3.out).2.1, (HV.out.same HB3.out).2.2, OwnT.nil_ _ _ _ _, saidR_nil _ _, fun _ => ⟨rfl, rfl, rfl, rfl⟩, fun h => absurd HBAD.out h, fun h => absurd HBAD.out h⟩
 by_cases g3 : 8 ≤ y.m.c
 ·skip
  have HBAD : Hid (askBad y.m) := .inr (.inr (.inr g3))
  go_upto_region 2 with fail
  clear c4 c6
  have hbd := (Below.refl W.heap.size W).drew
  refine wp_region_held_drew (S := fun w' => w'.cell? ⟨w.heap.size, 0, none⟩ = some (.int .i64 me) ∧ w'.cell? ⟨w.heap.size, 1, none⟩ = some (.int .i64 N) ∧ w'.cell? ⟨w.heap.size, 2, none⟩ = some (.slice p n c) ∧ w'.cell? ⟨w.heap.size + 1, 0, none⟩ = some (.int .i64 mb) ∧ w'.cell? ⟨w.heap.size + 1, 1, none⟩ = some (.slice pi ni ci) ∧ w'.cell? ⟨w.heap.size + 1, 2, none⟩ = some (.slice po no co)) (by kernel_rfl) ⟨(Hp0.out.below hbd Hp0.out.lt).cell 0, (Hp0.out.below hbd Hp0.out.lt).cell 1, (Hp0.out.below hbd Hp0.out.lt).cell 2, (Hb0.out.below hbd Hb0.out.lt).cell 0, (Hb0.out.below hbd Hb0.out.lt).cell 1, (Hb0.out.below hbd Hb0.out.lt).cell 2⟩ (fun hS0 => ?_)
  generalize W.drew = WD3 at *
  have Hp1 := kbq Hp0 hbd
  have Hb1 := kbq Hb0 hbd
  have Hm1 := kbq Hm0 hbd
  have Hrp1 := kbq Hrp0 hbd
  have Hrb1 := kbq Hrb0 hbd
  have HB1 := ktq HB0 hbd
  have HZ1 := kzq HZ0 hbd.size
  clear Hp0 Hb0 Hm0 Hrp0 Hrb0 HB0 HZ0
  clear hbd
  refine tkq 0 ?_
  refine tkq 1 ?_
  refine rdq 2 (fun K hK => ?_)
  have z0 : WD3.cell? ⟨(w.heap.size + 1 + 1 + 1), 0, none⟩ = some (.int .i64 0) := Hrp1.out.cell 0
  have z1 : WD3.cell? ⟨(w.heap.size + 1 + 1 + 1), 1, none⟩ = some (.int .i64 0) := Hrp1.out.cell 1
  have z2 : WD3.cell? ⟨(w.heap.size + 1 + 1 + 1), 2, none⟩ = some (.slice none 0 0) := Hrp1.out.cell 2
  have f0 := Hrp1.out.free 0
  have f1 := Hrp1.out.free 1
  have f2 := Hrp1.out.free 2
  go_simp
  clear z0 z1 z2 f0 f1 f2
  have hch := Lib.hid ((((Chg.refl (w.heap.size + 1 + 1 + 1) WD3).set 0 (.int .i64 me)).set 1 (.int .i64 N)).set 2 (.slice p n c))
  have Hrp2 : Hid (Blk _ (w.heap.size + 1 + 1 + 1) #[.int .i64 me, .int .i64 N, .slice p n c] 36) := Lib.hid (((Hrp1.out.set 0 (.int .i64 me)).set 1 (.int .i64 N)).set 2 (.slice p n c))
  have HB2 := ksq HB1 hch (by show w.heap.size ≤ (w.heap.size + 1 + 1 + 1); omega)
  have HZ2 := kzq HZ1 hch.out.size
  have Hp2 := kcq Hp1 hch (by omega)
  have Hb2 := kcq Hb1 hch (by omega)
  have Hm2 := kcq Hm1 hch (by omega)
  have Hrb2 := kcq Hrb1 hch (by omega)
  clear hch hS0 Hp1 Hb1 Hm1 Hrp1 Hrb1 HB1 HZ1
  generalize (((WD3.setCell ⟨w.heap.size + 1 + 1 + 1, 0, none⟩ (.int .i64 me)).setCell ⟨w.heap.size + 1 + 1 + 1, 1, none⟩ (.int .i64 N)).setCell ⟨w.heap.size + 1 + 1 + 1, 2, none⟩ (.slice p n c)) = WP3 at *
  refine hK.out _ _ ⟨Hp2.out.cell 0, Hp2.out.cell 1, Hp2.out.cell 2, Hb2.out.cell 0, Hb2.out.cell 1, Hb2.out.cell 2⟩ (fun hS0 => ?_)
  clear hK K
  try simp only [Act.put, List.getElem_toArray, List.getElem_cons_succ, List.getElem_cons_zero, List.setIfInBounds_toArray, List.set_cons_zero, List.set_cons_succ]
  refine rdq 3 (fun K hK => ?_)
  have z0 : WP3.cell? ⟨(w.heap.size + 1 + 1 + 1 + 1), 0, none⟩ = some (.int .i64 0) := Hrb2.out.cell 0
  have z1 : WP3.cell? ⟨(w.heap.size + 1 + 1 + 1 + 1), 1, none⟩ = some (.slice none 0 0) := Hrb2.out.cell 1
  have z2 : WP3.cell? ⟨(w.heap.size + 1 + 1 + 1 + 1), 2, none⟩ = some (.slice none 0 0) := Hrb2.out.cell 2
  have f0 := Hrb2.out.free 0
  have f1 := Hrb2.out.free 1
  have f2 := Hrb2.out.free 2
  go_simp
  clear z0 z1 z2 f0 f1 f2
  have hch := Lib.hid ((((Chg.refl (w.heap.size + 1 + 1 + 1 + 1) WP3).set 0 (.int .i64 mb)).set 1 (.slice pi ni ci)).set 2 (.slice po no co))
  have Hrb3 : Hid (Blk _ (w.heap.size + 1 + 1 + 1 + 1) #[.int .i64 mb, .slice pi ni ci, .slice po no co] 28) := Lib.hid (((Hrb2.out.set 0 (.int .i64 mb)).set 1 (.slice pi ni ci)).set 2 (.slice po no co))
  have HB3 := ksq HB2 hch (by show w.heap.size ≤ (w.heap.size + 1 + 1 + 1 + 1); omega)
  have HZ3 := kzq HZ2 hch.out.size
  have Hp3 := kcq Hp2 hch (by omega)
  have Hb3 := kcq Hb2 hch (by omega)
  have Hm3 := kcq Hm2 hch (by omega)
  have Hrp3 := kcq Hrp2 hch (by omega)
  clear hch hS0 Hp2 Hb2 Hm2 Hrp2 Hrb2 HB2 HZ2
  generalize (((WP3.setCell ⟨w.heap.size + 1 + 1 + 1 + 1, 0, none⟩ (.int .i64 mb)).setCell ⟨w.heap.size + 1 + 1 + 1 + 1, 1, none⟩ (.slice pi ni ci)).setCell ⟨w.heap.size + 1 + 1 + 1 + 1, 2, none⟩ (.slice po no co)) = WQ3 at *
  refine hK.out _ _ ⟨Hp3.out.cell 0, Hp3.out.cell 1, Hp3.out.cell 2, Hb3.out.cell 0, Hb3.out.cell 1, Hb3.out.cell 2⟩ (fun hS0 => ?_)
  clear hK K
  try simp only [Act.put, List.getElem_toArray, List.getElem_cons_succ, List.getElem_cons_zero, List.setIfInBounds_toArray, List.set_cons_zero, List.set_cons_succ]
  refine tkq 4 ?_
  refine tkq 5 ?_
  refine wpAnyH_done (by kernel_rfl) ?_ _
  clear hS0
  go_wp2_with fail
  have hfp := Hrp3.out
  have hfb := Hrb3.out
  refine bodyPost_ret (v := .tuple #[.agg #[.int .i64 me, .int .i64 N, .slice p n c], .agg #[.int .i64 mb, .slice pi ni ci, .slice po no co], .slice none 0 0, .int .i64 1]) (by simp [results, Try.results30, go_sem, hfp.cell 0, hfp.cell 1, hfp.cell 2, hfb.cell 0, hfb.cell 1, hfb.cell 2]) rfl ⟨HB3.out, p, n, c, pi, ni, ci, _, ps, xs, [], 1, rfl, (HV.out.same HB3.out).1, (HV.out.same HB3.out).2.1, (HV.out.same HB3.out).2.2, OwnT.nil_ _ _ _ _, saidR_nil _ _, fun _ => ⟨rfl, rfl, rfl, rfl⟩, fun h => absurd HBAD.out h, fun h => absurd HBAD.out h⟩
 have HOKM : Hid (¬ askBad y.m ∧ 1 ≤ y.m.y ∧ y.m.y ≤ 1048576) := ⟨by unfold askBad; omega, by omega, by omega⟩
 go_upto_region 3 with fail
 clear c4 c6 g0 g1 g2 g3
 obtain ⟨A, mid, B, hA⟩ := aroundF_of_sorted posC ⟨y.m.y, 0, 0⟩ ps HV.out.pts.srt
 have HFC := Lib.hid (findC_around hA)
 have HG := Lib.hid (find_any W me N p n c ps A mid B y.m.y (HV.out.pts.row.kept HB0.out) HV.out.np.1 (by have := HV.out.np; omega) hA)
 have hmid := hA.mid1
 clear hA
 obtain ⟨fb, hfb⟩ : ∃ b, decide (mid ≠ []) = b := ⟨_, rfl⟩
 rw [hfb] at HG
 have a0 : W.cell? ⟨w.heap.size, 0, none⟩ = some (.int .i64 me) := Hp0.out.cell 0
 have a1 : W.cell? ⟨w.heap.size, 1, none⟩ = some (.int .i64 N) := Hp0.out.cell 1
 have a2 : W.cell? ⟨w.heap.size, 2, none⟩ = some (.slice p n c) := Hp0.out.cell 2
 have c6 : W.cell? ⟨(w.heap.size + 1 + 1), 6, none⟩ = some (.int .i64 y.m.y) := Hm0.out.cell 6
 go_wp2_with fail
 clear a0 a1 a2 c6
 refine HG.out.mono ?_
 rintro y9 w1 ⟨rfl, hb⟩
 clear HG
 have Hp1 := kbq Hp0 hb
 have Hb1 := kbq Hb0 hb
 have Hm1 := kbq Hm0 hb
 have Hrp1 := kbq Hrp0 hb
 have Hrb1 := kbq Hrb0 hb
 have HB1 := ktq HB0 hb
 have HZ1 := kzq HZ0 hb.size
 clear Hp0 Hb0 Hm0 Hrp0 Hrb0 HB0 HZ0
 clear hb
 cases fb with
 | true =>
  have HFN : Hid (findC ps y.m.y ≠ none) := by
   show _ ≠ _
   rw [HFC.out]
   have h1 := of_decide_eq_true hfb
   cases mid with
   | nil => exact absurd rfl h1
   | cons z l => simp
  clear hfb hmid HFC
  go_upto_region 5 with fail
  have hbd := (Below.refl w1.heap.size w1).drew
  refine wp_region_held_drew (S := fun w' => w'.cell? ⟨w.heap.size, 0, none⟩ = some (.int .i64 me) ∧ w'.cell? ⟨w.heap.size, 1, none⟩ = some (.int .i64 N) ∧ w'.cell? ⟨w.heap.size, 2, none⟩ = some (.slice p n c) ∧ w'.cell? ⟨w.heap.size + 1, 0, none⟩ = some (.int .i64 mb) ∧ w'.cell? ⟨w.heap.size + 1, 1, none⟩ = some (.slice pi ni ci) ∧ w'.cell? ⟨w.heap.size + 1, 2, none⟩ = some (.slice po no co)) (by kernel_rfl) ⟨(Hp1.out.below hbd Hp1.out.lt).cell 0, (Hp1.out.below hbd Hp1.out.lt).cell 1, (Hp1.out.below hbd Hp1.out.lt).cell 2, (Hb1.out.below hbd Hb1.out.lt).cell 0, (Hb1.out.below hbd Hb1.out.lt).cell 1, (Hb1.out.below hbd Hb1.out.lt).cell 2⟩ (fun hS0 => ?_)
  generalize w1.drew = WDt at *
  have Hp2 := kbq Hp1 hbd
  have Hb2 := kbq Hb1 hbd
  have Hm2 := kbq Hm1 hbd
  have Hrp2 := kbq Hrp1 hbd
  have Hrb2 := kbq Hrb1 hbd
  have HB2 := ktq HB1 hbd
  have HZ2 := kzq HZ1 hbd.size
  clear Hp1 Hb1 Hm1 Hrp1 Hrb1 HB1 HZ1
  clear hbd
  refine tkq 0 ?_
  refine tkq 1 ?_
  refine rdq 2 (fun K hK => ?_)
  have z0 : WDt.cell? ⟨(w.heap.size + 1 + 1 + 1), 0, none⟩ = some (.int .i64 0) := Hrp2.out.cell 0
  have z1 : WDt.cell? ⟨(w.heap.size + 1 + 1 + 1), 1, none⟩ = some (.int .i64 0) := Hrp2.out.cell 1
  have z2 : WDt.cell? ⟨(w.heap.size + 1 + 1 + 1), 2, none⟩ = some (.slice none 0 0) := Hrp2.out.cell 2
  have f0 := Hrp2.out.free 0
  have f1 := Hrp2.out.free 1
  have f2 := Hrp2.out.free 2
  go_simp
  clear z0 z1 z2 f0 f1 f2
  have hch := Lib.hid ((((Chg.refl (w.heap.size + 1 + 1 + 1) WDt).set 0 (.int .i64 me)).set 1 (.int .i64 N)).set 2 (.slice p n c))
  have Hrp3 : Hid (Blk _ (w.heap.size + 1 + 1 + 1) #[.int .i64 me, .int .i64 N, .slice p n c] 36) := Lib.hid (((Hrp2.out.set 0 (.int .i64 me)).set 1 (.int .i64 N)).set 2 (.slice p n c))
  have HB3 := ksq HB2 hch (by show w.heap.size ≤ (w.heap.size + 1 + 1 + 1); omega)
  have HZ3 := kzq HZ2 hch.out.size
  have Hp3 := kcq Hp2 hch (by omega)
  have Hb3 := kcq Hb2 hch (by omega)
  have Hm3 := kcq Hm2 hch (by omega)
  have Hrb3 := kcq Hrb2 hch (by omega)
  clear hch hS0 Hp2 Hb2 Hm2 Hrp2 Hrb2 HB2 HZ2
  generalize (((WDt.setCell ⟨w.heap.size + 1 + 1 + 1, 0, none⟩ (.int .i64 me)).setCell ⟨w.heap.size + 1 + 1 + 1, 1, none⟩ (.int .i64 N)).setCell ⟨w.heap.size + 1 + 1 + 1, 2, none⟩ (.slice p n c)) = WPt at *
  refine hK.out _ _ ⟨Hp3.out.cell 0, Hp3.out.cell 1, Hp3.out.cell 2, Hb3.out.cell 0, Hb3.out.cell 1, Hb3.out.cell 2⟩ (fun hS0 => ?_)
  clear hK K
  try simp only [Act.put, List.getElem_toArray, List.getElem_cons_succ, List.getElem_cons_zero, List.setIfInBounds_toArray, List.set_cons_zero, List.set_cons_succ]
  refine rdq 3 (fun K hK => ?_)
  have z0 : WPt.cell? ⟨(w.heap.size + 1 + 1 + 1 + 1), 0, none⟩ = some (.int .i64 0) := Hrb3.out.cell 0
  have z1 : WPt.cell? ⟨(w.heap.size + 1 + 1 + 1 + 1), 1, none⟩ = some (.slice none 0 0) := Hrb3.out.cell 1
  have z2 : WPt.cell? ⟨(w.heap.size + 1 + 1 + 1 + 1), 2, none⟩ = some (.slice none 0 0) := Hrb3.out.cell 2
  have f0 := Hrb3.out.free 0
  have f1 := Hrb3.out.free 1
  have f2 := Hrb3.out.free 2
  go_simp
  clear z0 z1 z2 f0 f1 f2
  have hch := Lib.hid ((((Chg.refl (w.heap.size + 1 + 1 + 1 + 1) WPt).set 0 (.int .i64 mb)).set 1 (.slice pi ni ci)).set 2 (.slice po no co))
  have Hrb4 : Hid (Blk _ (w.heap.size + 1 + 1 + 1 + 1) #[.int .i64 mb, .slice pi ni ci, .slice po no co] 28) := Lib.hid (((Hrb3.out.set 0 (.int .i64 mb)).set 1 (.slice pi ni ci)).set 2 (.slice po no co))
  have HB4 := ksq HB3 hch (by show w.heap.size ≤ (w.heap.size + 1 + 1 + 1 + 1); omega)
  have HZ4 := kzq HZ3 hch.out.size
  have Hp4 := kcq Hp3 hch (by omega)
  have Hb4 := kcq Hb3 hch (by omega)
  have Hm4 := kcq Hm3 hch (by omega)
  have Hrp4 := kcq Hrp3 hch (by omega)
  clear hch hS0 Hp3 Hb3 Hm3 Hrp3 Hrb3 HB3 HZ3
  generalize (((WPt.setCell ⟨w.heap.size + 1 + 1 + 1 + 1, 0, none⟩ (.int .i64 mb)).setCell ⟨w.heap.size + 1 + 1 + 1 + 1, 1, none⟩ (.slice pi ni ci)).setCell ⟨w.heap.size + 1 + 1 + 1 + 1, 2, none⟩ (.slice po no co)) = WQt at *
  refine hK.out _ _ ⟨Hp4.out.cell 0, Hp4.out.cell 1, Hp4.out.cell 2, Hb4.out.cell 0, Hb4.out.cell 1, Hb4.out.cell 2⟩ (fun hS0 => ?_)
  clear hK K
  try simp only [Act.put, List.getElem_toArray, List.getElem_cons_succ, List.getElem_cons_zero, List.setIfInBounds_toArray, List.set_cons_zero, List.set_cons_succ]
  refine tkq 4 ?_
  refine tkq 5 ?_
  refine wpAnyH_done (by kernel_rfl) ?_ _
  clear hS0
  go_wp2_with fail
  have hfp := Hrp4.out
  have hfb := Hrb4.out
  refine bodyPost_ret (v := .tuple #[.agg #[.int .i64 me, .int .i64 N, .slice p n c], .agg #[.int .i64 mb, .slice pi ni ci, .slice po no co], .slice none 0 0, .int .i64 5]) (by simp [results, Try.results30, go_sem, hfp.cell 0, hfp.cell 1, hfp.cell 2, hfb.cell 0, hfb.cell 1, hfb.cell 2]) rfl ⟨HB4.out, p, n, c, pi, ni, ci, _, ps, xs, [], 5, rfl, (HV.out.same HB4.out).1, (HV.out.same HB4.out).2.1, (HV.out.same HB4.out).2.2, OwnT.nil_ _ _ _ _, saidR_nil _ _, fun h => absurd h HOKM.out.1, fun _ _ => ⟨rfl, rfl, rfl, rfl⟩, fun _ h => absurd h HFN.out⟩
 | false =>
  have HFN : Hid (findC ps y.m.y = none) := by
   show _ = _
   rw [HFC.out]
   have h1 := of_decide_eq_false hfb
   rw [Classical.not_not.1 h1]
   rfl
  clear hfb hmid HFC
  go_upto_region 6 with fail
  have HG := Lib.hid (bfree_any w1 mb pi po ni ci no co xs y.m.c (HV.out.its.kept HB1.out) (by have := HV.out.nx; omega))
  unfold bookV at HG
  have a0 : w1.cell? ⟨(w.heap.size + 1), 0, none⟩ = some (.int .i64 mb) := Hb1.out.cell 0
  have a1 : w1.cell? ⟨(w.heap.size + 1), 1, none⟩ = some (.slice pi ni ci) := Hb1.out.cell 1
  have a2 : w1.cell? ⟨(w.heap.size + 1), 2, none⟩ = some (.slice po no co) := Hb1.out.cell 2
  have c4 : w1.cell? ⟨(w.heap.size + 1 + 1), 4, none⟩ = some (.int .i64 y.m.c) := Hm1.out.cell 4
  go_wp2_with fail
  clear a0 a1 a2 c4
  refine HG.out.mono ?_
  rintro y9 w2 ⟨vF, rfl, hown, hb⟩
  clear HG
  have HFR := Lib.hid hown.row
  have hFat := hown.at_P (P := fun b => w.heap.size + 1 + 1 + 1 + 1 < b) (fun b hb => by have := Hrb1.out.lt; omega)
  obtain ⟨pF, cF, hvF⟩ := hown.form
  clear hown
  have Hp2 := kbq Hp1 hb
  have Hb2 := kbq Hb1 hb
  have Hm2 := kbq Hm1 hb
  have Hrp2 := kbq Hrp1 hb
  have Hrb2 := kbq Hrb1 hb
  have HB2 := ktq HB1 hb
  have HZ2 := kzq HZ1 hb.size
  clear Hp1 Hb1 Hm1 Hrp1 Hrb1 HB1 HZ1
  clear hb
  have HG := Lib.hid (first_any w2 pF (xs.filter (keepF y.m.c)).length cF (xs.filter (keepF y.m.c)) (by have h := HFR.out; rw [hvF] at h; exact h) rfl (by have h1 := HV.out.nx; have h2 := List.length_filter_le (keepF y.m.c) xs; omega))
  clear HFR
  obtain ⟨nF, hnF⟩ : ∃ k, (xs.filter (keepF y.m.c)).length = k := ⟨_, rfl⟩
  have hFat2 : At (fun b => w.heap.size + 1 + 1 + 1 + 1 < b) (.slice pF nF cF) nF := by rw [← hnF, ← hvF]; exact hFat
  clear hFat
  rw [hnF] at hvF HG
  have HNF := Lib.hid hnF
  clear hnF
  subst hvF
  have HFA := Lib.hid hFat2
  clear hFat2
  go_wp2_with fail
  refine HG.out.mono ?_
  rintro y9 w3 ⟨m0, cO, rfl, hrow, hb⟩
  clear HG
  have HOF : Hid (TRow encI w3 (.slice pF m0 cO) (offerL xs y.m)) := Lib.hid hrow
  clear hrow
  obtain ⟨its, hits⟩ : ∃ l, offerL xs y.m = l := ⟨_, rfl⟩
  rw [hits] at HOF
  have HITS := Lib.hid hits
  clear hits
  have hm0 : m0 = its.length := by
   obtain ⟨p9, c9, e9⟩ := HOF.out.shape
   exact (Value.slice.inj e9).2.1
  have HM0 : Hid (m0 = its.length ∧ m0 ≤ 128) := ⟨hm0, by rw [hm0, ← HITS.out]; unfold offerL; rw [List.length_take]; omega⟩
  clear hm0
  have Hp3 := kbq Hp2 hb
  have Hb3 := kbq Hb2 hb
  have Hm3 := kbq Hm2 hb
  have Hrp3 := kbq Hrp2 hb
  have Hrb3 := kbq Hrb2 hb
  have HB3 := ktq HB2 hb
  have HZ3 := kzq HZ2 hb.size
  clear Hp2 Hb2 Hm2 Hrp2 Hrb2 HB2 HZ2
  clear hb
  have HOA : Hid (At (fun b => w.heap.size + 1 + 1 + 1 + 1 < b) (.slice pF m0 cO) its.length) := by
   show At _ _ _
   rintro b9 o9 n9 c9 e9 h9
   cases e9
   refine HFA.out b9 o9 nF cF rfl ?_
   have h8 := HITS.out
   unfold offerL at h8
   rw [← h8, List.length_take] at h9
   have h7 := HNF.out
   omega
  clear HFA HNF
  go_upto_region 7 with fail
  have hsay : ∀ W, Below w3.heap.size w3 W → ∀ x : Itm, Calls Try.prog 47 #[x.v, .pointer (some ⟨w.heap.size + 1 + 1, 0, none⟩)] W fun e w' => e = ansI (lockI x y.m.y) ∧ Below W.heap.size W w' := fun W hb x => askc_any W x y.m.y (w.heap.size + 1 + 1) ((Hm3.out.below hb Hm3.out.lt).cell 6)
  have hokx : ∀ x ∈ its, (lockI x y.m.y).2 = 0 ∧ chkI (lockI x y.m.y).1 = 0 ∧ ((lockI x y.m.y).1.s = mb ∨ (lockI x y.m.y).1.b = mb) := fun x hx => by
   rw [← HITS.out] at hx
   obtain ⟨h1, h2⟩ := List.mem_filter.1 (List.mem_of_mem_take hx)
   obtain ⟨h3, _, h5⟩ := keepF_ok h2
   obtain ⟨h6, h7⟩ := HGD.out x h1
   exact lock_ok h3 h5 HOKM.out.2 h6 h7
  have HG := Lib.hid (each_ask w3 mb pi po ni ci no co xs its pF m0 cO (fun x => lockI x y.m.y) P (w.heap.size + 1 + 1) (HV.out.its.kept HB3.out) HV.out.nx.1 (by have h := HV.out.ai; rw [← HV.out.nx.1] at h; exact h) (fun b hb => Nat.lt_of_lt_of_le (HV.out.lt b hb) HB3.out.size) HV.out.srt HOF.out HM0.out.1 (by have h1 := HV.out.nx; have h2 := HM0.out; omega) hokx hsay)
  clear hsay hokx
  obtain ⟨xz, hxz⟩ : ∃ l, eachX (fun x => lockI x y.m.y) xs its = l := ⟨_, rfl⟩
  rw [hxz] at HG
  have HXZ := Lib.hid hxz
  clear hxz
  unfold bookV at HG
  have a0 : w3.cell? ⟨(w.heap.size + 1), 0, none⟩ = some (.int .i64 mb) := Hb3.out.cell 0
  have a1 : w3.cell? ⟨(w.heap.size + 1), 1, none⟩ = some (.slice pi ni ci) := Hb3.out.cell 1
  have a2 : w3.cell? ⟨(w.heap.size + 1), 2, none⟩ = some (.slice po no co) := Hb3.out.cell 2
  go_wp2_with fail
  clear a0 a1 a2
  refine HG.out.mono ?_
  rintro y9 w4 ⟨pz, cz, rfl, hrow, hat, hb⟩
  clear HG
  have HRZ := Lib.hid hrow
  have HAZ : Hid (At (fun b => P b ∨ w.heap.size + 1 + 1 + 1 + 1 < b) (.slice pz xz.length cz) xz.length) := Lib.hid (hat.imp (fun b h => h.imp id (fun h => by have := Hrb3.out.lt; omega)))
  have HLZ : Hid (∀ b, P b → b < w.heap.size) := Lib.hid HV.out.lt
  have HOF4 := Lib.hid (HOF.out.kept hb)
  clear hrow hat HOF
  have Hp4 := kbq Hp3 hb
  have Hb4 := kbq Hb3 hb
  have Hm4 := kbq Hm3 hb
  have Hrp4 := kbq Hrp3 hb
  have Hrb4 := kbq Hrb3 hb
  have HB4 := ktq HB3 hb
  have HZ4 := kzq HZ3 hb.size
  clear Hp3 Hb3 Hm3 Hrp3 Hrb3 HB3 HZ3
  clear hb
  go_wp2_with (with_reducible refine stop_storeT 28 (.tmp 4) (.tmp 57) rfl ?_)
  have HTH : Hid (w4.there (w.heap.size + 1) 0 3) := Hb4.out.thereAt
  have hch : Hid (Chg (w.heap.size + 1) w4 (w4.setCells (w.heap.size + 1) 0 (#[.int .i64 mb, .slice pz xz.length cz, .slice po no co] : Array Value).toList)) := Lib.hid (chg_putL _ _ _ _ _ (Chg.refl _ w4))
  have Hb5 : Hid (Blk (w4.setCells (w.heap.size + 1) 0 (#[.int .i64 mb, .slice pz xz.length cz, .slice po no co] : Array Value).toList) (w.heap.size + 1) #[.int .i64 mb, .slice pz xz.length cz, .slice po no co] 28) := Lib.hid (blk_put_all Hb4.out _ rfl)
  have HB5 : Hid (Below w.heap.size w (w4.setCells (w.heap.size + 1) 0 (#[.int .i64 mb, .slice pz xz.length cz, .slice po no co] : Array Value).toList)) := Lib.hid (below_put (by omega) _ _ _ _ HB4.out)
  have HZ5 := kzq HZ4 hch.out.size
  have Hp5 := kcq Hp4 hch (by omega)
  have Hm5 := kcq Hm4 hch (by omega)
  have Hrp5 := kcq Hrp4 hch (by omega)
  have Hrb5 := kcq Hrb4 hch (by omega)
  have HRZ := Lib.hid (HRZ.out.keepP HAZ.out (KeepP.of_chg hch.out (by have h9 := HLZ.out; rintro (h | h); (have h8 := h9 _ h; omega); omega)))
  have HOF5 := Lib.hid (HOF4.out.keepP HOA.out (KeepP.of_chg hch.out (by intro h; omega)))
  clear HOF4 hch Hp4 Hb4 Hm4 Hrp4 Hrb4 HB4 HZ4
  refine wpList_store_mid rfl 28 (.tmp 4) (.tmp 57) rfl (w.heap.size + 1) 0 #[.int .i64 mb, .slice pz xz.length cz, .slice po no co] rfl rfl HTH.out (infoB3 rfl) (all_oneCell_toArray (by intro u hu; simp at hu; rcases hu with rfl | rfl | rfl <;> rfl)) ?_
  generalize (w4.setCells (w.heap.size + 1) 0 (#[.int .i64 mb, .slice pz xz.length cz, .slice po no co] : Array Value).toList) = W4 at *
  clear HTH
  go_upto_region 8 with fail
  have c6 : W4.cell? ⟨(w.heap.size + 1 + 1), 6, none⟩ = some (.int .i64 y.m.y) := Hm5.out.cell 6
  have hlt4 : w.heap.size + 1 + 1 + 1 + 1 < W4.heap.size := Hrb5.out.lt
  have HOL : Hid (At (fun b => w.heap.size + 1 + 1 + 1 + 1 < b ∧ b < W4.heap.size) (.slice pF m0 cO) its.length) := by
   show At _ _ _
   rintro b9 o9 n9 c9 e9 h9
   cases e9
   obtain ⟨b8, o8, e8, h8, _⟩ := HOF5.out.at_ 0 h9
   cases e8
   exact ⟨HOA.out _ _ _ _ rfl h9, h8⟩
  have HAL : Hid (At (fun b => (P b ∨ w.heap.size + 1 + 1 + 1 + 1 < b) ∧ b < W4.heap.size) (.slice pz xz.length cz) xz.length) := by
   show At _ _ _
   rintro b9 o9 n9 c9 e9 h9
   cases e9
   obtain ⟨b8, o8, e8, h8, _⟩ := HRZ.out.at_ 0 h9
   cases e8
   exact ⟨HAZ.out _ _ _ _ rfl h9, h8⟩
  have HOF6 := Lib.hid (HOF5.out.kept (oneB W4 (.cells #[.int .i64 11, .int .i64 0, .int .i64 0, .int .i64 0, .int .i64 0, .int .i64 0, .int .i64 y.m.y, .int .i64 0, .bool false, .slice none 0 0, .slice none 0 0] 46)))
  have HRZ6 := Lib.hid (HRZ.out.kept (oneB W4 (.cells #[.int .i64 11, .int .i64 0, .int .i64 0, .int .i64 0, .int .i64 0, .int .i64 0, .int .i64 y.m.y, .int .i64 0, .bool false, .slice none 0 0, .slice none 0 0] 46)))
  have HG14 : Hid (w.heap.size + 1 + 1 + 1 + 1 < W4.heap.size) := hlt4
  have HS14 : Hid (W4.heap.size + 1 = (W4.alloc (.cells #[.int .i64 11, .int .i64 0, .int .i64 0, .int .i64 0, .int .i64 0, .int .i64 0, .int .i64 y.m.y, .int .i64 0, .bool false, .slice none 0 0, .slice none 0 0] 46)).heap.size) := by show _ = _; simp
  clear hlt4 HOF5 HRZ HOA HAZ
  have Hp6 := Lib.hid (Hp5.out.alloc (.cells #[.int .i64 11, .int .i64 0, .int .i64 0, .int .i64 0, .int .i64 0, .int .i64 0, .int .i64 y.m.y, .int .i64 0, .bool false, .slice none 0 0, .slice none 0 0] 46))
  have Hb6 := Lib.hid (Hb5.out.alloc (.cells #[.int .i64 11, .int .i64 0, .int .i64 0, .int .i64 0, .int .i64 0, .int .i64 0, .int .i64 y.m.y, .int .i64 0, .bool false, .slice none 0 0, .slice none 0 0] 46))
  have Hm6 := Lib.hid (Hm5.out.alloc (.cells #[.int .i64 11, .int .i64 0, .int .i64 0, .int .i64 0, .int .i64 0, .int .i64 0, .int .i64 y.m.y, .int .i64 0, .bool false, .slice none 0 0, .slice none 0 0] 46))
  have Hrp6 := Lib.hid (Hrp5.out.alloc (.cells #[.int .i64 11, .int .i64 0, .int .i64 0, .int .i64 0, .int .i64 0, .int .i64 0, .int .i64 y.m.y, .int .i64 0, .bool false, .slice none 0 0, .slice none 0 0] 46))
  have Hrb6 := Lib.hid (Hrb5.out.alloc (.cells #[.int .i64 11, .int .i64 0, .int .i64 0, .int .i64 0, .int .i64 0, .int .i64 0, .int .i64 y.m.y, .int .i64 0, .bool false, .slice none 0 0, .slice none 0 0] 46))
  have Hg6 := Lib.hid (Blk.new W4 #[.int .i64 11, .int .i64 0, .int .i64 0, .int .i64 0, .int .i64 0, .int .i64 0, .int .i64 y.m.y, .int .i64 0, .bool false, .slice none 0 0, .slice none 0 0] 46)
  have HB6 := Lib.hid (HB5.out.alloc HB5.out.size (.cells #[.int .i64 11, .int .i64 0, .int .i64 0, .int .i64 0, .int .i64 0, .int .i64 0, .int .i64 y.m.y, .int .i64 0, .bool false, .slice none 0 0, .slice none 0 0] 46))
  have HZ6 := kzq HZ5 (oneB W4 (.cells #[.int .i64 11, .int .i64 0, .int .i64 0, .int .i64 0, .int .i64 0, .int .i64 0, .int .i64 y.m.y, .int .i64 0, .bool false, .slice none 0 0, .slice none 0 0] 46)).size
  clear Hp5 Hb5 Hm5 Hrp5 Hrb5 HB5 HZ5
  go_upto_region 9 with fail
  clear c6
  generalize (W4.alloc (.cells #[.int .i64 11, .int .i64 0, .int .i64 0, .int .i64 0, .int .i64 0, .int .i64 0, .int .i64 y.m.y, .int .i64 0, .bool false, .slice none 0 0, .slice none 0 0] 46)) = W8 at *
  generalize hgg14 : W4.heap.size = g14 at *
  go_wp2_with fail
  go_loopw [64] (fun i wr => ∃ (k : Nat) (pv : Option Addr) (cv : Nat), k ≤ m0 ∧ i = .int .i64 k ∧ Hid (Blk wr g14 #[.int .i64 11, .int .i64 0, .int .i64 0, .int .i64 0, .int .i64 0, .int .i64 0, .int .i64 y.m.y, .int .i64 0, .bool false, .slice pv k cv, .slice none 0 0] 46 ∧ OwnT encN wr (g14 + 1) 50 (.slice pv k cv) ((its.take k).map lineOf) ∧ Below g14 W8 wr)) (fun i _ => m0 - (intOf i).toNat)
  case atStart => exact ⟨0, none, 0, by omega, rfl, Hg6.out, OwnT.nil_ _ _ _ _, Below.refl _ _⟩
  case round =>
   obtain ⟨k, pv, cv, hk, rfl, HK⟩ := hrel
   by_cases hlt : k < m0
   ·skip
    have hltI : (k : Int) < (m0 : Int) := by omega
    have hk41 : k + 1 ≤ 129 := by have := HM0.out; omega
    have HKM : Hid (k < its.length ∧ k < m0) := ⟨by have := HM0.out; omega, hlt⟩
    have hkeep : KeepP (fun b => b < g14) W8 wr := ⟨HK.out.2.2.size, fun b _ hb => HK.out.2.2.block b hb⟩
    obtain ⟨b, o, rfl, hbl, hcs⟩ := (HOF6.out.keepP (HOL.out.imp (fun b h => h.2)) hkeep).at_ k HKM.out.1
    have hlen1 : ((its.take (k + 1)).map lineOf) = (its.take k).map lineOf ++ [lineOf (its[k]'HKM.out.1)] := by rw [List.take_succ_eq_append_getElem HKM.out.1, List.map_append]; rfl
    have HL1 := Lib.hid hlen1
    clear hlen1 hkeep hbl
    have c0 : wr.cell? ⟨b, o + k * 8, none⟩ = some (.int .i64 (its[k]'HKM.out.1).s) := hcs 0 (by decide)
    have c1 : wr.cell? ⟨b, o + k * 8 + 1, none⟩ = some (.int .i64 (its[k]'HKM.out.1).n) := hcs 1 (by decide)
    have c2 : wr.cell? ⟨b, o + k * 8 + 2, none⟩ = some (.int .i64 (its[k]'HKM.out.1).b) := hcs 2 (by decide)
    have c3 : wr.cell? ⟨b, o + k * 8 + 3, none⟩ = some (.int .i64 (its[k]'HKM.out.1).c) := hcs 3 (by decide)
    have c4 : wr.cell? ⟨b, o + k * 8 + 4, none⟩ = some (.int .i64 (its[k]'HKM.out.1).a) := hcs 4 (by decide)
    have c5 : wr.cell? ⟨b, o + k * 8 + 5, none⟩ = some (.int .i64 (its[k]'HKM.out.1).r) := hcs 5 (by decide)
    have c6 : wr.cell? ⟨b, o + k * 8 + 6, none⟩ = some (.int .i64 (its[k]'HKM.out.1).t) := hcs 6 (by decide)
    have c7 : wr.cell? ⟨b, o + k * 8 + 7, none⟩ = some (.int .i64 (its[k]'HKM.out.1).y) := hcs 7 (by decide)
    clear hcs
    generalize its[k]'HKM.out.1 = x at *
    have hbx := oneB wr (.cells #[.int .i64 x.s, .int .i64 x.n, .int .i64 x.b, .int .i64 x.c, .int .i64 x.a, .int .i64 x.r, .int .i64 x.t, .int .i64 x.y] 54)
    have HX1 := Lib.hid (Blk.new wr #[.int .i64 x.s, .int .i64 x.n, .int .i64 x.b, .int .i64 x.c, .int .i64 x.a, .int .i64 x.r, .int .i64 x.t, .int .i64 x.y] 54)
    have HK1 : Hid (Blk (wr.alloc (.cells #[.int .i64 x.s, .int .i64 x.n, .int .i64 x.b, .int .i64 x.c, .int .i64 x.a, .int .i64 x.r, .int .i64 x.t, .int .i64 x.y] 54)) g14 #[.int .i64 11, .int .i64 0, .int .i64 0, .int .i64 0, .int .i64 0, .int .i64 0, .int .i64 y.m.y, .int .i64 0, .bool false, .slice pv k cv, .slice none 0 0] 46 ∧ OwnT encN (wr.alloc (.cells #[.int .i64 x.s, .int .i64 x.n, .int .i64 x.b, .int .i64 x.c, .int .i64 x.a, .int .i64 x.r, .int .i64 x.t, .int .i64 x.y] 54)) (g14 + 1) 50 (.slice pv k cv) ((its.take k).map lineOf) ∧ Below g14 W8 (wr.alloc (.cells #[.int .i64 x.s, .int .i64 x.n, .int .i64 x.b, .int .i64 x.c, .int .i64 x.a, .int .i64 x.r, .int .i64 x.t, .int .i64 x.y] 54))) := ⟨HK.out.1.alloc _, HK.out.2.1.later hbx, HK.out.2.2.trans (hbx.mono (Nat.le_of_lt HK.out.1.lt))⟩
    have HGX : Hid (g14 < wr.heap.size) := HK.out.1.lt
    have HGL : Hid (∀ g, (Value.slice pv k cv).ownBlock = some g → g < wr.heap.size) := fun g hg => HK.out.2.1.lt g hg
    clear hbx HK
    go_upto_region 12 with fail
    clear c0 c1 c2 c3 c4 c5 c6 c7
    generalize (wr.alloc (.cells #[.int .i64 x.s, .int .i64 x.n, .int .i64 x.b, .int .i64 x.c, .int .i64 x.a, .int .i64 x.r, .int .i64 x.t, .int .i64 x.y] 54)) = WX at *
    generalize wr.heap.size = gx at *
    have hbd := (Below.refl WX.heap.size WX).drew
    have hxd := HX1.out.below hbd HX1.out.lt
    refine wp_region_held_drew (S := fun w' => w'.cell? ⟨gx, 0, none⟩ = some (.int .i64 x.s) ∧ w'.cell? ⟨gx, 1, none⟩ = some (.int .i64 x.n) ∧ w'.cell? ⟨gx, 2, none⟩ = some (.int .i64 x.b) ∧ w'.cell? ⟨gx, 3, none⟩ = some (.int .i64 x.c) ∧ w'.cell? ⟨gx, 4, none⟩ = some (.int .i64 x.a) ∧ w'.cell? ⟨gx, 5, none⟩ = some (.int .i64 x.r) ∧ w'.cell? ⟨gx, 6, none⟩ = some (.int .i64 x.t) ∧ w'.cell? ⟨gx, 7, none⟩ = some (.int .i64 x.y)) (by kernel_rfl) ⟨hxd.cell 0, hxd.cell 1, hxd.cell 2, hxd.cell 3, hxd.cell 4, hxd.cell 5, hxd.cell 6, hxd.cell 7⟩ (fun hS0 => ?_)
    have HX2 := Lib.hid hxd
    have HK2 : Hid (Blk WX.drew g14 #[.int .i64 11, .int .i64 0, .int .i64 0, .int .i64 0, .int .i64 0, .int .i64 0, .int .i64 y.m.y, .int .i64 0, .bool false, .slice pv k cv, .slice none 0 0] 46 ∧ OwnT encN WX.drew (g14 + 1) 50 (.slice pv k cv) ((its.take k).map lineOf) ∧ Below g14 W8 WX.drew) := ⟨HK1.out.1.below hbd HK1.out.1.lt, HK1.out.2.1.later hbd, HK1.out.2.2.trans (hbd.mono (Nat.le_of_lt HK1.out.1.lt))⟩
    clear hxd hbd HX1 HK1
    generalize WX.drew = V0 at *
    refine tkq 0 ?_
    refine tkq 2 ?_
    refine wpAnyH_ready (rs := [1, 3]) (by kernel_rfl) (by simp) ?_
    refine AllReadyH.cons rfl (fun K hK => ?_) (AllReadyH.cons rfl (fun K hK => ?_) AllReadyH.nil)
    ·skip
     have a9 : V0.cell? ⟨g14, 9, none⟩ = some (.slice pv k cv) := HK2.out.1.cell 9
     go_simp
     clear a9
     refine hK.out _ _ ⟨HX2.out.cell 0, HX2.out.cell 1, HX2.out.cell 2, HX2.out.cell 3, HX2.out.cell 4, HX2.out.cell 5, HX2.out.cell 6, HX2.out.cell 7⟩ (fun hS0 => ?_)
     clear hK K
     try simp only [Act.put, List.getElem_toArray, List.getElem_cons_succ, List.getElem_cons_zero, List.setIfInBounds_toArray, List.set_cons_zero, List.set_cons_succ]
     refine rdq 3 (fun K hK => ?_)
     have HG := Lib.hid (line_any x V0)
     unfold Itm.v at HG
     go_simp
     go_at_call 49
     refine HG.out.mono ?_
     rintro y9 V1 ⟨rfl, hb⟩
     clear HG
     have HX3 := kbq HX2 hb
     have HK3 : Hid (Blk V1 g14 #[.int .i64 11, .int .i64 0, .int .i64 0, .int .i64 0, .int .i64 0, .int .i64 0, .int .i64 y.m.y, .int .i64 0, .bool false, .slice pv k cv, .slice none 0 0] 46 ∧ OwnT encN V1 (g14 + 1) 50 (.slice pv k cv) ((its.take k).map lineOf) ∧ Below g14 W8 V1) := ⟨HK2.out.1.below hb HK2.out.1.lt, HK2.out.2.1.later hb, HK2.out.2.2.trans (hb.mono (Nat.le_of_lt HK2.out.1.lt))⟩
     clear hb HK2 HX2 hS0
     try go_wp2_with fail
     refine hK.out _ _ ⟨HX3.out.cell 0, HX3.out.cell 1, HX3.out.cell 2, HX3.out.cell 3, HX3.out.cell 4, HX3.out.cell 5, HX3.out.cell 6, HX3.out.cell 7⟩ (fun hS0 => ?_)
     clear hK K
     try simp only [Act.put, List.getElem_toArray, List.getElem_cons_succ, List.getElem_cons_zero, List.setIfInBounds_toArray, List.set_cons_zero, List.set_cons_succ]
     refine rdq 4 (fun K hK => ?_)
     go_simp
     have hbz := oneB V1 (.cells #[.int .i64 x.s, .int .i64 x.n, .int .i64 x.b, .int .i64 x.a] 50)
     have HY := Lib.hid (TRow.one_ encN (lineOf x) (Blk.new V1 #[.int .i64 x.s, .int .i64 x.n, .int .i64 x.b, .int .i64 x.a] 50) rfl (Nat.le_refl 1))
     have HV1 : Hid (V1.heap.size < (V1.alloc (.cells #[.int .i64 x.s, .int .i64 x.n, .int .i64 x.b, .int .i64 x.a] 50)).heap.size) := by show _ < _; simp
     have HX4 := kbq HX3 hbz
     have HK4 : Hid (Blk (V1.alloc (.cells #[.int .i64 x.s, .int .i64 x.n, .int .i64 x.b, .int .i64 x.a] 50)) g14 #[.int .i64 11, .int .i64 0, .int .i64 0, .int .i64 0, .int .i64 0, .int .i64 0, .int .i64 y.m.y, .int .i64 0, .bool false, .slice pv k cv, .slice none 0 0] 46 ∧ OwnT encN (V1.alloc (.cells #[.int .i64 x.s, .int .i64 x.n, .int .i64 x.b, .int .i64 x.a] 50)) (g14 + 1) 50 (.slice pv k cv) ((its.take k).map lineOf) ∧ Below g14 W8 (V1.alloc (.cells #[.int .i64 x.s, .int .i64 x.n, .int .i64 x.b, .int .i64 x.a] 50))) := ⟨HK3.out.1.below hbz HK3.out.1.lt, HK3.out.2.1.later hbz, HK3.out.2.2.trans (hbz.mono (Nat.le_of_lt HK3.out.1.lt))⟩
     clear hbz HK3 HX3 hS0
     generalize V1.alloc (.cells #[.int .i64 x.s, .int .i64 x.n, .int .i64 x.b, .int .i64 x.a] 50) = V2 at *
     refine hK.out _ _ ⟨HX4.out.cell 0, HX4.out.cell 1, HX4.out.cell 2, HX4.out.cell 3, HX4.out.cell 4, HX4.out.cell 5, HX4.out.cell 6, HX4.out.cell 7⟩ (fun hS0 => ?_)
     clear hK K
     try simp only [Act.put, List.getElem_toArray, List.getElem_cons_succ, List.getElem_cons_zero, List.setIfInBounds_toArray, List.set_cons_zero, List.set_cons_succ]
     refine rdq 5 (fun K hK => ?_)
     refine step_append_tg rfl (.tmp 69) (.tmp 72) 43 rfl 50 zeroVN 32 (g14 + 1) eltN rfl (.slice pv k cv) (.slice (some ⟨V1.heap.size, 0, none⟩) 1 1) ((its.take k).map lineOf) [lineOf x] rfl rfl HK4.out.2.1 HY.out (by have := HKM.out; have := HM0.out; simp; omega) (by have := HKM.out; have := HM0.out; simp; omega) HK4.out.1.lt ((its.take (k + 1)).map lineOf) (k + 1) HL1.out.symm (by have := HKM.out; rw [List.length_map, List.length_take]; omega) ?_
     intro p2 c2 V3 hown2 hgr hor hbe
     have hk5 : Blk V3 g14 #[.int .i64 11, .int .i64 0, .int .i64 0, .int .i64 0, .int .i64 0, .int .i64 0, .int .i64 y.m.y, .int .i64 0, .bool false, .slice pv k cv, .slice none 0 0] 46 := HK4.out.1.below hbe (Nat.lt_succ_self _)
     have hx5 : Blk V3 gx #[.int .i64 x.s, .int .i64 x.n, .int .i64 x.b, .int .i64 x.c, .int .i64 x.a, .int .i64 x.r, .int .i64 x.t, .int .i64 x.y] 54 := (hgr.block gx HX4.out.lt (fun e => by have h1 := HGL.out gx e.symm; omega)).trans HX4.out
     have HO5 := Lib.hid hown2
     have HB5 : Hid (Below g14 W8 V3) := Lib.hid (HK4.out.2.2.trans (hbe.mono (Nat.le_succ _)))
     have HK5 := Lib.hid hk5
     have HX5 := Lib.hid hx5
     clear hown2 hgr hor hbe hk5 hx5 HK4 HX4 HY hS0
     refine hK.out _ _ ⟨HX5.out.cell 0, HX5.out.cell 1, HX5.out.cell 2, HX5.out.cell 3, HX5.out.cell 4, HX5.out.cell 5, HX5.out.cell 6, HX5.out.cell 7⟩ (fun hS0 => ?_)
     clear hK K
     try simp only [Act.put, List.getElem_toArray, List.getElem_cons_succ, List.getElem_cons_zero, List.setIfInBounds_toArray, List.set_cons_zero, List.set_cons_succ]
     refine tkq 6 ?_
     refine rdq 7 (fun K hK => ?_)
     have z9 : V3.cell? ⟨g14, 9, none⟩ = some (.slice pv k cv) := HK5.out.cell 9
     have f9 := HK5.out.free 9
     go_simp
     clear z9 f9
     have hch : Chg g14 V3 (V3.setCell ⟨g14, 9, none⟩ (.slice p2 (k + 1) c2)) := (Chg.refl g14 V3).set 9 _
     have HN : Hid (Blk (V3.setCell ⟨g14, 9, none⟩ (.slice p2 (k + 1) c2)) g14 #[.int .i64 11, .int .i64 0, .int .i64 0, .int .i64 0, .int .i64 0, .int .i64 0, .int .i64 y.m.y, .int .i64 0, .bool false, .slice p2 (k + 1) c2, .slice none 0 0] 46 ∧ OwnT encN (V3.setCell ⟨g14, 9, none⟩ (.slice p2 (k + 1) c2)) (g14 + 1) 50 (.slice p2 (k + 1) c2) ((its.take (k + 1)).map lineOf) ∧ Below g14 W8 (V3.setCell ⟨g14, 9, none⟩ (.slice p2 (k + 1) c2))) := ⟨HK5.out.set 9 (.slice p2 (k + 1) c2), HO5.out.stay (fun b9 h9 => hch.2 b9 (HO5.out.lt b9 h9) (by have h1 := HO5.out.block_ge b9 h9; omega)), HB5.out.setCell (p := ⟨g14, 9, none⟩) (Nat.le_refl _) _⟩
     have HX6 := Lib.hid (HX5.out.chg hch (by have := HGX.out; omega))
     clear hch hS0 HK5 HX5 HO5 HB5
     generalize (V3.setCell ⟨g14, 9, none⟩ (.slice p2 (k + 1) c2)) = V4 at *
     refine hK.out _ _ ⟨HX6.out.cell 0, HX6.out.cell 1, HX6.out.cell 2, HX6.out.cell 3, HX6.out.cell 4, HX6.out.cell 5, HX6.out.cell 6, HX6.out.cell 7⟩ (fun hS0 => ?_)
     clear hK K hS0
     try simp only [Act.put, List.getElem_toArray, List.getElem_cons_succ, List.getElem_cons_zero, List.setIfInBounds_toArray, List.set_cons_zero, List.set_cons_succ]
     refine wpAnyH_done (by kernel_rfl) ?_ _
     go_wp2_with fail
     go_roundw
     case rel => exact ⟨k + 1, p2, c2, by have := HKM.out; omega, by go_num, HN⟩
     case measure => have := HKM.out; simp [intOf]; omega
    ·skip
     have HG := Lib.hid (line_any x V0)
     unfold Itm.v at HG
     go_simp
     go_at_call 49
     refine HG.out.mono ?_
     rintro y9 V1 ⟨rfl, hb⟩
     clear HG
     have HX3 := kbq HX2 hb
     have HK3 : Hid (Blk V1 g14 #[.int .i64 11, .int .i64 0, .int .i64 0, .int .i64 0, .int .i64 0, .int .i64 0, .int .i64 y.m.y, .int .i64 0, .bool false, .slice pv k cv, .slice none 0 0] 46 ∧ OwnT encN V1 (g14 + 1) 50 (.slice pv k cv) ((its.take k).map lineOf) ∧ Below g14 W8 V1) := ⟨HK2.out.1.below hb HK2.out.1.lt, HK2.out.2.1.later hb, HK2.out.2.2.trans (hb.mono (Nat.le_of_lt HK2.out.1.lt))⟩
     clear hb HK2 HX2 hS0
     try go_wp2_with fail
     refine hK.out _ _ ⟨HX3.out.cell 0, HX3.out.cell 1, HX3.out.cell 2, HX3.out.cell 3, HX3.out.cell 4, HX3.out.cell 5, HX3.out.cell 6, HX3.out.cell 7⟩ (fun hS0 => ?_)
     clear hK K
     try simp only [Act.put, List.getElem_toArray, List.getElem_cons_succ, List.getElem_cons_zero, List.setIfInBounds_toArray, List.set_cons_zero, List.set_cons_succ]
     refine wpAnyH_ready (rs := [1, 4]) (by kernel_rfl) (by simp) ?_
     refine AllReadyH.cons rfl (fun K hK => ?_) (AllReadyH.cons rfl (fun K hK => ?_) AllReadyH.nil)
     ·skip
      have a9 : V1.cell? ⟨g14, 9, none⟩ = some (.slice pv k cv) := HK3.out.1.cell 9
      go_simp
      clear a9
      refine hK.out _ _ ⟨HX3.out.cell 0, HX3.out.cell 1, HX3.out.cell 2, HX3.out.cell 3, HX3.out.cell 4, HX3.out.cell 5, HX3.out.cell 6, HX3.out.cell 7⟩ (fun hS0 => ?_)
      clear hK K
      try simp only [Act.put, List.getElem_toArray, List.getElem_cons_succ, List.getElem_cons_zero, List.setIfInBounds_toArray, List.set_cons_zero, List.set_cons_succ]
      refine rdq 4 (fun K hK => ?_)
      go_simp
      have hbz := oneB V1 (.cells #[.int .i64 x.s, .int .i64 x.n, .int .i64 x.b, .int .i64 x.a] 50)
      have HY := Lib.hid (TRow.one_ encN (lineOf x) (Blk.new V1 #[.int .i64 x.s, .int .i64 x.n, .int .i64 x.b, .int .i64 x.a] 50) rfl (Nat.le_refl 1))
      have HV1 : Hid (V1.heap.size < (V1.alloc (.cells #[.int .i64 x.s, .int .i64 x.n, .int .i64 x.b, .int .i64 x.a] 50)).heap.size) := by show _ < _; simp
      have HX4 := kbq HX3 hbz
      have HK4 : Hid (Blk (V1.alloc (.cells #[.int .i64 x.s, .int .i64 x.n, .int .i64 x.b, .int .i64 x.a] 50)) g14 #[.int .i64 11, .int .i64 0, .int .i64 0, .int .i64 0, .int .i64 0, .int .i64 0, .int .i64 y.m.y, .int .i64 0, .bool false, .slice pv k cv, .slice none 0 0] 46 ∧ OwnT encN (V1.alloc (.cells #[.int .i64 x.s, .int .i64 x.n, .int .i64 x.b, .int .i64 x.a] 50)) (g14 + 1) 50 (.slice pv k cv) ((its.take k).map lineOf) ∧ Below g14 W8 (V1.alloc (.cells #[.int .i64 x.s, .int .i64 x.n, .int .i64 x.b, .int .i64 x.a] 50))) := ⟨HK3.out.1.below hbz HK3.out.1.lt, HK3.out.2.1.later hbz, HK3.out.2.2.trans (hbz.mono (Nat.le_of_lt HK3.out.1.lt))⟩
      clear hbz HK3 HX3 hS0
      generalize V1.alloc (.cells #[.int .i64 x.s, .int .i64 x.n, .int .i64 x.b, .int .i64 x.a] 50) = V2 at *
      refine hK.out _ _ ⟨HX4.out.cell 0, HX4.out.cell 1, HX4.out.cell 2, HX4.out.cell 3, HX4.out.cell 4, HX4.out.cell 5, HX4.out.cell 6, HX4.out.cell 7⟩ (fun hS0 => ?_)
      clear hK K
      try simp only [Act.put, List.getElem_toArray, List.getElem_cons_succ, List.getElem_cons_zero, List.setIfInBounds_toArray, List.set_cons_zero, List.set_cons_succ]
      refine rdq 5 (fun K hK => ?_)
      refine step_append_tg rfl (.tmp 69) (.tmp 72) 43 rfl 50 zeroVN 32 (g14 + 1) eltN rfl (.slice pv k cv) (.slice (some ⟨V1.heap.size, 0, none⟩) 1 1) ((its.take k).map lineOf) [lineOf x] rfl rfl HK4.out.2.1 HY.out (by have := HKM.out; have := HM0.out; simp; omega) (by have := HKM.out; have := HM0.out; simp; omega) HK4.out.1.lt ((its.take (k + 1)).map lineOf) (k + 1) HL1.out.symm (by have := HKM.out; rw [List.length_map, List.length_take]; omega) ?_
      intro p2 c2 V3 hown2 hgr hor hbe
      have hk5 : Blk V3 g14 #[.int .i64 11, .int .i64 0, .int .i64 0, .int .i64 0, .int .i64 0, .int .i64 0, .int .i64 y.m.y, .int .i64 0, .bool false, .slice pv k cv, .slice none 0 0] 46 := HK4.out.1.below hbe (Nat.lt_succ_self _)
      have hx5 : Blk V3 gx #[.int .i64 x.s, .int .i64 x.n, .int .i64 x.b, .int .i64 x.c, .int .i64 x.a, .int .i64 x.r, .int .i64 x.t, .int .i64 x.y] 54 := (hgr.block gx HX4.out.lt (fun e => by have h1 := HGL.out gx e.symm; omega)).trans HX4.out
      have HO5 := Lib.hid hown2
      have HB5 : Hid (Below g14 W8 V3) := Lib.hid (HK4.out.2.2.trans (hbe.mono (Nat.le_succ _)))
      have HK5 := Lib.hid hk5
      have HX5 := Lib.hid hx5
      clear hown2 hgr hor hbe hk5 hx5 HK4 HX4 HY hS0
      refine hK.out _ _ ⟨HX5.out.cell 0, HX5.out.cell 1, HX5.out.cell 2, HX5.out.cell 3, HX5.out.cell 4, HX5.out.cell 5, HX5.out.cell 6, HX5.out.cell 7⟩ (fun hS0 => ?_)
      clear hK K
      try simp only [Act.put, List.getElem_toArray, List.getElem_cons_succ, List.getElem_cons_zero, List.setIfInBounds_toArray, List.set_cons_zero, List.set_cons_succ]
      refine tkq 6 ?_
      refine rdq 7 (fun K hK => ?_)
      have z9 : V3.cell? ⟨g14, 9, none⟩ = some (.slice pv k cv) := HK5.out.cell 9
      have f9 := HK5.out.free 9
      go_simp
      clear z9 f9
      have hch : Chg g14 V3 (V3.setCell ⟨g14, 9, none⟩ (.slice p2 (k + 1) c2)) := (Chg.refl g14 V3).set 9 _
      have HN : Hid (Blk (V3.setCell ⟨g14, 9, none⟩ (.slice p2 (k + 1) c2)) g14 #[.int .i64 11, .int .i64 0, .int .i64 0, .int .i64 0, .int .i64 0, .int .i64 0, .int .i64 y.m.y, .int .i64 0, .bool false, .slice p2 (k + 1) c2, .slice none 0 0] 46 ∧ OwnT encN (V3.setCell ⟨g14, 9, none⟩ (.slice p2 (k + 1) c2)) (g14 + 1) 50 (.slice p2 (k + 1) c2) ((its.take (k + 1)).map lineOf) ∧ Below g14 W8 (V3.setCell ⟨g14, 9, none⟩ (.slice p2 (k + 1) c2))) := ⟨HK5.out.set 9 (.slice p2 (k + 1) c2), HO5.out.stay (fun b9 h9 => hch.2 b9 (HO5.out.lt b9 h9) (by have h1 := HO5.out.block_ge b9 h9; omega)), HB5.out.setCell (p := ⟨g14, 9, none⟩) (Nat.le_refl _) _⟩
      have HX6 := Lib.hid (HX5.out.chg hch (by have := HGX.out; omega))
      clear hch hS0 HK5 HX5 HO5 HB5
      generalize (V3.setCell ⟨g14, 9, none⟩ (.slice p2 (k + 1) c2)) = V4 at *
      refine hK.out _ _ ⟨HX6.out.cell 0, HX6.out.cell 1, HX6.out.cell 2, HX6.out.cell 3, HX6.out.cell 4, HX6.out.cell 5, HX6.out.cell 6, HX6.out.cell 7⟩ (fun hS0 => ?_)
      clear hK K hS0
      try simp only [Act.put, List.getElem_toArray, List.getElem_cons_succ, List.getElem_cons_zero, List.setIfInBounds_toArray, List.set_cons_zero, List.set_cons_succ]
      refine wpAnyH_done (by kernel_rfl) ?_ _
      go_wp2_with fail
      go_roundw
      case rel => exact ⟨k + 1, p2, c2, by have := HKM.out; omega, by go_num, HN⟩
      case measure => have := HKM.out; simp [intOf]; omega
     ·skip
      go_simp
      have hbz := oneB V1 (.cells #[.int .i64 x.s, .int .i64 x.n, .int .i64 x.b, .int .i64 x.a] 50)
      have HY := Lib.hid (TRow.one_ encN (lineOf x) (Blk.new V1 #[.int .i64 x.s, .int .i64 x.n, .int .i64 x.b, .int .i64 x.a] 50) rfl (Nat.le_refl 1))
      have HV1 : Hid (V1.heap.size < (V1.alloc (.cells #[.int .i64 x.s, .int .i64 x.n, .int .i64 x.b, .int .i64 x.a] 50)).heap.size) := by show _ < _; simp
      have HX4 := kbq HX3 hbz
      have HK4 : Hid (Blk (V1.alloc (.cells #[.int .i64 x.s, .int .i64 x.n, .int .i64 x.b, .int .i64 x.a] 50)) g14 #[.int .i64 11, .int .i64 0, .int .i64 0, .int .i64 0, .int .i64 0, .int .i64 0, .int .i64 y.m.y, .int .i64 0, .bool false, .slice pv k cv, .slice none 0 0] 46 ∧ OwnT encN (V1.alloc (.cells #[.int .i64 x.s, .int .i64 x.n, .int .i64 x.b, .int .i64 x.a] 50)) (g14 + 1) 50 (.slice pv k cv) ((its.take k).map lineOf) ∧ Below g14 W8 (V1.alloc (.cells #[.int .i64 x.s, .int .i64 x.n, .int .i64 x.b, .int .i64 x.a] 50))) := ⟨HK3.out.1.below hbz HK3.out.1.lt, HK3.out.2.1.later hbz, HK3.out.2.2.trans (hbz.mono (Nat.le_of_lt HK3.out.1.lt))⟩
      clear hbz HK3 HX3 hS0
      generalize V1.alloc (.cells #[.int .i64 x.s, .int .i64 x.n, .int .i64 x.b, .int .i64 x.a] 50) = V2 at *
      refine hK.out _ _ ⟨HX4.out.cell 0, HX4.out.cell 1, HX4.out.cell 2, HX4.out.cell 3, HX4.out.cell 4, HX4.out.cell 5, HX4.out.cell 6, HX4.out.cell 7⟩ (fun hS0 => ?_)
      clear hK K
      try simp only [Act.put, List.getElem_toArray, List.getElem_cons_succ, List.getElem_cons_zero, List.setIfInBounds_toArray, List.set_cons_zero, List.set_cons_succ]
      refine rdq 1 (fun K hK => ?_)
      have a9 : V2.cell? ⟨g14, 9, none⟩ = some (.slice pv k cv) := HK4.out.1.cell 9
      go_simp
      clear a9
      refine hK.out _ _ ⟨HX4.out.cell 0, HX4.out.cell 1, HX4.out.cell 2, HX4.out.cell 3, HX4.out.cell 4, HX4.out.cell 5, HX4.out.cell 6, HX4.out.cell 7⟩ (fun hS0 => ?_)
      clear hK K
      try simp only [Act.put, List.getElem_toArray, List.getElem_cons_succ, List.getElem_cons_zero, List.setIfInBounds_toArray, List.set_cons_zero, List.set_cons_succ]
      refine rdq 5 (fun K hK => ?_)
      refine step_append_tg rfl (.tmp 69) (.tmp 72) 43 rfl 50 zeroVN 32 (g14 + 1) eltN rfl (.slice pv k cv) (.slice (some ⟨V1.heap.size, 0, none⟩) 1 1) ((its.take k).map lineOf) [lineOf x] rfl rfl HK4.out.2.1 HY.out (by have := HKM.out; have := HM0.out; simp; omega) (by have := HKM.out; have := HM0.out; simp; omega) HK4.out.1.lt ((its.take (k + 1)).map lineOf) (k + 1) HL1.out.symm (by have := HKM.out; rw [List.length_map, List.length_take]; omega) ?_
      intro p2 c2 V3 hown2 hgr hor hbe
      have hk5 : Blk V3 g14 #[.int .i64 11, .int .i64 0, .int .i64 0, .int .i64 0, .int .i64 0, .int .i64 0, .int .i64 y.m.y, .int .i64 0, .bool false, .slice pv k cv, .slice none 0 0] 46 := HK4.out.1.below hbe (Nat.lt_succ_self _)
      have hx5 : Blk V3 gx #[.int .i64 x.s, .int .i64 x.n, .int .i64 x.b, .int .i64 x.c, .int .i64 x.a, .int .i64 x.r, .int .i64 x.t, .int .i64 x.y] 54 := (hgr.block gx HX4.out.lt (fun e => by have h1 := HGL.out gx e.symm; omega)).trans HX4.out
      have HO5 := Lib.hid hown2
      have HB5 : Hid (Below g14 W8 V3) := Lib.hid (HK4.out.2.2.trans (hbe.mono (Nat.le_succ _)))
      have HK5 := Lib.hid hk5
      have HX5 := Lib.hid hx5
      clear hown2 hgr hor hbe hk5 hx5 HK4 HX4 HY hS0
      refine hK.out _ _ ⟨HX5.out.cell 0, HX5.out.cell 1, HX5.out.cell 2, HX5.out.cell 3, HX5.out.cell 4, HX5.out.cell 5, HX5.out.cell 6, HX5.out.cell 7⟩ (fun hS0 => ?_)
      clear hK K
      try simp only [Act.put, List.getElem_toArray, List.getElem_cons_succ, List.getElem_cons_zero, List.setIfInBounds_toArray, List.set_cons_zero, List.set_cons_succ]
      refine tkq 6 ?_
      refine rdq 7 (fun K hK => ?_)
      have z9 : V3.cell? ⟨g14, 9, none⟩ = some (.slice pv k cv) := HK5.out.cell 9
      have f9 := HK5.out.free 9
      go_simp
      clear z9 f9
      have hch : Chg g14 V3 (V3.setCell ⟨g14, 9, none⟩ (.slice p2 (k + 1) c2)) := (Chg.refl g14 V3).set 9 _
      have HN : Hid (Blk (V3.setCell ⟨g14, 9, none⟩ (.slice p2 (k + 1) c2)) g14 #[.int .i64 11, .int .i64 0, .int .i64 0, .int .i64 0, .int .i64 0, .int .i64 0, .int .i64 y.m.y, .int .i64 0, .bool false, .slice p2 (k + 1) c2, .slice none 0 0] 46 ∧ OwnT encN (V3.setCell ⟨g14, 9, none⟩ (.slice p2 (k + 1) c2)) (g14 + 1) 50 (.slice p2 (k + 1) c2) ((its.take (k + 1)).map lineOf) ∧ Below g14 W8 (V3.setCell ⟨g14, 9, none⟩ (.slice p2 (k + 1) c2))) := ⟨HK5.out.set 9 (.slice p2 (k + 1) c2), HO5.out.stay (fun b9 h9 => hch.2 b9 (HO5.out.lt b9 h9) (by have h1 := HO5.out.block_ge b9 h9; omega)), HB5.out.setCell (p := ⟨g14, 9, none⟩) (Nat.le_refl _) _⟩
      have HX6 := Lib.hid (HX5.out.chg hch (by have := HGX.out; omega))
      clear hch hS0 HK5 HX5 HO5 HB5
      generalize (V3.setCell ⟨g14, 9, none⟩ (.slice p2 (k + 1) c2)) = V4 at *
      refine hK.out _ _ ⟨HX6.out.cell 0, HX6.out.cell 1, HX6.out.cell 2, HX6.out.cell 3, HX6.out.cell 4, HX6.out.cell 5, HX6.out.cell 6, HX6.out.cell 7⟩ (fun hS0 => ?_)
      clear hK K hS0
      try simp only [Act.put, List.getElem_toArray, List.getElem_cons_succ, List.getElem_cons_zero, List.setIfInBounds_toArray, List.set_cons_zero, List.set_cons_succ]
      refine wpAnyH_done (by kernel_rfl) ?_ _
      go_wp2_with fail
      go_roundw
      case rel => exact ⟨k + 1, p2, c2, by have := HKM.out; omega, by go_num, HN⟩
      case measure => have := HKM.out; simp [intOf]; omega
   ·skip
    have hltI : ¬ (k : Int) < (m0 : Int) := by omega
    have hkk : its.take k = its := List.take_of_length_le (by have := HM0.out; omega)
    rw [hkk] at HK
    obtain ⟨ll, hll⟩ : ∃ l, its.map lineOf = l := ⟨_, rfl⟩
    rw [hll] at HK
    have hkl : ll.length = k := by rw [← hll, List.length_map]; have := HM0.out; omega
    have HLL : Hid ((offerL xs y.m).map lineOf = ll) := by show _ = _; rw [HITS.out]; exact hll
    clear hkk hll
    subst hkl
    have hw := HK.out.2.2
    have hkeep : KeepP (fun b => b < g14) W8 wr := ⟨hw.size, fun b _ hb => hw.block b hb⟩
    have Hp91 := Lib.hid (Hp6.out.below hw (by have := HG14.out; omega))
    have Hb91 := Lib.hid (Hb6.out.below hw (by have := HG14.out; omega))
    have Hm91 := Lib.hid (Hm6.out.below hw (by have := HG14.out; omega))
    have Hrp91 := Lib.hid (Hrp6.out.below hw (by have := HG14.out; omega))
    have Hrb91 := Lib.hid (Hrb6.out.below hw (by have := HG14.out; omega))
    have HB91 := Lib.hid (HB6.out.trans (hw.mono (by have := HG14.out; omega)))
    have HZ91 : Hid (w.heap.size ≤ wr.heap.size) := Lib.hid HB91.out.size
    have Hg91 := Lib.hid HK.out.1
    have Sl91 := Lib.hid HK.out.2.1
    have HRZ := Lib.hid (HRZ6.out.keepP (HAL.out.imp (fun b h => h.2)) hkeep)
    have HAZ : Hid (At (fun b => P b ∨ w.heap.size + 1 + 1 + 1 + 1 < b) (.slice pz xz.length cz) xz.length) := Lib.hid (HAL.out.imp (fun b h => h.1))
    clear hw hkeep HK HRZ6 HAL HOF6 HOL Hp6 Hb6 Hm6 Hrp6 Hrb6 Hg6 HB6 HZ6
    go_upto_region 14 with fail
    have hbd := (Below.refl wr.heap.size wr).drew
    refine wp_region_held_drew (S := fun w' => w'.cell? ⟨w.heap.size, 0, none⟩ = some (.int .i64 me) ∧ w'.cell? ⟨w.heap.size, 1, none⟩ = some (.int .i64 N) ∧ w'.cell? ⟨w.heap.size, 2, none⟩ = some (.slice p n c) ∧ w'.cell? ⟨w.heap.size + 1, 0, none⟩ = some (.int .i64 mb) ∧ w'.cell? ⟨w.heap.size + 1, 1, none⟩ = some (.slice pz xz.length cz) ∧ w'.cell? ⟨w.heap.size + 1, 2, none⟩ = some (.slice po no co) ∧ w'.cell? ⟨w.heap.size + 1 + 1, 0, none⟩ = some (.int .i64 y.m.k) ∧ w'.cell? ⟨w.heap.size + 1 + 1, 1, none⟩ = some (.int .i64 y.m.s) ∧ w'.cell? ⟨w.heap.size + 1 + 1, 2, none⟩ = some (.int .i64 y.m.n) ∧ w'.cell? ⟨w.heap.size + 1 + 1, 3, none⟩ = some (.int .i64 y.m.b) ∧ w'.cell? ⟨w.heap.size + 1 + 1, 4, none⟩ = some (.int .i64 y.m.c) ∧ w'.cell? ⟨w.heap.size + 1 + 1, 5, none⟩ = some (.int .i64 y.m.r) ∧ w'.cell? ⟨w.heap.size + 1 + 1, 6, none⟩ = some (.int .i64 y.m.y) ∧ w'.cell? ⟨w.heap.size + 1 + 1, 7, none⟩ = some (.int .i64 y.m.a) ∧ w'.cell? ⟨w.heap.size + 1 + 1, 8, none⟩ = some (.bool y.m.t) ∧ w'.cell? ⟨w.heap.size + 1 + 1, 9, none⟩ = some (.slice y.pl y.m.ls.length y.cl) ∧ w'.cell? ⟨w.heap.size + 1 + 1, 10, none⟩ = some (.slice y.pn y.m.ns.length y.cn) ∧ w'.cell? ⟨g14, 0, none⟩ = some (.int .i64 11) ∧ w'.cell? ⟨g14, 1, none⟩ = some (.int .i64 0) ∧ w'.cell? ⟨g14, 2, none⟩ = some (.int .i64 0) ∧ w'.cell? ⟨g14, 3, none⟩ = some (.int .i64 0) ∧ w'.cell? ⟨g14, 4, none⟩ = some (.int .i64 0) ∧ w'.cell? ⟨g14, 5, none⟩ = some (.int .i64 0) ∧ w'.cell? ⟨g14, 6, none⟩ = some (.int .i64 y.m.y) ∧ w'.cell? ⟨g14, 7, none⟩ = some (.int .i64 0) ∧ w'.cell? ⟨g14, 8, none⟩ = some (.bool false) ∧ w'.cell? ⟨g14, 9, none⟩ = some (.slice pv ll.length cv) ∧ w'.cell? ⟨g14, 10, none⟩ = some (.slice none 0 0)) (by kernel_rfl) ⟨(Hp91.out.below hbd Hp91.out.lt).cell 0, (Hp91.out.below hbd Hp91.out.lt).cell 1, (Hp91.out.below hbd Hp91.out.lt).cell 2, (Hb91.out.below hbd Hb91.out.lt).cell 0, (Hb91.out.below hbd Hb91.out.lt).cell 1, (Hb91.out.below hbd Hb91.out.lt).cell 2, (Hm91.out.below hbd Hm91.out.lt).cell 0, (Hm91.out.below hbd Hm91.out.lt).cell 1, (Hm91.out.below hbd Hm91.out.lt).cell 2, (Hm91.out.below hbd Hm91.out.lt).cell 3, (Hm91.out.below hbd Hm91.out.lt).cell 4, (Hm91.out.below hbd Hm91.out.lt).cell 5, (Hm91.out.below hbd Hm91.out.lt).cell 6, (Hm91.out.below hbd Hm91.out.lt).cell 7, (Hm91.out.below hbd Hm91.out.lt).cell 8, (Hm91.out.below hbd Hm91.out.lt).cell 9, (Hm91.out.below hbd Hm91.out.lt).cell 10, (Hg91.out.below hbd Hg91.out.lt).cell 0, (Hg91.out.below hbd Hg91.out.lt).cell 1, (Hg91.out.below hbd Hg91.out.lt).cell 2, (Hg91.out.below hbd Hg91.out.lt).cell 3, (Hg91.out.below hbd Hg91.out.lt).cell 4, (Hg91.out.below hbd Hg91.out.lt).cell 5, (Hg91.out.below hbd Hg91.out.lt).cell 6, (Hg91.out.below hbd Hg91.out.lt).cell 7, (Hg91.out.below hbd Hg91.out.lt).cell 8, (Hg91.out.below hbd Hg91.out.lt).cell 9, (Hg91.out.below hbd Hg91.out.lt).cell 10⟩ (fun hS0 => ?_)
    have HRZ := Lib.hid (HRZ.out.kept hbd)
    generalize wr.drew = WF at *
    have Hp92 := kbq Hp91 hbd
    have Hb92 := kbq Hb91 hbd
    have Hm92 := kbq Hm91 hbd
    have Hrp92 := kbq Hrp91 hbd
    have Hrb92 := kbq Hrb91 hbd
    have Hg92 := kbq Hg91 hbd
    have Sl92 := Lib.hid (Sl91.out.later hbd)
    have HB92 := ktq HB91 hbd
    have HZ92 := kzq HZ91 hbd.size
    clear Hp91 Hb91 Hm91 Hrp91 Hrb91 Hg91 Sl91 HB91 HZ91
    clear hbd
    refine tkq 0 ?_
    refine tkq 1 ?_
    refine tkq 2 ?_
    refine tkq 3 ?_
    refine tkq 4 ?_
    refine tkq 5 ?_
    refine tkq 7 ?_
    refine tkq 8 ?_
    refine tkq 9 ?_
    refine tkq 11 ?_
    refine rdq 6 (fun K hK => ?_)
    have HG := Lib.hid (pwith_any WF me N p n c ps (⟨y.m.y, y.m.c, 1, none, 0, []⟩ : PtX) (HV.out.pts.row.kept HB92.out) HV.out.np.1 (by have := HV.out.np; omega) HV.out.pts.srt)
    unfold PtX.v at HG
    go_simp
    go_at_call 50
    refine HG.out.mono ?_
    rintro y9 w5 ⟨p3, n3, c3, rfl, hown, hb⟩
    clear HG
    have HP3 := Lib.hid hown
    have HSN : Hid (w.heap.size ≤ WF.heap.size) := Lib.hid HB92.out.size
    have HG3 : Hid (∀ g, (Value.slice p3 n3 c3).ownBlock = some g → g14 < g) := fun g hg => by have h1 := hown.block_ge g hg; have h2 := Hg92.out.lt; omega
    have HRZ := Lib.hid (HRZ.out.kept hb)
    clear hown
    have Hp93 := kbq Hp92 hb
    have Hb93 := kbq Hb92 hb
    have Hm93 := kbq Hm92 hb
    have Hrp93 := kbq Hrp92 hb
    have Hrb93 := kbq Hrb92 hb
    have Hg93 := kbq Hg92 hb
    have Sl93 := Lib.hid (Sl92.out.later hb)
    have HB93 := ktq HB92 hb
    have HZ93 := kzq HZ92 hb.size
    clear Hp92 Hb92 Hm92 Hrp92 Hrb92 Hg92 Sl92 HB92 HZ92
    clear hb hS0
    try go_wp2_with fail
    refine hK.out _ _ ⟨Hp93.out.cell 0, Hp93.out.cell 1, Hp93.out.cell 2, Hb93.out.cell 0, Hb93.out.cell 1, Hb93.out.cell 2, Hm93.out.cell 0, Hm93.out.cell 1, Hm93.out.cell 2, Hm93.out.cell 3, Hm93.out.cell 4, Hm93.out.cell 5, Hm93.out.cell 6, Hm93.out.cell 7, Hm93.out.cell 8, Hm93.out.cell 9, Hm93.out.cell 10, Hg93.out.cell 0, Hg93.out.cell 1, Hg93.out.cell 2, Hg93.out.cell 3, Hg93.out.cell 4, Hg93.out.cell 5, Hg93.out.cell 6, Hg93.out.cell 7, Hg93.out.cell 8, Hg93.out.cell 9, Hg93.out.cell 10⟩ (fun hS0 => ?_)
    clear hK K
    try simp only [Act.put, List.getElem_toArray, List.getElem_cons_succ, List.getElem_cons_zero, List.setIfInBounds_toArray, List.set_cons_zero, List.set_cons_succ]
    have Sn93 := HP3
    clear HP3
    refine rdq 10 (fun K hK => ?_)
    have HG := Lib.hid (says_any w5 me N p n c (⟨⟨11, 0, 0, 0, 0, 0, y.m.y, 0, false, ll, []⟩, pv, cv, none, 0⟩ : MsgX))
    unfold Msg.v at HG
    go_simp
    go_at_call 51
    refine HG.out.mono ?_
    rintro y9 w6 ⟨v5, rfl, hown, hb⟩
    clear HG
    have HS5 := Lib.hid hown
    have HSO : Hid (w.heap.size ≤ w5.heap.size) := Lib.hid HB93.out.size
    have HG5 : Hid (∀ g, v5.ownBlock = some g → g14 < g) := fun g hg => by have h1 := hown.block_ge g hg; have h2 := Hg93.out.lt; omega
    have HRZ := Lib.hid (HRZ.out.kept hb)
    clear hown
    have Hp94 := kbq Hp93 hb
    have Hb94 := kbq Hb93 hb
    have Hm94 := kbq Hm93 hb
    have Hrp94 := kbq Hrp93 hb
    have Hrb94 := kbq Hrb93 hb
    have Hg94 := kbq Hg93 hb
    have Sl94 := Lib.hid (Sl93.out.later hb)
    have Sn94 := Lib.hid (Sn93.out.later hb)
    have HB94 := ktq HB93 hb
    have HZ94 := kzq HZ93 hb.size
    clear Hp93 Hb93 Hm93 Hrp93 Hrb93 Hg93 Sl93 Sn93 HB93 HZ93
    clear hb hS0
    try go_wp2_with fail
    refine hK.out _ _ ⟨Hp94.out.cell 0, Hp94.out.cell 1, Hp94.out.cell 2, Hb94.out.cell 0, Hb94.out.cell 1, Hb94.out.cell 2, Hm94.out.cell 0, Hm94.out.cell 1, Hm94.out.cell 2, Hm94.out.cell 3, Hm94.out.cell 4, Hm94.out.cell 5, Hm94.out.cell 6, Hm94.out.cell 7, Hm94.out.cell 8, Hm94.out.cell 9, Hm94.out.cell 10, Hg94.out.cell 0, Hg94.out.cell 1, Hg94.out.cell 2, Hg94.out.cell 3, Hg94.out.cell 4, Hg94.out.cell 5, Hg94.out.cell 6, Hg94.out.cell 7, Hg94.out.cell 8, Hg94.out.cell 9, Hg94.out.cell 10⟩ (fun hS0 => ?_)
    clear hK K
    try simp only [Act.put, List.getElem_toArray, List.getElem_cons_succ, List.getElem_cons_zero, List.setIfInBounds_toArray, List.set_cons_zero, List.set_cons_succ]
    have So94 := HS5
    clear HS5
    refine rdq 12 (fun K hK => ?_)
    have z0 : w6.cell? ⟨(w.heap.size + 1 + 1 + 1), 0, none⟩ = some (.int .i64 0) := Hrp94.out.cell 0
    have z1 : w6.cell? ⟨(w.heap.size + 1 + 1 + 1), 1, none⟩ = some (.int .i64 0) := Hrp94.out.cell 1
    have z2 : w6.cell? ⟨(w.heap.size + 1 + 1 + 1), 2, none⟩ = some (.slice none 0 0) := Hrp94.out.cell 2
    have f0 := Hrp94.out.free 0
    have f1 := Hrp94.out.free 1
    have f2 := Hrp94.out.free 2
    go_simp
    clear z0 z1 z2 f0 f1 f2
    have hch := Lib.hid ((((Chg.refl (w.heap.size + 1 + 1 + 1) w6).set 0 (.int .i64 me)).set 1 (.int .i64 N)).set 2 (.slice p3 n3 c3))
    have Hrp95 : Hid (Blk _ (w.heap.size + 1 + 1 + 1) #[.int .i64 me, .int .i64 N, .slice p3 n3 c3] 36) := Lib.hid (((Hrp94.out.set 0 (.int .i64 me)).set 1 (.int .i64 N)).set 2 (.slice p3 n3 c3))
    have HB95 := ksq HB94 hch (by show w.heap.size ≤ (w.heap.size + 1 + 1 + 1); omega)
    have HZ95 := kzq HZ94 hch.out.size
    have Hp95 := kcq Hp94 hch (by have := HG14.out; omega)
    have Hb95 := kcq Hb94 hch (by have := HG14.out; omega)
    have Hm95 := kcq Hm94 hch (by have := HG14.out; omega)
    have Hrb95 := kcq Hrb94 hch (by have := HG14.out; omega)
    have Hg95 := kcq Hg94 hch (by have := HG14.out; omega)
    have Sl95 := Lib.hid (Sl94.out.stay (fun b hb => hch.out.2 b (Sl94.out.lt b hb) (by have h1 := Sl94.out.block_ge b hb; have h8 := HG14.out; omega)))
    have Sn95 := Lib.hid (Sn94.out.stay (fun b hb => hch.out.2 b (Sn94.out.lt b hb) (by have h1 := Sn94.out.block_ge b hb; have h9 := HG3.out b hb; have h8 := HG14.out; omega)))
    have So95 := Lib.hid (So94.out.stay (fun b hb => hch.out.2 b (So94.out.lt b hb) (by have h1 := So94.out.block_ge b hb; have h9 := HG5.out b hb; have h8 := HG14.out; omega)))
    have HRZ := Lib.hid (HRZ.out.keepP HAZ.out (KeepP.of_chg hch.out (by have h9 := HLZ.out; rintro (h | h); (have h8 := h9 _ h; omega); have h8 := HG14.out; omega)))
    clear hch hS0 Hp94 Hb94 Hm94 Hrp94 Hrb94 Hg94 Sl94 Sn94 So94 HB94 HZ94
    generalize (((w6.setCell ⟨w.heap.size + 1 + 1 + 1, 0, none⟩ (.int .i64 me)).setCell ⟨w.heap.size + 1 + 1 + 1, 1, none⟩ (.int .i64 N)).setCell ⟨w.heap.size + 1 + 1 + 1, 2, none⟩ (.slice p3 n3 c3)) = WP9 at *
    refine hK.out _ _ ⟨Hp95.out.cell 0, Hp95.out.cell 1, Hp95.out.cell 2, Hb95.out.cell 0, Hb95.out.cell 1, Hb95.out.cell 2, Hm95.out.cell 0, Hm95.out.cell 1, Hm95.out.cell 2, Hm95.out.cell 3, Hm95.out.cell 4, Hm95.out.cell 5, Hm95.out.cell 6, Hm95.out.cell 7, Hm95.out.cell 8, Hm95.out.cell 9, Hm95.out.cell 10, Hg95.out.cell 0, Hg95.out.cell 1, Hg95.out.cell 2, Hg95.out.cell 3, Hg95.out.cell 4, Hg95.out.cell 5, Hg95.out.cell 6, Hg95.out.cell 7, Hg95.out.cell 8, Hg95.out.cell 9, Hg95.out.cell 10⟩ (fun hS0 => ?_)
    clear hK K
    try simp only [Act.put, List.getElem_toArray, List.getElem_cons_succ, List.getElem_cons_zero, List.setIfInBounds_toArray, List.set_cons_zero, List.set_cons_succ]
    refine rdq 13 (fun K hK => ?_)
    have z0 : WP9.cell? ⟨(w.heap.size + 1 + 1 + 1 + 1), 0, none⟩ = some (.int .i64 0) := Hrb95.out.cell 0
    have z1 : WP9.cell? ⟨(w.heap.size + 1 + 1 + 1 + 1), 1, none⟩ = some (.slice none 0 0) := Hrb95.out.cell 1
    have z2 : WP9.cell? ⟨(w.heap.size + 1 + 1 + 1 + 1), 2, none⟩ = some (.slice none 0 0) := Hrb95.out.cell 2
    have f0 := Hrb95.out.free 0
    have f1 := Hrb95.out.free 1
    have f2 := Hrb95.out.free 2
    go_simp
    clear z0 z1 z2 f0 f1 f2
    have hch := Lib.hid ((((Chg.refl (w.heap.size + 1 + 1 + 1 + 1) WP9).set 0 (.int .i64 mb)).set 1 (.slice pz xz.length cz)).set 2 (.slice po no co))
    have Hrb96 : Hid (Blk _ (w.heap.size + 1 + 1 + 1 + 1) #[.int .i64 mb, .slice pz xz.length cz, .slice po no co] 28) := Lib.hid (((Hrb95.out.set 0 (.int .i64 mb)).set 1 (.slice pz xz.length cz)).set 2 (.slice po no co))
    have HB96 := ksq HB95 hch (by show w.heap.size ≤ (w.heap.size + 1 + 1 + 1 + 1); omega)
    have HZ96 := kzq HZ95 hch.out.size
    have Hp96 := kcq Hp95 hch (by have := HG14.out; omega)
    have Hb96 := kcq Hb95 hch (by have := HG14.out; omega)
    have Hm96 := kcq Hm95 hch (by have := HG14.out; omega)
    have Hrp96 := kcq Hrp95 hch (by have := HG14.out; omega)
    have Hg96 := kcq Hg95 hch (by have := HG14.out; omega)
    have Sl96 := Lib.hid (Sl95.out.stay (fun b hb => hch.out.2 b (Sl95.out.lt b hb) (by have h1 := Sl95.out.block_ge b hb; have h8 := HG14.out; omega)))
    have Sn96 := Lib.hid (Sn95.out.stay (fun b hb => hch.out.2 b (Sn95.out.lt b hb) (by have h1 := Sn95.out.block_ge b hb; have h9 := HG3.out b hb; have h8 := HG14.out; omega)))
    have So96 := Lib.hid (So95.out.stay (fun b hb => hch.out.2 b (So95.out.lt b hb) (by have h1 := So95.out.block_ge b hb; have h9 := HG5.out b hb; have h8 := HG14.out; omega)))
    have HRZ := Lib.hid (HRZ.out.keepP HAZ.out (KeepP.of_chg hch.out (by have h9 := HLZ.out; rintro (h | h); (have h8 := h9 _ h; omega); have h8 := HG14.out; omega)))
    clear hch hS0 Hp95 Hb95 Hm95 Hrp95 Hrb95 Hg95 Sl95 Sn95 So95 HB95 HZ95
    generalize (((WP9.setCell ⟨w.heap.size + 1 + 1 + 1 + 1, 0, none⟩ (.int .i64 mb)).setCell ⟨w.heap.size + 1 + 1 + 1 + 1, 1, none⟩ (.slice pz xz.length cz)).setCell ⟨w.heap.size + 1 + 1 + 1 + 1, 2, none⟩ (.slice po no co)) = WQ9 at *
    refine hK.out _ _ ⟨Hp96.out.cell 0, Hp96.out.cell 1, Hp96.out.cell 2, Hb96.out.cell 0, Hb96.out.cell 1, Hb96.out.cell 2, Hm96.out.cell 0, Hm96.out.cell 1, Hm96.out.cell 2, Hm96.out.cell 3, Hm96.out.cell 4, Hm96.out.cell 5, Hm96.out.cell 6, Hm96.out.cell 7, Hm96.out.cell 8, Hm96.out.cell 9, Hm96.out.cell 10, Hg96.out.cell 0, Hg96.out.cell 1, Hg96.out.cell 2, Hg96.out.cell 3, Hg96.out.cell 4, Hg96.out.cell 5, Hg96.out.cell 6, Hg96.out.cell 7, Hg96.out.cell 8, Hg96.out.cell 9, Hg96.out.cell 10⟩ (fun hS0 => ?_)
    clear hK K
    try simp only [Act.put, List.getElem_toArray, List.getElem_cons_succ, List.getElem_cons_zero, List.setIfInBounds_toArray, List.set_cons_zero, List.set_cons_succ]
    refine tkq 14 ?_
    refine tkq 15 ?_
    refine wpAnyH_done (by kernel_rfl) ?_ _
    clear hS0
    obtain ⟨p5, c5, hv5⟩ := So96.out.form
    subst hv5
    go_wp2_with fail
    have hfp := Hrp96.out
    have hfb := Hrb96.out
    refine bodyPost_ret (v := .tuple #[.agg #[.int .i64 me, .int .i64 N, .slice p3 n3 c3], .agg #[.int .i64 mb, .slice pz xz.length cz, .slice po no co], .slice p5 [(⟨N, (⟨⟨11, 0, 0, 0, 0, 0, y.m.y, 0, false, ll, []⟩, pv, cv, none, 0⟩ : MsgX)⟩ : SdX)].length c5, .int .i64 0]) (by simp [results, Try.results30, go_sem, hfp.cell 0, hfp.cell 1, hfp.cell 2, hfb.cell 0, hfb.cell 1, hfb.cell 2]) rfl ⟨HB96.out, p3, n3, c3, pz, xz.length, cz, _, insC ps (⟨y.m.y, y.m.c, 1, none, 0, []⟩ : PtX), xz, [⟨N, (⟨⟨11, 0, 0, 0, 0, 0, y.m.y, 0, false, ll, []⟩, pv, cv, none, 0⟩ : MsgX)⟩], 0, rfl, insC_pts HV.out.pts HB96.out Sn96.out ⟨TRow.nil_ _ _, At.nil_ _ _⟩ (fun _ h => .inl h) (fun b hb => .inr (Nat.le_trans HSN.out hb)), HRZ.out, HAZ.out.imp (fun b h => h.imp id (fun h => by omega)), So96.out.less HSO.out, ?_, ?_⟩
    ·intro z hz
     rw [List.mem_singleton.1 hz]
     exact ⟨Sl96.out.row, Sl96.out.at_P (fun b hb => .inr (by have := HG14.out; omega))⟩
    ·exact ⟨fun h => absurd h HOKM.out.1, fun _ h => absurd HFN.out h, fun _ _ => ⟨rfl, rfl, by rw [HITS.out]; exact HXZ.out.symm, pv, cv, by rw [HLL.out]⟩⟩
end Go.Proofs.Ytmhocihajobkkaa
