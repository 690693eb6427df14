/- contralaw13.same by contract: packets that are the same are the same. -/
import Derived.Test.YtfdehnfcoojljaaNetOwn
import Derived.Test.YtfdehnfcoojljaaMsgSame
import Derived.Deep.CutRange
import Derived.Deep.CutBlock
namespace Go.Proofs.Ytfdehnfcoojljaa
open Go.RowKit
set_option linter.unusedSimpArgs false
set_option maxHeartbeats 4000000 in
set_option maxRecDepth 100000 in
theorem ksame_any (y z : PkX) (w : World) (hpk : y.pk = z.pk) (ha : TRow encN w y.x.vl y.x.m.ls) (hb : Row .i64 w y.x.vn y.x.m.ns) (hc : TRow encN w z.x.vl z.x.m.ls) (hd : Row .i64 w z.x.vn z.x.m.ns) (hz : y.x.m.Sz) : Calls Try.prog 11 #[y.v, z.v] w fun e w' => e = .returned (.bool true) ∧ Below w.heap.size w w'  := by
  obtain ⟨f, t, n, h, ⟨m, pl, cl, pn, cn⟩⟩ := y
  obtain ⟨f2, t2, n2, h2, ⟨m2, ql, dl, qn, dn⟩⟩ := z
  have e1 : f = f2 := congrArg Pk.f hpk
  have e2 : t = t2 := congrArg Pk.t hpk
  have e3 : n = n2 := congrArg Pk.n hpk
  have e4 : h = h2 := congrArg Pk.h hpk
  have e5 : m = m2 := congrArg Pk.m hpk
  subst e1 e2 e3 e4 e5
  clear hpk
  dsimp only [MsgX.vl, MsgX.vn] at ha hb hc hd hz
  unfold PkX.v
  dsimp only
  have HB0 := Lib.hid ((oneB w (.cells #[.int .i64 f, .int .i64 t, .int .i64 n, .int .i64 h, .int .i64 m.k, .int .i64 m.s, .int .i64 m.n, .int .i64 m.b, .int .i64 m.c, .int .i64 m.r, .int .i64 m.y, .int .i64 m.a, .bool m.t, .slice pl m.ls.length cl, .slice pn m.ns.length cn] 38)).trans ((oneB (w.alloc (.cells #[.int .i64 f, .int .i64 t, .int .i64 n, .int .i64 h, .int .i64 m.k, .int .i64 m.s, .int .i64 m.n, .int .i64 m.b, .int .i64 m.c, .int .i64 m.r, .int .i64 m.y, .int .i64 m.a, .bool m.t, .slice pl m.ls.length cl, .slice pn m.ns.length cn] 38)) (.cells #[.int .i64 f, .int .i64 t, .int .i64 n, .int .i64 h, .int .i64 m.k, .int .i64 m.s, .int .i64 m.n, .int .i64 m.b, .int .i64 m.c, .int .i64 m.r, .int .i64 m.y, .int .i64 m.a, .bool m.t, .slice ql m.ls.length dl, .slice qn m.ns.length dn] 38)).mono (by simp)))
  have hk1 := (Blk.new w #[.int .i64 f, .int .i64 t, .int .i64 n, .int .i64 h, .int .i64 m.k, .int .i64 m.s, .int .i64 m.n, .int .i64 m.b, .int .i64 m.c, .int .i64 m.r, .int .i64 m.y, .int .i64 m.a, .bool m.t, .slice pl m.ls.length cl, .slice pn m.ns.length cn] 38).alloc (.cells #[.int .i64 f, .int .i64 t, .int .i64 n, .int .i64 h, .int .i64 m.k, .int .i64 m.s, .int .i64 m.n, .int .i64 m.b, .int .i64 m.c, .int .i64 m.r, .int .i64 m.y, .int .i64 m.a, .bool m.t, .slice ql m.ls.length dl, .slice qn m.ns.length dn] 38)
  have hk2 := Blk.new' (w.alloc (.cells #[.int .i64 f, .int .i64 t, .int .i64 n, .int .i64 h, .int .i64 m.k, .int .i64 m.s, .int .i64 m.n, .int .i64 m.b, .int .i64 m.c, .int .i64 m.r, .int .i64 m.y, .int .i64 m.a, .bool m.t, .slice pl m.ls.length cl, .slice pn m.ns.length cn] 38)) #[.int .i64 f, .int .i64 t, .int .i64 n, .int .i64 h, .int .i64 m.k, .int .i64 m.s, .int .i64 m.n, .int .i64 m.b, .int .i64 m.c, .int .i64 m.r, .int .i64 m.y, .int .i64 m.a, .bool m.t, .slice ql m.ls.length dl, .slice qn m.ns.length dn] 38 (b := w.heap.size + 1) (by simp)
  have HMS := Lib.hid (msame_any m _ _ _ _ ((w.alloc (.cells #[.int .i64 f, .int .i64 t, .int .i64 n, .int .i64 h, .int .i64 m.k, .int .i64 m.s, .int .i64 m.n, .int .i64 m.b, .int .i64 m.c, .int .i64 m.r, .int .i64 m.y, .int .i64 m.a, .bool m.t, .slice pl m.ls.length cl, .slice pn m.ns.length cn] 38)).alloc (.cells #[.int .i64 f, .int .i64 t, .int .i64 n, .int .i64 h, .int .i64 m.k, .int .i64 m.s, .int .i64 m.n, .int .i64 m.b, .int .i64 m.c, .int .i64 m.r, .int .i64 m.y, .int .i64 m.a, .bool m.t, .slice ql m.ls.length dl, .slice qn m.ns.length dn] 38)) (ha.kept HB0.out) (hb.kept HB0.out) (hc.kept HB0.out) (hd.kept HB0.out) (by have := hz.1; omega) (by have := hz.2; omega))
  unfold Msg.v at HMS
  clear ha hb hc hd hz
  go_enter Try.func11, Try.ntmps11
  go_upto_region 1 with fail
  generalize (w.alloc (.cells #[.int .i64 f, .int .i64 t, .int .i64 n, .int .i64 h, .int .i64 m.k, .int .i64 m.s, .int .i64 m.n, .int .i64 m.b, .int .i64 m.c, .int .i64 m.r, .int .i64 m.y, .int .i64 m.a, .bool m.t, .slice pl m.ls.length cl, .slice pn m.ns.length cn] 38)).alloc (.cells #[.int .i64 f, .int .i64 t, .int .i64 n, .int .i64 h, .int .i64 m.k, .int .i64 m.s, .int .i64 m.n, .int .i64 m.b, .int .i64 m.c, .int .i64 m.r, .int .i64 m.y, .int .i64 m.a, .bool m.t, .slice ql m.ls.length dl, .slice qn m.ns.length dn] 38) = w2 at *
  have a0 : w2.cell? ⟨w.heap.size, 0, none⟩ = some (.int .i64 f) := hk1.cell 0
  have a1 : w2.cell? ⟨w.heap.size, 1, none⟩ = some (.int .i64 t) := hk1.cell 1
  have a2 : w2.cell? ⟨w.heap.size, 2, none⟩ = some (.int .i64 n) := hk1.cell 2
  have a3 : w2.cell? ⟨w.heap.size, 3, none⟩ = some (.int .i64 h) := hk1.cell 3
  have a4 : w2.cell? ⟨w.heap.size, 4, none⟩ = some (.int .i64 m.k) := hk1.cell 4
  have a5 : w2.cell? ⟨w.heap.size, 5, none⟩ = some (.int .i64 m.s) := hk1.cell 5
  have a6 : w2.cell? ⟨w.heap.size, 6, none⟩ = some (.int .i64 m.n) := hk1.cell 6
  have a7 : w2.cell? ⟨w.heap.size, 7, none⟩ = some (.int .i64 m.b) := hk1.cell 7
  have a8 : w2.cell? ⟨w.heap.size, 8, none⟩ = some (.int .i64 m.c) := hk1.cell 8
  have a9 : w2.cell? ⟨w.heap.size, 9, none⟩ = some (.int .i64 m.r) := hk1.cell 9
  have a10 : w2.cell? ⟨w.heap.size, 10, none⟩ = some (.int .i64 m.y) := hk1.cell 10
  have a11 : w2.cell? ⟨w.heap.size, 11, none⟩ = some (.int .i64 m.a) := hk1.cell 11
  have a12 : w2.cell? ⟨w.heap.size, 12, none⟩ = some (.bool m.t) := hk1.cell 12
  have a13 : w2.cell? ⟨w.heap.size, 13, none⟩ = some (.slice pl m.ls.length cl) := hk1.cell 13
  have a14 : w2.cell? ⟨w.heap.size, 14, none⟩ = some (.slice pn m.ns.length cn) := hk1.cell 14
  have b0 : w2.cell? ⟨w.heap.size + 1, 0, none⟩ = some (.int .i64 f) := hk2.cell 0
  have b1 : w2.cell? ⟨w.heap.size + 1, 1, none⟩ = some (.int .i64 t) := hk2.cell 1
  have b2 : w2.cell? ⟨w.heap.size + 1, 2, none⟩ = some (.int .i64 n) := hk2.cell 2
  have b3 : w2.cell? ⟨w.heap.size + 1, 3, none⟩ = some (.int .i64 h) := hk2.cell 3
  have b4 : w2.cell? ⟨w.heap.size + 1, 4, none⟩ = some (.int .i64 m.k) := hk2.cell 4
  have b5 : w2.cell? ⟨w.heap.size + 1, 5, none⟩ = some (.int .i64 m.s) := hk2.cell 5
  have b6 : w2.cell? ⟨w.heap.size + 1, 6, none⟩ = some (.int .i64 m.n) := hk2.cell 6
  have b7 : w2.cell? ⟨w.heap.size + 1, 7, none⟩ = some (.int .i64 m.b) := hk2.cell 7
  have b8 : w2.cell? ⟨w.heap.size + 1, 8, none⟩ = some (.int .i64 m.c) := hk2.cell 8
  have b9 : w2.cell? ⟨w.heap.size + 1, 9, none⟩ = some (.int .i64 m.r) := hk2.cell 9
  have b10 : w2.cell? ⟨w.heap.size + 1, 10, none⟩ = some (.int .i64 m.y) := hk2.cell 10
  have b11 : w2.cell? ⟨w.heap.size + 1, 11, none⟩ = some (.int .i64 m.a) := hk2.cell 11
  have b12 : w2.cell? ⟨w.heap.size + 1, 12, none⟩ = some (.bool m.t) := hk2.cell 12
  have b13 : w2.cell? ⟨w.heap.size + 1, 13, none⟩ = some (.slice ql m.ls.length dl) := hk2.cell 13
  have b14 : w2.cell? ⟨w.heap.size + 1, 14, none⟩ = some (.slice qn m.ns.length dn) := hk2.cell 14
  clear hk1 hk2
  go_wp2_with fail
  refine HMS.out.mono ?_
  rintro y w3 ⟨rfl, hb⟩
  clear HMS a0 a1 a2 a3 a4 a5 a6 a7 a8 a9 a10 a11 a12 a13 a14 b0 b1 b2 b3 b4 b5 b6 b7 b8 b9 b10 b11 b12 b13 b14
  have HB := Lib.hid (HB0.out.trans (hb.mono HB0.out.size))
  clear hb
  go_wp2_with fail
  go_ret
  exact ⟨rfl, HB.out⟩
end Go.Proofs.Ytfdehnfcoojljaa
