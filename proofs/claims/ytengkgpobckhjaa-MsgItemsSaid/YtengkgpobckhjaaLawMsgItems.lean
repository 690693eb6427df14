/- MsgItems: the walk. -/
import Derived.Test.YtengkgpobckhjaaMsgSays
import Derived.Test.YtengkgpobckhjaaMsgItem
import Derived.Test.YtengkgpobckhjaaRefChk
import Derived.Test.YtengkgpobckhjaaLiftMsg
import Derived.Test.YtengkgpobckhjaaLiftItem
namespace Go.Proofs.Ytengkgpobckhjaa
open Go.RowKit
set_option linter.unusedSimpArgs false
structure TwoB (w W : World) (A B : Array Value) (tA tB : TypeId) : Prop where
  b0 : Blk W w.heap.size A tA
  b1 : Blk W (w.heap.size + 1) B tB
  low : Below w.heap.size w W
theorem twoB_new (w : World) (A B : Array Value) (tA tB : TypeId) : TwoB w ((w.alloc (.cells A tA)).alloc (.cells B tB)) A B tA tB :=
  ⟨(Blk.new w A tA).alloc _, Blk.new' (w.alloc (.cells A tA)) B tB (by simp), (oneB w _).trans ((oneB _ _).mono (by simp))⟩
set_option maxHeartbeats 4000000 in
set_option maxRecDepth 100000 in
theorem mitems_walk (x : Itm) (kd : Int) (q : MsgX) (W : World) (_ : x.Fit) (_ : -9223372036854775808 ≤ kd ∧ kd ≤ 9223372036854775807) (_ : q.In W) :
    Calls Try.prog 6 #[x.v, .int .i64 kd, q.m.v q.vl q.vn] W fun e w' => e = .returned (.bool true) ∧ Below W.heap.size W w' := by
  obtain ⟨m, pl, cl, pn, cn⟩ := q
  have HAB := Lib.hid (fun w => about_any kd x w)
  have HLI := Lib.hid (fun w => line_any x w)
  have HRC := Lib.hid (fun w => refcheck_any (itemM m) w)
  have HMI := Lib.hid (fun w => mitem_any m (.slice pl m.ls.length cl) (.slice pn m.ns.length cn) w)
  unfold Msg.v MsgX.vl MsgX.vn Itm.v
  unfold Msg.v Itm.v at HMI
  unfold Itm.v at HRC
  unfold Itm.v Msg.v aboutM at HAB
  unfold Itm.v at HLI
  by_cases hE : chkI (itemM m) = 0
  · rw [if_pos hE, hE] at HMI
    rw [hE] at HRC
    unfold itemM at HMI HRC
    dsimp only at *
    clear hE
    go_enter Try.func6, Try.ntmps6
    go_wp2_with fail
    have HT := Lib.hid (twoB_new W #[.int .i64 x.s, .int .i64 x.n, .int .i64 x.b, .int .i64 x.c, .int .i64 x.a, .int .i64 x.r, .int .i64 x.t, .int .i64 x.y] #[.int .i64 m.k, .int .i64 m.s, .int .i64 m.n, .int .i64 m.b, .int .i64 m.c, .int .i64 m.r, .int .i64 m.y, .int .i64 m.a, .bool m.t, .slice pl m.ls.length cl, .slice pn m.ns.length cn] 50 28)
    generalize hW0 : (W.alloc (.cells #[.int .i64 x.s, .int .i64 x.n, .int .i64 x.b, .int .i64 x.c, .int .i64 x.a, .int .i64 x.r, .int .i64 x.t, .int .i64 x.y] 50)).alloc (.cells #[.int .i64 m.k, .int .i64 m.s, .int .i64 m.n, .int .i64 m.b, .int .i64 m.c, .int .i64 m.r, .int .i64 m.y, .int .i64 m.a, .bool m.t, .slice pl m.ls.length cl, .slice pn m.ns.length cn] 28) = W0 at *
    clear hW0
    refine (says_any _).mono ?_
    rintro z w1 ⟨rfl, hb1⟩
    have B1 := Lib.hid (HT.out.low.trans (hb1.mono HT.out.low.size))
    have HX1 := Lib.hid (HT.out.b0.below hb1 HT.out.b0.lt)
    have HM1 := Lib.hid (HT.out.b1.below hb1 HT.out.b1.lt)
    have hx1 := HX1.out
    have c0 : w1.cell? ⟨W.heap.size, 0, none⟩ = some (.int .i64 x.s) := hx1.cell 0
    have c1 : w1.cell? ⟨W.heap.size, 1, none⟩ = some (.int .i64 x.n) := hx1.cell 1
    have c2 : w1.cell? ⟨W.heap.size, 2, none⟩ = some (.int .i64 x.b) := hx1.cell 2
    have c3 : w1.cell? ⟨W.heap.size, 3, none⟩ = some (.int .i64 x.c) := hx1.cell 3
    have c4 : w1.cell? ⟨W.heap.size, 4, none⟩ = some (.int .i64 x.a) := hx1.cell 4
    have c5 : w1.cell? ⟨W.heap.size, 5, none⟩ = some (.int .i64 x.r) := hx1.cell 5
    have c6 : w1.cell? ⟨W.heap.size, 6, none⟩ = some (.int .i64 x.t) := hx1.cell 6
    have c7 : w1.cell? ⟨W.heap.size, 7, none⟩ = some (.int .i64 x.y) := hx1.cell 7
    clear hx1 hb1 HT
    go_wp2_with fail
    refine (HAB.out _).mono ?_
    rintro z w2 ⟨rfl, hb2⟩
    have HX2 := Lib.hid ((HX1.out.below hb2 HX1.out.lt).alloc (.cells #[.int .i64 kd, .int .i64 x.s, .int .i64 x.n, .int .i64 x.b, .int .i64 x.c, .int .i64 x.r, .int .i64 0, .int .i64 x.a, .bool false, .slice none 0 0, .slice none 0 0] 28))
    have HM2 := Lib.hid ((HM1.out.below hb2 HM1.out.lt).alloc (.cells #[.int .i64 kd, .int .i64 x.s, .int .i64 x.n, .int .i64 x.b, .int .i64 x.c, .int .i64 x.r, .int .i64 0, .int .i64 x.a, .bool false, .slice none 0 0, .slice none 0 0] 28))
    have B2 := Lib.hid (((B1.out.trans (hb2.mono B1.out.size))).alloc (B1.out.trans (hb2.mono B1.out.size)).size (.cells #[.int .i64 kd, .int .i64 x.s, .int .i64 x.n, .int .i64 x.b, .int .i64 x.c, .int .i64 x.r, .int .i64 0, .int .i64 x.a, .bool false, .slice none 0 0, .slice none 0 0] 28))
    have HA2 := Lib.hid (Blk.new w2 #[.int .i64 kd, .int .i64 x.s, .int .i64 x.n, .int .i64 x.b, .int .i64 x.c, .int .i64 x.r, .int .i64 0, .int .i64 x.a, .bool false, .slice none 0 0, .slice none 0 0] 28)
    generalize hg : w2.heap.size = g2 at *
    have hx2 := HX2.out
    have d0 : (w2.alloc (.cells #[.int .i64 kd, .int .i64 x.s, .int .i64 x.n, .int .i64 x.b, .int .i64 x.c, .int .i64 x.r, .int .i64 0, .int .i64 x.a, .bool false, .slice none 0 0, .slice none 0 0] 28)).cell? ⟨W.heap.size, 0, none⟩ = some (.int .i64 x.s) := hx2.cell 0
    have d1 : (w2.alloc (.cells #[.int .i64 kd, .int .i64 x.s, .int .i64 x.n, .int .i64 x.b, .int .i64 x.c, .int .i64 x.r, .int .i64 0, .int .i64 x.a, .bool false, .slice none 0 0, .slice none 0 0] 28)).cell? ⟨W.heap.size, 1, none⟩ = some (.int .i64 x.n) := hx2.cell 1
    have d2 : (w2.alloc (.cells #[.int .i64 kd, .int .i64 x.s, .int .i64 x.n, .int .i64 x.b, .int .i64 x.c, .int .i64 x.r, .int .i64 0, .int .i64 x.a, .bool false, .slice none 0 0, .slice none 0 0] 28)).cell? ⟨W.heap.size, 2, none⟩ = some (.int .i64 x.b) := hx2.cell 2
    have d3 : (w2.alloc (.cells #[.int .i64 kd, .int .i64 x.s, .int .i64 x.n, .int .i64 x.b, .int .i64 x.c, .int .i64 x.r, .int .i64 0, .int .i64 x.a, .bool false, .slice none 0 0, .slice none 0 0] 28)).cell? ⟨W.heap.size, 3, none⟩ = some (.int .i64 x.c) := hx2.cell 3
    have d4 : (w2.alloc (.cells #[.int .i64 kd, .int .i64 x.s, .int .i64 x.n, .int .i64 x.b, .int .i64 x.c, .int .i64 x.r, .int .i64 0, .int .i64 x.a, .bool false, .slice none 0 0, .slice none 0 0] 28)).cell? ⟨W.heap.size, 4, none⟩ = some (.int .i64 x.a) := hx2.cell 4
    have d5 : (w2.alloc (.cells #[.int .i64 kd, .int .i64 x.s, .int .i64 x.n, .int .i64 x.b, .int .i64 x.c, .int .i64 x.r, .int .i64 0, .int .i64 x.a, .bool false, .slice none 0 0, .slice none 0 0] 28)).cell? ⟨W.heap.size, 5, none⟩ = some (.int .i64 x.r) := hx2.cell 5
    have d6 : (w2.alloc (.cells #[.int .i64 kd, .int .i64 x.s, .int .i64 x.n, .int .i64 x.b, .int .i64 x.c, .int .i64 x.r, .int .i64 0, .int .i64 x.a, .bool false, .slice none 0 0, .slice none 0 0] 28)).cell? ⟨W.heap.size, 6, none⟩ = some (.int .i64 x.t) := hx2.cell 6
    have d7 : (w2.alloc (.cells #[.int .i64 kd, .int .i64 x.s, .int .i64 x.n, .int .i64 x.b, .int .i64 x.c, .int .i64 x.r, .int .i64 0, .int .i64 x.a, .bool false, .slice none 0 0, .slice none 0 0] 28)).cell? ⟨W.heap.size, 7, none⟩ = some (.int .i64 x.y) := hx2.cell 7
    clear hx2 hb2 c0 c1 c2 c3 c4 c5 c6 c7 HX1 HM1 B1
    go_wp2_with fail
    generalize w2.alloc (.cells #[.int .i64 kd, .int .i64 x.s, .int .i64 x.n, .int .i64 x.b, .int .i64 x.c, .int .i64 x.r, .int .i64 0, .int .i64 x.a, .bool false, .slice none 0 0, .slice none 0 0] 28) = w3 at *
    refine (HLI.out _).mono ?_
    rintro z w4 ⟨rfl, hb4⟩
    have HX4 := Lib.hid ((HX2.out.below hb4 HX2.out.lt).alloc (.cells #[.int .i64 x.s, .int .i64 x.n, .int .i64 x.b, .int .i64 x.a] 53))
    have HM4 := Lib.hid ((HM2.out.below hb4 HM2.out.lt).alloc (.cells #[.int .i64 x.s, .int .i64 x.n, .int .i64 x.b, .int .i64 x.a] 53))
    have B4 := Lib.hid (((B2.out.trans (hb4.mono B2.out.size))).alloc (B2.out.trans (hb4.mono B2.out.size)).size (.cells #[.int .i64 x.s, .int .i64 x.n, .int .i64 x.b, .int .i64 x.a] 53))
    have hx4 := HX4.out
    have hm4 := HM4.out
    have c0 : (w4.alloc (.cells #[.int .i64 x.s, .int .i64 x.n, .int .i64 x.b, .int .i64 x.a] 53)).cell? ⟨W.heap.size, 0, none⟩ = some (.int .i64 x.s) := hx4.cell 0
    have c1 : (w4.alloc (.cells #[.int .i64 x.s, .int .i64 x.n, .int .i64 x.b, .int .i64 x.a] 53)).cell? ⟨W.heap.size, 1, none⟩ = some (.int .i64 x.n) := hx4.cell 1
    have c2 : (w4.alloc (.cells #[.int .i64 x.s, .int .i64 x.n, .int .i64 x.b, .int .i64 x.a] 53)).cell? ⟨W.heap.size, 2, none⟩ = some (.int .i64 x.b) := hx4.cell 2
    have c3 : (w4.alloc (.cells #[.int .i64 x.s, .int .i64 x.n, .int .i64 x.b, .int .i64 x.a] 53)).cell? ⟨W.heap.size, 3, none⟩ = some (.int .i64 x.c) := hx4.cell 3
    have c4 : (w4.alloc (.cells #[.int .i64 x.s, .int .i64 x.n, .int .i64 x.b, .int .i64 x.a] 53)).cell? ⟨W.heap.size, 4, none⟩ = some (.int .i64 x.a) := hx4.cell 4
    have c5 : (w4.alloc (.cells #[.int .i64 x.s, .int .i64 x.n, .int .i64 x.b, .int .i64 x.a] 53)).cell? ⟨W.heap.size, 5, none⟩ = some (.int .i64 x.r) := hx4.cell 5
    have c6 : (w4.alloc (.cells #[.int .i64 x.s, .int .i64 x.n, .int .i64 x.b, .int .i64 x.a] 53)).cell? ⟨W.heap.size, 6, none⟩ = some (.int .i64 x.t) := hx4.cell 6
    have c7 : (w4.alloc (.cells #[.int .i64 x.s, .int .i64 x.n, .int .i64 x.b, .int .i64 x.a] 53)).cell? ⟨W.heap.size, 7, none⟩ = some (.int .i64 x.y) := hx4.cell 7
    have e0 : (w4.alloc (.cells #[.int .i64 x.s, .int .i64 x.n, .int .i64 x.b, .int .i64 x.a] 53)).cell? ⟨(W.heap.size + 1), 0, none⟩ = some (.int .i64 m.k) := hm4.cell 0
    have e1 : (w4.alloc (.cells #[.int .i64 x.s, .int .i64 x.n, .int .i64 x.b, .int .i64 x.a] 53)).cell? ⟨(W.heap.size + 1), 1, none⟩ = some (.int .i64 m.s) := hm4.cell 1
    have e2 : (w4.alloc (.cells #[.int .i64 x.s, .int .i64 x.n, .int .i64 x.b, .int .i64 x.a] 53)).cell? ⟨(W.heap.size + 1), 2, none⟩ = some (.int .i64 m.n) := hm4.cell 2
    have e3 : (w4.alloc (.cells #[.int .i64 x.s, .int .i64 x.n, .int .i64 x.b, .int .i64 x.a] 53)).cell? ⟨(W.heap.size + 1), 3, none⟩ = some (.int .i64 m.b) := hm4.cell 3
    have e4 : (w4.alloc (.cells #[.int .i64 x.s, .int .i64 x.n, .int .i64 x.b, .int .i64 x.a] 53)).cell? ⟨(W.heap.size + 1), 4, none⟩ = some (.int .i64 m.c) := hm4.cell 4
    have e5 : (w4.alloc (.cells #[.int .i64 x.s, .int .i64 x.n, .int .i64 x.b, .int .i64 x.a] 53)).cell? ⟨(W.heap.size + 1), 5, none⟩ = some (.int .i64 m.r) := hm4.cell 5
    have e6 : (w4.alloc (.cells #[.int .i64 x.s, .int .i64 x.n, .int .i64 x.b, .int .i64 x.a] 53)).cell? ⟨(W.heap.size + 1), 6, none⟩ = some (.int .i64 m.y) := hm4.cell 6
    have e7 : (w4.alloc (.cells #[.int .i64 x.s, .int .i64 x.n, .int .i64 x.b, .int .i64 x.a] 53)).cell? ⟨(W.heap.size + 1), 7, none⟩ = some (.int .i64 m.a) := hm4.cell 7
    have e8 : (w4.alloc (.cells #[.int .i64 x.s, .int .i64 x.n, .int .i64 x.b, .int .i64 x.a] 53)).cell? ⟨(W.heap.size + 1), 8, none⟩ = some (.bool m.t) := hm4.cell 8
    have e9 : (w4.alloc (.cells #[.int .i64 x.s, .int .i64 x.n, .int .i64 x.b, .int .i64 x.a] 53)).cell? ⟨(W.heap.size + 1), 9, none⟩ = some (.slice pl m.ls.length cl) := hm4.cell 9
    have e10 : (w4.alloc (.cells #[.int .i64 x.s, .int .i64 x.n, .int .i64 x.b, .int .i64 x.a] 53)).cell? ⟨(W.heap.size + 1), 10, none⟩ = some (.slice pn m.ns.length cn) := hm4.cell 10
    clear hx4 hm4 hb4 d0 d1 d2 d3 d4 d5 d6 d7 HX2 HM2 B2 HA2 hg
    go_wp2_with fail
    generalize w4.alloc (.cells #[.int .i64 x.s, .int .i64 x.n, .int .i64 x.b, .int .i64 x.a] 53) = w5 at *
    refine (HMI.out _).mono ?_
    rintro z w6 ⟨rfl, hb6⟩
    have HM6 := Lib.hid ((HM4.out.below hb6 HM4.out.lt).alloc (.cells #[.int .i64 m.s, .int .i64 m.n, .int .i64 m.b, .int .i64 m.c, .int .i64 m.a, .int .i64 m.r, .int .i64 1, .int .i64 0] 50))
    have B6 := Lib.hid (((B4.out.trans (hb6.mono B4.out.size))).alloc (B4.out.trans (hb6.mono B4.out.size)).size (.cells #[.int .i64 m.s, .int .i64 m.n, .int .i64 m.b, .int .i64 m.c, .int .i64 m.a, .int .i64 m.r, .int .i64 1, .int .i64 0] 50))
    have HY6 := Lib.hid (Blk.new w6 #[.int .i64 m.s, .int .i64 m.n, .int .i64 m.b, .int .i64 m.c, .int .i64 m.a, .int .i64 m.r, .int .i64 1, .int .i64 0] 50)
    have hm6 := HM6.out
    have d0 : (w6.alloc (.cells #[.int .i64 m.s, .int .i64 m.n, .int .i64 m.b, .int .i64 m.c, .int .i64 m.a, .int .i64 m.r, .int .i64 1, .int .i64 0] 50)).cell? ⟨(W.heap.size + 1), 0, none⟩ = some (.int .i64 m.k) := hm6.cell 0
    have d1 : (w6.alloc (.cells #[.int .i64 m.s, .int .i64 m.n, .int .i64 m.b, .int .i64 m.c, .int .i64 m.a, .int .i64 m.r, .int .i64 1, .int .i64 0] 50)).cell? ⟨(W.heap.size + 1), 1, none⟩ = some (.int .i64 m.s) := hm6.cell 1
    have d2 : (w6.alloc (.cells #[.int .i64 m.s, .int .i64 m.n, .int .i64 m.b, .int .i64 m.c, .int .i64 m.a, .int .i64 m.r, .int .i64 1, .int .i64 0] 50)).cell? ⟨(W.heap.size + 1), 2, none⟩ = some (.int .i64 m.n) := hm6.cell 2
    have d3 : (w6.alloc (.cells #[.int .i64 m.s, .int .i64 m.n, .int .i64 m.b, .int .i64 m.c, .int .i64 m.a, .int .i64 m.r, .int .i64 1, .int .i64 0] 50)).cell? ⟨(W.heap.size + 1), 3, none⟩ = some (.int .i64 m.b) := hm6.cell 3
    have d4 : (w6.alloc (.cells #[.int .i64 m.s, .int .i64 m.n, .int .i64 m.b, .int .i64 m.c, .int .i64 m.a, .int .i64 m.r, .int .i64 1, .int .i64 0] 50)).cell? ⟨(W.heap.size + 1), 4, none⟩ = some (.int .i64 m.c) := hm6.cell 4
    have d5 : (w6.alloc (.cells #[.int .i64 m.s, .int .i64 m.n, .int .i64 m.b, .int .i64 m.c, .int .i64 m.a, .int .i64 m.r, .int .i64 1, .int .i64 0] 50)).cell? ⟨(W.heap.size + 1), 5, none⟩ = some (.int .i64 m.r) := hm6.cell 5
    have d6 : (w6.alloc (.cells #[.int .i64 m.s, .int .i64 m.n, .int .i64 m.b, .int .i64 m.c, .int .i64 m.a, .int .i64 m.r, .int .i64 1, .int .i64 0] 50)).cell? ⟨(W.heap.size + 1), 6, none⟩ = some (.int .i64 m.y) := hm6.cell 6
    have d7 : (w6.alloc (.cells #[.int .i64 m.s, .int .i64 m.n, .int .i64 m.b, .int .i64 m.c, .int .i64 m.a, .int .i64 m.r, .int .i64 1, .int .i64 0] 50)).cell? ⟨(W.heap.size + 1), 7, none⟩ = some (.int .i64 m.a) := hm6.cell 7
    have d8 : (w6.alloc (.cells #[.int .i64 m.s, .int .i64 m.n, .int .i64 m.b, .int .i64 m.c, .int .i64 m.a, .int .i64 m.r, .int .i64 1, .int .i64 0] 50)).cell? ⟨(W.heap.size + 1), 8, none⟩ = some (.bool m.t) := hm6.cell 8
    have d9 : (w6.alloc (.cells #[.int .i64 m.s, .int .i64 m.n, .int .i64 m.b, .int .i64 m.c, .int .i64 m.a, .int .i64 m.r, .int .i64 1, .int .i64 0] 50)).cell? ⟨(W.heap.size + 1), 9, none⟩ = some (.slice pl m.ls.length cl) := hm6.cell 9
    have d10 : (w6.alloc (.cells #[.int .i64 m.s, .int .i64 m.n, .int .i64 m.b, .int .i64 m.c, .int .i64 m.a, .int .i64 m.r, .int .i64 1, .int .i64 0] 50)).cell? ⟨(W.heap.size + 1), 10, none⟩ = some (.slice pn m.ns.length cn) := hm6.cell 10
    clear hm6 hb6 c0 c1 c2 c3 c4 c5 c6 c7 e0 e1 e2 e3 e4 e5 e6 e7 e8 e9 e10 HX4 HM4 B4
    go_wp2_with fail
    have HY8 := Lib.hid (HY6.out.alloc (.cells #[.int .i64 m.s, .int .i64 m.n, .int .i64 m.b, .int .i64 m.c, .int .i64 m.a, .int .i64 m.r, .int .i64 1, .int .i64 0] 50))
    have HW8 := Lib.hid (Blk.new' (w6.alloc (.cells #[.int .i64 m.s, .int .i64 m.n, .int .i64 m.b, .int .i64 m.c, .int .i64 m.a, .int .i64 m.r, .int .i64 1, .int .i64 0] 50)) #[.int .i64 m.s, .int .i64 m.n, .int .i64 m.b, .int .i64 m.c, .int .i64 m.a, .int .i64 m.r, .int .i64 1, .int .i64 0] 50 (b := w6.heap.size + 1) (by simp))
    have B8 := Lib.hid (B6.out.alloc B6.out.size (.cells #[.int .i64 m.s, .int .i64 m.n, .int .i64 m.b, .int .i64 m.c, .int .i64 m.a, .int .i64 m.r, .int .i64 1, .int .i64 0] 50))
    refine (HRC.out _).mono ?_
    rintro z w9 ⟨rfl, hb9⟩
    have hy9 := HY8.out.below hb9 HY8.out.lt
    have hw9 := HW8.out.below hb9 HW8.out.lt
    have B9 := Lib.hid (B8.out.trans (hb9.mono B8.out.size))
    have c0 : w9.cell? ⟨w6.heap.size, 0, none⟩ = some (.int .i64 m.s) := hy9.cell 0
    have c1 : w9.cell? ⟨w6.heap.size, 1, none⟩ = some (.int .i64 m.n) := hy9.cell 1
    have c2 : w9.cell? ⟨w6.heap.size, 2, none⟩ = some (.int .i64 m.b) := hy9.cell 2
    have c3 : w9.cell? ⟨w6.heap.size, 3, none⟩ = some (.int .i64 m.c) := hy9.cell 3
    have c4 : w9.cell? ⟨w6.heap.size, 4, none⟩ = some (.int .i64 m.a) := hy9.cell 4
    have c5 : w9.cell? ⟨w6.heap.size, 5, none⟩ = some (.int .i64 m.r) := hy9.cell 5
    have c6 : w9.cell? ⟨w6.heap.size, 6, none⟩ = some (.int .i64 1) := hy9.cell 6
    have c7 : w9.cell? ⟨w6.heap.size, 7, none⟩ = some (.int .i64 0) := hy9.cell 7
    have e0 : w9.cell? ⟨(w6.heap.size + 1), 0, none⟩ = some (.int .i64 m.s) := hw9.cell 0
    have e1 : w9.cell? ⟨(w6.heap.size + 1), 1, none⟩ = some (.int .i64 m.n) := hw9.cell 1
    have e2 : w9.cell? ⟨(w6.heap.size + 1), 2, none⟩ = some (.int .i64 m.b) := hw9.cell 2
    have e3 : w9.cell? ⟨(w6.heap.size + 1), 3, none⟩ = some (.int .i64 m.c) := hw9.cell 3
    have e4 : w9.cell? ⟨(w6.heap.size + 1), 4, none⟩ = some (.int .i64 m.a) := hw9.cell 4
    have e5 : w9.cell? ⟨(w6.heap.size + 1), 5, none⟩ = some (.int .i64 m.r) := hw9.cell 5
    have e6 : w9.cell? ⟨(w6.heap.size + 1), 6, none⟩ = some (.int .i64 1) := hw9.cell 6
    have e7 : w9.cell? ⟨(w6.heap.size + 1), 7, none⟩ = some (.int .i64 0) := hw9.cell 7
    clear hy9 hw9 hb9 HY6 HY8 HW8 B6 B8 d0 d1 d2 d3 d4 d5 d6 d7 d8 d9 d10
    go_wp2_with fail
    go_ret
    exact ⟨rfl, B9.out⟩
  · rw [if_neg hE] at HMI
    have he : (chkI (itemM m) != 0) = true := by simpa using hE
    generalize chkI (itemM m) = E at *
    unfold itm0 at HMI
    unfold itemM at HRC
    dsimp only at *
    clear hE
    go_enter Try.func6, Try.ntmps6
    go_wp2_with fail
    have HT := Lib.hid (twoB_new W #[.int .i64 x.s, .int .i64 x.n, .int .i64 x.b, .int .i64 x.c, .int .i64 x.a, .int .i64 x.r, .int .i64 x.t, .int .i64 x.y] #[.int .i64 m.k, .int .i64 m.s, .int .i64 m.n, .int .i64 m.b, .int .i64 m.c, .int .i64 m.r, .int .i64 m.y, .int .i64 m.a, .bool m.t, .slice pl m.ls.length cl, .slice pn m.ns.length cn] 50 28)
    generalize hW0 : (W.alloc (.cells #[.int .i64 x.s, .int .i64 x.n, .int .i64 x.b, .int .i64 x.c, .int .i64 x.a, .int .i64 x.r, .int .i64 x.t, .int .i64 x.y] 50)).alloc (.cells #[.int .i64 m.k, .int .i64 m.s, .int .i64 m.n, .int .i64 m.b, .int .i64 m.c, .int .i64 m.r, .int .i64 m.y, .int .i64 m.a, .bool m.t, .slice pl m.ls.length cl, .slice pn m.ns.length cn] 28) = W0 at *
    clear hW0
    refine (says_any _).mono ?_
    rintro z w1 ⟨rfl, hb1⟩
    have B1 := Lib.hid (HT.out.low.trans (hb1.mono HT.out.low.size))
    have HX1 := Lib.hid (HT.out.b0.below hb1 HT.out.b0.lt)
    have HM1 := Lib.hid (HT.out.b1.below hb1 HT.out.b1.lt)
    have hx1 := HX1.out
    have c0 : w1.cell? ⟨W.heap.size, 0, none⟩ = some (.int .i64 x.s) := hx1.cell 0
    have c1 : w1.cell? ⟨W.heap.size, 1, none⟩ = some (.int .i64 x.n) := hx1.cell 1
    have c2 : w1.cell? ⟨W.heap.size, 2, none⟩ = some (.int .i64 x.b) := hx1.cell 2
    have c3 : w1.cell? ⟨W.heap.size, 3, none⟩ = some (.int .i64 x.c) := hx1.cell 3
    have c4 : w1.cell? ⟨W.heap.size, 4, none⟩ = some (.int .i64 x.a) := hx1.cell 4
    have c5 : w1.cell? ⟨W.heap.size, 5, none⟩ = some (.int .i64 x.r) := hx1.cell 5
    have c6 : w1.cell? ⟨W.heap.size, 6, none⟩ = some (.int .i64 x.t) := hx1.cell 6
    have c7 : w1.cell? ⟨W.heap.size, 7, none⟩ = some (.int .i64 x.y) := hx1.cell 7
    clear hx1 hb1 HT
    go_wp2_with fail
    refine (HAB.out _).mono ?_
    rintro z w2 ⟨rfl, hb2⟩
    have HX2 := Lib.hid ((HX1.out.below hb2 HX1.out.lt).alloc (.cells #[.int .i64 kd, .int .i64 x.s, .int .i64 x.n, .int .i64 x.b, .int .i64 x.c, .int .i64 x.r, .int .i64 0, .int .i64 x.a, .bool false, .slice none 0 0, .slice none 0 0] 28))
    have HM2 := Lib.hid ((HM1.out.below hb2 HM1.out.lt).alloc (.cells #[.int .i64 kd, .int .i64 x.s, .int .i64 x.n, .int .i64 x.b, .int .i64 x.c, .int .i64 x.r, .int .i64 0, .int .i64 x.a, .bool false, .slice none 0 0, .slice none 0 0] 28))
    have B2 := Lib.hid (((B1.out.trans (hb2.mono B1.out.size))).alloc (B1.out.trans (hb2.mono B1.out.size)).size (.cells #[.int .i64 kd, .int .i64 x.s, .int .i64 x.n, .int .i64 x.b, .int .i64 x.c, .int .i64 x.r, .int .i64 0, .int .i64 x.a, .bool false, .slice none 0 0, .slice none 0 0] 28))
    have HA2 := Lib.hid (Blk.new w2 #[.int .i64 kd, .int .i64 x.s, .int .i64 x.n, .int .i64 x.b, .int .i64 x.c, .int .i64 x.r, .int .i64 0, .int .i64 x.a, .bool false, .slice none 0 0, .slice none 0 0] 28)
    generalize hg : w2.heap.size = g2 at *
    have hx2 := HX2.out
    have d0 : (w2.alloc (.cells #[.int .i64 kd, .int .i64 x.s, .int .i64 x.n, .int .i64 x.b, .int .i64 x.c, .int .i64 x.r, .int .i64 0, .int .i64 x.a, .bool false, .slice none 0 0, .slice none 0 0] 28)).cell? ⟨W.heap.size, 0, none⟩ = some (.int .i64 x.s) := hx2.cell 0
    have d1 : (w2.alloc (.cells #[.int .i64 kd, .int .i64 x.s, .int .i64 x.n, .int .i64 x.b, .int .i64 x.c, .int .i64 x.r, .int .i64 0, .int .i64 x.a, .bool false, .slice none 0 0, .slice none 0 0] 28)).cell? ⟨W.heap.size, 1, none⟩ = some (.int .i64 x.n) := hx2.cell 1
    have d2 : (w2.alloc (.cells #[.int .i64 kd, .int .i64 x.s, .int .i64 x.n, .int .i64 x.b, .int .i64 x.c, .int .i64 x.r, .int .i64 0, .int .i64 x.a, .bool false, .slice none 0 0, .slice none 0 0] 28)).cell? ⟨W.heap.size, 2, none⟩ = some (.int .i64 x.b) := hx2.cell 2
    have d3 : (w2.alloc (.cells #[.int .i64 kd, .int .i64 x.s, .int .i64 x.n, .int .i64 x.b, .int .i64 x.c, .int .i64 x.r, .int .i64 0, .int .i64 x.a, .bool false, .slice none 0 0, .slice none 0 0] 28)).cell? ⟨W.heap.size, 3, none⟩ = some (.int .i64 x.c) := hx2.cell 3
    have d4 : (w2.alloc (.cells #[.int .i64 kd, .int .i64 x.s, .int .i64 x.n, .int .i64 x.b, .int .i64 x.c, .int .i64 x.r, .int .i64 0, .int .i64 x.a, .bool false, .slice none 0 0, .slice none 0 0] 28)).cell? ⟨W.heap.size, 4, none⟩ = some (.int .i64 x.a) := hx2.cell 4
    have d5 : (w2.alloc (.cells #[.int .i64 kd, .int .i64 x.s, .int .i64 x.n, .int .i64 x.b, .int .i64 x.c, .int .i64 x.r, .int .i64 0, .int .i64 x.a, .bool false, .slice none 0 0, .slice none 0 0] 28)).cell? ⟨W.heap.size, 5, none⟩ = some (.int .i64 x.r) := hx2.cell 5
    have d6 : (w2.alloc (.cells #[.int .i64 kd, .int .i64 x.s, .int .i64 x.n, .int .i64 x.b, .int .i64 x.c, .int .i64 x.r, .int .i64 0, .int .i64 x.a, .bool false, .slice none 0 0, .slice none 0 0] 28)).cell? ⟨W.heap.size, 6, none⟩ = some (.int .i64 x.t) := hx2.cell 6
    have d7 : (w2.alloc (.cells #[.int .i64 kd, .int .i64 x.s, .int .i64 x.n, .int .i64 x.b, .int .i64 x.c, .int .i64 x.r, .int .i64 0, .int .i64 x.a, .bool false, .slice none 0 0, .slice none 0 0] 28)).cell? ⟨W.heap.size, 7, none⟩ = some (.int .i64 x.y) := hx2.cell 7
    clear hx2 hb2 c0 c1 c2 c3 c4 c5 c6 c7 HX1 HM1 B1
    go_wp2_with fail
    generalize w2.alloc (.cells #[.int .i64 kd, .int .i64 x.s, .int .i64 x.n, .int .i64 x.b, .int .i64 x.c, .int .i64 x.r, .int .i64 0, .int .i64 x.a, .bool false, .slice none 0 0, .slice none 0 0] 28) = w3 at *
    refine (HLI.out _).mono ?_
    rintro z w4 ⟨rfl, hb4⟩
    have HX4 := Lib.hid ((HX2.out.below hb4 HX2.out.lt).alloc (.cells #[.int .i64 x.s, .int .i64 x.n, .int .i64 x.b, .int .i64 x.a] 53))
    have HM4 := Lib.hid ((HM2.out.below hb4 HM2.out.lt).alloc (.cells #[.int .i64 x.s, .int .i64 x.n, .int .i64 x.b, .int .i64 x.a] 53))
    have B4 := Lib.hid (((B2.out.trans (hb4.mono B2.out.size))).alloc (B2.out.trans (hb4.mono B2.out.size)).size (.cells #[.int .i64 x.s, .int .i64 x.n, .int .i64 x.b, .int .i64 x.a] 53))
    have hx4 := HX4.out
    have hm4 := HM4.out
    have c0 : (w4.alloc (.cells #[.int .i64 x.s, .int .i64 x.n, .int .i64 x.b, .int .i64 x.a] 53)).cell? ⟨W.heap.size, 0, none⟩ = some (.int .i64 x.s) := hx4.cell 0
    have c1 : (w4.alloc (.cells #[.int .i64 x.s, .int .i64 x.n, .int .i64 x.b, .int .i64 x.a] 53)).cell? ⟨W.heap.size, 1, none⟩ = some (.int .i64 x.n) := hx4.cell 1
    have c2 : (w4.alloc (.cells #[.int .i64 x.s, .int .i64 x.n, .int .i64 x.b, .int .i64 x.a] 53)).cell? ⟨W.heap.size, 2, none⟩ = some (.int .i64 x.b) := hx4.cell 2
    have c3 : (w4.alloc (.cells #[.int .i64 x.s, .int .i64 x.n, .int .i64 x.b, .int .i64 x.a] 53)).cell? ⟨W.heap.size, 3, none⟩ = some (.int .i64 x.c) := hx4.cell 3
    have c4 : (w4.alloc (.cells #[.int .i64 x.s, .int .i64 x.n, .int .i64 x.b, .int .i64 x.a] 53)).cell? ⟨W.heap.size, 4, none⟩ = some (.int .i64 x.a) := hx4.cell 4
    have c5 : (w4.alloc (.cells #[.int .i64 x.s, .int .i64 x.n, .int .i64 x.b, .int .i64 x.a] 53)).cell? ⟨W.heap.size, 5, none⟩ = some (.int .i64 x.r) := hx4.cell 5
    have c6 : (w4.alloc (.cells #[.int .i64 x.s, .int .i64 x.n, .int .i64 x.b, .int .i64 x.a] 53)).cell? ⟨W.heap.size, 6, none⟩ = some (.int .i64 x.t) := hx4.cell 6
    have c7 : (w4.alloc (.cells #[.int .i64 x.s, .int .i64 x.n, .int .i64 x.b, .int .i64 x.a] 53)).cell? ⟨W.heap.size, 7, none⟩ = some (.int .i64 x.y) := hx4.cell 7
    have e0 : (w4.alloc (.cells #[.int .i64 x.s, .int .i64 x.n, .int .i64 x.b, .int .i64 x.a] 53)).cell? ⟨(W.heap.size + 1), 0, none⟩ = some (.int .i64 m.k) := hm4.cell 0
    have e1 : (w4.alloc (.cells #[.int .i64 x.s, .int .i64 x.n, .int .i64 x.b, .int .i64 x.a] 53)).cell? ⟨(W.heap.size + 1), 1, none⟩ = some (.int .i64 m.s) := hm4.cell 1
    have e2 : (w4.alloc (.cells #[.int .i64 x.s, .int .i64 x.n, .int .i64 x.b, .int .i64 x.a] 53)).cell? ⟨(W.heap.size + 1), 2, none⟩ = some (.int .i64 m.n) := hm4.cell 2
    have e3 : (w4.alloc (.cells #[.int .i64 x.s, .int .i64 x.n, .int .i64 x.b, .int .i64 x.a] 53)).cell? ⟨(W.heap.size + 1), 3, none⟩ = some (.int .i64 m.b) := hm4.cell 3
    have e4 : (w4.alloc (.cells #[.int .i64 x.s, .int .i64 x.n, .int .i64 x.b, .int .i64 x.a] 53)).cell? ⟨(W.heap.size + 1), 4, none⟩ = some (.int .i64 m.c) := hm4.cell 4
    have e5 : (w4.alloc (.cells #[.int .i64 x.s, .int .i64 x.n, .int .i64 x.b, .int .i64 x.a] 53)).cell? ⟨(W.heap.size + 1), 5, none⟩ = some (.int .i64 m.r) := hm4.cell 5
    have e6 : (w4.alloc (.cells #[.int .i64 x.s, .int .i64 x.n, .int .i64 x.b, .int .i64 x.a] 53)).cell? ⟨(W.heap.size + 1), 6, none⟩ = some (.int .i64 m.y) := hm4.cell 6
    have e7 : (w4.alloc (.cells #[.int .i64 x.s, .int .i64 x.n, .int .i64 x.b, .int .i64 x.a] 53)).cell? ⟨(W.heap.size + 1), 7, none⟩ = some (.int .i64 m.a) := hm4.cell 7
    have e8 : (w4.alloc (.cells #[.int .i64 x.s, .int .i64 x.n, .int .i64 x.b, .int .i64 x.a] 53)).cell? ⟨(W.heap.size + 1), 8, none⟩ = some (.bool m.t) := hm4.cell 8
    have e9 : (w4.alloc (.cells #[.int .i64 x.s, .int .i64 x.n, .int .i64 x.b, .int .i64 x.a] 53)).cell? ⟨(W.heap.size + 1), 9, none⟩ = some (.slice pl m.ls.length cl) := hm4.cell 9
    have e10 : (w4.alloc (.cells #[.int .i64 x.s, .int .i64 x.n, .int .i64 x.b, .int .i64 x.a] 53)).cell? ⟨(W.heap.size + 1), 10, none⟩ = some (.slice pn m.ns.length cn) := hm4.cell 10
    clear hx4 hm4 hb4 d0 d1 d2 d3 d4 d5 d6 d7 HX2 HM2 B2 HA2 hg
    go_wp2_with fail
    generalize w4.alloc (.cells #[.int .i64 x.s, .int .i64 x.n, .int .i64 x.b, .int .i64 x.a] 53) = w5 at *
    refine (HMI.out _).mono ?_
    rintro z w6 ⟨rfl, hb6⟩
    have HM6 := Lib.hid ((HM4.out.below hb6 HM4.out.lt).alloc (.cells #[.int .i64 0, .int .i64 0, .int .i64 0, .int .i64 0, .int .i64 0, .int .i64 0, .int .i64 0, .int .i64 0] 50))
    have B6 := Lib.hid (((B4.out.trans (hb6.mono B4.out.size))).alloc (B4.out.trans (hb6.mono B4.out.size)).size (.cells #[.int .i64 0, .int .i64 0, .int .i64 0, .int .i64 0, .int .i64 0, .int .i64 0, .int .i64 0, .int .i64 0] 50))
    have HY6 := Lib.hid (Blk.new w6 #[.int .i64 0, .int .i64 0, .int .i64 0, .int .i64 0, .int .i64 0, .int .i64 0, .int .i64 0, .int .i64 0] 50)
    have hm6 := HM6.out
    have d0 : (w6.alloc (.cells #[.int .i64 0, .int .i64 0, .int .i64 0, .int .i64 0, .int .i64 0, .int .i64 0, .int .i64 0, .int .i64 0] 50)).cell? ⟨(W.heap.size + 1), 0, none⟩ = some (.int .i64 m.k) := hm6.cell 0
    have d1 : (w6.alloc (.cells #[.int .i64 0, .int .i64 0, .int .i64 0, .int .i64 0, .int .i64 0, .int .i64 0, .int .i64 0, .int .i64 0] 50)).cell? ⟨(W.heap.size + 1), 1, none⟩ = some (.int .i64 m.s) := hm6.cell 1
    have d2 : (w6.alloc (.cells #[.int .i64 0, .int .i64 0, .int .i64 0, .int .i64 0, .int .i64 0, .int .i64 0, .int .i64 0, .int .i64 0] 50)).cell? ⟨(W.heap.size + 1), 2, none⟩ = some (.int .i64 m.n) := hm6.cell 2
    have d3 : (w6.alloc (.cells #[.int .i64 0, .int .i64 0, .int .i64 0, .int .i64 0, .int .i64 0, .int .i64 0, .int .i64 0, .int .i64 0] 50)).cell? ⟨(W.heap.size + 1), 3, none⟩ = some (.int .i64 m.b) := hm6.cell 3
    have d4 : (w6.alloc (.cells #[.int .i64 0, .int .i64 0, .int .i64 0, .int .i64 0, .int .i64 0, .int .i64 0, .int .i64 0, .int .i64 0] 50)).cell? ⟨(W.heap.size + 1), 4, none⟩ = some (.int .i64 m.c) := hm6.cell 4
    have d5 : (w6.alloc (.cells #[.int .i64 0, .int .i64 0, .int .i64 0, .int .i64 0, .int .i64 0, .int .i64 0, .int .i64 0, .int .i64 0] 50)).cell? ⟨(W.heap.size + 1), 5, none⟩ = some (.int .i64 m.r) := hm6.cell 5
    have d6 : (w6.alloc (.cells #[.int .i64 0, .int .i64 0, .int .i64 0, .int .i64 0, .int .i64 0, .int .i64 0, .int .i64 0, .int .i64 0] 50)).cell? ⟨(W.heap.size + 1), 6, none⟩ = some (.int .i64 m.y) := hm6.cell 6
    have d7 : (w6.alloc (.cells #[.int .i64 0, .int .i64 0, .int .i64 0, .int .i64 0, .int .i64 0, .int .i64 0, .int .i64 0, .int .i64 0] 50)).cell? ⟨(W.heap.size + 1), 7, none⟩ = some (.int .i64 m.a) := hm6.cell 7
    have d8 : (w6.alloc (.cells #[.int .i64 0, .int .i64 0, .int .i64 0, .int .i64 0, .int .i64 0, .int .i64 0, .int .i64 0, .int .i64 0] 50)).cell? ⟨(W.heap.size + 1), 8, none⟩ = some (.bool m.t) := hm6.cell 8
    have d9 : (w6.alloc (.cells #[.int .i64 0, .int .i64 0, .int .i64 0, .int .i64 0, .int .i64 0, .int .i64 0, .int .i64 0, .int .i64 0] 50)).cell? ⟨(W.heap.size + 1), 9, none⟩ = some (.slice pl m.ls.length cl) := hm6.cell 9
    have d10 : (w6.alloc (.cells #[.int .i64 0, .int .i64 0, .int .i64 0, .int .i64 0, .int .i64 0, .int .i64 0, .int .i64 0, .int .i64 0] 50)).cell? ⟨(W.heap.size + 1), 10, none⟩ = some (.slice pn m.ns.length cn) := hm6.cell 10
    clear hm6 hb6 c0 c1 c2 c3 c4 c5 c6 c7 e0 e1 e2 e3 e4 e5 e6 e7 e8 e9 e10 HX4 HM4 B4
    go_wp2_with fail
    have HY8 := Lib.hid (HY6.out.alloc (.cells #[.int .i64 m.s, .int .i64 m.n, .int .i64 m.b, .int .i64 m.c, .int .i64 m.a, .int .i64 m.r, .int .i64 1, .int .i64 0] 50))
    have HW8 := Lib.hid (Blk.new' (w6.alloc (.cells #[.int .i64 0, .int .i64 0, .int .i64 0, .int .i64 0, .int .i64 0, .int .i64 0, .int .i64 0, .int .i64 0] 50)) #[.int .i64 m.s, .int .i64 m.n, .int .i64 m.b, .int .i64 m.c, .int .i64 m.a, .int .i64 m.r, .int .i64 1, .int .i64 0] 50 (b := w6.heap.size + 1) (by simp))
    have B8 := Lib.hid (B6.out.alloc B6.out.size (.cells #[.int .i64 m.s, .int .i64 m.n, .int .i64 m.b, .int .i64 m.c, .int .i64 m.a, .int .i64 m.r, .int .i64 1, .int .i64 0] 50))
    refine (HRC.out _).mono ?_
    rintro z w9 ⟨rfl, hb9⟩
    have hy9 := HY8.out.below hb9 HY8.out.lt
    have hw9 := HW8.out.below hb9 HW8.out.lt
    have B9 := Lib.hid (B8.out.trans (hb9.mono B8.out.size))
    have c0 : w9.cell? ⟨w6.heap.size, 0, none⟩ = some (.int .i64 0) := hy9.cell 0
    have c1 : w9.cell? ⟨w6.heap.size, 1, none⟩ = some (.int .i64 0) := hy9.cell 1
    have c2 : w9.cell? ⟨w6.heap.size, 2, none⟩ = some (.int .i64 0) := hy9.cell 2
    have c3 : w9.cell? ⟨w6.heap.size, 3, none⟩ = some (.int .i64 0) := hy9.cell 3
    have c4 : w9.cell? ⟨w6.heap.size, 4, none⟩ = some (.int .i64 0) := hy9.cell 4
    have c5 : w9.cell? ⟨w6.heap.size, 5, none⟩ = some (.int .i64 0) := hy9.cell 5
    have c6 : w9.cell? ⟨w6.heap.size, 6, none⟩ = some (.int .i64 0) := hy9.cell 6
    have c7 : w9.cell? ⟨w6.heap.size, 7, none⟩ = some (.int .i64 0) := hy9.cell 7
    have e0 : w9.cell? ⟨(w6.heap.size + 1), 0, none⟩ = some (.int .i64 m.s) := hw9.cell 0
    have e1 : w9.cell? ⟨(w6.heap.size + 1), 1, none⟩ = some (.int .i64 m.n) := hw9.cell 1
    have e2 : w9.cell? ⟨(w6.heap.size + 1), 2, none⟩ = some (.int .i64 m.b) := hw9.cell 2
    have e3 : w9.cell? ⟨(w6.heap.size + 1), 3, none⟩ = some (.int .i64 m.c) := hw9.cell 3
    have e4 : w9.cell? ⟨(w6.heap.size + 1), 4, none⟩ = some (.int .i64 m.a) := hw9.cell 4
    have e5 : w9.cell? ⟨(w6.heap.size + 1), 5, none⟩ = some (.int .i64 m.r) := hw9.cell 5
    have e6 : w9.cell? ⟨(w6.heap.size + 1), 6, none⟩ = some (.int .i64 1) := hw9.cell 6
    have e7 : w9.cell? ⟨(w6.heap.size + 1), 7, none⟩ = some (.int .i64 0) := hw9.cell 7
    clear hy9 hw9 hb9 HY6 HY8 HW8 B6 B8 d0 d1 d2 d3 d4 d5 d6 d7 d8 d9 d10
    go_wp2_with fail
    go_ret
    exact ⟨rfl, B9.out⟩
end Go.Proofs.Ytengkgpobckhjaa
