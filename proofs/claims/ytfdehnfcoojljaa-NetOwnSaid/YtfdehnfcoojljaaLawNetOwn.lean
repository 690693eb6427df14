/- NetOwn: the walk. -/
import Derived.Test.YtfdehnfcoojljaaNetIn
import Derived.Test.YtfdehnfcoojljaaNetBump
import Derived.Deep.RegionHeld3
namespace Go.Proofs.Ytfdehnfcoojljaa
open Go.RowKit
set_option linter.unusedSimpArgs false
set_option maxHeartbeats 40000000 in
set_option maxRecDepth 100000 in
theorem nowns_walk (y : PkX) (W : World) (hw : y.In W) : Calls Try.prog 5 #[y.v] W fun e w' => e = .returned (.bool true) ∧ Below W.heap.size W w'  := by
  have HW := Lib.hid hw
  clear hw
  unfold PkX.v
  by_cases h1 : 50 < y.x.m.ls.length
  · have g1 : (50 : Int) < (y.x.m.ls.length : Int) := by omega
    go_enter Try.func5, Try.ntmps5
    go_wp2_with fail
    refine (carries_any _).mono ?_
    rintro y0 w1 ⟨rfl, hb1⟩
    have B1 : Hid (Below W.heap.size W w1) := (oneB W (.cells #[.int .i64 y.f, .int .i64 y.t, .int .i64 y.n, .int .i64 y.h, .int .i64 y.x.m.k, .int .i64 y.x.m.s, .int .i64 y.x.m.n, .int .i64 y.x.m.b, .int .i64 y.x.m.c, .int .i64 y.x.m.r, .int .i64 y.x.m.y, .int .i64 y.x.m.a, .bool y.x.m.t, .slice y.x.pl y.x.m.ls.length y.x.cl, .slice y.x.pn y.x.m.ns.length y.x.cn] 38)).trans (hb1.mono (by simp))
    have HP1 : Hid (Blk w1 W.heap.size #[.int .i64 y.f, .int .i64 y.t, .int .i64 y.n, .int .i64 y.h, .int .i64 y.x.m.k, .int .i64 y.x.m.s, .int .i64 y.x.m.n, .int .i64 y.x.m.b, .int .i64 y.x.m.c, .int .i64 y.x.m.r, .int .i64 y.x.m.y, .int .i64 y.x.m.a, .bool y.x.m.t, .slice y.x.pl y.x.m.ls.length y.x.cl, .slice y.x.pn y.x.m.ns.length y.x.cn] 38) := (Blk.new W #[.int .i64 y.f, .int .i64 y.t, .int .i64 y.n, .int .i64 y.h, .int .i64 y.x.m.k, .int .i64 y.x.m.s, .int .i64 y.x.m.n, .int .i64 y.x.m.b, .int .i64 y.x.m.c, .int .i64 y.x.m.r, .int .i64 y.x.m.y, .int .i64 y.x.m.a, .bool y.x.m.t, .slice y.x.pl y.x.m.ls.length y.x.cl, .slice y.x.pn y.x.m.ns.length y.x.cn] 38).below hb1 (Blk.new W #[.int .i64 y.f, .int .i64 y.t, .int .i64 y.n, .int .i64 y.h, .int .i64 y.x.m.k, .int .i64 y.x.m.s, .int .i64 y.x.m.n, .int .i64 y.x.m.b, .int .i64 y.x.m.c, .int .i64 y.x.m.r, .int .i64 y.x.m.y, .int .i64 y.x.m.a, .bool y.x.m.t, .slice y.x.pl y.x.m.ls.length y.x.cl, .slice y.x.pn y.x.m.ns.length y.x.cn] 38).lt
    have p13 : w1.cell? ⟨W.heap.size, 4 + 9, none⟩ = some (.slice y.x.pl y.x.m.ls.length y.x.cl) := HP1.out.cell 13
    have p14 : w1.cell? ⟨W.heap.size, 4 + 10, none⟩ = some (.slice y.x.pn y.x.m.ns.length y.x.cn) := HP1.out.cell 14
    clear hb1
    go_wp2_with fail
    go_ret
    exact ⟨rfl, B1.out⟩
  have g1 : ¬ (50 : Int) < (y.x.m.ls.length : Int) := by omega
  by_cases h2 : 50 < y.x.m.ns.length
  · have g2 : (50 : Int) < (y.x.m.ns.length : Int) := by omega
    go_enter Try.func5, Try.ntmps5
    go_wp2_with fail
    refine (carries_any _).mono ?_
    rintro y0 w1 ⟨rfl, hb1⟩
    have B1 : Hid (Below W.heap.size W w1) := (oneB W (.cells #[.int .i64 y.f, .int .i64 y.t, .int .i64 y.n, .int .i64 y.h, .int .i64 y.x.m.k, .int .i64 y.x.m.s, .int .i64 y.x.m.n, .int .i64 y.x.m.b, .int .i64 y.x.m.c, .int .i64 y.x.m.r, .int .i64 y.x.m.y, .int .i64 y.x.m.a, .bool y.x.m.t, .slice y.x.pl y.x.m.ls.length y.x.cl, .slice y.x.pn y.x.m.ns.length y.x.cn] 38)).trans (hb1.mono (by simp))
    have HP1 : Hid (Blk w1 W.heap.size #[.int .i64 y.f, .int .i64 y.t, .int .i64 y.n, .int .i64 y.h, .int .i64 y.x.m.k, .int .i64 y.x.m.s, .int .i64 y.x.m.n, .int .i64 y.x.m.b, .int .i64 y.x.m.c, .int .i64 y.x.m.r, .int .i64 y.x.m.y, .int .i64 y.x.m.a, .bool y.x.m.t, .slice y.x.pl y.x.m.ls.length y.x.cl, .slice y.x.pn y.x.m.ns.length y.x.cn] 38) := (Blk.new W #[.int .i64 y.f, .int .i64 y.t, .int .i64 y.n, .int .i64 y.h, .int .i64 y.x.m.k, .int .i64 y.x.m.s, .int .i64 y.x.m.n, .int .i64 y.x.m.b, .int .i64 y.x.m.c, .int .i64 y.x.m.r, .int .i64 y.x.m.y, .int .i64 y.x.m.a, .bool y.x.m.t, .slice y.x.pl y.x.m.ls.length y.x.cl, .slice y.x.pn y.x.m.ns.length y.x.cn] 38).below hb1 (Blk.new W #[.int .i64 y.f, .int .i64 y.t, .int .i64 y.n, .int .i64 y.h, .int .i64 y.x.m.k, .int .i64 y.x.m.s, .int .i64 y.x.m.n, .int .i64 y.x.m.b, .int .i64 y.x.m.c, .int .i64 y.x.m.r, .int .i64 y.x.m.y, .int .i64 y.x.m.a, .bool y.x.m.t, .slice y.x.pl y.x.m.ls.length y.x.cl, .slice y.x.pn y.x.m.ns.length y.x.cn] 38).lt
    have p13 : w1.cell? ⟨W.heap.size, 4 + 9, none⟩ = some (.slice y.x.pl y.x.m.ls.length y.x.cl) := HP1.out.cell 13
    have p14 : w1.cell? ⟨W.heap.size, 4 + 10, none⟩ = some (.slice y.x.pn y.x.m.ns.length y.x.cn) := HP1.out.cell 14
    clear hb1
    go_wp2_with fail
    go_ret
    exact ⟨rfl, B1.out⟩
  have g2 : ¬ (50 : Int) < (y.x.m.ns.length : Int) := by omega
  have H5 : Hid (y.x.m.ls.length ≤ 50 ∧ y.x.m.ns.length ≤ 50) := ⟨by omega, by omega⟩
  go_enter Try.func5, Try.ntmps5
  go_wp2_with fail
  refine (carries_any _).mono ?_
  rintro y0 w1 ⟨rfl, hb1⟩
  have B1 : Hid (Below W.heap.size W w1) := (oneB W (.cells #[.int .i64 y.f, .int .i64 y.t, .int .i64 y.n, .int .i64 y.h, .int .i64 y.x.m.k, .int .i64 y.x.m.s, .int .i64 y.x.m.n, .int .i64 y.x.m.b, .int .i64 y.x.m.c, .int .i64 y.x.m.r, .int .i64 y.x.m.y, .int .i64 y.x.m.a, .bool y.x.m.t, .slice y.x.pl y.x.m.ls.length y.x.cl, .slice y.x.pn y.x.m.ns.length y.x.cn] 38)).trans (hb1.mono (by simp))
  have HP1 : Hid (Blk w1 W.heap.size #[.int .i64 y.f, .int .i64 y.t, .int .i64 y.n, .int .i64 y.h, .int .i64 y.x.m.k, .int .i64 y.x.m.s, .int .i64 y.x.m.n, .int .i64 y.x.m.b, .int .i64 y.x.m.c, .int .i64 y.x.m.r, .int .i64 y.x.m.y, .int .i64 y.x.m.a, .bool y.x.m.t, .slice y.x.pl y.x.m.ls.length y.x.cl, .slice y.x.pn y.x.m.ns.length y.x.cn] 38) := (Blk.new W #[.int .i64 y.f, .int .i64 y.t, .int .i64 y.n, .int .i64 y.h, .int .i64 y.x.m.k, .int .i64 y.x.m.s, .int .i64 y.x.m.n, .int .i64 y.x.m.b, .int .i64 y.x.m.c, .int .i64 y.x.m.r, .int .i64 y.x.m.y, .int .i64 y.x.m.a, .bool y.x.m.t, .slice y.x.pl y.x.m.ls.length y.x.cl, .slice y.x.pn y.x.m.ns.length y.x.cn] 38).below hb1 (Blk.new W #[.int .i64 y.f, .int .i64 y.t, .int .i64 y.n, .int .i64 y.h, .int .i64 y.x.m.k, .int .i64 y.x.m.s, .int .i64 y.x.m.n, .int .i64 y.x.m.b, .int .i64 y.x.m.c, .int .i64 y.x.m.r, .int .i64 y.x.m.y, .int .i64 y.x.m.a, .bool y.x.m.t, .slice y.x.pl y.x.m.ls.length y.x.cl, .slice y.x.pn y.x.m.ns.length y.x.cn] 38).lt
  have p13 : w1.cell? ⟨W.heap.size, 4 + 9, none⟩ = some (.slice y.x.pl y.x.m.ls.length y.x.cl) := HP1.out.cell 13
  have p14 : w1.cell? ⟨W.heap.size, 4 + 10, none⟩ = some (.slice y.x.pn y.x.m.ns.length y.x.cn) := HP1.out.cell 14
  clear hb1
  go_upto_region 5 with fail
  clear p13 p14 g1 g2 h1 h2
  have p0 : w1.cell? ⟨W.heap.size, 0, none⟩ = some (.int .i64 y.f) := HP1.out.cell 0
  have p1 : w1.cell? ⟨W.heap.size, 1, none⟩ = some (.int .i64 y.t) := HP1.out.cell 1
  have p2 : w1.cell? ⟨W.heap.size, 2, none⟩ = some (.int .i64 y.n) := HP1.out.cell 2
  have p3 : w1.cell? ⟨W.heap.size, 3, none⟩ = some (.int .i64 y.h) := HP1.out.cell 3
  have p4 : w1.cell? ⟨W.heap.size, 4, none⟩ = some (.int .i64 y.x.m.k) := HP1.out.cell 4
  have p5 : w1.cell? ⟨W.heap.size, 5, none⟩ = some (.int .i64 y.x.m.s) := HP1.out.cell 5
  have p6 : w1.cell? ⟨W.heap.size, 6, none⟩ = some (.int .i64 y.x.m.n) := HP1.out.cell 6
  have p7 : w1.cell? ⟨W.heap.size, 7, none⟩ = some (.int .i64 y.x.m.b) := HP1.out.cell 7
  have p8 : w1.cell? ⟨W.heap.size, 8, none⟩ = some (.int .i64 y.x.m.c) := HP1.out.cell 8
  have p9 : w1.cell? ⟨W.heap.size, 9, none⟩ = some (.int .i64 y.x.m.r) := HP1.out.cell 9
  have p10 : w1.cell? ⟨W.heap.size, 10, none⟩ = some (.int .i64 y.x.m.y) := HP1.out.cell 10
  have p11 : w1.cell? ⟨W.heap.size, 11, none⟩ = some (.int .i64 y.x.m.a) := HP1.out.cell 11
  have p12 : w1.cell? ⟨W.heap.size, 12, none⟩ = some (.bool y.x.m.t) := HP1.out.cell 12
  have p13 : w1.cell? ⟨W.heap.size, 13, none⟩ = some (.slice y.x.pl y.x.m.ls.length y.x.cl) := HP1.out.cell 13
  have p14 : w1.cell? ⟨W.heap.size, 14, none⟩ = some (.slice y.x.pn y.x.m.ns.length y.x.cn) := HP1.out.cell 14
  go_upto_region 6 with fail
  clear p0 p1 p2 p3 p4 p5 p6 p7 p8 p9 p10 p11 p12 p13 p14
  have HP2 : Hid (Blk (w1.alloc (.cells #[.int .i64 y.f, .int .i64 y.t, .int .i64 y.n, .int .i64 y.h, .int .i64 y.x.m.k, .int .i64 y.x.m.s, .int .i64 y.x.m.n, .int .i64 y.x.m.b, .int .i64 y.x.m.c, .int .i64 y.x.m.r, .int .i64 y.x.m.y, .int .i64 y.x.m.a, .bool y.x.m.t, .slice y.x.pl y.x.m.ls.length y.x.cl, .slice y.x.pn y.x.m.ns.length y.x.cn] 38)) W.heap.size #[.int .i64 y.f, .int .i64 y.t, .int .i64 y.n, .int .i64 y.h, .int .i64 y.x.m.k, .int .i64 y.x.m.s, .int .i64 y.x.m.n, .int .i64 y.x.m.b, .int .i64 y.x.m.c, .int .i64 y.x.m.r, .int .i64 y.x.m.y, .int .i64 y.x.m.a, .bool y.x.m.t, .slice y.x.pl y.x.m.ls.length y.x.cl, .slice y.x.pn y.x.m.ns.length y.x.cn] 38) := HP1.out.alloc _
  have HM2 : Hid (Blk (w1.alloc (.cells #[.int .i64 y.f, .int .i64 y.t, .int .i64 y.n, .int .i64 y.h, .int .i64 y.x.m.k, .int .i64 y.x.m.s, .int .i64 y.x.m.n, .int .i64 y.x.m.b, .int .i64 y.x.m.c, .int .i64 y.x.m.r, .int .i64 y.x.m.y, .int .i64 y.x.m.a, .bool y.x.m.t, .slice y.x.pl y.x.m.ls.length y.x.cl, .slice y.x.pn y.x.m.ns.length y.x.cn] 38)) w1.heap.size #[.int .i64 y.f, .int .i64 y.t, .int .i64 y.n, .int .i64 y.h, .int .i64 y.x.m.k, .int .i64 y.x.m.s, .int .i64 y.x.m.n, .int .i64 y.x.m.b, .int .i64 y.x.m.c, .int .i64 y.x.m.r, .int .i64 y.x.m.y, .int .i64 y.x.m.a, .bool y.x.m.t, .slice y.x.pl y.x.m.ls.length y.x.cl, .slice y.x.pn y.x.m.ns.length y.x.cn] 38) := Blk.new w1 #[.int .i64 y.f, .int .i64 y.t, .int .i64 y.n, .int .i64 y.h, .int .i64 y.x.m.k, .int .i64 y.x.m.s, .int .i64 y.x.m.n, .int .i64 y.x.m.b, .int .i64 y.x.m.c, .int .i64 y.x.m.r, .int .i64 y.x.m.y, .int .i64 y.x.m.a, .bool y.x.m.t, .slice y.x.pl y.x.m.ls.length y.x.cl, .slice y.x.pn y.x.m.ns.length y.x.cn] 38
  have B2 : Hid (Below W.heap.size W (w1.alloc (.cells #[.int .i64 y.f, .int .i64 y.t, .int .i64 y.n, .int .i64 y.h, .int .i64 y.x.m.k, .int .i64 y.x.m.s, .int .i64 y.x.m.n, .int .i64 y.x.m.b, .int .i64 y.x.m.c, .int .i64 y.x.m.r, .int .i64 y.x.m.y, .int .i64 y.x.m.a, .bool y.x.m.t, .slice y.x.pl y.x.m.ls.length y.x.cl, .slice y.x.pn y.x.m.ns.length y.x.cn] 38))) := B1.out.alloc B1.out.size _
  have HGP : Hid (W.heap.size < w1.heap.size) := HP1.out.lt
  have hs2 : (w1.alloc (.cells #[.int .i64 y.f, .int .i64 y.t, .int .i64 y.n, .int .i64 y.h, .int .i64 y.x.m.k, .int .i64 y.x.m.s, .int .i64 y.x.m.n, .int .i64 y.x.m.b, .int .i64 y.x.m.c, .int .i64 y.x.m.r, .int .i64 y.x.m.y, .int .i64 y.x.m.a, .bool y.x.m.t, .slice y.x.pl y.x.m.ls.length y.x.cl, .slice y.x.pn y.x.m.ns.length y.x.cn] 38)).heap.size = w1.heap.size + 1 := by simp
  have HS2 := Lib.hid hs2
  clear hs2 HP1 B1
  generalize (w1.alloc (.cells #[.int .i64 y.f, .int .i64 y.t, .int .i64 y.n, .int .i64 y.h, .int .i64 y.x.m.k, .int .i64 y.x.m.s, .int .i64 y.x.m.n, .int .i64 y.x.m.b, .int .i64 y.x.m.c, .int .i64 y.x.m.r, .int .i64 y.x.m.y, .int .i64 y.x.m.a, .bool y.x.m.t, .slice y.x.pl y.x.m.ls.length y.x.cl, .slice y.x.pn y.x.m.ns.length y.x.cn] 38)) = w2 at *
  generalize w1.heap.size = gm at *
  have HMD := Lib.hid (OwnT.madeE encN w2 w2.heap.size 48 (Nat.le_refl _))
  have HA2 := Lib.hid (oneB w2 (.cells #[] 48))
  have q13 : (w2.alloc (.cells #[] 48)).cell? ⟨W.heap.size, 4 + 9, none⟩ = some (.slice y.x.pl y.x.m.ls.length y.x.cl) := (HP2.out.alloc _).cell 13
  go_wp2_with (at_builtin; with_reducible refine stop_appendT (.tmp 29) (.tmp 32) 33 rfl ?_)
  clear q13
  refine wpList_append_tb rfl (.tmp 29) (.tmp 32) 33 rfl 48 (.agg #[.int .i64 0, .int .i64 0, .int .i64 0, .int .i64 0]) 32 w2.heap.size elt_cloneN_any rfl (.slice (some ⟨w2.heap.size, 0, none⟩) 0 0) (.slice y.x.pl y.x.m.ls.length y.x.cl) [] y.x.m.ls rfl rfl HMD.out (HW.out.1.ls.kept (B2.out.trans (HA2.out.mono B2.out.size))) (by have := HW.out.2.1; simp; omega) (by have := HW.out.2.1; simp; omega) HA2.out.size y.x.m.ls y.x.m.ls.length (List.nil_append _) rfl ?_
  intro pl2 cl2 w3 ho _ hb
  have HO3 := Lib.hid ho
  have HB3 := Lib.hid (HA2.out.trans hb)
  have HP3 := Lib.hid (HP2.out.below HB3.out HP2.out.lt)
  have HM3 := Lib.hid (HM2.out.below HB3.out HM2.out.lt)
  have B3 := Lib.hid (B2.out.trans (HB3.out.mono B2.out.size))
  have m13 := HM3.out.cell 13
  have f13 := HM3.out.free 13
  clear ho hb HMD HA2 HP2 HM2
  go_upto_region 7 with fail
  clear m13 f13
  have HM4 : Hid (Blk (w3.setCell ⟨gm, 4 + 9, none⟩ (.slice pl2 y.x.m.ls.length cl2)) gm #[.int .i64 y.f, .int .i64 y.t, .int .i64 y.n, .int .i64 y.h, .int .i64 y.x.m.k, .int .i64 y.x.m.s, .int .i64 y.x.m.n, .int .i64 y.x.m.b, .int .i64 y.x.m.c, .int .i64 y.x.m.r, .int .i64 y.x.m.y, .int .i64 y.x.m.a, .bool y.x.m.t, .slice pl2 y.x.m.ls.length cl2, .slice y.x.pn y.x.m.ns.length y.x.cn] 38) := HM3.out.set 13 (.slice pl2 y.x.m.ls.length cl2)
  have HC4 : Hid (Chg gm w3 (w3.setCell ⟨gm, 4 + 9, none⟩ (.slice pl2 y.x.m.ls.length cl2))) := (Chg.refl _ w3).set 13 _
  generalize w3.setCell ⟨gm, 4 + 9, none⟩ (.slice pl2 y.x.m.ls.length cl2) = w4 at *
  have HP4 := Lib.hid (HP3.out.chg HC4.out (by have := HGP.out; omega))
  have HO4 := Lib.hid (HO3.out.stay (fun b hb => HC4.out.2 b (HO3.out.lt b hb) (by have h1 := HO3.out.block_ge b hb; have h2 := HS2.out; omega)))
  have B4 := Lib.hid (B3.out.trans (HC4.out.below (by have := HGP.out; omega) B3.out.size))
  have HZ4 : Hid (w2.heap.size ≤ w4.heap.size) := by show _ ≤ _; have h1 := HB3.out.size; have h2 := HC4.out.size; omega
  clear HM3 HC4 HP3 HO3 B3 HB3
  have HMD := Lib.hid (Own.made .i64 w4 w4.heap.size 2 (Nat.le_refl _))
  have HA2 := Lib.hid (oneB w4 (.cells #[] 2))
  have q14 : (w4.alloc (.cells #[] 2)).cell? ⟨W.heap.size, 4 + 10, none⟩ = some (.slice y.x.pn y.x.m.ns.length y.x.cn) := (HP4.out.alloc _).cell 14
  go_wp2_with (at_builtin; with_reducible refine stop_appendT (.tmp 36) (.tmp 39) 34 rfl ?_)
  clear q14
  refine wpList_append_row rfl (.tmp 36) (.tmp 39) 34 rfl 2 .i64 8 w4.heap.size elt64M (.slice (some ⟨w4.heap.size, 0, none⟩) 0 0) (.slice y.x.pn y.x.m.ns.length y.x.cn) [] y.x.m.ns rfl rfl HMD.out (HW.out.1.ns.kept (B4.out.trans (HA2.out.mono B4.out.size))) (by have := HW.out.2.2; simp; omega) (by have := HW.out.2.2; simp; omega) HA2.out.size y.x.m.ns y.x.m.ns.length (List.nil_append _) rfl ?_
  intro pn2 cn2 w5 ho hb
  have HN5 := Lib.hid ho
  have HB5 := Lib.hid (HA2.out.trans hb)
  have HP5 := Lib.hid (HP4.out.below HB5.out HP4.out.lt)
  have HM5 := Lib.hid (HM4.out.below HB5.out HM4.out.lt)
  have HO5 := Lib.hid (HO4.out.later HB5.out)
  have B5 := Lib.hid (B4.out.trans (HB5.out.mono B4.out.size))
  have m14 := HM5.out.cell 14
  have f14 := HM5.out.free 14
  have HLV : Hid (∀ b, (Value.slice pl2 y.x.m.ls.length cl2).ownBlock = some b → b < w4.heap.size) := fun b hb => HO4.out.lt b hb
  clear ho hb HMD HA2 HP4 HM4 HO4
  go_upto_region 8 with fail
  clear m14 f14
  have HM6 : Hid (Blk (w5.setCell ⟨gm, 4 + 10, none⟩ (.slice pn2 y.x.m.ns.length cn2)) gm #[.int .i64 y.f, .int .i64 y.t, .int .i64 y.n, .int .i64 y.h, .int .i64 y.x.m.k, .int .i64 y.x.m.s, .int .i64 y.x.m.n, .int .i64 y.x.m.b, .int .i64 y.x.m.c, .int .i64 y.x.m.r, .int .i64 y.x.m.y, .int .i64 y.x.m.a, .bool y.x.m.t, .slice pl2 y.x.m.ls.length cl2, .slice pn2 y.x.m.ns.length cn2] 38) := HM5.out.set 14 (.slice pn2 y.x.m.ns.length cn2)
  have HC6 : Hid (Chg gm w5 (w5.setCell ⟨gm, 4 + 10, none⟩ (.slice pn2 y.x.m.ns.length cn2))) := (Chg.refl _ w5).set 14 _
  generalize w5.setCell ⟨gm, 4 + 10, none⟩ (.slice pn2 y.x.m.ns.length cn2) = w6 at *
  have HP6 := Lib.hid (HP5.out.chg HC6.out (by have := HGP.out; omega))
  have HO6 := Lib.hid (HO5.out.stay (fun b hb => HC6.out.2 b (HO5.out.lt b hb) (by have h1 := HO5.out.block_ge b hb; have h2 := HS2.out; omega)))
  have HN6 := Lib.hid (HN5.out.stayV (fun b hb => HC6.out.2 b (HN5.out.lt b hb) (by have h1 := HN5.out.block_ge b hb; have h2 := HS2.out; have h3 := HZ4.out; omega)))
  have B6 := Lib.hid (B5.out.trans (HC6.out.below (by have := HGP.out; omega) B5.out.size))
  have HZ6 : Hid (w4.heap.size ≤ w6.heap.size) := by show _ ≤ _; have h1 := HB5.out.size; have h2 := HC6.out.size; omega
  clear HM5 HC6 HP5 HN5 HO5 B5 HB5
  have hmne : Hid (gm < w6.heap.size) := HM6.out.lt
  have HN7 : Hid (Net W.heap.size (fun b => b = W.heap.size ∨ b = gm ∨ (.slice pl2 y.x.m.ls.length cl2 : Value).ownBlock = some b ∨ (.slice pn2 y.x.m.ns.length cn2 : Value).ownBlock = some b ∨ b = (w6.heap.size + 1)) (w6.alloc (.cells #[.slice none 0 0] 26)) w6.heap.size []) := Net.zero W.heap.size (fun b => b = W.heap.size ∨ b = gm ∨ (.slice pl2 y.x.m.ls.length cl2 : Value).ownBlock = some b ∨ (.slice pn2 y.x.m.ns.length cn2 : Value).ownBlock = some b ∨ b = (w6.heap.size + 1)) w6 B6.out.size (by
    have h1 := hmne.out
    have h2 := HGP.out
    rintro (h | h | h | h | h)
    · omega
    · omega
    · have := HO6.out.lt _ h; omega
    · have := HN6.out.lt _ h; omega
    · omega)
  have hb7 := oneB w6 (.cells #[.slice none 0 0] 26)
  have HP7 := Lib.hid (HP6.out.below hb7 HP6.out.lt)
  have HM7 := Lib.hid (HM6.out.below hb7 HM6.out.lt)
  have HO7 := Lib.hid (HO6.out.later hb7)
  have HQ7 := Lib.hid (HN6.out.later hb7)
  have B7 := Lib.hid (B6.out.trans (hb7.mono B6.out.size))
  have hs7 : (w6.alloc (.cells #[.slice none 0 0] 26)).heap.size = w6.heap.size + 1 := by simp
  have HS7 := Lib.hid hs7
  have HLN : Hid (W.heap.size < w6.heap.size) := HP6.out.lt
  have HNV : Hid (∀ b, (.slice pn2 y.x.m.ns.length cn2 : Value).ownBlock = some b → b < w6.heap.size) := fun b hb => HN6.out.lt b hb
  clear hb7 hs7 HP6 HM6 HO6 HN6 B6
  go_upto_region 9 with fail
  generalize (w6.alloc (.cells #[.slice none 0 0] 26)) = w7 at *
  generalize w6.heap.size = g at *
  have m0 : w7.cell? ⟨gm, 0, none⟩ = some (.int .i64 y.f) := HM7.out.cell 0
  have m1 : w7.cell? ⟨gm, 1, none⟩ = some (.int .i64 y.t) := HM7.out.cell 1
  have m2 : w7.cell? ⟨gm, 2, none⟩ = some (.int .i64 y.n) := HM7.out.cell 2
  have m3 : w7.cell? ⟨gm, 3, none⟩ = some (.int .i64 y.h) := HM7.out.cell 3
  have m4 : w7.cell? ⟨gm, 4, none⟩ = some (.int .i64 y.x.m.k) := HM7.out.cell 4
  have m5 : w7.cell? ⟨gm, 5, none⟩ = some (.int .i64 y.x.m.s) := HM7.out.cell 5
  have m6 : w7.cell? ⟨gm, 6, none⟩ = some (.int .i64 y.x.m.n) := HM7.out.cell 6
  have m7 : w7.cell? ⟨gm, 7, none⟩ = some (.int .i64 y.x.m.b) := HM7.out.cell 7
  have m8 : w7.cell? ⟨gm, 8, none⟩ = some (.int .i64 y.x.m.c) := HM7.out.cell 8
  have m9 : w7.cell? ⟨gm, 9, none⟩ = some (.int .i64 y.x.m.r) := HM7.out.cell 9
  have m10 : w7.cell? ⟨gm, 10, none⟩ = some (.int .i64 y.x.m.y) := HM7.out.cell 10
  have m11 : w7.cell? ⟨gm, 11, none⟩ = some (.int .i64 y.x.m.a) := HM7.out.cell 11
  have m12 : w7.cell? ⟨gm, 12, none⟩ = some (.bool y.x.m.t) := HM7.out.cell 12
  have m13 : w7.cell? ⟨gm, 13, none⟩ = some (.slice pl2 y.x.m.ls.length cl2) := HM7.out.cell 13
  have m14 : w7.cell? ⟨gm, 14, none⟩ = some (.slice pn2 y.x.m.ns.length cn2) := HM7.out.cell 14
  have hb8 := oneB w7 (.cells #[.int .i64 y.f, .int .i64 y.t, .int .i64 y.n, .int .i64 y.h, .int .i64 y.x.m.k, .int .i64 y.x.m.s, .int .i64 y.x.m.n, .int .i64 y.x.m.b, .int .i64 y.x.m.c, .int .i64 y.x.m.r, .int .i64 y.x.m.y, .int .i64 y.x.m.a, .bool y.x.m.t, .slice pl2 y.x.m.ls.length cl2, .slice pn2 y.x.m.ns.length cn2] 38)
  have HN8 := Lib.hid (HN7.out.kept hb8)
  have HP8 := Lib.hid (HP7.out.below hb8 HP7.out.lt)
  have HM8 := Lib.hid (HM7.out.below hb8 HM7.out.lt)
  have HO8 := Lib.hid (HO7.out.later hb8)
  have HQ8 := Lib.hid (HQ7.out.later hb8)
  have B8 := Lib.hid (B7.out.trans (hb8.mono B7.out.size))
  have HR8 : Hid (PkRow (fun b => b = W.heap.size ∨ b = gm ∨ (.slice pl2 y.x.m.ls.length cl2 : Value).ownBlock = some b ∨ (.slice pn2 y.x.m.ns.length cn2 : Value).ownBlock = some b ∨ b = (g + 1)) (w7.alloc (.cells #[.int .i64 y.f, .int .i64 y.t, .int .i64 y.n, .int .i64 y.h, .int .i64 y.x.m.k, .int .i64 y.x.m.s, .int .i64 y.x.m.n, .int .i64 y.x.m.b, .int .i64 y.x.m.c, .int .i64 y.x.m.r, .int .i64 y.x.m.y, .int .i64 y.x.m.a, .bool y.x.m.t, .slice pl2 y.x.m.ls.length cl2, .slice pn2 y.x.m.ns.length cn2] 38)) (.slice (some ⟨w7.heap.size, 0, none⟩) 1 1) [y.pk]) := ⟨[⟨y.f, y.t, y.n, y.h, ⟨y.x.m, pl2, cl2, pn2, cn2⟩⟩], TRow.one_ encK _ (Blk.new w7 #[.int .i64 y.f, .int .i64 y.t, .int .i64 y.n, .int .i64 y.h, .int .i64 y.x.m.k, .int .i64 y.x.m.s, .int .i64 y.x.m.n, .int .i64 y.x.m.b, .int .i64 y.x.m.c, .int .i64 y.x.m.r, .int .i64 y.x.m.y, .int .i64 y.x.m.a, .bool y.x.m.t, .slice pl2 y.x.m.ls.length cl2, .slice pn2 y.x.m.ns.length cn2] 38) rfl (Nat.le_refl 1), (fun b o n c e _ => by cases e; exact .inr (.inr (.inr (.inr HS7.out)))), (fun q hq => by simp at hq; subst hq; exact ⟨HO8.out.row, HQ8.out.row, (fun b o n c e _ => .inr (.inr (.inl (by rw [show (.slice pl2 y.x.m.ls.length cl2 : Value) = _ from e]; rfl)))), (fun b o n c e _ => .inr (.inr (.inr (.inl (by rw [show (.slice pn2 y.x.m.ns.length cn2 : Value) = _ from e]; rfl))))), HW.out.2⟩), rfl⟩
  have HS8 : Hid (w7.heap.size + 1 = (w7.alloc (.cells #[.int .i64 y.f, .int .i64 y.t, .int .i64 y.n, .int .i64 y.h, .int .i64 y.x.m.k, .int .i64 y.x.m.s, .int .i64 y.x.m.n, .int .i64 y.x.m.b, .int .i64 y.x.m.c, .int .i64 y.x.m.r, .int .i64 y.x.m.y, .int .i64 y.x.m.a, .bool y.x.m.t, .slice pl2 y.x.m.ls.length cl2, .slice pn2 y.x.m.ns.length cn2] 38)).heap.size) := by show _ = _; simp
  clear hb8 HN7 HP7 HM7 HO7 HQ7 B7
  go_wp2_with fail
  clear m0 m1 m2 m3 m4 m5 m6 m7 m8 m9 m10 m11 m12 m13 m14
  generalize (w7.alloc (.cells #[.int .i64 y.f, .int .i64 y.t, .int .i64 y.n, .int .i64 y.h, .int .i64 y.x.m.k, .int .i64 y.x.m.s, .int .i64 y.x.m.n, .int .i64 y.x.m.b, .int .i64 y.x.m.c, .int .i64 y.x.m.r, .int .i64 y.x.m.y, .int .i64 y.x.m.a, .bool y.x.m.t, .slice pl2 y.x.m.ls.length cl2, .slice pn2 y.x.m.ns.length cn2] 38)) = w8 at *
  refine (net_send w8 _ HN8.out HR8.out (fun b hb => .inr hb) (by
    have h1 := hmne.out
    have h2 := HLN.out
    have h3 := HS7.out
    have h4 := HS8.out
    rintro b (h | h | h | h | h)
    · omega
    · omega
    · have := HO8.out.lt _ h; omega
    · have := HQ8.out.lt _ h; omega
    · omega)).mono ?_
  rintro y0 w9 ⟨rfl, hn9, hb9, hk9⟩
  have HN9 : Hid (Net W.heap.size (fun b => b = W.heap.size ∨ b = gm ∨ (.slice pl2 y.x.m.ls.length cl2 : Value).ownBlock = some b ∨ (.slice pn2 y.x.m.ns.length cn2 : Value).ownBlock = some b ∨ b = (g + 1)) w9 g [y.pk]) := hn9
  have B9 := Lib.hid (B8.out.trans hb9)
  have HP9 := Lib.hid (HP8.out.keepP hk9 (.inl rfl))
  have HM9 := Lib.hid (HM8.out.keepP hk9 (.inr (.inl rfl)))
  have HO9 := Lib.hid (HO8.out.stay (fun b hb => hk9.2 b (HO8.out.lt b hb) (.inr (.inr (.inl hb)))))
  have HQ9 := Lib.hid (HQ8.out.stayV (fun b hb => hk9.2 b (HQ8.out.lt b hb) (.inr (.inr (.inr (.inl hb))))))
  have HS9 : Hid (g + 1 < w9.heap.size) := by show _ < _; have h1 := hk9.1; have h3 := HS7.out; have h4 := HS8.out; omega
  clear hn9 hb9 hk9 HN8 B8 HP8 HM8 HO8 HQ8 HR8
  go_wp2_with fail
  refine (net_twice w9 0 HN9.out (by show 0 < 1; decide) (by show 1 < 8192; decide) (by
    have h1 := hmne.out
    have h2 := HLN.out
    have h4 := HS9.out
    rintro b (h | h | h | h | h)
    · omega
    · omega
    · have := HO9.out.lt _ h; omega
    · have := HQ9.out.lt _ h; omega
    · omega)).mono ?_
  rintro y0 wa ⟨rfl, hn9, hb9, hk9⟩
  have HNa : Hid (Net W.heap.size (fun b => b = W.heap.size ∨ b = gm ∨ (.slice pl2 y.x.m.ls.length cl2 : Value).ownBlock = some b ∨ (.slice pn2 y.x.m.ns.length cn2 : Value).ownBlock = some b ∨ b = (g + 1)) wa g [y.pk, y.pk]) := hn9
  have Ba := Lib.hid (B9.out.trans hb9)
  have HPa := Lib.hid (HP9.out.keepP hk9 (.inl rfl))
  have HMa := Lib.hid (HM9.out.keepP hk9 (.inr (.inl rfl)))
  have HOa := Lib.hid (HO9.out.stay (fun b hb => hk9.2 b (HO9.out.lt b hb) (.inr (.inr (.inl hb)))))
  have HQa := Lib.hid (HQ9.out.stayV (fun b hb => hk9.2 b (HQ9.out.lt b hb) (.inr (.inr (.inr (.inl hb))))))
  have HSa : Hid (g + 1 < wa.heap.size) := by show _ < _; have h1 := hk9.1; have h3 := HS9.out; omega
  clear hn9 hb9 hk9 HN9 B9 HP9 HM9 HO9 HQ9 HS9
  obtain ⟨sl, hsl1, hsl2, hsl3, hsl4⟩ := HOa.out.gstart rfl 3 (.inl rfl) (g + 1) (by have h1 := HZ4.out; have h2 := HZ6.out; have h3 := HS2.out; have := HGP.out; omega)
  have HL1 : Hid (gm < sl ∧ (sl = g + 1 ∨ (.slice pl2 y.x.m.ls.length cl2 : Value).ownBlock = some sl)) := ⟨by have h3 := HS2.out; omega, hsl3⟩
  have HSL := Lib.hid hsl2
  have HGB := Lib.hid hsl4
  clear hsl1 hsl2 hsl3 hsl4
  have a13 : wa.cell? ⟨gm, 4 + 9, none⟩ = some (.slice pl2 y.x.m.ls.length cl2) := HMa.out.cell 13
  go_wp2_with fail
  clear a13
  go_loopw [51] (fun i wr => ∃ k : Nat, k ≤ y.x.m.ls.length ∧ i = .int .i64 k ∧ Hid (GBump 4 3 wa sl y.x.m.ls.length wr)) (fun i _ => y.x.m.ls.length - (intOf i).toNat)
  case atStart => exact ⟨0, by omega, rfl, HGB⟩
  case round =>
    obtain ⟨k, hk, rfl, HK⟩ := hrel
    clear HGB
    by_cases hlt : k < y.x.m.ls.length
    · have hltI : (k : Int) < (y.x.m.ls.length : Int) := by omega
      obtain ⟨z, hcell, hfree⟩ := gbump_at HK.out k hlt
      have hpl := (HSL.out (by omega)).1
      have h69 : wr.cell? ⟨gm, 4 + 9, none⟩ = some (.slice pl2 y.x.m.ls.length cl2) := (HMa.out.chg HK.out.1 (by have := HL1.out.1; omega)).cell 13
      have HST := Lib.hid (fun v => gbump_set (by decide) HK.out k v)
      subst hpl
      have hkb : k + 1 ≤ 60 := by have := H5.out.1; omega
      clear HK
      go_wp2_with fail
      go_roundw
      case rel => exact ⟨k + 1, by omega, by go_num, HST.out _⟩
      case measure => simp [intOf]; omega
    · have hltI : (y.x.m.ls.length : Int) ≤ (k : Int) := by omega
      clear HSL
      have HMb := Lib.hid (HMa.out.chg HK.out.1 (by have := HL1.out.1; omega))
      have HNb := Lib.hid (HNa.out.chg HK.out.1 (.inl (HL1.out.2.elim (fun h => .inr (.inr (.inr (.inr h)))) (fun h => .inr (.inr (.inl h))))))
      have HPb := Lib.hid (HPa.out.chg HK.out.1 (by have := HL1.out.1; have := HGP.out; omega))
      have HQb := Lib.hid (HQa.out.stayV (fun b hb => HK.out.1.2 b (HQa.out.lt b hb) (by
        intro e
        rw [e] at hb
        rcases HL1.out.2 with h | h
        · have := HNV.out _ hb; omega
        · have := HLV.out _ h; have := HQa.out.block_ge _ hb; omega)))
      have Bb := Lib.hid (Ba.out.trans (HK.out.1.below (by have := HL1.out.1; have := HGP.out; omega) Ba.out.size))
      have HSb : Hid (g + 1 < wr.heap.size) := by show _ < _; have h1 := HK.out.1.size; have h2 := HSa.out; omega
      go_upto_region 16 with fail
      clear HK HMa HNa HPa HQa Ba HOa HL1
      generalize wr = wb at *
      as_aux_lemma =>
      obtain ⟨sn, hsn1, hsn2, hsn3, hsn4⟩ := HQb.out.gstart (g + 1) (by have h1 := HZ6.out; omega)
      have HL2 : Hid (gm < sn ∧ (sn = g + 1 ∨ (.slice pn2 y.x.m.ns.length cn2 : Value).ownBlock = some sn)) := ⟨by have h3 := HS2.out; have h4 := HZ4.out; omega, hsn3⟩
      have HSN := Lib.hid hsn2
      have HGN := Lib.hid hsn4
      clear hsn1 hsn2 hsn3 hsn4
      have a14 : wb.cell? ⟨gm, 4 + 10, none⟩ = some (.slice pn2 y.x.m.ns.length cn2) := HMb.out.cell 14
      go_wp2_with fail
      clear a14
      go_loopw [69] (fun i wr => ∃ k : Nat, k ≤ y.x.m.ns.length ∧ i = .int .i64 k ∧ Hid (GBump 1 0 wb sn y.x.m.ns.length wr)) (fun i _ => y.x.m.ns.length - (intOf i).toNat)
      case atStart => exact ⟨0, by omega, rfl, HGN⟩
      case round =>
        obtain ⟨k, hk, rfl, HK⟩ := hrel
        clear HGN
        by_cases hlt2 : k < y.x.m.ns.length
        · have hltI2 : (k : Int) < (y.x.m.ns.length : Int) := by omega
          obtain ⟨z, hcell, hfree⟩ := gbump_at HK.out k hlt2
          rw [Nat.mul_one, Nat.add_zero] at hcell hfree
          have hpl := (HSN.out (by omega)).1
          have h69 : wr.cell? ⟨gm, 4 + 10, none⟩ = some (.slice pn2 y.x.m.ns.length cn2) := (HMb.out.chg HK.out.1 (by have := HL2.out.1; omega)).cell 14
          have HST : Hid (∀ v, GBump 1 0 wb sn y.x.m.ns.length (wr.setCell ⟨sn, k, none⟩ (.int .i64 v))) := fun v => by
            have := gbump_set (by decide) HK.out k v
            rwa [Nat.mul_one, Nat.add_zero] at this
          subst hpl
          have hkb : k + 1 ≤ 60 := by have := H5.out.2; omega
          clear HK
          go_wp2_with fail
          go_roundw
          case rel => exact ⟨k + 1, by omega, by go_num, HST.out _⟩
          case measure => simp [intOf]; omega
        · have hltI2 : (y.x.m.ns.length : Int) ≤ (k : Int) := by omega
          clear HSN
          have HNc := Lib.hid ((HNb.out.chg HK.out.1 (.inl (HL2.out.2.elim (fun h => .inr (.inr (.inr (.inr h)))) (fun h => .inr (.inr (.inr (.inl h))))))).ext (L' := fun b => b = W.heap.size ∨ wr.heap.size ≤ b) (fun b hb h => h.elim .inl (fun h => by omega)))
          have HPc := Lib.hid (HPb.out.chg HK.out.1 (by have := HL2.out.1; have := HGP.out; omega))
          have Bc := Lib.hid (Bb.out.trans (HK.out.1.below (by have := HL2.out.1; have := HGP.out; omega) Bb.out.size))
          go_upto_region 21 with fail
          clear HK HNb HPb HQb Bb HMb HL2
          generalize wr = wc at *
          as_aux_lemma =>
          go_wp2_with fail
          refine (net_look_own wc 0 HNc.out (by show 0 < 2; decide)).mono ?_
          rintro y0 wd ⟨⟨qf, qt, qn, qh, ⟨qm, qp, qc, qp2, qc2⟩⟩, rfl, hq1, ⟨_, hq3⟩, hbd⟩
          have HQ5 : Hid (qm.ls.length ≤ 50) := by
            have h : qm = y.x.m := congrArg Pk.m hq1
            rw [h]
            exact H5.out.1
          unfold PkX.v
          dsimp only [MsgX.vl] at hq3 ⊢
          have HNd := Lib.hid ((HNc.out.kept hbd).kept (oneB wd (.cells #[.int .i64 qf, .int .i64 qt, .int .i64 qn, .int .i64 qh, .int .i64 qm.k, .int .i64 qm.s, .int .i64 qm.n, .int .i64 qm.b, .int .i64 qm.c, .int .i64 qm.r, .int .i64 qm.y, .int .i64 qm.a, .bool qm.t, .slice qp qm.ls.length qc, .slice qp2 qm.ns.length qc2] 38)))
          have HPd : Hid (Blk (wd.alloc (.cells #[.int .i64 qf, .int .i64 qt, .int .i64 qn, .int .i64 qh, .int .i64 qm.k, .int .i64 qm.s, .int .i64 qm.n, .int .i64 qm.b, .int .i64 qm.c, .int .i64 qm.r, .int .i64 qm.y, .int .i64 qm.a, .bool qm.t, .slice qp qm.ls.length qc, .slice qp2 qm.ns.length qc2] 38)) W.heap.size #[.int .i64 y.f, .int .i64 y.t, .int .i64 y.n, .int .i64 y.h, .int .i64 y.x.m.k, .int .i64 y.x.m.s, .int .i64 y.x.m.n, .int .i64 y.x.m.b, .int .i64 y.x.m.c, .int .i64 y.x.m.r, .int .i64 y.x.m.y, .int .i64 y.x.m.a, .bool y.x.m.t, .slice y.x.pl y.x.m.ls.length y.x.cl, .slice y.x.pn y.x.m.ns.length y.x.cn] 38) := (HPc.out.below hbd HPc.out.lt).alloc _
          have Bd : Hid (Below W.heap.size W (wd.alloc (.cells #[.int .i64 qf, .int .i64 qt, .int .i64 qn, .int .i64 qh, .int .i64 qm.k, .int .i64 qm.s, .int .i64 qm.n, .int .i64 qm.b, .int .i64 qm.c, .int .i64 qm.r, .int .i64 qm.y, .int .i64 qm.a, .bool qm.t, .slice qp qm.ls.length qc, .slice qp2 qm.ns.length qc2] 38))) := (Bc.out.trans (hbd.mono Bc.out.size)).alloc (Bc.out.trans (hbd.mono Bc.out.size)).size _
          have HQd := Lib.hid (hq3.later (oneB wd (.cells #[.int .i64 qf, .int .i64 qt, .int .i64 qn, .int .i64 qh, .int .i64 qm.k, .int .i64 qm.s, .int .i64 qm.n, .int .i64 qm.b, .int .i64 qm.c, .int .i64 qm.r, .int .i64 qm.y, .int .i64 qm.a, .bool qm.t, .slice qp qm.ls.length qc, .slice qp2 qm.ns.length qc2] 38)))
          have HQV : Hid (∀ b, (Value.slice qp qm.ls.length qc).ownBlock = some b → b < wd.heap.size) := fun b hb => hq3.lt b hb
          have HGQ := Lib.hid (Blk.new wd #[.int .i64 qf, .int .i64 qt, .int .i64 qn, .int .i64 qh, .int .i64 qm.k, .int .i64 qm.s, .int .i64 qm.n, .int .i64 qm.b, .int .i64 qm.c, .int .i64 qm.r, .int .i64 qm.y, .int .i64 qm.a, .bool qm.t, .slice qp qm.ls.length qc, .slice qp2 qm.ns.length qc2] 38)
          have HCD : Hid (wc.heap.size ≤ wd.heap.size ∧ W.heap.size < wc.heap.size) := ⟨hbd.size, HPc.out.lt⟩
          clear hq1 hq3 hbd HNc HPc Bc
          go_upto_region 22 with fail
          generalize wd.alloc (.cells #[.int .i64 qf, .int .i64 qt, .int .i64 qn, .int .i64 qh, .int .i64 qm.k, .int .i64 qm.s, .int .i64 qm.n, .int .i64 qm.b, .int .i64 qm.c, .int .i64 qm.r, .int .i64 qm.y, .int .i64 qm.a, .bool qm.t, .slice qp qm.ls.length qc, .slice qp2 qm.ns.length qc2] 38) = we at *
          generalize wd.heap.size = gq at *
          obtain ⟨sq, hsq1, hsq2, hsq3, hsq4⟩ := HQd.out.gstart rfl 1 (.inr rfl) (gq + 1) (by have := HCD.out.1; omega)
          have HL3 : Hid (sq ≠ gq ∧ wc.heap.size ≤ sq) := ⟨by
            rcases hsq3 with h | h
            · omega
            · have := HQV.out _ h; omega, hsq1⟩
          have HSQ := Lib.hid hsq2
          have HGB3 := Lib.hid hsq4
          clear hsq1 hsq2 hsq3 hsq4 HQV HQd
          have a15 : we.cell? ⟨gq, 4 + 9, none⟩ = some (.slice qp qm.ls.length qc) := HGQ.out.cell 13
          go_wp2_with fail
          clear a15
          go_loopw [89] (fun i wr => ∃ k : Nat, k ≤ qm.ls.length ∧ i = .int .i64 k ∧ Hid (GBump 4 1 we sq qm.ls.length wr)) (fun i _ => qm.ls.length - (intOf i).toNat)
          case atStart => exact ⟨0, by omega, rfl, HGB3⟩
          case round =>
            obtain ⟨u, hu, rfl, HK⟩ := hrel
            clear HGB3
            by_cases hlt3 : u < qm.ls.length
            · have hltI3 : (u : Int) < (qm.ls.length : Int) := by omega
              obtain ⟨z, hcell, hfree⟩ := gbump_at HK.out u hlt3
              have hpl := (HSQ.out (by omega)).1
              have h69 : wr.cell? ⟨gq, 4 + 9, none⟩ = some (.slice qp qm.ls.length qc) := (HGQ.out.chg HK.out.1 (by have := HL3.out.1; omega)).cell 13
              have HST := Lib.hid (fun v => gbump_set (by decide) HK.out u v)
              subst hpl
              have hkb : u + 1 ≤ 60 := by have := HQ5.out; omega
              clear HK
              go_wp2_with fail
              go_roundw
              case rel => exact ⟨u + 1, by omega, by go_num, HST.out _⟩
              case measure => simp [intOf]; omega
            · have hltI3 : (qm.ls.length : Int) ≤ (u : Int) := by omega
              clear HSQ
              have HNf := Lib.hid ((HNd.out.chg HK.out.1 (.inl (.inr HL3.out.2))).ext (L' := fun b => b = W.heap.size ∨ wr.heap.size ≤ b) (fun b hb h => h.elim .inl (fun h => by omega)))
              have HPf := Lib.hid (HPd.out.chg HK.out.1 (by have := HL3.out.2; have := HCD.out.2; omega))
              have Bf := Lib.hid (Bd.out.trans (HK.out.1.below (by have := HL3.out.2; have := HCD.out.2; omega) Bd.out.size))
              go_upto_region 27 with fail
              clear HK HNd HPd Bd HGQ HL3
              generalize wr = wf at *
              as_aux_lemma =>
              go_wp2_with fail
              refine (net_take wf 0 HNf.out (by show 0 < 2; decide)).mono ?_
              rintro y0 wg ⟨z1, rfl, hz1, hz2, hng, hbg, hkg⟩
              have hz1' : z1.pk = y.pk := hz1
              have HZ1 := Lib.hid hz1'
              have HN1 : Hid (Net W.heap.size (fun b => b = W.heap.size ∨ wf.heap.size ≤ b) (wg.alloc (.cells #[.int .i64 z1.f, .int .i64 z1.t, .int .i64 z1.n, .int .i64 z1.h, .int .i64 z1.x.m.k, .int .i64 z1.x.m.s, .int .i64 z1.x.m.n, .int .i64 z1.x.m.b, .int .i64 z1.x.m.c, .int .i64 z1.x.m.r, .int .i64 z1.x.m.y, .int .i64 z1.x.m.a, .bool z1.x.m.t, .slice z1.x.pl z1.x.m.ls.length z1.x.cl, .slice z1.x.pn z1.x.m.ns.length z1.x.cn] 38)) g [y.pk]) := (show Net W.heap.size (fun b => b = W.heap.size ∨ wf.heap.size ≤ b) wg g [y.pk] from hng).kept (oneB wg _)
              have HP1 : Hid (Blk (wg.alloc (.cells #[.int .i64 z1.f, .int .i64 z1.t, .int .i64 z1.n, .int .i64 z1.h, .int .i64 z1.x.m.k, .int .i64 z1.x.m.s, .int .i64 z1.x.m.n, .int .i64 z1.x.m.b, .int .i64 z1.x.m.c, .int .i64 z1.x.m.r, .int .i64 z1.x.m.y, .int .i64 z1.x.m.a, .bool z1.x.m.t, .slice z1.x.pl z1.x.m.ls.length z1.x.cl, .slice z1.x.pn z1.x.m.ns.length z1.x.cn] 38)) W.heap.size #[.int .i64 y.f, .int .i64 y.t, .int .i64 y.n, .int .i64 y.h, .int .i64 y.x.m.k, .int .i64 y.x.m.s, .int .i64 y.x.m.n, .int .i64 y.x.m.b, .int .i64 y.x.m.c, .int .i64 y.x.m.r, .int .i64 y.x.m.y, .int .i64 y.x.m.a, .bool y.x.m.t, .slice y.x.pl y.x.m.ls.length y.x.cl, .slice y.x.pn y.x.m.ns.length y.x.cn] 38) := (HPf.out.keepP hkg (.inl rfl)).alloc _
              have Bg : Hid (Below W.heap.size W (wg.alloc (.cells #[.int .i64 z1.f, .int .i64 z1.t, .int .i64 z1.n, .int .i64 z1.h, .int .i64 z1.x.m.k, .int .i64 z1.x.m.s, .int .i64 z1.x.m.n, .int .i64 z1.x.m.b, .int .i64 z1.x.m.c, .int .i64 z1.x.m.r, .int .i64 z1.x.m.y, .int .i64 z1.x.m.a, .bool z1.x.m.t, .slice z1.x.pl z1.x.m.ls.length z1.x.cl, .slice z1.x.pn z1.x.m.ns.length z1.x.cn] 38))) := (Bf.out.trans hbg).alloc (Bf.out.trans hbg).size _
              have HX1 : Hid (z1.x.InP (fun b => b = W.heap.size ∨ wf.heap.size ≤ b) (wg.alloc (.cells #[.int .i64 z1.f, .int .i64 z1.t, .int .i64 z1.n, .int .i64 z1.h, .int .i64 z1.x.m.k, .int .i64 z1.x.m.s, .int .i64 z1.x.m.n, .int .i64 z1.x.m.b, .int .i64 z1.x.m.c, .int .i64 z1.x.m.r, .int .i64 z1.x.m.y, .int .i64 z1.x.m.a, .bool z1.x.m.t, .slice z1.x.pl z1.x.m.ls.length z1.x.cl, .slice z1.x.pn z1.x.m.ns.length z1.x.cn] 38))) := (InP.mono' hz2 (fun b hb => .inr hb.1)).kept (oneB wg _)
              have HA1 := Lib.hid (Blk.new wg #[.int .i64 z1.f, .int .i64 z1.t, .int .i64 z1.n, .int .i64 z1.h, .int .i64 z1.x.m.k, .int .i64 z1.x.m.s, .int .i64 z1.x.m.n, .int .i64 z1.x.m.b, .int .i64 z1.x.m.c, .int .i64 z1.x.m.r, .int .i64 z1.x.m.y, .int .i64 z1.x.m.a, .bool z1.x.m.t, .slice z1.x.pl z1.x.m.ls.length z1.x.cl, .slice z1.x.pn z1.x.m.ns.length z1.x.cn] 38)
              have HGA : Hid (wf.heap.size ≤ wg.heap.size) := hkg.1
              clear hz1 hz1' hz2 hng hbg hkg HNf HPf Bf
              unfold PkX.v
              go_upto_region 28 with fail
              generalize wg.alloc (.cells #[.int .i64 z1.f, .int .i64 z1.t, .int .i64 z1.n, .int .i64 z1.h, .int .i64 z1.x.m.k, .int .i64 z1.x.m.s, .int .i64 z1.x.m.n, .int .i64 z1.x.m.b, .int .i64 z1.x.m.c, .int .i64 z1.x.m.r, .int .i64 z1.x.m.y, .int .i64 z1.x.m.a, .bool z1.x.m.t, .slice z1.x.pl z1.x.m.ls.length z1.x.cl, .slice z1.x.pn z1.x.m.ns.length z1.x.cn] 38) = wg2 at *
              generalize wg.heap.size = ga at *
              go_wp2_with fail
              refine (net_take wg2 0 HN1.out (by show 0 < 1; decide)).mono ?_
              rintro y0 wh ⟨z2, rfl, hz1, hz2, hng, hbg, hkg⟩
              have hz1' : z2.pk = y.pk := hz1
              have HZ2 := Lib.hid hz1'
              have HN2 : Hid (Net W.heap.size (fun b => b = W.heap.size ∨ wf.heap.size ≤ b) (wh.alloc (.cells #[.int .i64 z2.f, .int .i64 z2.t, .int .i64 z2.n, .int .i64 z2.h, .int .i64 z2.x.m.k, .int .i64 z2.x.m.s, .int .i64 z2.x.m.n, .int .i64 z2.x.m.b, .int .i64 z2.x.m.c, .int .i64 z2.x.m.r, .int .i64 z2.x.m.y, .int .i64 z2.x.m.a, .bool z2.x.m.t, .slice z2.x.pl z2.x.m.ls.length z2.x.cl, .slice z2.x.pn z2.x.m.ns.length z2.x.cn] 38)) g []) := (show Net W.heap.size (fun b => b = W.heap.size ∨ wf.heap.size ≤ b) wh g [] from hng).kept (oneB wh _)
              have HP2 : Hid (Blk (wh.alloc (.cells #[.int .i64 z2.f, .int .i64 z2.t, .int .i64 z2.n, .int .i64 z2.h, .int .i64 z2.x.m.k, .int .i64 z2.x.m.s, .int .i64 z2.x.m.n, .int .i64 z2.x.m.b, .int .i64 z2.x.m.c, .int .i64 z2.x.m.r, .int .i64 z2.x.m.y, .int .i64 z2.x.m.a, .bool z2.x.m.t, .slice z2.x.pl z2.x.m.ls.length z2.x.cl, .slice z2.x.pn z2.x.m.ns.length z2.x.cn] 38)) W.heap.size #[.int .i64 y.f, .int .i64 y.t, .int .i64 y.n, .int .i64 y.h, .int .i64 y.x.m.k, .int .i64 y.x.m.s, .int .i64 y.x.m.n, .int .i64 y.x.m.b, .int .i64 y.x.m.c, .int .i64 y.x.m.r, .int .i64 y.x.m.y, .int .i64 y.x.m.a, .bool y.x.m.t, .slice y.x.pl y.x.m.ls.length y.x.cl, .slice y.x.pn y.x.m.ns.length y.x.cn] 38) := (HP1.out.keepP hkg (.inl rfl)).alloc _
              have Bh : Hid (Below W.heap.size W (wh.alloc (.cells #[.int .i64 z2.f, .int .i64 z2.t, .int .i64 z2.n, .int .i64 z2.h, .int .i64 z2.x.m.k, .int .i64 z2.x.m.s, .int .i64 z2.x.m.n, .int .i64 z2.x.m.b, .int .i64 z2.x.m.c, .int .i64 z2.x.m.r, .int .i64 z2.x.m.y, .int .i64 z2.x.m.a, .bool z2.x.m.t, .slice z2.x.pl z2.x.m.ls.length z2.x.cl, .slice z2.x.pn z2.x.m.ns.length z2.x.cn] 38))) := (Bg.out.trans hbg).alloc (Bg.out.trans hbg).size _
              have HX2 := Lib.hid ((HX1.out.keepP hkg).kept (oneB wh (.cells #[.int .i64 z2.f, .int .i64 z2.t, .int .i64 z2.n, .int .i64 z2.h, .int .i64 z2.x.m.k, .int .i64 z2.x.m.s, .int .i64 z2.x.m.n, .int .i64 z2.x.m.b, .int .i64 z2.x.m.c, .int .i64 z2.x.m.r, .int .i64 z2.x.m.y, .int .i64 z2.x.m.a, .bool z2.x.m.t, .slice z2.x.pl z2.x.m.ls.length z2.x.cl, .slice z2.x.pn z2.x.m.ns.length z2.x.cn] 38)))
              have HX3 := Lib.hid (hz2.kept (oneB wh (.cells #[.int .i64 z2.f, .int .i64 z2.t, .int .i64 z2.n, .int .i64 z2.h, .int .i64 z2.x.m.k, .int .i64 z2.x.m.s, .int .i64 z2.x.m.n, .int .i64 z2.x.m.b, .int .i64 z2.x.m.c, .int .i64 z2.x.m.r, .int .i64 z2.x.m.y, .int .i64 z2.x.m.a, .bool z2.x.m.t, .slice z2.x.pl z2.x.m.ls.length z2.x.cl, .slice z2.x.pn z2.x.m.ns.length z2.x.cn] 38)))
              have HA2 : Hid (Blk (wh.alloc (.cells #[.int .i64 z2.f, .int .i64 z2.t, .int .i64 z2.n, .int .i64 z2.h, .int .i64 z2.x.m.k, .int .i64 z2.x.m.s, .int .i64 z2.x.m.n, .int .i64 z2.x.m.b, .int .i64 z2.x.m.c, .int .i64 z2.x.m.r, .int .i64 z2.x.m.y, .int .i64 z2.x.m.a, .bool z2.x.m.t, .slice z2.x.pl z2.x.m.ls.length z2.x.cl, .slice z2.x.pn z2.x.m.ns.length z2.x.cn] 38)) ga #[.int .i64 z1.f, .int .i64 z1.t, .int .i64 z1.n, .int .i64 z1.h, .int .i64 z1.x.m.k, .int .i64 z1.x.m.s, .int .i64 z1.x.m.n, .int .i64 z1.x.m.b, .int .i64 z1.x.m.c, .int .i64 z1.x.m.r, .int .i64 z1.x.m.y, .int .i64 z1.x.m.a, .bool z1.x.m.t, .slice z1.x.pl z1.x.m.ls.length z1.x.cl, .slice z1.x.pn z1.x.m.ns.length z1.x.cn] 38) := (HA1.out.keepP hkg (.inr HGA.out)).alloc _
              have HA3 := Lib.hid (Blk.new wh #[.int .i64 z2.f, .int .i64 z2.t, .int .i64 z2.n, .int .i64 z2.h, .int .i64 z2.x.m.k, .int .i64 z2.x.m.s, .int .i64 z2.x.m.n, .int .i64 z2.x.m.b, .int .i64 z2.x.m.c, .int .i64 z2.x.m.r, .int .i64 z2.x.m.y, .int .i64 z2.x.m.a, .bool z2.x.m.t, .slice z2.x.pl z2.x.m.ls.length z2.x.cl, .slice z2.x.pn z2.x.m.ns.length z2.x.cn] 38)
              clear hz1 hz1' hz2 hng hbg hkg HN1 HP1 Bg HX1 HA1
              unfold PkX.v
              go_upto_region 29 with fail
              generalize wh.alloc (.cells #[.int .i64 z2.f, .int .i64 z2.t, .int .i64 z2.n, .int .i64 z2.h, .int .i64 z2.x.m.k, .int .i64 z2.x.m.s, .int .i64 z2.x.m.n, .int .i64 z2.x.m.b, .int .i64 z2.x.m.c, .int .i64 z2.x.m.r, .int .i64 z2.x.m.y, .int .i64 z2.x.m.a, .bool z2.x.m.t, .slice z2.x.pl z2.x.m.ls.length z2.x.cl, .slice z2.x.pn z2.x.m.ns.length z2.x.cn] 38) = wi at *
              generalize wh.heap.size = gb at *
              have HSM := Lib.hid (ksame_in z1 y wi HZ1.out HX2.out (HW.out.inP.kept Bh.out))
              unfold PkX.v at HSM
              have a0 : wi.cell? ⟨ga, 0, none⟩ = some (.int .i64 z1.f) := HA2.out.cell 0
              have a1 : wi.cell? ⟨ga, 1, none⟩ = some (.int .i64 z1.t) := HA2.out.cell 1
              have a2 : wi.cell? ⟨ga, 2, none⟩ = some (.int .i64 z1.n) := HA2.out.cell 2
              have a3 : wi.cell? ⟨ga, 3, none⟩ = some (.int .i64 z1.h) := HA2.out.cell 3
              have a4 : wi.cell? ⟨ga, 4, none⟩ = some (.int .i64 z1.x.m.k) := HA2.out.cell 4
              have a5 : wi.cell? ⟨ga, 5, none⟩ = some (.int .i64 z1.x.m.s) := HA2.out.cell 5
              have a6 : wi.cell? ⟨ga, 6, none⟩ = some (.int .i64 z1.x.m.n) := HA2.out.cell 6
              have a7 : wi.cell? ⟨ga, 7, none⟩ = some (.int .i64 z1.x.m.b) := HA2.out.cell 7
              have a8 : wi.cell? ⟨ga, 8, none⟩ = some (.int .i64 z1.x.m.c) := HA2.out.cell 8
              have a9 : wi.cell? ⟨ga, 9, none⟩ = some (.int .i64 z1.x.m.r) := HA2.out.cell 9
              have a10 : wi.cell? ⟨ga, 10, none⟩ = some (.int .i64 z1.x.m.y) := HA2.out.cell 10
              have a11 : wi.cell? ⟨ga, 11, none⟩ = some (.int .i64 z1.x.m.a) := HA2.out.cell 11
              have a12 : wi.cell? ⟨ga, 12, none⟩ = some (.bool z1.x.m.t) := HA2.out.cell 12
              have a13 : wi.cell? ⟨ga, 13, none⟩ = some (.slice z1.x.pl z1.x.m.ls.length z1.x.cl) := HA2.out.cell 13
              have a14 : wi.cell? ⟨ga, 14, none⟩ = some (.slice z1.x.pn z1.x.m.ns.length z1.x.cn) := HA2.out.cell 14
              have c0 : wi.cell? ⟨W.heap.size, 0, none⟩ = some (.int .i64 y.f) := HP2.out.cell 0
              have c1 : wi.cell? ⟨W.heap.size, 1, none⟩ = some (.int .i64 y.t) := HP2.out.cell 1
              have c2 : wi.cell? ⟨W.heap.size, 2, none⟩ = some (.int .i64 y.n) := HP2.out.cell 2
              have c3 : wi.cell? ⟨W.heap.size, 3, none⟩ = some (.int .i64 y.h) := HP2.out.cell 3
              have c4 : wi.cell? ⟨W.heap.size, 4, none⟩ = some (.int .i64 y.x.m.k) := HP2.out.cell 4
              have c5 : wi.cell? ⟨W.heap.size, 5, none⟩ = some (.int .i64 y.x.m.s) := HP2.out.cell 5
              have c6 : wi.cell? ⟨W.heap.size, 6, none⟩ = some (.int .i64 y.x.m.n) := HP2.out.cell 6
              have c7 : wi.cell? ⟨W.heap.size, 7, none⟩ = some (.int .i64 y.x.m.b) := HP2.out.cell 7
              have c8 : wi.cell? ⟨W.heap.size, 8, none⟩ = some (.int .i64 y.x.m.c) := HP2.out.cell 8
              have c9 : wi.cell? ⟨W.heap.size, 9, none⟩ = some (.int .i64 y.x.m.r) := HP2.out.cell 9
              have c10 : wi.cell? ⟨W.heap.size, 10, none⟩ = some (.int .i64 y.x.m.y) := HP2.out.cell 10
              have c11 : wi.cell? ⟨W.heap.size, 11, none⟩ = some (.int .i64 y.x.m.a) := HP2.out.cell 11
              have c12 : wi.cell? ⟨W.heap.size, 12, none⟩ = some (.bool y.x.m.t) := HP2.out.cell 12
              have c13 : wi.cell? ⟨W.heap.size, 13, none⟩ = some (.slice y.x.pl y.x.m.ls.length y.x.cl) := HP2.out.cell 13
              have c14 : wi.cell? ⟨W.heap.size, 14, none⟩ = some (.slice y.x.pn y.x.m.ns.length y.x.cn) := HP2.out.cell 14
              go_wp2_with fail
              clear a0 a1 a2 a3 a4 a5 a6 a7 a8 a9 a10 a11 a12 a13 a14 c0 c1 c2 c3 c4 c5 c6 c7 c8 c9 c10 c11 c12 c13 c14
              refine HSM.out.mono ?_
              rintro y0 wj ⟨rfl, hbj⟩
              have HP3 := Lib.hid (HP2.out.below hbj HP2.out.lt)
              have HA4 := Lib.hid (HA3.out.below hbj HA3.out.lt)
              have Bj := Lib.hid (Bh.out.trans (hbj.mono Bh.out.size))
              have HNj := Lib.hid (HN2.out.kept hbj)
              have HSM2 := Lib.hid (ksame_in z2 y wj HZ2.out (HX3.out.kept hbj) (HW.out.inP.kept Bj.out))
              clear HSM hbj HP2 HA3 Bh HN2 HX2 HX3 HA2
              unfold PkX.v at HSM2
              have a0 : wj.cell? ⟨gb, 0, none⟩ = some (.int .i64 z2.f) := HA4.out.cell 0
              have a1 : wj.cell? ⟨gb, 1, none⟩ = some (.int .i64 z2.t) := HA4.out.cell 1
              have a2 : wj.cell? ⟨gb, 2, none⟩ = some (.int .i64 z2.n) := HA4.out.cell 2
              have a3 : wj.cell? ⟨gb, 3, none⟩ = some (.int .i64 z2.h) := HA4.out.cell 3
              have a4 : wj.cell? ⟨gb, 4, none⟩ = some (.int .i64 z2.x.m.k) := HA4.out.cell 4
              have a5 : wj.cell? ⟨gb, 5, none⟩ = some (.int .i64 z2.x.m.s) := HA4.out.cell 5
              have a6 : wj.cell? ⟨gb, 6, none⟩ = some (.int .i64 z2.x.m.n) := HA4.out.cell 6
              have a7 : wj.cell? ⟨gb, 7, none⟩ = some (.int .i64 z2.x.m.b) := HA4.out.cell 7
              have a8 : wj.cell? ⟨gb, 8, none⟩ = some (.int .i64 z2.x.m.c) := HA4.out.cell 8
              have a9 : wj.cell? ⟨gb, 9, none⟩ = some (.int .i64 z2.x.m.r) := HA4.out.cell 9
              have a10 : wj.cell? ⟨gb, 10, none⟩ = some (.int .i64 z2.x.m.y) := HA4.out.cell 10
              have a11 : wj.cell? ⟨gb, 11, none⟩ = some (.int .i64 z2.x.m.a) := HA4.out.cell 11
              have a12 : wj.cell? ⟨gb, 12, none⟩ = some (.bool z2.x.m.t) := HA4.out.cell 12
              have a13 : wj.cell? ⟨gb, 13, none⟩ = some (.slice z2.x.pl z2.x.m.ls.length z2.x.cl) := HA4.out.cell 13
              have a14 : wj.cell? ⟨gb, 14, none⟩ = some (.slice z2.x.pn z2.x.m.ns.length z2.x.cn) := HA4.out.cell 14
              have c0 : wj.cell? ⟨W.heap.size, 0, none⟩ = some (.int .i64 y.f) := HP3.out.cell 0
              have c1 : wj.cell? ⟨W.heap.size, 1, none⟩ = some (.int .i64 y.t) := HP3.out.cell 1
              have c2 : wj.cell? ⟨W.heap.size, 2, none⟩ = some (.int .i64 y.n) := HP3.out.cell 2
              have c3 : wj.cell? ⟨W.heap.size, 3, none⟩ = some (.int .i64 y.h) := HP3.out.cell 3
              have c4 : wj.cell? ⟨W.heap.size, 4, none⟩ = some (.int .i64 y.x.m.k) := HP3.out.cell 4
              have c5 : wj.cell? ⟨W.heap.size, 5, none⟩ = some (.int .i64 y.x.m.s) := HP3.out.cell 5
              have c6 : wj.cell? ⟨W.heap.size, 6, none⟩ = some (.int .i64 y.x.m.n) := HP3.out.cell 6
              have c7 : wj.cell? ⟨W.heap.size, 7, none⟩ = some (.int .i64 y.x.m.b) := HP3.out.cell 7
              have c8 : wj.cell? ⟨W.heap.size, 8, none⟩ = some (.int .i64 y.x.m.c) := HP3.out.cell 8
              have c9 : wj.cell? ⟨W.heap.size, 9, none⟩ = some (.int .i64 y.x.m.r) := HP3.out.cell 9
              have c10 : wj.cell? ⟨W.heap.size, 10, none⟩ = some (.int .i64 y.x.m.y) := HP3.out.cell 10
              have c11 : wj.cell? ⟨W.heap.size, 11, none⟩ = some (.int .i64 y.x.m.a) := HP3.out.cell 11
              have c12 : wj.cell? ⟨W.heap.size, 12, none⟩ = some (.bool y.x.m.t) := HP3.out.cell 12
              have c13 : wj.cell? ⟨W.heap.size, 13, none⟩ = some (.slice y.x.pl y.x.m.ls.length y.x.cl) := HP3.out.cell 13
              have c14 : wj.cell? ⟨W.heap.size, 14, none⟩ = some (.slice y.x.pn y.x.m.ns.length y.x.cn) := HP3.out.cell 14
              go_wp2_with fail
              clear a0 a1 a2 a3 a4 a5 a6 a7 a8 a9 a10 a11 a12 a13 a14 c0 c1 c2 c3 c4 c5 c6 c7 c8 c9 c10 c11 c12 c13 c14
              refine HSM2.out.mono ?_
              rintro y0 wk ⟨rfl, hbk⟩
              have Bk := Lib.hid (Bj.out.trans (hbk.mono Bj.out.size))
              have HNk := Lib.hid (HNj.out.kept hbk)
              clear HSM2 hbk
              go_wp2_with fail
              refine (net_len wk HNk.out).mono ?_
              rintro y0 wl ⟨rfl, rfl⟩
              rw [show ((([] : List Pk).length : Nat) : Int) = 0 from rfl]
              go_wp2_with fail
              go_ret
              exact ⟨rfl, Bk.out⟩
end Go.Proofs.Ytfdehnfcoojljaa
