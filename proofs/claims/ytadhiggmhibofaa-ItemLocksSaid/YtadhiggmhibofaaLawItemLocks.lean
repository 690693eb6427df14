/- ItemLocks: the walk. -/
import Derived.Test.YtadhiggmhibofaaItem7
import Derived.Deep.RegionHeld3
namespace Go.Proofs.Ytadhiggmhibofaa
open Go.RowKit
set_option linter.unusedSimpArgs false in
set_option maxHeartbeats 8000000 in
theorem itemlocks_walk (x : Itm) (a b : Int) (w : World) (_ : x.Fit) (_ : F64 a) (_ : F64 b) : Calls Try.prog 7 #[x.v, .int .i64 a, .int .i64 b] w fun e w' => e = .returned (.bool true) ∧ Below w.heap.size w w' := by
  have HL := Lib.hid (fun w => lives_any w)
  have HD := Lib.hid (fun w => refcheck_any x w)
  obtain ⟨s, n, p, c, m, r, t, y⟩ := x
  by_cases h : chkI ⟨s, n, p, c, m, r, t, y⟩ = 0
  rotate_left
  · skip
    have e0 : (chkI ⟨s, n, p, c, m, r, t, y⟩ != 0) = true := by simpa using h
    generalize chkI ⟨s, n, p, c, m, r, t, y⟩ = q at HD e0
    clear h
    unfold Itm.v at *
    dsimp only at *
    have HB0 := Lib.hid (oneB w (.cells #[.int .i64 s, .int .i64 n, .int .i64 p, .int .i64 c, .int .i64 m, .int .i64 r, .int .i64 t, .int .i64 y] 25))
    have HXx := Lib.hid (Blk.new w #[.int .i64 s, .int .i64 n, .int .i64 p, .int .i64 c, .int .i64 m, .int .i64 r, .int .i64 t, .int .i64 y] 25)
    go_enter Try.func7, Try.ntmps7
    go_wp2_with fail
    refine (HL.out _).mono ?_
    rintro z w1 ⟨rfl, hb1⟩
    replace HXx := Lib.hid (HXx.out.below hb1 HXx.out.lt)
    have HB1 := Lib.hid (HB0.out.trans (hb1.mono HB0.out.size))
    clear hb1
    have cx0 : w1.cell? ⟨w.heap.size, 0, none⟩ = some (.int .i64 s) := HXx.out.cell 0
    have cx1 : w1.cell? ⟨w.heap.size, 1, none⟩ = some (.int .i64 n) := HXx.out.cell 1
    have cx2 : w1.cell? ⟨w.heap.size, 2, none⟩ = some (.int .i64 p) := HXx.out.cell 2
    have cx3 : w1.cell? ⟨w.heap.size, 3, none⟩ = some (.int .i64 c) := HXx.out.cell 3
    have cx4 : w1.cell? ⟨w.heap.size, 4, none⟩ = some (.int .i64 m) := HXx.out.cell 4
    have cx5 : w1.cell? ⟨w.heap.size, 5, none⟩ = some (.int .i64 r) := HXx.out.cell 5
    have cx6 : w1.cell? ⟨w.heap.size, 6, none⟩ = some (.int .i64 t) := HXx.out.cell 6
    have cx7 : w1.cell? ⟨w.heap.size, 7, none⟩ = some (.int .i64 y) := HXx.out.cell 7
    have lx := HXx.out.lt
    go_wp2_with fail
    refine (HD.out _).mono ?_
    rintro z w2 ⟨rfl, hb2⟩
    replace HXx := Lib.hid (HXx.out.below hb2 HXx.out.lt)
    have HB2 := Lib.hid (HB1.out.trans (hb2.mono HB1.out.size))
    clear hb2
    have cx0 : w2.cell? ⟨w.heap.size, 0, none⟩ = some (.int .i64 s) := HXx.out.cell 0
    have cx1 : w2.cell? ⟨w.heap.size, 1, none⟩ = some (.int .i64 n) := HXx.out.cell 1
    have cx2 : w2.cell? ⟨w.heap.size, 2, none⟩ = some (.int .i64 p) := HXx.out.cell 2
    have cx3 : w2.cell? ⟨w.heap.size, 3, none⟩ = some (.int .i64 c) := HXx.out.cell 3
    have cx4 : w2.cell? ⟨w.heap.size, 4, none⟩ = some (.int .i64 m) := HXx.out.cell 4
    have cx5 : w2.cell? ⟨w.heap.size, 5, none⟩ = some (.int .i64 r) := HXx.out.cell 5
    have cx6 : w2.cell? ⟨w.heap.size, 6, none⟩ = some (.int .i64 t) := HXx.out.cell 6
    have cx7 : w2.cell? ⟨w.heap.size, 7, none⟩ = some (.int .i64 y) := HXx.out.cell 7
    have lx := HXx.out.lt
    go_wp2_with fail
    go_ret
    exact ⟨rfl, HB2.out⟩
  have hr3 := (chk_ok h).2.1
  unfold numsOk at hr3
  have hr : 0 ≤ r ∧ r ≤ 3 := hr3.2.2.2.1
  clear hr3
  rw [h] at HD
  clear h
  by_cases h3 : t = 3
  rotate_left
  · skip
    have e3 : (t != 3) = true := by simpa using h3
    clear hr
    unfold Itm.v at *
    dsimp only at *
    have HB0 := Lib.hid (oneB w (.cells #[.int .i64 s, .int .i64 n, .int .i64 p, .int .i64 c, .int .i64 m, .int .i64 r, .int .i64 t, .int .i64 y] 25))
    have HXx := Lib.hid (Blk.new w #[.int .i64 s, .int .i64 n, .int .i64 p, .int .i64 c, .int .i64 m, .int .i64 r, .int .i64 t, .int .i64 y] 25)
    go_enter Try.func7, Try.ntmps7
    go_wp2_with fail
    refine (HL.out _).mono ?_
    rintro z w1 ⟨rfl, hb1⟩
    replace HXx := Lib.hid (HXx.out.below hb1 HXx.out.lt)
    have HB1 := Lib.hid (HB0.out.trans (hb1.mono HB0.out.size))
    clear hb1
    have cx0 : w1.cell? ⟨w.heap.size, 0, none⟩ = some (.int .i64 s) := HXx.out.cell 0
    have cx1 : w1.cell? ⟨w.heap.size, 1, none⟩ = some (.int .i64 n) := HXx.out.cell 1
    have cx2 : w1.cell? ⟨w.heap.size, 2, none⟩ = some (.int .i64 p) := HXx.out.cell 2
    have cx3 : w1.cell? ⟨w.heap.size, 3, none⟩ = some (.int .i64 c) := HXx.out.cell 3
    have cx4 : w1.cell? ⟨w.heap.size, 4, none⟩ = some (.int .i64 m) := HXx.out.cell 4
    have cx5 : w1.cell? ⟨w.heap.size, 5, none⟩ = some (.int .i64 r) := HXx.out.cell 5
    have cx6 : w1.cell? ⟨w.heap.size, 6, none⟩ = some (.int .i64 t) := HXx.out.cell 6
    have cx7 : w1.cell? ⟨w.heap.size, 7, none⟩ = some (.int .i64 y) := HXx.out.cell 7
    have lx := HXx.out.lt
    go_wp2_with fail
    refine (HD.out _).mono ?_
    rintro z w2 ⟨rfl, hb2⟩
    replace HXx := Lib.hid (HXx.out.below hb2 HXx.out.lt)
    have HB2 := Lib.hid (HB1.out.trans (hb2.mono HB1.out.size))
    clear hb2
    have cx0 : w2.cell? ⟨w.heap.size, 0, none⟩ = some (.int .i64 s) := HXx.out.cell 0
    have cx1 : w2.cell? ⟨w.heap.size, 1, none⟩ = some (.int .i64 n) := HXx.out.cell 1
    have cx2 : w2.cell? ⟨w.heap.size, 2, none⟩ = some (.int .i64 p) := HXx.out.cell 2
    have cx3 : w2.cell? ⟨w.heap.size, 3, none⟩ = some (.int .i64 c) := HXx.out.cell 3
    have cx4 : w2.cell? ⟨w.heap.size, 4, none⟩ = some (.int .i64 m) := HXx.out.cell 4
    have cx5 : w2.cell? ⟨w.heap.size, 5, none⟩ = some (.int .i64 r) := HXx.out.cell 5
    have cx6 : w2.cell? ⟨w.heap.size, 6, none⟩ = some (.int .i64 t) := HXx.out.cell 6
    have cx7 : w2.cell? ⟨w.heap.size, 7, none⟩ = some (.int .i64 y) := HXx.out.cell 7
    have lx := HXx.out.lt
    go_wp2_with fail
    go_ret
    exact ⟨rfl, HB2.out⟩
  subst h3
  by_cases hy : y = 0
  rotate_left
  · skip
    have ey : (y != 0) = true := by simpa using hy
    clear hr
    unfold Itm.v at *
    dsimp only at *
    have HB0 := Lib.hid (oneB w (.cells #[.int .i64 s, .int .i64 n, .int .i64 p, .int .i64 c, .int .i64 m, .int .i64 r, .int .i64 3, .int .i64 y] 25))
    have HXx := Lib.hid (Blk.new w #[.int .i64 s, .int .i64 n, .int .i64 p, .int .i64 c, .int .i64 m, .int .i64 r, .int .i64 3, .int .i64 y] 25)
    go_enter Try.func7, Try.ntmps7
    go_wp2_with fail
    refine (HL.out _).mono ?_
    rintro z w1 ⟨rfl, hb1⟩
    replace HXx := Lib.hid (HXx.out.below hb1 HXx.out.lt)
    have HB1 := Lib.hid (HB0.out.trans (hb1.mono HB0.out.size))
    clear hb1
    have cx0 : w1.cell? ⟨w.heap.size, 0, none⟩ = some (.int .i64 s) := HXx.out.cell 0
    have cx1 : w1.cell? ⟨w.heap.size, 1, none⟩ = some (.int .i64 n) := HXx.out.cell 1
    have cx2 : w1.cell? ⟨w.heap.size, 2, none⟩ = some (.int .i64 p) := HXx.out.cell 2
    have cx3 : w1.cell? ⟨w.heap.size, 3, none⟩ = some (.int .i64 c) := HXx.out.cell 3
    have cx4 : w1.cell? ⟨w.heap.size, 4, none⟩ = some (.int .i64 m) := HXx.out.cell 4
    have cx5 : w1.cell? ⟨w.heap.size, 5, none⟩ = some (.int .i64 r) := HXx.out.cell 5
    have cx6 : w1.cell? ⟨w.heap.size, 6, none⟩ = some (.int .i64 3) := HXx.out.cell 6
    have cx7 : w1.cell? ⟨w.heap.size, 7, none⟩ = some (.int .i64 y) := HXx.out.cell 7
    have lx := HXx.out.lt
    go_wp2_with fail
    refine (HD.out _).mono ?_
    rintro z w2 ⟨rfl, hb2⟩
    replace HXx := Lib.hid (HXx.out.below hb2 HXx.out.lt)
    have HB2 := Lib.hid (HB1.out.trans (hb2.mono HB1.out.size))
    clear hb2
    have cx0 : w2.cell? ⟨w.heap.size, 0, none⟩ = some (.int .i64 s) := HXx.out.cell 0
    have cx1 : w2.cell? ⟨w.heap.size, 1, none⟩ = some (.int .i64 n) := HXx.out.cell 1
    have cx2 : w2.cell? ⟨w.heap.size, 2, none⟩ = some (.int .i64 p) := HXx.out.cell 2
    have cx3 : w2.cell? ⟨w.heap.size, 3, none⟩ = some (.int .i64 c) := HXx.out.cell 3
    have cx4 : w2.cell? ⟨w.heap.size, 4, none⟩ = some (.int .i64 m) := HXx.out.cell 4
    have cx5 : w2.cell? ⟨w.heap.size, 5, none⟩ = some (.int .i64 r) := HXx.out.cell 5
    have cx6 : w2.cell? ⟨w.heap.size, 6, none⟩ = some (.int .i64 3) := HXx.out.cell 6
    have cx7 : w2.cell? ⟨w.heap.size, 7, none⟩ = some (.int .i64 y) := HXx.out.cell 7
    have lx := HXx.out.lt
    go_wp2_with fail
    go_ret
    exact ⟨rfl, HB2.out⟩
  subst hy
  by_cases ha : 1 ≤ a
  rotate_left
  · skip
    have ga : a < 1 := by omega
    clear hr
    unfold Itm.v at *
    dsimp only at *
    have HB0 := Lib.hid (oneB w (.cells #[.int .i64 s, .int .i64 n, .int .i64 p, .int .i64 c, .int .i64 m, .int .i64 r, .int .i64 3, .int .i64 0] 25))
    have HXx := Lib.hid (Blk.new w #[.int .i64 s, .int .i64 n, .int .i64 p, .int .i64 c, .int .i64 m, .int .i64 r, .int .i64 3, .int .i64 0] 25)
    go_enter Try.func7, Try.ntmps7
    go_wp2_with fail
    refine (HL.out _).mono ?_
    rintro z w1 ⟨rfl, hb1⟩
    replace HXx := Lib.hid (HXx.out.below hb1 HXx.out.lt)
    have HB1 := Lib.hid (HB0.out.trans (hb1.mono HB0.out.size))
    clear hb1
    have cx0 : w1.cell? ⟨w.heap.size, 0, none⟩ = some (.int .i64 s) := HXx.out.cell 0
    have cx1 : w1.cell? ⟨w.heap.size, 1, none⟩ = some (.int .i64 n) := HXx.out.cell 1
    have cx2 : w1.cell? ⟨w.heap.size, 2, none⟩ = some (.int .i64 p) := HXx.out.cell 2
    have cx3 : w1.cell? ⟨w.heap.size, 3, none⟩ = some (.int .i64 c) := HXx.out.cell 3
    have cx4 : w1.cell? ⟨w.heap.size, 4, none⟩ = some (.int .i64 m) := HXx.out.cell 4
    have cx5 : w1.cell? ⟨w.heap.size, 5, none⟩ = some (.int .i64 r) := HXx.out.cell 5
    have cx6 : w1.cell? ⟨w.heap.size, 6, none⟩ = some (.int .i64 3) := HXx.out.cell 6
    have cx7 : w1.cell? ⟨w.heap.size, 7, none⟩ = some (.int .i64 0) := HXx.out.cell 7
    have lx := HXx.out.lt
    go_wp2_with fail
    refine (HD.out _).mono ?_
    rintro z w2 ⟨rfl, hb2⟩
    replace HXx := Lib.hid (HXx.out.below hb2 HXx.out.lt)
    have HB2 := Lib.hid (HB1.out.trans (hb2.mono HB1.out.size))
    clear hb2
    have cx0 : w2.cell? ⟨w.heap.size, 0, none⟩ = some (.int .i64 s) := HXx.out.cell 0
    have cx1 : w2.cell? ⟨w.heap.size, 1, none⟩ = some (.int .i64 n) := HXx.out.cell 1
    have cx2 : w2.cell? ⟨w.heap.size, 2, none⟩ = some (.int .i64 p) := HXx.out.cell 2
    have cx3 : w2.cell? ⟨w.heap.size, 3, none⟩ = some (.int .i64 c) := HXx.out.cell 3
    have cx4 : w2.cell? ⟨w.heap.size, 4, none⟩ = some (.int .i64 m) := HXx.out.cell 4
    have cx5 : w2.cell? ⟨w.heap.size, 5, none⟩ = some (.int .i64 r) := HXx.out.cell 5
    have cx6 : w2.cell? ⟨w.heap.size, 6, none⟩ = some (.int .i64 3) := HXx.out.cell 6
    have cx7 : w2.cell? ⟨w.heap.size, 7, none⟩ = some (.int .i64 0) := HXx.out.cell 7
    have lx := HXx.out.lt
    go_wp2_with fail
    go_ret
    exact ⟨rfl, HB2.out⟩
  by_cases hA : a ≤ 1048576
  rotate_left
  · skip
    have gA : 1048576 < a := by omega
    have g1 : ¬ a < 1 := by omega
    clear hr
    unfold Itm.v at *
    dsimp only at *
    have HB0 := Lib.hid (oneB w (.cells #[.int .i64 s, .int .i64 n, .int .i64 p, .int .i64 c, .int .i64 m, .int .i64 r, .int .i64 3, .int .i64 0] 25))
    have HXx := Lib.hid (Blk.new w #[.int .i64 s, .int .i64 n, .int .i64 p, .int .i64 c, .int .i64 m, .int .i64 r, .int .i64 3, .int .i64 0] 25)
    go_enter Try.func7, Try.ntmps7
    go_wp2_with fail
    refine (HL.out _).mono ?_
    rintro z w1 ⟨rfl, hb1⟩
    replace HXx := Lib.hid (HXx.out.below hb1 HXx.out.lt)
    have HB1 := Lib.hid (HB0.out.trans (hb1.mono HB0.out.size))
    clear hb1
    have cx0 : w1.cell? ⟨w.heap.size, 0, none⟩ = some (.int .i64 s) := HXx.out.cell 0
    have cx1 : w1.cell? ⟨w.heap.size, 1, none⟩ = some (.int .i64 n) := HXx.out.cell 1
    have cx2 : w1.cell? ⟨w.heap.size, 2, none⟩ = some (.int .i64 p) := HXx.out.cell 2
    have cx3 : w1.cell? ⟨w.heap.size, 3, none⟩ = some (.int .i64 c) := HXx.out.cell 3
    have cx4 : w1.cell? ⟨w.heap.size, 4, none⟩ = some (.int .i64 m) := HXx.out.cell 4
    have cx5 : w1.cell? ⟨w.heap.size, 5, none⟩ = some (.int .i64 r) := HXx.out.cell 5
    have cx6 : w1.cell? ⟨w.heap.size, 6, none⟩ = some (.int .i64 3) := HXx.out.cell 6
    have cx7 : w1.cell? ⟨w.heap.size, 7, none⟩ = some (.int .i64 0) := HXx.out.cell 7
    have lx := HXx.out.lt
    go_wp2_with fail
    refine (HD.out _).mono ?_
    rintro z w2 ⟨rfl, hb2⟩
    replace HXx := Lib.hid (HXx.out.below hb2 HXx.out.lt)
    have HB2 := Lib.hid (HB1.out.trans (hb2.mono HB1.out.size))
    clear hb2
    have cx0 : w2.cell? ⟨w.heap.size, 0, none⟩ = some (.int .i64 s) := HXx.out.cell 0
    have cx1 : w2.cell? ⟨w.heap.size, 1, none⟩ = some (.int .i64 n) := HXx.out.cell 1
    have cx2 : w2.cell? ⟨w.heap.size, 2, none⟩ = some (.int .i64 p) := HXx.out.cell 2
    have cx3 : w2.cell? ⟨w.heap.size, 3, none⟩ = some (.int .i64 c) := HXx.out.cell 3
    have cx4 : w2.cell? ⟨w.heap.size, 4, none⟩ = some (.int .i64 m) := HXx.out.cell 4
    have cx5 : w2.cell? ⟨w.heap.size, 5, none⟩ = some (.int .i64 r) := HXx.out.cell 5
    have cx6 : w2.cell? ⟨w.heap.size, 6, none⟩ = some (.int .i64 3) := HXx.out.cell 6
    have cx7 : w2.cell? ⟨w.heap.size, 7, none⟩ = some (.int .i64 0) := HXx.out.cell 7
    have lx := HXx.out.lt
    go_wp2_with fail
    go_ret
    exact ⟨rfl, HB2.out⟩
  by_cases hb : 1 ≤ b
  rotate_left
  · skip
    have gb : b < 1 := by omega
    have g1 : ¬ a < 1 := by omega
    have g2 : ¬ 1048576 < a := by omega
    clear hr
    unfold Itm.v at *
    dsimp only at *
    have HB0 := Lib.hid (oneB w (.cells #[.int .i64 s, .int .i64 n, .int .i64 p, .int .i64 c, .int .i64 m, .int .i64 r, .int .i64 3, .int .i64 0] 25))
    have HXx := Lib.hid (Blk.new w #[.int .i64 s, .int .i64 n, .int .i64 p, .int .i64 c, .int .i64 m, .int .i64 r, .int .i64 3, .int .i64 0] 25)
    go_enter Try.func7, Try.ntmps7
    go_wp2_with fail
    refine (HL.out _).mono ?_
    rintro z w1 ⟨rfl, hb1⟩
    replace HXx := Lib.hid (HXx.out.below hb1 HXx.out.lt)
    have HB1 := Lib.hid (HB0.out.trans (hb1.mono HB0.out.size))
    clear hb1
    have cx0 : w1.cell? ⟨w.heap.size, 0, none⟩ = some (.int .i64 s) := HXx.out.cell 0
    have cx1 : w1.cell? ⟨w.heap.size, 1, none⟩ = some (.int .i64 n) := HXx.out.cell 1
    have cx2 : w1.cell? ⟨w.heap.size, 2, none⟩ = some (.int .i64 p) := HXx.out.cell 2
    have cx3 : w1.cell? ⟨w.heap.size, 3, none⟩ = some (.int .i64 c) := HXx.out.cell 3
    have cx4 : w1.cell? ⟨w.heap.size, 4, none⟩ = some (.int .i64 m) := HXx.out.cell 4
    have cx5 : w1.cell? ⟨w.heap.size, 5, none⟩ = some (.int .i64 r) := HXx.out.cell 5
    have cx6 : w1.cell? ⟨w.heap.size, 6, none⟩ = some (.int .i64 3) := HXx.out.cell 6
    have cx7 : w1.cell? ⟨w.heap.size, 7, none⟩ = some (.int .i64 0) := HXx.out.cell 7
    have lx := HXx.out.lt
    go_wp2_with fail
    refine (HD.out _).mono ?_
    rintro z w2 ⟨rfl, hb2⟩
    replace HXx := Lib.hid (HXx.out.below hb2 HXx.out.lt)
    have HB2 := Lib.hid (HB1.out.trans (hb2.mono HB1.out.size))
    clear hb2
    have cx0 : w2.cell? ⟨w.heap.size, 0, none⟩ = some (.int .i64 s) := HXx.out.cell 0
    have cx1 : w2.cell? ⟨w.heap.size, 1, none⟩ = some (.int .i64 n) := HXx.out.cell 1
    have cx2 : w2.cell? ⟨w.heap.size, 2, none⟩ = some (.int .i64 p) := HXx.out.cell 2
    have cx3 : w2.cell? ⟨w.heap.size, 3, none⟩ = some (.int .i64 c) := HXx.out.cell 3
    have cx4 : w2.cell? ⟨w.heap.size, 4, none⟩ = some (.int .i64 m) := HXx.out.cell 4
    have cx5 : w2.cell? ⟨w.heap.size, 5, none⟩ = some (.int .i64 r) := HXx.out.cell 5
    have cx6 : w2.cell? ⟨w.heap.size, 6, none⟩ = some (.int .i64 3) := HXx.out.cell 6
    have cx7 : w2.cell? ⟨w.heap.size, 7, none⟩ = some (.int .i64 0) := HXx.out.cell 7
    have lx := HXx.out.lt
    go_wp2_with fail
    go_ret
    exact ⟨rfl, HB2.out⟩
  by_cases hB : b ≤ 1048576
  rotate_left
  · skip
    have gB : 1048576 < b := by omega
    have g1 : ¬ a < 1 := by omega
    have g2 : ¬ 1048576 < a := by omega
    have g3 : ¬ b < 1 := by omega
    clear hr
    unfold Itm.v at *
    dsimp only at *
    have HB0 := Lib.hid (oneB w (.cells #[.int .i64 s, .int .i64 n, .int .i64 p, .int .i64 c, .int .i64 m, .int .i64 r, .int .i64 3, .int .i64 0] 25))
    have HXx := Lib.hid (Blk.new w #[.int .i64 s, .int .i64 n, .int .i64 p, .int .i64 c, .int .i64 m, .int .i64 r, .int .i64 3, .int .i64 0] 25)
    go_enter Try.func7, Try.ntmps7
    go_wp2_with fail
    refine (HL.out _).mono ?_
    rintro z w1 ⟨rfl, hb1⟩
    replace HXx := Lib.hid (HXx.out.below hb1 HXx.out.lt)
    have HB1 := Lib.hid (HB0.out.trans (hb1.mono HB0.out.size))
    clear hb1
    have cx0 : w1.cell? ⟨w.heap.size, 0, none⟩ = some (.int .i64 s) := HXx.out.cell 0
    have cx1 : w1.cell? ⟨w.heap.size, 1, none⟩ = some (.int .i64 n) := HXx.out.cell 1
    have cx2 : w1.cell? ⟨w.heap.size, 2, none⟩ = some (.int .i64 p) := HXx.out.cell 2
    have cx3 : w1.cell? ⟨w.heap.size, 3, none⟩ = some (.int .i64 c) := HXx.out.cell 3
    have cx4 : w1.cell? ⟨w.heap.size, 4, none⟩ = some (.int .i64 m) := HXx.out.cell 4
    have cx5 : w1.cell? ⟨w.heap.size, 5, none⟩ = some (.int .i64 r) := HXx.out.cell 5
    have cx6 : w1.cell? ⟨w.heap.size, 6, none⟩ = some (.int .i64 3) := HXx.out.cell 6
    have cx7 : w1.cell? ⟨w.heap.size, 7, none⟩ = some (.int .i64 0) := HXx.out.cell 7
    have lx := HXx.out.lt
    go_wp2_with fail
    refine (HD.out _).mono ?_
    rintro z w2 ⟨rfl, hb2⟩
    replace HXx := Lib.hid (HXx.out.below hb2 HXx.out.lt)
    have HB2 := Lib.hid (HB1.out.trans (hb2.mono HB1.out.size))
    clear hb2
    have cx0 : w2.cell? ⟨w.heap.size, 0, none⟩ = some (.int .i64 s) := HXx.out.cell 0
    have cx1 : w2.cell? ⟨w.heap.size, 1, none⟩ = some (.int .i64 n) := HXx.out.cell 1
    have cx2 : w2.cell? ⟨w.heap.size, 2, none⟩ = some (.int .i64 p) := HXx.out.cell 2
    have cx3 : w2.cell? ⟨w.heap.size, 3, none⟩ = some (.int .i64 c) := HXx.out.cell 3
    have cx4 : w2.cell? ⟨w.heap.size, 4, none⟩ = some (.int .i64 m) := HXx.out.cell 4
    have cx5 : w2.cell? ⟨w.heap.size, 5, none⟩ = some (.int .i64 r) := HXx.out.cell 5
    have cx6 : w2.cell? ⟨w.heap.size, 6, none⟩ = some (.int .i64 3) := HXx.out.cell 6
    have cx7 : w2.cell? ⟨w.heap.size, 7, none⟩ = some (.int .i64 0) := HXx.out.cell 7
    have lx := HXx.out.lt
    go_wp2_with fail
    go_ret
    exact ⟨rfl, HB2.out⟩
  have ha0 : a ≠ 0 := by omega
  have HL1 : Hid (∀ w, Calls Try.prog 22 #[.agg #[.int .i64 s, .int .i64 n, .int .i64 p, .int .i64 c, .int .i64 m, .int .i64 r, .int .i64 3, .int .i64 0], .int .i64 a] w fun e w' => e = .returned (.tuple #[.agg #[.int .i64 s, .int .i64 n, .int .i64 p, .int .i64 c, .int .i64 m, .int .i64 r, .int .i64 3, .int .i64 a], .int .i64 0]) ∧ Below w.heap.size w w') := fun w => by
    have h := lock_any ⟨s, n, p, c, m, r, 3, 0⟩ a w
    rw [show lockI ⟨s, n, p, c, m, r, 3, 0⟩ a = (⟨s, n, p, c, m, r, 3, a⟩, 0) by unfold lockI; rw [if_pos ⟨rfl, rfl⟩, if_pos ⟨ha, hA⟩]] at h
    exact h
  have HL2 : Hid (∀ w, Calls Try.prog 22 #[.agg #[.int .i64 s, .int .i64 n, .int .i64 p, .int .i64 c, .int .i64 m, .int .i64 r, .int .i64 3, .int .i64 a], .int .i64 b] w fun e w' => e = .returned (.tuple #[.agg #[.int .i64 s, .int .i64 n, .int .i64 p, .int .i64 c, .int .i64 m, .int .i64 r, .int .i64 3, .int .i64 a], .int .i64 90]) ∧ Below w.heap.size w w') := fun w => by
    have h := lock_any ⟨s, n, p, c, m, r, 3, a⟩ b w
    rw [show lockI ⟨s, n, p, c, m, r, 3, a⟩ b = (⟨s, n, p, c, m, r, 3, a⟩, 90) from if_neg (fun h => ha0 h.2)] at h
    exact h
  have HF1 : Hid (∀ w, Calls Try.prog 23 #[.agg #[.int .i64 s, .int .i64 n, .int .i64 p, .int .i64 c, .int .i64 m, .int .i64 r, .int .i64 3, .int .i64 a]] w fun e w' => e = .returned (.tuple #[.agg #[.int .i64 s, .int .i64 n, .int .i64 p, .int .i64 c, .int .i64 m, .int .i64 r, .int .i64 3, .int .i64 0], .int .i64 0]) ∧ Below w.heap.size w w') := fun w => by
    have h := free_any ⟨s, n, p, c, m, r, 3, a⟩ w
    rw [show freeI ⟨s, n, p, c, m, r, 3, a⟩ = (⟨s, n, p, c, m, r, 3, 0⟩, 0) from if_pos ⟨rfl, ha0⟩] at h
    exact h
  have HL3 : Hid (∀ w, Calls Try.prog 22 #[.agg #[.int .i64 s, .int .i64 n, .int .i64 p, .int .i64 c, .int .i64 m, .int .i64 r, .int .i64 3, .int .i64 0], .int .i64 b] w fun e w' => e = .returned (.tuple #[.agg #[.int .i64 s, .int .i64 n, .int .i64 p, .int .i64 c, .int .i64 m, .int .i64 r, .int .i64 3, .int .i64 b], .int .i64 0]) ∧ Below w.heap.size w w') := fun w => by
    have h := lock_any ⟨s, n, p, c, m, r, 3, 0⟩ b w
    rw [show lockI ⟨s, n, p, c, m, r, 3, 0⟩ b = (⟨s, n, p, c, m, r, 3, b⟩, 0) by unfold lockI; rw [if_pos ⟨rfl, rfl⟩, if_pos ⟨hb, hB⟩]] at h
    exact h
  have HS1 : Hid (∀ w, Calls Try.prog 24 #[.agg #[.int .i64 s, .int .i64 n, .int .i64 p, .int .i64 c, .int .i64 m, .int .i64 r, .int .i64 3, .int .i64 b]] w fun e w' => e = .returned (.tuple #[.agg #[.int .i64 s, .int .i64 n, .int .i64 p, .int .i64 c, .int .i64 m, .int .i64 r, .int .i64 5, .int .i64 b], .int .i64 0]) ∧ Below w.heap.size w w') := fun w => by
    have h := settle_any ⟨s, n, p, c, m, r, 3, b⟩ w
    rw [show settleI ⟨s, n, p, c, m, r, 3, b⟩ = (⟨s, n, p, c, m, r, 5, b⟩, 0) from if_pos ⟨rfl, by dsimp only; omega⟩] at h
    exact h
  have HF2 : Hid (∀ w, Calls Try.prog 23 #[.agg #[.int .i64 s, .int .i64 n, .int .i64 p, .int .i64 c, .int .i64 m, .int .i64 r, .int .i64 5, .int .i64 b]] w fun e w' => e = .returned (.tuple #[.agg #[.int .i64 s, .int .i64 n, .int .i64 p, .int .i64 c, .int .i64 m, .int .i64 r, .int .i64 5, .int .i64 b], .int .i64 90]) ∧ Below w.heap.size w w') := fun w => by
    have h := free_any ⟨s, n, p, c, m, r, 5, b⟩ w
    rw [show freeI ⟨s, n, p, c, m, r, 5, b⟩ = (⟨s, n, p, c, m, r, 5, b⟩, 90) from if_neg (fun h => absurd (show (5 : Int) = 3 from h.1) (by decide))] at h
    exact h
  have HK1 : Hid (∀ w, Calls Try.prog 14 #[.agg #[.int .i64 s, .int .i64 n, .int .i64 p, .int .i64 c, .int .i64 m, .int .i64 r, .int .i64 5, .int .i64 b]] w fun e w' => e = .returned (.int .i64 9) ∧ Below w.heap.size w w') := fun w => by
    have h := rank_any ⟨s, n, p, c, m, r, 5, b⟩ w (by dsimp only; omega)
    exact h
  have HK2 : Hid (∀ w, Calls Try.prog 14 #[.agg #[.int .i64 s, .int .i64 n, .int .i64 p, .int .i64 c, .int .i64 m, .int .i64 r, .int .i64 3, .int .i64 0]] w fun e w' => e = .returned (.int .i64 8) ∧ Below w.heap.size w w') := fun w => by
    have h := rank_any ⟨s, n, p, c, m, r, 3, 0⟩ w (by dsimp only; omega)
    exact h
  have hg1 : ¬ a < 1 := by omega
  have hg2 : ¬ 1048576 < a := by omega
  have hg3 : ¬ b < 1 := by omega
  have hg4 : ¬ 1048576 < b := by omega
  unfold Itm.v at *
  dsimp only at *
  clear hr ha hA hb hB ha0
  have HB0 := Lib.hid (oneB w (.cells #[.int .i64 s, .int .i64 n, .int .i64 p, .int .i64 c, .int .i64 m, .int .i64 r, .int .i64 3, .int .i64 0] 25))
  have HXx := Lib.hid (Blk.new w #[.int .i64 s, .int .i64 n, .int .i64 p, .int .i64 c, .int .i64 m, .int .i64 r, .int .i64 3, .int .i64 0] 25)
  go_enter Try.func7, Try.ntmps7
  go_wp2_with fail
  refine (HL.out _).mono ?_
  rintro z w1 ⟨rfl, hb1⟩
  replace HXx := Lib.hid (HXx.out.below hb1 HXx.out.lt)
  have HB1 := Lib.hid (HB0.out.trans (hb1.mono HB0.out.size))
  clear hb1
  have cx0 : w1.cell? ⟨w.heap.size, 0, none⟩ = some (.int .i64 s) := HXx.out.cell 0
  have cx1 : w1.cell? ⟨w.heap.size, 1, none⟩ = some (.int .i64 n) := HXx.out.cell 1
  have cx2 : w1.cell? ⟨w.heap.size, 2, none⟩ = some (.int .i64 p) := HXx.out.cell 2
  have cx3 : w1.cell? ⟨w.heap.size, 3, none⟩ = some (.int .i64 c) := HXx.out.cell 3
  have cx4 : w1.cell? ⟨w.heap.size, 4, none⟩ = some (.int .i64 m) := HXx.out.cell 4
  have cx5 : w1.cell? ⟨w.heap.size, 5, none⟩ = some (.int .i64 r) := HXx.out.cell 5
  have cx6 : w1.cell? ⟨w.heap.size, 6, none⟩ = some (.int .i64 3) := HXx.out.cell 6
  have cx7 : w1.cell? ⟨w.heap.size, 7, none⟩ = some (.int .i64 0) := HXx.out.cell 7
  have lx := HXx.out.lt
  go_wp2_with fail
  refine (HD.out _).mono ?_
  rintro z w2 ⟨rfl, hb2⟩
  replace HXx := Lib.hid (HXx.out.below hb2 HXx.out.lt)
  have HB2 := Lib.hid (HB1.out.trans (hb2.mono HB1.out.size))
  clear hb2
  have cx0 : w2.cell? ⟨w.heap.size, 0, none⟩ = some (.int .i64 s) := HXx.out.cell 0
  have cx1 : w2.cell? ⟨w.heap.size, 1, none⟩ = some (.int .i64 n) := HXx.out.cell 1
  have cx2 : w2.cell? ⟨w.heap.size, 2, none⟩ = some (.int .i64 p) := HXx.out.cell 2
  have cx3 : w2.cell? ⟨w.heap.size, 3, none⟩ = some (.int .i64 c) := HXx.out.cell 3
  have cx4 : w2.cell? ⟨w.heap.size, 4, none⟩ = some (.int .i64 m) := HXx.out.cell 4
  have cx5 : w2.cell? ⟨w.heap.size, 5, none⟩ = some (.int .i64 r) := HXx.out.cell 5
  have cx6 : w2.cell? ⟨w.heap.size, 6, none⟩ = some (.int .i64 3) := HXx.out.cell 6
  have cx7 : w2.cell? ⟨w.heap.size, 7, none⟩ = some (.int .i64 0) := HXx.out.cell 7
  have lx := HXx.out.lt
  go_wp2_with fail
  refine (HL1.out _).mono ?_
  rintro z w3 ⟨rfl, hb3⟩
  replace HXx := Lib.hid (HXx.out.below hb3 HXx.out.lt)
  have HB3 := Lib.hid (HB2.out.trans (hb3.mono HB2.out.size))
  clear hb3
  have cx0 : w3.cell? ⟨w.heap.size, 0, none⟩ = some (.int .i64 s) := HXx.out.cell 0
  have cx1 : w3.cell? ⟨w.heap.size, 1, none⟩ = some (.int .i64 n) := HXx.out.cell 1
  have cx2 : w3.cell? ⟨w.heap.size, 2, none⟩ = some (.int .i64 p) := HXx.out.cell 2
  have cx3 : w3.cell? ⟨w.heap.size, 3, none⟩ = some (.int .i64 c) := HXx.out.cell 3
  have cx4 : w3.cell? ⟨w.heap.size, 4, none⟩ = some (.int .i64 m) := HXx.out.cell 4
  have cx5 : w3.cell? ⟨w.heap.size, 5, none⟩ = some (.int .i64 r) := HXx.out.cell 5
  have cx6 : w3.cell? ⟨w.heap.size, 6, none⟩ = some (.int .i64 3) := HXx.out.cell 6
  have cx7 : w3.cell? ⟨w.heap.size, 7, none⟩ = some (.int .i64 0) := HXx.out.cell 7
  have lx := HXx.out.lt
  replace HXx := Lib.hid (HXx.out.alloc (.cells #[.int .i64 s, .int .i64 n, .int .i64 p, .int .i64 c, .int .i64 m, .int .i64 r, .int .i64 3, .int .i64 a] 25))
  have HXu := Lib.hid (Blk.new' (w3) #[.int .i64 s, .int .i64 n, .int .i64 p, .int .i64 c, .int .i64 m, .int .i64 r, .int .i64 3, .int .i64 a] 25 (b := w3.heap.size) (by simp))
  have HB4 := Lib.hid (HB3.out.alloc HB3.out.size (.cells #[.int .i64 s, .int .i64 n, .int .i64 p, .int .i64 c, .int .i64 m, .int .i64 r, .int .i64 3, .int .i64 a] 25))
  go_wp2_with fail
  refine (HL2.out _).mono ?_
  rintro z w4 ⟨rfl, hb4⟩
  replace HXx := Lib.hid (HXx.out.below hb4 HXx.out.lt)
  replace HXu := Lib.hid (HXu.out.below hb4 HXu.out.lt)
  have HB5 := Lib.hid (HB4.out.trans (hb4.mono HB4.out.size))
  clear hb4
  have cx0 : w4.cell? ⟨w.heap.size, 0, none⟩ = some (.int .i64 s) := HXx.out.cell 0
  have cx1 : w4.cell? ⟨w.heap.size, 1, none⟩ = some (.int .i64 n) := HXx.out.cell 1
  have cx2 : w4.cell? ⟨w.heap.size, 2, none⟩ = some (.int .i64 p) := HXx.out.cell 2
  have cx3 : w4.cell? ⟨w.heap.size, 3, none⟩ = some (.int .i64 c) := HXx.out.cell 3
  have cx4 : w4.cell? ⟨w.heap.size, 4, none⟩ = some (.int .i64 m) := HXx.out.cell 4
  have cx5 : w4.cell? ⟨w.heap.size, 5, none⟩ = some (.int .i64 r) := HXx.out.cell 5
  have cx6 : w4.cell? ⟨w.heap.size, 6, none⟩ = some (.int .i64 3) := HXx.out.cell 6
  have cx7 : w4.cell? ⟨w.heap.size, 7, none⟩ = some (.int .i64 0) := HXx.out.cell 7
  have lx := HXx.out.lt
  have cu0 : w4.cell? ⟨w3.heap.size, 0, none⟩ = some (.int .i64 s) := HXu.out.cell 0
  have cu1 : w4.cell? ⟨w3.heap.size, 1, none⟩ = some (.int .i64 n) := HXu.out.cell 1
  have cu2 : w4.cell? ⟨w3.heap.size, 2, none⟩ = some (.int .i64 p) := HXu.out.cell 2
  have cu3 : w4.cell? ⟨w3.heap.size, 3, none⟩ = some (.int .i64 c) := HXu.out.cell 3
  have cu4 : w4.cell? ⟨w3.heap.size, 4, none⟩ = some (.int .i64 m) := HXu.out.cell 4
  have cu5 : w4.cell? ⟨w3.heap.size, 5, none⟩ = some (.int .i64 r) := HXu.out.cell 5
  have cu6 : w4.cell? ⟨w3.heap.size, 6, none⟩ = some (.int .i64 3) := HXu.out.cell 6
  have cu7 : w4.cell? ⟨w3.heap.size, 7, none⟩ = some (.int .i64 a) := HXu.out.cell 7
  have lu := HXu.out.lt
  replace HXx := Lib.hid (HXx.out.alloc (.cells #[.int .i64 s, .int .i64 n, .int .i64 p, .int .i64 c, .int .i64 m, .int .i64 r, .int .i64 3, .int .i64 a] 25))
  replace HXu := Lib.hid (HXu.out.alloc (.cells #[.int .i64 s, .int .i64 n, .int .i64 p, .int .i64 c, .int .i64 m, .int .i64 r, .int .i64 3, .int .i64 a] 25))
  have HXv := Lib.hid (Blk.new' (w4) #[.int .i64 s, .int .i64 n, .int .i64 p, .int .i64 c, .int .i64 m, .int .i64 r, .int .i64 3, .int .i64 a] 25 (b := w4.heap.size) (by simp))
  have HB6 := Lib.hid (HB5.out.alloc HB5.out.size (.cells #[.int .i64 s, .int .i64 n, .int .i64 p, .int .i64 c, .int .i64 m, .int .i64 r, .int .i64 3, .int .i64 a] 25))
  go_wp2_with fail
  refine (HF1.out _).mono ?_
  rintro z w5 ⟨rfl, hb5⟩
  replace HXx := Lib.hid (HXx.out.below hb5 HXx.out.lt)
  replace HXu := Lib.hid (HXu.out.below hb5 HXu.out.lt)
  replace HXv := Lib.hid (HXv.out.below hb5 HXv.out.lt)
  have HB7 := Lib.hid (HB6.out.trans (hb5.mono HB6.out.size))
  clear hb5
  have cx0 : w5.cell? ⟨w.heap.size, 0, none⟩ = some (.int .i64 s) := HXx.out.cell 0
  have cx1 : w5.cell? ⟨w.heap.size, 1, none⟩ = some (.int .i64 n) := HXx.out.cell 1
  have cx2 : w5.cell? ⟨w.heap.size, 2, none⟩ = some (.int .i64 p) := HXx.out.cell 2
  have cx3 : w5.cell? ⟨w.heap.size, 3, none⟩ = some (.int .i64 c) := HXx.out.cell 3
  have cx4 : w5.cell? ⟨w.heap.size, 4, none⟩ = some (.int .i64 m) := HXx.out.cell 4
  have cx5 : w5.cell? ⟨w.heap.size, 5, none⟩ = some (.int .i64 r) := HXx.out.cell 5
  have cx6 : w5.cell? ⟨w.heap.size, 6, none⟩ = some (.int .i64 3) := HXx.out.cell 6
  have cx7 : w5.cell? ⟨w.heap.size, 7, none⟩ = some (.int .i64 0) := HXx.out.cell 7
  have lx := HXx.out.lt
  have cu0 : w5.cell? ⟨w3.heap.size, 0, none⟩ = some (.int .i64 s) := HXu.out.cell 0
  have cu1 : w5.cell? ⟨w3.heap.size, 1, none⟩ = some (.int .i64 n) := HXu.out.cell 1
  have cu2 : w5.cell? ⟨w3.heap.size, 2, none⟩ = some (.int .i64 p) := HXu.out.cell 2
  have cu3 : w5.cell? ⟨w3.heap.size, 3, none⟩ = some (.int .i64 c) := HXu.out.cell 3
  have cu4 : w5.cell? ⟨w3.heap.size, 4, none⟩ = some (.int .i64 m) := HXu.out.cell 4
  have cu5 : w5.cell? ⟨w3.heap.size, 5, none⟩ = some (.int .i64 r) := HXu.out.cell 5
  have cu6 : w5.cell? ⟨w3.heap.size, 6, none⟩ = some (.int .i64 3) := HXu.out.cell 6
  have cu7 : w5.cell? ⟨w3.heap.size, 7, none⟩ = some (.int .i64 a) := HXu.out.cell 7
  have lu := HXu.out.lt
  have cv0 : w5.cell? ⟨w4.heap.size, 0, none⟩ = some (.int .i64 s) := HXv.out.cell 0
  have cv1 : w5.cell? ⟨w4.heap.size, 1, none⟩ = some (.int .i64 n) := HXv.out.cell 1
  have cv2 : w5.cell? ⟨w4.heap.size, 2, none⟩ = some (.int .i64 p) := HXv.out.cell 2
  have cv3 : w5.cell? ⟨w4.heap.size, 3, none⟩ = some (.int .i64 c) := HXv.out.cell 3
  have cv4 : w5.cell? ⟨w4.heap.size, 4, none⟩ = some (.int .i64 m) := HXv.out.cell 4
  have cv5 : w5.cell? ⟨w4.heap.size, 5, none⟩ = some (.int .i64 r) := HXv.out.cell 5
  have cv6 : w5.cell? ⟨w4.heap.size, 6, none⟩ = some (.int .i64 3) := HXv.out.cell 6
  have cv7 : w5.cell? ⟨w4.heap.size, 7, none⟩ = some (.int .i64 a) := HXv.out.cell 7
  have lv := HXv.out.lt
  replace HXx := Lib.hid (HXx.out.alloc (.cells #[.int .i64 s, .int .i64 n, .int .i64 p, .int .i64 c, .int .i64 m, .int .i64 r, .int .i64 3, .int .i64 0] 25))
  replace HXu := Lib.hid (HXu.out.alloc (.cells #[.int .i64 s, .int .i64 n, .int .i64 p, .int .i64 c, .int .i64 m, .int .i64 r, .int .i64 3, .int .i64 0] 25))
  replace HXv := Lib.hid (HXv.out.alloc (.cells #[.int .i64 s, .int .i64 n, .int .i64 p, .int .i64 c, .int .i64 m, .int .i64 r, .int .i64 3, .int .i64 0] 25))
  have HXz := Lib.hid (Blk.new' (w5) #[.int .i64 s, .int .i64 n, .int .i64 p, .int .i64 c, .int .i64 m, .int .i64 r, .int .i64 3, .int .i64 0] 25 (b := w5.heap.size) (by simp))
  have HB8 := Lib.hid (HB7.out.alloc HB7.out.size (.cells #[.int .i64 s, .int .i64 n, .int .i64 p, .int .i64 c, .int .i64 m, .int .i64 r, .int .i64 3, .int .i64 0] 25))
  go_wp2_with fail
  refine (HL3.out _).mono ?_
  rintro z w6 ⟨rfl, hb6⟩
  replace HXx := Lib.hid (HXx.out.below hb6 HXx.out.lt)
  replace HXu := Lib.hid (HXu.out.below hb6 HXu.out.lt)
  replace HXv := Lib.hid (HXv.out.below hb6 HXv.out.lt)
  replace HXz := Lib.hid (HXz.out.below hb6 HXz.out.lt)
  have HB9 := Lib.hid (HB8.out.trans (hb6.mono HB8.out.size))
  clear hb6
  have cx0 : w6.cell? ⟨w.heap.size, 0, none⟩ = some (.int .i64 s) := HXx.out.cell 0
  have cx1 : w6.cell? ⟨w.heap.size, 1, none⟩ = some (.int .i64 n) := HXx.out.cell 1
  have cx2 : w6.cell? ⟨w.heap.size, 2, none⟩ = some (.int .i64 p) := HXx.out.cell 2
  have cx3 : w6.cell? ⟨w.heap.size, 3, none⟩ = some (.int .i64 c) := HXx.out.cell 3
  have cx4 : w6.cell? ⟨w.heap.size, 4, none⟩ = some (.int .i64 m) := HXx.out.cell 4
  have cx5 : w6.cell? ⟨w.heap.size, 5, none⟩ = some (.int .i64 r) := HXx.out.cell 5
  have cx6 : w6.cell? ⟨w.heap.size, 6, none⟩ = some (.int .i64 3) := HXx.out.cell 6
  have cx7 : w6.cell? ⟨w.heap.size, 7, none⟩ = some (.int .i64 0) := HXx.out.cell 7
  have lx := HXx.out.lt
  have cu0 : w6.cell? ⟨w3.heap.size, 0, none⟩ = some (.int .i64 s) := HXu.out.cell 0
  have cu1 : w6.cell? ⟨w3.heap.size, 1, none⟩ = some (.int .i64 n) := HXu.out.cell 1
  have cu2 : w6.cell? ⟨w3.heap.size, 2, none⟩ = some (.int .i64 p) := HXu.out.cell 2
  have cu3 : w6.cell? ⟨w3.heap.size, 3, none⟩ = some (.int .i64 c) := HXu.out.cell 3
  have cu4 : w6.cell? ⟨w3.heap.size, 4, none⟩ = some (.int .i64 m) := HXu.out.cell 4
  have cu5 : w6.cell? ⟨w3.heap.size, 5, none⟩ = some (.int .i64 r) := HXu.out.cell 5
  have cu6 : w6.cell? ⟨w3.heap.size, 6, none⟩ = some (.int .i64 3) := HXu.out.cell 6
  have cu7 : w6.cell? ⟨w3.heap.size, 7, none⟩ = some (.int .i64 a) := HXu.out.cell 7
  have lu := HXu.out.lt
  have cv0 : w6.cell? ⟨w4.heap.size, 0, none⟩ = some (.int .i64 s) := HXv.out.cell 0
  have cv1 : w6.cell? ⟨w4.heap.size, 1, none⟩ = some (.int .i64 n) := HXv.out.cell 1
  have cv2 : w6.cell? ⟨w4.heap.size, 2, none⟩ = some (.int .i64 p) := HXv.out.cell 2
  have cv3 : w6.cell? ⟨w4.heap.size, 3, none⟩ = some (.int .i64 c) := HXv.out.cell 3
  have cv4 : w6.cell? ⟨w4.heap.size, 4, none⟩ = some (.int .i64 m) := HXv.out.cell 4
  have cv5 : w6.cell? ⟨w4.heap.size, 5, none⟩ = some (.int .i64 r) := HXv.out.cell 5
  have cv6 : w6.cell? ⟨w4.heap.size, 6, none⟩ = some (.int .i64 3) := HXv.out.cell 6
  have cv7 : w6.cell? ⟨w4.heap.size, 7, none⟩ = some (.int .i64 a) := HXv.out.cell 7
  have lv := HXv.out.lt
  have cz0 : w6.cell? ⟨w5.heap.size, 0, none⟩ = some (.int .i64 s) := HXz.out.cell 0
  have cz1 : w6.cell? ⟨w5.heap.size, 1, none⟩ = some (.int .i64 n) := HXz.out.cell 1
  have cz2 : w6.cell? ⟨w5.heap.size, 2, none⟩ = some (.int .i64 p) := HXz.out.cell 2
  have cz3 : w6.cell? ⟨w5.heap.size, 3, none⟩ = some (.int .i64 c) := HXz.out.cell 3
  have cz4 : w6.cell? ⟨w5.heap.size, 4, none⟩ = some (.int .i64 m) := HXz.out.cell 4
  have cz5 : w6.cell? ⟨w5.heap.size, 5, none⟩ = some (.int .i64 r) := HXz.out.cell 5
  have cz6 : w6.cell? ⟨w5.heap.size, 6, none⟩ = some (.int .i64 3) := HXz.out.cell 6
  have cz7 : w6.cell? ⟨w5.heap.size, 7, none⟩ = some (.int .i64 0) := HXz.out.cell 7
  have lz := HXz.out.lt
  replace HXx := Lib.hid (HXx.out.alloc (.cells #[.int .i64 s, .int .i64 n, .int .i64 p, .int .i64 c, .int .i64 m, .int .i64 r, .int .i64 3, .int .i64 b] 25))
  replace HXu := Lib.hid (HXu.out.alloc (.cells #[.int .i64 s, .int .i64 n, .int .i64 p, .int .i64 c, .int .i64 m, .int .i64 r, .int .i64 3, .int .i64 b] 25))
  replace HXv := Lib.hid (HXv.out.alloc (.cells #[.int .i64 s, .int .i64 n, .int .i64 p, .int .i64 c, .int .i64 m, .int .i64 r, .int .i64 3, .int .i64 b] 25))
  replace HXz := Lib.hid (HXz.out.alloc (.cells #[.int .i64 s, .int .i64 n, .int .i64 p, .int .i64 c, .int .i64 m, .int .i64 r, .int .i64 3, .int .i64 b] 25))
  have HXq := Lib.hid (Blk.new' (w6) #[.int .i64 s, .int .i64 n, .int .i64 p, .int .i64 c, .int .i64 m, .int .i64 r, .int .i64 3, .int .i64 b] 25 (b := w6.heap.size) (by simp))
  have HB10 := Lib.hid (HB9.out.alloc HB9.out.size (.cells #[.int .i64 s, .int .i64 n, .int .i64 p, .int .i64 c, .int .i64 m, .int .i64 r, .int .i64 3, .int .i64 b] 25))
  go_wp2_with fail
  refine (HS1.out _).mono ?_
  rintro z w7 ⟨rfl, hb7⟩
  replace HXx := Lib.hid (HXx.out.below hb7 HXx.out.lt)
  replace HXu := Lib.hid (HXu.out.below hb7 HXu.out.lt)
  replace HXv := Lib.hid (HXv.out.below hb7 HXv.out.lt)
  replace HXz := Lib.hid (HXz.out.below hb7 HXz.out.lt)
  replace HXq := Lib.hid (HXq.out.below hb7 HXq.out.lt)
  have HB11 := Lib.hid (HB10.out.trans (hb7.mono HB10.out.size))
  clear hb7
  have cx0 : w7.cell? ⟨w.heap.size, 0, none⟩ = some (.int .i64 s) := HXx.out.cell 0
  have cx1 : w7.cell? ⟨w.heap.size, 1, none⟩ = some (.int .i64 n) := HXx.out.cell 1
  have cx2 : w7.cell? ⟨w.heap.size, 2, none⟩ = some (.int .i64 p) := HXx.out.cell 2
  have cx3 : w7.cell? ⟨w.heap.size, 3, none⟩ = some (.int .i64 c) := HXx.out.cell 3
  have cx4 : w7.cell? ⟨w.heap.size, 4, none⟩ = some (.int .i64 m) := HXx.out.cell 4
  have cx5 : w7.cell? ⟨w.heap.size, 5, none⟩ = some (.int .i64 r) := HXx.out.cell 5
  have cx6 : w7.cell? ⟨w.heap.size, 6, none⟩ = some (.int .i64 3) := HXx.out.cell 6
  have cx7 : w7.cell? ⟨w.heap.size, 7, none⟩ = some (.int .i64 0) := HXx.out.cell 7
  have lx := HXx.out.lt
  have cu0 : w7.cell? ⟨w3.heap.size, 0, none⟩ = some (.int .i64 s) := HXu.out.cell 0
  have cu1 : w7.cell? ⟨w3.heap.size, 1, none⟩ = some (.int .i64 n) := HXu.out.cell 1
  have cu2 : w7.cell? ⟨w3.heap.size, 2, none⟩ = some (.int .i64 p) := HXu.out.cell 2
  have cu3 : w7.cell? ⟨w3.heap.size, 3, none⟩ = some (.int .i64 c) := HXu.out.cell 3
  have cu4 : w7.cell? ⟨w3.heap.size, 4, none⟩ = some (.int .i64 m) := HXu.out.cell 4
  have cu5 : w7.cell? ⟨w3.heap.size, 5, none⟩ = some (.int .i64 r) := HXu.out.cell 5
  have cu6 : w7.cell? ⟨w3.heap.size, 6, none⟩ = some (.int .i64 3) := HXu.out.cell 6
  have cu7 : w7.cell? ⟨w3.heap.size, 7, none⟩ = some (.int .i64 a) := HXu.out.cell 7
  have lu := HXu.out.lt
  have cv0 : w7.cell? ⟨w4.heap.size, 0, none⟩ = some (.int .i64 s) := HXv.out.cell 0
  have cv1 : w7.cell? ⟨w4.heap.size, 1, none⟩ = some (.int .i64 n) := HXv.out.cell 1
  have cv2 : w7.cell? ⟨w4.heap.size, 2, none⟩ = some (.int .i64 p) := HXv.out.cell 2
  have cv3 : w7.cell? ⟨w4.heap.size, 3, none⟩ = some (.int .i64 c) := HXv.out.cell 3
  have cv4 : w7.cell? ⟨w4.heap.size, 4, none⟩ = some (.int .i64 m) := HXv.out.cell 4
  have cv5 : w7.cell? ⟨w4.heap.size, 5, none⟩ = some (.int .i64 r) := HXv.out.cell 5
  have cv6 : w7.cell? ⟨w4.heap.size, 6, none⟩ = some (.int .i64 3) := HXv.out.cell 6
  have cv7 : w7.cell? ⟨w4.heap.size, 7, none⟩ = some (.int .i64 a) := HXv.out.cell 7
  have lv := HXv.out.lt
  have cz0 : w7.cell? ⟨w5.heap.size, 0, none⟩ = some (.int .i64 s) := HXz.out.cell 0
  have cz1 : w7.cell? ⟨w5.heap.size, 1, none⟩ = some (.int .i64 n) := HXz.out.cell 1
  have cz2 : w7.cell? ⟨w5.heap.size, 2, none⟩ = some (.int .i64 p) := HXz.out.cell 2
  have cz3 : w7.cell? ⟨w5.heap.size, 3, none⟩ = some (.int .i64 c) := HXz.out.cell 3
  have cz4 : w7.cell? ⟨w5.heap.size, 4, none⟩ = some (.int .i64 m) := HXz.out.cell 4
  have cz5 : w7.cell? ⟨w5.heap.size, 5, none⟩ = some (.int .i64 r) := HXz.out.cell 5
  have cz6 : w7.cell? ⟨w5.heap.size, 6, none⟩ = some (.int .i64 3) := HXz.out.cell 6
  have cz7 : w7.cell? ⟨w5.heap.size, 7, none⟩ = some (.int .i64 0) := HXz.out.cell 7
  have lz := HXz.out.lt
  have cq0 : w7.cell? ⟨w6.heap.size, 0, none⟩ = some (.int .i64 s) := HXq.out.cell 0
  have cq1 : w7.cell? ⟨w6.heap.size, 1, none⟩ = some (.int .i64 n) := HXq.out.cell 1
  have cq2 : w7.cell? ⟨w6.heap.size, 2, none⟩ = some (.int .i64 p) := HXq.out.cell 2
  have cq3 : w7.cell? ⟨w6.heap.size, 3, none⟩ = some (.int .i64 c) := HXq.out.cell 3
  have cq4 : w7.cell? ⟨w6.heap.size, 4, none⟩ = some (.int .i64 m) := HXq.out.cell 4
  have cq5 : w7.cell? ⟨w6.heap.size, 5, none⟩ = some (.int .i64 r) := HXq.out.cell 5
  have cq6 : w7.cell? ⟨w6.heap.size, 6, none⟩ = some (.int .i64 3) := HXq.out.cell 6
  have cq7 : w7.cell? ⟨w6.heap.size, 7, none⟩ = some (.int .i64 b) := HXq.out.cell 7
  have lq := HXq.out.lt
  replace HXx := Lib.hid (HXx.out.alloc (.cells #[.int .i64 s, .int .i64 n, .int .i64 p, .int .i64 c, .int .i64 m, .int .i64 r, .int .i64 5, .int .i64 b] 25))
  replace HXu := Lib.hid (HXu.out.alloc (.cells #[.int .i64 s, .int .i64 n, .int .i64 p, .int .i64 c, .int .i64 m, .int .i64 r, .int .i64 5, .int .i64 b] 25))
  replace HXv := Lib.hid (HXv.out.alloc (.cells #[.int .i64 s, .int .i64 n, .int .i64 p, .int .i64 c, .int .i64 m, .int .i64 r, .int .i64 5, .int .i64 b] 25))
  replace HXz := Lib.hid (HXz.out.alloc (.cells #[.int .i64 s, .int .i64 n, .int .i64 p, .int .i64 c, .int .i64 m, .int .i64 r, .int .i64 5, .int .i64 b] 25))
  replace HXq := Lib.hid (HXq.out.alloc (.cells #[.int .i64 s, .int .i64 n, .int .i64 p, .int .i64 c, .int .i64 m, .int .i64 r, .int .i64 5, .int .i64 b] 25))
  have HXk := Lib.hid (Blk.new' (w7) #[.int .i64 s, .int .i64 n, .int .i64 p, .int .i64 c, .int .i64 m, .int .i64 r, .int .i64 5, .int .i64 b] 25 (b := w7.heap.size) (by simp))
  have HB12 := Lib.hid (HB11.out.alloc HB11.out.size (.cells #[.int .i64 s, .int .i64 n, .int .i64 p, .int .i64 c, .int .i64 m, .int .i64 r, .int .i64 5, .int .i64 b] 25))
  go_wp2_with fail
  refine (HF2.out _).mono ?_
  rintro z w8 ⟨rfl, hb8⟩
  replace HXx := Lib.hid (HXx.out.below hb8 HXx.out.lt)
  replace HXu := Lib.hid (HXu.out.below hb8 HXu.out.lt)
  replace HXv := Lib.hid (HXv.out.below hb8 HXv.out.lt)
  replace HXz := Lib.hid (HXz.out.below hb8 HXz.out.lt)
  replace HXq := Lib.hid (HXq.out.below hb8 HXq.out.lt)
  replace HXk := Lib.hid (HXk.out.below hb8 HXk.out.lt)
  have HB13 := Lib.hid (HB12.out.trans (hb8.mono HB12.out.size))
  clear hb8
  have cx0 : w8.cell? ⟨w.heap.size, 0, none⟩ = some (.int .i64 s) := HXx.out.cell 0
  have cx1 : w8.cell? ⟨w.heap.size, 1, none⟩ = some (.int .i64 n) := HXx.out.cell 1
  have cx2 : w8.cell? ⟨w.heap.size, 2, none⟩ = some (.int .i64 p) := HXx.out.cell 2
  have cx3 : w8.cell? ⟨w.heap.size, 3, none⟩ = some (.int .i64 c) := HXx.out.cell 3
  have cx4 : w8.cell? ⟨w.heap.size, 4, none⟩ = some (.int .i64 m) := HXx.out.cell 4
  have cx5 : w8.cell? ⟨w.heap.size, 5, none⟩ = some (.int .i64 r) := HXx.out.cell 5
  have cx6 : w8.cell? ⟨w.heap.size, 6, none⟩ = some (.int .i64 3) := HXx.out.cell 6
  have cx7 : w8.cell? ⟨w.heap.size, 7, none⟩ = some (.int .i64 0) := HXx.out.cell 7
  have lx := HXx.out.lt
  have cu0 : w8.cell? ⟨w3.heap.size, 0, none⟩ = some (.int .i64 s) := HXu.out.cell 0
  have cu1 : w8.cell? ⟨w3.heap.size, 1, none⟩ = some (.int .i64 n) := HXu.out.cell 1
  have cu2 : w8.cell? ⟨w3.heap.size, 2, none⟩ = some (.int .i64 p) := HXu.out.cell 2
  have cu3 : w8.cell? ⟨w3.heap.size, 3, none⟩ = some (.int .i64 c) := HXu.out.cell 3
  have cu4 : w8.cell? ⟨w3.heap.size, 4, none⟩ = some (.int .i64 m) := HXu.out.cell 4
  have cu5 : w8.cell? ⟨w3.heap.size, 5, none⟩ = some (.int .i64 r) := HXu.out.cell 5
  have cu6 : w8.cell? ⟨w3.heap.size, 6, none⟩ = some (.int .i64 3) := HXu.out.cell 6
  have cu7 : w8.cell? ⟨w3.heap.size, 7, none⟩ = some (.int .i64 a) := HXu.out.cell 7
  have lu := HXu.out.lt
  have cv0 : w8.cell? ⟨w4.heap.size, 0, none⟩ = some (.int .i64 s) := HXv.out.cell 0
  have cv1 : w8.cell? ⟨w4.heap.size, 1, none⟩ = some (.int .i64 n) := HXv.out.cell 1
  have cv2 : w8.cell? ⟨w4.heap.size, 2, none⟩ = some (.int .i64 p) := HXv.out.cell 2
  have cv3 : w8.cell? ⟨w4.heap.size, 3, none⟩ = some (.int .i64 c) := HXv.out.cell 3
  have cv4 : w8.cell? ⟨w4.heap.size, 4, none⟩ = some (.int .i64 m) := HXv.out.cell 4
  have cv5 : w8.cell? ⟨w4.heap.size, 5, none⟩ = some (.int .i64 r) := HXv.out.cell 5
  have cv6 : w8.cell? ⟨w4.heap.size, 6, none⟩ = some (.int .i64 3) := HXv.out.cell 6
  have cv7 : w8.cell? ⟨w4.heap.size, 7, none⟩ = some (.int .i64 a) := HXv.out.cell 7
  have lv := HXv.out.lt
  have cz0 : w8.cell? ⟨w5.heap.size, 0, none⟩ = some (.int .i64 s) := HXz.out.cell 0
  have cz1 : w8.cell? ⟨w5.heap.size, 1, none⟩ = some (.int .i64 n) := HXz.out.cell 1
  have cz2 : w8.cell? ⟨w5.heap.size, 2, none⟩ = some (.int .i64 p) := HXz.out.cell 2
  have cz3 : w8.cell? ⟨w5.heap.size, 3, none⟩ = some (.int .i64 c) := HXz.out.cell 3
  have cz4 : w8.cell? ⟨w5.heap.size, 4, none⟩ = some (.int .i64 m) := HXz.out.cell 4
  have cz5 : w8.cell? ⟨w5.heap.size, 5, none⟩ = some (.int .i64 r) := HXz.out.cell 5
  have cz6 : w8.cell? ⟨w5.heap.size, 6, none⟩ = some (.int .i64 3) := HXz.out.cell 6
  have cz7 : w8.cell? ⟨w5.heap.size, 7, none⟩ = some (.int .i64 0) := HXz.out.cell 7
  have lz := HXz.out.lt
  have cq0 : w8.cell? ⟨w6.heap.size, 0, none⟩ = some (.int .i64 s) := HXq.out.cell 0
  have cq1 : w8.cell? ⟨w6.heap.size, 1, none⟩ = some (.int .i64 n) := HXq.out.cell 1
  have cq2 : w8.cell? ⟨w6.heap.size, 2, none⟩ = some (.int .i64 p) := HXq.out.cell 2
  have cq3 : w8.cell? ⟨w6.heap.size, 3, none⟩ = some (.int .i64 c) := HXq.out.cell 3
  have cq4 : w8.cell? ⟨w6.heap.size, 4, none⟩ = some (.int .i64 m) := HXq.out.cell 4
  have cq5 : w8.cell? ⟨w6.heap.size, 5, none⟩ = some (.int .i64 r) := HXq.out.cell 5
  have cq6 : w8.cell? ⟨w6.heap.size, 6, none⟩ = some (.int .i64 3) := HXq.out.cell 6
  have cq7 : w8.cell? ⟨w6.heap.size, 7, none⟩ = some (.int .i64 b) := HXq.out.cell 7
  have lq := HXq.out.lt
  have ck0 : w8.cell? ⟨w7.heap.size, 0, none⟩ = some (.int .i64 s) := HXk.out.cell 0
  have ck1 : w8.cell? ⟨w7.heap.size, 1, none⟩ = some (.int .i64 n) := HXk.out.cell 1
  have ck2 : w8.cell? ⟨w7.heap.size, 2, none⟩ = some (.int .i64 p) := HXk.out.cell 2
  have ck3 : w8.cell? ⟨w7.heap.size, 3, none⟩ = some (.int .i64 c) := HXk.out.cell 3
  have ck4 : w8.cell? ⟨w7.heap.size, 4, none⟩ = some (.int .i64 m) := HXk.out.cell 4
  have ck5 : w8.cell? ⟨w7.heap.size, 5, none⟩ = some (.int .i64 r) := HXk.out.cell 5
  have ck6 : w8.cell? ⟨w7.heap.size, 6, none⟩ = some (.int .i64 5) := HXk.out.cell 6
  have ck7 : w8.cell? ⟨w7.heap.size, 7, none⟩ = some (.int .i64 b) := HXk.out.cell 7
  have lk := HXk.out.lt
  replace HXx := Lib.hid (HXx.out.alloc (.cells #[.int .i64 s, .int .i64 n, .int .i64 p, .int .i64 c, .int .i64 m, .int .i64 r, .int .i64 5, .int .i64 b] 25))
  replace HXu := Lib.hid (HXu.out.alloc (.cells #[.int .i64 s, .int .i64 n, .int .i64 p, .int .i64 c, .int .i64 m, .int .i64 r, .int .i64 5, .int .i64 b] 25))
  replace HXv := Lib.hid (HXv.out.alloc (.cells #[.int .i64 s, .int .i64 n, .int .i64 p, .int .i64 c, .int .i64 m, .int .i64 r, .int .i64 5, .int .i64 b] 25))
  replace HXz := Lib.hid (HXz.out.alloc (.cells #[.int .i64 s, .int .i64 n, .int .i64 p, .int .i64 c, .int .i64 m, .int .i64 r, .int .i64 5, .int .i64 b] 25))
  replace HXq := Lib.hid (HXq.out.alloc (.cells #[.int .i64 s, .int .i64 n, .int .i64 p, .int .i64 c, .int .i64 m, .int .i64 r, .int .i64 5, .int .i64 b] 25))
  replace HXk := Lib.hid (HXk.out.alloc (.cells #[.int .i64 s, .int .i64 n, .int .i64 p, .int .i64 c, .int .i64 m, .int .i64 r, .int .i64 5, .int .i64 b] 25))
  have HXl := Lib.hid (Blk.new' (w8) #[.int .i64 s, .int .i64 n, .int .i64 p, .int .i64 c, .int .i64 m, .int .i64 r, .int .i64 5, .int .i64 b] 25 (b := w8.heap.size) (by simp))
  have HB14 := Lib.hid (HB13.out.alloc HB13.out.size (.cells #[.int .i64 s, .int .i64 n, .int .i64 p, .int .i64 c, .int .i64 m, .int .i64 r, .int .i64 5, .int .i64 b] 25))
  go_wp2_with fail
  have hS0 : ((w8).alloc (.cells #[.int .i64 s, .int .i64 n, .int .i64 p, .int .i64 c, .int .i64 m, .int .i64 r, .int .i64 5, .int .i64 b] 25)).drew.cell? ⟨w5.heap.size, 0, none⟩ = some (.int .i64 s) ∧ ((w8).alloc (.cells #[.int .i64 s, .int .i64 n, .int .i64 p, .int .i64 c, .int .i64 m, .int .i64 r, .int .i64 5, .int .i64 b] 25)).drew.cell? ⟨w5.heap.size, 1, none⟩ = some (.int .i64 n) ∧ ((w8).alloc (.cells #[.int .i64 s, .int .i64 n, .int .i64 p, .int .i64 c, .int .i64 m, .int .i64 r, .int .i64 5, .int .i64 b] 25)).drew.cell? ⟨w5.heap.size, 2, none⟩ = some (.int .i64 p) ∧ ((w8).alloc (.cells #[.int .i64 s, .int .i64 n, .int .i64 p, .int .i64 c, .int .i64 m, .int .i64 r, .int .i64 5, .int .i64 b] 25)).drew.cell? ⟨w5.heap.size, 3, none⟩ = some (.int .i64 c) ∧ ((w8).alloc (.cells #[.int .i64 s, .int .i64 n, .int .i64 p, .int .i64 c, .int .i64 m, .int .i64 r, .int .i64 5, .int .i64 b] 25)).drew.cell? ⟨w5.heap.size, 4, none⟩ = some (.int .i64 m) ∧ ((w8).alloc (.cells #[.int .i64 s, .int .i64 n, .int .i64 p, .int .i64 c, .int .i64 m, .int .i64 r, .int .i64 5, .int .i64 b] 25)).drew.cell? ⟨w5.heap.size, 5, none⟩ = some (.int .i64 r) ∧ ((w8).alloc (.cells #[.int .i64 s, .int .i64 n, .int .i64 p, .int .i64 c, .int .i64 m, .int .i64 r, .int .i64 5, .int .i64 b] 25)).drew.cell? ⟨w5.heap.size, 6, none⟩ = some (.int .i64 3) ∧ ((w8).alloc (.cells #[.int .i64 s, .int .i64 n, .int .i64 p, .int .i64 c, .int .i64 m, .int .i64 r, .int .i64 5, .int .i64 b] 25)).drew.cell? ⟨w5.heap.size, 7, none⟩ = some (.int .i64 0) ∧ ((w8).alloc (.cells #[.int .i64 s, .int .i64 n, .int .i64 p, .int .i64 c, .int .i64 m, .int .i64 r, .int .i64 5, .int .i64 b] 25)).drew.cell? ⟨w7.heap.size, 0, none⟩ = some (.int .i64 s) ∧ ((w8).alloc (.cells #[.int .i64 s, .int .i64 n, .int .i64 p, .int .i64 c, .int .i64 m, .int .i64 r, .int .i64 5, .int .i64 b] 25)).drew.cell? ⟨w7.heap.size, 1, none⟩ = some (.int .i64 n) ∧ ((w8).alloc (.cells #[.int .i64 s, .int .i64 n, .int .i64 p, .int .i64 c, .int .i64 m, .int .i64 r, .int .i64 5, .int .i64 b] 25)).drew.cell? ⟨w7.heap.size, 2, none⟩ = some (.int .i64 p) ∧ ((w8).alloc (.cells #[.int .i64 s, .int .i64 n, .int .i64 p, .int .i64 c, .int .i64 m, .int .i64 r, .int .i64 5, .int .i64 b] 25)).drew.cell? ⟨w7.heap.size, 3, none⟩ = some (.int .i64 c) ∧ ((w8).alloc (.cells #[.int .i64 s, .int .i64 n, .int .i64 p, .int .i64 c, .int .i64 m, .int .i64 r, .int .i64 5, .int .i64 b] 25)).drew.cell? ⟨w7.heap.size, 4, none⟩ = some (.int .i64 m) ∧ ((w8).alloc (.cells #[.int .i64 s, .int .i64 n, .int .i64 p, .int .i64 c, .int .i64 m, .int .i64 r, .int .i64 5, .int .i64 b] 25)).drew.cell? ⟨w7.heap.size, 5, none⟩ = some (.int .i64 r) ∧ ((w8).alloc (.cells #[.int .i64 s, .int .i64 n, .int .i64 p, .int .i64 c, .int .i64 m, .int .i64 r, .int .i64 5, .int .i64 b] 25)).drew.cell? ⟨w7.heap.size, 6, none⟩ = some (.int .i64 5) ∧ ((w8).alloc (.cells #[.int .i64 s, .int .i64 n, .int .i64 p, .int .i64 c, .int .i64 m, .int .i64 r, .int .i64 5, .int .i64 b] 25)).drew.cell? ⟨w7.heap.size, 7, none⟩ = some (.int .i64 b) ∧ ((w8).alloc (.cells #[.int .i64 s, .int .i64 n, .int .i64 p, .int .i64 c, .int .i64 m, .int .i64 r, .int .i64 5, .int .i64 b] 25)).drew.cell? ⟨w.heap.size, 0, none⟩ = some (.int .i64 s) ∧ ((w8).alloc (.cells #[.int .i64 s, .int .i64 n, .int .i64 p, .int .i64 c, .int .i64 m, .int .i64 r, .int .i64 5, .int .i64 b] 25)).drew.cell? ⟨w.heap.size, 1, none⟩ = some (.int .i64 n) ∧ ((w8).alloc (.cells #[.int .i64 s, .int .i64 n, .int .i64 p, .int .i64 c, .int .i64 m, .int .i64 r, .int .i64 5, .int .i64 b] 25)).drew.cell? ⟨w.heap.size, 2, none⟩ = some (.int .i64 p) ∧ ((w8).alloc (.cells #[.int .i64 s, .int .i64 n, .int .i64 p, .int .i64 c, .int .i64 m, .int .i64 r, .int .i64 5, .int .i64 b] 25)).drew.cell? ⟨w.heap.size, 3, none⟩ = some (.int .i64 c) ∧ ((w8).alloc (.cells #[.int .i64 s, .int .i64 n, .int .i64 p, .int .i64 c, .int .i64 m, .int .i64 r, .int .i64 5, .int .i64 b] 25)).drew.cell? ⟨w.heap.size, 4, none⟩ = some (.int .i64 m) ∧ ((w8).alloc (.cells #[.int .i64 s, .int .i64 n, .int .i64 p, .int .i64 c, .int .i64 m, .int .i64 r, .int .i64 5, .int .i64 b] 25)).drew.cell? ⟨w.heap.size, 5, none⟩ = some (.int .i64 r) ∧ ((w8).alloc (.cells #[.int .i64 s, .int .i64 n, .int .i64 p, .int .i64 c, .int .i64 m, .int .i64 r, .int .i64 5, .int .i64 b] 25)).drew.cell? ⟨w.heap.size, 6, none⟩ = some (.int .i64 3) ∧ ((w8).alloc (.cells #[.int .i64 s, .int .i64 n, .int .i64 p, .int .i64 c, .int .i64 m, .int .i64 r, .int .i64 5, .int .i64 b] 25)).drew.cell? ⟨w.heap.size, 7, none⟩ = some (.int .i64 0) := ⟨HXz.out.cell 0, HXz.out.cell 1, HXz.out.cell 2, HXz.out.cell 3, HXz.out.cell 4, HXz.out.cell 5, HXz.out.cell 6, HXz.out.cell 7, HXk.out.cell 0, HXk.out.cell 1, HXk.out.cell 2, HXk.out.cell 3, HXk.out.cell 4, HXk.out.cell 5, HXk.out.cell 6, HXk.out.cell 7, HXx.out.cell 0, HXx.out.cell 1, HXx.out.cell 2, HXx.out.cell 3, HXx.out.cell 4, HXx.out.cell 5, HXx.out.cell 6, HXx.out.cell 7⟩
  have HS0 := Lib.hid hS0
  replace HB14 := Lib.hid HB14.out.drew
  replace HXx := Lib.hid HXx.out.drew
  replace HXu := Lib.hid HXu.out.drew
  replace HXv := Lib.hid HXv.out.drew
  replace HXz := Lib.hid HXz.out.drew
  replace HXq := Lib.hid HXq.out.drew
  replace HXk := Lib.hid HXk.out.drew
  replace HXl := Lib.hid HXl.out.drew
  clear hS0
  refine wp_region_held_drew (S := fun w' => w'.cell? ⟨w5.heap.size, 0, none⟩ = some (.int .i64 s) ∧ w'.cell? ⟨w5.heap.size, 1, none⟩ = some (.int .i64 n) ∧ w'.cell? ⟨w5.heap.size, 2, none⟩ = some (.int .i64 p) ∧ w'.cell? ⟨w5.heap.size, 3, none⟩ = some (.int .i64 c) ∧ w'.cell? ⟨w5.heap.size, 4, none⟩ = some (.int .i64 m) ∧ w'.cell? ⟨w5.heap.size, 5, none⟩ = some (.int .i64 r) ∧ w'.cell? ⟨w5.heap.size, 6, none⟩ = some (.int .i64 3) ∧ w'.cell? ⟨w5.heap.size, 7, none⟩ = some (.int .i64 0) ∧ w'.cell? ⟨w7.heap.size, 0, none⟩ = some (.int .i64 s) ∧ w'.cell? ⟨w7.heap.size, 1, none⟩ = some (.int .i64 n) ∧ w'.cell? ⟨w7.heap.size, 2, none⟩ = some (.int .i64 p) ∧ w'.cell? ⟨w7.heap.size, 3, none⟩ = some (.int .i64 c) ∧ w'.cell? ⟨w7.heap.size, 4, none⟩ = some (.int .i64 m) ∧ w'.cell? ⟨w7.heap.size, 5, none⟩ = some (.int .i64 r) ∧ w'.cell? ⟨w7.heap.size, 6, none⟩ = some (.int .i64 5) ∧ w'.cell? ⟨w7.heap.size, 7, none⟩ = some (.int .i64 b) ∧ w'.cell? ⟨w.heap.size, 0, none⟩ = some (.int .i64 s) ∧ w'.cell? ⟨w.heap.size, 1, none⟩ = some (.int .i64 n) ∧ w'.cell? ⟨w.heap.size, 2, none⟩ = some (.int .i64 p) ∧ w'.cell? ⟨w.heap.size, 3, none⟩ = some (.int .i64 c) ∧ w'.cell? ⟨w.heap.size, 4, none⟩ = some (.int .i64 m) ∧ w'.cell? ⟨w.heap.size, 5, none⟩ = some (.int .i64 r) ∧ w'.cell? ⟨w.heap.size, 6, none⟩ = some (.int .i64 3) ∧ w'.cell? ⟨w.heap.size, 7, none⟩ = some (.int .i64 0)) (by kernel_rfl) HS0.out (fun hS0 => ?_)
  refine wpAnyH_take (i := 0) (v := ?_) rfl (by kernel_rfl) (by kernel_rfl) (by kernel_rfl) (fun _ _ _ h => h) (Or.inl ⟨by kernel_rfl, ?_⟩) (by first | assumption | trivial) ?_
  rotate_left
  · intro w hSw
    try dsimp only at hSw
    first | (go_simp; done) | (go_simp; with_reducible rfl)
  try simp only [Act.put, List.getElem_toArray, List.getElem_cons_succ, List.getElem_cons_zero, List.setIfInBounds_toArray, List.set_cons_zero, List.set_cons_succ]
  refine wpAnyH_take (i := 1) (v := ?_) rfl (by kernel_rfl) (by kernel_rfl) (by kernel_rfl) (fun _ _ _ h => h) (Or.inl ⟨by kernel_rfl, ?_⟩) (by first | assumption | trivial) ?_
  rotate_left
  · intro w hSw
    try dsimp only at hSw
    first | (go_simp; done) | (go_simp; with_reducible rfl)
  try simp only [Act.put, List.getElem_toArray, List.getElem_cons_succ, List.getElem_cons_zero, List.setIfInBounds_toArray, List.set_cons_zero, List.set_cons_succ]
  refine wpAnyH_take (i := 2) (v := ?_) rfl (by kernel_rfl) (by kernel_rfl) (by kernel_rfl) (fun _ _ _ h => h) (Or.inl ⟨by kernel_rfl, ?_⟩) (by first | assumption | trivial) ?_
  rotate_left
  · intro w hSw
    try dsimp only at hSw
    first | (go_simp; done) | (go_simp; with_reducible rfl)
  try simp only [Act.put, List.getElem_toArray, List.getElem_cons_succ, List.getElem_cons_zero, List.setIfInBounds_toArray, List.set_cons_zero, List.set_cons_succ]
  refine wpAnyH_take (i := 3) (v := ?_) rfl (by kernel_rfl) (by kernel_rfl) (by kernel_rfl) (fun _ _ _ h => h) (Or.inl ⟨by kernel_rfl, ?_⟩) (by first | assumption | trivial) ?_
  rotate_left
  · intro w hSw
    try dsimp only at hSw
    first | (go_simp; done) | (go_simp; with_reducible rfl)
  try simp only [Act.put, List.getElem_toArray, List.getElem_cons_succ, List.getElem_cons_zero, List.setIfInBounds_toArray, List.set_cons_zero, List.set_cons_succ]
  refine wpAnyH_take (i := 4) (v := ?_) rfl (by kernel_rfl) (by kernel_rfl) (by kernel_rfl) (fun _ _ _ h => h) (Or.inl ⟨by kernel_rfl, ?_⟩) (by first | assumption | trivial) ?_
  rotate_left
  · intro w hSw
    try dsimp only at hSw
    first | (go_simp; done) | (go_simp; with_reducible rfl)
  try simp only [Act.put, List.getElem_toArray, List.getElem_cons_succ, List.getElem_cons_zero, List.setIfInBounds_toArray, List.set_cons_zero, List.set_cons_succ]
  refine wpAnyH_take (i := 5) (v := ?_) rfl (by kernel_rfl) (by kernel_rfl) (by kernel_rfl) (fun _ _ _ h => h) (Or.inl ⟨by kernel_rfl, ?_⟩) (by first | assumption | trivial) ?_
  rotate_left
  · intro w hSw
    try dsimp only at hSw
    first | (go_simp; done) | (go_simp; with_reducible rfl)
  try simp only [Act.put, List.getElem_toArray, List.getElem_cons_succ, List.getElem_cons_zero, List.setIfInBounds_toArray, List.set_cons_zero, List.set_cons_succ]
  refine wpAnyH_take (i := 6) (v := ?_) rfl (by kernel_rfl) (by kernel_rfl) (by kernel_rfl) (fun _ _ _ h => h) (Or.inl ⟨by kernel_rfl, ?_⟩) (by first | assumption | trivial) ?_
  rotate_left
  · intro w hSw
    try dsimp only at hSw
    first | (go_simp; done) | (go_simp; with_reducible rfl)
  try simp only [Act.put, List.getElem_toArray, List.getElem_cons_succ, List.getElem_cons_zero, List.setIfInBounds_toArray, List.set_cons_zero, List.set_cons_succ]
  refine wpAnyH_take (i := 7) (v := ?_) rfl (by kernel_rfl) (by kernel_rfl) (by kernel_rfl) (fun _ _ _ h => h) (Or.inl ⟨by kernel_rfl, ?_⟩) (by first | assumption | trivial) ?_
  rotate_left
  · intro w hSw
    try dsimp only at hSw
    first | (go_simp; done) | (go_simp; with_reducible rfl)
  try simp only [Act.put, List.getElem_toArray, List.getElem_cons_succ, List.getElem_cons_zero, List.setIfInBounds_toArray, List.set_cons_zero, List.set_cons_succ]
  refine wpAnyH_take (i := 8) (v := ?_) rfl (by kernel_rfl) (by kernel_rfl) (by kernel_rfl) (fun _ _ _ h => h) (Or.inl ⟨by kernel_rfl, ?_⟩) (by first | assumption | trivial) ?_
  rotate_left
  · intro w hSw
    try dsimp only at hSw
    first | (go_simp; done) | (go_simp; with_reducible rfl)
  try simp only [Act.put, List.getElem_toArray, List.getElem_cons_succ, List.getElem_cons_zero, List.setIfInBounds_toArray, List.set_cons_zero, List.set_cons_succ]
  refine wpAnyH_take (i := 9) (v := ?_) rfl (by kernel_rfl) (by kernel_rfl) (by kernel_rfl) (fun _ _ _ h => h) (Or.inl ⟨by kernel_rfl, ?_⟩) (by first | assumption | trivial) ?_
  rotate_left
  · intro w hSw
    try dsimp only at hSw
    first | (go_simp; done) | (go_simp; with_reducible rfl)
  try simp only [Act.put, List.getElem_toArray, List.getElem_cons_succ, List.getElem_cons_zero, List.setIfInBounds_toArray, List.set_cons_zero, List.set_cons_succ]
  refine wpAnyH_take (i := 10) (v := ?_) rfl (by kernel_rfl) (by kernel_rfl) (by kernel_rfl) (fun _ _ _ h => h) (Or.inl ⟨by kernel_rfl, ?_⟩) (by first | assumption | trivial) ?_
  rotate_left
  · intro w hSw
    try dsimp only at hSw
    first | (go_simp; done) | (go_simp; with_reducible rfl)
  try simp only [Act.put, List.getElem_toArray, List.getElem_cons_succ, List.getElem_cons_zero, List.setIfInBounds_toArray, List.set_cons_zero, List.set_cons_succ]
  refine wpAnyH_take (i := 11) (v := ?_) rfl (by kernel_rfl) (by kernel_rfl) (by kernel_rfl) (fun _ _ _ h => h) (Or.inl ⟨by kernel_rfl, ?_⟩) (by first | assumption | trivial) ?_
  rotate_left
  · intro w hSw
    try dsimp only at hSw
    first | (go_simp; done) | (go_simp; with_reducible rfl)
  try simp only [Act.put, List.getElem_toArray, List.getElem_cons_succ, List.getElem_cons_zero, List.setIfInBounds_toArray, List.set_cons_zero, List.set_cons_succ]
  refine wpAnyH_take (i := 12) (v := ?_) rfl (by kernel_rfl) (by kernel_rfl) (by kernel_rfl) (fun _ _ _ h => h) (Or.inl ⟨by kernel_rfl, ?_⟩) (by first | assumption | trivial) ?_
  rotate_left
  · intro w hSw
    try dsimp only at hSw
    first | (go_simp; done) | (go_simp; with_reducible rfl)
  try simp only [Act.put, List.getElem_toArray, List.getElem_cons_succ, List.getElem_cons_zero, List.setIfInBounds_toArray, List.set_cons_zero, List.set_cons_succ]
  refine wpAnyH_take (i := 13) (v := ?_) rfl (by kernel_rfl) (by kernel_rfl) (by kernel_rfl) (fun _ _ _ h => h) (Or.inl ⟨by kernel_rfl, ?_⟩) (by first | assumption | trivial) ?_
  rotate_left
  · intro w hSw
    try dsimp only at hSw
    first | (go_simp; done) | (go_simp; with_reducible rfl)
  try simp only [Act.put, List.getElem_toArray, List.getElem_cons_succ, List.getElem_cons_zero, List.setIfInBounds_toArray, List.set_cons_zero, List.set_cons_succ]
  refine wpAnyH_take (i := 14) (v := ?_) rfl (by kernel_rfl) (by kernel_rfl) (by kernel_rfl) (fun _ _ _ h => h) (Or.inl ⟨by kernel_rfl, ?_⟩) (by first | assumption | trivial) ?_
  rotate_left
  · intro w hSw
    try dsimp only at hSw
    first | (go_simp; done) | (go_simp; with_reducible rfl)
  try simp only [Act.put, List.getElem_toArray, List.getElem_cons_succ, List.getElem_cons_zero, List.setIfInBounds_toArray, List.set_cons_zero, List.set_cons_succ]
  refine wpAnyH_take (i := 15) (v := ?_) rfl (by kernel_rfl) (by kernel_rfl) (by kernel_rfl) (fun _ _ _ h => h) (Or.inl ⟨by kernel_rfl, ?_⟩) (by first | assumption | trivial) ?_
  rotate_left
  · intro w hSw
    try dsimp only at hSw
    first | (go_simp; done) | (go_simp; with_reducible rfl)
  try simp only [Act.put, List.getElem_toArray, List.getElem_cons_succ, List.getElem_cons_zero, List.setIfInBounds_toArray, List.set_cons_zero, List.set_cons_succ]
  refine wpAnyH_take (i := 16) (v := ?_) rfl (by kernel_rfl) (by kernel_rfl) (by kernel_rfl) (fun _ _ _ h => h) (Or.inl ⟨by kernel_rfl, ?_⟩) (by first | assumption | trivial) ?_
  rotate_left
  · intro w hSw
    try dsimp only at hSw
    first | (go_simp; done) | (go_simp; with_reducible rfl)
  try simp only [Act.put, List.getElem_toArray, List.getElem_cons_succ, List.getElem_cons_zero, List.setIfInBounds_toArray, List.set_cons_zero, List.set_cons_succ]
  refine wpAnyH_take (i := 17) (v := ?_) rfl (by kernel_rfl) (by kernel_rfl) (by kernel_rfl) (fun _ _ _ h => h) (Or.inl ⟨by kernel_rfl, ?_⟩) (by first | assumption | trivial) ?_
  rotate_left
  · intro w hSw
    try dsimp only at hSw
    first | (go_simp; done) | (go_simp; with_reducible rfl)
  try simp only [Act.put, List.getElem_toArray, List.getElem_cons_succ, List.getElem_cons_zero, List.setIfInBounds_toArray, List.set_cons_zero, List.set_cons_succ]
  refine wpAnyH_take (i := 18) (v := ?_) rfl (by kernel_rfl) (by kernel_rfl) (by kernel_rfl) (fun _ _ _ h => h) (Or.inl ⟨by kernel_rfl, ?_⟩) (by first | assumption | trivial) ?_
  rotate_left
  · intro w hSw
    try dsimp only at hSw
    first | (go_simp; done) | (go_simp; with_reducible rfl)
  try simp only [Act.put, List.getElem_toArray, List.getElem_cons_succ, List.getElem_cons_zero, List.setIfInBounds_toArray, List.set_cons_zero, List.set_cons_succ]
  refine wpAnyH_take (i := 19) (v := ?_) rfl (by kernel_rfl) (by kernel_rfl) (by kernel_rfl) (fun _ _ _ h => h) (Or.inl ⟨by kernel_rfl, ?_⟩) (by first | assumption | trivial) ?_
  rotate_left
  · intro w hSw
    try dsimp only at hSw
    first | (go_simp; done) | (go_simp; with_reducible rfl)
  try simp only [Act.put, List.getElem_toArray, List.getElem_cons_succ, List.getElem_cons_zero, List.setIfInBounds_toArray, List.set_cons_zero, List.set_cons_succ]
  refine wpAnyH_take (i := 20) (v := ?_) rfl (by kernel_rfl) (by kernel_rfl) (by kernel_rfl) (fun _ _ _ h => h) (Or.inl ⟨by kernel_rfl, ?_⟩) (by first | assumption | trivial) ?_
  rotate_left
  · intro w hSw
    try dsimp only at hSw
    first | (go_simp; done) | (go_simp; with_reducible rfl)
  try simp only [Act.put, List.getElem_toArray, List.getElem_cons_succ, List.getElem_cons_zero, List.setIfInBounds_toArray, List.set_cons_zero, List.set_cons_succ]
  refine wpAnyH_take (i := 21) (v := ?_) rfl (by kernel_rfl) (by kernel_rfl) (by kernel_rfl) (fun _ _ _ h => h) (Or.inl ⟨by kernel_rfl, ?_⟩) (by first | assumption | trivial) ?_
  rotate_left
  · intro w hSw
    try dsimp only at hSw
    first | (go_simp; done) | (go_simp; with_reducible rfl)
  try simp only [Act.put, List.getElem_toArray, List.getElem_cons_succ, List.getElem_cons_zero, List.setIfInBounds_toArray, List.set_cons_zero, List.set_cons_succ]
  refine wpAnyH_take (i := 22) (v := ?_) rfl (by kernel_rfl) (by kernel_rfl) (by kernel_rfl) (fun _ _ _ h => h) (Or.inl ⟨by kernel_rfl, ?_⟩) (by first | assumption | trivial) ?_
  rotate_left
  · intro w hSw
    try dsimp only at hSw
    first | (go_simp; done) | (go_simp; with_reducible rfl)
  try simp only [Act.put, List.getElem_toArray, List.getElem_cons_succ, List.getElem_cons_zero, List.setIfInBounds_toArray, List.set_cons_zero, List.set_cons_succ]
  refine wpAnyH_take (i := 23) (v := ?_) rfl (by kernel_rfl) (by kernel_rfl) (by kernel_rfl) (fun _ _ _ h => h) (Or.inl ⟨by kernel_rfl, ?_⟩) (by first | assumption | trivial) ?_
  rotate_left
  · intro w hSw
    try dsimp only at hSw
    first | (go_simp; done) | (go_simp; with_reducible rfl)
  try simp only [Act.put, List.getElem_toArray, List.getElem_cons_succ, List.getElem_cons_zero, List.setIfInBounds_toArray, List.set_cons_zero, List.set_cons_succ]
  refine wpAnyH_take (i := 24) (v := ?_) rfl (by kernel_rfl) (by kernel_rfl) (by kernel_rfl) (fun _ _ _ h => h) (Or.inl ⟨by kernel_rfl, ?_⟩) (by first | assumption | trivial) ?_
  rotate_left
  · intro w hSw
    try dsimp only at hSw
    first | (go_simp; done) | (go_simp; with_reducible rfl)
  try simp only [Act.put, List.getElem_toArray, List.getElem_cons_succ, List.getElem_cons_zero, List.setIfInBounds_toArray, List.set_cons_zero, List.set_cons_succ]
  refine wpAnyH_take (i := 25) (v := ?_) rfl (by kernel_rfl) (by kernel_rfl) (by kernel_rfl) (fun _ _ _ h => h) (Or.inl ⟨by kernel_rfl, ?_⟩) (by first | assumption | trivial) ?_
  rotate_left
  · intro w hSw
    try dsimp only at hSw
    first | (go_simp; done) | (go_simp; with_reducible rfl)
  try simp only [Act.put, List.getElem_toArray, List.getElem_cons_succ, List.getElem_cons_zero, List.setIfInBounds_toArray, List.set_cons_zero, List.set_cons_succ]
  refine wpAnyH_take (i := 26) (v := ?_) rfl (by kernel_rfl) (by kernel_rfl) (by kernel_rfl) (fun _ _ _ h => h) (Or.inl ⟨by kernel_rfl, ?_⟩) (by first | assumption | trivial) ?_
  rotate_left
  · intro w hSw
    try dsimp only at hSw
    first | (go_simp; done) | (go_simp; with_reducible rfl)
  try simp only [Act.put, List.getElem_toArray, List.getElem_cons_succ, List.getElem_cons_zero, List.setIfInBounds_toArray, List.set_cons_zero, List.set_cons_succ]
  refine wpAnyH_take (i := 27) (v := ?_) rfl (by kernel_rfl) (by kernel_rfl) (by kernel_rfl) (fun _ _ _ h => h) (Or.inl ⟨by kernel_rfl, ?_⟩) (by first | assumption | trivial) ?_
  rotate_left
  · intro w hSw
    try dsimp only at hSw
    first | (go_simp; done) | (go_simp; with_reducible rfl)
  try simp only [Act.put, List.getElem_toArray, List.getElem_cons_succ, List.getElem_cons_zero, List.setIfInBounds_toArray, List.set_cons_zero, List.set_cons_succ]
  refine wpAnyH_take (i := 28) (v := ?_) rfl (by kernel_rfl) (by kernel_rfl) (by kernel_rfl) (fun _ _ _ h => h) (Or.inl ⟨by kernel_rfl, ?_⟩) (by first | assumption | trivial) ?_
  rotate_left
  · intro w hSw
    try dsimp only at hSw
    first | (go_simp; done) | (go_simp; with_reducible rfl)
  try simp only [Act.put, List.getElem_toArray, List.getElem_cons_succ, List.getElem_cons_zero, List.setIfInBounds_toArray, List.set_cons_zero, List.set_cons_succ]
  refine wpAnyH_take (i := 29) (v := ?_) rfl (by kernel_rfl) (by kernel_rfl) (by kernel_rfl) (fun _ _ _ h => h) (Or.inl ⟨by kernel_rfl, ?_⟩) (by first | assumption | trivial) ?_
  rotate_left
  · intro w hSw
    try dsimp only at hSw
    first | (go_simp; done) | (go_simp; with_reducible rfl)
  try simp only [Act.put, List.getElem_toArray, List.getElem_cons_succ, List.getElem_cons_zero, List.setIfInBounds_toArray, List.set_cons_zero, List.set_cons_succ]
  refine wpAnyH_take (i := 30) (v := ?_) rfl (by kernel_rfl) (by kernel_rfl) (by kernel_rfl) (fun _ _ _ h => h) (Or.inl ⟨by kernel_rfl, ?_⟩) (by first | assumption | trivial) ?_
  rotate_left
  · intro w hSw
    try dsimp only at hSw
    first | (go_simp; done) | (go_simp; with_reducible rfl)
  try simp only [Act.put, List.getElem_toArray, List.getElem_cons_succ, List.getElem_cons_zero, List.setIfInBounds_toArray, List.set_cons_zero, List.set_cons_succ]
  refine wpAnyH_take (i := 31) (v := ?_) rfl (by kernel_rfl) (by kernel_rfl) (by kernel_rfl) (fun _ _ _ h => h) (Or.inl ⟨by kernel_rfl, ?_⟩) (by first | assumption | trivial) ?_
  rotate_left
  · intro w hSw
    try dsimp only at hSw
    first | (go_simp; done) | (go_simp; with_reducible rfl)
  try simp only [Act.put, List.getElem_toArray, List.getElem_cons_succ, List.getElem_cons_zero, List.setIfInBounds_toArray, List.set_cons_zero, List.set_cons_succ]
  refine wpAnyH_take (i := 32) (v := ?_) rfl (by kernel_rfl) (by kernel_rfl) (by kernel_rfl) (fun _ _ _ h => h) (Or.inl ⟨by kernel_rfl, ?_⟩) (by first | assumption | trivial) ?_
  rotate_left
  · intro w hSw
    try dsimp only at hSw
    first | (go_simp; done) | (go_simp; with_reducible rfl)
  try simp only [Act.put, List.getElem_toArray, List.getElem_cons_succ, List.getElem_cons_zero, List.setIfInBounds_toArray, List.set_cons_zero, List.set_cons_succ]
  refine wpAnyH_take (i := 33) (v := ?_) rfl (by kernel_rfl) (by kernel_rfl) (by kernel_rfl) (fun _ _ _ h => h) (Or.inl ⟨by kernel_rfl, ?_⟩) (by first | assumption | trivial) ?_
  rotate_left
  · intro w hSw
    try dsimp only at hSw
    first | (go_simp; done) | (go_simp; with_reducible rfl)
  try simp only [Act.put, List.getElem_toArray, List.getElem_cons_succ, List.getElem_cons_zero, List.setIfInBounds_toArray, List.set_cons_zero, List.set_cons_succ]
  refine wpAnyH_take (i := 34) (v := ?_) rfl (by kernel_rfl) (by kernel_rfl) (by kernel_rfl) (fun _ _ _ h => h) (Or.inl ⟨by kernel_rfl, ?_⟩) (by first | assumption | trivial) ?_
  rotate_left
  · intro w hSw
    try dsimp only at hSw
    first | (go_simp; done) | (go_simp; with_reducible rfl)
  try simp only [Act.put, List.getElem_toArray, List.getElem_cons_succ, List.getElem_cons_zero, List.setIfInBounds_toArray, List.set_cons_zero, List.set_cons_succ]
  refine wpAnyH_take (i := 36) (v := ?_) rfl (by kernel_rfl) (by kernel_rfl) (by kernel_rfl) (fun _ _ _ h => h) (Or.inl ⟨by kernel_rfl, ?_⟩) (by first | assumption | trivial) ?_
  rotate_left
  · intro w hSw
    try dsimp only at hSw
    first | (go_simp; done) | (go_simp; with_reducible rfl)
  try simp only [Act.put, List.getElem_toArray, List.getElem_cons_succ, List.getElem_cons_zero, List.setIfInBounds_toArray, List.set_cons_zero, List.set_cons_succ]
  refine wpAnyH_ready (rs := [35]) (by kernel_rfl) (by simp) ?_
  refine AllReadyH.cons rfl (fun K hK => ?_) AllReadyH.nil
  go_simp
  go_at_call 14
  refine (HK1.out _).mono ?_
  rintro y w9 ⟨rfl, hb9⟩
  replace HXx := Lib.hid (HXx.out.below hb9 HXx.out.lt)
  replace HXu := Lib.hid (HXu.out.below hb9 HXu.out.lt)
  replace HXv := Lib.hid (HXv.out.below hb9 HXv.out.lt)
  replace HXz := Lib.hid (HXz.out.below hb9 HXz.out.lt)
  replace HXq := Lib.hid (HXq.out.below hb9 HXq.out.lt)
  replace HXk := Lib.hid (HXk.out.below hb9 HXk.out.lt)
  replace HXl := Lib.hid (HXl.out.below hb9 HXl.out.lt)
  have HB15 := Lib.hid (HB14.out.trans (hb9.mono HB14.out.size))
  clear hb9
  try go_wp2_with fail
  refine hK.out _ _ ⟨HXz.out.cell 0, HXz.out.cell 1, HXz.out.cell 2, HXz.out.cell 3, HXz.out.cell 4, HXz.out.cell 5, HXz.out.cell 6, HXz.out.cell 7, HXk.out.cell 0, HXk.out.cell 1, HXk.out.cell 2, HXk.out.cell 3, HXk.out.cell 4, HXk.out.cell 5, HXk.out.cell 6, HXk.out.cell 7, HXx.out.cell 0, HXx.out.cell 1, HXx.out.cell 2, HXx.out.cell 3, HXx.out.cell 4, HXx.out.cell 5, HXx.out.cell 6, HXx.out.cell 7⟩ (fun hS => ?_)
  clear hK K
  try simp only [Act.put, List.getElem_toArray, List.getElem_cons_succ, List.getElem_cons_zero, List.setIfInBounds_toArray, List.set_cons_zero, List.set_cons_succ]
  refine wpAnyH_ready (rs := [37]) (by kernel_rfl) (by simp) ?_
  refine AllReadyH.cons rfl (fun K hK => ?_) AllReadyH.nil
  go_simp
  go_at_call 14
  refine (HK2.out _).mono ?_
  rintro y w10 ⟨rfl, hb10⟩
  replace HXx := Lib.hid (HXx.out.below hb10 HXx.out.lt)
  replace HXu := Lib.hid (HXu.out.below hb10 HXu.out.lt)
  replace HXv := Lib.hid (HXv.out.below hb10 HXv.out.lt)
  replace HXz := Lib.hid (HXz.out.below hb10 HXz.out.lt)
  replace HXq := Lib.hid (HXq.out.below hb10 HXq.out.lt)
  replace HXk := Lib.hid (HXk.out.below hb10 HXk.out.lt)
  replace HXl := Lib.hid (HXl.out.below hb10 HXl.out.lt)
  have HB16 := Lib.hid (HB15.out.trans (hb10.mono HB15.out.size))
  clear hb10
  try go_wp2_with fail
  refine hK.out _ _ ⟨HXz.out.cell 0, HXz.out.cell 1, HXz.out.cell 2, HXz.out.cell 3, HXz.out.cell 4, HXz.out.cell 5, HXz.out.cell 6, HXz.out.cell 7, HXk.out.cell 0, HXk.out.cell 1, HXk.out.cell 2, HXk.out.cell 3, HXk.out.cell 4, HXk.out.cell 5, HXk.out.cell 6, HXk.out.cell 7, HXx.out.cell 0, HXx.out.cell 1, HXx.out.cell 2, HXx.out.cell 3, HXx.out.cell 4, HXx.out.cell 5, HXx.out.cell 6, HXx.out.cell 7⟩ (fun hS => ?_)
  clear hK K
  try simp only [Act.put, List.getElem_toArray, List.getElem_cons_succ, List.getElem_cons_zero, List.setIfInBounds_toArray, List.set_cons_zero, List.set_cons_succ]
  refine wpAnyH_take (i := 38) (v := ?_) rfl (by kernel_rfl) (by kernel_rfl) (by kernel_rfl) (fun _ _ _ h => h) (Or.inl ⟨by kernel_rfl, ?_⟩) (by first | assumption | trivial) ?_
  rotate_left
  · intro w hSw
    try dsimp only at hSw
    first | (go_simp; done) | (go_simp; with_reducible rfl)
  try simp only [Act.put, List.getElem_toArray, List.getElem_cons_succ, List.getElem_cons_zero, List.setIfInBounds_toArray, List.set_cons_zero, List.set_cons_succ]
  refine wpAnyH_take (i := 39) (v := ?_) rfl (by kernel_rfl) (by kernel_rfl) (by kernel_rfl) (fun _ _ _ h => h) (Or.inl ⟨by kernel_rfl, ?_⟩) (by first | assumption | trivial) ?_
  rotate_left
  · intro w hSw
    try dsimp only at hSw
    first | (go_simp; done) | (go_simp; with_reducible rfl)
  try simp only [Act.put, List.getElem_toArray, List.getElem_cons_succ, List.getElem_cons_zero, List.setIfInBounds_toArray, List.set_cons_zero, List.set_cons_succ]
  refine wpAnyH_take (i := 40) (v := ?_) rfl (by kernel_rfl) (by kernel_rfl) (by kernel_rfl) (fun _ _ _ h => h) (Or.inl ⟨by kernel_rfl, ?_⟩) (by first | assumption | trivial) ?_
  rotate_left
  · intro w hSw
    try dsimp only at hSw
    first | (go_simp; done) | (go_simp; with_reducible rfl)
  try simp only [Act.put, List.getElem_toArray, List.getElem_cons_succ, List.getElem_cons_zero, List.setIfInBounds_toArray, List.set_cons_zero, List.set_cons_succ]
  refine wpAnyH_take (i := 41) (v := ?_) rfl (by kernel_rfl) (by kernel_rfl) (by kernel_rfl) (fun _ _ _ h => h) (Or.inl ⟨by kernel_rfl, ?_⟩) (by first | assumption | trivial) ?_
  rotate_left
  · intro w hSw
    try dsimp only at hSw
    first | (go_simp; done) | (go_simp; with_reducible rfl)
  try simp only [Act.put, List.getElem_toArray, List.getElem_cons_succ, List.getElem_cons_zero, List.setIfInBounds_toArray, List.set_cons_zero, List.set_cons_succ]
  refine wpAnyH_done (by kernel_rfl) ?_ _
  go_wp2_with fail
  go_ret
  exact ⟨rfl, HB16.out⟩
end Go.Proofs.Ytadhiggmhibofaa
