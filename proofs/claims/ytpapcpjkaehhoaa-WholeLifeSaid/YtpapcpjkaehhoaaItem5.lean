/- item.Dispute, Agree, Cancel, Free, Settle, Lock, Adjust by contract. -/
import Derived.Test.YtpapcpjkaehhoaaItem4
namespace Go.Proofs.Ytpapcpjkaehhoaa
open Go.RowKit
theorem dispute_any (x : Itm) (w : World) : Calls Try.prog 8 #[x.v] w fun e w' => e = ansI (turnI x 1 2) ∧ Below w.heap.size w w' := by
  have HT := Lib.hid (fun w => turn_any x 1 2 w)
  have HB2 := Lib.hid ((oneB w (.cells #[.int .i64 x.s, .int .i64 x.n, .int .i64 x.b, .int .i64 x.c, .int .i64 x.a, .int .i64 x.r, .int .i64 x.t, .int .i64 x.y] 33)).alloc (by simp) (.cells #[.int .i64 0, .int .i64 0, .int .i64 0, .int .i64 0, .int .i64 0, .int .i64 0, .int .i64 0, .int .i64 0] 33))
  have HR := Lib.hid (Blk.new' (w.alloc (.cells #[.int .i64 x.s, .int .i64 x.n, .int .i64 x.b, .int .i64 x.c, .int .i64 x.a, .int .i64 x.r, .int .i64 x.t, .int .i64 x.y] 33)) #[.int .i64 0, .int .i64 0, .int .i64 0, .int .i64 0, .int .i64 0, .int .i64 0, .int .i64 0, .int .i64 0] 33 (b := w.heap.size + 1) (by simp))
  have HX := Lib.hid ((Blk.new w #[.int .i64 x.s, .int .i64 x.n, .int .i64 x.b, .int .i64 x.c, .int .i64 x.a, .int .i64 x.r, .int .i64 x.t, .int .i64 x.y] 33).alloc (.cells #[.int .i64 0, .int .i64 0, .int .i64 0, .int .i64 0, .int .i64 0, .int .i64 0, .int .i64 0, .int .i64 0] 33))
  generalize turnI x 1 2 = q at HT ⊢
  obtain ⟨y, e⟩ := q
  unfold ansI Itm.v at *
  dsimp only at *
  go_enter Try.func8, Try.ntmps8
  go_wp2_with fail
  refine (HT.out _).mono ?_
  rintro z w1 ⟨rfl, hb1⟩
  have hr1 := HR.out.below hb1 HR.out.lt
  have hx1 := HX.out.below hb1 HX.out.lt
  have HB := Lib.hid (HB2.out.trans (hb1.mono HB2.out.size))
  have HR1 := Lib.hid hr1
  have HX1 := Lib.hid hx1
  have r0 : (w1).cell? ⟨w.heap.size + 1, 0, none⟩ = some (.int .i64 0) := hr1.cell 0
  have rf0 := hr1.free 0
  have r1 : (w1).cell? ⟨w.heap.size + 1, 1, none⟩ = some (.int .i64 0) := hr1.cell 1
  have rf1 := hr1.free 1
  have r2 : (w1).cell? ⟨w.heap.size + 1, 2, none⟩ = some (.int .i64 0) := hr1.cell 2
  have rf2 := hr1.free 2
  have r3 : (w1).cell? ⟨w.heap.size + 1, 3, none⟩ = some (.int .i64 0) := hr1.cell 3
  have rf3 := hr1.free 3
  have r4 : (w1).cell? ⟨w.heap.size + 1, 4, none⟩ = some (.int .i64 0) := hr1.cell 4
  have rf4 := hr1.free 4
  have r5 : (w1).cell? ⟨w.heap.size + 1, 5, none⟩ = some (.int .i64 0) := hr1.cell 5
  have rf5 := hr1.free 5
  have r6 : (w1).cell? ⟨w.heap.size + 1, 6, none⟩ = some (.int .i64 0) := hr1.cell 6
  have rf6 := hr1.free 6
  have r7 : (w1).cell? ⟨w.heap.size + 1, 7, none⟩ = some (.int .i64 0) := hr1.cell 7
  have rf7 := hr1.free 7
  have lr := hr1.lt
  clear hb1 hr1 hx1
  go_wp2_with fail
  have hf := blk_set8 (z := zeroI) HR1.out y
  refine bodyPost_ret (v := .tuple #[Itm.v (y), .int .i64 e]) (by simp [results, Try.results8, go_sem, Itm.v, hf.cell 0, hf.cell 1, hf.cell 2, hf.cell 3, hf.cell 4, hf.cell 5, hf.cell 6, hf.cell 7]) rfl ⟨rfl, below_set8 HB.out (Nat.le_succ _) y⟩
theorem agree_any (x : Itm) (w : World) : Calls Try.prog 9 #[x.v] w fun e w' => e = ansI (turnI x 1 3) ∧ Below w.heap.size w w' := by
  have HT := Lib.hid (fun w => turn_any x 1 3 w)
  have HB2 := Lib.hid ((oneB w (.cells #[.int .i64 x.s, .int .i64 x.n, .int .i64 x.b, .int .i64 x.c, .int .i64 x.a, .int .i64 x.r, .int .i64 x.t, .int .i64 x.y] 33)).alloc (by simp) (.cells #[.int .i64 0, .int .i64 0, .int .i64 0, .int .i64 0, .int .i64 0, .int .i64 0, .int .i64 0, .int .i64 0] 33))
  have HR := Lib.hid (Blk.new' (w.alloc (.cells #[.int .i64 x.s, .int .i64 x.n, .int .i64 x.b, .int .i64 x.c, .int .i64 x.a, .int .i64 x.r, .int .i64 x.t, .int .i64 x.y] 33)) #[.int .i64 0, .int .i64 0, .int .i64 0, .int .i64 0, .int .i64 0, .int .i64 0, .int .i64 0, .int .i64 0] 33 (b := w.heap.size + 1) (by simp))
  have HX := Lib.hid ((Blk.new w #[.int .i64 x.s, .int .i64 x.n, .int .i64 x.b, .int .i64 x.c, .int .i64 x.a, .int .i64 x.r, .int .i64 x.t, .int .i64 x.y] 33).alloc (.cells #[.int .i64 0, .int .i64 0, .int .i64 0, .int .i64 0, .int .i64 0, .int .i64 0, .int .i64 0, .int .i64 0] 33))
  generalize turnI x 1 3 = q at HT ⊢
  obtain ⟨y, e⟩ := q
  unfold ansI Itm.v at *
  dsimp only at *
  go_enter Try.func9, Try.ntmps9
  go_wp2_with fail
  refine (HT.out _).mono ?_
  rintro z w1 ⟨rfl, hb1⟩
  have hr1 := HR.out.below hb1 HR.out.lt
  have hx1 := HX.out.below hb1 HX.out.lt
  have HB := Lib.hid (HB2.out.trans (hb1.mono HB2.out.size))
  have HR1 := Lib.hid hr1
  have HX1 := Lib.hid hx1
  have r0 : (w1).cell? ⟨w.heap.size + 1, 0, none⟩ = some (.int .i64 0) := hr1.cell 0
  have rf0 := hr1.free 0
  have r1 : (w1).cell? ⟨w.heap.size + 1, 1, none⟩ = some (.int .i64 0) := hr1.cell 1
  have rf1 := hr1.free 1
  have r2 : (w1).cell? ⟨w.heap.size + 1, 2, none⟩ = some (.int .i64 0) := hr1.cell 2
  have rf2 := hr1.free 2
  have r3 : (w1).cell? ⟨w.heap.size + 1, 3, none⟩ = some (.int .i64 0) := hr1.cell 3
  have rf3 := hr1.free 3
  have r4 : (w1).cell? ⟨w.heap.size + 1, 4, none⟩ = some (.int .i64 0) := hr1.cell 4
  have rf4 := hr1.free 4
  have r5 : (w1).cell? ⟨w.heap.size + 1, 5, none⟩ = some (.int .i64 0) := hr1.cell 5
  have rf5 := hr1.free 5
  have r6 : (w1).cell? ⟨w.heap.size + 1, 6, none⟩ = some (.int .i64 0) := hr1.cell 6
  have rf6 := hr1.free 6
  have r7 : (w1).cell? ⟨w.heap.size + 1, 7, none⟩ = some (.int .i64 0) := hr1.cell 7
  have rf7 := hr1.free 7
  have lr := hr1.lt
  clear hb1 hr1 hx1
  go_wp2_with fail
  have hf := blk_set8 (z := zeroI) HR1.out y
  refine bodyPost_ret (v := .tuple #[Itm.v (y), .int .i64 e]) (by simp [results, Try.results9, go_sem, Itm.v, hf.cell 0, hf.cell 1, hf.cell 2, hf.cell 3, hf.cell 4, hf.cell 5, hf.cell 6, hf.cell 7]) rfl ⟨rfl, below_set8 HB.out (Nat.le_succ _) y⟩
theorem cancel_any (x : Itm) (w : World) : Calls Try.prog 10 #[x.v] w fun e w' => e = ansI (turnI x 2 4) ∧ Below w.heap.size w w' := by
  have HT := Lib.hid (fun w => turn_any x 2 4 w)
  have HB2 := Lib.hid ((oneB w (.cells #[.int .i64 x.s, .int .i64 x.n, .int .i64 x.b, .int .i64 x.c, .int .i64 x.a, .int .i64 x.r, .int .i64 x.t, .int .i64 x.y] 33)).alloc (by simp) (.cells #[.int .i64 0, .int .i64 0, .int .i64 0, .int .i64 0, .int .i64 0, .int .i64 0, .int .i64 0, .int .i64 0] 33))
  have HR := Lib.hid (Blk.new' (w.alloc (.cells #[.int .i64 x.s, .int .i64 x.n, .int .i64 x.b, .int .i64 x.c, .int .i64 x.a, .int .i64 x.r, .int .i64 x.t, .int .i64 x.y] 33)) #[.int .i64 0, .int .i64 0, .int .i64 0, .int .i64 0, .int .i64 0, .int .i64 0, .int .i64 0, .int .i64 0] 33 (b := w.heap.size + 1) (by simp))
  have HX := Lib.hid ((Blk.new w #[.int .i64 x.s, .int .i64 x.n, .int .i64 x.b, .int .i64 x.c, .int .i64 x.a, .int .i64 x.r, .int .i64 x.t, .int .i64 x.y] 33).alloc (.cells #[.int .i64 0, .int .i64 0, .int .i64 0, .int .i64 0, .int .i64 0, .int .i64 0, .int .i64 0, .int .i64 0] 33))
  generalize turnI x 2 4 = q at HT ⊢
  obtain ⟨y, e⟩ := q
  unfold ansI Itm.v at *
  dsimp only at *
  go_enter Try.func10, Try.ntmps10
  go_wp2_with fail
  refine (HT.out _).mono ?_
  rintro z w1 ⟨rfl, hb1⟩
  have hr1 := HR.out.below hb1 HR.out.lt
  have hx1 := HX.out.below hb1 HX.out.lt
  have HB := Lib.hid (HB2.out.trans (hb1.mono HB2.out.size))
  have HR1 := Lib.hid hr1
  have HX1 := Lib.hid hx1
  have r0 : (w1).cell? ⟨w.heap.size + 1, 0, none⟩ = some (.int .i64 0) := hr1.cell 0
  have rf0 := hr1.free 0
  have r1 : (w1).cell? ⟨w.heap.size + 1, 1, none⟩ = some (.int .i64 0) := hr1.cell 1
  have rf1 := hr1.free 1
  have r2 : (w1).cell? ⟨w.heap.size + 1, 2, none⟩ = some (.int .i64 0) := hr1.cell 2
  have rf2 := hr1.free 2
  have r3 : (w1).cell? ⟨w.heap.size + 1, 3, none⟩ = some (.int .i64 0) := hr1.cell 3
  have rf3 := hr1.free 3
  have r4 : (w1).cell? ⟨w.heap.size + 1, 4, none⟩ = some (.int .i64 0) := hr1.cell 4
  have rf4 := hr1.free 4
  have r5 : (w1).cell? ⟨w.heap.size + 1, 5, none⟩ = some (.int .i64 0) := hr1.cell 5
  have rf5 := hr1.free 5
  have r6 : (w1).cell? ⟨w.heap.size + 1, 6, none⟩ = some (.int .i64 0) := hr1.cell 6
  have rf6 := hr1.free 6
  have r7 : (w1).cell? ⟨w.heap.size + 1, 7, none⟩ = some (.int .i64 0) := hr1.cell 7
  have rf7 := hr1.free 7
  have lr := hr1.lt
  clear hb1 hr1 hx1
  go_wp2_with fail
  have hf := blk_set8 (z := zeroI) HR1.out y
  refine bodyPost_ret (v := .tuple #[Itm.v (y), .int .i64 e]) (by simp [results, Try.results10, go_sem, Itm.v, hf.cell 0, hf.cell 1, hf.cell 2, hf.cell 3, hf.cell 4, hf.cell 5, hf.cell 6, hf.cell 7]) rfl ⟨rfl, below_set8 HB.out (Nat.le_succ _) y⟩
set_option maxHeartbeats 1000000 in
theorem free_any (x : Itm) (w : World) : Calls Try.prog 13 #[x.v] w fun e w' => e = ansI (freeI x) ∧ Below w.heap.size w w' := by
  have HL := Lib.hid (fun w => locked_any x w)
  have HB2 := Lib.hid ((oneB w (.cells #[.int .i64 x.s, .int .i64 x.n, .int .i64 x.b, .int .i64 x.c, .int .i64 x.a, .int .i64 x.r, .int .i64 x.t, .int .i64 x.y] 33)).alloc (by simp) (.cells #[.int .i64 0, .int .i64 0, .int .i64 0, .int .i64 0, .int .i64 0, .int .i64 0, .int .i64 0, .int .i64 0] 33))
  have HR := Lib.hid (Blk.new' (w.alloc (.cells #[.int .i64 x.s, .int .i64 x.n, .int .i64 x.b, .int .i64 x.c, .int .i64 x.a, .int .i64 x.r, .int .i64 x.t, .int .i64 x.y] 33)) #[.int .i64 0, .int .i64 0, .int .i64 0, .int .i64 0, .int .i64 0, .int .i64 0, .int .i64 0, .int .i64 0] 33 (b := w.heap.size + 1) (by simp))
  have HX := Lib.hid ((Blk.new w #[.int .i64 x.s, .int .i64 x.n, .int .i64 x.b, .int .i64 x.c, .int .i64 x.a, .int .i64 x.r, .int .i64 x.t, .int .i64 x.y] 33).alloc (.cells #[.int .i64 0, .int .i64 0, .int .i64 0, .int .i64 0, .int .i64 0, .int .i64 0, .int .i64 0, .int .i64 0] 33))
  by_cases h : x.t = 3 ∧ x.y ≠ 0
  · rw [decide_eq_true h] at HL
    have HC : Hid (freeI x = ({ x with y := 0 }, 0)) := if_pos h
    clear h
    unfold Itm.v at *
    go_enter Try.func13, Try.ntmps13
    go_wp2_with fail
    refine (HL.out _).mono ?_
    rintro z w1 ⟨rfl, hb1⟩
    have hr1 := HR.out.below hb1 HR.out.lt
    have hx1 := HX.out.below hb1 HX.out.lt
    have HB := Lib.hid (HB2.out.trans (hb1.mono HB2.out.size))
    have HR1 := Lib.hid hr1
    have HX1 := Lib.hid hx1
    have r0 : (w1).cell? ⟨w.heap.size + 1, 0, none⟩ = some (.int .i64 0) := hr1.cell 0
    have rf0 := hr1.free 0
    have r1 : (w1).cell? ⟨w.heap.size + 1, 1, none⟩ = some (.int .i64 0) := hr1.cell 1
    have rf1 := hr1.free 1
    have r2 : (w1).cell? ⟨w.heap.size + 1, 2, none⟩ = some (.int .i64 0) := hr1.cell 2
    have rf2 := hr1.free 2
    have r3 : (w1).cell? ⟨w.heap.size + 1, 3, none⟩ = some (.int .i64 0) := hr1.cell 3
    have rf3 := hr1.free 3
    have r4 : (w1).cell? ⟨w.heap.size + 1, 4, none⟩ = some (.int .i64 0) := hr1.cell 4
    have rf4 := hr1.free 4
    have r5 : (w1).cell? ⟨w.heap.size + 1, 5, none⟩ = some (.int .i64 0) := hr1.cell 5
    have rf5 := hr1.free 5
    have r6 : (w1).cell? ⟨w.heap.size + 1, 6, none⟩ = some (.int .i64 0) := hr1.cell 6
    have rf6 := hr1.free 6
    have r7 : (w1).cell? ⟨w.heap.size + 1, 7, none⟩ = some (.int .i64 0) := hr1.cell 7
    have rf7 := hr1.free 7
    have lr := hr1.lt
    have x0 : (w1).cell? ⟨w.heap.size, 0, none⟩ = some (.int .i64 x.s) := hx1.cell 0
    have xf0 := hx1.free 0
    have x1 : (w1).cell? ⟨w.heap.size, 1, none⟩ = some (.int .i64 x.n) := hx1.cell 1
    have xf1 := hx1.free 1
    have x2 : (w1).cell? ⟨w.heap.size, 2, none⟩ = some (.int .i64 x.b) := hx1.cell 2
    have xf2 := hx1.free 2
    have x3 : (w1).cell? ⟨w.heap.size, 3, none⟩ = some (.int .i64 x.c) := hx1.cell 3
    have xf3 := hx1.free 3
    have x4 : (w1).cell? ⟨w.heap.size, 4, none⟩ = some (.int .i64 x.a) := hx1.cell 4
    have xf4 := hx1.free 4
    have x5 : (w1).cell? ⟨w.heap.size, 5, none⟩ = some (.int .i64 x.r) := hx1.cell 5
    have xf5 := hx1.free 5
    have x6 : (w1).cell? ⟨w.heap.size, 6, none⟩ = some (.int .i64 x.t) := hx1.cell 6
    have xf6 := hx1.free 6
    have x7 : (w1).cell? ⟨w.heap.size, 7, none⟩ = some (.int .i64 x.y) := hx1.cell 7
    have xf7 := hx1.free 7
    have lx := hx1.lt
    clear hb1 hr1 hx1
    go_wp2_with fail
    have HR2 := Lib.hid (HR1.out.setOther (a := ⟨w.heap.size, 7, none⟩) (by simp) (.int .i64 0))
    have HB3 := Lib.hid (HB.out.setCell (p := ⟨w.heap.size, 7, none⟩) (Nat.le_refl _) (.int .i64 0))
    have hf := blk_set8 (z := zeroI) HR2.out { x with y := 0 }
    refine bodyPost_ret (v := .tuple #[Itm.v ({ x with y := 0 }), .int .i64 0]) (by simp [results, Try.results13, go_sem, Itm.v, hf.cell 0, hf.cell 1, hf.cell 2, hf.cell 3, hf.cell 4, hf.cell 5, hf.cell 6, hf.cell 7]) rfl ⟨retA HC.out.symm, below_set8 HB3.out (Nat.le_succ _) { x with y := 0 }⟩
  · rw [decide_eq_false h] at HL
    have HC : Hid (freeI x = (x, 90)) := if_neg h
    clear h
    unfold Itm.v at *
    go_enter Try.func13, Try.ntmps13
    go_wp2_with fail
    refine (HL.out _).mono ?_
    rintro z w1 ⟨rfl, hb1⟩
    have hr1 := HR.out.below hb1 HR.out.lt
    have hx1 := HX.out.below hb1 HX.out.lt
    have HB := Lib.hid (HB2.out.trans (hb1.mono HB2.out.size))
    have HR1 := Lib.hid hr1
    have HX1 := Lib.hid hx1
    have r0 : (w1).cell? ⟨w.heap.size + 1, 0, none⟩ = some (.int .i64 0) := hr1.cell 0
    have rf0 := hr1.free 0
    have r1 : (w1).cell? ⟨w.heap.size + 1, 1, none⟩ = some (.int .i64 0) := hr1.cell 1
    have rf1 := hr1.free 1
    have r2 : (w1).cell? ⟨w.heap.size + 1, 2, none⟩ = some (.int .i64 0) := hr1.cell 2
    have rf2 := hr1.free 2
    have r3 : (w1).cell? ⟨w.heap.size + 1, 3, none⟩ = some (.int .i64 0) := hr1.cell 3
    have rf3 := hr1.free 3
    have r4 : (w1).cell? ⟨w.heap.size + 1, 4, none⟩ = some (.int .i64 0) := hr1.cell 4
    have rf4 := hr1.free 4
    have r5 : (w1).cell? ⟨w.heap.size + 1, 5, none⟩ = some (.int .i64 0) := hr1.cell 5
    have rf5 := hr1.free 5
    have r6 : (w1).cell? ⟨w.heap.size + 1, 6, none⟩ = some (.int .i64 0) := hr1.cell 6
    have rf6 := hr1.free 6
    have r7 : (w1).cell? ⟨w.heap.size + 1, 7, none⟩ = some (.int .i64 0) := hr1.cell 7
    have rf7 := hr1.free 7
    have lr := hr1.lt
    have x0 : (w1).cell? ⟨w.heap.size, 0, none⟩ = some (.int .i64 x.s) := hx1.cell 0
    have xf0 := hx1.free 0
    have x1 : (w1).cell? ⟨w.heap.size, 1, none⟩ = some (.int .i64 x.n) := hx1.cell 1
    have xf1 := hx1.free 1
    have x2 : (w1).cell? ⟨w.heap.size, 2, none⟩ = some (.int .i64 x.b) := hx1.cell 2
    have xf2 := hx1.free 2
    have x3 : (w1).cell? ⟨w.heap.size, 3, none⟩ = some (.int .i64 x.c) := hx1.cell 3
    have xf3 := hx1.free 3
    have x4 : (w1).cell? ⟨w.heap.size, 4, none⟩ = some (.int .i64 x.a) := hx1.cell 4
    have xf4 := hx1.free 4
    have x5 : (w1).cell? ⟨w.heap.size, 5, none⟩ = some (.int .i64 x.r) := hx1.cell 5
    have xf5 := hx1.free 5
    have x6 : (w1).cell? ⟨w.heap.size, 6, none⟩ = some (.int .i64 x.t) := hx1.cell 6
    have xf6 := hx1.free 6
    have x7 : (w1).cell? ⟨w.heap.size, 7, none⟩ = some (.int .i64 x.y) := hx1.cell 7
    have xf7 := hx1.free 7
    have lx := hx1.lt
    clear hb1 hr1 hx1
    go_wp2_with fail
    have hf := blk_set8 (z := zeroI) HR1.out x
    refine bodyPost_ret (v := .tuple #[Itm.v (x), .int .i64 90]) (by simp [results, Try.results13, go_sem, Itm.v, hf.cell 0, hf.cell 1, hf.cell 2, hf.cell 3, hf.cell 4, hf.cell 5, hf.cell 6, hf.cell 7]) rfl ⟨retA HC.out.symm, below_set8 HB.out (Nat.le_succ _) x⟩
set_option maxHeartbeats 1000000 in
theorem settle_any (x : Itm) (w : World) : Calls Try.prog 14 #[x.v] w fun e w' => e = ansI (settleI x) ∧ Below w.heap.size w w' := by
  have HL := Lib.hid (fun w => locked_any x w)
  have HB2 := Lib.hid ((oneB w (.cells #[.int .i64 x.s, .int .i64 x.n, .int .i64 x.b, .int .i64 x.c, .int .i64 x.a, .int .i64 x.r, .int .i64 x.t, .int .i64 x.y] 33)).alloc (by simp) (.cells #[.int .i64 0, .int .i64 0, .int .i64 0, .int .i64 0, .int .i64 0, .int .i64 0, .int .i64 0, .int .i64 0] 33))
  have HR := Lib.hid (Blk.new' (w.alloc (.cells #[.int .i64 x.s, .int .i64 x.n, .int .i64 x.b, .int .i64 x.c, .int .i64 x.a, .int .i64 x.r, .int .i64 x.t, .int .i64 x.y] 33)) #[.int .i64 0, .int .i64 0, .int .i64 0, .int .i64 0, .int .i64 0, .int .i64 0, .int .i64 0, .int .i64 0] 33 (b := w.heap.size + 1) (by simp))
  have HX := Lib.hid ((Blk.new w #[.int .i64 x.s, .int .i64 x.n, .int .i64 x.b, .int .i64 x.c, .int .i64 x.a, .int .i64 x.r, .int .i64 x.t, .int .i64 x.y] 33).alloc (.cells #[.int .i64 0, .int .i64 0, .int .i64 0, .int .i64 0, .int .i64 0, .int .i64 0, .int .i64 0, .int .i64 0] 33))
  by_cases h : x.t = 3 ∧ x.y ≠ 0
  · rw [decide_eq_true h] at HL
    have HC : Hid (settleI x = ({ x with t := 5 }, 0)) := if_pos h
    clear h
    unfold Itm.v at *
    go_enter Try.func14, Try.ntmps14
    go_wp2_with fail
    refine (HL.out _).mono ?_
    rintro z w1 ⟨rfl, hb1⟩
    have hr1 := HR.out.below hb1 HR.out.lt
    have hx1 := HX.out.below hb1 HX.out.lt
    have HB := Lib.hid (HB2.out.trans (hb1.mono HB2.out.size))
    have HR1 := Lib.hid hr1
    have HX1 := Lib.hid hx1
    have r0 : (w1).cell? ⟨w.heap.size + 1, 0, none⟩ = some (.int .i64 0) := hr1.cell 0
    have rf0 := hr1.free 0
    have r1 : (w1).cell? ⟨w.heap.size + 1, 1, none⟩ = some (.int .i64 0) := hr1.cell 1
    have rf1 := hr1.free 1
    have r2 : (w1).cell? ⟨w.heap.size + 1, 2, none⟩ = some (.int .i64 0) := hr1.cell 2
    have rf2 := hr1.free 2
    have r3 : (w1).cell? ⟨w.heap.size + 1, 3, none⟩ = some (.int .i64 0) := hr1.cell 3
    have rf3 := hr1.free 3
    have r4 : (w1).cell? ⟨w.heap.size + 1, 4, none⟩ = some (.int .i64 0) := hr1.cell 4
    have rf4 := hr1.free 4
    have r5 : (w1).cell? ⟨w.heap.size + 1, 5, none⟩ = some (.int .i64 0) := hr1.cell 5
    have rf5 := hr1.free 5
    have r6 : (w1).cell? ⟨w.heap.size + 1, 6, none⟩ = some (.int .i64 0) := hr1.cell 6
    have rf6 := hr1.free 6
    have r7 : (w1).cell? ⟨w.heap.size + 1, 7, none⟩ = some (.int .i64 0) := hr1.cell 7
    have rf7 := hr1.free 7
    have lr := hr1.lt
    have x0 : (w1).cell? ⟨w.heap.size, 0, none⟩ = some (.int .i64 x.s) := hx1.cell 0
    have xf0 := hx1.free 0
    have x1 : (w1).cell? ⟨w.heap.size, 1, none⟩ = some (.int .i64 x.n) := hx1.cell 1
    have xf1 := hx1.free 1
    have x2 : (w1).cell? ⟨w.heap.size, 2, none⟩ = some (.int .i64 x.b) := hx1.cell 2
    have xf2 := hx1.free 2
    have x3 : (w1).cell? ⟨w.heap.size, 3, none⟩ = some (.int .i64 x.c) := hx1.cell 3
    have xf3 := hx1.free 3
    have x4 : (w1).cell? ⟨w.heap.size, 4, none⟩ = some (.int .i64 x.a) := hx1.cell 4
    have xf4 := hx1.free 4
    have x5 : (w1).cell? ⟨w.heap.size, 5, none⟩ = some (.int .i64 x.r) := hx1.cell 5
    have xf5 := hx1.free 5
    have x6 : (w1).cell? ⟨w.heap.size, 6, none⟩ = some (.int .i64 x.t) := hx1.cell 6
    have xf6 := hx1.free 6
    have x7 : (w1).cell? ⟨w.heap.size, 7, none⟩ = some (.int .i64 x.y) := hx1.cell 7
    have xf7 := hx1.free 7
    have lx := hx1.lt
    clear hb1 hr1 hx1
    go_wp2_with fail
    have HR2 := Lib.hid (HR1.out.setOther (a := ⟨w.heap.size, 6, none⟩) (by simp) (.int .i64 5))
    have HB3 := Lib.hid (HB.out.setCell (p := ⟨w.heap.size, 6, none⟩) (Nat.le_refl _) (.int .i64 5))
    have hf := blk_set8 (z := zeroI) HR2.out { x with t := 5 }
    refine bodyPost_ret (v := .tuple #[Itm.v ({ x with t := 5 }), .int .i64 0]) (by simp [results, Try.results14, go_sem, Itm.v, hf.cell 0, hf.cell 1, hf.cell 2, hf.cell 3, hf.cell 4, hf.cell 5, hf.cell 6, hf.cell 7]) rfl ⟨retA HC.out.symm, below_set8 HB3.out (Nat.le_succ _) { x with t := 5 }⟩
  · rw [decide_eq_false h] at HL
    have HC : Hid (settleI x = (x, 90)) := if_neg h
    clear h
    unfold Itm.v at *
    go_enter Try.func14, Try.ntmps14
    go_wp2_with fail
    refine (HL.out _).mono ?_
    rintro z w1 ⟨rfl, hb1⟩
    have hr1 := HR.out.below hb1 HR.out.lt
    have hx1 := HX.out.below hb1 HX.out.lt
    have HB := Lib.hid (HB2.out.trans (hb1.mono HB2.out.size))
    have HR1 := Lib.hid hr1
    have HX1 := Lib.hid hx1
    have r0 : (w1).cell? ⟨w.heap.size + 1, 0, none⟩ = some (.int .i64 0) := hr1.cell 0
    have rf0 := hr1.free 0
    have r1 : (w1).cell? ⟨w.heap.size + 1, 1, none⟩ = some (.int .i64 0) := hr1.cell 1
    have rf1 := hr1.free 1
    have r2 : (w1).cell? ⟨w.heap.size + 1, 2, none⟩ = some (.int .i64 0) := hr1.cell 2
    have rf2 := hr1.free 2
    have r3 : (w1).cell? ⟨w.heap.size + 1, 3, none⟩ = some (.int .i64 0) := hr1.cell 3
    have rf3 := hr1.free 3
    have r4 : (w1).cell? ⟨w.heap.size + 1, 4, none⟩ = some (.int .i64 0) := hr1.cell 4
    have rf4 := hr1.free 4
    have r5 : (w1).cell? ⟨w.heap.size + 1, 5, none⟩ = some (.int .i64 0) := hr1.cell 5
    have rf5 := hr1.free 5
    have r6 : (w1).cell? ⟨w.heap.size + 1, 6, none⟩ = some (.int .i64 0) := hr1.cell 6
    have rf6 := hr1.free 6
    have r7 : (w1).cell? ⟨w.heap.size + 1, 7, none⟩ = some (.int .i64 0) := hr1.cell 7
    have rf7 := hr1.free 7
    have lr := hr1.lt
    have x0 : (w1).cell? ⟨w.heap.size, 0, none⟩ = some (.int .i64 x.s) := hx1.cell 0
    have xf0 := hx1.free 0
    have x1 : (w1).cell? ⟨w.heap.size, 1, none⟩ = some (.int .i64 x.n) := hx1.cell 1
    have xf1 := hx1.free 1
    have x2 : (w1).cell? ⟨w.heap.size, 2, none⟩ = some (.int .i64 x.b) := hx1.cell 2
    have xf2 := hx1.free 2
    have x3 : (w1).cell? ⟨w.heap.size, 3, none⟩ = some (.int .i64 x.c) := hx1.cell 3
    have xf3 := hx1.free 3
    have x4 : (w1).cell? ⟨w.heap.size, 4, none⟩ = some (.int .i64 x.a) := hx1.cell 4
    have xf4 := hx1.free 4
    have x5 : (w1).cell? ⟨w.heap.size, 5, none⟩ = some (.int .i64 x.r) := hx1.cell 5
    have xf5 := hx1.free 5
    have x6 : (w1).cell? ⟨w.heap.size, 6, none⟩ = some (.int .i64 x.t) := hx1.cell 6
    have xf6 := hx1.free 6
    have x7 : (w1).cell? ⟨w.heap.size, 7, none⟩ = some (.int .i64 x.y) := hx1.cell 7
    have xf7 := hx1.free 7
    have lx := hx1.lt
    clear hb1 hr1 hx1
    go_wp2_with fail
    have hf := blk_set8 (z := zeroI) HR1.out x
    refine bodyPost_ret (v := .tuple #[Itm.v (x), .int .i64 90]) (by simp [results, Try.results14, go_sem, Itm.v, hf.cell 0, hf.cell 1, hf.cell 2, hf.cell 3, hf.cell 4, hf.cell 5, hf.cell 6, hf.cell 7]) rfl ⟨retA HC.out.symm, below_set8 HB.out (Nat.le_succ _) x⟩
set_option maxHeartbeats 1000000 in
theorem lock_any (x : Itm) (n : Int) (w : World) : Calls Try.prog 12 #[x.v, .int .i64 n] w fun e w' => e = ansI (lockI x n) ∧ Below w.heap.size w w' := by
  have HB2 : Hid (∀ a b, Below w.heap.size w ((w.alloc a).alloc b)) := fun a b => (oneB w a).alloc (by simp) b
  have HW := Lib.hid (fun w => within_any n 1 1048576 w)
  by_cases h3 : x.t = 3
  · have e3 : (x.t != 3) = false := by simpa using h3
    by_cases h0 : x.y = 0
    · have e0 : (x.y != 0) = false := by simpa using h0
      cases hw : inB n 1 1048576
      · rw [hw] at HW
        have HC : Hid (lockI x n = (x, 1)) := by show _ = _; unfold lockI; rw [if_pos ⟨h3, h0⟩, if_neg (inB_no hw)]
        clear h3 h0 hw
        unfold Itm.v at *
        go_enter Try.func12, Try.ntmps12
        go_wp2_with fail
        refine (HW.out _).mono ?_
        rintro z w1 ⟨rfl, rfl⟩
        go_wp2_with fail
        refine bodyPost_ret (v := .tuple #[Itm.v (x), .int .i64 1]) (by simp [results, Try.results12, go_sem, Itm.v]) rfl ⟨retA HC.out.symm, HB2.out _ _⟩
      · rw [hw] at HW
        have HC : Hid (lockI x n = ({ x with y := n }, 0)) := by show _ = _; unfold lockI; rw [if_pos ⟨h3, h0⟩, if_pos (inB_yes hw)]
        clear h3 h0 hw
        unfold Itm.v at *
        go_enter Try.func12, Try.ntmps12
        go_wp2_with fail
        refine (HW.out _).mono ?_
        rintro z w1 ⟨rfl, rfl⟩
        go_wp2_with fail
        refine bodyPost_ret (v := .tuple #[Itm.v ({ x with y := n }), .int .i64 0]) (by simp [results, Try.results12, go_sem, Itm.v]) rfl ⟨retA HC.out.symm, HB2.out _ _⟩
    · have e0 : (x.y != 0) = true := by simpa using h0
      have HC : Hid (lockI x n = (x, 90)) := if_neg (fun h => h0 h.2)
      clear h3 h0
      unfold Itm.v at *
      go_enter Try.func12, Try.ntmps12
      go_wp2_with fail
      refine bodyPost_ret (v := .tuple #[Itm.v (x), .int .i64 90]) (by simp [results, Try.results12, go_sem, Itm.v]) rfl ⟨retA HC.out.symm, HB2.out _ _⟩
  · have e3 : (x.t != 3) = true := by simpa using h3
    have HC : Hid (lockI x n = (x, 90)) := if_neg (fun h => h3 h.1)
    clear h3
    unfold Itm.v at *
    go_enter Try.func12, Try.ntmps12
    go_wp2_with fail
    refine bodyPost_ret (v := .tuple #[Itm.v (x), .int .i64 90]) (by simp [results, Try.results12, go_sem, Itm.v]) rfl ⟨retA HC.out.symm, HB2.out _ _⟩
set_option maxHeartbeats 1000000 in
theorem adjust_any (x : Itm) (n : Int) (w : World) (hr : F64 (x.r + 1)) : Calls Try.prog 11 #[x.v, .int .i64 n] w fun e w' => e = ansI (adjI x n) ∧ Below w.heap.size w w' := by
  have HB2 : Hid (∀ a b, Below w.heap.size w ((w.alloc a).alloc b)) := fun a b => (oneB w a).alloc (by simp) b
  have HW := Lib.hid (fun w => payable_any n w)
  by_cases h2 : x.t = 2
  · have e2 : (x.t != 2) = false := by simpa using h2
    cases hw : inB n 1 1125899906842624
    · rw [hw] at HW
      have HC : Hid (adjI x n = (x, 1)) := by show _ = _; unfold adjI; rw [if_pos h2, if_neg (inB_no hw)]
      clear h2 hw
      unfold Itm.v at *
      go_enter Try.func11, Try.ntmps11
      go_wp2_with fail
      refine (HW.out _).mono ?_
      rintro z w1 ⟨rfl, rfl⟩
      go_wp2_with fail
      refine bodyPost_ret (v := .tuple #[Itm.v (x), .int .i64 1]) (by simp [results, Try.results11, go_sem, Itm.v]) rfl ⟨retA HC.out.symm, HB2.out _ _⟩
    · rw [hw] at HW
      by_cases h3 : x.r = 3
      · have e3 : (x.r == 3) = true := by simpa using h3
        have HC : Hid (adjI x n = (x, 91)) := by show _ = _; unfold adjI; rw [if_pos h2, if_pos (inB_yes hw), if_pos h3]
        clear h2 h3 hw
        unfold Itm.v at *
        go_enter Try.func11, Try.ntmps11
        go_wp2_with fail
        refine (HW.out _).mono ?_
        rintro z w1 ⟨rfl, rfl⟩
        go_wp2_with fail
        refine bodyPost_ret (v := .tuple #[Itm.v (x), .int .i64 91]) (by simp [results, Try.results11, go_sem, Itm.v]) rfl ⟨retA HC.out.symm, HB2.out _ _⟩
      · have e3 : (x.r == 3) = false := by simpa using h3
        have HC : Hid (adjI x n = ({ x with t := 1, r := x.r + 1, a := n }, 0)) := by show _ = _; unfold adjI; rw [if_pos h2, if_pos (inB_yes hw), if_neg h3]
        have hr1 : wrap64 (x.r + 1) = x.r + 1 := by unfold F64 at hr; unfold wrap64; omega
        clear h2 h3 hw hr
        unfold Itm.v at *
        go_enter Try.func11, Try.ntmps11
        go_wp2_with fail
        refine (HW.out _).mono ?_
        rintro z w1 ⟨rfl, rfl⟩
        go_wp2_with fail
        refine bodyPost_ret (v := .tuple #[Itm.v ({ x with t := 1, r := x.r + 1, a := n }), .int .i64 0]) (by simp [results, Try.results11, go_sem, Itm.v]) rfl ⟨retA HC.out.symm, HB2.out _ _⟩
  · have e2 : (x.t != 2) = true := by simpa using h2
    have HC : Hid (adjI x n = (x, 90)) := if_neg h2
    clear h2 hr
    unfold Itm.v at *
    go_enter Try.func11, Try.ntmps11
    go_wp2_with fail
    refine bodyPost_ret (v := .tuple #[Itm.v (x), .int .i64 90]) (by simp [results, Try.results11, go_sem, Itm.v]) rfl ⟨retA HC.out.symm, HB2.out _ _⟩
end Go.Proofs.Ytpapcpjkaehhoaa
