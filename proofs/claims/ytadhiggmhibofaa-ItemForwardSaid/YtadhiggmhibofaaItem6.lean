/- contralaw09.act, contraref09.Act, Check by contract. -/
import Derived.Test.YtadhiggmhibofaaItem5
namespace Go.Proofs.Ytadhiggmhibofaa
open Go.RowKit
set_option maxHeartbeats 2000000 in
theorem act_any (x : Itm) (k n : Int) (w : World) (hr : F64 (x.r + 1)) : Calls Try.prog 11 #[x.v, .int .i64 k, .int .i64 n] w fun e w' => e = ansI (actI x k n) ∧ Below w.heap.size w w' := by
  have HB2 := Lib.hid ((oneB w (.cells #[.int .i64 x.s, .int .i64 x.n, .int .i64 x.b, .int .i64 x.c, .int .i64 x.a, .int .i64 x.r, .int .i64 x.t, .int .i64 x.y] 25)).alloc (by simp) (.cells #[.int .i64 0, .int .i64 0, .int .i64 0, .int .i64 0, .int .i64 0, .int .i64 0, .int .i64 0, .int .i64 0] 25))
  have HR := Lib.hid (Blk.new' (w.alloc (.cells #[.int .i64 x.s, .int .i64 x.n, .int .i64 x.b, .int .i64 x.c, .int .i64 x.a, .int .i64 x.r, .int .i64 x.t, .int .i64 x.y] 25)) #[.int .i64 0, .int .i64 0, .int .i64 0, .int .i64 0, .int .i64 0, .int .i64 0, .int .i64 0, .int .i64 0] 25 (b := w.heap.size + 1) (by simp))
  have HX := Lib.hid ((Blk.new w #[.int .i64 x.s, .int .i64 x.n, .int .i64 x.b, .int .i64 x.c, .int .i64 x.a, .int .i64 x.r, .int .i64 x.t, .int .i64 x.y] 25).alloc (.cells #[.int .i64 0, .int .i64 0, .int .i64 0, .int .i64 0, .int .i64 0, .int .i64 0, .int .i64 0, .int .i64 0] 25))
  by_cases h1 : k = 1
  · subst h1
    rw [show actI x 1 n = turnI x 1 2 from rfl]
    have HT := Lib.hid (fun w => dispute_any x w)
    clear hr
    generalize turnI x 1 2 = q at HT ⊢
    obtain ⟨y, e⟩ := q
    unfold ansI Itm.v at *
    dsimp only at *
    go_enter Try.func11, Try.ntmps11
    go_wp2_with fail
    refine (HT.out _).mono ?_
    rintro z w1 ⟨rfl, hb1⟩
    have hr1 := HR.out.below hb1 HR.out.lt
    have hx1 := HX.out.below hb1 HX.out.lt
    have HB := Lib.hid (HB2.out.trans (hb1.mono HB2.out.size))
    have HR1 := Lib.hid hr1
    have HX1 := Lib.hid hx1
    have r0 : (w1).cell? ⟨w.heap.size + 1, 0, none⟩ = some (.int .i64 0) := hr1.cell 0
    have rf0 := hr1.free 0
    have r1 : (w1).cell? ⟨w.heap.size + 1, 1, none⟩ = some (.int .i64 0) := hr1.cell 1
    have rf1 := hr1.free 1
    have r2 : (w1).cell? ⟨w.heap.size + 1, 2, none⟩ = some (.int .i64 0) := hr1.cell 2
    have rf2 := hr1.free 2
    have r3 : (w1).cell? ⟨w.heap.size + 1, 3, none⟩ = some (.int .i64 0) := hr1.cell 3
    have rf3 := hr1.free 3
    have r4 : (w1).cell? ⟨w.heap.size + 1, 4, none⟩ = some (.int .i64 0) := hr1.cell 4
    have rf4 := hr1.free 4
    have r5 : (w1).cell? ⟨w.heap.size + 1, 5, none⟩ = some (.int .i64 0) := hr1.cell 5
    have rf5 := hr1.free 5
    have r6 : (w1).cell? ⟨w.heap.size + 1, 6, none⟩ = some (.int .i64 0) := hr1.cell 6
    have rf6 := hr1.free 6
    have r7 : (w1).cell? ⟨w.heap.size + 1, 7, none⟩ = some (.int .i64 0) := hr1.cell 7
    have rf7 := hr1.free 7
    have lr := hr1.lt
    clear hb1 hr1 hx1
    go_wp2_with fail
    have hf := blk_set8 (z := zeroI) HR1.out y
    refine bodyPost_ret (v := .tuple #[Itm.v (y), .int .i64 e]) (by simp [results, Try.results11, go_sem, Itm.v, hf.cell 0, hf.cell 1, hf.cell 2, hf.cell 3, hf.cell 4, hf.cell 5, hf.cell 6, hf.cell 7]) rfl ⟨rfl, below_set8 HB.out (Nat.le_succ _) y⟩
  by_cases h2 : k = 2
  · subst h2
    rw [show actI x 2 n = turnI x 1 3 from rfl]
    have HT := Lib.hid (fun w => agree_any x w)
    clear hr h1
    generalize turnI x 1 3 = q at HT ⊢
    obtain ⟨y, e⟩ := q
    unfold ansI Itm.v at *
    dsimp only at *
    go_enter Try.func11, Try.ntmps11
    go_wp2_with fail
    refine (HT.out _).mono ?_
    rintro z w1 ⟨rfl, hb1⟩
    have hr1 := HR.out.below hb1 HR.out.lt
    have hx1 := HX.out.below hb1 HX.out.lt
    have HB := Lib.hid (HB2.out.trans (hb1.mono HB2.out.size))
    have HR1 := Lib.hid hr1
    have HX1 := Lib.hid hx1
    have r0 : (w1).cell? ⟨w.heap.size + 1, 0, none⟩ = some (.int .i64 0) := hr1.cell 0
    have rf0 := hr1.free 0
    have r1 : (w1).cell? ⟨w.heap.size + 1, 1, none⟩ = some (.int .i64 0) := hr1.cell 1
    have rf1 := hr1.free 1
    have r2 : (w1).cell? ⟨w.heap.size + 1, 2, none⟩ = some (.int .i64 0) := hr1.cell 2
    have rf2 := hr1.free 2
    have r3 : (w1).cell? ⟨w.heap.size + 1, 3, none⟩ = some (.int .i64 0) := hr1.cell 3
    have rf3 := hr1.free 3
    have r4 : (w1).cell? ⟨w.heap.size + 1, 4, none⟩ = some (.int .i64 0) := hr1.cell 4
    have rf4 := hr1.free 4
    have r5 : (w1).cell? ⟨w.heap.size + 1, 5, none⟩ = some (.int .i64 0) := hr1.cell 5
    have rf5 := hr1.free 5
    have r6 : (w1).cell? ⟨w.heap.size + 1, 6, none⟩ = some (.int .i64 0) := hr1.cell 6
    have rf6 := hr1.free 6
    have r7 : (w1).cell? ⟨w.heap.size + 1, 7, none⟩ = some (.int .i64 0) := hr1.cell 7
    have rf7 := hr1.free 7
    have lr := hr1.lt
    clear hb1 hr1 hx1
    go_wp2_with fail
    have hf := blk_set8 (z := zeroI) HR1.out y
    refine bodyPost_ret (v := .tuple #[Itm.v (y), .int .i64 e]) (by simp [results, Try.results11, go_sem, Itm.v, hf.cell 0, hf.cell 1, hf.cell 2, hf.cell 3, hf.cell 4, hf.cell 5, hf.cell 6, hf.cell 7]) rfl ⟨rfl, below_set8 HB.out (Nat.le_succ _) y⟩
  by_cases h3 : k = 3
  · subst h3
    rw [show actI x 3 n = turnI x 2 4 from rfl]
    have HT := Lib.hid (fun w => cancel_any x w)
    clear hr h1 h2
    generalize turnI x 2 4 = q at HT ⊢
    obtain ⟨y, e⟩ := q
    unfold ansI Itm.v at *
    dsimp only at *
    go_enter Try.func11, Try.ntmps11
    go_wp2_with fail
    refine (HT.out _).mono ?_
    rintro z w1 ⟨rfl, hb1⟩
    have hr1 := HR.out.below hb1 HR.out.lt
    have hx1 := HX.out.below hb1 HX.out.lt
    have HB := Lib.hid (HB2.out.trans (hb1.mono HB2.out.size))
    have HR1 := Lib.hid hr1
    have HX1 := Lib.hid hx1
    have r0 : (w1).cell? ⟨w.heap.size + 1, 0, none⟩ = some (.int .i64 0) := hr1.cell 0
    have rf0 := hr1.free 0
    have r1 : (w1).cell? ⟨w.heap.size + 1, 1, none⟩ = some (.int .i64 0) := hr1.cell 1
    have rf1 := hr1.free 1
    have r2 : (w1).cell? ⟨w.heap.size + 1, 2, none⟩ = some (.int .i64 0) := hr1.cell 2
    have rf2 := hr1.free 2
    have r3 : (w1).cell? ⟨w.heap.size + 1, 3, none⟩ = some (.int .i64 0) := hr1.cell 3
    have rf3 := hr1.free 3
    have r4 : (w1).cell? ⟨w.heap.size + 1, 4, none⟩ = some (.int .i64 0) := hr1.cell 4
    have rf4 := hr1.free 4
    have r5 : (w1).cell? ⟨w.heap.size + 1, 5, none⟩ = some (.int .i64 0) := hr1.cell 5
    have rf5 := hr1.free 5
    have r6 : (w1).cell? ⟨w.heap.size + 1, 6, none⟩ = some (.int .i64 0) := hr1.cell 6
    have rf6 := hr1.free 6
    have r7 : (w1).cell? ⟨w.heap.size + 1, 7, none⟩ = some (.int .i64 0) := hr1.cell 7
    have rf7 := hr1.free 7
    have lr := hr1.lt
    clear hb1 hr1 hx1
    go_wp2_with fail
    have hf := blk_set8 (z := zeroI) HR1.out y
    refine bodyPost_ret (v := .tuple #[Itm.v (y), .int .i64 e]) (by simp [results, Try.results11, go_sem, Itm.v, hf.cell 0, hf.cell 1, hf.cell 2, hf.cell 3, hf.cell 4, hf.cell 5, hf.cell 6, hf.cell 7]) rfl ⟨rfl, below_set8 HB.out (Nat.le_succ _) y⟩
  by_cases h4 : k = 4
  · subst h4
    rw [show actI x 4 n = adjI x n from rfl]
    have HT := Lib.hid (fun w => adjust_any x n w hr)
    clear hr h1 h2 h3
    generalize adjI x n = q at HT ⊢
    obtain ⟨y, e⟩ := q
    unfold ansI Itm.v at *
    dsimp only at *
    go_enter Try.func11, Try.ntmps11
    go_wp2_with fail
    refine (HT.out _).mono ?_
    rintro z w1 ⟨rfl, hb1⟩
    have hr1 := HR.out.below hb1 HR.out.lt
    have hx1 := HX.out.below hb1 HX.out.lt
    have HB := Lib.hid (HB2.out.trans (hb1.mono HB2.out.size))
    have HR1 := Lib.hid hr1
    have HX1 := Lib.hid hx1
    have r0 : (w1).cell? ⟨w.heap.size + 1, 0, none⟩ = some (.int .i64 0) := hr1.cell 0
    have rf0 := hr1.free 0
    have r1 : (w1).cell? ⟨w.heap.size + 1, 1, none⟩ = some (.int .i64 0) := hr1.cell 1
    have rf1 := hr1.free 1
    have r2 : (w1).cell? ⟨w.heap.size + 1, 2, none⟩ = some (.int .i64 0) := hr1.cell 2
    have rf2 := hr1.free 2
    have r3 : (w1).cell? ⟨w.heap.size + 1, 3, none⟩ = some (.int .i64 0) := hr1.cell 3
    have rf3 := hr1.free 3
    have r4 : (w1).cell? ⟨w.heap.size + 1, 4, none⟩ = some (.int .i64 0) := hr1.cell 4
    have rf4 := hr1.free 4
    have r5 : (w1).cell? ⟨w.heap.size + 1, 5, none⟩ = some (.int .i64 0) := hr1.cell 5
    have rf5 := hr1.free 5
    have r6 : (w1).cell? ⟨w.heap.size + 1, 6, none⟩ = some (.int .i64 0) := hr1.cell 6
    have rf6 := hr1.free 6
    have r7 : (w1).cell? ⟨w.heap.size + 1, 7, none⟩ = some (.int .i64 0) := hr1.cell 7
    have rf7 := hr1.free 7
    have lr := hr1.lt
    clear hb1 hr1 hx1
    go_wp2_with fail
    have hf := blk_set8 (z := zeroI) HR1.out y
    refine bodyPost_ret (v := .tuple #[Itm.v (y), .int .i64 e]) (by simp [results, Try.results11, go_sem, Itm.v, hf.cell 0, hf.cell 1, hf.cell 2, hf.cell 3, hf.cell 4, hf.cell 5, hf.cell 6, hf.cell 7]) rfl ⟨rfl, below_set8 HB.out (Nat.le_succ _) y⟩
  by_cases h5 : k = 5
  · subst h5
    rw [show actI x 5 n = lockI x n from rfl]
    have HT := Lib.hid (fun w => lock_any x n w)
    clear hr h1 h2 h3 h4
    generalize lockI x n = q at HT ⊢
    obtain ⟨y, e⟩ := q
    unfold ansI Itm.v at *
    dsimp only at *
    go_enter Try.func11, Try.ntmps11
    go_wp2_with fail
    refine (HT.out _).mono ?_
    rintro z w1 ⟨rfl, hb1⟩
    have hr1 := HR.out.below hb1 HR.out.lt
    have hx1 := HX.out.below hb1 HX.out.lt
    have HB := Lib.hid (HB2.out.trans (hb1.mono HB2.out.size))
    have HR1 := Lib.hid hr1
    have HX1 := Lib.hid hx1
    have r0 : (w1).cell? ⟨w.heap.size + 1, 0, none⟩ = some (.int .i64 0) := hr1.cell 0
    have rf0 := hr1.free 0
    have r1 : (w1).cell? ⟨w.heap.size + 1, 1, none⟩ = some (.int .i64 0) := hr1.cell 1
    have rf1 := hr1.free 1
    have r2 : (w1).cell? ⟨w.heap.size + 1, 2, none⟩ = some (.int .i64 0) := hr1.cell 2
    have rf2 := hr1.free 2
    have r3 : (w1).cell? ⟨w.heap.size + 1, 3, none⟩ = some (.int .i64 0) := hr1.cell 3
    have rf3 := hr1.free 3
    have r4 : (w1).cell? ⟨w.heap.size + 1, 4, none⟩ = some (.int .i64 0) := hr1.cell 4
    have rf4 := hr1.free 4
    have r5 : (w1).cell? ⟨w.heap.size + 1, 5, none⟩ = some (.int .i64 0) := hr1.cell 5
    have rf5 := hr1.free 5
    have r6 : (w1).cell? ⟨w.heap.size + 1, 6, none⟩ = some (.int .i64 0) := hr1.cell 6
    have rf6 := hr1.free 6
    have r7 : (w1).cell? ⟨w.heap.size + 1, 7, none⟩ = some (.int .i64 0) := hr1.cell 7
    have rf7 := hr1.free 7
    have lr := hr1.lt
    clear hb1 hr1 hx1
    go_wp2_with fail
    have hf := blk_set8 (z := zeroI) HR1.out y
    refine bodyPost_ret (v := .tuple #[Itm.v (y), .int .i64 e]) (by simp [results, Try.results11, go_sem, Itm.v, hf.cell 0, hf.cell 1, hf.cell 2, hf.cell 3, hf.cell 4, hf.cell 5, hf.cell 6, hf.cell 7]) rfl ⟨rfl, below_set8 HB.out (Nat.le_succ _) y⟩
  by_cases h6 : k = 6
  · subst h6
    rw [show actI x 6 n = freeI x from rfl]
    have HT := Lib.hid (fun w => free_any x w)
    clear hr h1 h2 h3 h4 h5
    generalize freeI x = q at HT ⊢
    obtain ⟨y, e⟩ := q
    unfold ansI Itm.v at *
    dsimp only at *
    go_enter Try.func11, Try.ntmps11
    go_wp2_with fail
    refine (HT.out _).mono ?_
    rintro z w1 ⟨rfl, hb1⟩
    have hr1 := HR.out.below hb1 HR.out.lt
    have hx1 := HX.out.below hb1 HX.out.lt
    have HB := Lib.hid (HB2.out.trans (hb1.mono HB2.out.size))
    have HR1 := Lib.hid hr1
    have HX1 := Lib.hid hx1
    have r0 : (w1).cell? ⟨w.heap.size + 1, 0, none⟩ = some (.int .i64 0) := hr1.cell 0
    have rf0 := hr1.free 0
    have r1 : (w1).cell? ⟨w.heap.size + 1, 1, none⟩ = some (.int .i64 0) := hr1.cell 1
    have rf1 := hr1.free 1
    have r2 : (w1).cell? ⟨w.heap.size + 1, 2, none⟩ = some (.int .i64 0) := hr1.cell 2
    have rf2 := hr1.free 2
    have r3 : (w1).cell? ⟨w.heap.size + 1, 3, none⟩ = some (.int .i64 0) := hr1.cell 3
    have rf3 := hr1.free 3
    have r4 : (w1).cell? ⟨w.heap.size + 1, 4, none⟩ = some (.int .i64 0) := hr1.cell 4
    have rf4 := hr1.free 4
    have r5 : (w1).cell? ⟨w.heap.size + 1, 5, none⟩ = some (.int .i64 0) := hr1.cell 5
    have rf5 := hr1.free 5
    have r6 : (w1).cell? ⟨w.heap.size + 1, 6, none⟩ = some (.int .i64 0) := hr1.cell 6
    have rf6 := hr1.free 6
    have r7 : (w1).cell? ⟨w.heap.size + 1, 7, none⟩ = some (.int .i64 0) := hr1.cell 7
    have rf7 := hr1.free 7
    have lr := hr1.lt
    clear hb1 hr1 hx1
    go_wp2_with fail
    have hf := blk_set8 (z := zeroI) HR1.out y
    refine bodyPost_ret (v := .tuple #[Itm.v (y), .int .i64 e]) (by simp [results, Try.results11, go_sem, Itm.v, hf.cell 0, hf.cell 1, hf.cell 2, hf.cell 3, hf.cell 4, hf.cell 5, hf.cell 6, hf.cell 7]) rfl ⟨rfl, below_set8 HB.out (Nat.le_succ _) y⟩
  by_cases h7 : k = 7
  · subst h7
    rw [show actI x 7 n = settleI x from rfl]
    have HT := Lib.hid (fun w => settle_any x w)
    clear hr h1 h2 h3 h4 h5 h6
    generalize settleI x = q at HT ⊢
    obtain ⟨y, e⟩ := q
    unfold ansI Itm.v at *
    dsimp only at *
    go_enter Try.func11, Try.ntmps11
    go_wp2_with fail
    refine (HT.out _).mono ?_
    rintro z w1 ⟨rfl, hb1⟩
    have hr1 := HR.out.below hb1 HR.out.lt
    have hx1 := HX.out.below hb1 HX.out.lt
    have HB := Lib.hid (HB2.out.trans (hb1.mono HB2.out.size))
    have HR1 := Lib.hid hr1
    have HX1 := Lib.hid hx1
    have r0 : (w1).cell? ⟨w.heap.size + 1, 0, none⟩ = some (.int .i64 0) := hr1.cell 0
    have rf0 := hr1.free 0
    have r1 : (w1).cell? ⟨w.heap.size + 1, 1, none⟩ = some (.int .i64 0) := hr1.cell 1
    have rf1 := hr1.free 1
    have r2 : (w1).cell? ⟨w.heap.size + 1, 2, none⟩ = some (.int .i64 0) := hr1.cell 2
    have rf2 := hr1.free 2
    have r3 : (w1).cell? ⟨w.heap.size + 1, 3, none⟩ = some (.int .i64 0) := hr1.cell 3
    have rf3 := hr1.free 3
    have r4 : (w1).cell? ⟨w.heap.size + 1, 4, none⟩ = some (.int .i64 0) := hr1.cell 4
    have rf4 := hr1.free 4
    have r5 : (w1).cell? ⟨w.heap.size + 1, 5, none⟩ = some (.int .i64 0) := hr1.cell 5
    have rf5 := hr1.free 5
    have r6 : (w1).cell? ⟨w.heap.size + 1, 6, none⟩ = some (.int .i64 0) := hr1.cell 6
    have rf6 := hr1.free 6
    have r7 : (w1).cell? ⟨w.heap.size + 1, 7, none⟩ = some (.int .i64 0) := hr1.cell 7
    have rf7 := hr1.free 7
    have lr := hr1.lt
    clear hb1 hr1 hx1
    go_wp2_with fail
    have hf := blk_set8 (z := zeroI) HR1.out y
    refine bodyPost_ret (v := .tuple #[Itm.v (y), .int .i64 e]) (by simp [results, Try.results11, go_sem, Itm.v, hf.cell 0, hf.cell 1, hf.cell 2, hf.cell 3, hf.cell 4, hf.cell 5, hf.cell 6, hf.cell 7]) rfl ⟨rfl, below_set8 HB.out (Nat.le_succ _) y⟩
  have HC : Hid (actI x k n = (x, 0)) := by show _ = _; unfold actI; rw [if_neg h1, if_neg h2, if_neg h3, if_neg h4, if_neg h5, if_neg h6, if_neg h7]
  have e1 : (k == 1) = false := by simpa using h1
  have e2 : (k == 2) = false := by simpa using h2
  have e3 : (k == 3) = false := by simpa using h3
  have e4 : (k == 4) = false := by simpa using h4
  have e5 : (k == 5) = false := by simpa using h5
  have e6 : (k == 6) = false := by simpa using h6
  have e7 : (k == 7) = false := by simpa using h7
  clear h1 h2 h3 h4 h5 h6 h7 hr HR HX HB2
  have HB2 : Hid (∀ a b, Below w.heap.size w ((w.alloc a).alloc b)) := fun a b => (oneB w a).alloc (by simp) b
  unfold Itm.v at *
  go_enter Try.func11, Try.ntmps11
  go_wp2_with fail
  refine bodyPost_ret (v := .tuple #[Itm.v x, .int .i64 0]) (by simp [results, Try.results11, go_sem, Itm.v]) rfl ⟨retA HC.out.symm, HB2.out _ _⟩
set_option maxHeartbeats 4000000 in
theorem refact_any (x : Itm) (k n : Int) (w : World) (hr : F64 (x.r + 1)) : Calls Try.prog 12 #[x.v, .int .i64 k, .int .i64 n] w fun e w' => e = ansI (actI x k n) ∧ Below w.heap.size w w' := by
  have HB2 : Hid (∀ a b, Below w.heap.size w ((w.alloc a).alloc b)) := fun a b => (oneB w a).alloc (by simp) b
  by_cases h1 : k = 1
  · subst h1
    rw [show actI x 1 n = turnI x 1 2 from rfl]
    clear hr
    by_cases ht : x.t = 1
    · have HC : Hid (turnI x 1 2 = ({ x with t := 2 }, 0)) := if_pos ht
      have et : (x.t != 1) = false := by simpa using ht
      clear ht
      unfold Itm.v at *
      go_enter Try.func12, Try.ntmps12
      go_wp2_with fail
      refine bodyPost_ret (v := .tuple #[Itm.v ({ x with t := 2 }), .int .i64 0]) (by simp [results, Try.results12, go_sem, Itm.v]) rfl ⟨retA HC.out.symm, HB2.out _ _⟩
    · have HC : Hid (turnI x 1 2 = (x, 90)) := if_neg ht
      have et : (x.t != 1) = true := by simpa using ht
      clear ht
      unfold Itm.v at *
      go_enter Try.func12, Try.ntmps12
      go_wp2_with fail
      refine bodyPost_ret (v := .tuple #[Itm.v (x), .int .i64 90]) (by simp [results, Try.results12, go_sem, Itm.v]) rfl ⟨retA HC.out.symm, HB2.out _ _⟩
  by_cases h2 : k = 2
  · subst h2
    rw [show actI x 2 n = turnI x 1 3 from rfl]
    clear hr h1
    by_cases ht : x.t = 1
    · have HC : Hid (turnI x 1 3 = ({ x with t := 3 }, 0)) := if_pos ht
      have et : (x.t != 1) = false := by simpa using ht
      clear ht
      unfold Itm.v at *
      go_enter Try.func12, Try.ntmps12
      go_wp2_with fail
      refine bodyPost_ret (v := .tuple #[Itm.v ({ x with t := 3 }), .int .i64 0]) (by simp [results, Try.results12, go_sem, Itm.v]) rfl ⟨retA HC.out.symm, HB2.out _ _⟩
    · have HC : Hid (turnI x 1 3 = (x, 90)) := if_neg ht
      have et : (x.t != 1) = true := by simpa using ht
      clear ht
      unfold Itm.v at *
      go_enter Try.func12, Try.ntmps12
      go_wp2_with fail
      refine bodyPost_ret (v := .tuple #[Itm.v (x), .int .i64 90]) (by simp [results, Try.results12, go_sem, Itm.v]) rfl ⟨retA HC.out.symm, HB2.out _ _⟩
  by_cases h3 : k = 3
  · subst h3
    rw [show actI x 3 n = turnI x 2 4 from rfl]
    clear hr h1 h2
    by_cases ht : x.t = 2
    · have HC : Hid (turnI x 2 4 = ({ x with t := 4 }, 0)) := if_pos ht
      have et : (x.t != 2) = false := by simpa using ht
      clear ht
      unfold Itm.v at *
      go_enter Try.func12, Try.ntmps12
      go_wp2_with fail
      refine bodyPost_ret (v := .tuple #[Itm.v ({ x with t := 4 }), .int .i64 0]) (by simp [results, Try.results12, go_sem, Itm.v]) rfl ⟨retA HC.out.symm, HB2.out _ _⟩
    · have HC : Hid (turnI x 2 4 = (x, 90)) := if_neg ht
      have et : (x.t != 2) = true := by simpa using ht
      clear ht
      unfold Itm.v at *
      go_enter Try.func12, Try.ntmps12
      go_wp2_with fail
      refine bodyPost_ret (v := .tuple #[Itm.v (x), .int .i64 90]) (by simp [results, Try.results12, go_sem, Itm.v]) rfl ⟨retA HC.out.symm, HB2.out _ _⟩
  by_cases h4 : k = 4
  · subst h4
    rw [show actI x 4 n = adjI x n from rfl]
    have HW := Lib.hid (fun w => ref_in_any n 1 1125899906842624 w)
    clear h1 h2 h3
    by_cases ht : x.t = 2
    · have et : (x.t != 2) = false := by simpa using ht
      cases hw : inB n 1 1125899906842624
      · rw [hw] at HW
        have HC : Hid (adjI x n = (x, 1)) := by show _ = _; unfold adjI; rw [if_pos ht, if_neg (inB_no hw)]
        clear ht hw hr
        unfold Itm.v at *
        go_enter Try.func12, Try.ntmps12
        go_wp2_with fail
        refine (HW.out _).mono ?_
        rintro z w1 ⟨rfl, rfl⟩
        go_wp2_with fail
        refine bodyPost_ret (v := .tuple #[Itm.v (x), .int .i64 1]) (by simp [results, Try.results12, go_sem, Itm.v]) rfl ⟨retA HC.out.symm, HB2.out _ _⟩
      · rw [hw] at HW
        by_cases h3 : x.r = 3
        · have e3 : (x.r == 3) = true := by simpa using h3
          have HC : Hid (adjI x n = (x, 91)) := by show _ = _; unfold adjI; rw [if_pos ht, if_pos (inB_yes hw), if_pos h3]
          clear ht h3 hw hr
          unfold Itm.v at *
          go_enter Try.func12, Try.ntmps12
          go_wp2_with fail
          refine (HW.out _).mono ?_
          rintro z w1 ⟨rfl, rfl⟩
          go_wp2_with fail
          refine bodyPost_ret (v := .tuple #[Itm.v (x), .int .i64 91]) (by simp [results, Try.results12, go_sem, Itm.v]) rfl ⟨retA HC.out.symm, HB2.out _ _⟩
        · have e3 : (x.r == 3) = false := by simpa using h3
          have HC : Hid (adjI x n = ({ x with t := 1, r := x.r + 1, a := n }, 0)) := by show _ = _; unfold adjI; rw [if_pos ht, if_pos (inB_yes hw), if_neg h3]
          have hr1 : wrap64 (x.r + 1) = x.r + 1 := by unfold F64 at hr; unfold wrap64; omega
          clear ht h3 hw hr
          unfold Itm.v at *
          go_enter Try.func12, Try.ntmps12
          go_wp2_with fail
          refine (HW.out _).mono ?_
          rintro z w1 ⟨rfl, rfl⟩
          go_wp2_with fail
          refine bodyPost_ret (v := .tuple #[Itm.v ({ x with t := 1, r := x.r + 1, a := n }), .int .i64 0]) (by simp [results, Try.results12, go_sem, Itm.v]) rfl ⟨retA HC.out.symm, HB2.out _ _⟩
    · have et : (x.t != 2) = true := by simpa using ht
      have HC : Hid (adjI x n = (x, 90)) := if_neg ht
      clear ht hr
      unfold Itm.v at *
      go_enter Try.func12, Try.ntmps12
      go_wp2_with fail
      refine bodyPost_ret (v := .tuple #[Itm.v (x), .int .i64 90]) (by simp [results, Try.results12, go_sem, Itm.v]) rfl ⟨retA HC.out.symm, HB2.out _ _⟩
  clear hr
  by_cases h5 : k = 5
  · subst h5
    rw [show actI x 5 n = lockI x n from rfl]
    have HW := Lib.hid (fun w => ref_in_any n 1 1048576 w)
    clear h1 h2 h3 h4
    by_cases h3 : x.t = 3
    · have e3 : (x.t != 3) = false := by simpa using h3
      by_cases h0 : x.y = 0
      · have e0 : (x.y != 0) = false := by simpa using h0
        cases hw : inB n 1 1048576
        · rw [hw] at HW
          have HC : Hid (lockI x n = (x, 1)) := by show _ = _; unfold lockI; rw [if_pos ⟨h3, h0⟩, if_neg (inB_no hw)]
          clear h3 h0 hw
          unfold Itm.v at *
          go_enter Try.func12, Try.ntmps12
          go_wp2_with fail
          refine (HW.out _).mono ?_
          rintro z w1 ⟨rfl, rfl⟩
          go_wp2_with fail
          refine bodyPost_ret (v := .tuple #[Itm.v (x), .int .i64 1]) (by simp [results, Try.results12, go_sem, Itm.v]) rfl ⟨retA HC.out.symm, HB2.out _ _⟩
        · rw [hw] at HW
          have HC : Hid (lockI x n = ({ x with y := n }, 0)) := by show _ = _; unfold lockI; rw [if_pos ⟨h3, h0⟩, if_pos (inB_yes hw)]
          clear h3 h0 hw
          unfold Itm.v at *
          go_enter Try.func12, Try.ntmps12
          go_wp2_with fail
          refine (HW.out _).mono ?_
          rintro z w1 ⟨rfl, rfl⟩
          go_wp2_with fail
          refine bodyPost_ret (v := .tuple #[Itm.v ({ x with y := n }), .int .i64 0]) (by simp [results, Try.results12, go_sem, Itm.v]) rfl ⟨retA HC.out.symm, HB2.out _ _⟩
      · have e0 : (x.y != 0) = true := by simpa using h0
        have HC : Hid (lockI x n = (x, 90)) := if_neg (fun h => h0 h.2)
        clear h3 h0 HW
        unfold Itm.v at *
        go_enter Try.func12, Try.ntmps12
        go_wp2_with fail
        refine bodyPost_ret (v := .tuple #[Itm.v (x), .int .i64 90]) (by simp [results, Try.results12, go_sem, Itm.v]) rfl ⟨retA HC.out.symm, HB2.out _ _⟩
    · have e3 : (x.t != 3) = true := by simpa using h3
      have HC : Hid (lockI x n = (x, 90)) := if_neg (fun h => h3 h.1)
      clear h3 HW
      unfold Itm.v at *
      go_enter Try.func12, Try.ntmps12
      go_wp2_with fail
      refine bodyPost_ret (v := .tuple #[Itm.v (x), .int .i64 90]) (by simp [results, Try.results12, go_sem, Itm.v]) rfl ⟨retA HC.out.symm, HB2.out _ _⟩
  by_cases h6 : k = 6
  · subst h6
    rw [show actI x 6 n = freeI x from rfl]
    clear h1 h2 h3 h4 h5
    by_cases h3 : x.t = 3
    · have e3 : (x.t != 3) = false := by simpa using h3
      by_cases h0 : x.y = 0
      · have e0 : (x.y == 0) = true := by simpa using h0
        have HC : Hid (freeI x = (x, 90)) := if_neg (fun h => h.2 h0)
        clear h3 h0
        unfold Itm.v at *
        go_enter Try.func12, Try.ntmps12
        go_wp2_with fail
        refine bodyPost_ret (v := .tuple #[Itm.v (x), .int .i64 90]) (by simp [results, Try.results12, go_sem, Itm.v]) rfl ⟨retA HC.out.symm, HB2.out _ _⟩
      · have e0 : (x.y == 0) = false := by simpa using h0
        have HC : Hid (freeI x = ({ x with y := 0 }, 0)) := if_pos ⟨h3, h0⟩
        clear h3 h0
        unfold Itm.v at *
        go_enter Try.func12, Try.ntmps12
        go_wp2_with fail
        refine bodyPost_ret (v := .tuple #[Itm.v ({ x with y := 0 }), .int .i64 0]) (by simp [results, Try.results12, go_sem, Itm.v]) rfl ⟨retA HC.out.symm, HB2.out _ _⟩
    · have e3 : (x.t != 3) = true := by simpa using h3
      have HC : Hid (freeI x = (x, 90)) := if_neg (fun h => h3 h.1)
      clear h3
      unfold Itm.v at *
      go_enter Try.func12, Try.ntmps12
      go_wp2_with fail
      refine bodyPost_ret (v := .tuple #[Itm.v (x), .int .i64 90]) (by simp [results, Try.results12, go_sem, Itm.v]) rfl ⟨retA HC.out.symm, HB2.out _ _⟩
  by_cases h7 : k = 7
  · subst h7
    rw [show actI x 7 n = settleI x from rfl]
    clear h1 h2 h3 h4 h5 h6
    by_cases h3 : x.t = 3
    · have e3 : (x.t != 3) = false := by simpa using h3
      by_cases h0 : x.y = 0
      · have e0 : (x.y == 0) = true := by simpa using h0
        have HC : Hid (settleI x = (x, 90)) := if_neg (fun h => h.2 h0)
        clear h3 h0
        unfold Itm.v at *
        go_enter Try.func12, Try.ntmps12
        go_wp2_with fail
        refine bodyPost_ret (v := .tuple #[Itm.v (x), .int .i64 90]) (by simp [results, Try.results12, go_sem, Itm.v]) rfl ⟨retA HC.out.symm, HB2.out _ _⟩
      · have e0 : (x.y == 0) = false := by simpa using h0
        have HC : Hid (settleI x = ({ x with t := 5 }, 0)) := if_pos ⟨h3, h0⟩
        clear h3 h0
        unfold Itm.v at *
        go_enter Try.func12, Try.ntmps12
        go_wp2_with fail
        refine bodyPost_ret (v := .tuple #[Itm.v ({ x with t := 5 }), .int .i64 0]) (by simp [results, Try.results12, go_sem, Itm.v]) rfl ⟨retA HC.out.symm, HB2.out _ _⟩
    · have e3 : (x.t != 3) = true := by simpa using h3
      have HC : Hid (settleI x = (x, 90)) := if_neg (fun h => h3 h.1)
      clear h3
      unfold Itm.v at *
      go_enter Try.func12, Try.ntmps12
      go_wp2_with fail
      refine bodyPost_ret (v := .tuple #[Itm.v (x), .int .i64 90]) (by simp [results, Try.results12, go_sem, Itm.v]) rfl ⟨retA HC.out.symm, HB2.out _ _⟩
  have HC : Hid (actI x k n = (x, 0)) := by show _ = _; unfold actI; rw [if_neg h1, if_neg h2, if_neg h3, if_neg h4, if_neg h5, if_neg h6, if_neg h7]
  have e1 : (k == 1) = false := by simpa using h1
  have e2 : (k == 2) = false := by simpa using h2
  have e3 : (k == 3) = false := by simpa using h3
  have e4 : (k == 4) = false := by simpa using h4
  have e5 : (k == 5) = false := by simpa using h5
  have e6 : (k == 6) = false := by simpa using h6
  have e7 : (k == 7) = false := by simpa using h7
  clear h1 h2 h3 h4 h5 h6 h7
  unfold Itm.v at *
  go_enter Try.func12, Try.ntmps12
  go_wp2_with fail
  refine bodyPost_ret (v := .tuple #[Itm.v (x), .int .i64 0]) (by simp [results, Try.results12, go_sem, Itm.v]) rfl ⟨retA HC.out.symm, HB2.out _ _⟩
set_option linter.unusedSimpArgs false in
set_option maxHeartbeats 4000000 in
theorem refcheck_any (x : Itm) (w : World) : Calls Try.prog 10 #[x.v] w fun e w' => e = .returned (.int .i64 (chkI x)) ∧ Below w.heap.size w w' := by
  have HIN := Lib.hid (fun n a b w => ref_in_any n a b w)
  unfold Itm.v at *
  go_enter Try.func10, Try.ntmps10
  go_wp2_with fail
  refine (HIN.out _ _ _ _).mono ?_
  rintro y w1 ⟨rfl, rfl⟩
  cases h0 : inB x.s 0 7
  · have HC : Hid (1 = chkI x) := (if_neg (fun h => by have hA := h.1; have hB := h.2; have g := inB_no h0; unfold partsOk at hA; unfold numsOk at hB; omega)).symm
    go_wp2_with fail
    go_ret
    exact ⟨retI HC.out, oneB w _⟩
  · have H0 := Lib.hid (inB_yes h0)
    clear h0
    go_wp2_with fail
    refine (HIN.out _ _ _ _).mono ?_
    rintro y w1 ⟨rfl, rfl⟩
    cases h1 : inB x.b 0 7
    · have HC : Hid (1 = chkI x) := (if_neg (fun h => by have hA := h.1; have hB := h.2; have g := inB_no h1; unfold partsOk at hA; unfold numsOk at hB; omega)).symm
      go_wp2_with fail
      go_ret
      exact ⟨retI HC.out, oneB w _⟩
    · have H1 := Lib.hid (inB_yes h1)
      clear h1
      by_cases hsb : x.b = x.s
      · have esb : (x.b == x.s) = true := by simpa using hsb
        have HC : Hid (1 = chkI x) := (if_neg (fun h => h.1.2.2 hsb.symm)).symm
        clear hsb
        go_wp2_with fail
        go_ret
        exact ⟨retI HC.out, oneB w _⟩
      · have esb : (x.b == x.s) = false := by simpa using hsb
        have HSB := Lib.hid hsb
        clear hsb
        go_wp2_with fail
        refine (HIN.out _ _ _ _).mono ?_
        rintro y w1 ⟨rfl, rfl⟩
        cases h3 : inB x.n 1 1048576
        · have HC : Hid (1 = chkI x) := (if_neg (fun h => by have hA := h.1; have hB := h.2; have g := inB_no h3; unfold partsOk at hA; unfold numsOk at hB; omega)).symm
          go_wp2_with fail
          go_ret
          exact ⟨retI HC.out, oneB w _⟩
        · have H3 := Lib.hid (inB_yes h3)
          clear h3
          go_wp2_with fail
          refine (HIN.out _ _ _ _).mono ?_
          rintro y w1 ⟨rfl, rfl⟩
          cases h4 : inB x.c 0 7
          · have HC : Hid (1 = chkI x) := (if_neg (fun h => by have hA := h.1; have hB := h.2; have g := inB_no h4; unfold partsOk at hA; unfold numsOk at hB; omega)).symm
            go_wp2_with fail
            go_ret
            exact ⟨retI HC.out, oneB w _⟩
          · have H4 := Lib.hid (inB_yes h4)
            clear h4
            go_wp2_with fail
            refine (HIN.out _ _ _ _).mono ?_
            rintro y w1 ⟨rfl, rfl⟩
            cases h5 : inB x.a 1 1125899906842624
            · have HC : Hid (1 = chkI x) := (if_neg (fun h => by have hA := h.1; have hB := h.2; have g := inB_no h5; unfold partsOk at hA; unfold numsOk at hB; omega)).symm
              go_wp2_with fail
              go_ret
              exact ⟨retI HC.out, oneB w _⟩
            · have H5 := Lib.hid (inB_yes h5)
              clear h5
              go_wp2_with fail
              refine (HIN.out _ _ _ _).mono ?_
              rintro y w1 ⟨rfl, rfl⟩
              cases h6 : inB x.r 0 3
              · have HC : Hid (1 = chkI x) := (if_neg (fun h => by have hA := h.1; have hB := h.2; have g := inB_no h6; unfold partsOk at hA; unfold numsOk at hB; omega)).symm
                go_wp2_with fail
                go_ret
                exact ⟨retI HC.out, oneB w _⟩
              · have H6 := Lib.hid (inB_yes h6)
                clear h6
                go_wp2_with fail
                refine (HIN.out _ _ _ _).mono ?_
                rintro y w1 ⟨rfl, rfl⟩
                cases h7 : inB x.t 1 5
                · have HC : Hid (1 = chkI x) := (if_neg (fun h => by have hA := h.1; have hB := h.2; have g := inB_no h7; unfold partsOk at hA; unfold numsOk at hB; omega)).symm
                  go_wp2_with fail
                  go_ret
                  exact ⟨retI HC.out, oneB w _⟩
                · have H7 := Lib.hid (inB_yes h7)
                  clear h7
                  go_wp2_with fail
                  refine (HIN.out _ _ _ _).mono ?_
                  rintro y w1 ⟨rfl, rfl⟩
                  cases h8 : inB x.y 0 1048576
                  · have HC : Hid (1 = chkI x) := (if_neg (fun h => by have hA := h.1; have hB := h.2; have g := inB_no h8; unfold partsOk at hA; unfold numsOk at hB; omega)).symm
                    go_wp2_with fail
                    go_ret
                    exact ⟨retI HC.out, oneB w _⟩
                  · have H8 := Lib.hid (inB_yes h8)
                    clear h8
                    have HC : Hid (chkI x = if cycBad x then 90 else 0) := by
                      show _ = _
                      unfold chkI
                      rw [if_pos ⟨⟨H0.out, H1.out, fun h => HSB.out h.symm⟩, H3.out, H4.out, H5.out, H6.out, H7.out, H8.out⟩]
                    clear H0 H1 HSB H3 H4 H5 H6 H7 H8 HIN
                    go_wp2
                    all_goals
                      go_ret
                      refine ⟨retI ?_, oneB w _⟩
                      rw [HC.out]
                      try simp only [beq_iff_eq, beq_eq_false_iff_ne, bne_iff_ne, bne_eq_false_iff_eq, ne_eq] at *
                      by_cases hc : cycBad x
                      · rw [if_pos hc]; all_goals (exfalso; unfold cycBad at hc; omega)
                      · rw [if_neg hc]; all_goals (exfalso; unfold cycBad at hc; omega)
end Go.Proofs.Ytadhiggmhibofaa
