/- item.Dispute, Agree, Cancel, Adjust by contract. -/
import Derived.Test.YtbpfbebebppleaaItem4A
namespace Go.Proofs.Ytbpfbebebppleaa
open Go.RowKit
theorem dispute_any (x : Itm) (w : World) : Calls Try.prog 50 #[x.v] w fun e w' => e = ansI (turnI x 1 2) ∧ Below w.heap.size w w' := by
  have HT := Lib.hid (fun w => turn_any x 1 2 w)
  have HB2 := Lib.hid ((oneB w (.cells #[.int .i64 x.s, .int .i64 x.n, .int .i64 x.b, .int .i64 x.c, .int .i64 x.a, .int .i64 x.r, .int .i64 x.t, .int .i64 x.y] 64)).alloc (by simp) (.cells #[.int .i64 0, .int .i64 0, .int .i64 0, .int .i64 0, .int .i64 0, .int .i64 0, .int .i64 0, .int .i64 0] 64))
  have HR := Lib.hid (Blk.new' (w.alloc (.cells #[.int .i64 x.s, .int .i64 x.n, .int .i64 x.b, .int .i64 x.c, .int .i64 x.a, .int .i64 x.r, .int .i64 x.t, .int .i64 x.y] 64)) #[.int .i64 0, .int .i64 0, .int .i64 0, .int .i64 0, .int .i64 0, .int .i64 0, .int .i64 0, .int .i64 0] 64 (b := w.heap.size + 1) (by simp))
  have HX := Lib.hid ((Blk.new w #[.int .i64 x.s, .int .i64 x.n, .int .i64 x.b, .int .i64 x.c, .int .i64 x.a, .int .i64 x.r, .int .i64 x.t, .int .i64 x.y] 64).alloc (.cells #[.int .i64 0, .int .i64 0, .int .i64 0, .int .i64 0, .int .i64 0, .int .i64 0, .int .i64 0, .int .i64 0] 64))
  generalize turnI x 1 2 = q at HT ⊢
  obtain ⟨y, e⟩ := q
  unfold ansI Itm.v at *
  dsimp only at *
  go_enter Try.func50, Try.ntmps50
  go_wp2_with fail
  refine (HT.out _).mono ?_
  rintro z w1 ⟨rfl, hb1⟩
  have hr1 := HR.out.below hb1 HR.out.lt
  have hx1 := HX.out.below hb1 HX.out.lt
  have HB := Lib.hid (HB2.out.trans (hb1.mono HB2.out.size))
  have HR1 := Lib.hid hr1
  have HX1 := Lib.hid hx1
  have r0 : (w1).cell? ⟨w.heap.size + 1, 0, none⟩ = some (.int .i64 0) := hr1.cell 0
  have rf0 := hr1.free 0
  have r1 : (w1).cell? ⟨w.heap.size + 1, 1, none⟩ = some (.int .i64 0) := hr1.cell 1
  have rf1 := hr1.free 1
  have r2 : (w1).cell? ⟨w.heap.size + 1, 2, none⟩ = some (.int .i64 0) := hr1.cell 2
  have rf2 := hr1.free 2
  have r3 : (w1).cell? ⟨w.heap.size + 1, 3, none⟩ = some (.int .i64 0) := hr1.cell 3
  have rf3 := hr1.free 3
  have r4 : (w1).cell? ⟨w.heap.size + 1, 4, none⟩ = some (.int .i64 0) := hr1.cell 4
  have rf4 := hr1.free 4
  have r5 : (w1).cell? ⟨w.heap.size + 1, 5, none⟩ = some (.int .i64 0) := hr1.cell 5
  have rf5 := hr1.free 5
  have r6 : (w1).cell? ⟨w.heap.size + 1, 6, none⟩ = some (.int .i64 0) := hr1.cell 6
  have rf6 := hr1.free 6
  have r7 : (w1).cell? ⟨w.heap.size + 1, 7, none⟩ = some (.int .i64 0) := hr1.cell 7
  have rf7 := hr1.free 7
  have lr := hr1.lt
  clear hb1 hr1 hx1
  go_wp2_with fail
  have hf := blk_set8 (z := zeroI) HR1.out y
  refine bodyPost_ret (v := .tuple #[Itm.v (y), .int .i64 e]) (by simp [results, Try.results50, go_sem, Itm.v, hf.cell 0, hf.cell 1, hf.cell 2, hf.cell 3, hf.cell 4, hf.cell 5, hf.cell 6, hf.cell 7]) rfl ⟨rfl, below_set8 HB.out (Nat.le_succ _) y⟩
theorem agree_any (x : Itm) (w : World) : Calls Try.prog 48 #[x.v] w fun e w' => e = ansI (turnI x 1 3) ∧ Below w.heap.size w w' := by
  have HT := Lib.hid (fun w => turn_any x 1 3 w)
  have HB2 := Lib.hid ((oneB w (.cells #[.int .i64 x.s, .int .i64 x.n, .int .i64 x.b, .int .i64 x.c, .int .i64 x.a, .int .i64 x.r, .int .i64 x.t, .int .i64 x.y] 64)).alloc (by simp) (.cells #[.int .i64 0, .int .i64 0, .int .i64 0, .int .i64 0, .int .i64 0, .int .i64 0, .int .i64 0, .int .i64 0] 64))
  have HR := Lib.hid (Blk.new' (w.alloc (.cells #[.int .i64 x.s, .int .i64 x.n, .int .i64 x.b, .int .i64 x.c, .int .i64 x.a, .int .i64 x.r, .int .i64 x.t, .int .i64 x.y] 64)) #[.int .i64 0, .int .i64 0, .int .i64 0, .int .i64 0, .int .i64 0, .int .i64 0, .int .i64 0, .int .i64 0] 64 (b := w.heap.size + 1) (by simp))
  have HX := Lib.hid ((Blk.new w #[.int .i64 x.s, .int .i64 x.n, .int .i64 x.b, .int .i64 x.c, .int .i64 x.a, .int .i64 x.r, .int .i64 x.t, .int .i64 x.y] 64).alloc (.cells #[.int .i64 0, .int .i64 0, .int .i64 0, .int .i64 0, .int .i64 0, .int .i64 0, .int .i64 0, .int .i64 0] 64))
  generalize turnI x 1 3 = q at HT ⊢
  obtain ⟨y, e⟩ := q
  unfold ansI Itm.v at *
  dsimp only at *
  go_enter Try.func48, Try.ntmps48
  go_wp2_with fail
  refine (HT.out _).mono ?_
  rintro z w1 ⟨rfl, hb1⟩
  have hr1 := HR.out.below hb1 HR.out.lt
  have hx1 := HX.out.below hb1 HX.out.lt
  have HB := Lib.hid (HB2.out.trans (hb1.mono HB2.out.size))
  have HR1 := Lib.hid hr1
  have HX1 := Lib.hid hx1
  have r0 : (w1).cell? ⟨w.heap.size + 1, 0, none⟩ = some (.int .i64 0) := hr1.cell 0
  have rf0 := hr1.free 0
  have r1 : (w1).cell? ⟨w.heap.size + 1, 1, none⟩ = some (.int .i64 0) := hr1.cell 1
  have rf1 := hr1.free 1
  have r2 : (w1).cell? ⟨w.heap.size + 1, 2, none⟩ = some (.int .i64 0) := hr1.cell 2
  have rf2 := hr1.free 2
  have r3 : (w1).cell? ⟨w.heap.size + 1, 3, none⟩ = some (.int .i64 0) := hr1.cell 3
  have rf3 := hr1.free 3
  have r4 : (w1).cell? ⟨w.heap.size + 1, 4, none⟩ = some (.int .i64 0) := hr1.cell 4
  have rf4 := hr1.free 4
  have r5 : (w1).cell? ⟨w.heap.size + 1, 5, none⟩ = some (.int .i64 0) := hr1.cell 5
  have rf5 := hr1.free 5
  have r6 : (w1).cell? ⟨w.heap.size + 1, 6, none⟩ = some (.int .i64 0) := hr1.cell 6
  have rf6 := hr1.free 6
  have r7 : (w1).cell? ⟨w.heap.size + 1, 7, none⟩ = some (.int .i64 0) := hr1.cell 7
  have rf7 := hr1.free 7
  have lr := hr1.lt
  clear hb1 hr1 hx1
  go_wp2_with fail
  have hf := blk_set8 (z := zeroI) HR1.out y
  refine bodyPost_ret (v := .tuple #[Itm.v (y), .int .i64 e]) (by simp [results, Try.results48, go_sem, Itm.v, hf.cell 0, hf.cell 1, hf.cell 2, hf.cell 3, hf.cell 4, hf.cell 5, hf.cell 6, hf.cell 7]) rfl ⟨rfl, below_set8 HB.out (Nat.le_succ _) y⟩
theorem cancel_any (x : Itm) (w : World) : Calls Try.prog 52 #[x.v] w fun e w' => e = ansI (turnI x 2 4) ∧ Below w.heap.size w w' := by
  have HT := Lib.hid (fun w => turn_any x 2 4 w)
  have HB2 := Lib.hid ((oneB w (.cells #[.int .i64 x.s, .int .i64 x.n, .int .i64 x.b, .int .i64 x.c, .int .i64 x.a, .int .i64 x.r, .int .i64 x.t, .int .i64 x.y] 64)).alloc (by simp) (.cells #[.int .i64 0, .int .i64 0, .int .i64 0, .int .i64 0, .int .i64 0, .int .i64 0, .int .i64 0, .int .i64 0] 64))
  have HR := Lib.hid (Blk.new' (w.alloc (.cells #[.int .i64 x.s, .int .i64 x.n, .int .i64 x.b, .int .i64 x.c, .int .i64 x.a, .int .i64 x.r, .int .i64 x.t, .int .i64 x.y] 64)) #[.int .i64 0, .int .i64 0, .int .i64 0, .int .i64 0, .int .i64 0, .int .i64 0, .int .i64 0, .int .i64 0] 64 (b := w.heap.size + 1) (by simp))
  have HX := Lib.hid ((Blk.new w #[.int .i64 x.s, .int .i64 x.n, .int .i64 x.b, .int .i64 x.c, .int .i64 x.a, .int .i64 x.r, .int .i64 x.t, .int .i64 x.y] 64).alloc (.cells #[.int .i64 0, .int .i64 0, .int .i64 0, .int .i64 0, .int .i64 0, .int .i64 0, .int .i64 0, .int .i64 0] 64))
  generalize turnI x 2 4 = q at HT ⊢
  obtain ⟨y, e⟩ := q
  unfold ansI Itm.v at *
  dsimp only at *
  go_enter Try.func52, Try.ntmps52
  go_wp2_with fail
  refine (HT.out _).mono ?_
  rintro z w1 ⟨rfl, hb1⟩
  have hr1 := HR.out.below hb1 HR.out.lt
  have hx1 := HX.out.below hb1 HX.out.lt
  have HB := Lib.hid (HB2.out.trans (hb1.mono HB2.out.size))
  have HR1 := Lib.hid hr1
  have HX1 := Lib.hid hx1
  have r0 : (w1).cell? ⟨w.heap.size + 1, 0, none⟩ = some (.int .i64 0) := hr1.cell 0
  have rf0 := hr1.free 0
  have r1 : (w1).cell? ⟨w.heap.size + 1, 1, none⟩ = some (.int .i64 0) := hr1.cell 1
  have rf1 := hr1.free 1
  have r2 : (w1).cell? ⟨w.heap.size + 1, 2, none⟩ = some (.int .i64 0) := hr1.cell 2
  have rf2 := hr1.free 2
  have r3 : (w1).cell? ⟨w.heap.size + 1, 3, none⟩ = some (.int .i64 0) := hr1.cell 3
  have rf3 := hr1.free 3
  have r4 : (w1).cell? ⟨w.heap.size + 1, 4, none⟩ = some (.int .i64 0) := hr1.cell 4
  have rf4 := hr1.free 4
  have r5 : (w1).cell? ⟨w.heap.size + 1, 5, none⟩ = some (.int .i64 0) := hr1.cell 5
  have rf5 := hr1.free 5
  have r6 : (w1).cell? ⟨w.heap.size + 1, 6, none⟩ = some (.int .i64 0) := hr1.cell 6
  have rf6 := hr1.free 6
  have r7 : (w1).cell? ⟨w.heap.size + 1, 7, none⟩ = some (.int .i64 0) := hr1.cell 7
  have rf7 := hr1.free 7
  have lr := hr1.lt
  clear hb1 hr1 hx1
  go_wp2_with fail
  have hf := blk_set8 (z := zeroI) HR1.out y
  refine bodyPost_ret (v := .tuple #[Itm.v (y), .int .i64 e]) (by simp [results, Try.results52, go_sem, Itm.v, hf.cell 0, hf.cell 1, hf.cell 2, hf.cell 3, hf.cell 4, hf.cell 5, hf.cell 6, hf.cell 7]) rfl ⟨rfl, below_set8 HB.out (Nat.le_succ _) y⟩
set_option maxHeartbeats 1000000 in
theorem adjust_any (x : Itm) (n : Int) (w : World) (hr : F64 (x.r + 1)) : Calls Try.prog 56 #[x.v, .int .i64 n] w fun e w' => e = ansI (adjI x n) ∧ Below w.heap.size w w' := by
  have HB2 : Hid (∀ a b, Below w.heap.size w ((w.alloc a).alloc b)) := fun a b => (oneB w a).alloc (by simp) b
  have HW := Lib.hid (fun w => payable_any n w)
  by_cases h2 : x.t = 2
  · have e2 : (x.t != 2) = false := by simpa using h2
    cases hw : inB n 1 1125899906842624
    · rw [hw] at HW
      have HC : Hid (adjI x n = (x, 1)) := by show _ = _; unfold adjI; rw [if_pos h2, if_neg (inB_no hw)]
      clear h2 hw
      unfold Itm.v at *
      go_enter Try.func56, Try.ntmps56
      go_wp2_with fail
      refine (HW.out _).mono ?_
      rintro z w1 ⟨rfl, rfl⟩
      go_wp2_with fail
      refine bodyPost_ret (v := .tuple #[Itm.v (x), .int .i64 1]) (by simp [results, Try.results56, go_sem, Itm.v]) rfl ⟨retA HC.out.symm, HB2.out _ _⟩
    · rw [hw] at HW
      by_cases h3 : x.r = 3
      · have e3 : (x.r == 3) = true := by simpa using h3
        have HC : Hid (adjI x n = (x, 91)) := by show _ = _; unfold adjI; rw [if_pos h2, if_pos (inB_yes hw), if_pos h3]
        clear h2 h3 hw
        unfold Itm.v at *
        go_enter Try.func56, Try.ntmps56
        go_wp2_with fail
        refine (HW.out _).mono ?_
        rintro z w1 ⟨rfl, rfl⟩
        go_wp2_with fail
        refine bodyPost_ret (v := .tuple #[Itm.v (x), .int .i64 91]) (by simp [results, Try.results56, go_sem, Itm.v]) rfl ⟨retA HC.out.symm, HB2.out _ _⟩
      · have e3 : (x.r == 3) = false := by simpa using h3
        have HC : Hid (adjI x n = ({ x with t := 1, r := x.r + 1, a := n }, 0)) := by show _ = _; unfold adjI; rw [if_pos h2, if_pos (inB_yes hw), if_neg h3]
        have hr1 : wrap64 (x.r + 1) = x.r + 1 := by unfold F64 at hr; unfold wrap64; omega
        clear h2 h3 hw hr
        unfold Itm.v at *
        go_enter Try.func56, Try.ntmps56
        go_wp2_with fail
        refine (HW.out _).mono ?_
        rintro z w1 ⟨rfl, rfl⟩
        go_wp2_with fail
        refine bodyPost_ret (v := .tuple #[Itm.v ({ x with t := 1, r := x.r + 1, a := n }), .int .i64 0]) (by simp [results, Try.results56, go_sem, Itm.v]) rfl ⟨retA HC.out.symm, HB2.out _ _⟩
  · have e2 : (x.t != 2) = true := by simpa using h2
    have HC : Hid (adjI x n = (x, 90)) := if_neg h2
    clear h2 hr
    unfold Itm.v at *
    go_enter Try.func56, Try.ntmps56
    go_wp2_with fail
    refine bodyPost_ret (v := .tuple #[Itm.v (x), .int .i64 90]) (by simp [results, Try.results56, go_sem, Itm.v]) rfl ⟨retA HC.out.symm, HB2.out _ _⟩
end Go.Proofs.Ytbpfbebebppleaa
