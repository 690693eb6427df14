/- item.New by contract. -/
import Derived.Test.YtbpfbebebppleaaItem5A
namespace Go.Proofs.Ytbpfbebebppleaa
open Go.RowKit
/-- A new item. -/
abbrev newI (s n b c a : Int) : Itm := ⟨s, n, b, c, a, 0, 1, 0⟩
def newA (x : Itm) : Itm × Int := if chkI x = 0 then (x, 0) else (zeroI, chkI x)
set_option maxHeartbeats 1000000 in
theorem new_any (s n b c a : Int) (w : World) : Calls Try.prog 53 #[.agg #[.int .i64 s, .int .i64 n], .int .i64 b, .int .i64 c, .int .i64 a] w fun e w' => e = ansI (newA (newI s n b c a)) ∧ Below w.heap.size w w' := by
  have HT := Lib.hid (fun w => check_any (newI s n b c a) w)
  have HB2 := Lib.hid ((((oneB w (.cells #[.int .i64 s, .int .i64 n] 36)).alloc (by simp) (.cells #[.int .i64 0, .int .i64 0, .int .i64 0, .int .i64 0, .int .i64 0, .int .i64 0, .int .i64 0, .int .i64 0] 64))).alloc (by simp <;> omega) (.cells #[.int .i64 s, .int .i64 n, .int .i64 b, .int .i64 c, .int .i64 a, .int .i64 0, .int .i64 1, .int .i64 0] 64))
  have HR := Lib.hid ((Blk.new' (w.alloc (.cells #[.int .i64 s, .int .i64 n] 36)) #[.int .i64 0, .int .i64 0, .int .i64 0, .int .i64 0, .int .i64 0, .int .i64 0, .int .i64 0, .int .i64 0] 64 (b := w.heap.size + 1) (by simp)).alloc (.cells #[.int .i64 s, .int .i64 n, .int .i64 b, .int .i64 c, .int .i64 a, .int .i64 0, .int .i64 1, .int .i64 0] 64))
  have HX := Lib.hid (Blk.new' ((w.alloc (.cells #[.int .i64 s, .int .i64 n] 36)).alloc (.cells #[.int .i64 0, .int .i64 0, .int .i64 0, .int .i64 0, .int .i64 0, .int .i64 0, .int .i64 0, .int .i64 0] 64)) #[.int .i64 s, .int .i64 n, .int .i64 b, .int .i64 c, .int .i64 a, .int .i64 0, .int .i64 1, .int .i64 0] 64 (b := w.heap.size + 1 + 1) (by simp))
  have HC : Hid (newA (newI s n b c a) = if chkI (newI s n b c a) = 0 then (newI s n b c a, 0) else (zeroI, chkI (newI s n b c a))) := rfl
  generalize hq : chkI (newI s n b c a) = q at HT HC
  unfold ansI Itm.v at *
  dsimp only at *
  clear hq
  go_enter Try.func53, Try.ntmps53
  go_wp2_with fail
  refine (HT.out _).mono ?_
  rintro z w1 ⟨rfl, hb1⟩
  have hr1 := HR.out.below hb1 HR.out.lt
  have hx1 := HX.out.below hb1 HX.out.lt
  have HB := Lib.hid (HB2.out.trans (hb1.mono HB2.out.size))
  have HR1 := Lib.hid hr1
  have lx := hx1.lt
  have lr := hr1.lt
  have r0 : (w1).cell? ⟨w.heap.size + 1, 0, none⟩ = some (.int .i64 0) := hr1.cell 0
  have rf0 := hr1.free 0
  have r1 : (w1).cell? ⟨w.heap.size + 1, 1, none⟩ = some (.int .i64 0) := hr1.cell 1
  have rf1 := hr1.free 1
  have r2 : (w1).cell? ⟨w.heap.size + 1, 2, none⟩ = some (.int .i64 0) := hr1.cell 2
  have rf2 := hr1.free 2
  have r3 : (w1).cell? ⟨w.heap.size + 1, 3, none⟩ = some (.int .i64 0) := hr1.cell 3
  have rf3 := hr1.free 3
  have r4 : (w1).cell? ⟨w.heap.size + 1, 4, none⟩ = some (.int .i64 0) := hr1.cell 4
  have rf4 := hr1.free 4
  have r5 : (w1).cell? ⟨w.heap.size + 1, 5, none⟩ = some (.int .i64 0) := hr1.cell 5
  have rf5 := hr1.free 5
  have r6 : (w1).cell? ⟨w.heap.size + 1, 6, none⟩ = some (.int .i64 0) := hr1.cell 6
  have rf6 := hr1.free 6
  have r7 : (w1).cell? ⟨w.heap.size + 1, 7, none⟩ = some (.int .i64 0) := hr1.cell 7
  have rf7 := hr1.free 7
  have x0 : w1.cell? ⟨w.heap.size + 1 + 1, 0, none⟩ = some (.int .i64 s) := hx1.cell 0
  have x1 : w1.cell? ⟨w.heap.size + 1 + 1, 1, none⟩ = some (.int .i64 n) := hx1.cell 1
  have x2 : w1.cell? ⟨w.heap.size + 1 + 1, 2, none⟩ = some (.int .i64 b) := hx1.cell 2
  have x3 : w1.cell? ⟨w.heap.size + 1 + 1, 3, none⟩ = some (.int .i64 c) := hx1.cell 3
  have x4 : w1.cell? ⟨w.heap.size + 1 + 1, 4, none⟩ = some (.int .i64 a) := hx1.cell 4
  have x5 : w1.cell? ⟨w.heap.size + 1 + 1, 5, none⟩ = some (.int .i64 0) := hx1.cell 5
  have x6 : w1.cell? ⟨w.heap.size + 1 + 1, 6, none⟩ = some (.int .i64 1) := hx1.cell 6
  have x7 : w1.cell? ⟨w.heap.size + 1 + 1, 7, none⟩ = some (.int .i64 0) := hx1.cell 7
  clear hr1 hx1 hb1
  by_cases h0 : q = 0
  · have e0 : (q != 0) = false := by simpa using h0
    have hN := HC.out
    rw [if_pos h0] at hN
    have HN := Lib.hid hN
    clear h0 hN HC
    go_wp2_with fail
    have hf := blk_set8 (z := zeroI) HR1.out (newI s n b c a)
    refine bodyPost_ret (v := .tuple #[Itm.v (newI s n b c a), .int .i64 0]) (by simp [results, Try.results53, go_sem, Itm.v, hf.cell 0, hf.cell 1, hf.cell 2, hf.cell 3, hf.cell 4, hf.cell 5, hf.cell 6, hf.cell 7]) rfl ⟨by rw [HN.out]; rfl, below_set8 HB.out (Nat.le_succ _) (newI s n b c a)⟩
  · have e0 : (q != 0) = true := by simpa using h0
    have hN := HC.out
    rw [if_neg h0] at hN
    have HN := Lib.hid hN
    clear h0 hN HC
    go_wp2_with fail
    have hf := blk_set8 (z := zeroI) HR1.out zeroI
    refine bodyPost_ret (v := .tuple #[Itm.v zeroI, .int .i64 q]) (by simp [results, Try.results53, go_sem, Itm.v, hf.cell 0, hf.cell 1, hf.cell 2, hf.cell 3, hf.cell 4, hf.cell 5, hf.cell 6, hf.cell 7]) rfl ⟨by rw [HN.out]; rfl, below_set8 HB.out (Nat.le_succ _) zeroI⟩
end Go.Proofs.Ytbpfbebebppleaa
