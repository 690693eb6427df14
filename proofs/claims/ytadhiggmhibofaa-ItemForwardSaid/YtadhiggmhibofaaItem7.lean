/- item.New, contralaw09.lives by contract. -/
import Derived.Test.YtadhiggmhibofaaItem6
namespace Go.Proofs.Ytadhiggmhibofaa
open Go.RowKit
/-- A new item. -/
abbrev newI (s n b c a : Int) : Itm := ⟨s, n, b, c, a, 0, 1, 0⟩
def newA (x : Itm) : Itm × Int := if chkI x = 0 then (x, 0) else (zeroI, chkI x)
set_option maxHeartbeats 1000000 in
theorem new_any (s n b c a : Int) (w : World) : Calls Try.prog 16 #[.agg #[.int .i64 s, .int .i64 n], .int .i64 b, .int .i64 c, .int .i64 a] w fun e w' => e = ansI (newA (newI s n b c a)) ∧ Below w.heap.size w w' := by
  have HT := Lib.hid (fun w => check_any (newI s n b c a) w)
  have HB2 := Lib.hid ((((oneB w (.cells #[.int .i64 s, .int .i64 n] 23)).alloc (by simp) (.cells #[.int .i64 0, .int .i64 0, .int .i64 0, .int .i64 0, .int .i64 0, .int .i64 0, .int .i64 0, .int .i64 0] 25))).alloc (by simp <;> omega) (.cells #[.int .i64 s, .int .i64 n, .int .i64 b, .int .i64 c, .int .i64 a, .int .i64 0, .int .i64 1, .int .i64 0] 25))
  have HR := Lib.hid ((Blk.new' (w.alloc (.cells #[.int .i64 s, .int .i64 n] 23)) #[.int .i64 0, .int .i64 0, .int .i64 0, .int .i64 0, .int .i64 0, .int .i64 0, .int .i64 0, .int .i64 0] 25 (b := w.heap.size + 1) (by simp)).alloc (.cells #[.int .i64 s, .int .i64 n, .int .i64 b, .int .i64 c, .int .i64 a, .int .i64 0, .int .i64 1, .int .i64 0] 25))
  have HX := Lib.hid (Blk.new' ((w.alloc (.cells #[.int .i64 s, .int .i64 n] 23)).alloc (.cells #[.int .i64 0, .int .i64 0, .int .i64 0, .int .i64 0, .int .i64 0, .int .i64 0, .int .i64 0, .int .i64 0] 25)) #[.int .i64 s, .int .i64 n, .int .i64 b, .int .i64 c, .int .i64 a, .int .i64 0, .int .i64 1, .int .i64 0] 25 (b := w.heap.size + 1 + 1) (by simp))
  have HC : Hid (newA (newI s n b c a) = if chkI (newI s n b c a) = 0 then (newI s n b c a, 0) else (zeroI, chkI (newI s n b c a))) := rfl
  generalize hq : chkI (newI s n b c a) = q at HT HC
  unfold ansI Itm.v at *
  dsimp only at *
  clear hq
  go_enter Try.func16, Try.ntmps16
  go_wp2_with fail
  refine (HT.out _).mono ?_
  rintro z w1 ⟨rfl, hb1⟩
  have hr1 := HR.out.below hb1 HR.out.lt
  have hx1 := HX.out.below hb1 HX.out.lt
  have HB := Lib.hid (HB2.out.trans (hb1.mono HB2.out.size))
  have HR1 := Lib.hid hr1
  have lx := hx1.lt
  have lr := hr1.lt
  have r0 : (w1).cell? ⟨w.heap.size + 1, 0, none⟩ = some (.int .i64 0) := hr1.cell 0
  have rf0 := hr1.free 0
  have r1 : (w1).cell? ⟨w.heap.size + 1, 1, none⟩ = some (.int .i64 0) := hr1.cell 1
  have rf1 := hr1.free 1
  have r2 : (w1).cell? ⟨w.heap.size + 1, 2, none⟩ = some (.int .i64 0) := hr1.cell 2
  have rf2 := hr1.free 2
  have r3 : (w1).cell? ⟨w.heap.size + 1, 3, none⟩ = some (.int .i64 0) := hr1.cell 3
  have rf3 := hr1.free 3
  have r4 : (w1).cell? ⟨w.heap.size + 1, 4, none⟩ = some (.int .i64 0) := hr1.cell 4
  have rf4 := hr1.free 4
  have r5 : (w1).cell? ⟨w.heap.size + 1, 5, none⟩ = some (.int .i64 0) := hr1.cell 5
  have rf5 := hr1.free 5
  have r6 : (w1).cell? ⟨w.heap.size + 1, 6, none⟩ = some (.int .i64 0) := hr1.cell 6
  have rf6 := hr1.free 6
  have r7 : (w1).cell? ⟨w.heap.size + 1, 7, none⟩ = some (.int .i64 0) := hr1.cell 7
  have rf7 := hr1.free 7
  have x0 : w1.cell? ⟨w.heap.size + 1 + 1, 0, none⟩ = some (.int .i64 s) := hx1.cell 0
  have x1 : w1.cell? ⟨w.heap.size + 1 + 1, 1, none⟩ = some (.int .i64 n) := hx1.cell 1
  have x2 : w1.cell? ⟨w.heap.size + 1 + 1, 2, none⟩ = some (.int .i64 b) := hx1.cell 2
  have x3 : w1.cell? ⟨w.heap.size + 1 + 1, 3, none⟩ = some (.int .i64 c) := hx1.cell 3
  have x4 : w1.cell? ⟨w.heap.size + 1 + 1, 4, none⟩ = some (.int .i64 a) := hx1.cell 4
  have x5 : w1.cell? ⟨w.heap.size + 1 + 1, 5, none⟩ = some (.int .i64 0) := hx1.cell 5
  have x6 : w1.cell? ⟨w.heap.size + 1 + 1, 6, none⟩ = some (.int .i64 1) := hx1.cell 6
  have x7 : w1.cell? ⟨w.heap.size + 1 + 1, 7, none⟩ = some (.int .i64 0) := hx1.cell 7
  clear hr1 hx1 hb1
  by_cases h0 : q = 0
  · have e0 : (q != 0) = false := by simpa using h0
    have hN := HC.out
    rw [if_pos h0] at hN
    have HN := Lib.hid hN
    clear h0 hN HC
    go_wp2_with fail
    have hf := blk_set8 (z := zeroI) HR1.out (newI s n b c a)
    refine bodyPost_ret (v := .tuple #[Itm.v (newI s n b c a), .int .i64 0]) (by simp [results, Try.results16, go_sem, Itm.v, hf.cell 0, hf.cell 1, hf.cell 2, hf.cell 3, hf.cell 4, hf.cell 5, hf.cell 6, hf.cell 7]) rfl ⟨by rw [HN.out]; rfl, below_set8 HB.out (Nat.le_succ _) (newI s n b c a)⟩
  · have e0 : (q != 0) = true := by simpa using h0
    have hN := HC.out
    rw [if_neg h0] at hN
    have HN := Lib.hid hN
    clear h0 hN HC
    go_wp2_with fail
    have hf := blk_set8 (z := zeroI) HR1.out zeroI
    refine bodyPost_ret (v := .tuple #[Itm.v zeroI, .int .i64 q]) (by simp [results, Try.results16, go_sem, Itm.v, hf.cell 0, hf.cell 1, hf.cell 2, hf.cell 3, hf.cell 4, hf.cell 5, hf.cell 6, hf.cell 7]) rfl ⟨by rw [HN.out]; rfl, below_set8 HB.out (Nat.le_succ _) zeroI⟩
set_option maxHeartbeats 2000000 in
theorem lives_any (W : World) : Calls Try.prog 9 #[] W fun e w' => e = .returned (.bool true) ∧ Below W.heap.size W w' := by
  have HN : Hid (∀ w, Calls Try.prog 16 #[.agg #[.int .i64 1, .int .i64 7], .int .i64 2, .int .i64 0, .int .i64 500] w fun e w' => e = .returned (.tuple #[.agg #[.int .i64 1, .int .i64 7, .int .i64 2, .int .i64 0, .int .i64 500, .int .i64 0, .int .i64 1, .int .i64 0], .int .i64 0]) ∧ Below w.heap.size w w') := fun w => by
    have h := new_any 1 7 2 0 500 w
    rw [show newA (newI 1 7 2 0 500) = (⟨1, 7, 2, 0, 500, 0, 1, 0⟩, 0) by decide] at h
    exact h
  have H0 : Hid (∀ w, Calls Try.prog 18 #[.agg #[.int .i64 1, .int .i64 7, .int .i64 2, .int .i64 0, .int .i64 500, .int .i64 0, .int .i64 1, .int .i64 0]] w fun e w' => e = .returned (.tuple #[.agg #[.int .i64 1, .int .i64 7, .int .i64 2, .int .i64 0, .int .i64 500, .int .i64 0, .int .i64 2, .int .i64 0], .int .i64 0]) ∧ Below w.heap.size w w') := fun w => by
    have h := dispute_any (⟨1, 7, 2, 0, 500, 0, 1, 0⟩ : Itm) w
    rw [show turnI ⟨1, 7, 2, 0, 500, 0, 1, 0⟩ 1 2 = (⟨1, 7, 2, 0, 500, 0, 2, 0⟩, 0) by decide] at h
    exact h
  have H1 : Hid (∀ w, Calls Try.prog 19 #[.agg #[.int .i64 1, .int .i64 7, .int .i64 2, .int .i64 0, .int .i64 500, .int .i64 0, .int .i64 2, .int .i64 0], .int .i64 450] w fun e w' => e = .returned (.tuple #[.agg #[.int .i64 1, .int .i64 7, .int .i64 2, .int .i64 0, .int .i64 450, .int .i64 1, .int .i64 1, .int .i64 0], .int .i64 0]) ∧ Below w.heap.size w w') := fun w => by
    have h := adjust_any (⟨1, 7, 2, 0, 500, 0, 2, 0⟩ : Itm) 450 w (by unfold F64; decide)
    rw [show adjI ⟨1, 7, 2, 0, 500, 0, 2, 0⟩ 450 = (⟨1, 7, 2, 0, 450, 1, 1, 0⟩, 0) by decide] at h
    exact h
  have H2 : Hid (∀ w, Calls Try.prog 21 #[.agg #[.int .i64 1, .int .i64 7, .int .i64 2, .int .i64 0, .int .i64 450, .int .i64 1, .int .i64 1, .int .i64 0]] w fun e w' => e = .returned (.tuple #[.agg #[.int .i64 1, .int .i64 7, .int .i64 2, .int .i64 0, .int .i64 450, .int .i64 1, .int .i64 3, .int .i64 0], .int .i64 0]) ∧ Below w.heap.size w w') := fun w => by
    have h := agree_any (⟨1, 7, 2, 0, 450, 1, 1, 0⟩ : Itm) w
    rw [show turnI ⟨1, 7, 2, 0, 450, 1, 1, 0⟩ 1 3 = (⟨1, 7, 2, 0, 450, 1, 3, 0⟩, 0) by decide] at h
    exact h
  have H3 : Hid (∀ w, Calls Try.prog 22 #[.agg #[.int .i64 1, .int .i64 7, .int .i64 2, .int .i64 0, .int .i64 450, .int .i64 1, .int .i64 3, .int .i64 0], .int .i64 3] w fun e w' => e = .returned (.tuple #[.agg #[.int .i64 1, .int .i64 7, .int .i64 2, .int .i64 0, .int .i64 450, .int .i64 1, .int .i64 3, .int .i64 3], .int .i64 0]) ∧ Below w.heap.size w w') := fun w => by
    have h := lock_any (⟨1, 7, 2, 0, 450, 1, 3, 0⟩ : Itm) 3 w
    rw [show lockI ⟨1, 7, 2, 0, 450, 1, 3, 0⟩ 3 = (⟨1, 7, 2, 0, 450, 1, 3, 3⟩, 0) by decide] at h
    exact h
  have H4 : Hid (∀ w, Calls Try.prog 24 #[.agg #[.int .i64 1, .int .i64 7, .int .i64 2, .int .i64 0, .int .i64 450, .int .i64 1, .int .i64 3, .int .i64 3]] w fun e w' => e = .returned (.tuple #[.agg #[.int .i64 1, .int .i64 7, .int .i64 2, .int .i64 0, .int .i64 450, .int .i64 1, .int .i64 5, .int .i64 3], .int .i64 0]) ∧ Below w.heap.size w w') := fun w => by
    have h := settle_any (⟨1, 7, 2, 0, 450, 1, 3, 3⟩ : Itm) w
    rw [show settleI ⟨1, 7, 2, 0, 450, 1, 3, 3⟩ = (⟨1, 7, 2, 0, 450, 1, 5, 3⟩, 0) by decide] at h
    exact h
  have HO : Hid (∀ w, Calls Try.prog 17 #[.agg #[.int .i64 1, .int .i64 7, .int .i64 2, .int .i64 0, .int .i64 450, .int .i64 1, .int .i64 5, .int .i64 3]] w fun e w' => e = .returned (.bool true) ∧ Below w.heap.size w w') := fun w => by
    have h := over_any ⟨1, 7, 2, 0, 450, 1, 5, 3⟩ w
    rw [show overI ⟨1, 7, 2, 0, 450, 1, 5, 3⟩ = true by decide] at h
    exact h
  go_enter Try.func9, Try.ntmps9
  go_wp2_with fail
  refine (HN.out _).mono ?_
  rintro z w0 ⟨rfl, hb0⟩
  have HB0 := Lib.hid (hb0.alloc hb0.size (.cells #[.int .i64 1, .int .i64 7, .int .i64 2, .int .i64 0, .int .i64 500, .int .i64 0, .int .i64 1, .int .i64 0] 25))
  have HX0 := Lib.hid (Blk.new w0 #[.int .i64 1, .int .i64 7, .int .i64 2, .int .i64 0, .int .i64 500, .int .i64 0, .int .i64 1, .int .i64 0] 25)
  have HS := Lib.hid hb0.size
  clear hb0 HN
  go_wp2_with fail
  refine (H0.out _).mono ?_
  rintro z w1 ⟨rfl, hb1⟩
  have hx := HX0.out.below hb1 HX0.out.lt
  have hB := HB0.out.trans (hb1.mono HB0.out.size)
  have lx := hx.lt
  have c0 : w1.cell? ⟨w0.heap.size, 0, none⟩ = some (.int .i64 1) := hx.cell 0
  have cf0 := hx.free 0
  have c1 : w1.cell? ⟨w0.heap.size, 1, none⟩ = some (.int .i64 7) := hx.cell 1
  have cf1 := hx.free 1
  have c2 : w1.cell? ⟨w0.heap.size, 2, none⟩ = some (.int .i64 2) := hx.cell 2
  have cf2 := hx.free 2
  have c3 : w1.cell? ⟨w0.heap.size, 3, none⟩ = some (.int .i64 0) := hx.cell 3
  have cf3 := hx.free 3
  have c4 : w1.cell? ⟨w0.heap.size, 4, none⟩ = some (.int .i64 500) := hx.cell 4
  have cf4 := hx.free 4
  have c5 : w1.cell? ⟨w0.heap.size, 5, none⟩ = some (.int .i64 0) := hx.cell 5
  have cf5 := hx.free 5
  have c6 : w1.cell? ⟨w0.heap.size, 6, none⟩ = some (.int .i64 1) := hx.cell 6
  have cf6 := hx.free 6
  have c7 : w1.cell? ⟨w0.heap.size, 7, none⟩ = some (.int .i64 0) := hx.cell 7
  have cf7 := hx.free 7
  have HX1 := Lib.hid (blk_set8 (z := ⟨1, 7, 2, 0, 500, 0, 1, 0⟩) hx ⟨1, 7, 2, 0, 500, 0, 2, 0⟩)
  have HB1 := Lib.hid (below_set8 hB HS.out ⟨1, 7, 2, 0, 500, 0, 2, 0⟩)
  clear hb1 hx hB H0
  skip
  -- behind dispute_any
  go_wp2_with fail
  refine (H1.out _).mono ?_
  rintro z w2 ⟨rfl, hb2⟩
  have hx := HX1.out.below hb2 HX1.out.lt
  have hB := HB1.out.trans (hb2.mono HB1.out.size)
  have lx := hx.lt
  have c0 : w2.cell? ⟨w0.heap.size, 0, none⟩ = some (.int .i64 1) := hx.cell 0
  have cf0 := hx.free 0
  have c1 : w2.cell? ⟨w0.heap.size, 1, none⟩ = some (.int .i64 7) := hx.cell 1
  have cf1 := hx.free 1
  have c2 : w2.cell? ⟨w0.heap.size, 2, none⟩ = some (.int .i64 2) := hx.cell 2
  have cf2 := hx.free 2
  have c3 : w2.cell? ⟨w0.heap.size, 3, none⟩ = some (.int .i64 0) := hx.cell 3
  have cf3 := hx.free 3
  have c4 : w2.cell? ⟨w0.heap.size, 4, none⟩ = some (.int .i64 500) := hx.cell 4
  have cf4 := hx.free 4
  have c5 : w2.cell? ⟨w0.heap.size, 5, none⟩ = some (.int .i64 0) := hx.cell 5
  have cf5 := hx.free 5
  have c6 : w2.cell? ⟨w0.heap.size, 6, none⟩ = some (.int .i64 2) := hx.cell 6
  have cf6 := hx.free 6
  have c7 : w2.cell? ⟨w0.heap.size, 7, none⟩ = some (.int .i64 0) := hx.cell 7
  have cf7 := hx.free 7
  have HX2 := Lib.hid (blk_set8 (z := ⟨1, 7, 2, 0, 500, 0, 2, 0⟩) hx ⟨1, 7, 2, 0, 450, 1, 1, 0⟩)
  have HB2 := Lib.hid (below_set8 hB HS.out ⟨1, 7, 2, 0, 450, 1, 1, 0⟩)
  clear hb2 hx hB H1 HX1 HB1
  skip
  -- behind adjust_any
  go_wp2_with fail
  refine (H2.out _).mono ?_
  rintro z w3 ⟨rfl, hb3⟩
  have hx := HX2.out.below hb3 HX2.out.lt
  have hB := HB2.out.trans (hb3.mono HB2.out.size)
  have lx := hx.lt
  have c0 : w3.cell? ⟨w0.heap.size, 0, none⟩ = some (.int .i64 1) := hx.cell 0
  have cf0 := hx.free 0
  have c1 : w3.cell? ⟨w0.heap.size, 1, none⟩ = some (.int .i64 7) := hx.cell 1
  have cf1 := hx.free 1
  have c2 : w3.cell? ⟨w0.heap.size, 2, none⟩ = some (.int .i64 2) := hx.cell 2
  have cf2 := hx.free 2
  have c3 : w3.cell? ⟨w0.heap.size, 3, none⟩ = some (.int .i64 0) := hx.cell 3
  have cf3 := hx.free 3
  have c4 : w3.cell? ⟨w0.heap.size, 4, none⟩ = some (.int .i64 450) := hx.cell 4
  have cf4 := hx.free 4
  have c5 : w3.cell? ⟨w0.heap.size, 5, none⟩ = some (.int .i64 1) := hx.cell 5
  have cf5 := hx.free 5
  have c6 : w3.cell? ⟨w0.heap.size, 6, none⟩ = some (.int .i64 1) := hx.cell 6
  have cf6 := hx.free 6
  have c7 : w3.cell? ⟨w0.heap.size, 7, none⟩ = some (.int .i64 0) := hx.cell 7
  have cf7 := hx.free 7
  have HX3 := Lib.hid (blk_set8 (z := ⟨1, 7, 2, 0, 450, 1, 1, 0⟩) hx ⟨1, 7, 2, 0, 450, 1, 3, 0⟩)
  have HB3 := Lib.hid (below_set8 hB HS.out ⟨1, 7, 2, 0, 450, 1, 3, 0⟩)
  clear hb3 hx hB H2 HX2 HB2
  skip
  -- behind agree_any
  go_wp2_with fail
  refine (H3.out _).mono ?_
  rintro z w4 ⟨rfl, hb4⟩
  have hx := HX3.out.below hb4 HX3.out.lt
  have hB := HB3.out.trans (hb4.mono HB3.out.size)
  have lx := hx.lt
  have c0 : w4.cell? ⟨w0.heap.size, 0, none⟩ = some (.int .i64 1) := hx.cell 0
  have cf0 := hx.free 0
  have c1 : w4.cell? ⟨w0.heap.size, 1, none⟩ = some (.int .i64 7) := hx.cell 1
  have cf1 := hx.free 1
  have c2 : w4.cell? ⟨w0.heap.size, 2, none⟩ = some (.int .i64 2) := hx.cell 2
  have cf2 := hx.free 2
  have c3 : w4.cell? ⟨w0.heap.size, 3, none⟩ = some (.int .i64 0) := hx.cell 3
  have cf3 := hx.free 3
  have c4 : w4.cell? ⟨w0.heap.size, 4, none⟩ = some (.int .i64 450) := hx.cell 4
  have cf4 := hx.free 4
  have c5 : w4.cell? ⟨w0.heap.size, 5, none⟩ = some (.int .i64 1) := hx.cell 5
  have cf5 := hx.free 5
  have c6 : w4.cell? ⟨w0.heap.size, 6, none⟩ = some (.int .i64 3) := hx.cell 6
  have cf6 := hx.free 6
  have c7 : w4.cell? ⟨w0.heap.size, 7, none⟩ = some (.int .i64 0) := hx.cell 7
  have cf7 := hx.free 7
  have HX4 := Lib.hid (blk_set8 (z := ⟨1, 7, 2, 0, 450, 1, 3, 0⟩) hx ⟨1, 7, 2, 0, 450, 1, 3, 3⟩)
  have HB4 := Lib.hid (below_set8 hB HS.out ⟨1, 7, 2, 0, 450, 1, 3, 3⟩)
  clear hb4 hx hB H3 HX3 HB3
  skip
  -- behind lock_any
  go_wp2_with fail
  refine (H4.out _).mono ?_
  rintro z w5 ⟨rfl, hb5⟩
  have hx := HX4.out.below hb5 HX4.out.lt
  have hB := HB4.out.trans (hb5.mono HB4.out.size)
  have lx := hx.lt
  have c0 : w5.cell? ⟨w0.heap.size, 0, none⟩ = some (.int .i64 1) := hx.cell 0
  have cf0 := hx.free 0
  have c1 : w5.cell? ⟨w0.heap.size, 1, none⟩ = some (.int .i64 7) := hx.cell 1
  have cf1 := hx.free 1
  have c2 : w5.cell? ⟨w0.heap.size, 2, none⟩ = some (.int .i64 2) := hx.cell 2
  have cf2 := hx.free 2
  have c3 : w5.cell? ⟨w0.heap.size, 3, none⟩ = some (.int .i64 0) := hx.cell 3
  have cf3 := hx.free 3
  have c4 : w5.cell? ⟨w0.heap.size, 4, none⟩ = some (.int .i64 450) := hx.cell 4
  have cf4 := hx.free 4
  have c5 : w5.cell? ⟨w0.heap.size, 5, none⟩ = some (.int .i64 1) := hx.cell 5
  have cf5 := hx.free 5
  have c6 : w5.cell? ⟨w0.heap.size, 6, none⟩ = some (.int .i64 3) := hx.cell 6
  have cf6 := hx.free 6
  have c7 : w5.cell? ⟨w0.heap.size, 7, none⟩ = some (.int .i64 3) := hx.cell 7
  have cf7 := hx.free 7
  have HX5 := Lib.hid (blk_set8 (z := ⟨1, 7, 2, 0, 450, 1, 3, 3⟩) hx ⟨1, 7, 2, 0, 450, 1, 5, 3⟩)
  have HB5 := Lib.hid (below_set8 hB HS.out ⟨1, 7, 2, 0, 450, 1, 5, 3⟩)
  clear hb5 hx hB H4 HX4 HB4
  skip
  -- behind settle_any
  go_wp2_with fail
  refine (HO.out _).mono ?_
  rintro z w6 ⟨rfl, hb6⟩
  go_wp2_with fail
  go_ret
  exact ⟨rfl, HB5.out.trans (hb6.mono HB5.out.size)⟩
end Go.Proofs.Ytadhiggmhibofaa
