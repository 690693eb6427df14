/- ItemActs: the walk. -/
import Derived.Test.YtadhiggmhibofaaItem7
import Derived.Deep.RegionHeld3
namespace Go.Proofs.Ytadhiggmhibofaa
open Go.RowKit
set_option linter.unusedSimpArgs false in
set_option maxHeartbeats 4000000 in
theorem itemacts_walk (x : Itm) (k n : Int) (w : World) (_ : x.Fit) (_ : F64 k) (_ : F64 n) : Calls Try.prog 3 #[x.v, .int .i64 k, .int .i64 n] w fun e w' => e = .returned (.bool true) ∧ Below w.heap.size w w' := by
  have HL := Lib.hid (fun w => lives_any w)
  have HD := Lib.hid (fun w => refcheck_any x w)
  by_cases h : chkI x = 0
  · skip
    have hr3 := (chk_ok h).2.1
    unfold numsOk at hr3
    have HA := Lib.hid (fun w => act_any x k n w (by unfold F64; omega))
    have HR := Lib.hid (fun w => refact_any x k n w (by unfold F64; omega))
    have hy := act_ok k n h
    have hy3 := (chk_ok hy).2.1
    unfold numsOk at hy3
    rw [h] at HD
    generalize actI x k n = q at HA HR hy hy3
    obtain ⟨y, e⟩ := q
    have HC := Lib.hid (fun w => check_any y w)
    have HK := Lib.hid (fun w => rank_any y w (by dsimp only at hy3; omega))
    have HQ := Lib.hid (fun w => refrank_any y w (by dsimp only at hy3; omega))
    rw [hy] at HC
    generalize rankI y = rk at HK HQ
    clear h hr3 hy hy3
    unfold ansI Itm.v at *
    dsimp only at *
    have HB0 := Lib.hid (oneB w (.cells #[.int .i64 x.s, .int .i64 x.n, .int .i64 x.b, .int .i64 x.c, .int .i64 x.a, .int .i64 x.r, .int .i64 x.t, .int .i64 x.y] 25))
    have HXx := Lib.hid (Blk.new w #[.int .i64 x.s, .int .i64 x.n, .int .i64 x.b, .int .i64 x.c, .int .i64 x.a, .int .i64 x.r, .int .i64 x.t, .int .i64 x.y] 25)
    go_enter Try.func3, Try.ntmps3
    go_wp2_with fail
    refine (HL.out _).mono ?_
    rintro z w1 ⟨rfl, hb1⟩
    replace HXx := Lib.hid (HXx.out.below hb1 HXx.out.lt)
    have HB1 := Lib.hid (HB0.out.trans (hb1.mono HB0.out.size))
    clear hb1
    have cx0 : w1.cell? ⟨w.heap.size, 0, none⟩ = some (.int .i64 x.s) := HXx.out.cell 0
    have cx1 : w1.cell? ⟨w.heap.size, 1, none⟩ = some (.int .i64 x.n) := HXx.out.cell 1
    have cx2 : w1.cell? ⟨w.heap.size, 2, none⟩ = some (.int .i64 x.b) := HXx.out.cell 2
    have cx3 : w1.cell? ⟨w.heap.size, 3, none⟩ = some (.int .i64 x.c) := HXx.out.cell 3
    have cx4 : w1.cell? ⟨w.heap.size, 4, none⟩ = some (.int .i64 x.a) := HXx.out.cell 4
    have cx5 : w1.cell? ⟨w.heap.size, 5, none⟩ = some (.int .i64 x.r) := HXx.out.cell 5
    have cx6 : w1.cell? ⟨w.heap.size, 6, none⟩ = some (.int .i64 x.t) := HXx.out.cell 6
    have cx7 : w1.cell? ⟨w.heap.size, 7, none⟩ = some (.int .i64 x.y) := HXx.out.cell 7
    have lx := HXx.out.lt
    go_wp2_with fail
    refine (HD.out _).mono ?_
    rintro z w2 ⟨rfl, hb2⟩
    replace HXx := Lib.hid (HXx.out.below hb2 HXx.out.lt)
    have HB2 := Lib.hid (HB1.out.trans (hb2.mono HB1.out.size))
    clear hb2
    have cx0 : w2.cell? ⟨w.heap.size, 0, none⟩ = some (.int .i64 x.s) := HXx.out.cell 0
    have cx1 : w2.cell? ⟨w.heap.size, 1, none⟩ = some (.int .i64 x.n) := HXx.out.cell 1
    have cx2 : w2.cell? ⟨w.heap.size, 2, none⟩ = some (.int .i64 x.b) := HXx.out.cell 2
    have cx3 : w2.cell? ⟨w.heap.size, 3, none⟩ = some (.int .i64 x.c) := HXx.out.cell 3
    have cx4 : w2.cell? ⟨w.heap.size, 4, none⟩ = some (.int .i64 x.a) := HXx.out.cell 4
    have cx5 : w2.cell? ⟨w.heap.size, 5, none⟩ = some (.int .i64 x.r) := HXx.out.cell 5
    have cx6 : w2.cell? ⟨w.heap.size, 6, none⟩ = some (.int .i64 x.t) := HXx.out.cell 6
    have cx7 : w2.cell? ⟨w.heap.size, 7, none⟩ = some (.int .i64 x.y) := HXx.out.cell 7
    have lx := HXx.out.lt
    go_wp2_with fail
    refine (HA.out _).mono ?_
    rintro z w3 ⟨rfl, hb3⟩
    replace HXx := Lib.hid (HXx.out.below hb3 HXx.out.lt)
    have HB3 := Lib.hid (HB2.out.trans (hb3.mono HB2.out.size))
    clear hb3
    have cx0 : w3.cell? ⟨w.heap.size, 0, none⟩ = some (.int .i64 x.s) := HXx.out.cell 0
    have cx1 : w3.cell? ⟨w.heap.size, 1, none⟩ = some (.int .i64 x.n) := HXx.out.cell 1
    have cx2 : w3.cell? ⟨w.heap.size, 2, none⟩ = some (.int .i64 x.b) := HXx.out.cell 2
    have cx3 : w3.cell? ⟨w.heap.size, 3, none⟩ = some (.int .i64 x.c) := HXx.out.cell 3
    have cx4 : w3.cell? ⟨w.heap.size, 4, none⟩ = some (.int .i64 x.a) := HXx.out.cell 4
    have cx5 : w3.cell? ⟨w.heap.size, 5, none⟩ = some (.int .i64 x.r) := HXx.out.cell 5
    have cx6 : w3.cell? ⟨w.heap.size, 6, none⟩ = some (.int .i64 x.t) := HXx.out.cell 6
    have cx7 : w3.cell? ⟨w.heap.size, 7, none⟩ = some (.int .i64 x.y) := HXx.out.cell 7
    have lx := HXx.out.lt
    replace HXx := Lib.hid (HXx.out.alloc (.cells #[.int .i64 y.s, .int .i64 y.n, .int .i64 y.b, .int .i64 y.c, .int .i64 y.a, .int .i64 y.r, .int .i64 y.t, .int .i64 y.y] 25))
    have HXy := Lib.hid (Blk.new' (w3) #[.int .i64 y.s, .int .i64 y.n, .int .i64 y.b, .int .i64 y.c, .int .i64 y.a, .int .i64 y.r, .int .i64 y.t, .int .i64 y.y] 25 (b := w3.heap.size) (by simp))
    have HB4 := Lib.hid (HB3.out.alloc HB3.out.size (.cells #[.int .i64 y.s, .int .i64 y.n, .int .i64 y.b, .int .i64 y.c, .int .i64 y.a, .int .i64 y.r, .int .i64 y.t, .int .i64 y.y] 25))
    clear HL HD HA
    go_wp2_with fail
    refine (HR.out _).mono ?_
    rintro z w4 ⟨rfl, hb4⟩
    replace HXx := Lib.hid (HXx.out.below hb4 HXx.out.lt)
    replace HXy := Lib.hid (HXy.out.below hb4 HXy.out.lt)
    have HB5 := Lib.hid (HB4.out.trans (hb4.mono HB4.out.size))
    clear hb4
    have cx0 : w4.cell? ⟨w.heap.size, 0, none⟩ = some (.int .i64 x.s) := HXx.out.cell 0
    have cx1 : w4.cell? ⟨w.heap.size, 1, none⟩ = some (.int .i64 x.n) := HXx.out.cell 1
    have cx2 : w4.cell? ⟨w.heap.size, 2, none⟩ = some (.int .i64 x.b) := HXx.out.cell 2
    have cx3 : w4.cell? ⟨w.heap.size, 3, none⟩ = some (.int .i64 x.c) := HXx.out.cell 3
    have cx4 : w4.cell? ⟨w.heap.size, 4, none⟩ = some (.int .i64 x.a) := HXx.out.cell 4
    have cx5 : w4.cell? ⟨w.heap.size, 5, none⟩ = some (.int .i64 x.r) := HXx.out.cell 5
    have cx6 : w4.cell? ⟨w.heap.size, 6, none⟩ = some (.int .i64 x.t) := HXx.out.cell 6
    have cx7 : w4.cell? ⟨w.heap.size, 7, none⟩ = some (.int .i64 x.y) := HXx.out.cell 7
    have lx := HXx.out.lt
    have cy0 : w4.cell? ⟨w3.heap.size, 0, none⟩ = some (.int .i64 y.s) := HXy.out.cell 0
    have cy1 : w4.cell? ⟨w3.heap.size, 1, none⟩ = some (.int .i64 y.n) := HXy.out.cell 1
    have cy2 : w4.cell? ⟨w3.heap.size, 2, none⟩ = some (.int .i64 y.b) := HXy.out.cell 2
    have cy3 : w4.cell? ⟨w3.heap.size, 3, none⟩ = some (.int .i64 y.c) := HXy.out.cell 3
    have cy4 : w4.cell? ⟨w3.heap.size, 4, none⟩ = some (.int .i64 y.a) := HXy.out.cell 4
    have cy5 : w4.cell? ⟨w3.heap.size, 5, none⟩ = some (.int .i64 y.r) := HXy.out.cell 5
    have cy6 : w4.cell? ⟨w3.heap.size, 6, none⟩ = some (.int .i64 y.t) := HXy.out.cell 6
    have cy7 : w4.cell? ⟨w3.heap.size, 7, none⟩ = some (.int .i64 y.y) := HXy.out.cell 7
    have ly := HXy.out.lt
    replace HXx := Lib.hid (HXx.out.alloc (.cells #[.int .i64 y.s, .int .i64 y.n, .int .i64 y.b, .int .i64 y.c, .int .i64 y.a, .int .i64 y.r, .int .i64 y.t, .int .i64 y.y] 25))
    replace HXy := Lib.hid (HXy.out.alloc (.cells #[.int .i64 y.s, .int .i64 y.n, .int .i64 y.b, .int .i64 y.c, .int .i64 y.a, .int .i64 y.r, .int .i64 y.t, .int .i64 y.y] 25))
    have HXv := Lib.hid (Blk.new' (w4) #[.int .i64 y.s, .int .i64 y.n, .int .i64 y.b, .int .i64 y.c, .int .i64 y.a, .int .i64 y.r, .int .i64 y.t, .int .i64 y.y] 25 (b := w4.heap.size) (by simp))
    have HB6 := Lib.hid (HB5.out.alloc HB5.out.size (.cells #[.int .i64 y.s, .int .i64 y.n, .int .i64 y.b, .int .i64 y.c, .int .i64 y.a, .int .i64 y.r, .int .i64 y.t, .int .i64 y.y] 25))
    go_wp2_with fail
    have hS0 : ((w4).alloc (.cells #[.int .i64 y.s, .int .i64 y.n, .int .i64 y.b, .int .i64 y.c, .int .i64 y.a, .int .i64 y.r, .int .i64 y.t, .int .i64 y.y] 25)).drew.cell? ⟨w3.heap.size, 0, none⟩ = some (.int .i64 y.s) ∧ ((w4).alloc (.cells #[.int .i64 y.s, .int .i64 y.n, .int .i64 y.b, .int .i64 y.c, .int .i64 y.a, .int .i64 y.r, .int .i64 y.t, .int .i64 y.y] 25)).drew.cell? ⟨w3.heap.size, 1, none⟩ = some (.int .i64 y.n) ∧ ((w4).alloc (.cells #[.int .i64 y.s, .int .i64 y.n, .int .i64 y.b, .int .i64 y.c, .int .i64 y.a, .int .i64 y.r, .int .i64 y.t, .int .i64 y.y] 25)).drew.cell? ⟨w3.heap.size, 2, none⟩ = some (.int .i64 y.b) ∧ ((w4).alloc (.cells #[.int .i64 y.s, .int .i64 y.n, .int .i64 y.b, .int .i64 y.c, .int .i64 y.a, .int .i64 y.r, .int .i64 y.t, .int .i64 y.y] 25)).drew.cell? ⟨w3.heap.size, 3, none⟩ = some (.int .i64 y.c) ∧ ((w4).alloc (.cells #[.int .i64 y.s, .int .i64 y.n, .int .i64 y.b, .int .i64 y.c, .int .i64 y.a, .int .i64 y.r, .int .i64 y.t, .int .i64 y.y] 25)).drew.cell? ⟨w3.heap.size, 4, none⟩ = some (.int .i64 y.a) ∧ ((w4).alloc (.cells #[.int .i64 y.s, .int .i64 y.n, .int .i64 y.b, .int .i64 y.c, .int .i64 y.a, .int .i64 y.r, .int .i64 y.t, .int .i64 y.y] 25)).drew.cell? ⟨w3.heap.size, 5, none⟩ = some (.int .i64 y.r) ∧ ((w4).alloc (.cells #[.int .i64 y.s, .int .i64 y.n, .int .i64 y.b, .int .i64 y.c, .int .i64 y.a, .int .i64 y.r, .int .i64 y.t, .int .i64 y.y] 25)).drew.cell? ⟨w3.heap.size, 6, none⟩ = some (.int .i64 y.t) ∧ ((w4).alloc (.cells #[.int .i64 y.s, .int .i64 y.n, .int .i64 y.b, .int .i64 y.c, .int .i64 y.a, .int .i64 y.r, .int .i64 y.t, .int .i64 y.y] 25)).drew.cell? ⟨w3.heap.size, 7, none⟩ = some (.int .i64 y.y) ∧ ((w4).alloc (.cells #[.int .i64 y.s, .int .i64 y.n, .int .i64 y.b, .int .i64 y.c, .int .i64 y.a, .int .i64 y.r, .int .i64 y.t, .int .i64 y.y] 25)).drew.cell? ⟨w4.heap.size, 0, none⟩ = some (.int .i64 y.s) ∧ ((w4).alloc (.cells #[.int .i64 y.s, .int .i64 y.n, .int .i64 y.b, .int .i64 y.c, .int .i64 y.a, .int .i64 y.r, .int .i64 y.t, .int .i64 y.y] 25)).drew.cell? ⟨w4.heap.size, 1, none⟩ = some (.int .i64 y.n) ∧ ((w4).alloc (.cells #[.int .i64 y.s, .int .i64 y.n, .int .i64 y.b, .int .i64 y.c, .int .i64 y.a, .int .i64 y.r, .int .i64 y.t, .int .i64 y.y] 25)).drew.cell? ⟨w4.heap.size, 2, none⟩ = some (.int .i64 y.b) ∧ ((w4).alloc (.cells #[.int .i64 y.s, .int .i64 y.n, .int .i64 y.b, .int .i64 y.c, .int .i64 y.a, .int .i64 y.r, .int .i64 y.t, .int .i64 y.y] 25)).drew.cell? ⟨w4.heap.size, 3, none⟩ = some (.int .i64 y.c) ∧ ((w4).alloc (.cells #[.int .i64 y.s, .int .i64 y.n, .int .i64 y.b, .int .i64 y.c, .int .i64 y.a, .int .i64 y.r, .int .i64 y.t, .int .i64 y.y] 25)).drew.cell? ⟨w4.heap.size, 4, none⟩ = some (.int .i64 y.a) ∧ ((w4).alloc (.cells #[.int .i64 y.s, .int .i64 y.n, .int .i64 y.b, .int .i64 y.c, .int .i64 y.a, .int .i64 y.r, .int .i64 y.t, .int .i64 y.y] 25)).drew.cell? ⟨w4.heap.size, 5, none⟩ = some (.int .i64 y.r) ∧ ((w4).alloc (.cells #[.int .i64 y.s, .int .i64 y.n, .int .i64 y.b, .int .i64 y.c, .int .i64 y.a, .int .i64 y.r, .int .i64 y.t, .int .i64 y.y] 25)).drew.cell? ⟨w4.heap.size, 6, none⟩ = some (.int .i64 y.t) ∧ ((w4).alloc (.cells #[.int .i64 y.s, .int .i64 y.n, .int .i64 y.b, .int .i64 y.c, .int .i64 y.a, .int .i64 y.r, .int .i64 y.t, .int .i64 y.y] 25)).drew.cell? ⟨w4.heap.size, 7, none⟩ = some (.int .i64 y.y) := ⟨HXy.out.cell 0, HXy.out.cell 1, HXy.out.cell 2, HXy.out.cell 3, HXy.out.cell 4, HXy.out.cell 5, HXy.out.cell 6, HXy.out.cell 7, HXv.out.cell 0, HXv.out.cell 1, HXv.out.cell 2, HXv.out.cell 3, HXv.out.cell 4, HXv.out.cell 5, HXv.out.cell 6, HXv.out.cell 7⟩
    have HS0 := Lib.hid hS0
    replace HB6 := Lib.hid HB6.out.drew
    replace HXx := Lib.hid HXx.out.drew
    replace HXy := Lib.hid HXy.out.drew
    replace HXv := Lib.hid HXv.out.drew
    clear hS0
    refine wp_region_held_drew (S := fun w' => w'.cell? ⟨w3.heap.size, 0, none⟩ = some (.int .i64 y.s) ∧ w'.cell? ⟨w3.heap.size, 1, none⟩ = some (.int .i64 y.n) ∧ w'.cell? ⟨w3.heap.size, 2, none⟩ = some (.int .i64 y.b) ∧ w'.cell? ⟨w3.heap.size, 3, none⟩ = some (.int .i64 y.c) ∧ w'.cell? ⟨w3.heap.size, 4, none⟩ = some (.int .i64 y.a) ∧ w'.cell? ⟨w3.heap.size, 5, none⟩ = some (.int .i64 y.r) ∧ w'.cell? ⟨w3.heap.size, 6, none⟩ = some (.int .i64 y.t) ∧ w'.cell? ⟨w3.heap.size, 7, none⟩ = some (.int .i64 y.y) ∧ w'.cell? ⟨w4.heap.size, 0, none⟩ = some (.int .i64 y.s) ∧ w'.cell? ⟨w4.heap.size, 1, none⟩ = some (.int .i64 y.n) ∧ w'.cell? ⟨w4.heap.size, 2, none⟩ = some (.int .i64 y.b) ∧ w'.cell? ⟨w4.heap.size, 3, none⟩ = some (.int .i64 y.c) ∧ w'.cell? ⟨w4.heap.size, 4, none⟩ = some (.int .i64 y.a) ∧ w'.cell? ⟨w4.heap.size, 5, none⟩ = some (.int .i64 y.r) ∧ w'.cell? ⟨w4.heap.size, 6, none⟩ = some (.int .i64 y.t) ∧ w'.cell? ⟨w4.heap.size, 7, none⟩ = some (.int .i64 y.y)) (by kernel_rfl) HS0.out (fun hS0 => ?_)
    refine wpAnyH_take (i := 0) (v := ?_) rfl (by kernel_rfl) (by kernel_rfl) (by kernel_rfl) (fun _ _ _ h => h) (Or.inl ⟨by kernel_rfl, ?_⟩) (by first | assumption | trivial) ?_
    rotate_left
    · intro w hSw
      try dsimp only at hSw
      first | (go_simp; done) | (go_simp; with_reducible rfl)
    try simp only [Act.put, List.getElem_toArray, List.getElem_cons_succ, List.getElem_cons_zero, List.setIfInBounds_toArray, List.set_cons_zero, List.set_cons_succ]
    refine wpAnyH_take (i := 1) (v := ?_) rfl (by kernel_rfl) (by kernel_rfl) (by kernel_rfl) (fun _ _ _ h => h) (Or.inl ⟨by kernel_rfl, ?_⟩) (by first | assumption | trivial) ?_
    rotate_left
    · intro w hSw
      try dsimp only at hSw
      first | (go_simp; done) | (go_simp; with_reducible rfl)
    try simp only [Act.put, List.getElem_toArray, List.getElem_cons_succ, List.getElem_cons_zero, List.setIfInBounds_toArray, List.set_cons_zero, List.set_cons_succ]
    refine wpAnyH_take (i := 2) (v := ?_) rfl (by kernel_rfl) (by kernel_rfl) (by kernel_rfl) (fun _ _ _ h => h) (Or.inl ⟨by kernel_rfl, ?_⟩) (by first | assumption | trivial) ?_
    rotate_left
    · intro w hSw
      try dsimp only at hSw
      first | (go_simp; done) | (go_simp; with_reducible rfl)
    try simp only [Act.put, List.getElem_toArray, List.getElem_cons_succ, List.getElem_cons_zero, List.setIfInBounds_toArray, List.set_cons_zero, List.set_cons_succ]
    refine wpAnyH_take (i := 3) (v := ?_) rfl (by kernel_rfl) (by kernel_rfl) (by kernel_rfl) (fun _ _ _ h => h) (Or.inl ⟨by kernel_rfl, ?_⟩) (by first | assumption | trivial) ?_
    rotate_left
    · intro w hSw
      try dsimp only at hSw
      first | (go_simp; done) | (go_simp; with_reducible rfl)
    try simp only [Act.put, List.getElem_toArray, List.getElem_cons_succ, List.getElem_cons_zero, List.setIfInBounds_toArray, List.set_cons_zero, List.set_cons_succ]
    refine wpAnyH_take (i := 4) (v := ?_) rfl (by kernel_rfl) (by kernel_rfl) (by kernel_rfl) (fun _ _ _ h => h) (Or.inl ⟨by kernel_rfl, ?_⟩) (by first | assumption | trivial) ?_
    rotate_left
    · intro w hSw
      try dsimp only at hSw
      first | (go_simp; done) | (go_simp; with_reducible rfl)
    try simp only [Act.put, List.getElem_toArray, List.getElem_cons_succ, List.getElem_cons_zero, List.setIfInBounds_toArray, List.set_cons_zero, List.set_cons_succ]
    refine wpAnyH_take (i := 5) (v := ?_) rfl (by kernel_rfl) (by kernel_rfl) (by kernel_rfl) (fun _ _ _ h => h) (Or.inl ⟨by kernel_rfl, ?_⟩) (by first | assumption | trivial) ?_
    rotate_left
    · intro w hSw
      try dsimp only at hSw
      first | (go_simp; done) | (go_simp; with_reducible rfl)
    try simp only [Act.put, List.getElem_toArray, List.getElem_cons_succ, List.getElem_cons_zero, List.setIfInBounds_toArray, List.set_cons_zero, List.set_cons_succ]
    refine wpAnyH_take (i := 6) (v := ?_) rfl (by kernel_rfl) (by kernel_rfl) (by kernel_rfl) (fun _ _ _ h => h) (Or.inl ⟨by kernel_rfl, ?_⟩) (by first | assumption | trivial) ?_
    rotate_left
    · intro w hSw
      try dsimp only at hSw
      first | (go_simp; done) | (go_simp; with_reducible rfl)
    try simp only [Act.put, List.getElem_toArray, List.getElem_cons_succ, List.getElem_cons_zero, List.setIfInBounds_toArray, List.set_cons_zero, List.set_cons_succ]
    refine wpAnyH_take (i := 7) (v := ?_) rfl (by kernel_rfl) (by kernel_rfl) (by kernel_rfl) (fun _ _ _ h => h) (Or.inl ⟨by kernel_rfl, ?_⟩) (by first | assumption | trivial) ?_
    rotate_left
    · intro w hSw
      try dsimp only at hSw
      first | (go_simp; done) | (go_simp; with_reducible rfl)
    try simp only [Act.put, List.getElem_toArray, List.getElem_cons_succ, List.getElem_cons_zero, List.setIfInBounds_toArray, List.set_cons_zero, List.set_cons_succ]
    refine wpAnyH_take (i := 8) (v := ?_) rfl (by kernel_rfl) (by kernel_rfl) (by kernel_rfl) (fun _ _ _ h => h) (Or.inl ⟨by kernel_rfl, ?_⟩) (by first | assumption | trivial) ?_
    rotate_left
    · intro w hSw
      try dsimp only at hSw
      first | (go_simp; done) | (go_simp; with_reducible rfl)
    try simp only [Act.put, List.getElem_toArray, List.getElem_cons_succ, List.getElem_cons_zero, List.setIfInBounds_toArray, List.set_cons_zero, List.set_cons_succ]
    refine wpAnyH_take (i := 9) (v := ?_) rfl (by kernel_rfl) (by kernel_rfl) (by kernel_rfl) (fun _ _ _ h => h) (Or.inl ⟨by kernel_rfl, ?_⟩) (by first | assumption | trivial) ?_
    rotate_left
    · intro w hSw
      try dsimp only at hSw
      first | (go_simp; done) | (go_simp; with_reducible rfl)
    try simp only [Act.put, List.getElem_toArray, List.getElem_cons_succ, List.getElem_cons_zero, List.setIfInBounds_toArray, List.set_cons_zero, List.set_cons_succ]
    refine wpAnyH_ready (rs := [10]) (by kernel_rfl) (by simp) ?_
    refine AllReadyH.cons rfl (fun K hK => ?_) AllReadyH.nil
    go_simp
    go_at_call 13
    refine (HC.out _).mono ?_
    rintro y w5 ⟨rfl, hb5⟩
    replace HXx := Lib.hid (HXx.out.below hb5 HXx.out.lt)
    replace HXy := Lib.hid (HXy.out.below hb5 HXy.out.lt)
    replace HXv := Lib.hid (HXv.out.below hb5 HXv.out.lt)
    have HB7 := Lib.hid (HB6.out.trans (hb5.mono HB6.out.size))
    clear hb5
    try go_wp2_with fail
    refine hK.out _ _ ⟨HXy.out.cell 0, HXy.out.cell 1, HXy.out.cell 2, HXy.out.cell 3, HXy.out.cell 4, HXy.out.cell 5, HXy.out.cell 6, HXy.out.cell 7, HXv.out.cell 0, HXv.out.cell 1, HXv.out.cell 2, HXv.out.cell 3, HXv.out.cell 4, HXv.out.cell 5, HXv.out.cell 6, HXv.out.cell 7⟩ (fun hS => ?_)
    clear hK K
    try simp only [Act.put, List.getElem_toArray, List.getElem_cons_succ, List.getElem_cons_zero, List.setIfInBounds_toArray, List.set_cons_zero, List.set_cons_succ]
    refine wpAnyH_take (i := 11) (v := ?_) rfl (by kernel_rfl) (by kernel_rfl) (by kernel_rfl) (fun _ _ _ h => h) (Or.inl ⟨by kernel_rfl, ?_⟩) (by first | assumption | trivial) ?_
    rotate_left
    · intro w hSw
      try dsimp only at hSw
      first | (go_simp; done) | (go_simp; with_reducible rfl)
    try simp only [Act.put, List.getElem_toArray, List.getElem_cons_succ, List.getElem_cons_zero, List.setIfInBounds_toArray, List.set_cons_zero, List.set_cons_succ]
    refine wpAnyH_take (i := 12) (v := ?_) rfl (by kernel_rfl) (by kernel_rfl) (by kernel_rfl) (fun _ _ _ h => h) (Or.inl ⟨by kernel_rfl, ?_⟩) (by first | assumption | trivial) ?_
    rotate_left
    · intro w hSw
      try dsimp only at hSw
      first | (go_simp; done) | (go_simp; with_reducible rfl)
    try simp only [Act.put, List.getElem_toArray, List.getElem_cons_succ, List.getElem_cons_zero, List.setIfInBounds_toArray, List.set_cons_zero, List.set_cons_succ]
    refine wpAnyH_take (i := 13) (v := ?_) rfl (by kernel_rfl) (by kernel_rfl) (by kernel_rfl) (fun _ _ _ h => h) (Or.inl ⟨by kernel_rfl, ?_⟩) (by first | assumption | trivial) ?_
    rotate_left
    · intro w hSw
      try dsimp only at hSw
      first | (go_simp; done) | (go_simp; with_reducible rfl)
    try simp only [Act.put, List.getElem_toArray, List.getElem_cons_succ, List.getElem_cons_zero, List.setIfInBounds_toArray, List.set_cons_zero, List.set_cons_succ]
    refine wpAnyH_take (i := 14) (v := ?_) rfl (by kernel_rfl) (by kernel_rfl) (by kernel_rfl) (fun _ _ _ h => h) (Or.inl ⟨by kernel_rfl, ?_⟩) (by first | assumption | trivial) ?_
    rotate_left
    · intro w hSw
      try dsimp only at hSw
      first | (go_simp; done) | (go_simp; with_reducible rfl)
    try simp only [Act.put, List.getElem_toArray, List.getElem_cons_succ, List.getElem_cons_zero, List.setIfInBounds_toArray, List.set_cons_zero, List.set_cons_succ]
    refine wpAnyH_take (i := 16) (v := ?_) rfl (by kernel_rfl) (by kernel_rfl) (by kernel_rfl) (fun _ _ _ h => h) (Or.inl ⟨by kernel_rfl, ?_⟩) (by first | assumption | trivial) ?_
    rotate_left
    · intro w hSw
      try dsimp only at hSw
      first | (go_simp; done) | (go_simp; with_reducible rfl)
    try simp only [Act.put, List.getElem_toArray, List.getElem_cons_succ, List.getElem_cons_zero, List.setIfInBounds_toArray, List.set_cons_zero, List.set_cons_succ]
    refine wpAnyH_ready (rs := [15]) (by kernel_rfl) (by simp) ?_
    refine AllReadyH.cons rfl (fun K hK => ?_) AllReadyH.nil
    go_simp
    go_at_call 14
    refine (HK.out _).mono ?_
    rintro y w6 ⟨rfl, hb6⟩
    replace HXx := Lib.hid (HXx.out.below hb6 HXx.out.lt)
    replace HXy := Lib.hid (HXy.out.below hb6 HXy.out.lt)
    replace HXv := Lib.hid (HXv.out.below hb6 HXv.out.lt)
    have HB8 := Lib.hid (HB7.out.trans (hb6.mono HB7.out.size))
    clear hb6
    try go_wp2_with fail
    refine hK.out _ _ ⟨HXy.out.cell 0, HXy.out.cell 1, HXy.out.cell 2, HXy.out.cell 3, HXy.out.cell 4, HXy.out.cell 5, HXy.out.cell 6, HXy.out.cell 7, HXv.out.cell 0, HXv.out.cell 1, HXv.out.cell 2, HXv.out.cell 3, HXv.out.cell 4, HXv.out.cell 5, HXv.out.cell 6, HXv.out.cell 7⟩ (fun hS => ?_)
    clear hK K
    try simp only [Act.put, List.getElem_toArray, List.getElem_cons_succ, List.getElem_cons_zero, List.setIfInBounds_toArray, List.set_cons_zero, List.set_cons_succ]
    refine wpAnyH_ready (rs := [17]) (by kernel_rfl) (by simp) ?_
    refine AllReadyH.cons rfl (fun K hK => ?_) AllReadyH.nil
    go_simp
    go_at_call 15
    refine (HQ.out _).mono ?_
    rintro y w7 ⟨rfl, hb7⟩
    replace HXx := Lib.hid (HXx.out.below hb7 HXx.out.lt)
    replace HXy := Lib.hid (HXy.out.below hb7 HXy.out.lt)
    replace HXv := Lib.hid (HXv.out.below hb7 HXv.out.lt)
    have HB9 := Lib.hid (HB8.out.trans (hb7.mono HB8.out.size))
    clear hb7
    try go_wp2_with fail
    refine hK.out _ _ ⟨HXy.out.cell 0, HXy.out.cell 1, HXy.out.cell 2, HXy.out.cell 3, HXy.out.cell 4, HXy.out.cell 5, HXy.out.cell 6, HXy.out.cell 7, HXv.out.cell 0, HXv.out.cell 1, HXv.out.cell 2, HXv.out.cell 3, HXv.out.cell 4, HXv.out.cell 5, HXv.out.cell 6, HXv.out.cell 7⟩ (fun hS => ?_)
    clear hK K
    try simp only [Act.put, List.getElem_toArray, List.getElem_cons_succ, List.getElem_cons_zero, List.setIfInBounds_toArray, List.set_cons_zero, List.set_cons_succ]
    refine wpAnyH_take (i := 18) (v := ?_) rfl (by kernel_rfl) (by kernel_rfl) (by kernel_rfl) (fun _ _ _ h => h) (Or.inl ⟨by kernel_rfl, ?_⟩) (by first | assumption | trivial) ?_
    rotate_left
    · intro w hSw
      try dsimp only at hSw
      first | (go_simp; done) | (go_simp; with_reducible rfl)
    try simp only [Act.put, List.getElem_toArray, List.getElem_cons_succ, List.getElem_cons_zero, List.setIfInBounds_toArray, List.set_cons_zero, List.set_cons_succ]
    refine wpAnyH_take (i := 19) (v := ?_) rfl (by kernel_rfl) (by kernel_rfl) (by kernel_rfl) (fun _ _ _ h => h) (Or.inl ⟨by kernel_rfl, ?_⟩) (by first | assumption | trivial) ?_
    rotate_left
    · intro w hSw
      try dsimp only at hSw
      first | (go_simp; done) | (go_simp; with_reducible rfl)
    try simp only [Act.put, List.getElem_toArray, List.getElem_cons_succ, List.getElem_cons_zero, List.setIfInBounds_toArray, List.set_cons_zero, List.set_cons_succ]
    refine wpAnyH_take (i := 20) (v := ?_) rfl (by kernel_rfl) (by kernel_rfl) (by kernel_rfl) (fun _ _ _ h => h) (Or.inl ⟨by kernel_rfl, ?_⟩) (by first | assumption | trivial) ?_
    rotate_left
    · intro w hSw
      try dsimp only at hSw
      first | (go_simp; done) | (go_simp; with_reducible rfl)
    try simp only [Act.put, List.getElem_toArray, List.getElem_cons_succ, List.getElem_cons_zero, List.setIfInBounds_toArray, List.set_cons_zero, List.set_cons_succ]
    refine wpAnyH_done (by kernel_rfl) ?_ _
    go_wp2_with fail
    go_ret
    exact ⟨rfl, HB9.out⟩
  · skip
    have e0 : (chkI x != 0) = true := by simpa using h
    generalize chkI x = q at HD e0
    clear h
    unfold Itm.v at *
    have HB0 := Lib.hid (oneB w (.cells #[.int .i64 x.s, .int .i64 x.n, .int .i64 x.b, .int .i64 x.c, .int .i64 x.a, .int .i64 x.r, .int .i64 x.t, .int .i64 x.y] 25))
    have HXx := Lib.hid (Blk.new w #[.int .i64 x.s, .int .i64 x.n, .int .i64 x.b, .int .i64 x.c, .int .i64 x.a, .int .i64 x.r, .int .i64 x.t, .int .i64 x.y] 25)
    go_enter Try.func3, Try.ntmps3
    go_wp2_with fail
    refine (HL.out _).mono ?_
    rintro z w1 ⟨rfl, hb1⟩
    replace HXx := Lib.hid (HXx.out.below hb1 HXx.out.lt)
    have HB1 := Lib.hid (HB0.out.trans (hb1.mono HB0.out.size))
    clear hb1
    have cx0 : w1.cell? ⟨w.heap.size, 0, none⟩ = some (.int .i64 x.s) := HXx.out.cell 0
    have cx1 : w1.cell? ⟨w.heap.size, 1, none⟩ = some (.int .i64 x.n) := HXx.out.cell 1
    have cx2 : w1.cell? ⟨w.heap.size, 2, none⟩ = some (.int .i64 x.b) := HXx.out.cell 2
    have cx3 : w1.cell? ⟨w.heap.size, 3, none⟩ = some (.int .i64 x.c) := HXx.out.cell 3
    have cx4 : w1.cell? ⟨w.heap.size, 4, none⟩ = some (.int .i64 x.a) := HXx.out.cell 4
    have cx5 : w1.cell? ⟨w.heap.size, 5, none⟩ = some (.int .i64 x.r) := HXx.out.cell 5
    have cx6 : w1.cell? ⟨w.heap.size, 6, none⟩ = some (.int .i64 x.t) := HXx.out.cell 6
    have cx7 : w1.cell? ⟨w.heap.size, 7, none⟩ = some (.int .i64 x.y) := HXx.out.cell 7
    have lx := HXx.out.lt
    go_wp2_with fail
    refine (HD.out _).mono ?_
    rintro z w2 ⟨rfl, hb2⟩
    replace HXx := Lib.hid (HXx.out.below hb2 HXx.out.lt)
    have HB2 := Lib.hid (HB1.out.trans (hb2.mono HB1.out.size))
    clear hb2
    have cx0 : w2.cell? ⟨w.heap.size, 0, none⟩ = some (.int .i64 x.s) := HXx.out.cell 0
    have cx1 : w2.cell? ⟨w.heap.size, 1, none⟩ = some (.int .i64 x.n) := HXx.out.cell 1
    have cx2 : w2.cell? ⟨w.heap.size, 2, none⟩ = some (.int .i64 x.b) := HXx.out.cell 2
    have cx3 : w2.cell? ⟨w.heap.size, 3, none⟩ = some (.int .i64 x.c) := HXx.out.cell 3
    have cx4 : w2.cell? ⟨w.heap.size, 4, none⟩ = some (.int .i64 x.a) := HXx.out.cell 4
    have cx5 : w2.cell? ⟨w.heap.size, 5, none⟩ = some (.int .i64 x.r) := HXx.out.cell 5
    have cx6 : w2.cell? ⟨w.heap.size, 6, none⟩ = some (.int .i64 x.t) := HXx.out.cell 6
    have cx7 : w2.cell? ⟨w.heap.size, 7, none⟩ = some (.int .i64 x.y) := HXx.out.cell 7
    have lx := HXx.out.lt
    go_wp2_with fail
    go_ret
    exact ⟨rfl, HB2.out⟩
end Go.Proofs.Ytadhiggmhibofaa
