/- ItemChecks: the walk. -/
import Derived.Test.YtadhiggmhibofaaItem7
import Derived.Deep.RegionHeld3
namespace Go.Proofs.Ytadhiggmhibofaa
open Go.RowKit
theorem chk_new (s n b c a : Int) : chkI (newI s n b c a) = 0 ∨ chkI (newI s n b c a) = 1 := by
  unfold chkI
  split
  · left
    rw [if_neg]
    unfold cycBad
    simp
  · exact .inr rfl
set_option linter.unusedSimpArgs false in
set_option maxHeartbeats 4000000 in
theorem itemchecks_walk (x : Itm) (w : World) (_ : x.Fit) : Calls Try.prog 4 #[x.v] w fun e w' => e = .returned (.bool true) ∧ Below w.heap.size w w' := by
  have HL := Lib.hid (fun w => lives_any w)
  have HC := Lib.hid (fun w => check_any x w)
  have HD := Lib.hid (fun w => refcheck_any x w)
  have HN := Lib.hid (fun w => new_any x.s x.n x.b x.c x.a w)
  have HE := Lib.hid (fun w => refcheck_any (newI x.s x.n x.b x.c x.a) w)
  generalize chkI x = q at HC HD
  have hcase := chk_new x.s x.n x.b x.c x.a
  rcases hcase with h | h
  · skip
    rw [h] at HE
    rw [show newA (newI x.s x.n x.b x.c x.a) = (newI x.s x.n x.b x.c x.a, 0) by unfold newA; rw [h]; rfl] at HN
    clear h
    unfold ansI Itm.v at *
    dsimp only at *
    have HB0 := Lib.hid (oneB w (.cells #[.int .i64 x.s, .int .i64 x.n, .int .i64 x.b, .int .i64 x.c, .int .i64 x.a, .int .i64 x.r, .int .i64 x.t, .int .i64 x.y] 25))
    have HXx := Lib.hid (Blk.new w #[.int .i64 x.s, .int .i64 x.n, .int .i64 x.b, .int .i64 x.c, .int .i64 x.a, .int .i64 x.r, .int .i64 x.t, .int .i64 x.y] 25)
    go_enter Try.func4, Try.ntmps4
    go_wp2_with fail
    refine (HL.out _).mono ?_
    rintro z w1 ⟨rfl, hb1⟩
    replace HXx := Lib.hid (HXx.out.below hb1 HXx.out.lt)
    have HB1 := Lib.hid (HB0.out.trans (hb1.mono HB0.out.size))
    clear hb1
    have cx0 : w1.cell? ⟨w.heap.size, 0, none⟩ = some (.int .i64 x.s) := HXx.out.cell 0
    have cx1 : w1.cell? ⟨w.heap.size, 1, none⟩ = some (.int .i64 x.n) := HXx.out.cell 1
    have cx2 : w1.cell? ⟨w.heap.size, 2, none⟩ = some (.int .i64 x.b) := HXx.out.cell 2
    have cx3 : w1.cell? ⟨w.heap.size, 3, none⟩ = some (.int .i64 x.c) := HXx.out.cell 3
    have cx4 : w1.cell? ⟨w.heap.size, 4, none⟩ = some (.int .i64 x.a) := HXx.out.cell 4
    have cx5 : w1.cell? ⟨w.heap.size, 5, none⟩ = some (.int .i64 x.r) := HXx.out.cell 5
    have cx6 : w1.cell? ⟨w.heap.size, 6, none⟩ = some (.int .i64 x.t) := HXx.out.cell 6
    have cx7 : w1.cell? ⟨w.heap.size, 7, none⟩ = some (.int .i64 x.y) := HXx.out.cell 7
    have lx := HXx.out.lt
    go_wp2_with fail
    have hS0 : (w1).drew.cell? ⟨w.heap.size, 0, none⟩ = some (.int .i64 x.s) ∧ (w1).drew.cell? ⟨w.heap.size, 1, none⟩ = some (.int .i64 x.n) ∧ (w1).drew.cell? ⟨w.heap.size, 2, none⟩ = some (.int .i64 x.b) ∧ (w1).drew.cell? ⟨w.heap.size, 3, none⟩ = some (.int .i64 x.c) ∧ (w1).drew.cell? ⟨w.heap.size, 4, none⟩ = some (.int .i64 x.a) ∧ (w1).drew.cell? ⟨w.heap.size, 5, none⟩ = some (.int .i64 x.r) ∧ (w1).drew.cell? ⟨w.heap.size, 6, none⟩ = some (.int .i64 x.t) ∧ (w1).drew.cell? ⟨w.heap.size, 7, none⟩ = some (.int .i64 x.y) := ⟨HXx.out.cell 0, HXx.out.cell 1, HXx.out.cell 2, HXx.out.cell 3, HXx.out.cell 4, HXx.out.cell 5, HXx.out.cell 6, HXx.out.cell 7⟩
    have HS0 := Lib.hid hS0
    replace HB1 := Lib.hid HB1.out.drew
    replace HXx := Lib.hid HXx.out.drew
    clear hS0
    refine wp_region_held_drew (S := fun w' => w'.cell? ⟨w.heap.size, 0, none⟩ = some (.int .i64 x.s) ∧ w'.cell? ⟨w.heap.size, 1, none⟩ = some (.int .i64 x.n) ∧ w'.cell? ⟨w.heap.size, 2, none⟩ = some (.int .i64 x.b) ∧ w'.cell? ⟨w.heap.size, 3, none⟩ = some (.int .i64 x.c) ∧ w'.cell? ⟨w.heap.size, 4, none⟩ = some (.int .i64 x.a) ∧ w'.cell? ⟨w.heap.size, 5, none⟩ = some (.int .i64 x.r) ∧ w'.cell? ⟨w.heap.size, 6, none⟩ = some (.int .i64 x.t) ∧ w'.cell? ⟨w.heap.size, 7, none⟩ = some (.int .i64 x.y)) (by kernel_rfl) HS0.out (fun hS0 => ?_)
    refine wpAnyH_take (i := 0) (v := ?_) rfl (by kernel_rfl) (by kernel_rfl) (by kernel_rfl) (fun _ _ _ h => h) (Or.inl ⟨by kernel_rfl, ?_⟩) (by first | assumption | trivial) ?_
    rotate_left
    · intro w hSw
      try dsimp only at hSw
      first | (go_simp; done) | (go_simp; with_reducible rfl)
    try simp only [Act.put, List.getElem_toArray, List.getElem_cons_succ, List.getElem_cons_zero, List.setIfInBounds_toArray, List.set_cons_zero, List.set_cons_succ]
    refine wpAnyH_take (i := 2) (v := ?_) rfl (by kernel_rfl) (by kernel_rfl) (by kernel_rfl) (fun _ _ _ h => h) (Or.inl ⟨by kernel_rfl, ?_⟩) (by first | assumption | trivial) ?_
    rotate_left
    · intro w hSw
      try dsimp only at hSw
      first | (go_simp; done) | (go_simp; with_reducible rfl)
    try simp only [Act.put, List.getElem_toArray, List.getElem_cons_succ, List.getElem_cons_zero, List.setIfInBounds_toArray, List.set_cons_zero, List.set_cons_succ]
    refine wpAnyH_ready (rs := [1]) (by kernel_rfl) (by simp) ?_
    refine AllReadyH.cons rfl (fun K hK => ?_) AllReadyH.nil
    go_simp
    go_at_call 13
    refine (HC.out _).mono ?_
    rintro y w2 ⟨rfl, hb2⟩
    replace HXx := Lib.hid (HXx.out.below hb2 HXx.out.lt)
    have HB2 := Lib.hid (HB1.out.trans (hb2.mono HB1.out.size))
    clear hb2
    try go_wp2_with fail
    refine hK.out _ _ ⟨HXx.out.cell 0, HXx.out.cell 1, HXx.out.cell 2, HXx.out.cell 3, HXx.out.cell 4, HXx.out.cell 5, HXx.out.cell 6, HXx.out.cell 7⟩ (fun hS => ?_)
    clear hK K
    try simp only [Act.put, List.getElem_toArray, List.getElem_cons_succ, List.getElem_cons_zero, List.setIfInBounds_toArray, List.set_cons_zero, List.set_cons_succ]
    refine wpAnyH_ready (rs := [3]) (by kernel_rfl) (by simp) ?_
    refine AllReadyH.cons rfl (fun K hK => ?_) AllReadyH.nil
    go_simp
    go_at_call 10
    refine (HD.out _).mono ?_
    rintro y w3 ⟨rfl, hb3⟩
    replace HXx := Lib.hid (HXx.out.below hb3 HXx.out.lt)
    have HB3 := Lib.hid (HB2.out.trans (hb3.mono HB2.out.size))
    clear hb3
    try go_wp2_with fail
    refine hK.out _ _ ⟨HXx.out.cell 0, HXx.out.cell 1, HXx.out.cell 2, HXx.out.cell 3, HXx.out.cell 4, HXx.out.cell 5, HXx.out.cell 6, HXx.out.cell 7⟩ (fun hS => ?_)
    clear hK K
    try simp only [Act.put, List.getElem_toArray, List.getElem_cons_succ, List.getElem_cons_zero, List.setIfInBounds_toArray, List.set_cons_zero, List.set_cons_succ]
    refine wpAnyH_take (i := 4) (v := ?_) rfl (by kernel_rfl) (by kernel_rfl) (by kernel_rfl) (fun _ _ _ h => h) (Or.inl ⟨by kernel_rfl, ?_⟩) (by first | assumption | trivial) ?_
    rotate_left
    · intro w hSw
      try dsimp only at hSw
      first | (go_simp; done) | (go_simp; with_reducible rfl)
    try simp only [Act.put, List.getElem_toArray, List.getElem_cons_succ, List.getElem_cons_zero, List.setIfInBounds_toArray, List.set_cons_zero, List.set_cons_succ]
    refine wpAnyH_done (by kernel_rfl) ?_ _
    clear HC HD HL
    have cx0 : w3.cell? ⟨w.heap.size, 0, none⟩ = some (.int .i64 x.s) := HXx.out.cell 0
    have cx1 : w3.cell? ⟨w.heap.size, 1, none⟩ = some (.int .i64 x.n) := HXx.out.cell 1
    have cx2 : w3.cell? ⟨w.heap.size, 2, none⟩ = some (.int .i64 x.b) := HXx.out.cell 2
    have cx3 : w3.cell? ⟨w.heap.size, 3, none⟩ = some (.int .i64 x.c) := HXx.out.cell 3
    have cx4 : w3.cell? ⟨w.heap.size, 4, none⟩ = some (.int .i64 x.a) := HXx.out.cell 4
    have cx5 : w3.cell? ⟨w.heap.size, 5, none⟩ = some (.int .i64 x.r) := HXx.out.cell 5
    have cx6 : w3.cell? ⟨w.heap.size, 6, none⟩ = some (.int .i64 x.t) := HXx.out.cell 6
    have cx7 : w3.cell? ⟨w.heap.size, 7, none⟩ = some (.int .i64 x.y) := HXx.out.cell 7
    have lx := HXx.out.lt
    go_wp2_with fail
    refine (HN.out _).mono ?_
    rintro z w4 ⟨rfl, hb4⟩
    replace HXx := Lib.hid (HXx.out.below hb4 HXx.out.lt)
    have HB4 := Lib.hid (HB3.out.trans (hb4.mono HB3.out.size))
    clear hb4
    have cx0 : w4.cell? ⟨w.heap.size, 0, none⟩ = some (.int .i64 x.s) := HXx.out.cell 0
    have cx1 : w4.cell? ⟨w.heap.size, 1, none⟩ = some (.int .i64 x.n) := HXx.out.cell 1
    have cx2 : w4.cell? ⟨w.heap.size, 2, none⟩ = some (.int .i64 x.b) := HXx.out.cell 2
    have cx3 : w4.cell? ⟨w.heap.size, 3, none⟩ = some (.int .i64 x.c) := HXx.out.cell 3
    have cx4 : w4.cell? ⟨w.heap.size, 4, none⟩ = some (.int .i64 x.a) := HXx.out.cell 4
    have cx5 : w4.cell? ⟨w.heap.size, 5, none⟩ = some (.int .i64 x.r) := HXx.out.cell 5
    have cx6 : w4.cell? ⟨w.heap.size, 6, none⟩ = some (.int .i64 x.t) := HXx.out.cell 6
    have cx7 : w4.cell? ⟨w.heap.size, 7, none⟩ = some (.int .i64 x.y) := HXx.out.cell 7
    have lx := HXx.out.lt
    replace HXx := Lib.hid (HXx.out.alloc (.cells #[.int .i64 x.s, .int .i64 x.n, .int .i64 x.b, .int .i64 x.c, .int .i64 x.a, .int .i64 0, .int .i64 1, .int .i64 0] 25))
    have HXy := Lib.hid (Blk.new' (w4) #[.int .i64 x.s, .int .i64 x.n, .int .i64 x.b, .int .i64 x.c, .int .i64 x.a, .int .i64 0, .int .i64 1, .int .i64 0] 25 (b := w4.heap.size) (by simp))
    have HB5 := Lib.hid (HB4.out.alloc HB4.out.size (.cells #[.int .i64 x.s, .int .i64 x.n, .int .i64 x.b, .int .i64 x.c, .int .i64 x.a, .int .i64 0, .int .i64 1, .int .i64 0] 25))
    replace HXx := Lib.hid (HXx.out.alloc (.cells #[.int .i64 x.s, .int .i64 x.n, .int .i64 x.b, .int .i64 x.c, .int .i64 x.a, .int .i64 0, .int .i64 1, .int .i64 0] 25))
    replace HXy := Lib.hid (HXy.out.alloc (.cells #[.int .i64 x.s, .int .i64 x.n, .int .i64 x.b, .int .i64 x.c, .int .i64 x.a, .int .i64 0, .int .i64 1, .int .i64 0] 25))
    have HXv := Lib.hid (Blk.new' ((w4).alloc (.cells #[.int .i64 x.s, .int .i64 x.n, .int .i64 x.b, .int .i64 x.c, .int .i64 x.a, .int .i64 0, .int .i64 1, .int .i64 0] 25)) #[.int .i64 x.s, .int .i64 x.n, .int .i64 x.b, .int .i64 x.c, .int .i64 x.a, .int .i64 0, .int .i64 1, .int .i64 0] 25 (b := w4.heap.size + 1) (by simp))
    have HB6 := Lib.hid (HB5.out.alloc HB5.out.size (.cells #[.int .i64 x.s, .int .i64 x.n, .int .i64 x.b, .int .i64 x.c, .int .i64 x.a, .int .i64 0, .int .i64 1, .int .i64 0] 25))
    go_wp2_with fail
    refine (HE.out _).mono ?_
    rintro z w5 ⟨rfl, hb5⟩
    replace HXx := Lib.hid (HXx.out.below hb5 HXx.out.lt)
    replace HXy := Lib.hid (HXy.out.below hb5 HXy.out.lt)
    replace HXv := Lib.hid (HXv.out.below hb5 HXv.out.lt)
    have HB7 := Lib.hid (HB6.out.trans (hb5.mono HB6.out.size))
    clear hb5
    have cx0 : w5.cell? ⟨w.heap.size, 0, none⟩ = some (.int .i64 x.s) := HXx.out.cell 0
    have cx1 : w5.cell? ⟨w.heap.size, 1, none⟩ = some (.int .i64 x.n) := HXx.out.cell 1
    have cx2 : w5.cell? ⟨w.heap.size, 2, none⟩ = some (.int .i64 x.b) := HXx.out.cell 2
    have cx3 : w5.cell? ⟨w.heap.size, 3, none⟩ = some (.int .i64 x.c) := HXx.out.cell 3
    have cx4 : w5.cell? ⟨w.heap.size, 4, none⟩ = some (.int .i64 x.a) := HXx.out.cell 4
    have cx5 : w5.cell? ⟨w.heap.size, 5, none⟩ = some (.int .i64 x.r) := HXx.out.cell 5
    have cx6 : w5.cell? ⟨w.heap.size, 6, none⟩ = some (.int .i64 x.t) := HXx.out.cell 6
    have cx7 : w5.cell? ⟨w.heap.size, 7, none⟩ = some (.int .i64 x.y) := HXx.out.cell 7
    have lx := HXx.out.lt
    have cy0 : w5.cell? ⟨w4.heap.size, 0, none⟩ = some (.int .i64 x.s) := HXy.out.cell 0
    have cy1 : w5.cell? ⟨w4.heap.size, 1, none⟩ = some (.int .i64 x.n) := HXy.out.cell 1
    have cy2 : w5.cell? ⟨w4.heap.size, 2, none⟩ = some (.int .i64 x.b) := HXy.out.cell 2
    have cy3 : w5.cell? ⟨w4.heap.size, 3, none⟩ = some (.int .i64 x.c) := HXy.out.cell 3
    have cy4 : w5.cell? ⟨w4.heap.size, 4, none⟩ = some (.int .i64 x.a) := HXy.out.cell 4
    have cy5 : w5.cell? ⟨w4.heap.size, 5, none⟩ = some (.int .i64 0) := HXy.out.cell 5
    have cy6 : w5.cell? ⟨w4.heap.size, 6, none⟩ = some (.int .i64 1) := HXy.out.cell 6
    have cy7 : w5.cell? ⟨w4.heap.size, 7, none⟩ = some (.int .i64 0) := HXy.out.cell 7
    have ly := HXy.out.lt
    have cv0 : w5.cell? ⟨w4.heap.size + 1, 0, none⟩ = some (.int .i64 x.s) := HXv.out.cell 0
    have cv1 : w5.cell? ⟨w4.heap.size + 1, 1, none⟩ = some (.int .i64 x.n) := HXv.out.cell 1
    have cv2 : w5.cell? ⟨w4.heap.size + 1, 2, none⟩ = some (.int .i64 x.b) := HXv.out.cell 2
    have cv3 : w5.cell? ⟨w4.heap.size + 1, 3, none⟩ = some (.int .i64 x.c) := HXv.out.cell 3
    have cv4 : w5.cell? ⟨w4.heap.size + 1, 4, none⟩ = some (.int .i64 x.a) := HXv.out.cell 4
    have cv5 : w5.cell? ⟨w4.heap.size + 1, 5, none⟩ = some (.int .i64 0) := HXv.out.cell 5
    have cv6 : w5.cell? ⟨w4.heap.size + 1, 6, none⟩ = some (.int .i64 1) := HXv.out.cell 6
    have cv7 : w5.cell? ⟨w4.heap.size + 1, 7, none⟩ = some (.int .i64 0) := HXv.out.cell 7
    have lv := HXv.out.lt
    go_wp2_with fail
    go_ret
    exact ⟨rfl, HB7.out⟩
  · skip
    rw [h] at HE
    rw [show newA (newI x.s x.n x.b x.c x.a) = (zeroI, 1) by unfold newA; rw [h]; rfl] at HN
    clear h
    unfold ansI Itm.v at *
    dsimp only at *
    have HB0 := Lib.hid (oneB w (.cells #[.int .i64 x.s, .int .i64 x.n, .int .i64 x.b, .int .i64 x.c, .int .i64 x.a, .int .i64 x.r, .int .i64 x.t, .int .i64 x.y] 25))
    have HXx := Lib.hid (Blk.new w #[.int .i64 x.s, .int .i64 x.n, .int .i64 x.b, .int .i64 x.c, .int .i64 x.a, .int .i64 x.r, .int .i64 x.t, .int .i64 x.y] 25)
    go_enter Try.func4, Try.ntmps4
    go_wp2_with fail
    refine (HL.out _).mono ?_
    rintro z w1 ⟨rfl, hb1⟩
    replace HXx := Lib.hid (HXx.out.below hb1 HXx.out.lt)
    have HB1 := Lib.hid (HB0.out.trans (hb1.mono HB0.out.size))
    clear hb1
    have cx0 : w1.cell? ⟨w.heap.size, 0, none⟩ = some (.int .i64 x.s) := HXx.out.cell 0
    have cx1 : w1.cell? ⟨w.heap.size, 1, none⟩ = some (.int .i64 x.n) := HXx.out.cell 1
    have cx2 : w1.cell? ⟨w.heap.size, 2, none⟩ = some (.int .i64 x.b) := HXx.out.cell 2
    have cx3 : w1.cell? ⟨w.heap.size, 3, none⟩ = some (.int .i64 x.c) := HXx.out.cell 3
    have cx4 : w1.cell? ⟨w.heap.size, 4, none⟩ = some (.int .i64 x.a) := HXx.out.cell 4
    have cx5 : w1.cell? ⟨w.heap.size, 5, none⟩ = some (.int .i64 x.r) := HXx.out.cell 5
    have cx6 : w1.cell? ⟨w.heap.size, 6, none⟩ = some (.int .i64 x.t) := HXx.out.cell 6
    have cx7 : w1.cell? ⟨w.heap.size, 7, none⟩ = some (.int .i64 x.y) := HXx.out.cell 7
    have lx := HXx.out.lt
    go_wp2_with fail
    have hS0 : (w1).drew.cell? ⟨w.heap.size, 0, none⟩ = some (.int .i64 x.s) ∧ (w1).drew.cell? ⟨w.heap.size, 1, none⟩ = some (.int .i64 x.n) ∧ (w1).drew.cell? ⟨w.heap.size, 2, none⟩ = some (.int .i64 x.b) ∧ (w1).drew.cell? ⟨w.heap.size, 3, none⟩ = some (.int .i64 x.c) ∧ (w1).drew.cell? ⟨w.heap.size, 4, none⟩ = some (.int .i64 x.a) ∧ (w1).drew.cell? ⟨w.heap.size, 5, none⟩ = some (.int .i64 x.r) ∧ (w1).drew.cell? ⟨w.heap.size, 6, none⟩ = some (.int .i64 x.t) ∧ (w1).drew.cell? ⟨w.heap.size, 7, none⟩ = some (.int .i64 x.y) := ⟨HXx.out.cell 0, HXx.out.cell 1, HXx.out.cell 2, HXx.out.cell 3, HXx.out.cell 4, HXx.out.cell 5, HXx.out.cell 6, HXx.out.cell 7⟩
    have HS0 := Lib.hid hS0
    replace HB1 := Lib.hid HB1.out.drew
    replace HXx := Lib.hid HXx.out.drew
    clear hS0
    refine wp_region_held_drew (S := fun w' => w'.cell? ⟨w.heap.size, 0, none⟩ = some (.int .i64 x.s) ∧ w'.cell? ⟨w.heap.size, 1, none⟩ = some (.int .i64 x.n) ∧ w'.cell? ⟨w.heap.size, 2, none⟩ = some (.int .i64 x.b) ∧ w'.cell? ⟨w.heap.size, 3, none⟩ = some (.int .i64 x.c) ∧ w'.cell? ⟨w.heap.size, 4, none⟩ = some (.int .i64 x.a) ∧ w'.cell? ⟨w.heap.size, 5, none⟩ = some (.int .i64 x.r) ∧ w'.cell? ⟨w.heap.size, 6, none⟩ = some (.int .i64 x.t) ∧ w'.cell? ⟨w.heap.size, 7, none⟩ = some (.int .i64 x.y)) (by kernel_rfl) HS0.out (fun hS0 => ?_)
    refine wpAnyH_take (i := 0) (v := ?_) rfl (by kernel_rfl) (by kernel_rfl) (by kernel_rfl) (fun _ _ _ h => h) (Or.inl ⟨by kernel_rfl, ?_⟩) (by first | assumption | trivial) ?_
    rotate_left
    · intro w hSw
      try dsimp only at hSw
      first | (go_simp; done) | (go_simp; with_reducible rfl)
    try simp only [Act.put, List.getElem_toArray, List.getElem_cons_succ, List.getElem_cons_zero, List.setIfInBounds_toArray, List.set_cons_zero, List.set_cons_succ]
    refine wpAnyH_take (i := 2) (v := ?_) rfl (by kernel_rfl) (by kernel_rfl) (by kernel_rfl) (fun _ _ _ h => h) (Or.inl ⟨by kernel_rfl, ?_⟩) (by first | assumption | trivial) ?_
    rotate_left
    · intro w hSw
      try dsimp only at hSw
      first | (go_simp; done) | (go_simp; with_reducible rfl)
    try simp only [Act.put, List.getElem_toArray, List.getElem_cons_succ, List.getElem_cons_zero, List.setIfInBounds_toArray, List.set_cons_zero, List.set_cons_succ]
    refine wpAnyH_ready (rs := [1]) (by kernel_rfl) (by simp) ?_
    refine AllReadyH.cons rfl (fun K hK => ?_) AllReadyH.nil
    go_simp
    go_at_call 13
    refine (HC.out _).mono ?_
    rintro y w2 ⟨rfl, hb2⟩
    replace HXx := Lib.hid (HXx.out.below hb2 HXx.out.lt)
    have HB2 := Lib.hid (HB1.out.trans (hb2.mono HB1.out.size))
    clear hb2
    try go_wp2_with fail
    refine hK.out _ _ ⟨HXx.out.cell 0, HXx.out.cell 1, HXx.out.cell 2, HXx.out.cell 3, HXx.out.cell 4, HXx.out.cell 5, HXx.out.cell 6, HXx.out.cell 7⟩ (fun hS => ?_)
    clear hK K
    try simp only [Act.put, List.getElem_toArray, List.getElem_cons_succ, List.getElem_cons_zero, List.setIfInBounds_toArray, List.set_cons_zero, List.set_cons_succ]
    refine wpAnyH_ready (rs := [3]) (by kernel_rfl) (by simp) ?_
    refine AllReadyH.cons rfl (fun K hK => ?_) AllReadyH.nil
    go_simp
    go_at_call 10
    refine (HD.out _).mono ?_
    rintro y w3 ⟨rfl, hb3⟩
    replace HXx := Lib.hid (HXx.out.below hb3 HXx.out.lt)
    have HB3 := Lib.hid (HB2.out.trans (hb3.mono HB2.out.size))
    clear hb3
    try go_wp2_with fail
    refine hK.out _ _ ⟨HXx.out.cell 0, HXx.out.cell 1, HXx.out.cell 2, HXx.out.cell 3, HXx.out.cell 4, HXx.out.cell 5, HXx.out.cell 6, HXx.out.cell 7⟩ (fun hS => ?_)
    clear hK K
    try simp only [Act.put, List.getElem_toArray, List.getElem_cons_succ, List.getElem_cons_zero, List.setIfInBounds_toArray, List.set_cons_zero, List.set_cons_succ]
    refine wpAnyH_take (i := 4) (v := ?_) rfl (by kernel_rfl) (by kernel_rfl) (by kernel_rfl) (fun _ _ _ h => h) (Or.inl ⟨by kernel_rfl, ?_⟩) (by first | assumption | trivial) ?_
    rotate_left
    · intro w hSw
      try dsimp only at hSw
      first | (go_simp; done) | (go_simp; with_reducible rfl)
    try simp only [Act.put, List.getElem_toArray, List.getElem_cons_succ, List.getElem_cons_zero, List.setIfInBounds_toArray, List.set_cons_zero, List.set_cons_succ]
    refine wpAnyH_done (by kernel_rfl) ?_ _
    clear HC HD HL
    have cx0 : w3.cell? ⟨w.heap.size, 0, none⟩ = some (.int .i64 x.s) := HXx.out.cell 0
    have cx1 : w3.cell? ⟨w.heap.size, 1, none⟩ = some (.int .i64 x.n) := HXx.out.cell 1
    have cx2 : w3.cell? ⟨w.heap.size, 2, none⟩ = some (.int .i64 x.b) := HXx.out.cell 2
    have cx3 : w3.cell? ⟨w.heap.size, 3, none⟩ = some (.int .i64 x.c) := HXx.out.cell 3
    have cx4 : w3.cell? ⟨w.heap.size, 4, none⟩ = some (.int .i64 x.a) := HXx.out.cell 4
    have cx5 : w3.cell? ⟨w.heap.size, 5, none⟩ = some (.int .i64 x.r) := HXx.out.cell 5
    have cx6 : w3.cell? ⟨w.heap.size, 6, none⟩ = some (.int .i64 x.t) := HXx.out.cell 6
    have cx7 : w3.cell? ⟨w.heap.size, 7, none⟩ = some (.int .i64 x.y) := HXx.out.cell 7
    have lx := HXx.out.lt
    go_wp2_with fail
    refine (HN.out _).mono ?_
    rintro z w4 ⟨rfl, hb4⟩
    replace HXx := Lib.hid (HXx.out.below hb4 HXx.out.lt)
    have HB4 := Lib.hid (HB3.out.trans (hb4.mono HB3.out.size))
    clear hb4
    have cx0 : w4.cell? ⟨w.heap.size, 0, none⟩ = some (.int .i64 x.s) := HXx.out.cell 0
    have cx1 : w4.cell? ⟨w.heap.size, 1, none⟩ = some (.int .i64 x.n) := HXx.out.cell 1
    have cx2 : w4.cell? ⟨w.heap.size, 2, none⟩ = some (.int .i64 x.b) := HXx.out.cell 2
    have cx3 : w4.cell? ⟨w.heap.size, 3, none⟩ = some (.int .i64 x.c) := HXx.out.cell 3
    have cx4 : w4.cell? ⟨w.heap.size, 4, none⟩ = some (.int .i64 x.a) := HXx.out.cell 4
    have cx5 : w4.cell? ⟨w.heap.size, 5, none⟩ = some (.int .i64 x.r) := HXx.out.cell 5
    have cx6 : w4.cell? ⟨w.heap.size, 6, none⟩ = some (.int .i64 x.t) := HXx.out.cell 6
    have cx7 : w4.cell? ⟨w.heap.size, 7, none⟩ = some (.int .i64 x.y) := HXx.out.cell 7
    have lx := HXx.out.lt
    replace HXx := Lib.hid (HXx.out.alloc (.cells #[.int .i64 0, .int .i64 0, .int .i64 0, .int .i64 0, .int .i64 0, .int .i64 0, .int .i64 0, .int .i64 0] 25))
    have HXy := Lib.hid (Blk.new' (w4) #[.int .i64 0, .int .i64 0, .int .i64 0, .int .i64 0, .int .i64 0, .int .i64 0, .int .i64 0, .int .i64 0] 25 (b := w4.heap.size) (by simp))
    have HB5 := Lib.hid (HB4.out.alloc HB4.out.size (.cells #[.int .i64 0, .int .i64 0, .int .i64 0, .int .i64 0, .int .i64 0, .int .i64 0, .int .i64 0, .int .i64 0] 25))
    replace HXx := Lib.hid (HXx.out.alloc (.cells #[.int .i64 x.s, .int .i64 x.n, .int .i64 x.b, .int .i64 x.c, .int .i64 x.a, .int .i64 0, .int .i64 1, .int .i64 0] 25))
    replace HXy := Lib.hid (HXy.out.alloc (.cells #[.int .i64 x.s, .int .i64 x.n, .int .i64 x.b, .int .i64 x.c, .int .i64 x.a, .int .i64 0, .int .i64 1, .int .i64 0] 25))
    have HXv := Lib.hid (Blk.new' ((w4).alloc (.cells #[.int .i64 0, .int .i64 0, .int .i64 0, .int .i64 0, .int .i64 0, .int .i64 0, .int .i64 0, .int .i64 0] 25)) #[.int .i64 x.s, .int .i64 x.n, .int .i64 x.b, .int .i64 x.c, .int .i64 x.a, .int .i64 0, .int .i64 1, .int .i64 0] 25 (b := w4.heap.size + 1) (by simp))
    have HB6 := Lib.hid (HB5.out.alloc HB5.out.size (.cells #[.int .i64 x.s, .int .i64 x.n, .int .i64 x.b, .int .i64 x.c, .int .i64 x.a, .int .i64 0, .int .i64 1, .int .i64 0] 25))
    go_wp2_with fail
    refine (HE.out _).mono ?_
    rintro z w5 ⟨rfl, hb5⟩
    replace HXx := Lib.hid (HXx.out.below hb5 HXx.out.lt)
    replace HXy := Lib.hid (HXy.out.below hb5 HXy.out.lt)
    replace HXv := Lib.hid (HXv.out.below hb5 HXv.out.lt)
    have HB7 := Lib.hid (HB6.out.trans (hb5.mono HB6.out.size))
    clear hb5
    have cx0 : w5.cell? ⟨w.heap.size, 0, none⟩ = some (.int .i64 x.s) := HXx.out.cell 0
    have cx1 : w5.cell? ⟨w.heap.size, 1, none⟩ = some (.int .i64 x.n) := HXx.out.cell 1
    have cx2 : w5.cell? ⟨w.heap.size, 2, none⟩ = some (.int .i64 x.b) := HXx.out.cell 2
    have cx3 : w5.cell? ⟨w.heap.size, 3, none⟩ = some (.int .i64 x.c) := HXx.out.cell 3
    have cx4 : w5.cell? ⟨w.heap.size, 4, none⟩ = some (.int .i64 x.a) := HXx.out.cell 4
    have cx5 : w5.cell? ⟨w.heap.size, 5, none⟩ = some (.int .i64 x.r) := HXx.out.cell 5
    have cx6 : w5.cell? ⟨w.heap.size, 6, none⟩ = some (.int .i64 x.t) := HXx.out.cell 6
    have cx7 : w5.cell? ⟨w.heap.size, 7, none⟩ = some (.int .i64 x.y) := HXx.out.cell 7
    have lx := HXx.out.lt
    have cy0 : w5.cell? ⟨w4.heap.size, 0, none⟩ = some (.int .i64 0) := HXy.out.cell 0
    have cy1 : w5.cell? ⟨w4.heap.size, 1, none⟩ = some (.int .i64 0) := HXy.out.cell 1
    have cy2 : w5.cell? ⟨w4.heap.size, 2, none⟩ = some (.int .i64 0) := HXy.out.cell 2
    have cy3 : w5.cell? ⟨w4.heap.size, 3, none⟩ = some (.int .i64 0) := HXy.out.cell 3
    have cy4 : w5.cell? ⟨w4.heap.size, 4, none⟩ = some (.int .i64 0) := HXy.out.cell 4
    have cy5 : w5.cell? ⟨w4.heap.size, 5, none⟩ = some (.int .i64 0) := HXy.out.cell 5
    have cy6 : w5.cell? ⟨w4.heap.size, 6, none⟩ = some (.int .i64 0) := HXy.out.cell 6
    have cy7 : w5.cell? ⟨w4.heap.size, 7, none⟩ = some (.int .i64 0) := HXy.out.cell 7
    have ly := HXy.out.lt
    have cv0 : w5.cell? ⟨w4.heap.size + 1, 0, none⟩ = some (.int .i64 x.s) := HXv.out.cell 0
    have cv1 : w5.cell? ⟨w4.heap.size + 1, 1, none⟩ = some (.int .i64 x.n) := HXv.out.cell 1
    have cv2 : w5.cell? ⟨w4.heap.size + 1, 2, none⟩ = some (.int .i64 x.b) := HXv.out.cell 2
    have cv3 : w5.cell? ⟨w4.heap.size + 1, 3, none⟩ = some (.int .i64 x.c) := HXv.out.cell 3
    have cv4 : w5.cell? ⟨w4.heap.size + 1, 4, none⟩ = some (.int .i64 x.a) := HXv.out.cell 4
    have cv5 : w5.cell? ⟨w4.heap.size + 1, 5, none⟩ = some (.int .i64 0) := HXv.out.cell 5
    have cv6 : w5.cell? ⟨w4.heap.size + 1, 6, none⟩ = some (.int .i64 1) := HXv.out.cell 6
    have cv7 : w5.cell? ⟨w4.heap.size + 1, 7, none⟩ = some (.int .i64 0) := HXv.out.cell 7
    have lv := HXv.out.lt
    go_wp2_with fail
    go_ret
    exact ⟨rfl, HB7.out⟩
end Go.Proofs.Ytadhiggmhibofaa
