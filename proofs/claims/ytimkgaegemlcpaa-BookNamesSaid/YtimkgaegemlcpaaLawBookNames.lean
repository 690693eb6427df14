/- BookNames: the walk. -/
import Derived.Test.YtimkgaegemlcpaaKeeps10
import Derived.Test.YtimkgaegemlcpaaVecPure
namespace Go.Proofs.Ytimkgaegemlcpaa
open Go.RowKit
def lessI (a1 a2 b1 b2 : Int) : Bool := decide (a1 < b1 ∨ (a1 = b1 ∧ a2 < b2))
set_option linter.unusedSimpArgs false in
set_option maxHeartbeats 4000000 in
set_option maxRecDepth 100000 in
theorem less10_any (a1 a2 b1 b2 : Int) (w : World) : Calls Try.prog 6 #[idV a1 a2, idV b1 b2] w fun e w' => e = .returned (.bool (lessI a1 a2 b1 b2)) ∧ Below w.heap.size w w' := by
  have HB : Hid (∀ x y, Below w.heap.size w ((w.alloc x).alloc y)) := fun x y => (oneB w x).alloc (by simp) y
  unfold idV
  by_cases h1 : a1 < b1
  · have HL : Hid (lessI a1 a2 b1 b2 = true) := decide_eq_true (.inl h1)
    go_enter Try.func6, Try.ntmps6
    go_wp2_with fail
    go_ret
    exact ⟨by rw [HL.out]; rfl, HB.out _ _⟩
  · by_cases h2 : a1 = b1
    · by_cases h3 : a2 < b2
      · have HL : Hid (lessI a1 a2 b1 b2 = true) := decide_eq_true (.inr ⟨h2, h3⟩)
        have e2 : (a1 == b1) = true := by simpa using h2
        clear h2
        go_enter Try.func6, Try.ntmps6
        go_wp2_with fail
        go_ret
        exact ⟨by rw [HL.out]; rfl, HB.out _ _⟩
      · have HL : Hid (lessI a1 a2 b1 b2 = false) := decide_eq_false (by omega)
        have e2 : (a1 == b1) = true := by simpa using h2
        clear h2
        go_enter Try.func6, Try.ntmps6
        go_wp2_with fail
        go_ret
        exact ⟨by rw [HL.out]; rfl, HB.out _ _⟩
    · have HL : Hid (lessI a1 a2 b1 b2 = false) := decide_eq_false (by omega)
      have e2 : (a1 == b1) = false := by simpa using h2
      clear h2
      go_enter Try.func6, Try.ntmps6
      go_wp2_with fail
      go_ret
      exact ⟨by rw [HL.out]; rfl, HB.out _ _⟩
set_option linter.unusedSimpArgs false in
set_option maxHeartbeats 4000000 in
set_option maxRecDepth 100000 in
theorem names_l1 (a1 a2 b1 b2 c1 c2 : Int) (w : World) (h : a1 < b1) (hn : ¬ a1 = b1) :
    Calls Try.prog 3 #[idV a1 a2, idV b1 b2, idV c1 c2] w fun e w' => e = .returned (.bool true) ∧ Below w.heap.size w w' := by
  have hx : ord2 a1 a2 b1 b2 = -1 := by have := ord2_cases a1 a2 b1 b2; omega
  have hxb : ord2 b1 b2 a1 a2 = 1 := by have := ord2_cases b1 b2 a1 a2; omega
  have hl : lessI a1 a2 b1 b2 = true := decide_eq_true (by omega)
  have HT : Hid (-1 ≤ 0 → ord2 b1 b2 c1 c2 ≤ 0 → ord2 a1 a2 c1 c2 ≤ 0) := by
    show _ → _ → _
    have h1 := ord2_cases a1 a2 b1 b2
    have h2 := ord2_cases b1 b2 c1 c2
    have h3 := ord2_cases a1 a2 c1 c2
    omega
  have HX := Lib.hid (fun W => bcompare_any a1 a2 b1 b2 W)
  have HXB := Lib.hid (fun W => bcompare_any b1 b2 a1 a2 W)
  have HL := Lib.hid (fun W => less10_any a1 a2 b1 b2 W)
  have HY := Lib.hid (fun W => bcompare_any b1 b2 c1 c2 W)
  have HZ := Lib.hid (fun W => bcompare_any a1 a2 c1 c2 W)
  rw [hx] at HX
  rw [hxb] at HXB
  rw [hl] at HL
  generalize ord2 b1 b2 c1 c2 = Y at *
  generalize ord2 a1 a2 c1 c2 = Z at *
  clear hx hxb hl
  unfold idV at *
  go_enter Try.func3, Try.ntmps3
  go_wp2_with fail
  generalize hW1 : ((w.alloc (.cells #[.int .i64 a1, .int .i64 a2] 23)).alloc (.cells #[.int .i64 b1, .int .i64 b2] 23)).alloc (.cells #[.int .i64 c1, .int .i64 c2] 23) = W1
  have HB1 : Hid (Below w.heap.size w W1) := by show Below _ _ _; rw [← hW1]; exact ((oneB w _).alloc (by simp) _).alloc (by simp <;> omega) _
  have HS1 : Hid (W1.cell? ⟨w.heap.size, 0, none⟩ = some (.int .i64 a1) ∧ W1.cell? ⟨w.heap.size, 1, none⟩ = some (.int .i64 a2) ∧ W1.cell? ⟨w.heap.size + 1, 0, none⟩ = some (.int .i64 b1) ∧ W1.cell? ⟨w.heap.size + 1, 1, none⟩ = some (.int .i64 b2) ∧ W1.cell? ⟨w.heap.size + 1 + 1, 0, none⟩ = some (.int .i64 c1) ∧ W1.cell? ⟨w.heap.size + 1 + 1, 1, none⟩ = some (.int .i64 c2)) := by
    show _ ∧ _
    rw [← hW1]
    have k0 : Blk (((w.alloc (.cells #[.int .i64 a1, .int .i64 a2] 23)).alloc (.cells #[.int .i64 b1, .int .i64 b2] 23)).alloc (.cells #[.int .i64 c1, .int .i64 c2] 23)) w.heap.size #[.int .i64 a1, .int .i64 a2] 23 := ((Blk.new w _ _).alloc _).alloc _
    have k1 : Blk (((w.alloc (.cells #[.int .i64 a1, .int .i64 a2] 23)).alloc (.cells #[.int .i64 b1, .int .i64 b2] 23)).alloc (.cells #[.int .i64 c1, .int .i64 c2] 23)) (w.heap.size + 1) #[.int .i64 b1, .int .i64 b2] 23 := (Blk.new' _ _ _ (by simp)).alloc _
    have k2 : Blk (((w.alloc (.cells #[.int .i64 a1, .int .i64 a2] 23)).alloc (.cells #[.int .i64 b1, .int .i64 b2] 23)).alloc (.cells #[.int .i64 c1, .int .i64 c2] 23)) (w.heap.size + 1 + 1) #[.int .i64 c1, .int .i64 c2] 23 := Blk.new' _ _ _ (by simp)
    exact ⟨k0.cell 0, k0.cell 1, k1.cell 0, k1.cell 1, k2.cell 0, k2.cell 1⟩
  clear hW1
  have HSX : Hid (∀ W, Below W1.heap.size W1 W → W.cell? ⟨w.heap.size, 0, none⟩ = some (.int .i64 a1) ∧ W.cell? ⟨w.heap.size, 1, none⟩ = some (.int .i64 a2) ∧ W.cell? ⟨w.heap.size + 1, 0, none⟩ = some (.int .i64 b1) ∧ W.cell? ⟨w.heap.size + 1, 1, none⟩ = some (.int .i64 b2) ∧ W.cell? ⟨w.heap.size + 1 + 1, 0, none⟩ = some (.int .i64 c1) ∧ W.cell? ⟨w.heap.size + 1 + 1, 1, none⟩ = some (.int .i64 c2)) := fun W hb => ⟨(hb.cell (World.block_lt_of_cell? W1 _ HS1.out.1)).trans HS1.out.1, (hb.cell (World.block_lt_of_cell? W1 _ HS1.out.2.1)).trans HS1.out.2.1, (hb.cell (World.block_lt_of_cell? W1 _ HS1.out.2.2.1)).trans HS1.out.2.2.1, (hb.cell (World.block_lt_of_cell? W1 _ HS1.out.2.2.2.1)).trans HS1.out.2.2.2.1, (hb.cell (World.block_lt_of_cell? W1 _ HS1.out.2.2.2.2.1)).trans HS1.out.2.2.2.2.1, (hb.cell (World.block_lt_of_cell? W1 _ HS1.out.2.2.2.2.2)).trans HS1.out.2.2.2.2.2⟩
  refine (keeps_any W1).mono ?_
  rintro y w2 ⟨rfl, hb2⟩
  have HB2 := Lib.hid hb2
  clear hb2
  go_wp2_with fail
  have hS2 := HSX.out w2.drew HB2.out.drew
  refine wp_region_held_drew (S := fun w' => w'.cell? ⟨w.heap.size, 0, none⟩ = some (.int .i64 a1) ∧ w'.cell? ⟨w.heap.size, 1, none⟩ = some (.int .i64 a2) ∧ w'.cell? ⟨w.heap.size + 1, 0, none⟩ = some (.int .i64 b1) ∧ w'.cell? ⟨w.heap.size + 1, 1, none⟩ = some (.int .i64 b2) ∧ w'.cell? ⟨w.heap.size + 1 + 1, 0, none⟩ = some (.int .i64 c1) ∧ w'.cell? ⟨w.heap.size + 1 + 1, 1, none⟩ = some (.int .i64 c2)) (by kernel_rfl) hS2 (fun hS0 => ?_)
  refine wpAnyH_take (i := 0) (v := ?_) rfl (by kernel_rfl) (by kernel_rfl) (by kernel_rfl) (fun _ _ _ h => h) (Or.inl ⟨by kernel_rfl, ?_⟩) (by first | assumption | trivial) ?_
  rotate_left
  · intro w hSw
    try dsimp only at hSw
    first | (go_simp; done) | (go_simp; with_reducible rfl)
  try simp only [Act.put, List.getElem_toArray, List.getElem_cons_succ, List.getElem_cons_zero, List.setIfInBounds_toArray, List.set_cons_zero, List.set_cons_succ]
  refine wpAnyH_take (i := 1) (v := ?_) rfl (by kernel_rfl) (by kernel_rfl) (by kernel_rfl) (fun _ _ _ h => h) (Or.inl ⟨by kernel_rfl, ?_⟩) (by first | assumption | trivial) ?_
  rotate_left
  · intro w hSw
    try dsimp only at hSw
    first | (go_simp; done) | (go_simp; with_reducible rfl)
  try simp only [Act.put, List.getElem_toArray, List.getElem_cons_succ, List.getElem_cons_zero, List.setIfInBounds_toArray, List.set_cons_zero, List.set_cons_succ]
  refine wpAnyH_take (i := 3) (v := ?_) rfl (by kernel_rfl) (by kernel_rfl) (by kernel_rfl) (fun _ _ _ h => h) (Or.inl ⟨by kernel_rfl, ?_⟩) (by first | assumption | trivial) ?_
  rotate_left
  · intro w hSw
    try dsimp only at hSw
    first | (go_simp; done) | (go_simp; with_reducible rfl)
  try simp only [Act.put, List.getElem_toArray, List.getElem_cons_succ, List.getElem_cons_zero, List.setIfInBounds_toArray, List.set_cons_zero, List.set_cons_succ]
  refine wpAnyH_take (i := 4) (v := ?_) rfl (by kernel_rfl) (by kernel_rfl) (by kernel_rfl) (fun _ _ _ h => h) (Or.inl ⟨by kernel_rfl, ?_⟩) (by first | assumption | trivial) ?_
  rotate_left
  · intro w hSw
    try dsimp only at hSw
    first | (go_simp; done) | (go_simp; with_reducible rfl)
  try simp only [Act.put, List.getElem_toArray, List.getElem_cons_succ, List.getElem_cons_zero, List.setIfInBounds_toArray, List.set_cons_zero, List.set_cons_succ]
  refine wpAnyH_take (i := 6) (v := ?_) rfl (by kernel_rfl) (by kernel_rfl) (by kernel_rfl) (fun _ _ _ h => h) (Or.inl ⟨by kernel_rfl, ?_⟩) (by first | assumption | trivial) ?_
  rotate_left
  · intro w hSw
    try dsimp only at hSw
    first | (go_simp; done) | (go_simp; with_reducible rfl)
  try simp only [Act.put, List.getElem_toArray, List.getElem_cons_succ, List.getElem_cons_zero, List.setIfInBounds_toArray, List.set_cons_zero, List.set_cons_succ]
  refine wpAnyH_take (i := 7) (v := ?_) rfl (by kernel_rfl) (by kernel_rfl) (by kernel_rfl) (fun _ _ _ h => h) (Or.inl ⟨by kernel_rfl, ?_⟩) (by first | assumption | trivial) ?_
  rotate_left
  · intro w hSw
    try dsimp only at hSw
    first | (go_simp; done) | (go_simp; with_reducible rfl)
  try simp only [Act.put, List.getElem_toArray, List.getElem_cons_succ, List.getElem_cons_zero, List.setIfInBounds_toArray, List.set_cons_zero, List.set_cons_succ]
  refine wpAnyH_ready (rs := [2]) (by kernel_rfl) (by simp) ?_
  refine AllReadyH.cons rfl (fun K hK => ?_) AllReadyH.nil
  go_simp
  go_at_call 5
  refine (HX.out _).mono ?_
  rintro y w3 ⟨rfl, hb3⟩
  have HB3 : Hid (Below W1.heap.size W1 w3) := (HB2.out.drew).trans (hb3.mono (HB2.out.drew).size)
  clear hb3
  try go_wp2_with fail
  refine hK.out _ _ (HSX.out w3 HB3.out) (fun hS => ?_)
  clear hK K
  try simp only [Act.put, List.getElem_toArray, List.getElem_cons_succ, List.getElem_cons_zero, List.setIfInBounds_toArray, List.set_cons_zero, List.set_cons_succ]
  refine wpAnyH_ready (rs := [5]) (by kernel_rfl) (by simp) ?_
  refine AllReadyH.cons rfl (fun K hK => ?_) AllReadyH.nil
  go_simp
  go_at_call 5
  refine (HY.out _).mono ?_
  rintro y w4 ⟨rfl, hb4⟩
  have HB4 : Hid (Below W1.heap.size W1 w4) := (HB3.out).trans (hb4.mono (HB3.out).size)
  clear hb4
  try go_wp2_with fail
  refine hK.out _ _ (HSX.out w4 HB4.out) (fun hS => ?_)
  clear hK K
  try simp only [Act.put, List.getElem_toArray, List.getElem_cons_succ, List.getElem_cons_zero, List.setIfInBounds_toArray, List.set_cons_zero, List.set_cons_succ]
  refine wpAnyH_ready (rs := [8]) (by kernel_rfl) (by simp) ?_
  refine AllReadyH.cons rfl (fun K hK => ?_) AllReadyH.nil
  go_simp
  go_at_call 5
  refine (HZ.out _).mono ?_
  rintro y w5 ⟨rfl, hb5⟩
  have HB5 : Hid (Below W1.heap.size W1 w5) := (HB4.out).trans (hb5.mono (HB4.out).size)
  clear hb5
  try go_wp2_with fail
  refine hK.out _ _ (HSX.out w5 HB5.out) (fun hS => ?_)
  clear hK K
  try simp only [Act.put, List.getElem_toArray, List.getElem_cons_succ, List.getElem_cons_zero, List.setIfInBounds_toArray, List.set_cons_zero, List.set_cons_succ]
  refine wpAnyH_take (i := 9) (v := ?_) rfl (by kernel_rfl) (by kernel_rfl) (by kernel_rfl) (fun _ _ _ h => h) (Or.inl ⟨by kernel_rfl, ?_⟩) (by first | assumption | trivial) ?_
  rotate_left
  · intro w hSw
    try dsimp only at hSw
    first | (go_simp; done) | (go_simp; with_reducible rfl)
  try simp only [Act.put, List.getElem_toArray, List.getElem_cons_succ, List.getElem_cons_zero, List.setIfInBounds_toArray, List.set_cons_zero, List.set_cons_succ]
  refine wpAnyH_take (i := 10) (v := ?_) rfl (by kernel_rfl) (by kernel_rfl) (by kernel_rfl) (fun _ _ _ h => h) (Or.inl ⟨by kernel_rfl, ?_⟩) (by first | assumption | trivial) ?_
  rotate_left
  · intro w hSw
    try dsimp only at hSw
    first | (go_simp; done) | (go_simp; with_reducible rfl)
  try simp only [Act.put, List.getElem_toArray, List.getElem_cons_succ, List.getElem_cons_zero, List.setIfInBounds_toArray, List.set_cons_zero, List.set_cons_succ]
  refine wpAnyH_take (i := 11) (v := ?_) rfl (by kernel_rfl) (by kernel_rfl) (by kernel_rfl) (fun _ _ _ h => h) (Or.inl ⟨by kernel_rfl, ?_⟩) (by first | assumption | trivial) ?_
  rotate_left
  · intro w hSw
    try dsimp only at hSw
    first | (go_simp; done) | (go_simp; with_reducible rfl)
  try simp only [Act.put, List.getElem_toArray, List.getElem_cons_succ, List.getElem_cons_zero, List.setIfInBounds_toArray, List.set_cons_zero, List.set_cons_succ]
  refine wpAnyH_done (by kernel_rfl) ?_ _
  clear hS2 HX HY HZ
  obtain ⟨s0, s1, s2, s3, s4, s5⟩ := HSX.out w5 HB5.out
  go_wp2_with fail
  refine (HL.out _).mono ?_
  rintro y w6 ⟨rfl, hb6⟩
  have HB6 : Hid (Below W1.heap.size W1 w6) := HB5.out.trans (hb6.mono HB5.out.size)
  clear s0 s1 s2 s3 s4 s5 hb6 HL
  obtain ⟨s0, s1, s2, s3, s4, s5⟩ := HSX.out w6 HB6.out
  go_wp2_with fail
  refine (HXB.out _).mono ?_
  rintro y w7 ⟨rfl, hb7⟩
  have HB7 : Hid (Below W1.heap.size W1 w7) := HB6.out.trans (hb7.mono HB6.out.size)
  have HFIN := Lib.hid (HB1.out.trans (HB7.out.mono HB1.out.size))
  clear s0 s1 s2 s3 s4 s5 hb7 HXB
  by_cases hy : Y ≤ 0
  · have hz : Z ≤ 0 := HT.out (by decide) hy
    go_wp2_with fail
    go_ret
    exact ⟨rfl, HFIN.out⟩
  · go_wp2_with fail
    go_ret
    exact ⟨rfl, HFIN.out⟩
set_option linter.unusedSimpArgs false in
set_option maxHeartbeats 4000000 in
set_option maxRecDepth 100000 in
theorem names_g1 (a1 a2 b1 b2 c1 c2 : Int) (w : World) (h : b1 < a1) (hn : ¬ a1 = b1) :
    Calls Try.prog 3 #[idV a1 a2, idV b1 b2, idV c1 c2] w fun e w' => e = .returned (.bool true) ∧ Below w.heap.size w w' := by
  have hx : ord2 a1 a2 b1 b2 = 1 := by have := ord2_cases a1 a2 b1 b2; omega
  have hxb : ord2 b1 b2 a1 a2 = -1 := by have := ord2_cases b1 b2 a1 a2; omega
  have hl : lessI a1 a2 b1 b2 = false := decide_eq_false (by omega)
  have HT : Hid (1 ≤ 0 → ord2 b1 b2 c1 c2 ≤ 0 → ord2 a1 a2 c1 c2 ≤ 0) := by
    show _ → _ → _
    have h1 := ord2_cases a1 a2 b1 b2
    have h2 := ord2_cases b1 b2 c1 c2
    have h3 := ord2_cases a1 a2 c1 c2
    omega
  have HX := Lib.hid (fun W => bcompare_any a1 a2 b1 b2 W)
  have HXB := Lib.hid (fun W => bcompare_any b1 b2 a1 a2 W)
  have HL := Lib.hid (fun W => less10_any a1 a2 b1 b2 W)
  have HY := Lib.hid (fun W => bcompare_any b1 b2 c1 c2 W)
  have HZ := Lib.hid (fun W => bcompare_any a1 a2 c1 c2 W)
  rw [hx] at HX
  rw [hxb] at HXB
  rw [hl] at HL
  generalize ord2 b1 b2 c1 c2 = Y at *
  generalize ord2 a1 a2 c1 c2 = Z at *
  clear hx hxb hl
  unfold idV at *
  go_enter Try.func3, Try.ntmps3
  go_wp2_with fail
  generalize hW1 : ((w.alloc (.cells #[.int .i64 a1, .int .i64 a2] 23)).alloc (.cells #[.int .i64 b1, .int .i64 b2] 23)).alloc (.cells #[.int .i64 c1, .int .i64 c2] 23) = W1
  have HB1 : Hid (Below w.heap.size w W1) := by show Below _ _ _; rw [← hW1]; exact ((oneB w _).alloc (by simp) _).alloc (by simp <;> omega) _
  have HS1 : Hid (W1.cell? ⟨w.heap.size, 0, none⟩ = some (.int .i64 a1) ∧ W1.cell? ⟨w.heap.size, 1, none⟩ = some (.int .i64 a2) ∧ W1.cell? ⟨w.heap.size + 1, 0, none⟩ = some (.int .i64 b1) ∧ W1.cell? ⟨w.heap.size + 1, 1, none⟩ = some (.int .i64 b2) ∧ W1.cell? ⟨w.heap.size + 1 + 1, 0, none⟩ = some (.int .i64 c1) ∧ W1.cell? ⟨w.heap.size + 1 + 1, 1, none⟩ = some (.int .i64 c2)) := by
    show _ ∧ _
    rw [← hW1]
    have k0 : Blk (((w.alloc (.cells #[.int .i64 a1, .int .i64 a2] 23)).alloc (.cells #[.int .i64 b1, .int .i64 b2] 23)).alloc (.cells #[.int .i64 c1, .int .i64 c2] 23)) w.heap.size #[.int .i64 a1, .int .i64 a2] 23 := ((Blk.new w _ _).alloc _).alloc _
    have k1 : Blk (((w.alloc (.cells #[.int .i64 a1, .int .i64 a2] 23)).alloc (.cells #[.int .i64 b1, .int .i64 b2] 23)).alloc (.cells #[.int .i64 c1, .int .i64 c2] 23)) (w.heap.size + 1) #[.int .i64 b1, .int .i64 b2] 23 := (Blk.new' _ _ _ (by simp)).alloc _
    have k2 : Blk (((w.alloc (.cells #[.int .i64 a1, .int .i64 a2] 23)).alloc (.cells #[.int .i64 b1, .int .i64 b2] 23)).alloc (.cells #[.int .i64 c1, .int .i64 c2] 23)) (w.heap.size + 1 + 1) #[.int .i64 c1, .int .i64 c2] 23 := Blk.new' _ _ _ (by simp)
    exact ⟨k0.cell 0, k0.cell 1, k1.cell 0, k1.cell 1, k2.cell 0, k2.cell 1⟩
  clear hW1
  have HSX : Hid (∀ W, Below W1.heap.size W1 W → W.cell? ⟨w.heap.size, 0, none⟩ = some (.int .i64 a1) ∧ W.cell? ⟨w.heap.size, 1, none⟩ = some (.int .i64 a2) ∧ W.cell? ⟨w.heap.size + 1, 0, none⟩ = some (.int .i64 b1) ∧ W.cell? ⟨w.heap.size + 1, 1, none⟩ = some (.int .i64 b2) ∧ W.cell? ⟨w.heap.size + 1 + 1, 0, none⟩ = some (.int .i64 c1) ∧ W.cell? ⟨w.heap.size + 1 + 1, 1, none⟩ = some (.int .i64 c2)) := fun W hb => ⟨(hb.cell (World.block_lt_of_cell? W1 _ HS1.out.1)).trans HS1.out.1, (hb.cell (World.block_lt_of_cell? W1 _ HS1.out.2.1)).trans HS1.out.2.1, (hb.cell (World.block_lt_of_cell? W1 _ HS1.out.2.2.1)).trans HS1.out.2.2.1, (hb.cell (World.block_lt_of_cell? W1 _ HS1.out.2.2.2.1)).trans HS1.out.2.2.2.1, (hb.cell (World.block_lt_of_cell? W1 _ HS1.out.2.2.2.2.1)).trans HS1.out.2.2.2.2.1, (hb.cell (World.block_lt_of_cell? W1 _ HS1.out.2.2.2.2.2)).trans HS1.out.2.2.2.2.2⟩
  refine (keeps_any W1).mono ?_
  rintro y w2 ⟨rfl, hb2⟩
  have HB2 := Lib.hid hb2
  clear hb2
  go_wp2_with fail
  have hS2 := HSX.out w2.drew HB2.out.drew
  refine wp_region_held_drew (S := fun w' => w'.cell? ⟨w.heap.size, 0, none⟩ = some (.int .i64 a1) ∧ w'.cell? ⟨w.heap.size, 1, none⟩ = some (.int .i64 a2) ∧ w'.cell? ⟨w.heap.size + 1, 0, none⟩ = some (.int .i64 b1) ∧ w'.cell? ⟨w.heap.size + 1, 1, none⟩ = some (.int .i64 b2) ∧ w'.cell? ⟨w.heap.size + 1 + 1, 0, none⟩ = some (.int .i64 c1) ∧ w'.cell? ⟨w.heap.size + 1 + 1, 1, none⟩ = some (.int .i64 c2)) (by kernel_rfl) hS2 (fun hS0 => ?_)
  refine wpAnyH_take (i := 0) (v := ?_) rfl (by kernel_rfl) (by kernel_rfl) (by kernel_rfl) (fun _ _ _ h => h) (Or.inl ⟨by kernel_rfl, ?_⟩) (by first | assumption | trivial) ?_
  rotate_left
  · intro w hSw
    try dsimp only at hSw
    first | (go_simp; done) | (go_simp; with_reducible rfl)
  try simp only [Act.put, List.getElem_toArray, List.getElem_cons_succ, List.getElem_cons_zero, List.setIfInBounds_toArray, List.set_cons_zero, List.set_cons_succ]
  refine wpAnyH_take (i := 1) (v := ?_) rfl (by kernel_rfl) (by kernel_rfl) (by kernel_rfl) (fun _ _ _ h => h) (Or.inl ⟨by kernel_rfl, ?_⟩) (by first | assumption | trivial) ?_
  rotate_left
  · intro w hSw
    try dsimp only at hSw
    first | (go_simp; done) | (go_simp; with_reducible rfl)
  try simp only [Act.put, List.getElem_toArray, List.getElem_cons_succ, List.getElem_cons_zero, List.setIfInBounds_toArray, List.set_cons_zero, List.set_cons_succ]
  refine wpAnyH_take (i := 3) (v := ?_) rfl (by kernel_rfl) (by kernel_rfl) (by kernel_rfl) (fun _ _ _ h => h) (Or.inl ⟨by kernel_rfl, ?_⟩) (by first | assumption | trivial) ?_
  rotate_left
  · intro w hSw
    try dsimp only at hSw
    first | (go_simp; done) | (go_simp; with_reducible rfl)
  try simp only [Act.put, List.getElem_toArray, List.getElem_cons_succ, List.getElem_cons_zero, List.setIfInBounds_toArray, List.set_cons_zero, List.set_cons_succ]
  refine wpAnyH_take (i := 4) (v := ?_) rfl (by kernel_rfl) (by kernel_rfl) (by kernel_rfl) (fun _ _ _ h => h) (Or.inl ⟨by kernel_rfl, ?_⟩) (by first | assumption | trivial) ?_
  rotate_left
  · intro w hSw
    try dsimp only at hSw
    first | (go_simp; done) | (go_simp; with_reducible rfl)
  try simp only [Act.put, List.getElem_toArray, List.getElem_cons_succ, List.getElem_cons_zero, List.setIfInBounds_toArray, List.set_cons_zero, List.set_cons_succ]
  refine wpAnyH_take (i := 6) (v := ?_) rfl (by kernel_rfl) (by kernel_rfl) (by kernel_rfl) (fun _ _ _ h => h) (Or.inl ⟨by kernel_rfl, ?_⟩) (by first | assumption | trivial) ?_
  rotate_left
  · intro w hSw
    try dsimp only at hSw
    first | (go_simp; done) | (go_simp; with_reducible rfl)
  try simp only [Act.put, List.getElem_toArray, List.getElem_cons_succ, List.getElem_cons_zero, List.setIfInBounds_toArray, List.set_cons_zero, List.set_cons_succ]
  refine wpAnyH_take (i := 7) (v := ?_) rfl (by kernel_rfl) (by kernel_rfl) (by kernel_rfl) (fun _ _ _ h => h) (Or.inl ⟨by kernel_rfl, ?_⟩) (by first | assumption | trivial) ?_
  rotate_left
  · intro w hSw
    try dsimp only at hSw
    first | (go_simp; done) | (go_simp; with_reducible rfl)
  try simp only [Act.put, List.getElem_toArray, List.getElem_cons_succ, List.getElem_cons_zero, List.setIfInBounds_toArray, List.set_cons_zero, List.set_cons_succ]
  refine wpAnyH_ready (rs := [2]) (by kernel_rfl) (by simp) ?_
  refine AllReadyH.cons rfl (fun K hK => ?_) AllReadyH.nil
  go_simp
  go_at_call 5
  refine (HX.out _).mono ?_
  rintro y w3 ⟨rfl, hb3⟩
  have HB3 : Hid (Below W1.heap.size W1 w3) := (HB2.out.drew).trans (hb3.mono (HB2.out.drew).size)
  clear hb3
  try go_wp2_with fail
  refine hK.out _ _ (HSX.out w3 HB3.out) (fun hS => ?_)
  clear hK K
  try simp only [Act.put, List.getElem_toArray, List.getElem_cons_succ, List.getElem_cons_zero, List.setIfInBounds_toArray, List.set_cons_zero, List.set_cons_succ]
  refine wpAnyH_ready (rs := [5]) (by kernel_rfl) (by simp) ?_
  refine AllReadyH.cons rfl (fun K hK => ?_) AllReadyH.nil
  go_simp
  go_at_call 5
  refine (HY.out _).mono ?_
  rintro y w4 ⟨rfl, hb4⟩
  have HB4 : Hid (Below W1.heap.size W1 w4) := (HB3.out).trans (hb4.mono (HB3.out).size)
  clear hb4
  try go_wp2_with fail
  refine hK.out _ _ (HSX.out w4 HB4.out) (fun hS => ?_)
  clear hK K
  try simp only [Act.put, List.getElem_toArray, List.getElem_cons_succ, List.getElem_cons_zero, List.setIfInBounds_toArray, List.set_cons_zero, List.set_cons_succ]
  refine wpAnyH_ready (rs := [8]) (by kernel_rfl) (by simp) ?_
  refine AllReadyH.cons rfl (fun K hK => ?_) AllReadyH.nil
  go_simp
  go_at_call 5
  refine (HZ.out _).mono ?_
  rintro y w5 ⟨rfl, hb5⟩
  have HB5 : Hid (Below W1.heap.size W1 w5) := (HB4.out).trans (hb5.mono (HB4.out).size)
  clear hb5
  try go_wp2_with fail
  refine hK.out _ _ (HSX.out w5 HB5.out) (fun hS => ?_)
  clear hK K
  try simp only [Act.put, List.getElem_toArray, List.getElem_cons_succ, List.getElem_cons_zero, List.setIfInBounds_toArray, List.set_cons_zero, List.set_cons_succ]
  refine wpAnyH_take (i := 9) (v := ?_) rfl (by kernel_rfl) (by kernel_rfl) (by kernel_rfl) (fun _ _ _ h => h) (Or.inl ⟨by kernel_rfl, ?_⟩) (by first | assumption | trivial) ?_
  rotate_left
  · intro w hSw
    try dsimp only at hSw
    first | (go_simp; done) | (go_simp; with_reducible rfl)
  try simp only [Act.put, List.getElem_toArray, List.getElem_cons_succ, List.getElem_cons_zero, List.setIfInBounds_toArray, List.set_cons_zero, List.set_cons_succ]
  refine wpAnyH_take (i := 10) (v := ?_) rfl (by kernel_rfl) (by kernel_rfl) (by kernel_rfl) (fun _ _ _ h => h) (Or.inl ⟨by kernel_rfl, ?_⟩) (by first | assumption | trivial) ?_
  rotate_left
  · intro w hSw
    try dsimp only at hSw
    first | (go_simp; done) | (go_simp; with_reducible rfl)
  try simp only [Act.put, List.getElem_toArray, List.getElem_cons_succ, List.getElem_cons_zero, List.setIfInBounds_toArray, List.set_cons_zero, List.set_cons_succ]
  refine wpAnyH_take (i := 11) (v := ?_) rfl (by kernel_rfl) (by kernel_rfl) (by kernel_rfl) (fun _ _ _ h => h) (Or.inl ⟨by kernel_rfl, ?_⟩) (by first | assumption | trivial) ?_
  rotate_left
  · intro w hSw
    try dsimp only at hSw
    first | (go_simp; done) | (go_simp; with_reducible rfl)
  try simp only [Act.put, List.getElem_toArray, List.getElem_cons_succ, List.getElem_cons_zero, List.setIfInBounds_toArray, List.set_cons_zero, List.set_cons_succ]
  refine wpAnyH_done (by kernel_rfl) ?_ _
  clear hS2 HX HY HZ
  obtain ⟨s0, s1, s2, s3, s4, s5⟩ := HSX.out w5 HB5.out
  go_wp2_with fail
  refine (HL.out _).mono ?_
  rintro y w6 ⟨rfl, hb6⟩
  have HB6 : Hid (Below W1.heap.size W1 w6) := HB5.out.trans (hb6.mono HB5.out.size)
  clear s0 s1 s2 s3 s4 s5 hb6 HL
  obtain ⟨s0, s1, s2, s3, s4, s5⟩ := HSX.out w6 HB6.out
  go_wp2_with fail
  refine (HXB.out _).mono ?_
  rintro y w7 ⟨rfl, hb7⟩
  have HB7 : Hid (Below W1.heap.size W1 w7) := HB6.out.trans (hb7.mono HB6.out.size)
  have HFIN := Lib.hid (HB1.out.trans (HB7.out.mono HB1.out.size))
  clear s0 s1 s2 s3 s4 s5 hb7 HXB
  by_cases hy : Y ≤ 0
  · skip
    go_wp2_with fail
    go_ret
    exact ⟨rfl, HFIN.out⟩
  · go_wp2_with fail
    go_ret
    exact ⟨rfl, HFIN.out⟩
set_option linter.unusedSimpArgs false in
set_option maxHeartbeats 4000000 in
set_option maxRecDepth 100000 in
theorem names_l2 (a1 a2 b2 c1 c2 : Int) (w : World) (h : a2 < b2) (hn : ¬ a2 = b2) :
    Calls Try.prog 3 #[idV a1 a2, idV a1 b2, idV c1 c2] w fun e w' => e = .returned (.bool true) ∧ Below w.heap.size w w' := by
  have hx : ord2 a1 a2 a1 b2 = -1 := by have := ord2_cases a1 a2 a1 b2; omega
  have hxb : ord2 a1 b2 a1 a2 = 1 := by have := ord2_cases a1 b2 a1 a2; omega
  have hl : lessI a1 a2 a1 b2 = true := decide_eq_true (by omega)
  have HT : Hid (-1 ≤ 0 → ord2 a1 b2 c1 c2 ≤ 0 → ord2 a1 a2 c1 c2 ≤ 0) := by
    show _ → _ → _
    have h1 := ord2_cases a1 a2 a1 b2
    have h2 := ord2_cases a1 b2 c1 c2
    have h3 := ord2_cases a1 a2 c1 c2
    omega
  have HX := Lib.hid (fun W => bcompare_any a1 a2 a1 b2 W)
  have HXB := Lib.hid (fun W => bcompare_any a1 b2 a1 a2 W)
  have HL := Lib.hid (fun W => less10_any a1 a2 a1 b2 W)
  have HY := Lib.hid (fun W => bcompare_any a1 b2 c1 c2 W)
  have HZ := Lib.hid (fun W => bcompare_any a1 a2 c1 c2 W)
  rw [hx] at HX
  rw [hxb] at HXB
  rw [hl] at HL
  generalize ord2 a1 b2 c1 c2 = Y at *
  generalize ord2 a1 a2 c1 c2 = Z at *
  clear hx hxb hl
  unfold idV at *
  go_enter Try.func3, Try.ntmps3
  go_wp2_with fail
  generalize hW1 : ((w.alloc (.cells #[.int .i64 a1, .int .i64 a2] 23)).alloc (.cells #[.int .i64 a1, .int .i64 b2] 23)).alloc (.cells #[.int .i64 c1, .int .i64 c2] 23) = W1
  have HB1 : Hid (Below w.heap.size w W1) := by show Below _ _ _; rw [← hW1]; exact ((oneB w _).alloc (by simp) _).alloc (by simp <;> omega) _
  have HS1 : Hid (W1.cell? ⟨w.heap.size, 0, none⟩ = some (.int .i64 a1) ∧ W1.cell? ⟨w.heap.size, 1, none⟩ = some (.int .i64 a2) ∧ W1.cell? ⟨w.heap.size + 1, 0, none⟩ = some (.int .i64 a1) ∧ W1.cell? ⟨w.heap.size + 1, 1, none⟩ = some (.int .i64 b2) ∧ W1.cell? ⟨w.heap.size + 1 + 1, 0, none⟩ = some (.int .i64 c1) ∧ W1.cell? ⟨w.heap.size + 1 + 1, 1, none⟩ = some (.int .i64 c2)) := by
    show _ ∧ _
    rw [← hW1]
    have k0 : Blk (((w.alloc (.cells #[.int .i64 a1, .int .i64 a2] 23)).alloc (.cells #[.int .i64 a1, .int .i64 b2] 23)).alloc (.cells #[.int .i64 c1, .int .i64 c2] 23)) w.heap.size #[.int .i64 a1, .int .i64 a2] 23 := ((Blk.new w _ _).alloc _).alloc _
    have k1 : Blk (((w.alloc (.cells #[.int .i64 a1, .int .i64 a2] 23)).alloc (.cells #[.int .i64 a1, .int .i64 b2] 23)).alloc (.cells #[.int .i64 c1, .int .i64 c2] 23)) (w.heap.size + 1) #[.int .i64 a1, .int .i64 b2] 23 := (Blk.new' _ _ _ (by simp)).alloc _
    have k2 : Blk (((w.alloc (.cells #[.int .i64 a1, .int .i64 a2] 23)).alloc (.cells #[.int .i64 a1, .int .i64 b2] 23)).alloc (.cells #[.int .i64 c1, .int .i64 c2] 23)) (w.heap.size + 1 + 1) #[.int .i64 c1, .int .i64 c2] 23 := Blk.new' _ _ _ (by simp)
    exact ⟨k0.cell 0, k0.cell 1, k1.cell 0, k1.cell 1, k2.cell 0, k2.cell 1⟩
  clear hW1
  have HSX : Hid (∀ W, Below W1.heap.size W1 W → W.cell? ⟨w.heap.size, 0, none⟩ = some (.int .i64 a1) ∧ W.cell? ⟨w.heap.size, 1, none⟩ = some (.int .i64 a2) ∧ W.cell? ⟨w.heap.size + 1, 0, none⟩ = some (.int .i64 a1) ∧ W.cell? ⟨w.heap.size + 1, 1, none⟩ = some (.int .i64 b2) ∧ W.cell? ⟨w.heap.size + 1 + 1, 0, none⟩ = some (.int .i64 c1) ∧ W.cell? ⟨w.heap.size + 1 + 1, 1, none⟩ = some (.int .i64 c2)) := fun W hb => ⟨(hb.cell (World.block_lt_of_cell? W1 _ HS1.out.1)).trans HS1.out.1, (hb.cell (World.block_lt_of_cell? W1 _ HS1.out.2.1)).trans HS1.out.2.1, (hb.cell (World.block_lt_of_cell? W1 _ HS1.out.2.2.1)).trans HS1.out.2.2.1, (hb.cell (World.block_lt_of_cell? W1 _ HS1.out.2.2.2.1)).trans HS1.out.2.2.2.1, (hb.cell (World.block_lt_of_cell? W1 _ HS1.out.2.2.2.2.1)).trans HS1.out.2.2.2.2.1, (hb.cell (World.block_lt_of_cell? W1 _ HS1.out.2.2.2.2.2)).trans HS1.out.2.2.2.2.2⟩
  refine (keeps_any W1).mono ?_
  rintro y w2 ⟨rfl, hb2⟩
  have HB2 := Lib.hid hb2
  clear hb2
  go_wp2_with fail
  have hS2 := HSX.out w2.drew HB2.out.drew
  refine wp_region_held_drew (S := fun w' => w'.cell? ⟨w.heap.size, 0, none⟩ = some (.int .i64 a1) ∧ w'.cell? ⟨w.heap.size, 1, none⟩ = some (.int .i64 a2) ∧ w'.cell? ⟨w.heap.size + 1, 0, none⟩ = some (.int .i64 a1) ∧ w'.cell? ⟨w.heap.size + 1, 1, none⟩ = some (.int .i64 b2) ∧ w'.cell? ⟨w.heap.size + 1 + 1, 0, none⟩ = some (.int .i64 c1) ∧ w'.cell? ⟨w.heap.size + 1 + 1, 1, none⟩ = some (.int .i64 c2)) (by kernel_rfl) hS2 (fun hS0 => ?_)
  refine wpAnyH_take (i := 0) (v := ?_) rfl (by kernel_rfl) (by kernel_rfl) (by kernel_rfl) (fun _ _ _ h => h) (Or.inl ⟨by kernel_rfl, ?_⟩) (by first | assumption | trivial) ?_
  rotate_left
  · intro w hSw
    try dsimp only at hSw
    first | (go_simp; done) | (go_simp; with_reducible rfl)
  try simp only [Act.put, List.getElem_toArray, List.getElem_cons_succ, List.getElem_cons_zero, List.setIfInBounds_toArray, List.set_cons_zero, List.set_cons_succ]
  refine wpAnyH_take (i := 1) (v := ?_) rfl (by kernel_rfl) (by kernel_rfl) (by kernel_rfl) (fun _ _ _ h => h) (Or.inl ⟨by kernel_rfl, ?_⟩) (by first | assumption | trivial) ?_
  rotate_left
  · intro w hSw
    try dsimp only at hSw
    first | (go_simp; done) | (go_simp; with_reducible rfl)
  try simp only [Act.put, List.getElem_toArray, List.getElem_cons_succ, List.getElem_cons_zero, List.setIfInBounds_toArray, List.set_cons_zero, List.set_cons_succ]
  refine wpAnyH_take (i := 3) (v := ?_) rfl (by kernel_rfl) (by kernel_rfl) (by kernel_rfl) (fun _ _ _ h => h) (Or.inl ⟨by kernel_rfl, ?_⟩) (by first | assumption | trivial) ?_
  rotate_left
  · intro w hSw
    try dsimp only at hSw
    first | (go_simp; done) | (go_simp; with_reducible rfl)
  try simp only [Act.put, List.getElem_toArray, List.getElem_cons_succ, List.getElem_cons_zero, List.setIfInBounds_toArray, List.set_cons_zero, List.set_cons_succ]
  refine wpAnyH_take (i := 4) (v := ?_) rfl (by kernel_rfl) (by kernel_rfl) (by kernel_rfl) (fun _ _ _ h => h) (Or.inl ⟨by kernel_rfl, ?_⟩) (by first | assumption | trivial) ?_
  rotate_left
  · intro w hSw
    try dsimp only at hSw
    first | (go_simp; done) | (go_simp; with_reducible rfl)
  try simp only [Act.put, List.getElem_toArray, List.getElem_cons_succ, List.getElem_cons_zero, List.setIfInBounds_toArray, List.set_cons_zero, List.set_cons_succ]
  refine wpAnyH_take (i := 6) (v := ?_) rfl (by kernel_rfl) (by kernel_rfl) (by kernel_rfl) (fun _ _ _ h => h) (Or.inl ⟨by kernel_rfl, ?_⟩) (by first | assumption | trivial) ?_
  rotate_left
  · intro w hSw
    try dsimp only at hSw
    first | (go_simp; done) | (go_simp; with_reducible rfl)
  try simp only [Act.put, List.getElem_toArray, List.getElem_cons_succ, List.getElem_cons_zero, List.setIfInBounds_toArray, List.set_cons_zero, List.set_cons_succ]
  refine wpAnyH_take (i := 7) (v := ?_) rfl (by kernel_rfl) (by kernel_rfl) (by kernel_rfl) (fun _ _ _ h => h) (Or.inl ⟨by kernel_rfl, ?_⟩) (by first | assumption | trivial) ?_
  rotate_left
  · intro w hSw
    try dsimp only at hSw
    first | (go_simp; done) | (go_simp; with_reducible rfl)
  try simp only [Act.put, List.getElem_toArray, List.getElem_cons_succ, List.getElem_cons_zero, List.setIfInBounds_toArray, List.set_cons_zero, List.set_cons_succ]
  refine wpAnyH_ready (rs := [2]) (by kernel_rfl) (by simp) ?_
  refine AllReadyH.cons rfl (fun K hK => ?_) AllReadyH.nil
  go_simp
  go_at_call 5
  refine (HX.out _).mono ?_
  rintro y w3 ⟨rfl, hb3⟩
  have HB3 : Hid (Below W1.heap.size W1 w3) := (HB2.out.drew).trans (hb3.mono (HB2.out.drew).size)
  clear hb3
  try go_wp2_with fail
  refine hK.out _ _ (HSX.out w3 HB3.out) (fun hS => ?_)
  clear hK K
  try simp only [Act.put, List.getElem_toArray, List.getElem_cons_succ, List.getElem_cons_zero, List.setIfInBounds_toArray, List.set_cons_zero, List.set_cons_succ]
  refine wpAnyH_ready (rs := [5]) (by kernel_rfl) (by simp) ?_
  refine AllReadyH.cons rfl (fun K hK => ?_) AllReadyH.nil
  go_simp
  go_at_call 5
  refine (HY.out _).mono ?_
  rintro y w4 ⟨rfl, hb4⟩
  have HB4 : Hid (Below W1.heap.size W1 w4) := (HB3.out).trans (hb4.mono (HB3.out).size)
  clear hb4
  try go_wp2_with fail
  refine hK.out _ _ (HSX.out w4 HB4.out) (fun hS => ?_)
  clear hK K
  try simp only [Act.put, List.getElem_toArray, List.getElem_cons_succ, List.getElem_cons_zero, List.setIfInBounds_toArray, List.set_cons_zero, List.set_cons_succ]
  refine wpAnyH_ready (rs := [8]) (by kernel_rfl) (by simp) ?_
  refine AllReadyH.cons rfl (fun K hK => ?_) AllReadyH.nil
  go_simp
  go_at_call 5
  refine (HZ.out _).mono ?_
  rintro y w5 ⟨rfl, hb5⟩
  have HB5 : Hid (Below W1.heap.size W1 w5) := (HB4.out).trans (hb5.mono (HB4.out).size)
  clear hb5
  try go_wp2_with fail
  refine hK.out _ _ (HSX.out w5 HB5.out) (fun hS => ?_)
  clear hK K
  try simp only [Act.put, List.getElem_toArray, List.getElem_cons_succ, List.getElem_cons_zero, List.setIfInBounds_toArray, List.set_cons_zero, List.set_cons_succ]
  refine wpAnyH_take (i := 9) (v := ?_) rfl (by kernel_rfl) (by kernel_rfl) (by kernel_rfl) (fun _ _ _ h => h) (Or.inl ⟨by kernel_rfl, ?_⟩) (by first | assumption | trivial) ?_
  rotate_left
  · intro w hSw
    try dsimp only at hSw
    first | (go_simp; done) | (go_simp; with_reducible rfl)
  try simp only [Act.put, List.getElem_toArray, List.getElem_cons_succ, List.getElem_cons_zero, List.setIfInBounds_toArray, List.set_cons_zero, List.set_cons_succ]
  refine wpAnyH_take (i := 10) (v := ?_) rfl (by kernel_rfl) (by kernel_rfl) (by kernel_rfl) (fun _ _ _ h => h) (Or.inl ⟨by kernel_rfl, ?_⟩) (by first | assumption | trivial) ?_
  rotate_left
  · intro w hSw
    try dsimp only at hSw
    first | (go_simp; done) | (go_simp; with_reducible rfl)
  try simp only [Act.put, List.getElem_toArray, List.getElem_cons_succ, List.getElem_cons_zero, List.setIfInBounds_toArray, List.set_cons_zero, List.set_cons_succ]
  refine wpAnyH_take (i := 11) (v := ?_) rfl (by kernel_rfl) (by kernel_rfl) (by kernel_rfl) (fun _ _ _ h => h) (Or.inl ⟨by kernel_rfl, ?_⟩) (by first | assumption | trivial) ?_
  rotate_left
  · intro w hSw
    try dsimp only at hSw
    first | (go_simp; done) | (go_simp; with_reducible rfl)
  try simp only [Act.put, List.getElem_toArray, List.getElem_cons_succ, List.getElem_cons_zero, List.setIfInBounds_toArray, List.set_cons_zero, List.set_cons_succ]
  refine wpAnyH_done (by kernel_rfl) ?_ _
  clear hS2 HX HY HZ
  obtain ⟨s0, s1, s2, s3, s4, s5⟩ := HSX.out w5 HB5.out
  go_wp2_with fail
  refine (HL.out _).mono ?_
  rintro y w6 ⟨rfl, hb6⟩
  have HB6 : Hid (Below W1.heap.size W1 w6) := HB5.out.trans (hb6.mono HB5.out.size)
  clear s0 s1 s2 s3 s4 s5 hb6 HL
  obtain ⟨s0, s1, s2, s3, s4, s5⟩ := HSX.out w6 HB6.out
  go_wp2_with fail
  refine (HXB.out _).mono ?_
  rintro y w7 ⟨rfl, hb7⟩
  have HB7 : Hid (Below W1.heap.size W1 w7) := HB6.out.trans (hb7.mono HB6.out.size)
  have HFIN := Lib.hid (HB1.out.trans (HB7.out.mono HB1.out.size))
  clear s0 s1 s2 s3 s4 s5 hb7 HXB
  by_cases hy : Y ≤ 0
  · have hz : Z ≤ 0 := HT.out (by decide) hy
    go_wp2_with fail
    go_ret
    exact ⟨rfl, HFIN.out⟩
  · go_wp2_with fail
    go_ret
    exact ⟨rfl, HFIN.out⟩
set_option linter.unusedSimpArgs false in
set_option maxHeartbeats 4000000 in
set_option maxRecDepth 100000 in
theorem names_g2 (a1 a2 b2 c1 c2 : Int) (w : World) (h : b2 < a2) (hn : ¬ a2 = b2) :
    Calls Try.prog 3 #[idV a1 a2, idV a1 b2, idV c1 c2] w fun e w' => e = .returned (.bool true) ∧ Below w.heap.size w w' := by
  have hx : ord2 a1 a2 a1 b2 = 1 := by have := ord2_cases a1 a2 a1 b2; omega
  have hxb : ord2 a1 b2 a1 a2 = -1 := by have := ord2_cases a1 b2 a1 a2; omega
  have hl : lessI a1 a2 a1 b2 = false := decide_eq_false (by omega)
  have HT : Hid (1 ≤ 0 → ord2 a1 b2 c1 c2 ≤ 0 → ord2 a1 a2 c1 c2 ≤ 0) := by
    show _ → _ → _
    have h1 := ord2_cases a1 a2 a1 b2
    have h2 := ord2_cases a1 b2 c1 c2
    have h3 := ord2_cases a1 a2 c1 c2
    omega
  have HX := Lib.hid (fun W => bcompare_any a1 a2 a1 b2 W)
  have HXB := Lib.hid (fun W => bcompare_any a1 b2 a1 a2 W)
  have HL := Lib.hid (fun W => less10_any a1 a2 a1 b2 W)
  have HY := Lib.hid (fun W => bcompare_any a1 b2 c1 c2 W)
  have HZ := Lib.hid (fun W => bcompare_any a1 a2 c1 c2 W)
  rw [hx] at HX
  rw [hxb] at HXB
  rw [hl] at HL
  generalize ord2 a1 b2 c1 c2 = Y at *
  generalize ord2 a1 a2 c1 c2 = Z at *
  clear hx hxb hl
  unfold idV at *
  go_enter Try.func3, Try.ntmps3
  go_wp2_with fail
  generalize hW1 : ((w.alloc (.cells #[.int .i64 a1, .int .i64 a2] 23)).alloc (.cells #[.int .i64 a1, .int .i64 b2] 23)).alloc (.cells #[.int .i64 c1, .int .i64 c2] 23) = W1
  have HB1 : Hid (Below w.heap.size w W1) := by show Below _ _ _; rw [← hW1]; exact ((oneB w _).alloc (by simp) _).alloc (by simp <;> omega) _
  have HS1 : Hid (W1.cell? ⟨w.heap.size, 0, none⟩ = some (.int .i64 a1) ∧ W1.cell? ⟨w.heap.size, 1, none⟩ = some (.int .i64 a2) ∧ W1.cell? ⟨w.heap.size + 1, 0, none⟩ = some (.int .i64 a1) ∧ W1.cell? ⟨w.heap.size + 1, 1, none⟩ = some (.int .i64 b2) ∧ W1.cell? ⟨w.heap.size + 1 + 1, 0, none⟩ = some (.int .i64 c1) ∧ W1.cell? ⟨w.heap.size + 1 + 1, 1, none⟩ = some (.int .i64 c2)) := by
    show _ ∧ _
    rw [← hW1]
    have k0 : Blk (((w.alloc (.cells #[.int .i64 a1, .int .i64 a2] 23)).alloc (.cells #[.int .i64 a1, .int .i64 b2] 23)).alloc (.cells #[.int .i64 c1, .int .i64 c2] 23)) w.heap.size #[.int .i64 a1, .int .i64 a2] 23 := ((Blk.new w _ _).alloc _).alloc _
    have k1 : Blk (((w.alloc (.cells #[.int .i64 a1, .int .i64 a2] 23)).alloc (.cells #[.int .i64 a1, .int .i64 b2] 23)).alloc (.cells #[.int .i64 c1, .int .i64 c2] 23)) (w.heap.size + 1) #[.int .i64 a1, .int .i64 b2] 23 := (Blk.new' _ _ _ (by simp)).alloc _
    have k2 : Blk (((w.alloc (.cells #[.int .i64 a1, .int .i64 a2] 23)).alloc (.cells #[.int .i64 a1, .int .i64 b2] 23)).alloc (.cells #[.int .i64 c1, .int .i64 c2] 23)) (w.heap.size + 1 + 1) #[.int .i64 c1, .int .i64 c2] 23 := Blk.new' _ _ _ (by simp)
    exact ⟨k0.cell 0, k0.cell 1, k1.cell 0, k1.cell 1, k2.cell 0, k2.cell 1⟩
  clear hW1
  have HSX : Hid (∀ W, Below W1.heap.size W1 W → W.cell? ⟨w.heap.size, 0, none⟩ = some (.int .i64 a1) ∧ W.cell? ⟨w.heap.size, 1, none⟩ = some (.int .i64 a2) ∧ W.cell? ⟨w.heap.size + 1, 0, none⟩ = some (.int .i64 a1) ∧ W.cell? ⟨w.heap.size + 1, 1, none⟩ = some (.int .i64 b2) ∧ W.cell? ⟨w.heap.size + 1 + 1, 0, none⟩ = some (.int .i64 c1) ∧ W.cell? ⟨w.heap.size + 1 + 1, 1, none⟩ = some (.int .i64 c2)) := fun W hb => ⟨(hb.cell (World.block_lt_of_cell? W1 _ HS1.out.1)).trans HS1.out.1, (hb.cell (World.block_lt_of_cell? W1 _ HS1.out.2.1)).trans HS1.out.2.1, (hb.cell (World.block_lt_of_cell? W1 _ HS1.out.2.2.1)).trans HS1.out.2.2.1, (hb.cell (World.block_lt_of_cell? W1 _ HS1.out.2.2.2.1)).trans HS1.out.2.2.2.1, (hb.cell (World.block_lt_of_cell? W1 _ HS1.out.2.2.2.2.1)).trans HS1.out.2.2.2.2.1, (hb.cell (World.block_lt_of_cell? W1 _ HS1.out.2.2.2.2.2)).trans HS1.out.2.2.2.2.2⟩
  refine (keeps_any W1).mono ?_
  rintro y w2 ⟨rfl, hb2⟩
  have HB2 := Lib.hid hb2
  clear hb2
  go_wp2_with fail
  have hS2 := HSX.out w2.drew HB2.out.drew
  refine wp_region_held_drew (S := fun w' => w'.cell? ⟨w.heap.size, 0, none⟩ = some (.int .i64 a1) ∧ w'.cell? ⟨w.heap.size, 1, none⟩ = some (.int .i64 a2) ∧ w'.cell? ⟨w.heap.size + 1, 0, none⟩ = some (.int .i64 a1) ∧ w'.cell? ⟨w.heap.size + 1, 1, none⟩ = some (.int .i64 b2) ∧ w'.cell? ⟨w.heap.size + 1 + 1, 0, none⟩ = some (.int .i64 c1) ∧ w'.cell? ⟨w.heap.size + 1 + 1, 1, none⟩ = some (.int .i64 c2)) (by kernel_rfl) hS2 (fun hS0 => ?_)
  refine wpAnyH_take (i := 0) (v := ?_) rfl (by kernel_rfl) (by kernel_rfl) (by kernel_rfl) (fun _ _ _ h => h) (Or.inl ⟨by kernel_rfl, ?_⟩) (by first | assumption | trivial) ?_
  rotate_left
  · intro w hSw
    try dsimp only at hSw
    first | (go_simp; done) | (go_simp; with_reducible rfl)
  try simp only [Act.put, List.getElem_toArray, List.getElem_cons_succ, List.getElem_cons_zero, List.setIfInBounds_toArray, List.set_cons_zero, List.set_cons_succ]
  refine wpAnyH_take (i := 1) (v := ?_) rfl (by kernel_rfl) (by kernel_rfl) (by kernel_rfl) (fun _ _ _ h => h) (Or.inl ⟨by kernel_rfl, ?_⟩) (by first | assumption | trivial) ?_
  rotate_left
  · intro w hSw
    try dsimp only at hSw
    first | (go_simp; done) | (go_simp; with_reducible rfl)
  try simp only [Act.put, List.getElem_toArray, List.getElem_cons_succ, List.getElem_cons_zero, List.setIfInBounds_toArray, List.set_cons_zero, List.set_cons_succ]
  refine wpAnyH_take (i := 3) (v := ?_) rfl (by kernel_rfl) (by kernel_rfl) (by kernel_rfl) (fun _ _ _ h => h) (Or.inl ⟨by kernel_rfl, ?_⟩) (by first | assumption | trivial) ?_
  rotate_left
  · intro w hSw
    try dsimp only at hSw
    first | (go_simp; done) | (go_simp; with_reducible rfl)
  try simp only [Act.put, List.getElem_toArray, List.getElem_cons_succ, List.getElem_cons_zero, List.setIfInBounds_toArray, List.set_cons_zero, List.set_cons_succ]
  refine wpAnyH_take (i := 4) (v := ?_) rfl (by kernel_rfl) (by kernel_rfl) (by kernel_rfl) (fun _ _ _ h => h) (Or.inl ⟨by kernel_rfl, ?_⟩) (by first | assumption | trivial) ?_
  rotate_left
  · intro w hSw
    try dsimp only at hSw
    first | (go_simp; done) | (go_simp; with_reducible rfl)
  try simp only [Act.put, List.getElem_toArray, List.getElem_cons_succ, List.getElem_cons_zero, List.setIfInBounds_toArray, List.set_cons_zero, List.set_cons_succ]
  refine wpAnyH_take (i := 6) (v := ?_) rfl (by kernel_rfl) (by kernel_rfl) (by kernel_rfl) (fun _ _ _ h => h) (Or.inl ⟨by kernel_rfl, ?_⟩) (by first | assumption | trivial) ?_
  rotate_left
  · intro w hSw
    try dsimp only at hSw
    first | (go_simp; done) | (go_simp; with_reducible rfl)
  try simp only [Act.put, List.getElem_toArray, List.getElem_cons_succ, List.getElem_cons_zero, List.setIfInBounds_toArray, List.set_cons_zero, List.set_cons_succ]
  refine wpAnyH_take (i := 7) (v := ?_) rfl (by kernel_rfl) (by kernel_rfl) (by kernel_rfl) (fun _ _ _ h => h) (Or.inl ⟨by kernel_rfl, ?_⟩) (by first | assumption | trivial) ?_
  rotate_left
  · intro w hSw
    try dsimp only at hSw
    first | (go_simp; done) | (go_simp; with_reducible rfl)
  try simp only [Act.put, List.getElem_toArray, List.getElem_cons_succ, List.getElem_cons_zero, List.setIfInBounds_toArray, List.set_cons_zero, List.set_cons_succ]
  refine wpAnyH_ready (rs := [2]) (by kernel_rfl) (by simp) ?_
  refine AllReadyH.cons rfl (fun K hK => ?_) AllReadyH.nil
  go_simp
  go_at_call 5
  refine (HX.out _).mono ?_
  rintro y w3 ⟨rfl, hb3⟩
  have HB3 : Hid (Below W1.heap.size W1 w3) := (HB2.out.drew).trans (hb3.mono (HB2.out.drew).size)
  clear hb3
  try go_wp2_with fail
  refine hK.out _ _ (HSX.out w3 HB3.out) (fun hS => ?_)
  clear hK K
  try simp only [Act.put, List.getElem_toArray, List.getElem_cons_succ, List.getElem_cons_zero, List.setIfInBounds_toArray, List.set_cons_zero, List.set_cons_succ]
  refine wpAnyH_ready (rs := [5]) (by kernel_rfl) (by simp) ?_
  refine AllReadyH.cons rfl (fun K hK => ?_) AllReadyH.nil
  go_simp
  go_at_call 5
  refine (HY.out _).mono ?_
  rintro y w4 ⟨rfl, hb4⟩
  have HB4 : Hid (Below W1.heap.size W1 w4) := (HB3.out).trans (hb4.mono (HB3.out).size)
  clear hb4
  try go_wp2_with fail
  refine hK.out _ _ (HSX.out w4 HB4.out) (fun hS => ?_)
  clear hK K
  try simp only [Act.put, List.getElem_toArray, List.getElem_cons_succ, List.getElem_cons_zero, List.setIfInBounds_toArray, List.set_cons_zero, List.set_cons_succ]
  refine wpAnyH_ready (rs := [8]) (by kernel_rfl) (by simp) ?_
  refine AllReadyH.cons rfl (fun K hK => ?_) AllReadyH.nil
  go_simp
  go_at_call 5
  refine (HZ.out _).mono ?_
  rintro y w5 ⟨rfl, hb5⟩
  have HB5 : Hid (Below W1.heap.size W1 w5) := (HB4.out).trans (hb5.mono (HB4.out).size)
  clear hb5
  try go_wp2_with fail
  refine hK.out _ _ (HSX.out w5 HB5.out) (fun hS => ?_)
  clear hK K
  try simp only [Act.put, List.getElem_toArray, List.getElem_cons_succ, List.getElem_cons_zero, List.setIfInBounds_toArray, List.set_cons_zero, List.set_cons_succ]
  refine wpAnyH_take (i := 9) (v := ?_) rfl (by kernel_rfl) (by kernel_rfl) (by kernel_rfl) (fun _ _ _ h => h) (Or.inl ⟨by kernel_rfl, ?_⟩) (by first | assumption | trivial) ?_
  rotate_left
  · intro w hSw
    try dsimp only at hSw
    first | (go_simp; done) | (go_simp; with_reducible rfl)
  try simp only [Act.put, List.getElem_toArray, List.getElem_cons_succ, List.getElem_cons_zero, List.setIfInBounds_toArray, List.set_cons_zero, List.set_cons_succ]
  refine wpAnyH_take (i := 10) (v := ?_) rfl (by kernel_rfl) (by kernel_rfl) (by kernel_rfl) (fun _ _ _ h => h) (Or.inl ⟨by kernel_rfl, ?_⟩) (by first | assumption | trivial) ?_
  rotate_left
  · intro w hSw
    try dsimp only at hSw
    first | (go_simp; done) | (go_simp; with_reducible rfl)
  try simp only [Act.put, List.getElem_toArray, List.getElem_cons_succ, List.getElem_cons_zero, List.setIfInBounds_toArray, List.set_cons_zero, List.set_cons_succ]
  refine wpAnyH_take (i := 11) (v := ?_) rfl (by kernel_rfl) (by kernel_rfl) (by kernel_rfl) (fun _ _ _ h => h) (Or.inl ⟨by kernel_rfl, ?_⟩) (by first | assumption | trivial) ?_
  rotate_left
  · intro w hSw
    try dsimp only at hSw
    first | (go_simp; done) | (go_simp; with_reducible rfl)
  try simp only [Act.put, List.getElem_toArray, List.getElem_cons_succ, List.getElem_cons_zero, List.setIfInBounds_toArray, List.set_cons_zero, List.set_cons_succ]
  refine wpAnyH_done (by kernel_rfl) ?_ _
  clear hS2 HX HY HZ
  obtain ⟨s0, s1, s2, s3, s4, s5⟩ := HSX.out w5 HB5.out
  go_wp2_with fail
  refine (HL.out _).mono ?_
  rintro y w6 ⟨rfl, hb6⟩
  have HB6 : Hid (Below W1.heap.size W1 w6) := HB5.out.trans (hb6.mono HB5.out.size)
  clear s0 s1 s2 s3 s4 s5 hb6 HL
  obtain ⟨s0, s1, s2, s3, s4, s5⟩ := HSX.out w6 HB6.out
  go_wp2_with fail
  refine (HXB.out _).mono ?_
  rintro y w7 ⟨rfl, hb7⟩
  have HB7 : Hid (Below W1.heap.size W1 w7) := HB6.out.trans (hb7.mono HB6.out.size)
  have HFIN := Lib.hid (HB1.out.trans (HB7.out.mono HB1.out.size))
  clear s0 s1 s2 s3 s4 s5 hb7 HXB
  by_cases hy : Y ≤ 0
  · skip
    go_wp2_with fail
    go_ret
    exact ⟨rfl, HFIN.out⟩
  · go_wp2_with fail
    go_ret
    exact ⟨rfl, HFIN.out⟩
set_option linter.unusedSimpArgs false in
set_option maxHeartbeats 4000000 in
set_option maxRecDepth 100000 in
theorem names_e (a1 a2 c1 c2 : Int) (w : World)  :
    Calls Try.prog 3 #[idV a1 a2, idV a1 a2, idV c1 c2] w fun e w' => e = .returned (.bool true) ∧ Below w.heap.size w w' := by
  have hx : ord2 a1 a2 a1 a2 = 0 := by have := ord2_cases a1 a2 a1 a2; omega
  have hxb : ord2 a1 a2 a1 a2 = 0 := by have := ord2_cases a1 a2 a1 a2; omega
  have hl : lessI a1 a2 a1 a2 = false := decide_eq_false (by omega)
  have HT : Hid (0 ≤ 0 → ord2 a1 a2 c1 c2 ≤ 0 → ord2 a1 a2 c1 c2 ≤ 0) := by
    show _ → _ → _
    have h1 := ord2_cases a1 a2 a1 a2
    have h2 := ord2_cases a1 a2 c1 c2
    have h3 := ord2_cases a1 a2 c1 c2
    omega
  have HX := Lib.hid (fun W => bcompare_any a1 a2 a1 a2 W)
  have HXB := Lib.hid (fun W => bcompare_any a1 a2 a1 a2 W)
  have HL := Lib.hid (fun W => less10_any a1 a2 a1 a2 W)
  have HY := Lib.hid (fun W => bcompare_any a1 a2 c1 c2 W)
  have HZ := Lib.hid (fun W => bcompare_any a1 a2 c1 c2 W)
  rw [hx] at HX
  rw [hxb] at HXB
  rw [hl] at HL
  generalize ord2 a1 a2 c1 c2 = Y at *
  generalize ord2 a1 a2 c1 c2 = Z at *
  clear hx hxb hl
  unfold idV at *
  go_enter Try.func3, Try.ntmps3
  go_wp2_with fail
  generalize hW1 : ((w.alloc (.cells #[.int .i64 a1, .int .i64 a2] 23)).alloc (.cells #[.int .i64 a1, .int .i64 a2] 23)).alloc (.cells #[.int .i64 c1, .int .i64 c2] 23) = W1
  have HB1 : Hid (Below w.heap.size w W1) := by show Below _ _ _; rw [← hW1]; exact ((oneB w _).alloc (by simp) _).alloc (by simp <;> omega) _
  have HS1 : Hid (W1.cell? ⟨w.heap.size, 0, none⟩ = some (.int .i64 a1) ∧ W1.cell? ⟨w.heap.size, 1, none⟩ = some (.int .i64 a2) ∧ W1.cell? ⟨w.heap.size + 1, 0, none⟩ = some (.int .i64 a1) ∧ W1.cell? ⟨w.heap.size + 1, 1, none⟩ = some (.int .i64 a2) ∧ W1.cell? ⟨w.heap.size + 1 + 1, 0, none⟩ = some (.int .i64 c1) ∧ W1.cell? ⟨w.heap.size + 1 + 1, 1, none⟩ = some (.int .i64 c2)) := by
    show _ ∧ _
    rw [← hW1]
    have k0 : Blk (((w.alloc (.cells #[.int .i64 a1, .int .i64 a2] 23)).alloc (.cells #[.int .i64 a1, .int .i64 a2] 23)).alloc (.cells #[.int .i64 c1, .int .i64 c2] 23)) w.heap.size #[.int .i64 a1, .int .i64 a2] 23 := ((Blk.new w _ _).alloc _).alloc _
    have k1 : Blk (((w.alloc (.cells #[.int .i64 a1, .int .i64 a2] 23)).alloc (.cells #[.int .i64 a1, .int .i64 a2] 23)).alloc (.cells #[.int .i64 c1, .int .i64 c2] 23)) (w.heap.size + 1) #[.int .i64 a1, .int .i64 a2] 23 := (Blk.new' _ _ _ (by simp)).alloc _
    have k2 : Blk (((w.alloc (.cells #[.int .i64 a1, .int .i64 a2] 23)).alloc (.cells #[.int .i64 a1, .int .i64 a2] 23)).alloc (.cells #[.int .i64 c1, .int .i64 c2] 23)) (w.heap.size + 1 + 1) #[.int .i64 c1, .int .i64 c2] 23 := Blk.new' _ _ _ (by simp)
    exact ⟨k0.cell 0, k0.cell 1, k1.cell 0, k1.cell 1, k2.cell 0, k2.cell 1⟩
  clear hW1
  have HSX : Hid (∀ W, Below W1.heap.size W1 W → W.cell? ⟨w.heap.size, 0, none⟩ = some (.int .i64 a1) ∧ W.cell? ⟨w.heap.size, 1, none⟩ = some (.int .i64 a2) ∧ W.cell? ⟨w.heap.size + 1, 0, none⟩ = some (.int .i64 a1) ∧ W.cell? ⟨w.heap.size + 1, 1, none⟩ = some (.int .i64 a2) ∧ W.cell? ⟨w.heap.size + 1 + 1, 0, none⟩ = some (.int .i64 c1) ∧ W.cell? ⟨w.heap.size + 1 + 1, 1, none⟩ = some (.int .i64 c2)) := fun W hb => ⟨(hb.cell (World.block_lt_of_cell? W1 _ HS1.out.1)).trans HS1.out.1, (hb.cell (World.block_lt_of_cell? W1 _ HS1.out.2.1)).trans HS1.out.2.1, (hb.cell (World.block_lt_of_cell? W1 _ HS1.out.2.2.1)).trans HS1.out.2.2.1, (hb.cell (World.block_lt_of_cell? W1 _ HS1.out.2.2.2.1)).trans HS1.out.2.2.2.1, (hb.cell (World.block_lt_of_cell? W1 _ HS1.out.2.2.2.2.1)).trans HS1.out.2.2.2.2.1, (hb.cell (World.block_lt_of_cell? W1 _ HS1.out.2.2.2.2.2)).trans HS1.out.2.2.2.2.2⟩
  refine (keeps_any W1).mono ?_
  rintro y w2 ⟨rfl, hb2⟩
  have HB2 := Lib.hid hb2
  clear hb2
  go_wp2_with fail
  have hS2 := HSX.out w2.drew HB2.out.drew
  refine wp_region_held_drew (S := fun w' => w'.cell? ⟨w.heap.size, 0, none⟩ = some (.int .i64 a1) ∧ w'.cell? ⟨w.heap.size, 1, none⟩ = some (.int .i64 a2) ∧ w'.cell? ⟨w.heap.size + 1, 0, none⟩ = some (.int .i64 a1) ∧ w'.cell? ⟨w.heap.size + 1, 1, none⟩ = some (.int .i64 a2) ∧ w'.cell? ⟨w.heap.size + 1 + 1, 0, none⟩ = some (.int .i64 c1) ∧ w'.cell? ⟨w.heap.size + 1 + 1, 1, none⟩ = some (.int .i64 c2)) (by kernel_rfl) hS2 (fun hS0 => ?_)
  refine wpAnyH_take (i := 0) (v := ?_) rfl (by kernel_rfl) (by kernel_rfl) (by kernel_rfl) (fun _ _ _ h => h) (Or.inl ⟨by kernel_rfl, ?_⟩) (by first | assumption | trivial) ?_
  rotate_left
  · intro w hSw
    try dsimp only at hSw
    first | (go_simp; done) | (go_simp; with_reducible rfl)
  try simp only [Act.put, List.getElem_toArray, List.getElem_cons_succ, List.getElem_cons_zero, List.setIfInBounds_toArray, List.set_cons_zero, List.set_cons_succ]
  refine wpAnyH_take (i := 1) (v := ?_) rfl (by kernel_rfl) (by kernel_rfl) (by kernel_rfl) (fun _ _ _ h => h) (Or.inl ⟨by kernel_rfl, ?_⟩) (by first | assumption | trivial) ?_
  rotate_left
  · intro w hSw
    try dsimp only at hSw
    first | (go_simp; done) | (go_simp; with_reducible rfl)
  try simp only [Act.put, List.getElem_toArray, List.getElem_cons_succ, List.getElem_cons_zero, List.setIfInBounds_toArray, List.set_cons_zero, List.set_cons_succ]
  refine wpAnyH_take (i := 3) (v := ?_) rfl (by kernel_rfl) (by kernel_rfl) (by kernel_rfl) (fun _ _ _ h => h) (Or.inl ⟨by kernel_rfl, ?_⟩) (by first | assumption | trivial) ?_
  rotate_left
  · intro w hSw
    try dsimp only at hSw
    first | (go_simp; done) | (go_simp; with_reducible rfl)
  try simp only [Act.put, List.getElem_toArray, List.getElem_cons_succ, List.getElem_cons_zero, List.setIfInBounds_toArray, List.set_cons_zero, List.set_cons_succ]
  refine wpAnyH_take (i := 4) (v := ?_) rfl (by kernel_rfl) (by kernel_rfl) (by kernel_rfl) (fun _ _ _ h => h) (Or.inl ⟨by kernel_rfl, ?_⟩) (by first | assumption | trivial) ?_
  rotate_left
  · intro w hSw
    try dsimp only at hSw
    first | (go_simp; done) | (go_simp; with_reducible rfl)
  try simp only [Act.put, List.getElem_toArray, List.getElem_cons_succ, List.getElem_cons_zero, List.setIfInBounds_toArray, List.set_cons_zero, List.set_cons_succ]
  refine wpAnyH_take (i := 6) (v := ?_) rfl (by kernel_rfl) (by kernel_rfl) (by kernel_rfl) (fun _ _ _ h => h) (Or.inl ⟨by kernel_rfl, ?_⟩) (by first | assumption | trivial) ?_
  rotate_left
  · intro w hSw
    try dsimp only at hSw
    first | (go_simp; done) | (go_simp; with_reducible rfl)
  try simp only [Act.put, List.getElem_toArray, List.getElem_cons_succ, List.getElem_cons_zero, List.setIfInBounds_toArray, List.set_cons_zero, List.set_cons_succ]
  refine wpAnyH_take (i := 7) (v := ?_) rfl (by kernel_rfl) (by kernel_rfl) (by kernel_rfl) (fun _ _ _ h => h) (Or.inl ⟨by kernel_rfl, ?_⟩) (by first | assumption | trivial) ?_
  rotate_left
  · intro w hSw
    try dsimp only at hSw
    first | (go_simp; done) | (go_simp; with_reducible rfl)
  try simp only [Act.put, List.getElem_toArray, List.getElem_cons_succ, List.getElem_cons_zero, List.setIfInBounds_toArray, List.set_cons_zero, List.set_cons_succ]
  refine wpAnyH_ready (rs := [2]) (by kernel_rfl) (by simp) ?_
  refine AllReadyH.cons rfl (fun K hK => ?_) AllReadyH.nil
  go_simp
  go_at_call 5
  refine (HX.out _).mono ?_
  rintro y w3 ⟨rfl, hb3⟩
  have HB3 : Hid (Below W1.heap.size W1 w3) := (HB2.out.drew).trans (hb3.mono (HB2.out.drew).size)
  clear hb3
  try go_wp2_with fail
  refine hK.out _ _ (HSX.out w3 HB3.out) (fun hS => ?_)
  clear hK K
  try simp only [Act.put, List.getElem_toArray, List.getElem_cons_succ, List.getElem_cons_zero, List.setIfInBounds_toArray, List.set_cons_zero, List.set_cons_succ]
  refine wpAnyH_ready (rs := [5]) (by kernel_rfl) (by simp) ?_
  refine AllReadyH.cons rfl (fun K hK => ?_) AllReadyH.nil
  go_simp
  go_at_call 5
  refine (HY.out _).mono ?_
  rintro y w4 ⟨rfl, hb4⟩
  have HB4 : Hid (Below W1.heap.size W1 w4) := (HB3.out).trans (hb4.mono (HB3.out).size)
  clear hb4
  try go_wp2_with fail
  refine hK.out _ _ (HSX.out w4 HB4.out) (fun hS => ?_)
  clear hK K
  try simp only [Act.put, List.getElem_toArray, List.getElem_cons_succ, List.getElem_cons_zero, List.setIfInBounds_toArray, List.set_cons_zero, List.set_cons_succ]
  refine wpAnyH_ready (rs := [8]) (by kernel_rfl) (by simp) ?_
  refine AllReadyH.cons rfl (fun K hK => ?_) AllReadyH.nil
  go_simp
  go_at_call 5
  refine (HZ.out _).mono ?_
  rintro y w5 ⟨rfl, hb5⟩
  have HB5 : Hid (Below W1.heap.size W1 w5) := (HB4.out).trans (hb5.mono (HB4.out).size)
  clear hb5
  try go_wp2_with fail
  refine hK.out _ _ (HSX.out w5 HB5.out) (fun hS => ?_)
  clear hK K
  try simp only [Act.put, List.getElem_toArray, List.getElem_cons_succ, List.getElem_cons_zero, List.setIfInBounds_toArray, List.set_cons_zero, List.set_cons_succ]
  refine wpAnyH_take (i := 9) (v := ?_) rfl (by kernel_rfl) (by kernel_rfl) (by kernel_rfl) (fun _ _ _ h => h) (Or.inl ⟨by kernel_rfl, ?_⟩) (by first | assumption | trivial) ?_
  rotate_left
  · intro w hSw
    try dsimp only at hSw
    first | (go_simp; done) | (go_simp; with_reducible rfl)
  try simp only [Act.put, List.getElem_toArray, List.getElem_cons_succ, List.getElem_cons_zero, List.setIfInBounds_toArray, List.set_cons_zero, List.set_cons_succ]
  refine wpAnyH_take (i := 10) (v := ?_) rfl (by kernel_rfl) (by kernel_rfl) (by kernel_rfl) (fun _ _ _ h => h) (Or.inl ⟨by kernel_rfl, ?_⟩) (by first | assumption | trivial) ?_
  rotate_left
  · intro w hSw
    try dsimp only at hSw
    first | (go_simp; done) | (go_simp; with_reducible rfl)
  try simp only [Act.put, List.getElem_toArray, List.getElem_cons_succ, List.getElem_cons_zero, List.setIfInBounds_toArray, List.set_cons_zero, List.set_cons_succ]
  refine wpAnyH_take (i := 11) (v := ?_) rfl (by kernel_rfl) (by kernel_rfl) (by kernel_rfl) (fun _ _ _ h => h) (Or.inl ⟨by kernel_rfl, ?_⟩) (by first | assumption | trivial) ?_
  rotate_left
  · intro w hSw
    try dsimp only at hSw
    first | (go_simp; done) | (go_simp; with_reducible rfl)
  try simp only [Act.put, List.getElem_toArray, List.getElem_cons_succ, List.getElem_cons_zero, List.setIfInBounds_toArray, List.set_cons_zero, List.set_cons_succ]
  refine wpAnyH_done (by kernel_rfl) ?_ _
  clear hS2 HX HY HZ
  obtain ⟨s0, s1, s2, s3, s4, s5⟩ := HSX.out w5 HB5.out
  go_wp2_with fail
  refine (HL.out _).mono ?_
  rintro y w6 ⟨rfl, hb6⟩
  have HB6 : Hid (Below W1.heap.size W1 w6) := HB5.out.trans (hb6.mono HB5.out.size)
  clear s0 s1 s2 s3 s4 s5 hb6 HL
  obtain ⟨s0, s1, s2, s3, s4, s5⟩ := HSX.out w6 HB6.out
  go_wp2_with fail
  refine (HXB.out _).mono ?_
  rintro y w7 ⟨rfl, hb7⟩
  have HB7 : Hid (Below W1.heap.size W1 w7) := HB6.out.trans (hb7.mono HB6.out.size)
  have HFIN := Lib.hid (HB1.out.trans (HB7.out.mono HB1.out.size))
  clear s0 s1 s2 s3 s4 s5 hb7 HXB
  by_cases hy : Y ≤ 0
  · skip
    go_wp2_with fail
    go_ret
    exact ⟨rfl, HFIN.out⟩
  · go_wp2_with fail
    go_ret
    exact ⟨rfl, HFIN.out⟩
theorem names_walk (a1 a2 b1 b2 c1 c2 : Int) (w : World) : Calls Try.prog 3 #[idV a1 a2, idV b1 b2, idV c1 c2] w fun e w' => e = .returned (.bool true) ∧ Below w.heap.size w w' := by
  rcases Int.lt_trichotomy a1 b1 with h | h | h
  · exact names_l1 a1 a2 b1 b2 c1 c2 w h (by omega)
  · subst h
    rcases Int.lt_trichotomy a2 b2 with h | h | h
    · exact names_l2 a1 a2 b2 c1 c2 w h (by omega)
    · subst h
      exact names_e a1 a2 c1 c2 w
    · exact names_g2 a1 a2 b2 c1 c2 w h (by omega)
  · exact names_g1 a1 a2 b1 b2 c1 c2 w h (by omega)
end Go.Proofs.Ytimkgaegemlcpaa
