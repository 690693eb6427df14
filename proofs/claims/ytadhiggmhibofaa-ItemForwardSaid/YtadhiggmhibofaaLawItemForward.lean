/- ItemForward: the walk. -/
import Derived.Test.YtadhiggmhibofaaItem7
import Derived.Test.YtadhiggmhibofaaLiftItem
import Derived.Deep.RegionHeld3
namespace Go.Proofs.Ytadhiggmhibofaa
open Go.RowKit
theorem rank1 {x : Itm} (h : x.t = 1) : rankI x = 2 * x.r := if_pos h
theorem rank2 {x : Itm} (h : x.t = 2) : rankI x = 2 * x.r + 1 := by unfold rankI; rw [if_neg (by omega), if_pos h]
theorem rank34 {x : Itm} (h : x.t = 3 ∨ x.t = 4) : rankI x = 8 := by unfold rankI; rw [if_neg (by omega), if_neg (by omega), if_pos h]
theorem rank5 {x : Itm} (h : x.t = 5) : rankI x = 9 := by unfold rankI; rw [if_neg (by omega), if_neg (by omega), if_neg (by omega), if_pos h]
theorem over_no {x : Itm} (h : x.t ≠ 4 ∧ x.t ≠ 5) : overI x ≠ true := fun ho => by
  have := of_decide_eq_true ho
  omega
/-- An item never goes back. -/
def FW (x : Itm) (q : Itm × Int) : Prop :=
  rankI x ≤ rankI q.1 ∧ (q.1.s = x.s ∧ q.1.n = x.n ∧ q.1.b = x.b ∧ q.1.c = x.c) ∧ (3 ≤ x.t → q.1.a = x.a) ∧ (overI x = true → q.1 = x) ∧ (q.2 ≠ 0 → q.1 = x)
theorem fw_same (x : Itm) (e : Int) : FW x (x, e) := ⟨Int.le_refl _, ⟨rfl, rfl, rfl, rfl⟩, fun _ => rfl, fun _ => rfl, fun _ => rfl⟩
theorem fw_mk {x y : Itm} (hr : rankI x ≤ rankI y) (hi : y.s = x.s ∧ y.n = x.n ∧ y.b = x.b ∧ y.c = x.c) (ha : 3 ≤ x.t → y.a = x.a) (ho : x.t ≠ 4 ∧ x.t ≠ 5) : FW x (y, 0) :=
  ⟨hr, hi, ha, fun h => absurd h (over_no ho), fun h => absurd rfl h⟩
theorem act_forward (x : Itm) (k n : Int) (h : chkI x = 0) : FW x (actI x k n) := by
  obtain ⟨_, h2, _⟩ := chk_ok h
  have hr : 0 ≤ x.r ∧ x.r ≤ 3 := by unfold numsOk at h2; omega
  clear h h2
  have t12 : FW x (turnI x 1 2) := by
    unfold turnI
    split
    · rename_i h1
      exact fw_mk (by rw [rank1 h1, rank2 (x := { x with t := 2 }) rfl]; dsimp only; omega) ⟨rfl, rfl, rfl, rfl⟩ (fun _ => rfl) (by omega)
    · exact fw_same x 90
  have t13 : FW x (turnI x 1 3) := by
    unfold turnI
    split
    · rename_i h1
      exact fw_mk (by rw [rank1 h1, rank34 (x := { x with t := 3 }) (.inl rfl)]; omega) ⟨rfl, rfl, rfl, rfl⟩ (fun _ => rfl) (by omega)
    · exact fw_same x 90
  have t24 : FW x (turnI x 2 4) := by
    unfold turnI
    split
    · rename_i h1
      exact fw_mk (by rw [rank2 h1, rank34 (x := { x with t := 4 }) (.inr rfl)]; omega) ⟨rfl, rfl, rfl, rfl⟩ (fun _ => rfl) (by omega)
    · exact fw_same x 90
  have ta : FW x (adjI x n) := by
    unfold adjI
    by_cases h1 : x.t = 2
    · rw [if_pos h1]
      by_cases h2 : 1 ≤ n ∧ n ≤ 1125899906842624
      · rw [if_pos h2]
        by_cases h3 : x.r = 3
        · rw [if_pos h3]; exact fw_same x 91
        · rw [if_neg h3]
          exact fw_mk (by rw [rank2 h1, rank1 (x := { x with t := 1, r := x.r + 1, a := n }) rfl]; dsimp only; omega) ⟨rfl, rfl, rfl, rfl⟩ (fun h => by omega) (by omega)
      · rw [if_neg h2]; exact fw_same x 1
    · rw [if_neg h1]; exact fw_same x 90
  have tl : FW x (lockI x n) := by
    unfold lockI
    by_cases h1 : x.t = 3 ∧ x.y = 0
    · rw [if_pos h1]
      by_cases h2 : 1 ≤ n ∧ n ≤ 1048576
      · rw [if_pos h2]
        exact fw_mk (by rw [rank34 (.inl h1.1), rank34 (x := { x with y := n }) (.inl h1.1)]; omega) ⟨rfl, rfl, rfl, rfl⟩ (fun _ => rfl) (by omega)
      · rw [if_neg h2]; exact fw_same x 1
    · rw [if_neg h1]; exact fw_same x 90
  have tf : FW x (freeI x) := by
    unfold freeI
    by_cases h1 : x.t = 3 ∧ x.y ≠ 0
    · rw [if_pos h1]
      exact fw_mk (by rw [rank34 (.inl h1.1), rank34 (x := { x with y := 0 }) (.inl h1.1)]; omega) ⟨rfl, rfl, rfl, rfl⟩ (fun _ => rfl) (by omega)
    · rw [if_neg h1]; exact fw_same x 90
  have ts : FW x (settleI x) := by
    unfold settleI
    by_cases h1 : x.t = 3 ∧ x.y ≠ 0
    · rw [if_pos h1]
      exact fw_mk (by rw [rank34 (.inl h1.1), rank5 (x := { x with t := 5 }) rfl]; omega) ⟨rfl, rfl, rfl, rfl⟩ (fun _ => rfl) (by omega)
    · rw [if_neg h1]; exact fw_same x 90
  unfold actI
  by_cases h1 : k = 1
  · rw [if_pos h1]; exact t12
  rw [if_neg h1]
  by_cases h2 : k = 2
  · rw [if_pos h2]; exact t13
  rw [if_neg h2]
  by_cases h3 : k = 3
  · rw [if_pos h3]; exact t24
  rw [if_neg h3]
  by_cases h4 : k = 4
  · rw [if_pos h4]; exact ta
  rw [if_neg h4]
  by_cases h5 : k = 5
  · rw [if_pos h5]; exact tl
  rw [if_neg h5]
  by_cases h6 : k = 6
  · rw [if_pos h6]; exact tf
  rw [if_neg h6]
  by_cases h7 : k = 7
  · rw [if_pos h7]; exact ts
  rw [if_neg h7]
  exact fw_same x 0
/-- What the loop keeps: the item at hand. -/
def FRel (w : World) (X : Itm) (wr : World) : Prop := Blk wr w.heap.size X.row 25 ∧ Below w.heap.size w wr ∧ chkI X = 0
set_option linter.unusedSimpArgs false in
set_option maxHeartbeats 16000000 in
set_option maxRecDepth 100000 in
theorem itemforward_walk (x : Itm) (v : Value) (n : Nat) (f : Nat → Int × Int) (w : World) (_ : x.Fit) (ht : TwoRow w v n f) : Calls Try.prog 5 #[x.v, v] w fun e w' => e = .returned (.bool true) ∧ Below w.heap.size w w' := by
  have HL := Lib.hid (fun w => lives_any w)
  have HD := Lib.hid (fun w => refcheck_any x w)
  obtain ⟨hfit, p, c, rfl, hc, hrow⟩ := ht
  have HF := Lib.hid hfit
  clear hfit hc
  by_cases h : chkI x = 0
  rotate_left
  · skip
    have e0 : (chkI x != 0) = true := by simpa using h
    generalize chkI x = q at HD e0
    clear h hrow HF
    unfold Itm.v at *
    have HB0 := Lib.hid (oneB w (.cells #[.int .i64 x.s, .int .i64 x.n, .int .i64 x.b, .int .i64 x.c, .int .i64 x.a, .int .i64 x.r, .int .i64 x.t, .int .i64 x.y] 25))
    have HXx := Lib.hid (Blk.new w #[.int .i64 x.s, .int .i64 x.n, .int .i64 x.b, .int .i64 x.c, .int .i64 x.a, .int .i64 x.r, .int .i64 x.t, .int .i64 x.y] 25)
    go_enter Try.func5, Try.ntmps5
    go_wp2_with fail
    refine (HL.out _).mono ?_
    rintro z w1 ⟨rfl, hb1⟩
    replace HXx := Lib.hid (HXx.out.below hb1 HXx.out.lt)
    have HB1 := Lib.hid (HB0.out.trans (hb1.mono HB0.out.size))
    clear hb1
    have cx0 : w1.cell? ⟨w.heap.size, 0, none⟩ = some (.int .i64 x.s) := HXx.out.cell 0
    have cx1 : w1.cell? ⟨w.heap.size, 1, none⟩ = some (.int .i64 x.n) := HXx.out.cell 1
    have cx2 : w1.cell? ⟨w.heap.size, 2, none⟩ = some (.int .i64 x.b) := HXx.out.cell 2
    have cx3 : w1.cell? ⟨w.heap.size, 3, none⟩ = some (.int .i64 x.c) := HXx.out.cell 3
    have cx4 : w1.cell? ⟨w.heap.size, 4, none⟩ = some (.int .i64 x.a) := HXx.out.cell 4
    have cx5 : w1.cell? ⟨w.heap.size, 5, none⟩ = some (.int .i64 x.r) := HXx.out.cell 5
    have cx6 : w1.cell? ⟨w.heap.size, 6, none⟩ = some (.int .i64 x.t) := HXx.out.cell 6
    have cx7 : w1.cell? ⟨w.heap.size, 7, none⟩ = some (.int .i64 x.y) := HXx.out.cell 7
    have lx := HXx.out.lt
    go_wp2_with fail
    refine (HD.out _).mono ?_
    rintro z w2 ⟨rfl, hb2⟩
    replace HXx := Lib.hid (HXx.out.below hb2 HXx.out.lt)
    have HB2 := Lib.hid (HB1.out.trans (hb2.mono HB1.out.size))
    clear hb2
    have cx0 : w2.cell? ⟨w.heap.size, 0, none⟩ = some (.int .i64 x.s) := HXx.out.cell 0
    have cx1 : w2.cell? ⟨w.heap.size, 1, none⟩ = some (.int .i64 x.n) := HXx.out.cell 1
    have cx2 : w2.cell? ⟨w.heap.size, 2, none⟩ = some (.int .i64 x.b) := HXx.out.cell 2
    have cx3 : w2.cell? ⟨w.heap.size, 3, none⟩ = some (.int .i64 x.c) := HXx.out.cell 3
    have cx4 : w2.cell? ⟨w.heap.size, 4, none⟩ = some (.int .i64 x.a) := HXx.out.cell 4
    have cx5 : w2.cell? ⟨w.heap.size, 5, none⟩ = some (.int .i64 x.r) := HXx.out.cell 5
    have cx6 : w2.cell? ⟨w.heap.size, 6, none⟩ = some (.int .i64 x.t) := HXx.out.cell 6
    have cx7 : w2.cell? ⟨w.heap.size, 7, none⟩ = some (.int .i64 x.y) := HXx.out.cell 7
    have lx := HXx.out.lt
    go_wp2_with fail
    go_ret
    exact ⟨rfl, HB2.out⟩
  by_cases hn : 60 < n
  · have hn' : (60 : Int) < (n : Int) := by omega
    rw [h] at HD
    clear h hrow HF hn
    unfold Itm.v at *
    have HB0 := Lib.hid (oneB w (.cells #[.int .i64 x.s, .int .i64 x.n, .int .i64 x.b, .int .i64 x.c, .int .i64 x.a, .int .i64 x.r, .int .i64 x.t, .int .i64 x.y] 25))
    have HXx := Lib.hid (Blk.new w #[.int .i64 x.s, .int .i64 x.n, .int .i64 x.b, .int .i64 x.c, .int .i64 x.a, .int .i64 x.r, .int .i64 x.t, .int .i64 x.y] 25)
    go_enter Try.func5, Try.ntmps5
    go_wp2_with fail
    refine (HL.out _).mono ?_
    rintro z w1 ⟨rfl, hb1⟩
    replace HXx := Lib.hid (HXx.out.below hb1 HXx.out.lt)
    have HB1 := Lib.hid (HB0.out.trans (hb1.mono HB0.out.size))
    clear hb1
    have cx0 : w1.cell? ⟨w.heap.size, 0, none⟩ = some (.int .i64 x.s) := HXx.out.cell 0
    have cx1 : w1.cell? ⟨w.heap.size, 1, none⟩ = some (.int .i64 x.n) := HXx.out.cell 1
    have cx2 : w1.cell? ⟨w.heap.size, 2, none⟩ = some (.int .i64 x.b) := HXx.out.cell 2
    have cx3 : w1.cell? ⟨w.heap.size, 3, none⟩ = some (.int .i64 x.c) := HXx.out.cell 3
    have cx4 : w1.cell? ⟨w.heap.size, 4, none⟩ = some (.int .i64 x.a) := HXx.out.cell 4
    have cx5 : w1.cell? ⟨w.heap.size, 5, none⟩ = some (.int .i64 x.r) := HXx.out.cell 5
    have cx6 : w1.cell? ⟨w.heap.size, 6, none⟩ = some (.int .i64 x.t) := HXx.out.cell 6
    have cx7 : w1.cell? ⟨w.heap.size, 7, none⟩ = some (.int .i64 x.y) := HXx.out.cell 7
    have lx := HXx.out.lt
    go_wp2_with fail
    refine (HD.out _).mono ?_
    rintro z w2 ⟨rfl, hb2⟩
    replace HXx := Lib.hid (HXx.out.below hb2 HXx.out.lt)
    have HB2 := Lib.hid (HB1.out.trans (hb2.mono HB1.out.size))
    clear hb2
    have cx0 : w2.cell? ⟨w.heap.size, 0, none⟩ = some (.int .i64 x.s) := HXx.out.cell 0
    have cx1 : w2.cell? ⟨w.heap.size, 1, none⟩ = some (.int .i64 x.n) := HXx.out.cell 1
    have cx2 : w2.cell? ⟨w.heap.size, 2, none⟩ = some (.int .i64 x.b) := HXx.out.cell 2
    have cx3 : w2.cell? ⟨w.heap.size, 3, none⟩ = some (.int .i64 x.c) := HXx.out.cell 3
    have cx4 : w2.cell? ⟨w.heap.size, 4, none⟩ = some (.int .i64 x.a) := HXx.out.cell 4
    have cx5 : w2.cell? ⟨w.heap.size, 5, none⟩ = some (.int .i64 x.r) := HXx.out.cell 5
    have cx6 : w2.cell? ⟨w.heap.size, 6, none⟩ = some (.int .i64 x.t) := HXx.out.cell 6
    have cx7 : w2.cell? ⟨w.heap.size, 7, none⟩ = some (.int .i64 x.y) := HXx.out.cell 7
    have lx := HXx.out.lt
    go_wp2_with fail
    go_ret
    exact ⟨rfl, HB2.out⟩
  have hn' : ¬ (60 : Int) < (n : Int) := by omega
  have HN := Lib.hid hn
  have HH := Lib.hid h
  rw [h] at HD
  have HROW := Lib.hid hrow
  clear h hrow hn
  unfold Itm.v at *
  have HB0 := Lib.hid (oneB w (.cells #[.int .i64 x.s, .int .i64 x.n, .int .i64 x.b, .int .i64 x.c, .int .i64 x.a, .int .i64 x.r, .int .i64 x.t, .int .i64 x.y] 25))
  have HXx := Lib.hid (Blk.new w #[.int .i64 x.s, .int .i64 x.n, .int .i64 x.b, .int .i64 x.c, .int .i64 x.a, .int .i64 x.r, .int .i64 x.t, .int .i64 x.y] 25)
  go_enter Try.func5, Try.ntmps5
  go_wp2_with fail
  refine (HL.out _).mono ?_
  rintro z w1 ⟨rfl, hb1⟩
  replace HXx := Lib.hid (HXx.out.below hb1 HXx.out.lt)
  have HB1 := Lib.hid (HB0.out.trans (hb1.mono HB0.out.size))
  clear hb1
  have cx0 : w1.cell? ⟨w.heap.size, 0, none⟩ = some (.int .i64 x.s) := HXx.out.cell 0
  have cx1 : w1.cell? ⟨w.heap.size, 1, none⟩ = some (.int .i64 x.n) := HXx.out.cell 1
  have cx2 : w1.cell? ⟨w.heap.size, 2, none⟩ = some (.int .i64 x.b) := HXx.out.cell 2
  have cx3 : w1.cell? ⟨w.heap.size, 3, none⟩ = some (.int .i64 x.c) := HXx.out.cell 3
  have cx4 : w1.cell? ⟨w.heap.size, 4, none⟩ = some (.int .i64 x.a) := HXx.out.cell 4
  have cx5 : w1.cell? ⟨w.heap.size, 5, none⟩ = some (.int .i64 x.r) := HXx.out.cell 5
  have cx6 : w1.cell? ⟨w.heap.size, 6, none⟩ = some (.int .i64 x.t) := HXx.out.cell 6
  have cx7 : w1.cell? ⟨w.heap.size, 7, none⟩ = some (.int .i64 x.y) := HXx.out.cell 7
  have lx := HXx.out.lt
  go_wp2_with fail
  refine (HD.out _).mono ?_
  rintro z w2 ⟨rfl, hb2⟩
  replace HXx := Lib.hid (HXx.out.below hb2 HXx.out.lt)
  have HB2 := Lib.hid (HB1.out.trans (hb2.mono HB1.out.size))
  clear hb2
  have cx0 : w2.cell? ⟨w.heap.size, 0, none⟩ = some (.int .i64 x.s) := HXx.out.cell 0
  have cx1 : w2.cell? ⟨w.heap.size, 1, none⟩ = some (.int .i64 x.n) := HXx.out.cell 1
  have cx2 : w2.cell? ⟨w.heap.size, 2, none⟩ = some (.int .i64 x.b) := HXx.out.cell 2
  have cx3 : w2.cell? ⟨w.heap.size, 3, none⟩ = some (.int .i64 x.c) := HXx.out.cell 3
  have cx4 : w2.cell? ⟨w.heap.size, 4, none⟩ = some (.int .i64 x.a) := HXx.out.cell 4
  have cx5 : w2.cell? ⟨w.heap.size, 5, none⟩ = some (.int .i64 x.r) := HXx.out.cell 5
  have cx6 : w2.cell? ⟨w.heap.size, 6, none⟩ = some (.int .i64 x.t) := HXx.out.cell 6
  have cx7 : w2.cell? ⟨w.heap.size, 7, none⟩ = some (.int .i64 x.y) := HXx.out.cell 7
  have lx := HXx.out.lt
  have HREL : Hid (FRel w x w2) := ⟨HXx.out, HB2.out, HH.out⟩
  go_wp2_with fail
  clear HL HD HH hn'
  clear cx0 cx1 cx2 cx3 cx4 cx5 cx6 cx7 lx
  go_loopw [21] (fun i wr => ∃ (k : Nat) (X : Itm), k ≤ n ∧ i = .int .i64 k ∧ Hid (FRel w X wr)) (fun i _ => n - (intOf i).toNat)
  case atStart => exact ⟨0, x, by omega, rfl, HREL⟩
  case round =>
    obtain ⟨k, X, hk, rfl, HJ⟩ := hrel
    by_cases hlt : k < n
    rotate_left
    · have hle : (n : Int) ≤ (k : Int) := by omega
      go_wp2_with fail
      go_ret
      exact ⟨rfl, HJ.out.2.1⟩
    have hltI : (k : Int) < (n : Int) := by omega
    obtain ⟨b, o, hp, hbl, hcell⟩ : ∃ b o, p = some ⟨b, o, none⟩ ∧ b < w.heap.size ∧ ∀ i, i < n → w.cell? ⟨b, o + i * 2, none⟩ = some (.int .i64 (f i).1) ∧ w.cell? ⟨b, o + i * 2 + 1, none⟩ = some (.int .i64 (f i).2) := by
      rcases HROW.out with h0 | h0
      · omega
      · exact h0
    subst hp
    have q0 := (HJ.out.2.1.cell (p := ⟨b, o + k * 2, none⟩) hbl).trans (hcell k hlt).1
    have q1 := (HJ.out.2.1.cell (p := ⟨b, o + k * 2 + 1, none⟩) hbl).trans (hcell k hlt).2
    have hbl2 : b < wr.heap.size := Nat.lt_of_lt_of_le hbl HJ.out.2.1.size
    clear hcell
    have HXx := Lib.hid HJ.out.1
    have HBr := Lib.hid HJ.out.2.1
    have hX := HJ.out.2.2
    have hfw := act_forward X (f k).1 (f k).2 hX
    unfold FW at hfw
    have hy := act_ok (f k).1 (f k).2 hX
    have hX3 := (chk_ok hX).2.1
    have hy3 := (chk_ok hy).2.1
    unfold numsOk at hX3 hy3
    have HA := Lib.hid (fun w => act_any X (f k).1 (f k).2 w (by unfold F64; omega))
    have HO := Lib.hid (fun w => over_any X w)
    generalize (f k).1 = fa at *
    generalize (f k).2 = fb at *
    generalize actI X fa fb = q at HA hfw hy hy3
    obtain ⟨y, e⟩ := q
    dsimp only at hfw hy hy3
    have HKy := Lib.hid (fun w => rank_any y w (by omega))
    have HKx := Lib.hid (fun w => rank_any X w (by omega))
    obtain ⟨g1, ⟨g2, g3, g4, g5⟩, g6, g7, g8⟩ := hfw
    have HY := Lib.hid hy
    generalize rankI X = rx at HKx g1
    generalize hry : rankI y = ry at HKy g1
    have hlt1 : ¬ ry < rx := by omega
    have hlt2 : decide (ry < rx) = false := decide_eq_false hlt1
    clear g1 hX hy hX3 hy3 hry
    obtain ⟨s, i, u, d, am, r, t, z⟩ := y
    dsimp only at g2 g3 g4 g5
    subst g2 g3 g4 g5
    unfold ansI Itm.v at *
    dsimp only at *
    have cx : True := trivial
    have cx0 : wr.cell? ⟨w.heap.size, 0, none⟩ = some (.int .i64 X.s) := HXx.out.cell 0
    have cx1 : wr.cell? ⟨w.heap.size, 1, none⟩ = some (.int .i64 X.n) := HXx.out.cell 1
    have cx2 : wr.cell? ⟨w.heap.size, 2, none⟩ = some (.int .i64 X.b) := HXx.out.cell 2
    have cx3 : wr.cell? ⟨w.heap.size, 3, none⟩ = some (.int .i64 X.c) := HXx.out.cell 3
    have cx4 : wr.cell? ⟨w.heap.size, 4, none⟩ = some (.int .i64 X.a) := HXx.out.cell 4
    have cx5 : wr.cell? ⟨w.heap.size, 5, none⟩ = some (.int .i64 X.r) := HXx.out.cell 5
    have cx6 : wr.cell? ⟨w.heap.size, 6, none⟩ = some (.int .i64 X.t) := HXx.out.cell 6
    have cx7 : wr.cell? ⟨w.heap.size, 7, none⟩ = some (.int .i64 X.y) := HXx.out.cell 7
    have lx := HXx.out.lt
    go_wp2_with fail
    refine (HA.out _).mono ?_
    rintro z' w3 ⟨rfl, hb3⟩
    replace HXx := Lib.hid (HXx.out.alloc (.cells #[.int .i64 fa, .int .i64 fb] 38))
    have HBs := Lib.hid (HBr.out.alloc HBr.out.size (.cells #[.int .i64 fa, .int .i64 fb] 38))
    replace HXx := Lib.hid (HXx.out.below hb3 HXx.out.lt)
    have HB51 := Lib.hid (HBs.out.trans (hb3.mono HBs.out.size))
    clear hb3
    clear q0 q1 hbl2 cx0 cx1 cx2 cx3 cx4 cx5 cx6 cx7 lx cx
    have cx0 : w3.cell? ⟨w.heap.size, 0, none⟩ = some (.int .i64 X.s) := HXx.out.cell 0
    have cx1 : w3.cell? ⟨w.heap.size, 1, none⟩ = some (.int .i64 X.n) := HXx.out.cell 1
    have cx2 : w3.cell? ⟨w.heap.size, 2, none⟩ = some (.int .i64 X.b) := HXx.out.cell 2
    have cx3 : w3.cell? ⟨w.heap.size, 3, none⟩ = some (.int .i64 X.c) := HXx.out.cell 3
    have cx4 : w3.cell? ⟨w.heap.size, 4, none⟩ = some (.int .i64 X.a) := HXx.out.cell 4
    have cx5 : w3.cell? ⟨w.heap.size, 5, none⟩ = some (.int .i64 X.r) := HXx.out.cell 5
    have cx6 : w3.cell? ⟨w.heap.size, 6, none⟩ = some (.int .i64 X.t) := HXx.out.cell 6
    have cx7 : w3.cell? ⟨w.heap.size, 7, none⟩ = some (.int .i64 X.y) := HXx.out.cell 7
    have lx := HXx.out.lt
    replace HXx := Lib.hid (HXx.out.alloc (.cells #[.int .i64 X.s, .int .i64 X.n, .int .i64 X.b, .int .i64 X.c, .int .i64 am, .int .i64 r, .int .i64 t, .int .i64 z] 25))
    have HXy := Lib.hid (Blk.new' (w3) #[.int .i64 X.s, .int .i64 X.n, .int .i64 X.b, .int .i64 X.c, .int .i64 am, .int .i64 r, .int .i64 t, .int .i64 z] 25 (b := w3.heap.size) (by simp))
    have HB52 := Lib.hid (HB51.out.alloc HB51.out.size (.cells #[.int .i64 X.s, .int .i64 X.n, .int .i64 X.b, .int .i64 X.c, .int .i64 am, .int .i64 r, .int .i64 t, .int .i64 z] 25))
    go_wp2_with fail
    by_cases hge : 3 ≤ X.t
    · by_cases hov : overI X = true
      · by_cases he : e = 0
        · skip
          have hsame := g7 hov
          have s1 : am = X.a := congrArg Itm.a hsame
          have s2 : r = X.r := congrArg Itm.r hsame
          have s3 : t = X.t := congrArg Itm.t hsame
          have s4 : z = X.y := congrArg Itm.y hsame
          clear hsame
          subst s1 s2 s3 s4
          have ge1 : decide (3 ≤ X.t) = true := decide_eq_true hge
          have ge2 : decide (X.t ≥ 3) = true := ge1
          have en : (e != 0) = false := by simpa using he
          rw [hov] at HO
          clear g6 g7 g8 he hov hge
          have hS0 : ((w3).alloc (.cells #[.int .i64 X.s, .int .i64 X.n, .int .i64 X.b, .int .i64 X.c, .int .i64 X.a, .int .i64 X.r, .int .i64 X.t, .int .i64 X.y] 25)).drew.cell? ⟨w3.heap.size, 0, none⟩ = some (.int .i64 X.s) ∧ ((w3).alloc (.cells #[.int .i64 X.s, .int .i64 X.n, .int .i64 X.b, .int .i64 X.c, .int .i64 X.a, .int .i64 X.r, .int .i64 X.t, .int .i64 X.y] 25)).drew.cell? ⟨w3.heap.size, 1, none⟩ = some (.int .i64 X.n) ∧ ((w3).alloc (.cells #[.int .i64 X.s, .int .i64 X.n, .int .i64 X.b, .int .i64 X.c, .int .i64 X.a, .int .i64 X.r, .int .i64 X.t, .int .i64 X.y] 25)).drew.cell? ⟨w3.heap.size, 2, none⟩ = some (.int .i64 X.b) ∧ ((w3).alloc (.cells #[.int .i64 X.s, .int .i64 X.n, .int .i64 X.b, .int .i64 X.c, .int .i64 X.a, .int .i64 X.r, .int .i64 X.t, .int .i64 X.y] 25)).drew.cell? ⟨w3.heap.size, 3, none⟩ = some (.int .i64 X.c) ∧ ((w3).alloc (.cells #[.int .i64 X.s, .int .i64 X.n, .int .i64 X.b, .int .i64 X.c, .int .i64 X.a, .int .i64 X.r, .int .i64 X.t, .int .i64 X.y] 25)).drew.cell? ⟨w3.heap.size, 4, none⟩ = some (.int .i64 X.a) ∧ ((w3).alloc (.cells #[.int .i64 X.s, .int .i64 X.n, .int .i64 X.b, .int .i64 X.c, .int .i64 X.a, .int .i64 X.r, .int .i64 X.t, .int .i64 X.y] 25)).drew.cell? ⟨w3.heap.size, 5, none⟩ = some (.int .i64 X.r) ∧ ((w3).alloc (.cells #[.int .i64 X.s, .int .i64 X.n, .int .i64 X.b, .int .i64 X.c, .int .i64 X.a, .int .i64 X.r, .int .i64 X.t, .int .i64 X.y] 25)).drew.cell? ⟨w3.heap.size, 6, none⟩ = some (.int .i64 X.t) ∧ ((w3).alloc (.cells #[.int .i64 X.s, .int .i64 X.n, .int .i64 X.b, .int .i64 X.c, .int .i64 X.a, .int .i64 X.r, .int .i64 X.t, .int .i64 X.y] 25)).drew.cell? ⟨w3.heap.size, 7, none⟩ = some (.int .i64 X.y) ∧ ((w3).alloc (.cells #[.int .i64 X.s, .int .i64 X.n, .int .i64 X.b, .int .i64 X.c, .int .i64 X.a, .int .i64 X.r, .int .i64 X.t, .int .i64 X.y] 25)).drew.cell? ⟨w.heap.size, 0, none⟩ = some (.int .i64 X.s) ∧ ((w3).alloc (.cells #[.int .i64 X.s, .int .i64 X.n, .int .i64 X.b, .int .i64 X.c, .int .i64 X.a, .int .i64 X.r, .int .i64 X.t, .int .i64 X.y] 25)).drew.cell? ⟨w.heap.size, 1, none⟩ = some (.int .i64 X.n) ∧ ((w3).alloc (.cells #[.int .i64 X.s, .int .i64 X.n, .int .i64 X.b, .int .i64 X.c, .int .i64 X.a, .int .i64 X.r, .int .i64 X.t, .int .i64 X.y] 25)).drew.cell? ⟨w.heap.size, 2, none⟩ = some (.int .i64 X.b) ∧ ((w3).alloc (.cells #[.int .i64 X.s, .int .i64 X.n, .int .i64 X.b, .int .i64 X.c, .int .i64 X.a, .int .i64 X.r, .int .i64 X.t, .int .i64 X.y] 25)).drew.cell? ⟨w.heap.size, 3, none⟩ = some (.int .i64 X.c) ∧ ((w3).alloc (.cells #[.int .i64 X.s, .int .i64 X.n, .int .i64 X.b, .int .i64 X.c, .int .i64 X.a, .int .i64 X.r, .int .i64 X.t, .int .i64 X.y] 25)).drew.cell? ⟨w.heap.size, 4, none⟩ = some (.int .i64 X.a) ∧ ((w3).alloc (.cells #[.int .i64 X.s, .int .i64 X.n, .int .i64 X.b, .int .i64 X.c, .int .i64 X.a, .int .i64 X.r, .int .i64 X.t, .int .i64 X.y] 25)).drew.cell? ⟨w.heap.size, 5, none⟩ = some (.int .i64 X.r) ∧ ((w3).alloc (.cells #[.int .i64 X.s, .int .i64 X.n, .int .i64 X.b, .int .i64 X.c, .int .i64 X.a, .int .i64 X.r, .int .i64 X.t, .int .i64 X.y] 25)).drew.cell? ⟨w.heap.size, 6, none⟩ = some (.int .i64 X.t) ∧ ((w3).alloc (.cells #[.int .i64 X.s, .int .i64 X.n, .int .i64 X.b, .int .i64 X.c, .int .i64 X.a, .int .i64 X.r, .int .i64 X.t, .int .i64 X.y] 25)).drew.cell? ⟨w.heap.size, 7, none⟩ = some (.int .i64 X.y) := ⟨HXy.out.cell 0, HXy.out.cell 1, HXy.out.cell 2, HXy.out.cell 3, HXy.out.cell 4, HXy.out.cell 5, HXy.out.cell 6, HXy.out.cell 7, HXx.out.cell 0, HXx.out.cell 1, HXx.out.cell 2, HXx.out.cell 3, HXx.out.cell 4, HXx.out.cell 5, HXx.out.cell 6, HXx.out.cell 7⟩
          have HS0 := Lib.hid hS0
          replace HB52 := Lib.hid HB52.out.drew
          replace HXx := Lib.hid HXx.out.drew
          replace HXy := Lib.hid HXy.out.drew
          clear hS0
          refine wp_region_held_drew (S := fun w' => w'.cell? ⟨w3.heap.size, 0, none⟩ = some (.int .i64 X.s) ∧ w'.cell? ⟨w3.heap.size, 1, none⟩ = some (.int .i64 X.n) ∧ w'.cell? ⟨w3.heap.size, 2, none⟩ = some (.int .i64 X.b) ∧ w'.cell? ⟨w3.heap.size, 3, none⟩ = some (.int .i64 X.c) ∧ w'.cell? ⟨w3.heap.size, 4, none⟩ = some (.int .i64 X.a) ∧ w'.cell? ⟨w3.heap.size, 5, none⟩ = some (.int .i64 X.r) ∧ w'.cell? ⟨w3.heap.size, 6, none⟩ = some (.int .i64 X.t) ∧ w'.cell? ⟨w3.heap.size, 7, none⟩ = some (.int .i64 X.y) ∧ w'.cell? ⟨w.heap.size, 0, none⟩ = some (.int .i64 X.s) ∧ w'.cell? ⟨w.heap.size, 1, none⟩ = some (.int .i64 X.n) ∧ w'.cell? ⟨w.heap.size, 2, none⟩ = some (.int .i64 X.b) ∧ w'.cell? ⟨w.heap.size, 3, none⟩ = some (.int .i64 X.c) ∧ w'.cell? ⟨w.heap.size, 4, none⟩ = some (.int .i64 X.a) ∧ w'.cell? ⟨w.heap.size, 5, none⟩ = some (.int .i64 X.r) ∧ w'.cell? ⟨w.heap.size, 6, none⟩ = some (.int .i64 X.t) ∧ w'.cell? ⟨w.heap.size, 7, none⟩ = some (.int .i64 X.y)) (by kernel_rfl) HS0.out (fun hS0 => ?_)
          refine wpAnyH_take (i := 0) (v := ?_) rfl (by kernel_rfl) (by kernel_rfl) (by kernel_rfl) (fun _ _ _ h => h) (Or.inl ⟨by kernel_rfl, ?_⟩) (by first | assumption | trivial) ?_
          rotate_left
          · intro w hSw
            try dsimp only at hSw
            first | (go_simp; done) | (go_simp; with_reducible rfl)
          try simp only [Act.put, List.getElem_toArray, List.getElem_cons_succ, List.getElem_cons_zero, List.setIfInBounds_toArray, List.set_cons_zero, List.set_cons_succ]
          refine wpAnyH_take (i := 2) (v := ?_) rfl (by kernel_rfl) (by kernel_rfl) (by kernel_rfl) (fun _ _ _ h => h) (Or.inl ⟨by kernel_rfl, ?_⟩) (by first | assumption | trivial) ?_
          rotate_left
          · intro w hSw
            try dsimp only at hSw
            first | (go_simp; done) | (go_simp; with_reducible rfl)
          try simp only [Act.put, List.getElem_toArray, List.getElem_cons_succ, List.getElem_cons_zero, List.setIfInBounds_toArray, List.set_cons_zero, List.set_cons_succ]
          refine wpAnyH_ready (rs := [1]) (by kernel_rfl) (by simp) ?_
          refine AllReadyH.cons rfl (fun K hK => ?_) AllReadyH.nil
          go_simp
          go_at_call 14
          refine (HKy.out _).mono ?_
          rintro y w4 ⟨rfl, hb4⟩
          replace HXx := Lib.hid (HXx.out.below hb4 HXx.out.lt)
          replace HXy := Lib.hid (HXy.out.below hb4 HXy.out.lt)
          have HB53 := Lib.hid (HB52.out.trans (hb4.mono HB52.out.size))
          clear hb4
          try go_wp2_with fail
          refine hK.out _ _ ⟨HXy.out.cell 0, HXy.out.cell 1, HXy.out.cell 2, HXy.out.cell 3, HXy.out.cell 4, HXy.out.cell 5, HXy.out.cell 6, HXy.out.cell 7, HXx.out.cell 0, HXx.out.cell 1, HXx.out.cell 2, HXx.out.cell 3, HXx.out.cell 4, HXx.out.cell 5, HXx.out.cell 6, HXx.out.cell 7⟩ (fun hS => ?_)
          clear hK K
          try simp only [Act.put, List.getElem_toArray, List.getElem_cons_succ, List.getElem_cons_zero, List.setIfInBounds_toArray, List.set_cons_zero, List.set_cons_succ]
          refine wpAnyH_ready (rs := [3]) (by kernel_rfl) (by simp) ?_
          refine AllReadyH.cons rfl (fun K hK => ?_) AllReadyH.nil
          go_simp
          go_at_call 14
          refine (HKx.out _).mono ?_
          rintro y w5 ⟨rfl, hb5⟩
          replace HXx := Lib.hid (HXx.out.below hb5 HXx.out.lt)
          replace HXy := Lib.hid (HXy.out.below hb5 HXy.out.lt)
          have HB54 := Lib.hid (HB53.out.trans (hb5.mono HB53.out.size))
          clear hb5
          try go_wp2_with fail
          refine hK.out _ _ ⟨HXy.out.cell 0, HXy.out.cell 1, HXy.out.cell 2, HXy.out.cell 3, HXy.out.cell 4, HXy.out.cell 5, HXy.out.cell 6, HXy.out.cell 7, HXx.out.cell 0, HXx.out.cell 1, HXx.out.cell 2, HXx.out.cell 3, HXx.out.cell 4, HXx.out.cell 5, HXx.out.cell 6, HXx.out.cell 7⟩ (fun hS => ?_)
          clear hK K
          try simp only [Act.put, List.getElem_toArray, List.getElem_cons_succ, List.getElem_cons_zero, List.setIfInBounds_toArray, List.set_cons_zero, List.set_cons_succ]
          refine wpAnyH_take (i := 4) (v := ?_) rfl (by kernel_rfl) (by kernel_rfl) (by kernel_rfl) (fun _ _ _ h => h) (Or.inl ⟨by kernel_rfl, ?_⟩) (by first | assumption | trivial) ?_
          rotate_left
          · intro w hSw
            try dsimp only at hSw
            first | (go_simp; done) | (go_simp; with_reducible rfl)
          try simp only [Act.put, List.getElem_toArray, List.getElem_cons_succ, List.getElem_cons_zero, List.setIfInBounds_toArray, List.set_cons_zero, List.set_cons_succ]
          refine wpAnyH_take (i := 5) (v := ?_) rfl (by kernel_rfl) (by kernel_rfl) (by kernel_rfl) (fun _ _ _ h => h) (Or.inl ⟨by kernel_rfl, ?_⟩) (by first | assumption | trivial) ?_
          rotate_left
          · intro w hSw
            try dsimp only at hSw
            first | (go_simp; done) | (go_simp; with_reducible rfl)
          try simp only [Act.put, List.getElem_toArray, List.getElem_cons_succ, List.getElem_cons_zero, List.setIfInBounds_toArray, List.set_cons_zero, List.set_cons_succ]
          refine wpAnyH_take (i := 6) (v := ?_) rfl (by kernel_rfl) (by kernel_rfl) (by kernel_rfl) (fun _ _ _ h => h) (Or.inl ⟨by kernel_rfl, ?_⟩) (by first | assumption | trivial) ?_
          rotate_left
          · intro w hSw
            try dsimp only at hSw
            first | (go_simp; done) | (go_simp; with_reducible rfl)
          try simp only [Act.put, List.getElem_toArray, List.getElem_cons_succ, List.getElem_cons_zero, List.setIfInBounds_toArray, List.set_cons_zero, List.set_cons_succ]
          refine wpAnyH_take (i := 7) (v := ?_) rfl (by kernel_rfl) (by kernel_rfl) (by kernel_rfl) (fun _ _ _ h => h) (Or.inl ⟨by kernel_rfl, ?_⟩) (by first | assumption | trivial) ?_
          rotate_left
          · intro w hSw
            try dsimp only at hSw
            first | (go_simp; done) | (go_simp; with_reducible rfl)
          try simp only [Act.put, List.getElem_toArray, List.getElem_cons_succ, List.getElem_cons_zero, List.setIfInBounds_toArray, List.set_cons_zero, List.set_cons_succ]
          refine wpAnyH_take (i := 8) (v := ?_) rfl (by kernel_rfl) (by kernel_rfl) (by kernel_rfl) (fun _ _ _ h => h) (Or.inl ⟨by kernel_rfl, ?_⟩) (by first | assumption | trivial) ?_
          rotate_left
          · intro w hSw
            try dsimp only at hSw
            first | (go_simp; done) | (go_simp; with_reducible rfl)
          try simp only [Act.put, List.getElem_toArray, List.getElem_cons_succ, List.getElem_cons_zero, List.setIfInBounds_toArray, List.set_cons_zero, List.set_cons_succ]
          refine wpAnyH_take (i := 9) (v := ?_) rfl (by kernel_rfl) (by kernel_rfl) (by kernel_rfl) (fun _ _ _ h => h) (Or.inl ⟨by kernel_rfl, ?_⟩) (by first | assumption | trivial) ?_
          rotate_left
          · intro w hSw
            try dsimp only at hSw
            first | (go_simp; done) | (go_simp; with_reducible rfl)
          try simp only [Act.put, List.getElem_toArray, List.getElem_cons_succ, List.getElem_cons_zero, List.setIfInBounds_toArray, List.set_cons_zero, List.set_cons_succ]
          refine wpAnyH_take (i := 10) (v := ?_) rfl (by kernel_rfl) (by kernel_rfl) (by kernel_rfl) (fun _ _ _ h => h) (Or.inl ⟨by kernel_rfl, ?_⟩) (by first | assumption | trivial) ?_
          rotate_left
          · intro w hSw
            try dsimp only at hSw
            first | (go_simp; done) | (go_simp; with_reducible rfl)
          try simp only [Act.put, List.getElem_toArray, List.getElem_cons_succ, List.getElem_cons_zero, List.setIfInBounds_toArray, List.set_cons_zero, List.set_cons_succ]
          refine wpAnyH_take (i := 11) (v := ?_) rfl (by kernel_rfl) (by kernel_rfl) (by kernel_rfl) (fun _ _ _ h => h) (Or.inl ⟨by kernel_rfl, ?_⟩) (by first | assumption | trivial) ?_
          rotate_left
          · intro w hSw
            try dsimp only at hSw
            first | (go_simp; done) | (go_simp; with_reducible rfl)
          try simp only [Act.put, List.getElem_toArray, List.getElem_cons_succ, List.getElem_cons_zero, List.setIfInBounds_toArray, List.set_cons_zero, List.set_cons_succ]
          refine wpAnyH_take (i := 12) (v := ?_) rfl (by kernel_rfl) (by kernel_rfl) (by kernel_rfl) (fun _ _ _ h => h) (Or.inl ⟨by kernel_rfl, ?_⟩) (by first | assumption | trivial) ?_
          rotate_left
          · intro w hSw
            try dsimp only at hSw
            first | (go_simp; done) | (go_simp; with_reducible rfl)
          try simp only [Act.put, List.getElem_toArray, List.getElem_cons_succ, List.getElem_cons_zero, List.setIfInBounds_toArray, List.set_cons_zero, List.set_cons_succ]
          refine wpAnyH_take (i := 13) (v := ?_) rfl (by kernel_rfl) (by kernel_rfl) (by kernel_rfl) (fun _ _ _ h => h) (Or.inl ⟨by kernel_rfl, ?_⟩) (by first | assumption | trivial) ?_
          rotate_left
          · intro w hSw
            try dsimp only at hSw
            first | (go_simp; done) | (go_simp; with_reducible rfl)
          try simp only [Act.put, List.getElem_toArray, List.getElem_cons_succ, List.getElem_cons_zero, List.setIfInBounds_toArray, List.set_cons_zero, List.set_cons_succ]
          refine wpAnyH_take (i := 14) (v := ?_) rfl (by kernel_rfl) (by kernel_rfl) (by kernel_rfl) (fun _ _ _ h => h) (Or.inl ⟨by kernel_rfl, ?_⟩) (by first | assumption | trivial) ?_
          rotate_left
          · intro w hSw
            try dsimp only at hSw
            first | (go_simp; done) | (go_simp; with_reducible rfl)
          try simp only [Act.put, List.getElem_toArray, List.getElem_cons_succ, List.getElem_cons_zero, List.setIfInBounds_toArray, List.set_cons_zero, List.set_cons_succ]
          refine wpAnyH_take (i := 15) (v := ?_) rfl (by kernel_rfl) (by kernel_rfl) (by kernel_rfl) (fun _ _ _ h => h) (Or.inl ⟨by kernel_rfl, ?_⟩) (by first | assumption | trivial) ?_
          rotate_left
          · intro w hSw
            try dsimp only at hSw
            first | (go_simp; done) | (go_simp; with_reducible rfl)
          try simp only [Act.put, List.getElem_toArray, List.getElem_cons_succ, List.getElem_cons_zero, List.setIfInBounds_toArray, List.set_cons_zero, List.set_cons_succ]
          refine wpAnyH_take (i := 16) (v := ?_) rfl (by kernel_rfl) (by kernel_rfl) (by kernel_rfl) (fun _ _ _ h => h) (Or.inl ⟨by kernel_rfl, ?_⟩) (by first | assumption | trivial) ?_
          rotate_left
          · intro w hSw
            try dsimp only at hSw
            first | (go_simp; done) | (go_simp; with_reducible rfl)
          try simp only [Act.put, List.getElem_toArray, List.getElem_cons_succ, List.getElem_cons_zero, List.setIfInBounds_toArray, List.set_cons_zero, List.set_cons_succ]
          refine wpAnyH_take (i := 17) (v := ?_) rfl (by kernel_rfl) (by kernel_rfl) (by kernel_rfl) (fun _ _ _ h => h) (Or.inl ⟨by kernel_rfl, ?_⟩) (by first | assumption | trivial) ?_
          rotate_left
          · intro w hSw
            try dsimp only at hSw
            first | (go_simp; done) | (go_simp; with_reducible rfl)
          try simp only [Act.put, List.getElem_toArray, List.getElem_cons_succ, List.getElem_cons_zero, List.setIfInBounds_toArray, List.set_cons_zero, List.set_cons_succ]
          refine wpAnyH_take (i := 18) (v := ?_) rfl (by kernel_rfl) (by kernel_rfl) (by kernel_rfl) (fun _ _ _ h => h) (Or.inl ⟨by kernel_rfl, ?_⟩) (by first | assumption | trivial) ?_
          rotate_left
          · intro w hSw
            try dsimp only at hSw
            first | (go_simp; done) | (go_simp; with_reducible rfl)
          try simp only [Act.put, List.getElem_toArray, List.getElem_cons_succ, List.getElem_cons_zero, List.setIfInBounds_toArray, List.set_cons_zero, List.set_cons_succ]
          refine wpAnyH_take (i := 19) (v := ?_) rfl (by kernel_rfl) (by kernel_rfl) (by kernel_rfl) (fun _ _ _ h => h) (Or.inl ⟨by kernel_rfl, ?_⟩) (by first | assumption | trivial) ?_
          rotate_left
          · intro w hSw
            try dsimp only at hSw
            first | (go_simp; done) | (go_simp; with_reducible rfl)
          try simp only [Act.put, List.getElem_toArray, List.getElem_cons_succ, List.getElem_cons_zero, List.setIfInBounds_toArray, List.set_cons_zero, List.set_cons_succ]
          refine wpAnyH_take (i := 20) (v := ?_) rfl (by kernel_rfl) (by kernel_rfl) (by kernel_rfl) (fun _ _ _ h => h) (Or.inl ⟨by kernel_rfl, ?_⟩) (by first | assumption | trivial) ?_
          rotate_left
          · intro w hSw
            try dsimp only at hSw
            first | (go_simp; done) | (go_simp; with_reducible rfl)
          try simp only [Act.put, List.getElem_toArray, List.getElem_cons_succ, List.getElem_cons_zero, List.setIfInBounds_toArray, List.set_cons_zero, List.set_cons_succ]
          refine wpAnyH_take (i := 21) (v := ?_) rfl (by kernel_rfl) (by kernel_rfl) (by kernel_rfl) (fun _ _ _ h => h) (Or.inl ⟨by kernel_rfl, ?_⟩) (by first | assumption | trivial) ?_
          rotate_left
          · intro w hSw
            try dsimp only at hSw
            first | (go_simp; done) | (go_simp; with_reducible rfl)
          try simp only [Act.put, List.getElem_toArray, List.getElem_cons_succ, List.getElem_cons_zero, List.setIfInBounds_toArray, List.set_cons_zero, List.set_cons_succ]
          refine wpAnyH_take (i := 22) (v := ?_) rfl (by kernel_rfl) (by kernel_rfl) (by kernel_rfl) (fun _ _ _ h => h) (Or.inl ⟨by kernel_rfl, ?_⟩) (by first | assumption | trivial) ?_
          rotate_left
          · intro w hSw
            try dsimp only at hSw
            first | (go_simp; done) | (go_simp; with_reducible rfl)
          try simp only [Act.put, List.getElem_toArray, List.getElem_cons_succ, List.getElem_cons_zero, List.setIfInBounds_toArray, List.set_cons_zero, List.set_cons_succ]
          refine wpAnyH_take (i := 23) (v := ?_) rfl (by kernel_rfl) (by kernel_rfl) (by kernel_rfl) (fun _ _ _ h => h) (Or.inl ⟨by kernel_rfl, ?_⟩) (by first | assumption | trivial) ?_
          rotate_left
          · intro w hSw
            try dsimp only at hSw
            first | (go_simp; done) | (go_simp; with_reducible rfl)
          try simp only [Act.put, List.getElem_toArray, List.getElem_cons_succ, List.getElem_cons_zero, List.setIfInBounds_toArray, List.set_cons_zero, List.set_cons_succ]
          refine wpAnyH_take (i := 24) (v := ?_) rfl (by kernel_rfl) (by kernel_rfl) (by kernel_rfl) (fun _ _ _ h => h) (Or.inl ⟨by kernel_rfl, ?_⟩) (by first | assumption | trivial) ?_
          rotate_left
          · intro w hSw
            try dsimp only at hSw
            first | (go_simp; done) | (go_simp; with_reducible rfl)
          try simp only [Act.put, List.getElem_toArray, List.getElem_cons_succ, List.getElem_cons_zero, List.setIfInBounds_toArray, List.set_cons_zero, List.set_cons_succ]
          refine wpAnyH_take (i := 25) (v := ?_) rfl (by kernel_rfl) (by kernel_rfl) (by kernel_rfl) (fun _ _ _ h => h) (Or.inl ⟨by kernel_rfl, ?_⟩) (by first | assumption | trivial) ?_
          rotate_left
          · intro w hSw
            try dsimp only at hSw
            first | (go_simp; done) | (go_simp; with_reducible rfl)
          try simp only [Act.put, List.getElem_toArray, List.getElem_cons_succ, List.getElem_cons_zero, List.setIfInBounds_toArray, List.set_cons_zero, List.set_cons_succ]
          refine wpAnyH_take (i := 26) (v := ?_) rfl (by kernel_rfl) (by kernel_rfl) (by kernel_rfl) (fun _ _ _ h => h) (Or.inl ⟨by kernel_rfl, ?_⟩) (by first | assumption | trivial) ?_
          rotate_left
          · intro w hSw
            try dsimp only at hSw
            first | (go_simp; done) | (go_simp; with_reducible rfl)
          try simp only [Act.put, List.getElem_toArray, List.getElem_cons_succ, List.getElem_cons_zero, List.setIfInBounds_toArray, List.set_cons_zero, List.set_cons_succ]
          refine wpAnyH_take (i := 27) (v := ?_) rfl (by kernel_rfl) (by kernel_rfl) (by kernel_rfl) (fun _ _ _ h => h) (Or.inl ⟨by kernel_rfl, ?_⟩) (by first | assumption | trivial) ?_
          rotate_left
          · intro w hSw
            try dsimp only at hSw
            first | (go_simp; done) | (go_simp; with_reducible rfl)
          try simp only [Act.put, List.getElem_toArray, List.getElem_cons_succ, List.getElem_cons_zero, List.setIfInBounds_toArray, List.set_cons_zero, List.set_cons_succ]
          refine wpAnyH_take (i := 28) (v := ?_) rfl (by kernel_rfl) (by kernel_rfl) (by kernel_rfl) (fun _ _ _ h => h) (Or.inl ⟨by kernel_rfl, ?_⟩) (by first | assumption | trivial) ?_
          rotate_left
          · intro w hSw
            try dsimp only at hSw
            first | (go_simp; done) | (go_simp; with_reducible rfl)
          try simp only [Act.put, List.getElem_toArray, List.getElem_cons_succ, List.getElem_cons_zero, List.setIfInBounds_toArray, List.set_cons_zero, List.set_cons_succ]
          refine wpAnyH_take (i := 29) (v := ?_) rfl (by kernel_rfl) (by kernel_rfl) (by kernel_rfl) (fun _ _ _ h => h) (Or.inl ⟨by kernel_rfl, ?_⟩) (by first | assumption | trivial) ?_
          rotate_left
          · intro w hSw
            try dsimp only at hSw
            first | (go_simp; done) | (go_simp; with_reducible rfl)
          try simp only [Act.put, List.getElem_toArray, List.getElem_cons_succ, List.getElem_cons_zero, List.setIfInBounds_toArray, List.set_cons_zero, List.set_cons_succ]
          refine wpAnyH_take (i := 30) (v := ?_) rfl (by kernel_rfl) (by kernel_rfl) (by kernel_rfl) (fun _ _ _ h => h) (Or.inl ⟨by kernel_rfl, ?_⟩) (by first | assumption | trivial) ?_
          rotate_left
          · intro w hSw
            try dsimp only at hSw
            first | (go_simp; done) | (go_simp; with_reducible rfl)
          try simp only [Act.put, List.getElem_toArray, List.getElem_cons_succ, List.getElem_cons_zero, List.setIfInBounds_toArray, List.set_cons_zero, List.set_cons_succ]
          refine wpAnyH_take (i := 31) (v := ?_) rfl (by kernel_rfl) (by kernel_rfl) (by kernel_rfl) (fun _ _ _ h => h) (Or.inl ⟨by kernel_rfl, ?_⟩) (by first | assumption | trivial) ?_
          rotate_left
          · intro w hSw
            try dsimp only at hSw
            first | (go_simp; done) | (go_simp; with_reducible rfl)
          try simp only [Act.put, List.getElem_toArray, List.getElem_cons_succ, List.getElem_cons_zero, List.setIfInBounds_toArray, List.set_cons_zero, List.set_cons_succ]
          refine wpAnyH_take (i := 32) (v := ?_) rfl (by kernel_rfl) (by kernel_rfl) (by kernel_rfl) (fun _ _ _ h => h) (Or.inl ⟨by kernel_rfl, ?_⟩) (by first | assumption | trivial) ?_
          rotate_left
          · intro w hSw
            try dsimp only at hSw
            first | (go_simp; done) | (go_simp; with_reducible rfl)
          try simp only [Act.put, List.getElem_toArray, List.getElem_cons_succ, List.getElem_cons_zero, List.setIfInBounds_toArray, List.set_cons_zero, List.set_cons_succ]
          refine wpAnyH_take (i := 33) (v := ?_) rfl (by kernel_rfl) (by kernel_rfl) (by kernel_rfl) (fun _ _ _ h => h) (Or.inl ⟨by kernel_rfl, ?_⟩) (by first | assumption | trivial) ?_
          rotate_left
          · intro w hSw
            try dsimp only at hSw
            first | (go_simp; done) | (go_simp; with_reducible rfl)
          try simp only [Act.put, List.getElem_toArray, List.getElem_cons_succ, List.getElem_cons_zero, List.setIfInBounds_toArray, List.set_cons_zero, List.set_cons_succ]
          refine wpAnyH_take (i := 34) (v := ?_) rfl (by kernel_rfl) (by kernel_rfl) (by kernel_rfl) (fun _ _ _ h => h) (Or.inl ⟨by kernel_rfl, ?_⟩) (by first | assumption | trivial) ?_
          rotate_left
          · intro w hSw
            try dsimp only at hSw
            first | (go_simp; done) | (go_simp; with_reducible rfl)
          try simp only [Act.put, List.getElem_toArray, List.getElem_cons_succ, List.getElem_cons_zero, List.setIfInBounds_toArray, List.set_cons_zero, List.set_cons_succ]
          refine wpAnyH_take (i := 35) (v := ?_) rfl (by kernel_rfl) (by kernel_rfl) (by kernel_rfl) (fun _ _ _ h => h) (Or.inl ⟨by kernel_rfl, ?_⟩) (by first | assumption | trivial) ?_
          rotate_left
          · intro w hSw
            try dsimp only at hSw
            first | (go_simp; done) | (go_simp; with_reducible rfl)
          try simp only [Act.put, List.getElem_toArray, List.getElem_cons_succ, List.getElem_cons_zero, List.setIfInBounds_toArray, List.set_cons_zero, List.set_cons_succ]
          refine wpAnyH_take (i := 36) (v := ?_) rfl (by kernel_rfl) (by kernel_rfl) (by kernel_rfl) (fun _ _ _ h => h) (Or.inl ⟨by kernel_rfl, ?_⟩) (by first | assumption | trivial) ?_
          rotate_left
          · intro w hSw
            try dsimp only at hSw
            first | (go_simp; done) | (go_simp; with_reducible rfl)
          try simp only [Act.put, List.getElem_toArray, List.getElem_cons_succ, List.getElem_cons_zero, List.setIfInBounds_toArray, List.set_cons_zero, List.set_cons_succ]
          refine wpAnyH_take (i := 37) (v := ?_) rfl (by kernel_rfl) (by kernel_rfl) (by kernel_rfl) (fun _ _ _ h => h) (Or.inl ⟨by kernel_rfl, ?_⟩) (by first | assumption | trivial) ?_
          rotate_left
          · intro w hSw
            try dsimp only at hSw
            first | (go_simp; done) | (go_simp; with_reducible rfl)
          try simp only [Act.put, List.getElem_toArray, List.getElem_cons_succ, List.getElem_cons_zero, List.setIfInBounds_toArray, List.set_cons_zero, List.set_cons_succ]
          refine wpAnyH_take (i := 38) (v := ?_) rfl (by kernel_rfl) (by kernel_rfl) (by kernel_rfl) (fun _ _ _ h => h) (Or.inl ⟨by kernel_rfl, ?_⟩) (by first | assumption | trivial) ?_
          rotate_left
          · intro w hSw
            try dsimp only at hSw
            first | (go_simp; done) | (go_simp; with_reducible rfl)
          try simp only [Act.put, List.getElem_toArray, List.getElem_cons_succ, List.getElem_cons_zero, List.setIfInBounds_toArray, List.set_cons_zero, List.set_cons_succ]
          refine wpAnyH_take (i := 39) (v := ?_) rfl (by kernel_rfl) (by kernel_rfl) (by kernel_rfl) (fun _ _ _ h => h) (Or.inl ⟨by kernel_rfl, ?_⟩) (by first | assumption | trivial) ?_
          rotate_left
          · intro w hSw
            try dsimp only at hSw
            first | (go_simp; done) | (go_simp; with_reducible rfl)
          try simp only [Act.put, List.getElem_toArray, List.getElem_cons_succ, List.getElem_cons_zero, List.setIfInBounds_toArray, List.set_cons_zero, List.set_cons_succ]
          refine wpAnyH_ready (rs := [40]) (by kernel_rfl) (by simp) ?_
          refine AllReadyH.cons rfl (fun K hK => ?_) AllReadyH.nil
          go_simp
          go_at_call 17
          refine (HO.out _).mono ?_
          rintro y w6 ⟨rfl, hb6⟩
          replace HXx := Lib.hid (HXx.out.below hb6 HXx.out.lt)
          replace HXy := Lib.hid (HXy.out.below hb6 HXy.out.lt)
          have HB55 := Lib.hid (HB54.out.trans (hb6.mono HB54.out.size))
          clear hb6
          try go_wp2_with fail
          refine hK.out _ _ ⟨HXy.out.cell 0, HXy.out.cell 1, HXy.out.cell 2, HXy.out.cell 3, HXy.out.cell 4, HXy.out.cell 5, HXy.out.cell 6, HXy.out.cell 7, HXx.out.cell 0, HXx.out.cell 1, HXx.out.cell 2, HXx.out.cell 3, HXx.out.cell 4, HXx.out.cell 5, HXx.out.cell 6, HXx.out.cell 7⟩ (fun hS => ?_)
          clear hK K
          try simp only [Act.put, List.getElem_toArray, List.getElem_cons_succ, List.getElem_cons_zero, List.setIfInBounds_toArray, List.set_cons_zero, List.set_cons_succ]
          refine wpAnyH_take (i := 41) (v := ?_) rfl (by kernel_rfl) (by kernel_rfl) (by kernel_rfl) (fun _ _ _ h => h) (Or.inl ⟨by kernel_rfl, ?_⟩) (by first | assumption | trivial) ?_
          rotate_left
          · intro w hSw
            try dsimp only at hSw
            first | (go_simp; done) | (go_simp; with_reducible rfl)
          try simp only [Act.put, List.getElem_toArray, List.getElem_cons_succ, List.getElem_cons_zero, List.setIfInBounds_toArray, List.set_cons_zero, List.set_cons_succ]
          refine wpAnyH_take (i := 42) (v := ?_) rfl (by kernel_rfl) (by kernel_rfl) (by kernel_rfl) (fun _ _ _ h => h) (Or.inl ⟨by kernel_rfl, ?_⟩) (by first | assumption | trivial) ?_
          rotate_left
          · intro w hSw
            try dsimp only at hSw
            first | (go_simp; done) | (go_simp; with_reducible rfl)
          try simp only [Act.put, List.getElem_toArray, List.getElem_cons_succ, List.getElem_cons_zero, List.setIfInBounds_toArray, List.set_cons_zero, List.set_cons_succ]
          refine wpAnyH_take (i := 43) (v := ?_) rfl (by kernel_rfl) (by kernel_rfl) (by kernel_rfl) (fun _ _ _ h => h) (Or.inl ⟨by kernel_rfl, ?_⟩) (by first | assumption | trivial) ?_
          rotate_left
          · intro w hSw
            try dsimp only at hSw
            first | (go_simp; done) | (go_simp; with_reducible rfl)
          try simp only [Act.put, List.getElem_toArray, List.getElem_cons_succ, List.getElem_cons_zero, List.setIfInBounds_toArray, List.set_cons_zero, List.set_cons_succ]
          refine wpAnyH_take (i := 44) (v := ?_) rfl (by kernel_rfl) (by kernel_rfl) (by kernel_rfl) (fun _ _ _ h => h) (Or.inl ⟨by kernel_rfl, ?_⟩) (by first | assumption | trivial) ?_
          rotate_left
          · intro w hSw
            try dsimp only at hSw
            first | (go_simp; done) | (go_simp; with_reducible rfl)
          try simp only [Act.put, List.getElem_toArray, List.getElem_cons_succ, List.getElem_cons_zero, List.setIfInBounds_toArray, List.set_cons_zero, List.set_cons_succ]
          refine wpAnyH_take (i := 45) (v := ?_) rfl (by kernel_rfl) (by kernel_rfl) (by kernel_rfl) (fun _ _ _ h => h) (Or.inl ⟨by kernel_rfl, ?_⟩) (by first | assumption | trivial) ?_
          rotate_left
          · intro w hSw
            try dsimp only at hSw
            first | (go_simp; done) | (go_simp; with_reducible rfl)
          try simp only [Act.put, List.getElem_toArray, List.getElem_cons_succ, List.getElem_cons_zero, List.setIfInBounds_toArray, List.set_cons_zero, List.set_cons_succ]
          refine wpAnyH_take (i := 46) (v := ?_) rfl (by kernel_rfl) (by kernel_rfl) (by kernel_rfl) (fun _ _ _ h => h) (Or.inl ⟨by kernel_rfl, ?_⟩) (by first | assumption | trivial) ?_
          rotate_left
          · intro w hSw
            try dsimp only at hSw
            first | (go_simp; done) | (go_simp; with_reducible rfl)
          try simp only [Act.put, List.getElem_toArray, List.getElem_cons_succ, List.getElem_cons_zero, List.setIfInBounds_toArray, List.set_cons_zero, List.set_cons_succ]
          refine wpAnyH_take (i := 47) (v := ?_) rfl (by kernel_rfl) (by kernel_rfl) (by kernel_rfl) (fun _ _ _ h => h) (Or.inl ⟨by kernel_rfl, ?_⟩) (by first | assumption | trivial) ?_
          rotate_left
          · intro w hSw
            try dsimp only at hSw
            first | (go_simp; done) | (go_simp; with_reducible rfl)
          try simp only [Act.put, List.getElem_toArray, List.getElem_cons_succ, List.getElem_cons_zero, List.setIfInBounds_toArray, List.set_cons_zero, List.set_cons_succ]
          refine wpAnyH_take (i := 48) (v := ?_) rfl (by kernel_rfl) (by kernel_rfl) (by kernel_rfl) (fun _ _ _ h => h) (Or.inl ⟨by kernel_rfl, ?_⟩) (by first | assumption | trivial) ?_
          rotate_left
          · intro w hSw
            try dsimp only at hSw
            first | (go_simp; done) | (go_simp; with_reducible rfl)
          try simp only [Act.put, List.getElem_toArray, List.getElem_cons_succ, List.getElem_cons_zero, List.setIfInBounds_toArray, List.set_cons_zero, List.set_cons_succ]
          refine wpAnyH_take (i := 49) (v := ?_) rfl (by kernel_rfl) (by kernel_rfl) (by kernel_rfl) (fun _ _ _ h => h) (Or.inl ⟨by kernel_rfl, ?_⟩) (by first | assumption | trivial) ?_
          rotate_left
          · intro w hSw
            try dsimp only at hSw
            first | (go_simp; done) | (go_simp; with_reducible rfl)
          try simp only [Act.put, List.getElem_toArray, List.getElem_cons_succ, List.getElem_cons_zero, List.setIfInBounds_toArray, List.set_cons_zero, List.set_cons_succ]
          refine wpAnyH_take (i := 50) (v := ?_) rfl (by kernel_rfl) (by kernel_rfl) (by kernel_rfl) (fun _ _ _ h => h) (Or.inl ⟨by kernel_rfl, ?_⟩) (by first | assumption | trivial) ?_
          rotate_left
          · intro w hSw
            try dsimp only at hSw
            first | (go_simp; done) | (go_simp; with_reducible rfl)
          try simp only [Act.put, List.getElem_toArray, List.getElem_cons_succ, List.getElem_cons_zero, List.setIfInBounds_toArray, List.set_cons_zero, List.set_cons_succ]
          refine wpAnyH_take (i := 51) (v := undef) rfl (by kernel_rfl) (by kernel_rfl) (by kernel_rfl) (fun _ _ _ h => h) (Or.inr ⟨by kernel_rfl, rfl⟩) (by first | assumption | trivial) ?_
          try simp only [Act.put, List.getElem_toArray, List.getElem_cons_succ, List.getElem_cons_zero, List.setIfInBounds_toArray, List.set_cons_zero, List.set_cons_succ]
          refine wpAnyH_take (i := 52) (v := undef) rfl (by kernel_rfl) (by kernel_rfl) (by kernel_rfl) (fun _ _ _ h => h) (Or.inr ⟨by kernel_rfl, rfl⟩) (by first | assumption | trivial) ?_
          try simp only [Act.put, List.getElem_toArray, List.getElem_cons_succ, List.getElem_cons_zero, List.setIfInBounds_toArray, List.set_cons_zero, List.set_cons_succ]
          refine wpAnyH_take (i := 53) (v := undef) rfl (by kernel_rfl) (by kernel_rfl) (by kernel_rfl) (fun _ _ _ h => h) (Or.inr ⟨by kernel_rfl, rfl⟩) (by first | assumption | trivial) ?_
          try simp only [Act.put, List.getElem_toArray, List.getElem_cons_succ, List.getElem_cons_zero, List.setIfInBounds_toArray, List.set_cons_zero, List.set_cons_succ]
          refine wpAnyH_take (i := 54) (v := ?_) rfl (by kernel_rfl) (by kernel_rfl) (by kernel_rfl) (fun _ _ _ h => h) (Or.inl ⟨by kernel_rfl, ?_⟩) (by first | assumption | trivial) ?_
          rotate_left
          · intro w hSw
            try dsimp only at hSw
            first | (go_simp; done) | (go_simp; with_reducible rfl)
          try simp only [Act.put, List.getElem_toArray, List.getElem_cons_succ, List.getElem_cons_zero, List.setIfInBounds_toArray, List.set_cons_zero, List.set_cons_succ]
          refine wpAnyH_take (i := 55) (v := ?_) rfl (by kernel_rfl) (by kernel_rfl) (by kernel_rfl) (fun _ _ _ h => h) (Or.inl ⟨by kernel_rfl, ?_⟩) (by first | assumption | trivial) ?_
          rotate_left
          · intro w hSw
            try dsimp only at hSw
            first | (go_simp; done) | (go_simp; with_reducible rfl)
          try simp only [Act.put, List.getElem_toArray, List.getElem_cons_succ, List.getElem_cons_zero, List.setIfInBounds_toArray, List.set_cons_zero, List.set_cons_succ]
          refine wpAnyH_done (by kernel_rfl) ?_ _
          have cy0 : w6.cell? ⟨w3.heap.size, 0, none⟩ = some (.int .i64 X.s) := HXy.out.cell 0
          have cy1 : w6.cell? ⟨w3.heap.size, 1, none⟩ = some (.int .i64 X.n) := HXy.out.cell 1
          have cy2 : w6.cell? ⟨w3.heap.size, 2, none⟩ = some (.int .i64 X.b) := HXy.out.cell 2
          have cy3 : w6.cell? ⟨w3.heap.size, 3, none⟩ = some (.int .i64 X.c) := HXy.out.cell 3
          have cy4 : w6.cell? ⟨w3.heap.size, 4, none⟩ = some (.int .i64 X.a) := HXy.out.cell 4
          have cy5 : w6.cell? ⟨w3.heap.size, 5, none⟩ = some (.int .i64 X.r) := HXy.out.cell 5
          have cy6 : w6.cell? ⟨w3.heap.size, 6, none⟩ = some (.int .i64 X.t) := HXy.out.cell 6
          have cy7 : w6.cell? ⟨w3.heap.size, 7, none⟩ = some (.int .i64 X.y) := HXy.out.cell 7
          have ly := HXy.out.lt
          have cx0 : w6.cell? ⟨w.heap.size, 0, none⟩ = some (.int .i64 X.s) := HXx.out.cell 0
          have cx1 : w6.cell? ⟨w.heap.size, 1, none⟩ = some (.int .i64 X.n) := HXx.out.cell 1
          have cx2 : w6.cell? ⟨w.heap.size, 2, none⟩ = some (.int .i64 X.b) := HXx.out.cell 2
          have cx3 : w6.cell? ⟨w.heap.size, 3, none⟩ = some (.int .i64 X.c) := HXx.out.cell 3
          have cx4 : w6.cell? ⟨w.heap.size, 4, none⟩ = some (.int .i64 X.a) := HXx.out.cell 4
          have cx5 : w6.cell? ⟨w.heap.size, 5, none⟩ = some (.int .i64 X.r) := HXx.out.cell 5
          have cx6 : w6.cell? ⟨w.heap.size, 6, none⟩ = some (.int .i64 X.t) := HXx.out.cell 6
          have cx7 : w6.cell? ⟨w.heap.size, 7, none⟩ = some (.int .i64 X.y) := HXx.out.cell 7
          have frx0 := HXx.out.free 0
          have frx1 := HXx.out.free 1
          have frx2 := HXx.out.free 2
          have frx3 := HXx.out.free 3
          have frx4 := HXx.out.free 4
          have frx5 := HXx.out.free 5
          have frx6 := HXx.out.free 6
          have frx7 := HXx.out.free 7
          have lx := HXx.out.lt
          clear HO HKy HKx HA
          go_wp2_with fail
          have HNX : Hid (FRel w X (set8 w6 w.heap.size X)) := ⟨blk_set8 (z := X) HXx.out X, below_set8 HB55.out (Nat.le_refl _) X, HY.out⟩
          go_roundw
          case rel => exact ⟨k + 1, X, by omega, by go_num, HNX⟩
          case measure => simp [intOf]; omega
        · skip
          have hsame := g7 hov
          have s1 : am = X.a := congrArg Itm.a hsame
          have s2 : r = X.r := congrArg Itm.r hsame
          have s3 : t = X.t := congrArg Itm.t hsame
          have s4 : z = X.y := congrArg Itm.y hsame
          clear hsame
          subst s1 s2 s3 s4
          have ge1 : decide (3 ≤ X.t) = true := decide_eq_true hge
          have ge2 : decide (X.t ≥ 3) = true := ge1
          have en : (e != 0) = true := by simpa using he
          rw [hov] at HO
          clear g6 g7 g8 he hov hge
          have hS0 : ((w3).alloc (.cells #[.int .i64 X.s, .int .i64 X.n, .int .i64 X.b, .int .i64 X.c, .int .i64 X.a, .int .i64 X.r, .int .i64 X.t, .int .i64 X.y] 25)).drew.cell? ⟨w3.heap.size, 0, none⟩ = some (.int .i64 X.s) ∧ ((w3).alloc (.cells #[.int .i64 X.s, .int .i64 X.n, .int .i64 X.b, .int .i64 X.c, .int .i64 X.a, .int .i64 X.r, .int .i64 X.t, .int .i64 X.y] 25)).drew.cell? ⟨w3.heap.size, 1, none⟩ = some (.int .i64 X.n) ∧ ((w3).alloc (.cells #[.int .i64 X.s, .int .i64 X.n, .int .i64 X.b, .int .i64 X.c, .int .i64 X.a, .int .i64 X.r, .int .i64 X.t, .int .i64 X.y] 25)).drew.cell? ⟨w3.heap.size, 2, none⟩ = some (.int .i64 X.b) ∧ ((w3).alloc (.cells #[.int .i64 X.s, .int .i64 X.n, .int .i64 X.b, .int .i64 X.c, .int .i64 X.a, .int .i64 X.r, .int .i64 X.t, .int .i64 X.y] 25)).drew.cell? ⟨w3.heap.size, 3, none⟩ = some (.int .i64 X.c) ∧ ((w3).alloc (.cells #[.int .i64 X.s, .int .i64 X.n, .int .i64 X.b, .int .i64 X.c, .int .i64 X.a, .int .i64 X.r, .int .i64 X.t, .int .i64 X.y] 25)).drew.cell? ⟨w3.heap.size, 4, none⟩ = some (.int .i64 X.a) ∧ ((w3).alloc (.cells #[.int .i64 X.s, .int .i64 X.n, .int .i64 X.b, .int .i64 X.c, .int .i64 X.a, .int .i64 X.r, .int .i64 X.t, .int .i64 X.y] 25)).drew.cell? ⟨w3.heap.size, 5, none⟩ = some (.int .i64 X.r) ∧ ((w3).alloc (.cells #[.int .i64 X.s, .int .i64 X.n, .int .i64 X.b, .int .i64 X.c, .int .i64 X.a, .int .i64 X.r, .int .i64 X.t, .int .i64 X.y] 25)).drew.cell? ⟨w3.heap.size, 6, none⟩ = some (.int .i64 X.t) ∧ ((w3).alloc (.cells #[.int .i64 X.s, .int .i64 X.n, .int .i64 X.b, .int .i64 X.c, .int .i64 X.a, .int .i64 X.r, .int .i64 X.t, .int .i64 X.y] 25)).drew.cell? ⟨w3.heap.size, 7, none⟩ = some (.int .i64 X.y) ∧ ((w3).alloc (.cells #[.int .i64 X.s, .int .i64 X.n, .int .i64 X.b, .int .i64 X.c, .int .i64 X.a, .int .i64 X.r, .int .i64 X.t, .int .i64 X.y] 25)).drew.cell? ⟨w.heap.size, 0, none⟩ = some (.int .i64 X.s) ∧ ((w3).alloc (.cells #[.int .i64 X.s, .int .i64 X.n, .int .i64 X.b, .int .i64 X.c, .int .i64 X.a, .int .i64 X.r, .int .i64 X.t, .int .i64 X.y] 25)).drew.cell? ⟨w.heap.size, 1, none⟩ = some (.int .i64 X.n) ∧ ((w3).alloc (.cells #[.int .i64 X.s, .int .i64 X.n, .int .i64 X.b, .int .i64 X.c, .int .i64 X.a, .int .i64 X.r, .int .i64 X.t, .int .i64 X.y] 25)).drew.cell? ⟨w.heap.size, 2, none⟩ = some (.int .i64 X.b) ∧ ((w3).alloc (.cells #[.int .i64 X.s, .int .i64 X.n, .int .i64 X.b, .int .i64 X.c, .int .i64 X.a, .int .i64 X.r, .int .i64 X.t, .int .i64 X.y] 25)).drew.cell? ⟨w.heap.size, 3, none⟩ = some (.int .i64 X.c) ∧ ((w3).alloc (.cells #[.int .i64 X.s, .int .i64 X.n, .int .i64 X.b, .int .i64 X.c, .int .i64 X.a, .int .i64 X.r, .int .i64 X.t, .int .i64 X.y] 25)).drew.cell? ⟨w.heap.size, 4, none⟩ = some (.int .i64 X.a) ∧ ((w3).alloc (.cells #[.int .i64 X.s, .int .i64 X.n, .int .i64 X.b, .int .i64 X.c, .int .i64 X.a, .int .i64 X.r, .int .i64 X.t, .int .i64 X.y] 25)).drew.cell? ⟨w.heap.size, 5, none⟩ = some (.int .i64 X.r) ∧ ((w3).alloc (.cells #[.int .i64 X.s, .int .i64 X.n, .int .i64 X.b, .int .i64 X.c, .int .i64 X.a, .int .i64 X.r, .int .i64 X.t, .int .i64 X.y] 25)).drew.cell? ⟨w.heap.size, 6, none⟩ = some (.int .i64 X.t) ∧ ((w3).alloc (.cells #[.int .i64 X.s, .int .i64 X.n, .int .i64 X.b, .int .i64 X.c, .int .i64 X.a, .int .i64 X.r, .int .i64 X.t, .int .i64 X.y] 25)).drew.cell? ⟨w.heap.size, 7, none⟩ = some (.int .i64 X.y) := ⟨HXy.out.cell 0, HXy.out.cell 1, HXy.out.cell 2, HXy.out.cell 3, HXy.out.cell 4, HXy.out.cell 5, HXy.out.cell 6, HXy.out.cell 7, HXx.out.cell 0, HXx.out.cell 1, HXx.out.cell 2, HXx.out.cell 3, HXx.out.cell 4, HXx.out.cell 5, HXx.out.cell 6, HXx.out.cell 7⟩
          have HS0 := Lib.hid hS0
          replace HB52 := Lib.hid HB52.out.drew
          replace HXx := Lib.hid HXx.out.drew
          replace HXy := Lib.hid HXy.out.drew
          clear hS0
          refine wp_region_held_drew (S := fun w' => w'.cell? ⟨w3.heap.size, 0, none⟩ = some (.int .i64 X.s) ∧ w'.cell? ⟨w3.heap.size, 1, none⟩ = some (.int .i64 X.n) ∧ w'.cell? ⟨w3.heap.size, 2, none⟩ = some (.int .i64 X.b) ∧ w'.cell? ⟨w3.heap.size, 3, none⟩ = some (.int .i64 X.c) ∧ w'.cell? ⟨w3.heap.size, 4, none⟩ = some (.int .i64 X.a) ∧ w'.cell? ⟨w3.heap.size, 5, none⟩ = some (.int .i64 X.r) ∧ w'.cell? ⟨w3.heap.size, 6, none⟩ = some (.int .i64 X.t) ∧ w'.cell? ⟨w3.heap.size, 7, none⟩ = some (.int .i64 X.y) ∧ w'.cell? ⟨w.heap.size, 0, none⟩ = some (.int .i64 X.s) ∧ w'.cell? ⟨w.heap.size, 1, none⟩ = some (.int .i64 X.n) ∧ w'.cell? ⟨w.heap.size, 2, none⟩ = some (.int .i64 X.b) ∧ w'.cell? ⟨w.heap.size, 3, none⟩ = some (.int .i64 X.c) ∧ w'.cell? ⟨w.heap.size, 4, none⟩ = some (.int .i64 X.a) ∧ w'.cell? ⟨w.heap.size, 5, none⟩ = some (.int .i64 X.r) ∧ w'.cell? ⟨w.heap.size, 6, none⟩ = some (.int .i64 X.t) ∧ w'.cell? ⟨w.heap.size, 7, none⟩ = some (.int .i64 X.y)) (by kernel_rfl) HS0.out (fun hS0 => ?_)
          refine wpAnyH_take (i := 0) (v := ?_) rfl (by kernel_rfl) (by kernel_rfl) (by kernel_rfl) (fun _ _ _ h => h) (Or.inl ⟨by kernel_rfl, ?_⟩) (by first | assumption | trivial) ?_
          rotate_left
          · intro w hSw
            try dsimp only at hSw
            first | (go_simp; done) | (go_simp; with_reducible rfl)
          try simp only [Act.put, List.getElem_toArray, List.getElem_cons_succ, List.getElem_cons_zero, List.setIfInBounds_toArray, List.set_cons_zero, List.set_cons_succ]
          refine wpAnyH_take (i := 2) (v := ?_) rfl (by kernel_rfl) (by kernel_rfl) (by kernel_rfl) (fun _ _ _ h => h) (Or.inl ⟨by kernel_rfl, ?_⟩) (by first | assumption | trivial) ?_
          rotate_left
          · intro w hSw
            try dsimp only at hSw
            first | (go_simp; done) | (go_simp; with_reducible rfl)
          try simp only [Act.put, List.getElem_toArray, List.getElem_cons_succ, List.getElem_cons_zero, List.setIfInBounds_toArray, List.set_cons_zero, List.set_cons_succ]
          refine wpAnyH_ready (rs := [1]) (by kernel_rfl) (by simp) ?_
          refine AllReadyH.cons rfl (fun K hK => ?_) AllReadyH.nil
          go_simp
          go_at_call 14
          refine (HKy.out _).mono ?_
          rintro y w4 ⟨rfl, hb4⟩
          replace HXx := Lib.hid (HXx.out.below hb4 HXx.out.lt)
          replace HXy := Lib.hid (HXy.out.below hb4 HXy.out.lt)
          have HB53 := Lib.hid (HB52.out.trans (hb4.mono HB52.out.size))
          clear hb4
          try go_wp2_with fail
          refine hK.out _ _ ⟨HXy.out.cell 0, HXy.out.cell 1, HXy.out.cell 2, HXy.out.cell 3, HXy.out.cell 4, HXy.out.cell 5, HXy.out.cell 6, HXy.out.cell 7, HXx.out.cell 0, HXx.out.cell 1, HXx.out.cell 2, HXx.out.cell 3, HXx.out.cell 4, HXx.out.cell 5, HXx.out.cell 6, HXx.out.cell 7⟩ (fun hS => ?_)
          clear hK K
          try simp only [Act.put, List.getElem_toArray, List.getElem_cons_succ, List.getElem_cons_zero, List.setIfInBounds_toArray, List.set_cons_zero, List.set_cons_succ]
          refine wpAnyH_ready (rs := [3]) (by kernel_rfl) (by simp) ?_
          refine AllReadyH.cons rfl (fun K hK => ?_) AllReadyH.nil
          go_simp
          go_at_call 14
          refine (HKx.out _).mono ?_
          rintro y w5 ⟨rfl, hb5⟩
          replace HXx := Lib.hid (HXx.out.below hb5 HXx.out.lt)
          replace HXy := Lib.hid (HXy.out.below hb5 HXy.out.lt)
          have HB54 := Lib.hid (HB53.out.trans (hb5.mono HB53.out.size))
          clear hb5
          try go_wp2_with fail
          refine hK.out _ _ ⟨HXy.out.cell 0, HXy.out.cell 1, HXy.out.cell 2, HXy.out.cell 3, HXy.out.cell 4, HXy.out.cell 5, HXy.out.cell 6, HXy.out.cell 7, HXx.out.cell 0, HXx.out.cell 1, HXx.out.cell 2, HXx.out.cell 3, HXx.out.cell 4, HXx.out.cell 5, HXx.out.cell 6, HXx.out.cell 7⟩ (fun hS => ?_)
          clear hK K
          try simp only [Act.put, List.getElem_toArray, List.getElem_cons_succ, List.getElem_cons_zero, List.setIfInBounds_toArray, List.set_cons_zero, List.set_cons_succ]
          refine wpAnyH_take (i := 4) (v := ?_) rfl (by kernel_rfl) (by kernel_rfl) (by kernel_rfl) (fun _ _ _ h => h) (Or.inl ⟨by kernel_rfl, ?_⟩) (by first | assumption | trivial) ?_
          rotate_left
          · intro w hSw
            try dsimp only at hSw
            first | (go_simp; done) | (go_simp; with_reducible rfl)
          try simp only [Act.put, List.getElem_toArray, List.getElem_cons_succ, List.getElem_cons_zero, List.setIfInBounds_toArray, List.set_cons_zero, List.set_cons_succ]
          refine wpAnyH_take (i := 5) (v := ?_) rfl (by kernel_rfl) (by kernel_rfl) (by kernel_rfl) (fun _ _ _ h => h) (Or.inl ⟨by kernel_rfl, ?_⟩) (by first | assumption | trivial) ?_
          rotate_left
          · intro w hSw
            try dsimp only at hSw
            first | (go_simp; done) | (go_simp; with_reducible rfl)
          try simp only [Act.put, List.getElem_toArray, List.getElem_cons_succ, List.getElem_cons_zero, List.setIfInBounds_toArray, List.set_cons_zero, List.set_cons_succ]
          refine wpAnyH_take (i := 6) (v := ?_) rfl (by kernel_rfl) (by kernel_rfl) (by kernel_rfl) (fun _ _ _ h => h) (Or.inl ⟨by kernel_rfl, ?_⟩) (by first | assumption | trivial) ?_
          rotate_left
          · intro w hSw
            try dsimp only at hSw
            first | (go_simp; done) | (go_simp; with_reducible rfl)
          try simp only [Act.put, List.getElem_toArray, List.getElem_cons_succ, List.getElem_cons_zero, List.setIfInBounds_toArray, List.set_cons_zero, List.set_cons_succ]
          refine wpAnyH_take (i := 7) (v := ?_) rfl (by kernel_rfl) (by kernel_rfl) (by kernel_rfl) (fun _ _ _ h => h) (Or.inl ⟨by kernel_rfl, ?_⟩) (by first | assumption | trivial) ?_
          rotate_left
          · intro w hSw
            try dsimp only at hSw
            first | (go_simp; done) | (go_simp; with_reducible rfl)
          try simp only [Act.put, List.getElem_toArray, List.getElem_cons_succ, List.getElem_cons_zero, List.setIfInBounds_toArray, List.set_cons_zero, List.set_cons_succ]
          refine wpAnyH_take (i := 8) (v := ?_) rfl (by kernel_rfl) (by kernel_rfl) (by kernel_rfl) (fun _ _ _ h => h) (Or.inl ⟨by kernel_rfl, ?_⟩) (by first | assumption | trivial) ?_
          rotate_left
          · intro w hSw
            try dsimp only at hSw
            first | (go_simp; done) | (go_simp; with_reducible rfl)
          try simp only [Act.put, List.getElem_toArray, List.getElem_cons_succ, List.getElem_cons_zero, List.setIfInBounds_toArray, List.set_cons_zero, List.set_cons_succ]
          refine wpAnyH_take (i := 9) (v := ?_) rfl (by kernel_rfl) (by kernel_rfl) (by kernel_rfl) (fun _ _ _ h => h) (Or.inl ⟨by kernel_rfl, ?_⟩) (by first | assumption | trivial) ?_
          rotate_left
          · intro w hSw
            try dsimp only at hSw
            first | (go_simp; done) | (go_simp; with_reducible rfl)
          try simp only [Act.put, List.getElem_toArray, List.getElem_cons_succ, List.getElem_cons_zero, List.setIfInBounds_toArray, List.set_cons_zero, List.set_cons_succ]
          refine wpAnyH_take (i := 10) (v := ?_) rfl (by kernel_rfl) (by kernel_rfl) (by kernel_rfl) (fun _ _ _ h => h) (Or.inl ⟨by kernel_rfl, ?_⟩) (by first | assumption | trivial) ?_
          rotate_left
          · intro w hSw
            try dsimp only at hSw
            first | (go_simp; done) | (go_simp; with_reducible rfl)
          try simp only [Act.put, List.getElem_toArray, List.getElem_cons_succ, List.getElem_cons_zero, List.setIfInBounds_toArray, List.set_cons_zero, List.set_cons_succ]
          refine wpAnyH_take (i := 11) (v := ?_) rfl (by kernel_rfl) (by kernel_rfl) (by kernel_rfl) (fun _ _ _ h => h) (Or.inl ⟨by kernel_rfl, ?_⟩) (by first | assumption | trivial) ?_
          rotate_left
          · intro w hSw
            try dsimp only at hSw
            first | (go_simp; done) | (go_simp; with_reducible rfl)
          try simp only [Act.put, List.getElem_toArray, List.getElem_cons_succ, List.getElem_cons_zero, List.setIfInBounds_toArray, List.set_cons_zero, List.set_cons_succ]
          refine wpAnyH_take (i := 12) (v := ?_) rfl (by kernel_rfl) (by kernel_rfl) (by kernel_rfl) (fun _ _ _ h => h) (Or.inl ⟨by kernel_rfl, ?_⟩) (by first | assumption | trivial) ?_
          rotate_left
          · intro w hSw
            try dsimp only at hSw
            first | (go_simp; done) | (go_simp; with_reducible rfl)
          try simp only [Act.put, List.getElem_toArray, List.getElem_cons_succ, List.getElem_cons_zero, List.setIfInBounds_toArray, List.set_cons_zero, List.set_cons_succ]
          refine wpAnyH_take (i := 13) (v := ?_) rfl (by kernel_rfl) (by kernel_rfl) (by kernel_rfl) (fun _ _ _ h => h) (Or.inl ⟨by kernel_rfl, ?_⟩) (by first | assumption | trivial) ?_
          rotate_left
          · intro w hSw
            try dsimp only at hSw
            first | (go_simp; done) | (go_simp; with_reducible rfl)
          try simp only [Act.put, List.getElem_toArray, List.getElem_cons_succ, List.getElem_cons_zero, List.setIfInBounds_toArray, List.set_cons_zero, List.set_cons_succ]
          refine wpAnyH_take (i := 14) (v := ?_) rfl (by kernel_rfl) (by kernel_rfl) (by kernel_rfl) (fun _ _ _ h => h) (Or.inl ⟨by kernel_rfl, ?_⟩) (by first | assumption | trivial) ?_
          rotate_left
          · intro w hSw
            try dsimp only at hSw
            first | (go_simp; done) | (go_simp; with_reducible rfl)
          try simp only [Act.put, List.getElem_toArray, List.getElem_cons_succ, List.getElem_cons_zero, List.setIfInBounds_toArray, List.set_cons_zero, List.set_cons_succ]
          refine wpAnyH_take (i := 15) (v := ?_) rfl (by kernel_rfl) (by kernel_rfl) (by kernel_rfl) (fun _ _ _ h => h) (Or.inl ⟨by kernel_rfl, ?_⟩) (by first | assumption | trivial) ?_
          rotate_left
          · intro w hSw
            try dsimp only at hSw
            first | (go_simp; done) | (go_simp; with_reducible rfl)
          try simp only [Act.put, List.getElem_toArray, List.getElem_cons_succ, List.getElem_cons_zero, List.setIfInBounds_toArray, List.set_cons_zero, List.set_cons_succ]
          refine wpAnyH_take (i := 16) (v := ?_) rfl (by kernel_rfl) (by kernel_rfl) (by kernel_rfl) (fun _ _ _ h => h) (Or.inl ⟨by kernel_rfl, ?_⟩) (by first | assumption | trivial) ?_
          rotate_left
          · intro w hSw
            try dsimp only at hSw
            first | (go_simp; done) | (go_simp; with_reducible rfl)
          try simp only [Act.put, List.getElem_toArray, List.getElem_cons_succ, List.getElem_cons_zero, List.setIfInBounds_toArray, List.set_cons_zero, List.set_cons_succ]
          refine wpAnyH_take (i := 17) (v := ?_) rfl (by kernel_rfl) (by kernel_rfl) (by kernel_rfl) (fun _ _ _ h => h) (Or.inl ⟨by kernel_rfl, ?_⟩) (by first | assumption | trivial) ?_
          rotate_left
          · intro w hSw
            try dsimp only at hSw
            first | (go_simp; done) | (go_simp; with_reducible rfl)
          try simp only [Act.put, List.getElem_toArray, List.getElem_cons_succ, List.getElem_cons_zero, List.setIfInBounds_toArray, List.set_cons_zero, List.set_cons_succ]
          refine wpAnyH_take (i := 18) (v := ?_) rfl (by kernel_rfl) (by kernel_rfl) (by kernel_rfl) (fun _ _ _ h => h) (Or.inl ⟨by kernel_rfl, ?_⟩) (by first | assumption | trivial) ?_
          rotate_left
          · intro w hSw
            try dsimp only at hSw
            first | (go_simp; done) | (go_simp; with_reducible rfl)
          try simp only [Act.put, List.getElem_toArray, List.getElem_cons_succ, List.getElem_cons_zero, List.setIfInBounds_toArray, List.set_cons_zero, List.set_cons_succ]
          refine wpAnyH_take (i := 19) (v := ?_) rfl (by kernel_rfl) (by kernel_rfl) (by kernel_rfl) (fun _ _ _ h => h) (Or.inl ⟨by kernel_rfl, ?_⟩) (by first | assumption | trivial) ?_
          rotate_left
          · intro w hSw
            try dsimp only at hSw
            first | (go_simp; done) | (go_simp; with_reducible rfl)
          try simp only [Act.put, List.getElem_toArray, List.getElem_cons_succ, List.getElem_cons_zero, List.setIfInBounds_toArray, List.set_cons_zero, List.set_cons_succ]
          refine wpAnyH_take (i := 20) (v := ?_) rfl (by kernel_rfl) (by kernel_rfl) (by kernel_rfl) (fun _ _ _ h => h) (Or.inl ⟨by kernel_rfl, ?_⟩) (by first | assumption | trivial) ?_
          rotate_left
          · intro w hSw
            try dsimp only at hSw
            first | (go_simp; done) | (go_simp; with_reducible rfl)
          try simp only [Act.put, List.getElem_toArray, List.getElem_cons_succ, List.getElem_cons_zero, List.setIfInBounds_toArray, List.set_cons_zero, List.set_cons_succ]
          refine wpAnyH_take (i := 21) (v := ?_) rfl (by kernel_rfl) (by kernel_rfl) (by kernel_rfl) (fun _ _ _ h => h) (Or.inl ⟨by kernel_rfl, ?_⟩) (by first | assumption | trivial) ?_
          rotate_left
          · intro w hSw
            try dsimp only at hSw
            first | (go_simp; done) | (go_simp; with_reducible rfl)
          try simp only [Act.put, List.getElem_toArray, List.getElem_cons_succ, List.getElem_cons_zero, List.setIfInBounds_toArray, List.set_cons_zero, List.set_cons_succ]
          refine wpAnyH_take (i := 22) (v := ?_) rfl (by kernel_rfl) (by kernel_rfl) (by kernel_rfl) (fun _ _ _ h => h) (Or.inl ⟨by kernel_rfl, ?_⟩) (by first | assumption | trivial) ?_
          rotate_left
          · intro w hSw
            try dsimp only at hSw
            first | (go_simp; done) | (go_simp; with_reducible rfl)
          try simp only [Act.put, List.getElem_toArray, List.getElem_cons_succ, List.getElem_cons_zero, List.setIfInBounds_toArray, List.set_cons_zero, List.set_cons_succ]
          refine wpAnyH_take (i := 23) (v := ?_) rfl (by kernel_rfl) (by kernel_rfl) (by kernel_rfl) (fun _ _ _ h => h) (Or.inl ⟨by kernel_rfl, ?_⟩) (by first | assumption | trivial) ?_
          rotate_left
          · intro w hSw
            try dsimp only at hSw
            first | (go_simp; done) | (go_simp; with_reducible rfl)
          try simp only [Act.put, List.getElem_toArray, List.getElem_cons_succ, List.getElem_cons_zero, List.setIfInBounds_toArray, List.set_cons_zero, List.set_cons_succ]
          refine wpAnyH_take (i := 24) (v := ?_) rfl (by kernel_rfl) (by kernel_rfl) (by kernel_rfl) (fun _ _ _ h => h) (Or.inl ⟨by kernel_rfl, ?_⟩) (by first | assumption | trivial) ?_
          rotate_left
          · intro w hSw
            try dsimp only at hSw
            first | (go_simp; done) | (go_simp; with_reducible rfl)
          try simp only [Act.put, List.getElem_toArray, List.getElem_cons_succ, List.getElem_cons_zero, List.setIfInBounds_toArray, List.set_cons_zero, List.set_cons_succ]
          refine wpAnyH_take (i := 25) (v := ?_) rfl (by kernel_rfl) (by kernel_rfl) (by kernel_rfl) (fun _ _ _ h => h) (Or.inl ⟨by kernel_rfl, ?_⟩) (by first | assumption | trivial) ?_
          rotate_left
          · intro w hSw
            try dsimp only at hSw
            first | (go_simp; done) | (go_simp; with_reducible rfl)
          try simp only [Act.put, List.getElem_toArray, List.getElem_cons_succ, List.getElem_cons_zero, List.setIfInBounds_toArray, List.set_cons_zero, List.set_cons_succ]
          refine wpAnyH_take (i := 26) (v := ?_) rfl (by kernel_rfl) (by kernel_rfl) (by kernel_rfl) (fun _ _ _ h => h) (Or.inl ⟨by kernel_rfl, ?_⟩) (by first | assumption | trivial) ?_
          rotate_left
          · intro w hSw
            try dsimp only at hSw
            first | (go_simp; done) | (go_simp; with_reducible rfl)
          try simp only [Act.put, List.getElem_toArray, List.getElem_cons_succ, List.getElem_cons_zero, List.setIfInBounds_toArray, List.set_cons_zero, List.set_cons_succ]
          refine wpAnyH_take (i := 27) (v := ?_) rfl (by kernel_rfl) (by kernel_rfl) (by kernel_rfl) (fun _ _ _ h => h) (Or.inl ⟨by kernel_rfl, ?_⟩) (by first | assumption | trivial) ?_
          rotate_left
          · intro w hSw
            try dsimp only at hSw
            first | (go_simp; done) | (go_simp; with_reducible rfl)
          try simp only [Act.put, List.getElem_toArray, List.getElem_cons_succ, List.getElem_cons_zero, List.setIfInBounds_toArray, List.set_cons_zero, List.set_cons_succ]
          refine wpAnyH_take (i := 28) (v := ?_) rfl (by kernel_rfl) (by kernel_rfl) (by kernel_rfl) (fun _ _ _ h => h) (Or.inl ⟨by kernel_rfl, ?_⟩) (by first | assumption | trivial) ?_
          rotate_left
          · intro w hSw
            try dsimp only at hSw
            first | (go_simp; done) | (go_simp; with_reducible rfl)
          try simp only [Act.put, List.getElem_toArray, List.getElem_cons_succ, List.getElem_cons_zero, List.setIfInBounds_toArray, List.set_cons_zero, List.set_cons_succ]
          refine wpAnyH_take (i := 29) (v := ?_) rfl (by kernel_rfl) (by kernel_rfl) (by kernel_rfl) (fun _ _ _ h => h) (Or.inl ⟨by kernel_rfl, ?_⟩) (by first | assumption | trivial) ?_
          rotate_left
          · intro w hSw
            try dsimp only at hSw
            first | (go_simp; done) | (go_simp; with_reducible rfl)
          try simp only [Act.put, List.getElem_toArray, List.getElem_cons_succ, List.getElem_cons_zero, List.setIfInBounds_toArray, List.set_cons_zero, List.set_cons_succ]
          refine wpAnyH_take (i := 30) (v := ?_) rfl (by kernel_rfl) (by kernel_rfl) (by kernel_rfl) (fun _ _ _ h => h) (Or.inl ⟨by kernel_rfl, ?_⟩) (by first | assumption | trivial) ?_
          rotate_left
          · intro w hSw
            try dsimp only at hSw
            first | (go_simp; done) | (go_simp; with_reducible rfl)
          try simp only [Act.put, List.getElem_toArray, List.getElem_cons_succ, List.getElem_cons_zero, List.setIfInBounds_toArray, List.set_cons_zero, List.set_cons_succ]
          refine wpAnyH_take (i := 31) (v := ?_) rfl (by kernel_rfl) (by kernel_rfl) (by kernel_rfl) (fun _ _ _ h => h) (Or.inl ⟨by kernel_rfl, ?_⟩) (by first | assumption | trivial) ?_
          rotate_left
          · intro w hSw
            try dsimp only at hSw
            first | (go_simp; done) | (go_simp; with_reducible rfl)
          try simp only [Act.put, List.getElem_toArray, List.getElem_cons_succ, List.getElem_cons_zero, List.setIfInBounds_toArray, List.set_cons_zero, List.set_cons_succ]
          refine wpAnyH_take (i := 32) (v := ?_) rfl (by kernel_rfl) (by kernel_rfl) (by kernel_rfl) (fun _ _ _ h => h) (Or.inl ⟨by kernel_rfl, ?_⟩) (by first | assumption | trivial) ?_
          rotate_left
          · intro w hSw
            try dsimp only at hSw
            first | (go_simp; done) | (go_simp; with_reducible rfl)
          try simp only [Act.put, List.getElem_toArray, List.getElem_cons_succ, List.getElem_cons_zero, List.setIfInBounds_toArray, List.set_cons_zero, List.set_cons_succ]
          refine wpAnyH_take (i := 33) (v := ?_) rfl (by kernel_rfl) (by kernel_rfl) (by kernel_rfl) (fun _ _ _ h => h) (Or.inl ⟨by kernel_rfl, ?_⟩) (by first | assumption | trivial) ?_
          rotate_left
          · intro w hSw
            try dsimp only at hSw
            first | (go_simp; done) | (go_simp; with_reducible rfl)
          try simp only [Act.put, List.getElem_toArray, List.getElem_cons_succ, List.getElem_cons_zero, List.setIfInBounds_toArray, List.set_cons_zero, List.set_cons_succ]
          refine wpAnyH_take (i := 34) (v := ?_) rfl (by kernel_rfl) (by kernel_rfl) (by kernel_rfl) (fun _ _ _ h => h) (Or.inl ⟨by kernel_rfl, ?_⟩) (by first | assumption | trivial) ?_
          rotate_left
          · intro w hSw
            try dsimp only at hSw
            first | (go_simp; done) | (go_simp; with_reducible rfl)
          try simp only [Act.put, List.getElem_toArray, List.getElem_cons_succ, List.getElem_cons_zero, List.setIfInBounds_toArray, List.set_cons_zero, List.set_cons_succ]
          refine wpAnyH_take (i := 35) (v := ?_) rfl (by kernel_rfl) (by kernel_rfl) (by kernel_rfl) (fun _ _ _ h => h) (Or.inl ⟨by kernel_rfl, ?_⟩) (by first | assumption | trivial) ?_
          rotate_left
          · intro w hSw
            try dsimp only at hSw
            first | (go_simp; done) | (go_simp; with_reducible rfl)
          try simp only [Act.put, List.getElem_toArray, List.getElem_cons_succ, List.getElem_cons_zero, List.setIfInBounds_toArray, List.set_cons_zero, List.set_cons_succ]
          refine wpAnyH_take (i := 36) (v := ?_) rfl (by kernel_rfl) (by kernel_rfl) (by kernel_rfl) (fun _ _ _ h => h) (Or.inl ⟨by kernel_rfl, ?_⟩) (by first | assumption | trivial) ?_
          rotate_left
          · intro w hSw
            try dsimp only at hSw
            first | (go_simp; done) | (go_simp; with_reducible rfl)
          try simp only [Act.put, List.getElem_toArray, List.getElem_cons_succ, List.getElem_cons_zero, List.setIfInBounds_toArray, List.set_cons_zero, List.set_cons_succ]
          refine wpAnyH_take (i := 37) (v := ?_) rfl (by kernel_rfl) (by kernel_rfl) (by kernel_rfl) (fun _ _ _ h => h) (Or.inl ⟨by kernel_rfl, ?_⟩) (by first | assumption | trivial) ?_
          rotate_left
          · intro w hSw
            try dsimp only at hSw
            first | (go_simp; done) | (go_simp; with_reducible rfl)
          try simp only [Act.put, List.getElem_toArray, List.getElem_cons_succ, List.getElem_cons_zero, List.setIfInBounds_toArray, List.set_cons_zero, List.set_cons_succ]
          refine wpAnyH_take (i := 38) (v := ?_) rfl (by kernel_rfl) (by kernel_rfl) (by kernel_rfl) (fun _ _ _ h => h) (Or.inl ⟨by kernel_rfl, ?_⟩) (by first | assumption | trivial) ?_
          rotate_left
          · intro w hSw
            try dsimp only at hSw
            first | (go_simp; done) | (go_simp; with_reducible rfl)
          try simp only [Act.put, List.getElem_toArray, List.getElem_cons_succ, List.getElem_cons_zero, List.setIfInBounds_toArray, List.set_cons_zero, List.set_cons_succ]
          refine wpAnyH_take (i := 39) (v := ?_) rfl (by kernel_rfl) (by kernel_rfl) (by kernel_rfl) (fun _ _ _ h => h) (Or.inl ⟨by kernel_rfl, ?_⟩) (by first | assumption | trivial) ?_
          rotate_left
          · intro w hSw
            try dsimp only at hSw
            first | (go_simp; done) | (go_simp; with_reducible rfl)
          try simp only [Act.put, List.getElem_toArray, List.getElem_cons_succ, List.getElem_cons_zero, List.setIfInBounds_toArray, List.set_cons_zero, List.set_cons_succ]
          refine wpAnyH_ready (rs := [40]) (by kernel_rfl) (by simp) ?_
          refine AllReadyH.cons rfl (fun K hK => ?_) AllReadyH.nil
          go_simp
          go_at_call 17
          refine (HO.out _).mono ?_
          rintro y w6 ⟨rfl, hb6⟩
          replace HXx := Lib.hid (HXx.out.below hb6 HXx.out.lt)
          replace HXy := Lib.hid (HXy.out.below hb6 HXy.out.lt)
          have HB55 := Lib.hid (HB54.out.trans (hb6.mono HB54.out.size))
          clear hb6
          try go_wp2_with fail
          refine hK.out _ _ ⟨HXy.out.cell 0, HXy.out.cell 1, HXy.out.cell 2, HXy.out.cell 3, HXy.out.cell 4, HXy.out.cell 5, HXy.out.cell 6, HXy.out.cell 7, HXx.out.cell 0, HXx.out.cell 1, HXx.out.cell 2, HXx.out.cell 3, HXx.out.cell 4, HXx.out.cell 5, HXx.out.cell 6, HXx.out.cell 7⟩ (fun hS => ?_)
          clear hK K
          try simp only [Act.put, List.getElem_toArray, List.getElem_cons_succ, List.getElem_cons_zero, List.setIfInBounds_toArray, List.set_cons_zero, List.set_cons_succ]
          refine wpAnyH_take (i := 41) (v := ?_) rfl (by kernel_rfl) (by kernel_rfl) (by kernel_rfl) (fun _ _ _ h => h) (Or.inl ⟨by kernel_rfl, ?_⟩) (by first | assumption | trivial) ?_
          rotate_left
          · intro w hSw
            try dsimp only at hSw
            first | (go_simp; done) | (go_simp; with_reducible rfl)
          try simp only [Act.put, List.getElem_toArray, List.getElem_cons_succ, List.getElem_cons_zero, List.setIfInBounds_toArray, List.set_cons_zero, List.set_cons_succ]
          refine wpAnyH_take (i := 42) (v := ?_) rfl (by kernel_rfl) (by kernel_rfl) (by kernel_rfl) (fun _ _ _ h => h) (Or.inl ⟨by kernel_rfl, ?_⟩) (by first | assumption | trivial) ?_
          rotate_left
          · intro w hSw
            try dsimp only at hSw
            first | (go_simp; done) | (go_simp; with_reducible rfl)
          try simp only [Act.put, List.getElem_toArray, List.getElem_cons_succ, List.getElem_cons_zero, List.setIfInBounds_toArray, List.set_cons_zero, List.set_cons_succ]
          refine wpAnyH_take (i := 43) (v := ?_) rfl (by kernel_rfl) (by kernel_rfl) (by kernel_rfl) (fun _ _ _ h => h) (Or.inl ⟨by kernel_rfl, ?_⟩) (by first | assumption | trivial) ?_
          rotate_left
          · intro w hSw
            try dsimp only at hSw
            first | (go_simp; done) | (go_simp; with_reducible rfl)
          try simp only [Act.put, List.getElem_toArray, List.getElem_cons_succ, List.getElem_cons_zero, List.setIfInBounds_toArray, List.set_cons_zero, List.set_cons_succ]
          refine wpAnyH_take (i := 44) (v := ?_) rfl (by kernel_rfl) (by kernel_rfl) (by kernel_rfl) (fun _ _ _ h => h) (Or.inl ⟨by kernel_rfl, ?_⟩) (by first | assumption | trivial) ?_
          rotate_left
          · intro w hSw
            try dsimp only at hSw
            first | (go_simp; done) | (go_simp; with_reducible rfl)
          try simp only [Act.put, List.getElem_toArray, List.getElem_cons_succ, List.getElem_cons_zero, List.setIfInBounds_toArray, List.set_cons_zero, List.set_cons_succ]
          refine wpAnyH_take (i := 45) (v := ?_) rfl (by kernel_rfl) (by kernel_rfl) (by kernel_rfl) (fun _ _ _ h => h) (Or.inl ⟨by kernel_rfl, ?_⟩) (by first | assumption | trivial) ?_
          rotate_left
          · intro w hSw
            try dsimp only at hSw
            first | (go_simp; done) | (go_simp; with_reducible rfl)
          try simp only [Act.put, List.getElem_toArray, List.getElem_cons_succ, List.getElem_cons_zero, List.setIfInBounds_toArray, List.set_cons_zero, List.set_cons_succ]
          refine wpAnyH_take (i := 46) (v := ?_) rfl (by kernel_rfl) (by kernel_rfl) (by kernel_rfl) (fun _ _ _ h => h) (Or.inl ⟨by kernel_rfl, ?_⟩) (by first | assumption | trivial) ?_
          rotate_left
          · intro w hSw
            try dsimp only at hSw
            first | (go_simp; done) | (go_simp; with_reducible rfl)
          try simp only [Act.put, List.getElem_toArray, List.getElem_cons_succ, List.getElem_cons_zero, List.setIfInBounds_toArray, List.set_cons_zero, List.set_cons_succ]
          refine wpAnyH_take (i := 47) (v := ?_) rfl (by kernel_rfl) (by kernel_rfl) (by kernel_rfl) (fun _ _ _ h => h) (Or.inl ⟨by kernel_rfl, ?_⟩) (by first | assumption | trivial) ?_
          rotate_left
          · intro w hSw
            try dsimp only at hSw
            first | (go_simp; done) | (go_simp; with_reducible rfl)
          try simp only [Act.put, List.getElem_toArray, List.getElem_cons_succ, List.getElem_cons_zero, List.setIfInBounds_toArray, List.set_cons_zero, List.set_cons_succ]
          refine wpAnyH_take (i := 48) (v := ?_) rfl (by kernel_rfl) (by kernel_rfl) (by kernel_rfl) (fun _ _ _ h => h) (Or.inl ⟨by kernel_rfl, ?_⟩) (by first | assumption | trivial) ?_
          rotate_left
          · intro w hSw
            try dsimp only at hSw
            first | (go_simp; done) | (go_simp; with_reducible rfl)
          try simp only [Act.put, List.getElem_toArray, List.getElem_cons_succ, List.getElem_cons_zero, List.setIfInBounds_toArray, List.set_cons_zero, List.set_cons_succ]
          refine wpAnyH_take (i := 49) (v := ?_) rfl (by kernel_rfl) (by kernel_rfl) (by kernel_rfl) (fun _ _ _ h => h) (Or.inl ⟨by kernel_rfl, ?_⟩) (by first | assumption | trivial) ?_
          rotate_left
          · intro w hSw
            try dsimp only at hSw
            first | (go_simp; done) | (go_simp; with_reducible rfl)
          try simp only [Act.put, List.getElem_toArray, List.getElem_cons_succ, List.getElem_cons_zero, List.setIfInBounds_toArray, List.set_cons_zero, List.set_cons_succ]
          refine wpAnyH_take (i := 50) (v := ?_) rfl (by kernel_rfl) (by kernel_rfl) (by kernel_rfl) (fun _ _ _ h => h) (Or.inl ⟨by kernel_rfl, ?_⟩) (by first | assumption | trivial) ?_
          rotate_left
          · intro w hSw
            try dsimp only at hSw
            first | (go_simp; done) | (go_simp; with_reducible rfl)
          try simp only [Act.put, List.getElem_toArray, List.getElem_cons_succ, List.getElem_cons_zero, List.setIfInBounds_toArray, List.set_cons_zero, List.set_cons_succ]
          refine wpAnyH_take (i := 51) (v := ?_) rfl (by kernel_rfl) (by kernel_rfl) (by kernel_rfl) (fun _ _ _ h => h) (Or.inl ⟨by kernel_rfl, ?_⟩) (by first | assumption | trivial) ?_
          rotate_left
          · intro w hSw
            try dsimp only at hSw
            first | (go_simp; done) | (go_simp; with_reducible rfl)
          try simp only [Act.put, List.getElem_toArray, List.getElem_cons_succ, List.getElem_cons_zero, List.setIfInBounds_toArray, List.set_cons_zero, List.set_cons_succ]
          refine wpAnyH_take (i := 52) (v := ?_) rfl (by kernel_rfl) (by kernel_rfl) (by kernel_rfl) (fun _ _ _ h => h) (Or.inl ⟨by kernel_rfl, ?_⟩) (by first | assumption | trivial) ?_
          rotate_left
          · intro w hSw
            try dsimp only at hSw
            first | (go_simp; done) | (go_simp; with_reducible rfl)
          try simp only [Act.put, List.getElem_toArray, List.getElem_cons_succ, List.getElem_cons_zero, List.setIfInBounds_toArray, List.set_cons_zero, List.set_cons_succ]
          refine wpAnyH_take (i := 53) (v := ?_) rfl (by kernel_rfl) (by kernel_rfl) (by kernel_rfl) (fun _ _ _ h => h) (Or.inl ⟨by kernel_rfl, ?_⟩) (by first | assumption | trivial) ?_
          rotate_left
          · intro w hSw
            try dsimp only at hSw
            first | (go_simp; done) | (go_simp; with_reducible rfl)
          try simp only [Act.put, List.getElem_toArray, List.getElem_cons_succ, List.getElem_cons_zero, List.setIfInBounds_toArray, List.set_cons_zero, List.set_cons_succ]
          refine wpAnyH_take (i := 54) (v := ?_) rfl (by kernel_rfl) (by kernel_rfl) (by kernel_rfl) (fun _ _ _ h => h) (Or.inl ⟨by kernel_rfl, ?_⟩) (by first | assumption | trivial) ?_
          rotate_left
          · intro w hSw
            try dsimp only at hSw
            first | (go_simp; done) | (go_simp; with_reducible rfl)
          try simp only [Act.put, List.getElem_toArray, List.getElem_cons_succ, List.getElem_cons_zero, List.setIfInBounds_toArray, List.set_cons_zero, List.set_cons_succ]
          refine wpAnyH_take (i := 55) (v := ?_) rfl (by kernel_rfl) (by kernel_rfl) (by kernel_rfl) (fun _ _ _ h => h) (Or.inl ⟨by kernel_rfl, ?_⟩) (by first | assumption | trivial) ?_
          rotate_left
          · intro w hSw
            try dsimp only at hSw
            first | (go_simp; done) | (go_simp; with_reducible rfl)
          try simp only [Act.put, List.getElem_toArray, List.getElem_cons_succ, List.getElem_cons_zero, List.setIfInBounds_toArray, List.set_cons_zero, List.set_cons_succ]
          refine wpAnyH_done (by kernel_rfl) ?_ _
          have cy0 : w6.cell? ⟨w3.heap.size, 0, none⟩ = some (.int .i64 X.s) := HXy.out.cell 0
          have cy1 : w6.cell? ⟨w3.heap.size, 1, none⟩ = some (.int .i64 X.n) := HXy.out.cell 1
          have cy2 : w6.cell? ⟨w3.heap.size, 2, none⟩ = some (.int .i64 X.b) := HXy.out.cell 2
          have cy3 : w6.cell? ⟨w3.heap.size, 3, none⟩ = some (.int .i64 X.c) := HXy.out.cell 3
          have cy4 : w6.cell? ⟨w3.heap.size, 4, none⟩ = some (.int .i64 X.a) := HXy.out.cell 4
          have cy5 : w6.cell? ⟨w3.heap.size, 5, none⟩ = some (.int .i64 X.r) := HXy.out.cell 5
          have cy6 : w6.cell? ⟨w3.heap.size, 6, none⟩ = some (.int .i64 X.t) := HXy.out.cell 6
          have cy7 : w6.cell? ⟨w3.heap.size, 7, none⟩ = some (.int .i64 X.y) := HXy.out.cell 7
          have ly := HXy.out.lt
          have cx0 : w6.cell? ⟨w.heap.size, 0, none⟩ = some (.int .i64 X.s) := HXx.out.cell 0
          have cx1 : w6.cell? ⟨w.heap.size, 1, none⟩ = some (.int .i64 X.n) := HXx.out.cell 1
          have cx2 : w6.cell? ⟨w.heap.size, 2, none⟩ = some (.int .i64 X.b) := HXx.out.cell 2
          have cx3 : w6.cell? ⟨w.heap.size, 3, none⟩ = some (.int .i64 X.c) := HXx.out.cell 3
          have cx4 : w6.cell? ⟨w.heap.size, 4, none⟩ = some (.int .i64 X.a) := HXx.out.cell 4
          have cx5 : w6.cell? ⟨w.heap.size, 5, none⟩ = some (.int .i64 X.r) := HXx.out.cell 5
          have cx6 : w6.cell? ⟨w.heap.size, 6, none⟩ = some (.int .i64 X.t) := HXx.out.cell 6
          have cx7 : w6.cell? ⟨w.heap.size, 7, none⟩ = some (.int .i64 X.y) := HXx.out.cell 7
          have frx0 := HXx.out.free 0
          have frx1 := HXx.out.free 1
          have frx2 := HXx.out.free 2
          have frx3 := HXx.out.free 3
          have frx4 := HXx.out.free 4
          have frx5 := HXx.out.free 5
          have frx6 := HXx.out.free 6
          have frx7 := HXx.out.free 7
          have lx := HXx.out.lt
          clear HO HKy HKx HA
          go_wp2_with fail
          have HNX : Hid (FRel w X (set8 w6 w.heap.size X)) := ⟨blk_set8 (z := X) HXx.out X, below_set8 HB55.out (Nat.le_refl _) X, HY.out⟩
          go_roundw
          case rel => exact ⟨k + 1, X, by omega, by go_num, HNX⟩
          case measure => simp [intOf]; omega
      · by_cases he : e = 0
        · skip
          have s1 := g6 hge
          subst s1
          have ge1 : decide (3 ≤ X.t) = true := decide_eq_true hge
          have ge2 : decide (X.t ≥ 3) = true := ge1
          have en : (e != 0) = false := by simpa using he
          rw [Bool.not_eq_true] at hov
          rw [hov] at HO
          clear g6 g7 g8 he hov hge
          have hS0 : ((w3).alloc (.cells #[.int .i64 X.s, .int .i64 X.n, .int .i64 X.b, .int .i64 X.c, .int .i64 X.a, .int .i64 r, .int .i64 t, .int .i64 z] 25)).drew.cell? ⟨w3.heap.size, 0, none⟩ = some (.int .i64 X.s) ∧ ((w3).alloc (.cells #[.int .i64 X.s, .int .i64 X.n, .int .i64 X.b, .int .i64 X.c, .int .i64 X.a, .int .i64 r, .int .i64 t, .int .i64 z] 25)).drew.cell? ⟨w3.heap.size, 1, none⟩ = some (.int .i64 X.n) ∧ ((w3).alloc (.cells #[.int .i64 X.s, .int .i64 X.n, .int .i64 X.b, .int .i64 X.c, .int .i64 X.a, .int .i64 r, .int .i64 t, .int .i64 z] 25)).drew.cell? ⟨w3.heap.size, 2, none⟩ = some (.int .i64 X.b) ∧ ((w3).alloc (.cells #[.int .i64 X.s, .int .i64 X.n, .int .i64 X.b, .int .i64 X.c, .int .i64 X.a, .int .i64 r, .int .i64 t, .int .i64 z] 25)).drew.cell? ⟨w3.heap.size, 3, none⟩ = some (.int .i64 X.c) ∧ ((w3).alloc (.cells #[.int .i64 X.s, .int .i64 X.n, .int .i64 X.b, .int .i64 X.c, .int .i64 X.a, .int .i64 r, .int .i64 t, .int .i64 z] 25)).drew.cell? ⟨w3.heap.size, 4, none⟩ = some (.int .i64 X.a) ∧ ((w3).alloc (.cells #[.int .i64 X.s, .int .i64 X.n, .int .i64 X.b, .int .i64 X.c, .int .i64 X.a, .int .i64 r, .int .i64 t, .int .i64 z] 25)).drew.cell? ⟨w3.heap.size, 5, none⟩ = some (.int .i64 r) ∧ ((w3).alloc (.cells #[.int .i64 X.s, .int .i64 X.n, .int .i64 X.b, .int .i64 X.c, .int .i64 X.a, .int .i64 r, .int .i64 t, .int .i64 z] 25)).drew.cell? ⟨w3.heap.size, 6, none⟩ = some (.int .i64 t) ∧ ((w3).alloc (.cells #[.int .i64 X.s, .int .i64 X.n, .int .i64 X.b, .int .i64 X.c, .int .i64 X.a, .int .i64 r, .int .i64 t, .int .i64 z] 25)).drew.cell? ⟨w3.heap.size, 7, none⟩ = some (.int .i64 z) ∧ ((w3).alloc (.cells #[.int .i64 X.s, .int .i64 X.n, .int .i64 X.b, .int .i64 X.c, .int .i64 X.a, .int .i64 r, .int .i64 t, .int .i64 z] 25)).drew.cell? ⟨w.heap.size, 0, none⟩ = some (.int .i64 X.s) ∧ ((w3).alloc (.cells #[.int .i64 X.s, .int .i64 X.n, .int .i64 X.b, .int .i64 X.c, .int .i64 X.a, .int .i64 r, .int .i64 t, .int .i64 z] 25)).drew.cell? ⟨w.heap.size, 1, none⟩ = some (.int .i64 X.n) ∧ ((w3).alloc (.cells #[.int .i64 X.s, .int .i64 X.n, .int .i64 X.b, .int .i64 X.c, .int .i64 X.a, .int .i64 r, .int .i64 t, .int .i64 z] 25)).drew.cell? ⟨w.heap.size, 2, none⟩ = some (.int .i64 X.b) ∧ ((w3).alloc (.cells #[.int .i64 X.s, .int .i64 X.n, .int .i64 X.b, .int .i64 X.c, .int .i64 X.a, .int .i64 r, .int .i64 t, .int .i64 z] 25)).drew.cell? ⟨w.heap.size, 3, none⟩ = some (.int .i64 X.c) ∧ ((w3).alloc (.cells #[.int .i64 X.s, .int .i64 X.n, .int .i64 X.b, .int .i64 X.c, .int .i64 X.a, .int .i64 r, .int .i64 t, .int .i64 z] 25)).drew.cell? ⟨w.heap.size, 4, none⟩ = some (.int .i64 X.a) ∧ ((w3).alloc (.cells #[.int .i64 X.s, .int .i64 X.n, .int .i64 X.b, .int .i64 X.c, .int .i64 X.a, .int .i64 r, .int .i64 t, .int .i64 z] 25)).drew.cell? ⟨w.heap.size, 5, none⟩ = some (.int .i64 X.r) ∧ ((w3).alloc (.cells #[.int .i64 X.s, .int .i64 X.n, .int .i64 X.b, .int .i64 X.c, .int .i64 X.a, .int .i64 r, .int .i64 t, .int .i64 z] 25)).drew.cell? ⟨w.heap.size, 6, none⟩ = some (.int .i64 X.t) ∧ ((w3).alloc (.cells #[.int .i64 X.s, .int .i64 X.n, .int .i64 X.b, .int .i64 X.c, .int .i64 X.a, .int .i64 r, .int .i64 t, .int .i64 z] 25)).drew.cell? ⟨w.heap.size, 7, none⟩ = some (.int .i64 X.y) := ⟨HXy.out.cell 0, HXy.out.cell 1, HXy.out.cell 2, HXy.out.cell 3, HXy.out.cell 4, HXy.out.cell 5, HXy.out.cell 6, HXy.out.cell 7, HXx.out.cell 0, HXx.out.cell 1, HXx.out.cell 2, HXx.out.cell 3, HXx.out.cell 4, HXx.out.cell 5, HXx.out.cell 6, HXx.out.cell 7⟩
          have HS0 := Lib.hid hS0
          replace HB52 := Lib.hid HB52.out.drew
          replace HXx := Lib.hid HXx.out.drew
          replace HXy := Lib.hid HXy.out.drew
          clear hS0
          refine wp_region_held_drew (S := fun w' => w'.cell? ⟨w3.heap.size, 0, none⟩ = some (.int .i64 X.s) ∧ w'.cell? ⟨w3.heap.size, 1, none⟩ = some (.int .i64 X.n) ∧ w'.cell? ⟨w3.heap.size, 2, none⟩ = some (.int .i64 X.b) ∧ w'.cell? ⟨w3.heap.size, 3, none⟩ = some (.int .i64 X.c) ∧ w'.cell? ⟨w3.heap.size, 4, none⟩ = some (.int .i64 X.a) ∧ w'.cell? ⟨w3.heap.size, 5, none⟩ = some (.int .i64 r) ∧ w'.cell? ⟨w3.heap.size, 6, none⟩ = some (.int .i64 t) ∧ w'.cell? ⟨w3.heap.size, 7, none⟩ = some (.int .i64 z) ∧ w'.cell? ⟨w.heap.size, 0, none⟩ = some (.int .i64 X.s) ∧ w'.cell? ⟨w.heap.size, 1, none⟩ = some (.int .i64 X.n) ∧ w'.cell? ⟨w.heap.size, 2, none⟩ = some (.int .i64 X.b) ∧ w'.cell? ⟨w.heap.size, 3, none⟩ = some (.int .i64 X.c) ∧ w'.cell? ⟨w.heap.size, 4, none⟩ = some (.int .i64 X.a) ∧ w'.cell? ⟨w.heap.size, 5, none⟩ = some (.int .i64 X.r) ∧ w'.cell? ⟨w.heap.size, 6, none⟩ = some (.int .i64 X.t) ∧ w'.cell? ⟨w.heap.size, 7, none⟩ = some (.int .i64 X.y)) (by kernel_rfl) HS0.out (fun hS0 => ?_)
          refine wpAnyH_take (i := 0) (v := ?_) rfl (by kernel_rfl) (by kernel_rfl) (by kernel_rfl) (fun _ _ _ h => h) (Or.inl ⟨by kernel_rfl, ?_⟩) (by first | assumption | trivial) ?_
          rotate_left
          · intro w hSw
            try dsimp only at hSw
            first | (go_simp; done) | (go_simp; with_reducible rfl)
          try simp only [Act.put, List.getElem_toArray, List.getElem_cons_succ, List.getElem_cons_zero, List.setIfInBounds_toArray, List.set_cons_zero, List.set_cons_succ]
          refine wpAnyH_take (i := 2) (v := ?_) rfl (by kernel_rfl) (by kernel_rfl) (by kernel_rfl) (fun _ _ _ h => h) (Or.inl ⟨by kernel_rfl, ?_⟩) (by first | assumption | trivial) ?_
          rotate_left
          · intro w hSw
            try dsimp only at hSw
            first | (go_simp; done) | (go_simp; with_reducible rfl)
          try simp only [Act.put, List.getElem_toArray, List.getElem_cons_succ, List.getElem_cons_zero, List.setIfInBounds_toArray, List.set_cons_zero, List.set_cons_succ]
          refine wpAnyH_ready (rs := [1]) (by kernel_rfl) (by simp) ?_
          refine AllReadyH.cons rfl (fun K hK => ?_) AllReadyH.nil
          go_simp
          go_at_call 14
          refine (HKy.out _).mono ?_
          rintro y w4 ⟨rfl, hb4⟩
          replace HXx := Lib.hid (HXx.out.below hb4 HXx.out.lt)
          replace HXy := Lib.hid (HXy.out.below hb4 HXy.out.lt)
          have HB53 := Lib.hid (HB52.out.trans (hb4.mono HB52.out.size))
          clear hb4
          try go_wp2_with fail
          refine hK.out _ _ ⟨HXy.out.cell 0, HXy.out.cell 1, HXy.out.cell 2, HXy.out.cell 3, HXy.out.cell 4, HXy.out.cell 5, HXy.out.cell 6, HXy.out.cell 7, HXx.out.cell 0, HXx.out.cell 1, HXx.out.cell 2, HXx.out.cell 3, HXx.out.cell 4, HXx.out.cell 5, HXx.out.cell 6, HXx.out.cell 7⟩ (fun hS => ?_)
          clear hK K
          try simp only [Act.put, List.getElem_toArray, List.getElem_cons_succ, List.getElem_cons_zero, List.setIfInBounds_toArray, List.set_cons_zero, List.set_cons_succ]
          refine wpAnyH_ready (rs := [3]) (by kernel_rfl) (by simp) ?_
          refine AllReadyH.cons rfl (fun K hK => ?_) AllReadyH.nil
          go_simp
          go_at_call 14
          refine (HKx.out _).mono ?_
          rintro y w5 ⟨rfl, hb5⟩
          replace HXx := Lib.hid (HXx.out.below hb5 HXx.out.lt)
          replace HXy := Lib.hid (HXy.out.below hb5 HXy.out.lt)
          have HB54 := Lib.hid (HB53.out.trans (hb5.mono HB53.out.size))
          clear hb5
          try go_wp2_with fail
          refine hK.out _ _ ⟨HXy.out.cell 0, HXy.out.cell 1, HXy.out.cell 2, HXy.out.cell 3, HXy.out.cell 4, HXy.out.cell 5, HXy.out.cell 6, HXy.out.cell 7, HXx.out.cell 0, HXx.out.cell 1, HXx.out.cell 2, HXx.out.cell 3, HXx.out.cell 4, HXx.out.cell 5, HXx.out.cell 6, HXx.out.cell 7⟩ (fun hS => ?_)
          clear hK K
          try simp only [Act.put, List.getElem_toArray, List.getElem_cons_succ, List.getElem_cons_zero, List.setIfInBounds_toArray, List.set_cons_zero, List.set_cons_succ]
          refine wpAnyH_take (i := 4) (v := ?_) rfl (by kernel_rfl) (by kernel_rfl) (by kernel_rfl) (fun _ _ _ h => h) (Or.inl ⟨by kernel_rfl, ?_⟩) (by first | assumption | trivial) ?_
          rotate_left
          · intro w hSw
            try dsimp only at hSw
            first | (go_simp; done) | (go_simp; with_reducible rfl)
          try simp only [Act.put, List.getElem_toArray, List.getElem_cons_succ, List.getElem_cons_zero, List.setIfInBounds_toArray, List.set_cons_zero, List.set_cons_succ]
          refine wpAnyH_take (i := 5) (v := ?_) rfl (by kernel_rfl) (by kernel_rfl) (by kernel_rfl) (fun _ _ _ h => h) (Or.inl ⟨by kernel_rfl, ?_⟩) (by first | assumption | trivial) ?_
          rotate_left
          · intro w hSw
            try dsimp only at hSw
            first | (go_simp; done) | (go_simp; with_reducible rfl)
          try simp only [Act.put, List.getElem_toArray, List.getElem_cons_succ, List.getElem_cons_zero, List.setIfInBounds_toArray, List.set_cons_zero, List.set_cons_succ]
          refine wpAnyH_take (i := 6) (v := ?_) rfl (by kernel_rfl) (by kernel_rfl) (by kernel_rfl) (fun _ _ _ h => h) (Or.inl ⟨by kernel_rfl, ?_⟩) (by first | assumption | trivial) ?_
          rotate_left
          · intro w hSw
            try dsimp only at hSw
            first | (go_simp; done) | (go_simp; with_reducible rfl)
          try simp only [Act.put, List.getElem_toArray, List.getElem_cons_succ, List.getElem_cons_zero, List.setIfInBounds_toArray, List.set_cons_zero, List.set_cons_succ]
          refine wpAnyH_take (i := 7) (v := ?_) rfl (by kernel_rfl) (by kernel_rfl) (by kernel_rfl) (fun _ _ _ h => h) (Or.inl ⟨by kernel_rfl, ?_⟩) (by first | assumption | trivial) ?_
          rotate_left
          · intro w hSw
            try dsimp only at hSw
            first | (go_simp; done) | (go_simp; with_reducible rfl)
          try simp only [Act.put, List.getElem_toArray, List.getElem_cons_succ, List.getElem_cons_zero, List.setIfInBounds_toArray, List.set_cons_zero, List.set_cons_succ]
          refine wpAnyH_take (i := 8) (v := ?_) rfl (by kernel_rfl) (by kernel_rfl) (by kernel_rfl) (fun _ _ _ h => h) (Or.inl ⟨by kernel_rfl, ?_⟩) (by first | assumption | trivial) ?_
          rotate_left
          · intro w hSw
            try dsimp only at hSw
            first | (go_simp; done) | (go_simp; with_reducible rfl)
          try simp only [Act.put, List.getElem_toArray, List.getElem_cons_succ, List.getElem_cons_zero, List.setIfInBounds_toArray, List.set_cons_zero, List.set_cons_succ]
          refine wpAnyH_take (i := 9) (v := ?_) rfl (by kernel_rfl) (by kernel_rfl) (by kernel_rfl) (fun _ _ _ h => h) (Or.inl ⟨by kernel_rfl, ?_⟩) (by first | assumption | trivial) ?_
          rotate_left
          · intro w hSw
            try dsimp only at hSw
            first | (go_simp; done) | (go_simp; with_reducible rfl)
          try simp only [Act.put, List.getElem_toArray, List.getElem_cons_succ, List.getElem_cons_zero, List.setIfInBounds_toArray, List.set_cons_zero, List.set_cons_succ]
          refine wpAnyH_take (i := 10) (v := ?_) rfl (by kernel_rfl) (by kernel_rfl) (by kernel_rfl) (fun _ _ _ h => h) (Or.inl ⟨by kernel_rfl, ?_⟩) (by first | assumption | trivial) ?_
          rotate_left
          · intro w hSw
            try dsimp only at hSw
            first | (go_simp; done) | (go_simp; with_reducible rfl)
          try simp only [Act.put, List.getElem_toArray, List.getElem_cons_succ, List.getElem_cons_zero, List.setIfInBounds_toArray, List.set_cons_zero, List.set_cons_succ]
          refine wpAnyH_take (i := 11) (v := ?_) rfl (by kernel_rfl) (by kernel_rfl) (by kernel_rfl) (fun _ _ _ h => h) (Or.inl ⟨by kernel_rfl, ?_⟩) (by first | assumption | trivial) ?_
          rotate_left
          · intro w hSw
            try dsimp only at hSw
            first | (go_simp; done) | (go_simp; with_reducible rfl)
          try simp only [Act.put, List.getElem_toArray, List.getElem_cons_succ, List.getElem_cons_zero, List.setIfInBounds_toArray, List.set_cons_zero, List.set_cons_succ]
          refine wpAnyH_take (i := 12) (v := ?_) rfl (by kernel_rfl) (by kernel_rfl) (by kernel_rfl) (fun _ _ _ h => h) (Or.inl ⟨by kernel_rfl, ?_⟩) (by first | assumption | trivial) ?_
          rotate_left
          · intro w hSw
            try dsimp only at hSw
            first | (go_simp; done) | (go_simp; with_reducible rfl)
          try simp only [Act.put, List.getElem_toArray, List.getElem_cons_succ, List.getElem_cons_zero, List.setIfInBounds_toArray, List.set_cons_zero, List.set_cons_succ]
          refine wpAnyH_take (i := 13) (v := ?_) rfl (by kernel_rfl) (by kernel_rfl) (by kernel_rfl) (fun _ _ _ h => h) (Or.inl ⟨by kernel_rfl, ?_⟩) (by first | assumption | trivial) ?_
          rotate_left
          · intro w hSw
            try dsimp only at hSw
            first | (go_simp; done) | (go_simp; with_reducible rfl)
          try simp only [Act.put, List.getElem_toArray, List.getElem_cons_succ, List.getElem_cons_zero, List.setIfInBounds_toArray, List.set_cons_zero, List.set_cons_succ]
          refine wpAnyH_take (i := 14) (v := ?_) rfl (by kernel_rfl) (by kernel_rfl) (by kernel_rfl) (fun _ _ _ h => h) (Or.inl ⟨by kernel_rfl, ?_⟩) (by first | assumption | trivial) ?_
          rotate_left
          · intro w hSw
            try dsimp only at hSw
            first | (go_simp; done) | (go_simp; with_reducible rfl)
          try simp only [Act.put, List.getElem_toArray, List.getElem_cons_succ, List.getElem_cons_zero, List.setIfInBounds_toArray, List.set_cons_zero, List.set_cons_succ]
          refine wpAnyH_take (i := 15) (v := ?_) rfl (by kernel_rfl) (by kernel_rfl) (by kernel_rfl) (fun _ _ _ h => h) (Or.inl ⟨by kernel_rfl, ?_⟩) (by first | assumption | trivial) ?_
          rotate_left
          · intro w hSw
            try dsimp only at hSw
            first | (go_simp; done) | (go_simp; with_reducible rfl)
          try simp only [Act.put, List.getElem_toArray, List.getElem_cons_succ, List.getElem_cons_zero, List.setIfInBounds_toArray, List.set_cons_zero, List.set_cons_succ]
          refine wpAnyH_take (i := 16) (v := ?_) rfl (by kernel_rfl) (by kernel_rfl) (by kernel_rfl) (fun _ _ _ h => h) (Or.inl ⟨by kernel_rfl, ?_⟩) (by first | assumption | trivial) ?_
          rotate_left
          · intro w hSw
            try dsimp only at hSw
            first | (go_simp; done) | (go_simp; with_reducible rfl)
          try simp only [Act.put, List.getElem_toArray, List.getElem_cons_succ, List.getElem_cons_zero, List.setIfInBounds_toArray, List.set_cons_zero, List.set_cons_succ]
          refine wpAnyH_take (i := 17) (v := ?_) rfl (by kernel_rfl) (by kernel_rfl) (by kernel_rfl) (fun _ _ _ h => h) (Or.inl ⟨by kernel_rfl, ?_⟩) (by first | assumption | trivial) ?_
          rotate_left
          · intro w hSw
            try dsimp only at hSw
            first | (go_simp; done) | (go_simp; with_reducible rfl)
          try simp only [Act.put, List.getElem_toArray, List.getElem_cons_succ, List.getElem_cons_zero, List.setIfInBounds_toArray, List.set_cons_zero, List.set_cons_succ]
          refine wpAnyH_take (i := 18) (v := ?_) rfl (by kernel_rfl) (by kernel_rfl) (by kernel_rfl) (fun _ _ _ h => h) (Or.inl ⟨by kernel_rfl, ?_⟩) (by first | assumption | trivial) ?_
          rotate_left
          · intro w hSw
            try dsimp only at hSw
            first | (go_simp; done) | (go_simp; with_reducible rfl)
          try simp only [Act.put, List.getElem_toArray, List.getElem_cons_succ, List.getElem_cons_zero, List.setIfInBounds_toArray, List.set_cons_zero, List.set_cons_succ]
          refine wpAnyH_take (i := 19) (v := ?_) rfl (by kernel_rfl) (by kernel_rfl) (by kernel_rfl) (fun _ _ _ h => h) (Or.inl ⟨by kernel_rfl, ?_⟩) (by first | assumption | trivial) ?_
          rotate_left
          · intro w hSw
            try dsimp only at hSw
            first | (go_simp; done) | (go_simp; with_reducible rfl)
          try simp only [Act.put, List.getElem_toArray, List.getElem_cons_succ, List.getElem_cons_zero, List.setIfInBounds_toArray, List.set_cons_zero, List.set_cons_succ]
          refine wpAnyH_take (i := 20) (v := ?_) rfl (by kernel_rfl) (by kernel_rfl) (by kernel_rfl) (fun _ _ _ h => h) (Or.inl ⟨by kernel_rfl, ?_⟩) (by first | assumption | trivial) ?_
          rotate_left
          · intro w hSw
            try dsimp only at hSw
            first | (go_simp; done) | (go_simp; with_reducible rfl)
          try simp only [Act.put, List.getElem_toArray, List.getElem_cons_succ, List.getElem_cons_zero, List.setIfInBounds_toArray, List.set_cons_zero, List.set_cons_succ]
          refine wpAnyH_take (i := 21) (v := ?_) rfl (by kernel_rfl) (by kernel_rfl) (by kernel_rfl) (fun _ _ _ h => h) (Or.inl ⟨by kernel_rfl, ?_⟩) (by first | assumption | trivial) ?_
          rotate_left
          · intro w hSw
            try dsimp only at hSw
            first | (go_simp; done) | (go_simp; with_reducible rfl)
          try simp only [Act.put, List.getElem_toArray, List.getElem_cons_succ, List.getElem_cons_zero, List.setIfInBounds_toArray, List.set_cons_zero, List.set_cons_succ]
          refine wpAnyH_take (i := 22) (v := ?_) rfl (by kernel_rfl) (by kernel_rfl) (by kernel_rfl) (fun _ _ _ h => h) (Or.inl ⟨by kernel_rfl, ?_⟩) (by first | assumption | trivial) ?_
          rotate_left
          · intro w hSw
            try dsimp only at hSw
            first | (go_simp; done) | (go_simp; with_reducible rfl)
          try simp only [Act.put, List.getElem_toArray, List.getElem_cons_succ, List.getElem_cons_zero, List.setIfInBounds_toArray, List.set_cons_zero, List.set_cons_succ]
          refine wpAnyH_take (i := 23) (v := ?_) rfl (by kernel_rfl) (by kernel_rfl) (by kernel_rfl) (fun _ _ _ h => h) (Or.inl ⟨by kernel_rfl, ?_⟩) (by first | assumption | trivial) ?_
          rotate_left
          · intro w hSw
            try dsimp only at hSw
            first | (go_simp; done) | (go_simp; with_reducible rfl)
          try simp only [Act.put, List.getElem_toArray, List.getElem_cons_succ, List.getElem_cons_zero, List.setIfInBounds_toArray, List.set_cons_zero, List.set_cons_succ]
          refine wpAnyH_take (i := 24) (v := ?_) rfl (by kernel_rfl) (by kernel_rfl) (by kernel_rfl) (fun _ _ _ h => h) (Or.inl ⟨by kernel_rfl, ?_⟩) (by first | assumption | trivial) ?_
          rotate_left
          · intro w hSw
            try dsimp only at hSw
            first | (go_simp; done) | (go_simp; with_reducible rfl)
          try simp only [Act.put, List.getElem_toArray, List.getElem_cons_succ, List.getElem_cons_zero, List.setIfInBounds_toArray, List.set_cons_zero, List.set_cons_succ]
          refine wpAnyH_take (i := 25) (v := ?_) rfl (by kernel_rfl) (by kernel_rfl) (by kernel_rfl) (fun _ _ _ h => h) (Or.inl ⟨by kernel_rfl, ?_⟩) (by first | assumption | trivial) ?_
          rotate_left
          · intro w hSw
            try dsimp only at hSw
            first | (go_simp; done) | (go_simp; with_reducible rfl)
          try simp only [Act.put, List.getElem_toArray, List.getElem_cons_succ, List.getElem_cons_zero, List.setIfInBounds_toArray, List.set_cons_zero, List.set_cons_succ]
          refine wpAnyH_take (i := 26) (v := ?_) rfl (by kernel_rfl) (by kernel_rfl) (by kernel_rfl) (fun _ _ _ h => h) (Or.inl ⟨by kernel_rfl, ?_⟩) (by first | assumption | trivial) ?_
          rotate_left
          · intro w hSw
            try dsimp only at hSw
            first | (go_simp; done) | (go_simp; with_reducible rfl)
          try simp only [Act.put, List.getElem_toArray, List.getElem_cons_succ, List.getElem_cons_zero, List.setIfInBounds_toArray, List.set_cons_zero, List.set_cons_succ]
          refine wpAnyH_take (i := 27) (v := ?_) rfl (by kernel_rfl) (by kernel_rfl) (by kernel_rfl) (fun _ _ _ h => h) (Or.inl ⟨by kernel_rfl, ?_⟩) (by first | assumption | trivial) ?_
          rotate_left
          · intro w hSw
            try dsimp only at hSw
            first | (go_simp; done) | (go_simp; with_reducible rfl)
          try simp only [Act.put, List.getElem_toArray, List.getElem_cons_succ, List.getElem_cons_zero, List.setIfInBounds_toArray, List.set_cons_zero, List.set_cons_succ]
          refine wpAnyH_take (i := 28) (v := ?_) rfl (by kernel_rfl) (by kernel_rfl) (by kernel_rfl) (fun _ _ _ h => h) (Or.inl ⟨by kernel_rfl, ?_⟩) (by first | assumption | trivial) ?_
          rotate_left
          · intro w hSw
            try dsimp only at hSw
            first | (go_simp; done) | (go_simp; with_reducible rfl)
          try simp only [Act.put, List.getElem_toArray, List.getElem_cons_succ, List.getElem_cons_zero, List.setIfInBounds_toArray, List.set_cons_zero, List.set_cons_succ]
          refine wpAnyH_take (i := 29) (v := ?_) rfl (by kernel_rfl) (by kernel_rfl) (by kernel_rfl) (fun _ _ _ h => h) (Or.inl ⟨by kernel_rfl, ?_⟩) (by first | assumption | trivial) ?_
          rotate_left
          · intro w hSw
            try dsimp only at hSw
            first | (go_simp; done) | (go_simp; with_reducible rfl)
          try simp only [Act.put, List.getElem_toArray, List.getElem_cons_succ, List.getElem_cons_zero, List.setIfInBounds_toArray, List.set_cons_zero, List.set_cons_succ]
          refine wpAnyH_take (i := 30) (v := ?_) rfl (by kernel_rfl) (by kernel_rfl) (by kernel_rfl) (fun _ _ _ h => h) (Or.inl ⟨by kernel_rfl, ?_⟩) (by first | assumption | trivial) ?_
          rotate_left
          · intro w hSw
            try dsimp only at hSw
            first | (go_simp; done) | (go_simp; with_reducible rfl)
          try simp only [Act.put, List.getElem_toArray, List.getElem_cons_succ, List.getElem_cons_zero, List.setIfInBounds_toArray, List.set_cons_zero, List.set_cons_succ]
          refine wpAnyH_take (i := 31) (v := ?_) rfl (by kernel_rfl) (by kernel_rfl) (by kernel_rfl) (fun _ _ _ h => h) (Or.inl ⟨by kernel_rfl, ?_⟩) (by first | assumption | trivial) ?_
          rotate_left
          · intro w hSw
            try dsimp only at hSw
            first | (go_simp; done) | (go_simp; with_reducible rfl)
          try simp only [Act.put, List.getElem_toArray, List.getElem_cons_succ, List.getElem_cons_zero, List.setIfInBounds_toArray, List.set_cons_zero, List.set_cons_succ]
          refine wpAnyH_take (i := 32) (v := ?_) rfl (by kernel_rfl) (by kernel_rfl) (by kernel_rfl) (fun _ _ _ h => h) (Or.inl ⟨by kernel_rfl, ?_⟩) (by first | assumption | trivial) ?_
          rotate_left
          · intro w hSw
            try dsimp only at hSw
            first | (go_simp; done) | (go_simp; with_reducible rfl)
          try simp only [Act.put, List.getElem_toArray, List.getElem_cons_succ, List.getElem_cons_zero, List.setIfInBounds_toArray, List.set_cons_zero, List.set_cons_succ]
          refine wpAnyH_take (i := 33) (v := ?_) rfl (by kernel_rfl) (by kernel_rfl) (by kernel_rfl) (fun _ _ _ h => h) (Or.inl ⟨by kernel_rfl, ?_⟩) (by first | assumption | trivial) ?_
          rotate_left
          · intro w hSw
            try dsimp only at hSw
            first | (go_simp; done) | (go_simp; with_reducible rfl)
          try simp only [Act.put, List.getElem_toArray, List.getElem_cons_succ, List.getElem_cons_zero, List.setIfInBounds_toArray, List.set_cons_zero, List.set_cons_succ]
          refine wpAnyH_take (i := 34) (v := ?_) rfl (by kernel_rfl) (by kernel_rfl) (by kernel_rfl) (fun _ _ _ h => h) (Or.inl ⟨by kernel_rfl, ?_⟩) (by first | assumption | trivial) ?_
          rotate_left
          · intro w hSw
            try dsimp only at hSw
            first | (go_simp; done) | (go_simp; with_reducible rfl)
          try simp only [Act.put, List.getElem_toArray, List.getElem_cons_succ, List.getElem_cons_zero, List.setIfInBounds_toArray, List.set_cons_zero, List.set_cons_succ]
          refine wpAnyH_take (i := 35) (v := ?_) rfl (by kernel_rfl) (by kernel_rfl) (by kernel_rfl) (fun _ _ _ h => h) (Or.inl ⟨by kernel_rfl, ?_⟩) (by first | assumption | trivial) ?_
          rotate_left
          · intro w hSw
            try dsimp only at hSw
            first | (go_simp; done) | (go_simp; with_reducible rfl)
          try simp only [Act.put, List.getElem_toArray, List.getElem_cons_succ, List.getElem_cons_zero, List.setIfInBounds_toArray, List.set_cons_zero, List.set_cons_succ]
          refine wpAnyH_take (i := 36) (v := ?_) rfl (by kernel_rfl) (by kernel_rfl) (by kernel_rfl) (fun _ _ _ h => h) (Or.inl ⟨by kernel_rfl, ?_⟩) (by first | assumption | trivial) ?_
          rotate_left
          · intro w hSw
            try dsimp only at hSw
            first | (go_simp; done) | (go_simp; with_reducible rfl)
          try simp only [Act.put, List.getElem_toArray, List.getElem_cons_succ, List.getElem_cons_zero, List.setIfInBounds_toArray, List.set_cons_zero, List.set_cons_succ]
          refine wpAnyH_take (i := 37) (v := ?_) rfl (by kernel_rfl) (by kernel_rfl) (by kernel_rfl) (fun _ _ _ h => h) (Or.inl ⟨by kernel_rfl, ?_⟩) (by first | assumption | trivial) ?_
          rotate_left
          · intro w hSw
            try dsimp only at hSw
            first | (go_simp; done) | (go_simp; with_reducible rfl)
          try simp only [Act.put, List.getElem_toArray, List.getElem_cons_succ, List.getElem_cons_zero, List.setIfInBounds_toArray, List.set_cons_zero, List.set_cons_succ]
          refine wpAnyH_take (i := 38) (v := ?_) rfl (by kernel_rfl) (by kernel_rfl) (by kernel_rfl) (fun _ _ _ h => h) (Or.inl ⟨by kernel_rfl, ?_⟩) (by first | assumption | trivial) ?_
          rotate_left
          · intro w hSw
            try dsimp only at hSw
            first | (go_simp; done) | (go_simp; with_reducible rfl)
          try simp only [Act.put, List.getElem_toArray, List.getElem_cons_succ, List.getElem_cons_zero, List.setIfInBounds_toArray, List.set_cons_zero, List.set_cons_succ]
          refine wpAnyH_take (i := 39) (v := ?_) rfl (by kernel_rfl) (by kernel_rfl) (by kernel_rfl) (fun _ _ _ h => h) (Or.inl ⟨by kernel_rfl, ?_⟩) (by first | assumption | trivial) ?_
          rotate_left
          · intro w hSw
            try dsimp only at hSw
            first | (go_simp; done) | (go_simp; with_reducible rfl)
          try simp only [Act.put, List.getElem_toArray, List.getElem_cons_succ, List.getElem_cons_zero, List.setIfInBounds_toArray, List.set_cons_zero, List.set_cons_succ]
          refine wpAnyH_ready (rs := [40]) (by kernel_rfl) (by simp) ?_
          refine AllReadyH.cons rfl (fun K hK => ?_) AllReadyH.nil
          go_simp
          go_at_call 17
          refine (HO.out _).mono ?_
          rintro y w6 ⟨rfl, hb6⟩
          replace HXx := Lib.hid (HXx.out.below hb6 HXx.out.lt)
          replace HXy := Lib.hid (HXy.out.below hb6 HXy.out.lt)
          have HB55 := Lib.hid (HB54.out.trans (hb6.mono HB54.out.size))
          clear hb6
          try go_wp2_with fail
          refine hK.out _ _ ⟨HXy.out.cell 0, HXy.out.cell 1, HXy.out.cell 2, HXy.out.cell 3, HXy.out.cell 4, HXy.out.cell 5, HXy.out.cell 6, HXy.out.cell 7, HXx.out.cell 0, HXx.out.cell 1, HXx.out.cell 2, HXx.out.cell 3, HXx.out.cell 4, HXx.out.cell 5, HXx.out.cell 6, HXx.out.cell 7⟩ (fun hS => ?_)
          clear hK K
          try simp only [Act.put, List.getElem_toArray, List.getElem_cons_succ, List.getElem_cons_zero, List.setIfInBounds_toArray, List.set_cons_zero, List.set_cons_succ]
          refine wpAnyH_take (i := 41) (v := ?_) rfl (by kernel_rfl) (by kernel_rfl) (by kernel_rfl) (fun _ _ _ h => h) (Or.inl ⟨by kernel_rfl, ?_⟩) (by first | assumption | trivial) ?_
          rotate_left
          · intro w hSw
            try dsimp only at hSw
            first | (go_simp; done) | (go_simp; with_reducible rfl)
          try simp only [Act.put, List.getElem_toArray, List.getElem_cons_succ, List.getElem_cons_zero, List.setIfInBounds_toArray, List.set_cons_zero, List.set_cons_succ]
          refine wpAnyH_take (i := 42) (v := undef) rfl (by kernel_rfl) (by kernel_rfl) (by kernel_rfl) (fun _ _ _ h => h) (Or.inr ⟨by kernel_rfl, rfl⟩) (by first | assumption | trivial) ?_
          try simp only [Act.put, List.getElem_toArray, List.getElem_cons_succ, List.getElem_cons_zero, List.setIfInBounds_toArray, List.set_cons_zero, List.set_cons_succ]
          refine wpAnyH_take (i := 43) (v := undef) rfl (by kernel_rfl) (by kernel_rfl) (by kernel_rfl) (fun _ _ _ h => h) (Or.inr ⟨by kernel_rfl, rfl⟩) (by first | assumption | trivial) ?_
          try simp only [Act.put, List.getElem_toArray, List.getElem_cons_succ, List.getElem_cons_zero, List.setIfInBounds_toArray, List.set_cons_zero, List.set_cons_succ]
          refine wpAnyH_take (i := 44) (v := undef) rfl (by kernel_rfl) (by kernel_rfl) (by kernel_rfl) (fun _ _ _ h => h) (Or.inr ⟨by kernel_rfl, rfl⟩) (by first | assumption | trivial) ?_
          try simp only [Act.put, List.getElem_toArray, List.getElem_cons_succ, List.getElem_cons_zero, List.setIfInBounds_toArray, List.set_cons_zero, List.set_cons_succ]
          refine wpAnyH_take (i := 45) (v := ?_) rfl (by kernel_rfl) (by kernel_rfl) (by kernel_rfl) (fun _ _ _ h => h) (Or.inl ⟨by kernel_rfl, ?_⟩) (by first | assumption | trivial) ?_
          rotate_left
          · intro w hSw
            try dsimp only at hSw
            first | (go_simp; done) | (go_simp; with_reducible rfl)
          try simp only [Act.put, List.getElem_toArray, List.getElem_cons_succ, List.getElem_cons_zero, List.setIfInBounds_toArray, List.set_cons_zero, List.set_cons_succ]
          refine wpAnyH_take (i := 46) (v := ?_) rfl (by kernel_rfl) (by kernel_rfl) (by kernel_rfl) (fun _ _ _ h => h) (Or.inl ⟨by kernel_rfl, ?_⟩) (by first | assumption | trivial) ?_
          rotate_left
          · intro w hSw
            try dsimp only at hSw
            first | (go_simp; done) | (go_simp; with_reducible rfl)
          try simp only [Act.put, List.getElem_toArray, List.getElem_cons_succ, List.getElem_cons_zero, List.setIfInBounds_toArray, List.set_cons_zero, List.set_cons_succ]
          refine wpAnyH_take (i := 47) (v := ?_) rfl (by kernel_rfl) (by kernel_rfl) (by kernel_rfl) (fun _ _ _ h => h) (Or.inl ⟨by kernel_rfl, ?_⟩) (by first | assumption | trivial) ?_
          rotate_left
          · intro w hSw
            try dsimp only at hSw
            first | (go_simp; done) | (go_simp; with_reducible rfl)
          try simp only [Act.put, List.getElem_toArray, List.getElem_cons_succ, List.getElem_cons_zero, List.setIfInBounds_toArray, List.set_cons_zero, List.set_cons_succ]
          refine wpAnyH_take (i := 48) (v := ?_) rfl (by kernel_rfl) (by kernel_rfl) (by kernel_rfl) (fun _ _ _ h => h) (Or.inl ⟨by kernel_rfl, ?_⟩) (by first | assumption | trivial) ?_
          rotate_left
          · intro w hSw
            try dsimp only at hSw
            first | (go_simp; done) | (go_simp; with_reducible rfl)
          try simp only [Act.put, List.getElem_toArray, List.getElem_cons_succ, List.getElem_cons_zero, List.setIfInBounds_toArray, List.set_cons_zero, List.set_cons_succ]
          refine wpAnyH_take (i := 49) (v := ?_) rfl (by kernel_rfl) (by kernel_rfl) (by kernel_rfl) (fun _ _ _ h => h) (Or.inl ⟨by kernel_rfl, ?_⟩) (by first | assumption | trivial) ?_
          rotate_left
          · intro w hSw
            try dsimp only at hSw
            first | (go_simp; done) | (go_simp; with_reducible rfl)
          try simp only [Act.put, List.getElem_toArray, List.getElem_cons_succ, List.getElem_cons_zero, List.setIfInBounds_toArray, List.set_cons_zero, List.set_cons_succ]
          refine wpAnyH_take (i := 50) (v := ?_) rfl (by kernel_rfl) (by kernel_rfl) (by kernel_rfl) (fun _ _ _ h => h) (Or.inl ⟨by kernel_rfl, ?_⟩) (by first | assumption | trivial) ?_
          rotate_left
          · intro w hSw
            try dsimp only at hSw
            first | (go_simp; done) | (go_simp; with_reducible rfl)
          try simp only [Act.put, List.getElem_toArray, List.getElem_cons_succ, List.getElem_cons_zero, List.setIfInBounds_toArray, List.set_cons_zero, List.set_cons_succ]
          refine wpAnyH_take (i := 51) (v := undef) rfl (by kernel_rfl) (by kernel_rfl) (by kernel_rfl) (fun _ _ _ h => h) (Or.inr ⟨by kernel_rfl, rfl⟩) (by first | assumption | trivial) ?_
          try simp only [Act.put, List.getElem_toArray, List.getElem_cons_succ, List.getElem_cons_zero, List.setIfInBounds_toArray, List.set_cons_zero, List.set_cons_succ]
          refine wpAnyH_take (i := 52) (v := undef) rfl (by kernel_rfl) (by kernel_rfl) (by kernel_rfl) (fun _ _ _ h => h) (Or.inr ⟨by kernel_rfl, rfl⟩) (by first | assumption | trivial) ?_
          try simp only [Act.put, List.getElem_toArray, List.getElem_cons_succ, List.getElem_cons_zero, List.setIfInBounds_toArray, List.set_cons_zero, List.set_cons_succ]
          refine wpAnyH_take (i := 53) (v := undef) rfl (by kernel_rfl) (by kernel_rfl) (by kernel_rfl) (fun _ _ _ h => h) (Or.inr ⟨by kernel_rfl, rfl⟩) (by first | assumption | trivial) ?_
          try simp only [Act.put, List.getElem_toArray, List.getElem_cons_succ, List.getElem_cons_zero, List.setIfInBounds_toArray, List.set_cons_zero, List.set_cons_succ]
          refine wpAnyH_take (i := 54) (v := ?_) rfl (by kernel_rfl) (by kernel_rfl) (by kernel_rfl) (fun _ _ _ h => h) (Or.inl ⟨by kernel_rfl, ?_⟩) (by first | assumption | trivial) ?_
          rotate_left
          · intro w hSw
            try dsimp only at hSw
            first | (go_simp; done) | (go_simp; with_reducible rfl)
          try simp only [Act.put, List.getElem_toArray, List.getElem_cons_succ, List.getElem_cons_zero, List.setIfInBounds_toArray, List.set_cons_zero, List.set_cons_succ]
          refine wpAnyH_take (i := 55) (v := ?_) rfl (by kernel_rfl) (by kernel_rfl) (by kernel_rfl) (fun _ _ _ h => h) (Or.inl ⟨by kernel_rfl, ?_⟩) (by first | assumption | trivial) ?_
          rotate_left
          · intro w hSw
            try dsimp only at hSw
            first | (go_simp; done) | (go_simp; with_reducible rfl)
          try simp only [Act.put, List.getElem_toArray, List.getElem_cons_succ, List.getElem_cons_zero, List.setIfInBounds_toArray, List.set_cons_zero, List.set_cons_succ]
          refine wpAnyH_done (by kernel_rfl) ?_ _
          have cy0 : w6.cell? ⟨w3.heap.size, 0, none⟩ = some (.int .i64 X.s) := HXy.out.cell 0
          have cy1 : w6.cell? ⟨w3.heap.size, 1, none⟩ = some (.int .i64 X.n) := HXy.out.cell 1
          have cy2 : w6.cell? ⟨w3.heap.size, 2, none⟩ = some (.int .i64 X.b) := HXy.out.cell 2
          have cy3 : w6.cell? ⟨w3.heap.size, 3, none⟩ = some (.int .i64 X.c) := HXy.out.cell 3
          have cy4 : w6.cell? ⟨w3.heap.size, 4, none⟩ = some (.int .i64 X.a) := HXy.out.cell 4
          have cy5 : w6.cell? ⟨w3.heap.size, 5, none⟩ = some (.int .i64 r) := HXy.out.cell 5
          have cy6 : w6.cell? ⟨w3.heap.size, 6, none⟩ = some (.int .i64 t) := HXy.out.cell 6
          have cy7 : w6.cell? ⟨w3.heap.size, 7, none⟩ = some (.int .i64 z) := HXy.out.cell 7
          have ly := HXy.out.lt
          have cx0 : w6.cell? ⟨w.heap.size, 0, none⟩ = some (.int .i64 X.s) := HXx.out.cell 0
          have cx1 : w6.cell? ⟨w.heap.size, 1, none⟩ = some (.int .i64 X.n) := HXx.out.cell 1
          have cx2 : w6.cell? ⟨w.heap.size, 2, none⟩ = some (.int .i64 X.b) := HXx.out.cell 2
          have cx3 : w6.cell? ⟨w.heap.size, 3, none⟩ = some (.int .i64 X.c) := HXx.out.cell 3
          have cx4 : w6.cell? ⟨w.heap.size, 4, none⟩ = some (.int .i64 X.a) := HXx.out.cell 4
          have cx5 : w6.cell? ⟨w.heap.size, 5, none⟩ = some (.int .i64 X.r) := HXx.out.cell 5
          have cx6 : w6.cell? ⟨w.heap.size, 6, none⟩ = some (.int .i64 X.t) := HXx.out.cell 6
          have cx7 : w6.cell? ⟨w.heap.size, 7, none⟩ = some (.int .i64 X.y) := HXx.out.cell 7
          have frx0 := HXx.out.free 0
          have frx1 := HXx.out.free 1
          have frx2 := HXx.out.free 2
          have frx3 := HXx.out.free 3
          have frx4 := HXx.out.free 4
          have frx5 := HXx.out.free 5
          have frx6 := HXx.out.free 6
          have frx7 := HXx.out.free 7
          have lx := HXx.out.lt
          clear HO HKy HKx HA
          go_wp2_with fail
          have HNX : Hid (FRel w (⟨X.s, X.n, X.b, X.c, X.a, r, t, z⟩ : Itm) (set8 w6 w.heap.size (⟨X.s, X.n, X.b, X.c, X.a, r, t, z⟩ : Itm))) := ⟨blk_set8 (z := X) HXx.out (⟨X.s, X.n, X.b, X.c, X.a, r, t, z⟩ : Itm), below_set8 HB55.out (Nat.le_refl _) (⟨X.s, X.n, X.b, X.c, X.a, r, t, z⟩ : Itm), HY.out⟩
          go_roundw
          case rel => exact ⟨k + 1, (⟨X.s, X.n, X.b, X.c, X.a, r, t, z⟩ : Itm), by omega, by go_num, HNX⟩
          case measure => simp [intOf]; omega
        · skip
          have hsame := g8 he
          have s1 : am = X.a := congrArg Itm.a hsame
          have s2 : r = X.r := congrArg Itm.r hsame
          have s3 : t = X.t := congrArg Itm.t hsame
          have s4 : z = X.y := congrArg Itm.y hsame
          clear hsame
          subst s1 s2 s3 s4
          have ge1 : decide (3 ≤ X.t) = true := decide_eq_true hge
          have ge2 : decide (X.t ≥ 3) = true := ge1
          have en : (e != 0) = true := by simpa using he
          rw [Bool.not_eq_true] at hov
          rw [hov] at HO
          clear g6 g7 g8 he hov hge
          have hS0 : ((w3).alloc (.cells #[.int .i64 X.s, .int .i64 X.n, .int .i64 X.b, .int .i64 X.c, .int .i64 X.a, .int .i64 X.r, .int .i64 X.t, .int .i64 X.y] 25)).drew.cell? ⟨w3.heap.size, 0, none⟩ = some (.int .i64 X.s) ∧ ((w3).alloc (.cells #[.int .i64 X.s, .int .i64 X.n, .int .i64 X.b, .int .i64 X.c, .int .i64 X.a, .int .i64 X.r, .int .i64 X.t, .int .i64 X.y] 25)).drew.cell? ⟨w3.heap.size, 1, none⟩ = some (.int .i64 X.n) ∧ ((w3).alloc (.cells #[.int .i64 X.s, .int .i64 X.n, .int .i64 X.b, .int .i64 X.c, .int .i64 X.a, .int .i64 X.r, .int .i64 X.t, .int .i64 X.y] 25)).drew.cell? ⟨w3.heap.size, 2, none⟩ = some (.int .i64 X.b) ∧ ((w3).alloc (.cells #[.int .i64 X.s, .int .i64 X.n, .int .i64 X.b, .int .i64 X.c, .int .i64 X.a, .int .i64 X.r, .int .i64 X.t, .int .i64 X.y] 25)).drew.cell? ⟨w3.heap.size, 3, none⟩ = some (.int .i64 X.c) ∧ ((w3).alloc (.cells #[.int .i64 X.s, .int .i64 X.n, .int .i64 X.b, .int .i64 X.c, .int .i64 X.a, .int .i64 X.r, .int .i64 X.t, .int .i64 X.y] 25)).drew.cell? ⟨w3.heap.size, 4, none⟩ = some (.int .i64 X.a) ∧ ((w3).alloc (.cells #[.int .i64 X.s, .int .i64 X.n, .int .i64 X.b, .int .i64 X.c, .int .i64 X.a, .int .i64 X.r, .int .i64 X.t, .int .i64 X.y] 25)).drew.cell? ⟨w3.heap.size, 5, none⟩ = some (.int .i64 X.r) ∧ ((w3).alloc (.cells #[.int .i64 X.s, .int .i64 X.n, .int .i64 X.b, .int .i64 X.c, .int .i64 X.a, .int .i64 X.r, .int .i64 X.t, .int .i64 X.y] 25)).drew.cell? ⟨w3.heap.size, 6, none⟩ = some (.int .i64 X.t) ∧ ((w3).alloc (.cells #[.int .i64 X.s, .int .i64 X.n, .int .i64 X.b, .int .i64 X.c, .int .i64 X.a, .int .i64 X.r, .int .i64 X.t, .int .i64 X.y] 25)).drew.cell? ⟨w3.heap.size, 7, none⟩ = some (.int .i64 X.y) ∧ ((w3).alloc (.cells #[.int .i64 X.s, .int .i64 X.n, .int .i64 X.b, .int .i64 X.c, .int .i64 X.a, .int .i64 X.r, .int .i64 X.t, .int .i64 X.y] 25)).drew.cell? ⟨w.heap.size, 0, none⟩ = some (.int .i64 X.s) ∧ ((w3).alloc (.cells #[.int .i64 X.s, .int .i64 X.n, .int .i64 X.b, .int .i64 X.c, .int .i64 X.a, .int .i64 X.r, .int .i64 X.t, .int .i64 X.y] 25)).drew.cell? ⟨w.heap.size, 1, none⟩ = some (.int .i64 X.n) ∧ ((w3).alloc (.cells #[.int .i64 X.s, .int .i64 X.n, .int .i64 X.b, .int .i64 X.c, .int .i64 X.a, .int .i64 X.r, .int .i64 X.t, .int .i64 X.y] 25)).drew.cell? ⟨w.heap.size, 2, none⟩ = some (.int .i64 X.b) ∧ ((w3).alloc (.cells #[.int .i64 X.s, .int .i64 X.n, .int .i64 X.b, .int .i64 X.c, .int .i64 X.a, .int .i64 X.r, .int .i64 X.t, .int .i64 X.y] 25)).drew.cell? ⟨w.heap.size, 3, none⟩ = some (.int .i64 X.c) ∧ ((w3).alloc (.cells #[.int .i64 X.s, .int .i64 X.n, .int .i64 X.b, .int .i64 X.c, .int .i64 X.a, .int .i64 X.r, .int .i64 X.t, .int .i64 X.y] 25)).drew.cell? ⟨w.heap.size, 4, none⟩ = some (.int .i64 X.a) ∧ ((w3).alloc (.cells #[.int .i64 X.s, .int .i64 X.n, .int .i64 X.b, .int .i64 X.c, .int .i64 X.a, .int .i64 X.r, .int .i64 X.t, .int .i64 X.y] 25)).drew.cell? ⟨w.heap.size, 5, none⟩ = some (.int .i64 X.r) ∧ ((w3).alloc (.cells #[.int .i64 X.s, .int .i64 X.n, .int .i64 X.b, .int .i64 X.c, .int .i64 X.a, .int .i64 X.r, .int .i64 X.t, .int .i64 X.y] 25)).drew.cell? ⟨w.heap.size, 6, none⟩ = some (.int .i64 X.t) ∧ ((w3).alloc (.cells #[.int .i64 X.s, .int .i64 X.n, .int .i64 X.b, .int .i64 X.c, .int .i64 X.a, .int .i64 X.r, .int .i64 X.t, .int .i64 X.y] 25)).drew.cell? ⟨w.heap.size, 7, none⟩ = some (.int .i64 X.y) := ⟨HXy.out.cell 0, HXy.out.cell 1, HXy.out.cell 2, HXy.out.cell 3, HXy.out.cell 4, HXy.out.cell 5, HXy.out.cell 6, HXy.out.cell 7, HXx.out.cell 0, HXx.out.cell 1, HXx.out.cell 2, HXx.out.cell 3, HXx.out.cell 4, HXx.out.cell 5, HXx.out.cell 6, HXx.out.cell 7⟩
          have HS0 := Lib.hid hS0
          replace HB52 := Lib.hid HB52.out.drew
          replace HXx := Lib.hid HXx.out.drew
          replace HXy := Lib.hid HXy.out.drew
          clear hS0
          refine wp_region_held_drew (S := fun w' => w'.cell? ⟨w3.heap.size, 0, none⟩ = some (.int .i64 X.s) ∧ w'.cell? ⟨w3.heap.size, 1, none⟩ = some (.int .i64 X.n) ∧ w'.cell? ⟨w3.heap.size, 2, none⟩ = some (.int .i64 X.b) ∧ w'.cell? ⟨w3.heap.size, 3, none⟩ = some (.int .i64 X.c) ∧ w'.cell? ⟨w3.heap.size, 4, none⟩ = some (.int .i64 X.a) ∧ w'.cell? ⟨w3.heap.size, 5, none⟩ = some (.int .i64 X.r) ∧ w'.cell? ⟨w3.heap.size, 6, none⟩ = some (.int .i64 X.t) ∧ w'.cell? ⟨w3.heap.size, 7, none⟩ = some (.int .i64 X.y) ∧ w'.cell? ⟨w.heap.size, 0, none⟩ = some (.int .i64 X.s) ∧ w'.cell? ⟨w.heap.size, 1, none⟩ = some (.int .i64 X.n) ∧ w'.cell? ⟨w.heap.size, 2, none⟩ = some (.int .i64 X.b) ∧ w'.cell? ⟨w.heap.size, 3, none⟩ = some (.int .i64 X.c) ∧ w'.cell? ⟨w.heap.size, 4, none⟩ = some (.int .i64 X.a) ∧ w'.cell? ⟨w.heap.size, 5, none⟩ = some (.int .i64 X.r) ∧ w'.cell? ⟨w.heap.size, 6, none⟩ = some (.int .i64 X.t) ∧ w'.cell? ⟨w.heap.size, 7, none⟩ = some (.int .i64 X.y)) (by kernel_rfl) HS0.out (fun hS0 => ?_)
          refine wpAnyH_take (i := 0) (v := ?_) rfl (by kernel_rfl) (by kernel_rfl) (by kernel_rfl) (fun _ _ _ h => h) (Or.inl ⟨by kernel_rfl, ?_⟩) (by first | assumption | trivial) ?_
          rotate_left
          · intro w hSw
            try dsimp only at hSw
            first | (go_simp; done) | (go_simp; with_reducible rfl)
          try simp only [Act.put, List.getElem_toArray, List.getElem_cons_succ, List.getElem_cons_zero, List.setIfInBounds_toArray, List.set_cons_zero, List.set_cons_succ]
          refine wpAnyH_take (i := 2) (v := ?_) rfl (by kernel_rfl) (by kernel_rfl) (by kernel_rfl) (fun _ _ _ h => h) (Or.inl ⟨by kernel_rfl, ?_⟩) (by first | assumption | trivial) ?_
          rotate_left
          · intro w hSw
            try dsimp only at hSw
            first | (go_simp; done) | (go_simp; with_reducible rfl)
          try simp only [Act.put, List.getElem_toArray, List.getElem_cons_succ, List.getElem_cons_zero, List.setIfInBounds_toArray, List.set_cons_zero, List.set_cons_succ]
          refine wpAnyH_ready (rs := [1]) (by kernel_rfl) (by simp) ?_
          refine AllReadyH.cons rfl (fun K hK => ?_) AllReadyH.nil
          go_simp
          go_at_call 14
          refine (HKy.out _).mono ?_
          rintro y w4 ⟨rfl, hb4⟩
          replace HXx := Lib.hid (HXx.out.below hb4 HXx.out.lt)
          replace HXy := Lib.hid (HXy.out.below hb4 HXy.out.lt)
          have HB53 := Lib.hid (HB52.out.trans (hb4.mono HB52.out.size))
          clear hb4
          try go_wp2_with fail
          refine hK.out _ _ ⟨HXy.out.cell 0, HXy.out.cell 1, HXy.out.cell 2, HXy.out.cell 3, HXy.out.cell 4, HXy.out.cell 5, HXy.out.cell 6, HXy.out.cell 7, HXx.out.cell 0, HXx.out.cell 1, HXx.out.cell 2, HXx.out.cell 3, HXx.out.cell 4, HXx.out.cell 5, HXx.out.cell 6, HXx.out.cell 7⟩ (fun hS => ?_)
          clear hK K
          try simp only [Act.put, List.getElem_toArray, List.getElem_cons_succ, List.getElem_cons_zero, List.setIfInBounds_toArray, List.set_cons_zero, List.set_cons_succ]
          refine wpAnyH_ready (rs := [3]) (by kernel_rfl) (by simp) ?_
          refine AllReadyH.cons rfl (fun K hK => ?_) AllReadyH.nil
          go_simp
          go_at_call 14
          refine (HKx.out _).mono ?_
          rintro y w5 ⟨rfl, hb5⟩
          replace HXx := Lib.hid (HXx.out.below hb5 HXx.out.lt)
          replace HXy := Lib.hid (HXy.out.below hb5 HXy.out.lt)
          have HB54 := Lib.hid (HB53.out.trans (hb5.mono HB53.out.size))
          clear hb5
          try go_wp2_with fail
          refine hK.out _ _ ⟨HXy.out.cell 0, HXy.out.cell 1, HXy.out.cell 2, HXy.out.cell 3, HXy.out.cell 4, HXy.out.cell 5, HXy.out.cell 6, HXy.out.cell 7, HXx.out.cell 0, HXx.out.cell 1, HXx.out.cell 2, HXx.out.cell 3, HXx.out.cell 4, HXx.out.cell 5, HXx.out.cell 6, HXx.out.cell 7⟩ (fun hS => ?_)
          clear hK K
          try simp only [Act.put, List.getElem_toArray, List.getElem_cons_succ, List.getElem_cons_zero, List.setIfInBounds_toArray, List.set_cons_zero, List.set_cons_succ]
          refine wpAnyH_take (i := 4) (v := ?_) rfl (by kernel_rfl) (by kernel_rfl) (by kernel_rfl) (fun _ _ _ h => h) (Or.inl ⟨by kernel_rfl, ?_⟩) (by first | assumption | trivial) ?_
          rotate_left
          · intro w hSw
            try dsimp only at hSw
            first | (go_simp; done) | (go_simp; with_reducible rfl)
          try simp only [Act.put, List.getElem_toArray, List.getElem_cons_succ, List.getElem_cons_zero, List.setIfInBounds_toArray, List.set_cons_zero, List.set_cons_succ]
          refine wpAnyH_take (i := 5) (v := ?_) rfl (by kernel_rfl) (by kernel_rfl) (by kernel_rfl) (fun _ _ _ h => h) (Or.inl ⟨by kernel_rfl, ?_⟩) (by first | assumption | trivial) ?_
          rotate_left
          · intro w hSw
            try dsimp only at hSw
            first | (go_simp; done) | (go_simp; with_reducible rfl)
          try simp only [Act.put, List.getElem_toArray, List.getElem_cons_succ, List.getElem_cons_zero, List.setIfInBounds_toArray, List.set_cons_zero, List.set_cons_succ]
          refine wpAnyH_take (i := 6) (v := ?_) rfl (by kernel_rfl) (by kernel_rfl) (by kernel_rfl) (fun _ _ _ h => h) (Or.inl ⟨by kernel_rfl, ?_⟩) (by first | assumption | trivial) ?_
          rotate_left
          · intro w hSw
            try dsimp only at hSw
            first | (go_simp; done) | (go_simp; with_reducible rfl)
          try simp only [Act.put, List.getElem_toArray, List.getElem_cons_succ, List.getElem_cons_zero, List.setIfInBounds_toArray, List.set_cons_zero, List.set_cons_succ]
          refine wpAnyH_take (i := 7) (v := ?_) rfl (by kernel_rfl) (by kernel_rfl) (by kernel_rfl) (fun _ _ _ h => h) (Or.inl ⟨by kernel_rfl, ?_⟩) (by first | assumption | trivial) ?_
          rotate_left
          · intro w hSw
            try dsimp only at hSw
            first | (go_simp; done) | (go_simp; with_reducible rfl)
          try simp only [Act.put, List.getElem_toArray, List.getElem_cons_succ, List.getElem_cons_zero, List.setIfInBounds_toArray, List.set_cons_zero, List.set_cons_succ]
          refine wpAnyH_take (i := 8) (v := ?_) rfl (by kernel_rfl) (by kernel_rfl) (by kernel_rfl) (fun _ _ _ h => h) (Or.inl ⟨by kernel_rfl, ?_⟩) (by first | assumption | trivial) ?_
          rotate_left
          · intro w hSw
            try dsimp only at hSw
            first | (go_simp; done) | (go_simp; with_reducible rfl)
          try simp only [Act.put, List.getElem_toArray, List.getElem_cons_succ, List.getElem_cons_zero, List.setIfInBounds_toArray, List.set_cons_zero, List.set_cons_succ]
          refine wpAnyH_take (i := 9) (v := ?_) rfl (by kernel_rfl) (by kernel_rfl) (by kernel_rfl) (fun _ _ _ h => h) (Or.inl ⟨by kernel_rfl, ?_⟩) (by first | assumption | trivial) ?_
          rotate_left
          · intro w hSw
            try dsimp only at hSw
            first | (go_simp; done) | (go_simp; with_reducible rfl)
          try simp only [Act.put, List.getElem_toArray, List.getElem_cons_succ, List.getElem_cons_zero, List.setIfInBounds_toArray, List.set_cons_zero, List.set_cons_succ]
          refine wpAnyH_take (i := 10) (v := ?_) rfl (by kernel_rfl) (by kernel_rfl) (by kernel_rfl) (fun _ _ _ h => h) (Or.inl ⟨by kernel_rfl, ?_⟩) (by first | assumption | trivial) ?_
          rotate_left
          · intro w hSw
            try dsimp only at hSw
            first | (go_simp; done) | (go_simp; with_reducible rfl)
          try simp only [Act.put, List.getElem_toArray, List.getElem_cons_succ, List.getElem_cons_zero, List.setIfInBounds_toArray, List.set_cons_zero, List.set_cons_succ]
          refine wpAnyH_take (i := 11) (v := ?_) rfl (by kernel_rfl) (by kernel_rfl) (by kernel_rfl) (fun _ _ _ h => h) (Or.inl ⟨by kernel_rfl, ?_⟩) (by first | assumption | trivial) ?_
          rotate_left
          · intro w hSw
            try dsimp only at hSw
            first | (go_simp; done) | (go_simp; with_reducible rfl)
          try simp only [Act.put, List.getElem_toArray, List.getElem_cons_succ, List.getElem_cons_zero, List.setIfInBounds_toArray, List.set_cons_zero, List.set_cons_succ]
          refine wpAnyH_take (i := 12) (v := ?_) rfl (by kernel_rfl) (by kernel_rfl) (by kernel_rfl) (fun _ _ _ h => h) (Or.inl ⟨by kernel_rfl, ?_⟩) (by first | assumption | trivial) ?_
          rotate_left
          · intro w hSw
            try dsimp only at hSw
            first | (go_simp; done) | (go_simp; with_reducible rfl)
          try simp only [Act.put, List.getElem_toArray, List.getElem_cons_succ, List.getElem_cons_zero, List.setIfInBounds_toArray, List.set_cons_zero, List.set_cons_succ]
          refine wpAnyH_take (i := 13) (v := ?_) rfl (by kernel_rfl) (by kernel_rfl) (by kernel_rfl) (fun _ _ _ h => h) (Or.inl ⟨by kernel_rfl, ?_⟩) (by first | assumption | trivial) ?_
          rotate_left
          · intro w hSw
            try dsimp only at hSw
            first | (go_simp; done) | (go_simp; with_reducible rfl)
          try simp only [Act.put, List.getElem_toArray, List.getElem_cons_succ, List.getElem_cons_zero, List.setIfInBounds_toArray, List.set_cons_zero, List.set_cons_succ]
          refine wpAnyH_take (i := 14) (v := ?_) rfl (by kernel_rfl) (by kernel_rfl) (by kernel_rfl) (fun _ _ _ h => h) (Or.inl ⟨by kernel_rfl, ?_⟩) (by first | assumption | trivial) ?_
          rotate_left
          · intro w hSw
            try dsimp only at hSw
            first | (go_simp; done) | (go_simp; with_reducible rfl)
          try simp only [Act.put, List.getElem_toArray, List.getElem_cons_succ, List.getElem_cons_zero, List.setIfInBounds_toArray, List.set_cons_zero, List.set_cons_succ]
          refine wpAnyH_take (i := 15) (v := ?_) rfl (by kernel_rfl) (by kernel_rfl) (by kernel_rfl) (fun _ _ _ h => h) (Or.inl ⟨by kernel_rfl, ?_⟩) (by first | assumption | trivial) ?_
          rotate_left
          · intro w hSw
            try dsimp only at hSw
            first | (go_simp; done) | (go_simp; with_reducible rfl)
          try simp only [Act.put, List.getElem_toArray, List.getElem_cons_succ, List.getElem_cons_zero, List.setIfInBounds_toArray, List.set_cons_zero, List.set_cons_succ]
          refine wpAnyH_take (i := 16) (v := ?_) rfl (by kernel_rfl) (by kernel_rfl) (by kernel_rfl) (fun _ _ _ h => h) (Or.inl ⟨by kernel_rfl, ?_⟩) (by first | assumption | trivial) ?_
          rotate_left
          · intro w hSw
            try dsimp only at hSw
            first | (go_simp; done) | (go_simp; with_reducible rfl)
          try simp only [Act.put, List.getElem_toArray, List.getElem_cons_succ, List.getElem_cons_zero, List.setIfInBounds_toArray, List.set_cons_zero, List.set_cons_succ]
          refine wpAnyH_take (i := 17) (v := ?_) rfl (by kernel_rfl) (by kernel_rfl) (by kernel_rfl) (fun _ _ _ h => h) (Or.inl ⟨by kernel_rfl, ?_⟩) (by first | assumption | trivial) ?_
          rotate_left
          · intro w hSw
            try dsimp only at hSw
            first | (go_simp; done) | (go_simp; with_reducible rfl)
          try simp only [Act.put, List.getElem_toArray, List.getElem_cons_succ, List.getElem_cons_zero, List.setIfInBounds_toArray, List.set_cons_zero, List.set_cons_succ]
          refine wpAnyH_take (i := 18) (v := ?_) rfl (by kernel_rfl) (by kernel_rfl) (by kernel_rfl) (fun _ _ _ h => h) (Or.inl ⟨by kernel_rfl, ?_⟩) (by first | assumption | trivial) ?_
          rotate_left
          · intro w hSw
            try dsimp only at hSw
            first | (go_simp; done) | (go_simp; with_reducible rfl)
          try simp only [Act.put, List.getElem_toArray, List.getElem_cons_succ, List.getElem_cons_zero, List.setIfInBounds_toArray, List.set_cons_zero, List.set_cons_succ]
          refine wpAnyH_take (i := 19) (v := ?_) rfl (by kernel_rfl) (by kernel_rfl) (by kernel_rfl) (fun _ _ _ h => h) (Or.inl ⟨by kernel_rfl, ?_⟩) (by first | assumption | trivial) ?_
          rotate_left
          · intro w hSw
            try dsimp only at hSw
            first | (go_simp; done) | (go_simp; with_reducible rfl)
          try simp only [Act.put, List.getElem_toArray, List.getElem_cons_succ, List.getElem_cons_zero, List.setIfInBounds_toArray, List.set_cons_zero, List.set_cons_succ]
          refine wpAnyH_take (i := 20) (v := ?_) rfl (by kernel_rfl) (by kernel_rfl) (by kernel_rfl) (fun _ _ _ h => h) (Or.inl ⟨by kernel_rfl, ?_⟩) (by first | assumption | trivial) ?_
          rotate_left
          · intro w hSw
            try dsimp only at hSw
            first | (go_simp; done) | (go_simp; with_reducible rfl)
          try simp only [Act.put, List.getElem_toArray, List.getElem_cons_succ, List.getElem_cons_zero, List.setIfInBounds_toArray, List.set_cons_zero, List.set_cons_succ]
          refine wpAnyH_take (i := 21) (v := ?_) rfl (by kernel_rfl) (by kernel_rfl) (by kernel_rfl) (fun _ _ _ h => h) (Or.inl ⟨by kernel_rfl, ?_⟩) (by first | assumption | trivial) ?_
          rotate_left
          · intro w hSw
            try dsimp only at hSw
            first | (go_simp; done) | (go_simp; with_reducible rfl)
          try simp only [Act.put, List.getElem_toArray, List.getElem_cons_succ, List.getElem_cons_zero, List.setIfInBounds_toArray, List.set_cons_zero, List.set_cons_succ]
          refine wpAnyH_take (i := 22) (v := ?_) rfl (by kernel_rfl) (by kernel_rfl) (by kernel_rfl) (fun _ _ _ h => h) (Or.inl ⟨by kernel_rfl, ?_⟩) (by first | assumption | trivial) ?_
          rotate_left
          · intro w hSw
            try dsimp only at hSw
            first | (go_simp; done) | (go_simp; with_reducible rfl)
          try simp only [Act.put, List.getElem_toArray, List.getElem_cons_succ, List.getElem_cons_zero, List.setIfInBounds_toArray, List.set_cons_zero, List.set_cons_succ]
          refine wpAnyH_take (i := 23) (v := ?_) rfl (by kernel_rfl) (by kernel_rfl) (by kernel_rfl) (fun _ _ _ h => h) (Or.inl ⟨by kernel_rfl, ?_⟩) (by first | assumption | trivial) ?_
          rotate_left
          · intro w hSw
            try dsimp only at hSw
            first | (go_simp; done) | (go_simp; with_reducible rfl)
          try simp only [Act.put, List.getElem_toArray, List.getElem_cons_succ, List.getElem_cons_zero, List.setIfInBounds_toArray, List.set_cons_zero, List.set_cons_succ]
          refine wpAnyH_take (i := 24) (v := ?_) rfl (by kernel_rfl) (by kernel_rfl) (by kernel_rfl) (fun _ _ _ h => h) (Or.inl ⟨by kernel_rfl, ?_⟩) (by first | assumption | trivial) ?_
          rotate_left
          · intro w hSw
            try dsimp only at hSw
            first | (go_simp; done) | (go_simp; with_reducible rfl)
          try simp only [Act.put, List.getElem_toArray, List.getElem_cons_succ, List.getElem_cons_zero, List.setIfInBounds_toArray, List.set_cons_zero, List.set_cons_succ]
          refine wpAnyH_take (i := 25) (v := ?_) rfl (by kernel_rfl) (by kernel_rfl) (by kernel_rfl) (fun _ _ _ h => h) (Or.inl ⟨by kernel_rfl, ?_⟩) (by first | assumption | trivial) ?_
          rotate_left
          · intro w hSw
            try dsimp only at hSw
            first | (go_simp; done) | (go_simp; with_reducible rfl)
          try simp only [Act.put, List.getElem_toArray, List.getElem_cons_succ, List.getElem_cons_zero, List.setIfInBounds_toArray, List.set_cons_zero, List.set_cons_succ]
          refine wpAnyH_take (i := 26) (v := ?_) rfl (by kernel_rfl) (by kernel_rfl) (by kernel_rfl) (fun _ _ _ h => h) (Or.inl ⟨by kernel_rfl, ?_⟩) (by first | assumption | trivial) ?_
          rotate_left
          · intro w hSw
            try dsimp only at hSw
            first | (go_simp; done) | (go_simp; with_reducible rfl)
          try simp only [Act.put, List.getElem_toArray, List.getElem_cons_succ, List.getElem_cons_zero, List.setIfInBounds_toArray, List.set_cons_zero, List.set_cons_succ]
          refine wpAnyH_take (i := 27) (v := ?_) rfl (by kernel_rfl) (by kernel_rfl) (by kernel_rfl) (fun _ _ _ h => h) (Or.inl ⟨by kernel_rfl, ?_⟩) (by first | assumption | trivial) ?_
          rotate_left
          · intro w hSw
            try dsimp only at hSw
            first | (go_simp; done) | (go_simp; with_reducible rfl)
          try simp only [Act.put, List.getElem_toArray, List.getElem_cons_succ, List.getElem_cons_zero, List.setIfInBounds_toArray, List.set_cons_zero, List.set_cons_succ]
          refine wpAnyH_take (i := 28) (v := ?_) rfl (by kernel_rfl) (by kernel_rfl) (by kernel_rfl) (fun _ _ _ h => h) (Or.inl ⟨by kernel_rfl, ?_⟩) (by first | assumption | trivial) ?_
          rotate_left
          · intro w hSw
            try dsimp only at hSw
            first | (go_simp; done) | (go_simp; with_reducible rfl)
          try simp only [Act.put, List.getElem_toArray, List.getElem_cons_succ, List.getElem_cons_zero, List.setIfInBounds_toArray, List.set_cons_zero, List.set_cons_succ]
          refine wpAnyH_take (i := 29) (v := ?_) rfl (by kernel_rfl) (by kernel_rfl) (by kernel_rfl) (fun _ _ _ h => h) (Or.inl ⟨by kernel_rfl, ?_⟩) (by first | assumption | trivial) ?_
          rotate_left
          · intro w hSw
            try dsimp only at hSw
            first | (go_simp; done) | (go_simp; with_reducible rfl)
          try simp only [Act.put, List.getElem_toArray, List.getElem_cons_succ, List.getElem_cons_zero, List.setIfInBounds_toArray, List.set_cons_zero, List.set_cons_succ]
          refine wpAnyH_take (i := 30) (v := ?_) rfl (by kernel_rfl) (by kernel_rfl) (by kernel_rfl) (fun _ _ _ h => h) (Or.inl ⟨by kernel_rfl, ?_⟩) (by first | assumption | trivial) ?_
          rotate_left
          · intro w hSw
            try dsimp only at hSw
            first | (go_simp; done) | (go_simp; with_reducible rfl)
          try simp only [Act.put, List.getElem_toArray, List.getElem_cons_succ, List.getElem_cons_zero, List.setIfInBounds_toArray, List.set_cons_zero, List.set_cons_succ]
          refine wpAnyH_take (i := 31) (v := ?_) rfl (by kernel_rfl) (by kernel_rfl) (by kernel_rfl) (fun _ _ _ h => h) (Or.inl ⟨by kernel_rfl, ?_⟩) (by first | assumption | trivial) ?_
          rotate_left
          · intro w hSw
            try dsimp only at hSw
            first | (go_simp; done) | (go_simp; with_reducible rfl)
          try simp only [Act.put, List.getElem_toArray, List.getElem_cons_succ, List.getElem_cons_zero, List.setIfInBounds_toArray, List.set_cons_zero, List.set_cons_succ]
          refine wpAnyH_take (i := 32) (v := ?_) rfl (by kernel_rfl) (by kernel_rfl) (by kernel_rfl) (fun _ _ _ h => h) (Or.inl ⟨by kernel_rfl, ?_⟩) (by first | assumption | trivial) ?_
          rotate_left
          · intro w hSw
            try dsimp only at hSw
            first | (go_simp; done) | (go_simp; with_reducible rfl)
          try simp only [Act.put, List.getElem_toArray, List.getElem_cons_succ, List.getElem_cons_zero, List.setIfInBounds_toArray, List.set_cons_zero, List.set_cons_succ]
          refine wpAnyH_take (i := 33) (v := ?_) rfl (by kernel_rfl) (by kernel_rfl) (by kernel_rfl) (fun _ _ _ h => h) (Or.inl ⟨by kernel_rfl, ?_⟩) (by first | assumption | trivial) ?_
          rotate_left
          · intro w hSw
            try dsimp only at hSw
            first | (go_simp; done) | (go_simp; with_reducible rfl)
          try simp only [Act.put, List.getElem_toArray, List.getElem_cons_succ, List.getElem_cons_zero, List.setIfInBounds_toArray, List.set_cons_zero, List.set_cons_succ]
          refine wpAnyH_take (i := 34) (v := ?_) rfl (by kernel_rfl) (by kernel_rfl) (by kernel_rfl) (fun _ _ _ h => h) (Or.inl ⟨by kernel_rfl, ?_⟩) (by first | assumption | trivial) ?_
          rotate_left
          · intro w hSw
            try dsimp only at hSw
            first | (go_simp; done) | (go_simp; with_reducible rfl)
          try simp only [Act.put, List.getElem_toArray, List.getElem_cons_succ, List.getElem_cons_zero, List.setIfInBounds_toArray, List.set_cons_zero, List.set_cons_succ]
          refine wpAnyH_take (i := 35) (v := ?_) rfl (by kernel_rfl) (by kernel_rfl) (by kernel_rfl) (fun _ _ _ h => h) (Or.inl ⟨by kernel_rfl, ?_⟩) (by first | assumption | trivial) ?_
          rotate_left
          · intro w hSw
            try dsimp only at hSw
            first | (go_simp; done) | (go_simp; with_reducible rfl)
          try simp only [Act.put, List.getElem_toArray, List.getElem_cons_succ, List.getElem_cons_zero, List.setIfInBounds_toArray, List.set_cons_zero, List.set_cons_succ]
          refine wpAnyH_take (i := 36) (v := ?_) rfl (by kernel_rfl) (by kernel_rfl) (by kernel_rfl) (fun _ _ _ h => h) (Or.inl ⟨by kernel_rfl, ?_⟩) (by first | assumption | trivial) ?_
          rotate_left
          · intro w hSw
            try dsimp only at hSw
            first | (go_simp; done) | (go_simp; with_reducible rfl)
          try simp only [Act.put, List.getElem_toArray, List.getElem_cons_succ, List.getElem_cons_zero, List.setIfInBounds_toArray, List.set_cons_zero, List.set_cons_succ]
          refine wpAnyH_take (i := 37) (v := ?_) rfl (by kernel_rfl) (by kernel_rfl) (by kernel_rfl) (fun _ _ _ h => h) (Or.inl ⟨by kernel_rfl, ?_⟩) (by first | assumption | trivial) ?_
          rotate_left
          · intro w hSw
            try dsimp only at hSw
            first | (go_simp; done) | (go_simp; with_reducible rfl)
          try simp only [Act.put, List.getElem_toArray, List.getElem_cons_succ, List.getElem_cons_zero, List.setIfInBounds_toArray, List.set_cons_zero, List.set_cons_succ]
          refine wpAnyH_take (i := 38) (v := ?_) rfl (by kernel_rfl) (by kernel_rfl) (by kernel_rfl) (fun _ _ _ h => h) (Or.inl ⟨by kernel_rfl, ?_⟩) (by first | assumption | trivial) ?_
          rotate_left
          · intro w hSw
            try dsimp only at hSw
            first | (go_simp; done) | (go_simp; with_reducible rfl)
          try simp only [Act.put, List.getElem_toArray, List.getElem_cons_succ, List.getElem_cons_zero, List.setIfInBounds_toArray, List.set_cons_zero, List.set_cons_succ]
          refine wpAnyH_take (i := 39) (v := ?_) rfl (by kernel_rfl) (by kernel_rfl) (by kernel_rfl) (fun _ _ _ h => h) (Or.inl ⟨by kernel_rfl, ?_⟩) (by first | assumption | trivial) ?_
          rotate_left
          · intro w hSw
            try dsimp only at hSw
            first | (go_simp; done) | (go_simp; with_reducible rfl)
          try simp only [Act.put, List.getElem_toArray, List.getElem_cons_succ, List.getElem_cons_zero, List.setIfInBounds_toArray, List.set_cons_zero, List.set_cons_succ]
          refine wpAnyH_ready (rs := [40]) (by kernel_rfl) (by simp) ?_
          refine AllReadyH.cons rfl (fun K hK => ?_) AllReadyH.nil
          go_simp
          go_at_call 17
          refine (HO.out _).mono ?_
          rintro y w6 ⟨rfl, hb6⟩
          replace HXx := Lib.hid (HXx.out.below hb6 HXx.out.lt)
          replace HXy := Lib.hid (HXy.out.below hb6 HXy.out.lt)
          have HB55 := Lib.hid (HB54.out.trans (hb6.mono HB54.out.size))
          clear hb6
          try go_wp2_with fail
          refine hK.out _ _ ⟨HXy.out.cell 0, HXy.out.cell 1, HXy.out.cell 2, HXy.out.cell 3, HXy.out.cell 4, HXy.out.cell 5, HXy.out.cell 6, HXy.out.cell 7, HXx.out.cell 0, HXx.out.cell 1, HXx.out.cell 2, HXx.out.cell 3, HXx.out.cell 4, HXx.out.cell 5, HXx.out.cell 6, HXx.out.cell 7⟩ (fun hS => ?_)
          clear hK K
          try simp only [Act.put, List.getElem_toArray, List.getElem_cons_succ, List.getElem_cons_zero, List.setIfInBounds_toArray, List.set_cons_zero, List.set_cons_succ]
          refine wpAnyH_take (i := 41) (v := ?_) rfl (by kernel_rfl) (by kernel_rfl) (by kernel_rfl) (fun _ _ _ h => h) (Or.inl ⟨by kernel_rfl, ?_⟩) (by first | assumption | trivial) ?_
          rotate_left
          · intro w hSw
            try dsimp only at hSw
            first | (go_simp; done) | (go_simp; with_reducible rfl)
          try simp only [Act.put, List.getElem_toArray, List.getElem_cons_succ, List.getElem_cons_zero, List.setIfInBounds_toArray, List.set_cons_zero, List.set_cons_succ]
          refine wpAnyH_take (i := 42) (v := undef) rfl (by kernel_rfl) (by kernel_rfl) (by kernel_rfl) (fun _ _ _ h => h) (Or.inr ⟨by kernel_rfl, rfl⟩) (by first | assumption | trivial) ?_
          try simp only [Act.put, List.getElem_toArray, List.getElem_cons_succ, List.getElem_cons_zero, List.setIfInBounds_toArray, List.set_cons_zero, List.set_cons_succ]
          refine wpAnyH_take (i := 43) (v := undef) rfl (by kernel_rfl) (by kernel_rfl) (by kernel_rfl) (fun _ _ _ h => h) (Or.inr ⟨by kernel_rfl, rfl⟩) (by first | assumption | trivial) ?_
          try simp only [Act.put, List.getElem_toArray, List.getElem_cons_succ, List.getElem_cons_zero, List.setIfInBounds_toArray, List.set_cons_zero, List.set_cons_succ]
          refine wpAnyH_take (i := 44) (v := undef) rfl (by kernel_rfl) (by kernel_rfl) (by kernel_rfl) (fun _ _ _ h => h) (Or.inr ⟨by kernel_rfl, rfl⟩) (by first | assumption | trivial) ?_
          try simp only [Act.put, List.getElem_toArray, List.getElem_cons_succ, List.getElem_cons_zero, List.setIfInBounds_toArray, List.set_cons_zero, List.set_cons_succ]
          refine wpAnyH_take (i := 45) (v := ?_) rfl (by kernel_rfl) (by kernel_rfl) (by kernel_rfl) (fun _ _ _ h => h) (Or.inl ⟨by kernel_rfl, ?_⟩) (by first | assumption | trivial) ?_
          rotate_left
          · intro w hSw
            try dsimp only at hSw
            first | (go_simp; done) | (go_simp; with_reducible rfl)
          try simp only [Act.put, List.getElem_toArray, List.getElem_cons_succ, List.getElem_cons_zero, List.setIfInBounds_toArray, List.set_cons_zero, List.set_cons_succ]
          refine wpAnyH_take (i := 46) (v := ?_) rfl (by kernel_rfl) (by kernel_rfl) (by kernel_rfl) (fun _ _ _ h => h) (Or.inl ⟨by kernel_rfl, ?_⟩) (by first | assumption | trivial) ?_
          rotate_left
          · intro w hSw
            try dsimp only at hSw
            first | (go_simp; done) | (go_simp; with_reducible rfl)
          try simp only [Act.put, List.getElem_toArray, List.getElem_cons_succ, List.getElem_cons_zero, List.setIfInBounds_toArray, List.set_cons_zero, List.set_cons_succ]
          refine wpAnyH_take (i := 47) (v := ?_) rfl (by kernel_rfl) (by kernel_rfl) (by kernel_rfl) (fun _ _ _ h => h) (Or.inl ⟨by kernel_rfl, ?_⟩) (by first | assumption | trivial) ?_
          rotate_left
          · intro w hSw
            try dsimp only at hSw
            first | (go_simp; done) | (go_simp; with_reducible rfl)
          try simp only [Act.put, List.getElem_toArray, List.getElem_cons_succ, List.getElem_cons_zero, List.setIfInBounds_toArray, List.set_cons_zero, List.set_cons_succ]
          refine wpAnyH_take (i := 48) (v := ?_) rfl (by kernel_rfl) (by kernel_rfl) (by kernel_rfl) (fun _ _ _ h => h) (Or.inl ⟨by kernel_rfl, ?_⟩) (by first | assumption | trivial) ?_
          rotate_left
          · intro w hSw
            try dsimp only at hSw
            first | (go_simp; done) | (go_simp; with_reducible rfl)
          try simp only [Act.put, List.getElem_toArray, List.getElem_cons_succ, List.getElem_cons_zero, List.setIfInBounds_toArray, List.set_cons_zero, List.set_cons_succ]
          refine wpAnyH_take (i := 49) (v := ?_) rfl (by kernel_rfl) (by kernel_rfl) (by kernel_rfl) (fun _ _ _ h => h) (Or.inl ⟨by kernel_rfl, ?_⟩) (by first | assumption | trivial) ?_
          rotate_left
          · intro w hSw
            try dsimp only at hSw
            first | (go_simp; done) | (go_simp; with_reducible rfl)
          try simp only [Act.put, List.getElem_toArray, List.getElem_cons_succ, List.getElem_cons_zero, List.setIfInBounds_toArray, List.set_cons_zero, List.set_cons_succ]
          refine wpAnyH_take (i := 50) (v := ?_) rfl (by kernel_rfl) (by kernel_rfl) (by kernel_rfl) (fun _ _ _ h => h) (Or.inl ⟨by kernel_rfl, ?_⟩) (by first | assumption | trivial) ?_
          rotate_left
          · intro w hSw
            try dsimp only at hSw
            first | (go_simp; done) | (go_simp; with_reducible rfl)
          try simp only [Act.put, List.getElem_toArray, List.getElem_cons_succ, List.getElem_cons_zero, List.setIfInBounds_toArray, List.set_cons_zero, List.set_cons_succ]
          refine wpAnyH_take (i := 51) (v := ?_) rfl (by kernel_rfl) (by kernel_rfl) (by kernel_rfl) (fun _ _ _ h => h) (Or.inl ⟨by kernel_rfl, ?_⟩) (by first | assumption | trivial) ?_
          rotate_left
          · intro w hSw
            try dsimp only at hSw
            first | (go_simp; done) | (go_simp; with_reducible rfl)
          try simp only [Act.put, List.getElem_toArray, List.getElem_cons_succ, List.getElem_cons_zero, List.setIfInBounds_toArray, List.set_cons_zero, List.set_cons_succ]
          refine wpAnyH_take (i := 52) (v := ?_) rfl (by kernel_rfl) (by kernel_rfl) (by kernel_rfl) (fun _ _ _ h => h) (Or.inl ⟨by kernel_rfl, ?_⟩) (by first | assumption | trivial) ?_
          rotate_left
          · intro w hSw
            try dsimp only at hSw
            first | (go_simp; done) | (go_simp; with_reducible rfl)
          try simp only [Act.put, List.getElem_toArray, List.getElem_cons_succ, List.getElem_cons_zero, List.setIfInBounds_toArray, List.set_cons_zero, List.set_cons_succ]
          refine wpAnyH_take (i := 53) (v := ?_) rfl (by kernel_rfl) (by kernel_rfl) (by kernel_rfl) (fun _ _ _ h => h) (Or.inl ⟨by kernel_rfl, ?_⟩) (by first | assumption | trivial) ?_
          rotate_left
          · intro w hSw
            try dsimp only at hSw
            first | (go_simp; done) | (go_simp; with_reducible rfl)
          try simp only [Act.put, List.getElem_toArray, List.getElem_cons_succ, List.getElem_cons_zero, List.setIfInBounds_toArray, List.set_cons_zero, List.set_cons_succ]
          refine wpAnyH_take (i := 54) (v := ?_) rfl (by kernel_rfl) (by kernel_rfl) (by kernel_rfl) (fun _ _ _ h => h) (Or.inl ⟨by kernel_rfl, ?_⟩) (by first | assumption | trivial) ?_
          rotate_left
          · intro w hSw
            try dsimp only at hSw
            first | (go_simp; done) | (go_simp; with_reducible rfl)
          try simp only [Act.put, List.getElem_toArray, List.getElem_cons_succ, List.getElem_cons_zero, List.setIfInBounds_toArray, List.set_cons_zero, List.set_cons_succ]
          refine wpAnyH_take (i := 55) (v := ?_) rfl (by kernel_rfl) (by kernel_rfl) (by kernel_rfl) (fun _ _ _ h => h) (Or.inl ⟨by kernel_rfl, ?_⟩) (by first | assumption | trivial) ?_
          rotate_left
          · intro w hSw
            try dsimp only at hSw
            first | (go_simp; done) | (go_simp; with_reducible rfl)
          try simp only [Act.put, List.getElem_toArray, List.getElem_cons_succ, List.getElem_cons_zero, List.setIfInBounds_toArray, List.set_cons_zero, List.set_cons_succ]
          refine wpAnyH_done (by kernel_rfl) ?_ _
          have cy0 : w6.cell? ⟨w3.heap.size, 0, none⟩ = some (.int .i64 X.s) := HXy.out.cell 0
          have cy1 : w6.cell? ⟨w3.heap.size, 1, none⟩ = some (.int .i64 X.n) := HXy.out.cell 1
          have cy2 : w6.cell? ⟨w3.heap.size, 2, none⟩ = some (.int .i64 X.b) := HXy.out.cell 2
          have cy3 : w6.cell? ⟨w3.heap.size, 3, none⟩ = some (.int .i64 X.c) := HXy.out.cell 3
          have cy4 : w6.cell? ⟨w3.heap.size, 4, none⟩ = some (.int .i64 X.a) := HXy.out.cell 4
          have cy5 : w6.cell? ⟨w3.heap.size, 5, none⟩ = some (.int .i64 X.r) := HXy.out.cell 5
          have cy6 : w6.cell? ⟨w3.heap.size, 6, none⟩ = some (.int .i64 X.t) := HXy.out.cell 6
          have cy7 : w6.cell? ⟨w3.heap.size, 7, none⟩ = some (.int .i64 X.y) := HXy.out.cell 7
          have ly := HXy.out.lt
          have cx0 : w6.cell? ⟨w.heap.size, 0, none⟩ = some (.int .i64 X.s) := HXx.out.cell 0
          have cx1 : w6.cell? ⟨w.heap.size, 1, none⟩ = some (.int .i64 X.n) := HXx.out.cell 1
          have cx2 : w6.cell? ⟨w.heap.size, 2, none⟩ = some (.int .i64 X.b) := HXx.out.cell 2
          have cx3 : w6.cell? ⟨w.heap.size, 3, none⟩ = some (.int .i64 X.c) := HXx.out.cell 3
          have cx4 : w6.cell? ⟨w.heap.size, 4, none⟩ = some (.int .i64 X.a) := HXx.out.cell 4
          have cx5 : w6.cell? ⟨w.heap.size, 5, none⟩ = some (.int .i64 X.r) := HXx.out.cell 5
          have cx6 : w6.cell? ⟨w.heap.size, 6, none⟩ = some (.int .i64 X.t) := HXx.out.cell 6
          have cx7 : w6.cell? ⟨w.heap.size, 7, none⟩ = some (.int .i64 X.y) := HXx.out.cell 7
          have frx0 := HXx.out.free 0
          have frx1 := HXx.out.free 1
          have frx2 := HXx.out.free 2
          have frx3 := HXx.out.free 3
          have frx4 := HXx.out.free 4
          have frx5 := HXx.out.free 5
          have frx6 := HXx.out.free 6
          have frx7 := HXx.out.free 7
          have lx := HXx.out.lt
          clear HO HKy HKx HA
          go_wp2_with fail
          have HNX : Hid (FRel w X (set8 w6 w.heap.size X)) := ⟨blk_set8 (z := X) HXx.out X, below_set8 HB55.out (Nat.le_refl _) X, HY.out⟩
          go_roundw
          case rel => exact ⟨k + 1, X, by omega, by go_num, HNX⟩
          case measure => simp [intOf]; omega
    · have hov : overI X = false := decide_eq_false (by omega)
      by_cases he : e = 0
      · skip
        have ge1 : decide (3 ≤ X.t) = false := decide_eq_false hge
        have ge2 : decide (X.t ≥ 3) = false := ge1
        have en : (e != 0) = false := by simpa using he
        rw [hov] at HO
        clear g6 g7 g8 he hov hge
        have hS0 : ((w3).alloc (.cells #[.int .i64 X.s, .int .i64 X.n, .int .i64 X.b, .int .i64 X.c, .int .i64 am, .int .i64 r, .int .i64 t, .int .i64 z] 25)).drew.cell? ⟨w3.heap.size, 0, none⟩ = some (.int .i64 X.s) ∧ ((w3).alloc (.cells #[.int .i64 X.s, .int .i64 X.n, .int .i64 X.b, .int .i64 X.c, .int .i64 am, .int .i64 r, .int .i64 t, .int .i64 z] 25)).drew.cell? ⟨w3.heap.size, 1, none⟩ = some (.int .i64 X.n) ∧ ((w3).alloc (.cells #[.int .i64 X.s, .int .i64 X.n, .int .i64 X.b, .int .i64 X.c, .int .i64 am, .int .i64 r, .int .i64 t, .int .i64 z] 25)).drew.cell? ⟨w3.heap.size, 2, none⟩ = some (.int .i64 X.b) ∧ ((w3).alloc (.cells #[.int .i64 X.s, .int .i64 X.n, .int .i64 X.b, .int .i64 X.c, .int .i64 am, .int .i64 r, .int .i64 t, .int .i64 z] 25)).drew.cell? ⟨w3.heap.size, 3, none⟩ = some (.int .i64 X.c) ∧ ((w3).alloc (.cells #[.int .i64 X.s, .int .i64 X.n, .int .i64 X.b, .int .i64 X.c, .int .i64 am, .int .i64 r, .int .i64 t, .int .i64 z] 25)).drew.cell? ⟨w3.heap.size, 4, none⟩ = some (.int .i64 am) ∧ ((w3).alloc (.cells #[.int .i64 X.s, .int .i64 X.n, .int .i64 X.b, .int .i64 X.c, .int .i64 am, .int .i64 r, .int .i64 t, .int .i64 z] 25)).drew.cell? ⟨w3.heap.size, 5, none⟩ = some (.int .i64 r) ∧ ((w3).alloc (.cells #[.int .i64 X.s, .int .i64 X.n, .int .i64 X.b, .int .i64 X.c, .int .i64 am, .int .i64 r, .int .i64 t, .int .i64 z] 25)).drew.cell? ⟨w3.heap.size, 6, none⟩ = some (.int .i64 t) ∧ ((w3).alloc (.cells #[.int .i64 X.s, .int .i64 X.n, .int .i64 X.b, .int .i64 X.c, .int .i64 am, .int .i64 r, .int .i64 t, .int .i64 z] 25)).drew.cell? ⟨w3.heap.size, 7, none⟩ = some (.int .i64 z) ∧ ((w3).alloc (.cells #[.int .i64 X.s, .int .i64 X.n, .int .i64 X.b, .int .i64 X.c, .int .i64 am, .int .i64 r, .int .i64 t, .int .i64 z] 25)).drew.cell? ⟨w.heap.size, 0, none⟩ = some (.int .i64 X.s) ∧ ((w3).alloc (.cells #[.int .i64 X.s, .int .i64 X.n, .int .i64 X.b, .int .i64 X.c, .int .i64 am, .int .i64 r, .int .i64 t, .int .i64 z] 25)).drew.cell? ⟨w.heap.size, 1, none⟩ = some (.int .i64 X.n) ∧ ((w3).alloc (.cells #[.int .i64 X.s, .int .i64 X.n, .int .i64 X.b, .int .i64 X.c, .int .i64 am, .int .i64 r, .int .i64 t, .int .i64 z] 25)).drew.cell? ⟨w.heap.size, 2, none⟩ = some (.int .i64 X.b) ∧ ((w3).alloc (.cells #[.int .i64 X.s, .int .i64 X.n, .int .i64 X.b, .int .i64 X.c, .int .i64 am, .int .i64 r, .int .i64 t, .int .i64 z] 25)).drew.cell? ⟨w.heap.size, 3, none⟩ = some (.int .i64 X.c) ∧ ((w3).alloc (.cells #[.int .i64 X.s, .int .i64 X.n, .int .i64 X.b, .int .i64 X.c, .int .i64 am, .int .i64 r, .int .i64 t, .int .i64 z] 25)).drew.cell? ⟨w.heap.size, 4, none⟩ = some (.int .i64 X.a) ∧ ((w3).alloc (.cells #[.int .i64 X.s, .int .i64 X.n, .int .i64 X.b, .int .i64 X.c, .int .i64 am, .int .i64 r, .int .i64 t, .int .i64 z] 25)).drew.cell? ⟨w.heap.size, 5, none⟩ = some (.int .i64 X.r) ∧ ((w3).alloc (.cells #[.int .i64 X.s, .int .i64 X.n, .int .i64 X.b, .int .i64 X.c, .int .i64 am, .int .i64 r, .int .i64 t, .int .i64 z] 25)).drew.cell? ⟨w.heap.size, 6, none⟩ = some (.int .i64 X.t) ∧ ((w3).alloc (.cells #[.int .i64 X.s, .int .i64 X.n, .int .i64 X.b, .int .i64 X.c, .int .i64 am, .int .i64 r, .int .i64 t, .int .i64 z] 25)).drew.cell? ⟨w.heap.size, 7, none⟩ = some (.int .i64 X.y) := ⟨HXy.out.cell 0, HXy.out.cell 1, HXy.out.cell 2, HXy.out.cell 3, HXy.out.cell 4, HXy.out.cell 5, HXy.out.cell 6, HXy.out.cell 7, HXx.out.cell 0, HXx.out.cell 1, HXx.out.cell 2, HXx.out.cell 3, HXx.out.cell 4, HXx.out.cell 5, HXx.out.cell 6, HXx.out.cell 7⟩
        have HS0 := Lib.hid hS0
        replace HB52 := Lib.hid HB52.out.drew
        replace HXx := Lib.hid HXx.out.drew
        replace HXy := Lib.hid HXy.out.drew
        clear hS0
        refine wp_region_held_drew (S := fun w' => w'.cell? ⟨w3.heap.size, 0, none⟩ = some (.int .i64 X.s) ∧ w'.cell? ⟨w3.heap.size, 1, none⟩ = some (.int .i64 X.n) ∧ w'.cell? ⟨w3.heap.size, 2, none⟩ = some (.int .i64 X.b) ∧ w'.cell? ⟨w3.heap.size, 3, none⟩ = some (.int .i64 X.c) ∧ w'.cell? ⟨w3.heap.size, 4, none⟩ = some (.int .i64 am) ∧ w'.cell? ⟨w3.heap.size, 5, none⟩ = some (.int .i64 r) ∧ w'.cell? ⟨w3.heap.size, 6, none⟩ = some (.int .i64 t) ∧ w'.cell? ⟨w3.heap.size, 7, none⟩ = some (.int .i64 z) ∧ w'.cell? ⟨w.heap.size, 0, none⟩ = some (.int .i64 X.s) ∧ w'.cell? ⟨w.heap.size, 1, none⟩ = some (.int .i64 X.n) ∧ w'.cell? ⟨w.heap.size, 2, none⟩ = some (.int .i64 X.b) ∧ w'.cell? ⟨w.heap.size, 3, none⟩ = some (.int .i64 X.c) ∧ w'.cell? ⟨w.heap.size, 4, none⟩ = some (.int .i64 X.a) ∧ w'.cell? ⟨w.heap.size, 5, none⟩ = some (.int .i64 X.r) ∧ w'.cell? ⟨w.heap.size, 6, none⟩ = some (.int .i64 X.t) ∧ w'.cell? ⟨w.heap.size, 7, none⟩ = some (.int .i64 X.y)) (by kernel_rfl) HS0.out (fun hS0 => ?_)
        refine wpAnyH_take (i := 0) (v := ?_) rfl (by kernel_rfl) (by kernel_rfl) (by kernel_rfl) (fun _ _ _ h => h) (Or.inl ⟨by kernel_rfl, ?_⟩) (by first | assumption | trivial) ?_
        rotate_left
        · intro w hSw
          try dsimp only at hSw
          first | (go_simp; done) | (go_simp; with_reducible rfl)
        try simp only [Act.put, List.getElem_toArray, List.getElem_cons_succ, List.getElem_cons_zero, List.setIfInBounds_toArray, List.set_cons_zero, List.set_cons_succ]
        refine wpAnyH_take (i := 2) (v := ?_) rfl (by kernel_rfl) (by kernel_rfl) (by kernel_rfl) (fun _ _ _ h => h) (Or.inl ⟨by kernel_rfl, ?_⟩) (by first | assumption | trivial) ?_
        rotate_left
        · intro w hSw
          try dsimp only at hSw
          first | (go_simp; done) | (go_simp; with_reducible rfl)
        try simp only [Act.put, List.getElem_toArray, List.getElem_cons_succ, List.getElem_cons_zero, List.setIfInBounds_toArray, List.set_cons_zero, List.set_cons_succ]
        refine wpAnyH_ready (rs := [1]) (by kernel_rfl) (by simp) ?_
        refine AllReadyH.cons rfl (fun K hK => ?_) AllReadyH.nil
        go_simp
        go_at_call 14
        refine (HKy.out _).mono ?_
        rintro y w4 ⟨rfl, hb4⟩
        replace HXx := Lib.hid (HXx.out.below hb4 HXx.out.lt)
        replace HXy := Lib.hid (HXy.out.below hb4 HXy.out.lt)
        have HB53 := Lib.hid (HB52.out.trans (hb4.mono HB52.out.size))
        clear hb4
        try go_wp2_with fail
        refine hK.out _ _ ⟨HXy.out.cell 0, HXy.out.cell 1, HXy.out.cell 2, HXy.out.cell 3, HXy.out.cell 4, HXy.out.cell 5, HXy.out.cell 6, HXy.out.cell 7, HXx.out.cell 0, HXx.out.cell 1, HXx.out.cell 2, HXx.out.cell 3, HXx.out.cell 4, HXx.out.cell 5, HXx.out.cell 6, HXx.out.cell 7⟩ (fun hS => ?_)
        clear hK K
        try simp only [Act.put, List.getElem_toArray, List.getElem_cons_succ, List.getElem_cons_zero, List.setIfInBounds_toArray, List.set_cons_zero, List.set_cons_succ]
        refine wpAnyH_ready (rs := [3]) (by kernel_rfl) (by simp) ?_
        refine AllReadyH.cons rfl (fun K hK => ?_) AllReadyH.nil
        go_simp
        go_at_call 14
        refine (HKx.out _).mono ?_
        rintro y w5 ⟨rfl, hb5⟩
        replace HXx := Lib.hid (HXx.out.below hb5 HXx.out.lt)
        replace HXy := Lib.hid (HXy.out.below hb5 HXy.out.lt)
        have HB54 := Lib.hid (HB53.out.trans (hb5.mono HB53.out.size))
        clear hb5
        try go_wp2_with fail
        refine hK.out _ _ ⟨HXy.out.cell 0, HXy.out.cell 1, HXy.out.cell 2, HXy.out.cell 3, HXy.out.cell 4, HXy.out.cell 5, HXy.out.cell 6, HXy.out.cell 7, HXx.out.cell 0, HXx.out.cell 1, HXx.out.cell 2, HXx.out.cell 3, HXx.out.cell 4, HXx.out.cell 5, HXx.out.cell 6, HXx.out.cell 7⟩ (fun hS => ?_)
        clear hK K
        try simp only [Act.put, List.getElem_toArray, List.getElem_cons_succ, List.getElem_cons_zero, List.setIfInBounds_toArray, List.set_cons_zero, List.set_cons_succ]
        refine wpAnyH_take (i := 4) (v := ?_) rfl (by kernel_rfl) (by kernel_rfl) (by kernel_rfl) (fun _ _ _ h => h) (Or.inl ⟨by kernel_rfl, ?_⟩) (by first | assumption | trivial) ?_
        rotate_left
        · intro w hSw
          try dsimp only at hSw
          first | (go_simp; done) | (go_simp; with_reducible rfl)
        try simp only [Act.put, List.getElem_toArray, List.getElem_cons_succ, List.getElem_cons_zero, List.setIfInBounds_toArray, List.set_cons_zero, List.set_cons_succ]
        refine wpAnyH_take (i := 5) (v := ?_) rfl (by kernel_rfl) (by kernel_rfl) (by kernel_rfl) (fun _ _ _ h => h) (Or.inl ⟨by kernel_rfl, ?_⟩) (by first | assumption | trivial) ?_
        rotate_left
        · intro w hSw
          try dsimp only at hSw
          first | (go_simp; done) | (go_simp; with_reducible rfl)
        try simp only [Act.put, List.getElem_toArray, List.getElem_cons_succ, List.getElem_cons_zero, List.setIfInBounds_toArray, List.set_cons_zero, List.set_cons_succ]
        refine wpAnyH_take (i := 6) (v := ?_) rfl (by kernel_rfl) (by kernel_rfl) (by kernel_rfl) (fun _ _ _ h => h) (Or.inl ⟨by kernel_rfl, ?_⟩) (by first | assumption | trivial) ?_
        rotate_left
        · intro w hSw
          try dsimp only at hSw
          first | (go_simp; done) | (go_simp; with_reducible rfl)
        try simp only [Act.put, List.getElem_toArray, List.getElem_cons_succ, List.getElem_cons_zero, List.setIfInBounds_toArray, List.set_cons_zero, List.set_cons_succ]
        refine wpAnyH_take (i := 7) (v := ?_) rfl (by kernel_rfl) (by kernel_rfl) (by kernel_rfl) (fun _ _ _ h => h) (Or.inl ⟨by kernel_rfl, ?_⟩) (by first | assumption | trivial) ?_
        rotate_left
        · intro w hSw
          try dsimp only at hSw
          first | (go_simp; done) | (go_simp; with_reducible rfl)
        try simp only [Act.put, List.getElem_toArray, List.getElem_cons_succ, List.getElem_cons_zero, List.setIfInBounds_toArray, List.set_cons_zero, List.set_cons_succ]
        refine wpAnyH_take (i := 8) (v := ?_) rfl (by kernel_rfl) (by kernel_rfl) (by kernel_rfl) (fun _ _ _ h => h) (Or.inl ⟨by kernel_rfl, ?_⟩) (by first | assumption | trivial) ?_
        rotate_left
        · intro w hSw
          try dsimp only at hSw
          first | (go_simp; done) | (go_simp; with_reducible rfl)
        try simp only [Act.put, List.getElem_toArray, List.getElem_cons_succ, List.getElem_cons_zero, List.setIfInBounds_toArray, List.set_cons_zero, List.set_cons_succ]
        refine wpAnyH_take (i := 9) (v := ?_) rfl (by kernel_rfl) (by kernel_rfl) (by kernel_rfl) (fun _ _ _ h => h) (Or.inl ⟨by kernel_rfl, ?_⟩) (by first | assumption | trivial) ?_
        rotate_left
        · intro w hSw
          try dsimp only at hSw
          first | (go_simp; done) | (go_simp; with_reducible rfl)
        try simp only [Act.put, List.getElem_toArray, List.getElem_cons_succ, List.getElem_cons_zero, List.setIfInBounds_toArray, List.set_cons_zero, List.set_cons_succ]
        refine wpAnyH_take (i := 10) (v := ?_) rfl (by kernel_rfl) (by kernel_rfl) (by kernel_rfl) (fun _ _ _ h => h) (Or.inl ⟨by kernel_rfl, ?_⟩) (by first | assumption | trivial) ?_
        rotate_left
        · intro w hSw
          try dsimp only at hSw
          first | (go_simp; done) | (go_simp; with_reducible rfl)
        try simp only [Act.put, List.getElem_toArray, List.getElem_cons_succ, List.getElem_cons_zero, List.setIfInBounds_toArray, List.set_cons_zero, List.set_cons_succ]
        refine wpAnyH_take (i := 11) (v := ?_) rfl (by kernel_rfl) (by kernel_rfl) (by kernel_rfl) (fun _ _ _ h => h) (Or.inl ⟨by kernel_rfl, ?_⟩) (by first | assumption | trivial) ?_
        rotate_left
        · intro w hSw
          try dsimp only at hSw
          first | (go_simp; done) | (go_simp; with_reducible rfl)
        try simp only [Act.put, List.getElem_toArray, List.getElem_cons_succ, List.getElem_cons_zero, List.setIfInBounds_toArray, List.set_cons_zero, List.set_cons_succ]
        refine wpAnyH_take (i := 12) (v := ?_) rfl (by kernel_rfl) (by kernel_rfl) (by kernel_rfl) (fun _ _ _ h => h) (Or.inl ⟨by kernel_rfl, ?_⟩) (by first | assumption | trivial) ?_
        rotate_left
        · intro w hSw
          try dsimp only at hSw
          first | (go_simp; done) | (go_simp; with_reducible rfl)
        try simp only [Act.put, List.getElem_toArray, List.getElem_cons_succ, List.getElem_cons_zero, List.setIfInBounds_toArray, List.set_cons_zero, List.set_cons_succ]
        refine wpAnyH_take (i := 13) (v := ?_) rfl (by kernel_rfl) (by kernel_rfl) (by kernel_rfl) (fun _ _ _ h => h) (Or.inl ⟨by kernel_rfl, ?_⟩) (by first | assumption | trivial) ?_
        rotate_left
        · intro w hSw
          try dsimp only at hSw
          first | (go_simp; done) | (go_simp; with_reducible rfl)
        try simp only [Act.put, List.getElem_toArray, List.getElem_cons_succ, List.getElem_cons_zero, List.setIfInBounds_toArray, List.set_cons_zero, List.set_cons_succ]
        refine wpAnyH_take (i := 14) (v := ?_) rfl (by kernel_rfl) (by kernel_rfl) (by kernel_rfl) (fun _ _ _ h => h) (Or.inl ⟨by kernel_rfl, ?_⟩) (by first | assumption | trivial) ?_
        rotate_left
        · intro w hSw
          try dsimp only at hSw
          first | (go_simp; done) | (go_simp; with_reducible rfl)
        try simp only [Act.put, List.getElem_toArray, List.getElem_cons_succ, List.getElem_cons_zero, List.setIfInBounds_toArray, List.set_cons_zero, List.set_cons_succ]
        refine wpAnyH_take (i := 15) (v := ?_) rfl (by kernel_rfl) (by kernel_rfl) (by kernel_rfl) (fun _ _ _ h => h) (Or.inl ⟨by kernel_rfl, ?_⟩) (by first | assumption | trivial) ?_
        rotate_left
        · intro w hSw
          try dsimp only at hSw
          first | (go_simp; done) | (go_simp; with_reducible rfl)
        try simp only [Act.put, List.getElem_toArray, List.getElem_cons_succ, List.getElem_cons_zero, List.setIfInBounds_toArray, List.set_cons_zero, List.set_cons_succ]
        refine wpAnyH_take (i := 16) (v := ?_) rfl (by kernel_rfl) (by kernel_rfl) (by kernel_rfl) (fun _ _ _ h => h) (Or.inl ⟨by kernel_rfl, ?_⟩) (by first | assumption | trivial) ?_
        rotate_left
        · intro w hSw
          try dsimp only at hSw
          first | (go_simp; done) | (go_simp; with_reducible rfl)
        try simp only [Act.put, List.getElem_toArray, List.getElem_cons_succ, List.getElem_cons_zero, List.setIfInBounds_toArray, List.set_cons_zero, List.set_cons_succ]
        refine wpAnyH_take (i := 17) (v := ?_) rfl (by kernel_rfl) (by kernel_rfl) (by kernel_rfl) (fun _ _ _ h => h) (Or.inl ⟨by kernel_rfl, ?_⟩) (by first | assumption | trivial) ?_
        rotate_left
        · intro w hSw
          try dsimp only at hSw
          first | (go_simp; done) | (go_simp; with_reducible rfl)
        try simp only [Act.put, List.getElem_toArray, List.getElem_cons_succ, List.getElem_cons_zero, List.setIfInBounds_toArray, List.set_cons_zero, List.set_cons_succ]
        refine wpAnyH_take (i := 18) (v := ?_) rfl (by kernel_rfl) (by kernel_rfl) (by kernel_rfl) (fun _ _ _ h => h) (Or.inl ⟨by kernel_rfl, ?_⟩) (by first | assumption | trivial) ?_
        rotate_left
        · intro w hSw
          try dsimp only at hSw
          first | (go_simp; done) | (go_simp; with_reducible rfl)
        try simp only [Act.put, List.getElem_toArray, List.getElem_cons_succ, List.getElem_cons_zero, List.setIfInBounds_toArray, List.set_cons_zero, List.set_cons_succ]
        refine wpAnyH_take (i := 19) (v := ?_) rfl (by kernel_rfl) (by kernel_rfl) (by kernel_rfl) (fun _ _ _ h => h) (Or.inl ⟨by kernel_rfl, ?_⟩) (by first | assumption | trivial) ?_
        rotate_left
        · intro w hSw
          try dsimp only at hSw
          first | (go_simp; done) | (go_simp; with_reducible rfl)
        try simp only [Act.put, List.getElem_toArray, List.getElem_cons_succ, List.getElem_cons_zero, List.setIfInBounds_toArray, List.set_cons_zero, List.set_cons_succ]
        refine wpAnyH_take (i := 20) (v := ?_) rfl (by kernel_rfl) (by kernel_rfl) (by kernel_rfl) (fun _ _ _ h => h) (Or.inl ⟨by kernel_rfl, ?_⟩) (by first | assumption | trivial) ?_
        rotate_left
        · intro w hSw
          try dsimp only at hSw
          first | (go_simp; done) | (go_simp; with_reducible rfl)
        try simp only [Act.put, List.getElem_toArray, List.getElem_cons_succ, List.getElem_cons_zero, List.setIfInBounds_toArray, List.set_cons_zero, List.set_cons_succ]
        refine wpAnyH_take (i := 21) (v := ?_) rfl (by kernel_rfl) (by kernel_rfl) (by kernel_rfl) (fun _ _ _ h => h) (Or.inl ⟨by kernel_rfl, ?_⟩) (by first | assumption | trivial) ?_
        rotate_left
        · intro w hSw
          try dsimp only at hSw
          first | (go_simp; done) | (go_simp; with_reducible rfl)
        try simp only [Act.put, List.getElem_toArray, List.getElem_cons_succ, List.getElem_cons_zero, List.setIfInBounds_toArray, List.set_cons_zero, List.set_cons_succ]
        refine wpAnyH_take (i := 22) (v := ?_) rfl (by kernel_rfl) (by kernel_rfl) (by kernel_rfl) (fun _ _ _ h => h) (Or.inl ⟨by kernel_rfl, ?_⟩) (by first | assumption | trivial) ?_
        rotate_left
        · intro w hSw
          try dsimp only at hSw
          first | (go_simp; done) | (go_simp; with_reducible rfl)
        try simp only [Act.put, List.getElem_toArray, List.getElem_cons_succ, List.getElem_cons_zero, List.setIfInBounds_toArray, List.set_cons_zero, List.set_cons_succ]
        refine wpAnyH_take (i := 23) (v := ?_) rfl (by kernel_rfl) (by kernel_rfl) (by kernel_rfl) (fun _ _ _ h => h) (Or.inl ⟨by kernel_rfl, ?_⟩) (by first | assumption | trivial) ?_
        rotate_left
        · intro w hSw
          try dsimp only at hSw
          first | (go_simp; done) | (go_simp; with_reducible rfl)
        try simp only [Act.put, List.getElem_toArray, List.getElem_cons_succ, List.getElem_cons_zero, List.setIfInBounds_toArray, List.set_cons_zero, List.set_cons_succ]
        refine wpAnyH_take (i := 24) (v := ?_) rfl (by kernel_rfl) (by kernel_rfl) (by kernel_rfl) (fun _ _ _ h => h) (Or.inl ⟨by kernel_rfl, ?_⟩) (by first | assumption | trivial) ?_
        rotate_left
        · intro w hSw
          try dsimp only at hSw
          first | (go_simp; done) | (go_simp; with_reducible rfl)
        try simp only [Act.put, List.getElem_toArray, List.getElem_cons_succ, List.getElem_cons_zero, List.setIfInBounds_toArray, List.set_cons_zero, List.set_cons_succ]
        refine wpAnyH_take (i := 25) (v := ?_) rfl (by kernel_rfl) (by kernel_rfl) (by kernel_rfl) (fun _ _ _ h => h) (Or.inl ⟨by kernel_rfl, ?_⟩) (by first | assumption | trivial) ?_
        rotate_left
        · intro w hSw
          try dsimp only at hSw
          first | (go_simp; done) | (go_simp; with_reducible rfl)
        try simp only [Act.put, List.getElem_toArray, List.getElem_cons_succ, List.getElem_cons_zero, List.setIfInBounds_toArray, List.set_cons_zero, List.set_cons_succ]
        refine wpAnyH_take (i := 26) (v := ?_) rfl (by kernel_rfl) (by kernel_rfl) (by kernel_rfl) (fun _ _ _ h => h) (Or.inl ⟨by kernel_rfl, ?_⟩) (by first | assumption | trivial) ?_
        rotate_left
        · intro w hSw
          try dsimp only at hSw
          first | (go_simp; done) | (go_simp; with_reducible rfl)
        try simp only [Act.put, List.getElem_toArray, List.getElem_cons_succ, List.getElem_cons_zero, List.setIfInBounds_toArray, List.set_cons_zero, List.set_cons_succ]
        refine wpAnyH_take (i := 27) (v := ?_) rfl (by kernel_rfl) (by kernel_rfl) (by kernel_rfl) (fun _ _ _ h => h) (Or.inl ⟨by kernel_rfl, ?_⟩) (by first | assumption | trivial) ?_
        rotate_left
        · intro w hSw
          try dsimp only at hSw
          first | (go_simp; done) | (go_simp; with_reducible rfl)
        try simp only [Act.put, List.getElem_toArray, List.getElem_cons_succ, List.getElem_cons_zero, List.setIfInBounds_toArray, List.set_cons_zero, List.set_cons_succ]
        refine wpAnyH_take (i := 28) (v := ?_) rfl (by kernel_rfl) (by kernel_rfl) (by kernel_rfl) (fun _ _ _ h => h) (Or.inl ⟨by kernel_rfl, ?_⟩) (by first | assumption | trivial) ?_
        rotate_left
        · intro w hSw
          try dsimp only at hSw
          first | (go_simp; done) | (go_simp; with_reducible rfl)
        try simp only [Act.put, List.getElem_toArray, List.getElem_cons_succ, List.getElem_cons_zero, List.setIfInBounds_toArray, List.set_cons_zero, List.set_cons_succ]
        refine wpAnyH_take (i := 29) (v := ?_) rfl (by kernel_rfl) (by kernel_rfl) (by kernel_rfl) (fun _ _ _ h => h) (Or.inl ⟨by kernel_rfl, ?_⟩) (by first | assumption | trivial) ?_
        rotate_left
        · intro w hSw
          try dsimp only at hSw
          first | (go_simp; done) | (go_simp; with_reducible rfl)
        try simp only [Act.put, List.getElem_toArray, List.getElem_cons_succ, List.getElem_cons_zero, List.setIfInBounds_toArray, List.set_cons_zero, List.set_cons_succ]
        refine wpAnyH_take (i := 30) (v := ?_) rfl (by kernel_rfl) (by kernel_rfl) (by kernel_rfl) (fun _ _ _ h => h) (Or.inl ⟨by kernel_rfl, ?_⟩) (by first | assumption | trivial) ?_
        rotate_left
        · intro w hSw
          try dsimp only at hSw
          first | (go_simp; done) | (go_simp; with_reducible rfl)
        try simp only [Act.put, List.getElem_toArray, List.getElem_cons_succ, List.getElem_cons_zero, List.setIfInBounds_toArray, List.set_cons_zero, List.set_cons_succ]
        refine wpAnyH_take (i := 31) (v := undef) rfl (by kernel_rfl) (by kernel_rfl) (by kernel_rfl) (fun _ _ _ h => h) (Or.inr ⟨by kernel_rfl, rfl⟩) (by first | assumption | trivial) ?_
        try simp only [Act.put, List.getElem_toArray, List.getElem_cons_succ, List.getElem_cons_zero, List.setIfInBounds_toArray, List.set_cons_zero, List.set_cons_succ]
        refine wpAnyH_take (i := 32) (v := undef) rfl (by kernel_rfl) (by kernel_rfl) (by kernel_rfl) (fun _ _ _ h => h) (Or.inr ⟨by kernel_rfl, rfl⟩) (by first | assumption | trivial) ?_
        try simp only [Act.put, List.getElem_toArray, List.getElem_cons_succ, List.getElem_cons_zero, List.setIfInBounds_toArray, List.set_cons_zero, List.set_cons_succ]
        refine wpAnyH_take (i := 33) (v := undef) rfl (by kernel_rfl) (by kernel_rfl) (by kernel_rfl) (fun _ _ _ h => h) (Or.inr ⟨by kernel_rfl, rfl⟩) (by first | assumption | trivial) ?_
        try simp only [Act.put, List.getElem_toArray, List.getElem_cons_succ, List.getElem_cons_zero, List.setIfInBounds_toArray, List.set_cons_zero, List.set_cons_succ]
        refine wpAnyH_take (i := 34) (v := undef) rfl (by kernel_rfl) (by kernel_rfl) (by kernel_rfl) (fun _ _ _ h => h) (Or.inr ⟨by kernel_rfl, rfl⟩) (by first | assumption | trivial) ?_
        try simp only [Act.put, List.getElem_toArray, List.getElem_cons_succ, List.getElem_cons_zero, List.setIfInBounds_toArray, List.set_cons_zero, List.set_cons_succ]
        refine wpAnyH_take (i := 35) (v := undef) rfl (by kernel_rfl) (by kernel_rfl) (by kernel_rfl) (fun _ _ _ h => h) (Or.inr ⟨by kernel_rfl, rfl⟩) (by first | assumption | trivial) ?_
        try simp only [Act.put, List.getElem_toArray, List.getElem_cons_succ, List.getElem_cons_zero, List.setIfInBounds_toArray, List.set_cons_zero, List.set_cons_succ]
        refine wpAnyH_take (i := 36) (v := ?_) rfl (by kernel_rfl) (by kernel_rfl) (by kernel_rfl) (fun _ _ _ h => h) (Or.inl ⟨by kernel_rfl, ?_⟩) (by first | assumption | trivial) ?_
        rotate_left
        · intro w hSw
          try dsimp only at hSw
          first | (go_simp; done) | (go_simp; with_reducible rfl)
        try simp only [Act.put, List.getElem_toArray, List.getElem_cons_succ, List.getElem_cons_zero, List.setIfInBounds_toArray, List.set_cons_zero, List.set_cons_succ]
        refine wpAnyH_take (i := 37) (v := ?_) rfl (by kernel_rfl) (by kernel_rfl) (by kernel_rfl) (fun _ _ _ h => h) (Or.inl ⟨by kernel_rfl, ?_⟩) (by first | assumption | trivial) ?_
        rotate_left
        · intro w hSw
          try dsimp only at hSw
          first | (go_simp; done) | (go_simp; with_reducible rfl)
        try simp only [Act.put, List.getElem_toArray, List.getElem_cons_succ, List.getElem_cons_zero, List.setIfInBounds_toArray, List.set_cons_zero, List.set_cons_succ]
        refine wpAnyH_take (i := 38) (v := ?_) rfl (by kernel_rfl) (by kernel_rfl) (by kernel_rfl) (fun _ _ _ h => h) (Or.inl ⟨by kernel_rfl, ?_⟩) (by first | assumption | trivial) ?_
        rotate_left
        · intro w hSw
          try dsimp only at hSw
          first | (go_simp; done) | (go_simp; with_reducible rfl)
        try simp only [Act.put, List.getElem_toArray, List.getElem_cons_succ, List.getElem_cons_zero, List.setIfInBounds_toArray, List.set_cons_zero, List.set_cons_succ]
        refine wpAnyH_take (i := 39) (v := ?_) rfl (by kernel_rfl) (by kernel_rfl) (by kernel_rfl) (fun _ _ _ h => h) (Or.inl ⟨by kernel_rfl, ?_⟩) (by first | assumption | trivial) ?_
        rotate_left
        · intro w hSw
          try dsimp only at hSw
          first | (go_simp; done) | (go_simp; with_reducible rfl)
        try simp only [Act.put, List.getElem_toArray, List.getElem_cons_succ, List.getElem_cons_zero, List.setIfInBounds_toArray, List.set_cons_zero, List.set_cons_succ]
        refine wpAnyH_ready (rs := [40]) (by kernel_rfl) (by simp) ?_
        refine AllReadyH.cons rfl (fun K hK => ?_) AllReadyH.nil
        go_simp
        go_at_call 17
        refine (HO.out _).mono ?_
        rintro y w6 ⟨rfl, hb6⟩
        replace HXx := Lib.hid (HXx.out.below hb6 HXx.out.lt)
        replace HXy := Lib.hid (HXy.out.below hb6 HXy.out.lt)
        have HB55 := Lib.hid (HB54.out.trans (hb6.mono HB54.out.size))
        clear hb6
        try go_wp2_with fail
        refine hK.out _ _ ⟨HXy.out.cell 0, HXy.out.cell 1, HXy.out.cell 2, HXy.out.cell 3, HXy.out.cell 4, HXy.out.cell 5, HXy.out.cell 6, HXy.out.cell 7, HXx.out.cell 0, HXx.out.cell 1, HXx.out.cell 2, HXx.out.cell 3, HXx.out.cell 4, HXx.out.cell 5, HXx.out.cell 6, HXx.out.cell 7⟩ (fun hS => ?_)
        clear hK K
        try simp only [Act.put, List.getElem_toArray, List.getElem_cons_succ, List.getElem_cons_zero, List.setIfInBounds_toArray, List.set_cons_zero, List.set_cons_succ]
        refine wpAnyH_take (i := 41) (v := ?_) rfl (by kernel_rfl) (by kernel_rfl) (by kernel_rfl) (fun _ _ _ h => h) (Or.inl ⟨by kernel_rfl, ?_⟩) (by first | assumption | trivial) ?_
        rotate_left
        · intro w hSw
          try dsimp only at hSw
          first | (go_simp; done) | (go_simp; with_reducible rfl)
        try simp only [Act.put, List.getElem_toArray, List.getElem_cons_succ, List.getElem_cons_zero, List.setIfInBounds_toArray, List.set_cons_zero, List.set_cons_succ]
        refine wpAnyH_take (i := 42) (v := undef) rfl (by kernel_rfl) (by kernel_rfl) (by kernel_rfl) (fun _ _ _ h => h) (Or.inr ⟨by kernel_rfl, rfl⟩) (by first | assumption | trivial) ?_
        try simp only [Act.put, List.getElem_toArray, List.getElem_cons_succ, List.getElem_cons_zero, List.setIfInBounds_toArray, List.set_cons_zero, List.set_cons_succ]
        refine wpAnyH_take (i := 43) (v := undef) rfl (by kernel_rfl) (by kernel_rfl) (by kernel_rfl) (fun _ _ _ h => h) (Or.inr ⟨by kernel_rfl, rfl⟩) (by first | assumption | trivial) ?_
        try simp only [Act.put, List.getElem_toArray, List.getElem_cons_succ, List.getElem_cons_zero, List.setIfInBounds_toArray, List.set_cons_zero, List.set_cons_succ]
        refine wpAnyH_take (i := 44) (v := undef) rfl (by kernel_rfl) (by kernel_rfl) (by kernel_rfl) (fun _ _ _ h => h) (Or.inr ⟨by kernel_rfl, rfl⟩) (by first | assumption | trivial) ?_
        try simp only [Act.put, List.getElem_toArray, List.getElem_cons_succ, List.getElem_cons_zero, List.setIfInBounds_toArray, List.set_cons_zero, List.set_cons_succ]
        refine wpAnyH_take (i := 45) (v := ?_) rfl (by kernel_rfl) (by kernel_rfl) (by kernel_rfl) (fun _ _ _ h => h) (Or.inl ⟨by kernel_rfl, ?_⟩) (by first | assumption | trivial) ?_
        rotate_left
        · intro w hSw
          try dsimp only at hSw
          first | (go_simp; done) | (go_simp; with_reducible rfl)
        try simp only [Act.put, List.getElem_toArray, List.getElem_cons_succ, List.getElem_cons_zero, List.setIfInBounds_toArray, List.set_cons_zero, List.set_cons_succ]
        refine wpAnyH_take (i := 46) (v := ?_) rfl (by kernel_rfl) (by kernel_rfl) (by kernel_rfl) (fun _ _ _ h => h) (Or.inl ⟨by kernel_rfl, ?_⟩) (by first | assumption | trivial) ?_
        rotate_left
        · intro w hSw
          try dsimp only at hSw
          first | (go_simp; done) | (go_simp; with_reducible rfl)
        try simp only [Act.put, List.getElem_toArray, List.getElem_cons_succ, List.getElem_cons_zero, List.setIfInBounds_toArray, List.set_cons_zero, List.set_cons_succ]
        refine wpAnyH_take (i := 47) (v := ?_) rfl (by kernel_rfl) (by kernel_rfl) (by kernel_rfl) (fun _ _ _ h => h) (Or.inl ⟨by kernel_rfl, ?_⟩) (by first | assumption | trivial) ?_
        rotate_left
        · intro w hSw
          try dsimp only at hSw
          first | (go_simp; done) | (go_simp; with_reducible rfl)
        try simp only [Act.put, List.getElem_toArray, List.getElem_cons_succ, List.getElem_cons_zero, List.setIfInBounds_toArray, List.set_cons_zero, List.set_cons_succ]
        refine wpAnyH_take (i := 48) (v := ?_) rfl (by kernel_rfl) (by kernel_rfl) (by kernel_rfl) (fun _ _ _ h => h) (Or.inl ⟨by kernel_rfl, ?_⟩) (by first | assumption | trivial) ?_
        rotate_left
        · intro w hSw
          try dsimp only at hSw
          first | (go_simp; done) | (go_simp; with_reducible rfl)
        try simp only [Act.put, List.getElem_toArray, List.getElem_cons_succ, List.getElem_cons_zero, List.setIfInBounds_toArray, List.set_cons_zero, List.set_cons_succ]
        refine wpAnyH_take (i := 49) (v := ?_) rfl (by kernel_rfl) (by kernel_rfl) (by kernel_rfl) (fun _ _ _ h => h) (Or.inl ⟨by kernel_rfl, ?_⟩) (by first | assumption | trivial) ?_
        rotate_left
        · intro w hSw
          try dsimp only at hSw
          first | (go_simp; done) | (go_simp; with_reducible rfl)
        try simp only [Act.put, List.getElem_toArray, List.getElem_cons_succ, List.getElem_cons_zero, List.setIfInBounds_toArray, List.set_cons_zero, List.set_cons_succ]
        refine wpAnyH_take (i := 50) (v := ?_) rfl (by kernel_rfl) (by kernel_rfl) (by kernel_rfl) (fun _ _ _ h => h) (Or.inl ⟨by kernel_rfl, ?_⟩) (by first | assumption | trivial) ?_
        rotate_left
        · intro w hSw
          try dsimp only at hSw
          first | (go_simp; done) | (go_simp; with_reducible rfl)
        try simp only [Act.put, List.getElem_toArray, List.getElem_cons_succ, List.getElem_cons_zero, List.setIfInBounds_toArray, List.set_cons_zero, List.set_cons_succ]
        refine wpAnyH_take (i := 51) (v := undef) rfl (by kernel_rfl) (by kernel_rfl) (by kernel_rfl) (fun _ _ _ h => h) (Or.inr ⟨by kernel_rfl, rfl⟩) (by first | assumption | trivial) ?_
        try simp only [Act.put, List.getElem_toArray, List.getElem_cons_succ, List.getElem_cons_zero, List.setIfInBounds_toArray, List.set_cons_zero, List.set_cons_succ]
        refine wpAnyH_take (i := 52) (v := undef) rfl (by kernel_rfl) (by kernel_rfl) (by kernel_rfl) (fun _ _ _ h => h) (Or.inr ⟨by kernel_rfl, rfl⟩) (by first | assumption | trivial) ?_
        try simp only [Act.put, List.getElem_toArray, List.getElem_cons_succ, List.getElem_cons_zero, List.setIfInBounds_toArray, List.set_cons_zero, List.set_cons_succ]
        refine wpAnyH_take (i := 53) (v := undef) rfl (by kernel_rfl) (by kernel_rfl) (by kernel_rfl) (fun _ _ _ h => h) (Or.inr ⟨by kernel_rfl, rfl⟩) (by first | assumption | trivial) ?_
        try simp only [Act.put, List.getElem_toArray, List.getElem_cons_succ, List.getElem_cons_zero, List.setIfInBounds_toArray, List.set_cons_zero, List.set_cons_succ]
        refine wpAnyH_take (i := 54) (v := ?_) rfl (by kernel_rfl) (by kernel_rfl) (by kernel_rfl) (fun _ _ _ h => h) (Or.inl ⟨by kernel_rfl, ?_⟩) (by first | assumption | trivial) ?_
        rotate_left
        · intro w hSw
          try dsimp only at hSw
          first | (go_simp; done) | (go_simp; with_reducible rfl)
        try simp only [Act.put, List.getElem_toArray, List.getElem_cons_succ, List.getElem_cons_zero, List.setIfInBounds_toArray, List.set_cons_zero, List.set_cons_succ]
        refine wpAnyH_take (i := 55) (v := ?_) rfl (by kernel_rfl) (by kernel_rfl) (by kernel_rfl) (fun _ _ _ h => h) (Or.inl ⟨by kernel_rfl, ?_⟩) (by first | assumption | trivial) ?_
        rotate_left
        · intro w hSw
          try dsimp only at hSw
          first | (go_simp; done) | (go_simp; with_reducible rfl)
        try simp only [Act.put, List.getElem_toArray, List.getElem_cons_succ, List.getElem_cons_zero, List.setIfInBounds_toArray, List.set_cons_zero, List.set_cons_succ]
        refine wpAnyH_done (by kernel_rfl) ?_ _
        have cy0 : w6.cell? ⟨w3.heap.size, 0, none⟩ = some (.int .i64 X.s) := HXy.out.cell 0
        have cy1 : w6.cell? ⟨w3.heap.size, 1, none⟩ = some (.int .i64 X.n) := HXy.out.cell 1
        have cy2 : w6.cell? ⟨w3.heap.size, 2, none⟩ = some (.int .i64 X.b) := HXy.out.cell 2
        have cy3 : w6.cell? ⟨w3.heap.size, 3, none⟩ = some (.int .i64 X.c) := HXy.out.cell 3
        have cy4 : w6.cell? ⟨w3.heap.size, 4, none⟩ = some (.int .i64 am) := HXy.out.cell 4
        have cy5 : w6.cell? ⟨w3.heap.size, 5, none⟩ = some (.int .i64 r) := HXy.out.cell 5
        have cy6 : w6.cell? ⟨w3.heap.size, 6, none⟩ = some (.int .i64 t) := HXy.out.cell 6
        have cy7 : w6.cell? ⟨w3.heap.size, 7, none⟩ = some (.int .i64 z) := HXy.out.cell 7
        have ly := HXy.out.lt
        have cx0 : w6.cell? ⟨w.heap.size, 0, none⟩ = some (.int .i64 X.s) := HXx.out.cell 0
        have cx1 : w6.cell? ⟨w.heap.size, 1, none⟩ = some (.int .i64 X.n) := HXx.out.cell 1
        have cx2 : w6.cell? ⟨w.heap.size, 2, none⟩ = some (.int .i64 X.b) := HXx.out.cell 2
        have cx3 : w6.cell? ⟨w.heap.size, 3, none⟩ = some (.int .i64 X.c) := HXx.out.cell 3
        have cx4 : w6.cell? ⟨w.heap.size, 4, none⟩ = some (.int .i64 X.a) := HXx.out.cell 4
        have cx5 : w6.cell? ⟨w.heap.size, 5, none⟩ = some (.int .i64 X.r) := HXx.out.cell 5
        have cx6 : w6.cell? ⟨w.heap.size, 6, none⟩ = some (.int .i64 X.t) := HXx.out.cell 6
        have cx7 : w6.cell? ⟨w.heap.size, 7, none⟩ = some (.int .i64 X.y) := HXx.out.cell 7
        have frx0 := HXx.out.free 0
        have frx1 := HXx.out.free 1
        have frx2 := HXx.out.free 2
        have frx3 := HXx.out.free 3
        have frx4 := HXx.out.free 4
        have frx5 := HXx.out.free 5
        have frx6 := HXx.out.free 6
        have frx7 := HXx.out.free 7
        have lx := HXx.out.lt
        clear HO HKy HKx HA
        go_wp2_with fail
        have HNX : Hid (FRel w (⟨X.s, X.n, X.b, X.c, am, r, t, z⟩ : Itm) (set8 w6 w.heap.size (⟨X.s, X.n, X.b, X.c, am, r, t, z⟩ : Itm))) := ⟨blk_set8 (z := X) HXx.out (⟨X.s, X.n, X.b, X.c, am, r, t, z⟩ : Itm), below_set8 HB55.out (Nat.le_refl _) (⟨X.s, X.n, X.b, X.c, am, r, t, z⟩ : Itm), HY.out⟩
        go_roundw
        case rel => exact ⟨k + 1, (⟨X.s, X.n, X.b, X.c, am, r, t, z⟩ : Itm), by omega, by go_num, HNX⟩
        case measure => simp [intOf]; omega
      · skip
        have hsame := g8 he
        have s1 : am = X.a := congrArg Itm.a hsame
        have s2 : r = X.r := congrArg Itm.r hsame
        have s3 : t = X.t := congrArg Itm.t hsame
        have s4 : z = X.y := congrArg Itm.y hsame
        clear hsame
        subst s1 s2 s3 s4
        have ge1 : decide (3 ≤ X.t) = false := decide_eq_false hge
        have ge2 : decide (X.t ≥ 3) = false := ge1
        have en : (e != 0) = true := by simpa using he
        rw [hov] at HO
        clear g6 g7 g8 he hov hge
        have hS0 : ((w3).alloc (.cells #[.int .i64 X.s, .int .i64 X.n, .int .i64 X.b, .int .i64 X.c, .int .i64 X.a, .int .i64 X.r, .int .i64 X.t, .int .i64 X.y] 25)).drew.cell? ⟨w3.heap.size, 0, none⟩ = some (.int .i64 X.s) ∧ ((w3).alloc (.cells #[.int .i64 X.s, .int .i64 X.n, .int .i64 X.b, .int .i64 X.c, .int .i64 X.a, .int .i64 X.r, .int .i64 X.t, .int .i64 X.y] 25)).drew.cell? ⟨w3.heap.size, 1, none⟩ = some (.int .i64 X.n) ∧ ((w3).alloc (.cells #[.int .i64 X.s, .int .i64 X.n, .int .i64 X.b, .int .i64 X.c, .int .i64 X.a, .int .i64 X.r, .int .i64 X.t, .int .i64 X.y] 25)).drew.cell? ⟨w3.heap.size, 2, none⟩ = some (.int .i64 X.b) ∧ ((w3).alloc (.cells #[.int .i64 X.s, .int .i64 X.n, .int .i64 X.b, .int .i64 X.c, .int .i64 X.a, .int .i64 X.r, .int .i64 X.t, .int .i64 X.y] 25)).drew.cell? ⟨w3.heap.size, 3, none⟩ = some (.int .i64 X.c) ∧ ((w3).alloc (.cells #[.int .i64 X.s, .int .i64 X.n, .int .i64 X.b, .int .i64 X.c, .int .i64 X.a, .int .i64 X.r, .int .i64 X.t, .int .i64 X.y] 25)).drew.cell? ⟨w3.heap.size, 4, none⟩ = some (.int .i64 X.a) ∧ ((w3).alloc (.cells #[.int .i64 X.s, .int .i64 X.n, .int .i64 X.b, .int .i64 X.c, .int .i64 X.a, .int .i64 X.r, .int .i64 X.t, .int .i64 X.y] 25)).drew.cell? ⟨w3.heap.size, 5, none⟩ = some (.int .i64 X.r) ∧ ((w3).alloc (.cells #[.int .i64 X.s, .int .i64 X.n, .int .i64 X.b, .int .i64 X.c, .int .i64 X.a, .int .i64 X.r, .int .i64 X.t, .int .i64 X.y] 25)).drew.cell? ⟨w3.heap.size, 6, none⟩ = some (.int .i64 X.t) ∧ ((w3).alloc (.cells #[.int .i64 X.s, .int .i64 X.n, .int .i64 X.b, .int .i64 X.c, .int .i64 X.a, .int .i64 X.r, .int .i64 X.t, .int .i64 X.y] 25)).drew.cell? ⟨w3.heap.size, 7, none⟩ = some (.int .i64 X.y) ∧ ((w3).alloc (.cells #[.int .i64 X.s, .int .i64 X.n, .int .i64 X.b, .int .i64 X.c, .int .i64 X.a, .int .i64 X.r, .int .i64 X.t, .int .i64 X.y] 25)).drew.cell? ⟨w.heap.size, 0, none⟩ = some (.int .i64 X.s) ∧ ((w3).alloc (.cells #[.int .i64 X.s, .int .i64 X.n, .int .i64 X.b, .int .i64 X.c, .int .i64 X.a, .int .i64 X.r, .int .i64 X.t, .int .i64 X.y] 25)).drew.cell? ⟨w.heap.size, 1, none⟩ = some (.int .i64 X.n) ∧ ((w3).alloc (.cells #[.int .i64 X.s, .int .i64 X.n, .int .i64 X.b, .int .i64 X.c, .int .i64 X.a, .int .i64 X.r, .int .i64 X.t, .int .i64 X.y] 25)).drew.cell? ⟨w.heap.size, 2, none⟩ = some (.int .i64 X.b) ∧ ((w3).alloc (.cells #[.int .i64 X.s, .int .i64 X.n, .int .i64 X.b, .int .i64 X.c, .int .i64 X.a, .int .i64 X.r, .int .i64 X.t, .int .i64 X.y] 25)).drew.cell? ⟨w.heap.size, 3, none⟩ = some (.int .i64 X.c) ∧ ((w3).alloc (.cells #[.int .i64 X.s, .int .i64 X.n, .int .i64 X.b, .int .i64 X.c, .int .i64 X.a, .int .i64 X.r, .int .i64 X.t, .int .i64 X.y] 25)).drew.cell? ⟨w.heap.size, 4, none⟩ = some (.int .i64 X.a) ∧ ((w3).alloc (.cells #[.int .i64 X.s, .int .i64 X.n, .int .i64 X.b, .int .i64 X.c, .int .i64 X.a, .int .i64 X.r, .int .i64 X.t, .int .i64 X.y] 25)).drew.cell? ⟨w.heap.size, 5, none⟩ = some (.int .i64 X.r) ∧ ((w3).alloc (.cells #[.int .i64 X.s, .int .i64 X.n, .int .i64 X.b, .int .i64 X.c, .int .i64 X.a, .int .i64 X.r, .int .i64 X.t, .int .i64 X.y] 25)).drew.cell? ⟨w.heap.size, 6, none⟩ = some (.int .i64 X.t) ∧ ((w3).alloc (.cells #[.int .i64 X.s, .int .i64 X.n, .int .i64 X.b, .int .i64 X.c, .int .i64 X.a, .int .i64 X.r, .int .i64 X.t, .int .i64 X.y] 25)).drew.cell? ⟨w.heap.size, 7, none⟩ = some (.int .i64 X.y) := ⟨HXy.out.cell 0, HXy.out.cell 1, HXy.out.cell 2, HXy.out.cell 3, HXy.out.cell 4, HXy.out.cell 5, HXy.out.cell 6, HXy.out.cell 7, HXx.out.cell 0, HXx.out.cell 1, HXx.out.cell 2, HXx.out.cell 3, HXx.out.cell 4, HXx.out.cell 5, HXx.out.cell 6, HXx.out.cell 7⟩
        have HS0 := Lib.hid hS0
        replace HB52 := Lib.hid HB52.out.drew
        replace HXx := Lib.hid HXx.out.drew
        replace HXy := Lib.hid HXy.out.drew
        clear hS0
        refine wp_region_held_drew (S := fun w' => w'.cell? ⟨w3.heap.size, 0, none⟩ = some (.int .i64 X.s) ∧ w'.cell? ⟨w3.heap.size, 1, none⟩ = some (.int .i64 X.n) ∧ w'.cell? ⟨w3.heap.size, 2, none⟩ = some (.int .i64 X.b) ∧ w'.cell? ⟨w3.heap.size, 3, none⟩ = some (.int .i64 X.c) ∧ w'.cell? ⟨w3.heap.size, 4, none⟩ = some (.int .i64 X.a) ∧ w'.cell? ⟨w3.heap.size, 5, none⟩ = some (.int .i64 X.r) ∧ w'.cell? ⟨w3.heap.size, 6, none⟩ = some (.int .i64 X.t) ∧ w'.cell? ⟨w3.heap.size, 7, none⟩ = some (.int .i64 X.y) ∧ w'.cell? ⟨w.heap.size, 0, none⟩ = some (.int .i64 X.s) ∧ w'.cell? ⟨w.heap.size, 1, none⟩ = some (.int .i64 X.n) ∧ w'.cell? ⟨w.heap.size, 2, none⟩ = some (.int .i64 X.b) ∧ w'.cell? ⟨w.heap.size, 3, none⟩ = some (.int .i64 X.c) ∧ w'.cell? ⟨w.heap.size, 4, none⟩ = some (.int .i64 X.a) ∧ w'.cell? ⟨w.heap.size, 5, none⟩ = some (.int .i64 X.r) ∧ w'.cell? ⟨w.heap.size, 6, none⟩ = some (.int .i64 X.t) ∧ w'.cell? ⟨w.heap.size, 7, none⟩ = some (.int .i64 X.y)) (by kernel_rfl) HS0.out (fun hS0 => ?_)
        refine wpAnyH_take (i := 0) (v := ?_) rfl (by kernel_rfl) (by kernel_rfl) (by kernel_rfl) (fun _ _ _ h => h) (Or.inl ⟨by kernel_rfl, ?_⟩) (by first | assumption | trivial) ?_
        rotate_left
        · intro w hSw
          try dsimp only at hSw
          first | (go_simp; done) | (go_simp; with_reducible rfl)
        try simp only [Act.put, List.getElem_toArray, List.getElem_cons_succ, List.getElem_cons_zero, List.setIfInBounds_toArray, List.set_cons_zero, List.set_cons_succ]
        refine wpAnyH_take (i := 2) (v := ?_) rfl (by kernel_rfl) (by kernel_rfl) (by kernel_rfl) (fun _ _ _ h => h) (Or.inl ⟨by kernel_rfl, ?_⟩) (by first | assumption | trivial) ?_
        rotate_left
        · intro w hSw
          try dsimp only at hSw
          first | (go_simp; done) | (go_simp; with_reducible rfl)
        try simp only [Act.put, List.getElem_toArray, List.getElem_cons_succ, List.getElem_cons_zero, List.setIfInBounds_toArray, List.set_cons_zero, List.set_cons_succ]
        refine wpAnyH_ready (rs := [1]) (by kernel_rfl) (by simp) ?_
        refine AllReadyH.cons rfl (fun K hK => ?_) AllReadyH.nil
        go_simp
        go_at_call 14
        refine (HKy.out _).mono ?_
        rintro y w4 ⟨rfl, hb4⟩
        replace HXx := Lib.hid (HXx.out.below hb4 HXx.out.lt)
        replace HXy := Lib.hid (HXy.out.below hb4 HXy.out.lt)
        have HB53 := Lib.hid (HB52.out.trans (hb4.mono HB52.out.size))
        clear hb4
        try go_wp2_with fail
        refine hK.out _ _ ⟨HXy.out.cell 0, HXy.out.cell 1, HXy.out.cell 2, HXy.out.cell 3, HXy.out.cell 4, HXy.out.cell 5, HXy.out.cell 6, HXy.out.cell 7, HXx.out.cell 0, HXx.out.cell 1, HXx.out.cell 2, HXx.out.cell 3, HXx.out.cell 4, HXx.out.cell 5, HXx.out.cell 6, HXx.out.cell 7⟩ (fun hS => ?_)
        clear hK K
        try simp only [Act.put, List.getElem_toArray, List.getElem_cons_succ, List.getElem_cons_zero, List.setIfInBounds_toArray, List.set_cons_zero, List.set_cons_succ]
        refine wpAnyH_ready (rs := [3]) (by kernel_rfl) (by simp) ?_
        refine AllReadyH.cons rfl (fun K hK => ?_) AllReadyH.nil
        go_simp
        go_at_call 14
        refine (HKx.out _).mono ?_
        rintro y w5 ⟨rfl, hb5⟩
        replace HXx := Lib.hid (HXx.out.below hb5 HXx.out.lt)
        replace HXy := Lib.hid (HXy.out.below hb5 HXy.out.lt)
        have HB54 := Lib.hid (HB53.out.trans (hb5.mono HB53.out.size))
        clear hb5
        try go_wp2_with fail
        refine hK.out _ _ ⟨HXy.out.cell 0, HXy.out.cell 1, HXy.out.cell 2, HXy.out.cell 3, HXy.out.cell 4, HXy.out.cell 5, HXy.out.cell 6, HXy.out.cell 7, HXx.out.cell 0, HXx.out.cell 1, HXx.out.cell 2, HXx.out.cell 3, HXx.out.cell 4, HXx.out.cell 5, HXx.out.cell 6, HXx.out.cell 7⟩ (fun hS => ?_)
        clear hK K
        try simp only [Act.put, List.getElem_toArray, List.getElem_cons_succ, List.getElem_cons_zero, List.setIfInBounds_toArray, List.set_cons_zero, List.set_cons_succ]
        refine wpAnyH_take (i := 4) (v := ?_) rfl (by kernel_rfl) (by kernel_rfl) (by kernel_rfl) (fun _ _ _ h => h) (Or.inl ⟨by kernel_rfl, ?_⟩) (by first | assumption | trivial) ?_
        rotate_left
        · intro w hSw
          try dsimp only at hSw
          first | (go_simp; done) | (go_simp; with_reducible rfl)
        try simp only [Act.put, List.getElem_toArray, List.getElem_cons_succ, List.getElem_cons_zero, List.setIfInBounds_toArray, List.set_cons_zero, List.set_cons_succ]
        refine wpAnyH_take (i := 5) (v := ?_) rfl (by kernel_rfl) (by kernel_rfl) (by kernel_rfl) (fun _ _ _ h => h) (Or.inl ⟨by kernel_rfl, ?_⟩) (by first | assumption | trivial) ?_
        rotate_left
        · intro w hSw
          try dsimp only at hSw
          first | (go_simp; done) | (go_simp; with_reducible rfl)
        try simp only [Act.put, List.getElem_toArray, List.getElem_cons_succ, List.getElem_cons_zero, List.setIfInBounds_toArray, List.set_cons_zero, List.set_cons_succ]
        refine wpAnyH_take (i := 6) (v := ?_) rfl (by kernel_rfl) (by kernel_rfl) (by kernel_rfl) (fun _ _ _ h => h) (Or.inl ⟨by kernel_rfl, ?_⟩) (by first | assumption | trivial) ?_
        rotate_left
        · intro w hSw
          try dsimp only at hSw
          first | (go_simp; done) | (go_simp; with_reducible rfl)
        try simp only [Act.put, List.getElem_toArray, List.getElem_cons_succ, List.getElem_cons_zero, List.setIfInBounds_toArray, List.set_cons_zero, List.set_cons_succ]
        refine wpAnyH_take (i := 7) (v := ?_) rfl (by kernel_rfl) (by kernel_rfl) (by kernel_rfl) (fun _ _ _ h => h) (Or.inl ⟨by kernel_rfl, ?_⟩) (by first | assumption | trivial) ?_
        rotate_left
        · intro w hSw
          try dsimp only at hSw
          first | (go_simp; done) | (go_simp; with_reducible rfl)
        try simp only [Act.put, List.getElem_toArray, List.getElem_cons_succ, List.getElem_cons_zero, List.setIfInBounds_toArray, List.set_cons_zero, List.set_cons_succ]
        refine wpAnyH_take (i := 8) (v := ?_) rfl (by kernel_rfl) (by kernel_rfl) (by kernel_rfl) (fun _ _ _ h => h) (Or.inl ⟨by kernel_rfl, ?_⟩) (by first | assumption | trivial) ?_
        rotate_left
        · intro w hSw
          try dsimp only at hSw
          first | (go_simp; done) | (go_simp; with_reducible rfl)
        try simp only [Act.put, List.getElem_toArray, List.getElem_cons_succ, List.getElem_cons_zero, List.setIfInBounds_toArray, List.set_cons_zero, List.set_cons_succ]
        refine wpAnyH_take (i := 9) (v := ?_) rfl (by kernel_rfl) (by kernel_rfl) (by kernel_rfl) (fun _ _ _ h => h) (Or.inl ⟨by kernel_rfl, ?_⟩) (by first | assumption | trivial) ?_
        rotate_left
        · intro w hSw
          try dsimp only at hSw
          first | (go_simp; done) | (go_simp; with_reducible rfl)
        try simp only [Act.put, List.getElem_toArray, List.getElem_cons_succ, List.getElem_cons_zero, List.setIfInBounds_toArray, List.set_cons_zero, List.set_cons_succ]
        refine wpAnyH_take (i := 10) (v := ?_) rfl (by kernel_rfl) (by kernel_rfl) (by kernel_rfl) (fun _ _ _ h => h) (Or.inl ⟨by kernel_rfl, ?_⟩) (by first | assumption | trivial) ?_
        rotate_left
        · intro w hSw
          try dsimp only at hSw
          first | (go_simp; done) | (go_simp; with_reducible rfl)
        try simp only [Act.put, List.getElem_toArray, List.getElem_cons_succ, List.getElem_cons_zero, List.setIfInBounds_toArray, List.set_cons_zero, List.set_cons_succ]
        refine wpAnyH_take (i := 11) (v := ?_) rfl (by kernel_rfl) (by kernel_rfl) (by kernel_rfl) (fun _ _ _ h => h) (Or.inl ⟨by kernel_rfl, ?_⟩) (by first | assumption | trivial) ?_
        rotate_left
        · intro w hSw
          try dsimp only at hSw
          first | (go_simp; done) | (go_simp; with_reducible rfl)
        try simp only [Act.put, List.getElem_toArray, List.getElem_cons_succ, List.getElem_cons_zero, List.setIfInBounds_toArray, List.set_cons_zero, List.set_cons_succ]
        refine wpAnyH_take (i := 12) (v := ?_) rfl (by kernel_rfl) (by kernel_rfl) (by kernel_rfl) (fun _ _ _ h => h) (Or.inl ⟨by kernel_rfl, ?_⟩) (by first | assumption | trivial) ?_
        rotate_left
        · intro w hSw
          try dsimp only at hSw
          first | (go_simp; done) | (go_simp; with_reducible rfl)
        try simp only [Act.put, List.getElem_toArray, List.getElem_cons_succ, List.getElem_cons_zero, List.setIfInBounds_toArray, List.set_cons_zero, List.set_cons_succ]
        refine wpAnyH_take (i := 13) (v := ?_) rfl (by kernel_rfl) (by kernel_rfl) (by kernel_rfl) (fun _ _ _ h => h) (Or.inl ⟨by kernel_rfl, ?_⟩) (by first | assumption | trivial) ?_
        rotate_left
        · intro w hSw
          try dsimp only at hSw
          first | (go_simp; done) | (go_simp; with_reducible rfl)
        try simp only [Act.put, List.getElem_toArray, List.getElem_cons_succ, List.getElem_cons_zero, List.setIfInBounds_toArray, List.set_cons_zero, List.set_cons_succ]
        refine wpAnyH_take (i := 14) (v := ?_) rfl (by kernel_rfl) (by kernel_rfl) (by kernel_rfl) (fun _ _ _ h => h) (Or.inl ⟨by kernel_rfl, ?_⟩) (by first | assumption | trivial) ?_
        rotate_left
        · intro w hSw
          try dsimp only at hSw
          first | (go_simp; done) | (go_simp; with_reducible rfl)
        try simp only [Act.put, List.getElem_toArray, List.getElem_cons_succ, List.getElem_cons_zero, List.setIfInBounds_toArray, List.set_cons_zero, List.set_cons_succ]
        refine wpAnyH_take (i := 15) (v := ?_) rfl (by kernel_rfl) (by kernel_rfl) (by kernel_rfl) (fun _ _ _ h => h) (Or.inl ⟨by kernel_rfl, ?_⟩) (by first | assumption | trivial) ?_
        rotate_left
        · intro w hSw
          try dsimp only at hSw
          first | (go_simp; done) | (go_simp; with_reducible rfl)
        try simp only [Act.put, List.getElem_toArray, List.getElem_cons_succ, List.getElem_cons_zero, List.setIfInBounds_toArray, List.set_cons_zero, List.set_cons_succ]
        refine wpAnyH_take (i := 16) (v := ?_) rfl (by kernel_rfl) (by kernel_rfl) (by kernel_rfl) (fun _ _ _ h => h) (Or.inl ⟨by kernel_rfl, ?_⟩) (by first | assumption | trivial) ?_
        rotate_left
        · intro w hSw
          try dsimp only at hSw
          first | (go_simp; done) | (go_simp; with_reducible rfl)
        try simp only [Act.put, List.getElem_toArray, List.getElem_cons_succ, List.getElem_cons_zero, List.setIfInBounds_toArray, List.set_cons_zero, List.set_cons_succ]
        refine wpAnyH_take (i := 17) (v := ?_) rfl (by kernel_rfl) (by kernel_rfl) (by kernel_rfl) (fun _ _ _ h => h) (Or.inl ⟨by kernel_rfl, ?_⟩) (by first | assumption | trivial) ?_
        rotate_left
        · intro w hSw
          try dsimp only at hSw
          first | (go_simp; done) | (go_simp; with_reducible rfl)
        try simp only [Act.put, List.getElem_toArray, List.getElem_cons_succ, List.getElem_cons_zero, List.setIfInBounds_toArray, List.set_cons_zero, List.set_cons_succ]
        refine wpAnyH_take (i := 18) (v := ?_) rfl (by kernel_rfl) (by kernel_rfl) (by kernel_rfl) (fun _ _ _ h => h) (Or.inl ⟨by kernel_rfl, ?_⟩) (by first | assumption | trivial) ?_
        rotate_left
        · intro w hSw
          try dsimp only at hSw
          first | (go_simp; done) | (go_simp; with_reducible rfl)
        try simp only [Act.put, List.getElem_toArray, List.getElem_cons_succ, List.getElem_cons_zero, List.setIfInBounds_toArray, List.set_cons_zero, List.set_cons_succ]
        refine wpAnyH_take (i := 19) (v := ?_) rfl (by kernel_rfl) (by kernel_rfl) (by kernel_rfl) (fun _ _ _ h => h) (Or.inl ⟨by kernel_rfl, ?_⟩) (by first | assumption | trivial) ?_
        rotate_left
        · intro w hSw
          try dsimp only at hSw
          first | (go_simp; done) | (go_simp; with_reducible rfl)
        try simp only [Act.put, List.getElem_toArray, List.getElem_cons_succ, List.getElem_cons_zero, List.setIfInBounds_toArray, List.set_cons_zero, List.set_cons_succ]
        refine wpAnyH_take (i := 20) (v := ?_) rfl (by kernel_rfl) (by kernel_rfl) (by kernel_rfl) (fun _ _ _ h => h) (Or.inl ⟨by kernel_rfl, ?_⟩) (by first | assumption | trivial) ?_
        rotate_left
        · intro w hSw
          try dsimp only at hSw
          first | (go_simp; done) | (go_simp; with_reducible rfl)
        try simp only [Act.put, List.getElem_toArray, List.getElem_cons_succ, List.getElem_cons_zero, List.setIfInBounds_toArray, List.set_cons_zero, List.set_cons_succ]
        refine wpAnyH_take (i := 21) (v := ?_) rfl (by kernel_rfl) (by kernel_rfl) (by kernel_rfl) (fun _ _ _ h => h) (Or.inl ⟨by kernel_rfl, ?_⟩) (by first | assumption | trivial) ?_
        rotate_left
        · intro w hSw
          try dsimp only at hSw
          first | (go_simp; done) | (go_simp; with_reducible rfl)
        try simp only [Act.put, List.getElem_toArray, List.getElem_cons_succ, List.getElem_cons_zero, List.setIfInBounds_toArray, List.set_cons_zero, List.set_cons_succ]
        refine wpAnyH_take (i := 22) (v := ?_) rfl (by kernel_rfl) (by kernel_rfl) (by kernel_rfl) (fun _ _ _ h => h) (Or.inl ⟨by kernel_rfl, ?_⟩) (by first | assumption | trivial) ?_
        rotate_left
        · intro w hSw
          try dsimp only at hSw
          first | (go_simp; done) | (go_simp; with_reducible rfl)
        try simp only [Act.put, List.getElem_toArray, List.getElem_cons_succ, List.getElem_cons_zero, List.setIfInBounds_toArray, List.set_cons_zero, List.set_cons_succ]
        refine wpAnyH_take (i := 23) (v := ?_) rfl (by kernel_rfl) (by kernel_rfl) (by kernel_rfl) (fun _ _ _ h => h) (Or.inl ⟨by kernel_rfl, ?_⟩) (by first | assumption | trivial) ?_
        rotate_left
        · intro w hSw
          try dsimp only at hSw
          first | (go_simp; done) | (go_simp; with_reducible rfl)
        try simp only [Act.put, List.getElem_toArray, List.getElem_cons_succ, List.getElem_cons_zero, List.setIfInBounds_toArray, List.set_cons_zero, List.set_cons_succ]
        refine wpAnyH_take (i := 24) (v := ?_) rfl (by kernel_rfl) (by kernel_rfl) (by kernel_rfl) (fun _ _ _ h => h) (Or.inl ⟨by kernel_rfl, ?_⟩) (by first | assumption | trivial) ?_
        rotate_left
        · intro w hSw
          try dsimp only at hSw
          first | (go_simp; done) | (go_simp; with_reducible rfl)
        try simp only [Act.put, List.getElem_toArray, List.getElem_cons_succ, List.getElem_cons_zero, List.setIfInBounds_toArray, List.set_cons_zero, List.set_cons_succ]
        refine wpAnyH_take (i := 25) (v := ?_) rfl (by kernel_rfl) (by kernel_rfl) (by kernel_rfl) (fun _ _ _ h => h) (Or.inl ⟨by kernel_rfl, ?_⟩) (by first | assumption | trivial) ?_
        rotate_left
        · intro w hSw
          try dsimp only at hSw
          first | (go_simp; done) | (go_simp; with_reducible rfl)
        try simp only [Act.put, List.getElem_toArray, List.getElem_cons_succ, List.getElem_cons_zero, List.setIfInBounds_toArray, List.set_cons_zero, List.set_cons_succ]
        refine wpAnyH_take (i := 26) (v := ?_) rfl (by kernel_rfl) (by kernel_rfl) (by kernel_rfl) (fun _ _ _ h => h) (Or.inl ⟨by kernel_rfl, ?_⟩) (by first | assumption | trivial) ?_
        rotate_left
        · intro w hSw
          try dsimp only at hSw
          first | (go_simp; done) | (go_simp; with_reducible rfl)
        try simp only [Act.put, List.getElem_toArray, List.getElem_cons_succ, List.getElem_cons_zero, List.setIfInBounds_toArray, List.set_cons_zero, List.set_cons_succ]
        refine wpAnyH_take (i := 27) (v := ?_) rfl (by kernel_rfl) (by kernel_rfl) (by kernel_rfl) (fun _ _ _ h => h) (Or.inl ⟨by kernel_rfl, ?_⟩) (by first | assumption | trivial) ?_
        rotate_left
        · intro w hSw
          try dsimp only at hSw
          first | (go_simp; done) | (go_simp; with_reducible rfl)
        try simp only [Act.put, List.getElem_toArray, List.getElem_cons_succ, List.getElem_cons_zero, List.setIfInBounds_toArray, List.set_cons_zero, List.set_cons_succ]
        refine wpAnyH_take (i := 28) (v := ?_) rfl (by kernel_rfl) (by kernel_rfl) (by kernel_rfl) (fun _ _ _ h => h) (Or.inl ⟨by kernel_rfl, ?_⟩) (by first | assumption | trivial) ?_
        rotate_left
        · intro w hSw
          try dsimp only at hSw
          first | (go_simp; done) | (go_simp; with_reducible rfl)
        try simp only [Act.put, List.getElem_toArray, List.getElem_cons_succ, List.getElem_cons_zero, List.setIfInBounds_toArray, List.set_cons_zero, List.set_cons_succ]
        refine wpAnyH_take (i := 29) (v := ?_) rfl (by kernel_rfl) (by kernel_rfl) (by kernel_rfl) (fun _ _ _ h => h) (Or.inl ⟨by kernel_rfl, ?_⟩) (by first | assumption | trivial) ?_
        rotate_left
        · intro w hSw
          try dsimp only at hSw
          first | (go_simp; done) | (go_simp; with_reducible rfl)
        try simp only [Act.put, List.getElem_toArray, List.getElem_cons_succ, List.getElem_cons_zero, List.setIfInBounds_toArray, List.set_cons_zero, List.set_cons_succ]
        refine wpAnyH_take (i := 30) (v := ?_) rfl (by kernel_rfl) (by kernel_rfl) (by kernel_rfl) (fun _ _ _ h => h) (Or.inl ⟨by kernel_rfl, ?_⟩) (by first | assumption | trivial) ?_
        rotate_left
        · intro w hSw
          try dsimp only at hSw
          first | (go_simp; done) | (go_simp; with_reducible rfl)
        try simp only [Act.put, List.getElem_toArray, List.getElem_cons_succ, List.getElem_cons_zero, List.setIfInBounds_toArray, List.set_cons_zero, List.set_cons_succ]
        refine wpAnyH_take (i := 31) (v := undef) rfl (by kernel_rfl) (by kernel_rfl) (by kernel_rfl) (fun _ _ _ h => h) (Or.inr ⟨by kernel_rfl, rfl⟩) (by first | assumption | trivial) ?_
        try simp only [Act.put, List.getElem_toArray, List.getElem_cons_succ, List.getElem_cons_zero, List.setIfInBounds_toArray, List.set_cons_zero, List.set_cons_succ]
        refine wpAnyH_take (i := 32) (v := undef) rfl (by kernel_rfl) (by kernel_rfl) (by kernel_rfl) (fun _ _ _ h => h) (Or.inr ⟨by kernel_rfl, rfl⟩) (by first | assumption | trivial) ?_
        try simp only [Act.put, List.getElem_toArray, List.getElem_cons_succ, List.getElem_cons_zero, List.setIfInBounds_toArray, List.set_cons_zero, List.set_cons_succ]
        refine wpAnyH_take (i := 33) (v := undef) rfl (by kernel_rfl) (by kernel_rfl) (by kernel_rfl) (fun _ _ _ h => h) (Or.inr ⟨by kernel_rfl, rfl⟩) (by first | assumption | trivial) ?_
        try simp only [Act.put, List.getElem_toArray, List.getElem_cons_succ, List.getElem_cons_zero, List.setIfInBounds_toArray, List.set_cons_zero, List.set_cons_succ]
        refine wpAnyH_take (i := 34) (v := undef) rfl (by kernel_rfl) (by kernel_rfl) (by kernel_rfl) (fun _ _ _ h => h) (Or.inr ⟨by kernel_rfl, rfl⟩) (by first | assumption | trivial) ?_
        try simp only [Act.put, List.getElem_toArray, List.getElem_cons_succ, List.getElem_cons_zero, List.setIfInBounds_toArray, List.set_cons_zero, List.set_cons_succ]
        refine wpAnyH_take (i := 35) (v := undef) rfl (by kernel_rfl) (by kernel_rfl) (by kernel_rfl) (fun _ _ _ h => h) (Or.inr ⟨by kernel_rfl, rfl⟩) (by first | assumption | trivial) ?_
        try simp only [Act.put, List.getElem_toArray, List.getElem_cons_succ, List.getElem_cons_zero, List.setIfInBounds_toArray, List.set_cons_zero, List.set_cons_succ]
        refine wpAnyH_take (i := 36) (v := ?_) rfl (by kernel_rfl) (by kernel_rfl) (by kernel_rfl) (fun _ _ _ h => h) (Or.inl ⟨by kernel_rfl, ?_⟩) (by first | assumption | trivial) ?_
        rotate_left
        · intro w hSw
          try dsimp only at hSw
          first | (go_simp; done) | (go_simp; with_reducible rfl)
        try simp only [Act.put, List.getElem_toArray, List.getElem_cons_succ, List.getElem_cons_zero, List.setIfInBounds_toArray, List.set_cons_zero, List.set_cons_succ]
        refine wpAnyH_take (i := 37) (v := ?_) rfl (by kernel_rfl) (by kernel_rfl) (by kernel_rfl) (fun _ _ _ h => h) (Or.inl ⟨by kernel_rfl, ?_⟩) (by first | assumption | trivial) ?_
        rotate_left
        · intro w hSw
          try dsimp only at hSw
          first | (go_simp; done) | (go_simp; with_reducible rfl)
        try simp only [Act.put, List.getElem_toArray, List.getElem_cons_succ, List.getElem_cons_zero, List.setIfInBounds_toArray, List.set_cons_zero, List.set_cons_succ]
        refine wpAnyH_take (i := 38) (v := ?_) rfl (by kernel_rfl) (by kernel_rfl) (by kernel_rfl) (fun _ _ _ h => h) (Or.inl ⟨by kernel_rfl, ?_⟩) (by first | assumption | trivial) ?_
        rotate_left
        · intro w hSw
          try dsimp only at hSw
          first | (go_simp; done) | (go_simp; with_reducible rfl)
        try simp only [Act.put, List.getElem_toArray, List.getElem_cons_succ, List.getElem_cons_zero, List.setIfInBounds_toArray, List.set_cons_zero, List.set_cons_succ]
        refine wpAnyH_take (i := 39) (v := ?_) rfl (by kernel_rfl) (by kernel_rfl) (by kernel_rfl) (fun _ _ _ h => h) (Or.inl ⟨by kernel_rfl, ?_⟩) (by first | assumption | trivial) ?_
        rotate_left
        · intro w hSw
          try dsimp only at hSw
          first | (go_simp; done) | (go_simp; with_reducible rfl)
        try simp only [Act.put, List.getElem_toArray, List.getElem_cons_succ, List.getElem_cons_zero, List.setIfInBounds_toArray, List.set_cons_zero, List.set_cons_succ]
        refine wpAnyH_ready (rs := [40]) (by kernel_rfl) (by simp) ?_
        refine AllReadyH.cons rfl (fun K hK => ?_) AllReadyH.nil
        go_simp
        go_at_call 17
        refine (HO.out _).mono ?_
        rintro y w6 ⟨rfl, hb6⟩
        replace HXx := Lib.hid (HXx.out.below hb6 HXx.out.lt)
        replace HXy := Lib.hid (HXy.out.below hb6 HXy.out.lt)
        have HB55 := Lib.hid (HB54.out.trans (hb6.mono HB54.out.size))
        clear hb6
        try go_wp2_with fail
        refine hK.out _ _ ⟨HXy.out.cell 0, HXy.out.cell 1, HXy.out.cell 2, HXy.out.cell 3, HXy.out.cell 4, HXy.out.cell 5, HXy.out.cell 6, HXy.out.cell 7, HXx.out.cell 0, HXx.out.cell 1, HXx.out.cell 2, HXx.out.cell 3, HXx.out.cell 4, HXx.out.cell 5, HXx.out.cell 6, HXx.out.cell 7⟩ (fun hS => ?_)
        clear hK K
        try simp only [Act.put, List.getElem_toArray, List.getElem_cons_succ, List.getElem_cons_zero, List.setIfInBounds_toArray, List.set_cons_zero, List.set_cons_succ]
        refine wpAnyH_take (i := 41) (v := ?_) rfl (by kernel_rfl) (by kernel_rfl) (by kernel_rfl) (fun _ _ _ h => h) (Or.inl ⟨by kernel_rfl, ?_⟩) (by first | assumption | trivial) ?_
        rotate_left
        · intro w hSw
          try dsimp only at hSw
          first | (go_simp; done) | (go_simp; with_reducible rfl)
        try simp only [Act.put, List.getElem_toArray, List.getElem_cons_succ, List.getElem_cons_zero, List.setIfInBounds_toArray, List.set_cons_zero, List.set_cons_succ]
        refine wpAnyH_take (i := 42) (v := undef) rfl (by kernel_rfl) (by kernel_rfl) (by kernel_rfl) (fun _ _ _ h => h) (Or.inr ⟨by kernel_rfl, rfl⟩) (by first | assumption | trivial) ?_
        try simp only [Act.put, List.getElem_toArray, List.getElem_cons_succ, List.getElem_cons_zero, List.setIfInBounds_toArray, List.set_cons_zero, List.set_cons_succ]
        refine wpAnyH_take (i := 43) (v := undef) rfl (by kernel_rfl) (by kernel_rfl) (by kernel_rfl) (fun _ _ _ h => h) (Or.inr ⟨by kernel_rfl, rfl⟩) (by first | assumption | trivial) ?_
        try simp only [Act.put, List.getElem_toArray, List.getElem_cons_succ, List.getElem_cons_zero, List.setIfInBounds_toArray, List.set_cons_zero, List.set_cons_succ]
        refine wpAnyH_take (i := 44) (v := undef) rfl (by kernel_rfl) (by kernel_rfl) (by kernel_rfl) (fun _ _ _ h => h) (Or.inr ⟨by kernel_rfl, rfl⟩) (by first | assumption | trivial) ?_
        try simp only [Act.put, List.getElem_toArray, List.getElem_cons_succ, List.getElem_cons_zero, List.setIfInBounds_toArray, List.set_cons_zero, List.set_cons_succ]
        refine wpAnyH_take (i := 45) (v := ?_) rfl (by kernel_rfl) (by kernel_rfl) (by kernel_rfl) (fun _ _ _ h => h) (Or.inl ⟨by kernel_rfl, ?_⟩) (by first | assumption | trivial) ?_
        rotate_left
        · intro w hSw
          try dsimp only at hSw
          first | (go_simp; done) | (go_simp; with_reducible rfl)
        try simp only [Act.put, List.getElem_toArray, List.getElem_cons_succ, List.getElem_cons_zero, List.setIfInBounds_toArray, List.set_cons_zero, List.set_cons_succ]
        refine wpAnyH_take (i := 46) (v := ?_) rfl (by kernel_rfl) (by kernel_rfl) (by kernel_rfl) (fun _ _ _ h => h) (Or.inl ⟨by kernel_rfl, ?_⟩) (by first | assumption | trivial) ?_
        rotate_left
        · intro w hSw
          try dsimp only at hSw
          first | (go_simp; done) | (go_simp; with_reducible rfl)
        try simp only [Act.put, List.getElem_toArray, List.getElem_cons_succ, List.getElem_cons_zero, List.setIfInBounds_toArray, List.set_cons_zero, List.set_cons_succ]
        refine wpAnyH_take (i := 47) (v := ?_) rfl (by kernel_rfl) (by kernel_rfl) (by kernel_rfl) (fun _ _ _ h => h) (Or.inl ⟨by kernel_rfl, ?_⟩) (by first | assumption | trivial) ?_
        rotate_left
        · intro w hSw
          try dsimp only at hSw
          first | (go_simp; done) | (go_simp; with_reducible rfl)
        try simp only [Act.put, List.getElem_toArray, List.getElem_cons_succ, List.getElem_cons_zero, List.setIfInBounds_toArray, List.set_cons_zero, List.set_cons_succ]
        refine wpAnyH_take (i := 48) (v := ?_) rfl (by kernel_rfl) (by kernel_rfl) (by kernel_rfl) (fun _ _ _ h => h) (Or.inl ⟨by kernel_rfl, ?_⟩) (by first | assumption | trivial) ?_
        rotate_left
        · intro w hSw
          try dsimp only at hSw
          first | (go_simp; done) | (go_simp; with_reducible rfl)
        try simp only [Act.put, List.getElem_toArray, List.getElem_cons_succ, List.getElem_cons_zero, List.setIfInBounds_toArray, List.set_cons_zero, List.set_cons_succ]
        refine wpAnyH_take (i := 49) (v := ?_) rfl (by kernel_rfl) (by kernel_rfl) (by kernel_rfl) (fun _ _ _ h => h) (Or.inl ⟨by kernel_rfl, ?_⟩) (by first | assumption | trivial) ?_
        rotate_left
        · intro w hSw
          try dsimp only at hSw
          first | (go_simp; done) | (go_simp; with_reducible rfl)
        try simp only [Act.put, List.getElem_toArray, List.getElem_cons_succ, List.getElem_cons_zero, List.setIfInBounds_toArray, List.set_cons_zero, List.set_cons_succ]
        refine wpAnyH_take (i := 50) (v := ?_) rfl (by kernel_rfl) (by kernel_rfl) (by kernel_rfl) (fun _ _ _ h => h) (Or.inl ⟨by kernel_rfl, ?_⟩) (by first | assumption | trivial) ?_
        rotate_left
        · intro w hSw
          try dsimp only at hSw
          first | (go_simp; done) | (go_simp; with_reducible rfl)
        try simp only [Act.put, List.getElem_toArray, List.getElem_cons_succ, List.getElem_cons_zero, List.setIfInBounds_toArray, List.set_cons_zero, List.set_cons_succ]
        refine wpAnyH_take (i := 51) (v := ?_) rfl (by kernel_rfl) (by kernel_rfl) (by kernel_rfl) (fun _ _ _ h => h) (Or.inl ⟨by kernel_rfl, ?_⟩) (by first | assumption | trivial) ?_
        rotate_left
        · intro w hSw
          try dsimp only at hSw
          first | (go_simp; done) | (go_simp; with_reducible rfl)
        try simp only [Act.put, List.getElem_toArray, List.getElem_cons_succ, List.getElem_cons_zero, List.setIfInBounds_toArray, List.set_cons_zero, List.set_cons_succ]
        refine wpAnyH_take (i := 52) (v := ?_) rfl (by kernel_rfl) (by kernel_rfl) (by kernel_rfl) (fun _ _ _ h => h) (Or.inl ⟨by kernel_rfl, ?_⟩) (by first | assumption | trivial) ?_
        rotate_left
        · intro w hSw
          try dsimp only at hSw
          first | (go_simp; done) | (go_simp; with_reducible rfl)
        try simp only [Act.put, List.getElem_toArray, List.getElem_cons_succ, List.getElem_cons_zero, List.setIfInBounds_toArray, List.set_cons_zero, List.set_cons_succ]
        refine wpAnyH_take (i := 53) (v := ?_) rfl (by kernel_rfl) (by kernel_rfl) (by kernel_rfl) (fun _ _ _ h => h) (Or.inl ⟨by kernel_rfl, ?_⟩) (by first | assumption | trivial) ?_
        rotate_left
        · intro w hSw
          try dsimp only at hSw
          first | (go_simp; done) | (go_simp; with_reducible rfl)
        try simp only [Act.put, List.getElem_toArray, List.getElem_cons_succ, List.getElem_cons_zero, List.setIfInBounds_toArray, List.set_cons_zero, List.set_cons_succ]
        refine wpAnyH_take (i := 54) (v := ?_) rfl (by kernel_rfl) (by kernel_rfl) (by kernel_rfl) (fun _ _ _ h => h) (Or.inl ⟨by kernel_rfl, ?_⟩) (by first | assumption | trivial) ?_
        rotate_left
        · intro w hSw
          try dsimp only at hSw
          first | (go_simp; done) | (go_simp; with_reducible rfl)
        try simp only [Act.put, List.getElem_toArray, List.getElem_cons_succ, List.getElem_cons_zero, List.setIfInBounds_toArray, List.set_cons_zero, List.set_cons_succ]
        refine wpAnyH_take (i := 55) (v := ?_) rfl (by kernel_rfl) (by kernel_rfl) (by kernel_rfl) (fun _ _ _ h => h) (Or.inl ⟨by kernel_rfl, ?_⟩) (by first | assumption | trivial) ?_
        rotate_left
        · intro w hSw
          try dsimp only at hSw
          first | (go_simp; done) | (go_simp; with_reducible rfl)
        try simp only [Act.put, List.getElem_toArray, List.getElem_cons_succ, List.getElem_cons_zero, List.setIfInBounds_toArray, List.set_cons_zero, List.set_cons_succ]
        refine wpAnyH_done (by kernel_rfl) ?_ _
        have cy0 : w6.cell? ⟨w3.heap.size, 0, none⟩ = some (.int .i64 X.s) := HXy.out.cell 0
        have cy1 : w6.cell? ⟨w3.heap.size, 1, none⟩ = some (.int .i64 X.n) := HXy.out.cell 1
        have cy2 : w6.cell? ⟨w3.heap.size, 2, none⟩ = some (.int .i64 X.b) := HXy.out.cell 2
        have cy3 : w6.cell? ⟨w3.heap.size, 3, none⟩ = some (.int .i64 X.c) := HXy.out.cell 3
        have cy4 : w6.cell? ⟨w3.heap.size, 4, none⟩ = some (.int .i64 X.a) := HXy.out.cell 4
        have cy5 : w6.cell? ⟨w3.heap.size, 5, none⟩ = some (.int .i64 X.r) := HXy.out.cell 5
        have cy6 : w6.cell? ⟨w3.heap.size, 6, none⟩ = some (.int .i64 X.t) := HXy.out.cell 6
        have cy7 : w6.cell? ⟨w3.heap.size, 7, none⟩ = some (.int .i64 X.y) := HXy.out.cell 7
        have ly := HXy.out.lt
        have cx0 : w6.cell? ⟨w.heap.size, 0, none⟩ = some (.int .i64 X.s) := HXx.out.cell 0
        have cx1 : w6.cell? ⟨w.heap.size, 1, none⟩ = some (.int .i64 X.n) := HXx.out.cell 1
        have cx2 : w6.cell? ⟨w.heap.size, 2, none⟩ = some (.int .i64 X.b) := HXx.out.cell 2
        have cx3 : w6.cell? ⟨w.heap.size, 3, none⟩ = some (.int .i64 X.c) := HXx.out.cell 3
        have cx4 : w6.cell? ⟨w.heap.size, 4, none⟩ = some (.int .i64 X.a) := HXx.out.cell 4
        have cx5 : w6.cell? ⟨w.heap.size, 5, none⟩ = some (.int .i64 X.r) := HXx.out.cell 5
        have cx6 : w6.cell? ⟨w.heap.size, 6, none⟩ = some (.int .i64 X.t) := HXx.out.cell 6
        have cx7 : w6.cell? ⟨w.heap.size, 7, none⟩ = some (.int .i64 X.y) := HXx.out.cell 7
        have frx0 := HXx.out.free 0
        have frx1 := HXx.out.free 1
        have frx2 := HXx.out.free 2
        have frx3 := HXx.out.free 3
        have frx4 := HXx.out.free 4
        have frx5 := HXx.out.free 5
        have frx6 := HXx.out.free 6
        have frx7 := HXx.out.free 7
        have lx := HXx.out.lt
        clear HO HKy HKx HA
        go_wp2_with fail
        have HNX : Hid (FRel w X (set8 w6 w.heap.size X)) := ⟨blk_set8 (z := X) HXx.out X, below_set8 HB55.out (Nat.le_refl _) X, HY.out⟩
        go_roundw
        case rel => exact ⟨k + 1, X, by omega, by go_num, HNX⟩
        case measure => simp [intOf]; omega
end Go.Proofs.Ytadhiggmhibofaa
