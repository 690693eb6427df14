/- ItemRounds: the walk. -/
import Derived.Test.YtadhiggmhibofaaItem7
import Derived.Deep.RegionHeld3
namespace Go.Proofs.Ytadhiggmhibofaa
open Go.RowKit
/-- What the loop keeps: the item in block b, disputed and adjusted k times. -/
def RRel (W : World) (b : Nat) (A : Int) (k : Nat) (wr : World) : Prop := Blk wr b (⟨0, 1, 1, 0, A, (k : Int), 1, 0⟩ : Itm).row 25 ∧ Below W.heap.size W wr ∧ W.heap.size ≤ b
set_option linter.unusedSimpArgs false in
set_option maxHeartbeats 8000000 in
set_option maxRecDepth 100000 in
theorem itemrounds_walk (v : Value) (zs : List Int) (w : World) (h64 : All64 zs) (hr : Row .i64 w v zs) : Calls Try.prog 6 #[v] w fun e w' => e = .returned (.bool true) ∧ Below w.heap.size w w' := by
  have HL := Lib.hid (fun w => lives_any w)
  have HN : Hid (∀ w, Calls Try.prog 16 #[.agg #[.int .i64 0, .int .i64 1], .int .i64 1, .int .i64 0, .int .i64 5] w fun e w' => e = .returned (.tuple #[.agg #[.int .i64 0, .int .i64 1, .int .i64 1, .int .i64 0, .int .i64 5, .int .i64 0, .int .i64 1, .int .i64 0], .int .i64 0]) ∧ Below w.heap.size w w') := fun w => by
    have h := new_any 0 1 1 0 5 w
    rw [show newA (newI 0 1 1 0 5) = (⟨0, 1, 1, 0, 5, 0, 1, 0⟩, 0) by decide] at h
    exact h
  have HDI : Hid (∀ (A k : Int) w, Calls Try.prog 18 #[.agg #[.int .i64 0, .int .i64 1, .int .i64 1, .int .i64 0, .int .i64 A, .int .i64 k, .int .i64 1, .int .i64 0]] w fun e w' => e = .returned (.tuple #[.agg #[.int .i64 0, .int .i64 1, .int .i64 1, .int .i64 0, .int .i64 A, .int .i64 k, .int .i64 2, .int .i64 0], .int .i64 0]) ∧ Below w.heap.size w w') := fun A k w => dispute_any ⟨0, 1, 1, 0, A, k, 1, 0⟩ w
  have HAG : Hid (∀ (A k : Int) w, Calls Try.prog 21 #[.agg #[.int .i64 0, .int .i64 1, .int .i64 1, .int .i64 0, .int .i64 A, .int .i64 k, .int .i64 1, .int .i64 0]] w fun e w' => e = .returned (.tuple #[.agg #[.int .i64 0, .int .i64 1, .int .i64 1, .int .i64 0, .int .i64 A, .int .i64 k, .int .i64 3, .int .i64 0], .int .i64 0]) ∧ Below w.heap.size w w') := fun A k w => agree_any ⟨0, 1, 1, 0, A, k, 1, 0⟩ w
  have HCA : Hid (∀ (A k : Int) w, Calls Try.prog 20 #[.agg #[.int .i64 0, .int .i64 1, .int .i64 1, .int .i64 0, .int .i64 A, .int .i64 k, .int .i64 2, .int .i64 0]] w fun e w' => e = .returned (.tuple #[.agg #[.int .i64 0, .int .i64 1, .int .i64 1, .int .i64 0, .int .i64 A, .int .i64 k, .int .i64 4, .int .i64 0], .int .i64 0]) ∧ Below w.heap.size w w') := fun A k w => cancel_any ⟨0, 1, 1, 0, A, k, 2, 0⟩ w
  have HO4 : Hid (∀ (A k : Int) w, Calls Try.prog 17 #[.agg #[.int .i64 0, .int .i64 1, .int .i64 1, .int .i64 0, .int .i64 A, .int .i64 k, .int .i64 4, .int .i64 0]] w fun e w' => e = .returned (.bool true) ∧ Below w.heap.size w w') := fun A k w => over_any ⟨0, 1, 1, 0, A, k, 4, 0⟩ w
  have HO3 : Hid (∀ (A k : Int) w, Calls Try.prog 17 #[.agg #[.int .i64 0, .int .i64 1, .int .i64 1, .int .i64 0, .int .i64 A, .int .i64 k, .int .i64 3, .int .i64 0]] w fun e w' => e = .returned (.bool false) ∧ Below w.heap.size w w') := fun A k w => over_any ⟨0, 1, 1, 0, A, k, 3, 0⟩ w
  have HAJ : Hid (∀ (A k a : Int) w, 0 ≤ k → k ≤ 3 → Calls Try.prog 19 #[.agg #[.int .i64 0, .int .i64 1, .int .i64 1, .int .i64 0, .int .i64 A, .int .i64 k, .int .i64 2, .int .i64 0], .int .i64 a] w fun e w' => e = ansI (adjI ⟨0, 1, 1, 0, A, k, 2, 0⟩ a) ∧ Below w.heap.size w w') := fun A k a w h0 h3 => adjust_any ⟨0, 1, 1, 0, A, k, 2, 0⟩ a w (by unfold F64; dsimp only; omega)
  have HROW := Lib.hid hr
  have H64 := Lib.hid h64
  obtain ⟨p, c, rfl, hc, hrow⟩ := hr
  have HRW := Lib.hid hrow
  have HZ : Hid (∀ i, i < zs.length → zs.getD i 0 = zs.getD i 0) := fun _ _ => rfl
  clear hc hrow h64 HZ
  generalize hn : zs.length = n at *
  have HNN := Lib.hid hn
  clear hn
  by_cases hb : 20 < n
  · have hb' : (20 : Int) < (n : Int) := by omega
    clear HROW HRW
    have HB0 := Lib.hid (Below.refl w.heap.size w)
    go_enter Try.func6, Try.ntmps6
    go_wp2_with fail
    refine (HL.out _).mono ?_
    rintro z w1 ⟨rfl, hb1⟩
    have HB1 := Lib.hid (HB0.out.trans (hb1.mono HB0.out.size))
    clear hb1
    go_wp2_with fail
    go_ret
    exact ⟨rfl, HB1.out⟩
  have hb' : ¬ (20 : Int) < (n : Int) := by omega
  have HB0 := Lib.hid (Below.refl w.heap.size w)
  go_enter Try.func6, Try.ntmps6
  go_wp2_with fail
  refine (HL.out _).mono ?_
  rintro z w1 ⟨rfl, hb1⟩
  have HB1 := Lib.hid (HB0.out.trans (hb1.mono HB0.out.size))
  clear hb1
  go_wp2_with fail
  refine (HN.out _).mono ?_
  rintro z w2 ⟨rfl, hb2⟩
  have HB2 := Lib.hid (HB1.out.trans (hb2.mono HB1.out.size))
  clear hb2
  have HSZ := Lib.hid HB2.out.size
  have HXx := Lib.hid (Blk.new' (w2) #[.int .i64 0, .int .i64 1, .int .i64 1, .int .i64 0, .int .i64 5, .int .i64 0, .int .i64 1, .int .i64 0] 25 (b := w2.heap.size) (by simp))
  have HB3 := Lib.hid (HB2.out.alloc HB2.out.size (.cells #[.int .i64 0, .int .i64 1, .int .i64 1, .int .i64 0, .int .i64 5, .int .i64 0, .int .i64 1, .int .i64 0] 25))
  have HREL : Hid (RRel w w2.heap.size 5 0 ((w2).alloc (.cells #[.int .i64 0, .int .i64 1, .int .i64 1, .int .i64 0, .int .i64 5, .int .i64 0, .int .i64 1, .int .i64 0] 25))) := ⟨HXx.out, HB3.out, HSZ.out⟩
  have HBASE := Lib.hid (Nat.le_refl w2.heap.size)
  go_wp2_with fail
  clear HL HN hb'
  generalize w2.heap.size = B at *
  go_loopw [5, 29] (fun m i wr => ∃ (k : Nat) (A : Int), k ≤ n ∧ k ≤ 3 ∧ i = .int .i64 k ∧ m = .int .i64 k ∧ Hid (RRel w B A k wr)) (fun _ i _ => n - (intOf i).toNat)
  case atStart => exact ⟨0, 5, by omega, by omega, rfl, rfl, HREL⟩
  case round =>
    clear HREL
    obtain ⟨k, A, hk, hk3, rfl, rfl, HJ⟩ := hrel
    have HXx := Lib.hid HJ.out.1
    have HBr := Lib.hid HJ.out.2.1
    have HBB := Lib.hid HJ.out.2.2
    clear HJ
    have cx0 : wr.cell? ⟨B, 0, none⟩ = some (.int .i64 0) := HXx.out.cell 0
    have cx1 : wr.cell? ⟨B, 1, none⟩ = some (.int .i64 1) := HXx.out.cell 1
    have cx2 : wr.cell? ⟨B, 2, none⟩ = some (.int .i64 1) := HXx.out.cell 2
    have cx3 : wr.cell? ⟨B, 3, none⟩ = some (.int .i64 0) := HXx.out.cell 3
    have cx4 : wr.cell? ⟨B, 4, none⟩ = some (.int .i64 A) := HXx.out.cell 4
    have cx5 : wr.cell? ⟨B, 5, none⟩ = some (.int .i64 (k : Int)) := HXx.out.cell 5
    have cx6 : wr.cell? ⟨B, 6, none⟩ = some (.int .i64 1) := HXx.out.cell 6
    have cx7 : wr.cell? ⟨B, 7, none⟩ = some (.int .i64 0) := HXx.out.cell 7
    have lx := HXx.out.lt
    by_cases hlt : k < n
    rotate_left
    · have hle : (n : Int) ≤ (k : Int) := by omega
      go_wp2_with fail
      refine (HAG.out _ _ _).mono ?_
      rintro z w3 ⟨rfl, hb3⟩
      replace HXx := Lib.hid (HXx.out.below hb3 HXx.out.lt)
      have HB51 := Lib.hid (HBr.out.trans (hb3.mono HBr.out.size))
      clear hb3
      have cx0 : w3.cell? ⟨B, 0, none⟩ = some (.int .i64 0) := HXx.out.cell 0
      have cx1 : w3.cell? ⟨B, 1, none⟩ = some (.int .i64 1) := HXx.out.cell 1
      have cx2 : w3.cell? ⟨B, 2, none⟩ = some (.int .i64 1) := HXx.out.cell 2
      have cx3 : w3.cell? ⟨B, 3, none⟩ = some (.int .i64 0) := HXx.out.cell 3
      have cx4 : w3.cell? ⟨B, 4, none⟩ = some (.int .i64 A) := HXx.out.cell 4
      have cx5 : w3.cell? ⟨B, 5, none⟩ = some (.int .i64 (k : Int)) := HXx.out.cell 5
      have cx6 : w3.cell? ⟨B, 6, none⟩ = some (.int .i64 1) := HXx.out.cell 6
      have cx7 : w3.cell? ⟨B, 7, none⟩ = some (.int .i64 0) := HXx.out.cell 7
      have lx := HXx.out.lt
      replace HXx := Lib.hid (HXx.out.alloc (.cells #[.int .i64 0, .int .i64 1, .int .i64 1, .int .i64 0, .int .i64 A, .int .i64 (k : Int), .int .i64 3, .int .i64 0] 25))
      have HXg := Lib.hid (Blk.new' (w3) #[.int .i64 0, .int .i64 1, .int .i64 1, .int .i64 0, .int .i64 A, .int .i64 (k : Int), .int .i64 3, .int .i64 0] 25 (b := w3.heap.size) (by simp))
      have HB52 := Lib.hid (HB51.out.alloc HB51.out.size (.cells #[.int .i64 0, .int .i64 1, .int .i64 1, .int .i64 0, .int .i64 A, .int .i64 (k : Int), .int .i64 3, .int .i64 0] 25))
      go_wp2_with fail
      refine (HO3.out _ _ _).mono ?_
      rintro z w4 ⟨rfl, hb4⟩
      replace HXx := Lib.hid (HXx.out.below hb4 HXx.out.lt)
      replace HXg := Lib.hid (HXg.out.below hb4 HXg.out.lt)
      have HB53 := Lib.hid (HB52.out.trans (hb4.mono HB52.out.size))
      clear hb4
      have cx0 : w4.cell? ⟨B, 0, none⟩ = some (.int .i64 0) := HXx.out.cell 0
      have cx1 : w4.cell? ⟨B, 1, none⟩ = some (.int .i64 1) := HXx.out.cell 1
      have cx2 : w4.cell? ⟨B, 2, none⟩ = some (.int .i64 1) := HXx.out.cell 2
      have cx3 : w4.cell? ⟨B, 3, none⟩ = some (.int .i64 0) := HXx.out.cell 3
      have cx4 : w4.cell? ⟨B, 4, none⟩ = some (.int .i64 A) := HXx.out.cell 4
      have cx5 : w4.cell? ⟨B, 5, none⟩ = some (.int .i64 (k : Int)) := HXx.out.cell 5
      have cx6 : w4.cell? ⟨B, 6, none⟩ = some (.int .i64 1) := HXx.out.cell 6
      have cx7 : w4.cell? ⟨B, 7, none⟩ = some (.int .i64 0) := HXx.out.cell 7
      have lx := HXx.out.lt
      have cg0 : w4.cell? ⟨w3.heap.size, 0, none⟩ = some (.int .i64 0) := HXg.out.cell 0
      have cg1 : w4.cell? ⟨w3.heap.size, 1, none⟩ = some (.int .i64 1) := HXg.out.cell 1
      have cg2 : w4.cell? ⟨w3.heap.size, 2, none⟩ = some (.int .i64 1) := HXg.out.cell 2
      have cg3 : w4.cell? ⟨w3.heap.size, 3, none⟩ = some (.int .i64 0) := HXg.out.cell 3
      have cg4 : w4.cell? ⟨w3.heap.size, 4, none⟩ = some (.int .i64 A) := HXg.out.cell 4
      have cg5 : w4.cell? ⟨w3.heap.size, 5, none⟩ = some (.int .i64 (k : Int)) := HXg.out.cell 5
      have cg6 : w4.cell? ⟨w3.heap.size, 6, none⟩ = some (.int .i64 3) := HXg.out.cell 6
      have cg7 : w4.cell? ⟨w3.heap.size, 7, none⟩ = some (.int .i64 0) := HXg.out.cell 7
      have lg := HXg.out.lt
      go_wp2_with fail
      go_ret
      exact ⟨rfl, HB53.out⟩
    have hltI : (k : Int) < (n : Int) := by omega
    have hkl : k < zs.length := by rw [HNN.out]; exact hlt
    obtain ⟨b, o, hp, hcell⟩ : ∃ b o, p = some ⟨b, o, none⟩ ∧ ∀ i, i < n → w.cell? ⟨b, o + i, none⟩ = some (.int .i64 (zs.getD i 0)) := by
      rcases HRW.out with h0 | h0
      · rw [h0] at hkl; simp at hkl
      · exact h0
    subst hp
    have hbl := World.block_lt_of_cell? w _ (hcell k hlt)
    have q0 := (HBr.out.cell (p := ⟨b, o + k, none⟩) hbl).trans (hcell k hlt)
    have hbl2 : b < wr.heap.size := Nat.lt_of_lt_of_le hbl HBr.out.size
    have hAJ := fun w => HAJ.out A k (zs.getD k 0) w (by omega) (by omega)
    clear hcell hkl HRW HAG HO3
    generalize zs.getD k 0 = a at *
    by_cases ha1 : 1 ≤ a
    rotate_left
    · skip
      have g1 : a < 1 := by omega
      rw [show adjI ⟨0, 1, 1, 0, A, (k : Int), 2, 0⟩ a = ((⟨0, 1, 1, 0, A, (k : Int), 2, 0⟩ : Itm), 1) from by unfold adjI; rw [if_pos rfl, if_neg (by omega)]] at hAJ
      have HA := Lib.hid hAJ
      clear hAJ
      unfold ansI Itm.v at HA
      dsimp only at HA
      go_wp2_with fail
      refine (HDI.out _ _ _).mono ?_
      rintro z w3 ⟨rfl, hb3⟩
      replace HXx := Lib.hid (HXx.out.below hb3 HXx.out.lt)
      have HB51 := Lib.hid (HBr.out.trans (hb3.mono HBr.out.size))
      clear hb3
      have cx0 : w3.cell? ⟨B, 0, none⟩ = some (.int .i64 0) := HXx.out.cell 0
      have cx1 : w3.cell? ⟨B, 1, none⟩ = some (.int .i64 1) := HXx.out.cell 1
      have cx2 : w3.cell? ⟨B, 2, none⟩ = some (.int .i64 1) := HXx.out.cell 2
      have cx3 : w3.cell? ⟨B, 3, none⟩ = some (.int .i64 0) := HXx.out.cell 3
      have cx4 : w3.cell? ⟨B, 4, none⟩ = some (.int .i64 A) := HXx.out.cell 4
      have cx5 : w3.cell? ⟨B, 5, none⟩ = some (.int .i64 (k : Int)) := HXx.out.cell 5
      have cx6 : w3.cell? ⟨B, 6, none⟩ = some (.int .i64 1) := HXx.out.cell 6
      have cx7 : w3.cell? ⟨B, 7, none⟩ = some (.int .i64 0) := HXx.out.cell 7
      have lx := HXx.out.lt
      replace HXx := Lib.hid (HXx.out.alloc (.cells #[.int .i64 0, .int .i64 1, .int .i64 1, .int .i64 0, .int .i64 A, .int .i64 (k : Int), .int .i64 2, .int .i64 0] 25))
      have HXy := Lib.hid (Blk.new' (w3) #[.int .i64 0, .int .i64 1, .int .i64 1, .int .i64 0, .int .i64 A, .int .i64 (k : Int), .int .i64 2, .int .i64 0] 25 (b := w3.heap.size) (by simp))
      have HB52 := Lib.hid (HB51.out.alloc HB51.out.size (.cells #[.int .i64 0, .int .i64 1, .int .i64 1, .int .i64 0, .int .i64 A, .int .i64 (k : Int), .int .i64 2, .int .i64 0] 25))
      go_wp2_with fail
      refine (HA.out _).mono ?_
      rintro z w4 ⟨rfl, hb4⟩
      replace HXx := Lib.hid (HXx.out.below hb4 HXx.out.lt)
      replace HXy := Lib.hid (HXy.out.below hb4 HXy.out.lt)
      have HB53 := Lib.hid (HB52.out.trans (hb4.mono HB52.out.size))
      clear hb4
      have cx0 : w4.cell? ⟨B, 0, none⟩ = some (.int .i64 0) := HXx.out.cell 0
      have cx1 : w4.cell? ⟨B, 1, none⟩ = some (.int .i64 1) := HXx.out.cell 1
      have cx2 : w4.cell? ⟨B, 2, none⟩ = some (.int .i64 1) := HXx.out.cell 2
      have cx3 : w4.cell? ⟨B, 3, none⟩ = some (.int .i64 0) := HXx.out.cell 3
      have cx4 : w4.cell? ⟨B, 4, none⟩ = some (.int .i64 A) := HXx.out.cell 4
      have cx5 : w4.cell? ⟨B, 5, none⟩ = some (.int .i64 (k : Int)) := HXx.out.cell 5
      have cx6 : w4.cell? ⟨B, 6, none⟩ = some (.int .i64 1) := HXx.out.cell 6
      have cx7 : w4.cell? ⟨B, 7, none⟩ = some (.int .i64 0) := HXx.out.cell 7
      have lx := HXx.out.lt
      have cy0 : w4.cell? ⟨w3.heap.size, 0, none⟩ = some (.int .i64 0) := HXy.out.cell 0
      have cy1 : w4.cell? ⟨w3.heap.size, 1, none⟩ = some (.int .i64 1) := HXy.out.cell 1
      have cy2 : w4.cell? ⟨w3.heap.size, 2, none⟩ = some (.int .i64 1) := HXy.out.cell 2
      have cy3 : w4.cell? ⟨w3.heap.size, 3, none⟩ = some (.int .i64 0) := HXy.out.cell 3
      have cy4 : w4.cell? ⟨w3.heap.size, 4, none⟩ = some (.int .i64 A) := HXy.out.cell 4
      have cy5 : w4.cell? ⟨w3.heap.size, 5, none⟩ = some (.int .i64 (k : Int)) := HXy.out.cell 5
      have cy6 : w4.cell? ⟨w3.heap.size, 6, none⟩ = some (.int .i64 2) := HXy.out.cell 6
      have cy7 : w4.cell? ⟨w3.heap.size, 7, none⟩ = some (.int .i64 0) := HXy.out.cell 7
      have ly := HXy.out.lt
      have HXL := HXx
      have HBL := HB53
      replace HXx := Lib.hid (HXx.out.alloc (.cells #[.int .i64 0, .int .i64 1, .int .i64 1, .int .i64 0, .int .i64 A, .int .i64 (k : Int), .int .i64 2, .int .i64 0] 25))
      replace HXy := Lib.hid (HXy.out.alloc (.cells #[.int .i64 0, .int .i64 1, .int .i64 1, .int .i64 0, .int .i64 A, .int .i64 (k : Int), .int .i64 2, .int .i64 0] 25))
      have HXz := Lib.hid (Blk.new' (w4) #[.int .i64 0, .int .i64 1, .int .i64 1, .int .i64 0, .int .i64 A, .int .i64 (k : Int), .int .i64 2, .int .i64 0] 25 (b := w4.heap.size) (by simp))
      have HB54 := Lib.hid (HB53.out.alloc HB53.out.size (.cells #[.int .i64 0, .int .i64 1, .int .i64 1, .int .i64 0, .int .i64 A, .int .i64 (k : Int), .int .i64 2, .int .i64 0] 25))
      go_wp2_with fail
      refine (HCA.out _ _ _).mono ?_
      rintro z w5 ⟨rfl, hb5⟩
      replace HXx := Lib.hid (HXx.out.below hb5 HXx.out.lt)
      replace HXy := Lib.hid (HXy.out.below hb5 HXy.out.lt)
      replace HXz := Lib.hid (HXz.out.below hb5 HXz.out.lt)
      have HB55 := Lib.hid (HB54.out.trans (hb5.mono HB54.out.size))
      clear hb5
      have cx0 : w5.cell? ⟨B, 0, none⟩ = some (.int .i64 0) := HXx.out.cell 0
      have cx1 : w5.cell? ⟨B, 1, none⟩ = some (.int .i64 1) := HXx.out.cell 1
      have cx2 : w5.cell? ⟨B, 2, none⟩ = some (.int .i64 1) := HXx.out.cell 2
      have cx3 : w5.cell? ⟨B, 3, none⟩ = some (.int .i64 0) := HXx.out.cell 3
      have cx4 : w5.cell? ⟨B, 4, none⟩ = some (.int .i64 A) := HXx.out.cell 4
      have cx5 : w5.cell? ⟨B, 5, none⟩ = some (.int .i64 (k : Int)) := HXx.out.cell 5
      have cx6 : w5.cell? ⟨B, 6, none⟩ = some (.int .i64 1) := HXx.out.cell 6
      have cx7 : w5.cell? ⟨B, 7, none⟩ = some (.int .i64 0) := HXx.out.cell 7
      have lx := HXx.out.lt
      have cy0 : w5.cell? ⟨w3.heap.size, 0, none⟩ = some (.int .i64 0) := HXy.out.cell 0
      have cy1 : w5.cell? ⟨w3.heap.size, 1, none⟩ = some (.int .i64 1) := HXy.out.cell 1
      have cy2 : w5.cell? ⟨w3.heap.size, 2, none⟩ = some (.int .i64 1) := HXy.out.cell 2
      have cy3 : w5.cell? ⟨w3.heap.size, 3, none⟩ = some (.int .i64 0) := HXy.out.cell 3
      have cy4 : w5.cell? ⟨w3.heap.size, 4, none⟩ = some (.int .i64 A) := HXy.out.cell 4
      have cy5 : w5.cell? ⟨w3.heap.size, 5, none⟩ = some (.int .i64 (k : Int)) := HXy.out.cell 5
      have cy6 : w5.cell? ⟨w3.heap.size, 6, none⟩ = some (.int .i64 2) := HXy.out.cell 6
      have cy7 : w5.cell? ⟨w3.heap.size, 7, none⟩ = some (.int .i64 0) := HXy.out.cell 7
      have ly := HXy.out.lt
      have cz0 : w5.cell? ⟨w4.heap.size, 0, none⟩ = some (.int .i64 0) := HXz.out.cell 0
      have cz1 : w5.cell? ⟨w4.heap.size, 1, none⟩ = some (.int .i64 1) := HXz.out.cell 1
      have cz2 : w5.cell? ⟨w4.heap.size, 2, none⟩ = some (.int .i64 1) := HXz.out.cell 2
      have cz3 : w5.cell? ⟨w4.heap.size, 3, none⟩ = some (.int .i64 0) := HXz.out.cell 3
      have cz4 : w5.cell? ⟨w4.heap.size, 4, none⟩ = some (.int .i64 A) := HXz.out.cell 4
      have cz5 : w5.cell? ⟨w4.heap.size, 5, none⟩ = some (.int .i64 (k : Int)) := HXz.out.cell 5
      have cz6 : w5.cell? ⟨w4.heap.size, 6, none⟩ = some (.int .i64 2) := HXz.out.cell 6
      have cz7 : w5.cell? ⟨w4.heap.size, 7, none⟩ = some (.int .i64 0) := HXz.out.cell 7
      have lz := HXz.out.lt
      replace HXx := Lib.hid (HXx.out.alloc (.cells #[.int .i64 0, .int .i64 1, .int .i64 1, .int .i64 0, .int .i64 A, .int .i64 (k : Int), .int .i64 4, .int .i64 0] 25))
      replace HXy := Lib.hid (HXy.out.alloc (.cells #[.int .i64 0, .int .i64 1, .int .i64 1, .int .i64 0, .int .i64 A, .int .i64 (k : Int), .int .i64 4, .int .i64 0] 25))
      replace HXz := Lib.hid (HXz.out.alloc (.cells #[.int .i64 0, .int .i64 1, .int .i64 1, .int .i64 0, .int .i64 A, .int .i64 (k : Int), .int .i64 4, .int .i64 0] 25))
      have HXc := Lib.hid (Blk.new' (w5) #[.int .i64 0, .int .i64 1, .int .i64 1, .int .i64 0, .int .i64 A, .int .i64 (k : Int), .int .i64 4, .int .i64 0] 25 (b := w5.heap.size) (by simp))
      have HB56 := Lib.hid (HB55.out.alloc HB55.out.size (.cells #[.int .i64 0, .int .i64 1, .int .i64 1, .int .i64 0, .int .i64 A, .int .i64 (k : Int), .int .i64 4, .int .i64 0] 25))
      go_wp2_with fail
      refine (HO4.out _ _ _).mono ?_
      rintro z w6 ⟨rfl, hb6⟩
      replace HXx := Lib.hid (HXx.out.below hb6 HXx.out.lt)
      replace HXy := Lib.hid (HXy.out.below hb6 HXy.out.lt)
      replace HXz := Lib.hid (HXz.out.below hb6 HXz.out.lt)
      replace HXc := Lib.hid (HXc.out.below hb6 HXc.out.lt)
      have HB57 := Lib.hid (HB56.out.trans (hb6.mono HB56.out.size))
      clear hb6
      have cx0 : w6.cell? ⟨B, 0, none⟩ = some (.int .i64 0) := HXx.out.cell 0
      have cx1 : w6.cell? ⟨B, 1, none⟩ = some (.int .i64 1) := HXx.out.cell 1
      have cx2 : w6.cell? ⟨B, 2, none⟩ = some (.int .i64 1) := HXx.out.cell 2
      have cx3 : w6.cell? ⟨B, 3, none⟩ = some (.int .i64 0) := HXx.out.cell 3
      have cx4 : w6.cell? ⟨B, 4, none⟩ = some (.int .i64 A) := HXx.out.cell 4
      have cx5 : w6.cell? ⟨B, 5, none⟩ = some (.int .i64 (k : Int)) := HXx.out.cell 5
      have cx6 : w6.cell? ⟨B, 6, none⟩ = some (.int .i64 1) := HXx.out.cell 6
      have cx7 : w6.cell? ⟨B, 7, none⟩ = some (.int .i64 0) := HXx.out.cell 7
      have lx := HXx.out.lt
      have cy0 : w6.cell? ⟨w3.heap.size, 0, none⟩ = some (.int .i64 0) := HXy.out.cell 0
      have cy1 : w6.cell? ⟨w3.heap.size, 1, none⟩ = some (.int .i64 1) := HXy.out.cell 1
      have cy2 : w6.cell? ⟨w3.heap.size, 2, none⟩ = some (.int .i64 1) := HXy.out.cell 2
      have cy3 : w6.cell? ⟨w3.heap.size, 3, none⟩ = some (.int .i64 0) := HXy.out.cell 3
      have cy4 : w6.cell? ⟨w3.heap.size, 4, none⟩ = some (.int .i64 A) := HXy.out.cell 4
      have cy5 : w6.cell? ⟨w3.heap.size, 5, none⟩ = some (.int .i64 (k : Int)) := HXy.out.cell 5
      have cy6 : w6.cell? ⟨w3.heap.size, 6, none⟩ = some (.int .i64 2) := HXy.out.cell 6
      have cy7 : w6.cell? ⟨w3.heap.size, 7, none⟩ = some (.int .i64 0) := HXy.out.cell 7
      have ly := HXy.out.lt
      have cz0 : w6.cell? ⟨w4.heap.size, 0, none⟩ = some (.int .i64 0) := HXz.out.cell 0
      have cz1 : w6.cell? ⟨w4.heap.size, 1, none⟩ = some (.int .i64 1) := HXz.out.cell 1
      have cz2 : w6.cell? ⟨w4.heap.size, 2, none⟩ = some (.int .i64 1) := HXz.out.cell 2
      have cz3 : w6.cell? ⟨w4.heap.size, 3, none⟩ = some (.int .i64 0) := HXz.out.cell 3
      have cz4 : w6.cell? ⟨w4.heap.size, 4, none⟩ = some (.int .i64 A) := HXz.out.cell 4
      have cz5 : w6.cell? ⟨w4.heap.size, 5, none⟩ = some (.int .i64 (k : Int)) := HXz.out.cell 5
      have cz6 : w6.cell? ⟨w4.heap.size, 6, none⟩ = some (.int .i64 2) := HXz.out.cell 6
      have cz7 : w6.cell? ⟨w4.heap.size, 7, none⟩ = some (.int .i64 0) := HXz.out.cell 7
      have lz := HXz.out.lt
      have cc0 : w6.cell? ⟨w5.heap.size, 0, none⟩ = some (.int .i64 0) := HXc.out.cell 0
      have cc1 : w6.cell? ⟨w5.heap.size, 1, none⟩ = some (.int .i64 1) := HXc.out.cell 1
      have cc2 : w6.cell? ⟨w5.heap.size, 2, none⟩ = some (.int .i64 1) := HXc.out.cell 2
      have cc3 : w6.cell? ⟨w5.heap.size, 3, none⟩ = some (.int .i64 0) := HXc.out.cell 3
      have cc4 : w6.cell? ⟨w5.heap.size, 4, none⟩ = some (.int .i64 A) := HXc.out.cell 4
      have cc5 : w6.cell? ⟨w5.heap.size, 5, none⟩ = some (.int .i64 (k : Int)) := HXc.out.cell 5
      have cc6 : w6.cell? ⟨w5.heap.size, 6, none⟩ = some (.int .i64 4) := HXc.out.cell 6
      have cc7 : w6.cell? ⟨w5.heap.size, 7, none⟩ = some (.int .i64 0) := HXc.out.cell 7
      have lc := HXc.out.lt
      go_wp2_with fail
      go_ret
      exact ⟨rfl, HB57.out⟩
    by_cases ha2 : a ≤ 1125899906842624
    rotate_left
    · skip
      have g1 : 1125899906842624 < a := by omega
      rw [show adjI ⟨0, 1, 1, 0, A, (k : Int), 2, 0⟩ a = ((⟨0, 1, 1, 0, A, (k : Int), 2, 0⟩ : Itm), 1) from by unfold adjI; rw [if_pos rfl, if_neg (by omega)]] at hAJ
      have HA := Lib.hid hAJ
      clear hAJ
      unfold ansI Itm.v at HA
      dsimp only at HA
      go_wp2_with fail
      refine (HDI.out _ _ _).mono ?_
      rintro z w3 ⟨rfl, hb3⟩
      replace HXx := Lib.hid (HXx.out.below hb3 HXx.out.lt)
      have HB51 := Lib.hid (HBr.out.trans (hb3.mono HBr.out.size))
      clear hb3
      have cx0 : w3.cell? ⟨B, 0, none⟩ = some (.int .i64 0) := HXx.out.cell 0
      have cx1 : w3.cell? ⟨B, 1, none⟩ = some (.int .i64 1) := HXx.out.cell 1
      have cx2 : w3.cell? ⟨B, 2, none⟩ = some (.int .i64 1) := HXx.out.cell 2
      have cx3 : w3.cell? ⟨B, 3, none⟩ = some (.int .i64 0) := HXx.out.cell 3
      have cx4 : w3.cell? ⟨B, 4, none⟩ = some (.int .i64 A) := HXx.out.cell 4
      have cx5 : w3.cell? ⟨B, 5, none⟩ = some (.int .i64 (k : Int)) := HXx.out.cell 5
      have cx6 : w3.cell? ⟨B, 6, none⟩ = some (.int .i64 1) := HXx.out.cell 6
      have cx7 : w3.cell? ⟨B, 7, none⟩ = some (.int .i64 0) := HXx.out.cell 7
      have lx := HXx.out.lt
      replace HXx := Lib.hid (HXx.out.alloc (.cells #[.int .i64 0, .int .i64 1, .int .i64 1, .int .i64 0, .int .i64 A, .int .i64 (k : Int), .int .i64 2, .int .i64 0] 25))
      have HXy := Lib.hid (Blk.new' (w3) #[.int .i64 0, .int .i64 1, .int .i64 1, .int .i64 0, .int .i64 A, .int .i64 (k : Int), .int .i64 2, .int .i64 0] 25 (b := w3.heap.size) (by simp))
      have HB52 := Lib.hid (HB51.out.alloc HB51.out.size (.cells #[.int .i64 0, .int .i64 1, .int .i64 1, .int .i64 0, .int .i64 A, .int .i64 (k : Int), .int .i64 2, .int .i64 0] 25))
      go_wp2_with fail
      refine (HA.out _).mono ?_
      rintro z w4 ⟨rfl, hb4⟩
      replace HXx := Lib.hid (HXx.out.below hb4 HXx.out.lt)
      replace HXy := Lib.hid (HXy.out.below hb4 HXy.out.lt)
      have HB53 := Lib.hid (HB52.out.trans (hb4.mono HB52.out.size))
      clear hb4
      have cx0 : w4.cell? ⟨B, 0, none⟩ = some (.int .i64 0) := HXx.out.cell 0
      have cx1 : w4.cell? ⟨B, 1, none⟩ = some (.int .i64 1) := HXx.out.cell 1
      have cx2 : w4.cell? ⟨B, 2, none⟩ = some (.int .i64 1) := HXx.out.cell 2
      have cx3 : w4.cell? ⟨B, 3, none⟩ = some (.int .i64 0) := HXx.out.cell 3
      have cx4 : w4.cell? ⟨B, 4, none⟩ = some (.int .i64 A) := HXx.out.cell 4
      have cx5 : w4.cell? ⟨B, 5, none⟩ = some (.int .i64 (k : Int)) := HXx.out.cell 5
      have cx6 : w4.cell? ⟨B, 6, none⟩ = some (.int .i64 1) := HXx.out.cell 6
      have cx7 : w4.cell? ⟨B, 7, none⟩ = some (.int .i64 0) := HXx.out.cell 7
      have lx := HXx.out.lt
      have cy0 : w4.cell? ⟨w3.heap.size, 0, none⟩ = some (.int .i64 0) := HXy.out.cell 0
      have cy1 : w4.cell? ⟨w3.heap.size, 1, none⟩ = some (.int .i64 1) := HXy.out.cell 1
      have cy2 : w4.cell? ⟨w3.heap.size, 2, none⟩ = some (.int .i64 1) := HXy.out.cell 2
      have cy3 : w4.cell? ⟨w3.heap.size, 3, none⟩ = some (.int .i64 0) := HXy.out.cell 3
      have cy4 : w4.cell? ⟨w3.heap.size, 4, none⟩ = some (.int .i64 A) := HXy.out.cell 4
      have cy5 : w4.cell? ⟨w3.heap.size, 5, none⟩ = some (.int .i64 (k : Int)) := HXy.out.cell 5
      have cy6 : w4.cell? ⟨w3.heap.size, 6, none⟩ = some (.int .i64 2) := HXy.out.cell 6
      have cy7 : w4.cell? ⟨w3.heap.size, 7, none⟩ = some (.int .i64 0) := HXy.out.cell 7
      have ly := HXy.out.lt
      have HXL := HXx
      have HBL := HB53
      replace HXx := Lib.hid (HXx.out.alloc (.cells #[.int .i64 0, .int .i64 1, .int .i64 1, .int .i64 0, .int .i64 A, .int .i64 (k : Int), .int .i64 2, .int .i64 0] 25))
      replace HXy := Lib.hid (HXy.out.alloc (.cells #[.int .i64 0, .int .i64 1, .int .i64 1, .int .i64 0, .int .i64 A, .int .i64 (k : Int), .int .i64 2, .int .i64 0] 25))
      have HXz := Lib.hid (Blk.new' (w4) #[.int .i64 0, .int .i64 1, .int .i64 1, .int .i64 0, .int .i64 A, .int .i64 (k : Int), .int .i64 2, .int .i64 0] 25 (b := w4.heap.size) (by simp))
      have HB54 := Lib.hid (HB53.out.alloc HB53.out.size (.cells #[.int .i64 0, .int .i64 1, .int .i64 1, .int .i64 0, .int .i64 A, .int .i64 (k : Int), .int .i64 2, .int .i64 0] 25))
      go_wp2_with fail
      refine (HCA.out _ _ _).mono ?_
      rintro z w5 ⟨rfl, hb5⟩
      replace HXx := Lib.hid (HXx.out.below hb5 HXx.out.lt)
      replace HXy := Lib.hid (HXy.out.below hb5 HXy.out.lt)
      replace HXz := Lib.hid (HXz.out.below hb5 HXz.out.lt)
      have HB55 := Lib.hid (HB54.out.trans (hb5.mono HB54.out.size))
      clear hb5
      have cx0 : w5.cell? ⟨B, 0, none⟩ = some (.int .i64 0) := HXx.out.cell 0
      have cx1 : w5.cell? ⟨B, 1, none⟩ = some (.int .i64 1) := HXx.out.cell 1
      have cx2 : w5.cell? ⟨B, 2, none⟩ = some (.int .i64 1) := HXx.out.cell 2
      have cx3 : w5.cell? ⟨B, 3, none⟩ = some (.int .i64 0) := HXx.out.cell 3
      have cx4 : w5.cell? ⟨B, 4, none⟩ = some (.int .i64 A) := HXx.out.cell 4
      have cx5 : w5.cell? ⟨B, 5, none⟩ = some (.int .i64 (k : Int)) := HXx.out.cell 5
      have cx6 : w5.cell? ⟨B, 6, none⟩ = some (.int .i64 1) := HXx.out.cell 6
      have cx7 : w5.cell? ⟨B, 7, none⟩ = some (.int .i64 0) := HXx.out.cell 7
      have lx := HXx.out.lt
      have cy0 : w5.cell? ⟨w3.heap.size, 0, none⟩ = some (.int .i64 0) := HXy.out.cell 0
      have cy1 : w5.cell? ⟨w3.heap.size, 1, none⟩ = some (.int .i64 1) := HXy.out.cell 1
      have cy2 : w5.cell? ⟨w3.heap.size, 2, none⟩ = some (.int .i64 1) := HXy.out.cell 2
      have cy3 : w5.cell? ⟨w3.heap.size, 3, none⟩ = some (.int .i64 0) := HXy.out.cell 3
      have cy4 : w5.cell? ⟨w3.heap.size, 4, none⟩ = some (.int .i64 A) := HXy.out.cell 4
      have cy5 : w5.cell? ⟨w3.heap.size, 5, none⟩ = some (.int .i64 (k : Int)) := HXy.out.cell 5
      have cy6 : w5.cell? ⟨w3.heap.size, 6, none⟩ = some (.int .i64 2) := HXy.out.cell 6
      have cy7 : w5.cell? ⟨w3.heap.size, 7, none⟩ = some (.int .i64 0) := HXy.out.cell 7
      have ly := HXy.out.lt
      have cz0 : w5.cell? ⟨w4.heap.size, 0, none⟩ = some (.int .i64 0) := HXz.out.cell 0
      have cz1 : w5.cell? ⟨w4.heap.size, 1, none⟩ = some (.int .i64 1) := HXz.out.cell 1
      have cz2 : w5.cell? ⟨w4.heap.size, 2, none⟩ = some (.int .i64 1) := HXz.out.cell 2
      have cz3 : w5.cell? ⟨w4.heap.size, 3, none⟩ = some (.int .i64 0) := HXz.out.cell 3
      have cz4 : w5.cell? ⟨w4.heap.size, 4, none⟩ = some (.int .i64 A) := HXz.out.cell 4
      have cz5 : w5.cell? ⟨w4.heap.size, 5, none⟩ = some (.int .i64 (k : Int)) := HXz.out.cell 5
      have cz6 : w5.cell? ⟨w4.heap.size, 6, none⟩ = some (.int .i64 2) := HXz.out.cell 6
      have cz7 : w5.cell? ⟨w4.heap.size, 7, none⟩ = some (.int .i64 0) := HXz.out.cell 7
      have lz := HXz.out.lt
      replace HXx := Lib.hid (HXx.out.alloc (.cells #[.int .i64 0, .int .i64 1, .int .i64 1, .int .i64 0, .int .i64 A, .int .i64 (k : Int), .int .i64 4, .int .i64 0] 25))
      replace HXy := Lib.hid (HXy.out.alloc (.cells #[.int .i64 0, .int .i64 1, .int .i64 1, .int .i64 0, .int .i64 A, .int .i64 (k : Int), .int .i64 4, .int .i64 0] 25))
      replace HXz := Lib.hid (HXz.out.alloc (.cells #[.int .i64 0, .int .i64 1, .int .i64 1, .int .i64 0, .int .i64 A, .int .i64 (k : Int), .int .i64 4, .int .i64 0] 25))
      have HXc := Lib.hid (Blk.new' (w5) #[.int .i64 0, .int .i64 1, .int .i64 1, .int .i64 0, .int .i64 A, .int .i64 (k : Int), .int .i64 4, .int .i64 0] 25 (b := w5.heap.size) (by simp))
      have HB56 := Lib.hid (HB55.out.alloc HB55.out.size (.cells #[.int .i64 0, .int .i64 1, .int .i64 1, .int .i64 0, .int .i64 A, .int .i64 (k : Int), .int .i64 4, .int .i64 0] 25))
      go_wp2_with fail
      refine (HO4.out _ _ _).mono ?_
      rintro z w6 ⟨rfl, hb6⟩
      replace HXx := Lib.hid (HXx.out.below hb6 HXx.out.lt)
      replace HXy := Lib.hid (HXy.out.below hb6 HXy.out.lt)
      replace HXz := Lib.hid (HXz.out.below hb6 HXz.out.lt)
      replace HXc := Lib.hid (HXc.out.below hb6 HXc.out.lt)
      have HB57 := Lib.hid (HB56.out.trans (hb6.mono HB56.out.size))
      clear hb6
      have cx0 : w6.cell? ⟨B, 0, none⟩ = some (.int .i64 0) := HXx.out.cell 0
      have cx1 : w6.cell? ⟨B, 1, none⟩ = some (.int .i64 1) := HXx.out.cell 1
      have cx2 : w6.cell? ⟨B, 2, none⟩ = some (.int .i64 1) := HXx.out.cell 2
      have cx3 : w6.cell? ⟨B, 3, none⟩ = some (.int .i64 0) := HXx.out.cell 3
      have cx4 : w6.cell? ⟨B, 4, none⟩ = some (.int .i64 A) := HXx.out.cell 4
      have cx5 : w6.cell? ⟨B, 5, none⟩ = some (.int .i64 (k : Int)) := HXx.out.cell 5
      have cx6 : w6.cell? ⟨B, 6, none⟩ = some (.int .i64 1) := HXx.out.cell 6
      have cx7 : w6.cell? ⟨B, 7, none⟩ = some (.int .i64 0) := HXx.out.cell 7
      have lx := HXx.out.lt
      have cy0 : w6.cell? ⟨w3.heap.size, 0, none⟩ = some (.int .i64 0) := HXy.out.cell 0
      have cy1 : w6.cell? ⟨w3.heap.size, 1, none⟩ = some (.int .i64 1) := HXy.out.cell 1
      have cy2 : w6.cell? ⟨w3.heap.size, 2, none⟩ = some (.int .i64 1) := HXy.out.cell 2
      have cy3 : w6.cell? ⟨w3.heap.size, 3, none⟩ = some (.int .i64 0) := HXy.out.cell 3
      have cy4 : w6.cell? ⟨w3.heap.size, 4, none⟩ = some (.int .i64 A) := HXy.out.cell 4
      have cy5 : w6.cell? ⟨w3.heap.size, 5, none⟩ = some (.int .i64 (k : Int)) := HXy.out.cell 5
      have cy6 : w6.cell? ⟨w3.heap.size, 6, none⟩ = some (.int .i64 2) := HXy.out.cell 6
      have cy7 : w6.cell? ⟨w3.heap.size, 7, none⟩ = some (.int .i64 0) := HXy.out.cell 7
      have ly := HXy.out.lt
      have cz0 : w6.cell? ⟨w4.heap.size, 0, none⟩ = some (.int .i64 0) := HXz.out.cell 0
      have cz1 : w6.cell? ⟨w4.heap.size, 1, none⟩ = some (.int .i64 1) := HXz.out.cell 1
      have cz2 : w6.cell? ⟨w4.heap.size, 2, none⟩ = some (.int .i64 1) := HXz.out.cell 2
      have cz3 : w6.cell? ⟨w4.heap.size, 3, none⟩ = some (.int .i64 0) := HXz.out.cell 3
      have cz4 : w6.cell? ⟨w4.heap.size, 4, none⟩ = some (.int .i64 A) := HXz.out.cell 4
      have cz5 : w6.cell? ⟨w4.heap.size, 5, none⟩ = some (.int .i64 (k : Int)) := HXz.out.cell 5
      have cz6 : w6.cell? ⟨w4.heap.size, 6, none⟩ = some (.int .i64 2) := HXz.out.cell 6
      have cz7 : w6.cell? ⟨w4.heap.size, 7, none⟩ = some (.int .i64 0) := HXz.out.cell 7
      have lz := HXz.out.lt
      have cc0 : w6.cell? ⟨w5.heap.size, 0, none⟩ = some (.int .i64 0) := HXc.out.cell 0
      have cc1 : w6.cell? ⟨w5.heap.size, 1, none⟩ = some (.int .i64 1) := HXc.out.cell 1
      have cc2 : w6.cell? ⟨w5.heap.size, 2, none⟩ = some (.int .i64 1) := HXc.out.cell 2
      have cc3 : w6.cell? ⟨w5.heap.size, 3, none⟩ = some (.int .i64 0) := HXc.out.cell 3
      have cc4 : w6.cell? ⟨w5.heap.size, 4, none⟩ = some (.int .i64 A) := HXc.out.cell 4
      have cc5 : w6.cell? ⟨w5.heap.size, 5, none⟩ = some (.int .i64 (k : Int)) := HXc.out.cell 5
      have cc6 : w6.cell? ⟨w5.heap.size, 6, none⟩ = some (.int .i64 4) := HXc.out.cell 6
      have cc7 : w6.cell? ⟨w5.heap.size, 7, none⟩ = some (.int .i64 0) := HXc.out.cell 7
      have lc := HXc.out.lt
      go_wp2_with fail
      go_ret
      exact ⟨rfl, HB57.out⟩
    by_cases hk2 : k = 3
    · skip
      have hk7 : ¬ (k : Int) < 3 := by omega
      have hk6 : (k : Int) = 3 := by omega
      rw [show adjI ⟨0, 1, 1, 0, A, (k : Int), 2, 0⟩ a = ((⟨0, 1, 1, 0, A, (k : Int), 2, 0⟩ : Itm), 91) from by unfold adjI; rw [if_pos rfl, if_pos ⟨ha1, ha2⟩, if_pos hk6]] at hAJ
      have HA := Lib.hid hAJ
      clear hAJ hk6 hk2
      unfold ansI Itm.v at HA
      dsimp only at HA
      go_wp2_with fail
      refine (HDI.out _ _ _).mono ?_
      rintro z w3 ⟨rfl, hb3⟩
      replace HXx := Lib.hid (HXx.out.below hb3 HXx.out.lt)
      have HB51 := Lib.hid (HBr.out.trans (hb3.mono HBr.out.size))
      clear hb3
      have cx0 : w3.cell? ⟨B, 0, none⟩ = some (.int .i64 0) := HXx.out.cell 0
      have cx1 : w3.cell? ⟨B, 1, none⟩ = some (.int .i64 1) := HXx.out.cell 1
      have cx2 : w3.cell? ⟨B, 2, none⟩ = some (.int .i64 1) := HXx.out.cell 2
      have cx3 : w3.cell? ⟨B, 3, none⟩ = some (.int .i64 0) := HXx.out.cell 3
      have cx4 : w3.cell? ⟨B, 4, none⟩ = some (.int .i64 A) := HXx.out.cell 4
      have cx5 : w3.cell? ⟨B, 5, none⟩ = some (.int .i64 (k : Int)) := HXx.out.cell 5
      have cx6 : w3.cell? ⟨B, 6, none⟩ = some (.int .i64 1) := HXx.out.cell 6
      have cx7 : w3.cell? ⟨B, 7, none⟩ = some (.int .i64 0) := HXx.out.cell 7
      have lx := HXx.out.lt
      replace HXx := Lib.hid (HXx.out.alloc (.cells #[.int .i64 0, .int .i64 1, .int .i64 1, .int .i64 0, .int .i64 A, .int .i64 (k : Int), .int .i64 2, .int .i64 0] 25))
      have HXy := Lib.hid (Blk.new' (w3) #[.int .i64 0, .int .i64 1, .int .i64 1, .int .i64 0, .int .i64 A, .int .i64 (k : Int), .int .i64 2, .int .i64 0] 25 (b := w3.heap.size) (by simp))
      have HB52 := Lib.hid (HB51.out.alloc HB51.out.size (.cells #[.int .i64 0, .int .i64 1, .int .i64 1, .int .i64 0, .int .i64 A, .int .i64 (k : Int), .int .i64 2, .int .i64 0] 25))
      go_wp2_with fail
      refine (HA.out _).mono ?_
      rintro z w4 ⟨rfl, hb4⟩
      replace HXx := Lib.hid (HXx.out.below hb4 HXx.out.lt)
      replace HXy := Lib.hid (HXy.out.below hb4 HXy.out.lt)
      have HB53 := Lib.hid (HB52.out.trans (hb4.mono HB52.out.size))
      clear hb4
      have cx0 : w4.cell? ⟨B, 0, none⟩ = some (.int .i64 0) := HXx.out.cell 0
      have cx1 : w4.cell? ⟨B, 1, none⟩ = some (.int .i64 1) := HXx.out.cell 1
      have cx2 : w4.cell? ⟨B, 2, none⟩ = some (.int .i64 1) := HXx.out.cell 2
      have cx3 : w4.cell? ⟨B, 3, none⟩ = some (.int .i64 0) := HXx.out.cell 3
      have cx4 : w4.cell? ⟨B, 4, none⟩ = some (.int .i64 A) := HXx.out.cell 4
      have cx5 : w4.cell? ⟨B, 5, none⟩ = some (.int .i64 (k : Int)) := HXx.out.cell 5
      have cx6 : w4.cell? ⟨B, 6, none⟩ = some (.int .i64 1) := HXx.out.cell 6
      have cx7 : w4.cell? ⟨B, 7, none⟩ = some (.int .i64 0) := HXx.out.cell 7
      have lx := HXx.out.lt
      have cy0 : w4.cell? ⟨w3.heap.size, 0, none⟩ = some (.int .i64 0) := HXy.out.cell 0
      have cy1 : w4.cell? ⟨w3.heap.size, 1, none⟩ = some (.int .i64 1) := HXy.out.cell 1
      have cy2 : w4.cell? ⟨w3.heap.size, 2, none⟩ = some (.int .i64 1) := HXy.out.cell 2
      have cy3 : w4.cell? ⟨w3.heap.size, 3, none⟩ = some (.int .i64 0) := HXy.out.cell 3
      have cy4 : w4.cell? ⟨w3.heap.size, 4, none⟩ = some (.int .i64 A) := HXy.out.cell 4
      have cy5 : w4.cell? ⟨w3.heap.size, 5, none⟩ = some (.int .i64 (k : Int)) := HXy.out.cell 5
      have cy6 : w4.cell? ⟨w3.heap.size, 6, none⟩ = some (.int .i64 2) := HXy.out.cell 6
      have cy7 : w4.cell? ⟨w3.heap.size, 7, none⟩ = some (.int .i64 0) := HXy.out.cell 7
      have ly := HXy.out.lt
      have HXL := HXx
      have HBL := HB53
      replace HXx := Lib.hid (HXx.out.alloc (.cells #[.int .i64 0, .int .i64 1, .int .i64 1, .int .i64 0, .int .i64 A, .int .i64 (k : Int), .int .i64 2, .int .i64 0] 25))
      replace HXy := Lib.hid (HXy.out.alloc (.cells #[.int .i64 0, .int .i64 1, .int .i64 1, .int .i64 0, .int .i64 A, .int .i64 (k : Int), .int .i64 2, .int .i64 0] 25))
      have HXz := Lib.hid (Blk.new' (w4) #[.int .i64 0, .int .i64 1, .int .i64 1, .int .i64 0, .int .i64 A, .int .i64 (k : Int), .int .i64 2, .int .i64 0] 25 (b := w4.heap.size) (by simp))
      have HB54 := Lib.hid (HB53.out.alloc HB53.out.size (.cells #[.int .i64 0, .int .i64 1, .int .i64 1, .int .i64 0, .int .i64 A, .int .i64 (k : Int), .int .i64 2, .int .i64 0] 25))
      go_wp2_with fail
      refine (HCA.out _ _ _).mono ?_
      rintro z w5 ⟨rfl, hb5⟩
      replace HXx := Lib.hid (HXx.out.below hb5 HXx.out.lt)
      replace HXy := Lib.hid (HXy.out.below hb5 HXy.out.lt)
      replace HXz := Lib.hid (HXz.out.below hb5 HXz.out.lt)
      have HB55 := Lib.hid (HB54.out.trans (hb5.mono HB54.out.size))
      clear hb5
      have cx0 : w5.cell? ⟨B, 0, none⟩ = some (.int .i64 0) := HXx.out.cell 0
      have cx1 : w5.cell? ⟨B, 1, none⟩ = some (.int .i64 1) := HXx.out.cell 1
      have cx2 : w5.cell? ⟨B, 2, none⟩ = some (.int .i64 1) := HXx.out.cell 2
      have cx3 : w5.cell? ⟨B, 3, none⟩ = some (.int .i64 0) := HXx.out.cell 3
      have cx4 : w5.cell? ⟨B, 4, none⟩ = some (.int .i64 A) := HXx.out.cell 4
      have cx5 : w5.cell? ⟨B, 5, none⟩ = some (.int .i64 (k : Int)) := HXx.out.cell 5
      have cx6 : w5.cell? ⟨B, 6, none⟩ = some (.int .i64 1) := HXx.out.cell 6
      have cx7 : w5.cell? ⟨B, 7, none⟩ = some (.int .i64 0) := HXx.out.cell 7
      have lx := HXx.out.lt
      have cy0 : w5.cell? ⟨w3.heap.size, 0, none⟩ = some (.int .i64 0) := HXy.out.cell 0
      have cy1 : w5.cell? ⟨w3.heap.size, 1, none⟩ = some (.int .i64 1) := HXy.out.cell 1
      have cy2 : w5.cell? ⟨w3.heap.size, 2, none⟩ = some (.int .i64 1) := HXy.out.cell 2
      have cy3 : w5.cell? ⟨w3.heap.size, 3, none⟩ = some (.int .i64 0) := HXy.out.cell 3
      have cy4 : w5.cell? ⟨w3.heap.size, 4, none⟩ = some (.int .i64 A) := HXy.out.cell 4
      have cy5 : w5.cell? ⟨w3.heap.size, 5, none⟩ = some (.int .i64 (k : Int)) := HXy.out.cell 5
      have cy6 : w5.cell? ⟨w3.heap.size, 6, none⟩ = some (.int .i64 2) := HXy.out.cell 6
      have cy7 : w5.cell? ⟨w3.heap.size, 7, none⟩ = some (.int .i64 0) := HXy.out.cell 7
      have ly := HXy.out.lt
      have cz0 : w5.cell? ⟨w4.heap.size, 0, none⟩ = some (.int .i64 0) := HXz.out.cell 0
      have cz1 : w5.cell? ⟨w4.heap.size, 1, none⟩ = some (.int .i64 1) := HXz.out.cell 1
      have cz2 : w5.cell? ⟨w4.heap.size, 2, none⟩ = some (.int .i64 1) := HXz.out.cell 2
      have cz3 : w5.cell? ⟨w4.heap.size, 3, none⟩ = some (.int .i64 0) := HXz.out.cell 3
      have cz4 : w5.cell? ⟨w4.heap.size, 4, none⟩ = some (.int .i64 A) := HXz.out.cell 4
      have cz5 : w5.cell? ⟨w4.heap.size, 5, none⟩ = some (.int .i64 (k : Int)) := HXz.out.cell 5
      have cz6 : w5.cell? ⟨w4.heap.size, 6, none⟩ = some (.int .i64 2) := HXz.out.cell 6
      have cz7 : w5.cell? ⟨w4.heap.size, 7, none⟩ = some (.int .i64 0) := HXz.out.cell 7
      have lz := HXz.out.lt
      replace HXx := Lib.hid (HXx.out.alloc (.cells #[.int .i64 0, .int .i64 1, .int .i64 1, .int .i64 0, .int .i64 A, .int .i64 (k : Int), .int .i64 4, .int .i64 0] 25))
      replace HXy := Lib.hid (HXy.out.alloc (.cells #[.int .i64 0, .int .i64 1, .int .i64 1, .int .i64 0, .int .i64 A, .int .i64 (k : Int), .int .i64 4, .int .i64 0] 25))
      replace HXz := Lib.hid (HXz.out.alloc (.cells #[.int .i64 0, .int .i64 1, .int .i64 1, .int .i64 0, .int .i64 A, .int .i64 (k : Int), .int .i64 4, .int .i64 0] 25))
      have HXc := Lib.hid (Blk.new' (w5) #[.int .i64 0, .int .i64 1, .int .i64 1, .int .i64 0, .int .i64 A, .int .i64 (k : Int), .int .i64 4, .int .i64 0] 25 (b := w5.heap.size) (by simp))
      have HB56 := Lib.hid (HB55.out.alloc HB55.out.size (.cells #[.int .i64 0, .int .i64 1, .int .i64 1, .int .i64 0, .int .i64 A, .int .i64 (k : Int), .int .i64 4, .int .i64 0] 25))
      go_wp2_with fail
      refine (HO4.out _ _ _).mono ?_
      rintro z w6 ⟨rfl, hb6⟩
      replace HXx := Lib.hid (HXx.out.below hb6 HXx.out.lt)
      replace HXy := Lib.hid (HXy.out.below hb6 HXy.out.lt)
      replace HXz := Lib.hid (HXz.out.below hb6 HXz.out.lt)
      replace HXc := Lib.hid (HXc.out.below hb6 HXc.out.lt)
      have HB57 := Lib.hid (HB56.out.trans (hb6.mono HB56.out.size))
      clear hb6
      have cx0 : w6.cell? ⟨B, 0, none⟩ = some (.int .i64 0) := HXx.out.cell 0
      have cx1 : w6.cell? ⟨B, 1, none⟩ = some (.int .i64 1) := HXx.out.cell 1
      have cx2 : w6.cell? ⟨B, 2, none⟩ = some (.int .i64 1) := HXx.out.cell 2
      have cx3 : w6.cell? ⟨B, 3, none⟩ = some (.int .i64 0) := HXx.out.cell 3
      have cx4 : w6.cell? ⟨B, 4, none⟩ = some (.int .i64 A) := HXx.out.cell 4
      have cx5 : w6.cell? ⟨B, 5, none⟩ = some (.int .i64 (k : Int)) := HXx.out.cell 5
      have cx6 : w6.cell? ⟨B, 6, none⟩ = some (.int .i64 1) := HXx.out.cell 6
      have cx7 : w6.cell? ⟨B, 7, none⟩ = some (.int .i64 0) := HXx.out.cell 7
      have lx := HXx.out.lt
      have cy0 : w6.cell? ⟨w3.heap.size, 0, none⟩ = some (.int .i64 0) := HXy.out.cell 0
      have cy1 : w6.cell? ⟨w3.heap.size, 1, none⟩ = some (.int .i64 1) := HXy.out.cell 1
      have cy2 : w6.cell? ⟨w3.heap.size, 2, none⟩ = some (.int .i64 1) := HXy.out.cell 2
      have cy3 : w6.cell? ⟨w3.heap.size, 3, none⟩ = some (.int .i64 0) := HXy.out.cell 3
      have cy4 : w6.cell? ⟨w3.heap.size, 4, none⟩ = some (.int .i64 A) := HXy.out.cell 4
      have cy5 : w6.cell? ⟨w3.heap.size, 5, none⟩ = some (.int .i64 (k : Int)) := HXy.out.cell 5
      have cy6 : w6.cell? ⟨w3.heap.size, 6, none⟩ = some (.int .i64 2) := HXy.out.cell 6
      have cy7 : w6.cell? ⟨w3.heap.size, 7, none⟩ = some (.int .i64 0) := HXy.out.cell 7
      have ly := HXy.out.lt
      have cz0 : w6.cell? ⟨w4.heap.size, 0, none⟩ = some (.int .i64 0) := HXz.out.cell 0
      have cz1 : w6.cell? ⟨w4.heap.size, 1, none⟩ = some (.int .i64 1) := HXz.out.cell 1
      have cz2 : w6.cell? ⟨w4.heap.size, 2, none⟩ = some (.int .i64 1) := HXz.out.cell 2
      have cz3 : w6.cell? ⟨w4.heap.size, 3, none⟩ = some (.int .i64 0) := HXz.out.cell 3
      have cz4 : w6.cell? ⟨w4.heap.size, 4, none⟩ = some (.int .i64 A) := HXz.out.cell 4
      have cz5 : w6.cell? ⟨w4.heap.size, 5, none⟩ = some (.int .i64 (k : Int)) := HXz.out.cell 5
      have cz6 : w6.cell? ⟨w4.heap.size, 6, none⟩ = some (.int .i64 2) := HXz.out.cell 6
      have cz7 : w6.cell? ⟨w4.heap.size, 7, none⟩ = some (.int .i64 0) := HXz.out.cell 7
      have lz := HXz.out.lt
      have cc0 : w6.cell? ⟨w5.heap.size, 0, none⟩ = some (.int .i64 0) := HXc.out.cell 0
      have cc1 : w6.cell? ⟨w5.heap.size, 1, none⟩ = some (.int .i64 1) := HXc.out.cell 1
      have cc2 : w6.cell? ⟨w5.heap.size, 2, none⟩ = some (.int .i64 1) := HXc.out.cell 2
      have cc3 : w6.cell? ⟨w5.heap.size, 3, none⟩ = some (.int .i64 0) := HXc.out.cell 3
      have cc4 : w6.cell? ⟨w5.heap.size, 4, none⟩ = some (.int .i64 A) := HXc.out.cell 4
      have cc5 : w6.cell? ⟨w5.heap.size, 5, none⟩ = some (.int .i64 (k : Int)) := HXc.out.cell 5
      have cc6 : w6.cell? ⟨w5.heap.size, 6, none⟩ = some (.int .i64 4) := HXc.out.cell 6
      have cc7 : w6.cell? ⟨w5.heap.size, 7, none⟩ = some (.int .i64 0) := HXc.out.cell 7
      have lc := HXc.out.lt
      go_wp2_with fail
      go_ret
      exact ⟨rfl, HB57.out⟩
    · skip
      have hk4 : (k : Int) < 3 := by omega
      have hk5 : ¬ (k : Int) = 3 := by omega
      rw [show adjI ⟨0, 1, 1, 0, A, (k : Int), 2, 0⟩ a = ((⟨0, 1, 1, 0, a, ((k : Int) + 1), 1, 0⟩ : Itm), 0) from by unfold adjI; rw [if_pos rfl, if_pos ⟨ha1, ha2⟩, if_neg hk5]] at hAJ
      have HA := Lib.hid hAJ
      clear hAJ
      unfold ansI Itm.v at HA
      dsimp only at HA
      go_wp2_with fail
      refine (HDI.out _ _ _).mono ?_
      rintro z w3 ⟨rfl, hb3⟩
      replace HXx := Lib.hid (HXx.out.below hb3 HXx.out.lt)
      have HB51 := Lib.hid (HBr.out.trans (hb3.mono HBr.out.size))
      clear hb3
      have cx0 : w3.cell? ⟨B, 0, none⟩ = some (.int .i64 0) := HXx.out.cell 0
      have cx1 : w3.cell? ⟨B, 1, none⟩ = some (.int .i64 1) := HXx.out.cell 1
      have cx2 : w3.cell? ⟨B, 2, none⟩ = some (.int .i64 1) := HXx.out.cell 2
      have cx3 : w3.cell? ⟨B, 3, none⟩ = some (.int .i64 0) := HXx.out.cell 3
      have cx4 : w3.cell? ⟨B, 4, none⟩ = some (.int .i64 A) := HXx.out.cell 4
      have cx5 : w3.cell? ⟨B, 5, none⟩ = some (.int .i64 (k : Int)) := HXx.out.cell 5
      have cx6 : w3.cell? ⟨B, 6, none⟩ = some (.int .i64 1) := HXx.out.cell 6
      have cx7 : w3.cell? ⟨B, 7, none⟩ = some (.int .i64 0) := HXx.out.cell 7
      have lx := HXx.out.lt
      replace HXx := Lib.hid (HXx.out.alloc (.cells #[.int .i64 0, .int .i64 1, .int .i64 1, .int .i64 0, .int .i64 A, .int .i64 (k : Int), .int .i64 2, .int .i64 0] 25))
      have HXy := Lib.hid (Blk.new' (w3) #[.int .i64 0, .int .i64 1, .int .i64 1, .int .i64 0, .int .i64 A, .int .i64 (k : Int), .int .i64 2, .int .i64 0] 25 (b := w3.heap.size) (by simp))
      have HB52 := Lib.hid (HB51.out.alloc HB51.out.size (.cells #[.int .i64 0, .int .i64 1, .int .i64 1, .int .i64 0, .int .i64 A, .int .i64 (k : Int), .int .i64 2, .int .i64 0] 25))
      go_wp2_with fail
      refine (HA.out _).mono ?_
      rintro z w4 ⟨rfl, hb4⟩
      replace HXx := Lib.hid (HXx.out.below hb4 HXx.out.lt)
      replace HXy := Lib.hid (HXy.out.below hb4 HXy.out.lt)
      have HB53 := Lib.hid (HB52.out.trans (hb4.mono HB52.out.size))
      clear hb4
      have cx0 : w4.cell? ⟨B, 0, none⟩ = some (.int .i64 0) := HXx.out.cell 0
      have cx1 : w4.cell? ⟨B, 1, none⟩ = some (.int .i64 1) := HXx.out.cell 1
      have cx2 : w4.cell? ⟨B, 2, none⟩ = some (.int .i64 1) := HXx.out.cell 2
      have cx3 : w4.cell? ⟨B, 3, none⟩ = some (.int .i64 0) := HXx.out.cell 3
      have cx4 : w4.cell? ⟨B, 4, none⟩ = some (.int .i64 A) := HXx.out.cell 4
      have cx5 : w4.cell? ⟨B, 5, none⟩ = some (.int .i64 (k : Int)) := HXx.out.cell 5
      have cx6 : w4.cell? ⟨B, 6, none⟩ = some (.int .i64 1) := HXx.out.cell 6
      have cx7 : w4.cell? ⟨B, 7, none⟩ = some (.int .i64 0) := HXx.out.cell 7
      have frx0 := HXx.out.free 0
      have frx1 := HXx.out.free 1
      have frx2 := HXx.out.free 2
      have frx3 := HXx.out.free 3
      have frx4 := HXx.out.free 4
      have frx5 := HXx.out.free 5
      have frx6 := HXx.out.free 6
      have frx7 := HXx.out.free 7
      have lx := HXx.out.lt
      have cy0 : w4.cell? ⟨w3.heap.size, 0, none⟩ = some (.int .i64 0) := HXy.out.cell 0
      have cy1 : w4.cell? ⟨w3.heap.size, 1, none⟩ = some (.int .i64 1) := HXy.out.cell 1
      have cy2 : w4.cell? ⟨w3.heap.size, 2, none⟩ = some (.int .i64 1) := HXy.out.cell 2
      have cy3 : w4.cell? ⟨w3.heap.size, 3, none⟩ = some (.int .i64 0) := HXy.out.cell 3
      have cy4 : w4.cell? ⟨w3.heap.size, 4, none⟩ = some (.int .i64 A) := HXy.out.cell 4
      have cy5 : w4.cell? ⟨w3.heap.size, 5, none⟩ = some (.int .i64 (k : Int)) := HXy.out.cell 5
      have cy6 : w4.cell? ⟨w3.heap.size, 6, none⟩ = some (.int .i64 2) := HXy.out.cell 6
      have cy7 : w4.cell? ⟨w3.heap.size, 7, none⟩ = some (.int .i64 0) := HXy.out.cell 7
      have fry0 := HXy.out.free 0
      have fry1 := HXy.out.free 1
      have fry2 := HXy.out.free 2
      have fry3 := HXy.out.free 3
      have fry4 := HXy.out.free 4
      have fry5 := HXy.out.free 5
      have fry6 := HXy.out.free 6
      have fry7 := HXy.out.free 7
      have ly := HXy.out.lt
      have HXL := HXx
      have HBL := HB53
      replace HXx := Lib.hid (HXx.out.alloc (.cells #[.int .i64 0, .int .i64 1, .int .i64 1, .int .i64 0, .int .i64 a, .int .i64 ((k : Int) + 1), .int .i64 1, .int .i64 0] 25))
      replace HXy := Lib.hid (HXy.out.alloc (.cells #[.int .i64 0, .int .i64 1, .int .i64 1, .int .i64 0, .int .i64 a, .int .i64 ((k : Int) + 1), .int .i64 1, .int .i64 0] 25))
      have HXz := Lib.hid (Blk.new' (w4) #[.int .i64 0, .int .i64 1, .int .i64 1, .int .i64 0, .int .i64 a, .int .i64 ((k : Int) + 1), .int .i64 1, .int .i64 0] 25 (b := w4.heap.size) (by simp))
      have HB54 := Lib.hid (HB53.out.alloc HB53.out.size (.cells #[.int .i64 0, .int .i64 1, .int .i64 1, .int .i64 0, .int .i64 a, .int .i64 ((k : Int) + 1), .int .i64 1, .int .i64 0] 25))
      go_wp2_with fail
      have HX2 := Lib.hid (blk_set8 (z := (⟨0, 1, 1, 0, A, (k : Int), 1, 0⟩ : Itm)) HXL.out (⟨0, 1, 1, 0, a, ((k : Int) + 1), 1, 0⟩ : Itm))
      have HNX : Hid (RRel w B a (k + 1) ((set8 w4 B (⟨0, 1, 1, 0, a, ((k : Int) + 1), 1, 0⟩ : Itm)).alloc (.cells #[.int .i64 0, .int .i64 1, .int .i64 1, .int .i64 0, .int .i64 a, .int .i64 ((k : Int) + 1), .int .i64 1, .int .i64 0] 25))) := ⟨HX2.out.alloc _, (below_set8 HBL.out HBB.out (⟨0, 1, 1, 0, a, ((k : Int) + 1), 1, 0⟩ : Itm)).alloc (below_set8 HBL.out HBB.out (⟨0, 1, 1, 0, a, ((k : Int) + 1), 1, 0⟩ : Itm)).size _, HBB.out⟩
      go_roundw
      case rel => exact ⟨k + 1, a, by omega, by omega, by go_num, by go_num, HNX⟩
      case measure => simp [intOf]; omega
end Go.Proofs.Ytadhiggmhibofaa
