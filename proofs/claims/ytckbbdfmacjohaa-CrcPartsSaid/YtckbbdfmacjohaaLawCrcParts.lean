/- CrcParts: the walk. -/
import Derived.Test.YtckbbdfmacjohaaCrcKnown
import Derived.Test.YtckbbdfmacjohaaElt
namespace Go.Proofs.Ytckbbdfmacjohaa
open Go.RowKit
theorem Oct.append {a b : List Int} (ha : Oct a) (hb : Oct b) : Oct (a ++ b) := by
  intro x hx
  rcases List.mem_append.1 hx with h | h
  · exact ha x h
  · exact hb x h
theorem natsOf_append (a b : List Int) : natsOf (a ++ b) = natsOf a ++ natsOf b := List.map_append
set_option maxHeartbeats 2000000 in
set_option maxRecDepth 100000 in
theorem crcparts_walk (va vb vc : Value) (a b c : List Int) (W : World) (oa : Oct a) (ra : Row .u8 W va a) (la : a.length ≤ 140737488355328) (ob : Oct b) (rb : Row .u8 W vb b) (lb : b.length ≤ 140737488355328) (oc : Oct c) (rc : Row .u8 W vc c) (lc : c.length ≤ 140737488355328) :
    Calls Try.prog 9 #[va, vb, vc] W fun e W' => e = .returned (.bool true) ∧ Below W.heap.size W W' := by
  obtain ⟨pa, ca, rfl⟩ := ra.shape
  obtain ⟨pb, cb, rfl⟩ := rb.shape
  obtain ⟨pc, cc, rfl⟩ := rc.shape
  have RA := Lib.hid ra
  have RB := Lib.hid rb
  have RC := Lib.hid rc
  clear ra rb rc
  by_cases h1 : a.length + b.length ≤ 2000
  · have g1 : (a.length : Int) + (b.length : Int) ≤ 2000 := by omega
    by_cases h2 : c.length ≤ 2000
    · have g2 : (c.length : Int) ≤ 2000 := by omega
      have oab := oa.append ob
      have oabc := oab.append oc
      have lab : (a ++ b).length ≤ 2000 := by simp; omega
      have labc : (a ++ b ++ c).length ≤ 4000 := by simp; omega
      have na := natsOf_8 oa
      have nb := natsOf_8 ob
      have nc := natsOf_8 oc
      go_enter Try.func9, Try.ntmps9
      go_wp2_with fail
      refine (crcknown_any _).mono ?_
      rintro e w1 ⟨rfl, hb1⟩
      have B0 := Lib.hid (((hb1.alloc (hb1.size) (.cells #[.int .u32 0] 59)).alloc (by have := hb1.size; simp; omega) (.cells #[] 5)))
      have O0 := Lib.hid (Own.made_at .u8 (w1.alloc (.cells #[.int .u32 0] 59)) (w1.heap.size + 1) (w1.heap.size + 1) 5 (Nat.le_refl _) (by simp))
      have c0 : ((w1.alloc (.cells #[.int .u32 0] 59)).alloc (.cells #[] 5)).cell? ⟨w1.heap.size, 0, none⟩ = some (.int .u32 0) := ((Blk.new w1 _ _).alloc _).cell 0
      have C0 := Lib.hid c0
      clear c0
      have Z1 := Lib.hid (hb1.size)
      clear hb1
      go_wp2_with (at_builtin; (first
        | (refine wpList_append_row rfl (.tmp 23) (.tmp 24) 53 rfl 5 .u8 1 (w1.heap.size + 1) elt8 _ _ [] a rfl rfl O0.out (RA.out.under B0.out (Nat.le_refl _)) (by simp; omega) (by simp; omega) (by simp) a a.length rfl rfl ?_; intro p2 c2 w2 ho2 hb2; have B2 := Lib.hid (B0.out.trans (hb2.mono (by have := Z1.out; omega))); have O2 := Lib.hid ho2; have C2 := Lib.hid ((hb2.cell (p := ⟨w1.heap.size, 0, none⟩) (by simp)).trans C0.out); have Z2 : Hid (w1.heap.size + 2 ≤ w2.heap.size) := (by show _ ≤ _; have := hb2.size; simp at this; omega); clear ho2 hb2)
        | (refine wpList_append_row rfl (.tmp 25) (.tmp 26) 53 rfl 5 .u8 1 (w1.heap.size + 1) elt8 _ _ a b rfl rfl O2.out (RB.out.under B2.out (Nat.le_refl _)) (by omega) (by omega) (by have := Z2.out; omega) (a ++ b) (a.length + b.length) rfl List.length_append ?_; intro p3 c3 w3 ho3 hb3; have B3 := Lib.hid (B2.out.trans (hb3.mono (by have := Z1.out; omega))); have O3 := Lib.hid ho3; have C3 := Lib.hid ((hb3.cell (p := ⟨w1.heap.size, 0, none⟩) (by simp)).trans C2.out); have Z3 : Hid (w1.heap.size + 2 ≤ w3.heap.size) := (by show _ ≤ _; have := hb3.size; have := Z2.out; omega); clear ho3 hb3)
        | (refine wpList_append_row rfl (.tmp 27) (.tmp 28) 53 rfl 5 .u8 1 (w1.heap.size + 1) elt8 _ _ (a ++ b) c rfl rfl O3.out (RC.out.under B3.out (Nat.le_refl _)) (by simp; omega) (by simp; omega) (by have := Z3.out; omega) (a ++ b ++ c) (a.length + b.length + c.length) rfl (by simp; omega) ?_; intro p4 c4 w4 ho4 hb4; have B4 := Lib.hid (B3.out.trans (hb4.mono (by have := Z1.out; omega))); have O4 := Lib.hid ho4; have C4 := ((hb4.cell (p := ⟨w1.heap.size, 0, none⟩) (by simp)).trans C3.out); have Z4 : Hid (w1.heap.size + 2 ≤ w4.heap.size) := (by show _ ≤ _; have := hb4.size; have := Z3.out; omega); clear ho4 hb4)))
      refine (crcadd_any 0 (by decide) _ a _ (by omega) oa (RA.out.under B4.out (Nat.le_refl _))).mono ?_
      rintro e w5 ⟨rfl, hb5⟩
      have B5 := Lib.hid (B4.out.trans (hb5.mono B4.out.size))
      have O5 := Lib.hid (O4.out.later hb5)
      have C5 := (hb5.cell (p := ⟨w1.heap.size, 0, none⟩) (by have := Z4.out; show w1.heap.size < _; omega)).trans C4
      have Z5 : Hid (w1.heap.size + 2 ≤ w5.heap.size) := by show _ ≤ _; have := hb5.size; have := Z4.out; omega
      clear hb5
      have e1 : addN (addN (addN 0 (natsOf a)) (natsOf b)) (natsOf c) = checkN (natsOf (a ++ b ++ c)) := by rw [addN_add, addN_add, addN_zero, natsOf_append, natsOf_append, List.append_assoc]
      have e2 := addN_zero (natsOf a)
      have l1 : addN 0 (natsOf a) < 4294967296 := addN_lt (by decide) na
      have l2 := addN_lt l1 nb
      have E1 := Lib.hid e1
      have E2 := Lib.hid e2
      clear e1 e2
      have B6 := Lib.hid (B5.out.trans ((oneB w5 (.cells #[.int .u32 (addN 0 (natsOf a) : Nat)] 59)).mono B5.out.size))
      have O6 := Lib.hid (O5.out.alloc (.cells #[.int .u32 (addN 0 (natsOf a) : Nat)] 59))
      have D6 := Lib.hid ((World.cell?_alloc_lt w5 (.cells #[.int .u32 (addN 0 (natsOf a) : Nat)] 59) ⟨w1.heap.size, 0, none⟩ (by have := Z5.out; show w1.heap.size < _; omega)).trans C5)
      have T6 := Lib.hid ((Blk.new w5 #[.int .u32 (addN 0 (natsOf a) : Nat)] 59).cell 0)
      clear C5
      go_wp2_with fail
      refine (crcadd_any _ l1 _ b _ (by omega) ob (RB.out.under B6.out (Nat.le_refl _))).mono ?_
      rintro e w6 ⟨rfl, hb6⟩
      have B7 := Lib.hid (B6.out.trans (hb6.mono B6.out.size))
      go_wp2_with fail
      refine (crcadd_any _ l2 _ c _ (by omega) oc (RC.out.under B7.out (Nat.le_refl _))).mono ?_
      rintro e w7 ⟨rfl, hb7⟩
      rw [E1.out]
      have B8 := Lib.hid (B7.out.trans (hb7.mono B7.out.size))
      go_wp2_with fail
      refine (crcvalue_any _ _).mono ?_
      rintro e w8 ⟨rfl, hb8⟩
      have B9 := Lib.hid (B8.out.trans (hb8.mono B8.out.size))
      have hb69 := seqB (seqB hb6 hb7) hb8
      have O9 := O6.out.later hb69
      go_wp2_with fail
      have hr9 := O9.row
      refine (crcof_any _ (a ++ b ++ c) _ (by omega) oabc (by simpa using hr9)).mono ?_
      rintro e w9 ⟨rfl, hb9⟩
      have B10 := Lib.hid (B9.out.trans (hb9.mono B9.out.size))
      have hb70 := seqB hb69 hb9
      have T9 := (hb70.cell (p := ⟨w5.heap.size, 0, none⟩) (by simp)).trans T6.out
      have D9 := Lib.hid ((hb70.cell (p := ⟨w1.heap.size, 0, none⟩) (by have := Z5.out; simp; omega)).trans D6.out)
      have Y9 := Lib.hid hb70.size
      clear hb69 hb70 hb6 hb7 hb8 hb9 O9 hr9
      go_wp2_with fail
      clear T9
      rw [E2.out]
      refine (crcvalue_any _ _).mono ?_
      rintro e w10 ⟨rfl, hb10⟩
      have B11 := Lib.hid (B10.out.trans (hb10.mono B10.out.size))
      go_wp2_with fail
      refine (crcof_any _ a _ (by omega) oa (RA.out.under B11.out (Nat.le_refl _))).mono ?_
      rintro e w11 ⟨rfl, hb11⟩
      have B12 := Lib.hid (B11.out.trans (hb11.mono B11.out.size))
      have hb71 := seqB hb10 hb11
      have D11 := (hb71.cell (p := ⟨w1.heap.size, 0, none⟩) (by have := Z5.out; have := Y9.out; simp at *; omega)).trans D9.out
      clear hb71 hb10 hb11
      go_wp2_with fail
      refine (crcvalue_any _ _).mono ?_
      rintro e w12 ⟨rfl, hb12⟩
      have B13 := Lib.hid (B12.out.trans (hb12.mono B12.out.size))
      clear hb12
      go_wp2_with fail
      go_ret
      exact ⟨rfl, B13.out⟩
    · have g2 : (2000 : Int) < (c.length : Int) := by omega
      go_enter Try.func9, Try.ntmps9
      go_wp2_with fail
      refine (crcknown_any _).mono ?_
      rintro e w1 ⟨rfl, hb1⟩
      go_wp2_with fail
      go_ret
      exact ⟨rfl, hb1⟩
  · have g1 : (2000 : Int) < (a.length : Int) + (b.length : Int) := by omega
    go_enter Try.func9, Try.ntmps9
    go_wp2_with fail
    refine (crcknown_any _).mono ?_
    rintro e w1 ⟨rfl, hb1⟩
    go_wp2_with fail
    go_ret
    exact ⟨rfl, hb1⟩
end Go.Proofs.Ytckbbdfmacjohaa
