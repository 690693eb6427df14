/- CrcTells: the walk. -/
import Derived.Test.YtckbbdfmacjohaaTellsPure
import Derived.Test.YtckbbdfmacjohaaCrcKnown
import Derived.Test.YtckbbdfmacjohaaElt
namespace Go.Proofs.Ytckbbdfmacjohaa
open Go.RowKit
def TellRel (W : World) (b : List Int) (q B k base : Nat) (p : Option Addr) (c : Nat) (wr : World) : Prop :=
  ∃ zs, TurnedTo b zs q B k ∧ Own .u8 wr base 5 (.slice p b.length c) zs ∧ Below W.heap.size W wr
theorem and1_i64 (X : Int) : bits .and .i64 X 1 = X % 2 := by
  have h1 : ((BitVec.ofInt 64 X) &&& (BitVec.ofInt 64 1)).toNat = (X % 2).toNat := by
    rw [BitVec.toNat_and, BitVec.toNat_ofInt, BitVec.toNat_ofInt, show (1 % ((2 ^ 64 : Nat) : Int)).toNat = 1 from rfl, Nat.and_one_is_mod]
    omega
  show IntKind.i64.wrap (((BitVec.ofInt 64 X) &&& (BitVec.ofInt 64 1)).toNat : Int) = X % 2
  rw [h1, IntWalk.i64_in _ (by omega)]
  omega
theorem xor8_pow {x : Int} (h0 : 0 ≤ x) (h1 : x < 256) (s : Nat) (hs : s < 8) : bits .xor .u8 x ((2 : Int) ^ s % 256) = ((x.toNat ^^^ 2 ^ s : Nat) : Int) := by
  have hp : 2 ^ s < 2 ^ 8 := Nat.pow_lt_pow_right (by decide) hs
  have e : (2 : Int) ^ s % 256 = ((2 ^ s : Nat) : Int) := by
    have h : ((2 ^ s : Nat) : Int) = (2 : Int) ^ s := Int.natCast_pow 2 s
    rw [← h]
    generalize 2 ^ s = y at *
    omega
  rw [e, u8_xor _ _ h0 h1 (by exact Int.natCast_nonneg _) (Int.ofNat_lt.mpr (show 2 ^ s < 256 from hp)), Int.toNat_natCast]
theorem ret_b {a b : Bool} (h : a = b) : Ending.returned (.bool a) = .returned (.bool b) := by rw [h]
theorem tells_end {A C : Nat} {B j : Nat} (h : (A ≠ C) = (lowN B j ≠ 0)) : (((A : Int) != (C : Int)) == anyN B j) = true := by
  unfold anyN
  by_cases hz : lowN B j ≠ 0
  · have : A ≠ C := by rw [h]; exact hz
    have h2 : (A : Int) ≠ (C : Int) := by omega
    simp [hz, h2]
  · have : ¬ A ≠ C := by rw [h]; exact hz
    have h2 : (A : Int) = (C : Int) := by omega
    simp only [ne_eq, Decidable.not_not] at hz
    simp [hz, h2]
theorem test_bit {bts : Int} {j B : Nat} (hj : j < 32) (hB : (bts % 4294967296).toNat = B) : (bits .and .i64 (bts / 2 ^ j) 1 == 1) = decide (B / 2 ^ j % 2 = 1) := by
  rw [and1_i64, bit_of bts j hj, hB]
  rcases (show B / 2 ^ j % 2 = 0 ∨ B / 2 ^ j % 2 = 1 by omega) with e | e <;> rw [e] <;> rfl
set_option maxHeartbeats 4000000 in
set_option maxRecDepth 100000 in
theorem crctells_walk (vb : Value) (b : List Int) (at_ bts : Int) (W : World) (ob : Oct b) (rb : Row .u8 W vb b) (lb : b.length ≤ 140737488355328) (ba : -9223372036854775808 ≤ at_ ∧ at_ ≤ 9223372036854775807) (bb : -9223372036854775808 ≤ bts ∧ bts ≤ 9223372036854775807) :
    Calls Try.prog 10 #[vb, .int .i64 at_, .int .i64 bts] W fun e W' => e = .returned (.bool true) ∧ Below W.heap.size W W' := by
  obtain ⟨pb, cb, rfl⟩ := rb.shape
  have RB := Lib.hid rb
  clear rb
  obtain ⟨ba1, ba2⟩ := ba
  obtain ⟨bb1, bb2⟩ := bb
  by_cases h1 : (b.length : Int) ≤ 500 ∧ 0 ≤ at_ ∧ at_ < 8 * (b.length : Int)
  · obtain ⟨g1, g2, g3⟩ := h1
    by_cases hm : bits .and .i64 bts 4294967295 = 0
    · go_enter Try.func10, Try.ntmps10
      go_wp2_with fail
      refine (crcknown_any _).mono ?_
      rintro e w1 ⟨rfl, hb1⟩
      go_wp2_with fail
      go_ret
      exact ⟨rfl, hb1⟩
    · have hm' : decide (bits .and .i64 bts 4294967295 = 0) = false := by simpa using hm
      obtain ⟨q, rfl⟩ : ∃ q : Nat, at_ = (q : Int) := ⟨at_.toNat, by omega⟩
      generalize hn : b.length = n at *
      have HN := Lib.hid hn
      have HM := Lib.hid hm
      clear hn hm
      have hm2 : (bits .and .i64 bts 4294967295 == 0) = false := by simpa using HM.out
      go_enter Try.func10, Try.ntmps10
      go_wp2_with fail
      refine (crcknown_any _).mono ?_
      rintro e w1 ⟨rfl, hb1⟩
      have hn0 : 0 < n := by omega
      have B0 := Lib.hid (hb1.alloc (hb1.size) (.cells #[] 5))
      have O0 := Lib.hid (Own.made_at .u8 w1 w1.heap.size w1.heap.size 5 (Nat.le_refl _) rfl)
      have Z1 := Lib.hid hb1.size
      clear hb1
      go_wp2_with (at_builtin; (refine wpList_append_row rfl _ _ 53 rfl 5 .u8 1 w1.heap.size elt8 _ _ [] b rfl rfl O0.out (RB.out.under B0.out (Nat.le_refl _)) (by have := HN.out; simp; omega) (by have := HN.out; simp; omega) (by simp) b n rfl HN.out ?_; intro p2 c2 w2 ho2 hb2; have O2 := Lib.hid ho2; have B2 := Lib.hid (B0.out.trans (hb2.mono Z1.out)); clear ho2 hb2))
      obtain ⟨g, rfl, hgb, _, _⟩ := O2.out.at_ hn0
      have HB := Lib.hid (Nat.le_trans Z1.out hgb)
      have HGB := Lib.hid hgb
      clear hgb
      generalize hB : (bts % 4294967296).toNat = B
      have HBD := Lib.hid hB
      clear hB
      go_loopw [8, 9] (fun tu kk wr => ∃ j : Nat, j ≤ 32 ∧ tu = .bool (anyN B j) ∧ kk = .int .i64 j ∧ Hid (TellRel W b q B j w1.heap.size (some ⟨g, 0, none⟩) c2 wr)) (fun _ kk _ => 32 - (intOf kk).toNat)
      case atStart => exact ⟨0, by omega, by rw [any_zero], rfl, Lib.hid ⟨b, TurnedTo.start b ob q B, by rw [HN.out]; exact O2.out, B2.out⟩⟩
      case round =>
        obtain ⟨j, hj, rfl, rfl, HR⟩ := hrel
        by_cases hjj : (j : Int) < 32 ∧ (q : Int) + (j : Int) < 8 * (n : Int)
        · obtain ⟨hj1, hj2⟩ := hjj
          obtain ⟨zs, ht, hO, hbw⟩ := HR.out
          rw [HN.out] at hO
          have hcell := hO.cell ((q + j) / 8) (by omega)
          have hoct := ht.2.1.getD ((q + j) / 8)
          generalize hx : zs.getD ((q + j) / 8) 0 = x at *
          have HX := Lib.hid hx
          have HT := Lib.hid ht
          have HO := Lib.hid hO
          have HBW := Lib.hid hbw
          clear hx ht hO hbw
          obtain ⟨hc1, hc2⟩ := hcell
          have hs0 : (0 : Int) ≤ (q : Int) + (j : Int) := by omega
          have hs1 : IntKind.i64.wrap ((q : Int) + (j : Int)) = (q : Int) + (j : Int) := IntWalk.i64_in _ (by omega)
          have hs2 : (((q : Int) + (j : Int)) / 8).toNat = (q + j) / 8 := by omega
          go_wp2_with fail
          · have hbit := ‹(bits .and .i64 (bts / 2 ^ j) 1 == 1) = true›
            rw [test_bit (by omega) HBD.out, decide_eq_true_eq] at hbit
            have HBIT := Lib.hid hbit
            have hxor := xor8_pow hoct.1 hoct.2 ((q + j) % 8) (Nat.mod_lt _ (by decide))
            clear hbit
            go_region
            go_wp2_with fail
            go_roundw
            case rel =>
              have hy := HT.out.yes HBIT.out (by rw [HN.out]; omega)
              rw [HX.out] at hy
              exact ⟨j + 1, by omega, by rw [any_yes B j HBIT.out], by go_num, Lib.hid ⟨_, hy, by rw [HN.out]; exact (HO.out.set ((q + j) / 8) _).drew, (HBW.out.setCell (p := ⟨g, (q + j) / 8, none⟩) HB.out _).drew⟩⟩
            case measure => simp [intOf]; omega
          · have hbit := ‹(bits .and .i64 (bts / 2 ^ j) 1 == 1) = false›
            rw [test_bit (by omega) HBD.out, decide_eq_false_iff_not] at hbit
            have HBIT := Lib.hid hbit
            clear hbit
            go_roundw
            case rel => exact ⟨j + 1, by omega, by rw [any_no B j HBIT.out], by go_num, Lib.hid ⟨zs, HT.out.no HBIT.out, by rw [HN.out]; exact HO.out, HBW.out⟩⟩
            case measure => simp [intOf]; omega
        · have hjj2 : (32 : Int) ≤ (j : Int) ∨ (j : Int) < 32 ∧ 8 * (n : Int) ≤ (q : Int) + (j : Int) := by omega
          clear hjj
          obtain ⟨zs, ht, hO, hbw⟩ := HR.out
          rw [HN.out] at hO
          have hend := ht.end_ hj (by rw [HN.out]; omega)
          have hrow := hO.row
          have hzl : zs.length = n := ht.1.trans HN.out
          have hoc := ht.2.1
          have hkey : (checkN (natsOf zs) ≠ checkN (natsOf b)) = (lowN B j ≠ 0) := by rw [ne_eq, hend]
          have HK := Lib.hid hkey
          have HR2 := Lib.hid hrow
          have HBW := Lib.hid hbw
          have HZ := Lib.hid hzl
          clear hend hkey hrow hbw ht hO hzl
          rcases hjj2 with h32 | ⟨h31, h8n⟩
          all_goals
            go_wp2_with fail
            refine (crcof_any _ zs _ (by rw [HZ.out]; omega) hoc HR2.out).mono ?_
            rintro e w3 ⟨rfl, hb3⟩
            have B3 := Lib.hid (HBW.out.trans (hb3.mono HBW.out.size))
            clear hb3
            go_wp2_with fail
            refine (crcof_any _ b _ (by rw [HN.out]; omega) ob (RB.out.under B3.out (Nat.le_refl _))).mono ?_
            rintro e w4 ⟨rfl, hb4⟩
            have B4 := Lib.hid (B3.out.trans (hb4.mono B3.out.size))
            clear hb4
            go_wp2_with fail
            go_ret
            exact ⟨ret_b (tells_end HK.out), B4.out⟩
  · have hg : (500 : Int) < b.length ∨ (b.length : Int) ≤ 500 ∧ at_ < 0 ∨ (b.length : Int) ≤ 500 ∧ 0 ≤ at_ ∧ 8 * (b.length : Int) ≤ at_ := by omega
    clear h1
    rcases hg with hg | ⟨hg, hg2⟩ | ⟨hg, hg2, hg3⟩
    all_goals
      go_enter Try.func10, Try.ntmps10
      go_wp2_with fail
      refine (crcknown_any _).mono ?_
      rintro e w1 ⟨rfl, hb1⟩
      go_wp2_with fail
      go_ret
      exact ⟨rfl, hb1⟩
end Go.Proofs.Ytckbbdfmacjohaa
