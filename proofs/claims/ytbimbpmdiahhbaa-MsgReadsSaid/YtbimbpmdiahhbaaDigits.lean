/- code.digits, code.Num: the bytes of a number. -/
import Derived.Test.YtbimbpmdiahhbaaCodePure
import Derived.Test.YtbimbpmdiahhbaaConcat8
import Derived.Laws.BitsAllLaws
import Derived.IntWalk
namespace Go.Proofs.Ytbimbpmdiahhbaa
open Go.RowKit
theorem xor_all (x : Nat) (h : x < 18446744073709551616) : x ^^^ 18446744073709551615 = 18446744073709551615 - x := by
  have h1 := congrArg BitVec.toNat (BitVec.xor_allOnes (x := BitVec.ofNat 64 x))
  rw [BitVec.toNat_xor, BitVec.toNat_not, BitVec.toNat_ofNat, BitVec.toNat_allOnes] at h1
  rw [Nat.mod_eq_of_lt (by simpa using h)] at h1
  simpa using h1
theorem zz_bits (n : Int) (h1 : -9223372036854775808 ≤ n) (h2 : n ≤ 9223372036854775807) :
    bits .xor .u64 (IntKind.u64.wrap (IntKind.u64.wrap n * 2)) (IntKind.u64.wrap (n / 9223372036854775808)) = (zz n : Nat) := by
  simp only [IntKind.wrap_u64]
  rw [u64_xor _ _ (by omega) (by omega) (by omega) (by omega)]
  congr 1
  unfold zz
  by_cases hn : 0 ≤ n
  · rw [if_pos hn, show n / 9223372036854775808 = 0 by omega]
    simp; omega
  · rw [if_neg hn, show n / 9223372036854775808 = -1 by omega, show ((-1 : Int) % 18446744073709551616).toNat = 18446744073709551615 from rfl, xor_all _ (by omega)]
    omega
theorem or128 (u : Nat) : bits .or .u8 ((u : Int) % 256) 128 = ((u % 128 + 128 : Nat) : Int) := by
  have h := u8_or_nat (u % 256) 128 (by omega) (by decide)
  have h2 : ∀ y, y < 256 → y ||| 128 = y % 128 + 128 := by decide +kernel
  rw [h2 _ (by omega)] at h
  have e : ((u % 256 : Nat) : Int) = (u : Int) % 256 := by omega
  rw [e] at h
  have e2 : u % 256 % 128 = u % 128 := by omega
  rw [e2] at h
  exact h
/-- The digits that are written so far. -/
def DigRel (w : World) (n : Int) (u : Nat) (v : Value) (wr : World) : Prop :=
  ∃ pre, u < 18446744073709551616 ∧ pre ++ leb u = numL n ∧ Own .u8 wr w.heap.size 5 v pre ∧ Below w.heap.size w wr
theorem numL_len {n : Int} (h1 : -9223372036854775808 ≤ n) (h2 : n ≤ 9223372036854775807) : (numL n).length ≤ 10 := leb_ten (zz_lt h1 h2)
set_option maxHeartbeats 2000000 in
set_option maxRecDepth 100000 in
theorem digits_any (n : Int) (w : World) (h1 : -9223372036854775808 ≤ n) (h2 : n ≤ 9223372036854775807) :
    Calls Try.prog 43 #[.int .i64 n] w fun e w' => ∃ v, e = .returned v ∧ Own .u8 w' w.heap.size 5 v (numL n) ∧ Below w.heap.size w w' := by
  have hz := zz_bits n h1 h2
  have hl := zz_lt h1 h2
  have hten := numL_len h1 h2
  have HL := Lib.hid hl
  have HTEN := Lib.hid hten
  clear hl hten
  go_enter Try.func43, Try.ntmps43
  go_wp2_with fail
  go_loopw [3, 4] (fun v u wr => ∃ (x : Nat), x < 18446744073709551616 ∧ u = .int .u64 x ∧ Hid (DigRel w n x v wr)) (fun _ u _ => (intOf u).toNat)
  case atStart => exact ⟨zz n, HL.out, rfl, Lib.hid ⟨[], HL.out, rfl, Own.nil_ _ _ _ _, Below.refl _ _⟩⟩
  case round =>
    obtain ⟨x, hx, rfl, HR⟩ := hrel
    obtain ⟨pre, _, hpre, hO, hB⟩ := HR.out
    have hpl : pre.length + (leb x).length ≤ 10 := by rw [← List.length_append, hpre]; exact HTEN.out
    have hll : 1 ≤ (leb x).length := by
      have := leb_ne x
      rcases h : leb x with _ | _
      · exact absurd h this
      · simp
    obtain ⟨p0, c0, rfl⟩ := hO.form
    have HPRE := Lib.hid hpre
    have HB := Lib.hid hB
    have HPL : Hid (pre.length + 1 ≤ 10) := by show _ ≤ _; omega
    clear hpre hB hpl hll
    by_cases hlt : 128 ≤ x
    · have hor := or128 x
      have HO := Lib.hid (hO.alloc (.cells #[.int .u8 (x % 128 + 128 : Nat)] 5))
      have HRL := Lib.hid (Row.laid .u8 wr 5 [((x % 128 + 128 : Nat) : Int)] #[.int .u8 (x % 128 + 128 : Nat)] rfl (0, 0) 1 1 rfl (Nat.le_refl _))
      have HS : Hid (w.heap.size ≤ (wr.alloc (.cells #[.int .u8 (x % 128 + 128 : Nat)] 5)).heap.size) := by show _ ≤ _; have := HB.out.size; simp; omega
      have HB2 := Lib.hid (HB.out.alloc HB.out.size (.cells #[.int .u8 (x % 128 + 128 : Nat)] 5))
      have HLEB := Lib.hid (leb_big (show ¬ x < 128 by omega))
      clear hO
      go_wp2_with (at_builtin; go_loud (refine wpList_append_row rfl _ _ 22 rfl 5 .u8 1 w.heap.size elt8 _ _ pre [((x % 128 + 128 : Nat) : Int)] rfl rfl HO.out HRL.out (by have := HPL.out; simp; omega) (by have := HPL.out; simp; omega) HS.out (pre ++ [((x % 128 + 128 : Nat) : Int)]) (pre.length + 1) rfl (by simp) ?_; intro p2 c2 w2 ho2 hb2; have HO2 := Lib.hid ho2; have HB3 := Lib.hid (HB2.out.trans hb2); clear ho2 hb2))
      go_roundw
      case rel => exact ⟨x / 128, by omega, by go_num, Lib.hid ⟨_, by omega, by rw [List.append_assoc, List.singleton_append, ← HLEB.out]; exact HPRE.out, HO2.out, HB3.out⟩⟩
      case measure => simp [intOf]; omega
    · have HO := Lib.hid (hO.alloc (.cells #[.int .u8 x] 5))
      have HRL := Lib.hid (Row.laid .u8 wr 5 [(x : Int)] #[.int .u8 x] rfl (0, 0) 1 1 rfl (Nat.le_refl _))
      have HS : Hid (w.heap.size ≤ (wr.alloc (.cells #[.int .u8 x] 5)).heap.size) := by show _ ≤ _; have := HB.out.size; simp; omega
      have HB2 := Lib.hid (HB.out.alloc HB.out.size (.cells #[.int .u8 x] 5))
      have HLEB := Lib.hid (leb_small (show x < 128 by omega))
      have hx3 : (x : Int) % 256 = x := by omega
      clear hO
      go_wp2_with (at_builtin; go_loud (refine wpList_append_row rfl _ _ 22 rfl 5 .u8 1 w.heap.size elt8 _ _ pre [(x : Int)] rfl rfl HO.out HRL.out (by have := HPL.out; simp; omega) (by have := HPL.out; simp; omega) HS.out (numL n) (numL n).length (by rw [← HLEB.out]; exact HPRE.out) rfl ?_; intro p2 c2 w2 ho2 hb2; have HO2 := Lib.hid ho2; have HB3 := Lib.hid (HB2.out.trans hb2); clear ho2 hb2))
      go_ret
      exact ⟨_, rfl, HO2.out, HB3.out⟩
end Go.Proofs.Ytbimbpmdiahhbaa
