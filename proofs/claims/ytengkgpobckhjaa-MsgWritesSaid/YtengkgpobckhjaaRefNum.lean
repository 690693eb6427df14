/- contraref04.Num: a number's bytes, as the document has them. -/
import Derived.Test.YtengkgpobckhjaaNumFacts
import Derived.Test.YtengkgpobckhjaaWNum
import Derived.Test.YtengkgpobckhjaaStrRow
namespace Go.Proofs.Ytengkgpobckhjaa
open Go.RowKit
theorem strOfNums_append (a b : List Int) : strOfNums a ++ strOfNums b = strOfNums (a ++ b) := by
  unfold strOfNums
  rw [List.map_append]
  exact ByteArray.mk_append_mk ..
/-- The half and the low bit of a number. -/
def halfN (n : Int) : Nat := if n < 0 then (-(n + 1)).toNat else n.toNat
def lowN1 (n : Int) : Nat := if n < 0 then 1 else 0
theorem zz_half (n : Int) : zz n = 2 * halfN n + lowN1 n := by unfold zz halfN lowN1; by_cases h : n < 0 <;> simp [h] <;> split <;> omega
/-- What is told by the digit in hand and what is left above it. -/
def refRel (n : Int) (pre : List Int) (d h : Nat) : Prop := pre ++ leb (d + 128 * h) = numL n ∧ d < 128 ∧ h < 18446744073709551616
theorem ref_step {n : Int} {pre : List Int} {d h : Nat} (r : refRel n pre d h) (hp : 0 < h) : refRel n (pre ++ [((d + 128 : Nat) : Int)]) (h % 128) (h / 128) := by
  obtain ⟨h1, h2, h3⟩ := r
  refine ⟨?_, by omega, by omega⟩
  rw [leb_big (by omega), show (d + 128 * h) % 128 = d by omega, show (d + 128 * h) / 128 = h by omega] at h1
  rw [List.append_assoc, List.singleton_append, show h % 128 + 128 * (h / 128) = h by omega]
  exact h1
theorem ref_end {n : Int} {pre : List Int} {d : Nat} (r : refRel n pre d 0) : pre ++ [(d : Int)] = numL n := by
  obtain ⟨h1, h2, _⟩ := r
  rw [Nat.mul_zero, Nat.add_zero, leb_small h2] at h1
  exact h1
theorem ret_str {a b : ByteArray} (h : a = b) : Ending.returned (.string a) = .returned (.string b) := by rw [h]
theorem ref_start (n : Int) (h : halfN n < 9223372036854775808) : refRel n [] (halfN n % 64 * 2 + lowN1 n) (halfN n / 64) := by
  have hl : lowN1 n ≤ 1 := by unfold lowN1; split <;> omega
  refine ⟨?_, by omega, by omega⟩
  show leb _ = leb (zz n)
  congr 1
  rw [zz_half]; omega
set_option maxHeartbeats 2000000 in
set_option maxRecDepth 100000 in
theorem refnum_any (n : Int) (w : World) (h1 : -9223372036854775808 ≤ n) (h2 : n ≤ 9223372036854775807) :
    Calls Try.prog 28 #[.int .i64 n] w fun e w' => e = .returned (.string (strOfNums (numL n))) ∧ Below w.heap.size w w' := by
  have hh : halfN n < 9223372036854775808 := by unfold halfN; split <;> omega
  have HS := Lib.hid (ref_start n hh)
  have HT := Lib.hid (numL_len h1 h2)
  by_cases hneg : n < 0
  · have e1 : halfN n = (-(n + 1)).toNat := by unfold halfN; rw [if_pos hneg]
    have e2 : lowN1 n = 1 := by unfold lowN1; rw [if_pos hneg]
    have hn1 : -(n + 1) = (halfN n : Int) := by omega
    rw [e2] at HS
    clear e1 e2
    go_enter Try.func28, Try.ntmps28
    go_wp2_with fail
    go_loopw [4, 5, 6] (fun hv sv dv wr => ∃ (d h : Nat) (pre : List Int), h < 9223372036854775808 ∧ d < 128 ∧ hv = .int .i64 h ∧ sv = .string (strOfNums pre) ∧ dv = .int .i64 d ∧ Hid (refRel n pre d h) ∧ Hid (Below w.heap.size w wr)) (fun hv _ _ _ => (intOf hv).toNat)
    case atStart => exact ⟨halfN n % 64 * 2 + 1, halfN n / 64, [], by omega, by omega, rfl, rfl, by go_num, HS, Lib.hid (Below.refl _ _)⟩
    case round =>
      obtain ⟨d, h, pre, hh2, hd, rfl, rfl, rfl, HR, HB⟩ := hrel
      have hpl : pre.length + (leb (d + 128 * h)).length ≤ 10 := by rw [← List.length_append, HR.out.1]; exact HT.out
      have hsz : (strOfNums pre).size ≤ 10 := by rw [strOfNums_size]; omega
      clear hpl
      by_cases hlt : 0 < h
      · have hlt' : (0 : Int) < (h : Int) := by omega
        have HST := Lib.hid (ref_step HR.out hlt)
        have hm : ((d : Int) + 128) % 256 = (d : Int) + 128 := by omega
        have kc := conv_row (P := Try.prog) (wr.alloc (.cells #[.int .u8 ((d : Int) + 128)] 5)) 22 9 5 Try.underlying22 Try.underlying5 Try.underlying9 _ _ (Row.laid .u8 wr 5 [(d : Int) + 128] #[.int .u8 ((d : Int) + 128)] rfl (0, 0) 1 1 rfl (Nat.le_refl _))
        have hs1 : (strOfNums [(d : Int) + 128]).size ≤ 1 := by rw [strOfNums_size]; simp
        clear hlt
        go_wp2_with fail
        go_roundw
        case rel => exact ⟨h % 128, h / 128, pre ++ [((d + 128 : Nat) : Int)], by omega, by omega, by go_num, by rw [strOfNums_append]; rfl, by go_num, HST, Lib.hid (HB.out.alloc HB.out.size _)⟩
        case measure => simp [intOf]; omega
      · obtain rfl : h = 0 := by omega
        have HEN := Lib.hid (ref_end HR.out)
        have hm : (d : Int) % 256 = (d : Int) := by omega
        have kc := conv_row (P := Try.prog) (wr.alloc (.cells #[.int .u8 (d : Int)] 5)) 22 9 5 Try.underlying22 Try.underlying5 Try.underlying9 _ _ (Row.laid .u8 wr 5 [(d : Int)] #[.int .u8 (d : Int)] rfl (0, 0) 1 1 rfl (Nat.le_refl _))
        have hs1 : (strOfNums [(d : Int)]).size ≤ 1 := by rw [strOfNums_size]; simp
        clear hlt
        go_wp2_with fail
        go_ret
        exact ⟨ret_str (by rw [strOfNums_append, HEN.out]), HB.out.alloc HB.out.size _⟩
  · have e1 : halfN n = n.toNat := by unfold halfN; rw [if_neg hneg]
    have e2 : lowN1 n = 0 := by unfold lowN1; rw [if_neg hneg]
    obtain ⟨m, rfl⟩ : ∃ m : Nat, n = (m : Int) := ⟨n.toNat, by omega⟩
    have e3 : halfN (m : Int) = m := by rw [e1]; rfl
    rw [e2, e3] at HS
    rw [e3] at hh
    clear e1 e2 e3 hneg
    go_enter Try.func28, Try.ntmps28
    go_wp2_with fail
    go_loopw [4, 5, 6] (fun hv sv dv wr => ∃ (d h : Nat) (pre : List Int), h < 9223372036854775808 ∧ d < 128 ∧ hv = .int .i64 h ∧ sv = .string (strOfNums pre) ∧ dv = .int .i64 d ∧ Hid (refRel (m : Int) pre d h) ∧ Hid (Below w.heap.size w wr)) (fun hv _ _ _ => (intOf hv).toNat)
    case atStart => exact ⟨m % 64 * 2 + 0, m / 64, [], by omega, by omega, rfl, rfl, by go_num, HS, Lib.hid (Below.refl _ _)⟩
    case round =>
      obtain ⟨d, h, pre, hh2, hd, rfl, rfl, rfl, HR, HB⟩ := hrel
      have hpl : pre.length + (leb (d + 128 * h)).length ≤ 10 := by rw [← List.length_append, HR.out.1]; exact HT.out
      have hsz : (strOfNums pre).size ≤ 10 := by rw [strOfNums_size]; omega
      clear hpl
      by_cases hlt : 0 < h
      · have hlt' : (0 : Int) < (h : Int) := by omega
        have HST := Lib.hid (ref_step HR.out hlt)
        have hm : ((d : Int) + 128) % 256 = (d : Int) + 128 := by omega
        have kc := conv_row (P := Try.prog) (wr.alloc (.cells #[.int .u8 ((d : Int) + 128)] 5)) 22 9 5 Try.underlying22 Try.underlying5 Try.underlying9 _ _ (Row.laid .u8 wr 5 [(d : Int) + 128] #[.int .u8 ((d : Int) + 128)] rfl (0, 0) 1 1 rfl (Nat.le_refl _))
        have hs1 : (strOfNums [(d : Int) + 128]).size ≤ 1 := by rw [strOfNums_size]; simp
        clear hlt
        go_wp2_with fail
        go_roundw
        case rel => exact ⟨h % 128, h / 128, pre ++ [((d + 128 : Nat) : Int)], by omega, by omega, by go_num, by rw [strOfNums_append]; rfl, by go_num, HST, Lib.hid (HB.out.alloc HB.out.size _)⟩
        case measure => simp [intOf]; omega
      · obtain rfl : h = 0 := by omega
        have HEN := Lib.hid (ref_end HR.out)
        have hm : (d : Int) % 256 = (d : Int) := by omega
        have kc := conv_row (P := Try.prog) (wr.alloc (.cells #[.int .u8 (d : Int)] 5)) 22 9 5 Try.underlying22 Try.underlying5 Try.underlying9 _ _ (Row.laid .u8 wr 5 [(d : Int)] #[.int .u8 (d : Int)] rfl (0, 0) 1 1 rfl (Nat.le_refl _))
        have hs1 : (strOfNums [(d : Int)]).size ≤ 1 := by rw [strOfNums_size]; simp
        clear hlt
        go_wp2_with fail
        go_ret
        exact ⟨ret_str (by rw [strOfNums_append, HEN.out]), HB.out.alloc HB.out.size _⟩
end Go.Proofs.Ytengkgpobckhjaa
