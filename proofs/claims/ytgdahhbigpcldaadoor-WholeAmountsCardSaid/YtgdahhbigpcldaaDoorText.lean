/- money.Text: an amount as whole units and hundredths. -/
import Derived.Test.YtgdahhbigpcldaaDoorFmtU
import Derived.Test.YtgdahhbigpcldaaDoorSum
import Derived.Deep.RegionWith
namespace Go.Proofs.YtgdahhbigpcldaaDoor
open Go.RowKit Go.Lib

/-- The text behind the sign. -/
def tailL (n : Nat) : List UInt8 := Lib.decDigits (n / 100) ++ [46, UInt8.ofNat (48 + n % 100 / 10), UInt8.ofNat (48 + n % 100 % 10)]
/-- The text of an amount. -/
def textL (a : Int) : List UInt8 := (if a < 0 then [45] else []) ++ tailL a.natAbs

theorem powBelow {w w' : World} (h : Pow w) (hb : Below w.heap.size w w') : Pow w' := by
  unfold Pow Lib.TabIs World.var? at *
  cases hg : Tryd.prog.globalNamed "internal/strconv.uint64pow10" with
  | none => simp [hg] at h
  | some g =>
    simp only [hg, Option.bind_some] at h ⊢
    have hlt : g < w.heap.size := by
      rcases Nat.lt_or_ge g w.heap.size with h' | h'
      · exact h'
      · rw [Array.getElem?_eq_none h'] at h; simp at h
    rw [hb.block g hlt]
    exact h
theorem fmtu_int (m : Int) (u : Nat) (hm : m = u) (hu64 : u < 18446744073709551616) (w : World) (htab : Pow w) :
    Calls Tryd.prog 15 #[.int .u64 m, .int .i64 10] w fun e w' => e = .returned (.string ⟨(Lib.decDigits u).toArray⟩) ∧ Below w.heap.size w w' := by
  subst hm; exact fmtu_any u hu64 w htab

theorem u8_wrap (x : Int) : IntKind.u8.wrap x = x % 256 := by rfl
/-- The point and the hundredths. -/
def centS (n : Nat) : ByteArray := ⟨[46, UInt8.ofNat (48 + n % 100 / 10), UInt8.ofNat (48 + n % 100 % 10)].toArray⟩
theorem centS_size (n : Nat) : (centS n).size = 3 := rfl
/-- The cells of the point and the hundredths. -/
def cents (n : Nat) : Array Value := #[.int .u8 46, .int .u8 (48 + (n : Int) % 100 / 10), .int .u8 (48 + (n : Int) % 10)]
theorem cents_at (W : World) (b n : Nat) (hB : Blk W b (cents n) 5) : (convert 46 9 (.slice (some ⟨b, 0, none⟩) 3 3)).run Tryd.prog W =
    .ok (.string (centS n)) W := by
  refine run_convert_bytes_back (P := Tryd.prog) _ 46 9 5 ⟨b, 0, none⟩ 3 [46, UInt8.ofNat (48 + n % 100 / 10), UInt8.ofNat (48 + n % 100 % 10)] Tryd.underlying46 Tryd.underlying5 Tryd.underlying9 (fun j hj => ?_)
  rw [Lib.add_plain, hB.cell]
  match j, hj with
  | 0, _ => rfl
  | 1, _ =>
    show some (Value.int .u8 (48 + (n : Int) % 100 / 10)) = some (Value.int .u8 ((UInt8.ofNat (48 + n % 100 / 10)).toNat : Int))
    congr 2
    rw [UInt8.toNat_ofNat']; omega
  | 2, _ =>
    show some (Value.int .u8 (48 + (n : Int) % 10)) = some (Value.int .u8 ((UInt8.ofNat (48 + n % 100 % 10)).toNat : Int))
    congr 2
    rw [UInt8.toNat_ofNat']; omega
theorem cents_back (W : World) (n : Nat) : (convert 46 9 (.slice (some ⟨W.heap.size, 0, none⟩) 3 3)).run Tryd.prog (W.alloc (.cells #[.int .u8 46, .int .u8 (48 + (n : Int) % 100 / 10), .int .u8 (48 + (n : Int) % 10)] 5)) =
    .ok (.string (centS n)) (W.alloc (.cells #[.int .u8 46, .int .u8 (48 + (n : Int) % 100 / 10), .int .u8 (48 + (n : Int) % 10)] 5)) :=
  cents_at _ _ n (Blk.new W _ _)
theorem cents_drew (W : World) (n : Nat) : (convert 46 9 (.slice (some ⟨W.heap.size, 0, none⟩) 3 3)).run Tryd.prog (W.alloc (.cells #[.int .u8 46, .int .u8 (48 + (n : Int) % 100 / 10), .int .u8 (48 + (n : Int) % 10)] 5)).drew =
    .ok (.string (centS n)) (W.alloc (.cells #[.int .u8 46, .int .u8 (48 + (n : Int) % 100 / 10), .int .u8 (48 + (n : Int) % 10)] 5)).drew :=
  cents_at _ _ n (Blk.new W _ _).drew
theorem ret_string {a b : ByteArray} (h : a = b) : Ending.returned (.string a) = .returned (.string b) := by rw [h]
theorem text_str (n : Nat) (s : List UInt8) : (ByteArray.mk s.toArray ++ ByteArray.mk (Lib.decDigits (n / 100)).toArray) ++ centS n = ⟨(s ++ tailL n).toArray⟩ := by
  rw [centS, ByteArray.mk_append_mk, ByteArray.mk_append_mk, tailL, List.append_assoc]
theorem text_str_pos (n : Nat) : (ByteArray.mk #[] ++ ByteArray.mk (Lib.decDigits (n / 100)).toArray) ++ centS n = ⟨(textL n).toArray⟩ := by
  have := text_str n []
  rw [textL, if_neg (by omega)]
  exact this
theorem text_str_neg (n : Nat) (h : 1 ≤ n) : (ByteArray.mk #[45] ++ ByteArray.mk (Lib.decDigits (n / 100)).toArray) ++ centS n = ⟨(textL (-(n : Int))).toArray⟩ := by
  have := text_str n [45]
  rw [textL, if_pos (by omega), show (-(n : Int)).natAbs = n by omega]
  exact this
theorem dec_len (u : Nat) (hu64 : u < 18446744073709551616) : (Lib.decDigits u).length ≤ 20 := by
  rw [Lib.decDigits_length]
  by_cases h : u < 10
  · rw [Lib.nDigits_small h]; decide
  · have := Lib.numDigits_eq u (by omega) hu64; split at this <;> omega

set_option maxHeartbeats 2000000 in
set_option maxRecDepth 100000 in
theorem text_pos (n : Nat) (hn : (n : Int) ≤ 9223372036854775807) (w : World) (htab : Pow w) :
    Calls Tryd.prog 6 #[.int .i64 n] w fun e w' => e = .returned (.string ⟨(textL n).toArray⟩) ∧ Below w.heap.size w w' := by
  have hr : (0 : Int) ≤ (n : Int) % 100 ∧ (n : Int) % 100 ≤ 99 := by omega
  have hq : (0 : Int) ≤ (n : Int) / 100 := by omega
  have hf := fun (W : World) (h : Pow W) => fmtu_int ((n : Int) / 100) (n / 100) (by omega) (by omega) W h
  have hlen := dec_len (n / 100) (by omega)
  have hcs := centS_size n
  have hcv := fun (W : World) => cents_back W n
  have hcvd := fun (W : World) => cents_drew W n
  have a1 : ((n : Int) % 100).tdiv 10 = (n : Int) % 100 / 10 := Int.tdiv_eq_ediv_of_nonneg hr.1
  have a2 : IntKind.u8.wrap ((n : Int) % 100 / 10) = (n : Int) % 100 / 10 := by rw [u8_wrap]; omega
  have a3 : IntKind.u8.wrap (48 + (n : Int) % 100 / 10) = 48 + (n : Int) % 100 / 10 := by rw [u8_wrap]; omega
  have a4 : ((n : Int) % 100).tmod 10 = (n : Int) % 10 := by rw [Int.tmod_eq_emod_of_nonneg hr.1]; omega
  have a5 : IntKind.u8.wrap (48 + (n : Int) % 10) = 48 + (n : Int) % 10 := by rw [u8_wrap]; omega
  have a6 : IntKind.u64.wrap ((n : Int) / 100) = (n : Int) / 100 := by rw [u64_wrap]; omega
  have STR := Lib.hid (text_str_pos n)
  have HF := Lib.hid hf
  have HT := Lib.hid htab
  clear hf htab
  go_enter Tryd.func6, Tryd.ntmps6
  go_wp2_with fail
  go_region_with ((go_at_call 15; refine (HF.out _ (powBelow HT.out ?_)).mono ?_; (first | exact Below.refl _ _ | exact (Below.refl _ _).drew | exact (Below.refl _ _).drew.drew | exact ((Below.refl _ _).drew.alloc (by simp) _).drew | exact ((Below.refl _ _).drew.alloc (by simp) _)); rintro e w1 ⟨rfl, hb1⟩; have HB1 : Hid (Below w.heap.size w w1) := (by first | exact hb1 | exact (Below.refl _ _).drew.trans hb1 | exact ((Below.refl _ _).alloc (Nat.le_refl _) _).trans (hb1.mono (by simp)) | exact ((Below.refl _ _).alloc (Nat.le_refl _) _).drew.trans (hb1.mono (by simp))); (first | have hcv1 := cents_at w1 w.heap.size n ((Blk.new w _ _).drew.below hb1 (by simp)) | have hcv1 := cents_at w1 w.heap.size n ((Blk.new w _ _).below hb1 (by simp)) | have hcv1 := True.intro)))
  all_goals
    go_wp2
    go_ret
    exact ⟨ret_string STR.out, by first | exact HB1.out | exact HB1.out.drew | exact HB1.out.alloc HB1.out.size _ | exact (HB1.out.alloc HB1.out.size _).drew⟩
set_option maxHeartbeats 2000000 in
set_option maxRecDepth 100000 in
theorem text_neg (n : Nat) (h0 : 1 ≤ n) (hn : (n : Int) ≤ 9223372036854775808) (w : World) (htab : Pow w) :
    Calls Tryd.prog 6 #[.int .i64 (-(n : Int))] w fun e w' => e = .returned (.string ⟨(textL (-(n : Int))).toArray⟩) ∧ Below w.heap.size w w' := by
  have hr : (0 : Int) ≤ (n : Int) % 100 ∧ (n : Int) % 100 ≤ 99 := by omega
  have hq : (0 : Int) ≤ (n : Int) / 100 := by omega
  have hf := fun (W : World) (h : Pow W) => fmtu_int ((n : Int) / 100) (n / 100) (by omega) (by omega) W h
  have hlen := dec_len (n / 100) (by omega)
  have hcs := centS_size n
  have hcv := fun (W : World) => cents_back W n
  have hcvd := fun (W : World) => cents_drew W n
  have a1 : ((n : Int) % 100).tdiv 10 = (n : Int) % 100 / 10 := Int.tdiv_eq_ediv_of_nonneg hr.1
  have a2 : IntKind.u8.wrap ((n : Int) % 100 / 10) = (n : Int) % 100 / 10 := by rw [u8_wrap]; omega
  have a3 : IntKind.u8.wrap (48 + (n : Int) % 100 / 10) = 48 + (n : Int) % 100 / 10 := by rw [u8_wrap]; omega
  have a4 : ((n : Int) % 100).tmod 10 = (n : Int) % 10 := by rw [Int.tmod_eq_emod_of_nonneg hr.1]; omega
  have a5 : IntKind.u8.wrap (48 + (n : Int) % 10) = 48 + (n : Int) % 10 := by rw [u8_wrap]; omega
  have a6 : IntKind.u64.wrap ((n : Int) / 100) = (n : Int) / 100 := by rw [u64_wrap]; omega
  have hw : IntKind.u64.wrap (-IntKind.u64.wrap (-(n : Int))) = (n : Int) := by rw [u64_wrap, u64_wrap]; omega
  have STR := Lib.hid (text_str_neg n h0)
  have HF := Lib.hid hf
  have HT := Lib.hid htab
  clear hf htab
  go_enter Tryd.func6, Tryd.ntmps6
  go_wp2_with fail
  go_region_with ((go_at_call 15; refine (HF.out _ (powBelow HT.out ?_)).mono ?_; (first | exact Below.refl _ _ | exact (Below.refl _ _).drew | exact (Below.refl _ _).drew.drew | exact ((Below.refl _ _).drew.alloc (by simp) _).drew | exact ((Below.refl _ _).drew.alloc (by simp) _)); rintro e w1 ⟨rfl, hb1⟩; have HB1 : Hid (Below w.heap.size w w1) := (by first | exact hb1 | exact (Below.refl _ _).drew.trans hb1 | exact ((Below.refl _ _).alloc (Nat.le_refl _) _).trans (hb1.mono (by simp)) | exact ((Below.refl _ _).alloc (Nat.le_refl _) _).drew.trans (hb1.mono (by simp))); (first | have hcv1 := cents_at w1 w.heap.size n ((Blk.new w _ _).drew.below hb1 (by simp)) | have hcv1 := cents_at w1 w.heap.size n ((Blk.new w _ _).below hb1 (by simp)) | have hcv1 := True.intro)))
  all_goals
    go_wp2
    go_ret
    exact ⟨ret_string STR.out, by first | exact HB1.out | exact HB1.out.drew | exact HB1.out.alloc HB1.out.size _ | exact (HB1.out.alloc HB1.out.size _).drew⟩
theorem text_any (a : Int) (ha : Fits a) (w : World) (htab : Pow w) :
    Calls Tryd.prog 6 #[.int .i64 a] w fun e w' => e = .returned (.string ⟨(textL a).toArray⟩) ∧ Below w.heap.size w w' := by
  unfold Fits at ha
  by_cases h : 0 ≤ a
  · obtain ⟨n, rfl⟩ := Int.eq_ofNat_of_zero_le h
    exact text_pos n ha.2 w htab
  · have e : a = -(a.natAbs : Int) := by omega
    rw [e]
    exact text_neg a.natAbs (by omega) (by omega) w htab
end Go.Proofs.YtgdahhbigpcldaaDoor
