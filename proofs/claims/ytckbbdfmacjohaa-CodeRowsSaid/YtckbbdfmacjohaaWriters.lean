/- code.Num, code.Bytes by contract; the first examples of layer 4. -/
import Derived.Test.YtckbbdfmacjohaaDigits
namespace Go.Proofs.Ytckbbdfmacjohaa
open Go.RowKit
theorem Rows8.two (w : World) (T : TypeId) (b : Nat) (hb : b = w.heap.size) (v1 v2 : Value) (z1 z2 : List Int) (h1 : Row .u8 w v1 z1) (h2 : Row .u8 w v2 z2) : Rows8 (w.alloc (.cells #[v1, v2] T)) b 0 [v1, v2] [z1, z2] := by
  subst hb
  refine ⟨rfl, fun i hi => ?_⟩
  have hB := Blk.new w #[v1, v2] T
  match i, hi with
  | 0, _ => exact ⟨hB.cell 0, h1.under (oneB w _) (Nat.le_refl _)⟩
  | 1, _ => exact ⟨hB.cell 1, h2.under (oneB w _) (Nat.le_refl _)⟩
theorem Rows8.three (w : World) (T : TypeId) (b : Nat) (hb : b = w.heap.size) (v1 v2 v3 : Value) (z1 z2 z3 : List Int) (h1 : Row .u8 w v1 z1) (h2 : Row .u8 w v2 z2) (h3 : Row .u8 w v3 z3) : Rows8 (w.alloc (.cells #[v1, v2, v3] T)) b 0 [v1, v2, v3] [z1, z2, z3] := by
  subst hb
  refine ⟨rfl, fun i hi => ?_⟩
  have hB := Blk.new w #[v1, v2, v3] T
  match i, hi with
  | 0, _ => exact ⟨hB.cell 0, h1.under (oneB w _) (Nat.le_refl _)⟩
  | 1, _ => exact ⟨hB.cell 1, h2.under (oneB w _) (Nat.le_refl _)⟩
  | 2, _ => exact ⟨hB.cell 2, h3.under (oneB w _) (Nat.le_refl _)⟩
theorem own_down {k : IntKind} {w : World} {base base' : Nat} {e : TypeId} {v : Value} {zs : List Int} (h : Own k w base e v zs) (hb : base' ≤ base) : Own k w base' e v zs := by
  refine ⟨h.1, ?_⟩
  rcases h.2 with h | ⟨g, cap, cur, hv, hbg, hr⟩
  · exact .inl h
  · exact .inr ⟨g, cap, cur, hv, by omega, hr⟩
set_option maxHeartbeats 1000000 in
theorem wnum_any (vb : Value) (zs : List Int) (n : Int) (w : World) (hrow : Row .u8 w vb zs) (hl : zs.length ≤ 140737488354000) (h1 : -9223372036854775808 ≤ n) (h2 : n ≤ 9223372036854775807) :
    Calls Try.prog 30 #[vb, .int .i64 n] w fun x w' => ∃ v, x = .returned v ∧ Own .u8 w' w.heap.size 5 v (zs ++ numL n) ∧ Below w.heap.size w w' := by
  obtain ⟨pb, cb, rfl⟩ := hrow.shape
  have HROW := Lib.hid hrow
  have hten := Lib.hid (numL_len h1 h2)
  have HL := Lib.hid hl
  clear hrow hl
  go_enter Try.func30, Try.ntmps30
  go_wp2_with fail
  refine (digits_any n w h1 h2).mono ?_
  rintro y w1 ⟨v1, rfl, ho1, hb1⟩
  obtain ⟨p1, c1, rfl⟩ := ho1.form
  have HB1 := Lib.hid hb1
  have HR := Lib.hid (Rows8.two w1 53 w1.heap.size rfl _ _ zs (numL n) (HROW.out.under hb1 (Nat.le_refl _)) ho1.row)
  clear ho1 hb1
  go_wp2_with fail
  refine (concat8_any _ 0 2 _ _ _ _ HR.out rfl (by decide) (by have := hten.out; have := HL.out; simp; omega)).mono ?_
  rintro y w2 ⟨v2, rfl, ho2, hb2⟩
  have HO2 := Lib.hid ho2
  have HB2 := Lib.hid hb2
  clear ho2 hb2
  go_wp2_with fail
  go_ret
  have hs := HB1.out.size
  refine ⟨_, rfl, own_down (by simpa using HO2.out) ?_, (HB1.out.alloc hs _).trans (HB2.out.mono (by simp; omega))⟩
  omega
set_option maxHeartbeats 1000000 in
theorem wbytes_any (vb vl : Value) (zs ys : List Int) (w : World) (hrow : Row .u8 w vb zs) (hrow2 : Row .u8 w vl ys) (hl : zs.length + ys.length ≤ 140737488354000) :
    Calls Try.prog 46 #[vb, vl] w fun x w' => ∃ v, x = .returned v ∧ Own .u8 w' w.heap.size 5 v (zs ++ (numL ys.length ++ ys)) ∧ Below w.heap.size w w' := by
  obtain ⟨pl, cl, rfl⟩ := hrow2.shape
  obtain ⟨pb, cb, rfl⟩ := hrow.shape
  have HROW := Lib.hid hrow
  have HROW2 := Lib.hid hrow2
  have h1 : -9223372036854775808 ≤ (ys.length : Int) := by omega
  have h2 : (ys.length : Int) ≤ 9223372036854775807 := by omega
  have hten := Lib.hid (numL_len h1 h2)
  have HL := Lib.hid hl
  clear hrow hl hrow2
  go_enter Try.func46, Try.ntmps46
  go_wp2_with fail
  refine (digits_any _ w h1 h2).mono ?_
  rintro y w1 ⟨v1, rfl, ho1, hb1⟩
  obtain ⟨p1, c1, rfl⟩ := ho1.form
  have HB1 := Lib.hid hb1
  have HR := Lib.hid (Rows8.three w1 53 w1.heap.size rfl _ _ _ zs _ ys (HROW.out.under hb1 (Nat.le_refl _)) ho1.row (HROW2.out.under hb1 (Nat.le_refl _)))
  clear ho1 hb1
  go_wp2_with fail
  refine (concat8_any _ 0 3 _ _ _ _ HR.out rfl (by decide) (by have := hten.out; have := HL.out; simp; omega)).mono ?_
  rintro y w2 ⟨v2, rfl, ho2, hb2⟩
  have HO2 := Lib.hid ho2
  have HB2 := Lib.hid hb2
  clear ho2 hb2
  go_wp2_with fail
  go_ret
  have hs := HB1.out.size
  refine ⟨_, rfl, own_down (by simpa using HO2.out) ?_, (HB1.out.alloc hs _).trans (HB2.out.mono (by simp; omega))⟩
  omega
end Go.Proofs.Ytckbbdfmacjohaa
