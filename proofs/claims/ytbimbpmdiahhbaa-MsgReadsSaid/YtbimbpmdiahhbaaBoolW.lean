/- code.Bool by contract. -/
import Derived.Test.YtbimbpmdiahhbaaWNum
namespace Go.Proofs.Ytbimbpmdiahhbaa
open Go.RowKit
def bitI (x : Bool) : Int := if x then 1 else 0
set_option maxHeartbeats 1000000 in
set_option maxRecDepth 100000 in
theorem wbool_any (vb : Value) (zs : List Int) (x : Bool) (w : World) (hrow : Row .u8 w vb zs) (hl : zs.length ≤ 140737488354000) :
    Calls Try.prog 37 #[vb, .bool x] w fun y w' => ∃ v, y = .returned v ∧ Own .u8 w' w.heap.size 5 v (zs ++ [bitI x]) ∧ Below w.heap.size w w' := by
  obtain ⟨pb, cb, rfl⟩ := hrow.shape
  have HROW := Lib.hid hrow
  have HL := Lib.hid hl
  clear hrow hl
  cases x
  · have HR := Lib.hid (Rows8.two (w.alloc (.cells #[.int .u8 0] 5)) 22 (w.heap.size + 1) (by simp) _ _ zs [0] (HROW.out.under (oneB w _) (Nat.le_refl _)) (Row.laid .u8 w 5 [0] #[.int .u8 0] rfl (0, 0) 1 1 rfl (Nat.le_refl _)))
    go_enter Try.func37, Try.ntmps37
    go_wp2_with fail
    refine (concat8_any _ 0 2 _ _ _ _ HR.out rfl (by decide) (by have := HL.out; simp; omega)).mono ?_
    rintro y w2 ⟨v2, rfl, ho2, hb2⟩
    have HO2 := Lib.hid ho2
    have HB2 := Lib.hid hb2
    clear ho2 hb2
    go_wp2_with fail
    go_ret
    refine ⟨_, rfl, own_down (by simpa [bitI] using HO2.out) ?_, ((oneB w _).alloc (by simp) _).trans (HB2.out.mono (by simp; omega))⟩
    omega
  · have HR := Lib.hid (Rows8.two (w.alloc (.cells #[.int .u8 1] 5)) 22 (w.heap.size + 1) (by simp) _ _ zs [1] (HROW.out.under (oneB w _) (Nat.le_refl _)) (Row.laid .u8 w 5 [1] #[.int .u8 1] rfl (0, 0) 1 1 rfl (Nat.le_refl _)))
    go_enter Try.func37, Try.ntmps37
    go_wp2_with fail
    refine (concat8_any _ 0 2 _ _ _ _ HR.out rfl (by decide) (by have := HL.out; simp; omega)).mono ?_
    rintro y w2 ⟨v2, rfl, ho2, hb2⟩
    have HO2 := Lib.hid ho2
    have HB2 := Lib.hid hb2
    clear ho2 hb2
    go_wp2_with fail
    go_ret
    refine ⟨_, rfl, own_down (by simpa [bitI] using HO2.out) ?_, ((oneB w _).alloc (by simp) _).trans (HB2.out.mono (by simp; omega))⟩
    omega
end Go.Proofs.Ytbimbpmdiahhbaa
