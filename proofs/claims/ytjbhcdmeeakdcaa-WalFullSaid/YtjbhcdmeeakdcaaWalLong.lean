/- A record that is too long is refused, however long it is. -/
import Derived.Test.YtjbhcdmeeakdcaaWalState
namespace Go.Proofs.Ytjbhcdmeeakdcaa
open Go.RowKit
theorem fapp_long (b v : Value) (ys : List Int) (w : World) (h : 16384 < ys.length) (hb : ∃ p n c, b = .slice p n c) (hv : Row .u8 w v ys) :
    Calls Try.prog 30 #[b, v] w fun x w' => x = .returned (.tuple #[.slice none 0 0, .int .i64 2]) ∧ Below w.heap.size w w' := by
  obtain ⟨pb, nb, cb, rfl⟩ := hb
  obtain ⟨pv, cv, rfl⟩ := hv.shape
  clear hv
  have h' : (16384 : Int) < (ys.length : Int) := by omega
  generalize ys.length = n at *
  go_enter Try.func30, Try.ntmps30
  go_wp2_with fail
  go_ret2
  exact ⟨rfl, Below.refl _ _⟩
theorem wput_long (w : World) (gl : Nat) (v : Value) (ys : List Int) (hl : 16384 < ys.length) (hrow : Row .u8 w v ys) :
    Calls Try.prog 14 #[.pointer (some ⟨gl, 0, none⟩), v] w fun x w' => x = .returned (.int .i64 2) ∧ Below w.heap.size w w' := by
  have HF := Lib.hid (fapp_long (.slice none 0 0) v ys w hl ⟨_, _, _, rfl⟩ hrow)
  obtain ⟨pv, cv, rfl⟩ := hrow.shape
  clear hrow hl
  generalize ys.length = n at *
  go_enter Try.func14, Try.ntmps14
  go_wp2_with fail
  refine HF.out.mono ?_
  rintro y w1 ⟨rfl, hb1⟩
  have HB1 := Lib.hid hb1
  clear hb1
  go_wp2_with fail
  go_ret
  exact ⟨rfl, HB1.out⟩
theorem wadd_long (w : World) (gl : Nat) (v : Value) (ys : List Int) (hl : 16384 < ys.length) (hrow : Row .u8 w v ys) :
    Calls Try.prog 15 #[.pointer (some ⟨gl, 0, none⟩), v] w fun x w' => x = .returned (.int .i64 2) ∧ Below w.heap.size w w' := by
  have HF := Lib.hid (wput_long w gl v ys hl hrow)
  obtain ⟨pv, cv, rfl⟩ := hrow.shape
  clear hrow hl
  generalize ys.length = n at *
  go_enter Try.func15, Try.ntmps15
  go_wp2_with fail
  refine HF.out.mono ?_
  rintro y w1 ⟨rfl, hb1⟩
  have HB1 := Lib.hid hb1
  clear hb1
  go_wp2_with fail
  go_ret
  exact ⟨rfl, HB1.out⟩
end Go.Proofs.Ytjbhcdmeeakdcaa
