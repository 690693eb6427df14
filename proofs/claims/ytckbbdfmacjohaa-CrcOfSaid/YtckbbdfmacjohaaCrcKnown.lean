/- The standard's check and the check of nothing: contralaw03's first test is true. -/
import Derived.Test.YtckbbdfmacjohaaCrc
import Derived.Test.YtckbbdfmacjohaaApp
import Derived.Lib.SlBytesConst
namespace Go.Proofs.Ytckbbdfmacjohaa
open Go.RowKit
theorem known_nats : checkN (natsOf [49, 50, 51, 52, 53, 54, 55, 56, 57]) = 3421780262 := known_check
theorem crcof_known (b : Value) (w : World) (hrow : Row .u8 w b [49, 50, 51, 52, 53, 54, 55, 56, 57]) :
    Calls Try.prog 25 #[b] w fun e w' => e = .returned (.int .u32 3421780262) ∧ Below w.heap.size w w' := by
  have h8 : Oct [49, 50, 51, 52, 53, 54, 55, 56, 57] := by
    intro a ha
    simp at ha
    omega
  refine (crcof_any b _ w (by simp) h8 hrow).mono ?_
  rintro e w' ⟨rfl, hb⟩
  rw [known_nats]
  exact ⟨rfl, hb⟩
theorem crcof_nil (w : World) :
    Calls Try.prog 25 #[.slice none 0 0] w fun e w' => e = .returned (.int .u32 0) ∧ Below w.heap.size w w' := by
  refine (crcof_any _ [] w (by simp) (fun a ha => by cases ha) (Row.nil_ _ w 0)).mono ?_
  rintro e w' ⟨rfl, hb⟩
  exact ⟨rfl, hb⟩
set_option maxRecDepth 100000 in
theorem crcknown_any (w : World) : Calls Try.prog 24 #[] w fun e w' => e = .returned (.bool true) ∧ Below w.heap.size w w' := by
  have hrow := Row.laid .u8 w 5 [49, 50, 51, 52, 53, 54, 55, 56, 57] #[.int .u8 49, .int .u8 50, .int .u8 51, .int .u8 52, .int .u8 53, .int .u8 54, .int .u8 55, .int .u8 56, .int .u8 57] rfl (9, 10) 9 9 rfl (Nat.le_refl _)
  have kc := fun (w : World) (C : Array Value) (n c : Nat) => Lib.run_convert_bytes_const (P := Try.prog) w 53 5 C n c Try.underlying53 Try.underlying5
  go_enter Try.func24, Try.ntmps24
  go_wp2_with fail
  refine (crcof_known _ _ hrow).mono ?_
  rintro e w1 ⟨rfl, hb1⟩
  go_wp2_with fail
  refine (crcof_nil _).mono ?_
  rintro e w2 ⟨rfl, hb2⟩
  go_wp2_with fail
  go_ret
  exact ⟨rfl, ((Below.refl _ _).alloc (Nat.le_refl _) _).trans ((hb1.mono (by simp)).trans (hb2.mono (by have := hb1.size; simp at this; omega)))⟩
end Go.Proofs.Ytckbbdfmacjohaa
