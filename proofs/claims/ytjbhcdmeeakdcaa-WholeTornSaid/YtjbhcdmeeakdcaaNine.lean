/- The standard's check of the nine digits, without contralaw03. -/
import Derived.Test.YtjbhcdmeeakdcaaCrc
import Derived.Test.YtjbhcdmeeakdcaaApp
import Derived.Lib.SlBytesConst
namespace Go.Proofs.Ytjbhcdmeeakdcaa
open Go.RowKit
theorem nine_nats : checkN (natsOf [49, 50, 51, 52, 53, 54, 55, 56, 57]) = 3421780262 := known_check
theorem crcof_nine (b : Value) (w : World) (hrow : Row .u8 w b [49, 50, 51, 52, 53, 54, 55, 56, 57]) :
    Calls Try.prog 28 #[b] w fun e w' => e = .returned (.int .u32 3421780262) ∧ Below w.heap.size w w' := by
  have h8 : Oct [49, 50, 51, 52, 53, 54, 55, 56, 57] := by
    intro a ha
    simp at ha
    omega
  refine (crcof_any b _ w (by simp) h8 hrow).mono ?_
  rintro e w' ⟨rfl, hb⟩
  rw [nine_nats]
  exact ⟨rfl, hb⟩
end Go.Proofs.Ytjbhcdmeeakdcaa
