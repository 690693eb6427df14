/- Something that is said to a node, as it lies. -/
import Derived.Test.YtbpfbebebppleaaLiftMsg
import Derived.Test.YtbpfbebebppleaaTRow2
namespace Go.Proofs.Ytbpfbebebppleaa
open Go.RowKit
/-- Something that is said to a node, as it lies in cells. -/
structure SdX where
  tw : Int
  x : MsgX
def SdX.cells (y : SdX) : List Value := .int .i64 y.tw :: y.x.cells
def encS : Enc SdX := ⟨12, SdX.cells, by decide, fun _ => rfl, by
  intro y u hu
  simp only [SdX.cells, List.mem_cons] at hu
  rcases hu with rfl | hu
  · rfl
  · exact encM.one y.x u hu⟩
def zeroVS : Value := .agg #[.int .i64 0, .int .i64 0, .int .i64 0, .int .i64 0, .int .i64 0, .int .i64 0, .int .i64 0, .int .i64 0, .int .i64 0, .bool false, .slice none 0 0, .slice none 0 0]
theorem eltS : EltT encS Try.prog 43 58 zeroVS 128 := eltT_mk Try.underlying43 (by kernel_rfl)
/-- A message without lists. -/
def msgX0 (m : Msg) : MsgX := ⟨m, none, 0, none, 0⟩
end Go.Proofs.Ytbpfbebebppleaa
