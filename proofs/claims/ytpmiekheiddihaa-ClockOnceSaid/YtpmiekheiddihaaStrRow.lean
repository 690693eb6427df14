/- A row of bytes as a string. -/
import Derived.Test.YtpmiekheiddihaaApp
import Derived.Laws.BytesArg
namespace Go.Proofs.Ytpmiekheiddihaa
open Go.RowKit
/-- A row of bytes, turned into a string. -/
theorem conv_row {P : Program} (w : World) (src dst e : TypeId) (hs : P.underlying src = some (.slice e)) (he : P.underlying e = some (.int .u8)) (hd : P.underlying dst = some .string) (v : Value) (zs : List Int) (hrow : Row .u8 w v zs) :
    (convert src dst v).run P w = .ok (.string (strOfNums zs)) w := by
  obtain ⟨p, c, rfl, hc, hr⟩ := id hrow
  cases p with
  | none =>
    have hz : zs = [] := by
      rcases hr with h | ⟨b, o, h, _⟩
      · exact h
      · cases h
    subst hz
    rw [run_convert_bytes_nil w src e hs he _ c dst hd]
    rfl
  | some ad =>
    have hl : (loadCells ad zs.length).run P w = .ok (zs.map (Value.int .u8)).toArray w := by
      have := run_loadCells_list (P := P) w ad (zs.map (Value.int .u8)) hrow.newsAt
      simpa using this
    rw [run_convert_bytes_string w src dst e _ zs.length c hs he hd, run_bytesToString w _ zs.length c zs hl, foldl_push_bytes]
    simp [strOfNums, ByteArray.empty, ByteArray.emptyWithCapacity]
    rfl
end Go.Proofs.Ytpmiekheiddihaa
