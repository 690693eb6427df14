/- The element types' facts at this program. -/
import Derived.Test.YtbimbpmdiahhbaaApp
namespace Go.Proofs.Ytbimbpmdiahhbaa
open Go.RowKit
theorem elt_mk {P : Program} {t e : TypeId} {k : IntKind} {bytes : Nat} (ht : P.underlying t = some (.slice e)) (h : (P.info? e).map (fun i => (i.zero, i.size, i.bytes)) = some (some (.int k 0), 1, bytes)) : Elt P t e k bytes := by
  cases hi : P.info? e with
  | none => rw [hi] at h; cases h
  | some i =>
    rw [hi] at h
    simp at h
    exact ⟨i, ht, hi, h.1, h.2.1, h.2.2⟩
theorem elt8 : Elt Try.prog 22 5 .u8 1 := elt_mk Try.underlying22 (by kernel_rfl)
end Go.Proofs.Ytbimbpmdiahhbaa
