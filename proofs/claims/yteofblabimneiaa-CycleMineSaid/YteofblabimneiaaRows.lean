/-
  No cell of these rows narrows 'for every input' (looked for: loops, veiled, ifaces, maps, wideKeys, modest, calm, conditions, laid).
  DERIVED. THE GIVEN ROWS OF THIS SEAT. 5 by the template 'for every input the law returns true; each argument reads behind the call as it read before'; 0 by the template 'total and deterministic' (their statements: YteofblabimneiaaTotals.lean).
  GIVEN WITH THE SEED: the statements are not yours to turn. If you find one false, say at which input.
  Laid BY PROGRAM, IN A SANDBOX (cutbox-rows.mjs): the forced cells as the released guide's own fill.sh prints them over the translation 8c9216ed2b7c2aaf… (all of the seat's roots in one cut). By AI agents, Wed Nov 11 2026. No macro, syntax, notation, axiom, sorry.
-/
import Derived.Test.YteofblabimneiaaChecked
import GoSem.Claim
import GoSem.ClaimJoined
import GoSem.ClaimMapViews
import Derived.JoinedTies
import Derived.KernelRfl
namespace Go.Proofs.Yteofblabimneiaa
/- THE CELL 'sum', in the pinned program and in every row, IS THE sha256 OF THE DUMP (.gsa) THAT YteofblabimneiaaProg.lean LOADS. Nothing in Lean hashes anything: it is a label: what it is worth is what the hold of that sum in a sandbox is worth. -/
noncomputable def Try.pinned : Pinned := { name := "yteofblabimneiaa", sum := "8c9216ed2b7c2aaf69d7cf22b8cbbb3f0668f3a0bcbe313177b3dc400d984521", checked := Try.checked }
namespace Rows
def none {H : Type} : Left H := { results := [], args := [] }

/-- 'contralaw16.CycleNets': WHATEVER THE INPUT: true; the input reads as it did. -/
def cycleNetsSpec : ChangeSpec := { name := "cycleNets", fn := fun _ => fun
  | [d1, d2] => { results := [.lit (.bool true)], args := [d1, d2] }
  | _ => none }
def cycleNetsRow : OpenClaim := { program := "yteofblabimneiaa", sum := "8c9216ed2b7c2aaf69d7cf22b8cbbb3f0668f3a0bcbe313177b3dc400d984521", func := "contra/contralaw16.CycleNets", spec := "cycleNets", inPlace := ["math/bits.Add64"], unfollowed := true, recurses := true, apart := false }
def CycleNetsSaid : Prop := cycleNetsRow.holds Try.pinned (OpenSpec.ofChange cycleNetsSpec)

/-- ITS FALSE NEIGHBOUR: 'it returns false'. Refute it at one input. -/
def cycleNetsWrong : ChangeSpec := { name := "cycleNets", fn := fun _ => fun
  | [d1, d2] => { results := [.lit (.bool false)], args := [d1, d2] }
  | _ => none }
def CycleNetsWrongFalsely : Prop := cycleNetsRow.holds Try.pinned (OpenSpec.ofChange cycleNetsWrong)

/-- 'contralaw16.CycleZero': WHATEVER THE INPUT: true; the input reads as it did. -/
def cycleZeroSpec : ChangeSpec := { name := "cycleZero", fn := fun _ => fun
  | [d1, d2, d3] => { results := [.lit (.bool true)], args := [d1, d2, d3] }
  | _ => none }
def cycleZeroRow : OpenClaim := { program := "yteofblabimneiaa", sum := "8c9216ed2b7c2aaf69d7cf22b8cbbb3f0668f3a0bcbe313177b3dc400d984521", func := "contra/contralaw16.CycleZero", spec := "cycleZero", inPlace := ["math/bits.Add64"], unfollowed := true, recurses := true, apart := false }
def CycleZeroSaid : Prop := cycleZeroRow.holds Try.pinned (OpenSpec.ofChange cycleZeroSpec)

/-- ITS FALSE NEIGHBOUR: 'it returns false'. Refute it at one input. -/
def cycleZeroWrong : ChangeSpec := { name := "cycleZero", fn := fun _ => fun
  | [d1, d2, d3] => { results := [.lit (.bool false)], args := [d1, d2, d3] }
  | _ => none }
def CycleZeroWrongFalsely : Prop := cycleZeroRow.holds Try.pinned (OpenSpec.ofChange cycleZeroWrong)

/-- 'contralaw16.CycleBoth': WHATEVER THE INPUT: true; the input reads as it did. -/
def cycleBothSpec : ChangeSpec := { name := "cycleBoth", fn := fun _ => fun
  | [d] => { results := [.lit (.bool true)], args := [d] }
  | _ => none }
def cycleBothRow : OpenClaim := { program := "yteofblabimneiaa", sum := "8c9216ed2b7c2aaf69d7cf22b8cbbb3f0668f3a0bcbe313177b3dc400d984521", func := "contra/contralaw16.CycleBoth", spec := "cycleBoth", inPlace := ["math/bits.Add64"], unfollowed := true, recurses := true, apart := false }
def CycleBothSaid : Prop := cycleBothRow.holds Try.pinned (OpenSpec.ofChange cycleBothSpec)

/-- ITS FALSE NEIGHBOUR: 'it returns false'. Refute it at one input. -/
def cycleBothWrong : ChangeSpec := { name := "cycleBoth", fn := fun _ => fun
  | [d] => { results := [.lit (.bool false)], args := [d] }
  | _ => none }
def CycleBothWrongFalsely : Prop := cycleBothRow.holds Try.pinned (OpenSpec.ofChange cycleBothWrong)

/-- 'contralaw16.CycleMine': WHATEVER THE INPUT: true; the input reads as it did. -/
def cycleMineSpec : ChangeSpec := { name := "cycleMine", fn := fun _ => fun
  | [d1, d2] => { results := [.lit (.bool true)], args := [d1, d2] }
  | _ => none }
def cycleMineRow : OpenClaim := { program := "yteofblabimneiaa", sum := "8c9216ed2b7c2aaf69d7cf22b8cbbb3f0668f3a0bcbe313177b3dc400d984521", func := "contra/contralaw16.CycleMine", spec := "cycleMine", inPlace := ["math/bits.Add64"], unfollowed := true, recurses := true, apart := false }
def CycleMineSaid : Prop := cycleMineRow.holds Try.pinned (OpenSpec.ofChange cycleMineSpec)

/-- ITS FALSE NEIGHBOUR: 'it returns false'. Refute it at one input. -/
def cycleMineWrong : ChangeSpec := { name := "cycleMine", fn := fun _ => fun
  | [d1, d2] => { results := [.lit (.bool false)], args := [d1, d2] }
  | _ => none }
def CycleMineWrongFalsely : Prop := cycleMineRow.holds Try.pinned (OpenSpec.ofChange cycleMineWrong)

/-- 'contralaw16.CycleAdds': WHATEVER THE INPUT: true; the input reads as it did. -/
def cycleAddsSpec : ChangeSpec := { name := "cycleAdds", fn := fun _ => fun
  | [d1, d2, d3] => { results := [.lit (.bool true)], args := [d1, d2, d3] }
  | _ => none }
def cycleAddsRow : OpenClaim := { program := "yteofblabimneiaa", sum := "8c9216ed2b7c2aaf69d7cf22b8cbbb3f0668f3a0bcbe313177b3dc400d984521", func := "contra/contralaw16.CycleAdds", spec := "cycleAdds", inPlace := ["math/bits.Add64"], unfollowed := true, recurses := true, apart := false }
def CycleAddsSaid : Prop := cycleAddsRow.holds Try.pinned (OpenSpec.ofChange cycleAddsSpec)

/-- ITS FALSE NEIGHBOUR: 'it returns false'. Refute it at one input. -/
def cycleAddsWrong : ChangeSpec := { name := "cycleAdds", fn := fun _ => fun
  | [d1, d2, d3] => { results := [.lit (.bool false)], args := [d1, d2, d3] }
  | _ => none }
def CycleAddsWrongFalsely : Prop := cycleAddsRow.holds Try.pinned (OpenSpec.ofChange cycleAddsWrong)

/- THE SECOND FORM. 'bulk': how many values and letters a reading holds, each counted each time it is reached (what is shared counts as often as it is met; a slice's spare places count too). A statement '..UptoSaid' is the law's where the arguments, and the package variables that the reading takes, are together of bulk at most 1048576: NARROWER than '..Said'. Prove '..Said' where nothing that the law and all that it calls make is longer than what came in: it says more and counts as full. Else prove '..UptoSaid'. A law counts once. -/
mutual
def uptoBulk {H : Type} : DataW H → Nat
  | .lit (.string bytes) => bytes.length + 1
  | .lit _ => 1
  | .nil => 1
  | .ptr d => uptoBulk d + 1
  | .slice elems spare => uptoBulkAll elems + uptoBulkAll spare + 1
  | .agg parts => uptoBulkAll parts + 1
  | .iface _ d => uptoBulk d + 1
  | .map entries => uptoBulkEntries entries + 1
  | .held _ => 1
def uptoBulkAll {H : Type} : List (DataW H) → Nat
  | [] => 0
  | d :: r => uptoBulk d + uptoBulkAll r
def uptoBulkEntries {H : Type} : List (Lit × DataW H) → Nat
  | [] => 0
  | x :: r => uptoBulkEntry x + uptoBulkEntries r
def uptoBulkEntry {H : Type} : Lit × DataW H → Nat
  | (.string bytes, d) => bytes.length + uptoBulk d + 1
  | (_, d) => uptoBulk d + 1
 end
def uptoSmall : (H : Type) → List (DataW H) → Bool := fun _ ds => decide (uptoBulkAll ds ≤ 1048576)
def OpenSpec.upto (s : _root_.Go.ChangeSpec) : _root_.Go.OpenSpec := { _root_.Go.OpenSpec.ofChange s with cond := some uptoSmall }

/-- 'contralaw16.CycleNets', WHERE WHAT IT READS IS OF BULK AT MOST 1048576: true; the input reads as it did. -/
def cycleNetsUptoRow : OpenClaim := { program := "yteofblabimneiaa", sum := "8c9216ed2b7c2aaf69d7cf22b8cbbb3f0668f3a0bcbe313177b3dc400d984521", func := "contra/contralaw16.CycleNets", spec := "cycleNets", inPlace := ["math/bits.Add64"], unfollowed := true, recurses := true, apart := false, narrowed := true }
def CycleNetsUptoSaid : Prop := cycleNetsUptoRow.holds Try.pinned (OpenSpec.upto cycleNetsSpec)

/-- 'contralaw16.CycleZero', WHERE WHAT IT READS IS OF BULK AT MOST 1048576: true; the input reads as it did. -/
def cycleZeroUptoRow : OpenClaim := { program := "yteofblabimneiaa", sum := "8c9216ed2b7c2aaf69d7cf22b8cbbb3f0668f3a0bcbe313177b3dc400d984521", func := "contra/contralaw16.CycleZero", spec := "cycleZero", inPlace := ["math/bits.Add64"], unfollowed := true, recurses := true, apart := false, narrowed := true }
def CycleZeroUptoSaid : Prop := cycleZeroUptoRow.holds Try.pinned (OpenSpec.upto cycleZeroSpec)

/-- 'contralaw16.CycleBoth', WHERE WHAT IT READS IS OF BULK AT MOST 1048576: true; the input reads as it did. -/
def cycleBothUptoRow : OpenClaim := { program := "yteofblabimneiaa", sum := "8c9216ed2b7c2aaf69d7cf22b8cbbb3f0668f3a0bcbe313177b3dc400d984521", func := "contra/contralaw16.CycleBoth", spec := "cycleBoth", inPlace := ["math/bits.Add64"], unfollowed := true, recurses := true, apart := false, narrowed := true }
def CycleBothUptoSaid : Prop := cycleBothUptoRow.holds Try.pinned (OpenSpec.upto cycleBothSpec)

/-- 'contralaw16.CycleMine', WHERE WHAT IT READS IS OF BULK AT MOST 1048576: true; the input reads as it did. -/
def cycleMineUptoRow : OpenClaim := { program := "yteofblabimneiaa", sum := "8c9216ed2b7c2aaf69d7cf22b8cbbb3f0668f3a0bcbe313177b3dc400d984521", func := "contra/contralaw16.CycleMine", spec := "cycleMine", inPlace := ["math/bits.Add64"], unfollowed := true, recurses := true, apart := false, narrowed := true }
def CycleMineUptoSaid : Prop := cycleMineUptoRow.holds Try.pinned (OpenSpec.upto cycleMineSpec)

/-- 'contralaw16.CycleAdds', WHERE WHAT IT READS IS OF BULK AT MOST 1048576: true; the input reads as it did. -/
def cycleAddsUptoRow : OpenClaim := { program := "yteofblabimneiaa", sum := "8c9216ed2b7c2aaf69d7cf22b8cbbb3f0668f3a0bcbe313177b3dc400d984521", func := "contra/contralaw16.CycleAdds", spec := "cycleAdds", inPlace := ["math/bits.Add64"], unfollowed := true, recurses := true, apart := false, narrowed := true }
def CycleAddsUptoSaid : Prop := cycleAddsUptoRow.holds Try.pinned (OpenSpec.upto cycleAddsSpec)

end Rows
end Go.Proofs.Yteofblabimneiaa
