/-
  No cell of these rows narrows 'for every input' (looked for: loops, veiled, ifaces, maps, wideKeys, modest, calm, conditions, laid).
  DERIVED. THE GIVEN ROWS OF THIS SEAT. 5 by the template 'for every input the law returns true; each argument reads behind the call as it read before'; 0 by the template 'total and deterministic' (their statements: YtaooiejgigicoaaTotals.lean).
  GIVEN WITH THE SEED: the statements are not yours to turn. If you find one false, say at which input.
  Laid BY PROGRAM, IN A SANDBOX (cutbox-rows.mjs): the forced cells as the released guide's own fill.sh prints them over the translation 18d6961a1185a007… (all of the seat's roots in one cut). By AI agents, Wed Nov 11 2026. No macro, syntax, notation, axiom, sorry.
-/
import Derived.Test.YtaooiejgigicoaaChecked
import GoSem.Claim
import GoSem.ClaimJoined
import GoSem.ClaimMapViews
import Derived.JoinedTies
import Derived.KernelRfl
namespace Go.Proofs.Ytaooiejgigicoaa
/- THE CELL 'sum', in the pinned program and in every row, IS THE sha256 OF THE DUMP (.gsa) THAT YtaooiejgigicoaaProg.lean LOADS. Nothing in Lean hashes anything: it is a label: what it is worth is what the hold of that sum in a sandbox is worth. -/
noncomputable def Try.pinned : Pinned := { name := "ytaooiejgigicoaa", sum := "18d6961a1185a0078e396fbc8033d9aa916e2b9693f6cbe66d9929aad61e9f89", checked := Try.checked }
namespace Rows
def none {H : Type} : Left H := { results := [], args := [] }

/-- 'contralaw02.VectorPlays': WHATEVER THE INPUT: true; the input reads as it did. -/
def vectorPlaysSpec : ChangeSpec := { name := "vectorPlays", fn := fun _ => fun
  | [d1, d2] => { results := [.lit (.bool true)], args := [d1, d2] }
  | _ => none }
def vectorPlaysRow : OpenClaim := { program := "ytaooiejgigicoaa", sum := "18d6961a1185a0078e396fbc8033d9aa916e2b9693f6cbe66d9929aad61e9f89", func := "contra/contralaw02.VectorPlays", spec := "vectorPlays", inPlace := ["math/bits.Add64"], unfollowed := true, recurses := true, apart := false }
def VectorPlaysSaid : Prop := vectorPlaysRow.holds Try.pinned (OpenSpec.ofChange vectorPlaysSpec)

/-- ITS FALSE NEIGHBOUR: 'it returns false'. Refute it at one input. -/
def vectorPlaysWrong : ChangeSpec := { name := "vectorPlays", fn := fun _ => fun
  | [d1, d2] => { results := [.lit (.bool false)], args := [d1, d2] }
  | _ => none }
def VectorPlaysWrongFalsely : Prop := vectorPlaysRow.holds Try.pinned (OpenSpec.ofChange vectorPlaysWrong)

/-- 'contralaw02.VectorPlus': WHATEVER THE INPUT: true; the input reads as it did. -/
def vectorPlusSpec : ChangeSpec := { name := "vectorPlus", fn := fun _ => fun
  | [d1, d2, d3] => { results := [.lit (.bool true)], args := [d1, d2, d3] }
  | _ => none }
def vectorPlusRow : OpenClaim := { program := "ytaooiejgigicoaa", sum := "18d6961a1185a0078e396fbc8033d9aa916e2b9693f6cbe66d9929aad61e9f89", func := "contra/contralaw02.VectorPlus", spec := "vectorPlus", inPlace := ["math/bits.Add64"], unfollowed := true, recurses := true, apart := false }
def VectorPlusSaid : Prop := vectorPlusRow.holds Try.pinned (OpenSpec.ofChange vectorPlusSpec)

/-- ITS FALSE NEIGHBOUR: 'it returns false'. Refute it at one input. -/
def vectorPlusWrong : ChangeSpec := { name := "vectorPlus", fn := fun _ => fun
  | [d1, d2, d3] => { results := [.lit (.bool false)], args := [d1, d2, d3] }
  | _ => none }
def VectorPlusWrongFalsely : Prop := vectorPlusRow.holds Try.pinned (OpenSpec.ofChange vectorPlusWrong)

/-- 'contralaw02.VectorBack': WHATEVER THE INPUT: true; the input reads as it did. -/
def vectorBackSpec : ChangeSpec := { name := "vectorBack", fn := fun _ => fun
  | [d1, d2] => { results := [.lit (.bool true)], args := [d1, d2] }
  | _ => none }
def vectorBackRow : OpenClaim := { program := "ytaooiejgigicoaa", sum := "18d6961a1185a0078e396fbc8033d9aa916e2b9693f6cbe66d9929aad61e9f89", func := "contra/contralaw02.VectorBack", spec := "vectorBack", inPlace := ["math/bits.Add64"], unfollowed := true, recurses := true, apart := false }
def VectorBackSaid : Prop := vectorBackRow.holds Try.pinned (OpenSpec.ofChange vectorBackSpec)

/-- ITS FALSE NEIGHBOUR: 'it returns false'. Refute it at one input. -/
def vectorBackWrong : ChangeSpec := { name := "vectorBack", fn := fun _ => fun
  | [d1, d2] => { results := [.lit (.bool false)], args := [d1, d2] }
  | _ => none }
def VectorBackWrongFalsely : Prop := vectorBackRow.holds Try.pinned (OpenSpec.ofChange vectorBackWrong)

/-- 'contralaw02.VectorOrder': WHATEVER THE INPUT: true; the input reads as it did. -/
def vectorOrderSpec : ChangeSpec := { name := "vectorOrder", fn := fun _ => fun
  | [d1, d2] => { results := [.lit (.bool true)], args := [d1, d2] }
  | _ => none }
def vectorOrderRow : OpenClaim := { program := "ytaooiejgigicoaa", sum := "18d6961a1185a0078e396fbc8033d9aa916e2b9693f6cbe66d9929aad61e9f89", func := "contra/contralaw02.VectorOrder", spec := "vectorOrder", inPlace := ["math/bits.Add64"], unfollowed := true, recurses := true, apart := false }
def VectorOrderSaid : Prop := vectorOrderRow.holds Try.pinned (OpenSpec.ofChange vectorOrderSpec)

/-- ITS FALSE NEIGHBOUR: 'it returns false'. Refute it at one input. -/
def vectorOrderWrong : ChangeSpec := { name := "vectorOrder", fn := fun _ => fun
  | [d1, d2] => { results := [.lit (.bool false)], args := [d1, d2] }
  | _ => none }
def VectorOrderWrongFalsely : Prop := vectorOrderRow.holds Try.pinned (OpenSpec.ofChange vectorOrderWrong)

/-- 'contralaw02.VectorParts': WHATEVER THE INPUT: true; the input reads as it did. -/
def vectorPartsSpec : ChangeSpec := { name := "vectorParts", fn := fun _ => fun
  | [d1, d2] => { results := [.lit (.bool true)], args := [d1, d2] }
  | _ => none }
def vectorPartsRow : OpenClaim := { program := "ytaooiejgigicoaa", sum := "18d6961a1185a0078e396fbc8033d9aa916e2b9693f6cbe66d9929aad61e9f89", func := "contra/contralaw02.VectorParts", spec := "vectorParts", inPlace := ["math/bits.Add64"], unfollowed := true, recurses := true, apart := false }
def VectorPartsSaid : Prop := vectorPartsRow.holds Try.pinned (OpenSpec.ofChange vectorPartsSpec)

/-- ITS FALSE NEIGHBOUR: 'it returns false'. Refute it at one input. -/
def vectorPartsWrong : ChangeSpec := { name := "vectorParts", fn := fun _ => fun
  | [d1, d2] => { results := [.lit (.bool false)], args := [d1, d2] }
  | _ => none }
def VectorPartsWrongFalsely : Prop := vectorPartsRow.holds Try.pinned (OpenSpec.ofChange vectorPartsWrong)

/- THE SECOND FORM. 'bulk': how many values and letters a reading holds, each counted each time it is reached (what is shared counts as often as it is met; a slice's spare places count too). A statement '..UptoSaid' is the law's where the arguments, and the package variables that the reading takes, are together of bulk at most 1048576: NARROWER than '..Said'. Prove '..Said' where nothing that the law and all that it calls make is longer than what came in: it says more and counts as full. Else prove '..UptoSaid'. A law counts once. -/
mutual
def uptoBulk {H : Type} : DataW H → Nat
  | .lit (.string bytes) => bytes.length + 1
  | .lit _ => 1
  | .nil => 1
  | .ptr d => uptoBulk d + 1
  | .slice elems spare => uptoBulkAll elems + uptoBulkAll spare + 1
  | .agg parts => uptoBulkAll parts + 1
  | .iface _ d => uptoBulk d + 1
  | .map entries => uptoBulkEntries entries + 1
  | .held _ => 1
def uptoBulkAll {H : Type} : List (DataW H) → Nat
  | [] => 0
  | d :: r => uptoBulk d + uptoBulkAll r
def uptoBulkEntries {H : Type} : List (Lit × DataW H) → Nat
  | [] => 0
  | x :: r => uptoBulkEntry x + uptoBulkEntries r
def uptoBulkEntry {H : Type} : Lit × DataW H → Nat
  | (.string bytes, d) => bytes.length + uptoBulk d + 1
  | (_, d) => uptoBulk d + 1
 end
def uptoSmall : (H : Type) → List (DataW H) → Bool := fun _ ds => decide (uptoBulkAll ds ≤ 1048576)
def OpenSpec.upto (s : _root_.Go.ChangeSpec) : _root_.Go.OpenSpec := { _root_.Go.OpenSpec.ofChange s with cond := some uptoSmall }

/-- 'contralaw02.VectorPlays', WHERE WHAT IT READS IS OF BULK AT MOST 1048576: true; the input reads as it did. -/
def vectorPlaysUptoRow : OpenClaim := { program := "ytaooiejgigicoaa", sum := "18d6961a1185a0078e396fbc8033d9aa916e2b9693f6cbe66d9929aad61e9f89", func := "contra/contralaw02.VectorPlays", spec := "vectorPlays", inPlace := ["math/bits.Add64"], unfollowed := true, recurses := true, apart := false, narrowed := true }
def VectorPlaysUptoSaid : Prop := vectorPlaysUptoRow.holds Try.pinned (OpenSpec.upto vectorPlaysSpec)

/-- 'contralaw02.VectorPlus', WHERE WHAT IT READS IS OF BULK AT MOST 1048576: true; the input reads as it did. -/
def vectorPlusUptoRow : OpenClaim := { program := "ytaooiejgigicoaa", sum := "18d6961a1185a0078e396fbc8033d9aa916e2b9693f6cbe66d9929aad61e9f89", func := "contra/contralaw02.VectorPlus", spec := "vectorPlus", inPlace := ["math/bits.Add64"], unfollowed := true, recurses := true, apart := false, narrowed := true }
def VectorPlusUptoSaid : Prop := vectorPlusUptoRow.holds Try.pinned (OpenSpec.upto vectorPlusSpec)

/-- 'contralaw02.VectorBack', WHERE WHAT IT READS IS OF BULK AT MOST 1048576: true; the input reads as it did. -/
def vectorBackUptoRow : OpenClaim := { program := "ytaooiejgigicoaa", sum := "18d6961a1185a0078e396fbc8033d9aa916e2b9693f6cbe66d9929aad61e9f89", func := "contra/contralaw02.VectorBack", spec := "vectorBack", inPlace := ["math/bits.Add64"], unfollowed := true, recurses := true, apart := false, narrowed := true }
def VectorBackUptoSaid : Prop := vectorBackUptoRow.holds Try.pinned (OpenSpec.upto vectorBackSpec)

/-- 'contralaw02.VectorOrder', WHERE WHAT IT READS IS OF BULK AT MOST 1048576: true; the input reads as it did. -/
def vectorOrderUptoRow : OpenClaim := { program := "ytaooiejgigicoaa", sum := "18d6961a1185a0078e396fbc8033d9aa916e2b9693f6cbe66d9929aad61e9f89", func := "contra/contralaw02.VectorOrder", spec := "vectorOrder", inPlace := ["math/bits.Add64"], unfollowed := true, recurses := true, apart := false, narrowed := true }
def VectorOrderUptoSaid : Prop := vectorOrderUptoRow.holds Try.pinned (OpenSpec.upto vectorOrderSpec)

/-- 'contralaw02.VectorParts', WHERE WHAT IT READS IS OF BULK AT MOST 1048576: true; the input reads as it did. -/
def vectorPartsUptoRow : OpenClaim := { program := "ytaooiejgigicoaa", sum := "18d6961a1185a0078e396fbc8033d9aa916e2b9693f6cbe66d9929aad61e9f89", func := "contra/contralaw02.VectorParts", spec := "vectorParts", inPlace := ["math/bits.Add64"], unfollowed := true, recurses := true, apart := false, narrowed := true }
def VectorPartsUptoSaid : Prop := vectorPartsUptoRow.holds Try.pinned (OpenSpec.upto vectorPartsSpec)

end Rows
end Go.Proofs.Ytaooiejgigicoaa
