/-
  No cell of these rows narrows 'for every input' (looked for: loops, veiled, ifaces, maps, wideKeys, modest, calm, conditions, laid).
  DERIVED. THE GIVEN ROWS OF THIS SEAT. 5 by the template 'for every input the law returns true; each argument reads behind the call as it read before'; 0 by the template 'total and deterministic' (their statements: YtogfhijfpobhhaaTotals.lean).
  GIVEN WITH THE SEED: the statements are not yours to turn. If you find one false, say at which input.
  Laid BY PROGRAM, IN A SANDBOX (cutbox-rows.mjs): the forced cells as the released guide's own fill.sh prints them over the translation 0f375b79dbf3ba51… (all of the seat's roots in one cut). By AI agents, Wed Nov 11 2026. No macro, syntax, notation, axiom, sorry.
-/
import Derived.Test.YtogfhijfpobhhaaChecked
import GoSem.Claim
import GoSem.ClaimJoined
import GoSem.ClaimMapViews
import Derived.JoinedTies
import Derived.KernelRfl
namespace Go.Proofs.Ytogfhijfpobhhaa
/- THE CELL 'sum', in the pinned program and in every row, IS THE sha256 OF THE DUMP (.gsa) THAT YtogfhijfpobhhaaProg.lean LOADS. Nothing in Lean hashes anything: it is a label: what it is worth is what the hold of that sum in a sandbox is worth. -/
noncomputable def Try.pinned : Pinned := { name := "ytogfhijfpobhhaa", sum := "0f375b79dbf3ba518abb582ac7be2bc90d0a3489e95e4605a8495f586be54858", checked := Try.checked }
namespace Rows
def none {H : Type} : Left H := { results := [], args := [] }

/-- 'contralaw15.ElimLook': WHATEVER THE INPUT: true; the input reads as it did. -/
def elimLookSpec : ChangeSpec := { name := "elimLook", fn := fun _ => fun
  | [d1, d2, d3] => { results := [.lit (.bool true)], args := [d1, d2, d3] }
  | _ => none }
def elimLookRow : OpenClaim := { program := "ytogfhijfpobhhaa", sum := "0f375b79dbf3ba518abb582ac7be2bc90d0a3489e95e4605a8495f586be54858", func := "contra/contralaw15.ElimLook", spec := "elimLook", inPlace := ["math/bits.Add64"], unfollowed := true, recurses := true, plainKeys := false, apart := false }
def ElimLookSaid : Prop := elimLookRow.holds Try.pinned (OpenSpec.ofChange elimLookSpec)

/-- ITS FALSE NEIGHBOUR: 'it returns false'. Refute it at one input. -/
def elimLookWrong : ChangeSpec := { name := "elimLook", fn := fun _ => fun
  | [d1, d2, d3] => { results := [.lit (.bool false)], args := [d1, d2, d3] }
  | _ => none }
def ElimLookWrongFalsely : Prop := elimLookRow.holds Try.pinned (OpenSpec.ofChange elimLookWrong)

/-- 'contralaw15.ElimZero': WHATEVER THE INPUT: true; the input reads as it did. -/
def elimZeroSpec : ChangeSpec := { name := "elimZero", fn := fun _ => fun
  | [d1, d2, d3] => { results := [.lit (.bool true)], args := [d1, d2, d3] }
  | _ => none }
def elimZeroRow : OpenClaim := { program := "ytogfhijfpobhhaa", sum := "0f375b79dbf3ba518abb582ac7be2bc90d0a3489e95e4605a8495f586be54858", func := "contra/contralaw15.ElimZero", spec := "elimZero", inPlace := ["math/bits.Add64"], unfollowed := true, recurses := true, plainKeys := false, apart := false }
def ElimZeroSaid : Prop := elimZeroRow.holds Try.pinned (OpenSpec.ofChange elimZeroSpec)

/-- ITS FALSE NEIGHBOUR: 'it returns false'. Refute it at one input. -/
def elimZeroWrong : ChangeSpec := { name := "elimZero", fn := fun _ => fun
  | [d1, d2, d3] => { results := [.lit (.bool false)], args := [d1, d2, d3] }
  | _ => none }
def ElimZeroWrongFalsely : Prop := elimZeroRow.holds Try.pinned (OpenSpec.ofChange elimZeroWrong)

/-- 'contralaw15.ElimGroup': WHATEVER THE INPUT: true; the input reads as it did. -/
def elimGroupSpec : ChangeSpec := { name := "elimGroup", fn := fun _ => fun
  | [d1, d2, d3] => { results := [.lit (.bool true)], args := [d1, d2, d3] }
  | _ => none }
def elimGroupRow : OpenClaim := { program := "ytogfhijfpobhhaa", sum := "0f375b79dbf3ba518abb582ac7be2bc90d0a3489e95e4605a8495f586be54858", func := "contra/contralaw15.ElimGroup", spec := "elimGroup", inPlace := ["math/bits.Add64"], unfollowed := true, recurses := true, plainKeys := false, apart := false }
def ElimGroupSaid : Prop := elimGroupRow.holds Try.pinned (OpenSpec.ofChange elimGroupSpec)

/-- ITS FALSE NEIGHBOUR: 'it returns false'. Refute it at one input. -/
def elimGroupWrong : ChangeSpec := { name := "elimGroup", fn := fun _ => fun
  | [d1, d2, d3] => { results := [.lit (.bool false)], args := [d1, d2, d3] }
  | _ => none }
def ElimGroupWrongFalsely : Prop := elimGroupRow.holds Try.pinned (OpenSpec.ofChange elimGroupWrong)

/-- 'contralaw15.ElimOthers': WHATEVER THE INPUT: true; the input reads as it did. -/
def elimOthersSpec : ChangeSpec := { name := "elimOthers", fn := fun _ => fun
  | [d1, d2, d3] => { results := [.lit (.bool true)], args := [d1, d2, d3] }
  | _ => none }
def elimOthersRow : OpenClaim := { program := "ytogfhijfpobhhaa", sum := "0f375b79dbf3ba518abb582ac7be2bc90d0a3489e95e4605a8495f586be54858", func := "contra/contralaw15.ElimOthers", spec := "elimOthers", inPlace := ["math/bits.Add64"], unfollowed := true, recurses := true, plainKeys := false, apart := false }
def ElimOthersSaid : Prop := elimOthersRow.holds Try.pinned (OpenSpec.ofChange elimOthersSpec)

/-- ITS FALSE NEIGHBOUR: 'it returns false'. Refute it at one input. -/
def elimOthersWrong : ChangeSpec := { name := "elimOthers", fn := fun _ => fun
  | [d1, d2, d3] => { results := [.lit (.bool false)], args := [d1, d2, d3] }
  | _ => none }
def ElimOthersWrongFalsely : Prop := elimOthersRow.holds Try.pinned (OpenSpec.ofChange elimOthersWrong)

/-- 'contralaw15.ElimOdd': WHATEVER THE INPUT: true; the input reads as it did. -/
def elimOddSpec : ChangeSpec := { name := "elimOdd", fn := fun _ => fun
  | [d1, d2] => { results := [.lit (.bool true)], args := [d1, d2] }
  | _ => none }
def elimOddRow : OpenClaim := { program := "ytogfhijfpobhhaa", sum := "0f375b79dbf3ba518abb582ac7be2bc90d0a3489e95e4605a8495f586be54858", func := "contra/contralaw15.ElimOdd", spec := "elimOdd", inPlace := ["math/bits.Add64"], unfollowed := true, recurses := true, plainKeys := false, apart := false }
def ElimOddSaid : Prop := elimOddRow.holds Try.pinned (OpenSpec.ofChange elimOddSpec)

/-- ITS FALSE NEIGHBOUR: 'it returns false'. Refute it at one input. -/
def elimOddWrong : ChangeSpec := { name := "elimOdd", fn := fun _ => fun
  | [d1, d2] => { results := [.lit (.bool false)], args := [d1, d2] }
  | _ => none }
def ElimOddWrongFalsely : Prop := elimOddRow.holds Try.pinned (OpenSpec.ofChange elimOddWrong)

/- THE SECOND FORM. 'bulk': how many values and letters a reading holds, each counted each time it is reached (what is shared counts as often as it is met; a slice's spare places count too). A statement '..UptoSaid' is the law's where the arguments, and the package variables that the reading takes, are together of bulk at most 1048576: NARROWER than '..Said'. Prove '..Said' where nothing that the law and all that it calls make is longer than what came in: it says more and counts as full. Else prove '..UptoSaid'. A law counts once. -/
mutual
def uptoBulk {H : Type} : DataW H → Nat
  | .lit (.string bytes) => bytes.length + 1
  | .lit _ => 1
  | .nil => 1
  | .ptr d => uptoBulk d + 1
  | .slice elems spare => uptoBulkAll elems + uptoBulkAll spare + 1
  | .agg parts => uptoBulkAll parts + 1
  | .iface _ d => uptoBulk d + 1
  | .map entries => uptoBulkEntries entries + 1
  | .held _ => 1
def uptoBulkAll {H : Type} : List (DataW H) → Nat
  | [] => 0
  | d :: r => uptoBulk d + uptoBulkAll r
def uptoBulkEntries {H : Type} : List (Lit × DataW H) → Nat
  | [] => 0
  | x :: r => uptoBulkEntry x + uptoBulkEntries r
def uptoBulkEntry {H : Type} : Lit × DataW H → Nat
  | (.string bytes, d) => bytes.length + uptoBulk d + 1
  | (_, d) => uptoBulk d + 1
 end
def uptoSmall : (H : Type) → List (DataW H) → Bool := fun _ ds => decide (uptoBulkAll ds ≤ 1048576)
def OpenSpec.upto (s : _root_.Go.ChangeSpec) : _root_.Go.OpenSpec := { _root_.Go.OpenSpec.ofChange s with cond := some uptoSmall }

/-- 'contralaw15.ElimLook', WHERE WHAT IT READS IS OF BULK AT MOST 1048576: true; the input reads as it did. -/
def elimLookUptoRow : OpenClaim := { program := "ytogfhijfpobhhaa", sum := "0f375b79dbf3ba518abb582ac7be2bc90d0a3489e95e4605a8495f586be54858", func := "contra/contralaw15.ElimLook", spec := "elimLook", inPlace := ["math/bits.Add64"], unfollowed := true, recurses := true, plainKeys := false, apart := false, narrowed := true }
def ElimLookUptoSaid : Prop := elimLookUptoRow.holds Try.pinned (OpenSpec.upto elimLookSpec)

/-- 'contralaw15.ElimZero', WHERE WHAT IT READS IS OF BULK AT MOST 1048576: true; the input reads as it did. -/
def elimZeroUptoRow : OpenClaim := { program := "ytogfhijfpobhhaa", sum := "0f375b79dbf3ba518abb582ac7be2bc90d0a3489e95e4605a8495f586be54858", func := "contra/contralaw15.ElimZero", spec := "elimZero", inPlace := ["math/bits.Add64"], unfollowed := true, recurses := true, plainKeys := false, apart := false, narrowed := true }
def ElimZeroUptoSaid : Prop := elimZeroUptoRow.holds Try.pinned (OpenSpec.upto elimZeroSpec)

/-- 'contralaw15.ElimGroup', WHERE WHAT IT READS IS OF BULK AT MOST 1048576: true; the input reads as it did. -/
def elimGroupUptoRow : OpenClaim := { program := "ytogfhijfpobhhaa", sum := "0f375b79dbf3ba518abb582ac7be2bc90d0a3489e95e4605a8495f586be54858", func := "contra/contralaw15.ElimGroup", spec := "elimGroup", inPlace := ["math/bits.Add64"], unfollowed := true, recurses := true, plainKeys := false, apart := false, narrowed := true }
def ElimGroupUptoSaid : Prop := elimGroupUptoRow.holds Try.pinned (OpenSpec.upto elimGroupSpec)

/-- 'contralaw15.ElimOthers', WHERE WHAT IT READS IS OF BULK AT MOST 1048576: true; the input reads as it did. -/
def elimOthersUptoRow : OpenClaim := { program := "ytogfhijfpobhhaa", sum := "0f375b79dbf3ba518abb582ac7be2bc90d0a3489e95e4605a8495f586be54858", func := "contra/contralaw15.ElimOthers", spec := "elimOthers", inPlace := ["math/bits.Add64"], unfollowed := true, recurses := true, plainKeys := false, apart := false, narrowed := true }
def ElimOthersUptoSaid : Prop := elimOthersUptoRow.holds Try.pinned (OpenSpec.upto elimOthersSpec)

/-- 'contralaw15.ElimOdd', WHERE WHAT IT READS IS OF BULK AT MOST 1048576: true; the input reads as it did. -/
def elimOddUptoRow : OpenClaim := { program := "ytogfhijfpobhhaa", sum := "0f375b79dbf3ba518abb582ac7be2bc90d0a3489e95e4605a8495f586be54858", func := "contra/contralaw15.ElimOdd", spec := "elimOdd", inPlace := ["math/bits.Add64"], unfollowed := true, recurses := true, plainKeys := false, apart := false, narrowed := true }
def ElimOddUptoSaid : Prop := elimOddUptoRow.holds Try.pinned (OpenSpec.upto elimOddSpec)

end Rows
end Go.Proofs.Ytogfhijfpobhhaa
