/-
  No cell of these rows narrows 'for every input' (looked for: loops, veiled, ifaces, maps, wideKeys, modest, calm, conditions, laid).
  DERIVED. THE GIVEN ROWS OF THIS SEAT. 7 by the template 'for every input the law returns true; each argument reads behind the call as it read before'; 0 by the template 'total and deterministic' (their statements: YtjbhcdmeeakdcaaTotals.lean).
  GIVEN WITH THE SEED: the statements are not yours to turn. If you find one false, say at which input.
  Laid BY PROGRAM, IN A SANDBOX (cutbox-rows.mjs): the forced cells as the released guide's own fill.sh prints them over the translation 84f746c1f72d7b9f… (all of the seat's roots in one cut). By AI agents, Wed Nov 11 2026. No macro, syntax, notation, axiom, sorry.
-/
import Derived.Test.YtjbhcdmeeakdcaaChecked
import GoSem.Claim
import GoSem.ClaimJoined
import GoSem.ClaimMapViews
import Derived.JoinedTies
import Derived.KernelRfl
namespace Go.Proofs.Ytjbhcdmeeakdcaa
/- THE CELL 'sum', in the pinned program and in every row, IS THE sha256 OF THE DUMP (.gsa) THAT YtjbhcdmeeakdcaaProg.lean LOADS. Nothing in Lean hashes anything: it is a label: what it is worth is what the hold of that sum in a sandbox is worth. -/
noncomputable def Try.pinned : Pinned := { name := "ytjbhcdmeeakdcaa", sum := "84f746c1f72d7b9faa71b18ea7f52a40aa1260ef4db221941736a2ff40dd921b", checked := Try.checked }
namespace Rows
def none {H : Type} : Left H := { results := [], args := [] }

/-- 'contralaw07.WalSure': WHATEVER THE INPUT: true; the input reads as it did. -/
def walSureSpec : ChangeSpec := { name := "walSure", fn := fun _ => fun
  | [d1, d2] => { results := [.lit (.bool true)], args := [d1, d2] }
  | _ => none }
def walSureRow : OpenClaim := { program := "ytjbhcdmeeakdcaa", sum := "84f746c1f72d7b9faa71b18ea7f52a40aa1260ef4db221941736a2ff40dd921b", func := "contra/contralaw07.WalSure", spec := "walSure", apart := false }
def WalSureSaid : Prop := walSureRow.holds Try.pinned (OpenSpec.ofChange walSureSpec)

/-- ITS FALSE NEIGHBOUR: 'it returns false'. Refute it at one input. -/
def walSureWrong : ChangeSpec := { name := "walSure", fn := fun _ => fun
  | [d1, d2] => { results := [.lit (.bool false)], args := [d1, d2] }
  | _ => none }
def WalSureWrongFalsely : Prop := walSureRow.holds Try.pinned (OpenSpec.ofChange walSureWrong)

/-- 'contralaw07.WalTwice': WHATEVER THE INPUT: true; the input reads as it did. -/
def walTwiceSpec : ChangeSpec := { name := "walTwice", fn := fun _ => fun
  | [d] => { results := [.lit (.bool true)], args := [d] }
  | _ => none }
def walTwiceRow : OpenClaim := { program := "ytjbhcdmeeakdcaa", sum := "84f746c1f72d7b9faa71b18ea7f52a40aa1260ef4db221941736a2ff40dd921b", func := "contra/contralaw07.WalTwice", spec := "walTwice", apart := false }
def WalTwiceSaid : Prop := walTwiceRow.holds Try.pinned (OpenSpec.ofChange walTwiceSpec)

/-- ITS FALSE NEIGHBOUR: 'it returns false'. Refute it at one input. -/
def walTwiceWrong : ChangeSpec := { name := "walTwice", fn := fun _ => fun
  | [d] => { results := [.lit (.bool false)], args := [d] }
  | _ => none }
def WalTwiceWrongFalsely : Prop := walTwiceRow.holds Try.pinned (OpenSpec.ofChange walTwiceWrong)

/-- 'contralaw07.WalRenews': WHATEVER THE INPUT: true; the input reads as it did. -/
def walRenewsSpec : ChangeSpec := { name := "walRenews", fn := fun _ => fun
  | [d1, d2, d3] => { results := [.lit (.bool true)], args := [d1, d2, d3] }
  | _ => none }
def walRenewsRow : OpenClaim := { program := "ytjbhcdmeeakdcaa", sum := "84f746c1f72d7b9faa71b18ea7f52a40aa1260ef4db221941736a2ff40dd921b", func := "contra/contralaw07.WalRenews", spec := "walRenews", apart := false }
def WalRenewsSaid : Prop := walRenewsRow.holds Try.pinned (OpenSpec.ofChange walRenewsSpec)

/-- ITS FALSE NEIGHBOUR: 'it returns false'. Refute it at one input. -/
def walRenewsWrong : ChangeSpec := { name := "walRenews", fn := fun _ => fun
  | [d1, d2, d3] => { results := [.lit (.bool false)], args := [d1, d2, d3] }
  | _ => none }
def WalRenewsWrongFalsely : Prop := walRenewsRow.holds Try.pinned (OpenSpec.ofChange walRenewsWrong)

/-- 'contralaw07.WalFull': WHATEVER THE INPUT: true; the input reads as it did. -/
def walFullSpec : ChangeSpec := { name := "walFull", fn := fun _ => fun
  | [d1, d2] => { results := [.lit (.bool true)], args := [d1, d2] }
  | _ => none }
def walFullRow : OpenClaim := { program := "ytjbhcdmeeakdcaa", sum := "84f746c1f72d7b9faa71b18ea7f52a40aa1260ef4db221941736a2ff40dd921b", func := "contra/contralaw07.WalFull", spec := "walFull", apart := false }
def WalFullSaid : Prop := walFullRow.holds Try.pinned (OpenSpec.ofChange walFullSpec)

/-- ITS FALSE NEIGHBOUR: 'it returns false'. Refute it at one input. -/
def walFullWrong : ChangeSpec := { name := "walFull", fn := fun _ => fun
  | [d1, d2] => { results := [.lit (.bool false)], args := [d1, d2] }
  | _ => none }
def WalFullWrongFalsely : Prop := walFullRow.holds Try.pinned (OpenSpec.ofChange walFullWrong)

/-- 'contralaw07.WalRows': WHATEVER THE INPUT: true; the input reads as it did. -/
def walRowsSpec : ChangeSpec := { name := "walRows", fn := fun _ => fun
  | [d1, d2] => { results := [.lit (.bool true)], args := [d1, d2] }
  | _ => none }
def walRowsRow : OpenClaim := { program := "ytjbhcdmeeakdcaa", sum := "84f746c1f72d7b9faa71b18ea7f52a40aa1260ef4db221941736a2ff40dd921b", func := "contra/contralaw07.WalRows", spec := "walRows", apart := false }
def WalRowsSaid : Prop := walRowsRow.holds Try.pinned (OpenSpec.ofChange walRowsSpec)

/-- ITS FALSE NEIGHBOUR: 'it returns false'. Refute it at one input. -/
def walRowsWrong : ChangeSpec := { name := "walRows", fn := fun _ => fun
  | [d1, d2] => { results := [.lit (.bool false)], args := [d1, d2] }
  | _ => none }
def WalRowsWrongFalsely : Prop := walRowsRow.holds Try.pinned (OpenSpec.ofChange walRowsWrong)

/-- 'contralaw07.WalDown': WHATEVER THE INPUT: true; the input reads as it did. -/
def walDownSpec : ChangeSpec := { name := "walDown", fn := fun _ => fun
  | [d] => { results := [.lit (.bool true)], args := [d] }
  | _ => none }
def walDownRow : OpenClaim := { program := "ytjbhcdmeeakdcaa", sum := "84f746c1f72d7b9faa71b18ea7f52a40aa1260ef4db221941736a2ff40dd921b", func := "contra/contralaw07.WalDown", spec := "walDown", apart := false }
def WalDownSaid : Prop := walDownRow.holds Try.pinned (OpenSpec.ofChange walDownSpec)

/-- ITS FALSE NEIGHBOUR: 'it returns false'. Refute it at one input. -/
def walDownWrong : ChangeSpec := { name := "walDown", fn := fun _ => fun
  | [d] => { results := [.lit (.bool false)], args := [d] }
  | _ => none }
def WalDownWrongFalsely : Prop := walDownRow.holds Try.pinned (OpenSpec.ofChange walDownWrong)

/-- 'contratop.WholeTorn': WHATEVER THE INPUT: true; the input reads as it did. -/
def wholeTornSpec : ChangeSpec := { name := "wholeTorn", fn := fun _ => fun
  | [d1, d2, d3] => { results := [.lit (.bool true)], args := [d1, d2, d3] }
  | _ => none }
def wholeTornRow : OpenClaim := { program := "ytjbhcdmeeakdcaa", sum := "84f746c1f72d7b9faa71b18ea7f52a40aa1260ef4db221941736a2ff40dd921b", func := "contra/contratop.WholeTorn", spec := "wholeTorn", apart := false }
def WholeTornSaid : Prop := wholeTornRow.holds Try.pinned (OpenSpec.ofChange wholeTornSpec)

/-- ITS FALSE NEIGHBOUR: 'it returns false'. Refute it at one input. -/
def wholeTornWrong : ChangeSpec := { name := "wholeTorn", fn := fun _ => fun
  | [d1, d2, d3] => { results := [.lit (.bool false)], args := [d1, d2, d3] }
  | _ => none }
def WholeTornWrongFalsely : Prop := wholeTornRow.holds Try.pinned (OpenSpec.ofChange wholeTornWrong)

/- THE SECOND FORM. 'bulk': how many values and letters a reading holds, each counted each time it is reached (what is shared counts as often as it is met; a slice's spare places count too). A statement '..UptoSaid' is the law's where the arguments, and the package variables that the reading takes, are together of bulk at most 1048576: NARROWER than '..Said'. Prove '..Said' where nothing that the law and all that it calls make is longer than what came in: it says more and counts as full. Else prove '..UptoSaid'. A law counts once. -/
mutual
def uptoBulk {H : Type} : DataW H → Nat
  | .lit (.string bytes) => bytes.length + 1
  | .lit _ => 1
  | .nil => 1
  | .ptr d => uptoBulk d + 1
  | .slice elems spare => uptoBulkAll elems + uptoBulkAll spare + 1
  | .agg parts => uptoBulkAll parts + 1
  | .iface _ d => uptoBulk d + 1
  | .map entries => uptoBulkEntries entries + 1
  | .held _ => 1
def uptoBulkAll {H : Type} : List (DataW H) → Nat
  | [] => 0
  | d :: r => uptoBulk d + uptoBulkAll r
def uptoBulkEntries {H : Type} : List (Lit × DataW H) → Nat
  | [] => 0
  | x :: r => uptoBulkEntry x + uptoBulkEntries r
def uptoBulkEntry {H : Type} : Lit × DataW H → Nat
  | (.string bytes, d) => bytes.length + uptoBulk d + 1
  | (_, d) => uptoBulk d + 1
 end
def uptoSmall : (H : Type) → List (DataW H) → Bool := fun _ ds => decide (uptoBulkAll ds ≤ 1048576)
def OpenSpec.upto (s : _root_.Go.ChangeSpec) : _root_.Go.OpenSpec := { _root_.Go.OpenSpec.ofChange s with cond := some uptoSmall }

/-- 'contralaw07.WalSure', WHERE WHAT IT READS IS OF BULK AT MOST 1048576: true; the input reads as it did. -/
def walSureUptoRow : OpenClaim := { program := "ytjbhcdmeeakdcaa", sum := "84f746c1f72d7b9faa71b18ea7f52a40aa1260ef4db221941736a2ff40dd921b", func := "contra/contralaw07.WalSure", spec := "walSure", apart := false, narrowed := true }
def WalSureUptoSaid : Prop := walSureUptoRow.holds Try.pinned (OpenSpec.upto walSureSpec)

/-- 'contralaw07.WalTwice', WHERE WHAT IT READS IS OF BULK AT MOST 1048576: true; the input reads as it did. -/
def walTwiceUptoRow : OpenClaim := { program := "ytjbhcdmeeakdcaa", sum := "84f746c1f72d7b9faa71b18ea7f52a40aa1260ef4db221941736a2ff40dd921b", func := "contra/contralaw07.WalTwice", spec := "walTwice", apart := false, narrowed := true }
def WalTwiceUptoSaid : Prop := walTwiceUptoRow.holds Try.pinned (OpenSpec.upto walTwiceSpec)

/-- 'contralaw07.WalRenews', WHERE WHAT IT READS IS OF BULK AT MOST 1048576: true; the input reads as it did. -/
def walRenewsUptoRow : OpenClaim := { program := "ytjbhcdmeeakdcaa", sum := "84f746c1f72d7b9faa71b18ea7f52a40aa1260ef4db221941736a2ff40dd921b", func := "contra/contralaw07.WalRenews", spec := "walRenews", apart := false, narrowed := true }
def WalRenewsUptoSaid : Prop := walRenewsUptoRow.holds Try.pinned (OpenSpec.upto walRenewsSpec)

/-- 'contralaw07.WalFull', WHERE WHAT IT READS IS OF BULK AT MOST 1048576: true; the input reads as it did. -/
def walFullUptoRow : OpenClaim := { program := "ytjbhcdmeeakdcaa", sum := "84f746c1f72d7b9faa71b18ea7f52a40aa1260ef4db221941736a2ff40dd921b", func := "contra/contralaw07.WalFull", spec := "walFull", apart := false, narrowed := true }
def WalFullUptoSaid : Prop := walFullUptoRow.holds Try.pinned (OpenSpec.upto walFullSpec)

/-- 'contralaw07.WalRows', WHERE WHAT IT READS IS OF BULK AT MOST 1048576: true; the input reads as it did. -/
def walRowsUptoRow : OpenClaim := { program := "ytjbhcdmeeakdcaa", sum := "84f746c1f72d7b9faa71b18ea7f52a40aa1260ef4db221941736a2ff40dd921b", func := "contra/contralaw07.WalRows", spec := "walRows", apart := false, narrowed := true }
def WalRowsUptoSaid : Prop := walRowsUptoRow.holds Try.pinned (OpenSpec.upto walRowsSpec)

/-- 'contralaw07.WalDown', WHERE WHAT IT READS IS OF BULK AT MOST 1048576: true; the input reads as it did. -/
def walDownUptoRow : OpenClaim := { program := "ytjbhcdmeeakdcaa", sum := "84f746c1f72d7b9faa71b18ea7f52a40aa1260ef4db221941736a2ff40dd921b", func := "contra/contralaw07.WalDown", spec := "walDown", apart := false, narrowed := true }
def WalDownUptoSaid : Prop := walDownUptoRow.holds Try.pinned (OpenSpec.upto walDownSpec)

/-- 'contratop.WholeTorn', WHERE WHAT IT READS IS OF BULK AT MOST 1048576: true; the input reads as it did. -/
def wholeTornUptoRow : OpenClaim := { program := "ytjbhcdmeeakdcaa", sum := "84f746c1f72d7b9faa71b18ea7f52a40aa1260ef4db221941736a2ff40dd921b", func := "contra/contratop.WholeTorn", spec := "wholeTorn", apart := false, narrowed := true }
def WholeTornUptoSaid : Prop := wholeTornUptoRow.holds Try.pinned (OpenSpec.upto wholeTornSpec)

end Rows
end Go.Proofs.Ytjbhcdmeeakdcaa
