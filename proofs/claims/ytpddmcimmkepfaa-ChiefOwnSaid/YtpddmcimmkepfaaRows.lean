/-
  No cell of these rows narrows 'for every input' (looked for: loops, veiled, ifaces, maps, wideKeys, modest, calm, conditions, laid).
  DERIVED. THE GIVEN ROWS OF THIS SEAT. 5 by the template 'for every input the law returns true; each argument reads behind the call as it read before'; 0 by the template 'total and deterministic' (their statements: YtpddmcimmkepfaaTotals.lean).
  GIVEN WITH THE SEED: the statements are not yours to turn. If you find one false, say at which input.
  Laid BY PROGRAM, IN A SANDBOX (cutbox-rows.mjs): the forced cells as the released guide's own fill.sh prints them over the translation 5b9827bed83d38d3… (all of the seat's roots in one cut). By AI agents, Wed Nov 11 2026. No macro, syntax, notation, axiom, sorry.
-/
import Derived.Test.YtpddmcimmkepfaaChecked
import GoSem.Claim
import GoSem.ClaimJoined
import GoSem.ClaimMapViews
import Derived.JoinedTies
import Derived.KernelRfl
namespace Go.Proofs.Ytpddmcimmkepfaa
/- THE CELL 'sum', in the pinned program and in every row, IS THE sha256 OF THE DUMP (.gsa) THAT YtpddmcimmkepfaaProg.lean LOADS. Nothing in Lean hashes anything: it is a label: what it is worth is what the hold of that sum in a sandbox is worth. -/
noncomputable def Try.pinned : Pinned := { name := "ytpddmcimmkepfaa", sum := "5b9827bed83d38d3f271912ba7de0ede4908ef158579ea142c259b82db61188e", checked := Try.checked }
namespace Rows
def none {H : Type} : Left H := { results := [], args := [] }

/-- 'contralaw18.ChiefPlays': WHATEVER THE INPUT: true; the input reads as it did. -/
def chiefPlaysSpec : ChangeSpec := { name := "chiefPlays", fn := fun _ => fun
  | [d1, d2] => { results := [.lit (.bool true)], args := [d1, d2] }
  | _ => none }
def chiefPlaysRow : OpenClaim := { program := "ytpddmcimmkepfaa", sum := "5b9827bed83d38d3f271912ba7de0ede4908ef158579ea142c259b82db61188e", func := "contra/contralaw18.ChiefPlays", spec := "chiefPlays", inPlace := ["math/bits.Add64"], unfollowed := true, recurses := true, apart := false }
def ChiefPlaysSaid : Prop := chiefPlaysRow.holds Try.pinned (OpenSpec.ofChange chiefPlaysSpec)

/-- ITS FALSE NEIGHBOUR: 'it returns false'. Refute it at one input. -/
def chiefPlaysWrong : ChangeSpec := { name := "chiefPlays", fn := fun _ => fun
  | [d1, d2] => { results := [.lit (.bool false)], args := [d1, d2] }
  | _ => none }
def ChiefPlaysWrongFalsely : Prop := chiefPlaysRow.holds Try.pinned (OpenSpec.ofChange chiefPlaysWrong)

/-- 'contralaw18.ChiefOne': WHATEVER THE INPUT: true; the input reads as it did. -/
def chiefOneSpec : ChangeSpec := { name := "chiefOne", fn := fun _ => fun
  | [d] => { results := [.lit (.bool true)], args := [d] }
  | _ => none }
def chiefOneRow : OpenClaim := { program := "ytpddmcimmkepfaa", sum := "5b9827bed83d38d3f271912ba7de0ede4908ef158579ea142c259b82db61188e", func := "contra/contralaw18.ChiefOne", spec := "chiefOne", inPlace := ["math/bits.Add64"], unfollowed := true, recurses := true, apart := false }
def ChiefOneSaid : Prop := chiefOneRow.holds Try.pinned (OpenSpec.ofChange chiefOneSpec)

/-- ITS FALSE NEIGHBOUR: 'it returns false'. Refute it at one input. -/
def chiefOneWrong : ChangeSpec := { name := "chiefOne", fn := fun _ => fun
  | [d] => { results := [.lit (.bool false)], args := [d] }
  | _ => none }
def ChiefOneWrongFalsely : Prop := chiefOneRow.holds Try.pinned (OpenSpec.ofChange chiefOneWrong)

/-- 'contralaw18.ChiefOwn': WHATEVER THE INPUT: true; the input reads as it did. -/
def chiefOwnSpec : ChangeSpec := { name := "chiefOwn", fn := fun _ => fun
  | [d1, d2] => { results := [.lit (.bool true)], args := [d1, d2] }
  | _ => none }
def chiefOwnRow : OpenClaim := { program := "ytpddmcimmkepfaa", sum := "5b9827bed83d38d3f271912ba7de0ede4908ef158579ea142c259b82db61188e", func := "contra/contralaw18.ChiefOwn", spec := "chiefOwn", inPlace := ["math/bits.Add64"], unfollowed := true, recurses := true, apart := false }
def ChiefOwnSaid : Prop := chiefOwnRow.holds Try.pinned (OpenSpec.ofChange chiefOwnSpec)

/-- ITS FALSE NEIGHBOUR: 'it returns false'. Refute it at one input. -/
def chiefOwnWrong : ChangeSpec := { name := "chiefOwn", fn := fun _ => fun
  | [d1, d2] => { results := [.lit (.bool false)], args := [d1, d2] }
  | _ => none }
def ChiefOwnWrongFalsely : Prop := chiefOwnRow.holds Try.pinned (OpenSpec.ofChange chiefOwnWrong)

/-- 'contralaw18.ChiefLate': WHATEVER THE INPUT: true; the input reads as it did. -/
def chiefLateSpec : ChangeSpec := { name := "chiefLate", fn := fun _ => fun
  | [d1, d2, d3] => { results := [.lit (.bool true)], args := [d1, d2, d3] }
  | _ => none }
def chiefLateRow : OpenClaim := { program := "ytpddmcimmkepfaa", sum := "5b9827bed83d38d3f271912ba7de0ede4908ef158579ea142c259b82db61188e", func := "contra/contralaw18.ChiefLate", spec := "chiefLate", inPlace := ["math/bits.Add64"], unfollowed := true, recurses := true, apart := false }
def ChiefLateSaid : Prop := chiefLateRow.holds Try.pinned (OpenSpec.ofChange chiefLateSpec)

/-- ITS FALSE NEIGHBOUR: 'it returns false'. Refute it at one input. -/
def chiefLateWrong : ChangeSpec := { name := "chiefLate", fn := fun _ => fun
  | [d1, d2, d3] => { results := [.lit (.bool false)], args := [d1, d2, d3] }
  | _ => none }
def ChiefLateWrongFalsely : Prop := chiefLateRow.holds Try.pinned (OpenSpec.ofChange chiefLateWrong)

/-- 'contralaw18.ChiefOpen': WHATEVER THE INPUT: true; the input reads as it did. -/
def chiefOpenSpec : ChangeSpec := { name := "chiefOpen", fn := fun _ => fun
  | [d] => { results := [.lit (.bool true)], args := [d] }
  | _ => none }
def chiefOpenRow : OpenClaim := { program := "ytpddmcimmkepfaa", sum := "5b9827bed83d38d3f271912ba7de0ede4908ef158579ea142c259b82db61188e", func := "contra/contralaw18.ChiefOpen", spec := "chiefOpen", inPlace := ["math/bits.Add64"], unfollowed := true, recurses := true, apart := false }
def ChiefOpenSaid : Prop := chiefOpenRow.holds Try.pinned (OpenSpec.ofChange chiefOpenSpec)

/-- ITS FALSE NEIGHBOUR: 'it returns false'. Refute it at one input. -/
def chiefOpenWrong : ChangeSpec := { name := "chiefOpen", fn := fun _ => fun
  | [d] => { results := [.lit (.bool false)], args := [d] }
  | _ => none }
def ChiefOpenWrongFalsely : Prop := chiefOpenRow.holds Try.pinned (OpenSpec.ofChange chiefOpenWrong)

/- THE SECOND FORM. 'bulk': how many values and letters a reading holds, each counted each time it is reached (what is shared counts as often as it is met; a slice's spare places count too). A statement '..UptoSaid' is the law's where the arguments, and the package variables that the reading takes, are together of bulk at most 1048576: NARROWER than '..Said'. Prove '..Said' where nothing that the law and all that it calls make is longer than what came in: it says more and counts as full. Else prove '..UptoSaid'. A law counts once. -/
mutual
def uptoBulk {H : Type} : DataW H → Nat
  | .lit (.string bytes) => bytes.length + 1
  | .lit _ => 1
  | .nil => 1
  | .ptr d => uptoBulk d + 1
  | .slice elems spare => uptoBulkAll elems + uptoBulkAll spare + 1
  | .agg parts => uptoBulkAll parts + 1
  | .iface _ d => uptoBulk d + 1
  | .map entries => uptoBulkEntries entries + 1
  | .held _ => 1
def uptoBulkAll {H : Type} : List (DataW H) → Nat
  | [] => 0
  | d :: r => uptoBulk d + uptoBulkAll r
def uptoBulkEntries {H : Type} : List (Lit × DataW H) → Nat
  | [] => 0
  | x :: r => uptoBulkEntry x + uptoBulkEntries r
def uptoBulkEntry {H : Type} : Lit × DataW H → Nat
  | (.string bytes, d) => bytes.length + uptoBulk d + 1
  | (_, d) => uptoBulk d + 1
 end
def uptoSmall : (H : Type) → List (DataW H) → Bool := fun _ ds => decide (uptoBulkAll ds ≤ 1048576)
def OpenSpec.upto (s : _root_.Go.ChangeSpec) : _root_.Go.OpenSpec := { _root_.Go.OpenSpec.ofChange s with cond := some uptoSmall }

/-- 'contralaw18.ChiefPlays', WHERE WHAT IT READS IS OF BULK AT MOST 1048576: true; the input reads as it did. -/
def chiefPlaysUptoRow : OpenClaim := { program := "ytpddmcimmkepfaa", sum := "5b9827bed83d38d3f271912ba7de0ede4908ef158579ea142c259b82db61188e", func := "contra/contralaw18.ChiefPlays", spec := "chiefPlays", inPlace := ["math/bits.Add64"], unfollowed := true, recurses := true, apart := false, narrowed := true }
def ChiefPlaysUptoSaid : Prop := chiefPlaysUptoRow.holds Try.pinned (OpenSpec.upto chiefPlaysSpec)

/-- 'contralaw18.ChiefOne', WHERE WHAT IT READS IS OF BULK AT MOST 1048576: true; the input reads as it did. -/
def chiefOneUptoRow : OpenClaim := { program := "ytpddmcimmkepfaa", sum := "5b9827bed83d38d3f271912ba7de0ede4908ef158579ea142c259b82db61188e", func := "contra/contralaw18.ChiefOne", spec := "chiefOne", inPlace := ["math/bits.Add64"], unfollowed := true, recurses := true, apart := false, narrowed := true }
def ChiefOneUptoSaid : Prop := chiefOneUptoRow.holds Try.pinned (OpenSpec.upto chiefOneSpec)

/-- 'contralaw18.ChiefOwn', WHERE WHAT IT READS IS OF BULK AT MOST 1048576: true; the input reads as it did. -/
def chiefOwnUptoRow : OpenClaim := { program := "ytpddmcimmkepfaa", sum := "5b9827bed83d38d3f271912ba7de0ede4908ef158579ea142c259b82db61188e", func := "contra/contralaw18.ChiefOwn", spec := "chiefOwn", inPlace := ["math/bits.Add64"], unfollowed := true, recurses := true, apart := false, narrowed := true }
def ChiefOwnUptoSaid : Prop := chiefOwnUptoRow.holds Try.pinned (OpenSpec.upto chiefOwnSpec)

/-- 'contralaw18.ChiefLate', WHERE WHAT IT READS IS OF BULK AT MOST 1048576: true; the input reads as it did. -/
def chiefLateUptoRow : OpenClaim := { program := "ytpddmcimmkepfaa", sum := "5b9827bed83d38d3f271912ba7de0ede4908ef158579ea142c259b82db61188e", func := "contra/contralaw18.ChiefLate", spec := "chiefLate", inPlace := ["math/bits.Add64"], unfollowed := true, recurses := true, apart := false, narrowed := true }
def ChiefLateUptoSaid : Prop := chiefLateUptoRow.holds Try.pinned (OpenSpec.upto chiefLateSpec)

/-- 'contralaw18.ChiefOpen', WHERE WHAT IT READS IS OF BULK AT MOST 1048576: true; the input reads as it did. -/
def chiefOpenUptoRow : OpenClaim := { program := "ytpddmcimmkepfaa", sum := "5b9827bed83d38d3f271912ba7de0ede4908ef158579ea142c259b82db61188e", func := "contra/contralaw18.ChiefOpen", spec := "chiefOpen", inPlace := ["math/bits.Add64"], unfollowed := true, recurses := true, apart := false, narrowed := true }
def ChiefOpenUptoSaid : Prop := chiefOpenUptoRow.holds Try.pinned (OpenSpec.upto chiefOpenSpec)

end Rows
end Go.Proofs.Ytpddmcimmkepfaa
