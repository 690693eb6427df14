/- An item as numbers: whether it can be, what each act does to it, how far it has come. -/
import Derived.Test.YtbpfbebebppleaaRow
namespace Go.Proofs.Ytbpfbebebppleaa
open Go.RowKit
def F64 (z : Int) : Prop := -9223372036854775808 ≤ z ∧ z ≤ 9223372036854775807
structure Itm where
  s : Int
  n : Int
  b : Int
  c : Int
  a : Int
  r : Int
  t : Int
  y : Int
deriving DecidableEq
def Itm.v (x : Itm) : Value := .agg #[.int .i64 x.s, .int .i64 x.n, .int .i64 x.b, .int .i64 x.c, .int .i64 x.a, .int .i64 x.r, .int .i64 x.t, .int .i64 x.y]
def Itm.Fit (x : Itm) : Prop := F64 x.s ∧ F64 x.n ∧ F64 x.b ∧ F64 x.c ∧ F64 x.a ∧ F64 x.r ∧ F64 x.t ∧ F64 x.y
def partsOk (x : Itm) : Prop := (0 ≤ x.s ∧ x.s ≤ 7) ∧ (0 ≤ x.b ∧ x.b ≤ 7) ∧ x.s ≠ x.b
def numsOk (x : Itm) : Prop := (1 ≤ x.n ∧ x.n ≤ 1048576) ∧ (0 ≤ x.c ∧ x.c ≤ 7) ∧ (1 ≤ x.a ∧ x.a ≤ 1125899906842624) ∧ (0 ≤ x.r ∧ x.r ≤ 3) ∧ (1 ≤ x.t ∧ x.t ≤ 5) ∧ (0 ≤ x.y ∧ x.y ≤ 1048576)
def cycBad (x : Itm) : Prop := (x.y ≠ 0 ∧ x.t ≠ 3 ∧ x.t ≠ 5) ∨ (x.y = 0 ∧ x.t = 5)
instance (x : Itm) : Decidable (partsOk x) := by unfold partsOk; infer_instance
instance (x : Itm) : Decidable (numsOk x) := by unfold numsOk; infer_instance
instance (x : Itm) : Decidable (cycBad x) := by unfold cycBad; infer_instance
def chkI (x : Itm) : Int := if partsOk x ∧ numsOk x then (if cycBad x then 90 else 0) else 1
def turnI (x : Itm) (f t : Int) : Itm × Int := if x.t = f then ({ x with t := t }, 0) else (x, 90)
def adjI (x : Itm) (n : Int) : Itm × Int :=
  if x.t = 2 then (if 1 ≤ n ∧ n ≤ 1125899906842624 then (if x.r = 3 then (x, 91) else ({ x with t := 1, r := x.r + 1, a := n }, 0)) else (x, 1)) else (x, 90)
def lockI (x : Itm) (n : Int) : Itm × Int :=
  if x.t = 3 ∧ x.y = 0 then (if 1 ≤ n ∧ n ≤ 1048576 then ({ x with y := n }, 0) else (x, 1)) else (x, 90)
def freeI (x : Itm) : Itm × Int := if x.t = 3 ∧ x.y ≠ 0 then ({ x with y := 0 }, 0) else (x, 90)
def settleI (x : Itm) : Itm × Int := if x.t = 3 ∧ x.y ≠ 0 then ({ x with t := 5 }, 0) else (x, 90)
def actI (x : Itm) (k n : Int) : Itm × Int :=
  if k = 1 then turnI x 1 2 else if k = 2 then turnI x 1 3 else if k = 3 then turnI x 2 4 else if k = 4 then adjI x n
  else if k = 5 then lockI x n else if k = 6 then freeI x else if k = 7 then settleI x else (x, 0)
def rankI (x : Itm) : Int :=
  if x.t = 1 then 2 * x.r else if x.t = 2 then 2 * x.r + 1 else if x.t = 3 ∨ x.t = 4 then 8 else if x.t = 5 then 9 else -1
theorem chk_ok {x : Itm} (h : chkI x = 0) : partsOk x ∧ numsOk x ∧ ¬ cycBad x := by
  unfold chkI at h
  split at h
  · rename_i h1
    split at h
    · cases h
    · exact ⟨h1.1, h1.2, ‹_›⟩
  · cases h
theorem ok_chk {x : Itm} (h1 : partsOk x) (h2 : numsOk x) (h3 : ¬ cycBad x) : chkI x = 0 := by
  unfold chkI
  rw [if_pos ⟨h1, h2⟩, if_neg h3]
theorem act_ok {x : Itm} (k n : Int) (h : chkI x = 0) : chkI (actI x k n).1 = 0 := by
  have h' := h
  obtain ⟨h1, h2, h3⟩ := chk_ok h
  unfold actI turnI adjI lockI freeI settleI
  repeat' split
  all_goals first | exact h' | (refine ok_chk ?_ ?_ ?_ <;> (unfold partsOk numsOk cycBad at *; dsimp only at *; omega))
theorem act_fit {x : Itm} (k n : Int) (h : chkI x = 0) : (actI x k n).1.Fit := by
  obtain ⟨h1, h2, _⟩ := chk_ok (act_ok k n h)
  unfold partsOk at h1
  unfold numsOk at h2
  unfold Itm.Fit F64
  omega
end Go.Proofs.Ytbpfbebebppleaa
