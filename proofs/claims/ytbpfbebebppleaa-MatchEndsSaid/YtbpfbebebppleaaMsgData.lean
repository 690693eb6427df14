/- A message as a value. -/
import Derived.Test.YtbpfbebebppleaaTRow
namespace Go.Proofs.Ytbpfbebebppleaa
open Go.RowKit
/-- A line: seller, number, buyer, amount. -/
structure Lin where
  s : Int
  n : Int
  b : Int
  a : Int
def Lin.cells (x : Lin) : List Value := [.int .i64 x.s, .int .i64 x.n, .int .i64 x.b, .int .i64 x.a]
def encN : Enc Lin := ⟨4, Lin.cells, by decide, fun _ => rfl, by intro x u hu; simp [Lin.cells] at hu; rcases hu with rfl | rfl | rfl | rfl <;> rfl⟩
def I64 (z : Int) : Prop := -9223372036854775808 ≤ z ∧ z ≤ 9223372036854775807
def Lin.Fit (x : Lin) : Prop := I64 x.s ∧ I64 x.n ∧ I64 x.b ∧ I64 x.a
structure Msg where
  k : Int
  s : Int
  n : Int
  b : Int
  c : Int
  r : Int
  y : Int
  a : Int
  t : Bool
  ls : List Lin
  ns : List Int
def Msg.cells (m : Msg) (vl vn : Value) : List Value := [.int .i64 m.k, .int .i64 m.s, .int .i64 m.n, .int .i64 m.b, .int .i64 m.c, .int .i64 m.r, .int .i64 m.y, .int .i64 m.a, .bool m.t, vl, vn]
def Msg.v (m : Msg) (vl vn : Value) : Value := .agg #[.int .i64 m.k, .int .i64 m.s, .int .i64 m.n, .int .i64 m.b, .int .i64 m.c, .int .i64 m.r, .int .i64 m.y, .int .i64 m.a, .bool m.t, vl, vn]
def Msg.Fit (m : Msg) : Prop := (I64 m.k ∧ I64 m.s ∧ I64 m.n ∧ I64 m.b ∧ I64 m.c ∧ I64 m.r ∧ I64 m.y ∧ I64 m.a) ∧ (∀ x ∈ m.ls, x.Fit) ∧ (∀ z ∈ m.ns, I64 z)
end Go.Proofs.Ytbpfbebebppleaa
