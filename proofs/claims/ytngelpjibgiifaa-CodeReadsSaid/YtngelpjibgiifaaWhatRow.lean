/- A slice of structs of three whole numbers. -/
import Derived.Test.YtngelpjibgiifaaApp
namespace Go.Proofs.Ytngelpjibgiifaa
open Go.RowKit
/-- A slice of structs of three whole numbers. -/
def WhatRow (w : World) (v : Value) (n : Nat) (f : Nat → Nat → Int) : Prop :=
  ∃ p c, v = .slice p n c ∧ n ≤ c ∧ (n = 0 ∨ ∃ b o, p = some ⟨b, o, none⟩ ∧ ∀ i t, i < n → t < 3 → w.cell? ⟨b, o + i * 3 + t, none⟩ = some (.int .i64 (f i t)))
end Go.Proofs.Ytngelpjibgiifaa
