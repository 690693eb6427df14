/- From what a reading tells of a slice of structs of three whole numbers to a row. -/
import Derived.Test.YtngelpjibgiifaaWhatRow
import Derived.ProofKit
import Derived.OpenShut
import Derived.Deep.SlicePairs
namespace Go.Proofs.Ytngelpjibgiifaa
open Go.ChangeShapes Go.WideShapes Go.ChangeAt Go.RowKit
theorem what_of_open {H : Type} {enc : TypeId × Value → H} {P : Program} {w : World} {base : Nat} {spare : Nat → Bool} {held : Bool} {t e : TypeId} {f0 f1 f2 : Field} {fuel : Nat} {a : Option Addr} {len cap : Nat} {x : DataW H × List MemPlace}
    (ht : P.underlying t = some (.slice e)) (he : P.underlying e = some (.struct #[f0, f1, f2])) (ce : P.cellsOf e = 3) (o0 : f0.offset = 0) (o1 : f1.offset = 1) (o2 : f2.offset = 2)
    (u0 : P.underlying f0.type = some (.int .i64)) (u1 : P.underlying f1.type = some (.int .i64)) (u2 : P.underlying f2.type = some (.int .i64)) (cc : P.cellsOf f0.type = 1 ∧ P.cellsOf f1.type = 1 ∧ P.cellsOf f2.type = 1)
    (h : DataW.trod enc P w base spare held fuel t (Value.slice a len cap).cells.toList = some x) : ∃ f, WhatRow w (.slice a len cap) len f := by
  obtain ⟨c0, c1, c2⟩ := cc
  have h' : DataW.trod enc P w base spare held fuel t [.slice a len cap] = some x := by simpa [Value.cells] using h
  rcases Go.Deep.open_slice ht h' with ⟨hcs, _⟩ | ⟨a', len', cap', m, n, D, Pl, hcs, hb, hl, hm, hmm, rfl, hx⟩
  · simp at hcs
    obtain ⟨rfl, rfl, rfl⟩ := hcs
    exact ⟨fun _ _ => 0, none, 0, rfl, Nat.le_refl _, .inl rfl⟩
  · simp at hcs
    obtain ⟨rfl, rfl, rfl⟩ := hcs
    have hlm : len ≤ m := by rw [hmm]; split <;> omega
    have each : ∀ i, i < m → ∃ y : Int × Int × Int, w.cell? (a'.add (i * 3)) = some (.int .i64 y.1) ∧ w.cell? (a'.add (i * 3 + 1)) = some (.int .i64 y.2.1) ∧ w.cell? (a'.add (i * 3 + 2)) = some (.int .i64 y.2.2) := by
      intro i hi
      obtain ⟨cs', h1, h2⟩ := hx i hi
      rw [ce] at h1
      obtain ⟨_, hlen, hcell⟩ := World.cells?_some h1
      obtain ⟨xs, k, hk, hxy, _, hxl, hf⟩ := DataW.trod_struct he h2
      match xs, hxl, cs', hlen with
      | [y0, y1, y2], _, [v0, v1, v2], _ =>
        have g0 := hf 0 f0 rfl
        have g1 := hf 1 f1 rfl
        have g2 := hf 2 f2 rfl
        simp [o0, o1, o2, c0, c1, c2] at g0 g1 g2
        obtain ⟨z0, q0, _⟩ := DataW.trod_int u0 g0
        obtain ⟨z1, q1, _⟩ := DataW.trod_int u1 g1
        obtain ⟨z2, q2, _⟩ := DataW.trod_int u2 g2
        simp at q0 q1 q2
        subst q0 q1 q2
        have e0 := hcell 0 (by omega)
        have e1 := hcell 1 (by omega)
        have e2 := hcell 2 (by omega)
        rw [Go.Deep.add_add] at e0 e1 e2
        exact ⟨(z0, z1, z2), by simpa using e0, by simpa using e1, by simpa using e2⟩
    obtain ⟨q, hq⟩ := Go.Deep.choose_lt each
    refine ⟨fun i t => if t = 0 then (q i).1 else if t = 1 then (q i).2.1 else (q i).2.2, some a', cap, rfl, hl, ?_⟩
    by_cases h0 : len = 0
    · exact .inl h0
    · right
      obtain ⟨b, off, spot⟩ := a'
      have hspot : spot = none := by simpa [Addr.add] using World.cell?_spot (hq 0 (by omega)).1
      subst hspot
      refine ⟨b, off, rfl, fun i t hi ht => ?_⟩
      obtain ⟨r0, r1, r2⟩ := hq i (by omega)
      rw [addAt] at r0 r1 r2
      match t, ht with
      | 0, _ => simpa using r0
      | 1, _ => simpa [Nat.add_assoc] using r1
      | 2, _ => simpa [Nat.add_assoc] using r2
end Go.Proofs.Ytngelpjibgiifaa
