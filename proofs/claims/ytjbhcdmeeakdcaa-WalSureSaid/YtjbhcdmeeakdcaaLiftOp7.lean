/- From what a reading tells of a slice of a log law's operations to a row. -/
import Derived.Test.YtjbhcdmeeakdcaaOp7
import Derived.Test.YtjbhcdmeeakdcaaLiftA2
import Derived.Test.YtjbhcdmeeakdcaaLiftSS
import Derived.Deep.SlicePairs
namespace Go.Proofs.Ytjbhcdmeeakdcaa
open Go.ChangeShapes Go.WideShapes Go.ChangeAt Go.RowKit
theorem ss_of_read {H : Type} {enc : TypeId × Value → H} {P : Program} {w : World} {base : Nat} {held : Bool} {t e q : TypeId} {fuel : Nat} {v : Value} {x : DataW H × List MemPlace}
    (ht : P.underlying t = some (.slice e)) (he : P.underlying e = some (.slice q)) (hq : P.underlying q = some (.int .u8)) (ce : P.cellsOf e = 1) (cq : P.cellsOf q = 1)
    (h : DataW.trod enc P w base (fun _ => true) held fuel t [v] = some x) : ∃ dss, (∀ d ∈ dss, Oct d) ∧ RowSS w v dss := by
  have hv : ∃ a n c, v = .slice a n c := by
    rcases Go.Deep.open_int_rows ht he hq ce cq h with ⟨hcs, _⟩ | ⟨a', len', cap', A, L, C, Z, hcs, _⟩
    · simp at hcs
      exact ⟨_, _, _, hcs⟩
    · simp at hcs
      exact ⟨_, _, _, hcs⟩
  obtain ⟨a, n, c, rfl⟩ := hv
  exact ss_of_open (a := a) (len := n) (cap := c) ht he hq ce cq (by simpa [Value.cells] using h)
theorem op7_of_open {H : Type} {enc : TypeId × Value → H} {P : Program} {w : World} {base : Nat} {held : Bool} {t e q p2 q2 : TypeId} {f0 f1 f2 f3 f4 : Field} {fuel : Nat} {a : Option Addr} {len cap : Nat} {x : DataW H × List MemPlace}
    (ht : P.underlying t = some (.slice e)) (he : P.underlying e = some (.struct #[f0, f1, f2, f3, f4])) (ce : P.cellsOf e = 5) (o0 : f0.offset = 0) (o1 : f1.offset = 1) (o2 : f2.offset = 2) (o3 : f3.offset = 3) (o4 : f4.offset = 4)
    (u0 : P.underlying f0.type = some (.int .i64)) (u1 : P.underlying f1.type = some (.int .i64)) (u2 : P.underlying f2.type = some (.slice q)) (uq : P.underlying q = some (.int .u8)) (cq : P.cellsOf q = 1) (u3 : P.underlying f3.type = some (.slice p2)) (up : P.underlying p2 = some (.slice q2)) (uq2 : P.underlying q2 = some (.int .u8)) (cp2 : P.cellsOf p2 = 1) (cq2 : P.cellsOf q2 = 1) (u4 : P.underlying f4.type = some (.int .u8))
    (cc : P.cellsOf f0.type = 1 ∧ P.cellsOf f1.type = 1 ∧ P.cellsOf f2.type = 1 ∧ P.cellsOf f3.type = 1 ∧ P.cellsOf f4.type = 1)
    (h : DataW.trod enc P w base (fun _ => true) held fuel t (Value.slice a len cap).cells.toList = some x) : ∃ f, OpRowW w (.slice a len cap) len f := by
  obtain ⟨c0, c1, c2, c3, c4⟩ := cc
  have h' : DataW.trod enc P w base (fun _ => true) held fuel t [.slice a len cap] = some x := by simpa [Value.cells] using h
  rcases Go.Deep.open_slice ht h' with ⟨hcs, _⟩ | ⟨a', len', cap', m, n, D, Pl, hcs, hb, hl, hm, hmm, rfl, hx⟩
  · simp at hcs
    obtain ⟨rfl, rfl, rfl⟩ := hcs
    exact ⟨fun _ => ⟨0, 0, [], [], 0⟩, none, 0, rfl, Nat.le_refl _, .inl rfl⟩
  · simp at hcs
    obtain ⟨rfl, rfl, rfl⟩ := hcs
    have hlm : len ≤ m := by rw [hmm]; split <;> omega
    have each : ∀ i, i < m → ∃ y : Int × Int × List Int × List (List Int) × Int, (OpW.Fit ⟨y.1, y.2.1, y.2.2.1, y.2.2.2.1, y.2.2.2.2⟩) ∧ w.cell? (a'.add (i * 5)) = some (.int .i64 y.1) ∧ w.cell? (a'.add (i * 5 + 1)) = some (.int .i64 y.2.1) ∧ (∃ dv, w.cell? (a'.add (i * 5 + 2)) = some dv ∧ Row .u8 w dv y.2.2.1) ∧ (∃ lv, w.cell? (a'.add (i * 5 + 3)) = some lv ∧ RowSS w lv y.2.2.2.1) ∧ w.cell? (a'.add (i * 5 + 4)) = some (.int .u8 y.2.2.2.2) := by
      intro i hi
      obtain ⟨cs', h1, h2⟩ := hx i hi
      rw [ce] at h1
      obtain ⟨_, hlen, hcell⟩ := World.cells?_some h1
      obtain ⟨xs, k, hk, hxy, _, hxl, hf⟩ := DataW.trod_struct he h2
      match xs, hxl, cs', hlen with
      | [y0, y1, y2, y3, y4], _, [v0, v1, v2, v3, v4], _ =>
        have g0 := hf 0 f0 rfl
        have g1 := hf 1 f1 rfl
        have g2 := hf 2 f2 rfl
        have g3 := hf 3 f3 rfl
        have g4 := hf 4 f4 rfl
        simp [o0, o1, o2, o3, o4, c0, c1, c2, c3, c4] at g0 g1 g2 g3 g4
        obtain ⟨z0, q0, _, w0⟩ := DataW.trod_int u0 g0
        obtain ⟨z1, q1, _, w1⟩ := DataW.trod_int u1 g1
        obtain ⟨z3, q3, _, w3⟩ := DataW.trod_int u4 g4
        obtain ⟨zs, ozs, rzs⟩ := row_of_read u2 uq cq g2
        obtain ⟨lss, olss, rlss⟩ := ss_of_read u3 up uq2 cp2 cq2 g3
        simp at q0 q1 q3
        subst q0 q1 q3
        have e0 := hcell 0 (by omega)
        have e1 := hcell 1 (by omega)
        have e2 := hcell 2 (by omega)
        have e3 := hcell 3 (by omega)
        have e4 := hcell 4 (by omega)
        rw [Go.Deep.add_add] at e0 e1 e2 e3 e4
        have b3 := bounds_u8 w3
        exact ⟨(z0, z1, zs, lss, z3), ⟨bounds_i64 w0, bounds_i64 w1, ozs, olss, by show (0 : Int) ≤ z3; omega, by show z3 < 256; omega⟩, by simpa using e0, by simpa using e1, ⟨v2, by simpa using e2, rzs⟩, ⟨v3, by simpa using e3, rlss⟩, by simpa using e4⟩
    obtain ⟨q, hq⟩ := Go.Deep.choose_lt each
    refine ⟨fun i => ⟨(q i).1, (q i).2.1, (q i).2.2.1, (q i).2.2.2.1, (q i).2.2.2.2⟩, some a', cap, rfl, hl, ?_⟩
    by_cases h0 : len = 0
    · exact .inl h0
    · right
      obtain ⟨b, off, spot⟩ := a'
      have hspot : spot = none := by simpa [Addr.add] using World.cell?_spot (hq 0 (by omega)).2.1
      subst hspot
      refine ⟨b, off, rfl, fun i hi => ?_⟩
      obtain ⟨r, r0, r1, ⟨dv, r2, r3⟩, ⟨lv, r5, r6⟩, r4⟩ := hq i (by omega)
      rw [addAt] at r0 r1 r2 r4 r5
      exact ⟨r, by simpa using r0, by simpa [Nat.add_assoc] using r1, ⟨dv, by simpa [Nat.add_assoc] using r2, r3⟩, ⟨lv, by simpa [Nat.add_assoc] using r5, r6⟩, by simpa [Nat.add_assoc] using r4⟩
end Go.Proofs.Ytjbhcdmeeakdcaa
