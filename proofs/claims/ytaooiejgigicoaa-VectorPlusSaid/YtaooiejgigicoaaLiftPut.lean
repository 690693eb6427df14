/- From what a reading tells of slices of three numbers, of structs and of pairs to rows and numbers. -/
import Derived.Test.YtaooiejgigicoaaLiftA2
import Derived.Test.YtaooiejgigicoaaLift
import Derived.Test.YtaooiejgigicoaaPlay
import Derived.Deep.SlicePairs
namespace Go.Proofs.Ytaooiejgigicoaa
open Go.ChangeShapes Go.WideShapes Go.ChangeAt Go.RowKit
theorem put_of_open {H : Type} {enc : TypeId × Value → H} {P : Program} {w : World} {base : Nat} {held : Bool} {t e : TypeId} {f0 f1 f2 : Field} {fuel : Nat} {a : Option Addr} {len cap : Nat} {x : DataW H × List MemPlace}
    (ht : P.underlying t = some (.slice e)) (he : P.underlying e = some (.struct #[f0, f1, f2])) (ce : P.cellsOf e = 3) (o0 : f0.offset = 0) (o1 : f1.offset = 1) (o2 : f2.offset = 2)
    (u0 : P.underlying f0.type = some (.int .i64)) (u1 : P.underlying f1.type = some (.int .i64)) (u2 : P.underlying f2.type = some (.int .i64))
    (cc : P.cellsOf f0.type = 1 ∧ P.cellsOf f1.type = 1 ∧ P.cellsOf f2.type = 1)
    (h : DataW.trod enc P w base (fun _ => true) held fuel t (Value.slice a len cap).cells.toList = some x) : ∃ ps, PRow w (.slice a len cap) ps ∧ ∀ p ∈ ps, FitP p := by
  obtain ⟨c0, c1, c2⟩ := cc
  have h' : DataW.trod enc P w base (fun _ => true) held fuel t [.slice a len cap] = some x := by simpa [Value.cells] using h
  rcases Go.Deep.open_slice ht h' with ⟨hcs, _⟩ | ⟨a', len', cap', m, n, D, Pl, hcs, hb, hl, hm, hmm, rfl, hx⟩
  · simp at hcs
    obtain ⟨rfl, rfl, rfl⟩ := hcs
    exact ⟨[], ⟨none, 0, rfl, Nat.le_refl _, .inl rfl⟩, (fun _ h => by cases h)⟩
  · simp at hcs
    obtain ⟨rfl, rfl, rfl⟩ := hcs
    have hlm : len ≤ m := by rw [hmm]; split <;> omega
    have each : ∀ i, i < m → ∃ y : Int × Int × Int, FitP ⟨y.1, y.2.1, y.2.2⟩ ∧ w.cell? (a'.add (i * 3)) = some (.int .i64 y.1) ∧ w.cell? (a'.add (i * 3 + 1)) = some (.int .i64 y.2.1) ∧ w.cell? (a'.add (i * 3 + 2)) = some (.int .i64 y.2.2) := by
      intro i hi
      obtain ⟨cs', h1, h2⟩ := hx i hi
      rw [ce] at h1
      obtain ⟨_, hlen, hcell⟩ := World.cells?_some h1
      obtain ⟨xs, k, hk, hxy, _, hxl, hf⟩ := DataW.trod_struct he h2
      match xs, hxl, cs', hlen with
      | [y0, y1, y2], _, [v0, v1, v2], _ =>
        have g0 := hf 0 f0 rfl
        have g1 := hf 1 f1 rfl
        have g2 := hf 2 f2 rfl
        simp [o0, o1, o2, c0, c1, c2] at g0 g1 g2
        obtain ⟨z0, q0, _, w0⟩ := DataW.trod_int u0 g0
        obtain ⟨z1, q1, _, w1⟩ := DataW.trod_int u1 g1
        obtain ⟨z2, q2, _, w2⟩ := DataW.trod_int u2 g2
        simp at q0 q1 q2
        subst q0 q1 q2
        have e0 := hcell 0 (by omega)
        have e1 := hcell 1 (by omega)
        have e2 := hcell 2 (by omega)
        rw [Go.Deep.add_add] at e0 e1 e2
        exact ⟨(z0, z1, z2), ⟨bounds_i64 w0, bounds_i64 w1, bounds_i64 w2⟩, by simpa using e0, by simpa using e1, by simpa using e2⟩
    obtain ⟨q, hq⟩ := Go.Deep.choose_lt each
    have hL : ((List.range len).map (fun i => (⟨(q i).1, (q i).2.1, (q i).2.2⟩ : Pos))).length = len := by simp
    refine ⟨(List.range len).map (fun i => ⟨(q i).1, (q i).2.1, (q i).2.2⟩), ⟨some a', cap, by rw [hL], by rw [hL]; exact hl, ?_⟩, ?_⟩
    · by_cases h0 : len = 0
      · left; rw [h0]; rfl
      · right
        obtain ⟨b, off, spot⟩ := a'
        have h00 := (hq 0 (by omega)).2.1
        have hspot : spot = none := by simpa [Addr.add] using World.cell?_spot h00
        subst hspot
        refine ⟨b, off, rfl, ?_, fun i hi => ?_⟩
        · rw [addAt] at h00
          exact World.block_lt_of_cell? w _ h00
        · rw [hL] at hi
          obtain ⟨_, r0, r1, r2⟩ := hq i (by omega)
          rw [addAt] at r0 r1 r2
          simp only [List.getElem_map, List.getElem_range]
          exact ⟨r0, by simpa [Nat.add_assoc] using r1, by simpa [Nat.add_assoc] using r2⟩
    · intro p hp
      obtain ⟨i, hi, rfl⟩ := List.mem_map.1 hp
      rw [List.mem_range] at hi
      exact (hq i (by omega)).1
theorem two_ints_of_open {H : Type} {enc : TypeId × Value → H} {P : Program} {w : World} {base : Nat} {held : Bool} {t e : TypeId} {fuel : Nat} {c0 c1 : Value} {x : DataW H × List MemPlace}
    (ht : P.underlying t = some (.array 2 e)) (he : P.underlying e = some (.int .i64)) (ce : P.cellsOf e = 1)
    (h : DataW.trod enc P w base (fun _ => true) held fuel t (Value.agg #[c0, c1]).cells.toList = some x) : ∃ a b, c0 = .int .i64 a ∧ c1 = .int .i64 b ∧ Fits a ∧ Fits b := by
  have h' : DataW.trod enc P w base (fun _ => true) held fuel t [c0, c1] = some x := by simpa [Value.cells] using h
  cases fuel with
  | zero => simp [DataW.trod] at h'
  | succ n =>
    unfold DataW.trod at h'
    rw [ht] at h'
    have r2 : List.range 2 = [0, 1] := rfl
    simp [r2, ce] at h'
    obtain ⟨_, h'⟩ := h'
    cases h0 : DataW.trod enc P w base (fun _ => true) held n e [c0] with
    | none => simp [h0] at h'
    | some y0 =>
      cases h1 : DataW.trod enc P w base (fun _ => true) held n e [c1] with
      | none => simp [h0, h1] at h'
      | some y1 =>
        obtain ⟨z0, q0, _, w0⟩ := DataW.trod_int he h0
        obtain ⟨z1, q1, _, w1⟩ := DataW.trod_int he h1
        simp at q0 q1
        exact ⟨z0, z1, q0, q1, bounds_i64 w0, bounds_i64 w1⟩
theorem three_of_open {H : Type} {enc : TypeId × Value → H} {P : Program} {w : World} {base : Nat} {held : Bool} {t : TypeId} {f0 f1 f2 : Field} {fuel : Nat} {v0 v1 v2 : Value} {x : DataW H × List MemPlace}
    (he : P.underlying t = some (.struct #[f0, f1, f2])) (o0 : f0.offset = 0) (o1 : f1.offset = 1) (o2 : f2.offset = 2)
    (u0 : P.underlying f0.type = some (.int .i64)) (u1 : P.underlying f1.type = some (.int .i64)) (u2 : P.underlying f2.type = some (.int .i64))
    (cc : P.cellsOf f0.type = 1 ∧ P.cellsOf f1.type = 1 ∧ P.cellsOf f2.type = 1)
    (h : DataW.trod enc P w base (fun _ => true) held fuel t (Value.agg #[v0, v1, v2]).cells.toList = some x) : ∃ a b c, v0 = .int .i64 a ∧ v1 = .int .i64 b ∧ v2 = .int .i64 c ∧ Fits a ∧ Fits b ∧ Fits c := by
  obtain ⟨c0, c1, c2⟩ := cc
  have h' : DataW.trod enc P w base (fun _ => true) held fuel t [v0, v1, v2] = some x := by simpa [Value.cells] using h
  obtain ⟨xs, k, hk, hxy, _, hxl, hf⟩ := DataW.trod_struct he h'
  match xs, hxl with
  | [y0, y1, y2], _ =>
    have g0 := hf 0 f0 rfl
    have g1 := hf 1 f1 rfl
    have g2 := hf 2 f2 rfl
    simp [o0, o1, o2, c0, c1, c2] at g0 g1 g2
    obtain ⟨z0, q0, _, w0⟩ := DataW.trod_int u0 g0
    obtain ⟨z1, q1, _, w1⟩ := DataW.trod_int u1 g1
    obtain ⟨z2, q2, _, w2⟩ := DataW.trod_int u2 g2
    simp at q0 q1 q2
    exact ⟨z0, z1, z2, q0, q1, q2, bounds_i64 w0, bounds_i64 w1, bounds_i64 w2⟩
end Go.Proofs.Ytaooiejgigicoaa
