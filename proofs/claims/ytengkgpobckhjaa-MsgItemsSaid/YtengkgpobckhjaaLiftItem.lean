/- From what a reading tells of an item by value, of an item's ID, and of a slice of pairs of numbers, to numbers. -/
import Derived.Test.YtengkgpobckhjaaItemPure
import Derived.Test.YtengkgpobckhjaaLift8
import Derived.ChangeSlices
import Derived.ChangeArms
import Derived.Deep.SlicePairs
namespace Go.Proofs.Ytengkgpobckhjaa
open Go.ChangeShapes Go.WideShapes Go.ChangeAt Go.RowKit
theorem addTo (b o j : Nat) : (⟨b, o, none⟩ : Addr).add j = ⟨b, o + j, none⟩ := by
  unfold Addr.add; split <;> simp_all
theorem item_of_open {H : Type} {enc : TypeId × Value → H} {P : Program} {w : World} {base : Nat} {held : Bool} {t : TypeId} {g f0 f1 f2 f3 f4 f5 f6 f7 : Field} {r : Reach} {b0 : Nat} {v : Value} {d : DataW H} {pl : List MemPlace}
    (ht : P.underlying t = some (.struct #[g, f2, f3, f4, f5, f6, f7])) (hg : P.underlying g.type = some (.struct #[f0, f1])) (ct : P.cellsOf t = 8)
    (og : g.offset = 0) (o0 : f0.offset = 0) (o1 : f1.offset = 1) (o2 : f2.offset = 2) (o3 : f3.offset = 3) (o4 : f4.offset = 4) (o5 : f5.offset = 5) (o6 : f6.offset = 6) (o7 : f7.offset = 7)
    (u0 : P.underlying f0.type = some (.int .i64)) (u1 : P.underlying f1.type = some (.int .i64)) (u2 : P.underlying f2.type = some (.int .i64)) (u3 : P.underlying f3.type = some (.int .i64)) (u4 : P.underlying f4.type = some (.int .i64)) (u5 : P.underlying f5.type = some (.int .i64)) (u6 : P.underlying f6.type = some (.int .i64)) (u7 : P.underlying f7.type = some (.int .i64))
    (cc : P.cellsOf g.type = 2 ∧ P.cellsOf f0.type = 1 ∧ P.cellsOf f1.type = 1 ∧ P.cellsOf f2.type = 1 ∧ P.cellsOf f3.type = 1 ∧ P.cellsOf f4.type = 1 ∧ P.cellsOf f5.type = 1 ∧ P.cellsOf f6.type = 1 ∧ P.cellsOf f7.type = 1)
    (hv : Value.okWide P w r b0 t v) (h : DataW.Trod enc P w base (fun _ => true) held t v d pl) : ∃ x : Itm, v = x.v ∧ x.Fit := by
  obtain ⟨cg, c0, c1, c2, c3, c4, c5, c6, c7⟩ := cc
  obtain ⟨cs, rfl, hsz⟩ := okWide_struct ht hv
  obtain ⟨l⟩ := cs
  match l, hsz.trans ct with
  | [v0, v1, v2, v3, v4, v5, v6, v7], _ =>
    obtain ⟨fuel, hf⟩ := h
    have hf' : DataW.trod enc P w base (fun _ => true) held fuel t [v0, v1, v2, v3, v4, v5, v6, v7] = some (d, pl) := by simpa [Value.cells] using hf
    obtain ⟨xs, k, hk, hxy, _, hxl, hf⟩ := DataW.trod_struct ht hf'
    match xs, hxl with
    | [yg, y2, y3, y4, y5, y6, y7], _ =>
      have gg := hf 0 g rfl
      have g2 := hf 1 f2 rfl
      have g3 := hf 2 f3 rfl
      have g4 := hf 3 f4 rfl
      have g5 := hf 4 f5 rfl
      have g6 := hf 5 f6 rfl
      have g7 := hf 6 f7 rfl
      simp [og, o2, o3, o4, o5, o6, o7, cg, c2, c3, c4, c5, c6, c7] at gg g2 g3 g4 g5 g6 g7
      obtain ⟨xs', k', hk', hxy', _, hxl', hf'⟩ := DataW.trod_struct hg gg
      match xs', hxl' with
      | [y0, y1], _ =>
        have g0 := hf' 0 f0 rfl
        have g1 := hf' 1 f1 rfl
        simp [o0, o1, c0, c1] at g0 g1
        obtain ⟨z0, q0, _, w0⟩ := DataW.trod_int u0 g0
        obtain ⟨z1, q1, _, w1⟩ := DataW.trod_int u1 g1
        obtain ⟨z2, q2, _, w2⟩ := DataW.trod_int u2 g2
        obtain ⟨z3, q3, _, w3⟩ := DataW.trod_int u3 g3
        obtain ⟨z4, q4, _, w4⟩ := DataW.trod_int u4 g4
        obtain ⟨z5, q5, _, w5⟩ := DataW.trod_int u5 g5
        obtain ⟨z6, q6, _, w6⟩ := DataW.trod_int u6 g6
        obtain ⟨z7, q7, _, w7⟩ := DataW.trod_int u7 g7
        simp at q0 q1 q2 q3 q4 q5 q6 q7
        subst q0 q1 q2 q3 q4 q5 q6 q7
        exact ⟨⟨z0, z1, z2, z3, z4, z5, z6, z7⟩, rfl, bounds_i64 w0, bounds_i64 w1, bounds_i64 w2, bounds_i64 w3, bounds_i64 w4, bounds_i64 w5, bounds_i64 w6, bounds_i64 w7⟩
/-- A slice of n pairs of numbers. -/
def TwoRow (w : World) (v : Value) (n : Nat) (f : Nat → Int × Int) : Prop :=
  (∀ i, F64 (f i).1 ∧ F64 (f i).2) ∧ ∃ p c, v = .slice p n c ∧ n ≤ c ∧ (n = 0 ∨ ∃ b o, p = some ⟨b, o, none⟩ ∧ b < w.heap.size ∧ ∀ i, i < n → w.cell? ⟨b, o + i * 2, none⟩ = some (.int .i64 (f i).1) ∧ w.cell? ⟨b, o + i * 2 + 1, none⟩ = some (.int .i64 (f i).2))
theorem TwoRow.kept {w w' : World} {v : Value} {n : Nat} {f : Nat → Int × Int} (h : TwoRow w v n f) (hb : Below w.heap.size w w') : TwoRow w' v n f := by
  obtain ⟨hf, p, c, rfl, hc, h⟩ := h
  refine ⟨hf, p, c, rfl, hc, ?_⟩
  rcases h with h | ⟨b, o, rfl, hl, h⟩
  · exact .inl h
  · refine .inr ⟨b, o, rfl, by have := hb.size; omega, fun i hi => ?_⟩
    rw [hb.cell (p := ⟨b, o + i * 2, none⟩) hl, hb.cell (p := ⟨b, o + i * 2 + 1, none⟩) hl]
    exact h i hi
theorem ints2_of_read {H : Type} {enc : TypeId × Value → H} {P : Program} {w : World} {base : Nat} {held : Bool} {t e : TypeId} {fuel : Nat} {c0 c1 : Value} {x : DataW H × List MemPlace}
    (ht : P.underlying t = some (.array 2 e)) (he : P.underlying e = some (.int .i64)) (ce : P.cellsOf e = 1)
    (h' : DataW.trod enc P w base (fun _ => true) held fuel t [c0, c1] = some x) : ∃ a b, c0 = .int .i64 a ∧ c1 = .int .i64 b ∧ F64 a ∧ F64 b := by
  cases fuel with
  | zero => simp [DataW.trod] at h'
  | succ n =>
    unfold DataW.trod at h'
    rw [ht] at h'
    have r2 : List.range 2 = [0, 1] := rfl
    simp [r2, ce] at h'
    obtain ⟨_, h'⟩ := h'
    cases h0 : DataW.trod enc P w base (fun _ => true) held n e [c0] with
    | none => simp [h0] at h'
    | some y0 =>
      cases h1 : DataW.trod enc P w base (fun _ => true) held n e [c1] with
      | none => simp [h0, h1] at h'
      | some y1 =>
        obtain ⟨z0, q0, _, w0⟩ := DataW.trod_int he h0
        obtain ⟨z1, q1, _, w1⟩ := DataW.trod_int he h1
        simp at q0 q1
        exact ⟨z0, z1, q0, q1, bounds_i64 w0, bounds_i64 w1⟩
theorem twos_of_open {H : Type} {enc : TypeId × Value → H} {P : Program} {w : World} {base : Nat} {held : Bool} {t e q : TypeId} {fuel : Nat} {a : Option Addr} {len cap : Nat} {x : DataW H × List MemPlace}
    (ht : P.underlying t = some (.slice e)) (he : P.underlying e = some (.array 2 q)) (hq : P.underlying q = some (.int .i64)) (ce : P.cellsOf e = 2) (cq : P.cellsOf q = 1)
    (h : DataW.trod enc P w base (fun _ => true) held fuel t (Value.slice a len cap).cells.toList = some x) : ∃ f, TwoRow w (.slice a len cap) len f := by
  have h' : DataW.trod enc P w base (fun _ => true) held fuel t [.slice a len cap] = some x := by simpa [Value.cells] using h
  rcases Go.Deep.open_slice ht h' with ⟨hcs, _⟩ | ⟨a', len', cap', m, n, D, Pl, hcs, hb, hl, hm, hmm, rfl, hx⟩
  · simp at hcs
    obtain ⟨rfl, rfl, rfl⟩ := hcs
    exact ⟨fun _ => (0, 0), (fun _ => by show F64 0 ∧ F64 0; unfold F64; decide), none, 0, rfl, Nat.le_refl _, .inl rfl⟩
  · simp at hcs
    obtain ⟨rfl, rfl, rfl⟩ := hcs
    have hlm : len ≤ m := by rw [hmm]; split <;> omega
    have each : ∀ i, i < m → ∃ y : Int × Int, (F64 y.1 ∧ F64 y.2) ∧ w.cell? (a'.add (i * 2)) = some (.int .i64 y.1) ∧ w.cell? (a'.add (i * 2 + 1)) = some (.int .i64 y.2) := by
      intro i hi
      obtain ⟨cs', h1, h2⟩ := hx i hi
      rw [ce] at h1
      obtain ⟨_, hlen, hcell⟩ := World.cells?_some h1
      match cs', hlen with
      | [v0, v1], _ =>
        obtain ⟨z0, z1, rfl, rfl, w0, w1⟩ := ints2_of_read he hq cq h2
        have e0 := hcell 0 (by omega)
        have e1 := hcell 1 (by omega)
        rw [Go.Deep.add_add] at e0 e1
        exact ⟨(z0, z1), ⟨w0, w1⟩, by simpa using e0, by simpa using e1⟩
    obtain ⟨q, hq⟩ := Go.Deep.choose_lt each
    refine ⟨fun i => if i < m then q i else (0, 0), fun i => ?_, some a', cap, rfl, hl, ?_⟩
    · by_cases hi : i < m
      · simp only [if_pos hi]; exact (hq i hi).1
      · simp only [if_neg hi]; show F64 0 ∧ F64 0; unfold F64; decide
    · by_cases h0 : len = 0
      · exact .inl h0
      · right
        obtain ⟨b, off, spot⟩ := a'
        have h00 := (hq 0 (by omega)).2.1
        have hspot : spot = none := by simpa [Addr.add] using World.cell?_spot h00
        subst hspot
        refine ⟨b, off, rfl, ?_, fun i hi => ?_⟩
        · rw [addTo] at h00
          exact World.block_lt_of_cell? w _ h00
        · obtain ⟨_, r0, r1⟩ := hq i (by omega)
          rw [addTo] at r0 r1
          have hi' : i < m := by omega
          simp only [if_pos hi']
          exact ⟨by simpa using r0, by simpa [Nat.add_assoc] using r1⟩
end Go.Proofs.Ytengkgpobckhjaa
