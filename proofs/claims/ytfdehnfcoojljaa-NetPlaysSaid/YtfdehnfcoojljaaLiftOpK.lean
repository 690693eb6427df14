/- From what a reading tells of a slice of a net's operations to rows. -/
import Derived.Test.YtfdehnfcoojljaaLiftPk
namespace Go.Proofs.Ytfdehnfcoojljaa
open Go.ChangeShapes Go.WideShapes Go.ChangeAt Go.RowKit
/-- An operation with a net: its kind, a place, packets. -/
structure OpX where
  k : Int
  i : Int
  p : Option Addr
  c : Nat
  ys : List PkX
def OpX.cells (x : OpX) : List Value := [.int .i64 x.k, .int .i64 x.i, .slice x.p x.ys.length x.c]
def encOp : Enc OpX := ⟨3, OpX.cells, by decide, fun _ => rfl, by intro x u hu; simp [OpX.cells] at hu; rcases hu with rfl | rfl | rfl <;> rfl⟩
def OpX.In (w : World) (x : OpX) : Prop := TRow encK w (.slice x.p x.ys.length x.c) x.ys ∧ ∀ y ∈ x.ys, y.In w
section
variable {H : Type} {enc : TypeId × Value → H} {P : Program} {w : World} {base : Nat} {held : Bool}
theorem opk_read {t tl e : TypeId} {f0 f1 f2 : Field} (ht : P.underlying t = some (.struct #[f0, f1, f2])) (o0 : f0.offset = 0) (o1 : f1.offset = 1) (o2 : f2.offset = 2)
    (u0 : P.underlying f0.type = some (.int .i64)) (u1 : P.underlying f1.type = some (.int .i64)) (tl' : f2.type = tl) (hl : P.underlying tl = some (.slice e)) (ce : P.cellsOf e = 15)
    (cc : P.cellsOf f0.type = 1 ∧ P.cellsOf f1.type = 1 ∧ P.cellsOf tl = 1)
    (rd : ∀ (fuel : Nat) (cs : List Value) (y : DataW H × List MemPlace), cs.length = 15 → DataW.trod enc P w base (fun _ => true) held fuel e cs = some y → ∃ x : PkX, cs = x.cells ∧ x.x.In w ∧ ((∀ k ∈ DataW.weights P e y.1, k ≤ reachBytes) → x.x.m.Sz))
    (fuel : Nat) (cs : List Value) (y : DataW H × List MemPlace) (hcl : cs.length = 3) (hf : DataW.trod enc P w base (fun _ => true) held fuel t cs = some y) (hw : ∀ k ∈ DataW.weights P t y.1, k ≤ reachBytes) : ∃ x : OpX, cs = x.cells ∧ x.In w := by
  obtain ⟨c0, c1, c2⟩ := cc
  match cs, hcl with
  | [v0, v1, v2], _ =>
    obtain ⟨xs, k, hk, hxy, _, hxl, hf⟩ := DataW.trod_struct ht hf
    match xs, hxl with
    | [y0, y1, y2], _ =>
      have g0 := hf 0 f0 rfl
      have g1 := hf 1 f1 rfl
      have g2 := hf 2 f2 rfl
      subst tl'
      simp [o0, o1, o2, c0, c1, c2] at g0 g1 g2
      obtain ⟨z0, q0, _, _⟩ := DataW.trod_int u0 g0
      obtain ⟨z1, q1, _, _⟩ := DataW.trod_int u1 g1
      simp at q0 q1
      subst q0 q1
      have hc : ∃ a l cap, v2 = .slice a l cap := by
        rcases Go.Deep.open_slice hl g2 with ⟨hcs, _⟩ | ⟨a', len', cap', m, n, D, Pl, hcs, _⟩
        · simp at hcs; exact ⟨_, _, _, hcs⟩
        · simp at hcs; exact ⟨_, _, _, hcs⟩
      obtain ⟨a, l, cap, rfl⟩ := hc
      obtain ⟨ys, hr, hin⟩ := pks_of_open hl ce rd g2 (fun k hk => hw k (by
        rw [hxy]
        simp only [DataW.weights, ht]
        exact DataW.weights_mem_each (ts := [f0.type, f1.type, f2.type]) (ds := [y0.1, y1.1, y2.1]) (j := 2) (t := f2.type) (d := y2.1) rfl rfl k hk))
      obtain ⟨p', c', e1⟩ := hr.shape
      cases e1
      exact ⟨⟨z0, z1, a, cap, ys⟩, rfl, hr, hin⟩
theorem trow_of_open_w {α : Type} (E : Enc α) (F : α → Prop) {t e : TypeId} {fuel : Nat} {a : Option Addr} {len cap : Nat} {x : DataW H × List MemPlace}
    (ht : P.underlying t = some (.slice e)) (ce : P.cellsOf e = E.k)
    (rd : ∀ (fuel : Nat) (cs : List Value) (y : DataW H × List MemPlace), cs.length = E.k → DataW.trod enc P w base (fun _ => true) held fuel e cs = some y → (∀ k ∈ DataW.weights P e y.1, k ≤ reachBytes) → ∃ x : α, cs = E.E x ∧ F x)
    (h : DataW.trod enc P w base (fun _ => true) held fuel t [.slice a len cap] = some x) (hw : ∀ k ∈ DataW.weights P t x.1, k ≤ reachBytes) : ∃ xs : List α, TRow E w (.slice a len cap) xs ∧ ∀ y ∈ xs, F y := by
  have hk := E.pos
  rcases Go.Deep.open_slice ht h with ⟨hcs, _⟩ | ⟨a', len', cap', m, n, D, Pl, hcs, hb, hl, hm, hmm, rfl, hx⟩
  · simp at hcs
    obtain ⟨rfl, rfl, rfl⟩ := hcs
    exact ⟨[], TRow.nil_ E w, (fun _ h => by cases h)⟩
  · simp at hcs
    obtain ⟨rfl, rfl, rfl⟩ := hcs
    have hlm : len ≤ m := by rw [hmm]; split <;> omega
    have each : ∀ i, i < len → ∃ y : α, F y ∧ ∀ t, t < E.k → w.cell? (a'.add (i * E.k + t)) = (E.E y)[t]? := by
      intro i hi
      obtain ⟨cs', h1, h2⟩ := hx i (by omega)
      rw [ce] at h1
      obtain ⟨_, hlen, hcell⟩ := World.cells?_some h1
      obtain ⟨y, rfl, hF⟩ := rd _ _ _ hlen h2 (fun k hk => hw k (by
        simp only [DataW.weights, ht, List.mem_cons]
        exact .inr (List.mem_append_left _ (weights_mem_all (List.mem_map.2 ⟨i, List.mem_range.2 hi, rfl⟩) k hk))))
      refine ⟨y, hF, fun t ht => ?_⟩
      have e0 := hcell t (by omega)
      rw [Go.Deep.add_add] at e0
      rw [e0, List.getElem?_eq_getElem (by rw [hlen]; exact ht)]
    by_cases h0 : len = 0
    · subst h0
      exact ⟨[], ⟨_, _, rfl, Nat.zero_le _, .inl rfl⟩, (fun _ h => by cases h)⟩
    · obtain ⟨q0, _⟩ := each 0 (by omega)
      have each' : ∀ i, ∃ y : α, i < len → F y ∧ ∀ t, t < E.k → w.cell? (a'.add (i * E.k + t)) = (E.E y)[t]? := by
        intro i
        by_cases hi : i < len
        · obtain ⟨y, hy⟩ := each i hi
          exact ⟨y, fun _ => hy⟩
        · exact ⟨q0, fun h => absurd h hi⟩
      let q : Nat → α := fun i => Classical.choose (each' i)
      have hq : ∀ i, i < len → F (q i) ∧ ∀ t, t < E.k → w.cell? (a'.add (i * E.k + t)) = (E.E (q i))[t]? := fun i => Classical.choose_spec (each' i)
      have hL : ((List.range len).map q).length = len := by simp
      refine ⟨(List.range len).map q, ⟨some a', cap, by rw [hL], by rw [hL]; exact hl, .inr ?_⟩, fun z hz => ?_⟩
      · obtain ⟨b, off, spot⟩ := a'
        have h00 := (hq 0 (by omega)).2 0 hk
        rw [List.getElem?_eq_getElem (by rw [E.len]; exact hk)] at h00
        have hspot : spot = none := by simpa [Addr.add] using World.cell?_spot h00
        subst hspot
        refine ⟨b, off, rfl, ?_, fun i hi t ht => ?_⟩
        · rw [addAt] at h00
          exact World.block_lt_of_cell? w _ h00
        · rw [hL] at hi
          have := (hq i (by omega)).2 t ht
          rw [addAt] at this
          rw [Nat.add_assoc, this]
          simp
      · obtain ⟨i, hi, rfl⟩ := List.mem_map.1 hz
        exact (hq i (by have := List.mem_range.1 hi; omega)).1
end
end Go.Proofs.Ytfdehnfcoojljaa
