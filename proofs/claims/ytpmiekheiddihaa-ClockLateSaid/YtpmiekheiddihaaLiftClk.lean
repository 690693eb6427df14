/- From what a reading tells of a slice of a clock law's operations to a row. -/
import Derived.Test.YtpmiekheiddihaaTRow
import Derived.Test.YtpmiekheiddihaaLift
import Derived.Deep.SlicePairs
import Derived.ChangeSlices
import Derived.ChangeArms
import Derived.SizedLaws
namespace Go.Proofs.Ytpmiekheiddihaa
open Go.ChangeShapes Go.WideShapes Go.ChangeAt Go.RowKit
/-- Something that is done with a clock. -/
structure OpC where
  k : Int
  l : Int
  s : ByteArray
def encOpC : Enc OpC := ⟨3, fun x => [.int .i64 x.k, .int .i64 x.l, .string x.s], by decide, fun _ => rfl, by intro x u hu; simp at hu; rcases hu with rfl | rfl | rfl <;> rfl⟩
structure OpC.Fit (x : OpC) : Prop where
  k : -9223372036854775808 ≤ x.k ∧ x.k ≤ 9223372036854775807
  l : -9223372036854775808 ≤ x.l ∧ x.l ≤ 9223372036854775807
  s : x.s.size ≤ 140737488351232
section
variable {H : Type} {enc : TypeId × Value → H} {P : Program} {w : World} {base : Nat} {held : Bool}
theorem weights_mem_allS {e : TypeId} : ∀ {ds : List (DataW H)} {d : DataW H}, d ∈ ds → ∀ n ∈ d.weights P e, n ∈ DataW.weightsAll P e ds
  | d0 :: ds, d, hd, n, hn => by
    unfold DataW.weightsAll
    rcases List.mem_cons.1 hd with rfl | hd
    · exact List.mem_append_left _ hn
    · exact List.mem_append_right _ (weights_mem_allS hd n hn)
theorem opc_read {t : TypeId} {f0 f1 f2 : Field} (ht : P.underlying t = some (.struct #[f0, f1, f2])) (o0 : f0.offset = 0) (o1 : f1.offset = 1) (o2 : f2.offset = 2)
    (u0 : P.underlying f0.type = some (.int .i64)) (u1 : P.underlying f1.type = some (.int .i64)) (u2 : P.underlying f2.type = some .string)
    (cc : P.cellsOf f0.type = 1 ∧ P.cellsOf f1.type = 1 ∧ P.cellsOf f2.type = 1)
    (fuel : Nat) (cs : List Value) (y : DataW H × List MemPlace) (hcl : cs.length = 3) (hf : DataW.trod enc P w base (fun _ => true) held fuel t cs = some y) (hw : ∀ k ∈ DataW.weights P t y.1, k ≤ reachBytes) : ∃ x : OpC, cs = encOpC.E x ∧ x.Fit := by
  obtain ⟨c0, c1, c2⟩ := cc
  match cs, hcl with
  | [v0, v1, v2], _ =>
    obtain ⟨xs, k, hk, hxy, _, hxl, hf⟩ := DataW.trod_struct ht hf
    match xs, hxl with
    | [y0, y1, y2], _ =>
      have g0 := hf 0 f0 rfl
      have g1 := hf 1 f1 rfl
      have g2 := hf 2 f2 rfl
      simp [o0, o1, o2, c0, c1, c2] at g0 g1 g2
      obtain ⟨z0, q0, _, w0⟩ := DataW.trod_int u0 g0
      obtain ⟨z1, q1, _, w1⟩ := DataW.trod_int u1 g1
      obtain ⟨s, q2, e2, _⟩ := DataW.trod_string u2 g2
      simp at q0 q1 q2
      subst q0 q1 q2
      have hs := hw s.data.toList.length (by
        rw [hxy]
        simp only [DataW.weights, ht]
        refine DataW.weights_mem_each (ts := [f0.type, f1.type, f2.type]) (ds := [y0.1, y1.1, y2.1]) (j := 2) (t := f2.type) (d := y2.1) rfl rfl _ ?_
        rw [e2]
        simp [DataW.weights])
      refine ⟨⟨z0, z1, s⟩, rfl, bounds_i64 w0, bounds_i64 w1, ?_⟩
      have h1 : s.data.toList.length = s.size := by simp
      rw [h1] at hs
      unfold reachBytes at hs
      exact hs
theorem trow_of_openS {α : Type} (E : Enc α) (F : α → Prop) {t e : TypeId} {fuel : Nat} {a : Option Addr} {len cap : Nat} {x : DataW H × List MemPlace}
    (ht : P.underlying t = some (.slice e)) (ce : P.cellsOf e = E.k)
    (rd : ∀ (fuel : Nat) (cs : List Value) (y : DataW H × List MemPlace), cs.length = E.k → DataW.trod enc P w base (fun _ => true) held fuel e cs = some y → (∀ k ∈ DataW.weights P e y.1, k ≤ reachBytes) → ∃ x : α, cs = E.E x ∧ F x)
    (h : DataW.trod enc P w base (fun _ => true) held fuel t [.slice a len cap] = some x) (hw : ∀ k ∈ DataW.weights P t x.1, k ≤ reachBytes) : ∃ xs : List α, TRow E w (.slice a len cap) xs ∧ ∀ y ∈ xs, F y := by
  have hk := E.pos
  rcases Go.Deep.open_slice ht h with ⟨hcs, _⟩ | ⟨a', len', cap', m, n, D, Pl, hcs, hb, hl, hm, hmm, rfl, hx⟩
  · simp at hcs
    obtain ⟨rfl, rfl, rfl⟩ := hcs
    exact ⟨[], TRow.nil_ E w, (fun _ h => by cases h)⟩
  · simp at hcs
    obtain ⟨rfl, rfl, rfl⟩ := hcs
    have hlm : len ≤ m := by rw [hmm]; split <;> omega
    have each : ∀ i, i < len → ∃ y : α, F y ∧ ∀ t, t < E.k → w.cell? (a'.add (i * E.k + t)) = (E.E y)[t]? := by
      intro i hi
      obtain ⟨cs', h1, h2⟩ := hx i (by omega)
      rw [ce] at h1
      obtain ⟨_, hlen, hcell⟩ := World.cells?_some h1
      obtain ⟨y, rfl, hF⟩ := rd _ _ _ hlen h2 (fun k hk => hw k (by
        simp only [DataW.weights, ht, List.mem_cons]
        exact .inr (List.mem_append_left _ (weights_mem_allS (List.mem_map.2 ⟨i, List.mem_range.2 hi, rfl⟩) k hk))))
      refine ⟨y, hF, fun t ht => ?_⟩
      have e0 := hcell t (by omega)
      rw [Go.Deep.add_add] at e0
      rw [e0, List.getElem?_eq_getElem (by rw [hlen]; exact ht)]
    by_cases h0 : len = 0
    · subst h0
      exact ⟨[], ⟨_, _, rfl, Nat.zero_le _, .inl rfl⟩, (fun _ h => by cases h)⟩
    · obtain ⟨q0, _⟩ := each 0 (by omega)
      have each' : ∀ i, ∃ y : α, i < len → F y ∧ ∀ t, t < E.k → w.cell? (a'.add (i * E.k + t)) = (E.E y)[t]? := by
        intro i
        by_cases hi : i < len
        · obtain ⟨y, hy⟩ := each i hi
          exact ⟨y, fun _ => hy⟩
        · exact ⟨q0, fun h => absurd h hi⟩
      let q : Nat → α := fun i => Classical.choose (each' i)
      have hq : ∀ i, i < len → F (q i) ∧ ∀ t, t < E.k → w.cell? (a'.add (i * E.k + t)) = (E.E (q i))[t]? := fun i => Classical.choose_spec (each' i)
      have hL : ((List.range len).map q).length = len := by simp
      refine ⟨(List.range len).map q, ⟨some a', cap, by rw [hL], by rw [hL]; exact hl, .inr ?_⟩, fun z hz => ?_⟩
      · obtain ⟨b, off, spot⟩ := a'
        have h00 := (hq 0 (by omega)).2 0 hk
        rw [List.getElem?_eq_getElem (by rw [E.len]; exact hk)] at h00
        have hspot : spot = none := by simpa [Addr.add] using World.cell?_spot h00
        subst hspot
        refine ⟨b, off, rfl, ?_, fun i hi t ht => ?_⟩
        · rw [addAt] at h00
          exact World.block_lt_of_cell? w _ h00
        · rw [hL] at hi
          have := (hq i (by omega)).2 t ht
          rw [addAt] at this
          rw [Nat.add_assoc, this]
          simp
      · obtain ⟨i, hi, rfl⟩ := List.mem_map.1 hz
        exact (hq i (by have := List.mem_range.1 hi; omega)).1
end
end Go.Proofs.Ytpmiekheiddihaa
