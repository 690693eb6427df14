/- From what a reading tells of a packet, and of a slice of packets, to models and rows. -/
import Derived.Test.YtfdehnfcoojljaaLiftMsgS
import Derived.Test.YtfdehnfcoojljaaPkData
namespace Go.Proofs.Ytfdehnfcoojljaa
open Go.ChangeShapes Go.WideShapes Go.ChangeAt Go.RowKit
section
variable {H : Type} {enc : TypeId × Value → H} {P : Program} {w : World} {base : Nat} {held : Bool}
def PkX.In (w : World) (y : PkX) : Prop := y.x.In w ∧ y.x.m.Sz
theorem pk_read {t tm : TypeId} {f0 f1 f2 f3 fm : Field} (ht : P.underlying t = some (.struct #[f0, f1, f2, f3, fm])) (o0 : f0.offset = 0) (o1 : f1.offset = 1) (o2 : f2.offset = 2) (o3 : f3.offset = 3) (om : fm.offset = 4)
    (u0 : P.underlying f0.type = some (.int .i64)) (u1 : P.underlying f1.type = some (.int .i64)) (u2 : P.underlying f2.type = some (.int .i64)) (u3 : P.underlying f3.type = some (.int .i64)) (tm' : fm.type = tm)
    (cc : P.cellsOf f0.type = 1 ∧ P.cellsOf f1.type = 1 ∧ P.cellsOf f2.type = 1 ∧ P.cellsOf f3.type = 1 ∧ P.cellsOf tm = 11)
    (rd : ∀ (fuel : Nat) (cs : List Value) (y : DataW H × List MemPlace), cs.length = 11 → DataW.trod enc P w base (fun _ => true) held fuel tm cs = some y → ∃ x : MsgX, cs = x.cells ∧ x.In w)
    (sz : ∀ (fuel : Nat) (x : MsgX) (y : DataW H × List MemPlace), DataW.trod enc P w base (fun _ => true) held fuel tm x.cells = some y → (∀ k ∈ DataW.weights P tm y.1, k ≤ reachBytes) → x.m.Sz)
    (fuel : Nat) (cs : List Value) (y : DataW H × List MemPlace) (hl : cs.length = 15) (hf : DataW.trod enc P w base (fun _ => true) held fuel t cs = some y) : ∃ x : PkX, cs = x.cells ∧ x.x.In w ∧ ((∀ k ∈ DataW.weights P t y.1, k ≤ reachBytes) → x.x.m.Sz) := by
  obtain ⟨c0, c1, c2, c3, cm⟩ := cc
  match cs, hl with
  | v0 :: v1 :: v2 :: v3 :: ms, hl =>
    have hml : ms.length = 11 := by simpa using hl
    obtain ⟨xs, k, hk, hxy, _, hxl, hf⟩ := DataW.trod_struct ht hf
    match xs, hxl with
    | [y0, y1, y2, y3, ym], _ =>
      have g0 := hf 0 f0 rfl
      have g1 := hf 1 f1 rfl
      have g2 := hf 2 f2 rfl
      have g3 := hf 3 f3 rfl
      have gm := hf 4 fm rfl
      subst tm'
      simp [o0, o1, o2, o3, om, c0, c1, c2, c3, cm] at g0 g1 g2 g3 gm
      rw [List.take_of_length_le (by omega)] at gm
      obtain ⟨z0, q0, _, w0⟩ := DataW.trod_int u0 g0
      obtain ⟨z1, q1, _, w1⟩ := DataW.trod_int u1 g1
      obtain ⟨z2, q2, _, w2⟩ := DataW.trod_int u2 g2
      obtain ⟨z3, q3, _, w3⟩ := DataW.trod_int u3 g3
      simp at q0 q1 q2 q3
      subst q0 q1 q2 q3
      obtain ⟨x, rfl, hx⟩ := rd _ _ _ hml gm
      refine ⟨⟨z0, z1, z2, z3, x⟩, rfl, hx, fun hw => sz _ x _ gm (fun k hk => hw k ?_)⟩
      rw [hxy]
      simp only [DataW.weights, ht]
      exact DataW.weights_mem_each (ts := [f0.type, f1.type, f2.type, f3.type, fm.type]) (ds := [y0.1, y1.1, y2.1, y3.1, ym.1]) (j := 4) (t := fm.type) (d := ym.1) rfl rfl k hk
theorem pk_of_open {t : TypeId} {fs : Array Field} {r : Reach} {b0 : Nat} {v : Value} {d : DataW H} {pl : List MemPlace}
    (ht : P.underlying t = some (.struct fs)) (ct : P.cellsOf t = 15)
    (rd : ∀ (fuel : Nat) (cs : List Value) (y : DataW H × List MemPlace), cs.length = 15 → DataW.trod enc P w base (fun _ => true) held fuel t cs = some y → ∃ x : PkX, cs = x.cells ∧ x.x.In w ∧ ((∀ k ∈ DataW.weights P t y.1, k ≤ reachBytes) → x.x.m.Sz))
    (hv : Value.okWide P w r b0 t v) (h : DataW.Trod enc P w base (fun _ => true) held t v d pl) (hw : ∀ k ∈ DataW.weights P t d, k ≤ reachBytes) : ∃ x : PkX, v = .agg x.cells.toArray ∧ x.In w := by
  obtain ⟨cs, rfl, hsz⟩ := okWide_struct ht hv
  obtain ⟨fuel, hf⟩ := h
  obtain ⟨l⟩ := cs
  have hf' : DataW.trod enc P w base (fun _ => true) held fuel t l = some (d, pl) := by simpa [Value.cells] using hf
  obtain ⟨x, hx, hin, hz⟩ := rd fuel l _ (by simpa using hsz.trans ct) hf'
  subst hx
  exact ⟨x, rfl, hin, hz hw⟩
theorem pks_of_open {t e : TypeId} {fuel : Nat} {a : Option Addr} {len cap : Nat} {x : DataW H × List MemPlace}
    (ht : P.underlying t = some (.slice e)) (ce : P.cellsOf e = 15)
    (rd : ∀ (fuel : Nat) (cs : List Value) (y : DataW H × List MemPlace), cs.length = 15 → DataW.trod enc P w base (fun _ => true) held fuel e cs = some y → ∃ x : PkX, cs = x.cells ∧ x.x.In w ∧ ((∀ k ∈ DataW.weights P e y.1, k ≤ reachBytes) → x.x.m.Sz))
    (h : DataW.trod enc P w base (fun _ => true) held fuel t [.slice a len cap] = some x) (hw : ∀ k ∈ DataW.weights P t x.1, k ≤ reachBytes) : ∃ xs : List PkX, TRow encK w (.slice a len cap) xs ∧ ∀ y ∈ xs, y.In w := by
  rcases Go.Deep.open_slice ht h with ⟨hcs, _⟩ | ⟨a', len', cap', m, n, D, Pl, hcs, hb, hl, hm, hmm, rfl, hx⟩
  · simp at hcs
    obtain ⟨rfl, rfl, rfl⟩ := hcs
    exact ⟨[], TRow.nil_ encK w, (fun _ h => by cases h)⟩
  · simp at hcs
    obtain ⟨rfl, rfl, rfl⟩ := hcs
    have hlm : len ≤ m := by rw [hmm]; split <;> omega
    have each : ∀ i, i < len → ∃ y : PkX, y.In w ∧ ∀ t, t < 15 → w.cell? (a'.add (i * 15 + t)) = y.cells[t]? := by
      intro i hi
      obtain ⟨cs', h1, h2⟩ := hx i (by omega)
      rw [ce] at h1
      obtain ⟨_, hlen, hcell⟩ := World.cells?_some h1
      obtain ⟨y, rfl, hF, hz⟩ := rd _ _ _ hlen h2
      refine ⟨y, ⟨hF, hz (fun k hk => hw k ?_)⟩, fun t ht => ?_⟩
      · simp only [DataW.weights, ht, List.mem_cons]
        exact .inr (List.mem_append_left _ (weights_mem_all (List.mem_map.2 ⟨i, List.mem_range.2 hi, rfl⟩) k hk))
      · have e0 := hcell t (by omega)
        rw [Go.Deep.add_add] at e0
        rw [e0, List.getElem?_eq_getElem (by rw [hlen]; exact ht)]
    by_cases h0 : len = 0
    · subst h0
      exact ⟨[], ⟨_, _, rfl, Nat.zero_le _, .inl rfl⟩, (fun _ h => by cases h)⟩
    · obtain ⟨q0, _⟩ := each 0 (by omega)
      have each' : ∀ i, ∃ y : PkX, i < len → y.In w ∧ ∀ t, t < 15 → w.cell? (a'.add (i * 15 + t)) = y.cells[t]? := by
        intro i
        by_cases hi : i < len
        · obtain ⟨y, hy⟩ := each i hi
          exact ⟨y, fun _ => hy⟩
        · exact ⟨q0, fun h => absurd h hi⟩
      let q : Nat → PkX := fun i => Classical.choose (each' i)
      have hq : ∀ i, i < len → (q i).In w ∧ ∀ t, t < 15 → w.cell? (a'.add (i * 15 + t)) = (q i).cells[t]? := fun i => Classical.choose_spec (each' i)
      have hL : ((List.range len).map q).length = len := by simp
      refine ⟨(List.range len).map q, ⟨some a', cap, by rw [hL], by rw [hL]; exact hl, .inr ?_⟩, fun z hz => ?_⟩
      · obtain ⟨b, off, spot⟩ := a'
        have h00 := (hq 0 (by omega)).2 0 (by decide)
        have hspot : spot = none := by simpa [Addr.add] using World.cell?_spot h00
        subst hspot
        refine ⟨b, off, rfl, ?_, fun i hi t ht => ?_⟩
        · rw [addAt] at h00
          exact World.block_lt_of_cell? w _ h00
        · rw [hL] at hi
          have := (hq i (by omega)).2 t ht
          rw [addAt] at this
          rw [show off + i * encK.k + t = off + (i * 15 + t) by show off + i * 15 + t = _; omega, this]
          simp
          rfl
      · obtain ⟨i, hi, rfl⟩ := List.mem_map.1 hz
        exact (hq i (by have := List.mem_range.1 hi; omega)).1
end
end Go.Proofs.Ytfdehnfcoojljaa
