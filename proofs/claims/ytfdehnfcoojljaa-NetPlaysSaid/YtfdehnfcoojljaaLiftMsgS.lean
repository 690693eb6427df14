/- A slice of messages: their lists' lengths are bounded by the size of what is handed in. -/
import Derived.Test.YtfdehnfcoojljaaAtP
import Derived.SizedLaws
namespace Go.Proofs.Ytfdehnfcoojljaa
open Go.ChangeShapes Go.WideShapes Go.ChangeAt Go.RowKit
section
variable {H : Type} {enc : TypeId × Value → H} {P : Program} {w : World} {base : Nat} {held : Bool}
theorem slice_len {s t : TypeId} {fuel : Nat} {c : Value} {y : DataW H × List MemPlace} {p : Option Addr} {n cap : Nat}
    (hs : P.underlying s = some (.slice t)) (h : DataW.trod enc P w base (fun _ => true) held fuel s [c] = some y) (hw : ∀ k ∈ DataW.weights P s y.1, k ≤ reachBytes) (hc : c = .slice p n cap) : n * P.bytesOf t ≤ reachBytes := by
  rcases Go.Deep.open_slice hs h with ⟨hcs, _⟩ | ⟨a', len', cap', m, n', D, Pl, hcs, _, _, _, _, rfl, _⟩
  · simp at hcs
    rw [hcs] at hc
    cases hc
    simp
  · simp at hcs
    rw [hcs] at hc
    cases hc
    have := hw _ (by simp only [DataW.weights, hs, List.mem_cons]; exact .inl rfl)
    simp only [List.length_map, List.length_range] at this
    exact Nat.le_trans (Nat.mul_le_mul_right _ (Nat.le_add_right _ _)) this
/-- Of a message that is read: the lengths of its two lists. -/
theorem msg_len {t sl tl sn q : TypeId} {fk g f2 f3 f4 f5 f6 f7 f8 f9 : Field}
    (ht : P.underlying t = some (.struct #[fk, g, f2, f3, f4, f5, f6, f7, f8, f9])) (o8 : f8.offset = 9) (o9 : f9.offset = 10) (t8 : f8.type = sl) (t9 : f9.type = sn) (hs : P.underlying sl = some (.slice tl)) (hn : P.underlying sn = some (.slice q)) (c8 : P.cellsOf sl = 1) (c9 : P.cellsOf sn = 1) (bl : P.bytesOf tl = 32) (bq : P.bytesOf q = 8)
    (fuel : Nat) (x : MsgX) (y : DataW H × List MemPlace) (hf : DataW.trod enc P w base (fun _ => true) held fuel t x.cells = some y) (hw : ∀ k ∈ DataW.weights P t y.1, k ≤ reachBytes) : x.m.Sz := by
  obtain ⟨xs, k, hk, hxy, _, hxl, hf⟩ := DataW.trod_struct ht hf
  match xs, hxl with
  | [yk, yg, y2, y3, y4, y5, y6, y7, y8, y9], _ =>
    have g8 := hf 8 f8 rfl
    have g9 := hf 9 f9 rfl
    subst t8 t9
    simp [o8, o9, c8, c9, MsgX.cells, Msg.cells] at g8 g9
    have hw' : ∀ k ∈ DataW.weightsEach P (#[fk, g, f2, f3, f4, f5, f6, f7, f8, f9].toList.map (·.type)) [yk.1, yg.1, y2.1, y3.1, y4.1, y5.1, y6.1, y7.1, y8.1, y9.1], k ≤ reachBytes := by
      intro k hk
      refine hw k ?_
      rw [hxy]
      simp only [DataW.weights, ht]
      exact hk
    have e8 := slice_len hs g8 (fun k hk => hw' k (DataW.weights_mem_each (j := 8) (t := f8.type) (d := y8.1) rfl rfl k hk)) (p := x.pl) (n := x.m.ls.length) (cap := x.cl) rfl
    have e9 := slice_len hn g9 (fun k hk => hw' k (DataW.weights_mem_each (j := 9) (t := f9.type) (d := y9.1) rfl rfl k hk)) (p := x.pn) (n := x.m.ns.length) (cap := x.cn) rfl
    rw [bl] at e8
    rw [bq] at e9
    unfold reachBytes at e8 e9
    exact ⟨by omega, by omega⟩
theorem weights_mem_all {e : TypeId} : ∀ {ds : List (DataW H)} {d : DataW H}, d ∈ ds → ∀ n ∈ d.weights P e, n ∈ DataW.weightsAll P e ds
  | d0 :: ds, d, hd, n, hn => by
    unfold DataW.weightsAll
    rcases List.mem_cons.1 hd with rfl | hd
    · exact List.mem_append_left _ hn
    · exact List.mem_append_right _ (weights_mem_all hd n hn)
theorem msgs_of_open {t e : TypeId} {fuel : Nat} {a : Option Addr} {len cap : Nat} {x : DataW H × List MemPlace}
    (ht : P.underlying t = some (.slice e)) (ce : P.cellsOf e = 11)
    (rd : ∀ (fuel : Nat) (cs : List Value) (y : DataW H × List MemPlace), cs.length = 11 → DataW.trod enc P w base (fun _ => true) held fuel e cs = some y → ∃ x : MsgX, cs = x.cells ∧ x.In w)
    (sz : ∀ (fuel : Nat) (x : MsgX) (y : DataW H × List MemPlace), DataW.trod enc P w base (fun _ => true) held fuel e x.cells = some y → (∀ k ∈ DataW.weights P e y.1, k ≤ reachBytes) → x.m.Sz)
    (h : DataW.trod enc P w base (fun _ => true) held fuel t (Value.slice a len cap).cells.toList = some x) (hw : ∀ k ∈ DataW.weights P t x.1, k ≤ reachBytes) : ∃ xs : List MsgX, TRow encM w (.slice a len cap) xs ∧ ∀ y ∈ xs, y.In w ∧ y.m.Sz := by
  have h' : DataW.trod enc P w base (fun _ => true) held fuel t [.slice a len cap] = some x := by simpa [Value.cells] using h
  rcases Go.Deep.open_slice ht h' with ⟨hcs, _⟩ | ⟨a', len', cap', m, n, D, Pl, hcs, hb, hl, hm, hmm, rfl, hx⟩
  · simp at hcs
    obtain ⟨rfl, rfl, rfl⟩ := hcs
    exact ⟨[], TRow.nil_ encM w, (fun _ h => by cases h)⟩
  · simp at hcs
    obtain ⟨rfl, rfl, rfl⟩ := hcs
    have hlm : len ≤ m := by rw [hmm]; split <;> omega
    have each : ∀ i, i < len → ∃ y : MsgX, (y.In w ∧ y.m.Sz) ∧ ∀ t, t < 11 → w.cell? (a'.add (i * 11 + t)) = y.cells[t]? := by
      intro i hi
      obtain ⟨cs', h1, h2⟩ := hx i (by omega)
      rw [ce] at h1
      obtain ⟨_, hlen, hcell⟩ := World.cells?_some h1
      obtain ⟨y, rfl, hF⟩ := rd _ _ _ hlen h2
      refine ⟨y, ⟨hF, sz _ _ _ h2 (fun k hk => hw k ?_)⟩, fun t ht => ?_⟩
      · simp only [DataW.weights, ht, List.mem_cons]
        exact .inr (List.mem_append_left _ (weights_mem_all (List.mem_map.2 ⟨i, List.mem_range.2 hi, rfl⟩) k hk))
      · have e0 := hcell t (by omega)
        rw [Go.Deep.add_add] at e0
        rw [e0, List.getElem?_eq_getElem (by rw [hlen]; exact ht)]
    by_cases h0 : len = 0
    · subst h0
      exact ⟨[], ⟨_, _, rfl, Nat.zero_le _, .inl rfl⟩, (fun _ h => by cases h)⟩
    · obtain ⟨q0, _⟩ := each 0 (by omega)
      have each' : ∀ i, ∃ y : MsgX, i < len → (y.In w ∧ y.m.Sz) ∧ ∀ t, t < 11 → w.cell? (a'.add (i * 11 + t)) = y.cells[t]? := by
        intro i
        by_cases hi : i < len
        · obtain ⟨y, hy⟩ := each i hi
          exact ⟨y, fun _ => hy⟩
        · exact ⟨q0, fun h => absurd h hi⟩
      let q : Nat → MsgX := fun i => Classical.choose (each' i)
      have hq : ∀ i, i < len → ((q i).In w ∧ (q i).m.Sz) ∧ ∀ t, t < 11 → w.cell? (a'.add (i * 11 + t)) = (q i).cells[t]? := fun i => Classical.choose_spec (each' i)
      have hL : ((List.range len).map q).length = len := by simp
      refine ⟨(List.range len).map q, ⟨some a', cap, by rw [hL], by rw [hL]; exact hl, .inr ?_⟩, fun z hz => ?_⟩
      · obtain ⟨b, off, spot⟩ := a'
        have h00 := (hq 0 (by omega)).2 0 (by decide)
        have hspot : spot = none := by simpa [Addr.add] using World.cell?_spot h00
        subst hspot
        refine ⟨b, off, rfl, ?_, fun i hi t ht => ?_⟩
        · rw [addAt] at h00
          exact World.block_lt_of_cell? w _ h00
        · rw [hL] at hi
          have := (hq i (by omega)).2 t ht
          rw [addAt] at this
          rw [show off + i * encM.k + t = off + (i * 11 + t) by show off + i * 11 + t = _; omega, this]
          simp
          rfl
      · obtain ⟨i, hi, rfl⟩ := List.mem_map.1 hz
        exact (hq i (by have := List.mem_range.1 hi; omega)).1
end
end Go.Proofs.Ytfdehnfcoojljaa
