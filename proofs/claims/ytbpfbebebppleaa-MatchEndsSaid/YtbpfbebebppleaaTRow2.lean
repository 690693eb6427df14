/- Slices of structs: an element stored, the end cleared. -/
import Derived.Test.YtbpfbebebppleaaTRow
import Derived.Deep.MidRow
import Derived.Lib.SliceRun
namespace Go.Proofs.Ytbpfbebebppleaa
open Go.RowKit
theorem blk_put {b : Nat} {t : TypeId} : ∀ (vs : List Value) (o : Nat) (Z : Array Value) (w : World), Blk w b Z t → ∃ Z' : Array Value, Blk (w.setCells b o vs) b Z' t ∧ Z'.size = Z.size ∧ ∀ j, (j < o ∨ o + vs.length ≤ j → Z'[j]? = Z[j]?) ∧ (∀ (_ : o ≤ j), j < o + vs.length → j < Z.size → Z'[j]? = vs[j - o]?)
  | [], o, Z, w, h => ⟨Z, h, rfl, fun j => ⟨fun _ => rfl, fun h1 h2 _ => by simp at h2; omega⟩⟩
  | v :: r, o, Z, w, h => by
    obtain ⟨Z', h1, h2, h3⟩ := blk_put r (o + 1) (Z.setIfInBounds o v) (w.setCell ⟨b, o, none⟩ v) (h.set o v)
    refine ⟨Z', by rw [World.setCells]; exact h1, by rw [h2, Array.size_setIfInBounds], fun j => ⟨fun hj => ?_, fun ho hj hz => ?_⟩⟩
    · rw [(h3 j).1 (by simp at hj; omega), Array.getElem?_setIfInBounds_ne (by simp at hj; omega)]
    · by_cases he : j = o
      · subst he
        rw [(h3 j).1 (.inl (by omega)), Array.getElem?_setIfInBounds_self_of_lt hz]
        simp
      · rw [(h3 j).2 (by omega) (by simp at hj; omega) (by rw [Array.size_setIfInBounds]; exact hz), show j - o = (j - (o + 1)) + 1 by omega, List.getElem?_cons_succ]
theorem blk_put_all {w : World} {b : Nat} {t : TypeId} {Z : Array Value} (h : Blk w b Z t) (cs : Array Value) (hs : Z.size = cs.size) : Blk (w.setCells b 0 cs.toList) b cs t := by
  obtain ⟨Z', h1, h2, h3⟩ := blk_put cs.toList 0 Z w h
  have e : Z' = cs := by
    apply Array.ext_getElem?
    intro j
    by_cases hj : j < cs.size
    · rw [(h3 j).2 (Nat.zero_le _) (by simpa using hj) (by omega)]; simp
    · rw [Array.getElem?_eq_none (by omega), Array.getElem?_eq_none (by omega)]
  rw [← e] at h1 ⊢
  exact h1
theorem Blk.thereAt {w : World} {b : Nat} {cs : Array Value} {t : TypeId} (h : Blk w b cs t) : w.there b 0 cs.size := fun j hj => by
  refine ⟨?_, h.free _⟩
  rw [Nat.zero_add, h.cell j, Array.getElem?_eq_getElem hj]
  rfl
theorem below_put {B b : Nat} (hB : B ≤ b) : ∀ (vs : List Value) (o : Nat) (a w : World), Below B a w → Below B a (w.setCells b o vs)
  | [], _, _, _, h => h
  | v :: r, o, a, w, h => by
    rw [World.setCells]
    exact below_put hB r (o + 1) a _ (h.setCell (p := ⟨b, o, none⟩) hB v)
theorem blk_putOther {b g : Nat} {t : TypeId} {cs : Array Value} (hne : b ≠ g) : ∀ (vs : List Value) (o : Nat) (w : World), Blk w g cs t → Blk (w.setCells b o vs) g cs t
  | [], _, _, h => h
  | v :: r, o, w, h => by
    rw [World.setCells]
    exact blk_putOther hne r (o + 1) _ (h.setOther (a := ⟨b, o, none⟩) hne v)
section
variable {α : Type} {e : Enc α}
theorem mul_lt_of {i n k t : Nat} (hi : i < n) (ht : t < k) : i * k + t < n * k :=
  Nat.lt_of_lt_of_le (show i * k + t < (i + 1) * k by rw [Nat.add_mul]; omega) (Nat.mul_le_mul_right _ hi)
/-- Where an own slice lies. -/
theorem OwnT.lies {w : World} {base n c : Nat} {ty : TypeId} {p : Option Addr} {xs : List α} (h : OwnT e w base ty (.slice p n c) xs) (hn : 0 < n) : ∃ g cur, p = some ⟨g, 0, none⟩ ∧ base ≤ g ∧ Blk w g cur ty ∧ n ≤ c ∧ c ≤ maxLen ∧ cur.size = c * e.k ∧ cur.toList.take (n * e.k) = xs.flatMap e.E ∧ n = xs.length := by
  have hl : n = xs.length := by
    obtain ⟨p', c', e1⟩ := h.form
    exact (Value.slice.inj e1).2.1
  rcases h.2 with ⟨e1, h0⟩ | ⟨g, cap, cur, e1, hb, hg, hn2, hm, hs, ht⟩
  · omega
  · cases e1
    exact ⟨g, cur, rfl, hb, hg, hn2, hm, hs, ht, rfl⟩
theorem OwnT.mk' {w : World} {base n c g : Nat} {ty : TypeId} {cur : Array Value} {xs : List α} (hl : n = xs.length) (hb : base ≤ g) (hg : Blk w g cur ty) (hn : n ≤ c) (hm : c ≤ maxLen) (hs : cur.size = c * e.k) (ht : cur.toList.take (n * e.k) = xs.flatMap e.E) : OwnT e w base ty (.slice (some ⟨g, 0, none⟩) n c) xs := by
  subst hl
  exact ⟨flat_length e xs, .inr ⟨g, c, cur, rfl, hb, hg, hn, hm, hs, ht⟩⟩
/-- An element is stored. -/
theorem OwnT.put {w : World} {base n c g : Nat} {ty : TypeId} {xs : List α} (h : OwnT e w base ty (.slice (some ⟨g, 0, none⟩) n c) xs) (i : Nat) (hi : i < n) (x : α) : OwnT e (w.setCells g (i * e.k) (e.E x)) base ty (.slice (some ⟨g, 0, none⟩) n c) (xs.set i x) := by
  obtain ⟨g', cur, e1, hb, hg, hn, hm, hs, ht, hl⟩ := h.lies (by omega)
  cases e1
  obtain ⟨Z', z1, z2, z3⟩ := blk_put (e.E x) (i * e.k) cur w hg
  refine OwnT.mk' (by rw [List.length_set]; exact hl) hb z1 hn hm (by rw [z2, hs]) ?_
  apply List.ext_getElem?
  intro j
  have hk := e.pos
  by_cases hj : j < n * e.k
  · have hq : j / e.k < n := (Nat.div_lt_iff_lt_mul hk).2 hj
    have hr : j % e.k < e.k := Nat.mod_lt _ hk
    have e3 : j / e.k * e.k + j % e.k = j := by rw [Nat.mul_comm]; exact Nat.div_add_mod j e.k
    have hjc : j < cur.size := by rw [hs]; exact Nat.lt_of_lt_of_le hj (Nat.mul_le_mul_right _ hn)
    have hset := flat_get e (xs.set i x) (j / e.k) (j % e.k) (by rw [List.length_set]; omega) hr
    rw [e3] at hset
    rw [hset, List.getElem?_take, if_pos hj, Array.getElem?_toList, List.getElem_set]
    by_cases hqi : i = j / e.k
    · rw [if_pos hqi]
      have h1 : i * e.k ≤ j := by rw [hqi]; omega
      have h2 : j < i * e.k + e.k := by rw [hqi]; omega
      rw [(z3 j).2 h1 (by rw [e.len]; exact h2) hjc]
      congr 1
      rw [hqi]; omega
    · rw [if_neg hqi]
      have hout : j < i * e.k ∨ i * e.k + (e.E x).length ≤ j := by
        rw [e.len]
        rcases Nat.lt_or_gt_of_ne hqi with hh | hh
        · right
          have := Nat.mul_le_mul_right e.k (show i + 1 ≤ j / e.k by omega)
          rw [Nat.add_mul] at this; omega
        · left
          have := Nat.mul_le_mul_right e.k (show j / e.k + 1 ≤ i by omega)
          rw [Nat.add_mul] at this; omega
      rw [(z3 j).1 hout]
      have h4 := congrArg (fun l => l[j]?) ht
      simp only [List.getElem?_take] at h4
      rw [if_pos hj, Array.getElem?_toList] at h4
      rw [h4]
      have h5 := flat_get e xs (j / e.k) (j % e.k) (by omega) hr
      rw [e3] at h5
      exact h5
  · rw [List.getElem?_eq_none (by rw [List.length_take]; omega), List.getElem?_eq_none (by rw [flat_length, List.length_set, ← hl]; omega)]
theorem OwnT.there {w : World} {base n c g : Nat} {ty : TypeId} {xs : List α} (h : OwnT e w base ty (.slice (some ⟨g, 0, none⟩) n c) xs) (i m : Nat) (hi : i * e.k + m ≤ c * e.k) (hn : 0 < n) : w.there g (i * e.k) m := by
  obtain ⟨g', cur, e1, hb, hg, _, hm, hs, ht, hl⟩ := h.lies hn
  cases e1
  intro j hj
  refine ⟨?_, hg.free _⟩
  rw [hg.cell, Array.getElem?_eq_getElem (by rw [hs]; omega)]
  rfl
/-- What stands ahead of a place stays when all behind it is written. -/
theorem OwnT.cutAt {w : World} {base n c g : Nat} {ty : TypeId} {xs : List α} (h : OwnT e w base ty (.slice (some ⟨g, 0, none⟩) n c) xs) (i : Nat) (hi : i ≤ n) (hn : 0 < n) (vs : List Value) : OwnT e (w.setCells g (i * e.k) vs) base ty (.slice (some ⟨g, 0, none⟩) i c) (xs.take i) := by
  obtain ⟨g', cur, e1, hb, hg, hnc, hm, hs, ht, hl⟩ := h.lies hn
  cases e1
  obtain ⟨Z', z1, z2, z3⟩ := blk_put vs (i * e.k) cur w hg
  refine OwnT.mk' (by rw [List.length_take]; omega) hb z1 (by omega) hm (by rw [z2, hs]) ?_
  apply List.ext_getElem?
  intro j
  have hk := e.pos
  have hmul : i * e.k ≤ n * e.k := Nat.mul_le_mul_right _ hi
  by_cases hj : j < i * e.k
  · have hr : j % e.k < e.k := Nat.mod_lt _ hk
    have hq : j / e.k < i := (Nat.div_lt_iff_lt_mul hk).2 hj
    have e3 : j / e.k * e.k + j % e.k = j := by rw [Nat.mul_comm]; exact Nat.div_add_mod j e.k
    rw [List.getElem?_take, if_pos hj, Array.getElem?_toList, (z3 j).1 (.inl hj)]
    have h4 := congrArg (fun l => l[j]?) ht
    simp only [List.getElem?_take] at h4
    rw [if_pos (by omega), Array.getElem?_toList] at h4
    rw [h4]
    have h5 := flat_get e xs (j / e.k) (j % e.k) (by omega) hr
    have h6 := flat_get e (xs.take i) (j / e.k) (j % e.k) (by rw [List.length_take]; omega) hr
    rw [e3] at h5 h6
    rw [h5, h6, List.getElem_take]
  · rw [List.getElem?_eq_none (by rw [List.length_take]; omega), List.getElem?_eq_none (by rw [flat_length, List.length_take]; have := Nat.mul_le_mul_right e.k (Nat.min_le_left i xs.length); omega)]
theorem OwnT.putOther {w : World} {base b o : Nat} {ty : TypeId} {v : Value} {xs : List α} (h : OwnT e w base ty v xs) (hb : b < base) (vs : List Value) : OwnT e (w.setCells b o vs) base ty v xs := by
  refine h.stay (fun g hg => ?_)
  have h1 := h.block_ge g hg
  have h2 := h.lt g hg
  obtain ⟨_, hr⟩ := h
  rcases hr with ⟨e1, _⟩ | ⟨g', cap, cur, e1, _, hg', _⟩
  · subst e1; cases hg
  · subst e1
    cases hg
    exact (blk_putOther (by omega) vs o w hg').trans hg'.symm
end
/-- 'clear(s)', s a slice of structs. -/
theorem run_clear_t {P : Program} (w : World) (t ty r : TypeId) (z : Value) (ht : P.underlying t = some (.slice ty)) (hv : ∀ w, (zeroValue ty).run P w = .ok z w) (h1 : ∀ v ∈ z.cells, v.oneCell' = true) (b o n c : Nat) (hn : 0 < n)
    (hc : w.there b o (n * z.cells.size)) : ∃ vs : List Value, (Builtin.clear_ #[t] r #[.slice (some ⟨b, o, none⟩) n c]).run P w = .ok (.tuple #[]) (w.setCells b o vs) := by
  have hl : (Builtin.zeroCells z.cells n).toList.length = n * z.cells.size := by simp [Builtin.zeroCells]
  have hall : ∀ v ∈ (Builtin.zeroCells z.cells n).toList, v.oneCell' = true := by
    intro v hv'
    simp only [Builtin.zeroCells, Array.toList_map, List.mem_map] at hv'
    obtain ⟨i, hi, rfl⟩ := hv'
    have hi2 : i < n * z.cells.size := by simpa using hi
    rcases Nat.eq_zero_or_pos z.cells.size with h0 | h0
    · rw [h0] at hi2; omega
    · have hi3 : i % z.cells.size < z.cells.size := Nat.mod_lt _ h0
      rw [getElem!_pos z.cells _ hi3]
      exact h1 _ (Array.getElem_mem hi3)
  have hst := run_storeCells_cells (P := P) b o (Builtin.zeroCells z.cells n).toList 0 w (by rw [hl]; intro j hj; rw [Nat.add_zero]; exact (hc j hj).1) (by rw [hl]; intro j hj; rw [Nat.add_zero]; exact (hc j hj).2) hall
  simp only [Nat.add_zero] at hst
  refine ⟨(Builtin.zeroCells z.cells n).toList, ?_⟩
  obtain ⟨m, rfl⟩ : ∃ m, n = m + 1 := ⟨n - 1, by omega⟩
  simp [Builtin.clear_, run_underlying ht, hv, hst]
theorem stop_clear {P : Program} {ops : Array Oper} {rest : List Oper} {o : Oper} {a : Act} {w : World} {Q : Exit → Act → World → Prop} (s : Operand) (t : TypeId)
    (_ : o.op = .call { callee := .builtin .clear, args := #[s], argTypes := #[t] }) (h : Hid (wpList P ops Q (o :: rest) a w)) : wpList P ops Q (o :: rest) a w := h
theorem stop_storeT {P : Program} {ops : Array Oper} {rest : List Oper} {o : Oper} {a : Act} {w : World} {Q : Exit → Act → World → Prop} (ty : TypeId) (x y : Operand) (_ : o.op = .store ty x y) (h : Hid (wpList P ops Q (o :: rest) a w)) : wpList P ops Q (o :: rest) a w := h
theorem wpList_clear_t {P : Program} {w : World} {ops : Array Oper} {rest : List Oper} {o : Oper} {a : Act} {Q : Exit → Act → World → Prop} (hgd : o.guard = none) (s : Operand) (t : TypeId)
    (ho : o.op = .call { callee := .builtin .clear, args := #[s], argTypes := #[t] }) (ty : TypeId) (z : Value) (ht : P.underlying t = some (.slice ty)) (hv : ∀ w, (zeroValue ty).run P w = .ok z w) (h1 : ∀ v ∈ z.cells, v.oneCell' = true) (b p n c : Nat) (hn : 0 < n)
    (hs : a.eval s = .slice (some ⟨b, p, none⟩) n c) (hc : w.there b p (n * z.cells.size)) (h : ∀ vs : List Value, wpList P ops Q rest (a.put o.dst (.tuple #[])) (w.setCells b p vs)) : wpList P ops Q (o :: rest) a w := by
  refine wpList_plain hgd fun K hK => ?_
  obtain ⟨vs, hrun⟩ := run_clear_t w t ty o.type z ht hv h1 b p n c hn hc
  unfold Oper.wp
  simp [execOp, ho, resolve, invoke, builtin, hs, hrun, Result.andThen]
  exact hK _ _ (h vs)
end Go.Proofs.Ytbpfbebebppleaa
