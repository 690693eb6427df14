/- What a law finds of two vectors together, place after place. -/
import Derived.Test.YtaooiejgigicoaaTotal
namespace Go.Proofs.Ytaooiejgigicoaa
open Go.RowKit
def sU (M N : List Int) (k : Nat) : List Int := (List.range 64).map (fun j => if j < k then sumN (atM M j + atM N j) else 0)
theorem sU_len (M N : List Int) (k : Nat) : (sU M N k).length = 64 := by simp [sU]
theorem sU_zero (M N : List Int) : sU M N 0 = List.replicate 64 0 := by
  apply List.ext_getElem (by simp [sU])
  intro i h1 h2
  simp only [sU, List.getElem_map, List.getElem_range, List.getElem_replicate]
  rw [if_neg (Nat.not_lt_zero _)]
theorem sU_succ (M N : List Int) (k : Nat) (_ : k < 64) : sU M N (k + 1) = (sU M N k).set k (sumN (atM M k + atM N k)) := by
  apply List.ext_getElem (by simp [sU])
  intro i h1 h2
  rw [List.getElem_set]
  simp only [sU, List.getElem_map, List.getElem_range]
  by_cases he : k = i
  · subst he; rw [if_pos (by omega), if_pos rfl]
  · rw [if_neg he]
    by_cases hl : i < k
    · rw [if_pos (by omega), if_pos hl]
    · rw [if_neg (by omega), if_neg hl]
theorem sU_all (M N : List Int) (h : ∀ j, j < 64 → Fits (atM M j + atM N j)) : sU M N 64 = addTo_ M N 64 := by
  apply List.ext_getElem (by simp [sU, addTo_])
  intro i h1 h2
  have hi : i < 64 := by rw [sU_len] at h1; exact h1
  simp only [sU, addTo_, List.getElem_map, List.getElem_range, if_pos hi]
  exact sumN_yes (h i hi)
def allU (M : List Int) (cur : Int) (k : Nat) : List Int := ((List.range k).filter (fun j => decide (((j % 8 : Nat) : Int) = cur))).map (atM M)
theorem allU_succ (M : List Int) (cur : Int) (k : Nat) : allU M cur (k + 1) = allU M cur k ++ (if ((k % 8 : Nat) : Int) = cur then [atM M k] else []) := by
  unfold allU
  have hf : ([k].filter (fun j => decide (((j % 8 : Nat) : Int) = cur))) = if ((k % 8 : Nat) : Int) = cur then [k] else [] := by
    rw [List.filter_cons]
    by_cases h : ((k % 8 : Nat) : Int) = cur
    · rw [if_pos (decide_eq_true h), if_pos h]; rfl
    · rw [if_neg (by rw [decide_eq_true_iff]; exact h), if_neg h]; rfl
  rw [List.range_succ, List.filter_append, List.map_append, hf]
  by_cases h : ((k % 8 : Nat) : Int) = cur
  · rw [if_pos h, if_pos h]; rfl
  · rw [if_neg h, if_neg h]; rfl
theorem allU_len (M : List Int) (cur : Int) (k : Nat) : (allU M cur k).length ≤ k := by
  unfold allU
  rw [List.length_map]
  have := List.length_filter_le (fun j => decide (((j % 8 : Nat) : Int) = cur)) (List.range k)
  rwa [List.length_range] at this
theorem allU_64 {M : List Int} (h : All64 M) (cur : Int) (k : Nat) : All64 (allU M cur k) := fun z hz => by
  unfold allU at hz
  obtain ⟨j, _, rfl⟩ := List.mem_map.1 hz
  exact h.getD j
theorem allU_sum (M : List Int) (cur : Int) : ∀ k, (amtsC cur (preP M k)).sum = (allU M cur k).sum
  | 0 => rfl
  | k + 1 => by
    rw [preP_succ, amtsC_app, List.sum_append, allU_sum M cur k, allU_succ, List.sum_append]
    congr 1
    rcases mid_val M k with ⟨h, g⟩ | ⟨h, _⟩
    · rw [h, g]
      split <;> rfl
    · rw [h, amtsC_one]
theorem mCells_set (M : List Int) (k : Nat) (z : Int) : (mCells M).setIfInBounds k (.int .i64 z) = mCells (M.set k z) := by
  unfold mCells
  rw [List.setIfInBounds_toArray, List.map_set]
theorem own_setLow {k : IntKind} {w : World} {base : Nat} {e : TypeId} {v : Value} {zs : List Int} (h : Own k w base e v zs) {a : Addr} (ha : a.block < base) (u : Value) : Own k (w.setCell a u) base e v zs := by
  refine ⟨h.1, ?_⟩
  rcases h.2 with h | ⟨g, cap, cur, rfl, hbg, hg, hr⟩
  · exact .inl h
  · exact .inr ⟨g, cap, cur, rfl, hbg, (Below.heap_setCell w a u g (by omega)).trans hg, hr⟩
/-- What the loops keep: X: the world ahead of them. -/
def URel (X : World) (M N : List Int) (cur : Int) (k : Nat) (fb : Bool) (v : Value) (wr : World) : Prop :=
  Below X.heap.size X wr ∧ Blk wr X.heap.size (mCells (sU M N k)) 30 ∧ Own .i64 wr (X.heap.size + 1) 2 v (allU M cur k) ∧ (fb = true ↔ ∀ j, j < k → Fits (atM M j + atM N j))
theorem fits_step {M N : List Int} {k : Nat} {fb : Bool} (h : fb = true ↔ ∀ j, j < k → Fits (atM M j + atM N j)) (hf : Fits (atM M k + atM N k)) : fb = true ↔ ∀ j, j < k + 1 → Fits (atM M j + atM N j) := by
  rw [h]
  constructor
  · intro g j hj
    by_cases he : j = k
    · subst he; exact hf
    · exact g j (by omega)
  · exact fun g j hj => g j (by omega)
theorem fits_no {M N : List Int} {k : Nat} (hf : ¬ Fits (atM M k + atM N k)) : false = true ↔ ∀ j, j < k + 1 → Fits (atM M j + atM N j) :=
  ⟨(fun h => by cases h), fun g => absurd (g k (by omega)) hf⟩
theorem fits_was {M N : List Int} {k : Nat} (h : false = true ↔ ∀ j, j < k → Fits (atM M j + atM N j)) : false = true ↔ ∀ j, j < k + 1 → Fits (atM M j + atM N j) :=
  ⟨(fun h => by cases h), fun g => h.2 (fun j hj => g j (by omega))⟩
end Go.Proofs.Ytaooiejgigicoaa
