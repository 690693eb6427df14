/- A list of items with one put in. -/
import Derived.Test.YtbpfbebebppleaaAround
import Derived.Test.YtbpfbebebppleaaItemPure
namespace Go.Proofs.Ytbpfbebebppleaa
open Go.RowKit
/-- A book with an item put in. -/
def insX (X : List Itm) (x : Itm) : List Itm := X.filter (fun z => decide (ordP (posI z) (posI x) < 0)) ++ [x] ++ X.filter (fun z => decide (0 < ordP (posI z) (posI x)))
theorem ins_around {X A mid B : List Itm} {x : Itm} (h : AroundF posI (posI x) X A mid B) : A ++ [x] ++ B = insX X x ∧ (insX X x).length ≤ X.length + 1 := by
  have hA : ∀ z ∈ A, ordP (posI z) (posI x) < 0 := fun z hz => h.pos.ahead _ (List.mem_map_of_mem hz)
  have hB : ∀ z ∈ B, 0 < ordP (posI z) (posI x) := fun z hz => h.pos.behind _ (List.mem_map_of_mem hz)
  have hM : ∀ z ∈ mid, ordP (posI z) (posI x) = 0 := fun z hz => by
    rcases h.mid1 with e | ⟨q, e, hq⟩
    · rw [e] at hz; cases hz
    · rw [e] at hz; rw [List.mem_singleton.1 hz]; exact hq
  have f1 : X.filter (fun z => decide (ordP (posI z) (posI x) < 0)) = A := by
    rw [h.all, List.filter_append, List.filter_append, List.filter_eq_self.2 (fun z hz => decide_eq_true (hA z hz)), List.filter_eq_nil_iff.2 (fun z hz => by have := hM z hz; simp; omega), List.filter_eq_nil_iff.2 (fun z hz => by have := hB z hz; simp; omega)]
    simp
  have f2 : X.filter (fun z => decide (0 < ordP (posI z) (posI x))) = B := by
    rw [h.all, List.filter_append, List.filter_append, List.filter_eq_nil_iff.2 (fun z hz => by have := hA z hz; simp; omega), List.filter_eq_nil_iff.2 (fun z hz => by have := hM z hz; simp; omega), List.filter_eq_self.2 (fun z hz => decide_eq_true (hB z hz))]
    simp
  have e : A ++ [x] ++ B = insX X x := by unfold insX; rw [f1, f2]
  refine ⟨e, ?_⟩
  rw [← e, h.all]
  simp
  omega
theorem ins_sorted {X : List Itm} {x : Itm} (hs : SortedP (X.map posI)) : SortedP ((insX X x).map posI) := by
  have hsub : ∀ p : Itm → Bool, SortedP ((X.filter p).map posI) := fun p => List.Pairwise.sublist ((List.filter_sublist).map posI) hs
  unfold SortedP insX
  rw [List.map_append, List.map_append, List.pairwise_append, List.pairwise_append]
  refine ⟨⟨hsub _, by simp, ?_⟩, hsub _, ?_⟩
  · intro a ha b hb
    obtain ⟨z, hz, rfl⟩ := List.mem_map.1 ha
    have hb2 : b = posI x := by simpa using hb
    subst hb2
    exact of_decide_eq_true (List.mem_filter.1 hz).2
  · intro a ha b hb
    obtain ⟨y, hy, rfl⟩ := List.mem_map.1 hb
    have hyx : 0 < ordP (posI y) (posI x) := of_decide_eq_true (List.mem_filter.1 hy).2
    rcases List.mem_append.1 ha with ha | ha
    · obtain ⟨z, hz, rfl⟩ := List.mem_map.1 ha
      have hzx : ordP (posI z) (posI x) < 0 := of_decide_eq_true (List.mem_filter.1 hz).2
      rw [ordP_lt] at hzx ⊢
      rw [ordP_gt] at hyx
      omega
    · have ha2 : a = posI x := by simpa using ha
      subst ha2
      rw [ordP_gt] at hyx
      rw [ordP_lt]
      omega
end Go.Proofs.Ytbpfbebebppleaa
