/- A list of whatever around a name. -/
import Derived.Test.YtbpfbebebppleaaVecPure
namespace Go.Proofs.Ytbpfbebebppleaa
structure AroundF {α : Type} (f : α → Pos) (t : Pos) (xs A mid B : List α) : Prop where
  all : xs = A ++ mid ++ B
  pos : Around t (xs.map f) (A.map f) (mid.map f) (B.map f)
section
variable {α : Type} {f : α → Pos} {t : Pos} {xs A mid B : List α}
theorem AroundF.le (h : AroundF f t xs A mid B) : A.length ≤ xs.length := by rw [h.all]; simp only [List.length_append]; omega
theorem AroundF.lt_iff (h : AroundF f t xs A mid B) (i : Nat) (hi : i < xs.length) : ordP (f xs[i]) t < 0 ↔ i < A.length := by
  have h2 := h.pos.lt_iff i (by rw [List.length_map]; exact hi)
  have e : (A.map f).length = A.length := List.length_map _
  rw [List.getElem_map, e] at h2
  exact h2
theorem AroundF.found (h : AroundF f t xs A mid B) (hi : A.length < xs.length) : ordP (f xs[A.length]) t = 0 ↔ mid ≠ [] := by
  have h2 := h.pos.found (by rw [List.length_map, List.length_map]; exact hi)
  have h3 : (xs.map f)[(A.map f).length]'(by rw [List.length_map, List.length_map]; exact hi) = f xs[A.length] := by
    rw [List.getElem_map]; simp
  rw [h3] at h2
  rw [h2]
  simp
theorem AroundF.notFound (h : AroundF f t xs A mid B) (hi : ¬ A.length < xs.length) : mid = [] := by
  have h2 := h.pos.notFound (by rw [List.length_map, List.length_map]; exact hi)
  simpa using h2
theorem aroundF_of_sorted (f : α → Pos) (t : Pos) (xs : List α) (h : SortedP (xs.map f)) : ∃ A mid B, AroundF f t xs A mid B := by
  obtain ⟨A, mid, B, ha⟩ := around_of_sorted t _ h
  have e := ha.all
  rw [List.append_assoc] at e
  obtain ⟨A', R, rfl, rfl, e2⟩ := List.map_eq_append_iff.1 e
  obtain ⟨M', B', rfl, rfl, rfl⟩ := List.map_eq_append_iff.1 e2
  exact ⟨A', M', B', by rw [List.append_assoc], ha⟩
theorem AroundF.mid1 (h : AroundF f t xs A mid B) : mid = [] ∨ ∃ q, mid = [q] ∧ ordP (f q) t = 0 := by
  rcases h.pos.there with h | ⟨q, h1, h2⟩
  · left; simpa using h
  · right
    match mid, h1 with
    | [x], h1 =>
      have e : f x = q := by simpa using h1
      exact ⟨x, rfl, by rw [e]; exact h2⟩
end
end Go.Proofs.Ytbpfbebebppleaa
