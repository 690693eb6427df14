/- Offers: rows of rows of lines; what both have offered. -/
import Derived.Test.YteofblabimneiaaSearchN
import Derived.Test.YteofblabimneiaaLineEq
import Derived.Test.YteofblabimneiaaCycMine
namespace Go.Proofs.Yteofblabimneiaa
open Go.RowKit
def LL (w : World) (v : Value) (xss : List (List Lin)) : Prop := ∃ p c, v = .slice p xss.length c ∧ xss.length ≤ c ∧ (xss = [] ∨ ∃ b o, p = some ⟨b, o, none⟩ ∧ b < w.heap.size ∧ ∀ i (hi : i < xss.length), ∃ u, w.cell? ⟨b, o + i, none⟩ = some u ∧ TRow encN w u xss[i])
theorem LL.shape {w : World} {v : Value} {xss : List (List Lin)} (h : LL w v xss) : ∃ p c, v = .slice p xss.length c := by obtain ⟨p, c, e, _⟩ := h; exact ⟨p, c, e⟩
theorem LL.kept {w w' : World} {v : Value} {xss : List (List Lin)} (h : LL w v xss) (hb : Below w.heap.size w w') : LL w' v xss := by
  obtain ⟨p, c, rfl, hc, h⟩ := h
  refine ⟨p, c, rfl, hc, ?_⟩
  rcases h with h | ⟨b, o, rfl, hlt, h⟩
  · exact .inl h
  · refine .inr ⟨b, o, rfl, Nat.lt_of_lt_of_le hlt hb.size, fun i hi => ?_⟩
    obtain ⟨u, h1, h2⟩ := h i hi
    exact ⟨u, (hb.cell (p := ⟨b, _, none⟩) hlt).trans h1, h2.kept hb⟩
theorem LL.at_ {w : World} {p : Option Addr} {n c : Nat} {xss : List (List Lin)} (h : LL w (.slice p n c) xss) (i : Nat) (hi : i < xss.length) : ∃ b o u, p = some ⟨b, o, none⟩ ∧ b < w.heap.size ∧ w.cell? ⟨b, o + i, none⟩ = some u ∧ TRow encN w u xss[i] := by
  obtain ⟨p', c', e1, _, h⟩ := h
  cases e1
  rcases h with h | ⟨b, o, hp, hlt, h⟩
  · subst h; simp at hi
  · obtain ⟨u, h1, h2⟩ := h i hi
    exact ⟨b, o, u, hp, hlt, h1, h2⟩
def SortN (xs : List Lin) : Prop := SortedP (xs.map posN)
theorem ordP_ahead {x y : Lin} : ordP (posN x) (posN y) < 0 ↔ aheadB x y = true := ahead_ord.symm
theorem aheadB_trans {x y z : Lin} (h1 : aheadB x y = true) (h2 : aheadB y z = true) : aheadB x z = true := by
  unfold aheadB at *
  simp only [decide_eq_true_eq] at *
  omega
theorem pair_of_next (xs : List Lin) (h : ∀ j (hj : j + 1 < xs.length), aheadB xs[j] xs[j + 1] = true) : xs.Pairwise (fun x y => aheadB x y = true) := by
  rw [List.pairwise_iff_getElem]
  intro i j hi hj hij
  induction j with
  | zero => omega
  | succ j ih =>
    by_cases e : i = j
    · subst e; exact h i hj
    · exact aheadB_trans (ih (by omega) (by omega)) (h j hj)
theorem fit_pair {n : Int} {xs : List Lin} (h : fitE n xs = 0) : xs.Pairwise (fun x y => aheadB x y = true) := pair_of_next xs (fun j hj => fit_ahead h j hj)
theorem fit_sort {n : Int} {xs : List Lin} (h : fitE n xs = 0) : SortN xs := by
  unfold SortN SortedP
  rw [List.pairwise_map]
  exact (fit_pair h).imp (fun h => ordP_ahead.2 h)
theorem fit_of_pair {n : Int} {xs : List Lin} (hw : ∀ x ∈ xs, withinB n x = true) (hp : xs.Pairwise (fun x y => aheadB x y = true)) : fitE n xs = 0 :=
  fitE_of hw (fun j hj => List.pairwise_iff_getElem.1 hp j (j + 1) (by omega) hj (by omega))
theorem mem_around {x : Lin} {ys A mid B : List Lin} (h : AroundF posN ⟨x.s, x.n, 0⟩ ys A mid B) : x ∈ ys ↔ x ∈ mid := by
  rw [h.all]
  simp only [List.mem_append]
  constructor
  · rintro ((hx | hx) | hx)
    · have := h.pos.ahead (posN x) (List.mem_map.2 ⟨x, hx, rfl⟩)
      rw [ordP_lt] at this
      unfold posN at this
      dsimp only at this
      omega
    · exact hx
    · have := h.pos.behind (posN x) (List.mem_map.2 ⟨x, hx, rfl⟩)
      rw [ordP_gt] at this
      unfold posN at this
      dsimp only at this
      omega
  · intro hx
    exact .inl (.inr hx)
def offB (xss : List (List Lin)) (who : Int) (x : Lin) : Bool := decide (0 ≤ who ∧ who < xss.length ∧ x ∈ xss.getD who.toNat [])
def bothF (xss : List (List Lin)) (s : Nat) (x : Lin) : Bool := decide (x.s = (s : Int)) && offB xss x.b x
def partL (xss : List (List Lin)) (s : Nat) : List Lin := (xss.getD s []).filter (bothF xss s)
def bothL (xss : List (List Lin)) (k : Nat) : List Lin := (List.range k).flatMap (partL xss)
theorem bothL_succ (xss : List (List Lin)) (k : Nat) : bothL xss (k + 1) = bothL xss k ++ partL xss k := by
  unfold bothL
  rw [List.range_succ, List.flatMap_append]
  simp
theorem bothL_mem {xss : List (List Lin)} {k : Nat} {x : Lin} (h : x ∈ bothL xss k) : ∃ s : Nat, s < k ∧ x.s = (s : Int) ∧ x ∈ xss.getD s [] ∧ offB xss x.b x = true := by
  unfold bothL partL bothF at h
  obtain ⟨s, hs, hx⟩ := List.mem_flatMap.1 h
  have h2 := List.mem_filter.1 hx
  simp only [Bool.and_eq_true, decide_eq_true_eq] at h2
  exact ⟨s, List.mem_range.1 hs, h2.2.1, h2.1, h2.2.2⟩
theorem getD_memN {xss : List (List Lin)} {s : Nat} (h : s < xss.length) : xss.getD s [] ∈ xss := by
  rw [List.getD_eq_getElem?_getD, List.getElem?_eq_getElem h]
  exact List.getElem_mem h
theorem getD_outN {xss : List (List Lin)} {s : Nat} (h : ¬ s < xss.length) : xss.getD s [] = [] := by
  rw [List.getD_eq_getElem?_getD, List.getElem?_eq_none (by omega)]; rfl
theorem bothL_fits {xss : List (List Lin)} (n : Int) (h : ∀ o ∈ xss, fitE n o = 0) (k : Nat) : fitE n (bothL xss k) = 0 := by
  refine fit_of_pair (fun x hx => ?_) ?_
  · obtain ⟨s, _, _, h2, _⟩ := bothL_mem hx
    by_cases hs : s < xss.length
    · exact fit_within (h _ (getD_memN hs)) x h2
    · rw [getD_outN hs] at h2; cases h2
  · induction k with
    | zero => unfold bothL; exact List.Pairwise.nil
    | succ k ih =>
      rw [bothL_succ, List.pairwise_append]
      refine ⟨ih, ?_, fun x hx y hy => ?_⟩
      · unfold partL
        by_cases hs : k < xss.length
        · exact (fit_pair (h _ (getD_memN hs))).filter _
        · rw [getD_outN hs]; exact List.Pairwise.nil
      · obtain ⟨s, hs, h1, _⟩ := bothL_mem hx
        unfold partL bothF at hy
        have h2 := (List.mem_filter.1 hy).2
        simp only [Bool.and_eq_true, decide_eq_true_eq] at h2
        unfold aheadB
        apply decide_eq_true
        left
        omega
theorem partL_len (xss : List (List Lin)) (s : Nat) (h : ∀ o ∈ xss, o.length ≤ 60) : (partL xss s).length ≤ 60 := by
  unfold partL
  refine Nat.le_trans (List.length_filter_le _ _) ?_
  by_cases hs : s < xss.length
  · exact h _ (getD_memN hs)
  · rw [getD_outN hs]; simp
theorem bothL_len (xss : List (List Lin)) (h : ∀ o ∈ xss, o.length ≤ 60) : ∀ k, (bothL xss k).length ≤ 60 * k
  | 0 => by unfold bothL; simp
  | k + 1 => by
    have := bothL_len xss h k
    have := partL_len xss k h
    rw [bothL_succ, List.length_append]
    omega
end Go.Proofs.Yteofblabimneiaa
