/- Lines: when they fit, which an entity is part of, what it has to have. -/
import Derived.Test.YteofblabimneiaaMsgData
import Derived.Test.YteofblabimneiaaSum0
import Derived.Test.YteofblabimneiaaCmp
namespace Go.Proofs.Yteofblabimneiaa
open Go.RowKit
def Lin.v (x : Lin) : Value := .agg #[.int .i64 x.s, .int .i64 x.n, .int .i64 x.b, .int .i64 x.a]
def lin0 : Lin := ⟨0, 0, 0, 0⟩
def withinB (n : Int) (x : Lin) : Bool := decide (0 ≤ x.s ∧ x.s < n ∧ 0 ≤ x.b ∧ x.b < n ∧ x.s ≠ x.b ∧ 1 ≤ x.n ∧ x.n ≤ 1048576 ∧ 1 ≤ x.a ∧ x.a ≤ 1125899906842624)
def aheadB (x y : Lin) : Bool := decide (x.s < y.s ∨ x.s = y.s ∧ x.n < y.n)
/-- What is wrong with line k. -/
def stepE (n : Int) (xs : List Lin) (k : Nat) : Int := if withinB n (xs.getD k lin0) = false then 1 else if 0 < k ∧ aheadB (xs.getD (k - 1) lin0) (xs.getD k lin0) = false then 41 else 0
def fitE (n : Int) (xs : List Lin) : Int := (((List.range xs.length).map (stepE n xs)).find? (fun e => e ≠ 0)).getD 0
theorem fitE_at {n : Int} {xs : List Lin} {k : Nat} (hk : k < xs.length) (hb : ∀ j, j < k → stepE n xs j = 0) (he : stepE n xs k ≠ 0) : fitE n xs = stepE n xs k := by
  have h : ((List.range xs.length).map (stepE n xs)).find? (fun e => e ≠ 0) = some (stepE n xs k) := by
    rw [List.find?_eq_some_iff_getElem]
    refine ⟨by simpa using he, k, by simpa using hk, by simp, fun j hj => ?_⟩
    simp [hb j hj]
  unfold fitE
  rw [h]; rfl
theorem fitE_all {n : Int} {xs : List Lin} (hb : ∀ j, j < xs.length → stepE n xs j = 0) : fitE n xs = 0 := by
  have h : ((List.range xs.length).map (stepE n xs)).find? (fun e => e ≠ 0) = none := by
    rw [List.find?_eq_none]
    intro e he
    obtain ⟨j, hj, rfl⟩ := List.mem_map.1 he
    simpa using hb j (List.mem_range.1 hj)
  unfold fitE
  rw [h]; rfl
theorem stepE_vals (n : Int) (xs : List Lin) (k : Nat) : stepE n xs k = 0 ∨ stepE n xs k = 1 ∨ stepE n xs k = 41 := by
  unfold stepE
  split
  · exact .inr (.inl rfl)
  · split
    · exact .inr (.inr rfl)
    · exact .inl rfl
theorem fitE_zero {n : Int} {xs : List Lin} (h : fitE n xs = 0) : ∀ j, j < xs.length → stepE n xs j = 0 := by
  intro j
  induction j using Nat.strongRecOn with
  | ind j ih =>
    intro hj
    refine Classical.byContradiction fun hne => hne ?_
    rw [← fitE_at hj (fun i hi => ih i hi (by omega)) hne, h]
theorem fitE_vals (n : Int) (xs : List Lin) : fitE n xs = 0 ∨ fitE n xs = 1 ∨ fitE n xs = 41 := by
  unfold fitE
  cases h : ((List.range xs.length).map (stepE n xs)).find? (fun e => e ≠ 0) with
  | none => exact .inl rfl
  | some e =>
    have := List.mem_of_find?_eq_some h
    obtain ⟨j, _, rfl⟩ := List.mem_map.1 this
    exact stepE_vals n xs j
theorem fit_within {n : Int} {xs : List Lin} (h : fitE n xs = 0) : ∀ x ∈ xs, withinB n x = true := by
  intro x hx
  obtain ⟨j, hj, rfl⟩ := List.mem_iff_getElem.1 hx
  have h1 := fitE_zero h j hj
  unfold stepE at h1
  rw [List.getD_eq_getElem?_getD, List.getElem?_eq_getElem hj] at h1
  cases hw : withinB n xs[j] with
  | true => rfl
  | false =>
    rw [Option.getD_some, hw, if_pos rfl] at h1
    cases h1
theorem fit_ahead {n : Int} {xs : List Lin} (h : fitE n xs = 0) (j : Nat) (hj : j + 1 < xs.length) : aheadB xs[j] xs[j + 1] = true := by
  have h1 := fitE_zero h (j + 1) hj
  have h0 := fit_within h _ (List.getElem_mem hj)
  unfold stepE at h1
  rw [Nat.add_sub_cancel, List.getD_eq_getElem?_getD, List.getElem?_eq_getElem hj, List.getD_eq_getElem?_getD, List.getElem?_eq_getElem (show j < xs.length by omega), Option.getD_some, Option.getD_some, h0, if_neg (by simp)] at h1
  cases ha : aheadB xs[j] xs[j + 1] with
  | true => rfl
  | false =>
    rw [ha, if_pos ⟨by omega, rfl⟩] at h1
    cases h1
theorem fitE_of {n : Int} {xs : List Lin} (hw : ∀ x ∈ xs, withinB n x = true) (ha : ∀ j (hj : j + 1 < xs.length), aheadB xs[j] xs[j + 1] = true) : fitE n xs = 0 := by
  refine fitE_all fun j hj => ?_
  unfold stepE
  rw [List.getD_eq_getElem?_getD, List.getElem?_eq_getElem hj, Option.getD_some, hw _ (List.getElem_mem hj), if_neg (by simp), if_neg]
  rintro ⟨h0, h1⟩
  obtain ⟨i, rfl⟩ : ∃ i, j = i + 1 := ⟨j - 1, by omega⟩
  rw [Nat.add_sub_cancel, List.getD_eq_getElem?_getD, List.getElem?_eq_getElem (show i < xs.length by omega), Option.getD_some, ha i hj] at h1
  cases h1
/-- The lines of an entity; what each gives it. -/
def mineB (me : Int) (x : Lin) : Bool := decide (x.s = me ∨ x.b = me)
def mineL (me : Int) (xs : List Lin) : List Lin := xs.filter (mineB me)
def gives (me : Int) (x : Lin) : Int := if x.s = me then x.a else -x.a
def netL (me : Int) (xs : List Lin) : List Int := (mineL me xs).map (gives me)
def netS (me : Int) (xs : List Lin) : Int := (netL me xs).sum
def netsL (n : Nat) (xs : List Lin) : List Int := (List.range n).map (fun (i : Nat) => netS (i : Int) xs)
theorem netL_64 {n me : Int} {xs : List Lin} (h : ∀ x ∈ xs, withinB n x = true) : ∀ z ∈ netL me xs, -1125899906842624 ≤ z ∧ z ≤ 1125899906842624 := by
  intro z hz
  obtain ⟨x, hx, rfl⟩ := List.mem_map.1 hz
  have h1 := h x (List.mem_filter.1 hx).1
  unfold withinB at h1
  have h2 := of_decide_eq_true h1
  unfold gives
  split <;> constructor <;> omega
theorem sum_small {zs : List Int} {B : Int} (h : ∀ z ∈ zs, -B ≤ z ∧ z ≤ B) : -(B * zs.length) ≤ zs.sum ∧ zs.sum ≤ B * zs.length := by
  induction zs with
  | nil => simp
  | cons a t ih =>
    have h1 := h a (by simp)
    have h2 := ih (fun b hb => h b (by simp [hb]))
    simp only [List.sum_cons, List.length_cons, Int.natCast_add, Int.natCast_one, Int.mul_add, Int.mul_one]
    omega
theorem netL_len (me : Int) (xs : List Lin) : (netL me xs).length ≤ xs.length := by
  unfold netL mineL
  rw [List.length_map]
  exact List.length_filter_le _ _
theorem net_fits {n me : Int} {xs : List Lin} (h : ∀ x ∈ xs, withinB n x = true) (hl : xs.length ≤ 8191) : Fits (netS me xs) := by
  have h1 := sum_small (netL_64 (me := me) h)
  have h2 := netL_len me xs
  unfold netS Fits
  have h3 : (1125899906842624 : Int) * ((netL me xs).length : Int) ≤ 1125899906842624 * 8191 := Int.mul_le_mul_of_nonneg_left (by omega) (by omega)
  omega
end Go.Proofs.Yteofblabimneiaa
