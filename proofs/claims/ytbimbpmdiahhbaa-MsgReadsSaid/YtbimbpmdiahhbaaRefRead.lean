/- contraref04.Number and its like: what the document says is read. -/
import Derived.Test.YtbimbpmdiahhbaaRead
namespace Go.Proofs.Ytbimbpmdiahhbaa
open Go.RowKit
/-- The document's reader as a value: the text, the place, the error. -/
def rdV (s : ByteArray) (at_ : Nat) (e : Int) : Value := .agg #[.string s, .int .i64 at_, .int .i64 e]
def bytesOf (s : ByteArray) : List Nat := s.data.toList.map UInt8.toNat
/-- How many letters from a place on are 128 or more, ten at most. -/
def leadN : List Nat → Nat → Nat
  | [], _ => 0
  | _, 0 => 0
  | x :: xs, f + 1 => if 128 ≤ x then leadN xs f + 1 else 0
theorem leadN_le (xs : List Nat) (f : Nat) : leadN xs f ≤ f ∧ leadN xs f ≤ xs.length := by
  induction xs generalizing f with
  | nil => simp [leadN]
  | cons x xs ih =>
    cases f with
    | zero => simp [leadN]
    | succ f =>
      simp only [leadN]
      have := ih f
      split <;> simp <;> omega
theorem leadN_all (xs : List Nat) (f j : Nat) (h : j < leadN xs f) : 128 ≤ xs.getD j 0 := by
  induction xs generalizing f j with
  | nil => simp [leadN] at h
  | cons x xs ih =>
    cases f with
    | zero => simp [leadN] at h
    | succ f =>
      simp only [leadN] at h
      split at h
      · cases j with
        | zero => simpa
        | succ j => simp only [List.getD_cons_succ]; exact ih f j (by omega)
      · omega
theorem leadN_end (xs : List Nat) (f : Nat) (h : leadN xs f < f) (h2 : leadN xs f < xs.length) : xs.getD (leadN xs f) 0 < 128 := by
  induction xs generalizing f with
  | nil => simp at h2
  | cons x xs ih =>
    cases f with
    | zero => omega
    | succ f =>
      simp only [leadN] at h h2 ⊢
      split
      · rename_i hx
        rw [if_pos hx] at h h2
        simp only [List.getD_cons_succ]
        exact ih f (by omega) (by simpa using h2)
      · rename_i hx; simp; omega
/-- One letter more. -/
theorem leadN_step (xs : List Nat) (f j : Nat) (hj : j < f) (hl : j < xs.length) (h : ∀ i, i < j → 128 ≤ xs.getD i 0) : (128 ≤ xs.getD j 0 → j < leadN xs f) ∧ (xs.getD j 0 < 128 → leadN xs f = j) := by
  induction xs generalizing f j with
  | nil => simp at hl
  | cons x xs ih =>
    cases f with
    | zero => omega
    | succ f =>
      simp only [leadN]
      cases j with
      | zero =>
        simp only [List.getD_cons_zero]
        refine ⟨fun h => ?_, fun h => ?_⟩
        · rw [if_pos h]; omega
        · rw [if_neg (by omega)]
      | succ j =>
        have hx : 128 ≤ x := by simpa using h 0 (by omega)
        rw [if_pos hx]
        simp only [List.getD_cons_succ]
        have := ih f j (by omega) (by simpa using hl) (fun i hi => by have := h (i + 1) (by omega); simpa using this)
        omega
/-- Digits by sevens, the least first, as one number. -/
def horN : List Nat → Nat
  | [] => 0
  | x :: xs => x % 128 + 128 * horN xs
theorem horN_snoc (xs : List Nat) (y : Nat) : horN (xs ++ [y]) = horN xs + y % 128 * 128 ^ xs.length := by
  induction xs with
  | nil => simp [horN]
  | cons x xs ih =>
    simp only [List.cons_append, horN, ih, List.length_cons, Nat.pow_succ]
    rw [Nat.mul_add, ← Nat.mul_assoc, ← Nat.mul_assoc, Nat.add_assoc]
    congr 2
    rw [Nat.mul_comm 128, Nat.mul_assoc, Nat.mul_assoc, Nat.mul_comm 128]
/-- What the document says of the bytes from a place on. -/
def docL (xs : List Nat) : Int × Nat × Int :=
  let m := leadN xs 10
  if m = 10 ∨ (m < xs.length ∧ m = 9 ∧ 1 < xs.getD m 0) then (0, 0, 41)
  else if m = xs.length then (0, 0, 40)
  else if 0 < m ∧ xs.getD m 0 = 0 then (0, 0, 41)
  else (unzz (horN (xs.take (m + 1))), m + 1, 0)
theorem doc_gen (xs : List Nat) (j : Nat) (hj : j ≤ 9) (hl : j ≤ xs.length) (h : ∀ i, i < j → 128 ≤ xs.getD i 0) : readP (xs.drop j) j (horN (xs.take j)) = docL xs := by
  by_cases he : j = xs.length
  · rw [List.drop_eq_nil_of_le (by omega)]
    have hm : leadN xs 10 = j := by
      have h1 := leadN_le xs 10
      rcases Nat.lt_or_ge (leadN xs 10) j with h2 | h2
      · have := leadN_end xs 10 (by omega) (by omega)
        have := h _ h2
        omega
      · omega
    unfold docL
    simp only [hm]
    rw [if_neg (by omega), if_pos he]; rfl
  · have hlt : j < xs.length := by omega
    have hd : xs.drop j = xs.getD j 0 :: xs.drop (j + 1) := by
      rw [List.drop_eq_getElem_cons hlt, List.getD_eq_getElem?_getD, List.getElem?_eq_getElem hlt]; rfl
    have ht : xs.take (j + 1) = xs.take j ++ [xs.getD j 0] := by
      rw [List.take_succ_eq_append_getElem hlt, List.getD_eq_getElem?_getD, List.getElem?_eq_getElem hlt]; rfl
    have hst := leadN_step xs 10 j (by omega) hlt h
    have hz : horN (xs.take j) + xs.getD j 0 % 128 * 128 ^ j = horN (xs.take (j + 1)) := by
      rw [ht, horN_snoc, List.length_take, Nat.min_eq_left (by omega)]
    rw [hd]
    by_cases hb : xs.getD j 0 < 128
    · have hm := hst.2 hb
      by_cases hbad : (j = 9 ∧ 1 < xs.getD j 0) ∨ (0 < j ∧ xs.getD j 0 = 0)
      · rw [read_bad hbad]
        unfold docL
        simp only [hm]
        rcases hbad with ⟨h1, h2⟩ | ⟨h1, h2⟩
        · rw [if_pos (Or.inr ⟨hlt, h1, h2⟩)]
        · rw [if_neg (by omega), if_neg (by omega), if_pos ⟨h1, h2⟩]
      · rw [read_end hbad hb, hz]
        unfold docL
        simp only [hm]
        rw [if_neg (by omega), if_neg (by omega), if_neg (by omega)]
    · have hgt := hst.1 (by omega)
      by_cases h9 : j = 9
      · rw [read_bad (Or.inl ⟨h9, by omega⟩)]
        have h1 := leadN_le xs 10
        unfold docL
        simp only []
        rw [if_pos (Or.inl (by omega))]
      · rw [read_on (by omega) hb, hz]
        exact doc_gen xs (j + 1) (by omega) (by omega) (fun i hi => by
          rcases (show i < j ∨ i = j by omega) with h2 | rfl
          · exact h i h2
          · omega)
termination_by 10 - j
theorem doc_read (xs : List Nat) : docL xs = readL xs := (doc_gen xs 0 (by omega) (by omega) (fun i hi => by omega)).symm
theorem bytesOf_len (s : ByteArray) : (bytesOf s).length = s.size := by unfold bytesOf; rw [List.length_map]; rfl
theorem bytesOf_get (s : ByteArray) (i : Nat) (h : i < s.size) : (bytesOf s).getD i 0 = s[i].toNat := by
  have h2 : i < (bytesOf s).length := by rw [bytesOf_len]; exact h
  rw [List.getD_eq_getElem?_getD, List.getElem?_eq_getElem h2]
  simp [bytesOf]
  rfl
theorem drop_get (xs : List Nat) (a j : Nat) : (xs.drop a).getD j 0 = xs.getD (a + j) 0 := by rw [List.getD_eq_getElem?_getD, List.getD_eq_getElem?_getD, List.getElem?_drop]
theorem hor_drop (xs : List Nat) (q : Nat) (h : q < xs.length) : horN (xs.drop q) = xs.getD q 0 % 128 + 128 * horN (xs.drop (q + 1)) := by
  rw [List.drop_eq_getElem_cons h, horN, List.getD_eq_getElem?_getD, List.getElem?_eq_getElem h]; rfl
theorem horN_lt (xs : List Nat) : horN xs < 128 ^ xs.length := by
  induction xs with
  | nil => simp [horN]
  | cons x xs ih => simp only [horN, List.length_cons, Nat.pow_succ]; omega
theorem horN_drop_le (xs : List Nat) (q : Nat) : horN (xs.drop q) ≤ horN xs := by
  induction xs generalizing q with
  | nil => simp
  | cons x xs ih =>
    cases q with
    | zero => exact Nat.le_refl _
    | succ q =>
      simp only [List.drop_succ_cons, horN]
      have := ih q; omega
end Go.Proofs.Ytbimbpmdiahhbaa
