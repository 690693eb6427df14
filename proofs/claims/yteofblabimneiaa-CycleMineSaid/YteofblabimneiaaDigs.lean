/- Plain numbers: decimal digits, the least one first; no program is named here. -/
import Derived.RowKit
namespace Go.Proofs.Yteofblabimneiaa

/-- The decimal digits of a number, the least one first, no nought at the end. -/
def digs (n : Nat) : List Int := if n = 0 then [] else ((n % 10 : Nat) : Int) :: digs (n / 10)
termination_by n
decreasing_by omega
theorem digs_zero : digs 0 = [] := by rw [digs]; rfl
theorem digs_pos {n : Nat} (h : n ≠ 0) : digs n = ((n % 10 : Nat) : Int) :: digs (n / 10) := by rw [digs, if_neg h]

/-- The number of digits. -/
def val : List Int → Int
  | [] => 0
  | d :: t => d + 10 * val t
/-- Each is a digit. -/
def IsDigs (l : List Int) : Prop := ∀ d ∈ l, 0 ≤ d ∧ d ≤ 9
/-- Digits, and no nought at the end. -/
def Norm (l : List Int) : Prop := IsDigs l ∧ l.getLast? ≠ some 0

theorem IsDigs.cons {d : Int} {t : List Int} (h : IsDigs (d :: t)) : (0 ≤ d ∧ d ≤ 9) ∧ IsDigs t := ⟨h d (by simp), fun x hx => h x (by simp [hx])⟩
theorem val_nonneg {l : List Int} (h : IsDigs l) : 0 ≤ val l := by
  induction l with
  | nil => simp [val]
  | cons d t ih => obtain ⟨h1, h2⟩ := h.cons; have := ih h2; simp only [val]; omega
theorem val_digs (n : Nat) : val (digs n) = n := by
  induction n using Nat.strongRecOn with
  | _ n ih =>
    by_cases h : n = 0
    · subst h; simp [digs_zero, val]
    · rw [digs_pos h, val, ih (n / 10) (by omega)]; omega
theorem digs_isDigs (n : Nat) : IsDigs (digs n) := by
  induction n using Nat.strongRecOn with
  | _ n ih =>
    by_cases h : n = 0
    · subst h; intro d hd; simp [digs_zero] at hd
    · rw [digs_pos h]
      intro d hd
      rcases List.mem_cons.1 hd with rfl | hd
      · omega
      · exact ih (n / 10) (by omega) d hd
theorem digs_nil {n : Nat} : digs n = [] ↔ n = 0 := by
  constructor
  · intro h
    by_cases e : n = 0
    · exact e
    · rw [digs_pos e] at h; cases h
  · rintro rfl; exact digs_zero
theorem Norm.tail {d : Int} {t : List Int} (h : Norm (d :: t)) : Norm t := by
  refine ⟨h.1.cons.2, fun e => ?_⟩
  have h2 := h.2
  cases t with
  | nil => simp at e
  | cons x s => rw [List.getLast?_cons_cons] at h2; exact h2 e
theorem digs_norm (n : Nat) : Norm (digs n) := by
  refine ⟨digs_isDigs n, ?_⟩
  induction n using Nat.strongRecOn with
  | _ n ih =>
    by_cases h : n = 0
    · subst h; simp [digs_zero]
    · rw [digs_pos h]
      by_cases h10 : n / 10 = 0
      · rw [h10, digs_zero]; simp; omega
      · have := ih (n / 10) (by omega)
        rw [digs_pos h10] at this ⊢
        rw [List.getLast?_cons_cons]; exact this
/-- There is one way alone to write a number. -/
theorem norm_digs {l : List Int} (h : Norm l) : l = digs (val l).toNat := by
  induction l with
  | nil => simp [val, digs_zero]
  | cons d t ih =>
    have it := ih h.tail
    obtain ⟨⟨h1, h2⟩, h3⟩ := h.1.cons
    have hv := val_nonneg h3
    have hne : (val (d :: t)).toNat ≠ 0 := by
      simp only [val]
      intro e
      have h0 : val t = 0 := by omega
      have hd : d = 0 := by omega
      rw [h0] at it
      simp [digs_zero] at it
      subst it
      exact h.2 (by simp [hd])
    rw [digs_pos hne]
    simp only [val]
    rw [show ((((d + 10 * val t).toNat % 10 : Nat)) : Int) = d by omega, show (d + 10 * val t).toNat / 10 = (val t).toNat by omega, ← it]

theorem val_append (a b : List Int) : val (a ++ b) = val a + 10 ^ a.length * val b := by
  induction a with
  | nil => simp [val]
  | cons d t ih =>
    rw [List.cons_append, val, ih, val, List.length_cons, Int.pow_succ, Int.mul_add, Int.mul_comm (10 ^ t.length) 10, ← Int.mul_assoc, Int.add_assoc]
theorem val_lt {l : List Int} (h : IsDigs l) : val l < 10 ^ l.length := by
  induction l with
  | nil => simp [val]
  | cons d t ih =>
    obtain ⟨h1, h2⟩ := h.cons
    have := ih h2
    rw [val, List.length_cons, Int.pow_succ]; omega
theorem digs_length (n k : Nat) (h : n < 10 ^ k) : (digs n).length ≤ k := by
  induction k generalizing n with
  | zero => have : n = 0 := by simpa using h
            subst this; simp [digs_zero]
  | succ k ih =>
    by_cases e : n = 0
    · subst e; simp [digs_zero]
    · rw [digs_pos e, List.length_cons]
      have := ih (n / 10) (by rw [Nat.pow_succ] at h; omega)
      omega

/-- Without noughts at the end. -/
def trimL (l : List Int) : List Int := (l.reverse.dropWhile (· == 0)).reverse
theorem trimL_snoc_zero (l : List Int) : trimL (l ++ [0]) = trimL l := by simp [trimL]
theorem trimL_snoc {d : Int} (l : List Int) (h : d ≠ 0) : trimL (l ++ [d]) = l ++ [d] := by simp [trimL, h]
theorem trimL_nil : trimL [] = [] := rfl
theorem snoc_cases (l : List Int) : l = [] ∨ ∃ t d, l = t ++ [d] := by
  rcases l.eq_nil_or_concat with h | ⟨t, d, h⟩
  · exact .inl h
  · exact .inr ⟨t, d, by simpa using h⟩
theorem trimL_spec (n : Nat) : ∀ l : List Int, l.length = n → IsDigs l → Norm (trimL l) ∧ val (trimL l) = val l ∧ (trimL l).length ≤ n := by
  induction n with
  | zero => intro l hl _; rw [List.length_eq_zero_iff] at hl; subst hl; simp [trimL_nil, Norm, IsDigs]
  | succ n ih =>
    intro l hl hd
    rcases snoc_cases l with rfl | ⟨t, d, rfl⟩
    · simp at hl
    · have ht : IsDigs t := fun x hx => hd x (by simp [hx])
      by_cases h0 : d = 0
      · subst h0
        rw [trimL_snoc_zero]
        obtain ⟨a, b, c⟩ := ih t (by simpa using hl) ht
        exact ⟨a, by rw [b, val_append]; simp [val], by omega⟩
      · rw [trimL_snoc t h0]
        exact ⟨⟨hd, by simpa using h0⟩, rfl, by omega⟩
end Go.Proofs.Yteofblabimneiaa
