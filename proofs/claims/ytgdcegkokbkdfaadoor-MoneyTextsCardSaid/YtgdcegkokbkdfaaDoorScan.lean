/- What contraref01.Parse reads, and that it is what money.Parse reads: pure. -/
import Derived.Test.YtgdcegkokbkdfaaDoorReads
namespace Go.Proofs.YtgdcegkokbkdfaaDoor
open Go.RowKit Go.Lib

def dig (c : UInt8) : Int := (c.toNat : Int) - 48
theorem rev_ind {P : List UInt8 → Prop} (h0 : P []) (h1 : ∀ l c, P l → P (l ++ [c])) (l : List UInt8) : P l := by
  have : ∀ n (l : List UInt8), l.length = n → P l := by
    intro n
    induction n with
    | zero => intro l hl; rw [List.length_eq_zero_iff] at hl; subst hl; exact h0
    | succ n ih =>
      intro l hl
      rcases l.eq_nil_or_concat with e | ⟨t, d, e⟩
      · subst e; simp at hl
      · have e' : l = t ++ [d] := by simpa using e
        subst e'
        exact h1 t d (ih t (by simp at hl; omega))
  exact this l.length l rfl
theorem val_rev (l : List UInt8) : (∀ c ∈ l, isD c) → val (l.reverse.map dig) = dval l := by
  refine rev_ind (P := fun l => (∀ c ∈ l, isD c) → val (l.reverse.map dig) = dval l) (fun _ => rfl) (fun l c ih h => ?_) l
  have hc := h c (by simp)
  unfold isD at hc
  rw [List.reverse_append, List.reverse_singleton, List.singleton_append, List.map_cons, val, ih (fun d hd => h d (by simp [hd])), dval_snoc, dig]
  omega
theorem digs_rev {l : List UInt8} (h : ∀ c ∈ l, isD c) : IsDigs (l.reverse.map dig) := by
  intro d hd
  obtain ⟨c, hc, rfl⟩ := List.mem_map.1 hd
  have := h c (by simpa using hc)
  unfold isD at this
  unfold dig; omega
theorem run_val (l : List UInt8) : (∀ c ∈ l, isD c) → ((dval l : Int) ≤ 9223372036854775809 ∧ runS l 0 = dval l) ∨ (9223372036854775809 ≤ (dval l : Int) ∧ runS l 0 = 9223372036854775809) := by
  refine rev_ind (P := fun l => (∀ c ∈ l, isD c) → ((dval l : Int) ≤ 9223372036854775809 ∧ runS l 0 = dval l) ∨ (9223372036854775809 ≤ (dval l : Int) ∧ runS l 0 = 9223372036854775809)) (fun _ => .inl ⟨by decide, rfl⟩) (fun l c ih h => ?_) l
  have hc := h c (by simp)
  unfold isD at hc
  rw [runS_snoc, dval_snoc]
  by_cases hs : runS l 0 ≤ 922337203685477580
  · rw [sizeMore_lo hs]
    rcases ih (fun d hd => h d (by simp [hd])) with ⟨h1, h2⟩ | ⟨h1, h2⟩ <;> omega
  · rw [sizeMore_hi (by omega)]
    rcases ih (fun d hd => h d (by simp [hd])) with ⟨h1, h2⟩ | ⟨h1, h2⟩ <;> omega
theorem norm_nil {l : List Int} (h : Norm l) : l = [] ↔ val l = 0 := by
  constructor
  · rintro rfl; rfl
  · intro h0
    rw [norm_digs h, h0]
    exact digs_zero
theorem refAns_amt (m : Bool) (xs : List Int) (hd : IsDigs xs) (v : Int) (hv : (val xs ≤ 9223372036854775809 ∧ v = val xs) ∨ (9223372036854775809 ≤ val xs ∧ v = 9223372036854775809)) : refAns m (some xs) = amt m 2 v := by
  obtain ⟨hn, hval, _⟩ := trimL_spec xs.length xs rfl hd
  have hnil := norm_nil hn
  have h0 := val_nonneg hn.1
  rw [hval] at hnil h0
  have hnil' : (m = true ∧ trimL xs = []) ↔ (m = true ∧ val xs = 0) := by rw [hnil]
  by_cases c1 : m = true ∧ val xs = 0
  · rw [refAns, if_pos (hnil'.2 c1), amt, amountN, amountE, if_pos (.inr ⟨c1.1, by omega⟩), if_pos (.inr ⟨c1.1, by omega⟩)]
  · have c1' : ¬ ((2 : Int) ≠ 2 ∨ (m = true ∧ v = 0)) := by
      rintro (h | h)
      · exact h rfl
      · exact c1 ⟨h.1, by omega⟩
    rw [refAns, if_neg (fun h => c1 (hnil'.1 h)), hval, amt, amountN, amountE, if_neg c1', if_neg c1']
    cases m
    · by_cases c2 : val xs ≤ 9223372036854775807
      · have hf : fitsB (sgn false (val xs)) = true := by unfold fitsB sgn Fits; simp; omega
        have h2 : ¬ (9223372036854775808 < v ∨ (v = 9223372036854775808 ∧ false = false)) := by
          rintro (h | h)
          · omega
          · omega
        rw [if_pos hf, if_neg h2, if_neg h2]
        simp only [sgn, Prod.mk.injEq]; simp; omega
      · have hf : ¬ fitsB (sgn false (val xs)) = true := by unfold fitsB sgn Fits; simp; omega
        have h2 : 9223372036854775808 < v ∨ (v = 9223372036854775808 ∧ false = false) := by
          rcases hv with ⟨h1, h2⟩ | ⟨h1, h2⟩
          · by_cases e : v = 9223372036854775808
            · exact .inr ⟨e, rfl⟩
            · left; omega
          · left; omega
        rw [if_neg hf, if_pos h2, if_pos h2]
    · by_cases c2 : val xs ≤ 9223372036854775808
      · have hf : fitsB (sgn true (val xs)) = true := by unfold fitsB sgn Fits; simp; omega
        have h2 : ¬ (9223372036854775808 < v ∨ (v = 9223372036854775808 ∧ true = false)) := by
          rintro (h | h)
          · omega
          · simp at h
        rw [if_pos hf, if_neg h2, if_neg h2]
        simp only [sgn, Prod.mk.injEq]; simp; omega
      · have hf : ¬ fitsB (sgn true (val xs)) = true := by unfold fitsB sgn Fits; simp; omega
        have h2 : 9223372036854775808 < v ∨ (v = 9223372036854775808 ∧ true = false) := by left; omega
        rw [if_neg hf, if_pos h2, if_pos h2]

theorem scan_pre (p b : List UInt8) (q : Nat) : ∀ (k : Nat) (xs : List Int), scan (p ++ b) (p.length + q) p.length k xs = scan b q 0 k xs := by
  intro k
  induction k with
  | zero => intro xs; rfl
  | succ k ih =>
    intro xs
    have e : (p ++ b).getD (p.length + k) 0 = b.getD (0 + k) 0 := by
      rw [List.getD_eq_getElem?_getD, List.getD_eq_getElem?_getD, List.getElem?_append_right (by omega), Nat.add_sub_cancel_left, Nat.zero_add]
    rw [scan, scan, e, ih, ih]
    by_cases h : k = q
    · rw [if_pos (show p.length + k = p.length + q by omega), if_pos (show 0 + k = q by omega)]
    · rw [if_neg (show ¬ p.length + k = p.length + q by omega), if_neg (show ¬ 0 + k = q by omega)]
theorem scan_low (b : List UInt8) (q : Nat) : ∀ (k : Nat) (xs : List Int), k ≤ q → k ≤ b.length → (∀ c ∈ b.take k, isD c) → scan b q 0 k xs = some (xs ++ (b.take k).reverse.map dig) := by
  intro k
  induction k with
  | zero => intro xs _ _ _; simp [scan]
  | succ k ih =>
    intro xs h1 h2 h
    have hk : k < b.length := by omega
    have et : b.take (k + 1) = b.take k ++ [b.getD k 0] := by
      rw [List.take_succ_eq_append_getElem hk, List.getD_eq_getElem?_getD, List.getElem?_eq_getElem hk]; rfl
    have hd := h (b.getD k 0) (by rw [et]; simp)
    unfold isD at hd
    rw [scan, if_neg (by omega), Nat.zero_add, if_pos hd, ih _ (by omega) (by omega) (fun c hc => h c (by rw [et]; simp [hc])), et, List.reverse_append, List.reverse_singleton, List.singleton_append, List.map_cons, List.append_assoc]
    rfl
theorem scan_back (b : List UInt8) (q : Nat) : ∀ (k : Nat) (xs : List Int), scan b q 0 k xs ≠ none → ∀ j, j < k → j ≠ q → isD (b.getD j 0) := by
  intro k
  induction k with
  | zero => intro xs _ j hj; omega
  | succ k ih =>
    intro xs h j hj hq
    rw [scan, Nat.zero_add] at h
    by_cases hk : k = q
    · rw [if_pos hk] at h
      exact ih _ h j (by omega) hq
    · rw [if_neg hk] at h
      by_cases hd : 48 ≤ (b.getD k 0).toNat ∧ (b.getD k 0).toNat ≤ 57
      · rw [if_pos hd] at h
        by_cases e : j = k
        · subst e; exact hd
        · exact ih _ h j (by omega) hq
      · rw [if_neg hd] at h; exact absurd rfl h

theorem scan_shape {b A : List UInt8} {x y : UInt8} (h : Shape b A x y) : scan b (b.length - 3) 0 b.length [] = some ((A ++ [x, y]).reverse.map dig) := by
  obtain ⟨rfl, _, hA, hx, hy, _⟩ := h
  unfold isD at hx hy
  have e0 : (A ++ [46, x, y]).length = A.length + 3 := by simp
  have e2 : (A ++ [46, x, y]).getD (0 + (A.length + 2)) 0 = y := by
    rw [Nat.zero_add, List.getD_eq_getElem?_getD, List.getElem?_append_right (by omega), Nat.add_sub_cancel_left]; rfl
  have e1 : (A ++ [46, x, y]).getD (0 + (A.length + 1)) 0 = x := by
    rw [Nat.zero_add, List.getD_eq_getElem?_getD, List.getElem?_append_right (by omega), Nat.add_sub_cancel_left]; rfl
  have et : (A ++ [46, x, y]).take A.length = A := by simp
  rw [e0, show A.length + 3 - 3 = A.length by omega, scan, if_neg (show ¬ 0 + (A.length + 2) = A.length by omega), e2, if_pos hy, scan, if_neg (show ¬ 0 + (A.length + 1) = A.length by omega), e1, if_pos hx, scan, if_pos (show 0 + A.length = A.length by omega),
    scan_low _ _ _ _ (Nat.le_refl _) (by rw [e0]; omega) (by rw [et]; exact hA), et]
  simp [dig]
theorem scan_shape_back {b : List UInt8} (h4 : 4 ≤ b.length) (h46 : (b.getD (b.length - 3) 0).toNat = 46) (h48 : b.length = 4 ∨ (b.getD 0 0).toNat ≠ 48) (h : scan b (b.length - 3) 0 b.length [] ≠ none) : ∃ A x y, Shape b A x y := by
  have hb := scan_back b (b.length - 3) b.length [] h
  have e : b = b.take (b.length - 3) ++ [b.getD (b.length - 3) 0, b.getD (b.length - 2) 0, b.getD (b.length - 1) 0] := by
    refine List.ext_getElem? (fun i => ?_)
    by_cases hi : i < b.length - 3
    · rw [List.getElem?_append_left (by simp; omega), List.getElem?_take, if_pos hi]
    · rw [List.getElem?_append_right (by simp; omega), List.length_take, Nat.min_eq_left (by omega)]
      by_cases h1 : i = b.length - 3
      · subst h1; rw [Nat.sub_self, List.getD_eq_getElem?_getD, List.getElem?_eq_getElem (by omega)]; rfl
      · by_cases h2 : i = b.length - 2
        · subst h2; rw [show b.length - 2 - (b.length - 3) = 1 by omega, List.getD_eq_getElem?_getD, List.getD_eq_getElem?_getD, List.getElem?_eq_getElem (i := b.length - 2) (by omega)]; rfl
        · by_cases h3 : i = b.length - 1
          · subst h3; rw [show b.length - 1 - (b.length - 3) = 2 by omega]; simp only [List.getD_eq_getElem?_getD, List.getElem?_eq_getElem (show b.length - 1 < b.length by omega)]; rfl
          · rw [List.getElem?_eq_none (by omega), List.getElem?_eq_none (by simp; omega)]
  refine ⟨b.take (b.length - 3), b.getD (b.length - 2) 0, b.getD (b.length - 1) 0, ?_, ?_, fun c hc => ?_, hb _ (by omega) (by omega), hb _ (by omega) (by omega), ?_⟩
  · have : b.getD (b.length - 3) 0 = 46 := UInt8.toNat_inj.1 h46
    rw [this] at e; exact e
  · intro h0
    have := congrArg List.length h0
    simp at this; omega
  · obtain ⟨j, hj, rfl⟩ := List.mem_iff_getElem.1 hc
    rw [List.length_take, Nat.min_eq_left (by omega)] at hj
    have := hb j (by omega) (by omega)
    rw [List.getD_eq_getElem?_getD, List.getElem?_eq_getElem (by omega)] at this
    rw [List.getElem_take]; exact this
  · rcases h48 with h48 | h48
    · left; simp; omega
    · right
      rw [List.getD_eq_getElem?_getD, List.getElem?_take, if_pos (by omega), ← List.getD_eq_getElem?_getD]; exact h48
/-- What contraref01.Parse answers. -/
def refB (m : Bool) (b : List UInt8) : Int × Int :=
  if 4 ≤ b.length ∧ (b.getD (b.length - 3) 0).toNat = 46 ∧ (b.length = 4 ∨ (b.getD 0 0).toNat ≠ 48) then refAns m (scan b (b.length - 3) 0 b.length []) else (0, 41)
theorem refB_runV (m : Bool) (b : List UInt8) (i : Nat) (hi : i = 0 → (b.getD 0 0).toNat ≠ 45) : refB m b = runV b i m false 0 0 0 := by
  by_cases hs : ∃ A x y, Shape b A x y
  · obtain ⟨A, x, y, h⟩ := hs
    rw [runV_shape h, refB, if_pos ?_, scan_shape h]
    · obtain ⟨_, _, hA, hx, hy, _⟩ := h
      have hAl : ∀ c ∈ A ++ [x, y], isD c := fun c hc => by
        rcases List.mem_append.1 hc with hc | hc
        · exact hA c hc
        · simp at hc; rcases hc with rfl | rfl
          · exact hx
          · exact hy
      refine refAns_amt m _ (digs_rev hAl) _ ?_
      rw [val_rev _ hAl]
      exact run_val _ hAl
    · obtain ⟨rfl, hne, hA, hx, hy, hz⟩ := h
      have h1 : 1 ≤ A.length := by
        cases A with
        | nil => exact absurd rfl hne
        | cons => simp
      have e0 : (A ++ [46, x, y]).length = A.length + 3 := by simp
      rw [e0]
      refine ⟨by omega, ?_, ?_⟩
      · rw [show A.length + 3 - 3 = A.length by omega, List.getD_eq_getElem?_getD, List.getElem?_append_right (Nat.le_refl _), Nat.sub_self]; rfl
      · rcases hz with hz | hz
        · left; omega
        · right; rw [List.getD_eq_getElem?_getD, List.getElem?_append_left (by omega), ← List.getD_eq_getElem?_getD]; exact hz
  · have h1 : runV b i m false 0 0 0 = (0, 41) := by
      by_cases h : runV b i m false 0 0 0 = (0, 41)
      · exact h
      · exact absurd (runV_shape_back i m h hi) hs
    rw [h1, refB]
    split
    · rename_i hc
      cases hsc : scan b (b.length - 3) 0 b.length [] with
      | none => rfl
      | some xs => exact absurd (scan_shape_back hc.1 hc.2.1 hc.2.2 (by rw [hsc]; simp)) hs
    · rfl
/-- What both answer for a whole text. -/
def refP (l : List UInt8) : Int × Int := if (l.getD 0 0).toNat = 45 then refB true (l.drop 1) else refB false l
theorem refP_runV (l : List UInt8) : refP l = runV l 0 false false 0 0 0 := by
  unfold refP
  by_cases h : (l.getD 0 0).toNat = 45
  · rw [if_pos h]
    match l, h with
    | [], h => exact absurd h (by decide)
    | c :: t, h =>
      rw [List.getD_cons_zero] at h
      rw [runV, if_pos h, if_pos rfl]
      exact refB_runV true t 1 (fun h => absurd h (by decide))
  · rw [if_neg h]
    exact refB_runV false l 0 (fun _ => h)
end Go.Proofs.YtgdcegkokbkdfaaDoor
