/- An amount's text is read as it. -/
import Derived.Test.YtgdahhbigpcldaaDoorParse
import Derived.Test.YtgdahhbigpcldaaDoorTextInj
namespace Go.Proofs.YtgdahhbigpcldaaDoor
open Go.RowKit Go.Lib
def sgn (m : Bool) (v : Int) : Int := if m then -v else v
def isD (c : UInt8) : Prop := 48 ≤ c.toNat ∧ c.toNat ≤ 57
def runS (l : List UInt8) (sz : Int) : Int := l.foldl (fun z c => sizeMore z ((c.toNat : Int) - 48)) sz
theorem runS_nil (sz : Int) : runS [] sz = sz := rfl
theorem runS_cons (c : UInt8) (l : List UInt8) (sz : Int) : runS (c :: l) sz = runS l (sizeMore sz ((c.toNat : Int) - 48)) := rfl
theorem runS_snoc (l : List UInt8) (c : UInt8) (sz : Int) : runS (l ++ [c]) sz = sizeMore (runS l sz) ((c.toNat : Int) - 48) := by simp [runS, List.foldl_append]
def amt (m : Bool) (be v : Int) : Int × Int := (amountN m be v, amountE m be v)

theorem runV_point (r : List UInt8) : ∀ (i : Nat) (m : Bool) (ah be sz : Int), 1 ≤ i → (∀ c ∈ r, isD c) → runV r i m true ah be sz = amt m (be + r.length) (runS r sz) := by
  induction r with
  | nil => intro i m ah be sz _ _; simp [runV, amt, runS_nil]
  | cons c r ih =>
    intro i m ah be sz hi h
    have hc := h c (by simp)
    unfold isD at hc
    rw [runV, if_neg (by omega), if_neg (by omega), if_pos hc, if_pos rfl, ih (i + 1) m ah (be + 1) _ (by omega) (fun x hx => h x (by simp [hx])), runS_cons, List.length_cons]
    congr 1; omega
theorem amt_far (m : Bool) (be v : Int) (h : be ≠ 2) : amt m be v = (0, 41) := by simp [amt, amountN, amountE, h]
theorem aheadB_far {ah sz : Int} (h : 2 ≤ ah) : aheadB ah sz = true := by unfold aheadB; simp; omega
theorem runV_ahead (A : List UInt8) (x y : UInt8) (hx : isD x) (hy : isD y) : ∀ (i : Nat) (m : Bool) (ah sz : Int), 1 ≤ i → 1 ≤ ah → (∀ c ∈ A, isD c) → (A = [] ∨ aheadB ah sz = true) →
    runV (A ++ [46, x, y]) i m false ah 0 sz = amt m 2 (runS (A ++ [x, y]) sz) := by
  induction A with
  | nil =>
    intro i m ah sz hi ha _ _
    rw [List.nil_append, runV, if_neg (by decide), if_pos (by decide), if_pos (by simp; omega), runV_point [x, y] (i + 1) m ah 0 sz (by omega) (fun c hc => by
      simp at hc; rcases hc with rfl | rfl
      · exact hx
      · exact hy)]
    rfl
  | cons c A ih =>
    intro i m ah sz hi ha h hz
    have hc := h c (by simp)
    unfold isD at hc
    rw [List.cons_append, runV, if_neg (by omega), if_neg (by omega), if_pos hc, if_neg (by decide), if_pos (hz.resolve_left (by simp)), ih (i + 1) m (ah + 1) _ (by omega) (by omega) (fun d hd => h d (by simp [hd])) (.inr (aheadB_far (by omega)))]
    rfl
/-- The form of a text behind its sign: digits, a point, two digits; and no nought ahead of another digit. -/
def Shape (b A : List UInt8) (x y : UInt8) : Prop := b = A ++ [46, x, y] ∧ A ≠ [] ∧ (∀ c ∈ A, isD c) ∧ isD x ∧ isD y ∧ (A.length = 1 ∨ (A.getD 0 0).toNat ≠ 48)
theorem runV_shape {b A : List UInt8} {x y : UInt8} (h : Shape b A x y) (i : Nat) (m : Bool) : runV b i m false 0 0 0 = amt m 2 (runS (A ++ [x, y]) 0) := by
  obtain ⟨rfl, hne, hA, hx, hy, hz⟩ := h
  match A, hne with
  | c :: A, _ =>
    have hc := hA c (by simp)
    unfold isD at hc
    rw [List.cons_append, runV, if_neg (by omega), if_neg (by omega), if_pos hc, if_neg (by decide), if_pos (by decide), runV_ahead A x y hx hy (i + 1) m _ _ (by omega) (by decide) (fun d hd => hA d (by simp [hd])) ?_]
    · rfl
    · rcases hz with hz | hz
      · left; simpa using hz
      · right
        rw [List.getD_cons_zero] at hz
        rw [sizeMore_lo (by decide)]
        unfold aheadB; simp; omega
theorem rev_ind {P : List UInt8 → Prop} (h0 : P []) (h1 : ∀ l c, P l → P (l ++ [c])) (l : List UInt8) : P l := by
  have : ∀ n (l : List UInt8), l.length = n → P l := by
    intro n
    induction n with
    | zero => intro l hl; rw [List.length_eq_zero_iff] at hl; subst hl; exact h0
    | succ n ih =>
      intro l hl
      rcases l.eq_nil_or_concat with e | ⟨t, d, e⟩
      · subst e; simp at hl
      · have e' : l = t ++ [d] := by simpa using e
        subst e'
        exact h1 t d (ih t (by simp at hl; omega))
  exact this l.length l rfl
theorem run_val (l : List UInt8) : (∀ c ∈ l, isD c) → ((dval l : Int) ≤ 9223372036854775809 ∧ runS l 0 = dval l) ∨ (9223372036854775809 ≤ (dval l : Int) ∧ runS l 0 = 9223372036854775809) := by
  refine rev_ind (P := fun l => (∀ c ∈ l, isD c) → ((dval l : Int) ≤ 9223372036854775809 ∧ runS l 0 = dval l) ∨ (9223372036854775809 ≤ (dval l : Int) ∧ runS l 0 = 9223372036854775809)) (fun _ => .inl ⟨by decide, rfl⟩) (fun l c ih h => ?_) l
  have hc := h c (by simp)
  unfold isD at hc
  rw [runS_snoc, dval_snoc]
  by_cases hs : runS l 0 ≤ 922337203685477580
  · rw [sizeMore_lo hs]
    rcases ih (fun d hd => h d (by simp [hd])) with ⟨h1, h2⟩ | ⟨h1, h2⟩ <;> omega
  · rw [sizeMore_hi (by omega)]
    rcases ih (fun d hd => h d (by simp [hd])) with ⟨h1, h2⟩ | ⟨h1, h2⟩ <;> omega
theorem dval_cons_pos (l : List UInt8) : ∀ z : Nat, 1 ≤ z → 1 ≤ l.foldl (fun a c => 10 * a + (c.toNat - 48)) z := by
  induction l with
  | nil => intro z h; exact h
  | cons c l ih => intro z h; exact ih (10 * z + (c.toNat - 48)) (by omega)
/-- No nought ahead of another digit. -/
def Lead (A : List UInt8) : Prop := A.length = 1 ∨ (A.getD 0 0).toNat ≠ 48
theorem dec_dval (A : List UInt8) : A ≠ [] → (∀ c ∈ A, isD c) → Lead A → Lib.decDigits (dval A) = A := by
  refine rev_ind (P := fun A => A ≠ [] → (∀ c ∈ A, isD c) → Lead A → Lib.decDigits (dval A) = A) (fun h => absurd rfl h) (fun A c ih _ hd hl => ?_) A
  have hc := hd c (by simp)
  unfold isD at hc
  have ec : UInt8.ofNat (48 + (c.toNat - 48)) = c := by
    rw [show 48 + (c.toNat - 48) = c.toNat by omega]; exact UInt8.ofNat_toNat
  rw [dval_snoc]
  match A with
  | [] =>
    show Lib.decDigits (10 * 0 + (c.toNat - 48)) = [c]
    rw [Lib.decDigits_one (by omega), Nat.mul_zero, Nat.zero_add, ec]
  | a :: A =>
    have ha := hd a (by simp)
    unfold isD at ha
    have hh : a.toNat ≠ 48 := by
      rcases hl with h | h
      · simp at h
      · exact h
    have hp : 1 ≤ dval (a :: A) := dval_cons_pos A (10 * 0 + (a.toNat - 48)) (by omega)
    have := ih (by simp) (fun d h => hd d (by simp at h ⊢; rcases h with h | h <;> simp [h])) (.inr hh)
    rw [Lib.decDigits, dif_neg (show ¬ 10 * dval (a :: A) + (c.toNat - 48) < 10 by omega), show (10 * dval (a :: A) + (c.toNat - 48)) / 10 = dval (a :: A) by omega, this, show (10 * dval (a :: A) + (c.toNat - 48)) % 10 = c.toNat - 48 by omega, ec]
theorem dec_lead (u : Nat) : Lead (Lib.decDigits u) := by
  induction u using Nat.strongRecOn with
  | _ u ih =>
    rw [Lib.decDigits]
    split
    · left; rfl
    · rename_i h
      right
      have hi := ih (u / 10) (by omega)
      have hne := dec_ne (u / 10)
      have hv := dval_dec (u / 10)
      have hdd := dec_digit (u / 10)
      cases hA : Lib.decDigits (u / 10) with
      | nil => exact absurd hA hne
      | cons a A =>
        rw [hA] at hi hv hdd
        rcases hi with hi | hi
        · have : A = [] := by simpa using hi
          subst this
          have ha := hdd a (by simp)
          have : a.toNat - 48 = u / 10 := by
            have e : dval [a] = 10 * 0 + (a.toNat - 48) := rfl
            rw [e] at hv; omega
          show a.toNat ≠ 48
          omega
        · exact hi
theorem tail_shape (n : Nat) : Shape (tailL n) (Lib.decDigits (n / 100)) (UInt8.ofNat (48 + n % 100 / 10)) (UInt8.ofNat (48 + n % 100 % 10)) := by
  refine ⟨rfl, dec_ne _, dec_digit _, ?_, ?_, dec_lead _⟩
  · unfold isD; rw [dig_toNat _ (by omega)]; omega
  · unfold isD; rw [dig_toNat _ (by omega)]; omega
theorem dval_tail (A : List UInt8) (x y : UInt8) : dval (A ++ [x, y]) = 100 * dval A + 10 * (x.toNat - 48) + (y.toNat - 48) := by
  rw [show A ++ [x, y] = (A ++ [x]) ++ [y] by simp, dval_snoc, dval_snoc]; omega
theorem shape_digs {b A : List UInt8} {x y : UInt8} (h : Shape b A x y) : ∀ c ∈ A ++ [x, y], isD c := fun c hc => by
  obtain ⟨_, _, hA, hx, hy, _⟩ := h
  rcases List.mem_append.1 hc with hc | hc
  · exact hA c hc
  · simp at hc; rcases hc with rfl | rfl
    · exact hx
    · exact hy
theorem tail_of_shape {b A : List UInt8} {x y : UInt8} (h : Shape b A x y) : tailL (dval (A ++ [x, y])) = b := by
  obtain ⟨rfl, hne, hA, hx, hy, hl⟩ := h
  unfold isD at hx hy
  rw [dval_tail, tailL, show (100 * dval A + 10 * (x.toNat - 48) + (y.toNat - 48)) / 100 = dval A by omega, show (100 * dval A + 10 * (x.toNat - 48) + (y.toNat - 48)) % 100 / 10 = x.toNat - 48 by omega,
    show (100 * dval A + 10 * (x.toNat - 48) + (y.toNat - 48)) % 100 % 10 = y.toNat - 48 by omega, dec_dval A hne hA hl, show 48 + (x.toNat - 48) = x.toNat by omega, show 48 + (y.toNat - 48) = y.toNat by omega]
  simp
theorem amt_zero {m : Bool} {v : Int} (h : (amt m 2 v).2 = 0) : ¬ (m = true ∧ v = 0) ∧ v ≤ 9223372036854775808 ∧ (m = false → v ≤ 9223372036854775807) ∧ (amt m 2 v).1 = sgn m v := by
  unfold amt amountN amountE at *
  by_cases c1 : (2 : Int) ≠ 2 ∨ (m = true ∧ v = 0)
  · simp only [if_pos c1] at h; exact absurd h (by decide)
  · simp only [if_neg c1] at h ⊢
    by_cases c2 : 9223372036854775808 < v ∨ (v = 9223372036854775808 ∧ m = false)
    · simp only [if_pos c2] at h; exact absurd h (by decide)
    · simp only [if_neg c2]
      refine ⟨fun hh => c1 (.inr hh), ?_, fun hm => ?_, by unfold sgn; rfl⟩
      · have : ¬ 9223372036854775808 < v := fun h => c2 (.inl h)
        omega
      · have h1 : ¬ 9223372036854775808 < v := fun h => c2 (.inl h)
        have h2 : ¬ v = 9223372036854775808 := fun h => c2 (.inr ⟨h, hm⟩)
        omega
theorem amt_good {m : Bool} {v : Int} (h : ¬ (m = true ∧ v = 0)) (h1 : v ≤ 9223372036854775808) (h2 : m = false → v ≤ 9223372036854775807) : amt m 2 v = (sgn m v, 0) := by
  have c1 : ¬ ((2 : Int) ≠ 2 ∨ (m = true ∧ v = 0)) := by
    rintro (h' | h')
    · exact h' rfl
    · exact h h'
  have c2 : ¬ (9223372036854775808 < v ∨ (v = 9223372036854775808 ∧ m = false)) := by
    rintro (h' | ⟨h', h''⟩)
    · omega
    · have := h2 h''; omega
  unfold amt amountN amountE
  rw [if_neg c1, if_neg c1, if_neg c2, if_neg c2]; rfl
theorem runV_shape_good {b A : List UInt8} {x y : UInt8} (h : Shape b A x y) (i : Nat) (m : Bool) (n : Nat) (hn : dval (A ++ [x, y]) = n) (h0 : ¬ (m = true ∧ n = 0)) (h1 : (n : Int) ≤ 9223372036854775808) (h2 : m = false → (n : Int) ≤ 9223372036854775807) :
    runV b i m false 0 0 0 = (sgn m n, 0) := by
  rw [runV_shape h]
  have := run_val _ (shape_digs h)
  rw [hn] at this
  rcases this with ⟨_, e⟩ | ⟨e, _⟩
  · rw [e]; exact amt_good (fun hh => h0 ⟨hh.1, by omega⟩) h1 h2
  · omega
theorem textL_nonneg {a : Int} (h : 0 ≤ a) : textL a = tailL a.natAbs := by rw [textL, if_neg (by omega)]; rfl
theorem textL_minus {a : Int} (h : a < 0) : textL a = 45 :: tailL a.natAbs := by rw [textL, if_pos h]; rfl
theorem runV_text (a : Int) (ha : Fits a) : runV (textL a) 0 false false 0 0 0 = (a, 0) := by
  unfold Fits at ha
  have hv : ∀ n, dval (Lib.decDigits (n / 100) ++ [UInt8.ofNat (48 + n % 100 / 10), UInt8.ofNat (48 + n % 100 % 10)]) = n := fun n => by
    rw [dval_tail, dval_dec, dig_toNat _ (by omega), dig_toNat _ (by omega)]; omega
  by_cases h : a < 0
  · rw [textL_minus h, runV, if_pos (by decide), if_pos rfl, runV_shape_good (tail_shape a.natAbs) 1 true a.natAbs (hv _) (by omega) (by omega) (by intro h; cases h)]
    unfold sgn; simp; omega
  · rw [textL_nonneg (by omega), runV_shape_good (tail_shape a.natAbs) 0 false a.natAbs (hv _) (by simp) (by omega) (by intro _; omega)]
    unfold sgn; simp; omega
theorem text_len {a : Int} (ha : Fits a) : (textL a).length ≤ 30 := by
  unfold Fits at ha
  have := dec_len (a.natAbs / 100) (by omega)
  unfold textL tailL
  split <;> simp <;> omega
end Go.Proofs.YtgdahhbigpcldaaDoor
