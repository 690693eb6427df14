/- A text is read as the amount that it was written of; a text that is read is the text of what is read: pure. -/
import Derived.Test.YtgdcegkokbkdfaaDoorScan
namespace Go.Proofs.YtgdcegkokbkdfaaDoor
open Go.RowKit Go.Lib

theorem dval_cons_pos (l : List UInt8) : ∀ z : Nat, 1 ≤ z → 1 ≤ l.foldl (fun a c => 10 * a + (c.toNat - 48)) z := by
  induction l with
  | nil => intro z h; exact h
  | cons c l ih => intro z h; exact ih (10 * z + (c.toNat - 48)) (by omega)
/-- No nought ahead of another digit. -/
def Lead (A : List UInt8) : Prop := A.length = 1 ∨ (A.getD 0 0).toNat ≠ 48
theorem dec_dval (A : List UInt8) : A ≠ [] → (∀ c ∈ A, isD c) → Lead A → Lib.decDigits (dval A) = A := by
  refine rev_ind (P := fun A => A ≠ [] → (∀ c ∈ A, isD c) → Lead A → Lib.decDigits (dval A) = A) (fun h => absurd rfl h) (fun A c ih _ hd hl => ?_) A
  have hc := hd c (by simp)
  unfold isD at hc
  have ec : UInt8.ofNat (48 + (c.toNat - 48)) = c := by
    rw [show 48 + (c.toNat - 48) = c.toNat by omega]; exact UInt8.ofNat_toNat
  rw [dval_snoc]
  match A with
  | [] =>
    show Lib.decDigits (10 * 0 + (c.toNat - 48)) = [c]
    rw [Lib.decDigits_one (by omega), Nat.mul_zero, Nat.zero_add, ec]
  | a :: A =>
    have ha := hd a (by simp)
    unfold isD at ha
    have hh : a.toNat ≠ 48 := by
      rcases hl with h | h
      · simp at h
      · exact h
    have hp : 1 ≤ dval (a :: A) := dval_cons_pos A (10 * 0 + (a.toNat - 48)) (by omega)
    have := ih (by simp) (fun d h => hd d (by simp at h ⊢; rcases h with h | h <;> simp [h])) (.inr hh)
    rw [Lib.decDigits, dif_neg (show ¬ 10 * dval (a :: A) + (c.toNat - 48) < 10 by omega), show (10 * dval (a :: A) + (c.toNat - 48)) / 10 = dval (a :: A) by omega, this, show (10 * dval (a :: A) + (c.toNat - 48)) % 10 = c.toNat - 48 by omega, ec]
theorem dec_lead (u : Nat) : Lead (Lib.decDigits u) := by
  induction u using Nat.strongRecOn with
  | _ u ih =>
    rw [Lib.decDigits]
    split
    · left; rfl
    · rename_i h
      right
      have hi := ih (u / 10) (by omega)
      have hne := dec_ne (u / 10)
      have hv := dval_dec (u / 10)
      have hdd := dec_digit (u / 10)
      cases hA : Lib.decDigits (u / 10) with
      | nil => exact absurd hA hne
      | cons a A =>
        rw [hA] at hi hv hdd
        rcases hi with hi | hi
        · have : A = [] := by simpa using hi
          subst this
          have ha := hdd a (by simp)
          have : a.toNat - 48 = u / 10 := by
            have e : dval [a] = 10 * 0 + (a.toNat - 48) := rfl
            rw [e] at hv; omega
          show a.toNat ≠ 48
          omega
        · exact hi
theorem tail_shape (n : Nat) : Shape (tailL n) (Lib.decDigits (n / 100)) (UInt8.ofNat (48 + n % 100 / 10)) (UInt8.ofNat (48 + n % 100 % 10)) := by
  refine ⟨rfl, dec_ne _, dec_digit _, ?_, ?_, dec_lead _⟩
  · unfold isD; rw [dig_toNat _ (by omega)]; omega
  · unfold isD; rw [dig_toNat _ (by omega)]; omega
theorem dval_tail (A : List UInt8) (x y : UInt8) : dval (A ++ [x, y]) = 100 * dval A + 10 * (x.toNat - 48) + (y.toNat - 48) := by
  rw [show A ++ [x, y] = (A ++ [x]) ++ [y] by simp, dval_snoc, dval_snoc]; omega
theorem shape_digs {b A : List UInt8} {x y : UInt8} (h : Shape b A x y) : ∀ c ∈ A ++ [x, y], isD c := fun c hc => by
  obtain ⟨_, _, hA, hx, hy, _⟩ := h
  rcases List.mem_append.1 hc with hc | hc
  · exact hA c hc
  · simp at hc; rcases hc with rfl | rfl
    · exact hx
    · exact hy
theorem tail_of_shape {b A : List UInt8} {x y : UInt8} (h : Shape b A x y) : tailL (dval (A ++ [x, y])) = b := by
  obtain ⟨rfl, hne, hA, hx, hy, hl⟩ := h
  unfold isD at hx hy
  rw [dval_tail, tailL, show (100 * dval A + 10 * (x.toNat - 48) + (y.toNat - 48)) / 100 = dval A by omega, show (100 * dval A + 10 * (x.toNat - 48) + (y.toNat - 48)) % 100 / 10 = x.toNat - 48 by omega,
    show (100 * dval A + 10 * (x.toNat - 48) + (y.toNat - 48)) % 100 % 10 = y.toNat - 48 by omega, dec_dval A hne hA hl, show 48 + (x.toNat - 48) = x.toNat by omega, show 48 + (y.toNat - 48) = y.toNat by omega]
  simp
theorem amt_zero {m : Bool} {v : Int} (h : (amt m 2 v).2 = 0) : ¬ (m = true ∧ v = 0) ∧ v ≤ 9223372036854775808 ∧ (m = false → v ≤ 9223372036854775807) ∧ (amt m 2 v).1 = sgn m v := by
  unfold amt amountN amountE at *
  by_cases c1 : (2 : Int) ≠ 2 ∨ (m = true ∧ v = 0)
  · simp only [if_pos c1] at h; exact absurd h (by decide)
  · simp only [if_neg c1] at h ⊢
    by_cases c2 : 9223372036854775808 < v ∨ (v = 9223372036854775808 ∧ m = false)
    · simp only [if_pos c2] at h; exact absurd h (by decide)
    · simp only [if_neg c2]
      refine ⟨fun hh => c1 (.inr hh), ?_, fun hm => ?_, by unfold sgn; rfl⟩
      · have : ¬ 9223372036854775808 < v := fun h => c2 (.inl h)
        omega
      · have h1 : ¬ 9223372036854775808 < v := fun h => c2 (.inl h)
        have h2 : ¬ v = 9223372036854775808 := fun h => c2 (.inr ⟨h, hm⟩)
        omega
theorem amt_good {m : Bool} {v : Int} (h : ¬ (m = true ∧ v = 0)) (h1 : v ≤ 9223372036854775808) (h2 : m = false → v ≤ 9223372036854775807) : amt m 2 v = (sgn m v, 0) := by
  have c1 : ¬ ((2 : Int) ≠ 2 ∨ (m = true ∧ v = 0)) := by
    rintro (h' | h')
    · exact h' rfl
    · exact h h'
  have c2 : ¬ (9223372036854775808 < v ∨ (v = 9223372036854775808 ∧ m = false)) := by
    rintro (h' | ⟨h', h''⟩)
    · omega
    · have := h2 h''; omega
  unfold amt amountN amountE
  rw [if_neg c1, if_neg c1, if_neg c2, if_neg c2]; rfl
theorem runV_shape_good {b A : List UInt8} {x y : UInt8} (h : Shape b A x y) (i : Nat) (m : Bool) (n : Nat) (hn : dval (A ++ [x, y]) = n) (h0 : ¬ (m = true ∧ n = 0)) (h1 : (n : Int) ≤ 9223372036854775808) (h2 : m = false → (n : Int) ≤ 9223372036854775807) :
    runV b i m false 0 0 0 = (sgn m n, 0) := by
  rw [runV_shape h]
  have := run_val _ (shape_digs h)
  rw [hn] at this
  rcases this with ⟨_, e⟩ | ⟨e, _⟩
  · rw [e]; exact amt_good (fun hh => h0 ⟨hh.1, by omega⟩) h1 h2
  · omega
theorem runV_text (a : Int) (ha : Fits a) : runV (textL a) 0 false false 0 0 0 = (a, 0) := by
  unfold Fits at ha
  have hv : ∀ n, dval (Lib.decDigits (n / 100) ++ [UInt8.ofNat (48 + n % 100 / 10), UInt8.ofNat (48 + n % 100 % 10)]) = n := fun n => by
    rw [dval_tail, dval_dec, dig_toNat _ (by omega), dig_toNat _ (by omega)]; omega
  by_cases h : a < 0
  · rw [textL_minus h, runV, if_pos (by decide), if_pos rfl, runV_shape_good (tail_shape a.natAbs) 1 true a.natAbs (hv _) (by omega) (by omega) (by intro h; cases h)]
    unfold sgn; simp; omega
  · rw [textL_nonneg (by omega), runV_shape_good (tail_shape a.natAbs) 0 false a.natAbs (hv _) (by simp) (by omega) (by intro _; omega)]
    unfold sgn; simp; omega
theorem text_of_runV (l : List UInt8) (h : (runV l 0 false false 0 0 0).2 = 0) : Fits (runV l 0 false false 0 0 0).1 ∧ textL (runV l 0 false false 0 0 0).1 = l := by
  have key : ∀ (m : Bool) (b : List UInt8) (i : Nat), (i = 0 → (b.getD 0 0).toNat ≠ 45) → (runV b i m false 0 0 0).2 = 0 →
      ∃ n : Nat, runV b i m false 0 0 0 = (sgn m n, 0) ∧ tailL n = b ∧ ¬ (m = true ∧ n = 0) ∧ (n : Int) ≤ 9223372036854775808 ∧ (m = false → (n : Int) ≤ 9223372036854775807) := by
    intro m b i hi h0
    obtain ⟨A, x, y, hs⟩ := runV_shape_back i m (fun e => by rw [e] at h0; exact absurd h0 (by decide)) hi
    rw [runV_shape hs] at h0 ⊢
    obtain ⟨g1, g2, g3, g4⟩ := amt_zero h0
    rcases run_val _ (shape_digs hs) with ⟨_, e⟩ | ⟨_, e⟩
    · rw [e] at g1 g2 g3 g4 h0 ⊢
      refine ⟨dval (A ++ [x, y]), Prod.ext g4 h0, tail_of_shape hs, fun hh => g1 ⟨hh.1, by omega⟩, g2, g3⟩
    · omega
  by_cases h45 : (l.getD 0 0).toNat = 45
  · match l, h45 with
    | [], h45 => exact absurd h45 (by decide)
    | c :: t, h45 =>
      rw [List.getD_cons_zero] at h45
      have ec : c = 45 := UInt8.toNat_inj.1 h45
      rw [runV, if_pos h45, if_pos rfl] at h ⊢
      obtain ⟨n, e, ht, h0, h1, _⟩ := key true t (0 + 1) (fun h => absurd h (by decide)) h
      have hn : n ≠ 0 := fun e => h0 ⟨rfl, e⟩
      rw [e]
      refine ⟨by unfold Fits sgn; simp; omega, ?_⟩
      show textL (sgn true n) = c :: t
      rw [textL_minus (by unfold sgn; simp; omega), ec, show (sgn true n).natAbs = n by unfold sgn; simp, ht]
  · obtain ⟨n, e, ht, h0, h1, h2⟩ := key false l 0 (fun _ => h45) h
    have := h2 rfl
    rw [e]
    refine ⟨by unfold Fits sgn; simp; omega, ?_⟩
    show textL (sgn false n) = l
    rw [textL_nonneg (by unfold sgn; simp), show (sgn false n).natAbs = n by unfold sgn; simp, ht]
end Go.Proofs.YtgdcegkokbkdfaaDoor
