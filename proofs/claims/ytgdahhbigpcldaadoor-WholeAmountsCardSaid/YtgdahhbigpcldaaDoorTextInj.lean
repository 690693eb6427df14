/- Unlike amounts have unlike texts. -/
import Derived.Test.YtgdahhbigpcldaaDoorText
namespace Go.Proofs.YtgdahhbigpcldaaDoor
open Go.RowKit Go.Lib

/-- The number of decimal digits. -/
def dval (l : List UInt8) : Nat := l.foldl (fun a c => 10 * a + (c.toNat - 48)) 0
theorem dval_snoc (l : List UInt8) (c : UInt8) : dval (l ++ [c]) = 10 * dval l + (c.toNat - 48) := by simp [dval, List.foldl_append]
theorem dig_toNat (k : Nat) (h : k < 10) : (UInt8.ofNat (48 + k)).toNat = 48 + k := by rw [UInt8.toNat_ofNat']; omega
theorem dval_dec (u : Nat) : dval (Lib.decDigits u) = u := by
  induction u using Nat.strongRecOn with
  | _ u ih =>
    rw [Lib.decDigits]
    split
    · rename_i h
      show 10 * 0 + ((UInt8.ofNat (48 + u)).toNat - 48) = u
      rw [dig_toNat u h]; omega
    · rw [dval_snoc, ih (u / 10) (by omega), dig_toNat _ (by omega)]; omega
theorem dec_inj {a b : Nat} (h : Lib.decDigits a = Lib.decDigits b) : a = b := by rw [← dval_dec a, h, dval_dec]
theorem dec_digit (u : Nat) : ∀ c ∈ Lib.decDigits u, 48 ≤ c.toNat ∧ c.toNat ≤ 57 := by
  induction u using Nat.strongRecOn with
  | _ u ih =>
    intro c hc
    rw [Lib.decDigits] at hc
    split at hc
    · rename_i h
      simp only [List.mem_cons, List.not_mem_nil, or_false] at hc
      subst hc; rw [dig_toNat u h]; omega
    · rcases List.mem_append.1 hc with hc | hc
      · exact ih (u / 10) (by omega) c hc
      · simp only [List.mem_cons, List.not_mem_nil, or_false] at hc
        subst hc; rw [dig_toNat _ (by omega)]; omega
theorem dec_ne (u : Nat) : Lib.decDigits u ≠ [] := by
  rw [Lib.decDigits]; split <;> simp
theorem tail_inj {m n : Nat} (h : tailL m = tailL n) : m = n := by
  unfold tailL at h
  obtain ⟨h1, h2⟩ := List.append_inj' h rfl
  have e := dec_inj h1
  simp only [List.cons.injEq, true_and, and_true] at h2
  have a := congrArg UInt8.toNat h2.1
  have b := congrArg UInt8.toNat h2.2
  rw [dig_toNat _ (by omega), dig_toNat _ (by omega)] at a b
  omega
theorem tail_head (n : Nat) (t : List UInt8) : tailL n ≠ 45 :: t := by
  unfold tailL
  have hd := dec_digit (n / 100)
  cases h : Lib.decDigits (n / 100) with
  | nil => exact absurd h (dec_ne _)
  | cons c r =>
    rw [h] at hd
    intro e
    rw [List.cons_append] at e
    have := (List.cons.inj e).1
    have h2 := hd c (by simp)
    rw [this] at h2
    exact absurd h2.1 (by decide)
theorem text_inj {a b : Int} (h : textL a = textL b) : a = b := by
  unfold textL at h
  by_cases ha : a < 0 <;> by_cases hb : b < 0
  · rw [if_pos ha, if_pos hb] at h
    have := tail_inj (List.cons.inj h).2; omega
  · rw [if_pos ha, if_neg hb] at h
    exact absurd h.symm (tail_head _ _)
  · rw [if_neg ha, if_pos hb] at h
    exact absurd h (tail_head _ _)
  · rw [if_neg ha, if_neg hb] at h
    have := tail_inj h; omega
end Go.Proofs.YtgdahhbigpcldaaDoor
