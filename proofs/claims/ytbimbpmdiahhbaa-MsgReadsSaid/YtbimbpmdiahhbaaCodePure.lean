/- Numbers by sevens, as plain numbers: what is written, what is read. -/
import Derived.Test.YtbimbpmdiahhbaaOct
namespace Go.Proofs.Ytbimbpmdiahhbaa
/-- A whole number without its sign. -/
def zz (n : Int) : Nat := if 0 ≤ n then (2 * n).toNat else (-2 * n - 1).toNat
def unzz (u : Nat) : Int := if u % 2 = 0 then (u / 2 : Nat) else -((u / 2 : Nat) : Int) - 1
theorem unzz_zz (n : Int) : unzz (zz n) = n := by unfold unzz zz; split <;> split <;> omega
theorem zz_unzz (u : Nat) : zz (unzz u) = u := by unfold unzz zz; split <;> split <;> omega
theorem zz_lt {n : Int} (h1 : -9223372036854775808 ≤ n) (h2 : n ≤ 9223372036854775807) : zz n < 18446744073709551616 := by unfold zz; split <;> omega
theorem unzz_fits {u : Nat} (h : u < 18446744073709551616) : -9223372036854775808 ≤ unzz u ∧ unzz u ≤ 9223372036854775807 := by unfold unzz; split <;> omega
/-- By sevens, the least first. -/
def leb (u : Nat) : List Int := if h : u < 128 then [(u : Int)] else ((u % 128 + 128 : Nat) : Int) :: leb (u / 128)
termination_by u
decreasing_by omega
theorem leb_small {u : Nat} (h : u < 128) : leb u = [(u : Int)] := by rw [leb, dif_pos h]
theorem leb_big {u : Nat} (h : ¬ u < 128) : leb u = ((u % 128 + 128 : Nat) : Int) :: leb (u / 128) := by rw [leb, dif_neg h]
theorem leb_oct (u : Nat) : Oct (leb u) := by
  induction u using Nat.strongRecOn with
  | _ u ih =>
    by_cases h : u < 128
    · rw [leb_small h]; intro a ha; simp at ha; omega
    · rw [leb_big h]; intro a ha
      rcases List.mem_cons.1 ha with rfl | ha
      · omega
      · exact ih _ (by omega) a ha
theorem leb_ne (u : Nat) : leb u ≠ [] := by
  by_cases h : u < 128
  · rw [leb_small h]; simp
  · rw [leb_big h]; simp
theorem leb_length (k u : Nat) (h : u < 128 ^ (k + 1)) : (leb u).length ≤ k + 1 := by
  induction k generalizing u with
  | zero => rw [leb_small (by simpa using h)]; simp
  | succ k ih =>
    by_cases h1 : u < 128
    · rw [leb_small h1]; simp
    · rw [leb_big h1, List.length_cons]
      have := ih (u / 128) (Nat.div_lt_of_lt_mul (by rw [Nat.pow_succ, Nat.mul_comm] at h; exact h))
      omega
theorem leb_ten {u : Nat} (h : u < 18446744073709551616) : (leb u).length ≤ 10 := leb_length 9 u (Nat.lt_of_lt_of_le h (by decide))
/-- What is read of bytes from place i on, u so far: the number, how many bytes, the error. -/
def readP : List Nat → Nat → Nat → Int × Nat × Int
  | [], _, _ => (0, 0, 40)
  | x :: xs, i, u => if (i = 9 ∧ 1 < x) ∨ (0 < i ∧ x = 0) then (0, 0, 41) else if x < 128 then (unzz (u + x % 128 * 128 ^ i), i + 1, 0) else readP xs (i + 1) (u + x % 128 * 128 ^ i)
theorem read_bad {x : Nat} {xs : List Nat} {i u : Nat} (h : (i = 9 ∧ 1 < x) ∨ (0 < i ∧ x = 0)) : readP (x :: xs) i u = (0, 0, 41) := by rw [readP, if_pos h]
theorem read_end {x : Nat} {xs : List Nat} {i u : Nat} (h : ¬ ((i = 9 ∧ 1 < x) ∨ (0 < i ∧ x = 0))) (hx : x < 128) : readP (x :: xs) i u = (unzz (u + x % 128 * 128 ^ i), i + 1, 0) := by rw [readP, if_neg h, if_pos hx]
theorem read_on {x : Nat} {xs : List Nat} {i u : Nat} (h : ¬ ((i = 9 ∧ 1 < x) ∨ (0 < i ∧ x = 0))) (hx : ¬ x < 128) : readP (x :: xs) i u = readP xs (i + 1) (u + x % 128 * 128 ^ i) := by rw [readP, if_neg h, if_neg hx]
def readL (xs : List Nat) : Int × Nat × Int := readP xs 0 0
/-- Whatever is read is as long as what is there, and its error one of three. -/
theorem readP_size (xs : List Nat) (i u : Nat) : (readP xs i u).2.1 ≤ i + xs.length ∧ ((readP xs i u).2.2 = 0 ∨ (readP xs i u).2.2 = 40 ∧ (readP xs i u).1 = 0 ∨ (readP xs i u).2.2 = 41 ∧ (readP xs i u).1 = 0) ∧ ((readP xs i u).2.2 = 0 → i < (readP xs i u).2.1) := by
  induction xs generalizing i u with
  | nil => simp [readP]
  | cons x xs ih =>
    by_cases h : (i = 9 ∧ 1 < x) ∨ (0 < i ∧ x = 0)
    · rw [read_bad h]; simp
    · by_cases hx : x < 128
      · rw [read_end h hx]; simp
      · rw [read_on h hx]
        have := ih (i + 1) (u + x % 128 * 128 ^ i)
        simp only [List.length_cons]
        omega
theorem readP_fits (xs : List Nat) (i u : Nat) (hi : i ≤ 9) (hu : u < 128 ^ i) : -9223372036854775808 ≤ (readP xs i u).1 ∧ (readP xs i u).1 ≤ 9223372036854775807 := by
  induction xs generalizing i u with
  | nil => simp [readP]
  | cons x xs ih =>
    by_cases h : (i = 9 ∧ 1 < x) ∨ (0 < i ∧ x = 0)
    · rw [read_bad h]; simp
    · have hp : 0 < 128 ^ i := Nat.pow_pos (by decide)
      have h7 : x % 128 < 128 := Nat.mod_lt _ (by decide)
      have hm : u + x % 128 * 128 ^ i < 128 ^ (i + 1) := by
        rw [Nat.pow_succ]
        have : x % 128 * 128 ^ i ≤ 127 * 128 ^ i := Nat.mul_le_mul_right _ (by omega)
        omega
      by_cases hx : x < 128
      · rw [read_end h hx]
        refine unzz_fits ?_
        by_cases h9 : i = 9
        · subst h9
          have : x % 128 ≤ 1 := by omega
          have : x % 128 * 128 ^ 9 ≤ 1 * 128 ^ 9 := Nat.mul_le_mul_right _ this
          omega
        · have : 128 ^ (i + 1) ≤ 128 ^ 9 := Nat.pow_le_pow_right (by decide) (by omega)
          omega
      · rw [read_on h hx]
        exact ih (i + 1) _ (by omega) hm
/-- What is written is read, whatever is behind it. -/
theorem readP_leb (x : Nat) (ys : List Nat) (i u : Nat) (hx : u + x * 128 ^ i < 18446744073709551616) (h0 : 0 < i → 0 < x) : readP (natsOf (leb x) ++ ys) i u = (unzz (u + x * 128 ^ i), i + (leb x).length, 0) := by
  have hp : 0 < 128 ^ i := Nat.pow_pos (by decide)
  induction x using Nat.strongRecOn generalizing i u with
  | _ x ih =>
    have h9 : 9 ≤ i → x * 128 ^ 9 ≤ x * 128 ^ i := fun h => Nat.mul_le_mul_left _ (Nat.pow_le_pow_right (by decide) h)
    by_cases h : x < 128
    · rw [leb_small h]
      have hb : ¬ ((i = 9 ∧ 1 < x) ∨ (0 < i ∧ x = 0)) := by
        rintro (⟨rfl, h1⟩ | ⟨h1, rfl⟩)
        · omega
        · exact absurd (h0 h1) (by omega)
      show readP (((x : Int).toNat) :: ys) i u = _
      rw [Int.toNat_natCast, read_end hb h, Nat.mod_eq_of_lt h]
      rfl
    · rw [leb_big h]
      have hb : ¬ ((i = 9 ∧ 1 < x % 128 + 128) ∨ (0 < i ∧ x % 128 + 128 = 0)) := by
        rintro (⟨rfl, h1⟩ | ⟨h1, h2⟩)
        · omega
        · omega
      show readP ((((x % 128 + 128 : Nat) : Int).toNat) :: (natsOf (leb (x / 128)) ++ ys)) i u = _
      have e1 : (x % 128 + 128) % 128 = x % 128 := by omega
      have e2 : u + x % 128 * 128 ^ i + x / 128 * 128 ^ (i + 1) = u + x * 128 ^ i := by
        rw [Nat.pow_succ, Nat.mul_comm (128 ^ i) 128, ← Nat.mul_assoc, Nat.add_assoc, ← Nat.add_mul]
        congr 2; omega
      rw [Int.toNat_natCast, read_on hb (by omega), e1, ih (x / 128) (by omega) (i + 1) _ (by rw [e2]; exact hx) (fun _ => by omega) (Nat.pow_pos (by decide)), e2, List.length_cons]
      congr 2; omega
theorem readL_num {n : Int} (h1 : -9223372036854775808 ≤ n) (h2 : n ≤ 9223372036854775807) (ys : List Nat) (numL : List Int) (hn : numL = leb (zz n)) : readL (natsOf numL ++ ys) = (n, numL.length, 0) := by
  subst hn
  have hz := zz_lt h1 h2
  unfold readL
  rw [readP_leb (zz n) ys 0 0 (by simpa using hz) (fun h => by omega)]
  simp [unzz_zz]
/-- What is read is what would be written. -/
theorem readP_back (xs : List Nat) (i u : Nat) (hx : ∀ x ∈ xs, x < 256) (he : (readP xs i u).2.2 = 0) (hu : u < 128 ^ i) :
    ∃ x : Nat, (readP xs i u).1 = unzz (u + x * 128 ^ i) ∧ natsOf (leb x) = xs.take ((readP xs i u).2.1 - i) ∧ (0 < i → 0 < x) := by
  induction xs generalizing i u with
  | nil => simp [readP] at he
  | cons x xs ih =>
    by_cases h : (i = 9 ∧ 1 < x) ∨ (0 < i ∧ x = 0)
    · rw [read_bad h] at he; simp at he
    · have hp : 0 < 128 ^ i := Nat.pow_pos (by decide)
      by_cases hlt : x < 128
      · rw [read_end h hlt]
        refine ⟨x, by rw [Nat.mod_eq_of_lt hlt], ?_, fun hi => by omega⟩
        rw [leb_small hlt]
        simp [natsOf]
      · rw [read_on h hlt] at he ⊢
        have h7 : x % 128 < 128 := Nat.mod_lt _ (by decide)
        have hm : u + x % 128 * 128 ^ i < 128 ^ (i + 1) := by
          rw [Nat.pow_succ]
          have : x % 128 * 128 ^ i ≤ 127 * 128 ^ i := Nat.mul_le_mul_right _ (by omega)
          omega
        obtain ⟨y, h1, h2, h3⟩ := ih (i + 1) _ (fun z hz => hx z (by simp [hz])) he hm
        have hy := h3 (by omega)
        have hx8 := hx x (by simp)
        have hs := (readP_size xs (i + 1) (u + x % 128 * 128 ^ i)).2.2 he
        refine ⟨x % 128 + y * 128, ?_, ?_, fun _ => by omega⟩
        · rw [h1]
          congr 1
          rw [Nat.pow_succ, Nat.mul_comm (128 ^ i) 128, ← Nat.mul_assoc, Nat.add_assoc, ← Nat.add_mul]
        · rw [leb_big (by omega), show (x % 128 + y * 128) / 128 = y by omega, show (x % 128 + y * 128) % 128 + 128 = x by omega]
          show ((x : Int).toNat) :: natsOf (leb y) = _
          rw [h2, Int.toNat_natCast]
          obtain ⟨d, hd⟩ : ∃ d, (readP xs (i + 1) (u + x % 128 * 128 ^ i)).2.1 = i + 1 + d := ⟨_, (Nat.add_sub_cancel' (by omega)).symm⟩
          rw [hd, show i + 1 + d - i = d + 1 by omega, show i + 1 + d - (i + 1) = d by omega, List.take_succ_cons]
theorem readL_back {xs : List Nat} (hx : ∀ x ∈ xs, x < 256) (he : (readL xs).2.2 = 0) : natsOf (leb (zz (readL xs).1)) = xs.take (readL xs).2.1 := by
  obtain ⟨x, h1, h2, _⟩ := readP_back xs 0 0 hx he (by decide)
  unfold readL
  rw [h1, zz_unzz, Nat.zero_add, Nat.pow_zero, Nat.mul_one, h2]; rfl
/-- What lacks its last byte is too short. -/
theorem readP_short (x : Nat) (i u : Nat) (hx : u + x * 128 ^ i < 18446744073709551616) : readP (natsOf (leb x).dropLast) i u = (0, 0, 40) := by
  have hp : 0 < 128 ^ i := Nat.pow_pos (by decide)
  induction x using Nat.strongRecOn generalizing i u with
  | _ x ih =>
    by_cases h : x < 128
    · rw [leb_small h]; rfl
    · have h9 : 9 ≤ i → x * 128 ^ 9 ≤ x * 128 ^ i := fun h => Nat.mul_le_mul_left _ (Nat.pow_le_pow_right (by decide) h)
      rw [leb_big h, List.dropLast_cons_of_ne_nil (leb_ne _)]
      have hb : ¬ ((i = 9 ∧ 1 < x % 128 + 128) ∨ (0 < i ∧ x % 128 + 128 = 0)) := by
        rintro (⟨rfl, h1⟩ | ⟨h1, h2⟩)
        · omega
        · omega
      show readP ((((x % 128 + 128 : Nat) : Int).toNat) :: natsOf (leb (x / 128)).dropLast) i u = _
      have e1 : (x % 128 + 128) % 128 = x % 128 := by omega
      have e2 : u + x % 128 * 128 ^ i + x / 128 * 128 ^ (i + 1) = u + x * 128 ^ i := by
        rw [Nat.pow_succ, Nat.mul_comm (128 ^ i) 128, ← Nat.mul_assoc, Nat.add_assoc, ← Nat.add_mul]
        congr 2; omega
      rw [Int.toNat_natCast, read_on hb (by omega), e1]
      exact ih (x / 128) (by omega) (i + 1) _ (by rw [e2]; exact hx) (Nat.pow_pos (by decide))
/-- The bytes of a number. -/
def numL (n : Int) : List Int := leb (zz n)
end Go.Proofs.Ytbimbpmdiahhbaa
