/- The long division of a list of bits, as plain numbers: what the document's own answer comes to. -/
import Derived.Test.YtjbhcdmeeakdcaaCrcPure
namespace Go.Proofs.Ytjbhcdmeeakdcaa

/-- Bits as a number, the first the least. -/
def bvN : List Bool → Nat
  | [] => 0
  | b :: bs => b.toNat + 2 * bvN bs
theorem bvN_bit (bs : List Bool) (j : Nat) : (bvN bs).testBit j = bs.getD j false := by
  induction bs generalizing j with
  | nil => simp [bvN]
  | cons b bs ih =>
    cases j with
    | zero => simp only [bvN, Nat.testBit_zero, List.getD_cons_zero]; cases b <;> simp <;> omega
    | succ j =>
      rw [List.getD_cons_succ, ← ih, Nat.testBit_succ]
      congr 1
      simp only [bvN]
      cases b <;> simp <;> omega
theorem bvN_lt (bs : List Bool) : bvN bs < 2 ^ bs.length := by
  induction bs with
  | nil => simp [bvN]
  | cons b bs ih => simp only [bvN, List.length_cons, Nat.pow_succ]; cases b <;> simp <;> omega
theorem bvN_append (as bs : List Bool) : bvN (as ++ bs) = bvN as + 2 ^ as.length * bvN bs := by
  induction as with
  | nil => simp [bvN]
  | cons a as ih => simp only [List.cons_append, bvN, ih, List.length_cons, Nat.pow_succ]; rw [Nat.mul_add, Nat.mul_comm (2 ^ as.length) 2, Nat.mul_assoc, Nat.add_assoc]
theorem bvN_nil (n : Nat) : bvN (List.replicate n false) = 0 := by
  induction n with
  | zero => rfl
  | succ n ih => simp [List.replicate_succ, bvN, ih]
/-- One bit turned. -/
def flipAt (bs : List Bool) (j : Nat) : List Bool := bs.set j (!bs.getD j false)
theorem flipAt_length (bs : List Bool) (j : Nat) : (flipAt bs j).length = bs.length := by simp [flipAt]
theorem bvN_flip (bs : List Bool) (j : Nat) (hj : j < bs.length) : bvN (flipAt bs j) = bvN bs ^^^ 2 ^ j := by
  apply Nat.eq_of_testBit_eq
  intro i
  rw [Nat.testBit_xor, bvN_bit, bvN_bit, Nat.testBit_two_pow]
  unfold flipAt
  rw [List.getD_eq_getElem?_getD, List.getD_eq_getElem?_getD, List.getD_eq_getElem?_getD, List.getElem?_set]
  by_cases h : j = i
  · subst h; simp [hj]
  · simp [h]
def flipsAt (bs : List Bool) (js : List Nat) : List Bool := js.foldl flipAt bs
theorem flipsAt_length (bs : List Bool) (js : List Nat) : (flipsAt bs js).length = bs.length := by
  induction js generalizing bs with
  | nil => rfl
  | cons j js ih => exact (ih _).trans (flipAt_length _ _)
theorem flipsAt_snoc (bs : List Bool) (js : List Nat) (j : Nat) : flipsAt bs (js ++ [j]) = flipAt (flipsAt bs js) j := by simp [flipsAt]
theorem bvN_flips (bs : List Bool) (js : List Nat) (h : ∀ j ∈ js, j < bs.length) : bvN (flipsAt bs js) = bvN bs ^^^ (js.map (2 ^ ·)).foldl (· ^^^ ·) 0 := by
  have key : ∀ (js : List Nat) (bs : List Bool) (a : Nat), (∀ j ∈ js, j < bs.length) → bvN (flipsAt bs js) ^^^ a = bvN bs ^^^ (js.map (2 ^ ·)).foldl (· ^^^ ·) a := by
    intro js
    induction js with
    | nil => intro bs a _; rfl
    | cons j js ih =>
      intro bs a h
      have h1 := ih (flipAt bs j) (a ^^^ 2 ^ j) (fun k hk => by rw [flipAt_length]; exact h k (by simp [hk]))
      simp only [List.map_cons, List.foldl_cons]
      have e2 : flipsAt bs (j :: js) = flipsAt (flipAt bs j) js := rfl
      rw [e2]
      rw [bvN_flip bs j (h j (by simp))] at h1
      have h2 := congrArg (· ^^^ 2 ^ j) h1
      simp only [Nat.xor_assoc, Nat.xor_self, Nat.xor_zero] at h2
      rw [← Nat.xor_assoc] at h2
      rw [h2]
      generalize List.foldl (fun x1 x2 => x1 ^^^ x2) (a ^^^ 2 ^ j) (List.map (fun x => 2 ^ x) js) = F
      rw [Nat.xor_comm F, ← Nat.xor_assoc, Nat.xor_assoc (bvN bs), Nat.xor_self, Nat.xor_zero]
  have := key js bs 0 h
  simpa using this
/-- The powers of the polynomial, from a place on. -/
def powersL : List Nat := [0, 6, 9, 10, 16, 20, 21, 22, 24, 25, 27, 28, 30, 31, 32]
theorem powers_xor (i : Nat) : ((powersL.map (i + ·)).map (2 ^ ·)).foldl (· ^^^ ·) 0 = (2 * polyN + 1) * 2 ^ i := by
  have h : ∀ (l : List Nat) (a : Nat), ((l.map (i + ·)).map (2 ^ ·)).foldl (· ^^^ ·) (a * 2 ^ i) = ((l.map (2 ^ ·)).foldl (· ^^^ ·) a) * 2 ^ i := by
    intro l
    induction l with
    | nil => intro a; rfl
    | cons j l ih =>
      intro a
      simp only [List.map_cons, List.foldl_cons]
      rw [← ih]
      congr 1
      rw [Nat.pow_add, Nat.mul_comm (2 ^ i), ← Nat.shiftLeft_eq, ← Nat.shiftLeft_eq, ← Nat.shiftLeft_eq, Nat.shiftLeft_xor_distrib]
  have := h powersL 0
  rw [Nat.zero_mul] at this
  rw [this]
  rfl
/-- One step of the long division. -/
def divAt (bs : List Bool) (i : Nat) : List Bool := if bs.getD i false then flipsAt bs (powersL.map (i + ·)) else bs
theorem divAt_length (bs : List Bool) (i : Nat) : (divAt bs i).length = bs.length := by unfold divAt; split <;> simp [flipsAt_length]
theorem stepN_odd (x : Nat) (h : x % 2 = 1) : x ^^^ (2 * polyN + 1) = 2 * stepN x := by
  unfold stepN
  rw [h, Nat.mul_one]
  have h1 := xor_half x (2 * polyN + 1)
  have h2 := xor_two x (2 * polyN + 1)
  rw [show (2 * polyN + 1) / 2 = polyN by omega] at h1
  rw [← h1]; omega
theorem divAt_val (bs : List Bool) (i : Nat) (X : Nat) (hi : i + 32 < bs.length) (h : bvN bs = X * 2 ^ i) : bvN (divAt bs i) = stepN X * 2 ^ (i + 1) := by
  have hb : bs.getD i false = (X % 2 == 1) := by
    rw [← bvN_bit, h, ← Nat.shiftLeft_eq, Nat.testBit_shiftLeft]
    simp [Nat.testBit_zero]
    rcases (show X % 2 = 0 ∨ X % 2 = 1 by omega) with e | e <;> simp [e]
  unfold divAt
  rw [hb]
  have h2 : X % 2 = 0 ∨ X % 2 = 1 := by omega
  rcases h2 with e | e
  · have h3 : stepN X = X / 2 := by unfold stepN; rw [e]; simp
    rw [e, h3, if_neg (by decide), h, Nat.pow_succ, Nat.mul_comm (2 ^ i) 2, ← Nat.mul_assoc]
    congr 1; omega
  · rw [e, if_pos (by decide), bvN_flips _ _ (by
      intro j hj
      simp only [powersL, List.map_cons, List.map_nil, List.mem_cons, List.not_mem_nil, or_false] at hj
      omega), powers_xor, h, ← Nat.shiftLeft_eq, ← Nat.shiftLeft_eq, ← Nat.shiftLeft_xor_distrib, stepN_odd X e, Nat.shiftLeft_eq, Nat.pow_succ, Nat.mul_comm (2 ^ i) 2, ← Nat.mul_assoc, Nat.mul_comm 2]
/-- The first so many steps. -/
def divTo (bs : List Bool) : Nat → List Bool
  | 0 => bs
  | n + 1 => divAt (divTo bs n) n
theorem divTo_length (bs : List Bool) (n : Nat) : (divTo bs n).length = bs.length := by
  induction n with
  | zero => rfl
  | succ n ih => exact (divAt_length _ _).trans ih
theorem divTo_val (bs : List Bool) (n : Nat) (h : n + 32 ≤ bs.length) : bvN (divTo bs n) = stepsN n (bvN bs) * 2 ^ n := by
  induction n with
  | zero => simp [divTo, stepsN]
  | succ n ih =>
    show bvN (divAt (divTo bs n) n) = _
    rw [divAt_val _ n _ (by rw [divTo_length]; omega) (ih (by omega)), stepsN_succ]
/-- The bits of bytes. -/
def bits8 (x : Nat) : List Bool := (List.range 8).map fun k => x / 2 ^ k % 2 == 1
def bitsL (xs : List Nat) : List Bool := xs.flatMap bits8
theorem bits8_length (x : Nat) : (bits8 x).length = 8 := by simp [bits8]
theorem bitsL_length (xs : List Nat) : (bitsL xs).length = 8 * xs.length := by
  induction xs with
  | nil => rfl
  | cons x xs ih => simp only [bitsL, List.flatMap_cons, List.length_append, List.length_cons, bits8_length] at *; omega
theorem bits8_val : ∀ x, x < 256 → bvN (bits8 x) = x := by decide +kernel
theorem add_xor (x y : Nat) (h : x < 256) : x + 256 * y = x ^^^ (y * 256) := by
  apply Nat.eq_of_testBit_eq
  intro i
  rw [Nat.testBit_xor, show x + 256 * y = 2 ^ 8 * y + x by omega, Nat.testBit_two_pow_mul_add _ h, show y * 256 = 2 ^ 8 * y by omega, Nat.testBit_two_pow_mul]
  by_cases hi : i < 8
  · simp [hi, show ¬ 8 ≤ i by omega]
  · rw [if_neg hi, Nat.testBit_lt_two_pow (show x < 2 ^ i from Nat.lt_of_lt_of_le (show x < 2 ^ 8 from h) (Nat.pow_le_pow_right (by decide) (show 8 ≤ i by omega)))]
    simp [show 8 ≤ i by omega]
theorem bitsL_val (xs : List Nat) (h : Bytes8 xs) : bvN (bitsL xs) = valN xs := by
  induction xs with
  | nil => rfl
  | cons x xs ih =>
    have h1 := ih (fun y hy => h y (by simp [hy]))
    have h2 := h x (by simp)
    show bvN (bits8 x ++ bitsL xs) = x ^^^ valN xs * 256
    rw [bvN_append, bits8_length, bits8_val x h2, h1]
    exact add_xor x (valN xs) h2
/-- The first thirty-two turned. -/
def flip32 (bs : List Bool) : List Bool := flipsAt bs (List.range 32)
theorem flip32_val (bs : List Bool) (h : 32 ≤ bs.length) : bvN (flip32 bs) = fullN ^^^ bvN bs := by
  unfold flip32
  rw [bvN_flips _ _ (by intro j hj; rw [List.mem_range] at hj; omega), Nat.xor_comm]
  rfl
/-- The division of the document comes to the check. -/
theorem long_check (xs : List Nat) (h : Bytes8 xs) : fullN ^^^ (bvN (divTo (flip32 (bitsL xs ++ List.replicate 32 false)) (8 * xs.length)) / 2 ^ (8 * xs.length)) = checkN xs := by
  have hl : (bitsL xs ++ List.replicate 32 false).length = 8 * xs.length + 32 := by rw [List.length_append, bitsL_length]; simp
  rw [divTo_val _ _ (by unfold flip32; rw [flipsAt_length, hl]; omega), Nat.mul_div_cancel _ (Nat.pow_pos (by decide)), flip32_val _ (by omega), bvN_append, bvN_nil, Nat.mul_zero, Nat.add_zero, bitsL_val xs h]
  unfold checkN
  rw [crcN_val]
/-- What is told at the end: the bits turned, as a number. -/
theorem tell_step (Z k : Nat) : Z % 2 ^ (k + 1) = Z % 2 ^ k + (if Z.testBit k then 2 ^ k else 0) := by
  rw [Nat.mod_pow_succ, Nat.testBit_eq_decide_div_mod_eq]
  rcases (show Z / 2 ^ k % 2 = 0 ∨ Z / 2 ^ k % 2 = 1 by omega) with e | e <;> rw [e] <;> simp
end Go.Proofs.Ytjbhcdmeeakdcaa
