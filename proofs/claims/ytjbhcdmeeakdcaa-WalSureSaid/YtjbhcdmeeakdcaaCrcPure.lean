/- The check of bytes as plain numbers: a step of the division; what a list of bytes does to what is left. -/
namespace Go.Proofs.Ytjbhcdmeeakdcaa

/-- The polynomial, its first bit the least one. -/
def polyN : Nat := 3988292384
/-- One bit of the division. -/
def stepN (x : Nat) : Nat := (x / 2) ^^^ (polyN * (x % 2))
def stepsN : Nat → Nat → Nat
  | 0, x => x
  | n + 1, x => stepsN n (stepN x)
theorem stepsN_succ (n x : Nat) : stepsN (n + 1) x = stepN (stepsN n x) := by
  induction n generalizing x with
  | zero => rfl
  | succ n ih => show stepsN (n + 1) (stepN x) = _; rw [ih]; rfl
theorem stepsN_add (m n x : Nat) : stepsN (m + n) x = stepsN n (stepsN m x) := by
  induction m generalizing x with
  | zero => simp [stepsN]
  | succ m ih => rw [Nat.succ_add]; exact ih (stepN x)
theorem xor_lt32 {a b : Nat} (ha : a < 4294967296) (hb : b < 4294967296) : a ^^^ b < 4294967296 := Nat.xor_lt_two_pow (n := 32) ha hb
theorem stepN_lt {x : Nat} (h : x < 4294967296) : stepN x < 4294967296 := by
  unfold stepN
  have h2 : x % 2 = 0 ∨ x % 2 = 1 := by omega
  refine xor_lt32 (by omega) ?_
  rcases h2 with e | e <;> rw [e] <;> decide
theorem stepsN_lt {x : Nat} (n : Nat) (h : x < 4294967296) : stepsN n x < 4294967296 := by
  induction n generalizing x with
  | zero => exact h
  | succ n ih => exact ih (stepN_lt h)
theorem xor_half (x y : Nat) : (x ^^^ y) / 2 = x / 2 ^^^ y / 2 := by
  have := Nat.shiftRight_xor_distrib (a := x) (b := y) (i := 1)
  simpa [Nat.shiftRight_eq_div_pow] using this
theorem xor_two (x y : Nat) : (x ^^^ y) % 2 = (x % 2 + y % 2) % 2 := by
  have h := Nat.xor_mod_two_pow (a := x) (b := y) (n := 1)
  have hx : x % 2 = 0 ∨ x % 2 = 1 := by omega
  have hy : y % 2 = 0 ∨ y % 2 = 1 := by omega
  simp only [Nat.pow_one] at h
  rw [h]
  rcases hx with hx | hx <;> rcases hy with hy | hy <;> rw [hx, hy] <;> rfl
theorem stepN_xor (x y : Nat) : stepN (x ^^^ y) = stepN x ^^^ stepN y := by
  unfold stepN
  rw [xor_half, xor_two]
  have hx : x % 2 = 0 ∨ x % 2 = 1 := by omega
  have hy : y % 2 = 0 ∨ y % 2 = 1 := by omega
  rcases hx with hx | hx <;> rcases hy with hy | hy <;> rw [hx, hy] <;> simp [Nat.xor_assoc]
  · rw [Nat.xor_comm polyN (y / 2)]
  · rw [← Nat.xor_assoc polyN, Nat.xor_comm polyN, Nat.xor_assoc, Nat.xor_self, Nat.xor_zero]
theorem stepsN_xor (n x y : Nat) : stepsN n (x ^^^ y) = stepsN n x ^^^ stepsN n y := by
  induction n generalizing x y with
  | zero => rfl
  | succ n ih => show stepsN n (stepN (x ^^^ y)) = _; rw [stepN_xor, ih]; rfl
theorem stepN_even (x : Nat) : stepN (x * 2) = x := by
  unfold stepN
  rw [Nat.mul_mod_left, Nat.mul_zero, Nat.xor_zero]; omega
theorem stepsN_pow (n x : Nat) : stepsN n (x * 2 ^ n) = x := by
  induction n with
  | zero => simp [stepsN]
  | succ n ih => show stepsN n (stepN _) = x; rw [Nat.pow_succ, ← Nat.mul_assoc, stepN_even]; exact ih
theorem stepN_zero {x : Nat} (hx : x < 4294967296) (h : stepN x = 0) : x = 0 := by
  unfold stepN at h
  have h2 : x % 2 = 0 ∨ x % 2 = 1 := by omega
  rcases h2 with e | e <;> rw [e] at h
  · simp at h; omega
  · exfalso
    have h3 : x / 2 = polyN * 1 := by
      have := congrArg (· ^^^ (polyN * 1)) h
      simpa [Nat.xor_assoc] using this
    unfold polyN at h3
    omega
theorem stepsN_zero (n : Nat) {x : Nat} (hx : x < 4294967296) (h : stepsN n x = 0) : x = 0 := by
  induction n generalizing x with
  | zero => exact h
  | succ n ih => exact stepN_zero hx (ih (stepN_lt hx) h)
theorem stepsN_nil (n : Nat) : stepsN n 0 = 0 := by
  induction n with
  | zero => rfl
  | succ n ih => exact ih

/-- What is left behind a byte, and behind bytes. -/
def byteN (l x : Nat) : Nat := stepsN 8 (l ^^^ x)
def crcN (l : Nat) (xs : List Nat) : Nat := xs.foldl byteN l
def fullN : Nat := 4294967295
/-- The check. -/
def checkN (xs : List Nat) : Nat := fullN ^^^ crcN fullN xs
def Bytes8 (xs : List Nat) : Prop := ∀ x ∈ xs, x < 256
theorem byteN_lt {l x : Nat} (h : l < 4294967296) (hx : x < 256) : byteN l x < 4294967296 := stepsN_lt 8 (xor_lt32 h (by omega))
theorem crcN_lt {l : Nat} (xs : List Nat) (h : l < 4294967296) (hx : Bytes8 xs) : crcN l xs < 4294967296 := by
  induction xs generalizing l with
  | nil => exact h
  | cons x xs ih => exact ih (byteN_lt h (hx x (by simp))) (fun y hy => hx y (by simp [hy]))
theorem crcN_append (l : Nat) (xs ys : List Nat) : crcN l (xs ++ ys) = crcN (crcN l xs) ys := List.foldl_append
theorem full_full {x : Nat} : fullN ^^^ (fullN ^^^ x) = x := by rw [← Nat.xor_assoc, Nat.xor_self, Nat.zero_xor]
theorem full_lt {x : Nat} (h : x < 4294967296) : fullN ^^^ x < 4294967296 := xor_lt32 (by decide) h
theorem checkN_lt {xs : List Nat} (hx : Bytes8 xs) : checkN xs < 4294967296 := full_lt (crcN_lt xs (by decide) hx)
/-- What Add does to a check. -/
def addN (v : Nat) (xs : List Nat) : Nat := fullN ^^^ crcN (fullN ^^^ v) xs
theorem addN_lt {v : Nat} {xs : List Nat} (hv : v < 4294967296) (hx : Bytes8 xs) : addN v xs < 4294967296 := full_lt (crcN_lt xs (full_lt hv) hx)
theorem addN_zero (xs : List Nat) : addN 0 xs = checkN xs := by unfold addN checkN; rw [Nat.xor_zero]
theorem addN_add (v : Nat) (xs ys : List Nat) : addN (addN v xs) ys = addN v (xs ++ ys) := by unfold addN; rw [full_full, crcN_append]

/-- Bytes as one number, the first byte the least. -/
def valN : List Nat → Nat
  | [] => 0
  | x :: xs => x ^^^ (valN xs * 256)
theorem stepsN_256 (x : Nat) : stepsN 8 (x * 256) = x := stepsN_pow 8 x
theorem crcN_val (l : Nat) (xs : List Nat) : crcN l xs = stepsN (8 * xs.length) (l ^^^ valN xs) := by
  induction xs generalizing l with
  | nil => simp [crcN, valN, stepsN]
  | cons x xs ih =>
    show crcN (byteN l x) xs = _
    rw [ih, List.length_cons, Nat.mul_succ, Nat.add_comm, stepsN_add]
    congr 1
    show byteN l x ^^^ valN xs = stepsN 8 (l ^^^ (x ^^^ valN xs * 256))
    rw [← Nat.xor_assoc, stepsN_xor 8 (l ^^^ x), stepsN_256]; rfl
theorem checkN_eq {xs ys : List Nat} (hl : xs.length = ys.length) : checkN xs = checkN ys ↔ stepsN (8 * xs.length) (valN xs ^^^ valN ys) = 0 := by
  unfold checkN
  constructor
  · intro h
    have h2 : crcN fullN xs = crcN fullN ys := by
      have := congrArg (fullN ^^^ ·) h
      simpa only [full_full] using this
    rw [crcN_val, crcN_val, ← hl, stepsN_xor, stepsN_xor] at h2
    have h3 := congrArg (stepsN (8 * xs.length) fullN ^^^ ·) h2
    simp only [← Nat.xor_assoc, Nat.xor_self, Nat.zero_xor] at h3
    rw [stepsN_xor, h3, Nat.xor_self]
  · intro h
    rw [stepsN_xor] at h
    have h3 : stepsN (8 * xs.length) (valN xs) = stepsN (8 * xs.length) (valN ys) := by
      have := congrArg (· ^^^ stepsN (8 * xs.length) (valN ys)) h
      simpa [Nat.xor_assoc] using this
    rw [crcN_val, crcN_val, ← hl, stepsN_xor, stepsN_xor, h3]
/-- Texts that part in thirty-two bits in a row at most: they have one check just if they are one. -/
theorem checkN_burst {xs ys : List Nat} (hl : xs.length = ys.length) (a c : Nat) (ha : a ≤ 8 * xs.length) (hc : c < 4294967296) (h : valN xs ^^^ valN ys = c * 2 ^ a) :
    checkN xs = checkN ys ↔ c = 0 := by
  rw [checkN_eq hl, h]
  have e : 8 * xs.length = a + (8 * xs.length - a) := by omega
  rw [e, stepsN_add, stepsN_pow]
  exact ⟨fun h => stepsN_zero _ hc h, fun h => by rw [h, stepsN_nil]⟩
theorem known_check : checkN [49, 50, 51, 52, 53, 54, 55, 56, 57] = 3421780262 := by decide +kernel
theorem known_nil : checkN [] = 0 := by decide
end Go.Proofs.Ytjbhcdmeeakdcaa
