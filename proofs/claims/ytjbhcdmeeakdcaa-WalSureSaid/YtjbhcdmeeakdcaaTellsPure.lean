/- Bits that are turned in bytes, as plain numbers. -/
import Derived.Test.YtjbhcdmeeakdcaaCrcBits
import Derived.Test.YtjbhcdmeeakdcaaCrc
namespace Go.Proofs.Ytjbhcdmeeakdcaa

theorem valN_set (xs : List Nat) (i y : Nat) (hi : i < xs.length) : valN (xs.set i (xs.getD i 0 ^^^ y)) = valN xs ^^^ (y * 256 ^ i) := by
  induction xs generalizing i with
  | nil => simp at hi
  | cons x xs ih =>
    cases i with
    | zero =>
      simp only [List.set_cons_zero, List.getD_cons_zero, valN, Nat.pow_zero, Nat.mul_one]
      rw [Nat.xor_assoc, Nat.xor_comm y, ← Nat.xor_assoc]
    | succ i =>
      simp only [List.set_cons_succ, List.getD_cons_succ, valN]
      rw [ih i (by simpa using hi), Nat.pow_succ, ← Nat.mul_assoc]
      rw [show (256 : Nat) = 2 ^ 8 from rfl, ← Nat.shiftLeft_eq (valN xs ^^^ _), Nat.shiftLeft_xor_distrib, Nat.shiftLeft_eq, Nat.shiftLeft_eq, Nat.xor_assoc]
theorem natsOf_set (zs : List Int) (i n : Nat) : natsOf (zs.set i (n : Int)) = (natsOf zs).set i n := by
  unfold natsOf
  rw [List.map_set]; simp
theorem turn_val (zs : List Int) (p : Nat) (hp : p / 8 < zs.length) :
    valN (natsOf (zs.set (p / 8) (((zs.getD (p / 8) 0).toNat ^^^ 2 ^ (p % 8) : Nat) : Int))) = valN (natsOf zs) ^^^ 2 ^ p := by
  rw [natsOf_set, ← natsOf_getD, valN_set _ _ _ (by rw [natsOf_length]; exact hp)]
  congr 1
  rw [show (256 : Nat) = 2 ^ 8 from rfl, ← Nat.pow_mul, ← Nat.pow_add]
  congr 1; omega
theorem xor_back {x y z : Nat} (h : x = y ^^^ z) : x ^^^ y = z := by
  rw [h, Nat.xor_comm y z, Nat.xor_assoc, Nat.xor_self, Nat.xor_zero]
theorem add_bit (c k at_ : Nat) (hc : c < 2 ^ k) : (c * 2 ^ at_) ^^^ 2 ^ (at_ + k) = (c + 2 ^ k) * 2 ^ at_ := by
  have h : c + 2 ^ k = c ^^^ 2 ^ k := by
    apply Nat.eq_of_testBit_eq
    intro i
    rw [Nat.testBit_xor, Nat.testBit_two_pow, show c + 2 ^ k = 2 ^ k * 1 + c by omega, Nat.testBit_two_pow_mul_add _ hc]
    by_cases hi : i < k
    · rw [if_pos hi]; simp [show k ≠ i by omega]
    · rw [if_neg hi, Nat.testBit_lt_two_pow (Nat.lt_of_lt_of_le hc (Nat.pow_le_pow_right (by decide) (by omega)))]
      rcases (show i = k ∨ k < i by omega) with rfl | h
      · simp
      · rw [show i - k = (i - k - 1) + 1 by omega, Nat.testBit_succ]; simp [show k ≠ i by omega]
  rw [h, ← Nat.shiftLeft_eq (c ^^^ 2 ^ k), Nat.shiftLeft_xor_distrib, Nat.shiftLeft_eq, Nat.shiftLeft_eq, ← Nat.pow_add, Nat.add_comm k]
/-- The bits that come to be turned: the lowest so many. -/
def lowN (B k : Nat) : Nat := B % 2 ^ k
theorem low_lt (B k : Nat) : lowN B k < 2 ^ k := Nat.mod_lt _ (Nat.pow_pos (by decide))
theorem low_step (B k : Nat) : lowN B (k + 1) = lowN B k + (if B / 2 ^ k % 2 = 1 then 2 ^ k else 0) := by
  unfold lowN
  rw [Nat.mod_pow_succ]
  rcases (show B / 2 ^ k % 2 = 0 ∨ B / 2 ^ k % 2 = 1 by omega) with e | e <;> rw [e] <;> simp
/-- What the turned bytes are, behind k bits. -/
def TurnedTo (b zs : List Int) (at_ B k : Nat) : Prop := zs.length = b.length ∧ Oct zs ∧ valN (natsOf zs) = valN (natsOf b) ^^^ (lowN B k * 2 ^ at_)
theorem TurnedTo.start (b : List Int) (hb : Oct b) (at_ B : Nat) : TurnedTo b b at_ B 0 := ⟨rfl, hb, by simp [lowN, Nat.mod_one]⟩
theorem TurnedTo.no {b zs : List Int} {at_ B k : Nat} (h : TurnedTo b zs at_ B k) (hb : ¬ B / 2 ^ k % 2 = 1) : TurnedTo b zs at_ B (k + 1) := ⟨h.1, h.2.1, by rw [low_step, if_neg hb]; exact h.2.2⟩
theorem xor8_lt {x : Int} (h0 : 0 ≤ x) (h : x < 256) (s : Nat) (hs : s < 8) : x.toNat ^^^ 2 ^ s < 256 :=
  Nat.xor_lt_two_pow (n := 8) (by omega) (Nat.pow_lt_pow_right (by decide) hs)
theorem TurnedTo.yes {b zs : List Int} {at_ B k : Nat} (h : TurnedTo b zs at_ B k) (hb : B / 2 ^ k % 2 = 1) (hk : at_ + k < 8 * b.length) :
    TurnedTo b (zs.set ((at_ + k) / 8) (((zs.getD ((at_ + k) / 8) 0).toNat ^^^ 2 ^ ((at_ + k) % 8) : Nat) : Int)) at_ B (k + 1) := by
  obtain ⟨h1, h2, h3⟩ := h
  have h4 := h2.getD ((at_ + k) / 8)
  refine ⟨by simp [h1], ?_, ?_⟩
  · intro a ha
    rcases List.mem_or_eq_of_mem_set ha with ha | rfl
    · exact h2 a ha
    · have := xor8_lt h4.1 h4.2 ((at_ + k) % 8) (Nat.mod_lt _ (by decide)); omega
  · rw [turn_val _ _ (by omega), h3, low_step, if_pos hb, Nat.xor_assoc, add_bit _ _ _ (low_lt B k)]
theorem TurnedTo.end_ {b zs : List Int} {at_ B k : Nat} (h : TurnedTo b zs at_ B k) (hk : k ≤ 32) (ha : at_ ≤ 8 * b.length) : checkN (natsOf zs) = checkN (natsOf b) ↔ lowN B k = 0 := by
  obtain ⟨h1, h2, h3⟩ := h
  exact checkN_burst (by rw [natsOf_length, natsOf_length, h1]) at_ (lowN B k) (by rw [natsOf_length, h1]; exact ha) (Nat.lt_of_lt_of_le (low_lt B k) (Nat.pow_le_pow_right (by decide) hk)) (xor_back h3)
/-- Whether any bit was turned. -/
def anyN (B k : Nat) : Bool := decide (lowN B k ≠ 0)
theorem any_zero (B : Nat) : anyN B 0 = false := by simp [anyN, lowN, Nat.mod_one]
theorem any_no (B k : Nat) (h : ¬ B / 2 ^ k % 2 = 1) : anyN B (k + 1) = anyN B k := by unfold anyN; rw [low_step, if_neg h]; try rfl
theorem any_yes (B k : Nat) (h : B / 2 ^ k % 2 = 1) : anyN B (k + 1) = true := by
  unfold anyN; rw [low_step, if_pos h]
  have := Nat.pow_pos (n := k) (show 0 < 2 by decide)
  rw [decide_eq_true_eq]; omega
theorem bit_of (bits : Int) (k : Nat) (hk : k < 32) : bits / 2 ^ k % 2 = (((bits % 4294967296).toNat / 2 ^ k % 2 : Nat) : Int) := by
  have h1 := Int.emod_add_mul_ediv bits 4294967296
  have h0 := Int.emod_nonneg bits (show (4294967296 : Int) ≠ 0 by decide)
  generalize bits % 4294967296 = r at *
  generalize bits / 4294967296 = q at *
  obtain ⟨R, rfl⟩ : ∃ R : Nat, r = (R : Int) := ⟨r.toNat, by omega⟩
  have e : (4294967296 : Int) = 2 ^ k * (2 * 2 ^ (31 - k)) := by
    rw [← Int.mul_assoc, Int.mul_comm (2 ^ k) 2, Int.mul_assoc, ← Int.pow_add, show k + (31 - k) = 31 by omega]; rfl
  rw [← h1, e, Int.mul_assoc, Int.add_mul_ediv_left _ _ (by have := Nat.pow_pos (n := k) (show 0 < 2 by decide); exact_mod_cast (by omega : 2 ^ k ≠ 0)), Int.mul_assoc, Int.add_mul_emod_self_left]
  simp
end Go.Proofs.Ytjbhcdmeeakdcaa
