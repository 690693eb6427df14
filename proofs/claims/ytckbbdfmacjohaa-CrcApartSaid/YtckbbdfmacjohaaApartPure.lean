/- Texts that part in four bytes in a row at most, as plain numbers. -/
import Derived.Test.YtckbbdfmacjohaaTellsPure
namespace Go.Proofs.Ytckbbdfmacjohaa
theorem mul256_xor (a b : Nat) : (a ^^^ b) * 256 = a * 256 ^^^ b * 256 := by
  have h := Nat.shiftLeft_xor_distrib (a := a) (b := b) (i := 8)
  simpa [Nat.shiftLeft_eq] using h
theorem valN_append (xs ys : List Nat) : valN (xs ++ ys) = valN xs ^^^ (valN ys * 256 ^ xs.length) := by
  induction xs with
  | nil => simp [valN]
  | cons x xs ih =>
    simp only [List.cons_append, valN, ih, List.length_cons]
    rw [mul256_xor, Nat.pow_succ, ← Nat.mul_assoc, Nat.xor_assoc]
theorem valN_cons (x : Nat) (xs : List Nat) (h : x < 256) : valN (x :: xs) = x + 256 * valN xs := (add_xor x (valN xs) h).symm
theorem valN_lt (xs : List Nat) (h : Bytes8 xs) : valN xs < 256 ^ xs.length := by
  induction xs with
  | nil => simp [valN]
  | cons x xs ih =>
    have h1 := h x (by simp)
    have h2 := ih (fun y hy => h y (by simp [hy]))
    rw [valN_cons x xs h1, List.length_cons, Nat.pow_succ]; omega
theorem valN_inj {xs ys : List Nat} (hl : xs.length = ys.length) (hx : Bytes8 xs) (hy : Bytes8 ys) (h : valN xs = valN ys) : xs = ys := by
  induction xs generalizing ys with
  | nil => cases ys with
    | nil => rfl
    | cons => simp at hl
  | cons x xs ih =>
    cases ys with
    | nil => simp at hl
    | cons y ys =>
      have h1 := hx x (by simp)
      have h2 := hy y (by simp)
      rw [valN_cons x xs h1, valN_cons y ys h2] at h
      rw [ih (by simpa using hl) (fun z hz => hx z (by simp [hz])) (fun z hz => hy z (by simp [hz])) (by omega), show x = y by omega]
/-- Four bytes in the place of those that are there. -/
def putL (b : List Int) (q : Nat) (four : List Int) : List Int := b.take q ++ four ++ b.drop (q + four.length)
theorem putL_length {b four : List Int} {q : Nat} (h : q + four.length ≤ b.length) : (putL b q four).length = b.length := by
  unfold putL; simp; omega
theorem putL_oct {b four : List Int} (q : Nat) (hb : Oct b) (hf : Oct four) : Oct (putL b q four) := ((hb.take q).append hf).append (hb.drop _)
theorem b_split {b : List Int} {q m : Nat} : b = b.take q ++ (b.drop q).take m ++ b.drop (q + m) := by
  rw [List.append_assoc, ← List.drop_drop, List.take_append_drop, List.take_append_drop]
theorem apart_check {b four : List Int} {q : Nat} (h4 : four.length = 4) (hq : q + 4 ≤ b.length) (hb : Oct b) (hf : Oct four) :
    checkN (natsOf (putL b q four)) = checkN (natsOf b) ↔ putL b q four = b := by
  have hpl := putL_length (b := b) (four := four) (q := q) (by omega)
  have hmid : ((b.drop q).take 4).length = 4 := by simp; omega
  have o1 := natsOf_8 (putL_oct q hb hf)
  constructor
  · intro h
    have e1 : valN (natsOf (putL b q four)) = valN (natsOf (b.take q)) ^^^ (valN (natsOf four) * 256 ^ q) ^^^ (valN (natsOf (b.drop (q + 4))) * 256 ^ (q + 4)) := by
      unfold putL
      rw [natsOf_append, natsOf_append, valN_append, valN_append, List.length_append, natsOf_length, natsOf_length, h4, List.length_take, Nat.min_eq_left (by omega)]
    have e2 : valN (natsOf b) = valN (natsOf (b.take q)) ^^^ (valN (natsOf ((b.drop q).take 4)) * 256 ^ q) ^^^ (valN (natsOf (b.drop (q + 4))) * 256 ^ (q + 4)) := by
      conv => lhs; rw [b_split (b := b) (q := q) (m := 4)]
      rw [natsOf_append, natsOf_append, valN_append, valN_append, List.length_append, natsOf_length, natsOf_length, hmid, List.length_take, Nat.min_eq_left (by omega)]
    have e3 : valN (natsOf (putL b q four)) ^^^ valN (natsOf b) = (valN (natsOf four) ^^^ valN (natsOf ((b.drop q).take 4))) * 2 ^ (8 * q) := by
      rw [e1, e2]
      generalize valN (natsOf (b.take q)) = P
      generalize valN (natsOf (b.drop (q + 4))) * 256 ^ (q + 4) = S
      rw [← Nat.shiftLeft_eq (_ ^^^ _), Nat.shiftLeft_xor_distrib, Nat.shiftLeft_eq, Nat.shiftLeft_eq, Nat.pow_mul, show (2 ^ 8 : Nat) = 256 from rfl]
      generalize valN (natsOf four) * 256 ^ q = X
      generalize valN (natsOf ((b.drop q).take 4)) * 256 ^ q = Y
      apply Nat.eq_of_testBit_eq
      intro i
      simp only [Nat.testBit_xor]
      cases P.testBit i <;> cases S.testBit i <;> cases X.testBit i <;> cases Y.testBit i <;> rfl
    have hlt : valN (natsOf four) ^^^ valN (natsOf ((b.drop q).take 4)) < 4294967296 := by
      refine xor_lt32 ?_ ?_
      · have := valN_lt _ (natsOf_8 hf); rw [natsOf_length, h4] at this; omega
      · have := valN_lt _ (natsOf_8 ((hb.drop q).take 4)); rw [natsOf_length, hmid] at this; omega
    have hc := (checkN_burst (by rw [natsOf_length, natsOf_length, hpl]) (8 * q) _ (by rw [natsOf_length, hpl]; omega) hlt e3).1 h
    have hv : valN (natsOf four) = valN (natsOf ((b.drop q).take 4)) := by
      have := congrArg (· ^^^ valN (natsOf ((b.drop q).take 4))) hc
      simpa [Nat.xor_assoc] using this
    have hn := valN_inj (by rw [natsOf_length, natsOf_length, h4, hmid]) (natsOf_8 hf) (natsOf_8 ((hb.drop q).take 4)) hv
    have hfour := hf.back ((hb.drop q).take 4) hn
    unfold putL
    rw [hfour, hmid]
    exact b_split.symm
  · intro h; rw [h]
end Go.Proofs.Ytckbbdfmacjohaa
