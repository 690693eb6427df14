/- Sums of what each has to have. -/
import Derived.Test.YteofblabimneiaaCycNets
import Derived.Test.YteofblabimneiaaCycBothD
namespace Go.Proofs.Yteofblabimneiaa
open Go.RowKit
def part (me : Int) (x : Lin) : Int := if mineB me x then gives me x else 0
theorem netS_cons (me : Int) (x : Lin) (xs : List Lin) : netS me (x :: xs) = part me x + netS me xs := by
  unfold netS netL mineL part
  rw [List.filter_cons]
  cases h : mineB me x <;> simp
theorem netS_nil (me : Int) : netS me [] = 0 := rfl
theorem netS_append (me : Int) : ∀ xs ys : List Lin, netS me (xs ++ ys) = netS me xs + netS me ys
  | [], ys => by rw [netS_nil, List.nil_append]; omega
  | x :: xs, ys => by rw [List.cons_append, netS_cons, netS_cons, netS_append me xs ys]; omega
theorem part_val (me : Int) (x : Lin) (h : x.s ≠ x.b) : part me x = (if me = x.s then x.a else 0) - (if me = x.b then x.a else 0) := by
  unfold part mineB gives
  by_cases h1 : x.s = me
  · have h2 : ¬ me = x.b := fun e => h (by rw [h1, e])
    rw [decide_eq_true (.inl h1), if_pos rfl, if_pos h1, if_pos h1.symm, if_neg h2]; omega
  · by_cases h2 : x.b = me
    · rw [decide_eq_true (.inr h2), if_pos rfl, if_neg h1, if_neg (fun e => h1 e.symm), if_pos h2.symm]; omega
    · rw [decide_eq_false (by omega), if_neg (by decide), if_neg (fun e => h1 e.symm), if_neg (fun e => h2 e.symm)]; omega
/-- The sum of f over 0 .. n - 1. -/
def sumTo (f : Nat → Int) : Nat → Int
  | 0 => 0
  | n + 1 => sumTo f n + f n
theorem sum_range (f : Nat → Int) (n : Nat) : ((List.range n).map f).sum = sumTo f n := by
  induction n with
  | zero => rfl
  | succ n ih => rw [List.range_succ, List.map_append, List.sum_append, ih]; simp [sumTo]
theorem sumTo_add (f g : Nat → Int) (n : Nat) : sumTo (fun i => f i + g i) n = sumTo f n + sumTo g n := by
  induction n with
  | zero => rfl
  | succ n ih => simp only [sumTo, ih]; omega
theorem sumTo_one (q : Nat) (a : Int) : ∀ n, sumTo (fun i => if (i : Int) = (q : Int) then a else 0) n = if q < n then a else 0
  | 0 => by simp [sumTo]
  | n + 1 => by
    rw [sumTo, sumTo_one q a n]
    by_cases h : n = q
    · subst h; simp
    · have h2 : ¬ ((n : Int) = (q : Int)) := by omega
      rw [if_neg h2]
      by_cases h3 : q < n
      · rw [if_pos h3, if_pos (by omega)]; omega
      · rw [if_neg h3, if_neg (by omega)]; omega
theorem sumTo_neg (f : Nat → Int) (n : Nat) : sumTo (fun i => - f i) n = - sumTo f n := by
  induction n with
  | zero => rfl
  | succ n ih => simp only [sumTo, ih]; omega
theorem sumTo_part (n : Nat) (x : Lin) (h : withinB (n : Int) x = true) : sumTo (fun i => part (i : Int) x) n = 0 := by
  unfold withinB at h
  have hw := of_decide_eq_true h
  obtain ⟨s, hs⟩ : ∃ s : Nat, x.s = (s : Int) := ⟨x.s.toNat, by omega⟩
  obtain ⟨b, hb⟩ : ∃ b : Nat, x.b = (b : Int) := ⟨x.b.toNat, by omega⟩
  have e : (fun i : Nat => part (i : Int) x) = fun i : Nat => (if (i : Int) = (s : Int) then x.a else 0) + - (if (i : Int) = (b : Int) then x.a else 0) := by
    funext i
    rw [part_val _ _ hw.2.2.2.2.1, hs, hb]
    omega
  rw [e, sumTo_add, sumTo_one, sumTo_neg, sumTo_one, if_pos (by omega), if_pos (by omega)]
  omega
theorem nets_zero (n : Nat) : ∀ xs : List Lin, (∀ x ∈ xs, withinB (n : Int) x = true) → (netsL n xs).sum = 0
  | [], _ => by
    unfold netsL
    rw [sum_range]
    have : ∀ n, sumTo (fun i => netS (i : Int) []) n = 0 := fun n => by
      induction n with
      | zero => rfl
      | succ n ih => rw [sumTo, ih, netS_nil]; rfl
    exact this n
  | x :: xs, h => by
    have ih := nets_zero n xs (fun y hy => h y (List.mem_cons_of_mem _ hy))
    unfold netsL at *
    rw [sum_range] at *
    have e : (fun i : Nat => netS (i : Int) (x :: xs)) = fun i : Nat => part (i : Int) x + netS (i : Int) xs := by funext i; rw [netS_cons]
    rw [e, sumTo_add, sumTo_part n x (h x (by simp)), ih]
    rfl
theorem net_small {n me : Int} {xs : List Lin} (h : ∀ x ∈ xs, withinB n x = true) (hl : xs.length ≤ 1000) : -1125899906842624000 ≤ netS me xs ∧ netS me xs ≤ 1125899906842624000 := by
  have h1 := sum_small (netL_64 (me := me) h)
  have h2 := netL_len me xs
  unfold netS
  have h3 : (1125899906842624 : Int) * ((netL me xs).length : Int) ≤ 1125899906842624 * 1000 := Int.mul_le_mul_of_nonneg_left (by omega) (by omega)
  omega
theorem fit_part {n : Int} {xs ys : List Lin} (h : fitE n xs = 0) (hs : ys.Sublist xs) : fitE n ys = 0 :=
  fit_of_pair (fun x hx => fit_within h x (hs.subset hx)) ((fit_pair h).sublist hs)
theorem netsE_ok {n : Int} {xs : List Lin} (h : netsE n xs = 0) : (0 ≤ n ∧ n ≤ 8) ∧ fitE n xs = 0 := by
  unfold netsE at h
  split at h
  · cases h
  · exact ⟨by omega, h⟩
theorem netsE_part {n : Int} {xs ys : List Lin} (h : netsE n xs = 0) (hs : ys.Sublist xs) : netsE n ys = 0 := by
  obtain ⟨h1, h2⟩ := netsE_ok h
  unfold netsE
  rw [if_neg (by omega)]
  exact fit_part h2 hs
theorem netsV_ok {n : Nat} {xs : List Lin} (h : netsE (n : Int) xs = 0) : netsV (n : Int) xs = netsL n xs := by
  unfold netsV
  rw [if_pos h, Int.toNat_natCast]
theorem right_ok {n : Nat} {xs : List Lin} (h : netsE (n : Int) xs = 0) : rightE xs (netsL n xs) = 0 := by
  unfold rightE
  rw [netsL_len, h]
  simp
theorem right_no {n : Nat} {xs : List Lin} {zs : List Int} (h : netsE (n : Int) xs = 0) (hl : zs.length = n) (hz : zs ≠ netsL n xs) : rightE xs zs = 10 := by
  unfold rightE
  rw [hl, h]
  simp [hz]
theorem netsL_get {n : Nat} {xs : List Lin} {k : Nat} (hk : k < n) : (netsL n xs).getD k 0 = netS (k : Int) xs := by
  unfold netsL
  rw [List.getD_eq_getElem?_getD, List.getElem?_map, List.getElem?_range hk]
  rfl
theorem xor_ne {x o : Int} (_ : -9223372036854775808 ≤ x ∧ x ≤ 9223372036854775807) (ho : -9223372036854775808 ≤ o ∧ o ≤ 9223372036854775807) (h0 : o ≠ 0) : bits .xor .i64 x o ≠ x := by
  intro h
  have hB : bits .xor .i64 x o = IntKind.i64.wrap (((BitVec.ofInt 64 x) ^^^ (BitVec.ofInt 64 o)).toNat : Int) := rfl
  rw [hB] at h
  generalize hX : BitVec.ofInt 64 x = X at *
  generalize hO : BitVec.ofInt 64 o = O at *
  have h2 : X ^^^ O = X := by
    rw [← hX]
    conv => rhs; rw [← h]
    rw [hX]
    apply BitVec.eq_of_toNat_eq
    rw [BitVec.toNat_ofInt, IntKind.wrap_i64]
    have := (X ^^^ O).isLt
    omega
  have h3 : O = 0#64 := by
    have h4 := congrArg (fun b => X ^^^ b) h2
    simp only [← BitVec.xor_assoc, BitVec.xor_self, BitVec.zero_xor] at h4
    exact h4
  rw [← hO] at h3
  have h5 := congrArg BitVec.toNat h3
  rw [BitVec.toNat_ofInt] at h5
  simp at h5
  omega
end Go.Proofs.Yteofblabimneiaa
