/- Plain numbers: sums, differences and the order of numbers that are written out in digits. -/
import Derived.Test.YteofblabimneiaaDigs
namespace Go.Proofs.Yteofblabimneiaa

def plusC : List Int → List Int → Int → List Int
  | [], [], c => if c = 0 then [] else [c]
  | x :: a, [], c => ((c + x) % 10) :: plusC a [] ((c + x) / 10)
  | [], y :: b, c => ((c + y) % 10) :: plusC [] b ((c + y) / 10)
  | x :: a, y :: b, c => ((c + x + y) % 10) :: plusC a b ((c + x + y) / 10)

theorem plusC_spec : ∀ (a b : List Int) (c : Int), IsDigs a → IsDigs b → 0 ≤ c → c ≤ 1 →
    IsDigs (plusC a b c) ∧ val (plusC a b c) = val a + val b + c ∧ (plusC a b c).length ≤ a.length + b.length + 1
  | [], [], c, _, _, h0, h1 => by
    unfold plusC
    split
    · simp [IsDigs, val]; omega
    · simp [IsDigs, val]; omega
  | x :: a, [], c, ha, hb, h0, h1 => by
    obtain ⟨hx, ha'⟩ := ha.cons
    obtain ⟨r1, r2, r3⟩ := plusC_spec a [] ((c + x) / 10) ha' hb (by omega) (by omega)
    unfold plusC
    refine ⟨fun d hd => ?_, ?_, ?_⟩
    · rcases List.mem_cons.1 hd with rfl | hd
      · omega
      · exact r1 d hd
    · simp only [val] at r2 ⊢; omega
    · simp only [List.length_cons, List.length_nil] at r3 ⊢; omega
  | [], y :: b, c, ha, hb, h0, h1 => by
    obtain ⟨hy, hb'⟩ := hb.cons
    obtain ⟨r1, r2, r3⟩ := plusC_spec [] b ((c + y) / 10) ha hb' (by omega) (by omega)
    unfold plusC
    refine ⟨fun d hd => ?_, ?_, ?_⟩
    · rcases List.mem_cons.1 hd with rfl | hd
      · omega
      · exact r1 d hd
    · simp only [val] at r2 ⊢; omega
    · simp only [List.length_cons, List.length_nil] at r3 ⊢; omega
  | x :: a, y :: b, c, ha, hb, h0, h1 => by
    obtain ⟨hx, ha'⟩ := ha.cons
    obtain ⟨hy, hb'⟩ := hb.cons
    obtain ⟨r1, r2, r3⟩ := plusC_spec a b ((c + x + y) / 10) ha' hb' (by omega) (by omega)
    unfold plusC
    refine ⟨fun d hd => ?_, ?_, ?_⟩
    · rcases List.mem_cons.1 hd with rfl | hd
      · omega
      · exact r1 d hd
    · simp only [val] at r2 ⊢; omega
    · simp only [List.length_cons] at r3 ⊢; omega

theorem drop_cases (a : List Int) (i : Nat) : (i < a.length ∧ a.drop i = a.getD i 0 :: a.drop (i + 1)) ∨ (a.length ≤ i ∧ a.drop i = [] ∧ a.drop (i + 1) = [] ∧ a.getD i 0 = 0) := by
  by_cases h : i < a.length
  · left
    refine ⟨h, ?_⟩
    rw [List.getD_eq_getElem?_getD, List.getElem?_eq_getElem h]
    exact List.drop_eq_getElem_cons h
  · right
    refine ⟨by omega, by rw [List.drop_eq_nil_iff]; omega, by rw [List.drop_eq_nil_iff]; omega, ?_⟩
    rw [List.getD_eq_getElem?_getD, List.getElem?_eq_none (by omega)]; rfl

/-- A round of the sum. -/
theorem plusC_step (a b : List Int) (i : Nat) (c : Int) (h0 : 0 ≤ c) (h1 : c ≤ 1) (h : i < a.length ∨ i < b.length ∨ 0 < c) :
    plusC (a.drop i) (b.drop i) c = ((c + a.getD i 0 + b.getD i 0) % 10) :: plusC (a.drop (i + 1)) (b.drop (i + 1)) ((c + a.getD i 0 + b.getD i 0) / 10) := by
  rcases drop_cases a i with ⟨ha, ea⟩ | ⟨ha, ea, ea', ga⟩ <;> rcases drop_cases b i with ⟨hb, eb⟩ | ⟨hb, eb, eb', gb⟩
  · rw [ea, eb, plusC]
  · rw [ea, eb, eb', gb, plusC, Int.add_zero]
  · rw [ea, eb, ea', ga, plusC, Int.add_zero]
  · obtain rfl : c = 1 := by omega
    rw [ea, eb, ea', eb', ga, gb]; simp [plusC]
theorem plusC_stop (a b : List Int) (i : Nat) (ha : a.length ≤ i) (hb : b.length ≤ i) : plusC (a.drop i) (b.drop i) 0 = [] := by
  rw [List.drop_eq_nil_iff.2 ha, List.drop_eq_nil_iff.2 hb]; simp [plusC]

def minusC : List Int → List Int → Int → List Int
  | [], _, _ => []
  | x :: a, b, c => (if x - c - b.headD 0 < 0 then x - c - b.headD 0 + 10 else x - c - b.headD 0) :: minusC a b.tail (if x - c - b.headD 0 < 0 then 1 else 0)

theorem minusC_length : ∀ (a b : List Int) (c : Int), (minusC a b c).length = a.length
  | [], _, _ => rfl
  | x :: a, b, c => by rw [minusC, List.length_cons, List.length_cons, minusC_length]
theorem headD_tail {b : List Int} (h : IsDigs b) : 0 ≤ b.headD 0 ∧ b.headD 0 ≤ 9 ∧ IsDigs b.tail ∧ val b = b.headD 0 + 10 * val b.tail := by
  cases b with
  | nil => simp [val, IsDigs]
  | cons y t => obtain ⟨h1, h2⟩ := h.cons; exact ⟨h1.1, h1.2, h2, rfl⟩
theorem minusC_spec : ∀ (a b : List Int) (c : Int), IsDigs a → IsDigs b → 0 ≤ c → c ≤ 1 → val b + c ≤ val a →
    IsDigs (minusC a b c) ∧ val (minusC a b c) = val a - val b - c
  | [], b, c, _, hb, h0, h1, h => by
    have := val_nonneg hb
    simp only [minusC, val] at *
    exact ⟨fun _ h => by simp at h, by omega⟩
  | x :: a, b, c, ha, hb, h0, h1, h => by
    obtain ⟨hx, ha'⟩ := ha.cons
    obtain ⟨y0, y1, hb', ev⟩ := headD_tail hb
    rw [ev] at h ⊢
    have hva := val_nonneg ha'
    have hvb := val_nonneg hb'
    simp only [val] at h
    obtain ⟨r1, r2⟩ := minusC_spec a b.tail (if x - c - b.headD 0 < 0 then 1 else 0) ha' hb' (by split <;> omega) (by split <;> omega) (by split <;> omega)
    rw [minusC]
    refine ⟨fun d hd => ?_, ?_⟩
    · rcases List.mem_cons.1 hd with rfl | hd
      · split <;> omega
      · exact r1 d hd
    · simp only [val]; rw [r2]; split <;> omega
/-- A round of the difference. -/
theorem minusC_step (a b : List Int) (i : Nat) (c : Int) (h : i < a.length) :
    minusC (a.drop i) (b.drop i) c = (if a.getD i 0 - c - b.getD i 0 < 0 then a.getD i 0 - c - b.getD i 0 + 10 else a.getD i 0 - c - b.getD i 0) ::
      minusC (a.drop (i + 1)) (b.drop (i + 1)) (if a.getD i 0 - c - b.getD i 0 < 0 then 1 else 0) := by
  rcases drop_cases a i with ⟨ha, ea⟩ | ⟨ha, _⟩
  · rw [ea, minusC]
    have e1 : (b.drop i).headD 0 = b.getD i 0 := by
      rcases drop_cases b i with ⟨_, eb⟩ | ⟨_, eb, _, gb⟩
      · rw [eb]; rfl
      · rw [eb, gb]; rfl
    rw [e1, List.tail_drop]
  · omega
theorem minusC_stop (a b : List Int) (i : Nat) (c : Int) (ha : a.length ≤ i) : minusC (a.drop i) (b.drop i) c = [] := by
  rw [List.drop_eq_nil_iff.2 ha]; rfl

theorem norm_ge {l : List Int} (h : Norm l) (hl : l ≠ []) : (10 : Int) ^ (l.length - 1) ≤ val l := by
  rcases snoc_cases l with rfl | ⟨t, d, rfl⟩
  · exact absurd rfl hl
  · have hd := h.1 d (by simp)
    have hne : d ≠ 0 := fun e => h.2 (by simp [e])
    have ht : IsDigs t := fun x hx => h.1 x (by simp [hx])
    have := val_nonneg ht
    rw [val_append]
    simp only [val, List.length_append, List.length_cons, List.length_nil, Nat.zero_add, Nat.add_sub_cancel]
    have hp : (0 : Int) ≤ 10 ^ t.length := Int.pow_nonneg (by decide)
    have h2 : (10 : Int) ^ t.length * 1 ≤ 10 ^ t.length * (d + 10 * 0) := Int.mul_le_mul_of_nonneg_left (by omega) hp
    omega
theorem pow10_mono {m n : Nat} (h : m ≤ n) : (10 : Int) ^ m ≤ 10 ^ n := by
  obtain ⟨k, rfl⟩ := Nat.exists_eq_add_of_le h
  rw [Int.pow_add]
  have h1 : (0 : Int) ≤ 10 ^ m := Int.pow_nonneg (by decide)
  have h2 : (1 : Int) ≤ 10 ^ k := by have := Int.pow_pos (n := 10) (m := k) (by decide); omega
  have := Int.mul_le_mul_of_nonneg_left h2 h1
  omega
/-- Shorter is less. -/
theorem less_short {a b : List Int} (ha : Norm a) (hb : Norm b) (h : a.length < b.length) : val a < val b := by
  have h1 := val_lt ha.1
  have h2 := norm_ge hb (by rintro rfl; simp at h)
  have h3 := pow10_mono (m := a.length) (n := b.length - 1) (by omega)
  omega
/-- Alike from i + 1 on, unlike at i: that digit decides. -/
theorem less_at {a b : List Int} (ha : IsDigs a) (hb : IsDigs b) (i : Nat) (h : i < a.length) (hl : a.length = b.length) (ht : a.drop (i + 1) = b.drop (i + 1)) (hne : a.getD i 0 < b.getD i 0) : val a < val b := by
  have ea : a = a.take i ++ (a.getD i 0 :: a.drop (i + 1)) := by
    rcases drop_cases a i with ⟨_, e⟩ | ⟨e, _⟩
    · rw [← e, List.take_append_drop]
    · omega
  have eb : b = b.take i ++ (b.getD i 0 :: b.drop (i + 1)) := by
    rcases drop_cases b i with ⟨_, e⟩ | ⟨e, _⟩
    · rw [← e, List.take_append_drop]
    · omega
  have la : (a.take i).length = i := by rw [List.length_take]; omega
  have lb : (b.take i).length = i := by rw [List.length_take]; omega
  have da : IsDigs (a.take i) := fun d hd => ha d (List.mem_of_mem_take hd)
  have db : IsDigs (b.take i) := fun d hd => hb d (List.mem_of_mem_take hd)
  have va := val_lt da
  have vb := val_nonneg db
  rw [ea, eb, val_append, val_append, la, lb, ht]
  rw [la] at va
  simp only [val]
  have hp : (0 : Int) ≤ 10 ^ i := Int.pow_nonneg (by decide)
  have h2 : (10 : Int) ^ i * (a.getD i 0 + 10 * val (b.drop (i + 1)) + 1) ≤ 10 ^ i * (b.getD i 0 + 10 * val (b.drop (i + 1))) := Int.mul_le_mul_of_nonneg_left (by omega) hp
  rw [Int.mul_add, Int.mul_one] at h2
  omega
end Go.Proofs.Yteofblabimneiaa
