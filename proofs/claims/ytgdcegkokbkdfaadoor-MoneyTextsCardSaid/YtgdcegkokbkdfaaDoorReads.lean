/- What money.Parse reads is what contraref01.Parse reads: pure. -/
import Derived.Test.YtgdcegkokbkdfaaDoorRefParse
import Derived.Test.YtgdcegkokbkdfaaDoorTextInj
namespace Go.Proofs.YtgdcegkokbkdfaaDoor
open Go.RowKit Go.Lib

def isD (c : UInt8) : Prop := 48 ≤ c.toNat ∧ c.toNat ≤ 57
def runS (l : List UInt8) (sz : Int) : Int := l.foldl (fun z c => sizeMore z ((c.toNat : Int) - 48)) sz
theorem runS_nil (sz : Int) : runS [] sz = sz := rfl
theorem runS_cons (c : UInt8) (l : List UInt8) (sz : Int) : runS (c :: l) sz = runS l (sizeMore sz ((c.toNat : Int) - 48)) := rfl
theorem runS_snoc (l : List UInt8) (c : UInt8) (sz : Int) : runS (l ++ [c]) sz = sizeMore (runS l sz) ((c.toNat : Int) - 48) := by simp [runS, List.foldl_append]
def amt (m : Bool) (be v : Int) : Int × Int := (amountN m be v, amountE m be v)

theorem runV_point (r : List UInt8) : ∀ (i : Nat) (m : Bool) (ah be sz : Int), 1 ≤ i → (∀ c ∈ r, isD c) → runV r i m true ah be sz = amt m (be + r.length) (runS r sz) := by
  induction r with
  | nil => intro i m ah be sz _ _; simp [runV, amt, runS_nil]
  | cons c r ih =>
    intro i m ah be sz hi h
    have hc := h c (by simp)
    unfold isD at hc
    rw [runV, if_neg (by omega), if_neg (by omega), if_pos hc, if_pos rfl, ih (i + 1) m ah (be + 1) _ (by omega) (fun x hx => h x (by simp [hx])), runS_cons, List.length_cons]
    congr 1; omega
theorem runV_point_back (r : List UInt8) : ∀ (i : Nat) (m : Bool) (ah be sz : Int), 1 ≤ i → runV r i m true ah be sz ≠ (0, 41) → (∀ c ∈ r, isD c) := by
  induction r with
  | nil => intro i m ah be sz _ _ c hc; cases hc
  | cons c r ih =>
    intro i m ah be sz hi h
    rw [runV] at h
    by_cases h1 : c.toNat = 45
    · rw [if_pos h1, if_neg (by omega)] at h; exact absurd rfl h
    · rw [if_neg h1] at h
      by_cases h2 : c.toNat = 46
      · rw [if_pos h2, if_neg (by simp)] at h; exact absurd rfl h
      · rw [if_neg h2] at h
        by_cases h3 : 48 ≤ c.toNat ∧ c.toNat ≤ 57
        · rw [if_pos h3, if_pos rfl] at h
          intro x hx
          rcases List.mem_cons.1 hx with rfl | hx
          · exact h3
          · exact ih _ _ _ _ _ (by omega) h x hx
        · rw [if_neg h3] at h; exact absurd rfl h
theorem amt_far (m : Bool) (be v : Int) (h : be ≠ 2) : amt m be v = (0, 41) := by simp [amt, amountN, amountE, h]
theorem aheadB_far {ah sz : Int} (h : 2 ≤ ah) : aheadB ah sz = true := by unfold aheadB; simp; omega
theorem runV_ahead (A : List UInt8) (x y : UInt8) (hx : isD x) (hy : isD y) : ∀ (i : Nat) (m : Bool) (ah sz : Int), 1 ≤ i → 1 ≤ ah → (∀ c ∈ A, isD c) → (A = [] ∨ aheadB ah sz = true) →
    runV (A ++ [46, x, y]) i m false ah 0 sz = amt m 2 (runS (A ++ [x, y]) sz) := by
  induction A with
  | nil =>
    intro i m ah sz hi ha _ _
    rw [List.nil_append, runV, if_neg (by decide), if_pos (by decide), if_pos (by simp; omega), runV_point [x, y] (i + 1) m ah 0 sz (by omega) (fun c hc => by
      simp at hc; rcases hc with rfl | rfl
      · exact hx
      · exact hy)]
    rfl
  | cons c A ih =>
    intro i m ah sz hi ha h hz
    have hc := h c (by simp)
    unfold isD at hc
    rw [List.cons_append, runV, if_neg (by omega), if_neg (by omega), if_pos hc, if_neg (by decide), if_pos (hz.resolve_left (by simp)), ih (i + 1) m (ah + 1) _ (by omega) (by omega) (fun d hd => h d (by simp [hd])) (.inr (aheadB_far (by omega)))]
    rfl
theorem runV_ahead_back (r : List UInt8) : ∀ (i : Nat) (m : Bool) (ah sz : Int), 1 ≤ i → 1 ≤ ah → runV r i m false ah 0 sz ≠ (0, 41) →
    ∃ A x y, r = A ++ [46, x, y] ∧ (∀ c ∈ A, isD c) ∧ isD x ∧ isD y ∧ (A = [] ∨ aheadB ah sz = true) := by
  induction r with
  | nil => intro i m ah sz _ _ h; exact absurd (by rw [runV]; exact amt_far m 0 sz (by decide)) h
  | cons c r ih =>
    intro i m ah sz hi ha h
    rw [runV] at h
    by_cases h1 : c.toNat = 45
    · rw [if_pos h1, if_neg (by omega)] at h; exact absurd rfl h
    · rw [if_neg h1] at h
      by_cases h2 : c.toNat = 46
      · rw [if_pos h2, if_pos (by simp; omega)] at h
        have hd := runV_point_back r _ _ _ _ _ (by omega) h
        rw [runV_point r _ _ _ _ _ (by omega) hd] at h
        have hl : r.length = 2 := by
          by_cases e : (0 : Int) + r.length = 2
          · omega
          · exact absurd (amt_far _ _ _ e) h
        have e46 : c = 46 := UInt8.toNat_inj.1 h2
        match r, hl with
        | [x, y], _ => exact ⟨[], x, y, by rw [e46]; rfl, (fun c hc => by cases hc), hd x (by simp), hd y (by simp), .inl rfl⟩
      · rw [if_neg h2] at h
        by_cases h3 : 48 ≤ c.toNat ∧ c.toNat ≤ 57
        · rw [if_pos h3, if_neg (by decide)] at h
          by_cases h4 : aheadB ah sz = true
          · rw [if_pos h4] at h
            obtain ⟨A, x, y, e, hA, hx, hy, _⟩ := ih _ _ _ _ (by omega) (by omega) h
            refine ⟨c :: A, x, y, by rw [e]; rfl, fun d hd => ?_, hx, hy, .inr h4⟩
            rcases List.mem_cons.1 hd with rfl | hd
            · exact h3
            · exact hA d hd
          · rw [if_neg h4] at h; exact absurd rfl h
        · rw [if_neg h3] at h; exact absurd rfl h

/-- The form of a text behind its sign: digits, a point, two digits; and no nought ahead of another digit. -/
def Shape (b A : List UInt8) (x y : UInt8) : Prop := b = A ++ [46, x, y] ∧ A ≠ [] ∧ (∀ c ∈ A, isD c) ∧ isD x ∧ isD y ∧ (A.length = 1 ∨ (A.getD 0 0).toNat ≠ 48)
theorem runV_shape {b A : List UInt8} {x y : UInt8} (h : Shape b A x y) (i : Nat) (m : Bool) : runV b i m false 0 0 0 = amt m 2 (runS (A ++ [x, y]) 0) := by
  obtain ⟨rfl, hne, hA, hx, hy, hz⟩ := h
  match A, hne with
  | c :: A, _ =>
    have hc := hA c (by simp)
    unfold isD at hc
    rw [List.cons_append, runV, if_neg (by omega), if_neg (by omega), if_pos hc, if_neg (by decide), if_pos (by decide), runV_ahead A x y hx hy (i + 1) m _ _ (by omega) (by decide) (fun d hd => hA d (by simp [hd])) ?_]
    · rfl
    · rcases hz with hz | hz
      · left; simpa using hz
      · right
        rw [List.getD_cons_zero] at hz
        rw [sizeMore_lo (by decide)]
        unfold aheadB; simp; omega
theorem runV_shape_back {b : List UInt8} (i : Nat) (m : Bool) (h : runV b i m false 0 0 0 ≠ (0, 41)) (hi : i = 0 → (b.getD 0 0).toNat ≠ 45) : ∃ A x y, Shape b A x y := by
  match b with
  | [] => exact absurd (by rw [runV]; exact amt_far m 0 0 (by decide)) h
  | c :: r =>
    rw [List.getD_cons_zero] at hi
    rw [runV] at h
    by_cases h1 : c.toNat = 45
    · rw [if_pos h1, if_neg (fun e => hi e h1)] at h; exact absurd rfl h
    · rw [if_neg h1] at h
      by_cases h2 : c.toNat = 46
      · rw [if_pos h2, if_neg (by decide)] at h; exact absurd rfl h
      · rw [if_neg h2] at h
        by_cases h3 : 48 ≤ c.toNat ∧ c.toNat ≤ 57
        · rw [if_pos h3, if_neg (by decide), if_pos (by decide)] at h
          obtain ⟨A, x, y, e, hA, hx, hy, hz⟩ := runV_ahead_back r _ _ _ _ (by omega) (by decide) h
          refine ⟨c :: A, x, y, by rw [e]; rfl, by simp, fun d hd => ?_, hx, hy, ?_⟩
          · rcases List.mem_cons.1 hd with rfl | hd
            · exact h3
            · exact hA d hd
          · rcases hz with rfl | hz
            · left; rfl
            · right
              rw [List.getD_cons_zero]
              rw [sizeMore_lo (by decide)] at hz
              unfold aheadB at hz; simp at hz; omega
        · rw [if_neg h3] at h; exact absurd rfl h
end Go.Proofs.YtgdcegkokbkdfaaDoor
