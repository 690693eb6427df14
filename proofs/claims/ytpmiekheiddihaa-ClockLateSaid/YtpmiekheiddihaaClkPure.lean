/- A heap's order, as it is lost and found again. -/
import Derived.Test.YtpmiekheiddihaaClkSwap
namespace Go.Proofs.Ytpmiekheiddihaa
open Go.RowKit
def du0 : Du := ⟨0, ByteArray.empty, 0, 0⟩
def HU (hs : List Du) (k : Nat) : Du := hs.getD k du0
theorem HU_at {hs : List Du} {k : Nat} (hk : k < hs.length) : HU hs k = hs[k] := by
  unfold HU; rw [List.getD_eq_getElem?_getD, List.getElem?_eq_getElem hk]; rfl
def ltH (hs : List Du) (a b : Nat) : Bool := lessU (HU hs a) (HU hs b)
theorem less_asym {a b : Du} (h : lessU a b = true) : lessU b a = false := by
  rw [lessU_iff] at h; rw [lessU_not]; omega
theorem less_trans {a b c : Du} (h1 : lessU c b = false) (h2 : lessU b a = false) : lessU c a = false := by
  rw [lessU_not] at *; omega
theorem less_le {a b c : Du} (h1 : lessU c b = false) (h2 : lessU a b = true) : lessU c a = false := less_trans h1 (less_asym h2)
theorem HU_swap {hs : List Du} {i j : Nat} {hi : i < hs.length} {hj : j < hs.length} (hij : i < j) (k : Nat) : HU (swapL hs i j hi hj) k = if k = j then HU hs i else if k = i then HU hs j else HU hs k := by
  by_cases hk : k < hs.length
  · rw [HU_at (by rw [swap_len]; exact hk), swap_get hij, HU_at hi, HU_at hj, HU_at hk]
  · have e1 : HU (swapL hs i j hi hj) k = du0 := by
      unfold HU; rw [List.getD_eq_getElem?_getD, List.getElem?_eq_none (by rw [swap_len]; omega)]; rfl
    have e2 : HU hs k = du0 := by
      unfold HU; rw [List.getD_eq_getElem?_getD, List.getElem?_eq_none (by omega)]; rfl
    rw [if_neg (by omega), if_neg (by omega), e1, e2]
/-- The first N are a heap. -/
def HOk (hs : List Du) (N : Nat) : Prop := ∀ k, 0 < k → k < N → ltH hs k ((k - 1) / 2) = false
/-- .. but that the one at j may have to go up. -/
def UpI (hs : List Du) (N j : Nat) : Prop := (∀ k, 0 < k → k < N → k ≠ j → ltH hs k ((k - 1) / 2) = false) ∧ ∀ k, 0 < k → k < N → (k - 1) / 2 = j → 0 < j → ltH hs k ((j - 1) / 2) = false
/-- .. but that the one at i may have to go down (or, at i0, up). -/
def DnI (hs : List Du) (N i0 i : Nat) : Prop := (∀ k, 0 < k → k < N → k ≠ i → (k - 1) / 2 ≠ i → ltH hs k ((k - 1) / 2) = false) ∧ (∀ k, 0 < k → k < N → (k - 1) / 2 = i → 0 < i → ltH hs k ((i - 1) / 2) = false) ∧ (i ≠ i0 → 0 < i → ltH hs i ((i - 1) / 2) = false)
theorem up_zero {hs : List Du} {N : Nat} (h : UpI hs N 0) : HOk hs N := fun k hk hN => h.1 k hk hN (by omega)
theorem up_end {hs : List Du} {N j : Nat} (h : UpI hs N j) (hl : ltH hs j ((j - 1) / 2) = false) : HOk hs N := fun k hk hN => by
  by_cases e : k = j
  · subst e; exact hl
  · exact h.1 k hk hN e
theorem up_step {hs : List Du} {N i j : Nat} {hi : i < hs.length} {hj : j < hs.length} (h : UpI hs N j) (h0 : 0 < j) (e : i = (j - 1) / 2) (hjN : j < N) (hl : ltH hs j i = true) : UpI (swapL hs i j hi hj) N i := by
  have hij : i < j := by omega
  unfold ltH at hl
  refine ⟨fun k hk hN hne => ?_, fun k hk hN hp h1 => ?_⟩
  · unfold ltH
    rw [HU_swap hij, HU_swap hij]
    by_cases k1 : k = j
    · rw [if_pos k1, show (k - 1) / 2 = i by omega, if_neg (by omega), if_pos rfl]
      exact less_asym hl
    · rw [if_neg k1, if_neg hne]
      by_cases k2 : (k - 1) / 2 = j
      · rw [if_pos k2]
        have := h.2 k hk hN k2 h0
        rw [← e] at this
        exact this
      · rw [if_neg k2]
        by_cases k3 : (k - 1) / 2 = i
        · rw [if_pos k3]
          have := h.1 k hk hN k1
          rw [k3] at this
          exact less_le this hl
        · rw [if_neg k3]
          exact h.1 k hk hN k1
  · unfold ltH
    rw [HU_swap hij, HU_swap hij, if_neg (show (i - 1) / 2 ≠ j by omega), if_neg (show (i - 1) / 2 ≠ i by omega)]
    have h2 : lessU (HU hs i) (HU hs ((i - 1) / 2)) = false := h.1 i h1 (by omega) (by omega)
    by_cases k1 : k = j
    · rw [if_pos k1]
      exact h2
    · rw [if_neg k1, if_neg (by omega)]
      have h3 := h.1 k hk hN k1
      rw [hp] at h3
      exact less_trans h3 h2
theorem dn_step {hs : List Du} {N i0 i j : Nat} {hi : i < hs.length} {hj : j < hs.length} (h : DnI hs N i0 i) (h0 : 0 < j) (e : (j - 1) / 2 = i) (hjN : j < N) (hl : ltH hs j i = true) (hsib : ∀ k, 0 < k → k < N → (k - 1) / 2 = i → ltH hs k j = false) : DnI (swapL hs i j hi hj) N i0 j := by
  have hij : i < j := by omega
  unfold ltH at hl
  refine ⟨fun k hk hN hne hpe => ?_, fun k hk hN hp _ => ?_, fun _ _ => ?_⟩
  · unfold ltH
    rw [HU_swap hij, HU_swap hij, if_neg hne, if_neg hpe]
    by_cases k1 : k = i
    · rw [if_pos k1, if_neg (by omega)]
      have := h.2.1 j h0 hjN e (by omega)
      rw [k1]
      exact this
    · rw [if_neg k1]
      by_cases k2 : (k - 1) / 2 = i
      · rw [if_pos k2]
        exact hsib k hk hN k2
      · rw [if_neg k2]
        exact h.1 k hk hN k1 k2
  · unfold ltH
    rw [HU_swap hij, HU_swap hij, if_neg (show k ≠ j by omega), if_neg (show k ≠ i by omega), e, if_neg (by omega), if_pos rfl]
    have := h.1 k hk hN (by omega) (by omega)
    rw [hp] at this
    exact this
  · unfold ltH
    rw [HU_swap hij, HU_swap hij, if_pos rfl, e, if_neg (by omega), if_pos rfl]
    exact less_asym hl
theorem dn_end {hs : List Du} {N i0 i : Nat} (h : DnI hs N i0 i) (hc : ∀ k, 0 < k → k < N → (k - 1) / 2 = i → ltH hs k i = false) : (i ≠ i0 → HOk hs N) ∧ (i = i0 → UpI hs N i0) := by
  refine ⟨fun hne k hk hN => ?_, fun e => ⟨fun k hk hN hne => ?_, fun k hk hN hp h0 => ?_⟩⟩
  · by_cases k1 : (k - 1) / 2 = i
    · rw [k1]; exact hc k hk hN k1
    · by_cases k2 : k = i
      · rw [k2]; exact h.2.2 hne (by omega)
      · exact h.1 k hk hN k2 k1
  · subst e
    by_cases k1 : (k - 1) / 2 = i
    · rw [k1]; exact hc k hk hN k1
    · exact h.1 k hk hN hne k1
  · subst e
    exact h.2.1 k hk hN hp h0
theorem dn_start {hs : List Du} {n i : Nat} {hi : i < hs.length} {hn : n < hs.length} (h : HOk hs (n + 1)) (hin : i < n) : DnI (swapL hs i n hi hn) n i i := by
  refine ⟨fun k hk hN hne hpe => ?_, fun k hk hN hp h0 => ?_, fun h _ => absurd rfl h⟩
  · unfold ltH
    rw [HU_swap hin, HU_swap hin, if_neg (by omega), if_neg hne, if_neg (by omega), if_neg hpe]
    exact h k hk (by omega)
  · unfold ltH
    rw [HU_swap hin, HU_swap hin, if_neg (by omega), if_neg (by omega), if_neg (by omega), if_neg (by omega)]
    have h1 := h k hk (by omega)
    rw [hp] at h1
    exact less_trans h1 (h i h0 (by omega))
theorem HOk.less {hs : List Du} {N M : Nat} (h : HOk hs N) (hM : M ≤ N) : HOk hs M := fun k hk hN => h k hk (by omega)
theorem HU_append {hs l : List Du} {k : Nat} (hk : k < hs.length) : HU (hs ++ l) k = HU hs k := by
  unfold HU; rw [List.getD_eq_getElem?_getD, List.getElem?_append_left hk, ← List.getD_eq_getElem?_getD]
theorem HOk.cut {hs l : List Du} {N : Nat} (h : HOk (hs ++ l) N) (hN : N ≤ hs.length) : HOk hs N := fun k hk hkN => by
  have := h k hk hkN
  unfold ltH at *
  rwa [HU_append (by omega), HU_append (by omega)] at this
theorem up_start {hs : List Du} {d : Du} (h : HOk hs hs.length) : UpI (hs ++ [d]) (hs.length + 1) hs.length := by
  refine ⟨fun k hk hN hne => ?_, fun k hk hN hp h0 => by omega⟩
  unfold ltH
  rw [HU_append (by omega), HU_append (by omega)]
  exact h k hk (by omega)
/-- The first of a heap is the least. -/
theorem least {hs : List Du} (h : HOk hs hs.length) : ∀ k, k < hs.length → lessU (HU hs k) (HU hs 0) = false := by
  intro k
  induction k using Nat.strongRecOn with
  | _ k ih =>
    intro hk
    by_cases h0 : k = 0
    · subst h0
      rw [lessU_not]; omega
    · exact less_trans (h k (by omega) hk) (ih ((k - 1) / 2) (by omega) (by omega))
end Go.Proofs.Ytpmiekheiddihaa
