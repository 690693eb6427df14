/- WholeTorn: what is on the disk, and what is opened of it. -/
import Derived.Test.YtjbhcdmeeakdcaaWalMore
import Derived.Test.YtjbhcdmeeakdcaaTornPure
namespace Go.Proofs.Ytjbhcdmeeakdcaa
open Go.RowKit
theorem sc_app {A : List (List Int)} (h : ∀ d ∈ A, Rec1 16384 d) {X : List Int} (hX : Oct X) : scD (recsL A ++ X) = A ++ scD X ∧ scN (recsL A ++ X) = (recsL A).length + scN X := by
  induction A with
  | nil => simp [recsL]
  | cons d ds ih =>
    have h1 := h d (by simp)
    have h2 : ∀ x ∈ ds, Rec1 16384 x := fun x hx => h x (by simp [hx])
    obtain ⟨i1, i2⟩ := ih h2
    rw [recsL_cons, List.append_assoc]
    have hs := sc_rec h1.1 h1.2 (more := recsL ds ++ X) ((recsL_oct h2).append hX)
    rw [hs.1, hs.2, i1, i2, List.length_append, recL_length]
    exact ⟨rfl, by omega⟩
/-- The disk of WholeTorn. -/
def tD (S R : List Int) : DSt := ⟨65536, S, R, false, false, -1⟩
theorem tD_new : newD 65536 = tD [] [] := rfl
theorem tD_all (S R : List Int) : (tD S R).all = S ++ R := rfl
theorem tD_put {S ys : List Int} (hl : S.length ≤ 1000) (hy : ys.length ≤ 1000) : putE (tD S []) ys = 0 ∧ putD (tD S []) ys = tD S (recL ys) ∧ addE (tD S []) ys = 0 ∧ addD (tD S []) ys = tD (S ++ recL ys) [] := by
  have hf : ¬ (tD S []).free < ((recL ys).length : Int) := by
    show ¬ ((65536 : Nat) : Int) - (S.length : Int) - (([] : List Int).length : Int) < ((recL ys).length : Int)
    rw [recL_length]
    simp
    omega
  have h := calm_write (d := tD S []) ⟨rfl, rfl⟩ (zs := recL ys) hf
  have e1 : putE (tD S []) ys = 0 := by unfold putE; rw [if_neg (by omega)]; exact h.1
  have e2 : putD (tD S []) ys = tD S (recL ys) := by unfold putD; rw [if_neg (by omega)]; exact h.2
  have hs := calm_sync (d := tD S (recL ys)) ⟨rfl, rfl⟩
  refine ⟨e1, e2, ?_, ?_⟩
  · unfold addE; rw [if_pos e1, e2]; exact hs.1
  · unfold addD; rw [if_pos e1, e2]; exact hs.2
/-- Crashed. -/
def tC (S R : List Int) (k t : Int) : DSt := ⟨65536, S, tornL R (keepN k R.length) t, false, true, -1⟩
theorem tD_crash (S R : List Int) (k t : Int) : (tD S R).crashD k t = tC S R k t := rfl
theorem tC_up (S R : List Int) (k t : Int) : (tC S R k t).upD = tD (S ++ tornL R (keepN k R.length) t) [] := by
  unfold DSt.upD DSt.giveD DSt.settleD DSt.all DSt.ahead tC tD
  simp
/-- What is there behind the crash. -/
def gotL (A : List (List Int)) (D : List Int) (k t : Int) : List (List Int) := if ((8 + D.length : Nat) : Int) ≤ k ∧ t = 0 then A ++ [D] else A
theorem torn_got {A : List (List Int)} {D : List Int} (hA : ∀ d ∈ A, Rec1 16384 d) (hD : Rec1 16384 D) (k : Int) {t : Int} (ht : 0 ≤ t ∧ t < 256) :
    scD (recsL A ++ tornL (recL D) (keepN k (recL D).length) t) = gotL A D k t ∧ (recsL A ++ tornL (recL D) (keepN k (recL D).length) t).take (scN (recsL A ++ tornL (recL D) (keepN k (recL D).length) t)) = recsL (gotL A D k t) := by
  have ho : Oct (recL D) := recL_oct hD.1 hD.2
  have hs := sc_app hA (tornL_oct ho (keepN k (recL D).length) ht)
  have h1 : ∀ d ∈ [D], Rec1 16384 d := fun d hd => by rw [List.mem_singleton.1 hd]; exact hD
  have hr : recsL [D] = recL D := by simp [recsL]
  have ha := torn_any [D] h1 0 (keepN k (recL D).length) (by rw [hr]; exact keepN_le _ _) ht
  rw [hr] at ha
  have hl := recL_length D
  generalize hcut : keepN k (recL D).length = cut at *
  have hw : wholeL ((0 + cut : Nat) : Int) t (endsF 0 [D]) = if ((8 + D.length : Nat) : Int) ≤ k ∧ t = 0 then 1 else 0 := by
    have hg : goodE ((0 + cut : Nat) : Int) t ((0 + (8 + D.length) : Nat) : Int) = decide (((8 + D.length : Nat) : Int) ≤ k ∧ t = 0) := by
      unfold goodE
      rw [decide_eq_decide]
      unfold keepN at hcut
      rw [hl] at hcut
      omega
    unfold wholeL endsF endsF
    rw [List.countP_cons, hg]
    by_cases h : ((8 + D.length : Nat) : Int) ≤ k ∧ t = 0
    · rw [if_pos h, if_pos (decide_eq_true h)]; rfl
    · rw [if_neg h, if_neg (by rw [decide_eq_false h]; decide)]; rfl
  rw [hw] at ha
  by_cases h : ((8 + D.length : Nat) : Int) ≤ k ∧ t = 0
  · rw [if_pos h, if_neg (by decide)] at ha
    have hc : cut = 8 + D.length := by unfold keepN at hcut; rw [hl] at hcut; omega
    have hn : scN (tornL (recL D) cut t) = 8 + D.length := by
      have h2 := ha.2
      unfold endsF endsF at h2
      have h3 : ((0 + scN (tornL (recL D) cut t) : Nat) : Int) = ((0 + (8 + D.length) : Nat) : Int) := h2
      omega
    have hG : gotL A D k t = A ++ [D] := if_pos h
    have ht0 : tornL (recL D) cut t = recL D := by
      rw [hc, h.2, ← hl]
      have e := tornL_whole (l := recL D) (more := []) (by omega) ho
      rwa [List.append_nil] at e
    refine ⟨by rw [hs.1, ha.1, hG]; rfl, ?_⟩
    rw [hs.2, hn, hG, ht0, List.take_of_length_le (by rw [List.length_append, hl]; exact Nat.le_refl _), recsL_snoc]
  · rw [if_neg h, if_pos rfl] at ha
    have hG : gotL A D k t = A := if_neg h
    have hn : scN (tornL (recL D) cut t) = 0 := by have h2 := ha.2; omega
    refine ⟨by rw [hs.1, ha.1, hG]; simp, ?_⟩
    rw [hs.2, hn, hG, Nat.add_zero, List.take_left']
    rfl
end Go.Proofs.Ytjbhcdmeeakdcaa
