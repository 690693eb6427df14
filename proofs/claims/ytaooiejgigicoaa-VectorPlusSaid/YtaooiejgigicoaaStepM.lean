/- Vector.Add on a model: one step. -/
import Derived.Test.YtaooiejgigicoaaMdl
namespace Go.Proofs.Ytaooiejgigicoaa
open Go.RowKit
/-- The error's number of a step. -/
def errM (M : List Int) (p : Pos) : Int := if OutEC p.e p.c then 1 else sumE (atM M (keyM p) + p.a)
theorem step_len {M : List Int} (p : Pos) (h : M.length = 64) : (stepM M p).length = 64 := by
  unfold stepM
  repeat' split
  all_goals simpa using h
theorem step_64 {M : List Int} (p : Pos) (h : All64 M) : All64 (stepM M p) := by
  unfold stepM
  split
  · exact h
  · split
    · rename_i hf
      exact all64_set h _ hf
    · exact h
theorem playM_64 (ps : List Pos) : All64 (playM ps) := by
  unfold playM
  suffices h : ∀ (ps : List Pos) (M : List Int), All64 M → All64 (ps.foldl stepM M) by
    refine h ps _ ?_
    intro a ha
    rw [List.mem_replicate] at ha
    omega
  intro ps
  induction ps with
  | nil => exact fun _ h => h
  | cons p ps ih => exact fun M h => ih _ (step_64 p h)
theorem atM_fits {M : List Int} (h : All64 M) (k : Nat) : Fits (atM M k) := h.getD k
theorem vadd_step (w : World) (v : Value) (M : List Int) (e c a : Int) (hM : M.length = 64) (h64 : All64 M) (hr : PRow w v (posOf M)) (ha : Fits a) :
    Calls Try.prog 15 #[vecV v, .int .i64 e, .int .i64 c, .int .i64 a] w fun x w' => ∃ v', x = .returned (.tuple #[vecV v', .int .i64 (errM M ⟨e, c, a⟩)]) ∧ OwnP w' w.heap.size 49 v' (posOf (stepM M ⟨e, c, a⟩)) ∧ Below w.heap.size w w' := by
  have hlen : (posOf M).length ≤ 1000 := Nat.le_trans (posOf_length M) (by omega)
  by_cases ho : OutEC e c
  · obtain ⟨A, mid, B, hA⟩ := around_of_sorted ⟨e, c, 0⟩ (posOf M) (posOf_sorted M)
    have hm : Fits (midA mid) := by
      rcases hA.there with rfl | ⟨q, rfl, _⟩
      · unfold Fits midA; decide
      · have hq : q ∈ posOf M := by rw [hA.all]; simp
        have := (posOf_mem hq).2.2.1
        show Fits q.a
        rw [this]
        exact atM_fits h64 _
    have h := vadd_any w v (posOf M) A mid B e c a hr hA hlen hm ha
    unfold AddPost at h
    have e1 : addE e c (midA mid) a = errM M ⟨e, c, a⟩ := by unfold addE errM; rw [if_pos ho, if_pos ho]
    have e2 : addL (posOf M) A B e c (midA mid) a = posOf (stepM M ⟨e, c, a⟩) := by unfold addL stepM; rw [if_pos ho, if_pos ho]
    rw [e1, e2] at h
    exact h
  · have hin : (0 ≤ e ∧ e < 8) ∧ (0 ≤ c ∧ c < 8) := by unfold OutEC at ho; omega
    obtain ⟨E, rfl⟩ := Int.eq_ofNat_of_zero_le hin.1.1
    obtain ⟨C, rfl⟩ := Int.eq_ofNat_of_zero_le hin.2.1
    have hA := around_posOf M (8 * E + C) (by omega) 0
    have k1 : (8 * E + C) / 8 = E := by omega
    have k2 : (8 * E + C) % 8 = C := by omega
    have hset := fun z => posOf_set M (8 * E + C) z (by omega) hM
    rw [k1, k2] at hA
    simp only [k1, k2] at hset
    have hmv : midA (midP M (8 * E + C)) = atM M (8 * E + C) := mid_A M _
    have h := vadd_any w v (posOf M) _ _ _ E C a hr hA hlen (by rw [hmv]; exact atM_fits h64 _) ha
    unfold AddPost at h
    rw [hmv] at h
    have hkey : keyM ⟨E, C, a⟩ = 8 * E + C := by unfold keyM; dsimp only; omega
    have e1 : addE E C (atM M (8 * E + C)) a = errM M ⟨E, C, a⟩ := by unfold addE errM; rw [if_neg ho, if_neg ho, hkey]
    have e2 : addL (posOf M) (preP M (8 * E + C)) (postP M (8 * E + C)) E C (atM M (8 * E + C)) a = posOf (stepM M ⟨E, C, a⟩) := by
      unfold addL stepM
      rw [if_neg ho, if_neg ho, hkey]
      split
      · rw [hset]
      · rfl
    rw [e1, e2] at h
    exact h
theorem err_keep {M : List Int} {p : Pos} (h : errM M p ≠ 0) : stepM M p = M := by
  unfold errM at h
  unfold stepM
  split
  · rfl
  · rename_i ho
    rw [if_neg ho] at h
    split
    · rename_i hf
      exact absurd (sumE_yes hf) h
    · rfl
theorem err_yes {M : List Int} {p : Pos} (h : errM M p = 0) : ¬ OutEC p.e p.c ∧ Fits (atM M (keyM p) + p.a) := by
  unfold errM at h
  split at h
  · cases h
  · refine ⟨‹_›, ?_⟩
    by_cases hf : Fits (atM M (keyM p) + p.a)
    · exact hf
    · rw [sumE_no hf] at h; cases h
theorem key_lt {p : Pos} (h : ¬ OutEC p.e p.c) : keyM p < 64 := by unfold OutEC at h; unfold keyM; omega
theorem atM_set_self {M : List Int} {k : Nat} (h : k < M.length) (z : Int) : atM (M.set k z) k = z := by
  unfold atM; rw [List.getD_eq_getElem?_getD, List.getElem?_set_self h]; rfl
theorem set_at {M : List Int} {k : Nat} : M.set k (atM M k) = M := by
  unfold atM
  by_cases h : k < M.length
  · rw [List.getD_eq_getElem?_getD, List.getElem?_eq_getElem h]; exact List.set_getElem_self h
  · rw [List.set_eq_of_length_le (by omega)]
/-- What is put and taken out again leaves the model as it was. -/
theorem step_back {M : List Int} {e c a : Int} (hM : M.length = 64) (h64 : All64 M) (h : errM M ⟨e, c, a⟩ = 0) :
    errM (stepM M ⟨e, c, a⟩) ⟨e, c, -a⟩ = 0 ∧ stepM (stepM M ⟨e, c, a⟩) ⟨e, c, -a⟩ = M := by
  obtain ⟨ho, hf⟩ := err_yes h
  dsimp only at ho hf
  have hk := key_lt (p := ⟨e, c, a⟩) ho
  have hkk : keyM ⟨e, c, -a⟩ = keyM ⟨e, c, a⟩ := rfl
  have hs : stepM M ⟨e, c, a⟩ = M.set (keyM ⟨e, c, a⟩) (atM M (keyM ⟨e, c, a⟩) + a) := by unfold stepM; rw [if_neg ho, if_pos hf]
  have hat : atM (stepM M ⟨e, c, a⟩) (keyM ⟨e, c, -a⟩) + -a = atM M (keyM ⟨e, c, a⟩) := by rw [hs, hkk, atM_set_self (by omega)]; omega
  have hf2 : Fits (atM (stepM M ⟨e, c, a⟩) (keyM ⟨e, c, -a⟩) + -a) := by rw [hat]; exact atM_fits h64 _
  refine ⟨?_, ?_⟩
  · unfold errM
    rw [if_neg ho]
    exact sumE_yes hf2
  · show (if OutEC e c then stepM M ⟨e, c, a⟩ else if Fits (atM (stepM M ⟨e, c, a⟩) (keyM ⟨e, c, -a⟩) + -a) then (stepM M ⟨e, c, a⟩).set (keyM ⟨e, c, -a⟩) (atM (stepM M ⟨e, c, a⟩) (keyM ⟨e, c, -a⟩) + -a) else stepM M ⟨e, c, a⟩) = M
    rw [if_neg ho, if_pos hf2, hat, hs, hkk, List.set_set, set_at]
end Go.Proofs.Ytaooiejgigicoaa
