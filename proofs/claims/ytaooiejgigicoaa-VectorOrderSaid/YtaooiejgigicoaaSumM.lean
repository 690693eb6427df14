/- What many small puts come to: at each place their sum. -/
import Derived.Test.YtaooiejgigicoaaPlusV
namespace Go.Proofs.Ytaooiejgigicoaa
open Go.RowKit
/-- What of a put comes to place k. -/
def toM (k : Nat) (p : Pos) : Int := if OutEC p.e p.c then 0 else if keyM p = k then p.a else 0
def sumM (ps : List Pos) (k : Nat) : Int := (ps.map (toM k)).sum
theorem sumM_app (ps qs : List Pos) (k : Nat) : sumM (ps ++ qs) k = sumM ps k + sumM qs k := by
  unfold sumM; rw [List.map_append, List.sum_append]
def SmallP (p : Pos) : Prop := -1125899906842624 ≤ p.a ∧ p.a ≤ 1125899906842624
theorem toM_small {p : Pos} (h : SmallP p) (k : Nat) : -1125899906842624 ≤ toM k p ∧ toM k p ≤ 1125899906842624 := by
  unfold SmallP at h
  unfold toM
  repeat' split
  all_goals omega
theorem sumM_small : ∀ (ps : List Pos) (k : Nat), (∀ p ∈ ps, SmallP p) → -1125899906842624 * (ps.length : Int) ≤ sumM ps k ∧ sumM ps k ≤ 1125899906842624 * (ps.length : Int)
  | [], _, _ => by simp [sumM]
  | p :: ps, k, h => by
    have h1 := toM_small (h p (by simp)) k
    have h2 := sumM_small ps k (fun q hq => h q (by simp [hq]))
    have e : sumM (p :: ps) k = toM k p + sumM ps k := by unfold sumM; simp
    rw [e, List.length_cons]
    omega
theorem step_at {M : List Int} (hM : M.length = 64) (p : Pos) (hf : Fits (atM M (keyM p) + p.a)) (k : Nat) : atM (stepM M p) k = atM M k + toM k p := by
  unfold stepM toM
  by_cases ho : OutEC p.e p.c
  · rw [if_pos ho, if_pos ho]; omega
  · rw [if_neg ho, if_neg ho, if_pos hf]
    have hk := key_lt ho
    by_cases he : keyM p = k
    · rw [if_pos he, ← he, atM_set_self (by omega)]
    · rw [if_neg he]
      have h0 : atM (M.set (keyM p) (atM M (keyM p) + p.a)) k = atM M k := by
        generalize atM M (keyM p) + p.a = z
        unfold atM
        rw [List.getD_eq_getElem?_getD, List.getD_eq_getElem?_getD, List.getElem?_set_ne he]
      rw [h0]; omega
/-- Small puts that are not too many all fit: none is refused, and each place has their sum. -/
theorem fold_sum (ps : List Pos) : ∀ (M : List Int), M.length = 64 → (∀ p ∈ ps, SmallP p) → (∀ k, -1125899906842624 * ((1000 : Int) - ps.length) ≤ atM M k ∧ atM M k ≤ 1125899906842624 * ((1000 : Int) - ps.length)) → ∀ k, atM (ps.foldl stepM M) k = atM M k + sumM ps k := by
  induction ps with
  | nil =>
    intro M _ _ _ k
    simp [sumM]
  | cons p ps ih =>
    intro M hM hs hb k
    have hp := hs p (by simp)
    have hbk := hb (keyM p)
    simp only [List.length_cons] at hb hbk
    have hf : Fits (atM M (keyM p) + p.a) := by
      unfold SmallP at hp
      unfold Fits
      generalize atM M (keyM p) = z at *
      omega
    have e : sumM (p :: ps) k = toM k p + sumM ps k := by unfold sumM; simp
    rw [List.foldl_cons, ih (stepM M p) (step_len p hM) (fun q hq => hs q (by simp [hq])) ?_ k, step_at hM p hf, e]
    · omega
    · intro j
      rw [step_at hM p hf]
      have h1 := toM_small hp j
      have h2 := hb j
      generalize atM M j = z at *
      generalize toM j p = u at *
      omega
theorem atM_zero (k : Nat) : atM (List.replicate 64 0) k = 0 := by
  unfold atM
  rw [List.getD_eq_getElem?_getD, List.getElem?_replicate]
  split <;> rfl
theorem play_sum (ps : List Pos) (hs : ∀ p ∈ ps, SmallP p) (hn : ps.length ≤ 100) (k : Nat) : atM (playM ps) k = sumM ps k := by
  unfold playM
  rw [fold_sum ps _ (by simp) hs (fun j => by rw [atM_zero]; omega) k, atM_zero]; omega
theorem list64 {M N : List Int} (hM : M.length = 64) (hN : N.length = 64) (h : ∀ k, atM M k = atM N k) : M = N := by
  apply List.ext_getElem (by omega)
  intro i h1 h2
  have := h i
  unfold atM at this
  rw [List.getD_eq_getElem?_getD, List.getD_eq_getElem?_getD, List.getElem?_eq_getElem h1, List.getElem?_eq_getElem h2] at this
  simpa using this
theorem play_turn (ps : List Pos) (hs : ∀ p ∈ ps, SmallP p) (hn : ps.length ≤ 100) (k : Nat) : playM (ps.drop k ++ ps.take k) = playM ps := by
  refine list64 (playM_len _) (playM_len _) fun j => ?_
  have hs2 : ∀ p ∈ ps.drop k ++ ps.take k, SmallP p := fun p hp => by
    rcases List.mem_append.1 hp with h | h
    · exact hs p (List.mem_of_mem_drop h)
    · exact hs p (List.mem_of_mem_take h)
  have hn2 : (ps.drop k ++ ps.take k).length ≤ 100 := by simp only [List.length_append, List.length_drop, List.length_take]; omega
  rw [play_sum _ hs2 hn2, play_sum _ hs hn, sumM_app]
  conv => rhs; rw [← List.take_append_drop k ps]
  rw [sumM_app]; omega
/-- What two vectors have at each place, together, up to place j. -/
def addTo_ (M N : List Int) (j : Nat) : List Int := (List.range 64).map (fun i => if i < j then atM M i + atM N i else atM M i)
theorem addTo_len (M N : List Int) (j : Nat) : (addTo_ M N j).length = 64 := by simp [addTo_]
theorem addTo_at (M N : List Int) (j k : Nat) (hk : k < 64) : atM (addTo_ M N j) k = if k < j then atM M k + atM N k else atM M k := by
  unfold atM addTo_
  rw [List.getD_eq_getElem?_getD, List.getElem?_map, List.getElem?_range hk]
  rfl
theorem addTo_zero {M : List Int} (N : List Int) (hM : M.length = 64) : addTo_ M N 0 = M := by
  apply List.ext_getElem (by rw [addTo_len, hM])
  intro i h1 h2
  simp [addTo_, atM, h2]
theorem addTo_succ (M N : List Int) (j : Nat) (_ : j < 64) : addTo_ M N (j + 1) = (addTo_ M N j).set j (atM M j + atM N j) := by
  apply List.ext_getElem (by simp [addTo_])
  intro i h1 h2
  rw [List.getElem_set]
  simp only [addTo_, List.getElem_map, List.getElem_range]
  by_cases he : j = i
  · subst he; rw [if_pos (by omega), if_pos rfl]
  · rw [if_neg he]
    by_cases hl : i < j
    · rw [if_pos (by omega), if_pos hl]
    · rw [if_neg (by omega), if_neg hl]
theorem plus_pre (M N : List Int) (hM : M.length = 64) : ∀ j, j ≤ 64 → (∀ i, i < j → Fits (atM M i + atM N i)) → All64 M → plusE M (preP N j) = 0 ∧ (preP N j).foldl stepM M = addTo_ M N j
  | 0, _, _, _ => ⟨rfl, (addTo_zero N hM).symm⟩
  | j + 1, hj, hf, h64 => by
    obtain ⟨h1, h2⟩ := plus_pre M N hM j (by omega) (fun i hi => hf i (by omega)) h64
    rw [preP_succ]
    rw [plusE_app _ _ _ h1, List.foldl_append, h2]
    have hfj := hf j (by omega)
    have hat : atM (addTo_ M N j) j = atM M j := by rw [addTo_at _ _ _ _ (by omega), if_neg (by omega)]
    rcases mid_val N j with ⟨hm, hz⟩ | ⟨hm, hz⟩
    · rw [hm]
      refine ⟨rfl, ?_⟩
      rw [addTo_succ M N j (by omega), hz]
      show addTo_ M N j = _
      rw [show atM M j + 0 = atM (addTo_ M N j) j by rw [hat]; omega, set_at]
    · rw [hm]
      have ho : ¬ OutEC ((j / 8 : Nat) : Int) ((j % 8 : Nat) : Int) := by unfold OutEC; omega
      have hkey : keyM ⟨(j / 8 : Nat), (j % 8 : Nat), atM N j⟩ = j := by unfold keyM; dsimp only; omega
      have hstep : stepM (addTo_ M N j) ⟨(j / 8 : Nat), (j % 8 : Nat), atM N j⟩ = addTo_ M N (j + 1) := by
        unfold stepM
        rw [if_neg ho, hkey, hat, if_pos hfj, addTo_succ M N j (by omega)]
      have herr : errM (addTo_ M N j) ⟨(j / 8 : Nat), (j % 8 : Nat), atM N j⟩ = 0 := by
        unfold errM
        rw [if_neg ho, hkey, hat]
        exact sumE_yes hfj
      refine ⟨?_, hstep⟩
      show (if errM (addTo_ M N j) ⟨(j / 8 : Nat), (j % 8 : Nat), atM N j⟩ = 0 then plusE (stepM (addTo_ M N j) ⟨(j / 8 : Nat), (j % 8 : Nat), atM N j⟩) [] else _) = 0
      rw [if_pos herr]; rfl
theorem preP_all (N : List Int) : preP N 64 = posOf N := rfl
theorem plus_fits {M N : List Int} (hM : M.length = 64) (h64 : All64 M) (hf : ∀ i, i < 64 → Fits (atM M i + atM N i)) : plusE M (posOf N) = 0 ∧ (posOf N).foldl stepM M = addTo_ M N 64 := plus_pre M N hM 64 (Nat.le_refl _) hf h64
/-- Where one place doesn't fit, the whole is refused: a sum that doesn't fit. -/
theorem plus_not {M N : List Int} (hM : M.length = 64) (h64 : All64 M) : ∀ j, j ≤ 64 → (∃ i, i < j ∧ ¬ Fits (atM M i + atM N i)) → plusE M (preP N j) = 10
  | 0, _, ⟨i, hi, _⟩ => by omega
  | j + 1, hj, ⟨i, hi, hn⟩ => by
    by_cases hex : ∃ i, i < j ∧ ¬ Fits (atM M i + atM N i)
    · have h1 := plus_not hM h64 j (by omega) hex
      rw [preP_succ, plusE_bad _ _ _ (by rw [h1]; decide), h1]
    · have hall : ∀ i, i < j → Fits (atM M i + atM N i) := fun i hi => by
        by_cases h : Fits (atM M i + atM N i)
        · exact h
        · exact absurd ⟨i, hi, h⟩ hex
      have hij : i = j := by
        by_cases h : i < j
        · exact absurd (hall i h) hn
        · omega
      subst hij
      obtain ⟨h1, h2⟩ := plus_pre M N hM i (by omega) hall h64
      rw [preP_succ, plusE_app _ _ _ h1, h2]
      have hat : atM (addTo_ M N i) i = atM M i := by rw [addTo_at _ _ _ _ (by omega), if_neg (by omega)]
      rcases mid_val N i with ⟨hm, hz⟩ | ⟨hm, hz⟩
      · exfalso
        apply hn
        rw [hz]
        have := atM_fits h64 i
        rw [show atM M i + 0 = atM M i by omega]
        exact this
      · rw [hm]
        have ho : ¬ OutEC ((i / 8 : Nat) : Int) ((i % 8 : Nat) : Int) := by unfold OutEC; omega
        have hkey : keyM ⟨(i / 8 : Nat), (i % 8 : Nat), atM N i⟩ = i := by unfold keyM; dsimp only; omega
        have herr : errM (addTo_ M N i) ⟨(i / 8 : Nat), (i % 8 : Nat), atM N i⟩ = 10 := by
          unfold errM
          rw [if_neg ho, hkey, hat]
          exact sumE_no hn
        show (if errM (addTo_ M N i) ⟨(i / 8 : Nat), (i % 8 : Nat), atM N i⟩ = 0 then _ else errM (addTo_ M N i) ⟨(i / 8 : Nat), (i % 8 : Nat), atM N i⟩) = 10
        rw [if_neg (by rw [herr]; decide), herr]
/-- Two vectors of small puts together are the vector of all puts. -/
theorem plus_parts (ps qs : List Pos) (hp : ∀ p ∈ ps, SmallP p) (hq : ∀ p ∈ qs, SmallP p) (h1 : ps.length ≤ 30) (h2 : qs.length ≤ 30) :
    plusE (playM ps) (posOf (playM qs)) = 0 ∧ (posOf (playM qs)).foldl stepM (playM ps) = playM (ps ++ qs) ∧ playM (qs ++ ps) = playM (ps ++ qs) := by
  have hpq : ∀ p ∈ ps ++ qs, SmallP p := fun p h => (List.mem_append.1 h).elim (hp p) (hq p)
  have hqp : ∀ p ∈ qs ++ ps, SmallP p := fun p h => (List.mem_append.1 h).elim (hq p) (hp p)
  have l1 : (ps ++ qs).length ≤ 100 := by rw [List.length_append]; omega
  have l2 : (qs ++ ps).length ≤ 100 := by rw [List.length_append]; omega
  have hf : ∀ i, i < 64 → Fits (atM (playM ps) i + atM (playM qs) i) := fun i _ => by
    rw [play_sum ps hp (by omega), play_sum qs hq (by omega)]
    have a := sumM_small ps i hp
    have b := sumM_small qs i hq
    unfold Fits
    omega
  obtain ⟨e1, e2⟩ := plus_fits (playM_len ps) (playM_64 ps) hf
  refine ⟨e1, ?_, ?_⟩
  · rw [e2]
    refine list64 (addTo_len _ _ _) (playM_len _) fun k => ?_
    by_cases hk : k < 64
    · rw [addTo_at _ _ _ _ hk, if_pos hk, play_sum ps hp (by omega), play_sum qs hq (by omega), play_sum _ hpq l1, sumM_app]
    · have z1 : atM (addTo_ (playM ps) (playM qs) 64) k = 0 := by
        unfold atM; rw [List.getD_eq_getElem?_getD, List.getElem?_eq_none (by rw [addTo_len]; omega)]; rfl
      have z2 : atM (playM (ps ++ qs)) k = 0 := by
        unfold atM; rw [List.getD_eq_getElem?_getD, List.getElem?_eq_none (by rw [playM_len]; omega)]; rfl
      rw [z1, z2]
  · refine list64 (playM_len _) (playM_len _) fun k => ?_
    rw [play_sum _ hqp l2, play_sum _ hpq l1, sumM_app, sumM_app]; omega
end Go.Proofs.Ytaooiejgigicoaa
