/- A vector of one position at most. -/
import Derived.Test.YtaooiejgigicoaaVecAdd
namespace Go.Proofs.Ytaooiejgigicoaa
open Go.RowKit
def oneL (e c s : Int) : List Pos := if s = 0 then [] else [⟨e, c, s⟩]
theorem one_around (e c s : Int) : Around ⟨e, c, 0⟩ (oneL e c s) [] (oneL e c s) [] := by
  refine ⟨by simp, (fun _ h => by cases h), (fun _ h => by cases h), ?_⟩
  unfold oneL; split
  · exact .inl rfl
  · exact .inr ⟨_, rfl, by rw [ordP_eq]; exact ⟨rfl, rfl⟩⟩
theorem one_mid (e c s : Int) : midA (oneL e c s) = s := by
  unfold oneL; split
  · rename_i h; rw [h]; rfl
  · rfl
theorem one_len (e c s : Int) : (oneL e c s).length ≤ 1 := by unfold oneL; split <;> simp
/-- An amount more at the one position there is. -/
theorem one_add (w : World) (v : Value) (e c s a : Int) (hr : PRow w v (oneL e c s)) (hs : Fits s) (ha : Fits a) (he : 0 ≤ e ∧ e < 8) (hc : 0 ≤ c ∧ c < 8) :
    Calls Try.prog 15 #[vecV v, .int .i64 e, .int .i64 c, .int .i64 a] w fun x w' => ∃ v', x = .returned (.tuple #[vecV v', .int .i64 (sumE (s + a))]) ∧ OwnP w' w.heap.size 49 v' (oneL e c (if Fits (s + a) then s + a else s)) ∧ Below w.heap.size w w' := by
  have hno : ¬ OutEC e c := by unfold OutEC; omega
  have h := vadd_any w v _ [] _ [] e c a hr (one_around e c s) (Nat.le_trans (one_len e c s) (by omega)) (by rw [one_mid]; exact hs) ha
  rw [show AddPost w (oneL e c s) [] (oneL e c s) [] e c a = fun x w' => ∃ v', x = .returned (.tuple #[vecV v', .int .i64 (sumE (s + a))]) ∧ OwnP w' w.heap.size 49 v' (oneL e c (if Fits (s + a) then s + a else s)) ∧ Below w.heap.size w w' by
    unfold AddPost addE addL
    rw [one_mid, if_neg hno, if_neg hno]
    by_cases hf : Fits (s + a)
    · rw [if_pos hf, if_pos hf]; simp [oneL]
    · rw [if_neg hf, if_neg hf]] at h
  exact h
theorem one_of (w : World) (v : Value) (e c s : Int) (hr : PRow w v (oneL e c s)) :
    Calls Try.prog 10 #[vecV v, .int .i64 e, .int .i64 c] w fun x w' => x = .returned (.int .i64 s) ∧ Below w.heap.size w w' := by
  have h := of_any w v _ [] _ [] e c hr (one_around e c s) (Nat.le_trans (one_len e c s) (by omega))
  rwa [one_mid] at h
end Go.Proofs.Ytaooiejgigicoaa
