/- WholeLife: two positions that come to nought, by contract. -/
import Derived.Test.YtpapcpjkaehhoaaTotalL
import Derived.Test.YtpapcpjkaehhoaaVecAdd
namespace Go.Proofs.Ytpapcpjkaehhoaa
open Go.RowKit
def lv1 (c n : Int) : List Pos := if n = 0 then [] else [⟨0, c, n⟩]
def lv2 (c n : Int) : List Pos := if n = 0 then [] else [⟨0, c, n⟩, ⟨1, c, -n⟩]
theorem life_add1 (W : World) (c n : Int) (hc : 0 ≤ c ∧ c < 2) (hn : Fits n) : Calls Try.prog 18 #[vecV (.slice none 0 0), .int .i64 0, .int .i64 c, .int .i64 n] W fun e w' => ∃ p m k, e = .returned (.tuple #[vecV (.slice p m k), .int .i64 0]) ∧ OwnP w' W.heap.size 67 (.slice p m k) (lv1 c n) ∧ Below W.heap.size W w' := by
  have hA : Around ⟨0, c, 0⟩ [] [] [] [] := ⟨rfl, (fun _ h => by cases h), (fun _ h => by cases h), .inl rfl⟩
  have hno : ¬ OutEC 0 c := by unfold OutEC; omega
  refine (vadd_any W _ [] [] [] [] 0 c n (PRow.nil_ W) hA (by decide) (by unfold midA Fits; decide) hn).mono ?_
  rintro e w' ⟨v', rfl, ho, hb⟩
  have e1 : addE 0 c (midA []) n = 0 := by unfold addE; rw [if_neg hno, show midA [] + n = n from Int.zero_add n]; exact sumE_yes hn
  have e2 : addL [] [] [] 0 c (midA []) n = lv1 c n := by
    unfold addL lv1
    rw [if_neg hno, show midA [] + n = n from Int.zero_add n, if_pos hn]
    split <;> simp
  rw [e2] at ho
  obtain ⟨p, k, hv⟩ := ho.form
  subst hv
  exact ⟨p, _, k, by rw [e1], ho, hb⟩
theorem life_add2 (W : World) (v : Value) (c n : Int) (hc : 0 ≤ c ∧ c < 2) (hn : Fits n) (hm : Fits (-n)) (hr : PRow W v (lv1 c n)) : Calls Try.prog 18 #[vecV v, .int .i64 1, .int .i64 c, .int .i64 (-n)] W fun e w' => ∃ p m k, e = .returned (.tuple #[vecV (.slice p m k), .int .i64 0]) ∧ OwnP w' W.heap.size 67 (.slice p m k) (lv2 c n) ∧ Below W.heap.size W w' := by
  have hA : Around ⟨1, c, 0⟩ (lv1 c n) (lv1 c n) [] [] := by
    refine ⟨by simp, fun p hp => ?_, (fun _ h => by cases h), .inl rfl⟩
    unfold lv1 at hp
    split at hp
    · cases hp
    · rw [List.mem_singleton.1 hp, ordP_lt]; simp
  have hno : ¬ OutEC 1 c := by unfold OutEC; omega
  have hlen : (lv1 c n).length ≤ 1000 := by unfold lv1; split <;> simp
  refine (vadd_any W _ (lv1 c n) (lv1 c n) [] [] 1 c (-n) hr hA hlen (by unfold midA Fits; decide) hm).mono ?_
  rintro e w' ⟨v', rfl, ho, hb⟩
  have e1 : addE 1 c (midA []) (-n) = 0 := by unfold addE; rw [if_neg hno, show midA [] + -n = -n from Int.zero_add (-n)]; exact sumE_yes hm
  have e2 : addL (lv1 c n) (lv1 c n) [] 1 c (midA []) (-n) = lv2 c n := by
    unfold addL
    rw [if_neg hno, show midA [] + -n = -n from Int.zero_add (-n), if_pos hm]
    unfold lv1 lv2
    by_cases h0 : n = 0
    · subst h0; simp
    · rw [if_neg h0, if_neg (by omega), if_neg h0]; simp
  rw [e2] at ho
  obtain ⟨p, k, hv⟩ := ho.form
  subst hv
  exact ⟨p, _, k, by rw [e1], ho, hb⟩
theorem life_total (W : World) (v : Value) (c n : Int) (hn : Fits n) (hm : Fits (-n)) (hr : PRow W v (lv2 c n)) : Calls Try.prog 19 #[vecV v, .int .i64 c] W fun e w' => e = .returned (.tuple #[.int .i64 0, .int .i64 0]) ∧ Below W.heap.size W w' := by
  have h0 : (amtsC c (lv2 c n)).sum = 0 := by
    unfold amtsC lv2
    split
    · rfl
    · simp; omega
  have hF : ∀ p ∈ lv2 c n, Fits p.a := fun p hp => by
    unfold lv2 at hp
    split at hp
    · cases hp
    · rcases List.mem_cons.1 hp with h | h
      · rw [h]; exact hn
      · rw [List.mem_singleton.1 h]; exact hm
  have hl : (lv2 c n).length ≤ 64 := by unfold lv2; split <;> simp
  have h := totalL_any W v (lv2 c n) c hl hF hr
  rw [h0] at h
  exact h
end Go.Proofs.Ytpapcpjkaehhoaa
