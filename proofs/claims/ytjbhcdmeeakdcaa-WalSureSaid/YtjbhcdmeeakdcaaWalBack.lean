/- What a scan finds is what stands there; a log's disk, by cases. -/
import Derived.Test.YtjbhcdmeeakdcaaTornTop
namespace Go.Proofs.Ytjbhcdmeeakdcaa
open Go.RowKit
theorem four_num4 {l : List Int} (ho : Oct l) (h : 4 ≤ l.length) : four (num4 l) = l.take 4 := by
  match l, h with
  | a :: b :: c :: d :: t, _ =>
    have h0 := ho a (by simp)
    have h1 := ho b (by simp)
    have h2 := ho c (by simp)
    have h3 := ho d (by simp)
    have e : num4 (a :: b :: c :: d :: t) = a * 16777216 + b * 65536 + c * 256 + d := rfl
    rw [e]
    unfold four
    show [_, _, _, _] = [a, b, c, d]
    congr 1
    · omega
    · congr 1
      · omega
      · congr 1
        · omega
        · congr 1
          omega
theorem fr_back {l : List Int} (ho : Oct l) (he : frE l = 0) : l.take (frN l).toNat = recL (frD l) := by
  obtain ⟨h1, h2, h3, h4, h5, h6, h7⟩ := frE_ok ho he
  have hc : chk (datL l) = num4 (l.drop 4) := by
    unfold frE at he
    rw [if_neg (by omega), if_neg (by omega), if_neg (by omega)] at he
    by_cases hk : chk (datL l) = num4 (l.drop 4)
    · exact hk
    · rw [if_pos hk] at he; cases he
  have e1 := four_num4 ho (by omega)
  have e2 := four_num4 (l := l.drop 4) (ho.drop 4) (by rw [List.length_drop]; omega)
  unfold recL
  rw [h6, h5, hc, e1, e2, h7]
  have hn : (8 + num4 l).toNat = 4 + (4 + (num4 l).toNat) := by omega
  rw [hn, List.take_add, List.take_add]
  unfold datL
  rw [List.drop_drop]
theorem sc_back {l : List Int} (ho : Oct l) : l.take (scN l) = recsL (scD l) := by
  suffices h : ∀ n (l : List Int), l.length ≤ n → Oct l → l.take (scN l) = recsL (scD l) from h l.length l (Nat.le_refl _) ho
  intro n
  induction n with
  | zero =>
    intro l hl _
    have h := sc_short (l := l) (by omega)
    rw [h.1, h.2, List.take_zero]; rfl
  | succ n ih =>
    intro l hl ho
    by_cases he : frE l = 0
    · have hk := frE_ok ho he
      have h := sc_yes ho he
      have hi := ih (l.drop (frN l).toNat) (by rw [List.length_drop]; omega) (ho.drop _)
      rw [h.1, h.2, recsL_cons, List.take_add, hi, fr_back ho he]
    · have h := sc_no he
      rw [h.1, h.2, List.take_zero]; rfl
theorem tornL_zero {l : List Int} {cut : Nat} (ho : Oct l) (hc : cut ≤ l.length) : tornL l cut 0 = l.take cut := by
  unfold tornL
  by_cases h : cut = 0
  · rw [if_pos h, h, List.take_zero]
  · rw [if_neg h]
    have hx : xorI (l.getD (cut - 1) 0) 0 = l.getD (cut - 1) 0 := xorI_zero (ho.getD _).1
    rw [hx]
    refine List.ext_getElem? fun i => ?_
    rw [List.getElem?_set]
    by_cases hi : cut - 1 = i
    · subst hi
      rw [if_pos rfl, if_pos (by rw [List.length_take]; omega), List.getElem?_take, if_pos (by omega), List.getD_eq_getElem?_getD, List.getElem?_eq_getElem (by omega)]
      rfl
    · rw [if_neg hi]
/-- A record of which the end is missing is none. -/
theorem sc_part {x : List Int} (h : Rec1 16384 x) {j : Nat} (hj : j < (recL x).length) : scD ((recL x).take j) = [] := by
  have hl := recL_length x
  have ho := recL_oct h.1 h.2
  have h1 := torn_one h (cut := j) (by omega) (t := 0) (by decide) [] (.inl (by omega))
  rw [List.append_nil, tornL_zero ho (by omega)] at h1
  exact (sc_no h1).1
theorem sc_torn {C : List (List Int)} (h : ∀ d ∈ C, Rec1 16384 d) {cut : Nat} (hc : cut ≤ (recsL C).length) {t : Int} (ht : 0 ≤ t ∧ t < 256) : ∃ m, m ≤ C.length ∧ scD (tornL (recsL C) cut t) = C.take m := by
  have ha := (torn_any C h 0 cut hc ht).1
  by_cases hm : wholeL ((0 + cut : Nat) : Int) t (endsF 0 C) ≤ C.length
  · exact ⟨_, hm, ha⟩
  · exact ⟨C.length, Nat.le_refl _, by rw [ha, List.take_of_length_le (by omega), List.take_length]⟩
/-- A disk that is up; one that is down. -/
def uD (rm : Nat) (S R : List Int) (f : Int) : DSt := ⟨rm, S, R, false, false, f⟩
def nD (rm : Nat) (S R : List Int) : DSt := ⟨rm, S, R, false, true, -1⟩
theorem put_cases (rm : Nat) (S R x : List Int) (f : Int) :
    (putE (uD rm S R f) x = 0 ∧ x.length ≤ 16384 ∧ ∃ g, putD (uD rm S R f) x = uD rm S (R ++ recL x) g) ∨ (putE (uD rm S R f) x = 60 ∧ x.length ≤ 16384 ∧ ∃ j, j < (recL x).length ∧ putD (uD rm S R f) x = nD rm S (R ++ (recL x).take j)) ∨
    (putE (uD rm S R f) x = 3 ∧ putD (uD rm S R f) x = uD rm S R f) ∨ (putE (uD rm S R f) x = 2 ∧ putD (uD rm S R f) x = uD rm S R f) := by
  have hnd : ¬ (uD rm S R f).dn = true := Bool.false_ne_true
  by_cases hl : 16384 < x.length
  · exact .inr (.inr (.inr ⟨if_pos hl, if_pos hl⟩))
  have e1 : putE (uD rm S R f) x = (uD rm S R f).writeE (recL x).length := if_neg hl
  have e2 : putD (uD rm S R f) x = (uD rm S R f).writeD (recL x) := if_neg hl
  by_cases hf : (uD rm S R f).free < ((recL x).length : Int)
  · refine .inr (.inr (.inl ⟨?_, ?_⟩))
    · rw [e1]; unfold DSt.writeE; rw [if_neg hnd, if_pos hf]
    · rw [e2]; unfold DSt.writeD; rw [if_pos (.inr hf)]
  have hor : ¬ ((uD rm S R f).dn = true ∨ (uD rm S R f).free < ((recL x).length : Int)) := by
    intro h; rcases h with h | h
    · exact hnd h
    · exact hf h
  by_cases hs : spendE f (recL x).length = true
  · refine .inr (.inl ⟨?_, by omega, f.toNat, ?_, ?_⟩)
    · rw [e1]; unfold DSt.writeE; rw [if_neg hnd, if_neg hf]; exact if_pos hs
    · unfold spendE at hs; rw [decide_eq_true_eq] at hs; omega
    · rw [e2]; unfold DSt.writeD; rw [if_neg hor]
      show (⟨rm, S, R ++ (recL x).take (spendN f (recL x).length), false, spendE f (recL x).length, spendL f (recL x).length⟩ : DSt) = nD rm S (R ++ (recL x).take f.toNat)
      have h1 : spendN f (recL x).length = f.toNat := if_pos hs
      have h2 : spendL f (recL x).length = -1 := by
        unfold spendL
        rw [if_pos hs]
        unfold spendE at hs; rw [decide_eq_true_eq] at hs
        rw [if_neg (by omega)]
      rw [h1, h2, hs]; rfl
  · have hs' : spendE f (recL x).length = false := by simpa using hs
    refine .inl ⟨?_, by omega, spendL f (recL x).length, ?_⟩
    · rw [e1]; unfold DSt.writeE; rw [if_neg hnd, if_neg hf]; exact if_neg hs
    · rw [e2]; unfold DSt.writeD; rw [if_neg hor]
      show (⟨rm, S, R ++ (recL x).take (spendN f (recL x).length), false, spendE f (recL x).length, spendL f (recL x).length⟩ : DSt) = uD rm S (R ++ recL x) (spendL f (recL x).length)
      have h1 : spendN f (recL x).length = (recL x).length := if_neg hs
      rw [h1, hs', List.take_length]; rfl
theorem sync_up (rm : Nat) (S R : List Int) (f : Int) : (uD rm S R f).syncE = 0 ∧ (uD rm S R f).syncD = uD rm (S ++ R) [] f := ⟨rfl, rfl⟩
theorem add_cases (rm : Nat) (S R x : List Int) (f : Int) :
    (addE (uD rm S R f) x = 0 ∧ putE (uD rm S R f) x = 0 ∧ x.length ≤ 16384 ∧ ∃ g, addD (uD rm S R f) x = uD rm (S ++ (R ++ recL x)) [] g) ∨ (addE (uD rm S R f) x = 60 ∧ putE (uD rm S R f) x = 60 ∧ x.length ≤ 16384 ∧ ∃ j, j < (recL x).length ∧ addD (uD rm S R f) x = nD rm S (R ++ (recL x).take j)) ∨
    (addE (uD rm S R f) x = 3 ∧ putE (uD rm S R f) x = 3 ∧ addD (uD rm S R f) x = uD rm S R f) ∨ (addE (uD rm S R f) x = 2 ∧ putE (uD rm S R f) x = 2 ∧ addD (uD rm S R f) x = uD rm S R f) := by
  rcases put_cases rm S R x f with ⟨h1, h2, g, h3⟩ | ⟨h1, h2, j, h3, h4⟩ | ⟨h1, h2⟩ | ⟨h1, h2⟩
  · refine .inl ⟨?_, h1, h2, g, ?_⟩
    · unfold addE; rw [if_pos h1, h3]; rfl
    · unfold addD; rw [if_pos h1, h3]; rfl
  · refine .inr (.inl ⟨?_, h1, h2, j, h3, ?_⟩)
    · unfold addE; rw [if_neg (by rw [h1]; decide), h1]
    · unfold addD; rw [if_neg (by rw [h1]; decide), h4]
  · refine .inr (.inr (.inl ⟨?_, h1, ?_⟩))
    · unfold addE; rw [if_neg (by rw [h1]; decide), h1]
    · unfold addD; rw [if_neg (by rw [h1]; decide), h2]
  · refine .inr (.inr (.inr ⟨?_, h1, ?_⟩))
    · unfold addE; rw [if_neg (by rw [h1]; decide), h1]
    · unfold addD; rw [if_neg (by rw [h1]; decide), h2]
theorem ren_cases (rm : Nat) (S R : List Int) (f : Int) {dss : List (List Int)} (hs : Short dss) :
    (renLE (uD rm S R f) dss = 0 ∧ renewLE (uD rm S R f) dss = 0 ∧ ∃ g, renLD (uD rm S R f) dss = uD rm (recsL dss) [] g) ∨ (renLE (uD rm S R f) dss = 60 ∧ renewLE (uD rm S R f) dss = 60 ∧ renLD (uD rm S R f) dss = nD rm S R) ∨
    (renLE (uD rm S R f) dss = 3 ∧ renewLE (uD rm S R f) dss = 3 ∧ renLD (uD rm S R f) dss = uD rm S R f) := by
  have hnd : ¬ (uD rm S R f).dn = true := Bool.false_ne_true
  have hE : renewLE (uD rm S R f) dss = (uD rm S R f).renewE (recsL dss).length := if_pos hs
  have hD : renewLD (uD rm S R f) dss = (uD rm S R f).renewD (recsL dss) := if_pos hs
  by_cases hr : (uD rm S R f).room < (recsL dss).length
  · have e1 : (uD rm S R f).renewE (recsL dss).length = 3 := by unfold DSt.renewE; rw [if_neg hnd, if_pos hr]
    have e2 : (uD rm S R f).renewD (recsL dss) = uD rm S R f := by unfold DSt.renewD; rw [if_pos (.inr hr)]
    rw [e1] at hE
    rw [e2] at hD
    refine .inr (.inr ⟨?_, hE, ?_⟩)
    · unfold renLE; rw [if_neg (by rw [hE]; decide), hE]
    · unfold renLD; rw [if_neg (by rw [hE]; decide), hD]
  have hor : ¬ ((uD rm S R f).dn = true ∨ (uD rm S R f).room < (recsL dss).length) := by
    intro h; rcases h with h | h
    · exact hnd h
    · exact hr h
  by_cases hsp : spendE f (recsL dss).length = true
  · have e1 : (uD rm S R f).renewE (recsL dss).length = 60 := by
      unfold DSt.renewE; rw [if_neg hnd, if_neg hr]; exact if_pos hsp
    have e2 : (uD rm S R f).renewD (recsL dss) = nD rm S R := by
      unfold DSt.renewD; rw [if_neg hor]; exact if_pos hsp
    rw [e1] at hE
    rw [e2] at hD
    refine .inr (.inl ⟨?_, hE, ?_⟩)
    · unfold renLE; rw [if_neg (by rw [hE]; decide), hE]
    · unfold renLD; rw [if_neg (by rw [hE]; decide), hD]
  · have e1 : (uD rm S R f).renewE (recsL dss).length = 0 := by
      unfold DSt.renewE; rw [if_neg hnd, if_neg hr]; exact if_neg hsp
    have e2 : (uD rm S R f).renewD (recsL dss) = ⟨rm, S, recsL dss, true, false, spendL f (recsL dss).length⟩ := by
      unfold DSt.renewD; rw [if_neg hor]; exact if_neg hsp
    rw [e1] at hE
    rw [e2] at hD
    refine .inl ⟨?_, hE, spendL f (recsL dss).length, ?_⟩
    · unfold renLE; rw [if_pos hE, hD]; rfl
    · unfold renLD; rw [if_pos hE, hD]; rfl
theorem crash_up (rm : Nat) (S R : List Int) (f k t : Int) : (uD rm S R f).crashD k t = nD rm S (tornL R (keepN k R.length) t) := rfl
theorem up_down (rm : Nat) (S R : List Int) : (nD rm S R).upD = uD rm (S ++ R) [] (-1) := by
  unfold DSt.upD DSt.giveD DSt.settleD DSt.all DSt.ahead nD uD
  simp
theorem uD_all (rm : Nat) (S R : List Int) (f : Int) : (uD rm S R f).all = S ++ R := rfl
theorem uD_fits {rm : Nat} {S R : List Int} {f : Int} (h : (uD rm S R f).Ok) : (uD rm S R f).Fits := by
  obtain ⟨_, _, _, _, _, _, _, _, h⟩ := h
  have h' : 0 ≤ ((rm : Nat) : Int) - (S.length : Int) - (R.length : Int) := h
  show S.length ≤ rm
  omega
theorem nD_fits {rm : Nat} {S R : List Int} (h : (nD rm S R).Ok) : (nD rm S R).Fits := by
  obtain ⟨_, _, _, _, _, _, _, _, h⟩ := h
  have h' : 0 ≤ ((rm : Nat) : Int) - (S.length : Int) - (R.length : Int) := h
  show S.length ≤ rm
  omega
theorem open_up {rm : Nat} {X : List Int} (h : (uD rm X [] (-1)).Ok) : openE (uD rm X [] (-1)) = 0 ∧ scD (uD rm X [] (-1)).all = scD X ∧ openD (uD rm X [] (-1)) = uD rm (recsL (scD X)) [] (-1) := by
  have hX : Oct X := h.2.1
  have ho := calm_open (d := uD rm X [] (-1)) ⟨rfl, rfl⟩ h
  rw [uD_all, List.append_nil] at ho
  refine ⟨ho.1, by rw [uD_all, List.append_nil], ?_⟩
  rw [ho.2, sc_back hX]; rfl
end Go.Proofs.Ytjbhcdmeeakdcaa
