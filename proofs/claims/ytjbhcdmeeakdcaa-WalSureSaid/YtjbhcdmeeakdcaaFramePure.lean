/- Records in bytes, as plain lists: what is written, what is read, what a scan finds. -/
import Derived.Test.YtjbhcdmeeakdcaaTellsPure
import Derived.Test.YtjbhcdmeeakdcaaTear
namespace Go.Proofs.Ytjbhcdmeeakdcaa
def num4 (l : List Int) : Int := l.getD 0 0 * 16777216 + l.getD 1 0 * 65536 + l.getD 2 0 * 256 + l.getD 3 0
def four (n : Int) : List Int := [n / 16777216, n / 65536 % 256, n / 256 % 256, n % 256]
def chk (l : List Int) : Int := ((checkN (natsOf l) : Nat) : Int)
def recL (d : List Int) : List Int := four d.length ++ (four (chk d) ++ d)
def datL (l : List Int) : List Int := (l.drop 8).take (num4 l).toNat
def frE (l : List Int) : Int := if l.length < 8 then 40 else if 16384 < num4 l then 2 else if (l.length : Int) - 8 < num4 l then 40 else if chk (datL l) ≠ num4 (l.drop 4) then 50 else 0
def frD (l : List Int) : List Int := if frE l = 0 then datL l else []
def frN (l : List Int) : Int := if frE l = 0 then 8 + num4 l else 0
theorem chk_in {l : List Int} (h : Oct l) : 0 ≤ chk l ∧ chk l < 4294967296 := by
  have := checkN_lt (natsOf_8 h)
  unfold chk; omega
theorem num4_in {l : List Int} (h : Oct l) : 0 ≤ num4 l ∧ num4 l < 4294967296 := by
  have h0 := h.getD 0
  have h1 := h.getD 1
  have h2 := h.getD 2
  have h3 := h.getD 3
  unfold num4; omega
theorem four_oct {n : Int} (h0 : 0 ≤ n) (h1 : n < 4294967296) : Oct (four n) := by
  intro a ha
  simp only [four, List.mem_cons, List.not_mem_nil, or_false] at ha
  omega
theorem num4_take (l : List Int) : num4 (l.take 4) = num4 l := by
  unfold num4
  rw [getD_take (by omega), getD_take (by omega), getD_take (by omega), getD_take (by omega)]
theorem four_length (n : Int) : (four n).length = 4 := rfl
theorem num4_four (n : Int) (xs : List Int) : num4 (four n ++ xs) = n := by
  unfold num4 four
  simp only [List.cons_append, List.getD_cons_zero, List.getD_cons_succ]
  omega
theorem recL_length (d : List Int) : (recL d).length = 8 + d.length := by
  unfold recL; simp only [List.length_append, four_length]; omega
theorem recL_oct {d : List Int} (h : Oct d) (hl : d.length ≤ 16384) : Oct (recL d) := by
  have hc := chk_in h
  exact (four_oct (by omega) (by omega)).append ((four_oct hc.1 hc.2).append h)
theorem recL_drop4 (d more : List Int) : (recL d ++ more).drop 4 = four (chk d) ++ (d ++ more) := by
  unfold recL
  rw [List.append_assoc, List.append_assoc, List.drop_left' (four_length _)]
theorem recL_drop8 (d more : List Int) : (recL d ++ more).drop 8 = d ++ more := by
  rw [show 8 = 4 + 4 from rfl, ← List.drop_drop, recL_drop4, List.drop_left' (four_length _)]
theorem recL_num4 (d more : List Int) : num4 (recL d ++ more) = d.length := by
  unfold recL
  rw [List.append_assoc]
  exact num4_four _ _
theorem rec_read {d : List Int} (h : Oct d) (hl : d.length ≤ 16384) (more : List Int) :
    frE (recL d ++ more) = 0 ∧ frD (recL d ++ more) = d ∧ frN (recL d ++ more) = 8 + d.length := by
  have hc := chk_in h
  have hn := recL_num4 d more
  have hd : datL (recL d ++ more) = d := by
    unfold datL; rw [hn, recL_drop8, Int.toNat_natCast, List.take_left]
  have hk : num4 ((recL d ++ more).drop 4) = chk d := by rw [recL_drop4]; exact num4_four _ _
  have hll : (recL d ++ more).length = 8 + d.length + more.length := by rw [List.length_append, recL_length]
  have he : frE (recL d ++ more) = 0 := by
    unfold frE
    rw [hll, hn, hd, hk, if_neg (by omega), if_neg (by omega), if_neg (by omega), if_neg (by simp)]
  refine ⟨he, ?_, ?_⟩
  · unfold frD; rw [if_pos he, hd]
  · unfold frN; rw [if_pos he, hn]
/-- What stands behind the errors. -/
theorem frE_ok {l : List Int} (ho : Oct l) (h : frE l = 0) : 8 ≤ l.length ∧ 0 ≤ num4 l ∧ num4 l ≤ 16384 ∧ 8 + num4 l ≤ l.length ∧ frD l = datL l ∧ (frD l).length = num4 l ∧ frN l = 8 + num4 l := by
  have hn := num4_in ho
  unfold frE at h
  split at h
  · cases h
  · rename_i h1
    split at h
    · cases h
    · rename_i h2
      split at h
      · cases h
      · rename_i h3
        split at h
        · cases h
        · rename_i h4
          have he : frE l = 0 := by unfold frE; rw [if_neg h1, if_neg h2, if_neg h3, if_neg h4]
          have hd : frD l = datL l := by unfold frD; rw [if_pos he]
          refine ⟨by omega, hn.1, by omega, by omega, hd, ?_, by unfold frN; rw [if_pos he]⟩
          rw [hd]; unfold datL; rw [List.length_take, List.length_drop]; omega
theorem frD_oct {l : List Int} (ho : Oct l) : Oct (frD l) := by
  unfold frD; split
  · exact (ho.drop 8).take _
  · intro a ha; cases ha
theorem frN_in {l : List Int} (ho : Oct l) : 0 ≤ frN l ∧ frN l ≤ l.length := by
  by_cases h : frE l = 0
  · have := frE_ok ho h; omega
  · unfold frN; rw [if_neg h]; omega

/-- What a scan finds, and how many bytes that takes. -/
def scanD : Nat → List Int → List (List Int)
  | 0, _ => []
  | f + 1, l => if frE l = 0 then frD l :: scanD f (l.drop (frN l).toNat) else []
def scanN : Nat → List Int → Nat
  | 0, _ => 0
  | f + 1, l => if frE l = 0 then (frN l).toNat + scanN f (l.drop (frN l).toNat) else 0
theorem scan_fuel {l : List Int} (ho : Oct l) : ∀ f g, l.length ≤ f → l.length ≤ g → scanD f l = scanD g l ∧ scanN f l = scanN g l := by
  intro f
  induction f generalizing l with
  | zero =>
    intro g hf hg
    obtain rfl : l = [] := List.length_eq_zero_iff.1 (by omega)
    cases g with
    | zero => exact ⟨rfl, rfl⟩
    | succ g =>
      have he : ¬ frE ([] : List Int) = 0 := by unfold frE; rw [if_pos (by simp)]; decide
      exact ⟨by simp only [scanD, if_neg he], by simp only [scanN, if_neg he]⟩
  | succ f ih =>
    intro g hf hg
    by_cases he : frE l = 0
    · have hk := frE_ok ho he
      cases g with
      | zero => omega
      | succ g =>
        have hl : (l.drop (frN l).toNat).length ≤ l.length - 8 := by rw [List.length_drop]; omega
        have := ih (ho.drop (frN l).toNat) g (by omega) (by omega)
        exact ⟨by simp only [scanD, if_pos he, this.1], by simp only [scanN, if_pos he, this.2]⟩
    · cases g with
      | zero => exact ⟨by simp only [scanD, if_neg he], by simp only [scanN, if_neg he]⟩
      | succ g => exact ⟨by simp only [scanD, if_neg he], by simp only [scanN, if_neg he]⟩
def scD (l : List Int) : List (List Int) := scanD l.length l
def scN (l : List Int) : Nat := scanN l.length l
theorem sc_no {l : List Int} (h : ¬ frE l = 0) : scD l = [] ∧ scN l = 0 := by
  unfold scD scN
  cases l.length with
  | zero => exact ⟨rfl, rfl⟩
  | succ n => exact ⟨by simp only [scanD, if_neg h], by simp only [scanN, if_neg h]⟩
theorem sc_yes {l : List Int} (ho : Oct l) (h : frE l = 0) : scD l = frD l :: scD (l.drop (frN l).toNat) ∧ scN l = (frN l).toNat + scN (l.drop (frN l).toNat) := by
  have hk := frE_ok ho h
  have hl : (l.drop (frN l).toNat).length ≤ l.length - 8 := by rw [List.length_drop]; omega
  obtain ⟨n, hn⟩ : ∃ n, l.length = n + 1 := ⟨l.length - 1, by omega⟩
  have hf := scan_fuel (ho.drop (frN l).toNat) n (l.drop (frN l).toNat).length (by omega) (Nat.le_refl _)
  unfold scD scN
  constructor
  · rw [← hf.1, hn]; simp only [scanD, if_pos h]
  · rw [← hf.2, hn]; simp only [scanN, if_pos h]
/-- One record at the beginning. -/
theorem sc_rec {d : List Int} (h : Oct d) (hl : d.length ≤ 16384) {more : List Int} (hm : Oct more) : scD (recL d ++ more) = d :: scD more ∧ scN (recL d ++ more) = 8 + d.length + scN more := by
  obtain ⟨h1, h2, h3⟩ := rec_read h hl more
  have h4 := sc_yes ((recL_oct h hl).append hm) h1
  have h5 : (recL d ++ more).drop (frN (recL d ++ more)).toNat = more := by
    rw [h3]; exact List.drop_left' (by rw [recL_length]; omega)
  rw [h5, h2, h3] at h4
  refine ⟨h4.1, ?_⟩
  rw [h4.2]; omega
def recsL (ds : List (List Int)) : List Int := (ds.map recL).flatten
theorem recsL_cons (d : List Int) (ds : List (List Int)) : recsL (d :: ds) = recL d ++ recsL ds := by simp [recsL]
theorem recsL_snoc (ds : List (List Int)) (d : List Int) : recsL (ds ++ [d]) = recsL ds ++ recL d := by simp [recsL]
def Rec1 (n : Nat) (d : List Int) : Prop := Oct d ∧ d.length ≤ n
theorem recsL_oct {ds : List (List Int)} (h : ∀ d ∈ ds, Rec1 16384 d) : Oct (recsL ds) := by
  induction ds with
  | nil => intro a ha; simp [recsL] at ha
  | cons d ds ih =>
    rw [recsL_cons]
    exact (recL_oct (h d (by simp)).1 (h d (by simp)).2).append (ih (fun x hx => h x (by simp [hx])))
theorem sc_short {l : List Int} (h : l.length < 8) : scD l = [] ∧ scN l = 0 := sc_no (by unfold frE; rw [if_pos h]; decide)
theorem sc_recs {ds : List (List Int)} (h : ∀ d ∈ ds, Rec1 16384 d) {more : List Int} (hm : Oct more) (hs : more.length < 8) : scD (recsL ds ++ more) = ds ∧ scN (recsL ds ++ more) = (recsL ds).length := by
  induction ds with
  | nil => simpa [recsL] using sc_short hs
  | cons d ds ih =>
    have i := ih (fun x hx => h x (by simp [hx]))
    have h1 := h d (by simp)
    have h2 := sc_rec h1.1 h1.2 (more := recsL ds ++ more) ((recsL_oct (fun x hx => h x (by simp [hx]))).append hm)
    rw [recsL_cons, List.append_assoc, h2.1, h2.2, i.1, i.2, List.length_append, recL_length]
    exact ⟨rfl, rfl⟩
end Go.Proofs.Ytjbhcdmeeakdcaa
