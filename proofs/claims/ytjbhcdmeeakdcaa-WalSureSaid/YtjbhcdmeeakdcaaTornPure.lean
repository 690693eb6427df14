/- Records of which the end is torn off, as plain lists. -/
import Derived.Test.YtjbhcdmeeakdcaaFramePure
namespace Go.Proofs.Ytjbhcdmeeakdcaa
theorem xorI_ne {x t : Int} (hx : 0 ≤ x) (ht : 0 ≤ t) (h : t ≠ 0) : xorI x t ≠ x := by
  intro e
  unfold xorI at e
  have h1 : x.toNat ^^^ t.toNat = x.toNat := by omega
  have h2 : x.toNat ^^^ (x.toNat ^^^ t.toNat) = 0 := by rw [h1, Nat.xor_self]
  rw [← Nat.xor_assoc, Nat.xor_self, Nat.zero_xor] at h2
  omega
theorem tornL_append {a b : List Int} {cut : Nat} (t : Int) (h : a.length < cut) : tornL (a ++ b) cut t = a ++ tornL b (cut - a.length) t := by
  unfold tornL
  rw [if_neg (by omega), if_neg (by omega), List.take_append, List.take_of_length_le (by omega), List.set_append_right _ _ (by omega)]
  congr 2
  · omega
  · rw [List.getD_eq_getElem?_getD, List.getD_eq_getElem?_getD, List.getElem?_append_right (by omega), show cut - 1 - a.length = cut - a.length - 1 by omega]
theorem tornL_whole {l more : List Int} (hl : 0 < l.length) (ho : Oct l) : tornL (l ++ more) l.length 0 = l := by
  unfold tornL
  rw [if_neg (by omega), List.take_left]
  apply List.ext_getElem?
  intro i
  rw [List.getElem?_set]
  split
  · rename_i h
    subst h
    rw [if_pos (by omega), List.getD_eq_getElem?_getD, List.getElem?_append_left (by omega), List.getElem?_eq_getElem (by omega)]
    have := ho _ (List.getElem_mem (l := l) (n := l.length - 1) (by omega))
    rw [Option.getD_some, xorI_zero this.1]
  · rfl
theorem getD_set_ne {l : List Int} {i j : Nat} (h : i ≠ j) (x : Int) : (l.set i x).getD j 0 = l.getD j 0 := by
  rw [List.getD_eq_getElem?_getD, List.getD_eq_getElem?_getD, List.getElem?_set_ne h]
theorem torn_num4 {l : List Int} {cut : Nat} (h : 8 ≤ cut) (t : Int) : num4 (tornL l cut t) = num4 l := by
  unfold tornL
  rw [if_neg (by omega)]
  unfold num4
  rw [getD_set_ne (by omega), getD_set_ne (by omega), getD_set_ne (by omega), getD_set_ne (by omega), getD_take (by omega), getD_take (by omega), getD_take (by omega), getD_take (by omega)]
theorem chk_turned {d : List Int} (i : Nat) (hi : i < d.length) {t : Int} (ht : 0 ≤ t ∧ t < 256) (h : t ≠ 0) : chk (d.set i (xorI (d.getD i 0) t)) ≠ chk d := by
  intro e
  unfold chk at e
  have e2 : checkN (natsOf (d.set i (xorI (d.getD i 0) t))) = checkN (natsOf d) := by omega
  unfold xorI at e2
  rw [natsOf_set] at e2
  have hv := valN_set (natsOf d) i t.toNat (by rw [natsOf_length]; exact hi)
  rw [natsOf_getD] at hv
  have hx := xor_back hv
  rw [show (256 : Nat) = 2 ^ 8 from rfl, ← Nat.pow_mul] at hx
  have := (checkN_burst (by simp [natsOf_length]) (8 * i) t.toNat (by rw [List.length_set, natsOf_length]; omega) (by omega) hx).1 e2
  omega
theorem torn_one {d : List Int} (h : Rec1 16384 d) {cut : Nat} (hc : cut ≤ 8 + d.length) {t : Int} (ht : 0 ≤ t ∧ t < 256) (more : List Int) (hlt : cut < 8 + d.length ∨ t ≠ 0) : frE (tornL (recL d ++ more) cut t) ≠ 0 := by
  obtain ⟨ho, hl⟩ := h
  have hTl := tornL_length (l := recL d ++ more) (cut := cut) (by rw [List.length_append, recL_length]; omega) t
  by_cases h8 : cut < 8
  · unfold frE; rw [hTl, if_pos h8]; decide
  · have hn : num4 (tornL (recL d ++ more) cut t) = d.length := by rw [torn_num4 (by omega), recL_num4 d more]
    by_cases hs : cut < 8 + d.length
    · unfold frE; rw [hTl, hn, if_neg h8, if_neg (by omega), if_pos (by omega)]; decide
    · have ht0 : t ≠ 0 := by omega
      obtain rfl : cut = 8 + d.length := by omega
      have hck := chk_in ho
      unfold frE
      rw [hTl, hn, if_neg h8, if_neg (by omega), if_neg (by omega)]
      have hT : tornL (recL d ++ more) (8 + d.length) t = four d.length ++ (four (chk d) ++ d).set (3 + d.length) (xorI ((four (chk d) ++ d).getD (3 + d.length) 0) t) := by
        unfold tornL
        rw [if_neg (by omega), show 8 + d.length = (recL d).length from (recL_length d).symm, List.take_left, recL_length]
        unfold recL
        rw [List.set_append_right _ _ (by rw [four_length]; omega), four_length]
        congr 2
        · omega
        · rw [List.append_assoc, List.getD_eq_getElem?_getD, List.getD_eq_getElem?_getD, List.getElem?_append_right (by rw [four_length]; omega), four_length, List.getElem?_append_left (by rw [List.length_append, four_length]; omega), show 8 + d.length - 1 - 4 = 3 + d.length by omega]
      have hT4 : (tornL (recL d ++ more) (8 + d.length) t).drop 4 = (four (chk d) ++ d).set (3 + d.length) (xorI ((four (chk d) ++ d).getD (3 + d.length) 0) t) := by
        rw [hT]; exact List.drop_left' (four_length _)
      have hdat : datL (tornL (recL d ++ more) (8 + d.length) t) = (tornL (recL d ++ more) (8 + d.length) t).drop 8 := by
        unfold datL; rw [hn, Int.toNat_natCast]
        exact List.take_of_length_le (by rw [List.length_drop, hTl]; omega)
      have hT8 : (tornL (recL d ++ more) (8 + d.length) t).drop 8 = ((four (chk d) ++ d).set (3 + d.length) (xorI ((four (chk d) ++ d).getD (3 + d.length) 0) t)).drop 4 := by
        rw [← hT4, List.drop_drop]
      rw [hdat, hT8, hT4]
      by_cases hd0 : d.length = 0
      · obtain rfl : d = [] := List.length_eq_zero_iff.1 hd0
        rw [if_pos]
        · decide
        · rw [List.append_nil, show ((four (chk [])).set (3 + ([] : List Int).length) (xorI ((four (chk [])).getD (3 + ([] : List Int).length) 0) t)).drop 4 = [] from rfl]
          generalize chk [] = c at *
          intro e
          have hx := xorI_ne (x := c % 256) (t := t) (by omega) ht.1 ht0
          have e3 : num4 ((four c).set (3 + ([] : List Int).length) (xorI ((four c).getD (3 + ([] : List Int).length) 0) t)) = c / 16777216 * 16777216 + c / 65536 % 256 * 65536 + c / 256 % 256 * 256 + xorI (c % 256) t := rfl
          rw [e3] at e
          omega
      · have hset : (four (chk d) ++ d).set (3 + d.length) (xorI ((four (chk d) ++ d).getD (3 + d.length) 0) t) = four (chk d) ++ d.set (d.length - 1) (xorI (d.getD (d.length - 1) 0) t) := by
          rw [List.set_append_right _ _ (by rw [four_length]; omega), four_length]
          congr 2
          · omega
          · rw [List.getD_eq_getElem?_getD, List.getD_eq_getElem?_getD, List.getElem?_append_right (by rw [four_length]; omega), four_length, show 3 + d.length - 4 = d.length - 1 by omega]
        rw [hset, List.drop_left' (four_length _), num4_four, if_pos (chk_turned _ (by omega) ht ht0)]
        decide
/-- Where each record ends. -/
def endsF : Nat → List (List Int) → List Int
  | _, [] => []
  | off, d :: ds => ((off + (8 + d.length) : Nat) : Int) :: endsF (off + (8 + d.length)) ds
theorem endsF_length (off : Nat) (ds : List (List Int)) : (endsF off ds).length = ds.length := by
  induction ds generalizing off with
  | nil => rfl
  | cons d ds ih => simp [endsF, ih]
theorem endsF_gt (off : Nat) (ds : List (List Int)) : ∀ e ∈ endsF off ds, (off : Int) + 8 ≤ e := by
  induction ds generalizing off with
  | nil => intro e he; cases he
  | cons d ds ih =>
    intro e he
    rcases List.mem_cons.1 he with rfl | he
    · omega
    · have := ih _ e he; omega
theorem endsF_snoc (off : Nat) (ds : List (List Int)) (d : List Int) : endsF off (ds ++ [d]) = endsF off ds ++ [((off + (recsL ds).length + (8 + d.length) : Nat) : Int)] := by
  induction ds generalizing off with
  | nil => simp [endsF, recsL]
  | cons x ds ih =>
    simp only [List.cons_append, endsF, ih, recsL_cons, List.length_append, recL_length]
    congr 3
    omega
/-- Does a record that ends there stay whole? -/
def goodE (cut t e : Int) : Bool := decide (e < cut ∨ e = cut ∧ t = 0)
def wholeL (cut t : Int) (es : List Int) : Nat := es.countP (goodE cut t)
theorem wholeL_none {cut t : Int} {es : List Int} (h : ∀ e ∈ es, goodE cut t e = false) : wholeL cut t es = 0 := by
  unfold wholeL
  exact List.countP_eq_zero.2 (fun e he => by rw [h e he]; decide)
theorem torn_any (ds : List (List Int)) (h : ∀ d ∈ ds, Rec1 16384 d) (off cut : Nat) (hc : cut ≤ (recsL ds).length) {t : Int} (ht : 0 ≤ t ∧ t < 256) :
    scD (tornL (recsL ds) cut t) = ds.take (wholeL ((off + cut : Nat) : Int) t (endsF off ds)) ∧
    ((off + scN (tornL (recsL ds) cut t) : Nat) : Int) = (if wholeL ((off + cut : Nat) : Int) t (endsF off ds) = 0 then (off : Int) else (endsF off ds).getD (wholeL ((off + cut : Nat) : Int) t (endsF off ds) - 1) 0) := by
  induction ds generalizing off cut with
  | nil =>
    have : cut = 0 := by simpa [recsL] using hc
    subst this
    exact ⟨rfl, rfl⟩
  | cons d ds ih =>
    have h1 := h d (by simp)
    have h2 : ∀ x ∈ ds, Rec1 16384 x := fun x hx => h x (by simp [hx])
    have hr := recL_length d
    rw [recsL_cons] at hc ⊢
    rw [List.length_append, hr] at hc
    by_cases hlt : 8 + d.length < cut
    · rw [tornL_append t (by omega), hr]
      have hi := ih h2 (off + (8 + d.length)) (cut - (8 + d.length)) (by omega)
      rw [show off + (8 + d.length) + (cut - (8 + d.length)) = off + cut by omega] at hi
      have hs := sc_rec h1.1 h1.2 (more := tornL (recsL ds) (cut - (8 + d.length)) t) (tornL_oct (recsL_oct h2) _ ht)
      have hg : goodE ((off + cut : Nat) : Int) t ((off + (8 + d.length) : Nat) : Int) = true := by unfold goodE; rw [decide_eq_true_eq]; omega
      have hw : wholeL ((off + cut : Nat) : Int) t (endsF off (d :: ds)) = wholeL ((off + cut : Nat) : Int) t (endsF (off + (8 + d.length)) ds) + 1 := by
        unfold wholeL; rw [endsF, List.countP_cons, if_pos hg]
      rw [hs.1, hs.2, hw, hi.1]
      refine ⟨rfl, ?_⟩
      have hi2 := hi.2
      generalize wholeL ((off + cut : Nat) : Int) t (endsF (off + (8 + d.length)) ds) = m at *
      rw [if_neg (by omega), Nat.add_sub_cancel, endsF]
      cases m with
      | zero => rw [if_pos rfl] at hi2; rw [List.getD_cons_zero]; omega
      | succ m => rw [if_neg (by omega), Nat.add_sub_cancel] at hi2; rw [List.getD_cons_succ, ← hi2]; omega
    · have hrest : ∀ e ∈ endsF (off + (8 + d.length)) ds, goodE ((off + cut : Nat) : Int) t e = false := by
        intro e he
        have := endsF_gt _ _ e he
        unfold goodE; rw [decide_eq_false_iff_not]; omega
      by_cases he : cut = 8 + d.length ∧ t = 0
      · obtain ⟨rfl, rfl⟩ := he
        have hg : goodE ((off + (8 + d.length) : Nat) : Int) 0 ((off + (8 + d.length) : Nat) : Int) = true := by unfold goodE; simp
        have hw : wholeL ((off + (8 + d.length) : Nat) : Int) 0 (endsF off (d :: ds)) = 1 := by
          have := wholeL_none hrest
          unfold wholeL at this ⊢; rw [endsF, List.countP_cons, if_pos hg, this]
        have hT := tornL_whole (l := recL d) (more := recsL ds) (by omega) (recL_oct h1.1 h1.2)
        rw [hr] at hT
        have hs := sc_rec h1.1 h1.2 (more := []) (fun a ha => by cases ha)
        rw [List.append_nil] at hs
        rw [hT, hw, hs.1, hs.2]
        exact ⟨rfl, by rw [if_neg (by decide)]; simp [endsF, scN, scanN]⟩
      · have hno := torn_one h1 (cut := cut) (by omega) ht (recsL ds) (by omega)
        have hs := sc_no hno
        have hg : goodE ((off + cut : Nat) : Int) t ((off + (8 + d.length) : Nat) : Int) = false := by
          unfold goodE; rw [decide_eq_false_iff_not]; omega
        have hw : wholeL ((off + cut : Nat) : Int) t (endsF off (d :: ds)) = 0 := by
          refine wholeL_none (fun e hm => ?_)
          rw [endsF] at hm
          rcases List.mem_cons.1 hm with rfl | hm
          · exact hg
          · exact hrest e hm
        rw [hs.1, hs.2, hw]
        exact ⟨rfl, rfl⟩
end Go.Proofs.Ytjbhcdmeeakdcaa
