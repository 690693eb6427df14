/- The program's reader and the document's: numbers, truths, the end. -/
import Derived.Test.YtbimbpmdiahhbaaRefList
import Derived.Test.YtbimbpmdiahhbaaReadB
import Derived.Test.YtbimbpmdiahhbaaEndA
import Derived.Test.YtbimbpmdiahhbaaReadI
namespace Go.Proofs.Ytbimbpmdiahhbaa
open Go.RowKit
theorem docAt_le {s : ByteArray} {xs : List Nat} {at_ : Nat} {e : Int} (hl : xs.length = s.size - at_) (ha : at_ ≤ s.size) : docAt xs at_ e ≤ s.size := by
  unfold docAt
  rw [doc_read]
  have := (readP_size xs 0 0).1
  unfold readL
  split
  · split <;> omega
  · exact ha
theorem natsOf_drop' (zs : List Int) (m : Nat) : natsOf (zs.drop m) = (natsOf zs).drop m := by unfold natsOf; rw [List.map_drop]
theorem bytesOf_str {zs : List Int} (h : Oct zs) : bytesOf (strOfNums zs) = natsOf zs := by
  show ((strOfNums zs).data.toList.map UInt8.toNat) = zs.map Int.toNat
  rw [strOfNums_data, List.map_map]
  apply List.map_congr_left
  intro a ha
  have := h a ha
  show (UInt8.ofNat a.toNat).toNat = a.toNat
  rw [UInt8.toNat_ofNat', Nat.mod_eq_of_lt (by omega)]
def Tie (s : ByteArray) (at_ : Nat) (e : Int) (zs : List Int) : Prop := at_ ≤ s.size ∧ s.size ≤ 20000 ∧ Oct zs ∧ zs.length ≤ 20000 ∧ (e = 0 → natsOf zs = (bytesOf s).drop at_)
theorem tie_num {s : ByteArray} {at_ : Nat} {e : Int} {zs : List Int} (h : Tie s at_ e zs) :
    numE zs e = docE ((bytesOf s).drop at_) e ∧ numV zs e = docV ((bytesOf s).drop at_) e ∧ Tie s (docAt ((bytesOf s).drop at_) at_ e) (docE ((bytesOf s).drop at_) e) (numR zs e) := by
  obtain ⟨h1, h2, h3, h4, h5⟩ := h
  have hl : ((bytesOf s).drop at_).length = s.size - at_ := by rw [List.length_drop, bytesOf_len]
  have ha := docAt_le (e := e) hl h1
  by_cases he : e = 0
  · subst he
    have hx := h5 rfl
    have hD : docE ((bytesOf s).drop at_) 0 = (readL (natsOf zs)).2.2 := by unfold docE; rw [if_pos rfl, doc_read, hx]
    have hE : numE zs 0 = docE ((bytesOf s).drop at_) 0 := by rw [hD]; unfold numE; rw [if_pos rfl]
    refine ⟨hE, ?_, ha, h2, numR_oct h3, Nat.le_trans (numR_len _ _) h4, fun h0 => ?_⟩
    · unfold numV docV
      rw [hE, if_pos rfl, hD, doc_read, ← hx]
    · unfold numR docAt
      rw [hE, if_pos h0, if_pos rfl, doc_read, ← hx, if_pos (by rw [← hD]; exact h0), natsOf_drop', hx, List.drop_drop]
  · have hD : docE ((bytesOf s).drop at_) e = e := by unfold docE; rw [if_neg he]
    have hE : numE zs e = e := numE_bad he
    refine ⟨by rw [hD, hE], ?_, ha, h2, numR_oct h3, Nat.le_trans (numR_len _ _) h4, fun h0 => absurd (hD.symm.trans h0) he⟩
    unfold numV docV
    rw [hE, if_neg he, if_neg he]
theorem tie_int {s : ByteArray} {at_ : Nat} {e : Int} {zs : List Int} (h : Tie s at_ e zs) (a b : Int) :
    intE zs e a b = dIntE ((bytesOf s).drop at_) e a b ∧ intV zs e a b = dIntV ((bytesOf s).drop at_) e a b ∧ Tie s (docAt ((bytesOf s).drop at_) at_ e) (dIntE ((bytesOf s).drop at_) e a b) (numR zs e) := by
  obtain ⟨hE, hV, t1, t2, t3, t4, t5⟩ := tie_num h
  unfold intE intV dIntV dIntE
  rw [hE, hV]
  by_cases hz : docE ((bytesOf s).drop at_) e = 0
  · by_cases ho : outB (docV ((bytesOf s).drop at_) e) a b = true
    · rw [if_pos ho, if_pos ho, if_pos ⟨hz, ho⟩, if_neg (by decide), hz]
      exact ⟨rfl, rfl, t1, t2, t3, t4, fun h => by cases h⟩
    · rw [if_neg ho, if_neg ho, if_neg (fun h => ho h.2), if_pos hz]
      exact ⟨rfl, rfl, t1, t2, t3, t4, t5⟩
  · have hv0 : docV ((bytesOf s).drop at_) e = 0 := by
      rw [← hV]; unfold numV; rw [hE, if_neg hz]
    rw [if_neg (fun h : _ ∧ _ => hz h.1), if_neg hz, hv0]
    refine ⟨?_, by split <;> rfl, t1, t2, t3, t4, t5⟩
    unfold orE
    rw [if_neg hz]
    split <;> rfl
theorem tie_bool {s : ByteArray} {at_ : Nat} {e : Int} {zs : List Int} (h : Tie s at_ e zs) :
    boolE zs e = dTE ((bytesOf s).drop at_) e ∧ boolV zs e = dTV ((bytesOf s).drop at_) e ∧ Tie s (dTA ((bytesOf s).drop at_) at_ e) (dTE ((bytesOf s).drop at_) e) (boolR zs e) := by
  obtain ⟨h1, h2, h3, h4, h5⟩ := h
  have hl : ((bytesOf s).drop at_).length = s.size - at_ := by rw [List.length_drop, bytesOf_len]
  by_cases he : e = 0
  · subst he
    have hx := h5 rfl
    cases zs with
    | nil =>
      have hX : (bytesOf s).drop at_ = [] := by rw [← hx]; rfl
      rw [hX]
      exact ⟨rfl, rfl, h1, h2, (by intro a ha; cases ha), by show 0 ≤ _; omega, fun h => by cases h⟩
    | cons z t =>
      have hz := h3 z (List.mem_cons_self ..)
      have hX : (bytesOf s).drop at_ = z.toNat :: natsOf t := by rw [← hx]; rfl
      have hX2 : (bytesOf s).drop (at_ + 1) = natsOf t := by rw [← List.drop_drop, hX]; rfl
      rw [hX] at hl ⊢
      simp only [List.length_cons] at hl
      have hT : takeE (z :: t) 0 1 = 0 := by unfold takeE; simp
      have hE : boolE (z :: t) 0 = dTE (z.toNat :: natsOf t) 0 := by
        unfold boolE dTE; rw [hT]; simp
      refine ⟨hE, ?_, ?_, h2, ?_, ?_, fun _ => ?_⟩
      · unfold boolV dTV; rw [hT]; simp; omega
      · unfold dTA; simp; omega
      · unfold boolR; rw [hT]; exact h3.drop 1
      · unfold boolR; rw [hT]; simp at h4 ⊢; omega
      · unfold boolR dTA; rw [hT]; simp; rw [hX2]
  · have hT : takeE zs e 1 = e := by unfold takeE; rw [if_pos he]
    have hD : dTE ((bytesOf s).drop at_) e = e := by unfold dTE; rw [if_neg he]
    refine ⟨?_, ?_, ?_, h2, ?_, ?_, fun h0 => absurd (hD.symm.trans h0) he⟩
    · rw [hD]; unfold boolE; rw [hT, if_neg he]
    · unfold boolV dTV; rw [hT, if_neg he, if_neg he]
    · unfold dTA; rw [if_neg he]; exact h1
    · unfold boolR; rw [hT, if_neg he]; exact h3
    · unfold boolR; rw [hT, if_neg he]; exact h4
theorem tie_end {s : ByteArray} {at_ : Nat} {e : Int} {zs : List Int} (h : Tie s at_ e zs) :
    endE zs e = dEE ((bytesOf s).drop at_) e ∧ (dEE ((bytesOf s).drop at_) e = 0 → zs.length = 0) := by
  obtain ⟨h1, h2, h3, h4, h5⟩ := h
  unfold endE dEE orE
  by_cases he : e = 0
  · subst he
    rw [← h5 rfl]
    cases zs with
    | nil => exact ⟨rfl, fun _ => rfl⟩
    | cons z t => exact ⟨by simp [natsOf], by simp [natsOf]⟩
  · rw [if_neg he, if_neg he]
    refine ⟨by split <;> rfl, fun h => absurd h he⟩
end Go.Proofs.Ytbimbpmdiahhbaa
