/- WholeLife's state: two books, in blocks of their own. -/
import Derived.Test.YtpapcpjkaehhoaaPutOk
import Derived.Test.YtpapcpjkaehhoaaBookOpenG
import Derived.Test.YtpapcpjkaehhoaaSt3
namespace Go.Proofs.Ytpapcpjkaehhoaa
open Go.RowKit
theorem TRow.stay {α : Type} {e : Enc α} {w w' : World} {v : Value} {xs : List α} (h : TRow e w v xs) (hk : ∀ k, v.ownBlock = some k → w'.heap[k]? = w.heap[k]?) (hs : w.heap.size ≤ w'.heap.size) : TRow e w' v xs := by
  obtain ⟨p, c, rfl, hc, h⟩ := h
  refine ⟨p, c, rfl, hc, ?_⟩
  rcases h with h | ⟨b, o, rfl, hlt, h⟩
  · exact .inl h
  · exact .inr ⟨b, o, rfl, by omega, fun i hi t ht => (World.cell?_of_block (hk b rfl)).trans (h i hi t ht)⟩
theorem st3_other (w : World) (g k : Nat) (a b c : Value) (h : k ≠ g) : (st3 w g a b c).heap[k]? = w.heap[k]? := by
  show (((w.setCell ⟨g, 0, none⟩ a).setCell ⟨g, 1, none⟩ b).setCell ⟨g, 2, none⟩ c).heap[k]? = _
  rw [Below.heap_setCell _ _ _ k (by show k ≠ g; omega), Below.heap_setCell _ _ _ k (by show k ≠ g; omega), Below.heap_setCell _ _ _ k (by show k ≠ g; omega)]
theorem TRow.st3 {α : Type} {e : Enc α} {w : World} {v : Value} {xs : List α} {g : Nat} (h : TRow e w v xs) (hk : ∀ k, v.ownBlock = some k → k ≠ g) (a b c : Value) : TRow e (st3 w g a b c) v xs :=
  h.stay (fun k hk' => st3_other w g k a b c (hk k hk')) (by rw [st3_size]; exact Nat.le_refl _)
/-- A book with an item put in. -/
def insX (X : List Itm) (x : Itm) : List Itm := X.filter (fun z => decide (ordP (posI z) (posI x) < 0)) ++ [x] ++ X.filter (fun z => decide (0 < ordP (posI z) (posI x)))
def GoodX (X : List Itm) : Prop := SortedP (X.map posI) ∧ ∀ x ∈ X, chkI x = 0 ∧ x.s + x.b = 1
theorem ins_around {X A mid B : List Itm} {x : Itm} (h : AroundF posI (posI x) X A mid B) : A ++ [x] ++ B = insX X x ∧ (insX X x).length ≤ X.length + 1 := by
  have hA : ∀ z ∈ A, ordP (posI z) (posI x) < 0 := fun z hz => h.pos.ahead _ (List.mem_map_of_mem hz)
  have hB : ∀ z ∈ B, 0 < ordP (posI z) (posI x) := fun z hz => h.pos.behind _ (List.mem_map_of_mem hz)
  have hM : ∀ z ∈ mid, ordP (posI z) (posI x) = 0 := fun z hz => by
    rcases h.mid1 with e | ⟨q, e, hq⟩
    · rw [e] at hz; cases hz
    · rw [e] at hz; rw [List.mem_singleton.1 hz]; exact hq
  have f1 : X.filter (fun z => decide (ordP (posI z) (posI x) < 0)) = A := by
    rw [h.all, List.filter_append, List.filter_append, List.filter_eq_self.2 (fun z hz => decide_eq_true (hA z hz)), List.filter_eq_nil_iff.2 (fun z hz => by have := hM z hz; simp; omega), List.filter_eq_nil_iff.2 (fun z hz => by have := hB z hz; simp; omega)]
    simp
  have f2 : X.filter (fun z => decide (0 < ordP (posI z) (posI x))) = B := by
    rw [h.all, List.filter_append, List.filter_append, List.filter_eq_nil_iff.2 (fun z hz => by have := hA z hz; simp; omega), List.filter_eq_nil_iff.2 (fun z hz => by have := hM z hz; simp; omega), List.filter_eq_self.2 (fun z hz => decide_eq_true (hB z hz))]
    simp
  have e : A ++ [x] ++ B = insX X x := by unfold insX; rw [f1, f2]
  refine ⟨e, ?_⟩
  rw [← e, h.all]
  simp
  omega
theorem ins_good {X : List Itm} {x : Itm} (h : GoodX X) (hx : chkI x = 0) (h1 : x.s + x.b = 1) : GoodX (insX X x) := by
  obtain ⟨hs, hg⟩ := h
  refine ⟨?_, fun z hz => ?_⟩
  · have hsub : ∀ p : Itm → Bool, SortedP ((X.filter p).map posI) := fun p => List.Pairwise.sublist ((List.filter_sublist).map posI) hs
    unfold SortedP insX
    rw [List.map_append, List.map_append, List.pairwise_append, List.pairwise_append]
    refine ⟨⟨hsub _, by simp, ?_⟩, hsub _, ?_⟩
    · intro a ha b hb
      obtain ⟨z, hz, rfl⟩ := List.mem_map.1 ha
      have hb2 : b = posI x := by simpa using hb
      subst hb2
      exact of_decide_eq_true (List.mem_filter.1 hz).2
    · intro a ha b hb
      obtain ⟨y, hy, rfl⟩ := List.mem_map.1 hb
      have hyx : 0 < ordP (posI y) (posI x) := of_decide_eq_true (List.mem_filter.1 hy).2
      rcases List.mem_append.1 ha with ha | ha
      · obtain ⟨z, hz, rfl⟩ := List.mem_map.1 ha
        have hzx : ordP (posI z) (posI x) < 0 := of_decide_eq_true (List.mem_filter.1 hz).2
        rw [ordP_lt] at hzx ⊢
        rw [ordP_gt] at hyx
        omega
      · have ha2 : a = posI x := by simpa using ha
        subst ha2
        rw [ordP_gt] at hyx
        rw [ordP_lt]
        omega
  · unfold insX at hz
    rcases List.mem_append.1 hz with hz | hz
    · rcases List.mem_append.1 hz with hz | hz
      · exact hg z (List.mem_filter.1 hz).1
      · rw [List.mem_singleton.1 hz]; exact ⟨hx, h1⟩
    · exact hg z (List.mem_filter.1 hz).1
def BS2 (w : World) (ga gb : Nat) (XA XB : List Itm) (va vb : Value) (wr : World) : Prop :=
  w.heap.size ≤ ga ∧ ga < gb ∧ Below w.heap.size w wr ∧ Blk wr ga #[.int .i64 0, va, .slice none 0 0] 26 ∧ Blk wr gb #[.int .i64 1, vb, .slice none 0 0] 26 ∧ TRow encI wr va XA ∧ TRow encI wr vb XB ∧ (∀ k, va.ownBlock = some k → k ≠ ga ∧ k ≠ gb) ∧ (∀ k, vb.ownBlock = some k → k ≠ ga ∧ k ≠ gb)
section
variable {w wr : World} {ga gb : Nat} {XA XB : List Itm} {va vb : Value}
theorem BS2.bel (h : BS2 w ga gb XA XB va vb wr) : Below w.heap.size w wr := h.2.2.1
theorem BS2.blkA (h : BS2 w ga gb XA XB va vb wr) : Blk wr ga #[.int .i64 0, va, .slice none 0 0] 26 := h.2.2.2.1
theorem BS2.blkB (h : BS2 w ga gb XA XB va vb wr) : Blk wr gb #[.int .i64 1, vb, .slice none 0 0] 26 := h.2.2.2.2.1
theorem BS2.rowA (h : BS2 w ga gb XA XB va vb wr) : TRow encI wr va XA := h.2.2.2.2.2.1
theorem BS2.rowB (h : BS2 w ga gb XA XB va vb wr) : TRow encI wr vb XB := h.2.2.2.2.2.2.1
theorem BS2.kept {w' : World} (h : BS2 w ga gb XA XB va vb wr) (hb : Below wr.heap.size wr w') : BS2 w ga gb XA XB va vb w' := by
  obtain ⟨h1, h2, h3, h4, h5, h6, h7, h8, h9⟩ := h
  exact ⟨h1, h2, h3.trans (hb.mono h3.size), h4.below hb h4.lt, h5.below hb h5.lt, h6.kept hb, h7.kept hb, h8, h9⟩
theorem around_x (X : List Itm) (h : SortedP (X.map posI)) (x : Itm) : ∃ A mid B, AroundF posI (posI x) X A mid B := aroundF_of_sorted posI _ X h
theorem bs_putA {pa : Option Addr} {na ca : Nat} (h : BS2 w ga gb XA XB (.slice pa na ca) vb wr) (x : Itm) (hg : GoodX XA) (hl : XA.length < 1000) (hx : chkI x = 0) (h1 : x.s + x.b = 1) :
    Calls Try.prog 7 #[bookV 0 (.slice pa na ca) (.slice none 0 0), x.v] wr fun e w' => ∃ p' n' c', e = .returned (.tuple #[bookV 0 (.slice p' n' c') (.slice none 0 0), .int .i64 0]) ∧ Blk w' ga #[.int .i64 0, .slice pa na ca, .slice none 0 0] 26 ∧ Below wr.heap.size wr w' ∧ BS2 w ga gb (insX XA x) XB (.slice p' n' c') vb (st3 w' ga (.int .i64 0) (.slice p' n' c') (.slice none 0 0)) := by
  obtain ⟨g1, g2, g3, g4, g5, g6, g7, g8, g9⟩ := h
  obtain ⟨A, mid, B, hA⟩ := around_x XA hg.1 x
  obtain ⟨e1, hlen⟩ := ins_around hA
  have hna : XA.length = na := by obtain ⟨_, _, e, _⟩ := g6; exact (Value.slice.inj e).2.1.symm
  have hp := (chk_ok hx).1
  unfold partsOk at hp
  refine (put_ok wr 0 pa none na ca 0 0 x XA A mid B g6 hna hA (by omega) hx (by omega)).mono ?_
  rintro e w' ⟨p', n', c', rfl, hrow, hn, hb, hown⟩
  rw [e1] at hrow
  have hga := g4.lt
  have hgb := g5.lt
  refine ⟨p', n', c', rfl, g4.below hb hga, hb, g1, g2, st3_below (g3.trans (hb.mono g3.size)) g1 _ _ _, st3_blk (g4.below hb hga) rfl _ _ _, ?_, hrow.st3 (fun k hk => ?_) _ _ _, (g7.kept hb).st3 (fun k hk => (g9 k hk).1) _ _ _, fun k hk => ?_, g9⟩
  · exact (st3_other w' ga gb _ _ _ (by omega)).trans (g5.below hb hgb)
  · rcases hown k hk with h | h
    · exact (g8 k h).1
    · omega
  · rcases hown k hk with h | h
    · exact g8 k h
    · omega
theorem bs_putB {pb : Option Addr} {nb cb : Nat} (h : BS2 w ga gb XA XB va (.slice pb nb cb) wr) (x : Itm) (hg : GoodX XB) (hl : XB.length < 1000) (hx : chkI x = 0) (h1 : x.s + x.b = 1) :
    Calls Try.prog 7 #[bookV 1 (.slice pb nb cb) (.slice none 0 0), x.v] wr fun e w' => ∃ p' n' c', e = .returned (.tuple #[bookV 1 (.slice p' n' c') (.slice none 0 0), .int .i64 0]) ∧ Blk w' gb #[.int .i64 1, .slice pb nb cb, .slice none 0 0] 26 ∧ Below wr.heap.size wr w' ∧ BS2 w ga gb XA (insX XB x) va (.slice p' n' c') (st3 w' gb (.int .i64 1) (.slice p' n' c') (.slice none 0 0)) := by
  obtain ⟨g1, g2, g3, g4, g5, g6, g7, g8, g9⟩ := h
  obtain ⟨A, mid, B, hA⟩ := around_x XB hg.1 x
  obtain ⟨e1, hlen⟩ := ins_around hA
  have hnb : XB.length = nb := by obtain ⟨_, _, e, _⟩ := g7; exact (Value.slice.inj e).2.1.symm
  have hp := (chk_ok hx).1
  unfold partsOk at hp
  refine (put_ok wr 1 pb none nb cb 0 0 x XB A mid B g7 hnb hA (by omega) hx (by omega)).mono ?_
  rintro e w' ⟨p', n', c', rfl, hrow, hn, hb, hown⟩
  rw [e1] at hrow
  have hga := g4.lt
  have hgb := g5.lt
  refine ⟨p', n', c', rfl, g5.below hb hgb, hb, g1, g2, st3_below (g3.trans (hb.mono g3.size)) (by omega) _ _ _, ?_, st3_blk (g5.below hb hgb) rfl _ _ _, (g6.kept hb).st3 (fun k hk => (g8 k hk).2) _ _ _, hrow.st3 (fun k hk => ?_) _ _ _, g8, fun k hk => ?_⟩
  · exact (st3_other w' gb ga _ _ _ (by omega)).trans (g4.below hb hga)
  · rcases hown k hk with h | h
    · exact (g9 k h).2
    · omega
  · rcases hown k hk with h | h
    · exact g9 k h
    · omega
end
end Go.Proofs.Ytpapcpjkaehhoaa
