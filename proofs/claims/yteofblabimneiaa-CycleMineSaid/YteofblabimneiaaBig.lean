/- contraref01.Plus: two numbers together. -/
import Derived.Test.YteofblabimneiaaMinus
import Derived.Deep.RegionHeld3
import Derived.Deep.RegionWith
namespace Go.Proofs.Yteofblabimneiaa
open Go.RowKit

theorem Row.below {k : IntKind} {w w' : World} {v : Value} {zs : List Int} {B : Nat} (h : Row k w v zs) (hb : Below B w w') (hB : w.heap.size ≤ B) : Row k w' v zs := h.kept (hb.mono hB)

theorem Row.form {k : IntKind} {w : World} {v : Value} {zs : List Int} (h : Row k w v zs) : ∃ p c, v = .slice p zs.length c := by obtain ⟨p, c, e, _⟩ := h; exact ⟨p, c, e⟩

/-- What a cell holds, whatever that is. -/
def peek (w : World) (a : Addr) : Value := (w.cell? a).getD undef
theorem peek_ok {w : World} {a : Addr} {v : Value} (h : w.cell? a = some v) : w.cell? a = some (peek w a) := by unfold peek; rw [h]; rfl
theorem set2_cell {w : World} {b : Nat} {x y : Value} {a : Addr} (h : a.block ≠ b) : ((w.setCell ⟨b, 0, none⟩ x).setCell ⟨b, 1, none⟩ y).cell? a = w.cell? a := by
  rw [World.cell?_of_block (w := w.setCell ⟨b, 0, none⟩ x) (Below.heap_setCell _ _ _ _ h), World.cell?_of_block (w := w) (Below.heap_setCell _ _ _ _ h)]
theorem set2_peek {w : World} {b : Nat} {x y u v : Value} (h0 : w.cell? ⟨b, 0, none⟩ = some u) (h1 : w.cell? ⟨b, 1, none⟩ = some v) :
    ((w.setCell ⟨b, 0, none⟩ x).setCell ⟨b, 1, none⟩ y).cell? ⟨b, 0, none⟩ = some (peek ((w.setCell ⟨b, 0, none⟩ x).setCell ⟨b, 1, none⟩ y) ⟨b, 0, none⟩) ∧
    ((w.setCell ⟨b, 0, none⟩ x).setCell ⟨b, 1, none⟩ y).cell? ⟨b, 1, none⟩ = some (peek ((w.setCell ⟨b, 0, none⟩ x).setCell ⟨b, 1, none⟩ y) ⟨b, 1, none⟩) := by
  constructor
  · refine peek_ok (v := x) ?_
    rw [World.cell?_setCell_other _ _ _ _ (by simp)]
    exact World.cell?_setCell_same _ _ _ h0
  · have h2 : (w.setCell ⟨b, 0, none⟩ x).cell? ⟨b, 1, none⟩ = some v := by rw [World.cell?_setCell_other _ _ _ _ (by simp)]; exact h1
    exact peek_ok (World.cell?_setCell_same _ _ _ h2)

/-- A row stays when a cell is written that holds no number of its kind. -/
theorem Row.set {k : IntKind} {w : World} {v : Value} {zs : List Int} (h : Row k w v zs) {a : Addr} {x : Value} (hx : w.cell? a = some x) (hne : ∀ n, x ≠ .int k n) (u : Value) : Row k (w.setCell a u) v zs := by
  obtain ⟨p, c, rfl, hc, h⟩ := h
  refine ⟨p, c, rfl, hc, ?_⟩
  rcases h with h | ⟨b, o, rfl, h⟩
  · exact .inl h
  · refine .inr ⟨b, o, rfl, fun i hi => ?_⟩
    have h1 := h i hi
    rw [World.cell?_setCell_other _ _ _ _ (fun e => by
      rw [e, h1] at hx
      exact hne _ (Option.some.inj hx).symm)]
    exact h1

/-- What a region holds while it calls: the two numbers' cells, and a place for the answer. -/
abbrev Held (h : Nat) (m s n t : Value) (w : World) : Prop :=
  w.cell? ⟨h, 0, none⟩ = some m ∧ w.cell? ⟨h, 1, none⟩ = some s ∧ w.cell? ⟨h + 1, 0, none⟩ = some n ∧ w.cell? ⟨h + 1, 1, none⟩ = some t ∧
  w.cell? ⟨h + 1 + 1, 0, none⟩ = some (peek w ⟨h + 1 + 1, 0, none⟩) ∧ w.cell? ⟨h + 1 + 1, 1, none⟩ = some (peek w ⟨h + 1 + 1, 1, none⟩) ∧
  w.frozen? ⟨h + 1 + 1, 0, none⟩ = false ∧ w.frozen? ⟨h + 1 + 1, 1, none⟩ = false
theorem held_call {h : Nat} {m s n t : Value} {w w' : World} (H : Held h m s n t w) (hb : Below w.heap.size w w') : Held h m s n t w' := by
  obtain ⟨h1, h2, h0, h3, h4, h5, h6, h7⟩ := H
  have l := World.block_lt_of_cell? w _ h4
  simp only at l
  refine ⟨?_, ?_, ?_, ?_, ?_, ?_, ?_, ?_⟩
  · rw [hb.cell (p := ⟨h, 0, none⟩) (by simp; omega)]; exact h1
  · rw [hb.cell (p := ⟨h, 1, none⟩) (by simp; omega)]; exact h2
  · rw [hb.cell (p := ⟨h + 1, 0, none⟩) (by simp; omega)]; exact h0
  · rw [hb.cell (p := ⟨h + 1, 1, none⟩) (by simp; omega)]; exact h3
  · refine peek_ok (v := peek w ⟨h + 1 + 1, 0, none⟩) ?_; rw [hb.cell (p := ⟨h + 1 + 1, 0, none⟩) (by simp; omega)]; exact h4
  · refine peek_ok (v := peek w ⟨h + 1 + 1, 1, none⟩) ?_; rw [hb.cell (p := ⟨h + 1 + 1, 1, none⟩) (by simp; omega)]; exact h5
  · rw [hb.frozen (p := ⟨h + 1 + 1, 0, none⟩) (by simp; omega)]; exact h6
  · rw [hb.frozen (p := ⟨h + 1 + 1, 1, none⟩) (by simp; omega)]; exact h7
theorem held_set {h : Nat} {m s n t : Value} {w : World} (H : Held h m s n t w) (x y : Value) : Held h m s n t ((w.setCell ⟨h + 1 + 1, 0, none⟩ x).setCell ⟨h + 1 + 1, 1, none⟩ y) := by
  obtain ⟨h1, h2, h0, h3, h4, h5, h6, h7⟩ := H
  exact ⟨by rw [set2_cell (by simp; omega)]; exact h1, by rw [set2_cell (by simp; omega)]; exact h2, by rw [set2_cell (by simp)]; exact h0, by rw [set2_cell (by simp)]; exact h3, (set2_peek h4 h5).1, (set2_peek h4 h5).2, by simpa using h6, by simpa using h7⟩
theorem held_drew {h : Nat} {m s n t : Value} {w : World} (H : Held h m s n t w) : Held h m s n t w.drew := H

set_option maxHeartbeats 2000000 in
theorem bigplus_same (s t : Value) (m n : Bool) (da db : List Int) (w : World) (ha : Norm da) (hb : Norm db) (hla : da.length ≤ 1000) (hlb : db.length ≤ 1000) (hs : Row .i64 w s da) (ht : Row .i64 w t db) (hmm : (m == n) = true) :
    Calls Try.prog 24 #[.agg #[.bool m, s], .agg #[.bool n, t]] w fun e w' => ∃ v, e = .returned (.agg #[.bool m, v]) ∧ Row .i64 w' v (trimL (plusC da db 0)) ∧ Below w.heap.size w w' := by
  have hl : (plusC da db 0).length ≤ 1000000 := by have := (plusC_spec da db 0 ha.1 hb.1 (by decide) (by decide)).2.2; omega
  obtain ⟨p, ca, rfl⟩ := hs.form
  obtain ⟨q, cb, rfl⟩ := ht.form
  have HS := Lib.hid hs
  have HT := Lib.hid ht
  clear hs ht
  go_enter Try.func24, Try.ntmps24
  go_wp2_with fail
  have b0 : Blk (((w.alloc (.cells #[.bool m, .slice p da.length ca] 56)).alloc (.cells #[.bool n, .slice q db.length cb] 56)).alloc (.cells #[.bool false, .slice none 0 0] 56)) w.heap.size _ _ := ((Blk.new w _ _).alloc _).alloc _
  have b1 : Blk (((w.alloc (.cells #[.bool m, .slice p da.length ca] 56)).alloc (.cells #[.bool n, .slice q db.length cb] 56)).alloc (.cells #[.bool false, .slice none 0 0] 56)) (w.heap.size + 1) _ _ := (Blk.new' _ _ _ (by simp)).alloc _
  have b2 : Blk (((w.alloc (.cells #[.bool m, .slice p da.length ca] 56)).alloc (.cells #[.bool n, .slice q db.length cb] 56)).alloc (.cells #[.bool false, .slice none 0 0] 56)) (w.heap.size + 1 + 1) _ _ := Blk.new' _ _ _ (by simp)
  have hbw : Below w.heap.size w (((w.alloc (.cells #[.bool m, .slice p da.length ca] 56)).alloc (.cells #[.bool n, .slice q db.length cb] 56)).alloc (.cells #[.bool false, .slice none 0 0] 56)) := (((Below.refl _ _).alloc (Nat.le_refl _) _).alloc (by simp) _).alloc (by simp; omega) _
  generalize (((w.alloc (.cells #[.bool m, .slice p da.length ca] 56)).alloc (.cells #[.bool n, .slice q db.length cb] 56)).alloc (.cells #[.bool false, .slice none 0 0] 56)) = W at *
  have hsW := b2.lt
  have c00 : W.cell? ⟨w.heap.size, 0, none⟩ = some (.bool m) := b0.cell 0
  have c01 : W.cell? ⟨w.heap.size, 1, none⟩ = some (.slice p da.length ca) := b0.cell 1
  have c10 : W.cell? ⟨w.heap.size + 1, 0, none⟩ = some (.bool n) := b1.cell 0
  have c11 : W.cell? ⟨w.heap.size + 1, 1, none⟩ = some (.slice q db.length cb) := b1.cell 1
  have c20 := peek_ok (show W.cell? ⟨w.heap.size + 1 + 1, 0, none⟩ = some (.bool false) from b2.cell 0)
  have c21 := peek_ok (show W.cell? ⟨w.heap.size + 1 + 1, 1, none⟩ = some (.slice none 0 0) from b2.cell 1)
  have f20 := b2.free 0
  have f21 := b2.free 1
  have RA := Lib.hid (fun (W' : World) (h : Below w.heap.size W W') => HS.out.below (hbw.trans h) (Nat.le_refl _))
  have RB := Lib.hid (fun (W' : World) (h : Below w.heap.size W W') => HT.out.below (hbw.trans h) (Nat.le_refl _))
  have HBW := Lib.hid hbw
  have B2 := Lib.hid b2
  clear b0 b1 b2 hbw HS HT
  go_region_held3 (fun w' => w'.cell? ⟨w.heap.size, 0, none⟩ = some (.bool m) ∧ w'.cell? ⟨w.heap.size, 1, none⟩ = some (.slice p da.length ca) ∧ w'.cell? ⟨w.heap.size + 1, 0, none⟩ = some (.bool n) ∧ w'.cell? ⟨w.heap.size + 1, 1, none⟩ = some (.slice q db.length cb) ∧ w'.cell? ⟨w.heap.size + 1 + 1, 0, none⟩ = some (peek w' ⟨w.heap.size + 1 + 1, 0, none⟩) ∧ w'.cell? ⟨w.heap.size + 1 + 1, 1, none⟩ = some (peek w' ⟨w.heap.size + 1 + 1, 1, none⟩) ∧ w'.frozen? ⟨w.heap.size + 1 + 1, 0, none⟩ = false ∧ w'.frozen? ⟨w.heap.size + 1 + 1, 1, none⟩ = false)
    (first | (refine held_set ?_ _ _; assumption) | (refine held_call ?_ hb1; assumption) | assumption | (refine held_drew ⟨?_, ?_, ?_, ?_, ?_, ?_, ?_, ?_⟩ <;> assumption))
    (first
      | (go_at_call 36; refine (plus_any _ _ da db _ ha.1 hb.1 (by omega) (by omega) (RA.out _ ?_) (RB.out _ ?_)).mono ?_; (exact Below.drew (Below.refl _ _)); (exact Below.drew (Below.refl _ _)); rintro e w1 ⟨v1, rfl, hrow1, hb1⟩; obtain ⟨p1, c1, rfl⟩ := hrow1.form)
      | (go_at_call 35; refine (trim_any _ _ _ hl (hrow1.kept ?_)).mono ?_; (first | exact Below.refl _ _ | exact Below.drew (Below.refl _ _)); rintro e w2 ⟨v2, rfl, hrow2, rfl⟩; obtain ⟨p2, c2, rfl⟩ := hrow2.form))
  go_wp2
  have e3 := B2.out.drew.below hb1 hsW
  have hf := (e3.set 0 (.bool m)).set 1 (.slice p2 (trimL (plusC da db 0)).length c2)
  refine bodyPost_ret (v := .agg #[.bool m, .slice p2 (trimL (plusC da db 0)).length c2]) (by simp [results, Try.results24, go_sem, hf.cell 0, hf.cell 1]) rfl ?_
  have r1 := hrow2.set (e3.cell 0) (by intro n; simp) (.bool m)
  have r2 := r1.set ((e3.set 0 (.bool m)).cell 1) (by intro n; simp) (.slice p2 (trimL (plusC da db 0)).length c2)
  exact ⟨_, rfl, r2, (((HBW.out.drew.trans (hb1.mono (by simp; omega))).setCell (p := ⟨w.heap.size + 1 + 1, 0, none⟩) (by simp; omega) _).setCell (p := ⟨w.heap.size + 1 + 1, 1, none⟩) (by simp; omega) _)⟩

set_option maxHeartbeats 2000000 in
theorem bigplus_less (s t : Value) (m n : Bool) (da db : List Int) (w : World) (ha : Norm da) (hb : Norm db) (hla : da.length ≤ 1000) (hlb : db.length ≤ 1000) (hs : Row .i64 w s da) (ht : Row .i64 w t db) (hmm : (m == n) = false) (hless : lessB (val da) (val db) = true) :
    Calls Try.prog 24 #[.agg #[.bool m, s], .agg #[.bool n, t]] w fun e w' => ∃ v, e = .returned (.agg #[.bool n, v]) ∧ Row .i64 w' v (trimL (minusC db da 0)) ∧ Below w.heap.size w w' := by
  obtain ⟨p, ca, rfl⟩ := hs.form
  obtain ⟨q, cb, rfl⟩ := ht.form
  have HS := Lib.hid hs
  have HT := Lib.hid ht
  clear hs ht
  go_enter Try.func24, Try.ntmps24
  go_wp2_with fail
  have b0 : Blk (((w.alloc (.cells #[.bool m, .slice p da.length ca] 56)).alloc (.cells #[.bool n, .slice q db.length cb] 56)).alloc (.cells #[.bool false, .slice none 0 0] 56)) w.heap.size _ _ := ((Blk.new w _ _).alloc _).alloc _
  have b1 : Blk (((w.alloc (.cells #[.bool m, .slice p da.length ca] 56)).alloc (.cells #[.bool n, .slice q db.length cb] 56)).alloc (.cells #[.bool false, .slice none 0 0] 56)) (w.heap.size + 1) _ _ := (Blk.new' _ _ _ (by simp)).alloc _
  have b2 : Blk (((w.alloc (.cells #[.bool m, .slice p da.length ca] 56)).alloc (.cells #[.bool n, .slice q db.length cb] 56)).alloc (.cells #[.bool false, .slice none 0 0] 56)) (w.heap.size + 1 + 1) _ _ := Blk.new' _ _ _ (by simp)
  have hbw : Below w.heap.size w (((w.alloc (.cells #[.bool m, .slice p da.length ca] 56)).alloc (.cells #[.bool n, .slice q db.length cb] 56)).alloc (.cells #[.bool false, .slice none 0 0] 56)) := (((Below.refl _ _).alloc (Nat.le_refl _) _).alloc (by simp) _).alloc (by simp; omega) _
  generalize (((w.alloc (.cells #[.bool m, .slice p da.length ca] 56)).alloc (.cells #[.bool n, .slice q db.length cb] 56)).alloc (.cells #[.bool false, .slice none 0 0] 56)) = W at *
  have hsW := b2.lt
  have c00 : W.cell? ⟨w.heap.size, 0, none⟩ = some (.bool m) := b0.cell 0
  have c01 : W.cell? ⟨w.heap.size, 1, none⟩ = some (.slice p da.length ca) := b0.cell 1
  have c10 : W.cell? ⟨w.heap.size + 1, 0, none⟩ = some (.bool n) := b1.cell 0
  have c11 : W.cell? ⟨w.heap.size + 1, 1, none⟩ = some (.slice q db.length cb) := b1.cell 1
  have c20 := peek_ok (show W.cell? ⟨w.heap.size + 1 + 1, 0, none⟩ = some (.bool false) from b2.cell 0)
  have c21 := peek_ok (show W.cell? ⟨w.heap.size + 1 + 1, 1, none⟩ = some (.slice none 0 0) from b2.cell 1)
  have f20 := b2.free 0
  have f21 := b2.free 1
  have RA := Lib.hid (fun (W' : World) (h : Below w.heap.size W W') => HS.out.below (hbw.trans h) (Nat.le_refl _))
  have RB := Lib.hid (fun (W' : World) (h : Below w.heap.size W W') => HT.out.below (hbw.trans h) (Nat.le_refl _))
  have HBW := Lib.hid hbw
  have B2 := Lib.hid b2
  clear b0 b1 b2 hbw HS HT
  go_wp2_with (go_at_call 37; refine (less_any _ _ da db _ ha hb (by omega) (by omega) (RA.out _ (Below.refl _ _)) (RB.out _ (Below.refl _ _))).mono ?_; rintro e w0 ⟨rfl, hb0⟩; rw [hless])
  obtain ⟨d00, d01, d10, d11, d20, d21, g20, g21⟩ := held_call ⟨c00, c01, c10, c11, c20, c21, f20, f21⟩ hb0
  have hs0 := hb0.size
  clear c00 c01 c10 c11 c20 c21 f20 f21
  go_region_held3 (fun w' => w'.cell? ⟨w.heap.size, 0, none⟩ = some (.bool m) ∧ w'.cell? ⟨w.heap.size, 1, none⟩ = some (.slice p da.length ca) ∧ w'.cell? ⟨w.heap.size + 1, 0, none⟩ = some (.bool n) ∧ w'.cell? ⟨w.heap.size + 1, 1, none⟩ = some (.slice q db.length cb) ∧ w'.cell? ⟨w.heap.size + 1 + 1, 0, none⟩ = some (peek w' ⟨w.heap.size + 1 + 1, 0, none⟩) ∧ w'.cell? ⟨w.heap.size + 1 + 1, 1, none⟩ = some (peek w' ⟨w.heap.size + 1 + 1, 1, none⟩) ∧ w'.frozen? ⟨w.heap.size + 1 + 1, 0, none⟩ = false ∧ w'.frozen? ⟨w.heap.size + 1 + 1, 1, none⟩ = false)
    (first | (refine held_set ?_ _ _; assumption) | (refine held_call ?_ hb1; assumption) | assumption | (refine held_drew ⟨?_, ?_, ?_, ?_, ?_, ?_, ?_, ?_⟩ <;> assumption))
    (first
      | (go_at_call 38; refine (minus_any _ _ db da _ hb.1 ha.1 (by omega) (by omega) (RB.out _ ?_) (RA.out _ ?_)).mono ?_; (exact (hb0.mono (by omega)).drew); (exact (hb0.mono (by omega)).drew); rintro e w1 ⟨v2, rfl, hrow2, hb1⟩; obtain ⟨p2, c2, rfl⟩ := hrow2.form))
  go_wp2
  have e3 := (B2.out.below hb0 hsW).drew.below hb1 (by simp; omega)
  have hf := (e3.set 0 (.bool n)).set 1 (.slice p2 (trimL (minusC db da 0)).length c2)
  refine bodyPost_ret (v := .agg #[.bool n, .slice p2 (trimL (minusC db da 0)).length c2]) (by simp [results, Try.results24, go_sem, hf.cell 0, hf.cell 1]) rfl ?_
  have r1 := hrow2.set (e3.cell 0) (by intro n; simp) (.bool n)
  have r2 := r1.set ((e3.set 0 (.bool n)).cell 1) (by intro n; simp) (.slice p2 (trimL (minusC db da 0)).length c2)
  exact ⟨_, rfl, r2, ((((HBW.out.trans (hb0.mono (by omega))).drew.trans (hb1.mono (by simp; omega))).setCell (p := ⟨w.heap.size + 1 + 1, 0, none⟩) (by simp; omega) _).setCell (p := ⟨w.heap.size + 1 + 1, 1, none⟩) (by simp; omega) _)⟩

set_option maxHeartbeats 2000000 in
theorem bigplus_more_no (s t : Value) (n : Bool) (da db : List Int) (w : World) (ha : Norm da) (hb : Norm db) (hla : da.length ≤ 1000) (hlb : db.length ≤ 1000) (hs : Row .i64 w s da) (ht : Row .i64 w t db) (hmm : (false == n) = false) (hless : lessB (val da) (val db) = false) :
    Calls Try.prog 24 #[.agg #[.bool false, s], .agg #[.bool n, t]] w fun e w' => ∃ v, e = .returned (.agg #[.bool false, v]) ∧ Row .i64 w' v (trimL (minusC da db 0)) ∧ Below w.heap.size w w' := by
  obtain ⟨p, ca, rfl⟩ := hs.form
  obtain ⟨q, cb, rfl⟩ := ht.form
  have HS := Lib.hid hs
  have HT := Lib.hid ht
  clear hs ht
  go_enter Try.func24, Try.ntmps24
  go_wp2_with fail
  have b0 : Blk (((w.alloc (.cells #[.bool false, .slice p da.length ca] 56)).alloc (.cells #[.bool n, .slice q db.length cb] 56)).alloc (.cells #[.bool false, .slice none 0 0] 56)) w.heap.size _ _ := ((Blk.new w _ _).alloc _).alloc _
  have b1 : Blk (((w.alloc (.cells #[.bool false, .slice p da.length ca] 56)).alloc (.cells #[.bool n, .slice q db.length cb] 56)).alloc (.cells #[.bool false, .slice none 0 0] 56)) (w.heap.size + 1) _ _ := (Blk.new' _ _ _ (by simp)).alloc _
  have b2 : Blk (((w.alloc (.cells #[.bool false, .slice p da.length ca] 56)).alloc (.cells #[.bool n, .slice q db.length cb] 56)).alloc (.cells #[.bool false, .slice none 0 0] 56)) (w.heap.size + 1 + 1) _ _ := Blk.new' _ _ _ (by simp)
  have hbw : Below w.heap.size w (((w.alloc (.cells #[.bool false, .slice p da.length ca] 56)).alloc (.cells #[.bool n, .slice q db.length cb] 56)).alloc (.cells #[.bool false, .slice none 0 0] 56)) := (((Below.refl _ _).alloc (Nat.le_refl _) _).alloc (by simp) _).alloc (by simp; omega) _
  generalize (((w.alloc (.cells #[.bool false, .slice p da.length ca] 56)).alloc (.cells #[.bool n, .slice q db.length cb] 56)).alloc (.cells #[.bool false, .slice none 0 0] 56)) = W at *
  have hsW := b2.lt
  have c00 : W.cell? ⟨w.heap.size, 0, none⟩ = some (.bool false) := b0.cell 0
  have c01 : W.cell? ⟨w.heap.size, 1, none⟩ = some (.slice p da.length ca) := b0.cell 1
  have c10 : W.cell? ⟨w.heap.size + 1, 0, none⟩ = some (.bool n) := b1.cell 0
  have c11 : W.cell? ⟨w.heap.size + 1, 1, none⟩ = some (.slice q db.length cb) := b1.cell 1
  have c20 := peek_ok (show W.cell? ⟨w.heap.size + 1 + 1, 0, none⟩ = some (.bool false) from b2.cell 0)
  have c21 := peek_ok (show W.cell? ⟨w.heap.size + 1 + 1, 1, none⟩ = some (.slice none 0 0) from b2.cell 1)
  have f20 := b2.free 0
  have f21 := b2.free 1
  have RA := Lib.hid (fun (W' : World) (h : Below w.heap.size W W') => HS.out.below (hbw.trans h) (Nat.le_refl _))
  have RB := Lib.hid (fun (W' : World) (h : Below w.heap.size W W') => HT.out.below (hbw.trans h) (Nat.le_refl _))
  have HBW := Lib.hid hbw
  have B2 := Lib.hid b2
  clear b0 b1 b2 hbw HS HT
  clear hmm
  go_wp2_with (first
    | (go_at_call 37; refine (less_any _ _ da db _ ha hb (by omega) (by omega) (RA.out _ (Below.refl _ _)) (RB.out _ (Below.refl _ _))).mono ?_; rintro e w0 ⟨rfl, hb0⟩; rw [hless]; obtain ⟨d00, d01, d10, d11, d20, d21, g20, g21⟩ := held_call ⟨c00, c01, c10, c11, c20, c21, f20, f21⟩ hb0; have hs0 := hb0.size; clear c00 c01 c10 c11 c20 c21 f20 f21)
    | (go_at_call 38; refine (minus_any _ _ da db _ ha.1 hb.1 (by omega) (by omega) (RA.out _ (hb0.mono (by omega))) (RB.out _ (hb0.mono (by omega)))).mono ?_; rintro e w1 ⟨v2, rfl, hrow2, hb1⟩; obtain ⟨p2, c2, rfl⟩ := hrow2.form; obtain ⟨e00, e01, e10, e11, e20, e21, h20, h21⟩ := held_call ⟨d00, d01, d10, d11, d20, d21, g20, g21⟩ hb1; clear d00 d01 d10 d11 d20 d21 g20 g21))
  have e3 := (B2.out.below hb0 hsW).below hb1 (by omega)
  have hf := (e3.set 0 (.bool false)).set 1 (.slice p2 (trimL (minusC da db 0)).length c2)
  refine bodyPost_ret (v := .agg #[.bool false, .slice p2 (trimL (minusC da db 0)).length c2]) (by simp [results, Try.results24, go_sem, hf.cell 0, hf.cell 1]) rfl ?_
  have r1 := hrow2.set (e3.cell 0) (by intro n; simp) (.bool false)
  have r2 := r1.set ((e3.set 0 (.bool false)).cell 1) (by intro n; simp) (.slice p2 (trimL (minusC da db 0)).length c2)
  exact ⟨_, rfl, r2, ((((HBW.out.trans (hb0.mono (by omega))).trans (hb1.mono (by omega))).setCell (p := ⟨w.heap.size + 1 + 1, 0, none⟩) (by simp; omega) _).setCell (p := ⟨w.heap.size + 1 + 1, 1, none⟩) (by simp; omega) _)⟩

set_option maxHeartbeats 2000000 in
theorem bigplus_more_yes (s t : Value) (n : Bool) (da db : List Int) (w : World) (ha : Norm da) (hb : Norm db) (hla : da.length ≤ 1000) (hlb : db.length ≤ 1000) (hs : Row .i64 w s da) (ht : Row .i64 w t db) (hmm : (true == n) = false) (hless : lessB (val da) (val db) = false) (h0 : 0 < (trimL (minusC da db 0)).length) :
    Calls Try.prog 24 #[.agg #[.bool true, s], .agg #[.bool n, t]] w fun e w' => ∃ v, e = .returned (.agg #[.bool true, v]) ∧ Row .i64 w' v (trimL (minusC da db 0)) ∧ Below w.heap.size w w' := by
  obtain ⟨p, ca, rfl⟩ := hs.form
  obtain ⟨q, cb, rfl⟩ := ht.form
  have HS := Lib.hid hs
  have HT := Lib.hid ht
  clear hs ht
  go_enter Try.func24, Try.ntmps24
  go_wp2_with fail
  have b0 : Blk (((w.alloc (.cells #[.bool true, .slice p da.length ca] 56)).alloc (.cells #[.bool n, .slice q db.length cb] 56)).alloc (.cells #[.bool false, .slice none 0 0] 56)) w.heap.size _ _ := ((Blk.new w _ _).alloc _).alloc _
  have b1 : Blk (((w.alloc (.cells #[.bool true, .slice p da.length ca] 56)).alloc (.cells #[.bool n, .slice q db.length cb] 56)).alloc (.cells #[.bool false, .slice none 0 0] 56)) (w.heap.size + 1) _ _ := (Blk.new' _ _ _ (by simp)).alloc _
  have b2 : Blk (((w.alloc (.cells #[.bool true, .slice p da.length ca] 56)).alloc (.cells #[.bool n, .slice q db.length cb] 56)).alloc (.cells #[.bool false, .slice none 0 0] 56)) (w.heap.size + 1 + 1) _ _ := Blk.new' _ _ _ (by simp)
  have hbw : Below w.heap.size w (((w.alloc (.cells #[.bool true, .slice p da.length ca] 56)).alloc (.cells #[.bool n, .slice q db.length cb] 56)).alloc (.cells #[.bool false, .slice none 0 0] 56)) := (((Below.refl _ _).alloc (Nat.le_refl _) _).alloc (by simp) _).alloc (by simp; omega) _
  generalize (((w.alloc (.cells #[.bool true, .slice p da.length ca] 56)).alloc (.cells #[.bool n, .slice q db.length cb] 56)).alloc (.cells #[.bool false, .slice none 0 0] 56)) = W at *
  have hsW := b2.lt
  have c00 : W.cell? ⟨w.heap.size, 0, none⟩ = some (.bool true) := b0.cell 0
  have c01 : W.cell? ⟨w.heap.size, 1, none⟩ = some (.slice p da.length ca) := b0.cell 1
  have c10 : W.cell? ⟨w.heap.size + 1, 0, none⟩ = some (.bool n) := b1.cell 0
  have c11 : W.cell? ⟨w.heap.size + 1, 1, none⟩ = some (.slice q db.length cb) := b1.cell 1
  have c20 := peek_ok (show W.cell? ⟨w.heap.size + 1 + 1, 0, none⟩ = some (.bool false) from b2.cell 0)
  have c21 := peek_ok (show W.cell? ⟨w.heap.size + 1 + 1, 1, none⟩ = some (.slice none 0 0) from b2.cell 1)
  have f20 := b2.free 0
  have f21 := b2.free 1
  have RA := Lib.hid (fun (W' : World) (h : Below w.heap.size W W') => HS.out.below (hbw.trans h) (Nat.le_refl _))
  have RB := Lib.hid (fun (W' : World) (h : Below w.heap.size W W') => HT.out.below (hbw.trans h) (Nat.le_refl _))
  have HBW := Lib.hid hbw
  have B2 := Lib.hid b2
  clear b0 b1 b2 hbw HS HT
  clear hmm
  go_wp2_with (first
    | (go_at_call 37; refine (less_any _ _ da db _ ha hb (by omega) (by omega) (RA.out _ (Below.refl _ _)) (RB.out _ (Below.refl _ _))).mono ?_; rintro e w0 ⟨rfl, hb0⟩; rw [hless]; obtain ⟨d00, d01, d10, d11, d20, d21, g20, g21⟩ := held_call ⟨c00, c01, c10, c11, c20, c21, f20, f21⟩ hb0; have hs0 := hb0.size; clear c00 c01 c10 c11 c20 c21 f20 f21)
    | (go_at_call 38; refine (minus_any _ _ da db _ ha.1 hb.1 (by omega) (by omega) (RA.out _ (hb0.mono (by omega))) (RB.out _ (hb0.mono (by omega)))).mono ?_; rintro e w1 ⟨v2, rfl, hrow2, hb1⟩; obtain ⟨p2, c2, rfl⟩ := hrow2.form; obtain ⟨e00, e01, e10, e11, e20, e21, h20, h21⟩ := held_call ⟨d00, d01, d10, d11, d20, d21, g20, g21⟩ hb1; clear d00 d01 d10 d11 d20 d21 g20 g21))
  have e3 := (B2.out.below hb0 hsW).below hb1 (by omega)
  have hf := (e3.set 0 (.bool true)).set 1 (.slice p2 (trimL (minusC da db 0)).length c2)
  refine bodyPost_ret (v := .agg #[.bool true, .slice p2 (trimL (minusC da db 0)).length c2]) (by simp [results, Try.results24, go_sem, hf.cell 0, hf.cell 1]) rfl ?_
  have r1 := hrow2.set (e3.cell 0) (by intro n; simp) (.bool true)
  have r2 := r1.set ((e3.set 0 (.bool true)).cell 1) (by intro n; simp) (.slice p2 (trimL (minusC da db 0)).length c2)
  exact ⟨_, rfl, r2, ((((HBW.out.trans (hb0.mono (by omega))).trans (hb1.mono (by omega))).setCell (p := ⟨w.heap.size + 1 + 1, 0, none⟩) (by simp; omega) _).setCell (p := ⟨w.heap.size + 1 + 1, 1, none⟩) (by simp; omega) _)⟩

set_option maxHeartbeats 2000000 in
theorem bigplus_more_nil (s t : Value) (n : Bool) (da db : List Int) (w : World) (ha : Norm da) (hb : Norm db) (hla : da.length ≤ 1000) (hlb : db.length ≤ 1000) (hs : Row .i64 w s da) (ht : Row .i64 w t db) (hmm : (true == n) = false) (hless : lessB (val da) (val db) = false) (h0 : decide (0 < (trimL (minusC da db 0)).length) = false) :
    Calls Try.prog 24 #[.agg #[.bool true, s], .agg #[.bool n, t]] w fun e w' => ∃ v, e = .returned (.agg #[.bool false, v]) ∧ Row .i64 w' v (trimL (minusC da db 0)) ∧ Below w.heap.size w w' := by
  obtain ⟨p, ca, rfl⟩ := hs.form
  obtain ⟨q, cb, rfl⟩ := ht.form
  have HS := Lib.hid hs
  have HT := Lib.hid ht
  clear hs ht
  go_enter Try.func24, Try.ntmps24
  go_wp2_with fail
  have b0 : Blk (((w.alloc (.cells #[.bool true, .slice p da.length ca] 56)).alloc (.cells #[.bool n, .slice q db.length cb] 56)).alloc (.cells #[.bool false, .slice none 0 0] 56)) w.heap.size _ _ := ((Blk.new w _ _).alloc _).alloc _
  have b1 : Blk (((w.alloc (.cells #[.bool true, .slice p da.length ca] 56)).alloc (.cells #[.bool n, .slice q db.length cb] 56)).alloc (.cells #[.bool false, .slice none 0 0] 56)) (w.heap.size + 1) _ _ := (Blk.new' _ _ _ (by simp)).alloc _
  have b2 : Blk (((w.alloc (.cells #[.bool true, .slice p da.length ca] 56)).alloc (.cells #[.bool n, .slice q db.length cb] 56)).alloc (.cells #[.bool false, .slice none 0 0] 56)) (w.heap.size + 1 + 1) _ _ := Blk.new' _ _ _ (by simp)
  have hbw : Below w.heap.size w (((w.alloc (.cells #[.bool true, .slice p da.length ca] 56)).alloc (.cells #[.bool n, .slice q db.length cb] 56)).alloc (.cells #[.bool false, .slice none 0 0] 56)) := (((Below.refl _ _).alloc (Nat.le_refl _) _).alloc (by simp) _).alloc (by simp; omega) _
  generalize (((w.alloc (.cells #[.bool true, .slice p da.length ca] 56)).alloc (.cells #[.bool n, .slice q db.length cb] 56)).alloc (.cells #[.bool false, .slice none 0 0] 56)) = W at *
  have hsW := b2.lt
  have c00 : W.cell? ⟨w.heap.size, 0, none⟩ = some (.bool true) := b0.cell 0
  have c01 : W.cell? ⟨w.heap.size, 1, none⟩ = some (.slice p da.length ca) := b0.cell 1
  have c10 : W.cell? ⟨w.heap.size + 1, 0, none⟩ = some (.bool n) := b1.cell 0
  have c11 : W.cell? ⟨w.heap.size + 1, 1, none⟩ = some (.slice q db.length cb) := b1.cell 1
  have c20 := peek_ok (show W.cell? ⟨w.heap.size + 1 + 1, 0, none⟩ = some (.bool false) from b2.cell 0)
  have c21 := peek_ok (show W.cell? ⟨w.heap.size + 1 + 1, 1, none⟩ = some (.slice none 0 0) from b2.cell 1)
  have f20 := b2.free 0
  have f21 := b2.free 1
  have RA := Lib.hid (fun (W' : World) (h : Below w.heap.size W W') => HS.out.below (hbw.trans h) (Nat.le_refl _))
  have RB := Lib.hid (fun (W' : World) (h : Below w.heap.size W W') => HT.out.below (hbw.trans h) (Nat.le_refl _))
  have HBW := Lib.hid hbw
  have B2 := Lib.hid b2
  clear b0 b1 b2 hbw HS HT
  clear hmm
  go_wp2_with (first
    | (go_at_call 37; refine (less_any _ _ da db _ ha hb (by omega) (by omega) (RA.out _ (Below.refl _ _)) (RB.out _ (Below.refl _ _))).mono ?_; rintro e w0 ⟨rfl, hb0⟩; rw [hless]; obtain ⟨d00, d01, d10, d11, d20, d21, g20, g21⟩ := held_call ⟨c00, c01, c10, c11, c20, c21, f20, f21⟩ hb0; have hs0 := hb0.size; clear c00 c01 c10 c11 c20 c21 f20 f21)
    | (go_at_call 38; refine (minus_any _ _ da db _ ha.1 hb.1 (by omega) (by omega) (RA.out _ (hb0.mono (by omega))) (RB.out _ (hb0.mono (by omega)))).mono ?_; rintro e w1 ⟨v2, rfl, hrow2, hb1⟩; obtain ⟨p2, c2, rfl⟩ := hrow2.form; obtain ⟨e00, e01, e10, e11, e20, e21, h20, h21⟩ := held_call ⟨d00, d01, d10, d11, d20, d21, g20, g21⟩ hb1; clear d00 d01 d10 d11 d20 d21 g20 g21))
  have e3 := (B2.out.below hb0 hsW).below hb1 (by omega)
  have hf := (e3.set 0 (.bool false)).set 1 (.slice p2 (trimL (minusC da db 0)).length c2)
  refine bodyPost_ret (v := .agg #[.bool false, .slice p2 (trimL (minusC da db 0)).length c2]) (by simp [results, Try.results24, go_sem, hf.cell 0, hf.cell 1]) rfl ?_
  have r1 := hrow2.set (e3.cell 0) (by intro n; simp) (.bool false)
  have r2 := r1.set ((e3.set 0 (.bool false)).cell 1) (by intro n; simp) (.slice p2 (trimL (minusC da db 0)).length c2)
  exact ⟨_, rfl, r2, ((((HBW.out.trans (hb0.mono (by omega))).trans (hb1.mono (by omega))).setCell (p := ⟨w.heap.size + 1 + 1, 0, none⟩) (by simp; omega) _).setCell (p := ⟨w.heap.size + 1 + 1, 1, none⟩) (by simp; omega) _)⟩

/-- Of at most forty digits. -/
def Small (x : Int) : Prop := x.natAbs < 10 ^ 40
theorem Small.len {x : Int} (h : Small x) : (digs x.natAbs).length ≤ 1000 := Nat.le_trans (digs_length _ 40 h) (by decide)
theorem digs_plus {x y : Int} (h : decide (x < 0) = decide (y < 0)) : trimL (plusC (digs x.natAbs) (digs y.natAbs) 0) = digs (x + y).natAbs ∧ decide (x < 0) = decide (x + y < 0) := by
  obtain ⟨s1, s2, _⟩ := plusC_spec (digs x.natAbs) (digs y.natAbs) 0 (digs_isDigs _) (digs_isDigs _) (by decide) (by decide)
  obtain ⟨t1, t2, _⟩ := trimL_spec _ _ rfl s1
  rw [decide_eq_decide] at h
  refine ⟨?_, by rw [decide_eq_decide]; omega⟩
  rw [norm_digs t1, t2, s2, val_digs, val_digs]
  congr 1; omega
theorem digs_minus {x y : Int} (hle : y.natAbs ≤ x.natAbs) : trimL (minusC (digs x.natAbs) (digs y.natAbs) 0) = digs (x.natAbs - y.natAbs) := by
  obtain ⟨s1, s2⟩ := minusC_spec (digs x.natAbs) (digs y.natAbs) 0 (digs_isDigs _) (digs_isDigs _) (by decide) (by decide) (by rw [val_digs, val_digs]; omega)
  obtain ⟨t1, t2, _⟩ := trimL_spec _ _ rfl s1
  rw [norm_digs t1, t2, s2, val_digs, val_digs]
  congr 1; omega

/-- The contract: two numbers together. -/
theorem bigplus_any (u v : Value) (x y : Int) (w : World) (hx : Small x) (hy : Small y) (hu : IsBig w u x) (hv : IsBig w v y) :
    Calls Try.prog 24 #[u, v] w fun e w' => ∃ r, e = .returned r ∧ IsBig w' r (x + y) ∧ Below w.heap.size w w' := by
  obtain ⟨s, rfl, hs⟩ := hu
  obtain ⟨t, rfl, ht⟩ := hv
  by_cases hsg : decide (x < 0) = decide (y < 0)
  · refine (bigplus_same s t _ _ _ _ w (digs_norm _) (digs_norm _) hx.len hy.len hs ht (by rw [hsg]; simp)).mono ?_
    rintro e w' ⟨r, rfl, hr, hb⟩
    obtain ⟨e1, e2⟩ := digs_plus hsg
    exact ⟨_, rfl, ⟨r, by rw [e2], by rw [← e1]; exact hr⟩, hb⟩
  · have hmn : (decide (x < 0) == decide (y < 0)) = false := by rw [beq_eq_false_iff_ne]; exact hsg
    have hne : ¬ (x < 0 ↔ y < 0) := fun h => hsg (by rw [decide_eq_decide]; exact h)
    by_cases hl : x.natAbs < y.natAbs
    · have hless : lessB (val (digs x.natAbs)) (val (digs y.natAbs)) = true := by unfold lessB; rw [val_digs, val_digs, decide_eq_true_eq]; omega
      refine (bigplus_less s t _ _ _ _ w (digs_norm _) (digs_norm _) hx.len hy.len hs ht hmn hless).mono ?_
      rintro e w' ⟨r, rfl, hr, hb⟩
      rw [digs_minus (by omega)] at hr
      refine ⟨_, rfl, ⟨r, ?_, ?_⟩, hb⟩
      · rw [show decide (y < 0) = decide (x + y < 0) by rw [decide_eq_decide]; omega]
      · rw [show (x + y).natAbs = y.natAbs - x.natAbs by omega]; exact hr
    · have hless : lessB (val (digs x.natAbs)) (val (digs y.natAbs)) = false := by unfold lessB; rw [val_digs, val_digs, decide_eq_false_iff_not]; omega
      have hd := digs_minus (x := x) (y := y) (by omega)
      have ea : (x + y).natAbs = x.natAbs - y.natAbs := by omega
      by_cases hx0 : x < 0
      · have hmn' : (true == decide (y < 0)) = false := by rw [← hmn]; simp [hx0]
        by_cases h0 : 0 < (trimL (minusC (digs x.natAbs) (digs y.natAbs) 0)).length
        · have hpos : x.natAbs - y.natAbs ≠ 0 := fun e => by rw [hd, e, digs_zero] at h0; simp at h0
          rw [show decide (x < 0) = true by simpa using hx0]
          refine (bigplus_more_yes s t _ _ _ w (digs_norm _) (digs_norm _) hx.len hy.len hs ht hmn' hless h0).mono ?_
          rintro e w' ⟨r, rfl, hr, hb⟩
          rw [hd] at hr
          refine ⟨_, rfl, ⟨r, ?_, by rw [ea]; exact hr⟩, hb⟩
          rw [show decide (x + y < 0) = true by rw [decide_eq_true_eq]; omega]
        · have hz : x.natAbs - y.natAbs = 0 := by
            rw [hd] at h0
            exact digs_nil.1 (List.length_eq_zero_iff.1 (by omega))
          rw [show decide (x < 0) = true by simpa using hx0]
          refine (bigplus_more_nil s t _ _ _ w (digs_norm _) (digs_norm _) hx.len hy.len hs ht hmn' hless (by simpa using h0)).mono ?_
          rintro e w' ⟨r, rfl, hr, hb⟩
          rw [hd] at hr
          refine ⟨_, rfl, ⟨r, ?_, by rw [ea]; exact hr⟩, hb⟩
          rw [show decide (x + y < 0) = false by rw [decide_eq_false_iff_not]; omega]
      · have hmn' : (false == decide (y < 0)) = false := by simp [show y < 0 by omega]
        rw [show decide (x < 0) = false by simpa using hx0]
        refine (bigplus_more_no s t _ _ _ w (digs_norm _) (digs_norm _) hx.len hy.len hs ht hmn' hless).mono ?_
        rintro e w' ⟨r, rfl, hr, hb⟩
        rw [hd] at hr
        refine ⟨_, rfl, ⟨r, ?_, by rw [ea]; exact hr⟩, hb⟩
        rw [show decide (x + y < 0) = false by rw [decide_eq_false_iff_not]; omega]
end Go.Proofs.Yteofblabimneiaa
