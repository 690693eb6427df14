/- MoneyNear: the walk. -/
import Derived.Test.YtgdcegkokbkdfaaDoorCounts
import Derived.Test.YtgdcegkokbkdfaaDoorRefSum
import Derived.Test.YtgdcegkokbkdfaaDoorNeg
namespace Go.Proofs.YtgdcegkokbkdfaaDoor
open Go.RowKit Go.Lib

theorem cell_call {w w' : World} {a : Addr} {v : Value} (h : w.cell? a = some v) (hb : Below w.heap.size w w') : w'.cell? a = some v := (hb.cell (World.block_lt_of_cell? w a h)).trans h
theorem cell_alloc {w : World} {a : Addr} {v : Value} (h : w.cell? a = some v) (o : Obj) : (w.alloc o).cell? a = some v := cell_call h (oneB w o)
/-- Is the number without its sign, taken off nothing, below 0? -/
def negB (x : Int) : Bool := decide (-(x.natAbs : Int) < 0)
theorem negB_len (x : Int) : decide (0 < (digs x.natAbs).length) = negB x := by
  unfold negB
  rw [decide_eq_decide]
  constructor
  · intro h
    have : x.natAbs ≠ 0 := fun e => by rw [e, digs_zero] at h; simp at h
    omega
  · intro h
    rcases Nat.eq_zero_or_pos (digs x.natAbs).length with e | e
    · have := digs_nil.1 (List.length_eq_zero_iff.1 e); omega
    · exact e
theorem IsBig.neg {w : World} {s : Value} {x : Int} (h : Row .i64 w s (digs x.natAbs)) : IsBig w (.agg #[.bool (negB x), s]) (-(x.natAbs : Int)) := ⟨s, rfl, by rw [Int.natAbs_neg, Int.natAbs_natCast]; exact h⟩

set_option maxHeartbeats 2000000 in
set_option maxRecDepth 100000 in
theorem nears_neg (a b far : Int) (w : World) (ha : Fits a) (hb : Fits b) (hf : Fits far) (htab : Pow w) (hb0 : b < 0) :
    Calls Tryd.prog 6 #[.int .i64 a, .int .i64 b, .int .i64 far] w fun e w' => e = .returned (.bool true) ∧ Below w.heap.size w w' := by
  have HC := Lib.hid (counts_any w htab)
  clear htab
  have HA := Lib.hid ha
  have HB := Lib.hid hb
  have HF := Lib.hid hf
  clear ha hb hf
  go_enter Tryd.func6, Tryd.ntmps6
  go_wp2_with fail
  refine HC.out.mono ?_
  rintro e w1 ⟨rfl, hb1⟩
  go_wp2_with fail
  refine (from_any a w1 HA.out).mono ?_
  rintro e w2 ⟨v2, rfl, hbig2, hb2⟩
  go_wp2_with fail
  refine (from_any b w2 HB.out).mono ?_
  rintro e w3 ⟨v3, rfl, hbig3, hb3⟩
  obtain ⟨p2, n2, c2, rfl⟩ := hbig2.form
  obtain ⟨s3, e3, hrow3⟩ := id hbig3
  subst e3
  obtain ⟨p3, c3, rfl⟩ := hrow3.form
  have hbx := hbig2.kept hb3
  have hB := seqB (seqB hb1 hb2) hb3
  clear hb1 hb2 hb3 hbig2
  have hyy : ∀ (m : Bool), m = decide (-b < 0) → ∀ W, Below w3.heap.size w3 W → IsBig W (.agg #[.bool m, .slice p3 (digs b.natAbs).length c3]) (-b) := fun m hm W hW => by
    subst hm
    exact ⟨_, rfl, by rw [show (-b).natAbs = b.natAbs by omega]; exact hrow3.kept hW⟩
  have hd : decide (b < 0) = true := by simpa using hb0
  rw [hd]
  have HY := Lib.hid (hyy false (by symm; rw [decide_eq_false_iff_not]; omega))
  clear hyy
  go_wp2_with fail
  refine (bigplus_any _ _ a (-b) _ (small_one HA.out) (by have := HB.out; unfold Fits at this; unfold Small; omega) (hbx.kept ((oneB _ _).alloc (by simp) _)) (HY.out _ ((oneB _ _).alloc (by simp) _))).mono ?_
  rintro e w5 ⟨v5, rfl, hbig5, hb5⟩
  obtain ⟨s5, e5, hrow5⟩ := id hbig5
  subst e5
  obtain ⟨p5, c5, rfl⟩ := hrow5.form
  go_wp2_with fail
  have hB5 : Hid (Below w.heap.size w w5) := seqB (seqB hB ((oneB _ _).alloc (by simp) _)) hb5
  have hrow5' : Hid (∀ W, Below w5.heap.size w5 W → IsBig W (.agg #[.bool (negB (a + -b)), .slice p5 (digs (a + -b).natAbs).length c5]) (-((a + -b).natAbs : Int))) := fun W hW => IsBig.neg (hrow5.kept hW)
  have hlen := negB_len (a + -b)
  have hsd : Hid (Small (-((a + -b).natAbs : Int))) := by have h1 := HA.out; have h2 := HB.out; show Small _; unfold Fits at h1 h2; unfold Small; omega
  have hB9 := Blk.new w5 #[.bool true, .slice p5 (digs (a + -b).natAbs).length c5] 34
  have HB9 := Lib.hid hB9
  clear hB9 hb5 hbig5 hrow5 hB HY hbx
  have hfin : Hid (((far < 0) → nearB a b far = false ∧ nearB b a far = false) ∧ ((0 ≤ far) → nearB a b far = !decide (far + -((a + -b).natAbs : Int) < 0) ∧ nearB b a far = !decide (far + -((a + -b).natAbs : Int) < 0))) := by
    unfold nearB
    refine ⟨fun h => ⟨by rw [decide_eq_false_iff_not]; omega, by rw [decide_eq_false_iff_not]; omega⟩, fun h => ⟨?_, ?_⟩⟩
    · rw [← decide_not, decide_eq_decide]; omega
    · rw [← decide_not, decide_eq_decide]; omega
  generalize a + -b = d at *
  have q0 : (w5.alloc (.cells #[.bool true, .slice p5 (digs d.natAbs).length c5] 34)).cell? ⟨w5.heap.size, 1, none⟩ = some (.slice p5 (digs d.natAbs).length c5) := HB9.out.cell 1
  go_region_held3 (fun w' => w'.cell? ⟨w5.heap.size, 1, none⟩ = some (.slice p5 (digs d.natAbs).length c5))
    (first | (refine cell_call ?_ hb7; assumption) | (refine cell_call ?_ hb6; assumption) | (refine cell_alloc ?_ _; exact q7) | assumption | exact q0 | (refine cell_alloc ?_ _; assumption) | (refine (set2_cell ?_).trans q7; first | (simp; done) | (simp; omega)))
    (first
    | (go_at_call 16; refine (from_any far _ HF.out).mono ?_; rintro e w6 ⟨v6, rfl, hbig6, hb6⟩; have hs5 : w5.heap.size < w6.heap.size := (by have := hb6.size; simp at this; omega); have HW6 : Hid (Below w5.heap.size w5 w6) := (by refine Below.trans ?_ (hb6.mono (by first | omega | (simp; done) | (simp; omega))); (repeat (first | exact Below.refl _ _ | refine Below.drew ?_ | refine Below.alloc ?_ (by first | omega | (simp; done) | (simp; omega)) _))); (first | have A10 : Blk w6 (w5.heap.size + 1) #[.bool false, .slice none 0 0] 34 := (Blk.below (by first | exact Blk.new' _ _ _ (by simp) | exact (Blk.new' _ _ _ (by simp)).drew) hb6 (by simp)) | have A10 := True.intro))
    | (go_at_call 15; have hs6 := HW6.out.size; refine (bigplus_any _ _ far (-(d.natAbs : Int)) _ (small_one HF.out) hsd.out (hbig6.kept ?_) (hrow5'.out _ (HW6.out.trans ?_))).mono ?_; ((repeat (first | exact Below.refl _ _ | refine Below.drew ?_ | refine Below.alloc ?_ (by first | omega | (simp; done) | (simp; omega)) _))); ((repeat (first | exact Below.refl _ _ | refine Below.drew ?_ | refine Below.alloc ?_ (by first | omega | (simp; done) | (simp; omega)) _))); rintro e w7 ⟨v7, rfl, hbig7, hb7⟩; have q7 : w7.cell? ⟨w5.heap.size, 1, none⟩ = some (.slice p5 (digs d.natAbs).length c5) := (by refine cell_call ?_ hb7; assumption); have HW7 : Hid (Below w.heap.size w w7) := (seqB (seqB hB5.out HW6.out) (by refine Below.trans ?_ (hb7.mono (by first | exact Nat.le_refl _ | (simp; done) | (simp; omega))); (repeat (first | exact Below.refl _ _ | refine Below.drew ?_ | refine Below.alloc ?_ (by first | omega | (simp; done) | (simp; omega)) _)))); obtain ⟨p7, n7, c7, rfl⟩ := hbig7.form; (first | (have A11 : Blk w7 (w5.heap.size + 1) #[.bool false, .slice none 0 0] 34 := (Blk.below (by first | exact A10 | exact A10.drew) hb7 (by first | exact A10.lt | (simp; exact A10.lt))); have t0 : w7.cell? ⟨w5.heap.size + 1, 0, none⟩ = some (.bool false) := A11.cell 0; have t1 : w7.cell? ⟨w5.heap.size + 1, 1, none⟩ = some (.slice none 0 0) := A11.cell 1; have t2 := A11.free 0; have t3 := A11.free 1) | (have A11 : Blk w7 w6.heap.size #[.bool false, .slice none 0 0] 34 := (Blk.below (by first | exact Blk.new _ _ _ | exact (Blk.new _ _ _).drew) hb7 (by simp)); have t0 : w7.cell? ⟨w6.heap.size, 0, none⟩ = some (.bool false) := A11.cell 0; have t1 : w7.cell? ⟨w6.heap.size, 1, none⟩ = some (.slice none 0 0) := A11.cell 1; have t2 := A11.free 0; have t3 := A11.free 1) | have A11 := True.intro)))
  go_wp2_with fail
  all_goals
    by_cases hfar : far < 0
    · obtain ⟨n1, n2⟩ := hfin.out.1 hfar
      refine (near_any a b far _ HA.out HB.out HF.out).mono ?_
      rintro e w8 ⟨rfl, rfl⟩
      rw [n1]
      go_wp2_with fail
      refine (near_any b a far _ HB.out HA.out HF.out).mono ?_
      rintro e w8 ⟨rfl, rfl⟩
      rw [n2]
      go_wp2_with fail
      refine (near_any a b far _ HA.out HB.out HF.out).mono ?_
      rintro e w8 ⟨rfl, rfl⟩
      rw [n1]
      clear n1 n2
      go_wp2
      go_ret
      exact ⟨rfl, by first | exact HW7.out.alloc HW7.out.size _ | exact (HW7.out.setCell (by have := hB5.out.size; simp; omega) _).setCell (by have := hB5.out.size; simp; omega) _⟩
    · obtain ⟨n1, n2⟩ := hfin.out.2 (by omega)
      generalize decide (far + -(d.natAbs : Int) < 0) = mm at *
      refine (near_any a b far _ HA.out HB.out HF.out).mono ?_
      rintro e w8 ⟨rfl, rfl⟩
      rw [n1]
      go_wp2_with fail
      refine (near_any b a far _ HB.out HA.out HF.out).mono ?_
      rintro e w8 ⟨rfl, rfl⟩
      rw [n2]
      go_wp2_with fail
      refine (near_any a b far _ HA.out HB.out HF.out).mono ?_
      rintro e w8 ⟨rfl, rfl⟩
      rw [n1]
      clear n1 n2
      go_wp2
      go_ret
      exact ⟨rfl, by first | exact HW7.out.alloc HW7.out.size _ | exact (HW7.out.setCell (by have := hB5.out.size; simp; omega) _).setCell (by have := hB5.out.size; simp; omega) _⟩

set_option maxHeartbeats 2000000 in
set_option maxRecDepth 100000 in
theorem nears_zero (a b far : Int) (w : World) (ha : Fits a) (hb : Fits b) (hf : Fits far) (htab : Pow w) (hb0 : b = 0) :
    Calls Tryd.prog 6 #[.int .i64 a, .int .i64 b, .int .i64 far] w fun e w' => e = .returned (.bool true) ∧ Below w.heap.size w w' := by
  have HB0 := Lib.hid hb0
  clear hb0
  have HC := Lib.hid (counts_any w htab)
  clear htab
  have HA := Lib.hid ha
  have HB := Lib.hid hb
  have HF := Lib.hid hf
  clear ha hb hf
  go_enter Tryd.func6, Tryd.ntmps6
  go_wp2_with fail
  refine HC.out.mono ?_
  rintro e w1 ⟨rfl, hb1⟩
  go_wp2_with fail
  refine (from_any a w1 HA.out).mono ?_
  rintro e w2 ⟨v2, rfl, hbig2, hb2⟩
  go_wp2_with fail
  refine (from_any b w2 HB.out).mono ?_
  rintro e w3 ⟨v3, rfl, hbig3, hb3⟩
  obtain ⟨p2, n2, c2, rfl⟩ := hbig2.form
  obtain ⟨s3, e3, hrow3⟩ := id hbig3
  subst e3
  obtain ⟨p3, c3, rfl⟩ := hrow3.form
  have hbx := hbig2.kept hb3
  have hB := seqB (seqB hb1 hb2) hb3
  clear hb1 hb2 hb3 hbig2
  have hyy : ∀ (m : Bool), m = decide (-b < 0) → ∀ W, Below w3.heap.size w3 W → IsBig W (.agg #[.bool m, .slice p3 (digs b.natAbs).length c3]) (-b) := fun m hm W hW => by
    subst hm
    exact ⟨_, rfl, by rw [show (-b).natAbs = b.natAbs by omega]; exact hrow3.kept hW⟩
  have hd : decide (b < 0) = false := by have := HB0.out; rw [decide_eq_false_iff_not]; omega
  have hy0 := hyy (decide (0 < (digs b.natAbs).length)) (by
    have e1 : (digs b.natAbs).length = 0 := by rw [HB0.out]; simp [digs_zero]
    have := HB0.out
    rw [e1, decide_eq_decide]; omega)
  rw [hd]
  clear hd hrow3 hbig3 hyy
  generalize (digs b.natAbs).length = L at *
  have HY := Lib.hid hy0
  clear hy0
  go_wp2_with fail
  refine (bigplus_any _ _ a (-b) _ (small_one HA.out) (by have := HB.out; unfold Fits at this; unfold Small; omega) (hbx.kept ((oneB _ _).alloc (by simp) _)) (HY.out _ ((oneB _ _).alloc (by simp) _))).mono ?_
  rintro e w5 ⟨v5, rfl, hbig5, hb5⟩
  obtain ⟨s5, e5, hrow5⟩ := id hbig5
  subst e5
  obtain ⟨p5, c5, rfl⟩ := hrow5.form
  go_wp2_with fail
  have hB5 : Hid (Below w.heap.size w w5) := seqB (seqB hB ((oneB _ _).alloc (by simp) _)) hb5
  have hrow5' : Hid (∀ W, Below w5.heap.size w5 W → IsBig W (.agg #[.bool (negB (a + -b)), .slice p5 (digs (a + -b).natAbs).length c5]) (-((a + -b).natAbs : Int))) := fun W hW => IsBig.neg (hrow5.kept hW)
  have hlen := negB_len (a + -b)
  have hsd : Hid (Small (-((a + -b).natAbs : Int))) := by have h1 := HA.out; have h2 := HB.out; show Small _; unfold Fits at h1 h2; unfold Small; omega
  have hB9 := Blk.new w5 #[.bool true, .slice p5 (digs (a + -b).natAbs).length c5] 34
  have HB9 := Lib.hid hB9
  clear hB9 hb5 hbig5 hrow5 hB HY hbx
  have hfin : Hid (((far < 0) → nearB a b far = false ∧ nearB b a far = false) ∧ ((0 ≤ far) → nearB a b far = !decide (far + -((a + -b).natAbs : Int) < 0) ∧ nearB b a far = !decide (far + -((a + -b).natAbs : Int) < 0))) := by
    unfold nearB
    refine ⟨fun h => ⟨by rw [decide_eq_false_iff_not]; omega, by rw [decide_eq_false_iff_not]; omega⟩, fun h => ⟨?_, ?_⟩⟩
    · rw [← decide_not, decide_eq_decide]; omega
    · rw [← decide_not, decide_eq_decide]; omega
  generalize a + -b = d at *
  have q0 : (w5.alloc (.cells #[.bool true, .slice p5 (digs d.natAbs).length c5] 34)).cell? ⟨w5.heap.size, 1, none⟩ = some (.slice p5 (digs d.natAbs).length c5) := HB9.out.cell 1
  go_region_held3 (fun w' => w'.cell? ⟨w5.heap.size, 1, none⟩ = some (.slice p5 (digs d.natAbs).length c5))
    (first | (refine cell_call ?_ hb7; assumption) | (refine cell_call ?_ hb6; assumption) | (refine cell_alloc ?_ _; exact q7) | assumption | exact q0 | (refine cell_alloc ?_ _; assumption) | (refine (set2_cell ?_).trans q7; first | (simp; done) | (simp; omega)))
    (first
    | (go_at_call 16; refine (from_any far _ HF.out).mono ?_; rintro e w6 ⟨v6, rfl, hbig6, hb6⟩; have hs5 : w5.heap.size < w6.heap.size := (by have := hb6.size; simp at this; omega); have HW6 : Hid (Below w5.heap.size w5 w6) := (by refine Below.trans ?_ (hb6.mono (by first | omega | (simp; done) | (simp; omega))); (repeat (first | exact Below.refl _ _ | refine Below.drew ?_ | refine Below.alloc ?_ (by first | omega | (simp; done) | (simp; omega)) _))); (first | have A10 : Blk w6 (w5.heap.size + 1) #[.bool false, .slice none 0 0] 34 := (Blk.below (by first | exact Blk.new' _ _ _ (by simp) | exact (Blk.new' _ _ _ (by simp)).drew) hb6 (by simp)) | have A10 := True.intro))
    | (go_at_call 15; have hs6 := HW6.out.size; refine (bigplus_any _ _ far (-(d.natAbs : Int)) _ (small_one HF.out) hsd.out (hbig6.kept ?_) (hrow5'.out _ (HW6.out.trans ?_))).mono ?_; ((repeat (first | exact Below.refl _ _ | refine Below.drew ?_ | refine Below.alloc ?_ (by first | omega | (simp; done) | (simp; omega)) _))); ((repeat (first | exact Below.refl _ _ | refine Below.drew ?_ | refine Below.alloc ?_ (by first | omega | (simp; done) | (simp; omega)) _))); rintro e w7 ⟨v7, rfl, hbig7, hb7⟩; have q7 : w7.cell? ⟨w5.heap.size, 1, none⟩ = some (.slice p5 (digs d.natAbs).length c5) := (by refine cell_call ?_ hb7; assumption); have HW7 : Hid (Below w.heap.size w w7) := (seqB (seqB hB5.out HW6.out) (by refine Below.trans ?_ (hb7.mono (by first | exact Nat.le_refl _ | (simp; done) | (simp; omega))); (repeat (first | exact Below.refl _ _ | refine Below.drew ?_ | refine Below.alloc ?_ (by first | omega | (simp; done) | (simp; omega)) _)))); obtain ⟨p7, n7, c7, rfl⟩ := hbig7.form; (first | (have A11 : Blk w7 (w5.heap.size + 1) #[.bool false, .slice none 0 0] 34 := (Blk.below (by first | exact A10 | exact A10.drew) hb7 (by first | exact A10.lt | (simp; exact A10.lt))); have t0 : w7.cell? ⟨w5.heap.size + 1, 0, none⟩ = some (.bool false) := A11.cell 0; have t1 : w7.cell? ⟨w5.heap.size + 1, 1, none⟩ = some (.slice none 0 0) := A11.cell 1; have t2 := A11.free 0; have t3 := A11.free 1) | (have A11 : Blk w7 w6.heap.size #[.bool false, .slice none 0 0] 34 := (Blk.below (by first | exact Blk.new _ _ _ | exact (Blk.new _ _ _).drew) hb7 (by simp)); have t0 : w7.cell? ⟨w6.heap.size, 0, none⟩ = some (.bool false) := A11.cell 0; have t1 : w7.cell? ⟨w6.heap.size, 1, none⟩ = some (.slice none 0 0) := A11.cell 1; have t2 := A11.free 0; have t3 := A11.free 1) | have A11 := True.intro)))
  go_wp2_with fail
  all_goals
    by_cases hfar : far < 0
    · obtain ⟨n1, n2⟩ := hfin.out.1 hfar
      refine (near_any a b far _ HA.out HB.out HF.out).mono ?_
      rintro e w8 ⟨rfl, rfl⟩
      rw [n1]
      go_wp2_with fail
      refine (near_any b a far _ HB.out HA.out HF.out).mono ?_
      rintro e w8 ⟨rfl, rfl⟩
      rw [n2]
      go_wp2_with fail
      refine (near_any a b far _ HA.out HB.out HF.out).mono ?_
      rintro e w8 ⟨rfl, rfl⟩
      rw [n1]
      clear n1 n2
      go_wp2
      go_ret
      exact ⟨rfl, by first | exact HW7.out.alloc HW7.out.size _ | exact (HW7.out.setCell (by have := hB5.out.size; simp; omega) _).setCell (by have := hB5.out.size; simp; omega) _⟩
    · obtain ⟨n1, n2⟩ := hfin.out.2 (by omega)
      generalize decide (far + -(d.natAbs : Int) < 0) = mm at *
      refine (near_any a b far _ HA.out HB.out HF.out).mono ?_
      rintro e w8 ⟨rfl, rfl⟩
      rw [n1]
      go_wp2_with fail
      refine (near_any b a far _ HB.out HA.out HF.out).mono ?_
      rintro e w8 ⟨rfl, rfl⟩
      rw [n2]
      go_wp2_with fail
      refine (near_any a b far _ HA.out HB.out HF.out).mono ?_
      rintro e w8 ⟨rfl, rfl⟩
      rw [n1]
      clear n1 n2
      go_wp2
      go_ret
      exact ⟨rfl, by first | exact HW7.out.alloc HW7.out.size _ | exact (HW7.out.setCell (by have := hB5.out.size; simp; omega) _).setCell (by have := hB5.out.size; simp; omega) _⟩

set_option maxHeartbeats 2000000 in
set_option maxRecDepth 100000 in
theorem nears_pos (a b far : Int) (w : World) (ha : Fits a) (hb : Fits b) (hf : Fits far) (htab : Pow w) (hb0 : 0 < b) :
    Calls Tryd.prog 6 #[.int .i64 a, .int .i64 b, .int .i64 far] w fun e w' => e = .returned (.bool true) ∧ Below w.heap.size w w' := by
  have HC := Lib.hid (counts_any w htab)
  clear htab
  have HA := Lib.hid ha
  have HB := Lib.hid hb
  have HF := Lib.hid hf
  clear ha hb hf
  go_enter Tryd.func6, Tryd.ntmps6
  go_wp2_with fail
  refine HC.out.mono ?_
  rintro e w1 ⟨rfl, hb1⟩
  go_wp2_with fail
  refine (from_any a w1 HA.out).mono ?_
  rintro e w2 ⟨v2, rfl, hbig2, hb2⟩
  go_wp2_with fail
  refine (from_any b w2 HB.out).mono ?_
  rintro e w3 ⟨v3, rfl, hbig3, hb3⟩
  obtain ⟨p2, n2, c2, rfl⟩ := hbig2.form
  obtain ⟨s3, e3, hrow3⟩ := id hbig3
  subst e3
  obtain ⟨p3, c3, rfl⟩ := hrow3.form
  have hbx := hbig2.kept hb3
  have hB := seqB (seqB hb1 hb2) hb3
  clear hb1 hb2 hb3 hbig2
  have hyy : ∀ (m : Bool), m = decide (-b < 0) → ∀ W, Below w3.heap.size w3 W → IsBig W (.agg #[.bool m, .slice p3 (digs b.natAbs).length c3]) (-b) := fun m hm W hW => by
    subst hm
    exact ⟨_, rfl, by rw [show (-b).natAbs = b.natAbs by omega]; exact hrow3.kept hW⟩
  have hd : decide (b < 0) = false := by rw [decide_eq_false_iff_not]; omega
  have hl0 : decide (0 < (digs b.natAbs).length) = true := by
    rw [decide_eq_true_eq]
    rcases Nat.eq_zero_or_pos (digs b.natAbs).length with h | h
    · have := digs_nil.1 (List.length_eq_zero_iff.1 h); omega
    · exact h
  rw [hd]
  have HY := Lib.hid (hyy true (by symm; rw [decide_eq_true_eq]; omega))
  clear hyy
  go_wp2_with fail
  refine (bigplus_any _ _ a (-b) _ (small_one HA.out) (by have := HB.out; unfold Fits at this; unfold Small; omega) (hbx.kept ((oneB _ _).alloc (by simp) _)) (HY.out _ ((oneB _ _).alloc (by simp) _))).mono ?_
  rintro e w5 ⟨v5, rfl, hbig5, hb5⟩
  obtain ⟨s5, e5, hrow5⟩ := id hbig5
  subst e5
  obtain ⟨p5, c5, rfl⟩ := hrow5.form
  go_wp2_with fail
  have hB5 : Hid (Below w.heap.size w w5) := seqB (seqB hB ((oneB _ _).alloc (by simp) _)) hb5
  have hrow5' : Hid (∀ W, Below w5.heap.size w5 W → IsBig W (.agg #[.bool (negB (a + -b)), .slice p5 (digs (a + -b).natAbs).length c5]) (-((a + -b).natAbs : Int))) := fun W hW => IsBig.neg (hrow5.kept hW)
  have hlen := negB_len (a + -b)
  have hsd : Hid (Small (-((a + -b).natAbs : Int))) := by have h1 := HA.out; have h2 := HB.out; show Small _; unfold Fits at h1 h2; unfold Small; omega
  have hB9 := Blk.new w5 #[.bool true, .slice p5 (digs (a + -b).natAbs).length c5] 34
  have HB9 := Lib.hid hB9
  clear hB9 hb5 hbig5 hrow5 hB HY hbx
  have hfin : Hid (((far < 0) → nearB a b far = false ∧ nearB b a far = false) ∧ ((0 ≤ far) → nearB a b far = !decide (far + -((a + -b).natAbs : Int) < 0) ∧ nearB b a far = !decide (far + -((a + -b).natAbs : Int) < 0))) := by
    unfold nearB
    refine ⟨fun h => ⟨by rw [decide_eq_false_iff_not]; omega, by rw [decide_eq_false_iff_not]; omega⟩, fun h => ⟨?_, ?_⟩⟩
    · rw [← decide_not, decide_eq_decide]; omega
    · rw [← decide_not, decide_eq_decide]; omega
  generalize a + -b = d at *
  have q0 : (w5.alloc (.cells #[.bool true, .slice p5 (digs d.natAbs).length c5] 34)).cell? ⟨w5.heap.size, 1, none⟩ = some (.slice p5 (digs d.natAbs).length c5) := HB9.out.cell 1
  go_region_held3 (fun w' => w'.cell? ⟨w5.heap.size, 1, none⟩ = some (.slice p5 (digs d.natAbs).length c5))
    (first | (refine cell_call ?_ hb7; assumption) | (refine cell_call ?_ hb6; assumption) | (refine cell_alloc ?_ _; exact q7) | assumption | exact q0 | (refine cell_alloc ?_ _; assumption) | (refine (set2_cell ?_).trans q7; first | (simp; done) | (simp; omega)))
    (first
    | (go_at_call 16; refine (from_any far _ HF.out).mono ?_; rintro e w6 ⟨v6, rfl, hbig6, hb6⟩; have hs5 : w5.heap.size < w6.heap.size := (by have := hb6.size; simp at this; omega); have HW6 : Hid (Below w5.heap.size w5 w6) := (by refine Below.trans ?_ (hb6.mono (by first | omega | (simp; done) | (simp; omega))); (repeat (first | exact Below.refl _ _ | refine Below.drew ?_ | refine Below.alloc ?_ (by first | omega | (simp; done) | (simp; omega)) _))); (first | have A10 : Blk w6 (w5.heap.size + 1) #[.bool false, .slice none 0 0] 34 := (Blk.below (by first | exact Blk.new' _ _ _ (by simp) | exact (Blk.new' _ _ _ (by simp)).drew) hb6 (by simp)) | have A10 := True.intro))
    | (go_at_call 15; have hs6 := HW6.out.size; refine (bigplus_any _ _ far (-(d.natAbs : Int)) _ (small_one HF.out) hsd.out (hbig6.kept ?_) (hrow5'.out _ (HW6.out.trans ?_))).mono ?_; ((repeat (first | exact Below.refl _ _ | refine Below.drew ?_ | refine Below.alloc ?_ (by first | omega | (simp; done) | (simp; omega)) _))); ((repeat (first | exact Below.refl _ _ | refine Below.drew ?_ | refine Below.alloc ?_ (by first | omega | (simp; done) | (simp; omega)) _))); rintro e w7 ⟨v7, rfl, hbig7, hb7⟩; have q7 : w7.cell? ⟨w5.heap.size, 1, none⟩ = some (.slice p5 (digs d.natAbs).length c5) := (by refine cell_call ?_ hb7; assumption); have HW7 : Hid (Below w.heap.size w w7) := (seqB (seqB hB5.out HW6.out) (by refine Below.trans ?_ (hb7.mono (by first | exact Nat.le_refl _ | (simp; done) | (simp; omega))); (repeat (first | exact Below.refl _ _ | refine Below.drew ?_ | refine Below.alloc ?_ (by first | omega | (simp; done) | (simp; omega)) _)))); obtain ⟨p7, n7, c7, rfl⟩ := hbig7.form; (first | (have A11 : Blk w7 (w5.heap.size + 1) #[.bool false, .slice none 0 0] 34 := (Blk.below (by first | exact A10 | exact A10.drew) hb7 (by first | exact A10.lt | (simp; exact A10.lt))); have t0 : w7.cell? ⟨w5.heap.size + 1, 0, none⟩ = some (.bool false) := A11.cell 0; have t1 : w7.cell? ⟨w5.heap.size + 1, 1, none⟩ = some (.slice none 0 0) := A11.cell 1; have t2 := A11.free 0; have t3 := A11.free 1) | (have A11 : Blk w7 w6.heap.size #[.bool false, .slice none 0 0] 34 := (Blk.below (by first | exact Blk.new _ _ _ | exact (Blk.new _ _ _).drew) hb7 (by simp)); have t0 : w7.cell? ⟨w6.heap.size, 0, none⟩ = some (.bool false) := A11.cell 0; have t1 : w7.cell? ⟨w6.heap.size, 1, none⟩ = some (.slice none 0 0) := A11.cell 1; have t2 := A11.free 0; have t3 := A11.free 1) | have A11 := True.intro)))
  go_wp2_with fail
  all_goals
    by_cases hfar : far < 0
    · obtain ⟨n1, n2⟩ := hfin.out.1 hfar
      refine (near_any a b far _ HA.out HB.out HF.out).mono ?_
      rintro e w8 ⟨rfl, rfl⟩
      rw [n1]
      go_wp2_with fail
      refine (near_any b a far _ HB.out HA.out HF.out).mono ?_
      rintro e w8 ⟨rfl, rfl⟩
      rw [n2]
      go_wp2_with fail
      refine (near_any a b far _ HA.out HB.out HF.out).mono ?_
      rintro e w8 ⟨rfl, rfl⟩
      rw [n1]
      clear n1 n2
      go_wp2
      go_ret
      exact ⟨rfl, by first | exact HW7.out.alloc HW7.out.size _ | exact (HW7.out.setCell (by have := hB5.out.size; simp; omega) _).setCell (by have := hB5.out.size; simp; omega) _⟩
    · obtain ⟨n1, n2⟩ := hfin.out.2 (by omega)
      generalize decide (far + -(d.natAbs : Int) < 0) = mm at *
      refine (near_any a b far _ HA.out HB.out HF.out).mono ?_
      rintro e w8 ⟨rfl, rfl⟩
      rw [n1]
      go_wp2_with fail
      refine (near_any b a far _ HB.out HA.out HF.out).mono ?_
      rintro e w8 ⟨rfl, rfl⟩
      rw [n2]
      go_wp2_with fail
      refine (near_any a b far _ HA.out HB.out HF.out).mono ?_
      rintro e w8 ⟨rfl, rfl⟩
      rw [n1]
      clear n1 n2
      go_wp2
      go_ret
      exact ⟨rfl, by first | exact HW7.out.alloc HW7.out.size _ | exact (HW7.out.setCell (by have := hB5.out.size; simp; omega) _).setCell (by have := hB5.out.size; simp; omega) _⟩

theorem nears_walk (a b far : Int) (w : World) (ha : Fits a) (hb : Fits b) (hf : Fits far) (htab : Pow w) :
    Calls Tryd.prog 6 #[.int .i64 a, .int .i64 b, .int .i64 far] w fun e w' => e = .returned (.bool true) ∧ Below w.heap.size w w' := by
  by_cases h1 : b < 0
  · exact nears_neg a b far w ha hb hf htab h1
  · by_cases h2 : b = 0
    · exact nears_zero a b far w ha hb hf htab h2
    · exact nears_pos a b far w ha hb hf htab (by omega)
end Go.Proofs.YtgdcegkokbkdfaaDoor
