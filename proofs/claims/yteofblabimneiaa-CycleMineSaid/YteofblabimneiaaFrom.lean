/- contraref01.From: a whole number, written out in digits. -/
import Derived.Test.YteofblabimneiaaSum0
import Derived.Test.YteofblabimneiaaDigs2
import Derived.Test.YteofblabimneiaaMem
namespace Go.Proofs.Yteofblabimneiaa
open Go.RowKit

theorem info_int : (Try.prog.info? 3).map (fun i => (i.zero, i.size, i.bytes)) = some (some (.int .i64 0), 1, 8) := by kernel_rfl

/-- What the slice owns is read as a row. -/
theorem Row.owned {w : World} {B : Nat} {T : TypeId} {v : Value} {zs : List Int} (h : w.ownsRow B T 1 v zs.length (zs.map (Value.int .i64))) : Row .i64 w v zs := by
  obtain ⟨h1, h2 | ⟨g, cap, cur, rfl, hb, hg, hn, hm, hs, ht⟩⟩ := h
  · obtain ⟨rfl, h2⟩ := h2
    exact ⟨none, 0, by rw [h2], by omega, .inl (List.length_eq_zero_iff.1 h2)⟩
  · refine ⟨_, cap, rfl, hn, .inr ⟨g, 0, rfl, fun i hi => ?_⟩⟩
    rw [Nat.mul_one] at ht
    rw [cell_of_row w g (0 + i) cur T (0, 0) hg, Nat.zero_add]
    have := congrArg (fun l => l[i]?) ht
    simp only [List.getElem?_take, List.getElem?_map, if_pos hi] at this
    rw [List.getElem?_eq_getElem hi] at this
    rw [List.getD_eq_getElem?_getD, List.getElem?_eq_getElem hi]
    simpa using this

/-- The number x, written out: whether it is below 0, and its digits. -/
def IsBig (w : World) (v : Value) (x : Int) : Prop := ∃ s, v = .agg #[.bool (decide (x < 0)), s] ∧ Row .i64 w s (digs x.natAbs)

/-- What the loop keeps: the digits so far, what is left, the block of the answer. -/
def FromRel (a : Int) (H : Nat) (w : World) (m : Nat) (s : Value) (xs : List Int) (wr : World) : Prop :=
  digs a.natAbs = xs ++ digs m ∧ Blk wr (H + 1) #[.bool (decide (a < 0)), s] 56 ∧ Blk wr H #[.bool false, .slice none 0 0] 56 ∧
    wr.ownsRow (H + 2) 3 1 s xs.length (xs.map (Value.int .i64)) ∧ Below H w wr

theorem FromRel.step {a : Int} {H : Nat} {w wr w1 : World} {m : Nat} {s s' : Value} {xs : List Int} (h : FromRel a H w m s xs wr) (hm : m ≠ 0) (o : Obj)
    (hown : w1.ownsRow (H + 2) 3 1 s' (xs.length + 1) (xs.map (Value.int .i64) ++ [.int .i64 ((m % 10 : Nat) : Int)])) (hg : (wr.alloc o).grownBy w1 s.ownBlock) :
    FromRel a H w (m / 10) s' (xs ++ [((m % 10 : Nat) : Int)]) (w1.setCell ⟨H + 1, 1, none⟩ s') := by
  obtain ⟨h1, h2, h3, h4, h5⟩ := h
  have g2 := (h2.alloc o).grown hg (ownBlock_ne h4 (by omega))
  have g3 := (h3.alloc o).grown hg (ownBlock_ne h4 (by omega))
  refine ⟨by rw [h1, digs_pos hm]; simp, g2.set 1 s', g3.setOther (by simp) s', ?_, ?_⟩
  · have := ownsRow_setCell_below hown (a := ⟨H + 1, 1, none⟩) (by simp) s'
    simpa using this
  · have hH := h3.lt
    have b1 := (h5.alloc (by omega) o).grown hg (by have := hH; simp; omega) (fun k hk => by have := (h4.lt k hk).1; omega)
    exact b1.setCell (by simp) _

theorem digs_len_of {n k : Nat} {xs : List Int} {m : Nat} (h : digs n = xs ++ digs m) (hn : n < 10 ^ k) : xs.length ≤ k := by
  have h1 := digs_length n k hn
  rw [h, List.length_append] at h1
  omega

set_option maxHeartbeats 1000000 in
set_option maxRecDepth 100000 in
theorem from_pos (a : Int) (w : World) (h0 : 0 ≤ a) (h1 : a ≤ 9223372036854775807) :
    Calls Try.prog 25 #[.int .i64 a] w fun e w' => ∃ v, e = .returned v ∧ IsBig w' v a ∧ Below w.heap.size w w' := by
  obtain ⟨i0, hi, hz0, hz1, hz2⟩ := info_parts info_int
  have hneg : decide (a < 0) = false := by simpa using h0
  have hn : Hid (a.natAbs < 10 ^ 19) := by show a.natAbs < 10 ^ 19; omega
  go_enter Try.func25, Try.ntmps25
  go_wp2
  go_loopw [0] (fun va wr => ∃ (m : Nat) (xs : List Int) (s : Value), va = .int .i64 m ∧ (m : Int) ≤ 9223372036854775807 ∧ FromRel a w.heap.size w m s xs wr) (fun va _ => (intOf va).toNat)
  case atStart =>
    refine ⟨a.natAbs, [], .slice none 0 0, ?_, by omega, rfl, ?_, ?_, World.ownsRow_nil _ _ _ _, ?_⟩
    · congr 1; omega
    · rw [hneg]; exact Blk.new' _ _ _ (by simp)
    · exact (Blk.new _ _ _).alloc _
    · exact ((Below.refl _ _).alloc (Nat.le_refl _) _).alloc (by simp) _
  case round =>
    obtain ⟨m, xs, s, rfl, hm, hR⟩ := hrel
    have hc0 : wr.cell? ⟨w.heap.size + 1, 0, none⟩ = some (.bool false) := by rw [hR.2.1.cell 0, hneg]; rfl
    have hc1 : wr.cell? ⟨w.heap.size + 1, 1, none⟩ = some s := hR.2.1.cell 1
    have hfr := hR.2.1.free 1
    have ha0 : wr.cell? ⟨w.heap.size, 0, none⟩ = some (.bool false) := hR.2.2.1.cell 0
    have ha1 : wr.cell? ⟨w.heap.size, 1, none⟩ = some (.slice none 0 0) := hR.2.2.1.cell 1
    have hf0 := hR.2.2.1.free 0
    have hf1 := hR.2.2.1.free 1
    have hlen := digs_len_of hR.1 hn.out
    have hsz := hR.2.1.lt
    have HR := Lib.hid hR
    clear hR
    obtain ⟨p, c, rfl⟩ := owned_slice HR.out.2.2.2.1
    by_cases hz : m = 0
    · subst hz
      go_wp2
      have hR := HR.out
      have hf : Blk ((wr.setCell ⟨w.heap.size, 0, none⟩ (.bool false)).setCell ⟨w.heap.size, 1, none⟩ (.slice p xs.length c)) w.heap.size #[.bool false, .slice p xs.length c] 56 := (hR.2.2.1.set 0 _).set 1 _
      refine bodyPost_ret (v := .agg #[.bool false, .slice p xs.length c]) (by simp [results, Try.results25, go_sem, hf.cell 0, hf.cell 1]) rfl ?_
      have hb := ((hR.2.2.2.2.setCell (p := ⟨w.heap.size, 0, none⟩) (by simp) (.bool false)).setCell (p := ⟨w.heap.size, 1, none⟩) (by simp) (.slice p xs.length c))
      refine ⟨_, rfl, ⟨_, by rw [hneg], ?_⟩, hb⟩
      have hd : digs a.natAbs = xs := by rw [hR.1, digs_zero, List.append_nil]
      rw [hd]
      exact Row.owned (ownsRow_setCell_below (ownsRow_setCell_below hR.2.2.2.1 (a := ⟨w.heap.size, 0, none⟩) (by simp) _) (a := ⟨w.heap.size, 1, none⟩) (by simp) _)
    · have hzb : ((m : Int) != 0) = true := by simpa using hz
      go_wp2_with (at_builtin; refine wpList_append_own _ rfl _ _ 54 rfl (w.heap.size + 2) 3 i0 (.int .i64 0) 1 8 Try.underlying54 hi hz0 hz1 hz2 rfl (by decide) _ _ _ rfl (HR.out.2.2.2.1.alloc _) ⟨wr.heap.size, 0, none⟩ 1 1 [.int .i64 ((m : Int) % 10)] rfl rfl ?c1 ?c2 ?c3 ?c4 ?c5 ?_)
      case c1 => exact one_new _ _ _
      case c2 => exact one_cells _ _
      case c3 => unfold maxLen; omega
      case c4 => omega
      case c5 => simp; omega
      · intro v' w1 hown hgrow _
        have hst := HR.out.step hz _ hown hgrow
        obtain ⟨p', c', rfl⟩ := owned_slice hown
        have hb1 := (HR.out.2.1.alloc (.cells #[.int .i64 ((m : Int) % 10)] 3)).grown hgrow (ownBlock_ne HR.out.2.2.2.1 (by omega))
        have hcw : w1.cell? ⟨w.heap.size + 1, 1, none⟩ = some (.slice p xs.length c) := hb1.cell 1
        have hfw := hb1.free 1
        have HST := Lib.hid hst
        clear hst hown hgrow hb1
        go_wp2
        go_roundw
        case rel => exact ⟨m / 10, xs ++ [((m % 10 : Nat) : Int)], _, by go_num, by omega, by simpa using HST.out⟩
        case measure => simp [intOf]; omega
set_option maxHeartbeats 1000000 in
set_option maxRecDepth 100000 in
theorem from_neg (a : Int) (w : World) (h0 : a < 0) (h1 : -9223372036854775808 ≤ a) :
    Calls Try.prog 25 #[.int .i64 a] w fun e w' => ∃ v, e = .returned v ∧ IsBig w' v a ∧ Below w.heap.size w w' := by
  obtain ⟨i0, hi, hz0, hz1, hz2⟩ := info_parts info_int
  have hneg : decide (a < 0) = true := by simpa using h0
  have hn : Hid (a.natAbs < 10 ^ 19) := by show a.natAbs < 10 ^ 19; omega
  go_enter Try.func25, Try.ntmps25
  go_wp2
  go_loopw [0] (fun va wr => ∃ (m : Nat) (xs : List Int) (s : Value), va = .int .i64 (-(m : Int)) ∧ (m : Int) ≤ 9223372036854775808 ∧ FromRel a w.heap.size w m s xs wr) (fun va _ => (intOf va).natAbs)
  case atStart =>
    refine ⟨a.natAbs, [], .slice none 0 0, ?_, by omega, rfl, ?_, ?_, World.ownsRow_nil _ _ _ _, ?_⟩
    · congr 1; omega
    · rw [hneg]; exact Blk.new' _ _ _ (by simp)
    · exact (Blk.new _ _ _).alloc _
    · exact ((Below.refl _ _).alloc (Nat.le_refl _) _).alloc (by simp) _
  case round =>
    obtain ⟨m, xs, s, rfl, hm, hR⟩ := hrel
    have hc0 : wr.cell? ⟨w.heap.size + 1, 0, none⟩ = some (.bool true) := by rw [hR.2.1.cell 0, hneg]; rfl
    have hc1 : wr.cell? ⟨w.heap.size + 1, 1, none⟩ = some s := hR.2.1.cell 1
    have hfr := hR.2.1.free 1
    have ha0 : wr.cell? ⟨w.heap.size, 0, none⟩ = some (.bool false) := hR.2.2.1.cell 0
    have ha1 : wr.cell? ⟨w.heap.size, 1, none⟩ = some (.slice none 0 0) := hR.2.2.1.cell 1
    have hf0 := hR.2.2.1.free 0
    have hf1 := hR.2.2.1.free 1
    have hlen := digs_len_of hR.1 hn.out
    have hsz := hR.2.1.lt
    have HR := Lib.hid hR
    clear hR
    obtain ⟨p, c, rfl⟩ := owned_slice HR.out.2.2.2.1
    by_cases hz : m = 0
    · subst hz
      go_wp2
      have hR := HR.out
      have hf : Blk ((wr.setCell ⟨w.heap.size, 0, none⟩ (.bool true)).setCell ⟨w.heap.size, 1, none⟩ (.slice p xs.length c)) w.heap.size #[.bool true, .slice p xs.length c] 56 := (hR.2.2.1.set 0 _).set 1 _
      refine bodyPost_ret (v := .agg #[.bool true, .slice p xs.length c]) (by simp [results, Try.results25, go_sem, hf.cell 0, hf.cell 1]) rfl ?_
      have hb := ((hR.2.2.2.2.setCell (p := ⟨w.heap.size, 0, none⟩) (by simp) (.bool true)).setCell (p := ⟨w.heap.size, 1, none⟩) (by simp) (.slice p xs.length c))
      refine ⟨_, rfl, ⟨_, by rw [hneg], ?_⟩, hb⟩
      have hd : digs a.natAbs = xs := by rw [hR.1, digs_zero, List.append_nil]
      rw [hd]
      exact Row.owned (ownsRow_setCell_below (ownsRow_setCell_below hR.2.2.2.1 (a := ⟨w.heap.size, 0, none⟩) (by simp) _) (a := ⟨w.heap.size, 1, none⟩) (by simp) _)
    · have hzb : (-(m : Int) != 0) = true := by simpa using hz
      have hdiv : (-(m : Int)).tdiv 10 = -((m : Int) / 10) := by rw [Int.neg_tdiv, Int.tdiv_eq_ediv_of_nonneg (by omega)]
      have hmod : (-(m : Int)).tmod 10 = -((m : Int) % 10) := by rw [Int.neg_tmod, Int.tmod_eq_emod_of_nonneg (by omega)]
      by_cases h10 : (m : Int) % 10 = 0
      · have hmod0 : (-(m : Int)).tmod 10 = 0 := by rw [hmod, h10]; rfl
        clear hmod
        go_wp2_with (at_builtin; refine wpList_append_own _ rfl _ _ 54 rfl (w.heap.size + 2) 3 i0 (.int .i64 0) 1 8 Try.underlying54 hi hz0 hz1 hz2 rfl (by decide) _ _ _ rfl (HR.out.2.2.2.1.alloc _) ⟨wr.heap.size, 0, none⟩ 1 1 [.int .i64 0] rfl rfl ?c1 ?c2 ?c3 ?c4 ?c5 ?_)
        case c1 => exact one_new _ _ _
        case c2 => exact one_cells _ _
        case c3 => unfold maxLen; omega
        case c4 => omega
        case c5 => simp; omega
        intro v' w1 hown hgrow _
        have hst := HR.out.step hz (.cells #[.int .i64 0] 3) (by rw [show ((m % 10 : Nat) : Int) = 0 by omega]; exact hown) hgrow
        obtain ⟨p', c', rfl⟩ := owned_slice hown
        have hb1 := (HR.out.2.1.alloc (.cells #[.int .i64 0] 3)).grown hgrow (ownBlock_ne HR.out.2.2.2.1 (by omega))
        have hcw : w1.cell? ⟨w.heap.size + 1, 1, none⟩ = some (.slice p xs.length c) := hb1.cell 1
        have hfw := hb1.free 1
        have HST := Lib.hid hst
        clear hst hown hgrow hb1
        go_wp2
        go_roundw
        case rel => exact ⟨m / 10, xs ++ [((m % 10 : Nat) : Int)], _, by go_num, by omega, by simpa using HST.out⟩
        case measure => simp [intOf]; omega
      · have hpos : 0 < (m : Int) % 10 := by omega
        go_wp2_with (at_builtin; refine wpList_append_own _ rfl _ _ 54 rfl (w.heap.size + 2) 3 i0 (.int .i64 0) 1 8 Try.underlying54 hi hz0 hz1 hz2 rfl (by decide) _ _ _ rfl (HR.out.2.2.2.1.alloc _) ⟨wr.heap.size, 0, none⟩ 1 1 [.int .i64 ((m : Int) % 10)] rfl rfl ?c1 ?c2 ?c3 ?c4 ?c5 ?_)
        case c1 => exact one_new _ _ _
        case c2 => exact one_cells _ _
        case c3 => unfold maxLen; omega
        case c4 => omega
        case c5 => simp; omega
        intro v' w1 hown hgrow _
        have hst := HR.out.step hz (.cells #[.int .i64 ((m : Int) % 10)] 3) (by rw [show ((m % 10 : Nat) : Int) = ((m : Int) % 10) by omega]; exact hown) hgrow
        obtain ⟨p', c', rfl⟩ := owned_slice hown
        have hb1 := (HR.out.2.1.alloc (.cells #[.int .i64 ((m : Int) % 10)] 3)).grown hgrow (ownBlock_ne HR.out.2.2.2.1 (by omega))
        have hcw : w1.cell? ⟨w.heap.size + 1, 1, none⟩ = some (.slice p xs.length c) := hb1.cell 1
        have hfw := hb1.free 1
        have HST := Lib.hid hst
        clear hst hown hgrow hb1
        go_wp2
        go_roundw
        case rel => exact ⟨m / 10, xs ++ [((m % 10 : Nat) : Int)], _, by go_num, by omega, by simpa using HST.out⟩
        case measure => simp [intOf]; omega
theorem from_any (a : Int) (w : World) (ha : Fits a) :
    Calls Try.prog 25 #[.int .i64 a] w fun e w' => ∃ v, e = .returned v ∧ IsBig w' v a ∧ Below w.heap.size w w' := by
  by_cases h : 0 ≤ a
  · exact from_pos a w h ha.2
  · exact from_neg a w (by omega) ha.1
end Go.Proofs.Yteofblabimneiaa
