/- contraref01.Fits: a number as a whole one of 64 bits. -/
import Derived.Test.YteofblabimneiaaBig
namespace Go.Proofs.Yteofblabimneiaa
open Go.RowKit

def mostP : List Int := [7, 0, 8, 5, 7, 7, 4, 5, 8, 6, 3, 0, 2, 7, 3, 3, 2, 2, 9]
def mostM : List Int := [8, 0, 8, 5, 7, 7, 4, 5, 8, 6, 3, 0, 2, 7, 3, 3, 2, 2, 9]
theorem mostP_norm : Norm mostP := by unfold Norm IsDigs mostP; decide
theorem mostM_norm : Norm mostM := by unfold Norm IsDigs mostM; decide
theorem mostP_val : val mostP = 9223372036854775807 := by decide
theorem mostM_val : val mostM = 9223372036854775808 := by decide

/-- A row of its own, all cells known. -/
theorem Row.lit (w : World) (T : TypeId) (zs : List Int) (n : Nat) (hn : n = zs.length) {b : Nat} (hb : b = w.heap.size) (cs : Array Value) (hcs : cs = (zs.map (Value.int .i64)).toArray) :
    Row .i64 (w.alloc (.cells cs T)) (.slice (some ⟨b, 0, none⟩) n n) zs := by
  subst hn hb hcs
  refine ⟨_, _, rfl, Nat.le_refl _, .inr ⟨_, _, rfl, fun i hi => ?_⟩⟩
  rw [World.cell?_alloc_at _ _ _ _ rfl, List.getD_eq_getElem?_getD, List.getElem?_eq_getElem hi]
  simp [hi]

theorem val_drop {l : List Int} (h : IsDigs l) (k : Nat) : 0 ≤ val (l.drop k) ∧ val (l.drop k) ≤ val l := by
  induction k generalizing l with
  | zero => exact ⟨val_nonneg h, Int.le_refl _⟩
  | succ k ih =>
    cases l with
    | nil => simp [val]
    | cons d t =>
      obtain ⟨h1, h2⟩ := h.cons
      obtain ⟨a, b⟩ := ih h2
      have := val_nonneg h2
      rw [List.drop_succ_cons]
      simp only [val]; omega
theorem val_drop_step {l : List Int} (m : Nat) (h : m < l.length) : val (l.drop m) = l.getD m 0 + 10 * val (l.drop (m + 1)) := by
  rcases drop_cases l m with ⟨_, e⟩ | ⟨e, _⟩
  · rw [e, val]
  · omega
theorem ret_two {a b : Int} {c d : Bool} (h : a = b) (h' : c = d) : Ending.returned (.tuple #[.int .i64 a, .bool c]) = .returned (.tuple #[.int .i64 b, .bool d]) := by rw [h, h']
/-- Do they fit, as a number, with this sign? -/
def fitsB (x : Int) : Bool := decide (Fits x)

set_option maxHeartbeats 2000000 in
set_option maxRecDepth 100000 in
theorem fits_pos (s : Value) (da : List Int) (w : World) (ha : Norm da) (hla : da.length ≤ 1000) (hs : Row .i64 w s da) :
    Calls Try.prog 26 #[.agg #[.bool false, s]] w fun e w' => e = .returned (.tuple #[.int .i64 (sumN (val da)), .bool (fitsB (val da))]) ∧ Below w.heap.size w w' := by
  obtain ⟨p, ca, rfl⟩ := hs.form
  have hv0 := val_nonneg ha.1
  go_enter Try.func26, Try.ntmps26
  go_wp2_with fail
  have b0 : Blk ((w.alloc (.cells #[.bool false, .slice p da.length ca] 56)).alloc (.cells #[.int .i64 7, .int .i64 0, .int .i64 8, .int .i64 5, .int .i64 7, .int .i64 7, .int .i64 4, .int .i64 5, .int .i64 8, .int .i64 6, .int .i64 3, .int .i64 0, .int .i64 2, .int .i64 7, .int .i64 3, .int .i64 3, .int .i64 2, .int .i64 2, .int .i64 9] 3)) w.heap.size _ _ := (Blk.new w _ _).alloc _
  have hbw : Below w.heap.size w ((w.alloc (.cells #[.bool false, .slice p da.length ca] 56)).alloc (.cells #[.int .i64 7, .int .i64 0, .int .i64 8, .int .i64 5, .int .i64 7, .int .i64 7, .int .i64 4, .int .i64 5, .int .i64 8, .int .i64 6, .int .i64 3, .int .i64 0, .int .i64 2, .int .i64 7, .int .i64 3, .int .i64 3, .int .i64 2, .int .i64 2, .int .i64 9] 3)) := ((Below.refl _ _).alloc (Nat.le_refl _) _).alloc (by simp) _
  have hrm : Row .i64 ((w.alloc (.cells #[.bool false, .slice p da.length ca] 56)).alloc (.cells #[.int .i64 7, .int .i64 0, .int .i64 8, .int .i64 5, .int .i64 7, .int .i64 7, .int .i64 4, .int .i64 5, .int .i64 8, .int .i64 6, .int .i64 3, .int .i64 0, .int .i64 2, .int .i64 7, .int .i64 3, .int .i64 3, .int .i64 2, .int .i64 2, .int .i64 9] 3)) (.slice (some ⟨w.heap.size + 1, 0, none⟩) 19 19) mostP := Row.lit _ _ mostP 19 rfl (by simp) _ rfl
  generalize ((w.alloc (.cells #[.bool false, .slice p da.length ca] 56)).alloc (.cells #[.int .i64 7, .int .i64 0, .int .i64 8, .int .i64 5, .int .i64 7, .int .i64 7, .int .i64 4, .int .i64 5, .int .i64 8, .int .i64 6, .int .i64 3, .int .i64 0, .int .i64 2, .int .i64 7, .int .i64 3, .int .i64 3, .int .i64 2, .int .i64 2, .int .i64 9] 3)) = W at *
  have HR := Lib.hid (fun (W' : World) (h : Below w.heap.size W W') => hs.below (hbw.trans h) (Nat.le_refl _))
  have hless := less_any _ _ mostP da W mostP_norm ha (by decide) (by omega) hrm (HR.out W (Below.refl _ _))
  rw [mostP_val] at hless
  have HBW := Lib.hid hbw
  have B0 := Lib.hid b0
  have hsz := b0.lt
  clear hs hbw b0 hrm
  by_cases hf : val da ≤ 9223372036854775807
  · have hl : lessB 9223372036854775807 (val da) = false := by unfold lessB; rw [decide_eq_false_iff_not]; omega
    have hfit : Fits (val da) := by unfold Fits; omega
    have h1 : Hid (sumN (val da) = val da) := sumN_yes hfit
    have h2 : Hid (fitsB (val da) = true) := by show _ = _; unfold fitsB; simpa using hfit
    rw [hl] at hless
    clear hfit hl
    refine hless.mono ?_
    rintro e w1 ⟨rfl, hb1⟩
    have B1 := B0.out.below hb1 hsz
    have c0 : w1.cell? ⟨w.heap.size, 0, none⟩ = some (.bool false) := B1.cell 0
    have c1 : w1.cell? ⟨w.heap.size, 1, none⟩ = some (.slice p da.length ca) := B1.cell 1
    have R1 := Lib.hid (HR.out w1 (hb1.mono (by omega)))
    have HB := Lib.hid (HBW.out.trans (hb1.mono (by omega)))
    clear hless B1 hb1 HR HBW B0
    go_wp2
    go_loop [5, 6] (fun vn vi => ∃ j V : Int, -1 ≤ j ∧ j < (da.length : Int) ∧ vi = .int .i64 j ∧ vn = .int .i64 (V) ∧ Hid (V = val (da.drop (j + 1).toNat))) (fun _ vi => (intOf vi + 1).toNat)
    case atStart =>
      refine ⟨(da.length : Int) - 1, 0, by omega, by omega, rfl, rfl, ?_⟩
      show _ = _
      rw [List.drop_eq_nil_iff.2 (by omega)]; rfl
    case round =>
      obtain ⟨j, V, hj0, hj1, rfl, rfl, hV⟩ := hrel
      by_cases h0 : j < 0
      · obtain rfl : j = -1 := by omega
        have hV' : Hid (V = val da) := by have := hV.out; simp at this; exact this
        clear hV
        go_wp2
        go_ret2
        exact ⟨ret_two (by rw [h1.out, hV'.out]) (by rw [h2.out]), HB.out⟩
      · obtain ⟨k, rfl⟩ : ∃ k : Nat, j = k := ⟨j.toNat, by omega⟩
        have hV' : V = val (da.drop (k + 1)) := by have := hV.out; rw [show ((k : Int) + 1).toNat = k + 1 by omega] at this; exact this
        clear hV
        obtain ⟨b, o, rfl, hc⟩ := R1.out.at k (by omega)
        have hst := val_drop_step (l := da) k (by omega)
        rw [← hV'] at hst
        have hbd := val_drop ha.1 k
        have hbv := (val_drop ha.1 (k + 1)).1
        rw [← hV'] at hbv
        rw [hst] at hbd
        have hdg := digs_getD ha.1 k
        have HST := Lib.hid hst
        generalize da.getD k 0 = d at *
        have hm0 : 0 ≤ d + 10 * V := hbd.1
        have hm1 : d + 10 * V ≤ 9223372036854775807 := Int.le_trans hbd.2 hf
        clear hst hbd hV'
        go_wp2
        go_round
        case rel => exact ⟨(k : Int) - 1, d + 10 * V, by omega, by omega, rfl, by first | rfl | (congr 1; omega), by show _ = _; rw [show ((k : Int) - 1 + 1).toNat = k by omega]; exact HST.out.symm⟩
        case measure => simp [intOf]
  · have hl : lessB 9223372036854775807 (val da) = true := by unfold lessB; rw [decide_eq_true_eq]; omega
    have hfit : ¬ Fits (val da) := by unfold Fits; omega
    have h1 : Hid (sumN (val da) = 0) := sumN_no hfit
    have h2 : Hid (fitsB (val da) = false) := by show _ = _; unfold fitsB; simpa using hfit
    rw [hl] at hless
    clear hfit hl hf
    refine hless.mono ?_
    rintro e w1 ⟨rfl, hb1⟩
    have HB := Lib.hid (HBW.out.trans (hb1.mono (by omega)))
    clear hless hb1
    go_wp2
    go_ret2
    exact ⟨ret_two (by rw [h1.out]) (by rw [h2.out]), HB.out⟩

set_option maxHeartbeats 2000000 in
set_option maxRecDepth 100000 in
theorem fits_neg (s : Value) (da : List Int) (w : World) (ha : Norm da) (hla : da.length ≤ 1000) (hs : Row .i64 w s da) :
    Calls Try.prog 26 #[.agg #[.bool true, s]] w fun e w' => e = .returned (.tuple #[.int .i64 (sumN (-val da)), .bool (fitsB (-val da))]) ∧ Below w.heap.size w w' := by
  obtain ⟨p, ca, rfl⟩ := hs.form
  have hv0 := val_nonneg ha.1
  go_enter Try.func26, Try.ntmps26
  go_wp2_with fail
  have b0 : Blk (((w.alloc (.cells #[.bool true, .slice p da.length ca] 56)).alloc (.cells #[.int .i64 7, .int .i64 0, .int .i64 8, .int .i64 5, .int .i64 7, .int .i64 7, .int .i64 4, .int .i64 5, .int .i64 8, .int .i64 6, .int .i64 3, .int .i64 0, .int .i64 2, .int .i64 7, .int .i64 3, .int .i64 3, .int .i64 2, .int .i64 2, .int .i64 9] 3)).alloc (.cells #[.int .i64 8, .int .i64 0, .int .i64 8, .int .i64 5, .int .i64 7, .int .i64 7, .int .i64 4, .int .i64 5, .int .i64 8, .int .i64 6, .int .i64 3, .int .i64 0, .int .i64 2, .int .i64 7, .int .i64 3, .int .i64 3, .int .i64 2, .int .i64 2, .int .i64 9] 3)) w.heap.size _ _ := ((Blk.new w _ _).alloc _).alloc _
  have hbw : Below w.heap.size w (((w.alloc (.cells #[.bool true, .slice p da.length ca] 56)).alloc (.cells #[.int .i64 7, .int .i64 0, .int .i64 8, .int .i64 5, .int .i64 7, .int .i64 7, .int .i64 4, .int .i64 5, .int .i64 8, .int .i64 6, .int .i64 3, .int .i64 0, .int .i64 2, .int .i64 7, .int .i64 3, .int .i64 3, .int .i64 2, .int .i64 2, .int .i64 9] 3)).alloc (.cells #[.int .i64 8, .int .i64 0, .int .i64 8, .int .i64 5, .int .i64 7, .int .i64 7, .int .i64 4, .int .i64 5, .int .i64 8, .int .i64 6, .int .i64 3, .int .i64 0, .int .i64 2, .int .i64 7, .int .i64 3, .int .i64 3, .int .i64 2, .int .i64 2, .int .i64 9] 3)) := (((Below.refl _ _).alloc (Nat.le_refl _) _).alloc (by simp) _).alloc (by simp; omega) _
  have hrm : Row .i64 (((w.alloc (.cells #[.bool true, .slice p da.length ca] 56)).alloc (.cells #[.int .i64 7, .int .i64 0, .int .i64 8, .int .i64 5, .int .i64 7, .int .i64 7, .int .i64 4, .int .i64 5, .int .i64 8, .int .i64 6, .int .i64 3, .int .i64 0, .int .i64 2, .int .i64 7, .int .i64 3, .int .i64 3, .int .i64 2, .int .i64 2, .int .i64 9] 3)).alloc (.cells #[.int .i64 8, .int .i64 0, .int .i64 8, .int .i64 5, .int .i64 7, .int .i64 7, .int .i64 4, .int .i64 5, .int .i64 8, .int .i64 6, .int .i64 3, .int .i64 0, .int .i64 2, .int .i64 7, .int .i64 3, .int .i64 3, .int .i64 2, .int .i64 2, .int .i64 9] 3)) (.slice (some ⟨w.heap.size + 1 + 1, 0, none⟩) 19 19) mostM := Row.lit _ _ mostM 19 rfl (by simp) _ rfl
  generalize (((w.alloc (.cells #[.bool true, .slice p da.length ca] 56)).alloc (.cells #[.int .i64 7, .int .i64 0, .int .i64 8, .int .i64 5, .int .i64 7, .int .i64 7, .int .i64 4, .int .i64 5, .int .i64 8, .int .i64 6, .int .i64 3, .int .i64 0, .int .i64 2, .int .i64 7, .int .i64 3, .int .i64 3, .int .i64 2, .int .i64 2, .int .i64 9] 3)).alloc (.cells #[.int .i64 8, .int .i64 0, .int .i64 8, .int .i64 5, .int .i64 7, .int .i64 7, .int .i64 4, .int .i64 5, .int .i64 8, .int .i64 6, .int .i64 3, .int .i64 0, .int .i64 2, .int .i64 7, .int .i64 3, .int .i64 3, .int .i64 2, .int .i64 2, .int .i64 9] 3)) = W at *
  have HR := Lib.hid (fun (W' : World) (h : Below w.heap.size W W') => hs.below (hbw.trans h) (Nat.le_refl _))
  have hless := less_any _ _ mostM da W mostM_norm ha (by decide) (by omega) hrm (HR.out W (Below.refl _ _))
  rw [mostM_val] at hless
  have HBW := Lib.hid hbw
  have B0 := Lib.hid b0
  have hsz := b0.lt
  clear hs hbw b0 hrm
  by_cases hf : val da ≤ 9223372036854775808
  · have hl : lessB 9223372036854775808 (val da) = false := by unfold lessB; rw [decide_eq_false_iff_not]; omega
    have hfit : Fits (-val da) := by unfold Fits; omega
    have h1 : Hid (sumN (-val da) = -val da) := sumN_yes hfit
    have h2 : Hid (fitsB (-val da) = true) := by show _ = _; unfold fitsB; simpa using hfit
    rw [hl] at hless
    clear hfit hl
    refine hless.mono ?_
    rintro e w1 ⟨rfl, hb1⟩
    have B1 := B0.out.below hb1 hsz
    have c0 : w1.cell? ⟨w.heap.size, 0, none⟩ = some (.bool true) := B1.cell 0
    have c1 : w1.cell? ⟨w.heap.size, 1, none⟩ = some (.slice p da.length ca) := B1.cell 1
    have R1 := Lib.hid (HR.out w1 (hb1.mono (by omega)))
    have HB := Lib.hid (HBW.out.trans (hb1.mono (by omega)))
    clear hless B1 hb1 HR HBW B0
    go_wp2
    go_loop [5, 6] (fun vn vi => ∃ j V : Int, -1 ≤ j ∧ j < (da.length : Int) ∧ vi = .int .i64 j ∧ vn = .int .i64 (-V) ∧ Hid (V = val (da.drop (j + 1).toNat))) (fun _ vi => (intOf vi + 1).toNat)
    case atStart =>
      refine ⟨(da.length : Int) - 1, 0, by omega, by omega, rfl, by simp, ?_⟩
      show _ = _
      rw [List.drop_eq_nil_iff.2 (by omega)]; rfl
    case round =>
      obtain ⟨j, V, hj0, hj1, rfl, rfl, hV⟩ := hrel
      by_cases h0 : j < 0
      · obtain rfl : j = -1 := by omega
        have hV' : Hid (V = val da) := by have := hV.out; simp at this; exact this
        clear hV
        go_wp2
        go_ret2
        exact ⟨ret_two (by rw [h1.out, hV'.out]) (by rw [h2.out]), HB.out⟩
      · obtain ⟨k, rfl⟩ : ∃ k : Nat, j = k := ⟨j.toNat, by omega⟩
        have hV' : V = val (da.drop (k + 1)) := by have := hV.out; rw [show ((k : Int) + 1).toNat = k + 1 by omega] at this; exact this
        clear hV
        obtain ⟨b, o, rfl, hc⟩ := R1.out.at k (by omega)
        have hst := val_drop_step (l := da) k (by omega)
        rw [← hV'] at hst
        have hbd := val_drop ha.1 k
        have hbv := (val_drop ha.1 (k + 1)).1
        rw [← hV'] at hbv
        rw [hst] at hbd
        have hdg := digs_getD ha.1 k
        have HST := Lib.hid hst
        generalize da.getD k 0 = d at *
        have hm0 : 0 ≤ d + 10 * V := hbd.1
        have hm1 : d + 10 * V ≤ 9223372036854775808 := Int.le_trans hbd.2 hf
        clear hst hbd hV'
        go_wp2
        go_round
        case rel => exact ⟨(k : Int) - 1, d + 10 * V, by omega, by omega, rfl, by first | rfl | (congr 1; omega), by show _ = _; rw [show ((k : Int) - 1 + 1).toNat = k by omega]; exact HST.out.symm⟩
        case measure => simp [intOf]
  · have hl : lessB 9223372036854775808 (val da) = true := by unfold lessB; rw [decide_eq_true_eq]; omega
    have hfit : ¬ Fits (-val da) := by unfold Fits; omega
    have h1 : Hid (sumN (-val da) = 0) := sumN_no hfit
    have h2 : Hid (fitsB (-val da) = false) := by show _ = _; unfold fitsB; simpa using hfit
    rw [hl] at hless
    clear hfit hl hf
    refine hless.mono ?_
    rintro e w1 ⟨rfl, hb1⟩
    have HB := Lib.hid (HBW.out.trans (hb1.mono (by omega)))
    clear hless hb1
    go_wp2
    go_ret2
    exact ⟨ret_two (by rw [h1.out]) (by rw [h2.out]), HB.out⟩

theorem fits_any (v : Value) (x : Int) (w : World) (hx : Small x) (hv : IsBig w v x) :
    Calls Try.prog 26 #[v] w fun e w' => e = .returned (.tuple #[.int .i64 (sumN x), .bool (fitsB x)]) ∧ Below w.heap.size w w' := by
  obtain ⟨s, rfl, hs⟩ := hv
  by_cases h : x < 0
  · rw [show decide (x < 0) = true by simpa using h]
    have := fits_neg s _ w (digs_norm _) hx.len hs
    rw [val_digs, show -((x.natAbs : Nat) : Int) = x by omega] at this
    exact this
  · rw [show decide (x < 0) = false by simpa using h]
    have := fits_pos s _ w (digs_norm _) hx.len hs
    rw [val_digs, show ((x.natAbs : Nat) : Int) = x by omega] at this
    exact this
end Go.Proofs.Yteofblabimneiaa
