/- contraref01.trim and less: noughts at the end; the order of numbers that are written out. -/
import Derived.Test.YteofblabimneiaaFrom
import Derived.BigQuiet
import Derived.Deep.QuietTactic
import Derived.BigGuard
namespace Go.Proofs.Yteofblabimneiaa
open Go.RowKit

theorem Row.take {k : IntKind} {w : World} {p : Option Addr} {c n : Nat} {zs : List Int} (h : Row k w (.slice p zs.length c) zs) (hn : n ≤ zs.length) : Row k w (.slice p n c) (zs.take n) := by
  obtain ⟨p', c', e, hc, h⟩ := h
  cases e
  have hl : (zs.take n).length = n := by rw [List.length_take]; omega
  refine ⟨p, c, by rw [hl], by omega, ?_⟩
  rcases h with h | ⟨b, o, rfl, h⟩
  · subst h; simp
  · by_cases h0 : n = 0
    · left; subst h0; simp
    · refine .inr ⟨b, o, rfl, fun i hi => ?_⟩
      rw [hl] at hi
      rw [h i (by omega), List.getD_eq_getElem?_getD, List.getD_eq_getElem?_getD, List.getElem?_take, if_pos hi]

/-- What a row of ints holds at i, where it has such a place. -/
theorem Row.at {k : IntKind} {w : World} {p : Option Addr} {c n : Nat} {zs : List Int} (h : Row k w (.slice p n c) zs) (i : Nat) (hi : i < zs.length) : ∃ b o, p = some ⟨b, o, none⟩ ∧ w.cell? ⟨b, o + i, none⟩ = some (.int k (zs.getD i 0)) := by
  obtain ⟨p', c', e, _, h⟩ := h
  cases e
  rcases h with rfl | ⟨b, o, rfl, h⟩
  · simp at hi
  · exact ⟨b, o, rfl, h i hi⟩

theorem trimL_of {l : List Int} (n : Nat) (h : n ≤ l.length) (hz : ∀ j, n ≤ j → j < l.length → l.getD j 0 = 0) : trimL l = trimL (l.take n) := by
  obtain ⟨k, hk⟩ := Nat.exists_eq_add_of_le h
  induction k generalizing n with
  | zero => rw [List.take_of_length_le (by omega)]
  | succ k ih =>
    rw [ih (n + 1) (by omega) (fun j a b => hz j (by omega) b) (by omega)]
    have : l.take (n + 1) = l.take n ++ [0] := by
      rw [List.take_succ_eq_append_getElem (by omega)]
      have := hz n (Nat.le_refl _) (by omega)
      rw [List.getD_eq_getElem?_getD, List.getElem?_eq_getElem (by omega)] at this
      rw [show l[n] = 0 by simpa using this]
    rw [this, trimL_snoc_zero]
theorem trimL_take {l : List Int} (n : Nat) (h : n ≤ l.length) (hn : n = 0 ∨ l.getD (n - 1) 0 ≠ 0) : trimL (l.take n) = l.take n := by
  rcases hn with rfl | hn
  · simp [trimL_nil]
  · by_cases h0 : n = 0
    · subst h0; simp [trimL_nil]
    · obtain ⟨m, rfl⟩ : ∃ m, n = m + 1 := ⟨n - 1, by omega⟩
      rw [List.take_succ_eq_append_getElem (by omega)]
      apply trimL_snoc
      rw [List.getD_eq_getElem?_getD, Nat.add_sub_cancel, List.getElem?_eq_getElem (by omega)] at hn
      simpa using hn

theorem trim_any (v : Value) (zs : List Int) (w : World) (hm : zs.length ≤ 1000000) (hrow : Row .i64 w v zs) :
    Calls Try.prog 35 #[v] w fun e w' => ∃ v', e = .returned v' ∧ Row .i64 w v' (trimL zs) ∧ w = w' := by
  obtain ⟨p, c, rfl, hcap, _⟩ := id hrow
  have HR := Lib.hid hrow
  clear hrow
  generalize hn : zs.length = n at *
  have HN := Lib.hid hn
  clear hn
  go_enter Try.func35, Try.ntmps35
  go_wp2
  go_loop [3] (fun vn => ∃ k : Nat, k ≤ n ∧ vn = .int .i64 k ∧ Hid (∀ j, k ≤ j → j < n → zs.getD j 0 = 0)) (fun vn => (intOf vn).toNat)
  case atStart => exact ⟨n, Nat.le_refl _, rfl, fun j a b => by omega⟩
  case round =>
    obtain ⟨k, hk, rfl, hz⟩ := hrel
    have fin : (k = 0 ∨ zs.getD (k - 1) 0 ≠ 0) → Row .i64 w (.slice p k c) (trimL zs) := fun h => by
      have hn := HN.out
      rw [trimL_of k (by omega) (fun j a b => hz.out j a (by omega)), trimL_take k (by omega) h]
      exact Row.take (by rw [hn]; exact HR.out) (by omega)
    have FIN := Lib.hid fin
    clear fin
    by_cases h0 : k = 0
    · subst h0
      go_wp2
      go_ret
      exact ⟨_, rfl, FIN.out (by simp), rfl⟩
    · obtain ⟨b, o, rfl, hc⟩ := HR.out.at (k - 1) (by rw [HN.out]; omega)
      by_cases hd : zs.getD (k - 1) 0 = 0
      · have HD := Lib.hid hd
        rw [hd] at hc
        clear hd
        go_wp2
        go_round
        case rel => exact ⟨k - 1, by omega, by go_num, fun j a b => by
          by_cases e : j = k - 1
          · rw [e]; exact HD.out
          · exact hz.out j (by omega) b⟩
        case measure => simp [intOf]; omega
      · have HD := Lib.hid hd
        have hb : (zs.getD (k - 1) 0 == 0) = false := by simpa using hd
        generalize zs.getD (k - 1) 0 = d at *
        clear hd
        go_wp2
        go_ret
        exact ⟨_, rfl, FIN.out (.inr HD.out), rfl⟩

theorem drop_eq {a b : List Int} {i : Nat} (ha : i < a.length) (hl : a.length = b.length) (ht : a.drop (i + 1) = b.drop (i + 1)) (he : a.getD i 0 = b.getD i 0) : a.drop i = b.drop i := by
  rcases drop_cases a i with ⟨_, ea⟩ | ⟨h, _⟩
  · rcases drop_cases b i with ⟨_, eb⟩ | ⟨h, _⟩
    · rw [ea, eb, ht, he]
    · omega
  · omega

/-- The order of two numbers that are written out. -/
def lessB (x y : Int) : Bool := decide (x < y)
def LessRel (a b : List Int) (k : Nat) : Prop := a.drop k = b.drop k

set_option maxHeartbeats 1000000 in
theorem less_any (u v : Value) (a b : List Int) (w : World) (ha : Norm a) (hb : Norm b) (hm : a.length ≤ 1000000) (_hm' : b.length ≤ 1000000) (hu : Row .i64 w u a) (hv : Row .i64 w v b) :
    Calls Try.prog 37 #[u, v] w fun e w' => e = .returned (.bool (lessB (val a) (val b))) ∧ Below w.heap.size w w' := by
  obtain ⟨p, c, rfl, _, _⟩ := id hu
  obtain ⟨q, d, rfl, _, _⟩ := id hv
  have HU := Lib.hid hu
  have HV := Lib.hid hv
  clear hu hv
  by_cases hlen : a.length = b.length
  · generalize hn : a.length = n at *
    have hnb : ((n : Int) != (n : Int)) = false := by simp
    have HN := Lib.hid hn
    have HB := Lib.hid hlen
    clear hn
    rw [← hlen]
    clear hlen
    go_enter Try.func37, Try.ntmps37
    go_wp2
    go_loopw [5] (fun vi wr => ∃ (j : Int) (nd : Nat), -1 ≤ j ∧ j < n ∧ vi = .int .i64 j ∧ Hid (a.drop (j + 1).toNat = b.drop (j + 1).toNat) ∧ wr = w.drewN nd) (fun vi _ => (intOf vi + 1).toNat)
    case atStart =>
      refine ⟨(n : Int) - 1, 0, by omega, by omega, rfl, ?_, rfl⟩
      show _ = _
      rw [show ((n : Int) - 1 + 1).toNat = n by omega]
      rw [List.drop_eq_nil_iff.2 (by rw [HN.out]; exact Nat.le_refl _), List.drop_eq_nil_iff.2 (by rw [← HB.out]; exact Nat.le_refl _)]
    case round =>
      obtain ⟨j, nd, hj0, hj1, rfl, hd, rfl⟩ := hrel
      by_cases h0 : j < 0
      · obtain rfl : j = -1 := by omega
        have hfin : Hid (lessB (val a) (val b) = false) := by
          have := hd.out
          simp at this
          show _ = _
          rw [this]; simp [lessB]
        go_wp2
        go_ret
        exact ⟨by rw [hfin.out]; rfl, drewN_below _ _ _⟩
      · obtain ⟨m, rfl⟩ : ∃ m : Nat, j = m := ⟨j.toNat, by omega⟩
        have hd' : Hid (a.drop (m + 1) = b.drop (m + 1)) := by
          have := hd.out
          rw [show ((m : Int) + 1).toNat = m + 1 by omega] at this
          exact this
        clear hd
        obtain ⟨x, o, rfl, hc⟩ := HU.out.at m (by rw [HN.out]; omega)
        obtain ⟨x', o', rfl, hc'⟩ := HV.out.at m (by rw [← HB.out]; omega)
        by_cases he : a.getD m 0 = b.getD m 0
        · have HE : Hid (a.drop m = b.drop m) := drop_eq (by rw [HN.out]; omega) (HN.out.trans HB.out) hd'.out he
          have hbb : (a.getD m 0 != b.getD m 0) = false := by simpa using he
          generalize a.getD m 0 = aa at *
          generalize b.getD m 0 = bb at *
          clear he
          go_wp2_with fail
          go_quiet (fail)
          go_wp2
          go_roundw
          case rel => exact ⟨(m : Int) - 1, _, by omega, by omega, rfl, by
            show _ = _
            rw [show ((m : Int) - 1 + 1).toNat = m by omega]
            exact HE.out, rfl⟩
          case measure => simp [intOf]
        · have hfin : Hid (lessB (val a) (val b) = decide (a.getD m 0 < b.getD m 0)) := by
            show _ = _
            unfold lessB
            rw [decide_eq_decide]
            constructor
            · intro h
              by_cases e : b.getD m 0 < a.getD m 0
              · have := less_at hb.1 ha.1 m (by rw [← HB.out]; omega) (HB.out.symm.trans HN.out.symm) hd'.out.symm e; omega
              · omega
            · exact less_at ha.1 hb.1 m (by rw [HN.out]; omega) (HN.out.trans HB.out) hd'.out
          have hbb : (a.getD m 0 != b.getD m 0) = true := by simpa using he
          generalize a.getD m 0 = aa at *
          generalize b.getD m 0 = bb at *
          clear he
          go_wp2_with fail
          go_quiet (fail)
          go_wp2_with fail
          go_quiet (fail)
          go_wp2
          go_ret
          exact ⟨by rw [hfin.out]; rfl, below_drewN (below_drewN (drewN_below _ _ _) _) _⟩
  · have hnb : ((a.length : Int) != (b.length : Int)) = true := by simp; omega
    go_enter Try.func37, Try.ntmps37
    go_wp2
    have hfin : Hid (lessB (val a) (val b) = decide (a.length < b.length)) := by
      show _ = _
      unfold lessB
      rw [decide_eq_decide]
      constructor
      · intro h
        by_cases e : b.length < a.length
        · have := less_short hb ha e; omega
        · omega
      · exact less_short ha hb
    go_ret
    exact ⟨by rw [hfin.out]; rfl, Below.refl _ _⟩
end Go.Proofs.Yteofblabimneiaa
