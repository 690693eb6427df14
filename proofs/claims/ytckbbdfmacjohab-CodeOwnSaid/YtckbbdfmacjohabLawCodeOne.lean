/- CodeOne: the walk. -/
import Derived.Test.YtckbbdfmacjohabCodeFacts
import Derived.Deep.RegionWith
namespace Go.Proofs.Ytckbbdfmacjohab
open Go.RowKit
theorem Row.take {k : IntKind} {w : World} {n c : Nat} {p : Option Addr} {zs : List Int} (h : Row k w (.slice p n c) zs) (m : Nat) (hm : m ≤ zs.length) : Row k w (.slice p m c) (zs.take m) := by
  obtain ⟨p', c', e, hc, h⟩ := h
  cases e
  refine ⟨p, c, by rw [List.length_take, Nat.min_eq_left hm], by rw [List.length_take]; omega, ?_⟩
  rcases h with h | ⟨b, o, hp, h⟩
  · left; rw [h]; simp
  · refine .inr ⟨b, o, hp, fun i hi => ?_⟩
    rw [List.length_take] at hi
    rw [h i (by omega), List.getD_eq_getElem?_getD, List.getD_eq_getElem?_getD, List.getElem?_take, if_pos (by omega)]
theorem one_back {zs : List Int} (h8 : Oct zs) (he : (readL (natsOf zs)).2.2 = 0) : numL (readL (natsOf zs)).1 = zs.take (readL (natsOf zs)).2.1 := by
  refine (leb_oct _).back (h8.take _) ?_
  rw [natsOf_take]
  refine readL_back ?_ he
  intro x hx
  obtain ⟨z, hz, rfl⟩ := List.mem_map.mp hx
  have := h8 z hz; omega
theorem endE_stays {zs : List Int} {e : Int} (h : e ≠ 0) : endE zs e = e := by unfold endE orE; split <;> simp_all
set_option maxHeartbeats 4000000 in
set_option maxRecDepth 100000 in
theorem one_walk (vb : Value) (b : List Int) (W : World) (ob : Oct b) (rb : Row .u8 W vb b) (lb : b.length ≤ 140737488355328) :
    Calls Try.prog 3 #[vb] W fun e W' => e = .returned (.bool true) ∧ Below W.heap.size W W' := by
  obtain ⟨pb, cb, rfl⟩ := rb.shape
  have hcap : b.length ≤ cb := by obtain ⟨_, _, e0, hcap, _⟩ := id rb; cases e0; exact hcap
  have RB := Lib.hid rb
  clear rb
  by_cases hg : (b.length : Int) ≤ 100
  · by_cases hE : numE b 0 = 0
    · have he0 : (readL (natsOf b)).2.2 = 0 := by unfold numE at hE; rw [if_pos rfl] at hE; exact hE
      have HV : Hid (numV b 0 = (readL (natsOf b)).1) := by show _ = _; unfold numV; rw [if_pos hE]
      have HR : Hid (numR b 0 = b.drop (readL (natsOf b)).2.1) := by show _ = _; unfold numR; rw [if_pos hE]
      have HBK := Lib.hid (one_back ob he0)
      have hsz := (readP_size (natsOf b) 0 0).1
      rw [natsOf_length, Nat.zero_add] at hsz
      have hsz2 : (readL (natsOf b)).2.1 ≤ b.length := hsz
      have HF := Lib.hid (readP_fits (natsOf b) 0 0 (by decide) (by decide))
      have HE := Lib.hid hE
      have HF2 : Hid (-9223372036854775808 ≤ (readL (natsOf b)).1 ∧ (readL (natsOf b)).1 ≤ 9223372036854775807) := HF.out
      clear hE he0 hsz HF
      generalize (readL (natsOf b)).1 = v at *
      generalize (readL (natsOf b)).2.1 = s at *
      go_enter Try.func3, Try.ntmps3
      go_wp2_with fail
      refine (writes_any W).mono ?_
      rintro y w0 ⟨rfl, hb0⟩
      have B0 := Lib.hid hb0
      clear hb0
      go_wp2_with fail
      refine (read_any _ b w0 (RB.out.under B0.out (Nat.le_refl _)) (by omega)).mono ?_
      rintro y w2 ⟨g, g0, rfl, hr2, hg, hg0, hb2⟩
      have B2 := Lib.hid (B0.out.trans (hb2.mono B0.out.size))
      have R2 := Lib.hid hr2
      have G := Lib.hid (Nat.le_trans B0.out.size hg)
      clear hr2 hg hg0 hb2
      go_wp2_with fail
      refine (num_any g g0 b 0 w2 R2.out ob (by omega)).mono ?_
      rintro y w3 ⟨rfl, hc3, hr3⟩
      rw [HV.out]
      rw [HE.out, HR.out] at hr3
      have B3 := Lib.hid (B2.out.trans (hc3.below G.out B2.out.size))
      have R3 := Lib.hid hr3
      clear hc3 hr3
      go_wp2_with fail
      refine (err_any g g0 _ 0 _ R3.out).mono ?_
      rintro y w4 ⟨rfl, rfl⟩
      go_wp2_with fail
      have HLD : Hid ((b.drop s).length = b.length - s) := by show _ = _; rw [List.length_drop]
      have hsub : IntKind.i64.wrap ((b.length : Int) - ((b.length - s : Nat) : Int)) = (s : Int) := by rw [IntWalk.i64_in _ (by omega)]; omega
      have hs0 : (0 : Int) ≤ (s : Int) := by omega
      have B3d : Hid (Below W.heap.size W w3.drew) := B3.out.drew
      have R3d : Hid (Rdr w3.drew g g0 (b.drop s) 0) := R3.out
      clear B3 R3
      have kB0 := conv_row (P := Try.prog) w3.drew 22 9 5 Try.underlying22 Try.underlying5 Try.underlying9 _ _ ((RB.out.take s hsz2).under B3d.out (Nat.le_refl _))
      rw [← HBK.out] at kB0
      go_region_with (first
        | (go_at_call 12; go_loud (refine (wnum_any _ [] v _ (Row.nil_ _ _ 0) (by simp) HF2.out.1 HF2.out.2).mono ?_; rintro y w5 ⟨v5, rfl, ho5, hb5⟩; rw [List.nil_append] at ho5; obtain ⟨p5, c5, rfl⟩ := ho5.form; have k5 := conv_row (P := Try.prog) w5 22 9 5 Try.underlying22 Try.underlying5 Try.underlying9 _ _ ho5.row; have B5 := Lib.hid (B3d.out.trans (hb5.mono B3d.out.size)); have kB5 := conv_row (P := Try.prog) w5 22 9 5 Try.underlying22 Try.underlying5 Try.underlying9 _ _ ((RB.out.take s hsz2).under B5.out (Nat.le_refl _)); rw [← HBK.out] at kB5; have R5 := Lib.hid (R3d.out.below hb5); clear ho5 hb5))
        | (go_at_call 13; go_loud (refine (left_any g g0 _ 0 _ (by first | exact R3d.out | exact R5.out)).mono ?_; rintro y w6 ⟨rfl, rfl⟩; rw [HLD.out])))
      all_goals
        go_wp2_with fail
        go_ret
        exact ⟨rfl, B5.out⟩
    · have HV : Hid (numV b 0 = 0) := by show _ = _; unfold numV; rw [if_neg hE]
      have HR : Hid (numR b 0 = b) := by show _ = _; unfold numR; rw [if_neg hE]
      have hE2 : (numE b 0 != 0) = true := by simpa using hE
      have HE := Lib.hid hE
      clear hE
      go_enter Try.func3, Try.ntmps3
      go_wp2_with fail
      refine (writes_any W).mono ?_
      rintro y w0 ⟨rfl, hb0⟩
      have B0 := Lib.hid hb0
      clear hb0
      go_wp2_with fail
      refine (read_any _ b w0 (RB.out.under B0.out (Nat.le_refl _)) (by omega)).mono ?_
      rintro y w2 ⟨g, g0, rfl, hr2, hg, hg0, hb2⟩
      have B2 := Lib.hid (B0.out.trans (hb2.mono B0.out.size))
      have R2 := Lib.hid hr2
      have G := Lib.hid (Nat.le_trans B0.out.size hg)
      clear hr2 hg hg0 hb2
      go_wp2_with fail
      refine (num_any g g0 b 0 w2 R2.out ob (by omega)).mono ?_
      rintro y w3 ⟨rfl, hc3, hr3⟩
      rw [HV.out]
      rw [HR.out] at hr3
      have B3 := Lib.hid (B2.out.trans (hc3.below G.out B2.out.size))
      have R3 := Lib.hid hr3
      clear hc3 hr3
      go_wp2_with fail
      refine (err_any g g0 _ _ _ R3.out).mono ?_
      rintro y w4 ⟨rfl, rfl⟩
      go_wp2_with fail
      refine (end_any g g0 _ _ _ R3.out (by omega)).mono ?_
      rintro y w5 ⟨rfl, hc5, hr5⟩
      rw [endE_stays HE.out] at hr5 ⊢
      have B5 := Lib.hid (B3.out.trans (hc5.below G.out B3.out.size))
      have R5 := Lib.hid hr5
      clear hc5 hr5
      go_wp2_with fail
      refine (err_any g g0 _ _ _ R5.out).mono ?_
      rintro y w6 ⟨rfl, rfl⟩
      go_wp2_with fail
      go_ret
      exact ⟨rfl, B5.out⟩
  · have hg' : (100 : Int) < (b.length : Int) := by omega
    clear hg
    go_enter Try.func3, Try.ntmps3
    go_wp2_with fail
    refine (writes_any W).mono ?_
    rintro y w0 ⟨rfl, hb0⟩
    go_wp2_with fail
    go_ret
    exact ⟨rfl, hb0⟩
end Go.Proofs.Ytckbbdfmacjohab
