/- code.Reader's methods by contract. -/
import Derived.Test.YtbimbpmdiahhbaaTakeA
import Derived.Test.YtbimbpmdiahhbaaNumber
import Derived.Test.YtbimbpmdiahhbaaElt
namespace Go.Proofs.Ytbimbpmdiahhbaa
open Go.RowKit
def numE (zs : List Int) (e : Int) : Int := if e = 0 then (readL (natsOf zs)).2.2 else e
def numV (zs : List Int) (e : Int) : Int := if numE zs e = 0 then (readL (natsOf zs)).1 else 0
def numR (zs : List Int) (e : Int) : List Int := if numE zs e = 0 then zs.drop (readL (natsOf zs)).2.1 else zs
theorem orE_num (zs : List Int) (e : Int) : orE e (readL (natsOf zs)).2.2 = numE zs e := rfl
theorem numR_oct {zs : List Int} {e : Int} (h : Oct zs) : Oct (numR zs e) := by
  unfold numR
  split
  · exact h.drop _
  · exact h
theorem numR_len (zs : List Int) (e : Int) : (numR zs e).length ≤ zs.length := by unfold numR; split <;> simp
theorem numV_fits (zs : List Int) (e : Int) : -9223372036854775808 ≤ numV zs e ∧ numV zs e ≤ 9223372036854775807 := by
  unfold numV
  split
  · exact readP_fits _ 0 0 (by decide) (by decide)
  · decide
theorem numE_bad {zs : List Int} {e : Int} (h : e ≠ 0) : numE zs e = e := if_neg h
set_option maxHeartbeats 2000000 in
theorem num_any (g g0 : Nat) (zs : List Int) (e : Int) (w : World) (hr : Rdr w g g0 zs e) (h8 : Oct zs) (hl : zs.length ≤ 9223372036854775000) :
    Calls Try.prog 23 #[.pointer (some ⟨g, 0, none⟩)] w fun x w' => x = .returned (.int .i64 (numV zs e)) ∧ Chg g w w' ∧ Rdr w' g g0 (numR zs e) (numE zs e) := by
  obtain ⟨v, hb, hrow, hne⟩ := id hr
  obtain ⟨p, c, rfl⟩ := hrow.shape
  have hc0 : w.cell? ⟨g, 0, none⟩ = some (.slice p zs.length c) := hb.cell 0
  have HR := Lib.hid hr
  have HROW := Lib.hid hrow.row
  have hsz := (readP_size (natsOf zs) 0 0).1
  rw [natsOf_length, Nat.zero_add] at hsz
  have HSZ : Hid ((readL (natsOf zs)).2.1 ≤ zs.length) := hsz
  clear hb hrow hne hr hsz
  by_cases hE : numE zs e = 0
  · have HV : Hid (numV zs e = (readL (natsOf zs)).1) := by show _ = _; unfold numV; rw [if_pos hE]
    have HRR : Hid (numR zs e = zs.drop (readL (natsOf zs)).2.1) := by show _ = _; unfold numR; rw [if_pos hE]
    have HE := Lib.hid hE
    have HEB := Lib.hid (errB_no hE)
    clear hE
    go_enter Try.func23, Try.ntmps23
    go_wp2_with fail
    refine (number_any _ zs w h8 HROW.out hl).mono ?_
    rintro x w0 ⟨rfl, rfl⟩
    have HOR := Lib.hid (orE_num zs e)
    generalize hq : (readL (natsOf zs)).2.2 = q at *
    generalize hn : (readL (natsOf zs)).1 = nn at *
    generalize hm : (readL (natsOf zs)).2.1 = m at *
    clear hq hn hm
    go_wp2_with fail
    refine (fails_any g g0 zs e q w HR.out).mono ?_
    rintro x w1 ⟨rfl, hc, hr1⟩
    rw [HOR.out, HE.out] at hr1
    rw [HOR.out, HEB.out]
    have HC := Lib.hid hc
    obtain ⟨v1, hb1, hrow1, hne1⟩ := id hr1
    obtain ⟨p1, c1, rfl⟩ := hrow1.shape
    have hcap1 : zs.length ≤ c1 := by obtain ⟨_, _, e0, hcap, _⟩ := id hrow1; cases e0; exact hcap
    have hc1 : w1.cell? ⟨g, 0, none⟩ = some (.slice p1 zs.length c1) := hb1.cell 0
    have hf1 := hb1.free 0
    have hl1 := hb1.lt
    have hn := HSZ.out
    have HB1 := Lib.hid hb1
    have HROW1 := Lib.hid hrow1
    have HNE := Lib.hid hne1
    clear hc hr1 hb1 hrow1 hne1
    go_wp2_with fail
    · go_ret
      obtain rfl : c1 = m := by assumption
      have hd := HROW1.out.drop c1 HSZ.out
      unfold dropP at hd
      rw [if_pos rfl] at hd
      refine ⟨ret_i64e HV.out.symm, HC.out.trans ((Chg.refl g w1).set 0 _), ?_⟩
      rw [HE.out, HRR.out]
      first
      | exact ⟨_, HB1.out.set 0 _, hd.chg ((Chg.refl g w1).set 0 _) HNE.out, HNE.out⟩
      | rw [Nat.sub_self] at hd
        exact ⟨_, HB1.out.set 0 _, hd.chg ((Chg.refl g w1).set 0 _) HNE.out, HNE.out⟩
    · go_ret
      have hne : ¬ c1 = m := by assumption
      have hd := HROW1.out.drop m HSZ.out
      unfold dropP at hd
      rw [if_neg hne] at hd
      refine ⟨ret_i64e HV.out.symm, HC.out.trans ((Chg.refl g w1).set 0 _), ?_⟩
      rw [HE.out, HRR.out]
      exact ⟨_, HB1.out.set 0 _, hd.chg ((Chg.refl g w1).set 0 _) HNE.out, HNE.out⟩
  · have HV : Hid (numV zs e = 0) := by show _ = _; unfold numV; rw [if_neg hE]
    have HRR : Hid (numR zs e = zs) := by show _ = _; unfold numR; rw [if_neg hE]
    have HEB := Lib.hid (errB_yes hE)
    clear hE
    go_enter Try.func23, Try.ntmps23
    go_wp2_with fail
    refine (number_any _ zs w h8 HROW.out hl).mono ?_
    rintro x w0 ⟨rfl, rfl⟩
    have HOR := Lib.hid (orE_num zs e)
    generalize hq : (readL (natsOf zs)).2.2 = q at *
    generalize hn : (readL (natsOf zs)).1 = nn at *
    generalize hm : (readL (natsOf zs)).2.1 = m at *
    clear hq hn hm
    go_wp2_with fail
    refine (fails_any g g0 zs e q w HR.out).mono ?_
    rintro x w1 ⟨rfl, hc, hr1⟩
    rw [HOR.out] at hr1
    rw [HOR.out, HEB.out]
    have HC := Lib.hid hc
    have HR1 := Lib.hid hr1
    clear hc hr1
    go_wp2_with fail
    go_ret
    exact ⟨ret_i64e HV.out.symm, HC.out, by rw [HRR.out]; exact HR1.out⟩
end Go.Proofs.Ytbimbpmdiahhbaa
