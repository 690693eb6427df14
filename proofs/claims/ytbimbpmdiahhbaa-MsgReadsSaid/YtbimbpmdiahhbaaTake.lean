/- code.Reader.take: so many bytes. -/
import Derived.Test.YtbimbpmdiahhbaaTakeA
namespace Go.Proofs.Ytbimbpmdiahhbaa
open Go.RowKit
set_option maxHeartbeats 1000000 in
theorem take_bad (g g0 : Nat) (zs : List Int) (e : Int) (n : Nat) (w : World) (hr : Rdr w g g0 zs e) (hbad : takeE zs e n ≠ 0) :
    Calls Try.prog 39 #[.pointer (some ⟨g, 0, none⟩), .int .i64 n] w fun x w' => x = .returned (.slice none 0 0) ∧ Chg g w w' ∧ Rdr w' g g0 zs (takeE zs e n) := by
  obtain ⟨v, hb, hrow, hne⟩ := id hr
  obtain ⟨p, c, rfl⟩ := hrow.shape
  have hc0 : w.cell? ⟨g, 0, none⟩ = some (.slice p zs.length c) := hb.cell 0
  have HR := Lib.hid hr
  clear hb hrow hne hr
  by_cases hgt : zs.length < n
  · have hgt' : (zs.length : Int) < (n : Int) := by omega
    have HT := Lib.hid (takeE_or1 (e := e) hgt)
    have HB := Lib.hid (errB_yes hbad)
    clear hbad hgt
    go_enter Try.func39, Try.ntmps39
    go_wp2_with fail
    refine (fails_any g g0 zs e 40 w HR.out).mono ?_
    rintro x w1 ⟨rfl, hc, hr1⟩
    rw [HT.out] at hr1 ⊢
    rw [HB.out]
    have HC := Lib.hid hc
    have HR1 := Lib.hid hr1
    clear hc hr1
    go_wp2_with fail
    go_ret
    exact ⟨rfl, HC.out, HR1.out⟩
  · have hgt' : (n : Int) ≤ (zs.length : Int) := by omega
    have HT := Lib.hid (takeE_or0 (e := e) hgt)
    have HB := Lib.hid (errB_yes hbad)
    clear hbad hgt
    go_enter Try.func39, Try.ntmps39
    go_wp2_with fail
    refine (fails_any g g0 zs e 0 w HR.out).mono ?_
    rintro x w1 ⟨rfl, hc, hr1⟩
    rw [HT.out] at hr1 ⊢
    rw [HB.out]
    have HC := Lib.hid hc
    have HR1 := Lib.hid hr1
    clear hc hr1
    go_wp2_with fail
    go_ret
    exact ⟨rfl, HC.out, HR1.out⟩
set_option maxHeartbeats 1000000 in
theorem take_ok (g g0 : Nat) (zs : List Int) (n : Nat) (w : World) (hr : Rdr w g g0 zs 0) (hn : n ≤ zs.length) (_hl : zs.length ≤ 9223372036854775000) :
    Calls Try.prog 39 #[.pointer (some ⟨g, 0, none⟩), .int .i64 n] w fun x w' => ∃ v, x = .returned v ∧ RowAt .u8 w' g0 v (zs.take n) ∧ Chg g w w' ∧ Rdr w' g g0 (zs.drop n) 0 := by
  obtain ⟨v, hb, hrow, hne⟩ := id hr
  obtain ⟨p, c, rfl⟩ := hrow.shape
  have hc0 : w.cell? ⟨g, 0, none⟩ = some (.slice p zs.length c) := hb.cell 0
  have hcap : zs.length ≤ c := by obtain ⟨_, _, e0, hcap, _⟩ := id hrow; cases e0; exact hcap
  have HR := Lib.hid hr
  clear hb hrow hne hr
  have hgt' : (n : Int) ≤ (zs.length : Int) := by omega
  go_enter Try.func39, Try.ntmps39
  go_wp2_with fail
  refine (fails_any g g0 zs 0 0 w HR.out).mono ?_
  rintro x w1 ⟨rfl, hc, hr1⟩
  rw [show errB (orE 0 0) = false from rfl]
  rw [show orE 0 0 = 0 from rfl] at hr1
  have HC := Lib.hid hc
  have HR1 := Lib.hid hr1
  obtain ⟨v1, hb1, hrow1, hne1⟩ := id hr1
  obtain ⟨p1, c1, rfl⟩ := hrow1.shape
  have hcap1 : zs.length ≤ c1 := by obtain ⟨_, _, e0, hcap, _⟩ := id hrow1; cases e0; exact hcap
  have hc1 : w1.cell? ⟨g, 0, none⟩ = some (.slice p1 zs.length c1) := hb1.cell 0
  have hf1 := hb1.free 0
  have hl1 := hb1.lt
  have HB1 := Lib.hid hb1
  have HROW1 := Lib.hid hrow1
  have HNE := Lib.hid hne1
  clear hc hr1 hb1 hrow1 hne1
  have HN := Lib.hid hn
  go_wp2_with fail
  · go_ret
    obtain rfl : c1 = n := by assumption
    have ht := HROW1.out.take c1 HN.out
    have hd := HROW1.out.drop c1 HN.out
    unfold dropP at hd
    rw [if_pos rfl] at hd
    first
    | exact ⟨_, rfl, ht.chg ((Chg.refl g w1).set 0 _) HNE.out, HC.out.trans ((Chg.refl g w1).set 0 _), _, HB1.out.set 0 _, hd.chg ((Chg.refl g w1).set 0 _) HNE.out, HNE.out⟩
    | rw [Nat.sub_self] at hd
      exact ⟨_, rfl, ht.chg ((Chg.refl g w1).set 0 _) HNE.out, HC.out.trans ((Chg.refl g w1).set 0 _), _, HB1.out.set 0 _, hd.chg ((Chg.refl g w1).set 0 _) HNE.out, HNE.out⟩
  · go_ret
    have hne : ¬ c1 = n := by assumption
    have ht := HROW1.out.take n HN.out
    have hd := HROW1.out.drop n HN.out
    unfold dropP at hd
    rw [if_neg hne] at hd
    exact ⟨_, rfl, ht.chg ((Chg.refl g w1).set 0 _) HNE.out, HC.out.trans ((Chg.refl g w1).set 0 _), _, HB1.out.set 0 _, hd.chg ((Chg.refl g w1).set 0 _) HNE.out, HNE.out⟩
end Go.Proofs.Ytbimbpmdiahhbaa
