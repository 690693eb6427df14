/- code.Reader's End by contract. -/
import Derived.Test.YtbimbpmdiahhbaaRdr
namespace Go.Proofs.Ytbimbpmdiahhbaa
open Go.RowKit
def endE (zs : List Int) (e : Int) : Int := if zs = [] then e else orE e 41
set_option maxHeartbeats 1000000 in
theorem end_any (g g0 : Nat) (zs : List Int) (e : Int) (w : World) (hr : Rdr w g g0 zs e) (hl : zs.length ≤ 9223372036854775000) :
    Calls Try.prog 11 #[.pointer (some ⟨g, 0, none⟩)] w fun x w' => x = .returned (.int .i64 (endE zs e)) ∧ Chg g w w' ∧ Rdr w' g g0 zs (endE zs e) := by
  obtain ⟨v, hb, hrow, _⟩ := id hr
  obtain ⟨p, c, rfl⟩ := hrow.shape
  have hc0 : w.cell? ⟨g, 0, none⟩ = some (.slice p zs.length c) := hb.cell 0
  have HR := Lib.hid hr
  have HB := Lib.hid hb
  clear hb hrow hr
  by_cases hz : zs = []
  · have HE : Hid (endE zs e = e) := by show _ = _; unfold endE; rw [if_pos hz]
    have hz2 : zs.length = 0 := by rw [hz]; rfl
    rw [hz2] at hc0
    have hc1 : w.cell? ⟨g, 1, none⟩ = some (.int .i64 e) := HB.out.cell 1
    clear hz hz2
    go_enter Try.func11, Try.ntmps11
    go_wp2_with fail
    go_ret
    exact ⟨by rw [HE.out]; rfl, Chg.refl _ _, by rw [HE.out]; exact HR.out⟩
  · have HE : Hid (orE e 41 = endE zs e) := by show _ = _; unfold endE; rw [if_neg hz]
    have hz2 : 0 < zs.length := by
      rcases Nat.eq_zero_or_pos zs.length with h | h
      · exact absurd (List.length_eq_zero_iff.mp h) hz
      · exact h
    have hz3 : (0 : Int) < (zs.length : Int) := by omega
    clear hz
    go_enter Try.func11, Try.ntmps11
    go_wp2_with fail
    refine (fails_any g g0 _ _ 41 _ HR.out).mono ?_
    rintro y w2 ⟨rfl, hc2, hr2⟩
    rw [HE.out] at hr2
    obtain ⟨v2, hb2, _⟩ := id hr2
    have hcc : w2.cell? ⟨g, 1, none⟩ = some (.int .i64 (endE zs e)) := hb2.cell 1
    have HC2 := Lib.hid hc2
    have HR2 := Lib.hid hr2
    clear hc2 hr2 hb2
    go_wp2_with fail
    go_ret
    exact ⟨rfl, HC2.out, HR2.out⟩
end Go.Proofs.Ytbimbpmdiahhbaa
