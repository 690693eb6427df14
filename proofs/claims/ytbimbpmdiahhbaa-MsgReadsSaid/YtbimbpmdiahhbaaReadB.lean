/- code.Reader: Bool by contract. -/
import Derived.Test.YtbimbpmdiahhbaaReadI
import Derived.Test.YtbimbpmdiahhbaaTake
namespace Go.Proofs.Ytbimbpmdiahhbaa
open Go.RowKit
def boolE (zs : List Int) (e : Int) : Int := if takeE zs e 1 = 0 then (if 1 < zs.getD 0 0 then 41 else 0) else takeE zs e 1
def boolV (zs : List Int) (e : Int) : Bool := if takeE zs e 1 = 0 then decide (zs.getD 0 0 = 1) else false
def boolR (zs : List Int) (e : Int) : List Int := if takeE zs e 1 = 0 then zs.drop 1 else zs
theorem takeE_good {zs : List Int} {e : Int} {n : Nat} (h : takeE zs e n = 0) : e = 0 ∧ n ≤ zs.length := by
  unfold takeE at h
  by_cases he : e = 0
  · refine ⟨he, ?_⟩
    by_cases hl : zs.length < n
    · simp [he, hl] at h
    · omega
  · simp [he] at h
theorem ret_b1 (x : Int) : Ending.returned (.bool (x == 1)) = .returned (.bool (decide (x = 1))) := by congr 2
set_option maxHeartbeats 1000000 in
theorem bool_any (g g0 : Nat) (zs : List Int) (e : Int) (w : World) (hr : Rdr w g g0 zs e) (h8 : Oct zs) (hl : zs.length ≤ 9223372036854775000) :
    Calls Try.prog 24 #[.pointer (some ⟨g, 0, none⟩)] w fun x w' => x = .returned (.bool (boolV zs e)) ∧ Chg g w w' ∧ Rdr w' g g0 (boolR zs e) (boolE zs e) := by
  have HR := Lib.hid hr
  clear hr
  by_cases hE : takeE zs e 1 = 0
  · have HV : Hid (boolV zs e = decide (zs.getD 0 0 = 1)) := by show _ = _; unfold boolV; rw [if_pos hE]
    have HRR : Hid (boolR zs e = zs.drop 1) := by show _ = _; unfold boolR; rw [if_pos hE]
    have HEE : Hid (boolE zs e = if 1 < zs.getD 0 0 then 41 else 0) := by show _ = _; unfold boolE; rw [if_pos hE]
    obtain ⟨rfl, h1⟩ := takeE_good hE
    have ho := h8.getD 0
    have hgl : (zs.take 1).length = 1 := by rw [List.length_take]; omega
    have hgd : (zs.take 1).getD 0 0 = zs.getD 0 0 := by
      rw [List.getD_eq_getElem?_getD, List.getD_eq_getElem?_getD, List.getElem?_take, if_pos (by decide)]
    have HH1 := Lib.hid h1
    have HGL := Lib.hid hgl
    have HGD := Lib.hid hgd
    clear hE h1 hgl hgd
    generalize hx : zs.getD 0 0 = x at *
    clear hx
    go_enter Try.func24, Try.ntmps24
    go_wp2_with fail
    refine (take_ok g g0 zs 1 w HR.out HH1.out hl).mono ?_
    rintro y w1 ⟨v, rfl, hat, hc1, hr1⟩
    obtain ⟨p, c, rfl, hcap, hcell⟩ := hat
    rw [HGL.out] at hcell hcap ⊢
    have hcell2 : ∃ o, p = some ⟨g0, o, none⟩ ∧ w1.cell? ⟨g0, o, none⟩ = some (.int .u8 x) := by
      rcases hcell with h | ⟨o, hp, h⟩
      · have := HGL.out; rw [h] at this; simp at this
      · exact ⟨o, hp, by have := h 0 (by omega); rw [HGD.out] at this; exact this⟩
    obtain ⟨o, rfl, hcx⟩ := hcell2
    have hg0 : g0 ≠ g := by obtain ⟨_, _, _, h⟩ := hr1; exact h
    have hlt0 := World.block_lt_of_cell? w1 _ hcx
    have HC1 := Lib.hid hc1
    have HR1 := Lib.hid hr1
    have HG0 := Lib.hid hg0
    have HCX := Lib.hid hcx
    clear hcell hcap hc1 hr1 hg0
    by_cases hb : 1 < x
    · have HB : Hid (boolE zs 0 = 41) := by show _ = _; rw [HEE.out, if_pos hb]
      go_wp2_with (go_at_call 26; refine (fails_any g g0 _ _ 41 _ HR1.out).mono ?_; rintro y w2 ⟨rfl, hc2, hr2⟩; have hcx2 := (hc2.cell (a := ⟨g0, o, none⟩) hlt0 HG0.out).trans HCX.out; have HC2 := Lib.hid hc2; have HR2 := Lib.hid hr2; clear hc2 hr2)
      go_ret
      exact ⟨by rw [HV.out]; exact ret_b1 x, HC1.out.trans HC2.out, by rw [HRR.out, HB.out]; exact HR2.out⟩
    · have HB : Hid (boolE zs 0 = 0) := by show _ = _; rw [HEE.out, if_neg hb]
      have hb' : x ≤ 1 := by omega
      clear hb
      go_wp2_with fail
      go_ret
      exact ⟨by rw [HV.out]; exact ret_b1 x, HC1.out, by rw [HRR.out, HB.out]; exact HR1.out⟩
  · have HV : Hid (boolV zs e = false) := by show _ = _; unfold boolV; rw [if_neg hE]
    have HRR : Hid (boolR zs e = zs) := by show _ = _; unfold boolR; rw [if_neg hE]
    have HEE : Hid (boolE zs e = takeE zs e 1) := by show _ = _; unfold boolE; rw [if_neg hE]
    have HE := Lib.hid hE
    clear hE
    go_enter Try.func24, Try.ntmps24
    go_wp2_with fail
    refine (take_bad g g0 zs e 1 w HR.out HE.out).mono ?_
    rintro y w1 ⟨rfl, hc1, hr1⟩
    have HC1 := Lib.hid hc1
    have HR1 := Lib.hid hr1
    clear hc1 hr1
    go_wp2_with fail
    go_ret
    exact ⟨by rw [HV.out]; rfl, HC1.out, by rw [HRR.out, HEE.out]; exact HR1.out⟩
end Go.Proofs.Ytbimbpmdiahhbaa
