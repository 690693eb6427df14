/- code.Reader: Bool, Bytes, End by contract. -/
import Derived.Test.YtngelpjibgiifaaRead2
namespace Go.Proofs.Ytngelpjibgiifaa
open Go.RowKit
def boolE (zs : List Int) (e : Int) : Int := if takeE zs e 1 = 0 then (if 1 < zs.getD 0 0 then 41 else 0) else takeE zs e 1
def boolV (zs : List Int) (e : Int) : Bool := if takeE zs e 1 = 0 then decide (zs.getD 0 0 = 1) else false
def boolR (zs : List Int) (e : Int) : List Int := if takeE zs e 1 = 0 then zs.drop 1 else zs
theorem takeE_good {zs : List Int} {e : Int} {n : Nat} (h : takeE zs e n = 0) : e = 0 ∧ n ≤ zs.length := by
  unfold takeE at h
  by_cases he : e = 0
  · refine ⟨he, ?_⟩
    by_cases hl : zs.length < n
    · simp [he, hl] at h
    · omega
  · simp [he] at h
theorem ret_b1 (x : Int) : Ending.returned (.bool (x == 1)) = .returned (.bool (decide (x = 1))) := by congr 2
set_option maxHeartbeats 1000000 in
theorem bool_any (g g0 : Nat) (zs : List Int) (e : Int) (w : World) (hr : Rdr w g g0 zs e) (h8 : Oct zs) (hl : zs.length ≤ 9223372036854775000) :
    Calls Try.prog 18 #[.pointer (some ⟨g, 0, none⟩)] w fun x w' => x = .returned (.bool (boolV zs e)) ∧ Chg g w w' ∧ Rdr w' g g0 (boolR zs e) (boolE zs e) := by
  have HR := Lib.hid hr
  clear hr
  by_cases hE : takeE zs e 1 = 0
  · have HV : Hid (boolV zs e = decide (zs.getD 0 0 = 1)) := by show _ = _; unfold boolV; rw [if_pos hE]
    have HRR : Hid (boolR zs e = zs.drop 1) := by show _ = _; unfold boolR; rw [if_pos hE]
    have HEE : Hid (boolE zs e = if 1 < zs.getD 0 0 then 41 else 0) := by show _ = _; unfold boolE; rw [if_pos hE]
    obtain ⟨rfl, h1⟩ := takeE_good hE
    have ho := h8.getD 0
    have hgl : (zs.take 1).length = 1 := by rw [List.length_take]; omega
    have hgd : (zs.take 1).getD 0 0 = zs.getD 0 0 := by
      rw [List.getD_eq_getElem?_getD, List.getD_eq_getElem?_getD, List.getElem?_take, if_pos (by decide)]
    have HH1 := Lib.hid h1
    have HGL := Lib.hid hgl
    have HGD := Lib.hid hgd
    clear hE h1 hgl hgd
    generalize hx : zs.getD 0 0 = x at *
    clear hx
    go_enter Try.func18, Try.ntmps18
    go_wp2_with fail
    refine (take_ok g g0 zs 1 w HR.out HH1.out hl).mono ?_
    rintro y w1 ⟨v, rfl, hat, hc1, hr1⟩
    obtain ⟨p, c, rfl, hcap, hcell⟩ := hat
    rw [HGL.out] at hcell hcap ⊢
    have hcell2 : ∃ o, p = some ⟨g0, o, none⟩ ∧ w1.cell? ⟨g0, o, none⟩ = some (.int .u8 x) := by
      rcases hcell with h | ⟨o, hp, h⟩
      · have := HGL.out; rw [h] at this; simp at this
      · exact ⟨o, hp, by have := h 0 (by omega); rw [HGD.out] at this; exact this⟩
    obtain ⟨o, rfl, hcx⟩ := hcell2
    have hg0 : g0 ≠ g := by obtain ⟨_, _, _, h⟩ := hr1; exact h
    have hlt0 := World.block_lt_of_cell? w1 _ hcx
    have HC1 := Lib.hid hc1
    have HR1 := Lib.hid hr1
    have HG0 := Lib.hid hg0
    have HCX := Lib.hid hcx
    clear hcell hcap hc1 hr1 hg0
    by_cases hb : 1 < x
    · have HB : Hid (boolE zs 0 = 41) := by show _ = _; rw [HEE.out, if_pos hb]
      go_wp2_with (go_at_call 37; refine (fails_any g g0 _ _ 41 _ HR1.out).mono ?_; rintro y w2 ⟨rfl, hc2, hr2⟩; have hcx2 := (hc2.cell (a := ⟨g0, o, none⟩) hlt0 HG0.out).trans HCX.out; have HC2 := Lib.hid hc2; have HR2 := Lib.hid hr2; clear hc2 hr2)
      go_ret
      exact ⟨by rw [HV.out]; exact ret_b1 x, HC1.out.trans HC2.out, by rw [HRR.out, HB.out]; exact HR2.out⟩
    · have HB : Hid (boolE zs 0 = 0) := by show _ = _; rw [HEE.out, if_neg hb]
      have hb' : x ≤ 1 := by omega
      clear hb
      go_wp2_with fail
      go_ret
      exact ⟨by rw [HV.out]; exact ret_b1 x, HC1.out, by rw [HRR.out, HB.out]; exact HR1.out⟩
  · have HV : Hid (boolV zs e = false) := by show _ = _; unfold boolV; rw [if_neg hE]
    have HRR : Hid (boolR zs e = zs) := by show _ = _; unfold boolR; rw [if_neg hE]
    have HEE : Hid (boolE zs e = takeE zs e 1) := by show _ = _; unfold boolE; rw [if_neg hE]
    have HE := Lib.hid hE
    clear hE
    go_enter Try.func18, Try.ntmps18
    go_wp2_with fail
    refine (take_bad g g0 zs e 1 w HR.out HE.out).mono ?_
    rintro y w1 ⟨rfl, hc1, hr1⟩
    have HC1 := Lib.hid hc1
    have HR1 := Lib.hid hr1
    clear hc1 hr1
    go_wp2_with fail
    go_ret
    exact ⟨by rw [HV.out]; rfl, HC1.out, by rw [HRR.out, HEE.out]; exact HR1.out⟩
def endE (zs : List Int) (e : Int) : Int := if zs = [] then e else orE e 41
set_option maxHeartbeats 1000000 in
theorem end_any (g g0 : Nat) (zs : List Int) (e : Int) (w : World) (hr : Rdr w g g0 zs e) (hl : zs.length ≤ 9223372036854775000) :
    Calls Try.prog 24 #[.pointer (some ⟨g, 0, none⟩)] w fun x w' => x = .returned (.int .i64 (endE zs e)) ∧ Chg g w w' ∧ Rdr w' g g0 zs (endE zs e) := by
  obtain ⟨v, hb, hrow, _⟩ := id hr
  obtain ⟨p, c, rfl⟩ := hrow.shape
  have hc0 : w.cell? ⟨g, 0, none⟩ = some (.slice p zs.length c) := hb.cell 0
  have HR := Lib.hid hr
  have HB := Lib.hid hb
  clear hb hrow hr
  by_cases hz : zs = []
  · have HE : Hid (endE zs e = e) := by show _ = _; unfold endE; rw [if_pos hz]
    have hz2 : zs.length = 0 := by rw [hz]; rfl
    rw [hz2] at hc0
    have hc1 : w.cell? ⟨g, 1, none⟩ = some (.int .i64 e) := HB.out.cell 1
    clear hz hz2
    go_enter Try.func24, Try.ntmps24
    go_wp2_with fail
    go_ret
    exact ⟨by rw [HE.out]; rfl, Chg.refl _ _, by rw [HE.out]; exact HR.out⟩
  · have HE : Hid (orE e 41 = endE zs e) := by show _ = _; unfold endE; rw [if_neg hz]
    have hz2 : 0 < zs.length := by
      rcases Nat.eq_zero_or_pos zs.length with h | h
      · exact absurd (List.length_eq_zero_iff.mp h) hz
      · exact h
    have hz3 : (0 : Int) < (zs.length : Int) := by omega
    clear hz
    go_enter Try.func24, Try.ntmps24
    go_wp2_with fail
    refine (fails_any g g0 _ _ 41 _ HR.out).mono ?_
    rintro y w2 ⟨rfl, hc2, hr2⟩
    rw [HE.out] at hr2
    obtain ⟨v2, hb2, _⟩ := id hr2
    have hcc : w2.cell? ⟨g, 1, none⟩ = some (.int .i64 (endE zs e)) := hb2.cell 1
    have HC2 := Lib.hid hc2
    have HR2 := Lib.hid hr2
    clear hc2 hr2 hb2
    go_wp2_with fail
    go_ret
    exact ⟨rfl, HC2.out, HR2.out⟩
/-- Bytes: how many; what; what is left; the error. -/
def bytesN (zs : List Int) (e : Int) : Nat := (intV zs e 0 16384).toNat
def bytesE (zs : List Int) (e : Int) : Int := takeE (numR zs e) (intE zs e 0 16384) (bytesN zs e)
def bytesV (zs : List Int) (e : Int) : List Int := if bytesE zs e = 0 then (numR zs e).take (bytesN zs e) else []
def bytesR (zs : List Int) (e : Int) : List Int := if bytesE zs e = 0 then (numR zs e).drop (bytesN zs e) else numR zs e
theorem intV_nat (zs : List Int) (e : Int) : intV zs e 0 16384 = (bytesN zs e : Nat) ∧ bytesN zs e ≤ 16384 := by
  unfold bytesN intV outB
  split
  · simp
  · rename_i h; simp at h; omega
theorem own_base {k : IntKind} {w : World} {base base' : Nat} {e : TypeId} {v : Value} {zs : List Int} (h : Own k w base e v zs) (hb : base' ≤ base) : Own k w base' e v zs := by
  refine ⟨h.1, ?_⟩
  rcases h.2 with h | ⟨g, cap, cur, hv, hbg, hr⟩
  · exact .inl h
  · exact .inr ⟨g, cap, cur, hv, by omega, hr⟩
set_option maxHeartbeats 1000000 in
theorem bytes_any (g g0 : Nat) (zs : List Int) (e : Int) (w : World) (hr : Rdr w g g0 zs e) (h8 : Oct zs) (hl : zs.length ≤ 9223372036854775000) :
    Calls Try.prog 20 #[.pointer (some ⟨g, 0, none⟩)] w fun x w' => ∃ v, x = .returned v ∧ Own .u8 w' w.heap.size 5 v (bytesV zs e) ∧ Chg g w w' ∧ Rdr w' g g0 (bytesR zs e) (bytesE zs e) := by
  have HR := Lib.hid hr
  clear hr
  obtain ⟨hn, hn2⟩ := intV_nat zs e
  have HN := Lib.hid hn
  have HN2 := Lib.hid hn2
  have HLR := Lib.hid (numR_len zs e)
  clear hn hn2
  by_cases hE : bytesE zs e = 0
  · have HV : Hid (bytesV zs e = (numR zs e).take (bytesN zs e)) := by show _ = _; unfold bytesV; rw [if_pos hE]
    have HRR : Hid (bytesR zs e = (numR zs e).drop (bytesN zs e)) := by show _ = _; unfold bytesR; rw [if_pos hE]
    have HE := Lib.hid hE
    obtain ⟨hi, hle⟩ := takeE_good (show takeE (numR zs e) (intE zs e 0 16384) (bytesN zs e) = 0 from hE)
    have HI := Lib.hid hi
    have HLE := Lib.hid hle
    clear hE hi hle
    go_enter Try.func20, Try.ntmps20
    go_wp2_with fail
    refine (int_any g g0 zs e 0 16384 w HR.out h8 hl).mono ?_
    rintro y w1 ⟨rfl, hc1, hr1⟩
    rw [HN.out]
    rw [HI.out] at hr1
    have HC1 := Lib.hid hc1
    have HR1 := Lib.hid hr1
    clear hc1 hr1
    go_wp2_with fail
    refine (take_ok g g0 _ (bytesN zs e) w1 HR1.out HLE.out (by have := HLR.out; omega)).mono ?_
    rintro y w2 ⟨v2, rfl, hat, hc2, hr2⟩
    have HC2 := Lib.hid hc2
    have HR2 := Lib.hid hr2
    have HAT := Lib.hid hat.row
    clear hc2 hr2 hat
    go_wp2_with fail
    refine (clone_any v2 _ w2 HAT.out (by have := HN2.out; rw [List.length_take]; omega)).mono ?_
    rintro y w3 ⟨v3, rfl, ho, hb⟩
    have HO := Lib.hid ho
    have HB := Lib.hid hb
    clear ho hb
    go_wp2_with fail
    go_ret
    refine ⟨_, rfl, ?_, (HC1.out.trans HC2.out).trans (Chg.of_below HB.out), ?_⟩
    · rw [HV.out]
      exact own_base HO.out (HC1.out.trans HC2.out).size
    · rw [HRR.out, HE.out]
      exact HR2.out.below HB.out
  · have HV : Hid (bytesV zs e = []) := by show _ = _; unfold bytesV; rw [if_neg hE]
    have HRR : Hid (bytesR zs e = numR zs e) := by show _ = _; unfold bytesR; rw [if_neg hE]
    have HE := Lib.hid (show takeE (numR zs e) (intE zs e 0 16384) (bytesN zs e) ≠ 0 from hE)
    clear hE
    go_enter Try.func20, Try.ntmps20
    go_wp2_with fail
    refine (int_any g g0 zs e 0 16384 w HR.out h8 hl).mono ?_
    rintro y w1 ⟨rfl, hc1, hr1⟩
    rw [HN.out]
    have HC1 := Lib.hid hc1
    have HR1 := Lib.hid hr1
    clear hc1 hr1
    go_wp2_with fail
    refine (take_bad g g0 _ _ (bytesN zs e) w1 HR1.out HE.out).mono ?_
    rintro y w2 ⟨rfl, hc2, hr2⟩
    have HC2 := Lib.hid hc2
    have HR2 := Lib.hid hr2
    clear hc2 hr2
    go_wp2_with fail
    refine (clone_any _ [] w2 (Row.nil_ _ _ 0) (by simp)).mono ?_
    rintro y w3 ⟨v3, rfl, ho, hb⟩
    have HO := Lib.hid ho
    have HB := Lib.hid hb
    clear ho hb
    go_wp2_with fail
    go_ret
    refine ⟨_, rfl, ?_, (HC1.out.trans HC2.out).trans (Chg.of_below HB.out), ?_⟩
    · rw [HV.out]
      exact own_base HO.out (HC1.out.trans HC2.out).size
    · rw [HRR.out]
      exact HR2.out.below HB.out
end Go.Proofs.Ytngelpjibgiifaa
