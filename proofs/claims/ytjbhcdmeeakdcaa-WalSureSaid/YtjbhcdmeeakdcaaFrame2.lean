/- frame.Read and frame.Append by contract. -/
import Derived.Test.YtjbhcdmeeakdcaaFrame
namespace Go.Proofs.Ytjbhcdmeeakdcaa
open Go.RowKit
set_option maxHeartbeats 2000000 in
theorem fread_any (b : Value) (zs : List Int) (ho : Oct zs) (hl : zs.length ≤ 140737488354000) (w : World) (hrow : Row .u8 w b zs) :
    Calls Try.prog 53 #[b] w fun x w' => ∃ v, x = .returned (.tuple #[v, .int .i64 (frN zs), .int .i64 (frE zs)]) ∧ Own .u8 w' w.heap.size 5 v (frD zs) ∧ Below w.heap.size w w' := by
  have HF := Lib.hid (first_any b zs ho hl w hrow)
  obtain ⟨p, c, rfl⟩ := hrow.shape
  by_cases hE : frE zs = 0
  · have hk := frE_ok ho hE
    have HN : Hid (frN zs = 8 + ((frD zs).length : Int)) := by show _ = _; omega
    have HL : Hid ((frD zs).length ≤ 16384) := by show _ ≤ _; omega
    have HE := Lib.hid hE
    rw [HE.out, HN.out]
    rw [HE.out] at HF
    generalize frD zs = d at *
    clear hk hE hrow
    go_enter Try.func53, Try.ntmps53
    go_wp2_with fail
    refine HF.out.mono ?_
    rintro y w1 ⟨v1, rfl, hr1, hb1⟩
    have HR1 := Lib.hid (hr1 (by simp))
    obtain ⟨p1, c1, rfl⟩ := HR1.out.shape
    have B1 := Lib.hid hb1
    have HLZ := HL.out
    clear hr1 hb1
    go_wp2_with fail
    refine (clone_any _ d w1 HR1.out (by omega)).mono ?_
    rintro y w2 ⟨v2, rfl, ho2, hb2⟩
    have O2 := Lib.hid ho2
    have B2 := Lib.hid hb2
    clear ho2 hb2
    go_wp2_with fail
    go_ret3
    exact ⟨_, rfl, own_down O2.out B1.out.size, B1.out.trans (B2.out.mono B1.out.size)⟩
  · have HN : Hid (frN zs = 0) := by show _ = _; unfold frN; rw [if_neg hE]
    have HD : Hid (frD zs = []) := by show _ = _; unfold frD; rw [if_neg hE]
    have hE' : (frE zs != 0) = true := by simpa using hE
    rw [HN.out, HD.out]
    generalize frE zs = e at *
    clear hE hrow
    go_enter Try.func53, Try.ntmps53
    go_wp2_with fail
    refine HF.out.mono ?_
    rintro y w1 ⟨v1, rfl, _, hb1⟩
    have B1 := Lib.hid hb1
    clear hb1
    go_wp2_with fail
    go_ret3
    exact ⟨_, rfl, Own.nil_ _ _ _ _, B1.out⟩
set_option maxHeartbeats 2000000 in
theorem fapp_any (b v : Value) (zs ys : List Int) (ho : Oct ys) (hl : zs.length + ys.length ≤ 140737488354000) (w : World) (hb : Row .u8 w b zs) (hv : Row .u8 w v ys) :
    Calls Try.prog 30 #[b, v] w fun x w' => Below w.heap.size w w' ∧ (16384 < ys.length → x = .returned (.tuple #[.slice none 0 0, .int .i64 2])) ∧
      (ys.length ≤ 16384 → ∃ v', x = .returned (.tuple #[v', .int .i64 0]) ∧ Own .u8 w' w.heap.size 5 v' (zs ++ recL ys)) := by
  obtain ⟨pb, cb, rfl⟩ := hb.shape
  obtain ⟨pv, cv, rfl⟩ := hv.shape
  have HB := Lib.hid hb
  have HV := Lib.hid hv
  have HO := Lib.hid ho
  have HL := Lib.hid hl
  clear hb hv ho hl
  by_cases h : 16384 < ys.length
  · have h' : (16384 : Int) < (ys.length : Int) := by omega
    go_enter Try.func30, Try.ntmps30
    go_wp2_with fail
    go_ret2
    exact ⟨Below.refl _ _, fun _ => rfl, fun h2 => absurd h (by omega)⟩
  · have h' : (ys.length : Int) ≤ 16384 := by omega
    have hw : IntKind.u32.wrap (ys.length : Int) = (ys.length : Int) := IntWalk.u32_in _ (by omega)
    have HC := Lib.hid (chk_in HO.out)
    have HYL : Hid (ys.length ≤ 16384) := by show _ ≤ _; omega
    clear h
    generalize hny : ys.length = ny at *
    have HNY := Lib.hid hny
    clear hny
    go_enter Try.func30, Try.ntmps30
    go_wp2_with fail
    refine (four_any (ny : Int) (by omega) (by omega) w).mono ?_
    rintro y w1 ⟨v1, rfl, hr1, hb1⟩
    have R1 := Lib.hid hr1
    have B1 := Lib.hid hb1
    clear hr1 hb1
    go_wp2_with fail
    refine (crcof_any _ ys w1 (by rw [HNY.out]; omega) HO.out (HV.out.under B1.out (Nat.le_refl _))).mono ?_
    rintro y w2 ⟨rfl, hb2⟩
    have HCK : Hid (((checkN (natsOf ys) : Nat) : Int) = chk ys) := rfl
    rw [HCK.out]
    have R2 := Lib.hid (R1.out.kept hb2)
    have B2 := Lib.hid (B1.out.trans (hb2.mono B1.out.size))
    clear hb2
    go_wp2_with fail
    refine (four_any (chk ys) HC.out.1 HC.out.2 w2).mono ?_
    rintro y w3 ⟨v3, rfl, hr3, hb3⟩
    obtain ⟨p3, c3, rfl⟩ := hr3.shape
    obtain ⟨p1, c1, rfl⟩ := R1.out.shape
    have B3 := Lib.hid (B2.out.trans (hb3.mono B2.out.size))
    have HR := Lib.hid (Rows8.four w3 34 w3.heap.size rfl _ _ _ _ zs (four ny) (four (chk ys)) ys (HB.out.under B3.out (Nat.le_refl _)) (R2.out.kept hb3) hr3 (HV.out.under B3.out (Nat.le_refl _)))
    clear hr3 hb3
    go_wp2_with fail
    refine (concat8_any _ 0 4 _ _ _ _ HR.out rfl (by decide) (by have := HL.out; have := HNY.out; simp [four]; omega)).mono ?_
    rintro y w4 ⟨v4, rfl, ho4, hb4⟩
    have O4 := Lib.hid ho4
    have B4 := Lib.hid hb4
    clear ho4 hb4
    go_wp2_with fail
    go_ret2
    have hs := B3.out.size
    refine ⟨(B3.out.alloc hs _).trans (B4.out.mono (by simp; omega)), fun h2 => absurd HYL.out (by omega), fun _ => ⟨_, rfl, own_down (by simpa [recL, HNY.out] using O4.out) ?_⟩⟩
    omega
end Go.Proofs.Ytjbhcdmeeakdcaa
