/- frame.four, number, first, Append and Read by contract. -/
import Derived.Test.YtjbhcdmeeakdcaaFramePure
import Derived.Test.YtjbhcdmeeakdcaaRows8
import Derived.Test.YtjbhcdmeeakdcaaCrc
import Derived.Test.YtjbhcdmeeakdcaaClone
import Derived.Test.YtjbhcdmeeakdcaaChg
import Derived.Laws.BitsAllLaws
import Derived.IntWalk
import Derived.Deep.RegionWith
import Derived.Deep.RegionHeld3
namespace Go.Proofs.Ytjbhcdmeeakdcaa
open Go.RowKit
set_option maxHeartbeats 1000000 in
theorem four_any (n : Int) (h0 : 0 ≤ n) (h1 : n < 4294967296) (w : World) :
    Calls Try.prog 49 #[.int .u32 n] w fun x w' => ∃ v, x = .returned v ∧ Row .u8 w' v (four n) ∧ Below w.heap.size w w' := by
  have e1 : IntKind.u8.wrap (n / 16777216) = n / 16777216 := IntWalk.u8_in _ (by omega)
  go_enter Try.func49, Try.ntmps49
  go_wp2_with fail
  go_ret
  exact ⟨_, rfl, Row.laid .u8 w 5 (four n) _ rfl (0, 0) 4 4 rfl (Nat.le_refl _), oneB w _⟩
theorem or_add (a b : Int) (k : Nat) (P : Int) (hP : P = ((2 ^ k : Nat) : Int)) (ha : 0 ≤ a) (hb : 0 ≤ b) (hk : b < P) (h : a * P + b < 4294967296) : bits .or .u32 (a * P) b = a * P + b := by
  subst hP
  obtain ⟨A, rfl⟩ : ∃ A : Nat, a = A := ⟨a.toNat, by omega⟩
  obtain ⟨B, rfl⟩ : ∃ B : Nat, b = B := ⟨b.toNat, by omega⟩
  have hB : B < 2 ^ k := by omega
  have e : ((A : Int) * ((2 ^ k : Nat) : Int)) = ((A * 2 ^ k : Nat) : Int) := (Int.natCast_mul A (2 ^ k)).symm
  have h' : A * 2 ^ k + B < 4294967296 := by rw [e] at h; omega
  rw [e, u32_or_nat _ _ (by omega) (by omega), Nat.mul_comm, ← Nat.two_pow_add_eq_or_of_lt hB, Nat.mul_comm, Int.natCast_add]
theorem or_four {x0 x1 x2 x3 : Int} (o0 : 0 ≤ x0 ∧ x0 < 256) (o1 : 0 ≤ x1 ∧ x1 < 256) (o2 : 0 ≤ x2 ∧ x2 < 256) (o3 : 0 ≤ x3 ∧ x3 < 256) :
    bits .or .u32 (bits .or .u32 (bits .or .u32 (x0 * 16777216) (x1 * 65536)) (x2 * 256)) x3 = x0 * 16777216 + x1 * 65536 + x2 * 256 + x3 := by
  rw [or_add x0 (x1 * 65536) 24 16777216 rfl (by omega) (by omega) (by omega) (by omega)]
  rw [show x0 * 16777216 + x1 * 65536 = (x0 * 256 + x1) * 65536 by omega, or_add _ (x2 * 256) 16 65536 rfl (by omega) (by omega) (by omega) (by omega)]
  rw [show (x0 * 256 + x1) * 65536 + x2 * 256 = (x0 * 65536 + x1 * 256 + x2) * 256 by omega, or_add _ x3 8 256 rfl (by omega) (by omega) (by omega) (by omega)]
theorem ret_u32i {a b : Int} (h : a = b) : Ending.returned (.int .u32 a) = .returned (.int .u32 b) := by rw [h]
set_option maxHeartbeats 1000000 in
theorem number_any4 (b : Value) (zs : List Int) (ho : Oct zs) (hl : 4 ≤ zs.length) (w : World) (hrow : Row .u8 w b zs) :
    Calls Try.prog 60 #[b] w fun x w' => x = .returned (.int .u32 (num4 zs)) ∧ Below w.heap.size w w' := by
  obtain ⟨p, c, rfl, _, hr⟩ := hrow
  rcases hr with hr | ⟨g, o, rfl, hr⟩
  · subst hr; simp at hl
  have c0 : w.cell? ⟨g, o, none⟩ = _ := hr 0 (by omega)
  have c1 := hr 1 (by omega)
  have c2 := hr 2 (by omega)
  have c3 := hr 3 (by omega)
  have o0 := ho.getD 0
  have o1 := ho.getD 1
  have o2 := ho.getD 2
  have o3 := ho.getD 3
  have HN : Hid (num4 zs = zs.getD 0 0 * 16777216 + zs.getD 1 0 * 65536 + zs.getD 2 0 * 256 + zs.getD 3 0) := rfl
  generalize zs.getD 0 0 = x0 at *
  generalize zs.getD 1 0 = x1 at *
  generalize zs.getD 2 0 = x2 at *
  generalize zs.getD 3 0 = x3 at *
  have hl0 : (0 : Int) < zs.length := by omega
  have hl1 : (1 : Int) < zs.length := by omega
  have hl2 : (2 : Int) < zs.length := by omega
  have hl3 : (3 : Int) < zs.length := by omega
  generalize zs.length = L at *
  clear hr
  go_enter Try.func60, Try.ntmps60
  go_wp2_with fail
  go_region
  go_wp2_with fail
  go_ret
  exact ⟨ret_u32i (by rw [HN.out]; exact or_four o0 o1 o2 o3), (Below.refl _ _).drew⟩
/-- A row lies in one block. -/
theorem Row.rowAt {k : IntKind} {w : World} {v : Value} {zs : List Int} (h : Row k w v zs) : ∃ g0, RowAt k w g0 v zs := by
  obtain ⟨p, c, rfl, hc, h⟩ := h
  rcases h with h | ⟨b, o, hp, h⟩
  · exact ⟨0, p, c, rfl, hc, .inl h⟩
  · exact ⟨b, p, c, rfl, hc, .inr ⟨o, hp, h⟩⟩
set_option maxHeartbeats 4000000 in
theorem first_any (b : Value) (zs : List Int) (ho : Oct zs) (hl : zs.length ≤ 140737488354000) (w : World) (hrow : Row .u8 w b zs) :
    Calls Try.prog 59 #[b] w fun x w' => ∃ v, x = .returned (.tuple #[v, .int .i64 (frE zs)]) ∧ (frE zs = 0 → Row .u8 w' v (frD zs)) ∧ Below w.heap.size w w' := by
  obtain ⟨p, c, rfl, hc, hr⟩ := id hrow
  by_cases h8 : zs.length < 8
  · have HE : Hid (frE zs = 40) := by show _ = _; unfold frE; rw [if_pos h8]
    have h8' : (zs.length : Int) < 8 := by omega
    clear hr
    go_enter Try.func59, Try.ntmps59
    go_wp2_with fail
    go_ret2
    rw [HE.out]
    exact ⟨.slice none 0 0, rfl, (fun h => by cases h), Below.refl _ _⟩
  · obtain ⟨g, o, rfl⟩ : ∃ g o, p = some ⟨g, o, none⟩ := by
      rcases hr with hr | ⟨g, o, rfl, _⟩
      · rw [hr] at h8; simp at h8
      · exact ⟨g, o, rfl⟩
    obtain ⟨g0, hat⟩ := hrow.rowAt
    have hT4 := Lib.hid (hat.take 4 (by omega)).row
    have hD4 := Lib.hid ((hat.drop 4 (by omega)).take 4 (by rw [List.length_drop]; omega)).row
    have hD8 := Lib.hid (hat.drop 8 (by omega))
    unfold dropP at hD4 hD8
    rw [if_neg (by omega)] at hD4
    simp only [Option.map_some, addAt] at hD4 hD8
    have ho4 := Lib.hid (ho.take 4)
    have hod := Lib.hid ((ho.drop 4).take 4)
    have hl4 : Hid (4 ≤ (zs.take 4).length ∧ 4 ≤ ((zs.drop 4).take 4).length) := by show _ ∧ _; simp only [List.length_take, List.length_drop]; omega
    have HN := Lib.hid (num4_take zs)
    have HK := Lib.hid (num4_take (zs.drop 4))
    have h8' : (8 : Int) ≤ (zs.length : Int) := by omega
    have hc8' : (8 : Int) ≤ (c : Int) := by omega
    have hc4' : (4 : Int) ≤ (c : Int) := by omega
    have HF : Hid (frE zs = if 16384 < num4 zs then 2 else if (zs.length : Int) - 8 < num4 zs then 40 else if chk (datL zs) ≠ num4 (zs.drop 4) then 50 else 0) := by
      show _ = _
      unfold frE; rw [if_neg h8]
    have HDD : Hid (frE zs = 0 → frD zs = (zs.drop 8).take (num4 zs).toNat) := by
      show _ → _
      intro h; unfold frD datL; rw [if_pos h]
    have HDL : Hid (datL zs = (zs.drop 8).take (num4 zs).toNat) := rfl
    have H8 := Lib.hid (ho.drop 8)
    have hn := num4_in ho
    have HLL : Hid ((zs.drop 8).length = zs.length - 8) := List.length_drop
    have hcc : c = 8 ∨ ¬ c = 8 := by omega
    clear hr hat hrow
    rcases hcc with hc8 | hc8
    all_goals
      first | rw [if_neg hc8] at hD8 | (subst hc8; rw [if_pos rfl] at hD8)
      go_enter Try.func59, Try.ntmps59
      go_wp2_with fail
      go_region_held3 (fun _ => True)
        (first | exact trivial)
        (first
        | (go_at_call 60; refine (number_any4 _ ((zs.drop 4).take 4) hod.out hl4.out.2 _ (hD4.out.under B1.out (Nat.le_refl _))).mono ?_; rintro y w2 ⟨rfl, hb2⟩; rw [HK.out]; have B2 := Lib.hid (B1.out.trans (hb2.mono B1.out.size)); clear hb2)
        | (go_at_call 60; refine (number_any4 _ (zs.take 4) ho4.out hl4.out.1 _ (hT4.out.under (Below.refl _ w).drew (Nat.le_refl _))).mono ?_; rintro y w1 ⟨rfl, hb1⟩; rw [HN.out]; have B1 := Lib.hid ((Below.refl _ w).drew.trans hb1); clear hb1))
      all_goals
        generalize hN : num4 zs = n at *
        generalize hK : num4 (zs.drop 4) = kk at *
        have HD8 := Lib.hid (hD8.out.below B2.out (fun h => h))
        obtain ⟨m, rfl⟩ : ∃ m : Nat, n = m := ⟨n.toNat, by omega⟩
        rw [Int.toNat_natCast] at HDD HDL
        clear hN hK
        by_cases hA : 16384 < (m : Int)
        · have HE : Hid (frE zs = 2) := by show _ = _; rw [HF.out, if_pos hA]
          go_wp2_with fail
          go_ret2
          rw [HE.out]
          exact ⟨.slice none 0 0, rfl, (fun h => by cases h), B2.out⟩
        · by_cases hB : (zs.length : Int) - 8 < (m : Int)
          · have HE : Hid (frE zs = 40) := by show _ = _; rw [HF.out, if_neg hA, if_pos hB]
            have hA' : (m : Int) ≤ 16384 := by omega
            have hB' : ((zs.length - 8 : Nat) : Int) < (m : Int) := by omega
            clear hA
            go_wp2_with fail
            go_ret2
            rw [HE.out]
            exact ⟨.slice none 0 0, rfl, (fun h => by cases h), B2.out⟩
          · have hA' : (m : Int) ≤ 16384 := by omega
            have hB' : (m : Int) ≤ ((zs.length - 8 : Nat) : Int) := by omega
            have hm8 : m ≤ zs.length - 8 := by omega
            have hRD := Lib.hid (HD8.out.take m (by rw [HLL.out]; exact hm8)).row
            have HO8 := Lib.hid (H8.out.take m)
            have HL8 : Hid (((zs.drop 8).take m).length ≤ 140737488355328) := by show _ ≤ _; rw [List.length_take]; omega
            have HF2 : Hid (frE zs = if chk (datL zs) ≠ kk then 50 else 0) := by show _ = _; rw [HF.out, if_neg hA, if_neg hB]
            rw [HDL.out] at HF2
            clear hA hB
            generalize (zs.drop 8).take m = d at *
            go_wp2_with fail
            refine (crcof_any _ d _ HL8.out HO8.out hRD.out).mono ?_
            rintro y w3 ⟨rfl, hb3⟩
            have HCK : Hid (((checkN (natsOf d) : Nat) : Int) = chk d) := rfl
            rw [HCK.out]
            have B3 := Lib.hid (B2.out.trans (hb3.mono B2.out.size))
            have HR3 := Lib.hid (hRD.out.kept hb3)
            clear hb3
            generalize chk d = cd at *
            by_cases hC : cd = kk
            · have HE : Hid (frE zs = 0) := by show _ = _; rw [HF2.out, if_neg (by simp [hC])]
              have hC' : (cd != kk) = false := by simp [hC]
              clear hC
              go_wp2_with fail
              go_ret2
              rw [HE.out]
              refine ⟨_, rfl, ?_, B3.out⟩
              intro _
              rw [HDD.out HE.out]
              exact HR3.out
            · have HE : Hid (frE zs = 50) := by show _ = _; rw [HF2.out, if_pos hC]
              have hC' : (cd != kk) = true := by simpa using hC
              clear hC
              go_wp2_with fail
              go_ret2
              rw [HE.out]
              exact ⟨.slice none 0 0, rfl, (fun h => by cases h), B3.out⟩
end Go.Proofs.Ytjbhcdmeeakdcaa
