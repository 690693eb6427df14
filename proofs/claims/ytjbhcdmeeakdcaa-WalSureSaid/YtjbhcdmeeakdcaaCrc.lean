/- crc: a step of the division, Add, Value, Of by contract: what they answer as plain numbers. -/
import Derived.Test.YtjbhcdmeeakdcaaCrcPure
import Derived.Test.YtjbhcdmeeakdcaaOct
import Derived.Laws.BitsAllLaws
import Derived.IntWalk
namespace Go.Proofs.Ytjbhcdmeeakdcaa
open Go.RowKit

theorem and_one (x : Nat) (h : x < 4294967296) : bits .and .u32 (x : Int) 1 = (x : Int) % 2 := by
  have := u32_and_nat x 1 h (by decide)
  simpa [Nat.and_one_is_mod] using this
theorem poly_lt (x : Nat) : polyN * (x % 2) < 4294967296 := by unfold polyN; omega
theorem step_xor32 (x : Nat) (h : x < 4294967296) : bits .xor .u32 ((x : Int) / 2) (3988292384 * ((x : Int) % 2)) = ((stepN x : Nat) : Int) := by
  have := u32_xor_nat (x / 2) (polyN * (x % 2)) (by omega) (poly_lt x)
  unfold stepN
  rw [← this]; congr 1
theorem not32 (x : Nat) (h : x < 4294967296) : bits .xor .u32 IntKind.u32.max (x : Int) = ((fullN ^^^ x : Nat) : Int) := u32_xor_nat 4294967295 x (by decide) h
theorem xor32 (x y : Nat) (h : x < 4294967296) (hy : y < 4294967296) : bits .xor .u32 (x : Int) (y : Int) = ((x ^^^ y : Nat) : Int) := u32_xor_nat x y h hy

theorem ret_u32 {a b : Nat} (h : a = b) : Ending.returned (.int .u32 (a : Int)) = .returned (.int .u32 (b : Int)) := by rw [h]
set_option maxHeartbeats 1000000 in
theorem divide_any (x : Nat) (hx : x < 4294967296) (w : World) :
    Calls Try.prog 56 #[.int .u32 x] w fun e w' => e = .returned (.int .u32 (stepsN 8 x : Nat)) ∧ w = w' := by
  have HX := Lib.hid hx
  clear hx
  go_enter Try.func56, Try.ntmps56
  go_wp2
  go_loop [0, 4] (fun l i => ∃ (k y : Nat), k ≤ 8 ∧ i = .int .i64 k ∧ l = .int .u32 y ∧ y < 4294967296 ∧ y = stepsN k x) (fun _ i => 8 - (intOf i).toNat)
  case atStart => exact ⟨0, x, by omega, rfl, rfl, HX.out, rfl⟩
  case round =>
    obtain ⟨k, y, hk, rfl, rfl, hy, hyk⟩ := hrel
    have HK := Lib.hid hyk
    clear hyk
    have h1 := Lib.hid (step_xor32 y hy)
    by_cases hlt : k < 8
    · have h0 := and_one y hy
      go_wp2
      go_round
      case rel => exact ⟨k + 1, stepN y, by omega, by go_num, by rw [h1.out], stepN_lt hy, by rw [stepsN_succ, HK.out]⟩
      case measure => simp [intOf]; omega
    · have hk8 : (8 : Int) ≤ (k : Int) := by omega
      go_wp2
      go_ret
      exact ⟨ret_u32 (by rw [HK.out, show k = 8 by omega]), rfl⟩

theorem natsOf_8 {zs : List Int} (h : Oct zs) : Bytes8 (natsOf zs) := by
  intro x hx
  obtain ⟨z, hz, rfl⟩ := List.mem_map.mp hx
  have := h z hz; omega
theorem crc_take (l : Nat) (zs : List Int) (k : Nat) (h : k < zs.length) : crcN l (natsOf (zs.take (k + 1))) = byteN (crcN l (natsOf (zs.take k))) (zs.getD k 0).toNat := by
  unfold natsOf
  rw [List.take_succ_eq_append_getElem h, List.map_append, crcN_append, List.getD_eq_getElem?_getD, List.getElem?_eq_getElem h]; rfl

set_option maxHeartbeats 1000000 in
theorem crcadd_any (v : Nat) (hv : v < 4294967296) (b : Value) (zs : List Int) (w : World) (hm : zs.length ≤ 140737488355328) (h8 : Oct zs) (hrow : Row .u8 w b zs) :
    Calls Try.prog 45 #[.agg #[.int .u32 v], b] w fun e w' => e = .returned (.agg #[.int .u32 (addN v (natsOf zs) : Nat)]) ∧ Below w.heap.size w w' := by
  obtain ⟨p, c, rfl, _, hr⟩ := hrow
  have HV := Lib.hid hv
  clear hv
  have hr' : ∀ i, i < zs.length → ∃ b o, p = some ⟨b, o, none⟩ ∧ b < w.heap.size ∧ w.cell? ⟨b, o + i, none⟩ = some (.int .u8 (zs.getD i 0)) := by
    intro i hi
    rcases hr with rfl | ⟨b, o, hp, h⟩
    · simp at hi
    · exact ⟨b, o, hp, World.block_lt_of_cell? w _ (h i hi), h i hi⟩
  clear hr
  have HR := Lib.hid hr'
  clear hr'
  generalize hn : zs.length = n at *
  have HN := Lib.hid hn
  clear hn
  have hnot := not32 v HV.out
  have hsg : IntKind.u32.signed = false := rfl
  go_enter Try.func45, Try.ntmps45
  go_wp2
  go_loop [5, 13] (fun l i => ∃ (k y : Nat), k ≤ n ∧ i = .int .i64 k ∧ l = .int .u32 y ∧ y < 4294967296 ∧ y = crcN (fullN ^^^ v) (natsOf (zs.take k))) (fun _ i => n - (intOf i).toNat)
  case atStart => exact ⟨0, fullN ^^^ v, by omega, rfl, rfl, full_lt HV.out, rfl⟩
  case round =>
    obtain ⟨k, y, hk, rfl, rfl, hy, hyk⟩ := hrel
    have HK := Lib.hid hyk
    clear hyk
    by_cases hlt : k < n
    · obtain ⟨b, o, rfl, hbs, hc⟩ := HR.out k hlt
      have hts := crc_take (fullN ^^^ v) zs k (by rw [HN.out]; exact hlt)
      have ha := h8.getD k
      have hcell : (w.alloc (.cells #[.int .u32 v] 78)).cell? ⟨b, o + k, none⟩ = some (.int .u8 (zs.getD k 0)) := by rw [World.cell?_alloc_lt _ _ _ hbs]; exact hc
      generalize zs.getD k 0 = a at *
      obtain ⟨ha0, ha1⟩ := ha
      obtain ⟨x, rfl⟩ : ∃ x : Nat, a = (x : Int) := ⟨a.toNat, by omega⟩
      have hx : x < 256 := by omega
      have hxor := xor32 y x hy (by omega)
      have hlt2 := xor_lt32 hy (show x < 4294967296 by omega)
      have HT := Lib.hid hts
      clear hts
      go_wp2_with (go_at_call 56; refine (divide_any (y ^^^ x) hlt2 _).mono ?_; rintro e w' ⟨rfl, rfl⟩)
      go_round
      case rel => exact ⟨k + 1, byteN y x, by omega, by go_num, rfl, byteN_lt hy hx, by rw [HT.out, HK.out]; rfl⟩
      case measure => simp [intOf]; omega
    · have hkn : (n : Int) ≤ (k : Int) := by omega
      have hnot2 := not32 y hy
      have HE : Hid (fullN ^^^ y = addN v (natsOf zs)) := by
        show _ = _
        rw [HK.out, show k = zs.length by rw [HN.out]; omega, List.take_length]; rfl
      clear hnot
      go_wp2
      refine bodyPost_ret (v := .agg #[.int .u32 (fullN ^^^ y : Nat)]) (by simp [results, Try.results45, go_sem]) rfl ⟨by rw [HE.out], ?_⟩
      exact ((Below.refl _ _).alloc (Nat.le_refl _) _).alloc (by simp) _

theorem crcvalue_any (v : Nat) (w : World) :
    Calls Try.prog 46 #[.agg #[.int .u32 v]] w fun e w' => e = .returned (.int .u32 v) ∧ Below w.heap.size w w' := by
  go_enter Try.func46, Try.ntmps46
  go_wp2
  go_ret
  exact ⟨rfl, (Below.refl _ _).alloc (Nat.le_refl _) _⟩

/-- crc.Of is the check. -/
theorem crcof_any (b : Value) (zs : List Int) (w : World) (hm : zs.length ≤ 140737488355328) (h8 : Oct zs) (hrow : Row .u8 w b zs) :
    Calls Try.prog 28 #[b] w fun e w' => e = .returned (.int .u32 (checkN (natsOf zs) : Nat)) ∧ Below w.heap.size w w' := by
  go_enter Try.func28, Try.ntmps28
  go_wp2_with (first
    | (go_at_call 45; refine (crcadd_any 0 (by decide) _ zs _ hm h8 hrow).mono ?_; rintro e w1 ⟨rfl, hb1⟩)
    | (go_at_call 46; refine (crcvalue_any _ _).mono ?_; rintro e w2 ⟨rfl, hb2⟩))
  go_ret
  exact ⟨ret_u32 (addN_zero _), hb1.trans (hb2.mono hb1.size)⟩
end Go.Proofs.Ytjbhcdmeeakdcaa
