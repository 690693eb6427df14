/- code.number: what is read of bytes. -/
import Derived.Test.YtbimbpmdiahhbaaCodePure
import Derived.Test.YtbimbpmdiahhbaaApp
import Derived.Laws.BitsAllLaws
import Derived.IntWalk
namespace Go.Proofs.Ytbimbpmdiahhbaa
open Go.RowKit
theorem and127 (x : Nat) (h : x < 256) : bits .and .u8 (x : Int) 127 = ((x % 128 : Nat) : Int) := by
  have h1 := u8_and_nat x 127 h (by decide)
  have h2 : ∀ y, y < 256 → y &&& 127 = y % 128 := by decide +kernel
  rw [h2 x h] at h1; exact h1
theorem pow128 (k : Nat) : (2 : Int) ^ (7 * k) = ((128 ^ k : Nat) : Int) := by
  rw [Int.pow_mul]; exact (Int.natCast_pow 128 k).symm
theorem or_add128 (u y k : Nat) (h : u < 128 ^ k) : u ||| (y * 128 ^ k) = u + y * 128 ^ k := by
  have e : 128 ^ k = 2 ^ (7 * k) := by rw [Nat.pow_mul]
  rw [e] at h ⊢
  rw [Nat.mul_comm y, Nat.or_comm, ← Nat.two_pow_add_eq_or_of_lt h, Nat.add_comm]
/-- One more seven bits. -/
theorem or_step (u x k : Nat) (hx : x < 256) (hu : u < 128 ^ k) (hk : k ≤ 9) (h9 : k = 9 → x ≤ 1) :
    bits .or .u64 (u : Int) (IntKind.u64.wrap (IntKind.u64.wrap (bits .and .u8 (x : Int) 127) * 2 ^ (7 * k))) = ((u + x % 128 * 128 ^ k : Nat) : Int) := by
  have h7 : x % 128 < 128 := Nat.mod_lt _ (by decide)
  have hb : x % 128 * 128 ^ k < 18446744073709551616 := by
    by_cases h : k = 9
    · subst h
      have := h9 rfl
      have h1 : x % 128 ≤ 1 := by omega
      have := Nat.mul_le_mul_right (128 ^ 9) h1
      omega
    · have h2 : 128 ^ k ≤ 128 ^ 8 := Nat.pow_le_pow_right (by decide) (by omega)
      have := Nat.mul_le_mul (show x % 128 ≤ 127 by omega) h2
      omega
  have hu64 : u < 18446744073709551616 := Nat.lt_of_lt_of_le hu (Nat.le_trans (Nat.pow_le_pow_right (by decide) hk) (by decide))
  rw [and127 x hx, pow128]
  simp only [IntKind.wrap_u64]
  have e1 : ((x % 128 : Nat) : Int) % 18446744073709551616 = ((x % 128 : Nat) : Int) := by omega
  rw [e1, ← Int.natCast_mul]
  have e2 : ((x % 128 * 128 ^ k : Nat) : Int) % 18446744073709551616 = ((x % 128 * 128 ^ k : Nat) : Int) := Int.emod_eq_of_lt (Int.natCast_nonneg _) (Int.ofNat_lt.mpr hb)
  rw [e2, u64_or_nat u _ hu64 hb, or_add128 u _ k hu]
theorem xor_zero_i64 (a : Nat) (h : a < 9223372036854775808) : bits .xor .i64 (a : Int) 0 = (a : Int) := by
  show IntKind.i64.wrap (((BitVec.ofInt 64 (a : Int)) ^^^ (BitVec.ofInt 64 0)).toNat : Int) = _
  rw [BitVec.toNat_xor, show (BitVec.ofInt 64 0).toNat = 0 from rfl, Nat.xor_zero, BitVec.ofInt_natCast, BitVec.toNat_ofNat, Nat.mod_eq_of_lt (by omega)]
  exact IntWalk.i64_in _ (by omega)
theorem xor_ones_i64 (a : Nat) (h : a < 9223372036854775808) : bits .xor .i64 (a : Int) (-1) = -(a : Int) - 1 := by
  show IntKind.i64.wrap (((BitVec.ofInt 64 (a : Int)) ^^^ (BitVec.ofInt 64 (-1))).toNat : Int) = _
  rw [show (BitVec.ofInt 64 (-1)) = BitVec.allOnes 64 from rfl, BitVec.xor_allOnes, BitVec.toNat_not, BitVec.ofInt_natCast, BitVec.toNat_ofNat, Nat.mod_eq_of_lt (by omega), IntKind.wrap_i64]
  omega
theorem unzz_bits (y : Nat) (h : y < 18446744073709551616) : bits .xor .i64 ((y : Int) / 2) (wrap64 (-wrap64 (bits .and .u64 (y : Int) 1))) = unzz y := by
  have h1 := u64_and_nat y 1 h (by decide)
  rw [Nat.and_one_is_mod] at h1
  have h2 : bits .and .u64 (y : Int) 1 = ((y % 2 : Nat) : Int) := h1
  rw [h2]
  unfold unzz
  have e : (y : Int) / 2 = ((y / 2 : Nat) : Int) := by omega
  rw [e]
  rcases (show y % 2 = 0 ∨ y % 2 = 1 by omega) with h0 | h0
  · rw [h0, if_pos rfl]
    rw [show wrap64 (-wrap64 ((0 : Nat) : Int)) = 0 by unfold wrap64; omega]
    exact xor_zero_i64 (y / 2) (by omega)
  · rw [h0, if_neg (by decide)]
    rw [show wrap64 (-wrap64 ((1 : Nat) : Int)) = -1 by unfold wrap64; omega]
    exact xor_ones_i64 (y / 2) (by omega)
theorem ret_t3 {a b : Int × Nat × Int} (h : a = b) : Ending.returned (.tuple #[.int .i64 b.1, .int .i64 (b.2.1 : Nat), .int .i64 b.2.2]) = .returned (.tuple #[.int .i64 a.1, .int .i64 (a.2.1 : Nat), .int .i64 a.2.2]) := by rw [h]
theorem ret_end3 {a : Int × Nat × Int} {x : Int} {y k : Nat} (h : a = (unzz y, k + 1, 0)) (hx : x = unzz y) : Ending.returned (.tuple #[.int .i64 x, .int .i64 ((k : Int) + 1), .int .i64 0]) = .returned (.tuple #[.int .i64 a.1, .int .i64 (a.2.1 : Nat), .int .i64 a.2.2]) := by rw [h, hx]; rfl
theorem new_lt {u x k : Nat} (hu : u < 128 ^ k) : u + x % 128 * 128 ^ k < 128 ^ (k + 1) := by
  have h7 : x % 128 < 128 := Nat.mod_lt _ (by decide)
  rw [Nat.pow_succ]
  have : x % 128 * 128 ^ k ≤ 127 * 128 ^ k := Nat.mul_le_mul_right _ (by omega)
  omega
theorem new_lt64 {u x k : Nat} (hu : u < 128 ^ k) (hk : k ≤ 9) (h9 : k = 9 → x ≤ 1) : u + x % 128 * 128 ^ k < 18446744073709551616 := by
  by_cases h : k = 9
  · subst h
    have h1 : x % 128 ≤ 1 := by have := h9 rfl; omega
    have := Nat.mul_le_mul_right (128 ^ 9) h1
    omega
  · exact Nat.lt_of_lt_of_le (new_lt hu) (Nat.le_trans (Nat.pow_le_pow_right (by decide) (show k + 1 ≤ 9 by omega)) (by decide))
set_option maxHeartbeats 2000000 in
set_option maxRecDepth 100000 in
theorem number_any (v : Value) (zs : List Int) (w : World) (h8 : Oct zs) (hrow : Row .u8 w v zs) (hlen : zs.length ≤ 9223372036854775000) :
    Calls Try.prog 38 #[v] w fun e w' => e = .returned (.tuple #[.int .i64 (readL (natsOf zs)).1, .int .i64 ((readL (natsOf zs)).2.1 : Nat), .int .i64 (readL (natsOf zs)).2.2]) ∧ w = w' := by
  obtain ⟨p, c, rfl, _, hr⟩ := hrow
  have hr' : ∀ i, i < zs.length → ∃ b o, p = some ⟨b, o, none⟩ ∧ w.cell? ⟨b, o + i, none⟩ = some (.int .u8 (zs.getD i 0)) := by
    intro i hi
    rcases hr with rfl | ⟨b, o, hp, h⟩
    · simp at hi
    · exact ⟨b, o, hp, h i hi⟩
  clear hr
  have HR := Lib.hid hr'
  clear hr'
  generalize hn : zs.length = n at *
  have HN := Lib.hid hn
  clear hn
  have HG : Hid ((natsOf zs).drop 0 = natsOf zs) := by show _ = _; rfl
  go_enter Try.func38, Try.ntmps38
  go_wp2
  go_loop [5, 10] (fun uu i => ∃ (k u : Nat), k ≤ n ∧ k ≤ 9 ∧ i = .int .i64 k ∧ uu = .int .u64 u ∧ u < 128 ^ k ∧ Hid (readP ((natsOf zs).drop k) k u = readL (natsOf zs))) (fun _ i => n - (intOf i).toNat)
  case atStart => exact ⟨0, 0, by omega, by omega, rfl, rfl, by decide, Lib.hid rfl⟩
  case round =>
    obtain ⟨k, u, hk, hk9, rfl, rfl, hu, HU⟩ := hrel
    by_cases hlt : k < n
    · obtain ⟨b, o, rfl, hc⟩ := HR.out k hlt
      have ha := h8.getD k
      generalize hx : zs.getD k 0 = a at *
      obtain ⟨ha0, ha1⟩ := ha
      obtain ⟨x, rfl⟩ : ∃ x : Nat, a = (x : Int) := ⟨a.toNat, by omega⟩
      have HX := Lib.hid hx
      clear hx
      have hlz : k < (natsOf zs).length := by rw [natsOf_length, HN.out]; exact hlt
      have hdrop : (natsOf zs).drop k = x :: (natsOf zs).drop (k + 1) := by
        rw [List.drop_eq_getElem_cons hlz]
        congr 1
        have := natsOf_getD zs k
        rw [List.getD_eq_getElem?_getD, List.getElem?_eq_getElem hlz, HX.out] at this
        simpa using this
      have HU2 := HU.out
      rw [hdrop] at HU2
      have HU3 := Lib.hid HU2
      clear HU2 hdrop hlz
      by_cases hbad : (k = 9 ∧ 1 < x) ∨ (0 < k ∧ x = 0)
      · have HRES := HU3.out
        rw [read_bad hbad] at HRES
        have HRES2 := Lib.hid HRES.symm
        clear HRES hu
        rcases hbad with ⟨h1, h2⟩ | ⟨h1, h2⟩
        · have h9 : ((k : Int) == 9) = true := by simp; omega
          have hx1 : (1 : Int) < (x : Int) := by omega
          clear h1 h2
          go_wp2_with fail
          all_goals go_ret3
          all_goals exact ⟨ret_t3 HRES2.out, rfl⟩
        · have h0 : (0 : Int) < (k : Int) := by omega
          have hx1 : ((x : Int) == 0) = true := by simp; omega
          have hx2 : (x : Int) ≤ 1 := by omega
          clear h1 h2
          go_wp2_with fail
          all_goals go_ret3
          all_goals exact ⟨ret_t3 HRES2.out, rfl⟩
      · have hor := or_step u x k (by omega) hu hk9 (by omega)
        have hn64 := new_lt64 (x := x) hu hk9 (by omega)
        have hnew := new_lt (x := x) hu
        have h9 : ((k : Int) == 9) = false ∨ ((k : Int) == 9) = true ∧ (x : Int) ≤ 1 := by simp; omega
        have h0 : ((k : Int) ≤ 0) ∨ 0 < (k : Int) ∧ ((x : Int) == 0) = false := by simp; omega
        by_cases hsm : x < 128
        · have HRES := HU3.out
          rw [read_end hbad hsm] at HRES
          have HRES2 := Lib.hid HRES.symm
          have hsm' : (x : Int) < 128 := by omega
          generalize u + x % 128 * 128 ^ k = y at *
          clear HRES hu hbad hnew
          rcases h9 with h9 | ⟨h9, hx9⟩ <;> rcases h0 with h0 | ⟨h0, hx0⟩
          all_goals
            go_wp2_with fail
            go_ret3
            exact ⟨ret_end3 HRES2.out (unzz_bits y hn64), rfl⟩
        · have HON := HU3.out
          rw [read_on hbad hsm] at HON
          have HON2 := Lib.hid HON
          have hsm' : (128 : Int) ≤ (x : Int) := by omega
          have HNEW := Lib.hid hnew
          generalize u + x % 128 * 128 ^ k = y at *
          have hk8 : k < 9 := by
            rcases (show k < 9 ∨ k = 9 by omega) with h | h
            · exact h
            · exact absurd (Or.inl ⟨h, by omega⟩) hbad
          clear HON hu hbad hnew h9
          have h9 : ((k : Int) == 9) = false := by simp; omega
          rcases h0 with h0 | ⟨h0, hx0⟩
          all_goals
            go_wp2_with fail
            go_round
            case rel => exact ⟨k + 1, y, by omega, by omega, by go_num, rfl, HNEW.out, HON2⟩
            case measure => simp [intOf]; omega
    · have hkn : (n : Int) ≤ (k : Int) := by omega
      have HRES := HU.out
      rw [List.drop_eq_nil_of_le (by rw [natsOf_length, HN.out]; omega), readP] at HRES
      have HRES2 := Lib.hid HRES.symm
      clear HRES hu
      go_wp2_with fail
      go_ret3
      exact ⟨ret_t3 HRES2.out, rfl⟩
end Go.Proofs.Ytbimbpmdiahhbaa
