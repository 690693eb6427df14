/- contraref05.number, four, Read and Write by contract. -/
import Derived.Test.YtjbhcdmeeakdcaaFramePure
import Derived.Test.YtjbhcdmeeakdcaaRefCrc
import Derived.Test.YtjbhcdmeeakdcaaStrRow
namespace Go.Proofs.Ytjbhcdmeeakdcaa
open Go.RowKit
/-- A string's bytes as whole numbers. -/
def intsOf (s : ByteArray) : List Int := s.data.toList.map (fun c => (c.toNat : Int))
theorem intsOf_len (s : ByteArray) : (intsOf s).length = s.size := by unfold intsOf; rw [List.length_map]; rfl
theorem intsOf_oct (s : ByteArray) : Oct (intsOf s) := by
  intro a ha
  obtain ⟨c, _, rfl⟩ := List.mem_map.1 ha
  have := c.toNat_lt
  omega
theorem intsOf_nats (s : ByteArray) : natsOf (intsOf s) = strNats s := by
  unfold natsOf intsOf strNats
  rw [List.map_map]
  rfl
theorem intsOf_str {zs : List Int} (h : Oct zs) : intsOf (strOfNums zs) = zs := by
  unfold intsOf
  rw [strOfNums_data, List.map_map]
  conv => rhs; rw [← List.map_id zs]
  apply List.map_congr_left
  intro a ha
  have := h a ha
  show ((UInt8.ofNat a.toNat).toNat : Int) = a
  rw [UInt8.toNat_ofNat']; omega
theorem str_intsOf (s : ByteArray) : strOfNums (intsOf s) = s := by
  apply ByteArray.ext
  apply Array.ext'
  rw [strOfNums_data]
  unfold intsOf
  rw [List.map_map]
  conv => rhs; rw [← List.map_id s.data.toList]
  apply List.map_congr_left
  intro c _
  show UInt8.ofNat ((c.toNat : Int).toNat) = c
  simp
theorem intsOf_get (s : ByteArray) (i : Nat) (h : i < s.size) : (intsOf s).getD i 0 = (s[i].toNat : Int) := by
  have h2 : i < (intsOf s).length := by rw [intsOf_len]; exact h
  rw [List.getD_eq_getElem?_getD, List.getElem?_eq_getElem h2]
  simp [intsOf]
  rfl
theorem intsOf_extract (s : ByteArray) (a n : Nat) : intsOf (s.extract a (a + n)) = ((intsOf s).drop a).take n := by
  unfold intsOf
  rw [← List.map_drop, ← List.map_take]
  congr 1
  rw [ByteArray.data_extract, Array.toList_extract]
  simp
theorem num4_at (s : ByteArray) (a : Nat) (h : a + 4 ≤ s.size) : num4 ((intsOf s).drop a) = (s[a].toNat : Int) * 16777216 + (s[a + 1].toNat : Int) * 65536 + (s[a + 2].toNat : Int) * 256 + (s[a + 3].toNat : Int) := by
  unfold num4
  have e : ∀ j, ((intsOf s).drop a).getD j 0 = (intsOf s).getD (a + j) 0 := fun j => by rw [List.getD_eq_getElem?_getD, List.getD_eq_getElem?_getD, List.getElem?_drop]
  rw [e, e, e, e, Nat.add_zero, intsOf_get s a (by omega), intsOf_get s (a + 1) (by omega), intsOf_get s (a + 2) (by omega), intsOf_get s (a + 3) (by omega)]
set_option maxHeartbeats 2000000 in
theorem refnumber4_any (s : ByteArray) (a : Nat) (h : a + 4 ≤ s.size) (hs : s.size ≤ 140737488355328) (w : World) :
    Calls Try.prog 54 #[.string s, .int .i64 a] w fun x w' => x = .returned (.int .i64 (num4 ((intsOf s).drop a))) ∧ Below w.heap.size w w' := by
  have HN := Lib.hid (num4_at s a h)
  have h0 : (a : Int) < (s.size : Int) := by omega
  have h1 : (a : Int) + 1 < (s.size : Int) := by omega
  have h2 : (a : Int) + 2 < (s.size : Int) := by omega
  have h3 : (a : Int) + 3 < (s.size : Int) := by omega
  have g0 : a < s.size := by omega
  have g1 : a + 1 < s.size := by omega
  have g2 : a + 2 < s.size := by omega
  have g3 : a + 3 < s.size := by omega
  have t1 : ((a : Int) + 1).toNat = a + 1 := by omega
  have t2 : ((a : Int) + 2).toNat = a + 2 := by omega
  have t3 : ((a : Int) + 3).toNat = a + 3 := by omega
  have w1 : IntKind.i64.wrap ((a : Int) + 1) = (a : Int) + 1 := IntWalk.i64_in _ (by omega)
  have z1 : (0 : Int) ≤ (a : Int) + 1 := by omega
  have w2 : IntKind.i64.wrap ((a : Int) + 2) = (a : Int) + 2 := IntWalk.i64_in _ (by omega)
  have z2 : (0 : Int) ≤ (a : Int) + 2 := by omega
  have w3 : IntKind.i64.wrap ((a : Int) + 3) = (a : Int) + 3 := IntWalk.i64_in _ (by omega)
  have z3 : (0 : Int) ≤ (a : Int) + 3 := by omega
  have b0 := s[a].toNat_lt
  have b1 := s[a + 1].toNat_lt
  have b2 := s[a + 2].toNat_lt
  have b3 := s[a + 3].toNat_lt
  go_enter Try.func54, Try.ntmps54
  go_wp2_with fail
  go_region
  go_wp2_with fail
  go_ret
  exact ⟨by rw [HN.out]; rfl, (Below.refl _ _).drew⟩
theorem strOfNums_app (a b : List Int) : strOfNums a ++ strOfNums b = strOfNums (a ++ b) := by
  unfold strOfNums
  rw [List.map_append]
  exact ByteArray.mk_append_mk ..
set_option maxHeartbeats 4000000 in
theorem refread5_any (s : ByteArray) (a : Nat) (ha : a ≤ s.size) (hs : s.size ≤ 20000) (w : World) :
    Calls Try.prog 40 #[.string s, .int .i64 a] w fun x w' => x = .returned (.tuple #[.string (strOfNums (frD ((intsOf s).drop a))), .int .i64 (frN ((intsOf s).drop a)), .int .i64 (frE ((intsOf s).drop a))]) ∧ Below w.heap.size w w' := by
  have HL : Hid (((intsOf s).drop a).length = s.size - a) := by show _ = _; rw [List.length_drop, intsOf_len]
  have HO := Lib.hid ((intsOf_oct s).drop a)
  have HX := Lib.hid (fun n => intsOf_extract s (a + 8) n)
  have HDD := Lib.hid (List.drop_drop (i := 8) (j := a) (l := intsOf s))
  have HD4 := Lib.hid (List.drop_drop (i := 4) (j := a) (l := intsOf s))
  by_cases h8 : s.size - a < 8
  · have HE : Hid (frE ((intsOf s).drop a) = 40) := by show _ = _; unfold frE; rw [if_pos (by rw [HL.out]; exact h8)]
    have HD : Hid (frD ((intsOf s).drop a) = []) := by show _ = _; unfold frD; rw [HE.out, if_neg (by decide)]
    have HNN : Hid (frN ((intsOf s).drop a) = 0) := by show _ = _; unfold frN; rw [HE.out, if_neg (by decide)]
    have h8' : (s.size : Int) - (a : Int) < 8 := by omega
    rw [HE.out, HD.out, HNN.out]
    go_enter Try.func40, Try.ntmps40
    go_wp2_with fail
    go_ret3
    exact ⟨rfl, Below.refl _ _⟩
  · have h8' : (8 : Int) ≤ (s.size : Int) - (a : Int) := by omega
    have HF : Hid (frE ((intsOf s).drop a) = if 16384 < num4 ((intsOf s).drop a) then 2 else if ((s.size - a : Nat) : Int) - 8 < num4 ((intsOf s).drop a) then 40 else if chk (datL ((intsOf s).drop a)) ≠ num4 (((intsOf s).drop a).drop 4) then 50 else 0) := by
      show _ = _
      unfold frE; rw [HL.out, if_neg h8]
    have HDA : Hid (frD ((intsOf s).drop a) = if frE ((intsOf s).drop a) = 0 then datL ((intsOf s).drop a) else []) := rfl
    have HNA : Hid (frN ((intsOf s).drop a) = if frE ((intsOf s).drop a) = 0 then 8 + num4 ((intsOf s).drop a) else 0) := rfl
    have HDL : Hid (datL ((intsOf s).drop a) = (((intsOf s).drop a).drop 8).take (num4 ((intsOf s).drop a)).toNat) := rfl
    have hn := num4_in HO.out
    have HC1 := Lib.hid (fun w => refnumber4_any s a (by omega) (by omega) w)
    have HC2 := Lib.hid (fun w => refnumber4_any s (a + 4) (by omega) (by omega) w)
    rw [← HD4.out, show ((a + 4 : Nat) : Int) = (a : Int) + 4 from Int.natCast_add a 4] at HC2
    rw [← HDD.out] at HX
    generalize (intsOf s).drop a = Z at *
    generalize hN : num4 Z = n at *
    obtain ⟨m, rfl⟩ : ∃ m : Nat, n = m := ⟨n.toNat, by omega⟩
    rw [Int.toNat_natCast] at HDL
    clear hN
    generalize num4 (Z.drop 4) = kk at *
    generalize frE Z = eZ at *
    generalize frD Z = dZ at *
    generalize frN Z = nZ at *
    go_enter Try.func40, Try.ntmps40
    go_wp2_with fail
    refine (HC1.out w).mono ?_
    rintro y w1 ⟨rfl, hb1⟩
    have B1 := Lib.hid hb1
    clear hb1
    by_cases hA : 16384 < (m : Int)
    · have HE : Hid (eZ = 2) := by show _ = _; rw [HF.out, if_pos hA]
      go_wp2_with fail
      go_ret3
      rw [HDA.out, HNA.out, HE.out]
      exact ⟨rfl, B1.out⟩
    · by_cases hB : ((s.size - a : Nat) : Int) - 8 < (m : Int)
      · have HE : Hid (eZ = 40) := by show _ = _; rw [HF.out, if_neg hA, if_pos hB]
        have hA' : (m : Int) ≤ 16384 := by omega
        have hB' : (s.size : Int) - (a : Int) - 8 < (m : Int) := by omega
        clear hA
        go_wp2_with fail
        go_ret3
        rw [HDA.out, HNA.out, HE.out]
        exact ⟨rfl, B1.out⟩
      · have hA' : (m : Int) ≤ 16384 := by omega
        have hB' : (m : Int) ≤ (s.size : Int) - (a : Int) - 8 := by omega
        have hm8 : a + 8 + m ≤ s.size := by omega
        have HF2 : Hid (eZ = if chk (datL Z) ≠ kk then 50 else 0) := by show _ = _; rw [HF.out, if_neg hA, if_neg hB]
        have HXE : Hid (intsOf (s.extract (a + 8) (a + 8 + m)) = datL Z) := by show _ = _; rw [HX.out m, HDL.out]
        have HXS := Lib.hid (str_intsOf (s.extract (a + 8) (a + 8 + m)))
        have HXN := Lib.hid (intsOf_nats (s.extract (a + 8) (a + 8 + m)))
        have HXZ : Hid ((s.extract (a + 8) (a + 8 + m)).size ≤ 20000) := by show _ ≤ _; rw [ByteArray.size_extract]; omega
        rw [HXE.out] at HXS HXN
        have HK : Hid (((checkN (natsOf (datL Z)) : Nat) : Int) = chk (datL Z)) := rfl
        clear hA hB
        generalize datL Z = D at *
        go_wp2_with fail
        refine (refcrc_any _ w1 HXZ.out).mono ?_
        rintro y w2 ⟨rfl, hb2⟩
        rw [← HXN.out, HK.out]
        have B2 := Lib.hid (B1.out.trans (hb2.mono B1.out.size))
        clear hb2
        generalize chk D = cD at *
        go_wp2_with fail
        refine (HC2.out w2).mono ?_
        rintro y w3 ⟨rfl, hb3⟩
        have B3 := Lib.hid (B2.out.trans (hb3.mono B2.out.size))
        clear hb3
        by_cases hC : cD = kk
        · have HE : Hid (eZ = 0) := by show _ = _; rw [HF2.out, if_neg (by simp [hC])]
          have hC' : (cD != kk) = false := by simp [hC]
          clear hC
          go_wp2_with fail
          go_ret3
          rw [HDA.out, HNA.out, HE.out, if_pos rfl, if_pos rfl, HXS.out]
          exact ⟨rfl, B3.out⟩
        · have HE : Hid (eZ = 50) := by show _ = _; rw [HF2.out, if_pos hC]
          have hC' : (cD != kk) = true := by simpa using hC
          clear hC
          go_wp2_with fail
          go_ret3
          rw [HDA.out, HNA.out, HE.out]
          exact ⟨rfl, B3.out⟩
end Go.Proofs.Ytjbhcdmeeakdcaa
