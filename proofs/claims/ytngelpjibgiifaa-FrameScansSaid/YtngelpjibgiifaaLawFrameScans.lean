/- FrameScans: the walk. -/
import Derived.Test.YtngelpjibgiifaaFrameHead
import Derived.Test.YtngelpjibgiifaaScanF
import Derived.Test.YtngelpjibgiifaaRefScan
namespace Go.Proofs.Ytngelpjibgiifaa
open Go.RowKit
theorem map_getD (L : List (List Int)) (i : Nat) (hi : i < L.length) : (L.map strV).getD i undef = .string (strOfNums (L.getD i [])) := by
  rw [List.getD_eq_getElem?_getD, List.getElem?_map, List.getElem?_eq_getElem hi, List.getD_eq_getElem?_getD, List.getElem?_eq_getElem hi]; rfl
set_option maxHeartbeats 8000000 in
set_option maxRecDepth 100000 in
theorem fscans_walk (vt : Value) (text : List Int) (W : World) (ot : Oct text) (rt : Row .u8 W vt text) (lt : text.length ≤ 140737488355328) :
    Calls Try.prog 7 #[vt] W fun e W' => e = .returned (.bool true) ∧ Below W.heap.size W W' := by
  obtain ⟨pt, ct, rfl⟩ := rt.shape
  have RT := Lib.hid rt
  clear rt
  by_cases hg : (text.length : Int) ≤ 3000
  · have HS := Lib.hid (fun w => refscan_any (strOfNums text) (by rw [strOfNums_size]; omega) w)
    rw [intsOf_str ot] at HS
    have HF := Lib.hid (fun w h => fscan_any (.slice pt text.length ct) text ot (by omega) w h)
    have HLEN : Hid ((scD text).length ≤ 3000) := by
      show _ ≤ _
      have : ∀ (n : Nat) (l : List Int), l.length ≤ n → Oct l → (scD l).length ≤ n := by
        intro n
        induction n with
        | zero =>
          intro l hl _
          rw [(sc_short (l := l) (by omega)).1]; simp
        | succ n ih =>
          intro l hl ho
          by_cases he : frE l = 0
          · have hk := frE_ok ho he
            rw [(sc_yes ho he).1, List.length_cons]
            have := ih (l.drop (frN l).toNat) (by rw [List.length_drop]; omega) (ho.drop _)
            omega
          · rw [(sc_no he).1]; simp
      exact this 3000 text (by omega) ot
    generalize scD text = L at *
    generalize scN text = nn at *
    go_enter Try.func7, Try.ntmps7
    go_wp2_with fail
    refine (records_any W).mono ?_
    rintro y w0 ⟨rfl, hb0⟩
    have B0 := Lib.hid hb0
    clear hb0
    go_wp2_with fail
    refine (HF.out w0 (RT.out.under B0.out (Nat.le_refl _))).mono ?_
    rintro y w1 ⟨v1, rfl, ho1, hb1⟩
    obtain ⟨p1, c1, rfl⟩ := ho1.form
    have B1 := Lib.hid (B0.out.trans (hb1.mono B0.out.size))
    have O1 := Lib.hid ho1
    have kT := conv_row (P := Try.prog) w1 22 9 5 Try.underlying22 Try.underlying5 Try.underlying9 _ _ (RT.out.under B1.out (Nat.le_refl _))
    clear hb1 ho1
    go_wp2_with fail
    refine (HS.out w1).mono ?_
    rintro y w2 ⟨v2, rfl, ho2, hb2⟩
    obtain ⟨p2, c2, hv2⟩ := ho2.form
    rw [List.length_map] at hv2
    subst hv2
    have B2 := Lib.hid (B1.out.trans (hb2.mono B1.out.size))
    have O2 := Lib.hid ho2
    have OS := Lib.hid (O1.out.later hb2)
    clear hb2 ho2 kT
    generalize hn : L.length = n at *
    have HN := Lib.hid hn
    clear hn
    go_wp2_with fail
    go_loopw [36] (fun i wr => ∃ k : Nat, k ≤ n ∧ i = .int .i64 k ∧ Hid (Below w2.heap.size w2 wr)) (fun i _ => n - (intOf i).toNat)
    case atStart => exact ⟨0, by omega, rfl, Below.refl _ _⟩
    case round =>
      obtain ⟨k, hk, rfl, HK⟩ := hrel
      by_cases hlt : k < n
      · have OSk := OS.out.later HK.out
        have hn3 : n ≤ 3000 := HLEN.out
        obtain ⟨g1, q, d, rfl, hc1, hr1⟩ := OSk.at_ k hlt
        obtain ⟨g2, rfl⟩ := O2.out.some_ (by omega)
        have hc2 := ((O2.out.later HK.out).cell k hlt).2
        rw [map_getD L k (by rw [HN.out]; exact hlt)] at hc2
        have kk := conv_row (P := Try.prog) wr.drew 22 9 5 Try.underlying22 Try.underlying5 Try.underlying9 _ _ (hr1.under (Below.refl _ wr).drew (Nat.le_refl _))
        have HKd := Lib.hid HK.out.drew
        generalize L.getD k [] = D at *
        clear OSk hr1
        go_wp2_with fail
        go_region
        go_wp2_with fail
        go_roundw
        case rel => exact ⟨k + 1, by omega, by go_num, HKd⟩
        case measure => simp [intOf]; omega
      · have hkn : (n : Int) ≤ (k : Int) := by omega
        go_wp2_with fail
        go_ret
        exact ⟨rfl, B2.out.trans (HK.out.mono B2.out.size)⟩
  · have hg' : (3000 : Int) < (text.length : Int) := by omega
    clear hg
    go_enter Try.func7, Try.ntmps7
    go_wp2_with fail
    refine (records_any W).mono ?_
    rintro y w0 ⟨rfl, hb0⟩
    go_wp2_with fail
    go_ret
    exact ⟨rfl, hb0⟩
end Go.Proofs.Ytngelpjibgiifaa
