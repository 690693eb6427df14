/- ClockOnce: the walk. -/
import Derived.Test.YtpmiekheiddihaaClkOne
namespace Go.Proofs.Ytpmiekheiddihaa
open Go.RowKit Go.Maps
theorem Row.form_ {k : IntKind} {w : World} {v : Value} {zs : List Int} (h : Row k w v zs) : ∃ p c, v = .slice p zs.length c := by obtain ⟨p, c, e, _⟩ := h; exact ⟨p, c, e⟩
set_option linter.unusedSimpArgs false in
set_option maxHeartbeats 4000000 in
set_option maxRecDepth 100000 in
theorem once_walk (v : Value) (zs : List Int) (w : World) (oz : All64 zs) (rz : Row .i64 w v zs) (lz : zs.length ≤ 140737488355328) :
    Calls Try.prog 4 #[v] w fun e w' => e = .returned (.bool true) ∧ Below w.heap.size w w' := by
  obtain ⟨p, c, rfl⟩ := rz.form_
  have HT := Lib.hid (ticks_any w)
  have HZ := Lib.hid oz
  have HR0 := Lib.hid rz
  clear oz rz
  go_enter Try.func4, Try.ntmps4
  go_wp2_with fail
  refine HT.out.mono ?_
  rintro q w1 ⟨rfl, hb1⟩
  have HB1 := Lib.hid hb1
  clear hb1 HT
  by_cases c1 : (100 : Int) < (zs.length : Int)
  case pos =>
    go_wp2_with fail
    go_ret
    exact ⟨rfl, HB1.out⟩
  have c1' : (zs.length : Int) ≤ 100 := by omega
  clear c1
  have HNW := Lib.hid (lnew_any w w1 HB1.out)
  go_wp2_with fail
  refine HNW.out.mono ?_
  rintro q w2 ⟨rfl, hc, -⟩
  have HREL : Hid (∃ (k : Nat) (ds : List Du), LC w [] w2 (w1.heap.size + 1) 0 k ds ∧ k ≤ 0 ∧ Onc zs 0 ds ∧ ds.length = 0) := Lib.hid ⟨0, [], hc, Nat.le_refl _, rfl, rfl⟩
  clear hc HNW HB1
  generalize w1.heap.size + 1 = gc at *
  go_wp2_with fail
  go_loopw [4, 20] (fun nv v wr => ∃ i nn : Nat, i ≤ zs.length ∧ v = .int .i64 i ∧ nv = .int .i64 nn ∧ nn ≤ i ∧ Hid (∃ (k : Nat) (ds : List Du), LC w [] wr gc 0 k ds ∧ k ≤ i ∧ Onc zs i ds ∧ ds.length = nn)) (fun _ v _ => zs.length - (intOf v).toNat)
  case atStart => exact ⟨0, 0, Nat.zero_le _, rfl, rfl, Nat.le_refl _, HREL⟩
  case round =>
    obtain ⟨i, nn, hi, rfl, rfl, hnn, HJ⟩ := hrel
    clear HREL
    by_cases hlt : i < zs.length
    · have hltI : (i : Int) < (zs.length : Int) := by omega
      obtain ⟨k, ds, hck, hk, hon, hln⟩ := HJ.out
      have HCK0 := Lib.hid hck
      have HON := Lib.hid (And.intro hon hln)
      have HI : Hid (i < 100 ∧ k ≤ i) := Lib.hid (by omega)
      obtain ⟨b0, o0, rfl, hcell⟩ := (HR0.out.kept hck.below).plc i hlt
      have hk64 := HZ.out.getD i
      generalize hkk : zs.getD i 0 = kk at hcell hk64
      have HKK := Lib.hid hkk
      clear hkk hck hk hon hln HJ
      by_cases k1 : (1 : Int) ≤ kk
      · by_cases k2 : kk ≤ (50 : Int)
        · have u1 : IntKind.u8.wrap (i : Int) = (i : Int) := by rw [u8_mod]; omega
          have hcv := two_conv wr (i : Int) 120
          have hnm : strOfNums [(i : Int), 120] = nmX i := by unfold nmX; rw [Nat.mod_eq_of_lt (by omega)]
          rw [hnm] at hcv
          have HKB : Hid (1 ≤ kk ∧ kk ≤ 50) := Lib.hid ⟨k1, k2⟩
          have HCK := Lib.hid (HCK0.out.kept (oneB wr (.cells #[.int .u8 (i : Int), .int .u8 120] 5)))
          have HS := Lib.hid (lset_any w [] (wr.alloc (.cells #[.int .u8 (i : Int), .int .u8 120] 5)) gc 0 k ds (nmX i) kk HCK.out (by omega) (by rw [nmX_size]; decide) (by have := HI.out; omega))
          have he : setE 0 ds (nmX i) kk = 0 := set_zero (by omega) (by omega) (by have := HON.out.2; omega)
          rw [he] at HS
          have HE := Lib.hid he
          clear he hnm
          go_wp2_with fail
          refine HS.out.mono ?_
          rintro q w5 ⟨rfl, -, -, k5, ds5, hc5, hr5⟩
          obtain ⟨rfl, b5, rfl⟩ := hr5.1 HE.out
          have HNX : Hid (∃ (k : Nat) (ds : List Du), LC w [] w5 gc 0 k ds ∧ k ≤ i + 1 ∧ Onc zs (i + 1) ds ∧ ds.length = nn + 1) := Lib.hid (by
            have h1 := HON.out.1
            have h2 := HKK.out
            refine ⟨_, _, hc5, by have := HI.out; omega, ?_, ?_⟩
            · have h3 := h1.more (b := b5) (s := (k : Int) + 1) (by have := HI.out; omega) (by rw [h2]; exact HKB.out)
              rw [h2] at h3
              exact h3
            · rw [drop_self (h1.no (by have := HI.out; omega)), List.length_append, HON.out.2]; rfl)
          clear hc5 hr5 HS HCK HCK0 HON HE
          go_wp2_with fail
          go_roundw
          case rel => exact ⟨i + 1, nn + 1, by omega, by go_num, by go_num, by omega, HNX⟩
          case measure => simp [intOf]; omega
        · have HNX : Hid (∃ (k : Nat) (ds : List Du), LC w [] wr gc 0 k ds ∧ k ≤ i + 1 ∧ Onc zs (i + 1) ds ∧ ds.length = nn) := Lib.hid ⟨k, ds, HCK0.out, by have := HI.out; omega, HON.out.1.same (by rw [HKK.out]; omega), HON.out.2⟩
          have k2' : (50 : Int) < kk := by omega
          clear HCK0 HON k2
          go_wp2_with fail
          go_roundw
          case rel => exact ⟨i + 1, nn, by omega, by go_num, rfl, by omega, HNX⟩
          case measure => simp [intOf]; omega
      · have HNX : Hid (∃ (k : Nat) (ds : List Du), LC w [] wr gc 0 k ds ∧ k ≤ i + 1 ∧ Onc zs (i + 1) ds ∧ ds.length = nn) := Lib.hid ⟨k, ds, HCK0.out, by have := HI.out; omega, HON.out.1.same (by rw [HKK.out]; omega), HON.out.2⟩
        have k1' : kk < (1 : Int) := by omega
        clear HCK0 HON k1
        go_wp2_with fail
        go_roundw
        case rel => exact ⟨i + 1, nn, by omega, by go_num, rfl, by omega, HNX⟩
        case measure => simp [intOf]; omega
    · have hle : (zs.length : Int) ≤ (i : Int) := by omega
      obtain ⟨k, ds, hck, hk, hon, hln⟩ := HJ.out
      have HON : Hid (Onc zs zs.length ds ∧ k ≤ 100 ∧ zs.length ≤ 100) := Lib.hid ⟨(by rw [show zs.length = i by omega]; exact hon), by omega, by omega⟩
      have HREL : Hid (LC w [] wr gc ((0 : Nat) : Int) k (aftL ((0 : Nat) : Int) ds)) := Lib.hid (by
        rw [aft_all (fun d hd => by have := hon.t hd; omega)]
        exact hck)
      have hnl : (nn : Int) = ((aftL ((0 : Nat) : Int) ds).length : Int) := by
        rw [aft_all (fun d hd => by have := hon.t hd; omega), hln]
      clear hck hk hon hln HJ hle hnn hi
      go_wp2_with fail
      go_loopw [4, 7] (fun nv v wr => ∃ T : Nat, T ≤ 50 ∧ v = .int .i64 ((T : Int) + 1) ∧ nv = .int .i64 (aftL (T : Int) ds).length ∧ Hid (LC w [] wr gc (T : Int) k (aftL (T : Int) ds))) (fun _ v _ => 51 - (intOf v).toNat)
      case atStart => exact ⟨0, Nat.zero_le _, rfl, (by rw [hnl]), HREL⟩
      case round =>
        obtain ⟨T, hT, rfl, rfl, HJ⟩ := hrel
        clear HREL hnl
        by_cases hlt : T < 50
        · have hltI : (T : Int) + 1 ≤ 50 := by omega
          have HTK := Lib.hid (ltick_any w [] wr gc (T : Int) k _ HJ.out)
          have hat := aft_tick (T := (T : Int)) (ds := ds) (by omega)
          have hal := aft_len (T : Int) ds
          rw [hat.1, hat.2.1, hat.2.2, HON.out.1.told ((T : Int) + 1)] at HTK
          have hil : ((atL ((T : Int) + 1) ds).map (·.nm)).length = (idL zs zs.length ((T : Int) + 1)).length := by rw [HON.out.1.told, List.length_map]
          rw [List.length_map] at hil
          obtain ⟨IL, hIL⟩ : ∃ IL, idL zs zs.length ((T : Int) + 1) = IL := ⟨_, rfl⟩
          have HIL : Hid (IL.Pairwise (· < ·) ∧ (∀ i ∈ IL, i < zs.length ∧ zs.getD i 0 = (T : Int) + 1) ∧ (aftL (T : Int) ds).length = IL.length + (aftL ((T : Int) + 1) ds).length ∧ ds.length ≤ 100) := Lib.hid ⟨by rw [← hIL]; exact idL_lt _ _ _, fun i hi => by rw [← hIL] at hi; exact idL_at hi, by rw [hal, hil, hIL], Nat.le_trans HON.out.1.le HON.out.2.2⟩
          rw [hIL] at HTK
          obtain ⟨n0, hn0⟩ : ∃ n0, (aftL (T : Int) ds).length = n0 := ⟨_, rfl⟩
          obtain ⟨n1, hn1⟩ : ∃ n1, (aftL ((T : Int) + 1) ds).length = n1 := ⟨_, rfl⟩
          rw [hn0] at HIL ⊢
          rw [hn1] at HIL
          have HN1 := Lib.hid hn1
          have hn0' : n0 ≤ 100 := by have h1 : (aftL (T : Int) ds).length ≤ ds.length := List.length_filter_le _ _; have := HIL.out.2.2.2; omega
          clear hat hal hil hIL hn0 hn1
          go_wp2_with fail
          refine HTK.out.mono ?_
          rintro q w8 ⟨v8, rfl, ho8, -, -, hl8⟩
          have HC8 := Lib.hid (hl8 [] (fun _ hx => by cases hx) (fun _ _ _ e => by cases e))
          have HO8 := Lib.hid ho8
          obtain ⟨p8, c8, hv8⟩ := ho8.form
          rw [List.length_map] at hv8
          generalize hn8 : IL.length = n8 at hv8
          subst hv8
          have HN8 := Lib.hid hn8
          have hn8' : n8 ≤ n0 := by have := HIL.out.2.2.1; omega
          clear hn8 ho8 hl8 HTK HJ
          go_wp2_with fail
          go_loopw [4, 8, 49] (fun nv lv v wx => ∃ j : Nat, j ≤ n8 ∧ v = .int .i64 j ∧ nv = .int .i64 ((n0 : Int) - (j : Int)) ∧ lv = .int .i64 (lastI IL j) ∧ wx = w8) (fun _ _ v _ => n8 - (intOf v).toNat)
          case atStart => exact ⟨0, Nat.zero_le _, rfl, (by simp), rfl, rfl⟩
          case round =>
            obtain ⟨j, hj, rfl, rfl, rfl, rfl⟩ := hrel
            by_cases hin : j < n8
            · have hinI : (j : Int) < (n8 : Int) := by omega
              have hjl : j < IL.length := by rw [HN8.out]; exact hin
              have hll := last_lt HIL.out.1 hjl
              have HLN := Lib.hid (last_next hjl)
              obtain ⟨hi1, hi2⟩ := HIL.out.2.1 IL[j] (List.getElem_mem hjl)
              obtain ⟨g8, rfl, hcell⟩ := HO8.out.strs j (by rw [List.length_map]; exact hjl)
              rw [List.getElem_map] at hcell
              obtain ⟨b0, o0, rfl, hcell2⟩ := (HR0.out.kept HC8.out.below).plc IL[j] hi1
              rw [hi2] at hcell2
              generalize IL[j] = x at *
              generalize lastI IL j = la at *
              have hx : x < 100 := by have := HON.out.2.2; omega
              have hsz : 0 < (nmX x).size := by rw [nmX_size]; decide
              have hg : (((nmX x)[0]'hsz).toNat : Int) = (x : Int) := by rw [nmX_get x (by omega)]
              have hxI : (x : Int) < (zs.length : Int) := by omega
              have hx0 : (0 : Int) ≤ (x : Int) := by omega
              have e3 : wrap64 ((n0 : Int) - (j : Int) - 1) = (n0 : Int) - (j : Int) - 1 := IntWalk.wrap64_in _ (by omega)
              generalize nmX x = s at *
              clear hi2 hjl hi1
              go_wp2_with fail
              go_roundw
              case rel => exact ⟨j + 1, by omega, by go_num, (by show _ = Value.int .i64 ((n0 : Int) - ((j + 1 : Nat) : Int)); congr 1; omega), (by rw [HLN.out]), (by first | rfl | trivial)⟩
              case measure => simp [intOf]; omega
            · have hle : (n8 : Int) ≤ (j : Int) := by omega
              have HNX : Hid (LC w [] wr gc (((T + 1 : Nat)) : Int) k (aftL (((T + 1 : Nat)) : Int) ds)) := Lib.hid (by have h1 := HC8.out; rw [show ((T + 1 : Nat) : Int) = (T : Int) + 1 by omega]; exact h1)
              have HNN : Hid ((n0 : Int) - (j : Int) = ((aftL (((T + 1 : Nat)) : Int) ds).length : Int)) := Lib.hid (by rw [show ((T + 1 : Nat) : Int) = (T : Int) + 1 by omega, HN1.out]; have := HIL.out.2.2.1; have := HN8.out; omega)
              clear HC8 HO8 HIL HN1 HN8 hin
              go_wp2_with fail
              go_roundw
              case rel => exact ⟨T + 1, by omega, by go_num, (by rw [HNN.out]), HNX⟩
              case measure => simp [intOf]; omega
        · have hle : (50 : Int) < (T : Int) + 1 := by omega
          obtain rfl : T = 50 := by omega
          have hz : aftL ((50 : Nat) : Int) ds = [] := aft_none (fun d hd => (HON.out.1.t hd).2)
          rw [hz] at HJ ⊢
          have HLN := Lib.hid HJ.out.len_any
          have HBB := Lib.hid HJ.out.below
          clear HJ hlt
          go_wp2_with fail
          refine HLN.out.mono ?_
          rintro q wa ⟨rfl, rfl⟩
          go_wp2_with fail
          go_ret
          exact ⟨rfl, HBB.out⟩
end Go.Proofs.Ytpmiekheiddihaa
