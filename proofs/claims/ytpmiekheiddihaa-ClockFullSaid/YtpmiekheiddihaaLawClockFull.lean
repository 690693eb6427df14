/- ClockFull: the walk. -/
import Derived.Test.YtpmiekheiddihaaClkNm
namespace Go.Proofs.Ytpmiekheiddihaa
open Go.RowKit Go.Maps
set_option linter.unusedSimpArgs false in
set_option maxHeartbeats 4000000 in
set_option maxRecDepth 100000 in
theorem full_walk (n later : Int) (w : World) (_ : -9223372036854775808 ≤ n ∧ n ≤ 9223372036854775807) (_ : -9223372036854775808 ≤ later ∧ later ≤ 9223372036854775807) :
    Calls Try.prog 5 #[.int .i64 n, .int .i64 later] w fun e w' => e = .returned (.bool true) ∧ Below w.heap.size w w' := by
  have HT := Lib.hid (ticks_any w)
  go_enter Try.func5, Try.ntmps5
  go_wp2_with fail
  refine HT.out.mono ?_
  rintro q w1 ⟨rfl, hb1⟩
  have HB1 := Lib.hid hb1
  clear hb1 HT
  by_cases c1 : n < 4090
  case pos =>
    go_wp2_with fail
    go_ret
    exact ⟨rfl, HB1.out⟩
  by_cases c2 : 4100 < n
  case pos =>
    have c1' : (4090 : Int) ≤ n := by omega
    clear c1
    go_wp2_with fail
    go_ret
    exact ⟨rfl, HB1.out⟩
  by_cases c3 : later < 1
  case pos =>
    have c1' : (4090 : Int) ≤ n := by omega
    have c2' : n ≤ (4100 : Int) := by omega
    clear c1 c2
    go_wp2_with fail
    go_ret
    exact ⟨rfl, HB1.out⟩
  by_cases c4 : 1000 < later
  case pos =>
    have c1' : (4090 : Int) ≤ n := by omega
    have c2' : n ≤ (4100 : Int) := by omega
    have c3' : (1 : Int) ≤ later := by omega
    clear c1 c2 c3
    go_wp2_with fail
    go_ret
    exact ⟨rfl, HB1.out⟩
  have HAB : Hid (4090 ≤ n ∧ n ≤ 4100 ∧ 1 ≤ later ∧ later ≤ 1000) := Lib.hid (by omega)
  have c1' : (4090 : Int) ≤ n := by omega
  have c2' : n ≤ (4100 : Int) := by omega
  have c3' : (1 : Int) ≤ later := by omega
  have c4' : later ≤ (1000 : Int) := by omega
  clear c1 c2 c3 c4
  have HNW := Lib.hid (lnew_any w w1 HB1.out)
  go_wp2_with fail
  refine HNW.out.mono ?_
  rintro q w2 ⟨rfl, hc, -⟩
  have HREL : Hid (∃ ds, LC w [] w2 (w1.heap.size + 1) 0 (min 0 4096) ds ∧ Nms ds (min 0 4096)) := Lib.hid ⟨[], hc, rfl⟩
  clear hc HNW HB1
  generalize w1.heap.size + 1 = gc at *
  go_wp2_with fail
  go_loopw [26] (fun v wr => ∃ i : Nat, (i : Int) ≤ n ∧ v = .int .i64 i ∧ Hid (∃ ds, LC w [] wr gc 0 (min i 4096) ds ∧ Nms ds (min i 4096))) (fun v _ => (n - intOf v).toNat)
  case atStart => exact ⟨0, by omega, rfl, HREL⟩
  case round =>
    obtain ⟨i, hi, rfl, HJ⟩ := hrel
    clear HREL
    by_cases hlt : (i : Int) < n
    · have hi41 : i + 1 ≤ 4100 := by omega
      obtain ⟨A1, hA1⟩ : ∃ a, a = i % 256 := ⟨_, rfl⟩
      obtain ⟨Q1, hQ1⟩ : ∃ a, a = i / 256 := ⟨_, rfl⟩
      obtain ⟨A2, hA2⟩ : ∃ a, a = i / 256 % 256 := ⟨_, rfl⟩
      have u1 : IntKind.u8.wrap (i : Int) = (A1 : Int) := by rw [u8_mod, ← hA1]
      have u2 : (i : Int).tdiv 256 = (Q1 : Int) := by rw [hQ1]; rfl
      have u3 : wrap64 (Q1 : Int) = (Q1 : Int) := IntWalk.wrap64_in _ (by omega)
      have u4 : IntKind.u8.wrap (Q1 : Int) = (A2 : Int) := by rw [u8_mod, hQ1, ← hA2]
      have hcv := two_conv wr (A1 : Int) (A2 : Int)
      have hnm : strOfNums [(A1 : Int), (A2 : Int)] = nmI i := by rw [hA1, hA2]; rfl
      rw [hnm] at hcv
      clear hnm hA1 hQ1 hA2
      obtain ⟨ds, hck, hnn⟩ := HJ.out
      have HCK := Lib.hid (hck.kept (oneB wr (.cells #[.int .u8 (A1 : Int), .int .u8 (A2 : Int)] 5)))
      have HNN := Lib.hid hnn
      have HS := Lib.hid (lset_any w [] (wr.alloc (.cells #[.int .u8 (A1 : Int), .int .u8 (A2 : Int)] 5)) gc 0 (min i 4096) ds (nmI i) later HCK.out (by have := HAB.out; omega) (by rw [nmI_size]; decide) (by omega))
      clear hck
      by_cases h4 : i < 4096
      · have h4I : (i : Int) < 4096 := by omega
        have hm : min i 4096 = i := by omega
        have he : setE 0 ds (nmI i) later = 0 := set_zero (by have := HAB.out; omega) (by have := HAB.out; omega) (by rw [hnn.len]; omega)
        rw [he] at HS
        have HE := Lib.hid (And.intro he hm)
        clear he hm h4 hnn
        go_wp2_with fail
        refine HS.out.mono ?_
        rintro q w5 ⟨rfl, -, -, k5, ds5, hc5, hr5⟩
        obtain ⟨rfl, b5, rfl⟩ := hr5.1 HE.out.1
        have HNX : Hid (∃ ds, LC w [] w5 gc 0 (min (i + 1) 4096) ds ∧ Nms ds (min (i + 1) 4096)) := Lib.hid (by
          have hm2 : min (i + 1) 4096 = min i 4096 + 1 := by omega
          rw [hm2]
          refine ⟨_, hc5, ?_⟩
          rw [HE.out.2]
          have h1 := HNN.out
          rw [HE.out.2] at h1
          exact h1.more (by omega))
        clear hc5 hr5 HS HJ
        go_wp2_with fail
        go_roundw
        case rel => exact ⟨i + 1, by omega, by go_num, HNX⟩
        case measure => simp [intOf]; omega
      · have h4I : (4096 : Int) ≤ (i : Int) := by omega
        have hm : min i 4096 = 4096 := by omega
        have he : setE 0 ds (nmI i) later = 3 := by
          unfold setE
          rw [if_neg (by have := HAB.out; omega), if_pos ⟨hnn.no (by omega) (by omega), by rw [hnn.len]; omega⟩]
        rw [he] at HS
        have HE := Lib.hid (And.intro he hm)
        clear he hm h4 hnn
        go_wp2_with fail
        refine HS.out.mono ?_
        rintro q w5 ⟨rfl, -, -, k5, ds5, hc5, hr5⟩
        obtain ⟨rfl, rfl⟩ := hr5.2 (by rw [HE.out.1]; decide)
        have HNX : Hid (∃ ds, LC w [] w5 gc 0 (min (i + 1) 4096) ds ∧ Nms ds (min (i + 1) 4096)) := Lib.hid (by
          have hm2 : min (i + 1) 4096 = min i 4096 := by omega
          rw [hm2]
          exact ⟨_, hc5, HNN.out⟩)
        clear hc5 hr5 HS HJ
        go_wp2_with fail
        go_roundw
        case rel => exact ⟨i + 1, by omega, by go_num, HNX⟩
        case measure => simp [intOf]; omega
    · have hle : n ≤ (i : Int) := by omega
      obtain ⟨ds, hck, hnn⟩ := HJ.out
      have hni : n = (i : Int) := by omega
      have HCK := Lib.hid hck
      have HNN := Lib.hid hnn
      by_cases h4 : n ≤ 4096
      · have hm : min i 4096 = i := by omega
        have HLN := Lib.hid hck.len_any
        rw [hnn.len, hm, ← hni] at HLN
        clear hm hnn hck HJ hni
        go_wp2_with fail
        refine HLN.out.mono ?_
        rintro q wa ⟨rfl, rfl⟩
        go_wp2_with fail
        go_ret
        exact ⟨by first | rfl | simp, HCK.out.below⟩
      · have hm : min i 4096 = 4096 := by omega
        have h4I : (4096 : Int) < n := by omega
        rw [hm] at hck hnn
        have HFE := Lib.hid (fun b b2 t s t2 s2 => full_end hck.ck.nd hnn later (by have := HAB.out; omega) b b2 t s t2 s2)
        have HS := Lib.hid (lset_any w [] wr gc 0 4096 ds ⟨#[0, 0]⟩ later hck (by have := HAB.out; omega) (by decide) (by decide))
        rw [(HFE.out 0 0 0 0 0 0).1] at HS
        clear hm hnn hck HJ hni h4 HCK HNN
        go_wp2_with fail
        refine HS.out.mono ?_
        rintro q w5 ⟨rfl, -, -, k5, ds5, hc5, hr5⟩
        obtain ⟨rfl, b5, hd5⟩ := hr5.1 (HFE.out 0 0 0 0 0 0).1
        have HC5 := Lib.hid hc5
        have HD5 := Lib.hid (fun b2 t2 s2 => (HFE.out b5 b2 _ _ t2 s2).2 ds5 hd5)
        clear hc5 hr5 HS hd5
        have HS := Lib.hid (lset_any w [] w5 gc 0 4097 ds5 ⟨#[122]⟩ 1 HC5.out (by decide) (by decide) (by decide))
        rw [(HD5.out 0 0 0).1] at HS
        go_wp2_with fail
        refine HS.out.mono ?_
        rintro q w6 ⟨rfl, -, -, k6, ds6, hc6, hr6⟩
        obtain ⟨rfl, rfl⟩ := hr6.2 (by rw [(HD5.out 0 0 0).1]; decide)
        have HC6 := Lib.hid hc6
        clear hc6 hr6 HS HC5
        have HDR := Lib.hid (ldrop_any w [] w6 gc 0 4097 ds6 ⟨#[1, 0]⟩ HC6.out (by decide))
        rw [(HD5.out 0 0 0).2.1] at HDR
        go_wp2_with fail
        refine HDR.out.mono ?_
        rintro q w7 ⟨rfl, -, -, hc7⟩
        have HC7 := Lib.hid hc7
        clear hc7 HDR HC6
        have HS := Lib.hid (lset_any w [] w7 gc 0 4097 _ ⟨#[122]⟩ 1 HC7.out (by decide) (by decide) (by decide))
        rw [(HD5.out 0 0 0).2.2.1] at HS
        go_wp2_with fail
        refine HS.out.mono ?_
        rintro q w8 ⟨rfl, -, -, k8, ds8, hc8, hr8⟩
        obtain ⟨rfl, b8, hd8⟩ := hr8.1 (HD5.out 0 0 0).2.2.1
        have HLN := Lib.hid hc8.len_any
        have hln : ds8.length = 4096 := by rw [hd8]; exact (HD5.out b8 _ _).2.2.2
        rw [hln] at HLN
        have HBB := Lib.hid hc8.below
        clear hc8 hr8 HS HC7 hd8 hln
        go_wp2_with fail
        refine HLN.out.mono ?_
        rintro q wa ⟨rfl, rfl⟩
        go_wp2_with fail
        go_ret
        exact ⟨rfl, HBB.out⟩
end Go.Proofs.Ytpmiekheiddihaa
