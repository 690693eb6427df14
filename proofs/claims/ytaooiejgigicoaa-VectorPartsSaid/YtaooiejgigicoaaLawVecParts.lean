/- VectorParts: the walk. -/
import Derived.Test.YtaooiejgigicoaaPutApp
import Derived.Deep.RegionHeld3
namespace Go.Proofs.Ytaooiejgigicoaa
open Go.RowKit
set_option linter.unusedSimpArgs false in
set_option maxHeartbeats 16000000 in
set_option maxRecDepth 100000 in
theorem vparts_walk (v u : Value) (ps qs : List Pos) (w : World) (hr : PRow w v ps) (hf : ∀ p ∈ ps, FitP p) (hr2 : PRow w u qs) (hf2 : ∀ p ∈ qs, FitP p) : Calls Try.prog 7 #[v, u] w fun e w' => e = .returned (.bool true) ∧ Below w.heap.size w w' := by
  have HL := Lib.hid (fun w => holds_any w)
  obtain ⟨pv, cv, rfl⟩ := hr.shape
  obtain ⟨pu, cu, rfl⟩ := hr2.shape
  have HV := Lib.hid hr
  have HU := Lib.hid hr2
  have HFV := Lib.hid hf
  have HFU := Lib.hid hf2
  clear hr hr2 hf hf2
  generalize hn : ps.length = n at *
  generalize hm : qs.length = m at *
  have HN := Lib.hid hn
  have HM := Lib.hid hm
  clear hn hm
  have HB := Lib.hid (Below.refl w.heap.size w)
  by_cases h1 : n ≤ 30
  rotate_left
  · skip
    have g1 : (30 : Int) < (n : Int) := by omega
    clear HV HU HFV HFU HN HM HB
    go_enter Try.func7, Try.ntmps7
    go_wp2_with fail
    refine (HL.out _).mono ?_
    rintro y w1 ⟨rfl, hb1⟩
    go_wp2_with fail
    go_ret
    exact ⟨rfl, hb1⟩
  by_cases h2 : m ≤ 30
  rotate_left
  · skip
    have g0 : ¬ (30 : Int) < (n : Int) := by omega
    have g1 : (30 : Int) < (m : Int) := by omega
    clear HV HU HFV HFU HN HM HB
    go_enter Try.func7, Try.ntmps7
    go_wp2_with fail
    refine (HL.out _).mono ?_
    rintro y w1 ⟨rfl, hb1⟩
    go_wp2_with fail
    go_ret
    exact ⟨rfl, hb1⟩
  have g0 : ¬ (30 : Int) < (n : Int) := by omega
  have g1 : ¬ (30 : Int) < (m : Int) := by omega
  generalize hNM : n + m = NM at *
  have HNM := Lib.hid hNM
  have hN60 : NM ≤ 60 := by omega
  clear hNM
  have HLL : Hid ((ps ++ qs).length = NM) := by show _ = _; rw [List.length_append, HN.out, HM.out]; exact HNM.out
  go_enter Try.func7, Try.ntmps7
  go_wp2_with fail
  refine (HL.out _).mono ?_
  rintro y w1 ⟨rfl, hb⟩
  replace HV := Lib.hid (HV.out.kept hb)
  replace HU := Lib.hid (HU.out.kept hb)
  replace HB := Lib.hid (HB.out.trans (hb.mono HB.out.size))
  clear hb
  clear HL
  go_wp2_with (at_builtin; with_reducible refine stop_append (.tmp 30) (.tmp 31) 22 rfl ?_)
  have hbE := oneB w1 (.cells #[] 46)
  refine wpList_append_pos rfl (.tmp 30) (.tmp 31) 22 rfl 46 w1.heap.size elt_put (.slice (some ⟨w1.heap.size, 0, none⟩) 0 0) (.slice pv n cv) [] (ps) rfl rfl (ownP_empty w1 46 rfl) (HV.out.kept hbE) (by rw [HN.out]; simp only [List.length_nil]; omega) (by simp) (ps) (n) (List.nil_append _) (HN.out) ?_
  intro pwa cwa wa howa hbwa
  have hbwa2 := hbE.trans hbwa
  clear hbE hbwa
  have HOwa := Lib.hid howa
  have HEwa := Lib.hid hbwa2
  clear howa hbwa2
  go_wp2_with (at_builtin; with_reducible refine stop_append (.tmp 32) (.tmp 33) 22 rfl ?_)
  refine wpList_append_pos rfl (.tmp 32) (.tmp 33) 22 rfl 46 w1.heap.size elt_put (.slice pwa n cwa) (.slice pu m cu) (ps) (qs) rfl rfl HOwa.out (HU.out.kept HEwa.out) (by rw [HN.out, HM.out]; omega) HEwa.out.size (ps ++ qs) NM rfl HLL.out ?_
  intro pwb cwb wb howb hbwb
  have hbX := HEwa.out.trans hbwb
  have HOwb := Lib.hid howb
  clear howb hbwb HOwa HEwa
  replace HV := Lib.hid (HV.out.kept hbX)
  replace HU := Lib.hid (HU.out.kept hbX)
  replace HB := Lib.hid (HB.out.trans (hbX.mono HB.out.size))
  clear hbX
  clear g0 g1
  go_wp2_with fail
  have HREL : Hid (Below wb.heap.size wb wb ∧ ∀ p ∈ (ps ++ qs).take 0, SmallP p) := ⟨Below.refl _ _, fun _ h => by simp at h⟩
  go_loopw [36] (fun i wr => ∃ k : Nat, k ≤ NM ∧ i = .int .i64 k ∧ Hid (Below wb.heap.size wb wr ∧ ∀ p ∈ (ps ++ qs).take k, SmallP p)) (fun i _ => NM - (intOf i).toNat)
  case atStart => exact ⟨0, by omega, rfl, HREL⟩
  case round =>
    obtain ⟨k, hk, rfl, HK⟩ := hrel
    clear HREL
    by_cases hlt : k < NM
    · have hkl : k < (ps ++ qs).length := by rw [HLL.out]; exact hlt
      have hltI : (k : Int) < (NM : Int) := by omega
      have HTK : Hid ((ps ++ qs).take (k + 1) = (ps ++ qs).take k ++ [(ps ++ qs)[k]]) := List.take_succ_eq_append_getElem hkl
      obtain ⟨b, o, rfl, hbl, e0, e1, e2⟩ := (HOwb.out.row.kept HK.out.1).at_ k hkl
      have HBW := Lib.hid (HB.out.trans (HK.out.1.mono HB.out.size))
      generalize (ps ++ qs)[k] = P at *
      obtain ⟨e, c, a⟩ := P
      dsimp only at e0 e1 e2
      by_cases h3 : 1125899906842624 < a
      · go_wp2_with fail
        go_ret
        exact ⟨rfl, HBW.out.alloc HBW.out.size _⟩
      · by_cases h4 : a < -1125899906842624
        · go_wp2_with fail
          go_ret
          exact ⟨rfl, HBW.out.alloc HBW.out.size _⟩
        · have HNX : Hid (Below wb.heap.size wb (wr.alloc (.cells #[.int .i64 e, .int .i64 c, .int .i64 a] 46)) ∧ ∀ p ∈ (ps ++ qs).take (k + 1), SmallP p) := by
            refine ⟨HK.out.1.alloc HK.out.1.size _, fun p hp => ?_⟩
            rw [HTK.out] at hp
            rcases List.mem_append.1 hp with h | h
            · exact HK.out.2 p h
            · rw [List.mem_singleton.1 h]
              exact ⟨by dsimp only; omega, by dsimp only; omega⟩
          go_wp2_with fail
          go_roundw
          case rel => exact ⟨k + 1, by omega, by go_num, HNX⟩
          case measure => simp [intOf]; omega
    have hle : (NM : Int) ≤ (k : Int) := by omega
    have hall : ∀ p ∈ ps ++ qs, SmallP p := by
      have h := HK.out.2
      rwa [show k = (ps ++ qs).length by rw [HLL.out]; omega, List.take_length] at h
    have hbK := HK.out.1
    have HPP := Lib.hid (plus_parts ps qs (fun p h => hall p (List.mem_append_left _ h)) (fun p h => hall p (List.mem_append_right _ h)) (by rw [HN.out]; exact h1) (by rw [HM.out]; exact h2))
    have HPQ := Lib.hid (plus_parts qs ps (fun p h => hall p (List.mem_append_right _ h)) (fun p h => hall p (List.mem_append_left _ h)) (by rw [HM.out]; exact h2) (by rw [HN.out]; exact h1))
    have HFA : Hid (∀ p ∈ ps ++ qs, FitP p) := fun p h => (List.mem_append.1 h).elim (HFV.out p) (HFU.out p)
    clear hall
    replace HV := Lib.hid (HV.out.kept hbK)
    replace HU := Lib.hid (HU.out.kept hbK)
    replace HB := Lib.hid (HB.out.trans (hbK.mono HB.out.size))
    clear hbK HK HOwb
    go_wp2_with fail
    have HPC := Lib.hid (play_any wr (.slice pv n cv) ps HV.out (by rw [HN.out]; omega) HFV.out)
    unfold vecV at HPC
    refine (HPC.out).mono ?_
    rintro y w4 ⟨v4, rfl, hr4, hb4⟩
    obtain ⟨p4, c4, hv4⟩ := hr4.shape
    generalize hn4 : (posOf (playM ps)).length = n4 at hv4
    clear hn4
    subst hv4
    have HPW4 := Lib.hid (playw w w4 (.slice p4 n4 c4) (playM ps) (playM_len _) (HB.out.trans (hb4.mono HB.out.size)) hr4)
    have HTH4 := Lib.hid (zeros_there w4 (.slice p4 n4 c4) (playM ps) (playM_len _))
    have HIN4 := Lib.hid (mInfo (mCells (playM ps)) (by rw [mCells_size]; exact playM_len _))
    have HBK4 := Lib.hid hb4
    clear hr4 hb4
    go_wp2_with (with_reducible refine stop_store 30 (.tmp 8) (.tmp 53) rfl ?_)
    refine wpList_store_mid rfl 30 (.tmp 8) (.tmp 53) rfl (w4.heap.size + 1) 0 (mCells (playM ps)) rfl rfl HTH4.out HIN4.out (mCells_one (playM ps)) ?_
    obtain ⟨hbv4, hbm4, hbw4, hrow4, hbb4⟩ := HPW4.out
    clear HPW4 HTH4 HIN4
    generalize World.setCells _ (w4.heap.size + 1) 0 (mCells (playM ps)).toList = X4 at *
    have HV4 := Lib.hid hbv4
    have HM4 := Lib.hid hbm4
    have HW4 := Lib.hid hbw4
    have HR4 := Lib.hid hrow4
    have HBB4 := Lib.hid hbb4
    have cv4 : X4.cell? ⟨w4.heap.size, 0, none⟩ = some (.slice p4 n4 c4) := hbv4.cell 0
    have lv4 := hbv4.lt
    have lm4 := hbm4.lt
    clear hbv4 hbm4 hbw4 hrow4 hbb4
    clear HPC cv4 lv4 lm4
    have hbY := HBK4.out.trans (HBB4.out.mono HBK4.out.size)
    replace HV := Lib.hid (HV.out.kept hbY)
    replace HU := Lib.hid (HU.out.kept hbY)
    replace HB := Lib.hid (HB.out.trans (hbY.mono HB.out.size))
    clear hbY HBK4 HBB4 HW4
    go_wp2_with fail
    have HPC := Lib.hid (play_any X4 (.slice pu m cu) qs HU.out (by rw [HM.out]; omega) HFU.out)
    unfold vecV at HPC
    refine (HPC.out).mono ?_
    rintro y w5 ⟨v5, rfl, hr5, hb5⟩
    obtain ⟨p5, c5, hv5⟩ := hr5.shape
    generalize hn5 : (posOf (playM qs)).length = n5 at hv5
    clear hn5
    subst hv5
    have HPW5 := Lib.hid (playw w w5 (.slice p5 n5 c5) (playM qs) (playM_len _) (HB.out.trans (hb5.mono HB.out.size)) hr5)
    have HTH5 := Lib.hid (zeros_there w5 (.slice p5 n5 c5) (playM qs) (playM_len _))
    have HIN5 := Lib.hid (mInfo (mCells (playM qs)) (by rw [mCells_size]; exact playM_len _))
    have HBK5 := Lib.hid hb5
    clear hr5 hb5
    go_wp2_with (with_reducible refine stop_store 30 (.tmp 11) (.tmp 59) rfl ?_)
    refine wpList_store_mid rfl 30 (.tmp 11) (.tmp 59) rfl (w5.heap.size + 1) 0 (mCells (playM qs)) rfl rfl HTH5.out HIN5.out (mCells_one (playM qs)) ?_
    obtain ⟨hbv5, hbm5, hbw5, hrow5, hbb5⟩ := HPW5.out
    clear HPW5 HTH5 HIN5
    generalize World.setCells _ (w5.heap.size + 1) 0 (mCells (playM qs)).toList = X5 at *
    have HV5 := Lib.hid hbv5
    have HM5 := Lib.hid hbm5
    have HW5 := Lib.hid hbw5
    have HR5 := Lib.hid hrow5
    have HBB5 := Lib.hid hbb5
    have cv5 : X5.cell? ⟨w5.heap.size, 0, none⟩ = some (.slice p5 n5 c5) := hbv5.cell 0
    have lv5 := hbv5.lt
    have lm5 := hbm5.lt
    clear hbv5 hbm5 hbw5 hrow5 hbb5
    clear HPC cv5 lv5 lm5
    have hbY := HBK5.out.trans (HBB5.out.mono HBK5.out.size)
    replace HV := Lib.hid (HV.out.kept hbY)
    replace HU := Lib.hid (HU.out.kept hbY)
    replace HB := Lib.hid (HB.out.trans (hbY.mono HB.out.size))
    replace HV4 := Lib.hid (HV4.out.below hbY HV4.out.lt)
    replace HM4 := Lib.hid (HM4.out.below hbY HM4.out.lt)
    replace HR4 := Lib.hid (HR4.out.kept hbY)
    clear hbY HBK5 HBB5 HW5
    go_wp2_with (at_builtin; with_reducible refine stop_append (.tmp 62) (.tmp 63) 22 rfl ?_)
    have hbE := oneB X5 (.cells #[] 46)
    refine wpList_append_pos rfl (.tmp 62) (.tmp 63) 22 rfl 46 X5.heap.size elt_put (.slice (some ⟨X5.heap.size, 0, none⟩) 0 0) (.slice pv n cv) [] (ps) rfl rfl (ownP_empty X5 46 rfl) (HV.out.kept hbE) (by rw [HN.out]; simp only [List.length_nil]; omega) (by simp) (ps) (n) (List.nil_append _) (HN.out) ?_
    intro pwc cwc wc howc hbwc
    have hbwc2 := hbE.trans hbwc
    clear hbE hbwc
    have HOwc := Lib.hid howc
    have HEwc := Lib.hid hbwc2
    clear howc hbwc2
    go_wp2_with (at_builtin; with_reducible refine stop_append (.tmp 64) (.tmp 65) 22 rfl ?_)
    refine wpList_append_pos rfl (.tmp 64) (.tmp 65) 22 rfl 46 X5.heap.size elt_put (.slice pwc n cwc) (.slice pu m cu) (ps) (qs) rfl rfl HOwc.out (HU.out.kept HEwc.out) (by rw [HN.out, HM.out]; omega) HEwc.out.size (ps ++ qs) NM rfl HLL.out ?_
    intro pwd cwd wd howd hbwd
    have hbX := HEwc.out.trans hbwd
    have HOwd := Lib.hid howd
    clear howd hbwd HOwc HEwc
    replace HV := Lib.hid (HV.out.kept hbX)
    replace HU := Lib.hid (HU.out.kept hbX)
    replace HB := Lib.hid (HB.out.trans (hbX.mono HB.out.size))
    replace HV4 := Lib.hid (HV4.out.below hbX HV4.out.lt)
    replace HM4 := Lib.hid (HM4.out.below hbX HM4.out.lt)
    replace HR4 := Lib.hid (HR4.out.kept hbX)
    replace HV5 := Lib.hid (HV5.out.below hbX HV5.out.lt)
    replace HM5 := Lib.hid (HM5.out.below hbX HM5.out.lt)
    replace HR5 := Lib.hid (HR5.out.kept hbX)
    clear hbX
    go_wp2_with fail
    have HPC := Lib.hid (play_any wd (.slice pwd NM cwd) (ps ++ qs) HOwd.out.row (by rw [HLL.out]; omega) HFA.out)
    unfold vecV at HPC
    refine (HPC.out).mono ?_
    rintro y w6 ⟨v6, rfl, hr6, hb6⟩
    obtain ⟨p6, c6, hv6⟩ := hr6.shape
    generalize hn6 : (posOf (playM (ps ++ qs))).length = n6 at hv6
    clear hn6
    subst hv6
    have HPW6 := Lib.hid (playw w w6 (.slice p6 n6 c6) (playM (ps ++ qs)) (playM_len _) (HB.out.trans (hb6.mono HB.out.size)) hr6)
    have HTH6 := Lib.hid (zeros_there w6 (.slice p6 n6 c6) (playM (ps ++ qs)) (playM_len _))
    have HIN6 := Lib.hid (mInfo (mCells (playM (ps ++ qs))) (by rw [mCells_size]; exact playM_len _))
    have HBK6 := Lib.hid hb6
    clear hr6 hb6
    go_wp2_with (with_reducible refine stop_store 30 (.tmp 14) (.tmp 69) rfl ?_)
    refine wpList_store_mid rfl 30 (.tmp 14) (.tmp 69) rfl (w6.heap.size + 1) 0 (mCells (playM (ps ++ qs))) rfl rfl HTH6.out HIN6.out (mCells_one (playM (ps ++ qs))) ?_
    obtain ⟨hbv6, hbm6, hbw6, hrow6, hbb6⟩ := HPW6.out
    clear HPW6 HTH6 HIN6
    generalize World.setCells _ (w6.heap.size + 1) 0 (mCells (playM (ps ++ qs))).toList = X6 at *
    have HV6 := Lib.hid hbv6
    have HM6 := Lib.hid hbm6
    have HW6 := Lib.hid hbw6
    have HR6 := Lib.hid hrow6
    have HBB6 := Lib.hid hbb6
    have cv6 : X6.cell? ⟨w6.heap.size, 0, none⟩ = some (.slice p6 n6 c6) := hbv6.cell 0
    have lv6 := hbv6.lt
    have lm6 := hbm6.lt
    clear hbv6 hbm6 hbw6 hrow6 hbb6
    clear HPC cv6 lv6 lm6
    have hbY := HBK6.out.trans (HBB6.out.mono HBK6.out.size)
    replace HV := Lib.hid (HV.out.kept hbY)
    replace HU := Lib.hid (HU.out.kept hbY)
    replace HB := Lib.hid (HB.out.trans (hbY.mono HB.out.size))
    replace HV4 := Lib.hid (HV4.out.below hbY HV4.out.lt)
    replace HM4 := Lib.hid (HM4.out.below hbY HM4.out.lt)
    replace HR4 := Lib.hid (HR4.out.kept hbY)
    replace HV5 := Lib.hid (HV5.out.below hbY HV5.out.lt)
    replace HM5 := Lib.hid (HM5.out.below hbY HM5.out.lt)
    replace HR5 := Lib.hid (HR5.out.kept hbY)
    clear hbY HBK6 HBB6 HW6
    clear HV HU HFV HFU HFA HOwd HM4 HM5
    have cHV4 : X6.cell? ⟨w4.heap.size, 0, none⟩ = some (.slice p4 n4 c4) := HV4.out.cell 0
    have lHV4 := HV4.out.lt
    have cHV5 : X6.cell? ⟨w5.heap.size, 0, none⟩ = some (.slice p5 n5 c5) := HV5.out.cell 0
    have lHV5 := HV5.out.lt
    have HPL := Lib.hid (vplus_any X6 (.slice p4 n4 c4) (.slice p5 n5 c5) (playM ps) (playM qs) (playM_len _) (playM_64 _) (playM_64 _) HR4.out HR5.out)
    rw [HPP.out.1, if_pos rfl, HPP.out.2.1] at HPL
    unfold vecV at HPL
    go_wp2_with fail
    refine HPL.out.mono ?_
    rintro y w7 ⟨v7, rfl, ho7, hb⟩
    obtain ⟨p7, c7, hv7⟩ := ho7.form
    generalize (posOf (playM _)).length = n7 at hv7
    subst hv7
    replace HB := Lib.hid (HB.out.trans (hb.mono HB.out.size))
    replace HV4 := Lib.hid (HV4.out.below hb HV4.out.lt)
    replace HR4 := Lib.hid (HR4.out.kept hb)
    replace HV5 := Lib.hid (HV5.out.below hb HV5.out.lt)
    replace HR5 := Lib.hid (HR5.out.kept hb)
    replace HV6 := Lib.hid (HV6.out.below hb HV6.out.lt)
    replace HM6 := Lib.hid (HM6.out.below hb HM6.out.lt)
    replace HR6 := Lib.hid (HR6.out.kept hb)
    have HR7 := Lib.hid ho7.row
    clear hb ho7 HPL
    clear cHV4 lHV4 cHV5 lHV5
    have cHV4 : w7.cell? ⟨w4.heap.size, 0, none⟩ = some (.slice p4 n4 c4) := HV4.out.cell 0
    have lHV4 := HV4.out.lt
    have cHV5 : w7.cell? ⟨w5.heap.size, 0, none⟩ = some (.slice p5 n5 c5) := HV5.out.cell 0
    have lHV5 := HV5.out.lt
    have hbA := oneB w7 (.cells #[.slice p7 n7 c7] 27)
    have HV7 := Lib.hid (Blk.new w7 #[.slice p7 n7 c7] 27)
    replace HB := Lib.hid (HB.out.trans (hbA.mono HB.out.size))
    replace HV4 := Lib.hid (HV4.out.below hbA HV4.out.lt)
    replace HR4 := Lib.hid (HR4.out.kept hbA)
    replace HV5 := Lib.hid (HV5.out.below hbA HV5.out.lt)
    replace HR5 := Lib.hid (HR5.out.kept hbA)
    replace HV6 := Lib.hid (HV6.out.below hbA HV6.out.lt)
    replace HM6 := Lib.hid (HM6.out.below hbA HM6.out.lt)
    replace HR6 := Lib.hid (HR6.out.kept hbA)
    replace HR7 := Lib.hid (HR7.out.kept hbA)
    clear hbA
    have HPL := Lib.hid (vplus_any ((w7.alloc (.cells #[.slice p7 n7 c7] 27))) (.slice p5 n5 c5) (.slice p4 n4 c4) (playM qs) (playM ps) (playM_len _) (playM_64 _) (playM_64 _) HR5.out HR4.out)
    rw [HPQ.out.1, if_pos rfl, HPQ.out.2.1] at HPL
    unfold vecV at HPL
    go_wp2_with fail
    refine HPL.out.mono ?_
    rintro y w8 ⟨v8, rfl, ho8, hb⟩
    obtain ⟨p8, c8, hv8⟩ := ho8.form
    generalize (posOf (playM _)).length = n8 at hv8
    subst hv8
    replace HB := Lib.hid (HB.out.trans (hb.mono HB.out.size))
    replace HV4 := Lib.hid (HV4.out.below hb HV4.out.lt)
    replace HR4 := Lib.hid (HR4.out.kept hb)
    replace HV5 := Lib.hid (HV5.out.below hb HV5.out.lt)
    replace HR5 := Lib.hid (HR5.out.kept hb)
    replace HV6 := Lib.hid (HV6.out.below hb HV6.out.lt)
    replace HM6 := Lib.hid (HM6.out.below hb HM6.out.lt)
    replace HR6 := Lib.hid (HR6.out.kept hb)
    replace HR7 := Lib.hid (HR7.out.kept hb)
    replace HV7 := Lib.hid (HV7.out.below hb HV7.out.lt)
    have HR8 := Lib.hid ho8.row
    clear hb ho8 HPL
    clear cHV4 lHV4 cHV5 lHV5
    have cHV7 : w8.cell? ⟨w7.heap.size, 0, none⟩ = some (.slice p7 n7 c7) := HV7.out.cell 0
    have lHV7 := HV7.out.lt
    have hbA := oneB w8 (.cells #[.slice p8 n8 c8] 27)
    have HV8 := Lib.hid (Blk.new w8 #[.slice p8 n8 c8] 27)
    replace HB := Lib.hid (HB.out.trans (hbA.mono HB.out.size))
    replace HV4 := Lib.hid (HV4.out.below hbA HV4.out.lt)
    replace HR4 := Lib.hid (HR4.out.kept hbA)
    replace HV5 := Lib.hid (HV5.out.below hbA HV5.out.lt)
    replace HR5 := Lib.hid (HR5.out.kept hbA)
    replace HV6 := Lib.hid (HV6.out.below hbA HV6.out.lt)
    replace HM6 := Lib.hid (HM6.out.below hbA HM6.out.lt)
    replace HR6 := Lib.hid (HR6.out.kept hbA)
    replace HR7 := Lib.hid (HR7.out.kept hbA)
    replace HV7 := Lib.hid (HV7.out.below hbA HV7.out.lt)
    replace HR8 := Lib.hid (HR8.out.kept hbA)
    clear hbA
    rw [HPP.out.2.2] at HR8
    have HIN := Lib.hid (mInfo (mCells (playM (ps ++ qs))) (by rw [mCells_size]; exact playM_len _))
    have HSA := Lib.hid (same_any (w8.alloc (.cells #[.slice p8 n8 c8] 27)) (.slice p7 n7 c7) (playM (ps ++ qs)) (playM_len _) HR7.out)
    unfold vecV at HSA
    go_wp2_with (with_reducible refine stop_load 30 (.tmp 14) rfl ?_)
    refine wpList_load_blk (by kernel_rfl) 30 (.tmp 14) rfl (w6.heap.size + 1) rfl 30 (mCells (playM (ps ++ qs))) (.array 8 28) HM6.out Try.underlying30 rfl HIN.out ?_
    go_wp2_with fail
    refine HSA.out.mono ?_
    rintro y w9 ⟨rfl, hb⟩
    replace HB := Lib.hid (HB.out.trans (hb.mono HB.out.size))
    replace HV4 := Lib.hid (HV4.out.below hb HV4.out.lt)
    replace HR4 := Lib.hid (HR4.out.kept hb)
    replace HV5 := Lib.hid (HV5.out.below hb HV5.out.lt)
    replace HR5 := Lib.hid (HR5.out.kept hb)
    replace HV6 := Lib.hid (HV6.out.below hb HV6.out.lt)
    replace HM6 := Lib.hid (HM6.out.below hb HM6.out.lt)
    replace HR6 := Lib.hid (HR6.out.kept hb)
    replace HR7 := Lib.hid (HR7.out.kept hb)
    replace HV7 := Lib.hid (HV7.out.below hb HV7.out.lt)
    replace HR8 := Lib.hid (HR8.out.kept hb)
    replace HV8 := Lib.hid (HV8.out.below hb HV8.out.lt)
    clear hb
    clear cHV7 lHV7
    have cHV8 : w9.cell? ⟨w8.heap.size, 0, none⟩ = some (.slice p8 n8 c8) := HV8.out.cell 0
    have lHV8 := HV8.out.lt
    have HSB := Lib.hid (same_any w9 (.slice p8 n8 c8) (playM (ps ++ qs)) (playM_len _) HR8.out)
    unfold vecV at HSB
    go_wp2_with (with_reducible refine stop_load 30 (.tmp 14) rfl ?_)
    refine wpList_load_blk (by kernel_rfl) 30 (.tmp 14) rfl (w6.heap.size + 1) rfl 30 (mCells (playM (ps ++ qs))) (.array 8 28) HM6.out Try.underlying30 rfl HIN.out ?_
    go_wp2_with fail
    refine HSB.out.mono ?_
    rintro y w10 ⟨rfl, hb⟩
    replace HB := Lib.hid (HB.out.trans (hb.mono HB.out.size))
    replace HV4 := Lib.hid (HV4.out.below hb HV4.out.lt)
    replace HR4 := Lib.hid (HR4.out.kept hb)
    replace HV5 := Lib.hid (HV5.out.below hb HV5.out.lt)
    replace HR5 := Lib.hid (HR5.out.kept hb)
    replace HV6 := Lib.hid (HV6.out.below hb HV6.out.lt)
    replace HM6 := Lib.hid (HM6.out.below hb HM6.out.lt)
    replace HR6 := Lib.hid (HR6.out.kept hb)
    replace HR7 := Lib.hid (HR7.out.kept hb)
    replace HV7 := Lib.hid (HV7.out.below hb HV7.out.lt)
    replace HR8 := Lib.hid (HR8.out.kept hb)
    replace HV8 := Lib.hid (HV8.out.below hb HV8.out.lt)
    clear hb
    go_wp2_with fail
    go_ret
    exact ⟨rfl, HB.out⟩
end Go.Proofs.Ytaooiejgigicoaa
