/- VectorPlus: the walk. -/
import Derived.Test.YtaooiejgigicoaaUnion
import Derived.Deep.RegionHeld3
namespace Go.Proofs.Ytaooiejgigicoaa
open Go.RowKit
set_option linter.unusedSimpArgs false in
set_option maxHeartbeats 64000000 in
set_option maxRecDepth 100000 in
theorem vplus_walk (v u : Value) (ps qs : List Pos) (cur : Int) (w : World) (hr : PRow w v ps) (hf : ∀ p ∈ ps, FitP p) (hr2 : PRow w u qs) (hf2 : ∀ p ∈ qs, FitP p) (_ : -9223372036854775808 ≤ cur ∧ cur ≤ 9223372036854775807) : Calls Try.prog 4 #[v, u, .int .i64 cur] w fun e w' => e = .returned (.bool true) ∧ Below w.heap.size w w' := by
  have HL := Lib.hid (fun w => holds_any w)
  obtain ⟨pv, cv, rfl⟩ := hr.shape
  obtain ⟨pu, cu, rfl⟩ := hr2.shape
  have HV := Lib.hid hr
  have HU := Lib.hid hr2
  have HFV := Lib.hid hf
  have HFU := Lib.hid hf2
  clear hr hr2 hf hf2
  generalize hn : ps.length = n at *
  generalize hm : qs.length = m at *
  have HN := Lib.hid hn
  have HM := Lib.hid hm
  clear hn hm
  have HB := Lib.hid (Below.refl w.heap.size w)
  by_cases h1 : n ≤ 40
  rotate_left
  · skip
    have g1 : (40 : Int) < (n : Int) := by omega
    clear HV HU HFV HFU HN HM HB
    go_enter Try.func4, Try.ntmps4
    go_wp2_with fail
    refine (HL.out _).mono ?_
    rintro y w1 ⟨rfl, hb1⟩
    go_wp2_with fail
    go_ret
    exact ⟨rfl, hb1⟩
  by_cases h2 : m ≤ 40
  rotate_left
  · skip
    have g0 : ¬ (40 : Int) < (n : Int) := by omega
    have g1 : (40 : Int) < (m : Int) := by omega
    clear HV HU HFV HFU HN HM HB
    go_enter Try.func4, Try.ntmps4
    go_wp2_with fail
    refine (HL.out _).mono ?_
    rintro y w1 ⟨rfl, hb1⟩
    go_wp2_with fail
    go_ret
    exact ⟨rfl, hb1⟩
  have g0 : ¬ (40 : Int) < (n : Int) := by omega
  have g1 : ¬ (40 : Int) < (m : Int) := by omega
  go_enter Try.func4, Try.ntmps4
  go_wp2_with fail
  refine (HL.out _).mono ?_
  rintro y w1 ⟨rfl, hb⟩
  replace HV := Lib.hid (HV.out.kept hb)
  replace HU := Lib.hid (HU.out.kept hb)
  replace HB := Lib.hid (HB.out.trans (hb.mono HB.out.size))
  clear hb
  clear HL
  have HPC := Lib.hid (play_any w1 (.slice pv n cv) ps HV.out (by rw [HN.out]; omega) HFV.out)
  unfold vecV at HPC
  go_wp2_with fail
  refine (HPC.out).mono ?_
  rintro y w4 ⟨v4, rfl, hr4, hb4⟩
  obtain ⟨p4, c4, hv4⟩ := hr4.shape
  generalize hn4 : (posOf (playM ps)).length = n4 at hv4
  clear hn4
  subst hv4
  have HPW4 := Lib.hid (playw w w4 (.slice p4 n4 c4) (playM ps) (playM_len _) (HB.out.trans (hb4.mono HB.out.size)) hr4)
  have HTH4 := Lib.hid (zeros_there w4 (.slice p4 n4 c4) (playM ps) (playM_len _))
  have HIN4 := Lib.hid (mInfo (mCells (playM ps)) (by rw [mCells_size]; exact playM_len _))
  have HBK4 := Lib.hid hb4
  clear hr4 hb4
  go_wp2_with (with_reducible refine stop_store 30 (.tmp 8) (.tmp 40) rfl ?_)
  refine wpList_store_mid rfl 30 (.tmp 8) (.tmp 40) rfl (w4.heap.size + 1) 0 (mCells (playM ps)) rfl rfl HTH4.out HIN4.out (mCells_one (playM ps)) ?_
  obtain ⟨hbv4, hbm4, hbw4, hrow4, hbb4⟩ := HPW4.out
  clear HPW4 HTH4 HIN4
  generalize World.setCells _ (w4.heap.size + 1) 0 (mCells (playM ps)).toList = X4 at *
  have HV4 := Lib.hid hbv4
  have HM4 := Lib.hid hbm4
  have HW4 := Lib.hid hbw4
  have HR4 := Lib.hid hrow4
  have HBB4 := Lib.hid hbb4
  have cv4 : X4.cell? ⟨w4.heap.size, 0, none⟩ = some (.slice p4 n4 c4) := hbv4.cell 0
  have lv4 := hbv4.lt
  have lm4 := hbm4.lt
  clear hbv4 hbm4 hbw4 hrow4 hbb4
  clear HPC cv4 lv4 lm4
  have hbY := HBK4.out.trans (HBB4.out.mono HBK4.out.size)
  replace HV := Lib.hid (HV.out.kept hbY)
  replace HU := Lib.hid (HU.out.kept hbY)
  replace HB := Lib.hid (HB.out.trans (hbY.mono HB.out.size))
  clear hbY HBK4 HBB4 HW4
  have HPC := Lib.hid (play_any X4 (.slice pu m cu) qs HU.out (by rw [HM.out]; omega) HFU.out)
  unfold vecV at HPC
  go_wp2_with fail
  refine (HPC.out).mono ?_
  rintro y w5 ⟨v5, rfl, hr5, hb5⟩
  obtain ⟨p5, c5, hv5⟩ := hr5.shape
  generalize hn5 : (posOf (playM qs)).length = n5 at hv5
  clear hn5
  subst hv5
  have HPW5 := Lib.hid (playw w w5 (.slice p5 n5 c5) (playM qs) (playM_len _) (HB.out.trans (hb5.mono HB.out.size)) hr5)
  have HTH5 := Lib.hid (zeros_there w5 (.slice p5 n5 c5) (playM qs) (playM_len _))
  have HIN5 := Lib.hid (mInfo (mCells (playM qs)) (by rw [mCells_size]; exact playM_len _))
  have HBK5 := Lib.hid hb5
  clear hr5 hb5
  go_wp2_with (with_reducible refine stop_store 30 (.tmp 11) (.tmp 46) rfl ?_)
  refine wpList_store_mid rfl 30 (.tmp 11) (.tmp 46) rfl (w5.heap.size + 1) 0 (mCells (playM qs)) rfl rfl HTH5.out HIN5.out (mCells_one (playM qs)) ?_
  obtain ⟨hbv5, hbm5, hbw5, hrow5, hbb5⟩ := HPW5.out
  clear HPW5 HTH5 HIN5
  generalize World.setCells _ (w5.heap.size + 1) 0 (mCells (playM qs)).toList = X5 at *
  have HV5 := Lib.hid hbv5
  have HM5 := Lib.hid hbm5
  have HW5 := Lib.hid hbw5
  have HR5 := Lib.hid hrow5
  have HBB5 := Lib.hid hbb5
  have cv5 : X5.cell? ⟨w5.heap.size, 0, none⟩ = some (.slice p5 n5 c5) := hbv5.cell 0
  have lv5 := hbv5.lt
  have lm5 := hbm5.lt
  clear hbv5 hbm5 hbw5 hrow5 hbb5
  clear HPC cv5 lv5 lm5
  have hbY := HBK5.out.trans (HBB5.out.mono HBK5.out.size)
  replace HV := Lib.hid (HV.out.kept hbY)
  replace HU := Lib.hid (HU.out.kept hbY)
  replace HB := Lib.hid (HB.out.trans (hbY.mono HB.out.size))
  replace HV4 := Lib.hid (HV4.out.below hbY HV4.out.lt)
  replace HM4 := Lib.hid (HM4.out.below hbY HM4.out.lt)
  replace HR4 := Lib.hid (HR4.out.kept hbY)
  clear hbY HBK5 HBB5 HW5
  clear g0 g1 HV HU HFV HFU HN HM h1 h2
  have HLM := Lib.hid (playM_len ps)
  have HLN := Lib.hid (playM_len qs)
  have H6M := Lib.hid (playM_64 ps)
  have H6N := Lib.hid (playM_64 qs)
  generalize playM ps = M at *
  generalize playM qs = N at *
  have cHV4 : X5.cell? ⟨w4.heap.size, 0, none⟩ = some (.slice p4 n4 c4) := HV4.out.cell 0
  have lHV4 := HV4.out.lt
  have cHV5 : X5.cell? ⟨w5.heap.size, 0, none⟩ = some (.slice p5 n5 c5) := HV5.out.cell 0
  have lHV5 := HV5.out.lt
  have HPL := Lib.hid (vplus_any X5 (.slice p4 n4 c4) (.slice p5 n5 c5) M N HLM.out H6M.out H6N.out HR4.out HR5.out)
  generalize hPE : plusE M (posOf N) = pe at HPL
  have HPE := Lib.hid hPE
  clear hPE
  generalize hPF : (if pe = 0 then (posOf N).foldl stepM M else M) = pf at HPL
  have HPF := Lib.hid hPF
  clear hPF
  unfold vecV at HPL
  go_wp2_with fail
  refine HPL.out.mono ?_
  rintro y w7 ⟨v7, rfl, ho7, hb⟩
  obtain ⟨p7, c7, hv7⟩ := ho7.form
  generalize (posOf pf).length = n7 at hv7
  subst hv7
  clear cHV4 lHV4 cHV5 lHV5
  replace HB := Lib.hid (HB.out.trans (hb.mono HB.out.size))
  replace HV4 := Lib.hid (HV4.out.below hb HV4.out.lt)
  replace HM4 := Lib.hid (HM4.out.below hb HM4.out.lt)
  replace HR4 := Lib.hid (HR4.out.kept hb)
  replace HV5 := Lib.hid (HV5.out.below hb HV5.out.lt)
  replace HM5 := Lib.hid (HM5.out.below hb HM5.out.lt)
  replace HR5 := Lib.hid (HR5.out.kept hb)
  have HR7 := Lib.hid ho7.row
  have HN47 := Lib.hid HM4.out.lt
  clear hb ho7 HPL
  have hbA := oneB w7 (.cells #[.slice p7 n7 c7] 27)
  have HV7 := Lib.hid (Blk.new w7 #[.slice p7 n7 c7] 27)
  replace HB := Lib.hid (HB.out.trans (hbA.mono HB.out.size))
  replace HV4 := Lib.hid (HV4.out.below hbA HV4.out.lt)
  replace HM4 := Lib.hid (HM4.out.below hbA HM4.out.lt)
  replace HR4 := Lib.hid (HR4.out.kept hbA)
  replace HV5 := Lib.hid (HV5.out.below hbA HV5.out.lt)
  replace HM5 := Lib.hid (HM5.out.below hbA HM5.out.lt)
  replace HR5 := Lib.hid (HR5.out.kept hbA)
  replace HR7 := Lib.hid (HR7.out.kept hbA)
  clear hbA
  have HU0 : Hid (URel (w7.alloc (.cells #[.slice p7 n7 c7] 27)) M N cur 0 true (.slice none 0 0) ((w7.alloc (.cells #[.slice p7 n7 c7] 27)).alloc (.cells #[.int .i64 0, .int .i64 0, .int .i64 0, .int .i64 0, .int .i64 0, .int .i64 0, .int .i64 0, .int .i64 0, .int .i64 0, .int .i64 0, .int .i64 0, .int .i64 0, .int .i64 0, .int .i64 0, .int .i64 0, .int .i64 0, .int .i64 0, .int .i64 0, .int .i64 0, .int .i64 0, .int .i64 0, .int .i64 0, .int .i64 0, .int .i64 0, .int .i64 0, .int .i64 0, .int .i64 0, .int .i64 0, .int .i64 0, .int .i64 0, .int .i64 0, .int .i64 0, .int .i64 0, .int .i64 0, .int .i64 0, .int .i64 0, .int .i64 0, .int .i64 0, .int .i64 0, .int .i64 0, .int .i64 0, .int .i64 0, .int .i64 0, .int .i64 0, .int .i64 0, .int .i64 0, .int .i64 0, .int .i64 0, .int .i64 0, .int .i64 0, .int .i64 0, .int .i64 0, .int .i64 0, .int .i64 0, .int .i64 0, .int .i64 0, .int .i64 0, .int .i64 0, .int .i64 0, .int .i64 0, .int .i64 0, .int .i64 0, .int .i64 0, .int .i64 0] 30))) := by
    refine ⟨oneB _ _, ?_, Own.nil_ _ _ _ _, ⟨fun _ j hj => by omega, fun _ => rfl⟩⟩
    rw [sU_zero, zeros_cells]
    exact Blk.new _ _ _
  go_wp2_with fail
  have hsz : (w7.alloc (.cells #[.slice p7 n7 c7] 27)).heap.size = w7.heap.size + 1 := by simp
  generalize hX : w7.alloc (.cells #[.slice p7 n7 c7] 27) = X at *
  have HSX := Lib.hid hsz
  clear hX hsz
  go_loopw [16, 17, 60] (fun f v i wr => ∃ (k : Nat) (fb : Bool), k ≤ 8 ∧ i = .int .i64 k ∧ f = .bool fb ∧ Hid (URel X M N cur (8 * k) fb v wr)) (fun _ _ i _ => 8 - (intOf i).toNat)
  case atStart => exact ⟨0, true, by omega, rfl, rfl, HU0⟩
  case round =>
    obtain ⟨k, fb, hk, rfl, rfl, HK⟩ := hrel
    clear HU0
    by_cases hlt : (k : Int) < 8
    · go_wp2_with fail
      go_loopw [16, 17, 63] (fun f v i wr => ∃ (j : Nat) (fb : Bool), j ≤ 8 ∧ i = .int .i64 j ∧ f = .bool fb ∧ Hid (URel X M N cur (8 * k + j) fb v wr)) (fun _ _ i _ => 8 - (intOf i).toNat)
      case atStart => exact ⟨0, fb, by omega, rfl, rfl, HK⟩
      case round =>
        obtain ⟨j, fb, hj, rfl, rfl, HJ⟩ := hrel
        clear HK
        by_cases hlt2 : (j : Int) < 8
        rotate_left
        · have hj8 : j = 8 := by omega
          subst hj8
          go_wp2_with fail
          go_roundw
          case rel => exact ⟨k + 1, fb, by omega, by go_num, rfl, HJ⟩
          case measure => simp [intOf]; omega
        have hK : 8 * k + j < 64 := by omega
        obtain ⟨hbJ, hblk, hown, hfb⟩ := HJ.out
        obtain ⟨p9, c9, hv9⟩ := hown.form
        generalize hl9 : (allU M cur (8 * k + j)).length = l9 at hv9
        have HL9 := Lib.hid hl9
        clear hl9
        subst hv9
        have HOWN := Lib.hid hown
        have HBLK := Lib.hid hblk
        have HBJ := Lib.hid hbJ
        have HFB := Lib.hid hfb
        have HLA : Hid ((allU M cur (8 * k + j)).length ≤ 64) := Nat.le_trans (allU_len _ _ _) (by omega)
        have HSS : Hid (sU M N (8 * k + j + 1) = (sU M N (8 * k + j)).set (8 * k + j) (sumN (atM M (8 * k + j) + atM N (8 * k + j)))) := sU_succ M N _ hK
        have HAS : Hid (allU M cur (8 * k + j + 1) = allU M cur (8 * k + j) ++ (if (j : Int) = cur then [atM M (8 * k + j)] else [])) := by
          show _ = _
          rw [allU_succ, show (8 * k + j) % 8 = j by omega]
        have HFS := Lib.hid (fun hf => fits_step (M := M) (N := N) HFB.out hf)
        have HFN := Lib.hid (fun hf => fits_no (M := M) (N := N) (k := 8 * k + j) hf)
        have m0 : wr.cell? ⟨w4.heap.size + 1, k * 8 + j, none⟩ = some (.int .i64 (atM M (8 * k + j))) := ((HM4.out.below hbJ HM4.out.lt).cell (k * 8 + j)).trans (by rw [show k * 8 + j = 8 * k + j by omega]; exact mCells_get M _ (by rw [HLM.out]; exact hK))
        have m1 : wr.cell? ⟨w5.heap.size + 1, k * 8 + j, none⟩ = some (.int .i64 (atM N (8 * k + j))) := ((HM5.out.below hbJ HM5.out.lt).cell (k * 8 + j)).trans (by rw [show k * 8 + j = 8 * k + j by omega]; exact mCells_get N _ (by rw [HLN.out]; exact hK))
        have HA64 : Hid (All64 [atM M (8 * k + j), atM N (8 * k + j)]) := fun z hz => by
          simp only [List.mem_cons, List.not_mem_nil, or_false] at hz
          rcases hz with rfl | rfl
          · exact atM_fits H6M.out _
          · exact atM_fits H6N.out _
        have HROW := Lib.hid (fun (W : World) => Row.two W 2 (atM M (8 * k + j)) (atM N (8 * k + j)) 2 (Nat.le_refl _))
        have lm0 : w4.heap.size + 1 < wr.heap.size := (HM4.out.below hbJ HM4.out.lt).lt
        have lm1 : w5.heap.size + 1 < wr.heap.size := (HM5.out.below hbJ HM5.out.lt).lt
        have HSUM : Hid ([atM M (8 * k + j), atM N (8 * k + j)].sum = atM M (8 * k + j) + atM N (8 * k + j)) := by show _ = _; simp
        have hz15 : wr.cell? ⟨w7.heap.size + 1, k * 8 + j, none⟩ = some (.int .i64 (atM (sU M N (8 * k + j)) (8 * k + j))) := by
          rw [← HSX.out]
          exact (hblk.cell (k * 8 + j)).trans (by rw [show k * 8 + j = 8 * k + j by omega]; exact mCells_get _ _ (by rw [sU_len]; exact hK))
        have hf15 : wr.frozen? ⟨w7.heap.size + 1, k * 8 + j, none⟩ = false := by rw [← HSX.out]; exact hblk.free _
        have hl15 : w7.heap.size + 1 < wr.heap.size := by rw [← HSX.out]; exact hblk.lt
        have HKJ : Hid (k * 8 + j = 8 * k + j) := by show _ = _; omega
        have hk8 : (k : Int) < 8 := hlt
        clear hbJ hblk hown hfb HJ
        generalize atM (sU M N (8 * k + j)) (8 * k + j) = old at *
        generalize hma : atM M (8 * k + j) = a at *
        generalize hnb : atM N (8 * k + j) = b at *
        clear hma hnb
        by_cases hf : Fits (a + b)
        · have HSN := Lib.hid (sumN_yes hf)
          have HSE := Lib.hid (sumE_yes hf)
          rw [HSN.out] at HSS
          by_cases hc : (j : Int) = cur
          · have ec : ((j : Int) == cur) = true := by simpa using hc
            have HASY : Hid (allU M cur (8 * k + (j + 1)) = allU M cur (8 * k + j) ++ [a]) := by have h := HAS.out; rw [if_pos hc] at h; exact h
            clear hc HAS
            cases fb
            · have HFX := Lib.hid (fits_was HFB.out)
              clear HFS HFN hf
              skip
              have hs : wr.drew.cell? ⟨w4.heap.size + 1, k * 8 + j, none⟩ = some (.int .i64 a) ∧ wr.drew.cell? ⟨w5.heap.size + 1, k * 8 + j, none⟩ = some (.int .i64 b) := ⟨m0, m1⟩
              have HS : Hid (∀ w', Below wr.heap.size wr w' → w'.cell? ⟨w4.heap.size + 1, k * 8 + j, none⟩ = some (.int .i64 a) ∧ w'.cell? ⟨w5.heap.size + 1, k * 8 + j, none⟩ = some (.int .i64 b)) := fun w' h => ⟨(h.cell (p := ⟨w4.heap.size + 1, k * 8 + j, none⟩) lm0).trans m0, (h.cell (p := ⟨w5.heap.size + 1, k * 8 + j, none⟩) lm1).trans m1⟩
              clear m0 m1
              go_wp2_with fail
              refine wp_region_held_drew (S := fun w' => w'.cell? ⟨w4.heap.size + 1, k * 8 + j, none⟩ = some (.int .i64 a) ∧ w'.cell? ⟨w5.heap.size + 1, k * 8 + j, none⟩ = some (.int .i64 b)) (by kernel_rfl) hs (fun hS0 => ?_)
              refine wpAnyH_take (i := 0) (v := ?_) rfl (by kernel_rfl) (by kernel_rfl) (by kernel_rfl) (fun _ _ _ h => h) (Or.inl ⟨by kernel_rfl, ?_⟩) (by first | assumption | trivial) ?_
              rotate_left
              · intro w hSw
                try dsimp only at hSw
                first | (go_simp; done) | (go_simp; with_reducible rfl)
              try simp only [Act.put, List.getElem_toArray, List.getElem_cons_succ, List.getElem_cons_zero, List.setIfInBounds_toArray, List.set_cons_zero, List.set_cons_succ]
              refine wpAnyH_take (i := 1) (v := ?_) rfl (by kernel_rfl) (by kernel_rfl) (by kernel_rfl) (fun _ _ _ h => h) (Or.inl ⟨by kernel_rfl, ?_⟩) (by first | assumption | trivial) ?_
              rotate_left
              · intro w hSw
                try dsimp only at hSw
                first | (go_simp; done) | (go_simp; with_reducible rfl)
              try simp only [Act.put, List.getElem_toArray, List.getElem_cons_succ, List.getElem_cons_zero, List.setIfInBounds_toArray, List.set_cons_zero, List.set_cons_succ]
              refine wpAnyH_take (i := 2) (v := ?_) rfl (by kernel_rfl) (by kernel_rfl) (by kernel_rfl) (fun _ _ _ h => h) (Or.inl ⟨by kernel_rfl, ?_⟩) (by first | assumption | trivial) ?_
              rotate_left
              · intro w hSw
                try dsimp only at hSw
                first | (go_simp; done) | (go_simp; with_reducible rfl)
              try simp only [Act.put, List.getElem_toArray, List.getElem_cons_succ, List.getElem_cons_zero, List.setIfInBounds_toArray, List.set_cons_zero, List.set_cons_succ]
              refine wpAnyH_take (i := 3) (v := ?_) rfl (by kernel_rfl) (by kernel_rfl) (by kernel_rfl) (fun _ _ _ h => h) (Or.inl ⟨by kernel_rfl, ?_⟩) (by first | assumption | trivial) ?_
              rotate_left
              · intro w hSw
                try dsimp only at hSw
                first | (go_simp; done) | (go_simp; with_reducible rfl)
              try simp only [Act.put, List.getElem_toArray, List.getElem_cons_succ, List.getElem_cons_zero, List.setIfInBounds_toArray, List.set_cons_zero, List.set_cons_succ]
              refine wpAnyH_take (i := 4) (v := ?_) rfl (by kernel_rfl) (by kernel_rfl) (by kernel_rfl) (fun _ _ _ h => h) (Or.inl ⟨by kernel_rfl, ?_⟩) (by first | assumption | trivial) ?_
              rotate_left
              · intro w hSw
                try dsimp only at hSw
                first | (go_simp; done) | (go_simp; with_reducible rfl)
              try simp only [Act.put, List.getElem_toArray, List.getElem_cons_succ, List.getElem_cons_zero, List.setIfInBounds_toArray, List.set_cons_zero, List.set_cons_succ]
              refine wpAnyH_take (i := 5) (v := ?_) rfl (by kernel_rfl) (by kernel_rfl) (by kernel_rfl) (fun _ _ _ h => h) (Or.inl ⟨by kernel_rfl, ?_⟩) (by first | assumption | trivial) ?_
              rotate_left
              · intro w hSw
                try dsimp only at hSw
                first | (go_simp; done) | (go_simp; with_reducible rfl)
              try simp only [Act.put, List.getElem_toArray, List.getElem_cons_succ, List.getElem_cons_zero, List.setIfInBounds_toArray, List.set_cons_zero, List.set_cons_succ]
              refine wpAnyH_take (i := 6) (v := ?_) rfl (by kernel_rfl) (by kernel_rfl) (by kernel_rfl) (fun _ _ _ h => h) (Or.inl ⟨by kernel_rfl, ?_⟩) (by first | assumption | trivial) ?_
              rotate_left
              · intro w hSw
                try dsimp only at hSw
                first | (go_simp; done) | (go_simp; with_reducible rfl)
              try simp only [Act.put, List.getElem_toArray, List.getElem_cons_succ, List.getElem_cons_zero, List.setIfInBounds_toArray, List.set_cons_zero, List.set_cons_succ]
              refine wpAnyH_take (i := 7) (v := ?_) rfl (by kernel_rfl) (by kernel_rfl) (by kernel_rfl) (fun _ _ _ h => h) (Or.inl ⟨by kernel_rfl, ?_⟩) (by first | assumption | trivial) ?_
              rotate_left
              · intro w hSw
                try dsimp only at hSw
                first | (go_simp; done) | (go_simp; with_reducible rfl)
              try simp only [Act.put, List.getElem_toArray, List.getElem_cons_succ, List.getElem_cons_zero, List.setIfInBounds_toArray, List.set_cons_zero, List.set_cons_succ]
              refine wpAnyH_take (i := 8) (v := ?_) rfl (by kernel_rfl) (by kernel_rfl) (by kernel_rfl) (fun _ _ _ h => h) (Or.inl ⟨by kernel_rfl, ?_⟩) (by first | assumption | trivial) ?_
              rotate_left
              · intro w hSw
                try dsimp only at hSw
                first | (go_simp; done) | (go_simp; with_reducible rfl)
              try simp only [Act.put, List.getElem_toArray, List.getElem_cons_succ, List.getElem_cons_zero, List.setIfInBounds_toArray, List.set_cons_zero, List.set_cons_succ]
              refine wpAnyH_take (i := 9) (v := ?_) rfl (by kernel_rfl) (by kernel_rfl) (by kernel_rfl) (fun _ _ _ h => h) (Or.inl ⟨by kernel_rfl, ?_⟩) (by first | assumption | trivial) ?_
              rotate_left
              · intro w hSw
                try dsimp only at hSw
                first | (go_simp; done) | (go_simp; with_reducible rfl)
              try simp only [Act.put, List.getElem_toArray, List.getElem_cons_succ, List.getElem_cons_zero, List.setIfInBounds_toArray, List.set_cons_zero, List.set_cons_succ]
              refine wpAnyH_ready (rs := [10]) (by kernel_rfl) (by simp) ?_
              refine AllReadyH.cons rfl (fun K hK => ?_) AllReadyH.nil
              go_simp
              refine hK.out _ _ (HS.out (wr.drew.alloc (.cells #[.int .i64 a, .int .i64 b] 2)) ((Below.refl _ _).drew.alloc (Nat.le_refl _) _)) (fun hS => ?_)
              clear hK K
              try simp only [Act.put, List.getElem_toArray, List.getElem_cons_succ, List.getElem_cons_zero, List.setIfInBounds_toArray, List.set_cons_zero, List.set_cons_succ]
              refine wpAnyH_ready (rs := [11]) (by kernel_rfl) (by simp) ?_
              refine AllReadyH.cons rfl (fun K hK => ?_) AllReadyH.nil
              go_simp
              go_at_call 12
              refine (refsum_any (.slice (some ⟨wr.heap.size, 0, none⟩) 2 2) [a, b] (wr.drew.alloc (.cells #[.int .i64 a, .int .i64 b] 2)) (by simp) HA64.out (HROW.out wr.drew)).mono ?_
              rintro y w8 ⟨rfl, hb8⟩
              rw [HSUM.out, HSN.out, HSE.out]
              have HB8 := Lib.hid (((Below.refl wr.heap.size wr).drew.alloc (Nat.le_refl _) (.cells #[.int .i64 a, .int .i64 b] 2)).trans (hb8.mono (by simp)))
              clear hb8
              try go_wp2_with fail
              refine hK.out _ _ (HS.out w8 HB8.out) (fun hS => ?_)
              clear hK K
              try simp only [Act.put, List.getElem_toArray, List.getElem_cons_succ, List.getElem_cons_zero, List.setIfInBounds_toArray, List.set_cons_zero, List.set_cons_succ]
              refine wpAnyH_take (i := 12) (v := ?_) rfl (by kernel_rfl) (by kernel_rfl) (by kernel_rfl) (fun _ _ _ h => h) (Or.inl ⟨by kernel_rfl, ?_⟩) (by first | assumption | trivial) ?_
              rotate_left
              · intro w hSw
                try dsimp only at hSw
                first | (go_simp; done) | (go_simp; with_reducible rfl)
              try simp only [Act.put, List.getElem_toArray, List.getElem_cons_succ, List.getElem_cons_zero, List.setIfInBounds_toArray, List.set_cons_zero, List.set_cons_succ]
              refine wpAnyH_take (i := 13) (v := ?_) rfl (by kernel_rfl) (by kernel_rfl) (by kernel_rfl) (fun _ _ _ h => h) (Or.inl ⟨by kernel_rfl, ?_⟩) (by first | assumption | trivial) ?_
              rotate_left
              · intro w hSw
                try dsimp only at hSw
                first | (go_simp; done) | (go_simp; with_reducible rfl)
              try simp only [Act.put, List.getElem_toArray, List.getElem_cons_succ, List.getElem_cons_zero, List.setIfInBounds_toArray, List.set_cons_zero, List.set_cons_succ]
              refine wpAnyH_take (i := 14) (v := ?_) rfl (by kernel_rfl) (by kernel_rfl) (by kernel_rfl) (fun _ _ _ h => h) (Or.inl ⟨by kernel_rfl, ?_⟩) (by first | assumption | trivial) ?_
              rotate_left
              · intro w hSw
                try dsimp only at hSw
                first | (go_simp; done) | (go_simp; with_reducible rfl)
              try simp only [Act.put, List.getElem_toArray, List.getElem_cons_succ, List.getElem_cons_zero, List.setIfInBounds_toArray, List.set_cons_zero, List.set_cons_succ]
              refine wpAnyH_take (i := 15) (v := ?_) rfl (by kernel_rfl) (by kernel_rfl) (by kernel_rfl) (fun _ _ _ h => h) (Or.inl ⟨by kernel_rfl, ?_⟩) (by first | assumption | trivial) ?_
              rotate_left
              · intro w hSw
                try dsimp only at hSw
                first | (go_simp; done) | (go_simp; with_reducible rfl)
              try simp only [Act.put, List.getElem_toArray, List.getElem_cons_succ, List.getElem_cons_zero, List.setIfInBounds_toArray, List.set_cons_zero, List.set_cons_succ]
              refine wpAnyH_take (i := 16) (v := ?_) rfl (by kernel_rfl) (by kernel_rfl) (by kernel_rfl) (fun _ _ _ h => h) (Or.inl ⟨by kernel_rfl, ?_⟩) (by first | assumption | trivial) ?_
              rotate_left
              · intro w hSw
                try dsimp only at hSw
                first | (go_simp; done) | (go_simp; with_reducible rfl)
              try simp only [Act.put, List.getElem_toArray, List.getElem_cons_succ, List.getElem_cons_zero, List.setIfInBounds_toArray, List.set_cons_zero, List.set_cons_succ]
              refine wpAnyH_done (by kernel_rfl) ?_ _
              have n0 : w8.cell? ⟨w4.heap.size + 1, k * 8 + j, none⟩ = some (.int .i64 a) := (HS.out w8 HB8.out).1
              have z15 : w8.cell? ⟨w7.heap.size + 1, k * 8 + j, none⟩ = some (.int .i64 old) := (HB8.out.cell (p := ⟨w7.heap.size + 1, k * 8 + j, none⟩) hl15).trans hz15
              have fr15 : w8.frozen? ⟨w7.heap.size + 1, k * 8 + j, none⟩ = false := by
                have h := (HBLK.out.below HB8.out HBLK.out.lt).free (k * 8 + j)
                rwa [HSX.out] at h
              have l15 : w7.heap.size + 1 < w8.heap.size := Nat.lt_of_lt_of_le hl15 HB8.out.size
              have ln0 : w4.heap.size + 1 < w8.heap.size := Nat.lt_of_lt_of_le lm0 HB8.out.size
              have ne15 : ¬ w4.heap.size + 1 = w7.heap.size + 1 := by have := HN47.out; omega
              have HB9 := Lib.hid (HBJ.out.trans (HB8.out.mono HBJ.out.size))
              have hblk9 := ((HBLK.out.below HB8.out HBLK.out.lt).set (8 * k + j) (.int .i64 (a + b)))
              rw [mCells_set, ← HSS.out] at hblk9
              have HBL9 : Hid (Blk (w8.setCell ⟨w7.heap.size + 1, k * 8 + j, none⟩ (.int .i64 (a + b))) X.heap.size (mCells (sU M N (8 * k + j + 1))) 30) := by
                rw [HKJ.out, ← HSX.out]; exact hblk9
              have HO9 : Hid (Own .i64 (w8.setCell ⟨w7.heap.size + 1, k * 8 + j, none⟩ (.int .i64 (a + b))) (X.heap.size + 1) 2 (.slice p9 l9 c9) (allU M cur (8 * k + j))) := own_setLow (HOWN.out.later HB8.out) (by rw [HSX.out]; exact Nat.lt_succ_self (w7.heap.size + 1)) _
              have HBX9 : Hid (Below X.heap.size X (w8.setCell ⟨w7.heap.size + 1, k * 8 + j, none⟩ (.int .i64 (a + b)))) := HB9.out.setCell (p := ⟨w7.heap.size + 1, k * 8 + j, none⟩) (by rw [HSX.out]; exact Nat.le_refl _) _
              clear hblk9 hz15 hf15 hl15
              have HSZ9 : Hid (X.heap.size + 1 ≤ (w8.setCell ⟨w7.heap.size + 1, k * 8 + j, none⟩ (.int .i64 (a + b))).heap.size) := HBL9.out.lt
              go_wp2_with (at_builtin; with_reducible refine stop_appendT (.tmp 94) (.tmp 100) 38 rfl ?_)
              refine wpList_append_row rfl (.tmp 94) (.tmp 100) 38 rfl 2 .i64 8 (X.heap.size + 1) elt64v (.slice p9 l9 c9) (.slice (some ⟨w8.heap.size, 0, none⟩) 1 1) (allU M cur (8 * k + j)) [a] rfl rfl (HO9.out.alloc (.cells #[.int .i64 a] 2)) ⟨some ⟨w8.heap.size, 0, none⟩, 1, rfl, Nat.le_refl _, .inr ⟨w8.heap.size, 0, rfl, fun i hi => ?_⟩⟩ (by have := HLA.out; simp only [List.length_cons, List.length_nil]; omega) (by have := HLA.out; simp only [List.length_cons, List.length_nil]; omega) (Nat.le_trans HSZ9.out (by simp)) (allU M cur (8 * k + (j + 1))) (l9 + 1) HASY.out.symm (by rw [HASY.out, List.length_append, HL9.out]; rfl) ?_
              · obtain rfl : i = 0 := by simp at hi; omega
                exact (Blk.new' (w8.setCell ⟨w7.heap.size + 1, k * 8 + j, none⟩ (.int .i64 (a + b))) #[.int .i64 a] 2 (b := w8.heap.size) (by simp)).cell 0
              intro p10 c10 w10 ho10 hb10
              have hb11 := (Below.alloc (Below.refl (X.heap.size + 1) (w8.setCell ⟨w7.heap.size + 1, k * 8 + j, none⟩ (.int .i64 (a + b)))) HSZ9.out (.cells #[.int .i64 a] 2)).trans hb10
              have HNX : Hid (URel X M N cur (8 * k + (j + 1)) false (.slice p10 (l9 + 1) c10) w10) := ⟨HBX9.out.trans (hb11.mono (Nat.le_succ _)), HBL9.out.below hb11 (Nat.lt_succ_self _), ho10, HFX.out⟩
              clear ho10 hb10 hb11
              go_wp2_with fail
              go_roundw
              case rel => exact ⟨j + 1, false, by omega, by go_num, rfl, HNX⟩
              case measure => simp [intOf]; omega
            · have HFX := Lib.hid (HFS.out hf)
              clear HFS HFN hf
              skip
              have hs : wr.drew.cell? ⟨w4.heap.size + 1, k * 8 + j, none⟩ = some (.int .i64 a) ∧ wr.drew.cell? ⟨w5.heap.size + 1, k * 8 + j, none⟩ = some (.int .i64 b) := ⟨m0, m1⟩
              have HS : Hid (∀ w', Below wr.heap.size wr w' → w'.cell? ⟨w4.heap.size + 1, k * 8 + j, none⟩ = some (.int .i64 a) ∧ w'.cell? ⟨w5.heap.size + 1, k * 8 + j, none⟩ = some (.int .i64 b)) := fun w' h => ⟨(h.cell (p := ⟨w4.heap.size + 1, k * 8 + j, none⟩) lm0).trans m0, (h.cell (p := ⟨w5.heap.size + 1, k * 8 + j, none⟩) lm1).trans m1⟩
              clear m0 m1
              go_wp2_with fail
              refine wp_region_held_drew (S := fun w' => w'.cell? ⟨w4.heap.size + 1, k * 8 + j, none⟩ = some (.int .i64 a) ∧ w'.cell? ⟨w5.heap.size + 1, k * 8 + j, none⟩ = some (.int .i64 b)) (by kernel_rfl) hs (fun hS0 => ?_)
              refine wpAnyH_take (i := 0) (v := ?_) rfl (by kernel_rfl) (by kernel_rfl) (by kernel_rfl) (fun _ _ _ h => h) (Or.inl ⟨by kernel_rfl, ?_⟩) (by first | assumption | trivial) ?_
              rotate_left
              · intro w hSw
                try dsimp only at hSw
                first | (go_simp; done) | (go_simp; with_reducible rfl)
              try simp only [Act.put, List.getElem_toArray, List.getElem_cons_succ, List.getElem_cons_zero, List.setIfInBounds_toArray, List.set_cons_zero, List.set_cons_succ]
              refine wpAnyH_take (i := 1) (v := ?_) rfl (by kernel_rfl) (by kernel_rfl) (by kernel_rfl) (fun _ _ _ h => h) (Or.inl ⟨by kernel_rfl, ?_⟩) (by first | assumption | trivial) ?_
              rotate_left
              · intro w hSw
                try dsimp only at hSw
                first | (go_simp; done) | (go_simp; with_reducible rfl)
              try simp only [Act.put, List.getElem_toArray, List.getElem_cons_succ, List.getElem_cons_zero, List.setIfInBounds_toArray, List.set_cons_zero, List.set_cons_succ]
              refine wpAnyH_take (i := 2) (v := ?_) rfl (by kernel_rfl) (by kernel_rfl) (by kernel_rfl) (fun _ _ _ h => h) (Or.inl ⟨by kernel_rfl, ?_⟩) (by first | assumption | trivial) ?_
              rotate_left
              · intro w hSw
                try dsimp only at hSw
                first | (go_simp; done) | (go_simp; with_reducible rfl)
              try simp only [Act.put, List.getElem_toArray, List.getElem_cons_succ, List.getElem_cons_zero, List.setIfInBounds_toArray, List.set_cons_zero, List.set_cons_succ]
              refine wpAnyH_take (i := 3) (v := ?_) rfl (by kernel_rfl) (by kernel_rfl) (by kernel_rfl) (fun _ _ _ h => h) (Or.inl ⟨by kernel_rfl, ?_⟩) (by first | assumption | trivial) ?_
              rotate_left
              · intro w hSw
                try dsimp only at hSw
                first | (go_simp; done) | (go_simp; with_reducible rfl)
              try simp only [Act.put, List.getElem_toArray, List.getElem_cons_succ, List.getElem_cons_zero, List.setIfInBounds_toArray, List.set_cons_zero, List.set_cons_succ]
              refine wpAnyH_take (i := 4) (v := ?_) rfl (by kernel_rfl) (by kernel_rfl) (by kernel_rfl) (fun _ _ _ h => h) (Or.inl ⟨by kernel_rfl, ?_⟩) (by first | assumption | trivial) ?_
              rotate_left
              · intro w hSw
                try dsimp only at hSw
                first | (go_simp; done) | (go_simp; with_reducible rfl)
              try simp only [Act.put, List.getElem_toArray, List.getElem_cons_succ, List.getElem_cons_zero, List.setIfInBounds_toArray, List.set_cons_zero, List.set_cons_succ]
              refine wpAnyH_take (i := 5) (v := ?_) rfl (by kernel_rfl) (by kernel_rfl) (by kernel_rfl) (fun _ _ _ h => h) (Or.inl ⟨by kernel_rfl, ?_⟩) (by first | assumption | trivial) ?_
              rotate_left
              · intro w hSw
                try dsimp only at hSw
                first | (go_simp; done) | (go_simp; with_reducible rfl)
              try simp only [Act.put, List.getElem_toArray, List.getElem_cons_succ, List.getElem_cons_zero, List.setIfInBounds_toArray, List.set_cons_zero, List.set_cons_succ]
              refine wpAnyH_take (i := 6) (v := ?_) rfl (by kernel_rfl) (by kernel_rfl) (by kernel_rfl) (fun _ _ _ h => h) (Or.inl ⟨by kernel_rfl, ?_⟩) (by first | assumption | trivial) ?_
              rotate_left
              · intro w hSw
                try dsimp only at hSw
                first | (go_simp; done) | (go_simp; with_reducible rfl)
              try simp only [Act.put, List.getElem_toArray, List.getElem_cons_succ, List.getElem_cons_zero, List.setIfInBounds_toArray, List.set_cons_zero, List.set_cons_succ]
              refine wpAnyH_take (i := 7) (v := ?_) rfl (by kernel_rfl) (by kernel_rfl) (by kernel_rfl) (fun _ _ _ h => h) (Or.inl ⟨by kernel_rfl, ?_⟩) (by first | assumption | trivial) ?_
              rotate_left
              · intro w hSw
                try dsimp only at hSw
                first | (go_simp; done) | (go_simp; with_reducible rfl)
              try simp only [Act.put, List.getElem_toArray, List.getElem_cons_succ, List.getElem_cons_zero, List.setIfInBounds_toArray, List.set_cons_zero, List.set_cons_succ]
              refine wpAnyH_take (i := 8) (v := ?_) rfl (by kernel_rfl) (by kernel_rfl) (by kernel_rfl) (fun _ _ _ h => h) (Or.inl ⟨by kernel_rfl, ?_⟩) (by first | assumption | trivial) ?_
              rotate_left
              · intro w hSw
                try dsimp only at hSw
                first | (go_simp; done) | (go_simp; with_reducible rfl)
              try simp only [Act.put, List.getElem_toArray, List.getElem_cons_succ, List.getElem_cons_zero, List.setIfInBounds_toArray, List.set_cons_zero, List.set_cons_succ]
              refine wpAnyH_take (i := 9) (v := ?_) rfl (by kernel_rfl) (by kernel_rfl) (by kernel_rfl) (fun _ _ _ h => h) (Or.inl ⟨by kernel_rfl, ?_⟩) (by first | assumption | trivial) ?_
              rotate_left
              · intro w hSw
                try dsimp only at hSw
                first | (go_simp; done) | (go_simp; with_reducible rfl)
              try simp only [Act.put, List.getElem_toArray, List.getElem_cons_succ, List.getElem_cons_zero, List.setIfInBounds_toArray, List.set_cons_zero, List.set_cons_succ]
              refine wpAnyH_ready (rs := [10]) (by kernel_rfl) (by simp) ?_
              refine AllReadyH.cons rfl (fun K hK => ?_) AllReadyH.nil
              go_simp
              refine hK.out _ _ (HS.out (wr.drew.alloc (.cells #[.int .i64 a, .int .i64 b] 2)) ((Below.refl _ _).drew.alloc (Nat.le_refl _) _)) (fun hS => ?_)
              clear hK K
              try simp only [Act.put, List.getElem_toArray, List.getElem_cons_succ, List.getElem_cons_zero, List.setIfInBounds_toArray, List.set_cons_zero, List.set_cons_succ]
              refine wpAnyH_ready (rs := [11]) (by kernel_rfl) (by simp) ?_
              refine AllReadyH.cons rfl (fun K hK => ?_) AllReadyH.nil
              go_simp
              go_at_call 12
              refine (refsum_any (.slice (some ⟨wr.heap.size, 0, none⟩) 2 2) [a, b] (wr.drew.alloc (.cells #[.int .i64 a, .int .i64 b] 2)) (by simp) HA64.out (HROW.out wr.drew)).mono ?_
              rintro y w8 ⟨rfl, hb8⟩
              rw [HSUM.out, HSN.out, HSE.out]
              have HB8 := Lib.hid (((Below.refl wr.heap.size wr).drew.alloc (Nat.le_refl _) (.cells #[.int .i64 a, .int .i64 b] 2)).trans (hb8.mono (by simp)))
              clear hb8
              try go_wp2_with fail
              refine hK.out _ _ (HS.out w8 HB8.out) (fun hS => ?_)
              clear hK K
              try simp only [Act.put, List.getElem_toArray, List.getElem_cons_succ, List.getElem_cons_zero, List.setIfInBounds_toArray, List.set_cons_zero, List.set_cons_succ]
              refine wpAnyH_take (i := 12) (v := ?_) rfl (by kernel_rfl) (by kernel_rfl) (by kernel_rfl) (fun _ _ _ h => h) (Or.inl ⟨by kernel_rfl, ?_⟩) (by first | assumption | trivial) ?_
              rotate_left
              · intro w hSw
                try dsimp only at hSw
                first | (go_simp; done) | (go_simp; with_reducible rfl)
              try simp only [Act.put, List.getElem_toArray, List.getElem_cons_succ, List.getElem_cons_zero, List.setIfInBounds_toArray, List.set_cons_zero, List.set_cons_succ]
              refine wpAnyH_take (i := 13) (v := ?_) rfl (by kernel_rfl) (by kernel_rfl) (by kernel_rfl) (fun _ _ _ h => h) (Or.inl ⟨by kernel_rfl, ?_⟩) (by first | assumption | trivial) ?_
              rotate_left
              · intro w hSw
                try dsimp only at hSw
                first | (go_simp; done) | (go_simp; with_reducible rfl)
              try simp only [Act.put, List.getElem_toArray, List.getElem_cons_succ, List.getElem_cons_zero, List.setIfInBounds_toArray, List.set_cons_zero, List.set_cons_succ]
              refine wpAnyH_take (i := 14) (v := ?_) rfl (by kernel_rfl) (by kernel_rfl) (by kernel_rfl) (fun _ _ _ h => h) (Or.inl ⟨by kernel_rfl, ?_⟩) (by first | assumption | trivial) ?_
              rotate_left
              · intro w hSw
                try dsimp only at hSw
                first | (go_simp; done) | (go_simp; with_reducible rfl)
              try simp only [Act.put, List.getElem_toArray, List.getElem_cons_succ, List.getElem_cons_zero, List.setIfInBounds_toArray, List.set_cons_zero, List.set_cons_succ]
              refine wpAnyH_take (i := 15) (v := ?_) rfl (by kernel_rfl) (by kernel_rfl) (by kernel_rfl) (fun _ _ _ h => h) (Or.inl ⟨by kernel_rfl, ?_⟩) (by first | assumption | trivial) ?_
              rotate_left
              · intro w hSw
                try dsimp only at hSw
                first | (go_simp; done) | (go_simp; with_reducible rfl)
              try simp only [Act.put, List.getElem_toArray, List.getElem_cons_succ, List.getElem_cons_zero, List.setIfInBounds_toArray, List.set_cons_zero, List.set_cons_succ]
              refine wpAnyH_take (i := 16) (v := ?_) rfl (by kernel_rfl) (by kernel_rfl) (by kernel_rfl) (fun _ _ _ h => h) (Or.inl ⟨by kernel_rfl, ?_⟩) (by first | assumption | trivial) ?_
              rotate_left
              · intro w hSw
                try dsimp only at hSw
                first | (go_simp; done) | (go_simp; with_reducible rfl)
              try simp only [Act.put, List.getElem_toArray, List.getElem_cons_succ, List.getElem_cons_zero, List.setIfInBounds_toArray, List.set_cons_zero, List.set_cons_succ]
              refine wpAnyH_done (by kernel_rfl) ?_ _
              have n0 : w8.cell? ⟨w4.heap.size + 1, k * 8 + j, none⟩ = some (.int .i64 a) := (HS.out w8 HB8.out).1
              have z15 : w8.cell? ⟨w7.heap.size + 1, k * 8 + j, none⟩ = some (.int .i64 old) := (HB8.out.cell (p := ⟨w7.heap.size + 1, k * 8 + j, none⟩) hl15).trans hz15
              have fr15 : w8.frozen? ⟨w7.heap.size + 1, k * 8 + j, none⟩ = false := by
                have h := (HBLK.out.below HB8.out HBLK.out.lt).free (k * 8 + j)
                rwa [HSX.out] at h
              have l15 : w7.heap.size + 1 < w8.heap.size := Nat.lt_of_lt_of_le hl15 HB8.out.size
              have ln0 : w4.heap.size + 1 < w8.heap.size := Nat.lt_of_lt_of_le lm0 HB8.out.size
              have ne15 : ¬ w4.heap.size + 1 = w7.heap.size + 1 := by have := HN47.out; omega
              have HB9 := Lib.hid (HBJ.out.trans (HB8.out.mono HBJ.out.size))
              have hblk9 := ((HBLK.out.below HB8.out HBLK.out.lt).set (8 * k + j) (.int .i64 (a + b)))
              rw [mCells_set, ← HSS.out] at hblk9
              have HBL9 : Hid (Blk (w8.setCell ⟨w7.heap.size + 1, k * 8 + j, none⟩ (.int .i64 (a + b))) X.heap.size (mCells (sU M N (8 * k + j + 1))) 30) := by
                rw [HKJ.out, ← HSX.out]; exact hblk9
              have HO9 : Hid (Own .i64 (w8.setCell ⟨w7.heap.size + 1, k * 8 + j, none⟩ (.int .i64 (a + b))) (X.heap.size + 1) 2 (.slice p9 l9 c9) (allU M cur (8 * k + j))) := own_setLow (HOWN.out.later HB8.out) (by rw [HSX.out]; exact Nat.lt_succ_self (w7.heap.size + 1)) _
              have HBX9 : Hid (Below X.heap.size X (w8.setCell ⟨w7.heap.size + 1, k * 8 + j, none⟩ (.int .i64 (a + b)))) := HB9.out.setCell (p := ⟨w7.heap.size + 1, k * 8 + j, none⟩) (by rw [HSX.out]; exact Nat.le_refl _) _
              clear hblk9 hz15 hf15 hl15
              have HSZ9 : Hid (X.heap.size + 1 ≤ (w8.setCell ⟨w7.heap.size + 1, k * 8 + j, none⟩ (.int .i64 (a + b))).heap.size) := HBL9.out.lt
              go_wp2_with (at_builtin; with_reducible refine stop_appendT (.tmp 94) (.tmp 100) 38 rfl ?_)
              refine wpList_append_row rfl (.tmp 94) (.tmp 100) 38 rfl 2 .i64 8 (X.heap.size + 1) elt64v (.slice p9 l9 c9) (.slice (some ⟨w8.heap.size, 0, none⟩) 1 1) (allU M cur (8 * k + j)) [a] rfl rfl (HO9.out.alloc (.cells #[.int .i64 a] 2)) ⟨some ⟨w8.heap.size, 0, none⟩, 1, rfl, Nat.le_refl _, .inr ⟨w8.heap.size, 0, rfl, fun i hi => ?_⟩⟩ (by have := HLA.out; simp only [List.length_cons, List.length_nil]; omega) (by have := HLA.out; simp only [List.length_cons, List.length_nil]; omega) (Nat.le_trans HSZ9.out (by simp)) (allU M cur (8 * k + (j + 1))) (l9 + 1) HASY.out.symm (by rw [HASY.out, List.length_append, HL9.out]; rfl) ?_
              · obtain rfl : i = 0 := by simp at hi; omega
                exact (Blk.new' (w8.setCell ⟨w7.heap.size + 1, k * 8 + j, none⟩ (.int .i64 (a + b))) #[.int .i64 a] 2 (b := w8.heap.size) (by simp)).cell 0
              intro p10 c10 w10 ho10 hb10
              have hb11 := (Below.alloc (Below.refl (X.heap.size + 1) (w8.setCell ⟨w7.heap.size + 1, k * 8 + j, none⟩ (.int .i64 (a + b)))) HSZ9.out (.cells #[.int .i64 a] 2)).trans hb10
              have HNX : Hid (URel X M N cur (8 * k + (j + 1)) true (.slice p10 (l9 + 1) c10) w10) := ⟨HBX9.out.trans (hb11.mono (Nat.le_succ _)), HBL9.out.below hb11 (Nat.lt_succ_self _), ho10, ⟨fun _ => (by first | exact HFX.out.1 rfl | exact HFX.out.1 trivial), fun _ => rfl⟩⟩
              clear ho10 hb10 hb11
              go_wp2_with fail
              go_roundw
              case rel => exact ⟨j + 1, true, by omega, by go_num, rfl, HNX⟩
              case measure => simp [intOf]; omega
          · have ec : ((j : Int) == cur) = false := by simpa using hc
            have HASN : Hid (allU M cur (8 * k + (j + 1)) = allU M cur (8 * k + j)) := by have h := HAS.out; rw [if_neg hc, List.append_nil] at h; exact h
            clear hc HAS
            cases fb
            · have HFX := Lib.hid (fits_was HFB.out)
              clear HFS HFN hf
              skip
              have hs : wr.drew.cell? ⟨w4.heap.size + 1, k * 8 + j, none⟩ = some (.int .i64 a) ∧ wr.drew.cell? ⟨w5.heap.size + 1, k * 8 + j, none⟩ = some (.int .i64 b) := ⟨m0, m1⟩
              have HS : Hid (∀ w', Below wr.heap.size wr w' → w'.cell? ⟨w4.heap.size + 1, k * 8 + j, none⟩ = some (.int .i64 a) ∧ w'.cell? ⟨w5.heap.size + 1, k * 8 + j, none⟩ = some (.int .i64 b)) := fun w' h => ⟨(h.cell (p := ⟨w4.heap.size + 1, k * 8 + j, none⟩) lm0).trans m0, (h.cell (p := ⟨w5.heap.size + 1, k * 8 + j, none⟩) lm1).trans m1⟩
              clear m0 m1
              go_wp2_with fail
              refine wp_region_held_drew (S := fun w' => w'.cell? ⟨w4.heap.size + 1, k * 8 + j, none⟩ = some (.int .i64 a) ∧ w'.cell? ⟨w5.heap.size + 1, k * 8 + j, none⟩ = some (.int .i64 b)) (by kernel_rfl) hs (fun hS0 => ?_)
              refine wpAnyH_take (i := 0) (v := ?_) rfl (by kernel_rfl) (by kernel_rfl) (by kernel_rfl) (fun _ _ _ h => h) (Or.inl ⟨by kernel_rfl, ?_⟩) (by first | assumption | trivial) ?_
              rotate_left
              · intro w hSw
                try dsimp only at hSw
                first | (go_simp; done) | (go_simp; with_reducible rfl)
              try simp only [Act.put, List.getElem_toArray, List.getElem_cons_succ, List.getElem_cons_zero, List.setIfInBounds_toArray, List.set_cons_zero, List.set_cons_succ]
              refine wpAnyH_take (i := 1) (v := ?_) rfl (by kernel_rfl) (by kernel_rfl) (by kernel_rfl) (fun _ _ _ h => h) (Or.inl ⟨by kernel_rfl, ?_⟩) (by first | assumption | trivial) ?_
              rotate_left
              · intro w hSw
                try dsimp only at hSw
                first | (go_simp; done) | (go_simp; with_reducible rfl)
              try simp only [Act.put, List.getElem_toArray, List.getElem_cons_succ, List.getElem_cons_zero, List.setIfInBounds_toArray, List.set_cons_zero, List.set_cons_succ]
              refine wpAnyH_take (i := 2) (v := ?_) rfl (by kernel_rfl) (by kernel_rfl) (by kernel_rfl) (fun _ _ _ h => h) (Or.inl ⟨by kernel_rfl, ?_⟩) (by first | assumption | trivial) ?_
              rotate_left
              · intro w hSw
                try dsimp only at hSw
                first | (go_simp; done) | (go_simp; with_reducible rfl)
              try simp only [Act.put, List.getElem_toArray, List.getElem_cons_succ, List.getElem_cons_zero, List.setIfInBounds_toArray, List.set_cons_zero, List.set_cons_succ]
              refine wpAnyH_take (i := 3) (v := ?_) rfl (by kernel_rfl) (by kernel_rfl) (by kernel_rfl) (fun _ _ _ h => h) (Or.inl ⟨by kernel_rfl, ?_⟩) (by first | assumption | trivial) ?_
              rotate_left
              · intro w hSw
                try dsimp only at hSw
                first | (go_simp; done) | (go_simp; with_reducible rfl)
              try simp only [Act.put, List.getElem_toArray, List.getElem_cons_succ, List.getElem_cons_zero, List.setIfInBounds_toArray, List.set_cons_zero, List.set_cons_succ]
              refine wpAnyH_take (i := 4) (v := ?_) rfl (by kernel_rfl) (by kernel_rfl) (by kernel_rfl) (fun _ _ _ h => h) (Or.inl ⟨by kernel_rfl, ?_⟩) (by first | assumption | trivial) ?_
              rotate_left
              · intro w hSw
                try dsimp only at hSw
                first | (go_simp; done) | (go_simp; with_reducible rfl)
              try simp only [Act.put, List.getElem_toArray, List.getElem_cons_succ, List.getElem_cons_zero, List.setIfInBounds_toArray, List.set_cons_zero, List.set_cons_succ]
              refine wpAnyH_take (i := 5) (v := ?_) rfl (by kernel_rfl) (by kernel_rfl) (by kernel_rfl) (fun _ _ _ h => h) (Or.inl ⟨by kernel_rfl, ?_⟩) (by first | assumption | trivial) ?_
              rotate_left
              · intro w hSw
                try dsimp only at hSw
                first | (go_simp; done) | (go_simp; with_reducible rfl)
              try simp only [Act.put, List.getElem_toArray, List.getElem_cons_succ, List.getElem_cons_zero, List.setIfInBounds_toArray, List.set_cons_zero, List.set_cons_succ]
              refine wpAnyH_take (i := 6) (v := ?_) rfl (by kernel_rfl) (by kernel_rfl) (by kernel_rfl) (fun _ _ _ h => h) (Or.inl ⟨by kernel_rfl, ?_⟩) (by first | assumption | trivial) ?_
              rotate_left
              · intro w hSw
                try dsimp only at hSw
                first | (go_simp; done) | (go_simp; with_reducible rfl)
              try simp only [Act.put, List.getElem_toArray, List.getElem_cons_succ, List.getElem_cons_zero, List.setIfInBounds_toArray, List.set_cons_zero, List.set_cons_succ]
              refine wpAnyH_take (i := 7) (v := ?_) rfl (by kernel_rfl) (by kernel_rfl) (by kernel_rfl) (fun _ _ _ h => h) (Or.inl ⟨by kernel_rfl, ?_⟩) (by first | assumption | trivial) ?_
              rotate_left
              · intro w hSw
                try dsimp only at hSw
                first | (go_simp; done) | (go_simp; with_reducible rfl)
              try simp only [Act.put, List.getElem_toArray, List.getElem_cons_succ, List.getElem_cons_zero, List.setIfInBounds_toArray, List.set_cons_zero, List.set_cons_succ]
              refine wpAnyH_take (i := 8) (v := ?_) rfl (by kernel_rfl) (by kernel_rfl) (by kernel_rfl) (fun _ _ _ h => h) (Or.inl ⟨by kernel_rfl, ?_⟩) (by first | assumption | trivial) ?_
              rotate_left
              · intro w hSw
                try dsimp only at hSw
                first | (go_simp; done) | (go_simp; with_reducible rfl)
              try simp only [Act.put, List.getElem_toArray, List.getElem_cons_succ, List.getElem_cons_zero, List.setIfInBounds_toArray, List.set_cons_zero, List.set_cons_succ]
              refine wpAnyH_take (i := 9) (v := ?_) rfl (by kernel_rfl) (by kernel_rfl) (by kernel_rfl) (fun _ _ _ h => h) (Or.inl ⟨by kernel_rfl, ?_⟩) (by first | assumption | trivial) ?_
              rotate_left
              · intro w hSw
                try dsimp only at hSw
                first | (go_simp; done) | (go_simp; with_reducible rfl)
              try simp only [Act.put, List.getElem_toArray, List.getElem_cons_succ, List.getElem_cons_zero, List.setIfInBounds_toArray, List.set_cons_zero, List.set_cons_succ]
              refine wpAnyH_ready (rs := [10]) (by kernel_rfl) (by simp) ?_
              refine AllReadyH.cons rfl (fun K hK => ?_) AllReadyH.nil
              go_simp
              refine hK.out _ _ (HS.out (wr.drew.alloc (.cells #[.int .i64 a, .int .i64 b] 2)) ((Below.refl _ _).drew.alloc (Nat.le_refl _) _)) (fun hS => ?_)
              clear hK K
              try simp only [Act.put, List.getElem_toArray, List.getElem_cons_succ, List.getElem_cons_zero, List.setIfInBounds_toArray, List.set_cons_zero, List.set_cons_succ]
              refine wpAnyH_ready (rs := [11]) (by kernel_rfl) (by simp) ?_
              refine AllReadyH.cons rfl (fun K hK => ?_) AllReadyH.nil
              go_simp
              go_at_call 12
              refine (refsum_any (.slice (some ⟨wr.heap.size, 0, none⟩) 2 2) [a, b] (wr.drew.alloc (.cells #[.int .i64 a, .int .i64 b] 2)) (by simp) HA64.out (HROW.out wr.drew)).mono ?_
              rintro y w8 ⟨rfl, hb8⟩
              rw [HSUM.out, HSN.out, HSE.out]
              have HB8 := Lib.hid (((Below.refl wr.heap.size wr).drew.alloc (Nat.le_refl _) (.cells #[.int .i64 a, .int .i64 b] 2)).trans (hb8.mono (by simp)))
              clear hb8
              try go_wp2_with fail
              refine hK.out _ _ (HS.out w8 HB8.out) (fun hS => ?_)
              clear hK K
              try simp only [Act.put, List.getElem_toArray, List.getElem_cons_succ, List.getElem_cons_zero, List.setIfInBounds_toArray, List.set_cons_zero, List.set_cons_succ]
              refine wpAnyH_take (i := 12) (v := ?_) rfl (by kernel_rfl) (by kernel_rfl) (by kernel_rfl) (fun _ _ _ h => h) (Or.inl ⟨by kernel_rfl, ?_⟩) (by first | assumption | trivial) ?_
              rotate_left
              · intro w hSw
                try dsimp only at hSw
                first | (go_simp; done) | (go_simp; with_reducible rfl)
              try simp only [Act.put, List.getElem_toArray, List.getElem_cons_succ, List.getElem_cons_zero, List.setIfInBounds_toArray, List.set_cons_zero, List.set_cons_succ]
              refine wpAnyH_take (i := 13) (v := ?_) rfl (by kernel_rfl) (by kernel_rfl) (by kernel_rfl) (fun _ _ _ h => h) (Or.inl ⟨by kernel_rfl, ?_⟩) (by first | assumption | trivial) ?_
              rotate_left
              · intro w hSw
                try dsimp only at hSw
                first | (go_simp; done) | (go_simp; with_reducible rfl)
              try simp only [Act.put, List.getElem_toArray, List.getElem_cons_succ, List.getElem_cons_zero, List.setIfInBounds_toArray, List.set_cons_zero, List.set_cons_succ]
              refine wpAnyH_take (i := 14) (v := ?_) rfl (by kernel_rfl) (by kernel_rfl) (by kernel_rfl) (fun _ _ _ h => h) (Or.inl ⟨by kernel_rfl, ?_⟩) (by first | assumption | trivial) ?_
              rotate_left
              · intro w hSw
                try dsimp only at hSw
                first | (go_simp; done) | (go_simp; with_reducible rfl)
              try simp only [Act.put, List.getElem_toArray, List.getElem_cons_succ, List.getElem_cons_zero, List.setIfInBounds_toArray, List.set_cons_zero, List.set_cons_succ]
              refine wpAnyH_take (i := 15) (v := ?_) rfl (by kernel_rfl) (by kernel_rfl) (by kernel_rfl) (fun _ _ _ h => h) (Or.inl ⟨by kernel_rfl, ?_⟩) (by first | assumption | trivial) ?_
              rotate_left
              · intro w hSw
                try dsimp only at hSw
                first | (go_simp; done) | (go_simp; with_reducible rfl)
              try simp only [Act.put, List.getElem_toArray, List.getElem_cons_succ, List.getElem_cons_zero, List.setIfInBounds_toArray, List.set_cons_zero, List.set_cons_succ]
              refine wpAnyH_take (i := 16) (v := ?_) rfl (by kernel_rfl) (by kernel_rfl) (by kernel_rfl) (fun _ _ _ h => h) (Or.inl ⟨by kernel_rfl, ?_⟩) (by first | assumption | trivial) ?_
              rotate_left
              · intro w hSw
                try dsimp only at hSw
                first | (go_simp; done) | (go_simp; with_reducible rfl)
              try simp only [Act.put, List.getElem_toArray, List.getElem_cons_succ, List.getElem_cons_zero, List.setIfInBounds_toArray, List.set_cons_zero, List.set_cons_succ]
              refine wpAnyH_done (by kernel_rfl) ?_ _
              have n0 : w8.cell? ⟨w4.heap.size + 1, k * 8 + j, none⟩ = some (.int .i64 a) := (HS.out w8 HB8.out).1
              have z15 : w8.cell? ⟨w7.heap.size + 1, k * 8 + j, none⟩ = some (.int .i64 old) := (HB8.out.cell (p := ⟨w7.heap.size + 1, k * 8 + j, none⟩) hl15).trans hz15
              have fr15 : w8.frozen? ⟨w7.heap.size + 1, k * 8 + j, none⟩ = false := by
                have h := (HBLK.out.below HB8.out HBLK.out.lt).free (k * 8 + j)
                rwa [HSX.out] at h
              have l15 : w7.heap.size + 1 < w8.heap.size := Nat.lt_of_lt_of_le hl15 HB8.out.size
              have ln0 : w4.heap.size + 1 < w8.heap.size := Nat.lt_of_lt_of_le lm0 HB8.out.size
              have ne15 : ¬ w4.heap.size + 1 = w7.heap.size + 1 := by have := HN47.out; omega
              have HB9 := Lib.hid (HBJ.out.trans (HB8.out.mono HBJ.out.size))
              have hblk9 := ((HBLK.out.below HB8.out HBLK.out.lt).set (8 * k + j) (.int .i64 (a + b)))
              rw [mCells_set, ← HSS.out] at hblk9
              have HBL9 : Hid (Blk (w8.setCell ⟨w7.heap.size + 1, k * 8 + j, none⟩ (.int .i64 (a + b))) X.heap.size (mCells (sU M N (8 * k + j + 1))) 30) := by
                rw [HKJ.out, ← HSX.out]; exact hblk9
              have HO9 : Hid (Own .i64 (w8.setCell ⟨w7.heap.size + 1, k * 8 + j, none⟩ (.int .i64 (a + b))) (X.heap.size + 1) 2 (.slice p9 l9 c9) (allU M cur (8 * k + j))) := own_setLow (HOWN.out.later HB8.out) (by rw [HSX.out]; exact Nat.lt_succ_self (w7.heap.size + 1)) _
              have HBX9 : Hid (Below X.heap.size X (w8.setCell ⟨w7.heap.size + 1, k * 8 + j, none⟩ (.int .i64 (a + b)))) := HB9.out.setCell (p := ⟨w7.heap.size + 1, k * 8 + j, none⟩) (by rw [HSX.out]; exact Nat.le_refl _) _
              clear hblk9 hz15 hf15 hl15
              have HNX : Hid (URel X M N cur (8 * k + (j + 1)) false (.slice p9 l9 c9) (w8.setCell ⟨w7.heap.size + 1, k * 8 + j, none⟩ (.int .i64 (a + b)))) := ⟨HBX9.out, HBL9.out, by have h := HO9.out; rw [show allU M cur (8 * k + (j + 1)) = allU M cur (8 * k + j) from HASN.out]; exact h, HFX.out⟩
              go_wp2_with fail
              go_roundw
              case rel => exact ⟨j + 1, false, by omega, by go_num, rfl, HNX⟩
              case measure => simp [intOf]; omega
            · have HFX := Lib.hid (HFS.out hf)
              clear HFS HFN hf
              skip
              have hs : wr.drew.cell? ⟨w4.heap.size + 1, k * 8 + j, none⟩ = some (.int .i64 a) ∧ wr.drew.cell? ⟨w5.heap.size + 1, k * 8 + j, none⟩ = some (.int .i64 b) := ⟨m0, m1⟩
              have HS : Hid (∀ w', Below wr.heap.size wr w' → w'.cell? ⟨w4.heap.size + 1, k * 8 + j, none⟩ = some (.int .i64 a) ∧ w'.cell? ⟨w5.heap.size + 1, k * 8 + j, none⟩ = some (.int .i64 b)) := fun w' h => ⟨(h.cell (p := ⟨w4.heap.size + 1, k * 8 + j, none⟩) lm0).trans m0, (h.cell (p := ⟨w5.heap.size + 1, k * 8 + j, none⟩) lm1).trans m1⟩
              clear m0 m1
              go_wp2_with fail
              refine wp_region_held_drew (S := fun w' => w'.cell? ⟨w4.heap.size + 1, k * 8 + j, none⟩ = some (.int .i64 a) ∧ w'.cell? ⟨w5.heap.size + 1, k * 8 + j, none⟩ = some (.int .i64 b)) (by kernel_rfl) hs (fun hS0 => ?_)
              refine wpAnyH_take (i := 0) (v := ?_) rfl (by kernel_rfl) (by kernel_rfl) (by kernel_rfl) (fun _ _ _ h => h) (Or.inl ⟨by kernel_rfl, ?_⟩) (by first | assumption | trivial) ?_
              rotate_left
              · intro w hSw
                try dsimp only at hSw
                first | (go_simp; done) | (go_simp; with_reducible rfl)
              try simp only [Act.put, List.getElem_toArray, List.getElem_cons_succ, List.getElem_cons_zero, List.setIfInBounds_toArray, List.set_cons_zero, List.set_cons_succ]
              refine wpAnyH_take (i := 1) (v := ?_) rfl (by kernel_rfl) (by kernel_rfl) (by kernel_rfl) (fun _ _ _ h => h) (Or.inl ⟨by kernel_rfl, ?_⟩) (by first | assumption | trivial) ?_
              rotate_left
              · intro w hSw
                try dsimp only at hSw
                first | (go_simp; done) | (go_simp; with_reducible rfl)
              try simp only [Act.put, List.getElem_toArray, List.getElem_cons_succ, List.getElem_cons_zero, List.setIfInBounds_toArray, List.set_cons_zero, List.set_cons_succ]
              refine wpAnyH_take (i := 2) (v := ?_) rfl (by kernel_rfl) (by kernel_rfl) (by kernel_rfl) (fun _ _ _ h => h) (Or.inl ⟨by kernel_rfl, ?_⟩) (by first | assumption | trivial) ?_
              rotate_left
              · intro w hSw
                try dsimp only at hSw
                first | (go_simp; done) | (go_simp; with_reducible rfl)
              try simp only [Act.put, List.getElem_toArray, List.getElem_cons_succ, List.getElem_cons_zero, List.setIfInBounds_toArray, List.set_cons_zero, List.set_cons_succ]
              refine wpAnyH_take (i := 3) (v := ?_) rfl (by kernel_rfl) (by kernel_rfl) (by kernel_rfl) (fun _ _ _ h => h) (Or.inl ⟨by kernel_rfl, ?_⟩) (by first | assumption | trivial) ?_
              rotate_left
              · intro w hSw
                try dsimp only at hSw
                first | (go_simp; done) | (go_simp; with_reducible rfl)
              try simp only [Act.put, List.getElem_toArray, List.getElem_cons_succ, List.getElem_cons_zero, List.setIfInBounds_toArray, List.set_cons_zero, List.set_cons_succ]
              refine wpAnyH_take (i := 4) (v := ?_) rfl (by kernel_rfl) (by kernel_rfl) (by kernel_rfl) (fun _ _ _ h => h) (Or.inl ⟨by kernel_rfl, ?_⟩) (by first | assumption | trivial) ?_
              rotate_left
              · intro w hSw
                try dsimp only at hSw
                first | (go_simp; done) | (go_simp; with_reducible rfl)
              try simp only [Act.put, List.getElem_toArray, List.getElem_cons_succ, List.getElem_cons_zero, List.setIfInBounds_toArray, List.set_cons_zero, List.set_cons_succ]
              refine wpAnyH_take (i := 5) (v := ?_) rfl (by kernel_rfl) (by kernel_rfl) (by kernel_rfl) (fun _ _ _ h => h) (Or.inl ⟨by kernel_rfl, ?_⟩) (by first | assumption | trivial) ?_
              rotate_left
              · intro w hSw
                try dsimp only at hSw
                first | (go_simp; done) | (go_simp; with_reducible rfl)
              try simp only [Act.put, List.getElem_toArray, List.getElem_cons_succ, List.getElem_cons_zero, List.setIfInBounds_toArray, List.set_cons_zero, List.set_cons_succ]
              refine wpAnyH_take (i := 6) (v := ?_) rfl (by kernel_rfl) (by kernel_rfl) (by kernel_rfl) (fun _ _ _ h => h) (Or.inl ⟨by kernel_rfl, ?_⟩) (by first | assumption | trivial) ?_
              rotate_left
              · intro w hSw
                try dsimp only at hSw
                first | (go_simp; done) | (go_simp; with_reducible rfl)
              try simp only [Act.put, List.getElem_toArray, List.getElem_cons_succ, List.getElem_cons_zero, List.setIfInBounds_toArray, List.set_cons_zero, List.set_cons_succ]
              refine wpAnyH_take (i := 7) (v := ?_) rfl (by kernel_rfl) (by kernel_rfl) (by kernel_rfl) (fun _ _ _ h => h) (Or.inl ⟨by kernel_rfl, ?_⟩) (by first | assumption | trivial) ?_
              rotate_left
              · intro w hSw
                try dsimp only at hSw
                first | (go_simp; done) | (go_simp; with_reducible rfl)
              try simp only [Act.put, List.getElem_toArray, List.getElem_cons_succ, List.getElem_cons_zero, List.setIfInBounds_toArray, List.set_cons_zero, List.set_cons_succ]
              refine wpAnyH_take (i := 8) (v := ?_) rfl (by kernel_rfl) (by kernel_rfl) (by kernel_rfl) (fun _ _ _ h => h) (Or.inl ⟨by kernel_rfl, ?_⟩) (by first | assumption | trivial) ?_
              rotate_left
              · intro w hSw
                try dsimp only at hSw
                first | (go_simp; done) | (go_simp; with_reducible rfl)
              try simp only [Act.put, List.getElem_toArray, List.getElem_cons_succ, List.getElem_cons_zero, List.setIfInBounds_toArray, List.set_cons_zero, List.set_cons_succ]
              refine wpAnyH_take (i := 9) (v := ?_) rfl (by kernel_rfl) (by kernel_rfl) (by kernel_rfl) (fun _ _ _ h => h) (Or.inl ⟨by kernel_rfl, ?_⟩) (by first | assumption | trivial) ?_
              rotate_left
              · intro w hSw
                try dsimp only at hSw
                first | (go_simp; done) | (go_simp; with_reducible rfl)
              try simp only [Act.put, List.getElem_toArray, List.getElem_cons_succ, List.getElem_cons_zero, List.setIfInBounds_toArray, List.set_cons_zero, List.set_cons_succ]
              refine wpAnyH_ready (rs := [10]) (by kernel_rfl) (by simp) ?_
              refine AllReadyH.cons rfl (fun K hK => ?_) AllReadyH.nil
              go_simp
              refine hK.out _ _ (HS.out (wr.drew.alloc (.cells #[.int .i64 a, .int .i64 b] 2)) ((Below.refl _ _).drew.alloc (Nat.le_refl _) _)) (fun hS => ?_)
              clear hK K
              try simp only [Act.put, List.getElem_toArray, List.getElem_cons_succ, List.getElem_cons_zero, List.setIfInBounds_toArray, List.set_cons_zero, List.set_cons_succ]
              refine wpAnyH_ready (rs := [11]) (by kernel_rfl) (by simp) ?_
              refine AllReadyH.cons rfl (fun K hK => ?_) AllReadyH.nil
              go_simp
              go_at_call 12
              refine (refsum_any (.slice (some ⟨wr.heap.size, 0, none⟩) 2 2) [a, b] (wr.drew.alloc (.cells #[.int .i64 a, .int .i64 b] 2)) (by simp) HA64.out (HROW.out wr.drew)).mono ?_
              rintro y w8 ⟨rfl, hb8⟩
              rw [HSUM.out, HSN.out, HSE.out]
              have HB8 := Lib.hid (((Below.refl wr.heap.size wr).drew.alloc (Nat.le_refl _) (.cells #[.int .i64 a, .int .i64 b] 2)).trans (hb8.mono (by simp)))
              clear hb8
              try go_wp2_with fail
              refine hK.out _ _ (HS.out w8 HB8.out) (fun hS => ?_)
              clear hK K
              try simp only [Act.put, List.getElem_toArray, List.getElem_cons_succ, List.getElem_cons_zero, List.setIfInBounds_toArray, List.set_cons_zero, List.set_cons_succ]
              refine wpAnyH_take (i := 12) (v := ?_) rfl (by kernel_rfl) (by kernel_rfl) (by kernel_rfl) (fun _ _ _ h => h) (Or.inl ⟨by kernel_rfl, ?_⟩) (by first | assumption | trivial) ?_
              rotate_left
              · intro w hSw
                try dsimp only at hSw
                first | (go_simp; done) | (go_simp; with_reducible rfl)
              try simp only [Act.put, List.getElem_toArray, List.getElem_cons_succ, List.getElem_cons_zero, List.setIfInBounds_toArray, List.set_cons_zero, List.set_cons_succ]
              refine wpAnyH_take (i := 13) (v := ?_) rfl (by kernel_rfl) (by kernel_rfl) (by kernel_rfl) (fun _ _ _ h => h) (Or.inl ⟨by kernel_rfl, ?_⟩) (by first | assumption | trivial) ?_
              rotate_left
              · intro w hSw
                try dsimp only at hSw
                first | (go_simp; done) | (go_simp; with_reducible rfl)
              try simp only [Act.put, List.getElem_toArray, List.getElem_cons_succ, List.getElem_cons_zero, List.setIfInBounds_toArray, List.set_cons_zero, List.set_cons_succ]
              refine wpAnyH_take (i := 14) (v := ?_) rfl (by kernel_rfl) (by kernel_rfl) (by kernel_rfl) (fun _ _ _ h => h) (Or.inl ⟨by kernel_rfl, ?_⟩) (by first | assumption | trivial) ?_
              rotate_left
              · intro w hSw
                try dsimp only at hSw
                first | (go_simp; done) | (go_simp; with_reducible rfl)
              try simp only [Act.put, List.getElem_toArray, List.getElem_cons_succ, List.getElem_cons_zero, List.setIfInBounds_toArray, List.set_cons_zero, List.set_cons_succ]
              refine wpAnyH_take (i := 15) (v := ?_) rfl (by kernel_rfl) (by kernel_rfl) (by kernel_rfl) (fun _ _ _ h => h) (Or.inl ⟨by kernel_rfl, ?_⟩) (by first | assumption | trivial) ?_
              rotate_left
              · intro w hSw
                try dsimp only at hSw
                first | (go_simp; done) | (go_simp; with_reducible rfl)
              try simp only [Act.put, List.getElem_toArray, List.getElem_cons_succ, List.getElem_cons_zero, List.setIfInBounds_toArray, List.set_cons_zero, List.set_cons_succ]
              refine wpAnyH_take (i := 16) (v := ?_) rfl (by kernel_rfl) (by kernel_rfl) (by kernel_rfl) (fun _ _ _ h => h) (Or.inl ⟨by kernel_rfl, ?_⟩) (by first | assumption | trivial) ?_
              rotate_left
              · intro w hSw
                try dsimp only at hSw
                first | (go_simp; done) | (go_simp; with_reducible rfl)
              try simp only [Act.put, List.getElem_toArray, List.getElem_cons_succ, List.getElem_cons_zero, List.setIfInBounds_toArray, List.set_cons_zero, List.set_cons_succ]
              refine wpAnyH_done (by kernel_rfl) ?_ _
              have n0 : w8.cell? ⟨w4.heap.size + 1, k * 8 + j, none⟩ = some (.int .i64 a) := (HS.out w8 HB8.out).1
              have z15 : w8.cell? ⟨w7.heap.size + 1, k * 8 + j, none⟩ = some (.int .i64 old) := (HB8.out.cell (p := ⟨w7.heap.size + 1, k * 8 + j, none⟩) hl15).trans hz15
              have fr15 : w8.frozen? ⟨w7.heap.size + 1, k * 8 + j, none⟩ = false := by
                have h := (HBLK.out.below HB8.out HBLK.out.lt).free (k * 8 + j)
                rwa [HSX.out] at h
              have l15 : w7.heap.size + 1 < w8.heap.size := Nat.lt_of_lt_of_le hl15 HB8.out.size
              have ln0 : w4.heap.size + 1 < w8.heap.size := Nat.lt_of_lt_of_le lm0 HB8.out.size
              have ne15 : ¬ w4.heap.size + 1 = w7.heap.size + 1 := by have := HN47.out; omega
              have HB9 := Lib.hid (HBJ.out.trans (HB8.out.mono HBJ.out.size))
              have hblk9 := ((HBLK.out.below HB8.out HBLK.out.lt).set (8 * k + j) (.int .i64 (a + b)))
              rw [mCells_set, ← HSS.out] at hblk9
              have HBL9 : Hid (Blk (w8.setCell ⟨w7.heap.size + 1, k * 8 + j, none⟩ (.int .i64 (a + b))) X.heap.size (mCells (sU M N (8 * k + j + 1))) 30) := by
                rw [HKJ.out, ← HSX.out]; exact hblk9
              have HO9 : Hid (Own .i64 (w8.setCell ⟨w7.heap.size + 1, k * 8 + j, none⟩ (.int .i64 (a + b))) (X.heap.size + 1) 2 (.slice p9 l9 c9) (allU M cur (8 * k + j))) := own_setLow (HOWN.out.later HB8.out) (by rw [HSX.out]; exact Nat.lt_succ_self (w7.heap.size + 1)) _
              have HBX9 : Hid (Below X.heap.size X (w8.setCell ⟨w7.heap.size + 1, k * 8 + j, none⟩ (.int .i64 (a + b)))) := HB9.out.setCell (p := ⟨w7.heap.size + 1, k * 8 + j, none⟩) (by rw [HSX.out]; exact Nat.le_refl _) _
              clear hblk9 hz15 hf15 hl15
              have HNX : Hid (URel X M N cur (8 * k + (j + 1)) true (.slice p9 l9 c9) (w8.setCell ⟨w7.heap.size + 1, k * 8 + j, none⟩ (.int .i64 (a + b)))) := ⟨HBX9.out, HBL9.out, by have h := HO9.out; rw [show allU M cur (8 * k + (j + 1)) = allU M cur (8 * k + j) from HASN.out]; exact h, ⟨fun _ => (by first | exact HFX.out.1 rfl | exact HFX.out.1 trivial), fun _ => rfl⟩⟩
              go_wp2_with fail
              go_roundw
              case rel => exact ⟨j + 1, true, by omega, by go_num, rfl, HNX⟩
              case measure => simp [intOf]; omega
        · have HSN := Lib.hid (sumN_no hf)
          have HSE := Lib.hid (sumE_no hf)
          rw [HSN.out] at HSS
          by_cases hc : (j : Int) = cur
          · have ec : ((j : Int) == cur) = true := by simpa using hc
            have HASY : Hid (allU M cur (8 * k + (j + 1)) = allU M cur (8 * k + j) ++ [a]) := by have h := HAS.out; rw [if_pos hc] at h; exact h
            clear hc HAS
            cases fb
            · have HFX := Lib.hid (HFN.out hf)
              clear HFS HFN hf
              skip
              have hs : wr.drew.cell? ⟨w4.heap.size + 1, k * 8 + j, none⟩ = some (.int .i64 a) ∧ wr.drew.cell? ⟨w5.heap.size + 1, k * 8 + j, none⟩ = some (.int .i64 b) := ⟨m0, m1⟩
              have HS : Hid (∀ w', Below wr.heap.size wr w' → w'.cell? ⟨w4.heap.size + 1, k * 8 + j, none⟩ = some (.int .i64 a) ∧ w'.cell? ⟨w5.heap.size + 1, k * 8 + j, none⟩ = some (.int .i64 b)) := fun w' h => ⟨(h.cell (p := ⟨w4.heap.size + 1, k * 8 + j, none⟩) lm0).trans m0, (h.cell (p := ⟨w5.heap.size + 1, k * 8 + j, none⟩) lm1).trans m1⟩
              clear m0 m1
              go_wp2_with fail
              refine wp_region_held_drew (S := fun w' => w'.cell? ⟨w4.heap.size + 1, k * 8 + j, none⟩ = some (.int .i64 a) ∧ w'.cell? ⟨w5.heap.size + 1, k * 8 + j, none⟩ = some (.int .i64 b)) (by kernel_rfl) hs (fun hS0 => ?_)
              refine wpAnyH_take (i := 0) (v := ?_) rfl (by kernel_rfl) (by kernel_rfl) (by kernel_rfl) (fun _ _ _ h => h) (Or.inl ⟨by kernel_rfl, ?_⟩) (by first | assumption | trivial) ?_
              rotate_left
              · intro w hSw
                try dsimp only at hSw
                first | (go_simp; done) | (go_simp; with_reducible rfl)
              try simp only [Act.put, List.getElem_toArray, List.getElem_cons_succ, List.getElem_cons_zero, List.setIfInBounds_toArray, List.set_cons_zero, List.set_cons_succ]
              refine wpAnyH_take (i := 1) (v := ?_) rfl (by kernel_rfl) (by kernel_rfl) (by kernel_rfl) (fun _ _ _ h => h) (Or.inl ⟨by kernel_rfl, ?_⟩) (by first | assumption | trivial) ?_
              rotate_left
              · intro w hSw
                try dsimp only at hSw
                first | (go_simp; done) | (go_simp; with_reducible rfl)
              try simp only [Act.put, List.getElem_toArray, List.getElem_cons_succ, List.getElem_cons_zero, List.setIfInBounds_toArray, List.set_cons_zero, List.set_cons_succ]
              refine wpAnyH_take (i := 2) (v := ?_) rfl (by kernel_rfl) (by kernel_rfl) (by kernel_rfl) (fun _ _ _ h => h) (Or.inl ⟨by kernel_rfl, ?_⟩) (by first | assumption | trivial) ?_
              rotate_left
              · intro w hSw
                try dsimp only at hSw
                first | (go_simp; done) | (go_simp; with_reducible rfl)
              try simp only [Act.put, List.getElem_toArray, List.getElem_cons_succ, List.getElem_cons_zero, List.setIfInBounds_toArray, List.set_cons_zero, List.set_cons_succ]
              refine wpAnyH_take (i := 3) (v := ?_) rfl (by kernel_rfl) (by kernel_rfl) (by kernel_rfl) (fun _ _ _ h => h) (Or.inl ⟨by kernel_rfl, ?_⟩) (by first | assumption | trivial) ?_
              rotate_left
              · intro w hSw
                try dsimp only at hSw
                first | (go_simp; done) | (go_simp; with_reducible rfl)
              try simp only [Act.put, List.getElem_toArray, List.getElem_cons_succ, List.getElem_cons_zero, List.setIfInBounds_toArray, List.set_cons_zero, List.set_cons_succ]
              refine wpAnyH_take (i := 4) (v := ?_) rfl (by kernel_rfl) (by kernel_rfl) (by kernel_rfl) (fun _ _ _ h => h) (Or.inl ⟨by kernel_rfl, ?_⟩) (by first | assumption | trivial) ?_
              rotate_left
              · intro w hSw
                try dsimp only at hSw
                first | (go_simp; done) | (go_simp; with_reducible rfl)
              try simp only [Act.put, List.getElem_toArray, List.getElem_cons_succ, List.getElem_cons_zero, List.setIfInBounds_toArray, List.set_cons_zero, List.set_cons_succ]
              refine wpAnyH_take (i := 5) (v := ?_) rfl (by kernel_rfl) (by kernel_rfl) (by kernel_rfl) (fun _ _ _ h => h) (Or.inl ⟨by kernel_rfl, ?_⟩) (by first | assumption | trivial) ?_
              rotate_left
              · intro w hSw
                try dsimp only at hSw
                first | (go_simp; done) | (go_simp; with_reducible rfl)
              try simp only [Act.put, List.getElem_toArray, List.getElem_cons_succ, List.getElem_cons_zero, List.setIfInBounds_toArray, List.set_cons_zero, List.set_cons_succ]
              refine wpAnyH_take (i := 6) (v := ?_) rfl (by kernel_rfl) (by kernel_rfl) (by kernel_rfl) (fun _ _ _ h => h) (Or.inl ⟨by kernel_rfl, ?_⟩) (by first | assumption | trivial) ?_
              rotate_left
              · intro w hSw
                try dsimp only at hSw
                first | (go_simp; done) | (go_simp; with_reducible rfl)
              try simp only [Act.put, List.getElem_toArray, List.getElem_cons_succ, List.getElem_cons_zero, List.setIfInBounds_toArray, List.set_cons_zero, List.set_cons_succ]
              refine wpAnyH_take (i := 7) (v := ?_) rfl (by kernel_rfl) (by kernel_rfl) (by kernel_rfl) (fun _ _ _ h => h) (Or.inl ⟨by kernel_rfl, ?_⟩) (by first | assumption | trivial) ?_
              rotate_left
              · intro w hSw
                try dsimp only at hSw
                first | (go_simp; done) | (go_simp; with_reducible rfl)
              try simp only [Act.put, List.getElem_toArray, List.getElem_cons_succ, List.getElem_cons_zero, List.setIfInBounds_toArray, List.set_cons_zero, List.set_cons_succ]
              refine wpAnyH_take (i := 8) (v := ?_) rfl (by kernel_rfl) (by kernel_rfl) (by kernel_rfl) (fun _ _ _ h => h) (Or.inl ⟨by kernel_rfl, ?_⟩) (by first | assumption | trivial) ?_
              rotate_left
              · intro w hSw
                try dsimp only at hSw
                first | (go_simp; done) | (go_simp; with_reducible rfl)
              try simp only [Act.put, List.getElem_toArray, List.getElem_cons_succ, List.getElem_cons_zero, List.setIfInBounds_toArray, List.set_cons_zero, List.set_cons_succ]
              refine wpAnyH_take (i := 9) (v := ?_) rfl (by kernel_rfl) (by kernel_rfl) (by kernel_rfl) (fun _ _ _ h => h) (Or.inl ⟨by kernel_rfl, ?_⟩) (by first | assumption | trivial) ?_
              rotate_left
              · intro w hSw
                try dsimp only at hSw
                first | (go_simp; done) | (go_simp; with_reducible rfl)
              try simp only [Act.put, List.getElem_toArray, List.getElem_cons_succ, List.getElem_cons_zero, List.setIfInBounds_toArray, List.set_cons_zero, List.set_cons_succ]
              refine wpAnyH_ready (rs := [10]) (by kernel_rfl) (by simp) ?_
              refine AllReadyH.cons rfl (fun K hK => ?_) AllReadyH.nil
              go_simp
              refine hK.out _ _ (HS.out (wr.drew.alloc (.cells #[.int .i64 a, .int .i64 b] 2)) ((Below.refl _ _).drew.alloc (Nat.le_refl _) _)) (fun hS => ?_)
              clear hK K
              try simp only [Act.put, List.getElem_toArray, List.getElem_cons_succ, List.getElem_cons_zero, List.setIfInBounds_toArray, List.set_cons_zero, List.set_cons_succ]
              refine wpAnyH_ready (rs := [11]) (by kernel_rfl) (by simp) ?_
              refine AllReadyH.cons rfl (fun K hK => ?_) AllReadyH.nil
              go_simp
              go_at_call 12
              refine (refsum_any (.slice (some ⟨wr.heap.size, 0, none⟩) 2 2) [a, b] (wr.drew.alloc (.cells #[.int .i64 a, .int .i64 b] 2)) (by simp) HA64.out (HROW.out wr.drew)).mono ?_
              rintro y w8 ⟨rfl, hb8⟩
              rw [HSUM.out, HSN.out, HSE.out]
              have HB8 := Lib.hid (((Below.refl wr.heap.size wr).drew.alloc (Nat.le_refl _) (.cells #[.int .i64 a, .int .i64 b] 2)).trans (hb8.mono (by simp)))
              clear hb8
              try go_wp2_with fail
              refine hK.out _ _ (HS.out w8 HB8.out) (fun hS => ?_)
              clear hK K
              try simp only [Act.put, List.getElem_toArray, List.getElem_cons_succ, List.getElem_cons_zero, List.setIfInBounds_toArray, List.set_cons_zero, List.set_cons_succ]
              refine wpAnyH_take (i := 12) (v := ?_) rfl (by kernel_rfl) (by kernel_rfl) (by kernel_rfl) (fun _ _ _ h => h) (Or.inl ⟨by kernel_rfl, ?_⟩) (by first | assumption | trivial) ?_
              rotate_left
              · intro w hSw
                try dsimp only at hSw
                first | (go_simp; done) | (go_simp; with_reducible rfl)
              try simp only [Act.put, List.getElem_toArray, List.getElem_cons_succ, List.getElem_cons_zero, List.setIfInBounds_toArray, List.set_cons_zero, List.set_cons_succ]
              refine wpAnyH_take (i := 13) (v := ?_) rfl (by kernel_rfl) (by kernel_rfl) (by kernel_rfl) (fun _ _ _ h => h) (Or.inl ⟨by kernel_rfl, ?_⟩) (by first | assumption | trivial) ?_
              rotate_left
              · intro w hSw
                try dsimp only at hSw
                first | (go_simp; done) | (go_simp; with_reducible rfl)
              try simp only [Act.put, List.getElem_toArray, List.getElem_cons_succ, List.getElem_cons_zero, List.setIfInBounds_toArray, List.set_cons_zero, List.set_cons_succ]
              refine wpAnyH_take (i := 14) (v := ?_) rfl (by kernel_rfl) (by kernel_rfl) (by kernel_rfl) (fun _ _ _ h => h) (Or.inl ⟨by kernel_rfl, ?_⟩) (by first | assumption | trivial) ?_
              rotate_left
              · intro w hSw
                try dsimp only at hSw
                first | (go_simp; done) | (go_simp; with_reducible rfl)
              try simp only [Act.put, List.getElem_toArray, List.getElem_cons_succ, List.getElem_cons_zero, List.setIfInBounds_toArray, List.set_cons_zero, List.set_cons_succ]
              refine wpAnyH_take (i := 15) (v := ?_) rfl (by kernel_rfl) (by kernel_rfl) (by kernel_rfl) (fun _ _ _ h => h) (Or.inl ⟨by kernel_rfl, ?_⟩) (by first | assumption | trivial) ?_
              rotate_left
              · intro w hSw
                try dsimp only at hSw
                first | (go_simp; done) | (go_simp; with_reducible rfl)
              try simp only [Act.put, List.getElem_toArray, List.getElem_cons_succ, List.getElem_cons_zero, List.setIfInBounds_toArray, List.set_cons_zero, List.set_cons_succ]
              refine wpAnyH_take (i := 16) (v := ?_) rfl (by kernel_rfl) (by kernel_rfl) (by kernel_rfl) (fun _ _ _ h => h) (Or.inl ⟨by kernel_rfl, ?_⟩) (by first | assumption | trivial) ?_
              rotate_left
              · intro w hSw
                try dsimp only at hSw
                first | (go_simp; done) | (go_simp; with_reducible rfl)
              try simp only [Act.put, List.getElem_toArray, List.getElem_cons_succ, List.getElem_cons_zero, List.setIfInBounds_toArray, List.set_cons_zero, List.set_cons_succ]
              refine wpAnyH_done (by kernel_rfl) ?_ _
              have n0 : w8.cell? ⟨w4.heap.size + 1, k * 8 + j, none⟩ = some (.int .i64 a) := (HS.out w8 HB8.out).1
              have z15 : w8.cell? ⟨w7.heap.size + 1, k * 8 + j, none⟩ = some (.int .i64 old) := (HB8.out.cell (p := ⟨w7.heap.size + 1, k * 8 + j, none⟩) hl15).trans hz15
              have fr15 : w8.frozen? ⟨w7.heap.size + 1, k * 8 + j, none⟩ = false := by
                have h := (HBLK.out.below HB8.out HBLK.out.lt).free (k * 8 + j)
                rwa [HSX.out] at h
              have l15 : w7.heap.size + 1 < w8.heap.size := Nat.lt_of_lt_of_le hl15 HB8.out.size
              have ln0 : w4.heap.size + 1 < w8.heap.size := Nat.lt_of_lt_of_le lm0 HB8.out.size
              have ne15 : ¬ w4.heap.size + 1 = w7.heap.size + 1 := by have := HN47.out; omega
              have HB9 := Lib.hid (HBJ.out.trans (HB8.out.mono HBJ.out.size))
              have hblk9 := ((HBLK.out.below HB8.out HBLK.out.lt).set (8 * k + j) (.int .i64 0))
              rw [mCells_set, ← HSS.out] at hblk9
              have HBL9 : Hid (Blk (w8.setCell ⟨w7.heap.size + 1, k * 8 + j, none⟩ (.int .i64 0)) X.heap.size (mCells (sU M N (8 * k + j + 1))) 30) := by
                rw [HKJ.out, ← HSX.out]; exact hblk9
              have HO9 : Hid (Own .i64 (w8.setCell ⟨w7.heap.size + 1, k * 8 + j, none⟩ (.int .i64 0)) (X.heap.size + 1) 2 (.slice p9 l9 c9) (allU M cur (8 * k + j))) := own_setLow (HOWN.out.later HB8.out) (by rw [HSX.out]; exact Nat.lt_succ_self (w7.heap.size + 1)) _
              have HBX9 : Hid (Below X.heap.size X (w8.setCell ⟨w7.heap.size + 1, k * 8 + j, none⟩ (.int .i64 0))) := HB9.out.setCell (p := ⟨w7.heap.size + 1, k * 8 + j, none⟩) (by rw [HSX.out]; exact Nat.le_refl _) _
              clear hblk9 hz15 hf15 hl15
              have HSZ9 : Hid (X.heap.size + 1 ≤ (w8.setCell ⟨w7.heap.size + 1, k * 8 + j, none⟩ (.int .i64 0)).heap.size) := HBL9.out.lt
              go_wp2_with (at_builtin; with_reducible refine stop_appendT (.tmp 94) (.tmp 100) 38 rfl ?_)
              refine wpList_append_row rfl (.tmp 94) (.tmp 100) 38 rfl 2 .i64 8 (X.heap.size + 1) elt64v (.slice p9 l9 c9) (.slice (some ⟨w8.heap.size, 0, none⟩) 1 1) (allU M cur (8 * k + j)) [a] rfl rfl (HO9.out.alloc (.cells #[.int .i64 a] 2)) ⟨some ⟨w8.heap.size, 0, none⟩, 1, rfl, Nat.le_refl _, .inr ⟨w8.heap.size, 0, rfl, fun i hi => ?_⟩⟩ (by have := HLA.out; simp only [List.length_cons, List.length_nil]; omega) (by have := HLA.out; simp only [List.length_cons, List.length_nil]; omega) (Nat.le_trans HSZ9.out (by simp)) (allU M cur (8 * k + (j + 1))) (l9 + 1) HASY.out.symm (by rw [HASY.out, List.length_append, HL9.out]; rfl) ?_
              · obtain rfl : i = 0 := by simp at hi; omega
                exact (Blk.new' (w8.setCell ⟨w7.heap.size + 1, k * 8 + j, none⟩ (.int .i64 0)) #[.int .i64 a] 2 (b := w8.heap.size) (by simp)).cell 0
              intro p10 c10 w10 ho10 hb10
              have hb11 := (Below.alloc (Below.refl (X.heap.size + 1) (w8.setCell ⟨w7.heap.size + 1, k * 8 + j, none⟩ (.int .i64 0))) HSZ9.out (.cells #[.int .i64 a] 2)).trans hb10
              have HNX : Hid (URel X M N cur (8 * k + (j + 1)) false (.slice p10 (l9 + 1) c10) w10) := ⟨HBX9.out.trans (hb11.mono (Nat.le_succ _)), HBL9.out.below hb11 (Nat.lt_succ_self _), ho10, HFX.out⟩
              clear ho10 hb10 hb11
              go_wp2_with fail
              go_roundw
              case rel => exact ⟨j + 1, false, by omega, by go_num, rfl, HNX⟩
              case measure => simp [intOf]; omega
            · have HFX := Lib.hid (HFN.out hf)
              clear HFS HFN hf
              skip
              have hs : wr.drew.cell? ⟨w4.heap.size + 1, k * 8 + j, none⟩ = some (.int .i64 a) ∧ wr.drew.cell? ⟨w5.heap.size + 1, k * 8 + j, none⟩ = some (.int .i64 b) := ⟨m0, m1⟩
              have HS : Hid (∀ w', Below wr.heap.size wr w' → w'.cell? ⟨w4.heap.size + 1, k * 8 + j, none⟩ = some (.int .i64 a) ∧ w'.cell? ⟨w5.heap.size + 1, k * 8 + j, none⟩ = some (.int .i64 b)) := fun w' h => ⟨(h.cell (p := ⟨w4.heap.size + 1, k * 8 + j, none⟩) lm0).trans m0, (h.cell (p := ⟨w5.heap.size + 1, k * 8 + j, none⟩) lm1).trans m1⟩
              clear m0 m1
              go_wp2_with fail
              refine wp_region_held_drew (S := fun w' => w'.cell? ⟨w4.heap.size + 1, k * 8 + j, none⟩ = some (.int .i64 a) ∧ w'.cell? ⟨w5.heap.size + 1, k * 8 + j, none⟩ = some (.int .i64 b)) (by kernel_rfl) hs (fun hS0 => ?_)
              refine wpAnyH_take (i := 0) (v := ?_) rfl (by kernel_rfl) (by kernel_rfl) (by kernel_rfl) (fun _ _ _ h => h) (Or.inl ⟨by kernel_rfl, ?_⟩) (by first | assumption | trivial) ?_
              rotate_left
              · intro w hSw
                try dsimp only at hSw
                first | (go_simp; done) | (go_simp; with_reducible rfl)
              try simp only [Act.put, List.getElem_toArray, List.getElem_cons_succ, List.getElem_cons_zero, List.setIfInBounds_toArray, List.set_cons_zero, List.set_cons_succ]
              refine wpAnyH_take (i := 1) (v := ?_) rfl (by kernel_rfl) (by kernel_rfl) (by kernel_rfl) (fun _ _ _ h => h) (Or.inl ⟨by kernel_rfl, ?_⟩) (by first | assumption | trivial) ?_
              rotate_left
              · intro w hSw
                try dsimp only at hSw
                first | (go_simp; done) | (go_simp; with_reducible rfl)
              try simp only [Act.put, List.getElem_toArray, List.getElem_cons_succ, List.getElem_cons_zero, List.setIfInBounds_toArray, List.set_cons_zero, List.set_cons_succ]
              refine wpAnyH_take (i := 2) (v := ?_) rfl (by kernel_rfl) (by kernel_rfl) (by kernel_rfl) (fun _ _ _ h => h) (Or.inl ⟨by kernel_rfl, ?_⟩) (by first | assumption | trivial) ?_
              rotate_left
              · intro w hSw
                try dsimp only at hSw
                first | (go_simp; done) | (go_simp; with_reducible rfl)
              try simp only [Act.put, List.getElem_toArray, List.getElem_cons_succ, List.getElem_cons_zero, List.setIfInBounds_toArray, List.set_cons_zero, List.set_cons_succ]
              refine wpAnyH_take (i := 3) (v := ?_) rfl (by kernel_rfl) (by kernel_rfl) (by kernel_rfl) (fun _ _ _ h => h) (Or.inl ⟨by kernel_rfl, ?_⟩) (by first | assumption | trivial) ?_
              rotate_left
              · intro w hSw
                try dsimp only at hSw
                first | (go_simp; done) | (go_simp; with_reducible rfl)
              try simp only [Act.put, List.getElem_toArray, List.getElem_cons_succ, List.getElem_cons_zero, List.setIfInBounds_toArray, List.set_cons_zero, List.set_cons_succ]
              refine wpAnyH_take (i := 4) (v := ?_) rfl (by kernel_rfl) (by kernel_rfl) (by kernel_rfl) (fun _ _ _ h => h) (Or.inl ⟨by kernel_rfl, ?_⟩) (by first | assumption | trivial) ?_
              rotate_left
              · intro w hSw
                try dsimp only at hSw
                first | (go_simp; done) | (go_simp; with_reducible rfl)
              try simp only [Act.put, List.getElem_toArray, List.getElem_cons_succ, List.getElem_cons_zero, List.setIfInBounds_toArray, List.set_cons_zero, List.set_cons_succ]
              refine wpAnyH_take (i := 5) (v := ?_) rfl (by kernel_rfl) (by kernel_rfl) (by kernel_rfl) (fun _ _ _ h => h) (Or.inl ⟨by kernel_rfl, ?_⟩) (by first | assumption | trivial) ?_
              rotate_left
              · intro w hSw
                try dsimp only at hSw
                first | (go_simp; done) | (go_simp; with_reducible rfl)
              try simp only [Act.put, List.getElem_toArray, List.getElem_cons_succ, List.getElem_cons_zero, List.setIfInBounds_toArray, List.set_cons_zero, List.set_cons_succ]
              refine wpAnyH_take (i := 6) (v := ?_) rfl (by kernel_rfl) (by kernel_rfl) (by kernel_rfl) (fun _ _ _ h => h) (Or.inl ⟨by kernel_rfl, ?_⟩) (by first | assumption | trivial) ?_
              rotate_left
              · intro w hSw
                try dsimp only at hSw
                first | (go_simp; done) | (go_simp; with_reducible rfl)
              try simp only [Act.put, List.getElem_toArray, List.getElem_cons_succ, List.getElem_cons_zero, List.setIfInBounds_toArray, List.set_cons_zero, List.set_cons_succ]
              refine wpAnyH_take (i := 7) (v := ?_) rfl (by kernel_rfl) (by kernel_rfl) (by kernel_rfl) (fun _ _ _ h => h) (Or.inl ⟨by kernel_rfl, ?_⟩) (by first | assumption | trivial) ?_
              rotate_left
              · intro w hSw
                try dsimp only at hSw
                first | (go_simp; done) | (go_simp; with_reducible rfl)
              try simp only [Act.put, List.getElem_toArray, List.getElem_cons_succ, List.getElem_cons_zero, List.setIfInBounds_toArray, List.set_cons_zero, List.set_cons_succ]
              refine wpAnyH_take (i := 8) (v := ?_) rfl (by kernel_rfl) (by kernel_rfl) (by kernel_rfl) (fun _ _ _ h => h) (Or.inl ⟨by kernel_rfl, ?_⟩) (by first | assumption | trivial) ?_
              rotate_left
              · intro w hSw
                try dsimp only at hSw
                first | (go_simp; done) | (go_simp; with_reducible rfl)
              try simp only [Act.put, List.getElem_toArray, List.getElem_cons_succ, List.getElem_cons_zero, List.setIfInBounds_toArray, List.set_cons_zero, List.set_cons_succ]
              refine wpAnyH_take (i := 9) (v := ?_) rfl (by kernel_rfl) (by kernel_rfl) (by kernel_rfl) (fun _ _ _ h => h) (Or.inl ⟨by kernel_rfl, ?_⟩) (by first | assumption | trivial) ?_
              rotate_left
              · intro w hSw
                try dsimp only at hSw
                first | (go_simp; done) | (go_simp; with_reducible rfl)
              try simp only [Act.put, List.getElem_toArray, List.getElem_cons_succ, List.getElem_cons_zero, List.setIfInBounds_toArray, List.set_cons_zero, List.set_cons_succ]
              refine wpAnyH_ready (rs := [10]) (by kernel_rfl) (by simp) ?_
              refine AllReadyH.cons rfl (fun K hK => ?_) AllReadyH.nil
              go_simp
              refine hK.out _ _ (HS.out (wr.drew.alloc (.cells #[.int .i64 a, .int .i64 b] 2)) ((Below.refl _ _).drew.alloc (Nat.le_refl _) _)) (fun hS => ?_)
              clear hK K
              try simp only [Act.put, List.getElem_toArray, List.getElem_cons_succ, List.getElem_cons_zero, List.setIfInBounds_toArray, List.set_cons_zero, List.set_cons_succ]
              refine wpAnyH_ready (rs := [11]) (by kernel_rfl) (by simp) ?_
              refine AllReadyH.cons rfl (fun K hK => ?_) AllReadyH.nil
              go_simp
              go_at_call 12
              refine (refsum_any (.slice (some ⟨wr.heap.size, 0, none⟩) 2 2) [a, b] (wr.drew.alloc (.cells #[.int .i64 a, .int .i64 b] 2)) (by simp) HA64.out (HROW.out wr.drew)).mono ?_
              rintro y w8 ⟨rfl, hb8⟩
              rw [HSUM.out, HSN.out, HSE.out]
              have HB8 := Lib.hid (((Below.refl wr.heap.size wr).drew.alloc (Nat.le_refl _) (.cells #[.int .i64 a, .int .i64 b] 2)).trans (hb8.mono (by simp)))
              clear hb8
              try go_wp2_with fail
              refine hK.out _ _ (HS.out w8 HB8.out) (fun hS => ?_)
              clear hK K
              try simp only [Act.put, List.getElem_toArray, List.getElem_cons_succ, List.getElem_cons_zero, List.setIfInBounds_toArray, List.set_cons_zero, List.set_cons_succ]
              refine wpAnyH_take (i := 12) (v := ?_) rfl (by kernel_rfl) (by kernel_rfl) (by kernel_rfl) (fun _ _ _ h => h) (Or.inl ⟨by kernel_rfl, ?_⟩) (by first | assumption | trivial) ?_
              rotate_left
              · intro w hSw
                try dsimp only at hSw
                first | (go_simp; done) | (go_simp; with_reducible rfl)
              try simp only [Act.put, List.getElem_toArray, List.getElem_cons_succ, List.getElem_cons_zero, List.setIfInBounds_toArray, List.set_cons_zero, List.set_cons_succ]
              refine wpAnyH_take (i := 13) (v := ?_) rfl (by kernel_rfl) (by kernel_rfl) (by kernel_rfl) (fun _ _ _ h => h) (Or.inl ⟨by kernel_rfl, ?_⟩) (by first | assumption | trivial) ?_
              rotate_left
              · intro w hSw
                try dsimp only at hSw
                first | (go_simp; done) | (go_simp; with_reducible rfl)
              try simp only [Act.put, List.getElem_toArray, List.getElem_cons_succ, List.getElem_cons_zero, List.setIfInBounds_toArray, List.set_cons_zero, List.set_cons_succ]
              refine wpAnyH_take (i := 14) (v := ?_) rfl (by kernel_rfl) (by kernel_rfl) (by kernel_rfl) (fun _ _ _ h => h) (Or.inl ⟨by kernel_rfl, ?_⟩) (by first | assumption | trivial) ?_
              rotate_left
              · intro w hSw
                try dsimp only at hSw
                first | (go_simp; done) | (go_simp; with_reducible rfl)
              try simp only [Act.put, List.getElem_toArray, List.getElem_cons_succ, List.getElem_cons_zero, List.setIfInBounds_toArray, List.set_cons_zero, List.set_cons_succ]
              refine wpAnyH_take (i := 15) (v := ?_) rfl (by kernel_rfl) (by kernel_rfl) (by kernel_rfl) (fun _ _ _ h => h) (Or.inl ⟨by kernel_rfl, ?_⟩) (by first | assumption | trivial) ?_
              rotate_left
              · intro w hSw
                try dsimp only at hSw
                first | (go_simp; done) | (go_simp; with_reducible rfl)
              try simp only [Act.put, List.getElem_toArray, List.getElem_cons_succ, List.getElem_cons_zero, List.setIfInBounds_toArray, List.set_cons_zero, List.set_cons_succ]
              refine wpAnyH_take (i := 16) (v := ?_) rfl (by kernel_rfl) (by kernel_rfl) (by kernel_rfl) (fun _ _ _ h => h) (Or.inl ⟨by kernel_rfl, ?_⟩) (by first | assumption | trivial) ?_
              rotate_left
              · intro w hSw
                try dsimp only at hSw
                first | (go_simp; done) | (go_simp; with_reducible rfl)
              try simp only [Act.put, List.getElem_toArray, List.getElem_cons_succ, List.getElem_cons_zero, List.setIfInBounds_toArray, List.set_cons_zero, List.set_cons_succ]
              refine wpAnyH_done (by kernel_rfl) ?_ _
              have n0 : w8.cell? ⟨w4.heap.size + 1, k * 8 + j, none⟩ = some (.int .i64 a) := (HS.out w8 HB8.out).1
              have z15 : w8.cell? ⟨w7.heap.size + 1, k * 8 + j, none⟩ = some (.int .i64 old) := (HB8.out.cell (p := ⟨w7.heap.size + 1, k * 8 + j, none⟩) hl15).trans hz15
              have fr15 : w8.frozen? ⟨w7.heap.size + 1, k * 8 + j, none⟩ = false := by
                have h := (HBLK.out.below HB8.out HBLK.out.lt).free (k * 8 + j)
                rwa [HSX.out] at h
              have l15 : w7.heap.size + 1 < w8.heap.size := Nat.lt_of_lt_of_le hl15 HB8.out.size
              have ln0 : w4.heap.size + 1 < w8.heap.size := Nat.lt_of_lt_of_le lm0 HB8.out.size
              have ne15 : ¬ w4.heap.size + 1 = w7.heap.size + 1 := by have := HN47.out; omega
              have HB9 := Lib.hid (HBJ.out.trans (HB8.out.mono HBJ.out.size))
              have hblk9 := ((HBLK.out.below HB8.out HBLK.out.lt).set (8 * k + j) (.int .i64 0))
              rw [mCells_set, ← HSS.out] at hblk9
              have HBL9 : Hid (Blk (w8.setCell ⟨w7.heap.size + 1, k * 8 + j, none⟩ (.int .i64 0)) X.heap.size (mCells (sU M N (8 * k + j + 1))) 30) := by
                rw [HKJ.out, ← HSX.out]; exact hblk9
              have HO9 : Hid (Own .i64 (w8.setCell ⟨w7.heap.size + 1, k * 8 + j, none⟩ (.int .i64 0)) (X.heap.size + 1) 2 (.slice p9 l9 c9) (allU M cur (8 * k + j))) := own_setLow (HOWN.out.later HB8.out) (by rw [HSX.out]; exact Nat.lt_succ_self (w7.heap.size + 1)) _
              have HBX9 : Hid (Below X.heap.size X (w8.setCell ⟨w7.heap.size + 1, k * 8 + j, none⟩ (.int .i64 0))) := HB9.out.setCell (p := ⟨w7.heap.size + 1, k * 8 + j, none⟩) (by rw [HSX.out]; exact Nat.le_refl _) _
              clear hblk9 hz15 hf15 hl15
              have HSZ9 : Hid (X.heap.size + 1 ≤ (w8.setCell ⟨w7.heap.size + 1, k * 8 + j, none⟩ (.int .i64 0)).heap.size) := HBL9.out.lt
              go_wp2_with (at_builtin; with_reducible refine stop_appendT (.tmp 94) (.tmp 100) 38 rfl ?_)
              refine wpList_append_row rfl (.tmp 94) (.tmp 100) 38 rfl 2 .i64 8 (X.heap.size + 1) elt64v (.slice p9 l9 c9) (.slice (some ⟨w8.heap.size, 0, none⟩) 1 1) (allU M cur (8 * k + j)) [a] rfl rfl (HO9.out.alloc (.cells #[.int .i64 a] 2)) ⟨some ⟨w8.heap.size, 0, none⟩, 1, rfl, Nat.le_refl _, .inr ⟨w8.heap.size, 0, rfl, fun i hi => ?_⟩⟩ (by have := HLA.out; simp only [List.length_cons, List.length_nil]; omega) (by have := HLA.out; simp only [List.length_cons, List.length_nil]; omega) (Nat.le_trans HSZ9.out (by simp)) (allU M cur (8 * k + (j + 1))) (l9 + 1) HASY.out.symm (by rw [HASY.out, List.length_append, HL9.out]; rfl) ?_
              · obtain rfl : i = 0 := by simp at hi; omega
                exact (Blk.new' (w8.setCell ⟨w7.heap.size + 1, k * 8 + j, none⟩ (.int .i64 0)) #[.int .i64 a] 2 (b := w8.heap.size) (by simp)).cell 0
              intro p10 c10 w10 ho10 hb10
              have hb11 := (Below.alloc (Below.refl (X.heap.size + 1) (w8.setCell ⟨w7.heap.size + 1, k * 8 + j, none⟩ (.int .i64 0))) HSZ9.out (.cells #[.int .i64 a] 2)).trans hb10
              have HNX : Hid (URel X M N cur (8 * k + (j + 1)) false (.slice p10 (l9 + 1) c10) w10) := ⟨HBX9.out.trans (hb11.mono (Nat.le_succ _)), HBL9.out.below hb11 (Nat.lt_succ_self _), ho10, HFX.out⟩
              clear ho10 hb10 hb11
              go_wp2_with fail
              go_roundw
              case rel => exact ⟨j + 1, false, by omega, by go_num, rfl, HNX⟩
              case measure => simp [intOf]; omega
          · have ec : ((j : Int) == cur) = false := by simpa using hc
            have HASN : Hid (allU M cur (8 * k + (j + 1)) = allU M cur (8 * k + j)) := by have h := HAS.out; rw [if_neg hc, List.append_nil] at h; exact h
            clear hc HAS
            cases fb
            · have HFX := Lib.hid (HFN.out hf)
              clear HFS HFN hf
              skip
              have hs : wr.drew.cell? ⟨w4.heap.size + 1, k * 8 + j, none⟩ = some (.int .i64 a) ∧ wr.drew.cell? ⟨w5.heap.size + 1, k * 8 + j, none⟩ = some (.int .i64 b) := ⟨m0, m1⟩
              have HS : Hid (∀ w', Below wr.heap.size wr w' → w'.cell? ⟨w4.heap.size + 1, k * 8 + j, none⟩ = some (.int .i64 a) ∧ w'.cell? ⟨w5.heap.size + 1, k * 8 + j, none⟩ = some (.int .i64 b)) := fun w' h => ⟨(h.cell (p := ⟨w4.heap.size + 1, k * 8 + j, none⟩) lm0).trans m0, (h.cell (p := ⟨w5.heap.size + 1, k * 8 + j, none⟩) lm1).trans m1⟩
              clear m0 m1
              go_wp2_with fail
              refine wp_region_held_drew (S := fun w' => w'.cell? ⟨w4.heap.size + 1, k * 8 + j, none⟩ = some (.int .i64 a) ∧ w'.cell? ⟨w5.heap.size + 1, k * 8 + j, none⟩ = some (.int .i64 b)) (by kernel_rfl) hs (fun hS0 => ?_)
              refine wpAnyH_take (i := 0) (v := ?_) rfl (by kernel_rfl) (by kernel_rfl) (by kernel_rfl) (fun _ _ _ h => h) (Or.inl ⟨by kernel_rfl, ?_⟩) (by first | assumption | trivial) ?_
              rotate_left
              · intro w hSw
                try dsimp only at hSw
                first | (go_simp; done) | (go_simp; with_reducible rfl)
              try simp only [Act.put, List.getElem_toArray, List.getElem_cons_succ, List.getElem_cons_zero, List.setIfInBounds_toArray, List.set_cons_zero, List.set_cons_succ]
              refine wpAnyH_take (i := 1) (v := ?_) rfl (by kernel_rfl) (by kernel_rfl) (by kernel_rfl) (fun _ _ _ h => h) (Or.inl ⟨by kernel_rfl, ?_⟩) (by first | assumption | trivial) ?_
              rotate_left
              · intro w hSw
                try dsimp only at hSw
                first | (go_simp; done) | (go_simp; with_reducible rfl)
              try simp only [Act.put, List.getElem_toArray, List.getElem_cons_succ, List.getElem_cons_zero, List.setIfInBounds_toArray, List.set_cons_zero, List.set_cons_succ]
              refine wpAnyH_take (i := 2) (v := ?_) rfl (by kernel_rfl) (by kernel_rfl) (by kernel_rfl) (fun _ _ _ h => h) (Or.inl ⟨by kernel_rfl, ?_⟩) (by first | assumption | trivial) ?_
              rotate_left
              · intro w hSw
                try dsimp only at hSw
                first | (go_simp; done) | (go_simp; with_reducible rfl)
              try simp only [Act.put, List.getElem_toArray, List.getElem_cons_succ, List.getElem_cons_zero, List.setIfInBounds_toArray, List.set_cons_zero, List.set_cons_succ]
              refine wpAnyH_take (i := 3) (v := ?_) rfl (by kernel_rfl) (by kernel_rfl) (by kernel_rfl) (fun _ _ _ h => h) (Or.inl ⟨by kernel_rfl, ?_⟩) (by first | assumption | trivial) ?_
              rotate_left
              · intro w hSw
                try dsimp only at hSw
                first | (go_simp; done) | (go_simp; with_reducible rfl)
              try simp only [Act.put, List.getElem_toArray, List.getElem_cons_succ, List.getElem_cons_zero, List.setIfInBounds_toArray, List.set_cons_zero, List.set_cons_succ]
              refine wpAnyH_take (i := 4) (v := ?_) rfl (by kernel_rfl) (by kernel_rfl) (by kernel_rfl) (fun _ _ _ h => h) (Or.inl ⟨by kernel_rfl, ?_⟩) (by first | assumption | trivial) ?_
              rotate_left
              · intro w hSw
                try dsimp only at hSw
                first | (go_simp; done) | (go_simp; with_reducible rfl)
              try simp only [Act.put, List.getElem_toArray, List.getElem_cons_succ, List.getElem_cons_zero, List.setIfInBounds_toArray, List.set_cons_zero, List.set_cons_succ]
              refine wpAnyH_take (i := 5) (v := ?_) rfl (by kernel_rfl) (by kernel_rfl) (by kernel_rfl) (fun _ _ _ h => h) (Or.inl ⟨by kernel_rfl, ?_⟩) (by first | assumption | trivial) ?_
              rotate_left
              · intro w hSw
                try dsimp only at hSw
                first | (go_simp; done) | (go_simp; with_reducible rfl)
              try simp only [Act.put, List.getElem_toArray, List.getElem_cons_succ, List.getElem_cons_zero, List.setIfInBounds_toArray, List.set_cons_zero, List.set_cons_succ]
              refine wpAnyH_take (i := 6) (v := ?_) rfl (by kernel_rfl) (by kernel_rfl) (by kernel_rfl) (fun _ _ _ h => h) (Or.inl ⟨by kernel_rfl, ?_⟩) (by first | assumption | trivial) ?_
              rotate_left
              · intro w hSw
                try dsimp only at hSw
                first | (go_simp; done) | (go_simp; with_reducible rfl)
              try simp only [Act.put, List.getElem_toArray, List.getElem_cons_succ, List.getElem_cons_zero, List.setIfInBounds_toArray, List.set_cons_zero, List.set_cons_succ]
              refine wpAnyH_take (i := 7) (v := ?_) rfl (by kernel_rfl) (by kernel_rfl) (by kernel_rfl) (fun _ _ _ h => h) (Or.inl ⟨by kernel_rfl, ?_⟩) (by first | assumption | trivial) ?_
              rotate_left
              · intro w hSw
                try dsimp only at hSw
                first | (go_simp; done) | (go_simp; with_reducible rfl)
              try simp only [Act.put, List.getElem_toArray, List.getElem_cons_succ, List.getElem_cons_zero, List.setIfInBounds_toArray, List.set_cons_zero, List.set_cons_succ]
              refine wpAnyH_take (i := 8) (v := ?_) rfl (by kernel_rfl) (by kernel_rfl) (by kernel_rfl) (fun _ _ _ h => h) (Or.inl ⟨by kernel_rfl, ?_⟩) (by first | assumption | trivial) ?_
              rotate_left
              · intro w hSw
                try dsimp only at hSw
                first | (go_simp; done) | (go_simp; with_reducible rfl)
              try simp only [Act.put, List.getElem_toArray, List.getElem_cons_succ, List.getElem_cons_zero, List.setIfInBounds_toArray, List.set_cons_zero, List.set_cons_succ]
              refine wpAnyH_take (i := 9) (v := ?_) rfl (by kernel_rfl) (by kernel_rfl) (by kernel_rfl) (fun _ _ _ h => h) (Or.inl ⟨by kernel_rfl, ?_⟩) (by first | assumption | trivial) ?_
              rotate_left
              · intro w hSw
                try dsimp only at hSw
                first | (go_simp; done) | (go_simp; with_reducible rfl)
              try simp only [Act.put, List.getElem_toArray, List.getElem_cons_succ, List.getElem_cons_zero, List.setIfInBounds_toArray, List.set_cons_zero, List.set_cons_succ]
              refine wpAnyH_ready (rs := [10]) (by kernel_rfl) (by simp) ?_
              refine AllReadyH.cons rfl (fun K hK => ?_) AllReadyH.nil
              go_simp
              refine hK.out _ _ (HS.out (wr.drew.alloc (.cells #[.int .i64 a, .int .i64 b] 2)) ((Below.refl _ _).drew.alloc (Nat.le_refl _) _)) (fun hS => ?_)
              clear hK K
              try simp only [Act.put, List.getElem_toArray, List.getElem_cons_succ, List.getElem_cons_zero, List.setIfInBounds_toArray, List.set_cons_zero, List.set_cons_succ]
              refine wpAnyH_ready (rs := [11]) (by kernel_rfl) (by simp) ?_
              refine AllReadyH.cons rfl (fun K hK => ?_) AllReadyH.nil
              go_simp
              go_at_call 12
              refine (refsum_any (.slice (some ⟨wr.heap.size, 0, none⟩) 2 2) [a, b] (wr.drew.alloc (.cells #[.int .i64 a, .int .i64 b] 2)) (by simp) HA64.out (HROW.out wr.drew)).mono ?_
              rintro y w8 ⟨rfl, hb8⟩
              rw [HSUM.out, HSN.out, HSE.out]
              have HB8 := Lib.hid (((Below.refl wr.heap.size wr).drew.alloc (Nat.le_refl _) (.cells #[.int .i64 a, .int .i64 b] 2)).trans (hb8.mono (by simp)))
              clear hb8
              try go_wp2_with fail
              refine hK.out _ _ (HS.out w8 HB8.out) (fun hS => ?_)
              clear hK K
              try simp only [Act.put, List.getElem_toArray, List.getElem_cons_succ, List.getElem_cons_zero, List.setIfInBounds_toArray, List.set_cons_zero, List.set_cons_succ]
              refine wpAnyH_take (i := 12) (v := ?_) rfl (by kernel_rfl) (by kernel_rfl) (by kernel_rfl) (fun _ _ _ h => h) (Or.inl ⟨by kernel_rfl, ?_⟩) (by first | assumption | trivial) ?_
              rotate_left
              · intro w hSw
                try dsimp only at hSw
                first | (go_simp; done) | (go_simp; with_reducible rfl)
              try simp only [Act.put, List.getElem_toArray, List.getElem_cons_succ, List.getElem_cons_zero, List.setIfInBounds_toArray, List.set_cons_zero, List.set_cons_succ]
              refine wpAnyH_take (i := 13) (v := ?_) rfl (by kernel_rfl) (by kernel_rfl) (by kernel_rfl) (fun _ _ _ h => h) (Or.inl ⟨by kernel_rfl, ?_⟩) (by first | assumption | trivial) ?_
              rotate_left
              · intro w hSw
                try dsimp only at hSw
                first | (go_simp; done) | (go_simp; with_reducible rfl)
              try simp only [Act.put, List.getElem_toArray, List.getElem_cons_succ, List.getElem_cons_zero, List.setIfInBounds_toArray, List.set_cons_zero, List.set_cons_succ]
              refine wpAnyH_take (i := 14) (v := ?_) rfl (by kernel_rfl) (by kernel_rfl) (by kernel_rfl) (fun _ _ _ h => h) (Or.inl ⟨by kernel_rfl, ?_⟩) (by first | assumption | trivial) ?_
              rotate_left
              · intro w hSw
                try dsimp only at hSw
                first | (go_simp; done) | (go_simp; with_reducible rfl)
              try simp only [Act.put, List.getElem_toArray, List.getElem_cons_succ, List.getElem_cons_zero, List.setIfInBounds_toArray, List.set_cons_zero, List.set_cons_succ]
              refine wpAnyH_take (i := 15) (v := ?_) rfl (by kernel_rfl) (by kernel_rfl) (by kernel_rfl) (fun _ _ _ h => h) (Or.inl ⟨by kernel_rfl, ?_⟩) (by first | assumption | trivial) ?_
              rotate_left
              · intro w hSw
                try dsimp only at hSw
                first | (go_simp; done) | (go_simp; with_reducible rfl)
              try simp only [Act.put, List.getElem_toArray, List.getElem_cons_succ, List.getElem_cons_zero, List.setIfInBounds_toArray, List.set_cons_zero, List.set_cons_succ]
              refine wpAnyH_take (i := 16) (v := ?_) rfl (by kernel_rfl) (by kernel_rfl) (by kernel_rfl) (fun _ _ _ h => h) (Or.inl ⟨by kernel_rfl, ?_⟩) (by first | assumption | trivial) ?_
              rotate_left
              · intro w hSw
                try dsimp only at hSw
                first | (go_simp; done) | (go_simp; with_reducible rfl)
              try simp only [Act.put, List.getElem_toArray, List.getElem_cons_succ, List.getElem_cons_zero, List.setIfInBounds_toArray, List.set_cons_zero, List.set_cons_succ]
              refine wpAnyH_done (by kernel_rfl) ?_ _
              have n0 : w8.cell? ⟨w4.heap.size + 1, k * 8 + j, none⟩ = some (.int .i64 a) := (HS.out w8 HB8.out).1
              have z15 : w8.cell? ⟨w7.heap.size + 1, k * 8 + j, none⟩ = some (.int .i64 old) := (HB8.out.cell (p := ⟨w7.heap.size + 1, k * 8 + j, none⟩) hl15).trans hz15
              have fr15 : w8.frozen? ⟨w7.heap.size + 1, k * 8 + j, none⟩ = false := by
                have h := (HBLK.out.below HB8.out HBLK.out.lt).free (k * 8 + j)
                rwa [HSX.out] at h
              have l15 : w7.heap.size + 1 < w8.heap.size := Nat.lt_of_lt_of_le hl15 HB8.out.size
              have ln0 : w4.heap.size + 1 < w8.heap.size := Nat.lt_of_lt_of_le lm0 HB8.out.size
              have ne15 : ¬ w4.heap.size + 1 = w7.heap.size + 1 := by have := HN47.out; omega
              have HB9 := Lib.hid (HBJ.out.trans (HB8.out.mono HBJ.out.size))
              have hblk9 := ((HBLK.out.below HB8.out HBLK.out.lt).set (8 * k + j) (.int .i64 0))
              rw [mCells_set, ← HSS.out] at hblk9
              have HBL9 : Hid (Blk (w8.setCell ⟨w7.heap.size + 1, k * 8 + j, none⟩ (.int .i64 0)) X.heap.size (mCells (sU M N (8 * k + j + 1))) 30) := by
                rw [HKJ.out, ← HSX.out]; exact hblk9
              have HO9 : Hid (Own .i64 (w8.setCell ⟨w7.heap.size + 1, k * 8 + j, none⟩ (.int .i64 0)) (X.heap.size + 1) 2 (.slice p9 l9 c9) (allU M cur (8 * k + j))) := own_setLow (HOWN.out.later HB8.out) (by rw [HSX.out]; exact Nat.lt_succ_self (w7.heap.size + 1)) _
              have HBX9 : Hid (Below X.heap.size X (w8.setCell ⟨w7.heap.size + 1, k * 8 + j, none⟩ (.int .i64 0))) := HB9.out.setCell (p := ⟨w7.heap.size + 1, k * 8 + j, none⟩) (by rw [HSX.out]; exact Nat.le_refl _) _
              clear hblk9 hz15 hf15 hl15
              have HNX : Hid (URel X M N cur (8 * k + (j + 1)) false (.slice p9 l9 c9) (w8.setCell ⟨w7.heap.size + 1, k * 8 + j, none⟩ (.int .i64 0))) := ⟨HBX9.out, HBL9.out, by have h := HO9.out; rw [show allU M cur (8 * k + (j + 1)) = allU M cur (8 * k + j) from HASN.out]; exact h, HFX.out⟩
              go_wp2_with fail
              go_roundw
              case rel => exact ⟨j + 1, false, by omega, by go_num, rfl, HNX⟩
              case measure => simp [intOf]; omega
            · have HFX := Lib.hid (HFN.out hf)
              clear HFS HFN hf
              skip
              have hs : wr.drew.cell? ⟨w4.heap.size + 1, k * 8 + j, none⟩ = some (.int .i64 a) ∧ wr.drew.cell? ⟨w5.heap.size + 1, k * 8 + j, none⟩ = some (.int .i64 b) := ⟨m0, m1⟩
              have HS : Hid (∀ w', Below wr.heap.size wr w' → w'.cell? ⟨w4.heap.size + 1, k * 8 + j, none⟩ = some (.int .i64 a) ∧ w'.cell? ⟨w5.heap.size + 1, k * 8 + j, none⟩ = some (.int .i64 b)) := fun w' h => ⟨(h.cell (p := ⟨w4.heap.size + 1, k * 8 + j, none⟩) lm0).trans m0, (h.cell (p := ⟨w5.heap.size + 1, k * 8 + j, none⟩) lm1).trans m1⟩
              clear m0 m1
              go_wp2_with fail
              refine wp_region_held_drew (S := fun w' => w'.cell? ⟨w4.heap.size + 1, k * 8 + j, none⟩ = some (.int .i64 a) ∧ w'.cell? ⟨w5.heap.size + 1, k * 8 + j, none⟩ = some (.int .i64 b)) (by kernel_rfl) hs (fun hS0 => ?_)
              refine wpAnyH_take (i := 0) (v := ?_) rfl (by kernel_rfl) (by kernel_rfl) (by kernel_rfl) (fun _ _ _ h => h) (Or.inl ⟨by kernel_rfl, ?_⟩) (by first | assumption | trivial) ?_
              rotate_left
              · intro w hSw
                try dsimp only at hSw
                first | (go_simp; done) | (go_simp; with_reducible rfl)
              try simp only [Act.put, List.getElem_toArray, List.getElem_cons_succ, List.getElem_cons_zero, List.setIfInBounds_toArray, List.set_cons_zero, List.set_cons_succ]
              refine wpAnyH_take (i := 1) (v := ?_) rfl (by kernel_rfl) (by kernel_rfl) (by kernel_rfl) (fun _ _ _ h => h) (Or.inl ⟨by kernel_rfl, ?_⟩) (by first | assumption | trivial) ?_
              rotate_left
              · intro w hSw
                try dsimp only at hSw
                first | (go_simp; done) | (go_simp; with_reducible rfl)
              try simp only [Act.put, List.getElem_toArray, List.getElem_cons_succ, List.getElem_cons_zero, List.setIfInBounds_toArray, List.set_cons_zero, List.set_cons_succ]
              refine wpAnyH_take (i := 2) (v := ?_) rfl (by kernel_rfl) (by kernel_rfl) (by kernel_rfl) (fun _ _ _ h => h) (Or.inl ⟨by kernel_rfl, ?_⟩) (by first | assumption | trivial) ?_
              rotate_left
              · intro w hSw
                try dsimp only at hSw
                first | (go_simp; done) | (go_simp; with_reducible rfl)
              try simp only [Act.put, List.getElem_toArray, List.getElem_cons_succ, List.getElem_cons_zero, List.setIfInBounds_toArray, List.set_cons_zero, List.set_cons_succ]
              refine wpAnyH_take (i := 3) (v := ?_) rfl (by kernel_rfl) (by kernel_rfl) (by kernel_rfl) (fun _ _ _ h => h) (Or.inl ⟨by kernel_rfl, ?_⟩) (by first | assumption | trivial) ?_
              rotate_left
              · intro w hSw
                try dsimp only at hSw
                first | (go_simp; done) | (go_simp; with_reducible rfl)
              try simp only [Act.put, List.getElem_toArray, List.getElem_cons_succ, List.getElem_cons_zero, List.setIfInBounds_toArray, List.set_cons_zero, List.set_cons_succ]
              refine wpAnyH_take (i := 4) (v := ?_) rfl (by kernel_rfl) (by kernel_rfl) (by kernel_rfl) (fun _ _ _ h => h) (Or.inl ⟨by kernel_rfl, ?_⟩) (by first | assumption | trivial) ?_
              rotate_left
              · intro w hSw
                try dsimp only at hSw
                first | (go_simp; done) | (go_simp; with_reducible rfl)
              try simp only [Act.put, List.getElem_toArray, List.getElem_cons_succ, List.getElem_cons_zero, List.setIfInBounds_toArray, List.set_cons_zero, List.set_cons_succ]
              refine wpAnyH_take (i := 5) (v := ?_) rfl (by kernel_rfl) (by kernel_rfl) (by kernel_rfl) (fun _ _ _ h => h) (Or.inl ⟨by kernel_rfl, ?_⟩) (by first | assumption | trivial) ?_
              rotate_left
              · intro w hSw
                try dsimp only at hSw
                first | (go_simp; done) | (go_simp; with_reducible rfl)
              try simp only [Act.put, List.getElem_toArray, List.getElem_cons_succ, List.getElem_cons_zero, List.setIfInBounds_toArray, List.set_cons_zero, List.set_cons_succ]
              refine wpAnyH_take (i := 6) (v := ?_) rfl (by kernel_rfl) (by kernel_rfl) (by kernel_rfl) (fun _ _ _ h => h) (Or.inl ⟨by kernel_rfl, ?_⟩) (by first | assumption | trivial) ?_
              rotate_left
              · intro w hSw
                try dsimp only at hSw
                first | (go_simp; done) | (go_simp; with_reducible rfl)
              try simp only [Act.put, List.getElem_toArray, List.getElem_cons_succ, List.getElem_cons_zero, List.setIfInBounds_toArray, List.set_cons_zero, List.set_cons_succ]
              refine wpAnyH_take (i := 7) (v := ?_) rfl (by kernel_rfl) (by kernel_rfl) (by kernel_rfl) (fun _ _ _ h => h) (Or.inl ⟨by kernel_rfl, ?_⟩) (by first | assumption | trivial) ?_
              rotate_left
              · intro w hSw
                try dsimp only at hSw
                first | (go_simp; done) | (go_simp; with_reducible rfl)
              try simp only [Act.put, List.getElem_toArray, List.getElem_cons_succ, List.getElem_cons_zero, List.setIfInBounds_toArray, List.set_cons_zero, List.set_cons_succ]
              refine wpAnyH_take (i := 8) (v := ?_) rfl (by kernel_rfl) (by kernel_rfl) (by kernel_rfl) (fun _ _ _ h => h) (Or.inl ⟨by kernel_rfl, ?_⟩) (by first | assumption | trivial) ?_
              rotate_left
              · intro w hSw
                try dsimp only at hSw
                first | (go_simp; done) | (go_simp; with_reducible rfl)
              try simp only [Act.put, List.getElem_toArray, List.getElem_cons_succ, List.getElem_cons_zero, List.setIfInBounds_toArray, List.set_cons_zero, List.set_cons_succ]
              refine wpAnyH_take (i := 9) (v := ?_) rfl (by kernel_rfl) (by kernel_rfl) (by kernel_rfl) (fun _ _ _ h => h) (Or.inl ⟨by kernel_rfl, ?_⟩) (by first | assumption | trivial) ?_
              rotate_left
              · intro w hSw
                try dsimp only at hSw
                first | (go_simp; done) | (go_simp; with_reducible rfl)
              try simp only [Act.put, List.getElem_toArray, List.getElem_cons_succ, List.getElem_cons_zero, List.setIfInBounds_toArray, List.set_cons_zero, List.set_cons_succ]
              refine wpAnyH_ready (rs := [10]) (by kernel_rfl) (by simp) ?_
              refine AllReadyH.cons rfl (fun K hK => ?_) AllReadyH.nil
              go_simp
              refine hK.out _ _ (HS.out (wr.drew.alloc (.cells #[.int .i64 a, .int .i64 b] 2)) ((Below.refl _ _).drew.alloc (Nat.le_refl _) _)) (fun hS => ?_)
              clear hK K
              try simp only [Act.put, List.getElem_toArray, List.getElem_cons_succ, List.getElem_cons_zero, List.setIfInBounds_toArray, List.set_cons_zero, List.set_cons_succ]
              refine wpAnyH_ready (rs := [11]) (by kernel_rfl) (by simp) ?_
              refine AllReadyH.cons rfl (fun K hK => ?_) AllReadyH.nil
              go_simp
              go_at_call 12
              refine (refsum_any (.slice (some ⟨wr.heap.size, 0, none⟩) 2 2) [a, b] (wr.drew.alloc (.cells #[.int .i64 a, .int .i64 b] 2)) (by simp) HA64.out (HROW.out wr.drew)).mono ?_
              rintro y w8 ⟨rfl, hb8⟩
              rw [HSUM.out, HSN.out, HSE.out]
              have HB8 := Lib.hid (((Below.refl wr.heap.size wr).drew.alloc (Nat.le_refl _) (.cells #[.int .i64 a, .int .i64 b] 2)).trans (hb8.mono (by simp)))
              clear hb8
              try go_wp2_with fail
              refine hK.out _ _ (HS.out w8 HB8.out) (fun hS => ?_)
              clear hK K
              try simp only [Act.put, List.getElem_toArray, List.getElem_cons_succ, List.getElem_cons_zero, List.setIfInBounds_toArray, List.set_cons_zero, List.set_cons_succ]
              refine wpAnyH_take (i := 12) (v := ?_) rfl (by kernel_rfl) (by kernel_rfl) (by kernel_rfl) (fun _ _ _ h => h) (Or.inl ⟨by kernel_rfl, ?_⟩) (by first | assumption | trivial) ?_
              rotate_left
              · intro w hSw
                try dsimp only at hSw
                first | (go_simp; done) | (go_simp; with_reducible rfl)
              try simp only [Act.put, List.getElem_toArray, List.getElem_cons_succ, List.getElem_cons_zero, List.setIfInBounds_toArray, List.set_cons_zero, List.set_cons_succ]
              refine wpAnyH_take (i := 13) (v := ?_) rfl (by kernel_rfl) (by kernel_rfl) (by kernel_rfl) (fun _ _ _ h => h) (Or.inl ⟨by kernel_rfl, ?_⟩) (by first | assumption | trivial) ?_
              rotate_left
              · intro w hSw
                try dsimp only at hSw
                first | (go_simp; done) | (go_simp; with_reducible rfl)
              try simp only [Act.put, List.getElem_toArray, List.getElem_cons_succ, List.getElem_cons_zero, List.setIfInBounds_toArray, List.set_cons_zero, List.set_cons_succ]
              refine wpAnyH_take (i := 14) (v := ?_) rfl (by kernel_rfl) (by kernel_rfl) (by kernel_rfl) (fun _ _ _ h => h) (Or.inl ⟨by kernel_rfl, ?_⟩) (by first | assumption | trivial) ?_
              rotate_left
              · intro w hSw
                try dsimp only at hSw
                first | (go_simp; done) | (go_simp; with_reducible rfl)
              try simp only [Act.put, List.getElem_toArray, List.getElem_cons_succ, List.getElem_cons_zero, List.setIfInBounds_toArray, List.set_cons_zero, List.set_cons_succ]
              refine wpAnyH_take (i := 15) (v := ?_) rfl (by kernel_rfl) (by kernel_rfl) (by kernel_rfl) (fun _ _ _ h => h) (Or.inl ⟨by kernel_rfl, ?_⟩) (by first | assumption | trivial) ?_
              rotate_left
              · intro w hSw
                try dsimp only at hSw
                first | (go_simp; done) | (go_simp; with_reducible rfl)
              try simp only [Act.put, List.getElem_toArray, List.getElem_cons_succ, List.getElem_cons_zero, List.setIfInBounds_toArray, List.set_cons_zero, List.set_cons_succ]
              refine wpAnyH_take (i := 16) (v := ?_) rfl (by kernel_rfl) (by kernel_rfl) (by kernel_rfl) (fun _ _ _ h => h) (Or.inl ⟨by kernel_rfl, ?_⟩) (by first | assumption | trivial) ?_
              rotate_left
              · intro w hSw
                try dsimp only at hSw
                first | (go_simp; done) | (go_simp; with_reducible rfl)
              try simp only [Act.put, List.getElem_toArray, List.getElem_cons_succ, List.getElem_cons_zero, List.setIfInBounds_toArray, List.set_cons_zero, List.set_cons_succ]
              refine wpAnyH_done (by kernel_rfl) ?_ _
              have n0 : w8.cell? ⟨w4.heap.size + 1, k * 8 + j, none⟩ = some (.int .i64 a) := (HS.out w8 HB8.out).1
              have z15 : w8.cell? ⟨w7.heap.size + 1, k * 8 + j, none⟩ = some (.int .i64 old) := (HB8.out.cell (p := ⟨w7.heap.size + 1, k * 8 + j, none⟩) hl15).trans hz15
              have fr15 : w8.frozen? ⟨w7.heap.size + 1, k * 8 + j, none⟩ = false := by
                have h := (HBLK.out.below HB8.out HBLK.out.lt).free (k * 8 + j)
                rwa [HSX.out] at h
              have l15 : w7.heap.size + 1 < w8.heap.size := Nat.lt_of_lt_of_le hl15 HB8.out.size
              have ln0 : w4.heap.size + 1 < w8.heap.size := Nat.lt_of_lt_of_le lm0 HB8.out.size
              have ne15 : ¬ w4.heap.size + 1 = w7.heap.size + 1 := by have := HN47.out; omega
              have HB9 := Lib.hid (HBJ.out.trans (HB8.out.mono HBJ.out.size))
              have hblk9 := ((HBLK.out.below HB8.out HBLK.out.lt).set (8 * k + j) (.int .i64 0))
              rw [mCells_set, ← HSS.out] at hblk9
              have HBL9 : Hid (Blk (w8.setCell ⟨w7.heap.size + 1, k * 8 + j, none⟩ (.int .i64 0)) X.heap.size (mCells (sU M N (8 * k + j + 1))) 30) := by
                rw [HKJ.out, ← HSX.out]; exact hblk9
              have HO9 : Hid (Own .i64 (w8.setCell ⟨w7.heap.size + 1, k * 8 + j, none⟩ (.int .i64 0)) (X.heap.size + 1) 2 (.slice p9 l9 c9) (allU M cur (8 * k + j))) := own_setLow (HOWN.out.later HB8.out) (by rw [HSX.out]; exact Nat.lt_succ_self (w7.heap.size + 1)) _
              have HBX9 : Hid (Below X.heap.size X (w8.setCell ⟨w7.heap.size + 1, k * 8 + j, none⟩ (.int .i64 0))) := HB9.out.setCell (p := ⟨w7.heap.size + 1, k * 8 + j, none⟩) (by rw [HSX.out]; exact Nat.le_refl _) _
              clear hblk9 hz15 hf15 hl15
              have HNX : Hid (URel X M N cur (8 * k + (j + 1)) false (.slice p9 l9 c9) (w8.setCell ⟨w7.heap.size + 1, k * 8 + j, none⟩ (.int .i64 0))) := ⟨HBX9.out, HBL9.out, by have h := HO9.out; rw [show allU M cur (8 * k + (j + 1)) = allU M cur (8 * k + j) from HASN.out]; exact h, HFX.out⟩
              go_wp2_with fail
              go_roundw
              case rel => exact ⟨j + 1, false, by omega, by go_num, rfl, HNX⟩
              case measure => simp [intOf]; omega
    have hk8 : k = 8 := by omega
    subst hk8
    obtain ⟨hbK, hblk, hown, hfb⟩ := HK.out
    clear HK
    cases fb
    · skip
      have hnall : ¬ ∀ j, j < 64 → Fits (atM M j + atM N j) := fun h => by have := hfb.2 h; cases this
      have hex : ∃ i, i < 64 ∧ ¬ Fits (atM M i + atM N i) := by
        by_cases hx : ∃ i, i < 64 ∧ ¬ Fits (atM M i + atM N i)
        · exact hx
        · exact absurd (fun j hj => by
            by_cases hj2 : Fits (atM M j + atM N j)
            · exact hj2
            · exact absurd ⟨j, hj, hj2⟩ hx) hnall
      have hpf : plusE M (posOf N) = 10 := plus_not HLM.out H6M.out 64 (Nat.le_refl _) hex
      have hpe : pe = 10 := by rw [← HPE.out]; exact hpf
      subst hpe
      have hpf2 : pf = M := by rw [← HPF.out]; rw [if_neg (by decide)]
      rw [hpf2] at HR7
      clear hpf2
      clear hfb HPE HPF hpf hnall hex
      have HUB := Lib.hid hblk
      have HUO := Lib.hid hown
      replace HB := Lib.hid (HB.out.trans (hbK.mono HB.out.size))
      replace HV4 := Lib.hid (HV4.out.below hbK HV4.out.lt)
      replace HM4 := Lib.hid (HM4.out.below hbK HM4.out.lt)
      replace HR4 := Lib.hid (HR4.out.kept hbK)
      replace HV5 := Lib.hid (HV5.out.below hbK HV5.out.lt)
      replace HM5 := Lib.hid (HM5.out.below hbK HM5.out.lt)
      replace HR5 := Lib.hid (HR5.out.kept hbK)
      replace HR7 := Lib.hid (HR7.out.kept hbK)
      replace HV7 := Lib.hid (HV7.out.below hbK HV7.out.lt)
      clear hbK hblk hown
      have HINM := Lib.hid (mInfo (mCells M) (by rw [mCells_size]; exact HLM.out))
      have HINN := Lib.hid (mInfo (mCells N) (by rw [mCells_size]; exact HLN.out))
      have HINS := Lib.hid (mInfo (mCells (sU M N 64)) (by rw [mCells_size]; exact sU_len _ _ _))
      rw [HSX.out] at HUB
      obtain ⟨p9, c9, hv9⟩ := HUO.out.form
      generalize hl9 : (allU M cur (8 * 8)).length = l9 at hv9
      subst hv9
      clear hl9
      have HUR := Lib.hid HUO.out.row
      clear HUO
      have cHV7 : wr.cell? ⟨w7.heap.size, 0, none⟩ = some (.slice p7 n7 c7) := HV7.out.cell 0
      have lHV7 := HV7.out.lt
      have HSA := Lib.hid (same_any wr (.slice p7 n7 c7) (M) HLM.out HR7.out)
      unfold vecV at HSA
      go_wp2_with (with_reducible refine stop_load 30 (.tmp 8) rfl ?_)
      refine wpList_load_blk (by kernel_rfl) 30 (.tmp 8) rfl (w4.heap.size + 1) rfl 30 (mCells (M)) (.array 8 28) HM4.out Try.underlying30 rfl HINM.out ?_
      go_wp2_with fail
      refine HSA.out.mono ?_
      rintro y wA ⟨rfl, hb⟩
      replace HB := Lib.hid (HB.out.trans (hb.mono HB.out.size))
      replace HV4 := Lib.hid (HV4.out.below hb HV4.out.lt)
      replace HM4 := Lib.hid (HM4.out.below hb HM4.out.lt)
      replace HR4 := Lib.hid (HR4.out.kept hb)
      replace HV5 := Lib.hid (HV5.out.below hb HV5.out.lt)
      replace HM5 := Lib.hid (HM5.out.below hb HM5.out.lt)
      replace HR5 := Lib.hid (HR5.out.kept hb)
      replace HR7 := Lib.hid (HR7.out.kept hb)
      replace HV7 := Lib.hid (HV7.out.below hb HV7.out.lt)
      replace HUB := Lib.hid (HUB.out.below hb HUB.out.lt)
      replace HUR := Lib.hid (HUR.out.kept hb)
      clear hb HSA
      clear cHV7 lHV7
      have cHV4 : wA.cell? ⟨w4.heap.size, 0, none⟩ = some (.slice p4 n4 c4) := HV4.out.cell 0
      have lHV4 := HV4.out.lt
      have HTO := Lib.hid (total_any wA (.slice p4 n4 c4) M cur H6M.out HR4.out)
      rw [show (amtsC cur (posOf M)).sum = (allU M cur 64).sum from allU_sum M cur 64] at HTO
      unfold vecV at HTO
      go_wp2_with fail
      refine HTO.out.mono ?_
      rintro y wB ⟨rfl, hb⟩
      replace HB := Lib.hid (HB.out.trans (hb.mono HB.out.size))
      replace HV4 := Lib.hid (HV4.out.below hb HV4.out.lt)
      replace HM4 := Lib.hid (HM4.out.below hb HM4.out.lt)
      replace HR4 := Lib.hid (HR4.out.kept hb)
      replace HV5 := Lib.hid (HV5.out.below hb HV5.out.lt)
      replace HM5 := Lib.hid (HM5.out.below hb HM5.out.lt)
      replace HR5 := Lib.hid (HR5.out.kept hb)
      replace HR7 := Lib.hid (HR7.out.kept hb)
      replace HV7 := Lib.hid (HV7.out.below hb HV7.out.lt)
      replace HUB := Lib.hid (HUB.out.below hb HUB.out.lt)
      replace HUR := Lib.hid (HUR.out.kept hb)
      clear hb HTO
      clear cHV4 lHV4
      have HSM := Lib.hid (refsum_any (.slice p9 l9 c9) (allU M cur 64) wB (Nat.le_trans (allU_len _ _ _) (by omega)) (allU_64 H6M.out _ _) HUR.out)
      generalize sumN (allU M cur 64).sum = sn at *
      generalize sumE (allU M cur 64).sum = se at *
      go_wp2_with fail
      refine HSM.out.mono ?_
      rintro y wC ⟨rfl, hb⟩
      replace HB := Lib.hid (HB.out.trans (hb.mono HB.out.size))
      replace HV4 := Lib.hid (HV4.out.below hb HV4.out.lt)
      replace HM4 := Lib.hid (HM4.out.below hb HM4.out.lt)
      replace HR4 := Lib.hid (HR4.out.kept hb)
      replace HV5 := Lib.hid (HV5.out.below hb HV5.out.lt)
      replace HM5 := Lib.hid (HM5.out.below hb HM5.out.lt)
      replace HR5 := Lib.hid (HR5.out.kept hb)
      replace HR7 := Lib.hid (HR7.out.kept hb)
      replace HV7 := Lib.hid (HV7.out.below hb HV7.out.lt)
      replace HUB := Lib.hid (HUB.out.below hb HUB.out.lt)
      replace HUR := Lib.hid (HUR.out.kept hb)
      clear hb HSM
      have cHV4 : wC.cell? ⟨w4.heap.size, 0, none⟩ = some (.slice p4 n4 c4) := HV4.out.cell 0
      have lHV4 := HV4.out.lt
      have HSA := Lib.hid (same_any wC (.slice p4 n4 c4) (M) HLM.out HR4.out)
      unfold vecV at HSA
      go_wp2_with (with_reducible refine stop_load 30 (.tmp 8) rfl ?_)
      refine wpList_load_blk (by kernel_rfl) 30 (.tmp 8) rfl (w4.heap.size + 1) rfl 30 (mCells (M)) (.array 8 28) HM4.out Try.underlying30 rfl HINM.out ?_
      go_wp2_with fail
      refine HSA.out.mono ?_
      rintro y wD ⟨rfl, hb⟩
      replace HB := Lib.hid (HB.out.trans (hb.mono HB.out.size))
      replace HV4 := Lib.hid (HV4.out.below hb HV4.out.lt)
      replace HM4 := Lib.hid (HM4.out.below hb HM4.out.lt)
      replace HR4 := Lib.hid (HR4.out.kept hb)
      replace HV5 := Lib.hid (HV5.out.below hb HV5.out.lt)
      replace HM5 := Lib.hid (HM5.out.below hb HM5.out.lt)
      replace HR5 := Lib.hid (HR5.out.kept hb)
      replace HR7 := Lib.hid (HR7.out.kept hb)
      replace HV7 := Lib.hid (HV7.out.below hb HV7.out.lt)
      replace HUB := Lib.hid (HUB.out.below hb HUB.out.lt)
      replace HUR := Lib.hid (HUR.out.kept hb)
      clear hb HSA
      clear cHV4 lHV4
      have cHV5 : wD.cell? ⟨w5.heap.size, 0, none⟩ = some (.slice p5 n5 c5) := HV5.out.cell 0
      have lHV5 := HV5.out.lt
      have HSA := Lib.hid (same_any wD (.slice p5 n5 c5) (N) HLN.out HR5.out)
      unfold vecV at HSA
      go_wp2_with (with_reducible refine stop_load 30 (.tmp 11) rfl ?_)
      refine wpList_load_blk (by kernel_rfl) 30 (.tmp 11) rfl (w5.heap.size + 1) rfl 30 (mCells (N)) (.array 8 28) HM5.out Try.underlying30 rfl HINN.out ?_
      go_wp2_with fail
      refine HSA.out.mono ?_
      rintro y wE ⟨rfl, hb⟩
      replace HB := Lib.hid (HB.out.trans (hb.mono HB.out.size))
      replace HV4 := Lib.hid (HV4.out.below hb HV4.out.lt)
      replace HM4 := Lib.hid (HM4.out.below hb HM4.out.lt)
      replace HR4 := Lib.hid (HR4.out.kept hb)
      replace HV5 := Lib.hid (HV5.out.below hb HV5.out.lt)
      replace HM5 := Lib.hid (HM5.out.below hb HM5.out.lt)
      replace HR5 := Lib.hid (HR5.out.kept hb)
      replace HR7 := Lib.hid (HR7.out.kept hb)
      replace HV7 := Lib.hid (HV7.out.below hb HV7.out.lt)
      replace HUB := Lib.hid (HUB.out.below hb HUB.out.lt)
      replace HUR := Lib.hid (HUR.out.kept hb)
      clear hb HSA
      go_wp2_with fail
      go_ret
      exact ⟨rfl, HB.out⟩
    · skip
      have hall := hfb.1 rfl
      have hpf := plus_fits HLM.out H6M.out hall
      have hsu := sU_all M N hall
      have hpe : pe = 0 := by rw [← HPE.out]; exact hpf.1
      subst hpe
      have hpf2 : pf = sU M N 64 := by rw [← HPF.out]; rw [if_pos rfl, hpf.2, hsu]
      subst hpf2
      clear hfb HPE HPF hpf hall hsu
      have HUB := Lib.hid hblk
      have HUO := Lib.hid hown
      replace HB := Lib.hid (HB.out.trans (hbK.mono HB.out.size))
      replace HV4 := Lib.hid (HV4.out.below hbK HV4.out.lt)
      replace HM4 := Lib.hid (HM4.out.below hbK HM4.out.lt)
      replace HR4 := Lib.hid (HR4.out.kept hbK)
      replace HV5 := Lib.hid (HV5.out.below hbK HV5.out.lt)
      replace HM5 := Lib.hid (HM5.out.below hbK HM5.out.lt)
      replace HR5 := Lib.hid (HR5.out.kept hbK)
      replace HR7 := Lib.hid (HR7.out.kept hbK)
      replace HV7 := Lib.hid (HV7.out.below hbK HV7.out.lt)
      clear hbK hblk hown
      have HINM := Lib.hid (mInfo (mCells M) (by rw [mCells_size]; exact HLM.out))
      have HINN := Lib.hid (mInfo (mCells N) (by rw [mCells_size]; exact HLN.out))
      have HINS := Lib.hid (mInfo (mCells (sU M N 64)) (by rw [mCells_size]; exact sU_len _ _ _))
      rw [HSX.out] at HUB
      obtain ⟨p9, c9, hv9⟩ := HUO.out.form
      generalize hl9 : (allU M cur (8 * 8)).length = l9 at hv9
      subst hv9
      clear hl9
      have HUR := Lib.hid HUO.out.row
      clear HUO
      have cHV7 : wr.cell? ⟨w7.heap.size, 0, none⟩ = some (.slice p7 n7 c7) := HV7.out.cell 0
      have lHV7 := HV7.out.lt
      have HSA := Lib.hid (same_any wr (.slice p7 n7 c7) (sU M N 64) (sU_len _ _ _) HR7.out)
      unfold vecV at HSA
      go_wp2_with (with_reducible refine stop_load 30 (.tmp 15) rfl ?_)
      refine wpList_load_blk (by kernel_rfl) 30 (.tmp 15) rfl (w7.heap.size + 1) rfl 30 (mCells (sU M N 64)) (.array 8 28) HUB.out Try.underlying30 rfl HINS.out ?_
      go_wp2_with fail
      refine HSA.out.mono ?_
      rintro y wA ⟨rfl, hb⟩
      replace HB := Lib.hid (HB.out.trans (hb.mono HB.out.size))
      replace HV4 := Lib.hid (HV4.out.below hb HV4.out.lt)
      replace HM4 := Lib.hid (HM4.out.below hb HM4.out.lt)
      replace HR4 := Lib.hid (HR4.out.kept hb)
      replace HV5 := Lib.hid (HV5.out.below hb HV5.out.lt)
      replace HM5 := Lib.hid (HM5.out.below hb HM5.out.lt)
      replace HR5 := Lib.hid (HR5.out.kept hb)
      replace HR7 := Lib.hid (HR7.out.kept hb)
      replace HV7 := Lib.hid (HV7.out.below hb HV7.out.lt)
      replace HUB := Lib.hid (HUB.out.below hb HUB.out.lt)
      replace HUR := Lib.hid (HUR.out.kept hb)
      clear hb HSA
      clear cHV7 lHV7
      have cHV4 : wA.cell? ⟨w4.heap.size, 0, none⟩ = some (.slice p4 n4 c4) := HV4.out.cell 0
      have lHV4 := HV4.out.lt
      have HTO := Lib.hid (total_any wA (.slice p4 n4 c4) M cur H6M.out HR4.out)
      rw [show (amtsC cur (posOf M)).sum = (allU M cur 64).sum from allU_sum M cur 64] at HTO
      unfold vecV at HTO
      go_wp2_with fail
      refine HTO.out.mono ?_
      rintro y wB ⟨rfl, hb⟩
      replace HB := Lib.hid (HB.out.trans (hb.mono HB.out.size))
      replace HV4 := Lib.hid (HV4.out.below hb HV4.out.lt)
      replace HM4 := Lib.hid (HM4.out.below hb HM4.out.lt)
      replace HR4 := Lib.hid (HR4.out.kept hb)
      replace HV5 := Lib.hid (HV5.out.below hb HV5.out.lt)
      replace HM5 := Lib.hid (HM5.out.below hb HM5.out.lt)
      replace HR5 := Lib.hid (HR5.out.kept hb)
      replace HR7 := Lib.hid (HR7.out.kept hb)
      replace HV7 := Lib.hid (HV7.out.below hb HV7.out.lt)
      replace HUB := Lib.hid (HUB.out.below hb HUB.out.lt)
      replace HUR := Lib.hid (HUR.out.kept hb)
      clear hb HTO
      clear cHV4 lHV4
      have HSM := Lib.hid (refsum_any (.slice p9 l9 c9) (allU M cur 64) wB (Nat.le_trans (allU_len _ _ _) (by omega)) (allU_64 H6M.out _ _) HUR.out)
      generalize sumN (allU M cur 64).sum = sn at *
      generalize sumE (allU M cur 64).sum = se at *
      go_wp2_with fail
      refine HSM.out.mono ?_
      rintro y wC ⟨rfl, hb⟩
      replace HB := Lib.hid (HB.out.trans (hb.mono HB.out.size))
      replace HV4 := Lib.hid (HV4.out.below hb HV4.out.lt)
      replace HM4 := Lib.hid (HM4.out.below hb HM4.out.lt)
      replace HR4 := Lib.hid (HR4.out.kept hb)
      replace HV5 := Lib.hid (HV5.out.below hb HV5.out.lt)
      replace HM5 := Lib.hid (HM5.out.below hb HM5.out.lt)
      replace HR5 := Lib.hid (HR5.out.kept hb)
      replace HR7 := Lib.hid (HR7.out.kept hb)
      replace HV7 := Lib.hid (HV7.out.below hb HV7.out.lt)
      replace HUB := Lib.hid (HUB.out.below hb HUB.out.lt)
      replace HUR := Lib.hid (HUR.out.kept hb)
      clear hb HSM
      have cHV4 : wC.cell? ⟨w4.heap.size, 0, none⟩ = some (.slice p4 n4 c4) := HV4.out.cell 0
      have lHV4 := HV4.out.lt
      have HSA := Lib.hid (same_any wC (.slice p4 n4 c4) (M) HLM.out HR4.out)
      unfold vecV at HSA
      go_wp2_with (with_reducible refine stop_load 30 (.tmp 8) rfl ?_)
      refine wpList_load_blk (by kernel_rfl) 30 (.tmp 8) rfl (w4.heap.size + 1) rfl 30 (mCells (M)) (.array 8 28) HM4.out Try.underlying30 rfl HINM.out ?_
      go_wp2_with fail
      refine HSA.out.mono ?_
      rintro y wD ⟨rfl, hb⟩
      replace HB := Lib.hid (HB.out.trans (hb.mono HB.out.size))
      replace HV4 := Lib.hid (HV4.out.below hb HV4.out.lt)
      replace HM4 := Lib.hid (HM4.out.below hb HM4.out.lt)
      replace HR4 := Lib.hid (HR4.out.kept hb)
      replace HV5 := Lib.hid (HV5.out.below hb HV5.out.lt)
      replace HM5 := Lib.hid (HM5.out.below hb HM5.out.lt)
      replace HR5 := Lib.hid (HR5.out.kept hb)
      replace HR7 := Lib.hid (HR7.out.kept hb)
      replace HV7 := Lib.hid (HV7.out.below hb HV7.out.lt)
      replace HUB := Lib.hid (HUB.out.below hb HUB.out.lt)
      replace HUR := Lib.hid (HUR.out.kept hb)
      clear hb HSA
      clear cHV4 lHV4
      have cHV5 : wD.cell? ⟨w5.heap.size, 0, none⟩ = some (.slice p5 n5 c5) := HV5.out.cell 0
      have lHV5 := HV5.out.lt
      have HSA := Lib.hid (same_any wD (.slice p5 n5 c5) (N) HLN.out HR5.out)
      unfold vecV at HSA
      go_wp2_with (with_reducible refine stop_load 30 (.tmp 11) rfl ?_)
      refine wpList_load_blk (by kernel_rfl) 30 (.tmp 11) rfl (w5.heap.size + 1) rfl 30 (mCells (N)) (.array 8 28) HM5.out Try.underlying30 rfl HINN.out ?_
      go_wp2_with fail
      refine HSA.out.mono ?_
      rintro y wE ⟨rfl, hb⟩
      replace HB := Lib.hid (HB.out.trans (hb.mono HB.out.size))
      replace HV4 := Lib.hid (HV4.out.below hb HV4.out.lt)
      replace HM4 := Lib.hid (HM4.out.below hb HM4.out.lt)
      replace HR4 := Lib.hid (HR4.out.kept hb)
      replace HV5 := Lib.hid (HV5.out.below hb HV5.out.lt)
      replace HM5 := Lib.hid (HM5.out.below hb HM5.out.lt)
      replace HR5 := Lib.hid (HR5.out.kept hb)
      replace HR7 := Lib.hid (HR7.out.kept hb)
      replace HV7 := Lib.hid (HV7.out.below hb HV7.out.lt)
      replace HUB := Lib.hid (HUB.out.below hb HUB.out.lt)
      replace HUR := Lib.hid (HUR.out.kept hb)
      clear hb HSA
      go_wp2_with fail
      go_ret
      exact ⟨rfl, HB.out⟩
end Go.Proofs.Ytaooiejgigicoaa
