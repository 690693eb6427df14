/- VectorOrder: the walk. -/
import Derived.Test.YtaooiejgigicoaaEqM
import Derived.Deep.RegionHeld3
import Derived.Deep.CutRange
namespace Go.Proofs.Ytaooiejgigicoaa
open Go.RowKit
set_option linter.unusedSimpArgs false in
set_option maxHeartbeats 64000000 in
set_option maxRecDepth 100000 in
theorem vorder_walk (v : Value) (ps : List Pos) (t : Int) (w : World) (hr : PRow w v ps) (hf : ∀ p ∈ ps, FitP p) (ht : -9223372036854775808 ≤ t ∧ t ≤ 9223372036854775807) : Calls Try.prog 6 #[v, .int .i64 t] w fun e w' => e = .returned (.bool true) ∧ Below w.heap.size w w' := by
  have HL := Lib.hid (fun w => holds_any w)
  obtain ⟨pv, cv, rfl⟩ := hr.shape
  have HV := Lib.hid hr
  have HFV := Lib.hid hf
  clear hr hf
  generalize hn : ps.length = n at *
  have HN := Lib.hid hn
  clear hn
  have HB := Lib.hid (Below.refl w.heap.size w)
  by_cases h0 : n = 0
  · subst h0
    clear HV HFV HN HB ht
    go_enter Try.func6, Try.ntmps6
    go_wp2_with fail
    refine (HL.out _).mono ?_
    rintro y w1 ⟨rfl, hb1⟩
    go_wp2_with fail
    go_ret
    exact ⟨rfl, hb1⟩
  have g0 : ¬ (n : Int) = 0 := by omega
  have g0b : ((n : Int) == 0) = false := by simpa using g0
  by_cases h1 : n ≤ 40
  rotate_left
  · skip
    have g1 : (40 : Int) < (n : Int) := by omega
    clear HV HFV HN HB ht
    go_enter Try.func6, Try.ntmps6
    go_wp2_with fail
    refine (HL.out _).mono ?_
    rintro y w1 ⟨rfl, hb1⟩
    go_wp2_with fail
    go_ret
    exact ⟨rfl, hb1⟩
  have g1 : ¬ (40 : Int) < (n : Int) := by omega
  by_cases h2 : 0 ≤ t
  rotate_left
  · skip
    have g2 : t < 0 := by omega
    clear HV HFV HN HB ht
    go_enter Try.func6, Try.ntmps6
    go_wp2_with fail
    refine (HL.out _).mono ?_
    rintro y w1 ⟨rfl, hb1⟩
    go_wp2_with fail
    go_ret
    exact ⟨rfl, hb1⟩
  have g2 : ¬ t < 0 := by omega
  obtain ⟨T, rfl⟩ := Int.eq_ofNat_of_zero_le h2
  go_enter Try.func6, Try.ntmps6
  go_wp2_with fail
  refine (HL.out _).mono ?_
  rintro y w1 ⟨rfl, hb⟩
  replace HV := Lib.hid (HV.out.kept hb)
  replace HB := Lib.hid (HB.out.trans (hb.mono HB.out.size))
  clear hb
  clear HL
  go_wp2_with fail
  clear g1 g2
  have HREL : Hid (Below w1.heap.size w1 w1 ∧ ∀ p ∈ ps.take 0, SmallP p) := ⟨Below.refl _ _, fun _ h => by simp at h⟩
  go_loopw [30] (fun i wr => ∃ k : Nat, k ≤ n ∧ i = .int .i64 k ∧ Hid (Below w1.heap.size w1 wr ∧ ∀ p ∈ ps.take k, SmallP p)) (fun i _ => n - (intOf i).toNat)
  case atStart => exact ⟨0, by omega, rfl, HREL⟩
  case round =>
    obtain ⟨k, hk, rfl, HK⟩ := hrel
    clear HREL
    by_cases hlt : k < n
    · have hkl : k < ps.length := by rw [HN.out]; exact hlt
      have hltI : (k : Int) < (n : Int) := by omega
      have HTK : Hid (ps.take (k + 1) = ps.take k ++ [ps[k]]) := List.take_succ_eq_append_getElem hkl
      obtain ⟨b, o, rfl, hbl, e0, e1, e2⟩ := (HV.out.kept HK.out.1).at_ k hkl
      have HBW := Lib.hid (HB.out.trans (HK.out.1.mono HB.out.size))
      generalize ps[k] = P at *
      obtain ⟨e, c, a⟩ := P
      dsimp only at e0 e1 e2
      by_cases h3 : 1125899906842624 < a
      · go_wp2_with fail
        go_ret
        exact ⟨rfl, HBW.out.alloc HBW.out.size _⟩
      · by_cases h4 : a < -1125899906842624
        · go_wp2_with fail
          go_ret
          exact ⟨rfl, HBW.out.alloc HBW.out.size _⟩
        · have HNX : Hid (Below w1.heap.size w1 (wr.alloc (.cells #[.int .i64 e, .int .i64 c, .int .i64 a] 46)) ∧ ∀ p ∈ ps.take (k + 1), SmallP p) := by
            refine ⟨HK.out.1.alloc HK.out.1.size _, fun p hp => ?_⟩
            rw [HTK.out] at hp
            rcases List.mem_append.1 hp with h | h
            · exact HK.out.2 p h
            · rw [List.mem_singleton.1 h]
              exact ⟨by dsimp only; omega, by dsimp only; omega⟩
          go_wp2_with fail
          go_roundw
          case rel => exact ⟨k + 1, by omega, by go_num, HNX⟩
          case measure => simp [intOf]; omega
    have hle : (n : Int) ≤ (k : Int) := by omega
    have hall : ∀ p ∈ ps, SmallP p := by
      have h := HK.out.2
      rwa [show k = ps.length by rw [HN.out]; omega, List.take_length] at h
    have hbK := HK.out.1
    have HTU := Lib.hid (fun j => play_turn ps hall (by rw [HN.out]; omega) j)
    clear hall
    obtain ⟨J, hJ⟩ : ∃ J, J = T % n := ⟨_, rfl⟩
    have hJn : J < n := by rw [hJ]; exact Nat.mod_lt _ (by omega)
    have htm : Int.tmod (T : Int) (n : Int) = (J : Int) := by rw [hJ]; rfl
    have hem : (T : Int) % (n : Int) = (J : Int) := by rw [hJ]; rfl
    clear hJ
    replace HV := Lib.hid (HV.out.kept hbK)
    replace HB := Lib.hid (HB.out.trans (hbK.mono HB.out.size))
    clear hbK HK
    have HPC := Lib.hid (play_any wr (.slice pv n cv) ps HV.out (by rw [HN.out]; omega) HFV.out)
    unfold vecV at HPC
    go_wp2_with fail
    refine (HPC.out).mono ?_
    rintro y w4 ⟨v4, rfl, hr4, hb4⟩
    obtain ⟨p4, c4, hv4⟩ := hr4.shape
    generalize hn4 : (posOf (playM ps)).length = n4 at hv4
    clear hn4
    subst hv4
    have HPW4 := Lib.hid (playw w w4 (.slice p4 n4 c4) (playM ps) (playM_len _) (HB.out.trans (hb4.mono HB.out.size)) hr4)
    have HTH4 := Lib.hid (zeros_there w4 (.slice p4 n4 c4) (playM ps) (playM_len _))
    have HIN4 := Lib.hid (mInfo (mCells (playM ps)) (by rw [mCells_size]; exact playM_len _))
    have HBK4 := Lib.hid hb4
    clear hr4 hb4
    go_wp2_with (with_reducible refine stop_store 30 (.tmp 9) (.tmp 51) rfl ?_)
    refine wpList_store_mid rfl 30 (.tmp 9) (.tmp 51) rfl (w4.heap.size + 1) 0 (mCells (playM ps)) rfl rfl HTH4.out HIN4.out (mCells_one (playM ps)) ?_
    obtain ⟨hbv4, hbm4, hbw4, hrow4, hbb4⟩ := HPW4.out
    clear HPW4 HTH4 HIN4
    generalize World.setCells _ (w4.heap.size + 1) 0 (mCells (playM ps)).toList = X4 at *
    have HV4 := Lib.hid hbv4
    have HM4 := Lib.hid hbm4
    have HW4 := Lib.hid hbw4
    have HR4 := Lib.hid hrow4
    have HBB4 := Lib.hid hbb4
    have cv4 : X4.cell? ⟨w4.heap.size, 0, none⟩ = some (.slice p4 n4 c4) := hbv4.cell 0
    have lv4 := hbv4.lt
    have lm4 := hbm4.lt
    clear hbv4 hbm4 hbw4 hrow4 hbb4
    clear HPC cv4 lv4 lm4
    have hbY := HBK4.out.trans (HBB4.out.mono HBK4.out.size)
    replace HV := Lib.hid (HV.out.kept hbY)
    replace HB := Lib.hid (HB.out.trans (hbY.mono HB.out.size))
    clear hbY HBK4 HBB4 HW4
    clear HV4 HR4
    clear hem htm hle
    have HMP := Lib.hid HM4.out
    have hcv : n ≤ cv := by
      obtain ⟨_, _, e, hc, _⟩ := HV.out
      cases e
      rw [← HN.out]; exact hc
    obtain ⟨b, o, hp, _⟩ := HV.out.at_ 0 (by rw [HN.out]; omega)
    subst hp
    have HVD : Hid (PRow X4 (.slice (some ⟨b, o + J * 3, none⟩) (n - J) (cv - J)) (ps.drop J)) := by
      have h := HV.out.drop J (by rw [HN.out]; omega)
      rw [HN.out] at h; exact h
    have HVT : Hid (PRow X4 (.slice (some ⟨b, o, none⟩) J cv) (ps.take J)) := HV.out.take J (by rw [HN.out]; omega)
    have HLD : Hid ((ps.drop J).length = n - J) := by show _ = _; rw [List.length_drop, HN.out]
    have HLT : Hid ((ps.take J).length = J) := by show _ = _; rw [List.length_take, HN.out]; omega
    have HLA : Hid ((ps.drop J ++ ps.take J).length = n) := by show _ = _; rw [List.length_append, HLD.out, HLT.out]; omega
    have HFT : Hid (∀ p ∈ ps.drop J ++ ps.take J, FitP p) := fun p h => (List.mem_append.1 h).elim (fun h => HFV.out p (List.mem_of_mem_drop h)) (fun h => HFV.out p (List.mem_of_mem_take h))
    have HO0 := Lib.hid (ORel.start X4 46 #[.slice none 0 0] 27 #[.int .i64 0, .int .i64 0, .int .i64 0, .int .i64 0, .int .i64 0, .int .i64 0, .int .i64 0, .int .i64 0, .int .i64 0, .int .i64 0, .int .i64 0, .int .i64 0, .int .i64 0, .int .i64 0, .int .i64 0, .int .i64 0, .int .i64 0, .int .i64 0, .int .i64 0, .int .i64 0, .int .i64 0, .int .i64 0, .int .i64 0, .int .i64 0, .int .i64 0, .int .i64 0, .int .i64 0, .int .i64 0, .int .i64 0, .int .i64 0, .int .i64 0, .int .i64 0, .int .i64 0, .int .i64 0, .int .i64 0, .int .i64 0, .int .i64 0, .int .i64 0, .int .i64 0, .int .i64 0, .int .i64 0, .int .i64 0, .int .i64 0, .int .i64 0, .int .i64 0, .int .i64 0, .int .i64 0, .int .i64 0, .int .i64 0, .int .i64 0, .int .i64 0, .int .i64 0, .int .i64 0, .int .i64 0, .int .i64 0, .int .i64 0, .int .i64 0, .int .i64 0, .int .i64 0, .int .i64 0, .int .i64 0, .int .i64 0, .int .i64 0, .int .i64 0] 30)
    have HIN := Lib.hid (mInfo (mCells (playM (ps.drop J ++ ps.take J))) (by rw [mCells_size]; exact playM_len _))
    have k1 : (0 : Int) ≤ (J : Int) := by omega
    have k2 : (J : Int) ≤ (n : Int) := by omega
    have k3 : (J : Int) ≤ (cv : Int) := by omega
    have k4 : ¬ cv - J = 0 := by omega
    have k5 : ¬ cv = 0 := by omega
    have k6 : ¬ cv = J := by omega
    go_upto_region 13 with (fail)
    go_cut [11, 12, 13] from 53 to 66 (fun _ t12 t13 wx => ∃ bb : Nat, t12 = .pointer (some ⟨bb, 0, none⟩) ∧ t13 = .bool true ∧ Hid (Blk wx bb (mCells (playM (ps.drop J ++ ps.take J))) 30 ∧ Below X4.heap.size X4 wx))
    case first =>
      refine wp_region_held_drew (S := fun w' => True) (by kernel_rfl) trivial (fun hS0 => ?_)
      refine wpAnyH_take (i := 1) (v := ?_) rfl (by kernel_rfl) (by kernel_rfl) (by kernel_rfl) (fun _ _ _ h => h) (Or.inl ⟨by kernel_rfl, ?_⟩) (by first | assumption | trivial) ?_
      rotate_left
      · intro w hSw
        try dsimp only at hSw
        first | (go_simp; done) | (go_simp; with_reducible rfl)
      try simp only [Act.put, List.getElem_toArray, List.getElem_cons_succ, List.getElem_cons_zero, List.setIfInBounds_toArray, List.set_cons_zero, List.set_cons_succ]
      refine wpAnyH_take (i := 2) (v := ?_) rfl (by kernel_rfl) (by kernel_rfl) (by kernel_rfl) (fun _ _ _ h => h) (Or.inl ⟨by kernel_rfl, ?_⟩) (by first | assumption | trivial) ?_
      rotate_left
      · intro w hSw
        try dsimp only at hSw
        first | (go_simp; done) | (go_simp; with_reducible rfl)
      try simp only [Act.put, List.getElem_toArray, List.getElem_cons_succ, List.getElem_cons_zero, List.setIfInBounds_toArray, List.set_cons_zero, List.set_cons_succ]
      refine wpAnyH_take (i := 3) (v := ?_) rfl (by kernel_rfl) (by kernel_rfl) (by kernel_rfl) (fun _ _ _ h => h) (Or.inl ⟨by kernel_rfl, ?_⟩) (by first | assumption | trivial) ?_
      rotate_left
      · intro w hSw
        try dsimp only at hSw
        first | (go_simp; done) | (go_simp; with_reducible rfl)
      try simp only [Act.put, List.getElem_toArray, List.getElem_cons_succ, List.getElem_cons_zero, List.setIfInBounds_toArray, List.set_cons_zero, List.set_cons_succ]
      refine wpAnyH_take (i := 5) (v := ?_) rfl (by kernel_rfl) (by kernel_rfl) (by kernel_rfl) (fun _ _ _ h => h) (Or.inl ⟨by kernel_rfl, ?_⟩) (by first | assumption | trivial) ?_
      rotate_left
      · intro w hSw
        try dsimp only at hSw
        first | (go_simp; done) | (go_simp; with_reducible rfl)
      try simp only [Act.put, List.getElem_toArray, List.getElem_cons_succ, List.getElem_cons_zero, List.setIfInBounds_toArray, List.set_cons_zero, List.set_cons_succ]
      refine wpAnyH_take (i := 6) (v := ?_) rfl (by kernel_rfl) (by kernel_rfl) (by kernel_rfl) (fun _ _ _ h => h) (Or.inl ⟨by kernel_rfl, ?_⟩) (by first | assumption | trivial) ?_
      rotate_left
      · intro w hSw
        try dsimp only at hSw
        first | (go_simp; done) | (go_simp; with_reducible rfl)
      try simp only [Act.put, List.getElem_toArray, List.getElem_cons_succ, List.getElem_cons_zero, List.setIfInBounds_toArray, List.set_cons_zero, List.set_cons_succ]
      refine wpAnyH_take (i := 7) (v := ?_) rfl (by kernel_rfl) (by kernel_rfl) (by kernel_rfl) (fun _ _ _ h => h) (Or.inl ⟨by kernel_rfl, ?_⟩) (by first | assumption | trivial) ?_
      rotate_left
      · intro w hSw
        try dsimp only at hSw
        first | (go_simp; done) | (go_simp; with_reducible rfl)
      try simp only [Act.put, List.getElem_toArray, List.getElem_cons_succ, List.getElem_cons_zero, List.setIfInBounds_toArray, List.set_cons_zero, List.set_cons_succ]
      generalize X4.drew = W0 at *
      refine wpAnyH_ready (rs := [0, 14, 15]) (by kernel_rfl) (by simp) ?_
      refine AllReadyH.cons rfl (fun K hK => ?_) (AllReadyH.cons rfl (fun K hK => ?_) (AllReadyH.cons rfl (fun K hK => ?_) (AllReadyH.nil)))
      · skip
        go_simp
        refine hK.out _ _ trivial (fun _ => ?_)
        clear hK K
        try simp only [Act.put, List.getElem_toArray, List.getElem_cons_succ, List.getElem_cons_zero, List.setIfInBounds_toArray, List.set_cons_zero, List.set_cons_succ]
        have HO101 := Lib.hid HO0.out.build
        generalize W0.alloc (.cells #[] 46) = W101 at *
        refine wpAnyH_ready (rs := [4, 14, 15]) (by kernel_rfl) (by simp) ?_
        refine AllReadyH.cons rfl (fun K hK => ?_) (AllReadyH.cons rfl (fun K hK => ?_) (AllReadyH.cons rfl (fun K hK => ?_) (AllReadyH.nil)))
        · skip
          refine step_append_o rfl (.tmp 54) (.tmp 57) 22 rfl 46 elt_put _ _ ([]) (ps.drop J) rfl rfl HO101.out (HVD.out.kept HO101.out.1) (by rw [HLD.out]; simp only [List.length_nil]; omega) (ps.drop J) (n - J) (List.nil_append _) HLD.out ?_
          intro p102 c102 W102 ho102
          refine hK.out _ _ trivial (fun _ => ?_)
          clear hK K
          try simp only [Act.put, List.getElem_toArray, List.getElem_cons_succ, List.getElem_cons_zero, List.setIfInBounds_toArray, List.set_cons_zero, List.set_cons_succ]
          have HO102 := Lib.hid ho102
          clear ho102
          refine wpAnyH_ready (rs := [8, 14, 15]) (by kernel_rfl) (by simp) ?_
          refine AllReadyH.cons rfl (fun K hK => ?_) (AllReadyH.cons rfl (fun K hK => ?_) (AllReadyH.cons rfl (fun K hK => ?_) (AllReadyH.nil)))
          · skip
            refine step_append_o rfl (.tmp 58) (.tmp 61) 22 rfl 46 elt_put _ _ (ps.drop J) (ps.take J) rfl rfl HO102.out (HVT.out.kept HO102.out.1) (by rw [HLD.out, HLT.out]; omega) (ps.drop J ++ ps.take J) n (rfl) HLA.out ?_
            intro p103 c103 W103 ho103
            refine hK.out _ _ trivial (fun _ => ?_)
            clear hK K
            try simp only [Act.put, List.getElem_toArray, List.getElem_cons_succ, List.getElem_cons_zero, List.setIfInBounds_toArray, List.set_cons_zero, List.set_cons_succ]
            have HO103 := Lib.hid ho103
            clear ho103
            refine wpAnyH_ready (rs := [9, 14, 15]) (by kernel_rfl) (by simp) ?_
            refine AllReadyH.cons rfl (fun K hK => ?_) (AllReadyH.cons rfl (fun K hK => ?_) (AllReadyH.cons rfl (fun K hK => ?_) (AllReadyH.nil)))
            · skip
              go_simp
              go_at_call 9
              refine (play_any W103 _ (ps.drop J ++ ps.take J) HO103.out.2.1.row (by rw [HLA.out]; omega) HFT.out).mono ?_
              rintro y W104 ⟨v6, rfl, hr6, hb6⟩
              obtain ⟨p6, c6, hv6⟩ := hr6.shape
              generalize (posOf (playM (ps.drop J ++ ps.take J))).length = n6 at hv6
              subst hv6
              have HO104 := Lib.hid (HO103.out.kept hb6)
              clear hr6 hb6
              unfold vecV
              try go_wp2_with fail
              refine hK.out _ _ trivial (fun _ => ?_)
              clear hK K
              try simp only [Act.put, List.getElem_toArray, List.getElem_cons_succ, List.getElem_cons_zero, List.setIfInBounds_toArray, List.set_cons_zero, List.set_cons_succ]
              refine wpAnyH_take (i := 10) (v := ?_) rfl (by kernel_rfl) (by kernel_rfl) (by kernel_rfl) (fun _ _ _ h => h) (Or.inl ⟨by kernel_rfl, ?_⟩) (by first | assumption | trivial) ?_
              rotate_left
              · intro w hSw
                try dsimp only at hSw
                first | (go_simp; done) | (go_simp; with_reducible rfl)
              try simp only [Act.put, List.getElem_toArray, List.getElem_cons_succ, List.getElem_cons_zero, List.setIfInBounds_toArray, List.set_cons_zero, List.set_cons_succ]
              refine wpAnyH_take (i := 11) (v := ?_) rfl (by kernel_rfl) (by kernel_rfl) (by kernel_rfl) (fun _ _ _ h => h) (Or.inl ⟨by kernel_rfl, ?_⟩) (by first | assumption | trivial) ?_
              rotate_left
              · intro w hSw
                try dsimp only at hSw
                first | (go_simp; done) | (go_simp; with_reducible rfl)
              try simp only [Act.put, List.getElem_toArray, List.getElem_cons_succ, List.getElem_cons_zero, List.setIfInBounds_toArray, List.set_cons_zero, List.set_cons_succ]
              refine wpAnyH_take (i := 12) (v := ?_) rfl (by kernel_rfl) (by kernel_rfl) (by kernel_rfl) (fun _ _ _ h => h) (Or.inl ⟨by kernel_rfl, ?_⟩) (by first | assumption | trivial) ?_
              rotate_left
              · intro w hSw
                try dsimp only at hSw
                first | (go_simp; done) | (go_simp; with_reducible rfl)
              try simp only [Act.put, List.getElem_toArray, List.getElem_cons_succ, List.getElem_cons_zero, List.setIfInBounds_toArray, List.set_cons_zero, List.set_cons_succ]
              refine wpAnyH_take (i := 13) (v := ?_) rfl (by kernel_rfl) (by kernel_rfl) (by kernel_rfl) (fun _ _ _ h => h) (Or.inl ⟨by kernel_rfl, ?_⟩) (by first | assumption | trivial) ?_
              rotate_left
              · intro w hSw
                try dsimp only at hSw
                first | (go_simp; done) | (go_simp; with_reducible rfl)
              try simp only [Act.put, List.getElem_toArray, List.getElem_cons_succ, List.getElem_cons_zero, List.setIfInBounds_toArray, List.set_cons_zero, List.set_cons_succ]
              refine wpAnyH_ready (rs := [14, 15]) (by kernel_rfl) (by simp) ?_
              refine AllReadyH.cons rfl (fun K hK => ?_) (AllReadyH.cons rfl (fun K hK => ?_) (AllReadyH.nil))
              · skip
                go_simp
                refine hK.out _ _ trivial (fun _ => ?_)
                clear hK K
                try simp only [Act.put, List.getElem_toArray, List.getElem_cons_succ, List.getElem_cons_zero, List.setIfInBounds_toArray, List.set_cons_zero, List.set_cons_succ]
                have HO105 := Lib.hid HO104.out.allocA
                generalize W104.alloc (.cells #[.slice none 0 0] 27) = W105 at *
                refine wpAnyH_ready (rs := [15]) (by kernel_rfl) (by simp) ?_
                refine AllReadyH.cons rfl (fun K hK => ?_) (AllReadyH.nil)
                · skip
                  go_simp
                  refine hK.out _ _ trivial (fun _ => ?_)
                  clear hK K
                  try simp only [Act.put, List.getElem_toArray, List.getElem_cons_succ, List.getElem_cons_zero, List.setIfInBounds_toArray, List.set_cons_zero, List.set_cons_succ]
                  have HO106 := Lib.hid HO105.out.allocB
                  generalize W105.alloc (.cells #[.int .i64 0, .int .i64 0, .int .i64 0, .int .i64 0, .int .i64 0, .int .i64 0, .int .i64 0, .int .i64 0, .int .i64 0, .int .i64 0, .int .i64 0, .int .i64 0, .int .i64 0, .int .i64 0, .int .i64 0, .int .i64 0, .int .i64 0, .int .i64 0, .int .i64 0, .int .i64 0, .int .i64 0, .int .i64 0, .int .i64 0, .int .i64 0, .int .i64 0, .int .i64 0, .int .i64 0, .int .i64 0, .int .i64 0, .int .i64 0, .int .i64 0, .int .i64 0, .int .i64 0, .int .i64 0, .int .i64 0, .int .i64 0, .int .i64 0, .int .i64 0, .int .i64 0, .int .i64 0, .int .i64 0, .int .i64 0, .int .i64 0, .int .i64 0, .int .i64 0, .int .i64 0, .int .i64 0, .int .i64 0, .int .i64 0, .int .i64 0, .int .i64 0, .int .i64 0, .int .i64 0, .int .i64 0, .int .i64 0, .int .i64 0, .int .i64 0, .int .i64 0, .int .i64 0, .int .i64 0, .int .i64 0, .int .i64 0, .int .i64 0, .int .i64 0] 30) = W106 at *
                  obtain ⟨hbO, _, hA, hB, hAB⟩ := HO106.out
                  have HA := Lib.hid (hA _ rfl)
                  have HBq := Lib.hid (hB _ rfl)
                  have HAB := Lib.hid (hAB _ _ rfl rfl)
                  have HBO := Lib.hid hbO
                  clear hbO hA hB hAB
                  have q0 : W106.cell? ⟨W104.heap.size, 0, none⟩ = some (.slice none 0 0) := HA.out.1.cell 0
                  have qf := HA.out.1.free 0
                  have ql := HA.out.1.lt
                  refine wpAnyH_ready (rs := [16]) (by kernel_rfl) (by simp) ?_
                  refine AllReadyH.cons rfl (fun K hK => ?_) AllReadyH.nil
                  go_simp
                  refine hK.out _ _ trivial (fun hS => ?_)
                  clear hK K
                  try simp only [Act.put, List.getElem_toArray, List.getElem_cons_succ, List.getElem_cons_zero, List.setIfInBounds_toArray, List.set_cons_zero, List.set_cons_succ]
                  have HB2 := Lib.hid (HBq.out.1.setOther (a := ⟨W104.heap.size, 0, none⟩) HAB.out (.slice p6 n6 c6))
                  have HW2 := Lib.hid (HBO.out.setCell (p := ⟨W104.heap.size, 0, none⟩) HA.out.2.1 (.slice p6 n6 c6))
                  have HTH : Hid ((W106.setCell ⟨W104.heap.size, 0, none⟩ (.slice p6 n6 c6)).there W105.heap.size 0 (mCells (playM (ps.drop J ++ ps.take J))).size) := by
                    have h1 := HB2.out.there
                    rw [mCells_size, playM_len]
                    exact h1
                  refine wpAnyH_ready (rs := [17]) (by kernel_rfl) (by simp) ?_
                  refine AllReadyH.cons rfl (fun K hK => ?_) AllReadyH.nil
                  rw [if_pos (by kernel_rfl)]
                  refine wp_store_mid 30 (.tmp 12) (.tmp 65) rfl (W105.heap.size) 0 (mCells (playM (ps.drop J ++ ps.take J))) rfl rfl HTH.out HIN.out (mCells_one _) ?_
                  refine hK.out _ _ trivial (fun hS => ?_)
                  clear hK K
                  try simp only [Act.put, List.getElem_toArray, List.getElem_cons_succ, List.getElem_cons_zero, List.setIfInBounds_toArray, List.set_cons_zero, List.set_cons_succ]
                  refine wpAnyH_take (i := 18) (v := ?_) rfl (by kernel_rfl) (by kernel_rfl) (by kernel_rfl) (fun _ _ _ h => h) (Or.inl ⟨by kernel_rfl, ?_⟩) (by first | assumption | trivial) ?_
                  rotate_left
                  · intro w hSw
                    try dsimp only at hSw
                    first | (go_simp; done) | (go_simp; with_reducible rfl)
                  try simp only [Act.put, List.getElem_toArray, List.getElem_cons_succ, List.getElem_cons_zero, List.setIfInBounds_toArray, List.set_cons_zero, List.set_cons_succ]
                  refine wpAnyH_done (by kernel_rfl) ?_ _
                  have hb9 := blk_store HB2.out (mCells (playM (ps.drop J ++ ps.take J))) (by rw [mCells_size, playM_len]; rfl)
                  have hw9 := HW2.out.trans ((Chg.setCells (W105.heap.size) (mCells (playM (ps.drop J ++ ps.take J))).toList 0 _ _ (Chg.refl (W105.heap.size) (W106.setCell ⟨W104.heap.size, 0, none⟩ (.slice p6 n6 c6)))).below HBq.out.2.1 HW2.out.size)
                  have HFIN := Lib.hid (And.intro hb9 hw9)
                  clear hb9 hw9 q0 qf ql
                  go_wp2_with fail
                  go_meet
                  exact ⟨_, rfl, rfl, HFIN⟩
              · skip
                go_simp
                refine hK.out _ _ trivial (fun _ => ?_)
                clear hK K
                try simp only [Act.put, List.getElem_toArray, List.getElem_cons_succ, List.getElem_cons_zero, List.setIfInBounds_toArray, List.set_cons_zero, List.set_cons_succ]
                have HO107 := Lib.hid HO104.out.allocB
                generalize W104.alloc (.cells #[.int .i64 0, .int .i64 0, .int .i64 0, .int .i64 0, .int .i64 0, .int .i64 0, .int .i64 0, .int .i64 0, .int .i64 0, .int .i64 0, .int .i64 0, .int .i64 0, .int .i64 0, .int .i64 0, .int .i64 0, .int .i64 0, .int .i64 0, .int .i64 0, .int .i64 0, .int .i64 0, .int .i64 0, .int .i64 0, .int .i64 0, .int .i64 0, .int .i64 0, .int .i64 0, .int .i64 0, .int .i64 0, .int .i64 0, .int .i64 0, .int .i64 0, .int .i64 0, .int .i64 0, .int .i64 0, .int .i64 0, .int .i64 0, .int .i64 0, .int .i64 0, .int .i64 0, .int .i64 0, .int .i64 0, .int .i64 0, .int .i64 0, .int .i64 0, .int .i64 0, .int .i64 0, .int .i64 0, .int .i64 0, .int .i64 0, .int .i64 0, .int .i64 0, .int .i64 0, .int .i64 0, .int .i64 0, .int .i64 0, .int .i64 0, .int .i64 0, .int .i64 0, .int .i64 0, .int .i64 0, .int .i64 0, .int .i64 0, .int .i64 0, .int .i64 0] 30) = W107 at *
                refine wpAnyH_ready (rs := [14]) (by kernel_rfl) (by simp) ?_
                refine AllReadyH.cons rfl (fun K hK => ?_) (AllReadyH.nil)
                · skip
                  go_simp
                  refine hK.out _ _ trivial (fun _ => ?_)
                  clear hK K
                  try simp only [Act.put, List.getElem_toArray, List.getElem_cons_succ, List.getElem_cons_zero, List.setIfInBounds_toArray, List.set_cons_zero, List.set_cons_succ]
                  have HO108 := Lib.hid HO107.out.allocA
                  generalize W107.alloc (.cells #[.slice none 0 0] 27) = W108 at *
                  obtain ⟨hbO, _, hA, hB, hAB⟩ := HO108.out
                  have HA := Lib.hid (hA _ rfl)
                  have HBq := Lib.hid (hB _ rfl)
                  have HAB := Lib.hid (hAB _ _ rfl rfl)
                  have HBO := Lib.hid hbO
                  clear hbO hA hB hAB
                  have q0 : W108.cell? ⟨W107.heap.size, 0, none⟩ = some (.slice none 0 0) := HA.out.1.cell 0
                  have qf := HA.out.1.free 0
                  have ql := HA.out.1.lt
                  refine wpAnyH_ready (rs := [16]) (by kernel_rfl) (by simp) ?_
                  refine AllReadyH.cons rfl (fun K hK => ?_) AllReadyH.nil
                  go_simp
                  refine hK.out _ _ trivial (fun hS => ?_)
                  clear hK K
                  try simp only [Act.put, List.getElem_toArray, List.getElem_cons_succ, List.getElem_cons_zero, List.setIfInBounds_toArray, List.set_cons_zero, List.set_cons_succ]
                  have HB2 := Lib.hid (HBq.out.1.setOther (a := ⟨W107.heap.size, 0, none⟩) HAB.out (.slice p6 n6 c6))
                  have HW2 := Lib.hid (HBO.out.setCell (p := ⟨W107.heap.size, 0, none⟩) HA.out.2.1 (.slice p6 n6 c6))
                  have HTH : Hid ((W108.setCell ⟨W107.heap.size, 0, none⟩ (.slice p6 n6 c6)).there W104.heap.size 0 (mCells (playM (ps.drop J ++ ps.take J))).size) := by
                    have h1 := HB2.out.there
                    rw [mCells_size, playM_len]
                    exact h1
                  refine wpAnyH_ready (rs := [17]) (by kernel_rfl) (by simp) ?_
                  refine AllReadyH.cons rfl (fun K hK => ?_) AllReadyH.nil
                  rw [if_pos (by kernel_rfl)]
                  refine wp_store_mid 30 (.tmp 12) (.tmp 65) rfl (W104.heap.size) 0 (mCells (playM (ps.drop J ++ ps.take J))) rfl rfl HTH.out HIN.out (mCells_one _) ?_
                  refine hK.out _ _ trivial (fun hS => ?_)
                  clear hK K
                  try simp only [Act.put, List.getElem_toArray, List.getElem_cons_succ, List.getElem_cons_zero, List.setIfInBounds_toArray, List.set_cons_zero, List.set_cons_succ]
                  refine wpAnyH_take (i := 18) (v := ?_) rfl (by kernel_rfl) (by kernel_rfl) (by kernel_rfl) (fun _ _ _ h => h) (Or.inl ⟨by kernel_rfl, ?_⟩) (by first | assumption | trivial) ?_
                  rotate_left
                  · intro w hSw
                    try dsimp only at hSw
                    first | (go_simp; done) | (go_simp; with_reducible rfl)
                  try simp only [Act.put, List.getElem_toArray, List.getElem_cons_succ, List.getElem_cons_zero, List.setIfInBounds_toArray, List.set_cons_zero, List.set_cons_succ]
                  refine wpAnyH_done (by kernel_rfl) ?_ _
                  have hb9 := blk_store HB2.out (mCells (playM (ps.drop J ++ ps.take J))) (by rw [mCells_size, playM_len]; rfl)
                  have hw9 := HW2.out.trans ((Chg.setCells (W104.heap.size) (mCells (playM (ps.drop J ++ ps.take J))).toList 0 _ _ (Chg.refl (W104.heap.size) (W108.setCell ⟨W107.heap.size, 0, none⟩ (.slice p6 n6 c6)))).below HBq.out.2.1 HW2.out.size)
                  have HFIN := Lib.hid (And.intro hb9 hw9)
                  clear hb9 hw9 q0 qf ql
                  go_wp2_with fail
                  go_meet
                  exact ⟨_, rfl, rfl, HFIN⟩
            · skip
              go_simp
              refine hK.out _ _ trivial (fun _ => ?_)
              clear hK K
              try simp only [Act.put, List.getElem_toArray, List.getElem_cons_succ, List.getElem_cons_zero, List.setIfInBounds_toArray, List.set_cons_zero, List.set_cons_succ]
              have HO109 := Lib.hid HO103.out.allocA
              generalize W103.alloc (.cells #[.slice none 0 0] 27) = W109 at *
              refine wpAnyH_ready (rs := [9, 15]) (by kernel_rfl) (by simp) ?_
              refine AllReadyH.cons rfl (fun K hK => ?_) (AllReadyH.cons rfl (fun K hK => ?_) (AllReadyH.nil))
              · skip
                go_simp
                go_at_call 9
                refine (play_any W109 _ (ps.drop J ++ ps.take J) HO109.out.2.1.row (by rw [HLA.out]; omega) HFT.out).mono ?_
                rintro y W110 ⟨v6, rfl, hr6, hb6⟩
                obtain ⟨p6, c6, hv6⟩ := hr6.shape
                generalize (posOf (playM (ps.drop J ++ ps.take J))).length = n6 at hv6
                subst hv6
                have HO110 := Lib.hid (HO109.out.kept hb6)
                clear hr6 hb6
                unfold vecV
                try go_wp2_with fail
                refine hK.out _ _ trivial (fun _ => ?_)
                clear hK K
                try simp only [Act.put, List.getElem_toArray, List.getElem_cons_succ, List.getElem_cons_zero, List.setIfInBounds_toArray, List.set_cons_zero, List.set_cons_succ]
                refine wpAnyH_take (i := 10) (v := ?_) rfl (by kernel_rfl) (by kernel_rfl) (by kernel_rfl) (fun _ _ _ h => h) (Or.inl ⟨by kernel_rfl, ?_⟩) (by first | assumption | trivial) ?_
                rotate_left
                · intro w hSw
                  try dsimp only at hSw
                  first | (go_simp; done) | (go_simp; with_reducible rfl)
                try simp only [Act.put, List.getElem_toArray, List.getElem_cons_succ, List.getElem_cons_zero, List.setIfInBounds_toArray, List.set_cons_zero, List.set_cons_succ]
                refine wpAnyH_take (i := 11) (v := ?_) rfl (by kernel_rfl) (by kernel_rfl) (by kernel_rfl) (fun _ _ _ h => h) (Or.inl ⟨by kernel_rfl, ?_⟩) (by first | assumption | trivial) ?_
                rotate_left
                · intro w hSw
                  try dsimp only at hSw
                  first | (go_simp; done) | (go_simp; with_reducible rfl)
                try simp only [Act.put, List.getElem_toArray, List.getElem_cons_succ, List.getElem_cons_zero, List.setIfInBounds_toArray, List.set_cons_zero, List.set_cons_succ]
                refine wpAnyH_take (i := 12) (v := ?_) rfl (by kernel_rfl) (by kernel_rfl) (by kernel_rfl) (fun _ _ _ h => h) (Or.inl ⟨by kernel_rfl, ?_⟩) (by first | assumption | trivial) ?_
                rotate_left
                · intro w hSw
                  try dsimp only at hSw
                  first | (go_simp; done) | (go_simp; with_reducible rfl)
                try simp only [Act.put, List.getElem_toArray, List.getElem_cons_succ, List.getElem_cons_zero, List.setIfInBounds_toArray, List.set_cons_zero, List.set_cons_succ]
                refine wpAnyH_take (i := 13) (v := ?_) rfl (by kernel_rfl) (by kernel_rfl) (by kernel_rfl) (fun _ _ _ h => h) (Or.inl ⟨by kernel_rfl, ?_⟩) (by first | assumption | trivial) ?_
                rotate_left
                · intro w hSw
                  try dsimp only at hSw
                  first | (go_simp; done) | (go_simp; with_reducible rfl)
                try simp only [Act.put, List.getElem_toArray, List.getElem_cons_succ, List.getElem_cons_zero, List.setIfInBounds_toArray, List.set_cons_zero, List.set_cons_succ]
                refine wpAnyH_ready (rs := [15]) (by kernel_rfl) (by simp) ?_
                refine AllReadyH.cons rfl (fun K hK => ?_) (AllReadyH.nil)
                · skip
                  go_simp
                  refine hK.out _ _ trivial (fun _ => ?_)
                  clear hK K
                  try simp only [Act.put, List.getElem_toArray, List.getElem_cons_succ, List.getElem_cons_zero, List.setIfInBounds_toArray, List.set_cons_zero, List.set_cons_succ]
                  have HO111 := Lib.hid HO110.out.allocB
                  generalize W110.alloc (.cells #[.int .i64 0, .int .i64 0, .int .i64 0, .int .i64 0, .int .i64 0, .int .i64 0, .int .i64 0, .int .i64 0, .int .i64 0, .int .i64 0, .int .i64 0, .int .i64 0, .int .i64 0, .int .i64 0, .int .i64 0, .int .i64 0, .int .i64 0, .int .i64 0, .int .i64 0, .int .i64 0, .int .i64 0, .int .i64 0, .int .i64 0, .int .i64 0, .int .i64 0, .int .i64 0, .int .i64 0, .int .i64 0, .int .i64 0, .int .i64 0, .int .i64 0, .int .i64 0, .int .i64 0, .int .i64 0, .int .i64 0, .int .i64 0, .int .i64 0, .int .i64 0, .int .i64 0, .int .i64 0, .int .i64 0, .int .i64 0, .int .i64 0, .int .i64 0, .int .i64 0, .int .i64 0, .int .i64 0, .int .i64 0, .int .i64 0, .int .i64 0, .int .i64 0, .int .i64 0, .int .i64 0, .int .i64 0, .int .i64 0, .int .i64 0, .int .i64 0, .int .i64 0, .int .i64 0, .int .i64 0, .int .i64 0, .int .i64 0, .int .i64 0, .int .i64 0] 30) = W111 at *
                  obtain ⟨hbO, _, hA, hB, hAB⟩ := HO111.out
                  have HA := Lib.hid (hA _ rfl)
                  have HBq := Lib.hid (hB _ rfl)
                  have HAB := Lib.hid (hAB _ _ rfl rfl)
                  have HBO := Lib.hid hbO
                  clear hbO hA hB hAB
                  have q0 : W111.cell? ⟨W103.heap.size, 0, none⟩ = some (.slice none 0 0) := HA.out.1.cell 0
                  have qf := HA.out.1.free 0
                  have ql := HA.out.1.lt
                  refine wpAnyH_ready (rs := [16]) (by kernel_rfl) (by simp) ?_
                  refine AllReadyH.cons rfl (fun K hK => ?_) AllReadyH.nil
                  go_simp
                  refine hK.out _ _ trivial (fun hS => ?_)
                  clear hK K
                  try simp only [Act.put, List.getElem_toArray, List.getElem_cons_succ, List.getElem_cons_zero, List.setIfInBounds_toArray, List.set_cons_zero, List.set_cons_succ]
                  have HB2 := Lib.hid (HBq.out.1.setOther (a := ⟨W103.heap.size, 0, none⟩) HAB.out (.slice p6 n6 c6))
                  have HW2 := Lib.hid (HBO.out.setCell (p := ⟨W103.heap.size, 0, none⟩) HA.out.2.1 (.slice p6 n6 c6))
                  have HTH : Hid ((W111.setCell ⟨W103.heap.size, 0, none⟩ (.slice p6 n6 c6)).there W110.heap.size 0 (mCells (playM (ps.drop J ++ ps.take J))).size) := by
                    have h1 := HB2.out.there
                    rw [mCells_size, playM_len]
                    exact h1
                  refine wpAnyH_ready (rs := [17]) (by kernel_rfl) (by simp) ?_
                  refine AllReadyH.cons rfl (fun K hK => ?_) AllReadyH.nil
                  rw [if_pos (by kernel_rfl)]
                  refine wp_store_mid 30 (.tmp 12) (.tmp 65) rfl (W110.heap.size) 0 (mCells (playM (ps.drop J ++ ps.take J))) rfl rfl HTH.out HIN.out (mCells_one _) ?_
                  refine hK.out _ _ trivial (fun hS => ?_)
                  clear hK K
                  try simp only [Act.put, List.getElem_toArray, List.getElem_cons_succ, List.getElem_cons_zero, List.setIfInBounds_toArray, List.set_cons_zero, List.set_cons_succ]
                  refine wpAnyH_take (i := 18) (v := ?_) rfl (by kernel_rfl) (by kernel_rfl) (by kernel_rfl) (fun _ _ _ h => h) (Or.inl ⟨by kernel_rfl, ?_⟩) (by first | assumption | trivial) ?_
                  rotate_left
                  · intro w hSw
                    try dsimp only at hSw
                    first | (go_simp; done) | (go_simp; with_reducible rfl)
                  try simp only [Act.put, List.getElem_toArray, List.getElem_cons_succ, List.getElem_cons_zero, List.setIfInBounds_toArray, List.set_cons_zero, List.set_cons_succ]
                  refine wpAnyH_done (by kernel_rfl) ?_ _
                  have hb9 := blk_store HB2.out (mCells (playM (ps.drop J ++ ps.take J))) (by rw [mCells_size, playM_len]; rfl)
                  have hw9 := HW2.out.trans ((Chg.setCells (W110.heap.size) (mCells (playM (ps.drop J ++ ps.take J))).toList 0 _ _ (Chg.refl (W110.heap.size) (W111.setCell ⟨W103.heap.size, 0, none⟩ (.slice p6 n6 c6)))).below HBq.out.2.1 HW2.out.size)
                  have HFIN := Lib.hid (And.intro hb9 hw9)
                  clear hb9 hw9 q0 qf ql
                  go_wp2_with fail
                  go_meet
                  exact ⟨_, rfl, rfl, HFIN⟩
              · skip
                go_simp
                refine hK.out _ _ trivial (fun _ => ?_)
                clear hK K
                try simp only [Act.put, List.getElem_toArray, List.getElem_cons_succ, List.getElem_cons_zero, List.setIfInBounds_toArray, List.set_cons_zero, List.set_cons_succ]
                have HO112 := Lib.hid HO109.out.allocB
                generalize W109.alloc (.cells #[.int .i64 0, .int .i64 0, .int .i64 0, .int .i64 0, .int .i64 0, .int .i64 0, .int .i64 0, .int .i64 0, .int .i64 0, .int .i64 0, .int .i64 0, .int .i64 0, .int .i64 0, .int .i64 0, .int .i64 0, .int .i64 0, .int .i64 0, .int .i64 0, .int .i64 0, .int .i64 0, .int .i64 0, .int .i64 0, .int .i64 0, .int .i64 0, .int .i64 0, .int .i64 0, .int .i64 0, .int .i64 0, .int .i64 0, .int .i64 0, .int .i64 0, .int .i64 0, .int .i64 0, .int .i64 0, .int .i64 0, .int .i64 0, .int .i64 0, .int .i64 0, .int .i64 0, .int .i64 0, .int .i64 0, .int .i64 0, .int .i64 0, .int .i64 0, .int .i64 0, .int .i64 0, .int .i64 0, .int .i64 0, .int .i64 0, .int .i64 0, .int .i64 0, .int .i64 0, .int .i64 0, .int .i64 0, .int .i64 0, .int .i64 0, .int .i64 0, .int .i64 0, .int .i64 0, .int .i64 0, .int .i64 0, .int .i64 0, .int .i64 0, .int .i64 0] 30) = W112 at *
                refine wpAnyH_ready (rs := [9]) (by kernel_rfl) (by simp) ?_
                refine AllReadyH.cons rfl (fun K hK => ?_) (AllReadyH.nil)
                · skip
                  go_simp
                  go_at_call 9
                  refine (play_any W112 _ (ps.drop J ++ ps.take J) HO112.out.2.1.row (by rw [HLA.out]; omega) HFT.out).mono ?_
                  rintro y W113 ⟨v6, rfl, hr6, hb6⟩
                  obtain ⟨p6, c6, hv6⟩ := hr6.shape
                  generalize (posOf (playM (ps.drop J ++ ps.take J))).length = n6 at hv6
                  subst hv6
                  have HO113 := Lib.hid (HO112.out.kept hb6)
                  clear hr6 hb6
                  unfold vecV
                  try go_wp2_with fail
                  refine hK.out _ _ trivial (fun _ => ?_)
                  clear hK K
                  try simp only [Act.put, List.getElem_toArray, List.getElem_cons_succ, List.getElem_cons_zero, List.setIfInBounds_toArray, List.set_cons_zero, List.set_cons_succ]
                  refine wpAnyH_take (i := 10) (v := ?_) rfl (by kernel_rfl) (by kernel_rfl) (by kernel_rfl) (fun _ _ _ h => h) (Or.inl ⟨by kernel_rfl, ?_⟩) (by first | assumption | trivial) ?_
                  rotate_left
                  · intro w hSw
                    try dsimp only at hSw
                    first | (go_simp; done) | (go_simp; with_reducible rfl)
                  try simp only [Act.put, List.getElem_toArray, List.getElem_cons_succ, List.getElem_cons_zero, List.setIfInBounds_toArray, List.set_cons_zero, List.set_cons_succ]
                  refine wpAnyH_take (i := 11) (v := ?_) rfl (by kernel_rfl) (by kernel_rfl) (by kernel_rfl) (fun _ _ _ h => h) (Or.inl ⟨by kernel_rfl, ?_⟩) (by first | assumption | trivial) ?_
                  rotate_left
                  · intro w hSw
                    try dsimp only at hSw
                    first | (go_simp; done) | (go_simp; with_reducible rfl)
                  try simp only [Act.put, List.getElem_toArray, List.getElem_cons_succ, List.getElem_cons_zero, List.setIfInBounds_toArray, List.set_cons_zero, List.set_cons_succ]
                  refine wpAnyH_take (i := 12) (v := ?_) rfl (by kernel_rfl) (by kernel_rfl) (by kernel_rfl) (fun _ _ _ h => h) (Or.inl ⟨by kernel_rfl, ?_⟩) (by first | assumption | trivial) ?_
                  rotate_left
                  · intro w hSw
                    try dsimp only at hSw
                    first | (go_simp; done) | (go_simp; with_reducible rfl)
                  try simp only [Act.put, List.getElem_toArray, List.getElem_cons_succ, List.getElem_cons_zero, List.setIfInBounds_toArray, List.set_cons_zero, List.set_cons_succ]
                  refine wpAnyH_take (i := 13) (v := ?_) rfl (by kernel_rfl) (by kernel_rfl) (by kernel_rfl) (fun _ _ _ h => h) (Or.inl ⟨by kernel_rfl, ?_⟩) (by first | assumption | trivial) ?_
                  rotate_left
                  · intro w hSw
                    try dsimp only at hSw
                    first | (go_simp; done) | (go_simp; with_reducible rfl)
                  try simp only [Act.put, List.getElem_toArray, List.getElem_cons_succ, List.getElem_cons_zero, List.setIfInBounds_toArray, List.set_cons_zero, List.set_cons_succ]
                  obtain ⟨hbO, _, hA, hB, hAB⟩ := HO113.out
                  have HA := Lib.hid (hA _ rfl)
                  have HBq := Lib.hid (hB _ rfl)
                  have HAB := Lib.hid (hAB _ _ rfl rfl)
                  have HBO := Lib.hid hbO
                  clear hbO hA hB hAB
                  have q0 : W113.cell? ⟨W103.heap.size, 0, none⟩ = some (.slice none 0 0) := HA.out.1.cell 0
                  have qf := HA.out.1.free 0
                  have ql := HA.out.1.lt
                  refine wpAnyH_ready (rs := [16]) (by kernel_rfl) (by simp) ?_
                  refine AllReadyH.cons rfl (fun K hK => ?_) AllReadyH.nil
                  go_simp
                  refine hK.out _ _ trivial (fun hS => ?_)
                  clear hK K
                  try simp only [Act.put, List.getElem_toArray, List.getElem_cons_succ, List.getElem_cons_zero, List.setIfInBounds_toArray, List.set_cons_zero, List.set_cons_succ]
                  have HB2 := Lib.hid (HBq.out.1.setOther (a := ⟨W103.heap.size, 0, none⟩) HAB.out (.slice p6 n6 c6))
                  have HW2 := Lib.hid (HBO.out.setCell (p := ⟨W103.heap.size, 0, none⟩) HA.out.2.1 (.slice p6 n6 c6))
                  have HTH : Hid ((W113.setCell ⟨W103.heap.size, 0, none⟩ (.slice p6 n6 c6)).there W109.heap.size 0 (mCells (playM (ps.drop J ++ ps.take J))).size) := by
                    have h1 := HB2.out.there
                    rw [mCells_size, playM_len]
                    exact h1
                  refine wpAnyH_ready (rs := [17]) (by kernel_rfl) (by simp) ?_
                  refine AllReadyH.cons rfl (fun K hK => ?_) AllReadyH.nil
                  rw [if_pos (by kernel_rfl)]
                  refine wp_store_mid 30 (.tmp 12) (.tmp 65) rfl (W109.heap.size) 0 (mCells (playM (ps.drop J ++ ps.take J))) rfl rfl HTH.out HIN.out (mCells_one _) ?_
                  refine hK.out _ _ trivial (fun hS => ?_)
                  clear hK K
                  try simp only [Act.put, List.getElem_toArray, List.getElem_cons_succ, List.getElem_cons_zero, List.setIfInBounds_toArray, List.set_cons_zero, List.set_cons_succ]
                  refine wpAnyH_take (i := 18) (v := ?_) rfl (by kernel_rfl) (by kernel_rfl) (by kernel_rfl) (fun _ _ _ h => h) (Or.inl ⟨by kernel_rfl, ?_⟩) (by first | assumption | trivial) ?_
                  rotate_left
                  · intro w hSw
                    try dsimp only at hSw
                    first | (go_simp; done) | (go_simp; with_reducible rfl)
                  try simp only [Act.put, List.getElem_toArray, List.getElem_cons_succ, List.getElem_cons_zero, List.setIfInBounds_toArray, List.set_cons_zero, List.set_cons_succ]
                  refine wpAnyH_done (by kernel_rfl) ?_ _
                  have hb9 := blk_store HB2.out (mCells (playM (ps.drop J ++ ps.take J))) (by rw [mCells_size, playM_len]; rfl)
                  have hw9 := HW2.out.trans ((Chg.setCells (W109.heap.size) (mCells (playM (ps.drop J ++ ps.take J))).toList 0 _ _ (Chg.refl (W109.heap.size) (W113.setCell ⟨W103.heap.size, 0, none⟩ (.slice p6 n6 c6)))).below HBq.out.2.1 HW2.out.size)
                  have HFIN := Lib.hid (And.intro hb9 hw9)
                  clear hb9 hw9 q0 qf ql
                  go_wp2_with fail
                  go_meet
                  exact ⟨_, rfl, rfl, HFIN⟩
            · skip
              go_simp
              refine hK.out _ _ trivial (fun _ => ?_)
              clear hK K
              try simp only [Act.put, List.getElem_toArray, List.getElem_cons_succ, List.getElem_cons_zero, List.setIfInBounds_toArray, List.set_cons_zero, List.set_cons_succ]
              have HO114 := Lib.hid HO103.out.allocB
              generalize W103.alloc (.cells #[.int .i64 0, .int .i64 0, .int .i64 0, .int .i64 0, .int .i64 0, .int .i64 0, .int .i64 0, .int .i64 0, .int .i64 0, .int .i64 0, .int .i64 0, .int .i64 0, .int .i64 0, .int .i64 0, .int .i64 0, .int .i64 0, .int .i64 0, .int .i64 0, .int .i64 0, .int .i64 0, .int .i64 0, .int .i64 0, .int .i64 0, .int .i64 0, .int .i64 0, .int .i64 0, .int .i64 0, .int .i64 0, .int .i64 0, .int .i64 0, .int .i64 0, .int .i64 0, .int .i64 0, .int .i64 0, .int .i64 0, .int .i64 0, .int .i64 0, .int .i64 0, .int .i64 0, .int .i64 0, .int .i64 0, .int .i64 0, .int .i64 0, .int .i64 0, .int .i64 0, .int .i64 0, .int .i64 0, .int .i64 0, .int .i64 0, .int .i64 0, .int .i64 0, .int .i64 0, .int .i64 0, .int .i64 0, .int .i64 0, .int .i64 0, .int .i64 0, .int .i64 0, .int .i64 0, .int .i64 0, .int .i64 0, .int .i64 0, .int .i64 0, .int .i64 0] 30) = W114 at *
              refine wpAnyH_ready (rs := [9, 14]) (by kernel_rfl) (by simp) ?_
              refine AllReadyH.cons rfl (fun K hK => ?_) (AllReadyH.cons rfl (fun K hK => ?_) (AllReadyH.nil))
              · skip
                go_simp
                go_at_call 9
                refine (play_any W114 _ (ps.drop J ++ ps.take J) HO114.out.2.1.row (by rw [HLA.out]; omega) HFT.out).mono ?_
                rintro y W115 ⟨v6, rfl, hr6, hb6⟩
                obtain ⟨p6, c6, hv6⟩ := hr6.shape
                generalize (posOf (playM (ps.drop J ++ ps.take J))).length = n6 at hv6
                subst hv6
                have HO115 := Lib.hid (HO114.out.kept hb6)
                clear hr6 hb6
                unfold vecV
                try go_wp2_with fail
                refine hK.out _ _ trivial (fun _ => ?_)
                clear hK K
                try simp only [Act.put, List.getElem_toArray, List.getElem_cons_succ, List.getElem_cons_zero, List.setIfInBounds_toArray, List.set_cons_zero, List.set_cons_succ]
                refine wpAnyH_take (i := 10) (v := ?_) rfl (by kernel_rfl) (by kernel_rfl) (by kernel_rfl) (fun _ _ _ h => h) (Or.inl ⟨by kernel_rfl, ?_⟩) (by first | assumption | trivial) ?_
                rotate_left
                · intro w hSw
                  try dsimp only at hSw
                  first | (go_simp; done) | (go_simp; with_reducible rfl)
                try simp only [Act.put, List.getElem_toArray, List.getElem_cons_succ, List.getElem_cons_zero, List.setIfInBounds_toArray, List.set_cons_zero, List.set_cons_succ]
                refine wpAnyH_take (i := 11) (v := ?_) rfl (by kernel_rfl) (by kernel_rfl) (by kernel_rfl) (fun _ _ _ h => h) (Or.inl ⟨by kernel_rfl, ?_⟩) (by first | assumption | trivial) ?_
                rotate_left
                · intro w hSw
                  try dsimp only at hSw
                  first | (go_simp; done) | (go_simp; with_reducible rfl)
                try simp only [Act.put, List.getElem_toArray, List.getElem_cons_succ, List.getElem_cons_zero, List.setIfInBounds_toArray, List.set_cons_zero, List.set_cons_succ]
                refine wpAnyH_take (i := 12) (v := ?_) rfl (by kernel_rfl) (by kernel_rfl) (by kernel_rfl) (fun _ _ _ h => h) (Or.inl ⟨by kernel_rfl, ?_⟩) (by first | assumption | trivial) ?_
                rotate_left
                · intro w hSw
                  try dsimp only at hSw
                  first | (go_simp; done) | (go_simp; with_reducible rfl)
                try simp only [Act.put, List.getElem_toArray, List.getElem_cons_succ, List.getElem_cons_zero, List.setIfInBounds_toArray, List.set_cons_zero, List.set_cons_succ]
                refine wpAnyH_take (i := 13) (v := ?_) rfl (by kernel_rfl) (by kernel_rfl) (by kernel_rfl) (fun _ _ _ h => h) (Or.inl ⟨by kernel_rfl, ?_⟩) (by first | assumption | trivial) ?_
                rotate_left
                · intro w hSw
                  try dsimp only at hSw
                  first | (go_simp; done) | (go_simp; with_reducible rfl)
                try simp only [Act.put, List.getElem_toArray, List.getElem_cons_succ, List.getElem_cons_zero, List.setIfInBounds_toArray, List.set_cons_zero, List.set_cons_succ]
                refine wpAnyH_ready (rs := [14]) (by kernel_rfl) (by simp) ?_
                refine AllReadyH.cons rfl (fun K hK => ?_) (AllReadyH.nil)
                · skip
                  go_simp
                  refine hK.out _ _ trivial (fun _ => ?_)
                  clear hK K
                  try simp only [Act.put, List.getElem_toArray, List.getElem_cons_succ, List.getElem_cons_zero, List.setIfInBounds_toArray, List.set_cons_zero, List.set_cons_succ]
                  have HO116 := Lib.hid HO115.out.allocA
                  generalize W115.alloc (.cells #[.slice none 0 0] 27) = W116 at *
                  obtain ⟨hbO, _, hA, hB, hAB⟩ := HO116.out
                  have HA := Lib.hid (hA _ rfl)
                  have HBq := Lib.hid (hB _ rfl)
                  have HAB := Lib.hid (hAB _ _ rfl rfl)
                  have HBO := Lib.hid hbO
                  clear hbO hA hB hAB
                  have q0 : W116.cell? ⟨W115.heap.size, 0, none⟩ = some (.slice none 0 0) := HA.out.1.cell 0
                  have qf := HA.out.1.free 0
                  have ql := HA.out.1.lt
                  refine wpAnyH_ready (rs := [16]) (by kernel_rfl) (by simp) ?_
                  refine AllReadyH.cons rfl (fun K hK => ?_) AllReadyH.nil
                  go_simp
                  refine hK.out _ _ trivial (fun hS => ?_)
                  clear hK K
                  try simp only [Act.put, List.getElem_toArray, List.getElem_cons_succ, List.getElem_cons_zero, List.setIfInBounds_toArray, List.set_cons_zero, List.set_cons_succ]
                  have HB2 := Lib.hid (HBq.out.1.setOther (a := ⟨W115.heap.size, 0, none⟩) HAB.out (.slice p6 n6 c6))
                  have HW2 := Lib.hid (HBO.out.setCell (p := ⟨W115.heap.size, 0, none⟩) HA.out.2.1 (.slice p6 n6 c6))
                  have HTH : Hid ((W116.setCell ⟨W115.heap.size, 0, none⟩ (.slice p6 n6 c6)).there W103.heap.size 0 (mCells (playM (ps.drop J ++ ps.take J))).size) := by
                    have h1 := HB2.out.there
                    rw [mCells_size, playM_len]
                    exact h1
                  refine wpAnyH_ready (rs := [17]) (by kernel_rfl) (by simp) ?_
                  refine AllReadyH.cons rfl (fun K hK => ?_) AllReadyH.nil
                  rw [if_pos (by kernel_rfl)]
                  refine wp_store_mid 30 (.tmp 12) (.tmp 65) rfl (W103.heap.size) 0 (mCells (playM (ps.drop J ++ ps.take J))) rfl rfl HTH.out HIN.out (mCells_one _) ?_
                  refine hK.out _ _ trivial (fun hS => ?_)
                  clear hK K
                  try simp only [Act.put, List.getElem_toArray, List.getElem_cons_succ, List.getElem_cons_zero, List.setIfInBounds_toArray, List.set_cons_zero, List.set_cons_succ]
                  refine wpAnyH_take (i := 18) (v := ?_) rfl (by kernel_rfl) (by kernel_rfl) (by kernel_rfl) (fun _ _ _ h => h) (Or.inl ⟨by kernel_rfl, ?_⟩) (by first | assumption | trivial) ?_
                  rotate_left
                  · intro w hSw
                    try dsimp only at hSw
                    first | (go_simp; done) | (go_simp; with_reducible rfl)
                  try simp only [Act.put, List.getElem_toArray, List.getElem_cons_succ, List.getElem_cons_zero, List.setIfInBounds_toArray, List.set_cons_zero, List.set_cons_succ]
                  refine wpAnyH_done (by kernel_rfl) ?_ _
                  have hb9 := blk_store HB2.out (mCells (playM (ps.drop J ++ ps.take J))) (by rw [mCells_size, playM_len]; rfl)
                  have hw9 := HW2.out.trans ((Chg.setCells (W103.heap.size) (mCells (playM (ps.drop J ++ ps.take J))).toList 0 _ _ (Chg.refl (W103.heap.size) (W116.setCell ⟨W115.heap.size, 0, none⟩ (.slice p6 n6 c6)))).below HBq.out.2.1 HW2.out.size)
                  have HFIN := Lib.hid (And.intro hb9 hw9)
                  clear hb9 hw9 q0 qf ql
                  go_wp2_with fail
                  go_meet
                  exact ⟨_, rfl, rfl, HFIN⟩
              · skip
                go_simp
                refine hK.out _ _ trivial (fun _ => ?_)
                clear hK K
                try simp only [Act.put, List.getElem_toArray, List.getElem_cons_succ, List.getElem_cons_zero, List.setIfInBounds_toArray, List.set_cons_zero, List.set_cons_succ]
                have HO117 := Lib.hid HO114.out.allocA
                generalize W114.alloc (.cells #[.slice none 0 0] 27) = W117 at *
                refine wpAnyH_ready (rs := [9]) (by kernel_rfl) (by simp) ?_
                refine AllReadyH.cons rfl (fun K hK => ?_) (AllReadyH.nil)
                · skip
                  go_simp
                  go_at_call 9
                  refine (play_any W117 _ (ps.drop J ++ ps.take J) HO117.out.2.1.row (by rw [HLA.out]; omega) HFT.out).mono ?_
                  rintro y W118 ⟨v6, rfl, hr6, hb6⟩
                  obtain ⟨p6, c6, hv6⟩ := hr6.shape
                  generalize (posOf (playM (ps.drop J ++ ps.take J))).length = n6 at hv6
                  subst hv6
                  have HO118 := Lib.hid (HO117.out.kept hb6)
                  clear hr6 hb6
                  unfold vecV
                  try go_wp2_with fail
                  refine hK.out _ _ trivial (fun _ => ?_)
                  clear hK K
                  try simp only [Act.put, List.getElem_toArray, List.getElem_cons_succ, List.getElem_cons_zero, List.setIfInBounds_toArray, List.set_cons_zero, List.set_cons_succ]
                  refine wpAnyH_take (i := 10) (v := ?_) rfl (by kernel_rfl) (by kernel_rfl) (by kernel_rfl) (fun _ _ _ h => h) (Or.inl ⟨by kernel_rfl, ?_⟩) (by first | assumption | trivial) ?_
                  rotate_left
                  · intro w hSw
                    try dsimp only at hSw
                    first | (go_simp; done) | (go_simp; with_reducible rfl)
                  try simp only [Act.put, List.getElem_toArray, List.getElem_cons_succ, List.getElem_cons_zero, List.setIfInBounds_toArray, List.set_cons_zero, List.set_cons_succ]
                  refine wpAnyH_take (i := 11) (v := ?_) rfl (by kernel_rfl) (by kernel_rfl) (by kernel_rfl) (fun _ _ _ h => h) (Or.inl ⟨by kernel_rfl, ?_⟩) (by first | assumption | trivial) ?_
                  rotate_left
                  · intro w hSw
                    try dsimp only at hSw
                    first | (go_simp; done) | (go_simp; with_reducible rfl)
                  try simp only [Act.put, List.getElem_toArray, List.getElem_cons_succ, List.getElem_cons_zero, List.setIfInBounds_toArray, List.set_cons_zero, List.set_cons_succ]
                  refine wpAnyH_take (i := 12) (v := ?_) rfl (by kernel_rfl) (by kernel_rfl) (by kernel_rfl) (fun _ _ _ h => h) (Or.inl ⟨by kernel_rfl, ?_⟩) (by first | assumption | trivial) ?_
                  rotate_left
                  · intro w hSw
                    try dsimp only at hSw
                    first | (go_simp; done) | (go_simp; with_reducible rfl)
                  try simp only [Act.put, List.getElem_toArray, List.getElem_cons_succ, List.getElem_cons_zero, List.setIfInBounds_toArray, List.set_cons_zero, List.set_cons_succ]
                  refine wpAnyH_take (i := 13) (v := ?_) rfl (by kernel_rfl) (by kernel_rfl) (by kernel_rfl) (fun _ _ _ h => h) (Or.inl ⟨by kernel_rfl, ?_⟩) (by first | assumption | trivial) ?_
                  rotate_left
                  · intro w hSw
                    try dsimp only at hSw
                    first | (go_simp; done) | (go_simp; with_reducible rfl)
                  try simp only [Act.put, List.getElem_toArray, List.getElem_cons_succ, List.getElem_cons_zero, List.setIfInBounds_toArray, List.set_cons_zero, List.set_cons_succ]
                  obtain ⟨hbO, _, hA, hB, hAB⟩ := HO118.out
                  have HA := Lib.hid (hA _ rfl)
                  have HBq := Lib.hid (hB _ rfl)
                  have HAB := Lib.hid (hAB _ _ rfl rfl)
                  have HBO := Lib.hid hbO
                  clear hbO hA hB hAB
                  have q0 : W118.cell? ⟨W114.heap.size, 0, none⟩ = some (.slice none 0 0) := HA.out.1.cell 0
                  have qf := HA.out.1.free 0
                  have ql := HA.out.1.lt
                  refine wpAnyH_ready (rs := [16]) (by kernel_rfl) (by simp) ?_
                  refine AllReadyH.cons rfl (fun K hK => ?_) AllReadyH.nil
                  go_simp
                  refine hK.out _ _ trivial (fun hS => ?_)
                  clear hK K
                  try simp only [Act.put, List.getElem_toArray, List.getElem_cons_succ, List.getElem_cons_zero, List.setIfInBounds_toArray, List.set_cons_zero, List.set_cons_succ]
                  have HB2 := Lib.hid (HBq.out.1.setOther (a := ⟨W114.heap.size, 0, none⟩) HAB.out (.slice p6 n6 c6))
                  have HW2 := Lib.hid (HBO.out.setCell (p := ⟨W114.heap.size, 0, none⟩) HA.out.2.1 (.slice p6 n6 c6))
                  have HTH : Hid ((W118.setCell ⟨W114.heap.size, 0, none⟩ (.slice p6 n6 c6)).there W103.heap.size 0 (mCells (playM (ps.drop J ++ ps.take J))).size) := by
                    have h1 := HB2.out.there
                    rw [mCells_size, playM_len]
                    exact h1
                  refine wpAnyH_ready (rs := [17]) (by kernel_rfl) (by simp) ?_
                  refine AllReadyH.cons rfl (fun K hK => ?_) AllReadyH.nil
                  rw [if_pos (by kernel_rfl)]
                  refine wp_store_mid 30 (.tmp 12) (.tmp 65) rfl (W103.heap.size) 0 (mCells (playM (ps.drop J ++ ps.take J))) rfl rfl HTH.out HIN.out (mCells_one _) ?_
                  refine hK.out _ _ trivial (fun hS => ?_)
                  clear hK K
                  try simp only [Act.put, List.getElem_toArray, List.getElem_cons_succ, List.getElem_cons_zero, List.setIfInBounds_toArray, List.set_cons_zero, List.set_cons_succ]
                  refine wpAnyH_take (i := 18) (v := ?_) rfl (by kernel_rfl) (by kernel_rfl) (by kernel_rfl) (fun _ _ _ h => h) (Or.inl ⟨by kernel_rfl, ?_⟩) (by first | assumption | trivial) ?_
                  rotate_left
                  · intro w hSw
                    try dsimp only at hSw
                    first | (go_simp; done) | (go_simp; with_reducible rfl)
                  try simp only [Act.put, List.getElem_toArray, List.getElem_cons_succ, List.getElem_cons_zero, List.setIfInBounds_toArray, List.set_cons_zero, List.set_cons_succ]
                  refine wpAnyH_done (by kernel_rfl) ?_ _
                  have hb9 := blk_store HB2.out (mCells (playM (ps.drop J ++ ps.take J))) (by rw [mCells_size, playM_len]; rfl)
                  have hw9 := HW2.out.trans ((Chg.setCells (W103.heap.size) (mCells (playM (ps.drop J ++ ps.take J))).toList 0 _ _ (Chg.refl (W103.heap.size) (W118.setCell ⟨W114.heap.size, 0, none⟩ (.slice p6 n6 c6)))).below HBq.out.2.1 HW2.out.size)
                  have HFIN := Lib.hid (And.intro hb9 hw9)
                  clear hb9 hw9 q0 qf ql
                  go_wp2_with fail
                  go_meet
                  exact ⟨_, rfl, rfl, HFIN⟩
          · skip
            go_simp
            refine hK.out _ _ trivial (fun _ => ?_)
            clear hK K
            try simp only [Act.put, List.getElem_toArray, List.getElem_cons_succ, List.getElem_cons_zero, List.setIfInBounds_toArray, List.set_cons_zero, List.set_cons_succ]
            have HO119 := Lib.hid HO102.out.allocA
            generalize W102.alloc (.cells #[.slice none 0 0] 27) = W119 at *
            refine wpAnyH_ready (rs := [8, 15]) (by kernel_rfl) (by simp) ?_
            refine AllReadyH.cons rfl (fun K hK => ?_) (AllReadyH.cons rfl (fun K hK => ?_) (AllReadyH.nil))
            · skip
              refine step_append_o rfl (.tmp 58) (.tmp 61) 22 rfl 46 elt_put _ _ (ps.drop J) (ps.take J) rfl rfl HO119.out (HVT.out.kept HO119.out.1) (by rw [HLD.out, HLT.out]; omega) (ps.drop J ++ ps.take J) n (rfl) HLA.out ?_
              intro p120 c120 W120 ho120
              refine hK.out _ _ trivial (fun _ => ?_)
              clear hK K
              try simp only [Act.put, List.getElem_toArray, List.getElem_cons_succ, List.getElem_cons_zero, List.setIfInBounds_toArray, List.set_cons_zero, List.set_cons_succ]
              have HO120 := Lib.hid ho120
              clear ho120
              refine wpAnyH_ready (rs := [9, 15]) (by kernel_rfl) (by simp) ?_
              refine AllReadyH.cons rfl (fun K hK => ?_) (AllReadyH.cons rfl (fun K hK => ?_) (AllReadyH.nil))
              · skip
                go_simp
                go_at_call 9
                refine (play_any W120 _ (ps.drop J ++ ps.take J) HO120.out.2.1.row (by rw [HLA.out]; omega) HFT.out).mono ?_
                rintro y W121 ⟨v6, rfl, hr6, hb6⟩
                obtain ⟨p6, c6, hv6⟩ := hr6.shape
                generalize (posOf (playM (ps.drop J ++ ps.take J))).length = n6 at hv6
                subst hv6
                have HO121 := Lib.hid (HO120.out.kept hb6)
                clear hr6 hb6
                unfold vecV
                try go_wp2_with fail
                refine hK.out _ _ trivial (fun _ => ?_)
                clear hK K
                try simp only [Act.put, List.getElem_toArray, List.getElem_cons_succ, List.getElem_cons_zero, List.setIfInBounds_toArray, List.set_cons_zero, List.set_cons_succ]
                refine wpAnyH_take (i := 10) (v := ?_) rfl (by kernel_rfl) (by kernel_rfl) (by kernel_rfl) (fun _ _ _ h => h) (Or.inl ⟨by kernel_rfl, ?_⟩) (by first | assumption | trivial) ?_
                rotate_left
                · intro w hSw
                  try dsimp only at hSw
                  first | (go_simp; done) | (go_simp; with_reducible rfl)
                try simp only [Act.put, List.getElem_toArray, List.getElem_cons_succ, List.getElem_cons_zero, List.setIfInBounds_toArray, List.set_cons_zero, List.set_cons_succ]
                refine wpAnyH_take (i := 11) (v := ?_) rfl (by kernel_rfl) (by kernel_rfl) (by kernel_rfl) (fun _ _ _ h => h) (Or.inl ⟨by kernel_rfl, ?_⟩) (by first | assumption | trivial) ?_
                rotate_left
                · intro w hSw
                  try dsimp only at hSw
                  first | (go_simp; done) | (go_simp; with_reducible rfl)
                try simp only [Act.put, List.getElem_toArray, List.getElem_cons_succ, List.getElem_cons_zero, List.setIfInBounds_toArray, List.set_cons_zero, List.set_cons_succ]
                refine wpAnyH_take (i := 12) (v := ?_) rfl (by kernel_rfl) (by kernel_rfl) (by kernel_rfl) (fun _ _ _ h => h) (Or.inl ⟨by kernel_rfl, ?_⟩) (by first | assumption | trivial) ?_
                rotate_left
                · intro w hSw
                  try dsimp only at hSw
                  first | (go_simp; done) | (go_simp; with_reducible rfl)
                try simp only [Act.put, List.getElem_toArray, List.getElem_cons_succ, List.getElem_cons_zero, List.setIfInBounds_toArray, List.set_cons_zero, List.set_cons_succ]
                refine wpAnyH_take (i := 13) (v := ?_) rfl (by kernel_rfl) (by kernel_rfl) (by kernel_rfl) (fun _ _ _ h => h) (Or.inl ⟨by kernel_rfl, ?_⟩) (by first | assumption | trivial) ?_
                rotate_left
                · intro w hSw
                  try dsimp only at hSw
                  first | (go_simp; done) | (go_simp; with_reducible rfl)
                try simp only [Act.put, List.getElem_toArray, List.getElem_cons_succ, List.getElem_cons_zero, List.setIfInBounds_toArray, List.set_cons_zero, List.set_cons_succ]
                refine wpAnyH_ready (rs := [15]) (by kernel_rfl) (by simp) ?_
                refine AllReadyH.cons rfl (fun K hK => ?_) (AllReadyH.nil)
                · skip
                  go_simp
                  refine hK.out _ _ trivial (fun _ => ?_)
                  clear hK K
                  try simp only [Act.put, List.getElem_toArray, List.getElem_cons_succ, List.getElem_cons_zero, List.setIfInBounds_toArray, List.set_cons_zero, List.set_cons_succ]
                  have HO122 := Lib.hid HO121.out.allocB
                  generalize W121.alloc (.cells #[.int .i64 0, .int .i64 0, .int .i64 0, .int .i64 0, .int .i64 0, .int .i64 0, .int .i64 0, .int .i64 0, .int .i64 0, .int .i64 0, .int .i64 0, .int .i64 0, .int .i64 0, .int .i64 0, .int .i64 0, .int .i64 0, .int .i64 0, .int .i64 0, .int .i64 0, .int .i64 0, .int .i64 0, .int .i64 0, .int .i64 0, .int .i64 0, .int .i64 0, .int .i64 0, .int .i64 0, .int .i64 0, .int .i64 0, .int .i64 0, .int .i64 0, .int .i64 0, .int .i64 0, .int .i64 0, .int .i64 0, .int .i64 0, .int .i64 0, .int .i64 0, .int .i64 0, .int .i64 0, .int .i64 0, .int .i64 0, .int .i64 0, .int .i64 0, .int .i64 0, .int .i64 0, .int .i64 0, .int .i64 0, .int .i64 0, .int .i64 0, .int .i64 0, .int .i64 0, .int .i64 0, .int .i64 0, .int .i64 0, .int .i64 0, .int .i64 0, .int .i64 0, .int .i64 0, .int .i64 0, .int .i64 0, .int .i64 0, .int .i64 0, .int .i64 0] 30) = W122 at *
                  obtain ⟨hbO, _, hA, hB, hAB⟩ := HO122.out
                  have HA := Lib.hid (hA _ rfl)
                  have HBq := Lib.hid (hB _ rfl)
                  have HAB := Lib.hid (hAB _ _ rfl rfl)
                  have HBO := Lib.hid hbO
                  clear hbO hA hB hAB
                  have q0 : W122.cell? ⟨W102.heap.size, 0, none⟩ = some (.slice none 0 0) := HA.out.1.cell 0
                  have qf := HA.out.1.free 0
                  have ql := HA.out.1.lt
                  refine wpAnyH_ready (rs := [16]) (by kernel_rfl) (by simp) ?_
                  refine AllReadyH.cons rfl (fun K hK => ?_) AllReadyH.nil
                  go_simp
                  refine hK.out _ _ trivial (fun hS => ?_)
                  clear hK K
                  try simp only [Act.put, List.getElem_toArray, List.getElem_cons_succ, List.getElem_cons_zero, List.setIfInBounds_toArray, List.set_cons_zero, List.set_cons_succ]
                  have HB2 := Lib.hid (HBq.out.1.setOther (a := ⟨W102.heap.size, 0, none⟩) HAB.out (.slice p6 n6 c6))
                  have HW2 := Lib.hid (HBO.out.setCell (p := ⟨W102.heap.size, 0, none⟩) HA.out.2.1 (.slice p6 n6 c6))
                  have HTH : Hid ((W122.setCell ⟨W102.heap.size, 0, none⟩ (.slice p6 n6 c6)).there W121.heap.size 0 (mCells (playM (ps.drop J ++ ps.take J))).size) := by
                    have h1 := HB2.out.there
                    rw [mCells_size, playM_len]
                    exact h1
                  refine wpAnyH_ready (rs := [17]) (by kernel_rfl) (by simp) ?_
                  refine AllReadyH.cons rfl (fun K hK => ?_) AllReadyH.nil
                  rw [if_pos (by kernel_rfl)]
                  refine wp_store_mid 30 (.tmp 12) (.tmp 65) rfl (W121.heap.size) 0 (mCells (playM (ps.drop J ++ ps.take J))) rfl rfl HTH.out HIN.out (mCells_one _) ?_
                  refine hK.out _ _ trivial (fun hS => ?_)
                  clear hK K
                  try simp only [Act.put, List.getElem_toArray, List.getElem_cons_succ, List.getElem_cons_zero, List.setIfInBounds_toArray, List.set_cons_zero, List.set_cons_succ]
                  refine wpAnyH_take (i := 18) (v := ?_) rfl (by kernel_rfl) (by kernel_rfl) (by kernel_rfl) (fun _ _ _ h => h) (Or.inl ⟨by kernel_rfl, ?_⟩) (by first | assumption | trivial) ?_
                  rotate_left
                  · intro w hSw
                    try dsimp only at hSw
                    first | (go_simp; done) | (go_simp; with_reducible rfl)
                  try simp only [Act.put, List.getElem_toArray, List.getElem_cons_succ, List.getElem_cons_zero, List.setIfInBounds_toArray, List.set_cons_zero, List.set_cons_succ]
                  refine wpAnyH_done (by kernel_rfl) ?_ _
                  have hb9 := blk_store HB2.out (mCells (playM (ps.drop J ++ ps.take J))) (by rw [mCells_size, playM_len]; rfl)
                  have hw9 := HW2.out.trans ((Chg.setCells (W121.heap.size) (mCells (playM (ps.drop J ++ ps.take J))).toList 0 _ _ (Chg.refl (W121.heap.size) (W122.setCell ⟨W102.heap.size, 0, none⟩ (.slice p6 n6 c6)))).below HBq.out.2.1 HW2.out.size)
                  have HFIN := Lib.hid (And.intro hb9 hw9)
                  clear hb9 hw9 q0 qf ql
                  go_wp2_with fail
                  go_meet
                  exact ⟨_, rfl, rfl, HFIN⟩
              · skip
                go_simp
                refine hK.out _ _ trivial (fun _ => ?_)
                clear hK K
                try simp only [Act.put, List.getElem_toArray, List.getElem_cons_succ, List.getElem_cons_zero, List.setIfInBounds_toArray, List.set_cons_zero, List.set_cons_succ]
                have HO123 := Lib.hid HO120.out.allocB
                generalize W120.alloc (.cells #[.int .i64 0, .int .i64 0, .int .i64 0, .int .i64 0, .int .i64 0, .int .i64 0, .int .i64 0, .int .i64 0, .int .i64 0, .int .i64 0, .int .i64 0, .int .i64 0, .int .i64 0, .int .i64 0, .int .i64 0, .int .i64 0, .int .i64 0, .int .i64 0, .int .i64 0, .int .i64 0, .int .i64 0, .int .i64 0, .int .i64 0, .int .i64 0, .int .i64 0, .int .i64 0, .int .i64 0, .int .i64 0, .int .i64 0, .int .i64 0, .int .i64 0, .int .i64 0, .int .i64 0, .int .i64 0, .int .i64 0, .int .i64 0, .int .i64 0, .int .i64 0, .int .i64 0, .int .i64 0, .int .i64 0, .int .i64 0, .int .i64 0, .int .i64 0, .int .i64 0, .int .i64 0, .int .i64 0, .int .i64 0, .int .i64 0, .int .i64 0, .int .i64 0, .int .i64 0, .int .i64 0, .int .i64 0, .int .i64 0, .int .i64 0, .int .i64 0, .int .i64 0, .int .i64 0, .int .i64 0, .int .i64 0, .int .i64 0, .int .i64 0, .int .i64 0] 30) = W123 at *
                refine wpAnyH_ready (rs := [9]) (by kernel_rfl) (by simp) ?_
                refine AllReadyH.cons rfl (fun K hK => ?_) (AllReadyH.nil)
                · skip
                  go_simp
                  go_at_call 9
                  refine (play_any W123 _ (ps.drop J ++ ps.take J) HO123.out.2.1.row (by rw [HLA.out]; omega) HFT.out).mono ?_
                  rintro y W124 ⟨v6, rfl, hr6, hb6⟩
                  obtain ⟨p6, c6, hv6⟩ := hr6.shape
                  generalize (posOf (playM (ps.drop J ++ ps.take J))).length = n6 at hv6
                  subst hv6
                  have HO124 := Lib.hid (HO123.out.kept hb6)
                  clear hr6 hb6
                  unfold vecV
                  try go_wp2_with fail
                  refine hK.out _ _ trivial (fun _ => ?_)
                  clear hK K
                  try simp only [Act.put, List.getElem_toArray, List.getElem_cons_succ, List.getElem_cons_zero, List.setIfInBounds_toArray, List.set_cons_zero, List.set_cons_succ]
                  refine wpAnyH_take (i := 10) (v := ?_) rfl (by kernel_rfl) (by kernel_rfl) (by kernel_rfl) (fun _ _ _ h => h) (Or.inl ⟨by kernel_rfl, ?_⟩) (by first | assumption | trivial) ?_
                  rotate_left
                  · intro w hSw
                    try dsimp only at hSw
                    first | (go_simp; done) | (go_simp; with_reducible rfl)
                  try simp only [Act.put, List.getElem_toArray, List.getElem_cons_succ, List.getElem_cons_zero, List.setIfInBounds_toArray, List.set_cons_zero, List.set_cons_succ]
                  refine wpAnyH_take (i := 11) (v := ?_) rfl (by kernel_rfl) (by kernel_rfl) (by kernel_rfl) (fun _ _ _ h => h) (Or.inl ⟨by kernel_rfl, ?_⟩) (by first | assumption | trivial) ?_
                  rotate_left
                  · intro w hSw
                    try dsimp only at hSw
                    first | (go_simp; done) | (go_simp; with_reducible rfl)
                  try simp only [Act.put, List.getElem_toArray, List.getElem_cons_succ, List.getElem_cons_zero, List.setIfInBounds_toArray, List.set_cons_zero, List.set_cons_succ]
                  refine wpAnyH_take (i := 12) (v := ?_) rfl (by kernel_rfl) (by kernel_rfl) (by kernel_rfl) (fun _ _ _ h => h) (Or.inl ⟨by kernel_rfl, ?_⟩) (by first | assumption | trivial) ?_
                  rotate_left
                  · intro w hSw
                    try dsimp only at hSw
                    first | (go_simp; done) | (go_simp; with_reducible rfl)
                  try simp only [Act.put, List.getElem_toArray, List.getElem_cons_succ, List.getElem_cons_zero, List.setIfInBounds_toArray, List.set_cons_zero, List.set_cons_succ]
                  refine wpAnyH_take (i := 13) (v := ?_) rfl (by kernel_rfl) (by kernel_rfl) (by kernel_rfl) (fun _ _ _ h => h) (Or.inl ⟨by kernel_rfl, ?_⟩) (by first | assumption | trivial) ?_
                  rotate_left
                  · intro w hSw
                    try dsimp only at hSw
                    first | (go_simp; done) | (go_simp; with_reducible rfl)
                  try simp only [Act.put, List.getElem_toArray, List.getElem_cons_succ, List.getElem_cons_zero, List.setIfInBounds_toArray, List.set_cons_zero, List.set_cons_succ]
                  obtain ⟨hbO, _, hA, hB, hAB⟩ := HO124.out
                  have HA := Lib.hid (hA _ rfl)
                  have HBq := Lib.hid (hB _ rfl)
                  have HAB := Lib.hid (hAB _ _ rfl rfl)
                  have HBO := Lib.hid hbO
                  clear hbO hA hB hAB
                  have q0 : W124.cell? ⟨W102.heap.size, 0, none⟩ = some (.slice none 0 0) := HA.out.1.cell 0
                  have qf := HA.out.1.free 0
                  have ql := HA.out.1.lt
                  refine wpAnyH_ready (rs := [16]) (by kernel_rfl) (by simp) ?_
                  refine AllReadyH.cons rfl (fun K hK => ?_) AllReadyH.nil
                  go_simp
                  refine hK.out _ _ trivial (fun hS => ?_)
                  clear hK K
                  try simp only [Act.put, List.getElem_toArray, List.getElem_cons_succ, List.getElem_cons_zero, List.setIfInBounds_toArray, List.set_cons_zero, List.set_cons_succ]
                  have HB2 := Lib.hid (HBq.out.1.setOther (a := ⟨W102.heap.size, 0, none⟩) HAB.out (.slice p6 n6 c6))
                  have HW2 := Lib.hid (HBO.out.setCell (p := ⟨W102.heap.size, 0, none⟩) HA.out.2.1 (.slice p6 n6 c6))
                  have HTH : Hid ((W124.setCell ⟨W102.heap.size, 0, none⟩ (.slice p6 n6 c6)).there W120.heap.size 0 (mCells (playM (ps.drop J ++ ps.take J))).size) := by
                    have h1 := HB2.out.there
                    rw [mCells_size, playM_len]
                    exact h1
                  refine wpAnyH_ready (rs := [17]) (by kernel_rfl) (by simp) ?_
                  refine AllReadyH.cons rfl (fun K hK => ?_) AllReadyH.nil
                  rw [if_pos (by kernel_rfl)]
                  refine wp_store_mid 30 (.tmp 12) (.tmp 65) rfl (W120.heap.size) 0 (mCells (playM (ps.drop J ++ ps.take J))) rfl rfl HTH.out HIN.out (mCells_one _) ?_
                  refine hK.out _ _ trivial (fun hS => ?_)
                  clear hK K
                  try simp only [Act.put, List.getElem_toArray, List.getElem_cons_succ, List.getElem_cons_zero, List.setIfInBounds_toArray, List.set_cons_zero, List.set_cons_succ]
                  refine wpAnyH_take (i := 18) (v := ?_) rfl (by kernel_rfl) (by kernel_rfl) (by kernel_rfl) (fun _ _ _ h => h) (Or.inl ⟨by kernel_rfl, ?_⟩) (by first | assumption | trivial) ?_
                  rotate_left
                  · intro w hSw
                    try dsimp only at hSw
                    first | (go_simp; done) | (go_simp; with_reducible rfl)
                  try simp only [Act.put, List.getElem_toArray, List.getElem_cons_succ, List.getElem_cons_zero, List.setIfInBounds_toArray, List.set_cons_zero, List.set_cons_succ]
                  refine wpAnyH_done (by kernel_rfl) ?_ _
                  have hb9 := blk_store HB2.out (mCells (playM (ps.drop J ++ ps.take J))) (by rw [mCells_size, playM_len]; rfl)
                  have hw9 := HW2.out.trans ((Chg.setCells (W120.heap.size) (mCells (playM (ps.drop J ++ ps.take J))).toList 0 _ _ (Chg.refl (W120.heap.size) (W124.setCell ⟨W102.heap.size, 0, none⟩ (.slice p6 n6 c6)))).below HBq.out.2.1 HW2.out.size)
                  have HFIN := Lib.hid (And.intro hb9 hw9)
                  clear hb9 hw9 q0 qf ql
                  go_wp2_with fail
                  go_meet
                  exact ⟨_, rfl, rfl, HFIN⟩
            · skip
              go_simp
              refine hK.out _ _ trivial (fun _ => ?_)
              clear hK K
              try simp only [Act.put, List.getElem_toArray, List.getElem_cons_succ, List.getElem_cons_zero, List.setIfInBounds_toArray, List.set_cons_zero, List.set_cons_succ]
              have HO125 := Lib.hid HO119.out.allocB
              generalize W119.alloc (.cells #[.int .i64 0, .int .i64 0, .int .i64 0, .int .i64 0, .int .i64 0, .int .i64 0, .int .i64 0, .int .i64 0, .int .i64 0, .int .i64 0, .int .i64 0, .int .i64 0, .int .i64 0, .int .i64 0, .int .i64 0, .int .i64 0, .int .i64 0, .int .i64 0, .int .i64 0, .int .i64 0, .int .i64 0, .int .i64 0, .int .i64 0, .int .i64 0, .int .i64 0, .int .i64 0, .int .i64 0, .int .i64 0, .int .i64 0, .int .i64 0, .int .i64 0, .int .i64 0, .int .i64 0, .int .i64 0, .int .i64 0, .int .i64 0, .int .i64 0, .int .i64 0, .int .i64 0, .int .i64 0, .int .i64 0, .int .i64 0, .int .i64 0, .int .i64 0, .int .i64 0, .int .i64 0, .int .i64 0, .int .i64 0, .int .i64 0, .int .i64 0, .int .i64 0, .int .i64 0, .int .i64 0, .int .i64 0, .int .i64 0, .int .i64 0, .int .i64 0, .int .i64 0, .int .i64 0, .int .i64 0, .int .i64 0, .int .i64 0, .int .i64 0, .int .i64 0] 30) = W125 at *
              refine wpAnyH_ready (rs := [8]) (by kernel_rfl) (by simp) ?_
              refine AllReadyH.cons rfl (fun K hK => ?_) (AllReadyH.nil)
              · skip
                refine step_append_o rfl (.tmp 58) (.tmp 61) 22 rfl 46 elt_put _ _ (ps.drop J) (ps.take J) rfl rfl HO125.out (HVT.out.kept HO125.out.1) (by rw [HLD.out, HLT.out]; omega) (ps.drop J ++ ps.take J) n (rfl) HLA.out ?_
                intro p126 c126 W126 ho126
                refine hK.out _ _ trivial (fun _ => ?_)
                clear hK K
                try simp only [Act.put, List.getElem_toArray, List.getElem_cons_succ, List.getElem_cons_zero, List.setIfInBounds_toArray, List.set_cons_zero, List.set_cons_succ]
                have HO126 := Lib.hid ho126
                clear ho126
                refine wpAnyH_ready (rs := [9]) (by kernel_rfl) (by simp) ?_
                refine AllReadyH.cons rfl (fun K hK => ?_) (AllReadyH.nil)
                · skip
                  go_simp
                  go_at_call 9
                  refine (play_any W126 _ (ps.drop J ++ ps.take J) HO126.out.2.1.row (by rw [HLA.out]; omega) HFT.out).mono ?_
                  rintro y W127 ⟨v6, rfl, hr6, hb6⟩
                  obtain ⟨p6, c6, hv6⟩ := hr6.shape
                  generalize (posOf (playM (ps.drop J ++ ps.take J))).length = n6 at hv6
                  subst hv6
                  have HO127 := Lib.hid (HO126.out.kept hb6)
                  clear hr6 hb6
                  unfold vecV
                  try go_wp2_with fail
                  refine hK.out _ _ trivial (fun _ => ?_)
                  clear hK K
                  try simp only [Act.put, List.getElem_toArray, List.getElem_cons_succ, List.getElem_cons_zero, List.setIfInBounds_toArray, List.set_cons_zero, List.set_cons_succ]
                  refine wpAnyH_take (i := 10) (v := ?_) rfl (by kernel_rfl) (by kernel_rfl) (by kernel_rfl) (fun _ _ _ h => h) (Or.inl ⟨by kernel_rfl, ?_⟩) (by first | assumption | trivial) ?_
                  rotate_left
                  · intro w hSw
                    try dsimp only at hSw
                    first | (go_simp; done) | (go_simp; with_reducible rfl)
                  try simp only [Act.put, List.getElem_toArray, List.getElem_cons_succ, List.getElem_cons_zero, List.setIfInBounds_toArray, List.set_cons_zero, List.set_cons_succ]
                  refine wpAnyH_take (i := 11) (v := ?_) rfl (by kernel_rfl) (by kernel_rfl) (by kernel_rfl) (fun _ _ _ h => h) (Or.inl ⟨by kernel_rfl, ?_⟩) (by first | assumption | trivial) ?_
                  rotate_left
                  · intro w hSw
                    try dsimp only at hSw
                    first | (go_simp; done) | (go_simp; with_reducible rfl)
                  try simp only [Act.put, List.getElem_toArray, List.getElem_cons_succ, List.getElem_cons_zero, List.setIfInBounds_toArray, List.set_cons_zero, List.set_cons_succ]
                  refine wpAnyH_take (i := 12) (v := ?_) rfl (by kernel_rfl) (by kernel_rfl) (by kernel_rfl) (fun _ _ _ h => h) (Or.inl ⟨by kernel_rfl, ?_⟩) (by first | assumption | trivial) ?_
                  rotate_left
                  · intro w hSw
                    try dsimp only at hSw
                    first | (go_simp; done) | (go_simp; with_reducible rfl)
                  try simp only [Act.put, List.getElem_toArray, List.getElem_cons_succ, List.getElem_cons_zero, List.setIfInBounds_toArray, List.set_cons_zero, List.set_cons_succ]
                  refine wpAnyH_take (i := 13) (v := ?_) rfl (by kernel_rfl) (by kernel_rfl) (by kernel_rfl) (fun _ _ _ h => h) (Or.inl ⟨by kernel_rfl, ?_⟩) (by first | assumption | trivial) ?_
                  rotate_left
                  · intro w hSw
                    try dsimp only at hSw
                    first | (go_simp; done) | (go_simp; with_reducible rfl)
                  try simp only [Act.put, List.getElem_toArray, List.getElem_cons_succ, List.getElem_cons_zero, List.setIfInBounds_toArray, List.set_cons_zero, List.set_cons_succ]
                  obtain ⟨hbO, _, hA, hB, hAB⟩ := HO127.out
                  have HA := Lib.hid (hA _ rfl)
                  have HBq := Lib.hid (hB _ rfl)
                  have HAB := Lib.hid (hAB _ _ rfl rfl)
                  have HBO := Lib.hid hbO
                  clear hbO hA hB hAB
                  have q0 : W127.cell? ⟨W102.heap.size, 0, none⟩ = some (.slice none 0 0) := HA.out.1.cell 0
                  have qf := HA.out.1.free 0
                  have ql := HA.out.1.lt
                  refine wpAnyH_ready (rs := [16]) (by kernel_rfl) (by simp) ?_
                  refine AllReadyH.cons rfl (fun K hK => ?_) AllReadyH.nil
                  go_simp
                  refine hK.out _ _ trivial (fun hS => ?_)
                  clear hK K
                  try simp only [Act.put, List.getElem_toArray, List.getElem_cons_succ, List.getElem_cons_zero, List.setIfInBounds_toArray, List.set_cons_zero, List.set_cons_succ]
                  have HB2 := Lib.hid (HBq.out.1.setOther (a := ⟨W102.heap.size, 0, none⟩) HAB.out (.slice p6 n6 c6))
                  have HW2 := Lib.hid (HBO.out.setCell (p := ⟨W102.heap.size, 0, none⟩) HA.out.2.1 (.slice p6 n6 c6))
                  have HTH : Hid ((W127.setCell ⟨W102.heap.size, 0, none⟩ (.slice p6 n6 c6)).there W119.heap.size 0 (mCells (playM (ps.drop J ++ ps.take J))).size) := by
                    have h1 := HB2.out.there
                    rw [mCells_size, playM_len]
                    exact h1
                  refine wpAnyH_ready (rs := [17]) (by kernel_rfl) (by simp) ?_
                  refine AllReadyH.cons rfl (fun K hK => ?_) AllReadyH.nil
                  rw [if_pos (by kernel_rfl)]
                  refine wp_store_mid 30 (.tmp 12) (.tmp 65) rfl (W119.heap.size) 0 (mCells (playM (ps.drop J ++ ps.take J))) rfl rfl HTH.out HIN.out (mCells_one _) ?_
                  refine hK.out _ _ trivial (fun hS => ?_)
                  clear hK K
                  try simp only [Act.put, List.getElem_toArray, List.getElem_cons_succ, List.getElem_cons_zero, List.setIfInBounds_toArray, List.set_cons_zero, List.set_cons_succ]
                  refine wpAnyH_take (i := 18) (v := ?_) rfl (by kernel_rfl) (by kernel_rfl) (by kernel_rfl) (fun _ _ _ h => h) (Or.inl ⟨by kernel_rfl, ?_⟩) (by first | assumption | trivial) ?_
                  rotate_left
                  · intro w hSw
                    try dsimp only at hSw
                    first | (go_simp; done) | (go_simp; with_reducible rfl)
                  try simp only [Act.put, List.getElem_toArray, List.getElem_cons_succ, List.getElem_cons_zero, List.setIfInBounds_toArray, List.set_cons_zero, List.set_cons_succ]
                  refine wpAnyH_done (by kernel_rfl) ?_ _
                  have hb9 := blk_store HB2.out (mCells (playM (ps.drop J ++ ps.take J))) (by rw [mCells_size, playM_len]; rfl)
                  have hw9 := HW2.out.trans ((Chg.setCells (W119.heap.size) (mCells (playM (ps.drop J ++ ps.take J))).toList 0 _ _ (Chg.refl (W119.heap.size) (W127.setCell ⟨W102.heap.size, 0, none⟩ (.slice p6 n6 c6)))).below HBq.out.2.1 HW2.out.size)
                  have HFIN := Lib.hid (And.intro hb9 hw9)
                  clear hb9 hw9 q0 qf ql
                  go_wp2_with fail
                  go_meet
                  exact ⟨_, rfl, rfl, HFIN⟩
          · skip
            go_simp
            refine hK.out _ _ trivial (fun _ => ?_)
            clear hK K
            try simp only [Act.put, List.getElem_toArray, List.getElem_cons_succ, List.getElem_cons_zero, List.setIfInBounds_toArray, List.set_cons_zero, List.set_cons_succ]
            have HO128 := Lib.hid HO102.out.allocB
            generalize W102.alloc (.cells #[.int .i64 0, .int .i64 0, .int .i64 0, .int .i64 0, .int .i64 0, .int .i64 0, .int .i64 0, .int .i64 0, .int .i64 0, .int .i64 0, .int .i64 0, .int .i64 0, .int .i64 0, .int .i64 0, .int .i64 0, .int .i64 0, .int .i64 0, .int .i64 0, .int .i64 0, .int .i64 0, .int .i64 0, .int .i64 0, .int .i64 0, .int .i64 0, .int .i64 0, .int .i64 0, .int .i64 0, .int .i64 0, .int .i64 0, .int .i64 0, .int .i64 0, .int .i64 0, .int .i64 0, .int .i64 0, .int .i64 0, .int .i64 0, .int .i64 0, .int .i64 0, .int .i64 0, .int .i64 0, .int .i64 0, .int .i64 0, .int .i64 0, .int .i64 0, .int .i64 0, .int .i64 0, .int .i64 0, .int .i64 0, .int .i64 0, .int .i64 0, .int .i64 0, .int .i64 0, .int .i64 0, .int .i64 0, .int .i64 0, .int .i64 0, .int .i64 0, .int .i64 0, .int .i64 0, .int .i64 0, .int .i64 0, .int .i64 0, .int .i64 0, .int .i64 0] 30) = W128 at *
            refine wpAnyH_ready (rs := [8, 14]) (by kernel_rfl) (by simp) ?_
            refine AllReadyH.cons rfl (fun K hK => ?_) (AllReadyH.cons rfl (fun K hK => ?_) (AllReadyH.nil))
            · skip
              refine step_append_o rfl (.tmp 58) (.tmp 61) 22 rfl 46 elt_put _ _ (ps.drop J) (ps.take J) rfl rfl HO128.out (HVT.out.kept HO128.out.1) (by rw [HLD.out, HLT.out]; omega) (ps.drop J ++ ps.take J) n (rfl) HLA.out ?_
              intro p129 c129 W129 ho129
              refine hK.out _ _ trivial (fun _ => ?_)
              clear hK K
              try simp only [Act.put, List.getElem_toArray, List.getElem_cons_succ, List.getElem_cons_zero, List.setIfInBounds_toArray, List.set_cons_zero, List.set_cons_succ]
              have HO129 := Lib.hid ho129
              clear ho129
              refine wpAnyH_ready (rs := [9, 14]) (by kernel_rfl) (by simp) ?_
              refine AllReadyH.cons rfl (fun K hK => ?_) (AllReadyH.cons rfl (fun K hK => ?_) (AllReadyH.nil))
              · skip
                go_simp
                go_at_call 9
                refine (play_any W129 _ (ps.drop J ++ ps.take J) HO129.out.2.1.row (by rw [HLA.out]; omega) HFT.out).mono ?_
                rintro y W130 ⟨v6, rfl, hr6, hb6⟩
                obtain ⟨p6, c6, hv6⟩ := hr6.shape
                generalize (posOf (playM (ps.drop J ++ ps.take J))).length = n6 at hv6
                subst hv6
                have HO130 := Lib.hid (HO129.out.kept hb6)
                clear hr6 hb6
                unfold vecV
                try go_wp2_with fail
                refine hK.out _ _ trivial (fun _ => ?_)
                clear hK K
                try simp only [Act.put, List.getElem_toArray, List.getElem_cons_succ, List.getElem_cons_zero, List.setIfInBounds_toArray, List.set_cons_zero, List.set_cons_succ]
                refine wpAnyH_take (i := 10) (v := ?_) rfl (by kernel_rfl) (by kernel_rfl) (by kernel_rfl) (fun _ _ _ h => h) (Or.inl ⟨by kernel_rfl, ?_⟩) (by first | assumption | trivial) ?_
                rotate_left
                · intro w hSw
                  try dsimp only at hSw
                  first | (go_simp; done) | (go_simp; with_reducible rfl)
                try simp only [Act.put, List.getElem_toArray, List.getElem_cons_succ, List.getElem_cons_zero, List.setIfInBounds_toArray, List.set_cons_zero, List.set_cons_succ]
                refine wpAnyH_take (i := 11) (v := ?_) rfl (by kernel_rfl) (by kernel_rfl) (by kernel_rfl) (fun _ _ _ h => h) (Or.inl ⟨by kernel_rfl, ?_⟩) (by first | assumption | trivial) ?_
                rotate_left
                · intro w hSw
                  try dsimp only at hSw
                  first | (go_simp; done) | (go_simp; with_reducible rfl)
                try simp only [Act.put, List.getElem_toArray, List.getElem_cons_succ, List.getElem_cons_zero, List.setIfInBounds_toArray, List.set_cons_zero, List.set_cons_succ]
                refine wpAnyH_take (i := 12) (v := ?_) rfl (by kernel_rfl) (by kernel_rfl) (by kernel_rfl) (fun _ _ _ h => h) (Or.inl ⟨by kernel_rfl, ?_⟩) (by first | assumption | trivial) ?_
                rotate_left
                · intro w hSw
                  try dsimp only at hSw
                  first | (go_simp; done) | (go_simp; with_reducible rfl)
                try simp only [Act.put, List.getElem_toArray, List.getElem_cons_succ, List.getElem_cons_zero, List.setIfInBounds_toArray, List.set_cons_zero, List.set_cons_succ]
                refine wpAnyH_take (i := 13) (v := ?_) rfl (by kernel_rfl) (by kernel_rfl) (by kernel_rfl) (fun _ _ _ h => h) (Or.inl ⟨by kernel_rfl, ?_⟩) (by first | assumption | trivial) ?_
                rotate_left
                · intro w hSw
                  try dsimp only at hSw
                  first | (go_simp; done) | (go_simp; with_reducible rfl)
                try simp only [Act.put, List.getElem_toArray, List.getElem_cons_succ, List.getElem_cons_zero, List.setIfInBounds_toArray, List.set_cons_zero, List.set_cons_succ]
                refine wpAnyH_ready (rs := [14]) (by kernel_rfl) (by simp) ?_
                refine AllReadyH.cons rfl (fun K hK => ?_) (AllReadyH.nil)
                · skip
                  go_simp
                  refine hK.out _ _ trivial (fun _ => ?_)
                  clear hK K
                  try simp only [Act.put, List.getElem_toArray, List.getElem_cons_succ, List.getElem_cons_zero, List.setIfInBounds_toArray, List.set_cons_zero, List.set_cons_succ]
                  have HO131 := Lib.hid HO130.out.allocA
                  generalize W130.alloc (.cells #[.slice none 0 0] 27) = W131 at *
                  obtain ⟨hbO, _, hA, hB, hAB⟩ := HO131.out
                  have HA := Lib.hid (hA _ rfl)
                  have HBq := Lib.hid (hB _ rfl)
                  have HAB := Lib.hid (hAB _ _ rfl rfl)
                  have HBO := Lib.hid hbO
                  clear hbO hA hB hAB
                  have q0 : W131.cell? ⟨W130.heap.size, 0, none⟩ = some (.slice none 0 0) := HA.out.1.cell 0
                  have qf := HA.out.1.free 0
                  have ql := HA.out.1.lt
                  refine wpAnyH_ready (rs := [16]) (by kernel_rfl) (by simp) ?_
                  refine AllReadyH.cons rfl (fun K hK => ?_) AllReadyH.nil
                  go_simp
                  refine hK.out _ _ trivial (fun hS => ?_)
                  clear hK K
                  try simp only [Act.put, List.getElem_toArray, List.getElem_cons_succ, List.getElem_cons_zero, List.setIfInBounds_toArray, List.set_cons_zero, List.set_cons_succ]
                  have HB2 := Lib.hid (HBq.out.1.setOther (a := ⟨W130.heap.size, 0, none⟩) HAB.out (.slice p6 n6 c6))
                  have HW2 := Lib.hid (HBO.out.setCell (p := ⟨W130.heap.size, 0, none⟩) HA.out.2.1 (.slice p6 n6 c6))
                  have HTH : Hid ((W131.setCell ⟨W130.heap.size, 0, none⟩ (.slice p6 n6 c6)).there W102.heap.size 0 (mCells (playM (ps.drop J ++ ps.take J))).size) := by
                    have h1 := HB2.out.there
                    rw [mCells_size, playM_len]
                    exact h1
                  refine wpAnyH_ready (rs := [17]) (by kernel_rfl) (by simp) ?_
                  refine AllReadyH.cons rfl (fun K hK => ?_) AllReadyH.nil
                  rw [if_pos (by kernel_rfl)]
                  refine wp_store_mid 30 (.tmp 12) (.tmp 65) rfl (W102.heap.size) 0 (mCells (playM (ps.drop J ++ ps.take J))) rfl rfl HTH.out HIN.out (mCells_one _) ?_
                  refine hK.out _ _ trivial (fun hS => ?_)
                  clear hK K
                  try simp only [Act.put, List.getElem_toArray, List.getElem_cons_succ, List.getElem_cons_zero, List.setIfInBounds_toArray, List.set_cons_zero, List.set_cons_succ]
                  refine wpAnyH_take (i := 18) (v := ?_) rfl (by kernel_rfl) (by kernel_rfl) (by kernel_rfl) (fun _ _ _ h => h) (Or.inl ⟨by kernel_rfl, ?_⟩) (by first | assumption | trivial) ?_
                  rotate_left
                  · intro w hSw
                    try dsimp only at hSw
                    first | (go_simp; done) | (go_simp; with_reducible rfl)
                  try simp only [Act.put, List.getElem_toArray, List.getElem_cons_succ, List.getElem_cons_zero, List.setIfInBounds_toArray, List.set_cons_zero, List.set_cons_succ]
                  refine wpAnyH_done (by kernel_rfl) ?_ _
                  have hb9 := blk_store HB2.out (mCells (playM (ps.drop J ++ ps.take J))) (by rw [mCells_size, playM_len]; rfl)
                  have hw9 := HW2.out.trans ((Chg.setCells (W102.heap.size) (mCells (playM (ps.drop J ++ ps.take J))).toList 0 _ _ (Chg.refl (W102.heap.size) (W131.setCell ⟨W130.heap.size, 0, none⟩ (.slice p6 n6 c6)))).below HBq.out.2.1 HW2.out.size)
                  have HFIN := Lib.hid (And.intro hb9 hw9)
                  clear hb9 hw9 q0 qf ql
                  go_wp2_with fail
                  go_meet
                  exact ⟨_, rfl, rfl, HFIN⟩
              · skip
                go_simp
                refine hK.out _ _ trivial (fun _ => ?_)
                clear hK K
                try simp only [Act.put, List.getElem_toArray, List.getElem_cons_succ, List.getElem_cons_zero, List.setIfInBounds_toArray, List.set_cons_zero, List.set_cons_succ]
                have HO132 := Lib.hid HO129.out.allocA
                generalize W129.alloc (.cells #[.slice none 0 0] 27) = W132 at *
                refine wpAnyH_ready (rs := [9]) (by kernel_rfl) (by simp) ?_
                refine AllReadyH.cons rfl (fun K hK => ?_) (AllReadyH.nil)
                · skip
                  go_simp
                  go_at_call 9
                  refine (play_any W132 _ (ps.drop J ++ ps.take J) HO132.out.2.1.row (by rw [HLA.out]; omega) HFT.out).mono ?_
                  rintro y W133 ⟨v6, rfl, hr6, hb6⟩
                  obtain ⟨p6, c6, hv6⟩ := hr6.shape
                  generalize (posOf (playM (ps.drop J ++ ps.take J))).length = n6 at hv6
                  subst hv6
                  have HO133 := Lib.hid (HO132.out.kept hb6)
                  clear hr6 hb6
                  unfold vecV
                  try go_wp2_with fail
                  refine hK.out _ _ trivial (fun _ => ?_)
                  clear hK K
                  try simp only [Act.put, List.getElem_toArray, List.getElem_cons_succ, List.getElem_cons_zero, List.setIfInBounds_toArray, List.set_cons_zero, List.set_cons_succ]
                  refine wpAnyH_take (i := 10) (v := ?_) rfl (by kernel_rfl) (by kernel_rfl) (by kernel_rfl) (fun _ _ _ h => h) (Or.inl ⟨by kernel_rfl, ?_⟩) (by first | assumption | trivial) ?_
                  rotate_left
                  · intro w hSw
                    try dsimp only at hSw
                    first | (go_simp; done) | (go_simp; with_reducible rfl)
                  try simp only [Act.put, List.getElem_toArray, List.getElem_cons_succ, List.getElem_cons_zero, List.setIfInBounds_toArray, List.set_cons_zero, List.set_cons_succ]
                  refine wpAnyH_take (i := 11) (v := ?_) rfl (by kernel_rfl) (by kernel_rfl) (by kernel_rfl) (fun _ _ _ h => h) (Or.inl ⟨by kernel_rfl, ?_⟩) (by first | assumption | trivial) ?_
                  rotate_left
                  · intro w hSw
                    try dsimp only at hSw
                    first | (go_simp; done) | (go_simp; with_reducible rfl)
                  try simp only [Act.put, List.getElem_toArray, List.getElem_cons_succ, List.getElem_cons_zero, List.setIfInBounds_toArray, List.set_cons_zero, List.set_cons_succ]
                  refine wpAnyH_take (i := 12) (v := ?_) rfl (by kernel_rfl) (by kernel_rfl) (by kernel_rfl) (fun _ _ _ h => h) (Or.inl ⟨by kernel_rfl, ?_⟩) (by first | assumption | trivial) ?_
                  rotate_left
                  · intro w hSw
                    try dsimp only at hSw
                    first | (go_simp; done) | (go_simp; with_reducible rfl)
                  try simp only [Act.put, List.getElem_toArray, List.getElem_cons_succ, List.getElem_cons_zero, List.setIfInBounds_toArray, List.set_cons_zero, List.set_cons_succ]
                  refine wpAnyH_take (i := 13) (v := ?_) rfl (by kernel_rfl) (by kernel_rfl) (by kernel_rfl) (fun _ _ _ h => h) (Or.inl ⟨by kernel_rfl, ?_⟩) (by first | assumption | trivial) ?_
                  rotate_left
                  · intro w hSw
                    try dsimp only at hSw
                    first | (go_simp; done) | (go_simp; with_reducible rfl)
                  try simp only [Act.put, List.getElem_toArray, List.getElem_cons_succ, List.getElem_cons_zero, List.setIfInBounds_toArray, List.set_cons_zero, List.set_cons_succ]
                  obtain ⟨hbO, _, hA, hB, hAB⟩ := HO133.out
                  have HA := Lib.hid (hA _ rfl)
                  have HBq := Lib.hid (hB _ rfl)
                  have HAB := Lib.hid (hAB _ _ rfl rfl)
                  have HBO := Lib.hid hbO
                  clear hbO hA hB hAB
                  have q0 : W133.cell? ⟨W129.heap.size, 0, none⟩ = some (.slice none 0 0) := HA.out.1.cell 0
                  have qf := HA.out.1.free 0
                  have ql := HA.out.1.lt
                  refine wpAnyH_ready (rs := [16]) (by kernel_rfl) (by simp) ?_
                  refine AllReadyH.cons rfl (fun K hK => ?_) AllReadyH.nil
                  go_simp
                  refine hK.out _ _ trivial (fun hS => ?_)
                  clear hK K
                  try simp only [Act.put, List.getElem_toArray, List.getElem_cons_succ, List.getElem_cons_zero, List.setIfInBounds_toArray, List.set_cons_zero, List.set_cons_succ]
                  have HB2 := Lib.hid (HBq.out.1.setOther (a := ⟨W129.heap.size, 0, none⟩) HAB.out (.slice p6 n6 c6))
                  have HW2 := Lib.hid (HBO.out.setCell (p := ⟨W129.heap.size, 0, none⟩) HA.out.2.1 (.slice p6 n6 c6))
                  have HTH : Hid ((W133.setCell ⟨W129.heap.size, 0, none⟩ (.slice p6 n6 c6)).there W102.heap.size 0 (mCells (playM (ps.drop J ++ ps.take J))).size) := by
                    have h1 := HB2.out.there
                    rw [mCells_size, playM_len]
                    exact h1
                  refine wpAnyH_ready (rs := [17]) (by kernel_rfl) (by simp) ?_
                  refine AllReadyH.cons rfl (fun K hK => ?_) AllReadyH.nil
                  rw [if_pos (by kernel_rfl)]
                  refine wp_store_mid 30 (.tmp 12) (.tmp 65) rfl (W102.heap.size) 0 (mCells (playM (ps.drop J ++ ps.take J))) rfl rfl HTH.out HIN.out (mCells_one _) ?_
                  refine hK.out _ _ trivial (fun hS => ?_)
                  clear hK K
                  try simp only [Act.put, List.getElem_toArray, List.getElem_cons_succ, List.getElem_cons_zero, List.setIfInBounds_toArray, List.set_cons_zero, List.set_cons_succ]
                  refine wpAnyH_take (i := 18) (v := ?_) rfl (by kernel_rfl) (by kernel_rfl) (by kernel_rfl) (fun _ _ _ h => h) (Or.inl ⟨by kernel_rfl, ?_⟩) (by first | assumption | trivial) ?_
                  rotate_left
                  · intro w hSw
                    try dsimp only at hSw
                    first | (go_simp; done) | (go_simp; with_reducible rfl)
                  try simp only [Act.put, List.getElem_toArray, List.getElem_cons_succ, List.getElem_cons_zero, List.setIfInBounds_toArray, List.set_cons_zero, List.set_cons_succ]
                  refine wpAnyH_done (by kernel_rfl) ?_ _
                  have hb9 := blk_store HB2.out (mCells (playM (ps.drop J ++ ps.take J))) (by rw [mCells_size, playM_len]; rfl)
                  have hw9 := HW2.out.trans ((Chg.setCells (W102.heap.size) (mCells (playM (ps.drop J ++ ps.take J))).toList 0 _ _ (Chg.refl (W102.heap.size) (W133.setCell ⟨W129.heap.size, 0, none⟩ (.slice p6 n6 c6)))).below HBq.out.2.1 HW2.out.size)
                  have HFIN := Lib.hid (And.intro hb9 hw9)
                  clear hb9 hw9 q0 qf ql
                  go_wp2_with fail
                  go_meet
                  exact ⟨_, rfl, rfl, HFIN⟩
            · skip
              go_simp
              refine hK.out _ _ trivial (fun _ => ?_)
              clear hK K
              try simp only [Act.put, List.getElem_toArray, List.getElem_cons_succ, List.getElem_cons_zero, List.setIfInBounds_toArray, List.set_cons_zero, List.set_cons_succ]
              have HO134 := Lib.hid HO128.out.allocA
              generalize W128.alloc (.cells #[.slice none 0 0] 27) = W134 at *
              refine wpAnyH_ready (rs := [8]) (by kernel_rfl) (by simp) ?_
              refine AllReadyH.cons rfl (fun K hK => ?_) (AllReadyH.nil)
              · skip
                refine step_append_o rfl (.tmp 58) (.tmp 61) 22 rfl 46 elt_put _ _ (ps.drop J) (ps.take J) rfl rfl HO134.out (HVT.out.kept HO134.out.1) (by rw [HLD.out, HLT.out]; omega) (ps.drop J ++ ps.take J) n (rfl) HLA.out ?_
                intro p135 c135 W135 ho135
                refine hK.out _ _ trivial (fun _ => ?_)
                clear hK K
                try simp only [Act.put, List.getElem_toArray, List.getElem_cons_succ, List.getElem_cons_zero, List.setIfInBounds_toArray, List.set_cons_zero, List.set_cons_succ]
                have HO135 := Lib.hid ho135
                clear ho135
                refine wpAnyH_ready (rs := [9]) (by kernel_rfl) (by simp) ?_
                refine AllReadyH.cons rfl (fun K hK => ?_) (AllReadyH.nil)
                · skip
                  go_simp
                  go_at_call 9
                  refine (play_any W135 _ (ps.drop J ++ ps.take J) HO135.out.2.1.row (by rw [HLA.out]; omega) HFT.out).mono ?_
                  rintro y W136 ⟨v6, rfl, hr6, hb6⟩
                  obtain ⟨p6, c6, hv6⟩ := hr6.shape
                  generalize (posOf (playM (ps.drop J ++ ps.take J))).length = n6 at hv6
                  subst hv6
                  have HO136 := Lib.hid (HO135.out.kept hb6)
                  clear hr6 hb6
                  unfold vecV
                  try go_wp2_with fail
                  refine hK.out _ _ trivial (fun _ => ?_)
                  clear hK K
                  try simp only [Act.put, List.getElem_toArray, List.getElem_cons_succ, List.getElem_cons_zero, List.setIfInBounds_toArray, List.set_cons_zero, List.set_cons_succ]
                  refine wpAnyH_take (i := 10) (v := ?_) rfl (by kernel_rfl) (by kernel_rfl) (by kernel_rfl) (fun _ _ _ h => h) (Or.inl ⟨by kernel_rfl, ?_⟩) (by first | assumption | trivial) ?_
                  rotate_left
                  · intro w hSw
                    try dsimp only at hSw
                    first | (go_simp; done) | (go_simp; with_reducible rfl)
                  try simp only [Act.put, List.getElem_toArray, List.getElem_cons_succ, List.getElem_cons_zero, List.setIfInBounds_toArray, List.set_cons_zero, List.set_cons_succ]
                  refine wpAnyH_take (i := 11) (v := ?_) rfl (by kernel_rfl) (by kernel_rfl) (by kernel_rfl) (fun _ _ _ h => h) (Or.inl ⟨by kernel_rfl, ?_⟩) (by first | assumption | trivial) ?_
                  rotate_left
                  · intro w hSw
                    try dsimp only at hSw
                    first | (go_simp; done) | (go_simp; with_reducible rfl)
                  try simp only [Act.put, List.getElem_toArray, List.getElem_cons_succ, List.getElem_cons_zero, List.setIfInBounds_toArray, List.set_cons_zero, List.set_cons_succ]
                  refine wpAnyH_take (i := 12) (v := ?_) rfl (by kernel_rfl) (by kernel_rfl) (by kernel_rfl) (fun _ _ _ h => h) (Or.inl ⟨by kernel_rfl, ?_⟩) (by first | assumption | trivial) ?_
                  rotate_left
                  · intro w hSw
                    try dsimp only at hSw
                    first | (go_simp; done) | (go_simp; with_reducible rfl)
                  try simp only [Act.put, List.getElem_toArray, List.getElem_cons_succ, List.getElem_cons_zero, List.setIfInBounds_toArray, List.set_cons_zero, List.set_cons_succ]
                  refine wpAnyH_take (i := 13) (v := ?_) rfl (by kernel_rfl) (by kernel_rfl) (by kernel_rfl) (fun _ _ _ h => h) (Or.inl ⟨by kernel_rfl, ?_⟩) (by first | assumption | trivial) ?_
                  rotate_left
                  · intro w hSw
                    try dsimp only at hSw
                    first | (go_simp; done) | (go_simp; with_reducible rfl)
                  try simp only [Act.put, List.getElem_toArray, List.getElem_cons_succ, List.getElem_cons_zero, List.setIfInBounds_toArray, List.set_cons_zero, List.set_cons_succ]
                  obtain ⟨hbO, _, hA, hB, hAB⟩ := HO136.out
                  have HA := Lib.hid (hA _ rfl)
                  have HBq := Lib.hid (hB _ rfl)
                  have HAB := Lib.hid (hAB _ _ rfl rfl)
                  have HBO := Lib.hid hbO
                  clear hbO hA hB hAB
                  have q0 : W136.cell? ⟨W128.heap.size, 0, none⟩ = some (.slice none 0 0) := HA.out.1.cell 0
                  have qf := HA.out.1.free 0
                  have ql := HA.out.1.lt
                  refine wpAnyH_ready (rs := [16]) (by kernel_rfl) (by simp) ?_
                  refine AllReadyH.cons rfl (fun K hK => ?_) AllReadyH.nil
                  go_simp
                  refine hK.out _ _ trivial (fun hS => ?_)
                  clear hK K
                  try simp only [Act.put, List.getElem_toArray, List.getElem_cons_succ, List.getElem_cons_zero, List.setIfInBounds_toArray, List.set_cons_zero, List.set_cons_succ]
                  have HB2 := Lib.hid (HBq.out.1.setOther (a := ⟨W128.heap.size, 0, none⟩) HAB.out (.slice p6 n6 c6))
                  have HW2 := Lib.hid (HBO.out.setCell (p := ⟨W128.heap.size, 0, none⟩) HA.out.2.1 (.slice p6 n6 c6))
                  have HTH : Hid ((W136.setCell ⟨W128.heap.size, 0, none⟩ (.slice p6 n6 c6)).there W102.heap.size 0 (mCells (playM (ps.drop J ++ ps.take J))).size) := by
                    have h1 := HB2.out.there
                    rw [mCells_size, playM_len]
                    exact h1
                  refine wpAnyH_ready (rs := [17]) (by kernel_rfl) (by simp) ?_
                  refine AllReadyH.cons rfl (fun K hK => ?_) AllReadyH.nil
                  rw [if_pos (by kernel_rfl)]
                  refine wp_store_mid 30 (.tmp 12) (.tmp 65) rfl (W102.heap.size) 0 (mCells (playM (ps.drop J ++ ps.take J))) rfl rfl HTH.out HIN.out (mCells_one _) ?_
                  refine hK.out _ _ trivial (fun hS => ?_)
                  clear hK K
                  try simp only [Act.put, List.getElem_toArray, List.getElem_cons_succ, List.getElem_cons_zero, List.setIfInBounds_toArray, List.set_cons_zero, List.set_cons_succ]
                  refine wpAnyH_take (i := 18) (v := ?_) rfl (by kernel_rfl) (by kernel_rfl) (by kernel_rfl) (fun _ _ _ h => h) (Or.inl ⟨by kernel_rfl, ?_⟩) (by first | assumption | trivial) ?_
                  rotate_left
                  · intro w hSw
                    try dsimp only at hSw
                    first | (go_simp; done) | (go_simp; with_reducible rfl)
                  try simp only [Act.put, List.getElem_toArray, List.getElem_cons_succ, List.getElem_cons_zero, List.setIfInBounds_toArray, List.set_cons_zero, List.set_cons_succ]
                  refine wpAnyH_done (by kernel_rfl) ?_ _
                  have hb9 := blk_store HB2.out (mCells (playM (ps.drop J ++ ps.take J))) (by rw [mCells_size, playM_len]; rfl)
                  have hw9 := HW2.out.trans ((Chg.setCells (W102.heap.size) (mCells (playM (ps.drop J ++ ps.take J))).toList 0 _ _ (Chg.refl (W102.heap.size) (W136.setCell ⟨W128.heap.size, 0, none⟩ (.slice p6 n6 c6)))).below HBq.out.2.1 HW2.out.size)
                  have HFIN := Lib.hid (And.intro hb9 hw9)
                  clear hb9 hw9 q0 qf ql
                  go_wp2_with fail
                  go_meet
                  exact ⟨_, rfl, rfl, HFIN⟩
        · skip
          go_simp
          refine hK.out _ _ trivial (fun _ => ?_)
          clear hK K
          try simp only [Act.put, List.getElem_toArray, List.getElem_cons_succ, List.getElem_cons_zero, List.setIfInBounds_toArray, List.set_cons_zero, List.set_cons_succ]
          have HO137 := Lib.hid HO101.out.allocA
          generalize W101.alloc (.cells #[.slice none 0 0] 27) = W137 at *
          refine wpAnyH_ready (rs := [4, 15]) (by kernel_rfl) (by simp) ?_
          refine AllReadyH.cons rfl (fun K hK => ?_) (AllReadyH.cons rfl (fun K hK => ?_) (AllReadyH.nil))
          · skip
            refine step_append_o rfl (.tmp 54) (.tmp 57) 22 rfl 46 elt_put _ _ ([]) (ps.drop J) rfl rfl HO137.out (HVD.out.kept HO137.out.1) (by rw [HLD.out]; simp only [List.length_nil]; omega) (ps.drop J) (n - J) (List.nil_append _) HLD.out ?_
            intro p138 c138 W138 ho138
            refine hK.out _ _ trivial (fun _ => ?_)
            clear hK K
            try simp only [Act.put, List.getElem_toArray, List.getElem_cons_succ, List.getElem_cons_zero, List.setIfInBounds_toArray, List.set_cons_zero, List.set_cons_succ]
            have HO138 := Lib.hid ho138
            clear ho138
            refine wpAnyH_ready (rs := [8, 15]) (by kernel_rfl) (by simp) ?_
            refine AllReadyH.cons rfl (fun K hK => ?_) (AllReadyH.cons rfl (fun K hK => ?_) (AllReadyH.nil))
            · skip
              refine step_append_o rfl (.tmp 58) (.tmp 61) 22 rfl 46 elt_put _ _ (ps.drop J) (ps.take J) rfl rfl HO138.out (HVT.out.kept HO138.out.1) (by rw [HLD.out, HLT.out]; omega) (ps.drop J ++ ps.take J) n (rfl) HLA.out ?_
              intro p139 c139 W139 ho139
              refine hK.out _ _ trivial (fun _ => ?_)
              clear hK K
              try simp only [Act.put, List.getElem_toArray, List.getElem_cons_succ, List.getElem_cons_zero, List.setIfInBounds_toArray, List.set_cons_zero, List.set_cons_succ]
              have HO139 := Lib.hid ho139
              clear ho139
              refine wpAnyH_ready (rs := [9, 15]) (by kernel_rfl) (by simp) ?_
              refine AllReadyH.cons rfl (fun K hK => ?_) (AllReadyH.cons rfl (fun K hK => ?_) (AllReadyH.nil))
              · skip
                go_simp
                go_at_call 9
                refine (play_any W139 _ (ps.drop J ++ ps.take J) HO139.out.2.1.row (by rw [HLA.out]; omega) HFT.out).mono ?_
                rintro y W140 ⟨v6, rfl, hr6, hb6⟩
                obtain ⟨p6, c6, hv6⟩ := hr6.shape
                generalize (posOf (playM (ps.drop J ++ ps.take J))).length = n6 at hv6
                subst hv6
                have HO140 := Lib.hid (HO139.out.kept hb6)
                clear hr6 hb6
                unfold vecV
                try go_wp2_with fail
                refine hK.out _ _ trivial (fun _ => ?_)
                clear hK K
                try simp only [Act.put, List.getElem_toArray, List.getElem_cons_succ, List.getElem_cons_zero, List.setIfInBounds_toArray, List.set_cons_zero, List.set_cons_succ]
                refine wpAnyH_take (i := 10) (v := ?_) rfl (by kernel_rfl) (by kernel_rfl) (by kernel_rfl) (fun _ _ _ h => h) (Or.inl ⟨by kernel_rfl, ?_⟩) (by first | assumption | trivial) ?_
                rotate_left
                · intro w hSw
                  try dsimp only at hSw
                  first | (go_simp; done) | (go_simp; with_reducible rfl)
                try simp only [Act.put, List.getElem_toArray, List.getElem_cons_succ, List.getElem_cons_zero, List.setIfInBounds_toArray, List.set_cons_zero, List.set_cons_succ]
                refine wpAnyH_take (i := 11) (v := ?_) rfl (by kernel_rfl) (by kernel_rfl) (by kernel_rfl) (fun _ _ _ h => h) (Or.inl ⟨by kernel_rfl, ?_⟩) (by first | assumption | trivial) ?_
                rotate_left
                · intro w hSw
                  try dsimp only at hSw
                  first | (go_simp; done) | (go_simp; with_reducible rfl)
                try simp only [Act.put, List.getElem_toArray, List.getElem_cons_succ, List.getElem_cons_zero, List.setIfInBounds_toArray, List.set_cons_zero, List.set_cons_succ]
                refine wpAnyH_take (i := 12) (v := ?_) rfl (by kernel_rfl) (by kernel_rfl) (by kernel_rfl) (fun _ _ _ h => h) (Or.inl ⟨by kernel_rfl, ?_⟩) (by first | assumption | trivial) ?_
                rotate_left
                · intro w hSw
                  try dsimp only at hSw
                  first | (go_simp; done) | (go_simp; with_reducible rfl)
                try simp only [Act.put, List.getElem_toArray, List.getElem_cons_succ, List.getElem_cons_zero, List.setIfInBounds_toArray, List.set_cons_zero, List.set_cons_succ]
                refine wpAnyH_take (i := 13) (v := ?_) rfl (by kernel_rfl) (by kernel_rfl) (by kernel_rfl) (fun _ _ _ h => h) (Or.inl ⟨by kernel_rfl, ?_⟩) (by first | assumption | trivial) ?_
                rotate_left
                · intro w hSw
                  try dsimp only at hSw
                  first | (go_simp; done) | (go_simp; with_reducible rfl)
                try simp only [Act.put, List.getElem_toArray, List.getElem_cons_succ, List.getElem_cons_zero, List.setIfInBounds_toArray, List.set_cons_zero, List.set_cons_succ]
                refine wpAnyH_ready (rs := [15]) (by kernel_rfl) (by simp) ?_
                refine AllReadyH.cons rfl (fun K hK => ?_) (AllReadyH.nil)
                · skip
                  go_simp
                  refine hK.out _ _ trivial (fun _ => ?_)
                  clear hK K
                  try simp only [Act.put, List.getElem_toArray, List.getElem_cons_succ, List.getElem_cons_zero, List.setIfInBounds_toArray, List.set_cons_zero, List.set_cons_succ]
                  have HO141 := Lib.hid HO140.out.allocB
                  generalize W140.alloc (.cells #[.int .i64 0, .int .i64 0, .int .i64 0, .int .i64 0, .int .i64 0, .int .i64 0, .int .i64 0, .int .i64 0, .int .i64 0, .int .i64 0, .int .i64 0, .int .i64 0, .int .i64 0, .int .i64 0, .int .i64 0, .int .i64 0, .int .i64 0, .int .i64 0, .int .i64 0, .int .i64 0, .int .i64 0, .int .i64 0, .int .i64 0, .int .i64 0, .int .i64 0, .int .i64 0, .int .i64 0, .int .i64 0, .int .i64 0, .int .i64 0, .int .i64 0, .int .i64 0, .int .i64 0, .int .i64 0, .int .i64 0, .int .i64 0, .int .i64 0, .int .i64 0, .int .i64 0, .int .i64 0, .int .i64 0, .int .i64 0, .int .i64 0, .int .i64 0, .int .i64 0, .int .i64 0, .int .i64 0, .int .i64 0, .int .i64 0, .int .i64 0, .int .i64 0, .int .i64 0, .int .i64 0, .int .i64 0, .int .i64 0, .int .i64 0, .int .i64 0, .int .i64 0, .int .i64 0, .int .i64 0, .int .i64 0, .int .i64 0, .int .i64 0, .int .i64 0] 30) = W141 at *
                  obtain ⟨hbO, _, hA, hB, hAB⟩ := HO141.out
                  have HA := Lib.hid (hA _ rfl)
                  have HBq := Lib.hid (hB _ rfl)
                  have HAB := Lib.hid (hAB _ _ rfl rfl)
                  have HBO := Lib.hid hbO
                  clear hbO hA hB hAB
                  have q0 : W141.cell? ⟨W101.heap.size, 0, none⟩ = some (.slice none 0 0) := HA.out.1.cell 0
                  have qf := HA.out.1.free 0
                  have ql := HA.out.1.lt
                  refine wpAnyH_ready (rs := [16]) (by kernel_rfl) (by simp) ?_
                  refine AllReadyH.cons rfl (fun K hK => ?_) AllReadyH.nil
                  go_simp
                  refine hK.out _ _ trivial (fun hS => ?_)
                  clear hK K
                  try simp only [Act.put, List.getElem_toArray, List.getElem_cons_succ, List.getElem_cons_zero, List.setIfInBounds_toArray, List.set_cons_zero, List.set_cons_succ]
                  have HB2 := Lib.hid (HBq.out.1.setOther (a := ⟨W101.heap.size, 0, none⟩) HAB.out (.slice p6 n6 c6))
                  have HW2 := Lib.hid (HBO.out.setCell (p := ⟨W101.heap.size, 0, none⟩) HA.out.2.1 (.slice p6 n6 c6))
                  have HTH : Hid ((W141.setCell ⟨W101.heap.size, 0, none⟩ (.slice p6 n6 c6)).there W140.heap.size 0 (mCells (playM (ps.drop J ++ ps.take J))).size) := by
                    have h1 := HB2.out.there
                    rw [mCells_size, playM_len]
                    exact h1
                  refine wpAnyH_ready (rs := [17]) (by kernel_rfl) (by simp) ?_
                  refine AllReadyH.cons rfl (fun K hK => ?_) AllReadyH.nil
                  rw [if_pos (by kernel_rfl)]
                  refine wp_store_mid 30 (.tmp 12) (.tmp 65) rfl (W140.heap.size) 0 (mCells (playM (ps.drop J ++ ps.take J))) rfl rfl HTH.out HIN.out (mCells_one _) ?_
                  refine hK.out _ _ trivial (fun hS => ?_)
                  clear hK K
                  try simp only [Act.put, List.getElem_toArray, List.getElem_cons_succ, List.getElem_cons_zero, List.setIfInBounds_toArray, List.set_cons_zero, List.set_cons_succ]
                  refine wpAnyH_take (i := 18) (v := ?_) rfl (by kernel_rfl) (by kernel_rfl) (by kernel_rfl) (fun _ _ _ h => h) (Or.inl ⟨by kernel_rfl, ?_⟩) (by first | assumption | trivial) ?_
                  rotate_left
                  · intro w hSw
                    try dsimp only at hSw
                    first | (go_simp; done) | (go_simp; with_reducible rfl)
                  try simp only [Act.put, List.getElem_toArray, List.getElem_cons_succ, List.getElem_cons_zero, List.setIfInBounds_toArray, List.set_cons_zero, List.set_cons_succ]
                  refine wpAnyH_done (by kernel_rfl) ?_ _
                  have hb9 := blk_store HB2.out (mCells (playM (ps.drop J ++ ps.take J))) (by rw [mCells_size, playM_len]; rfl)
                  have hw9 := HW2.out.trans ((Chg.setCells (W140.heap.size) (mCells (playM (ps.drop J ++ ps.take J))).toList 0 _ _ (Chg.refl (W140.heap.size) (W141.setCell ⟨W101.heap.size, 0, none⟩ (.slice p6 n6 c6)))).below HBq.out.2.1 HW2.out.size)
                  have HFIN := Lib.hid (And.intro hb9 hw9)
                  clear hb9 hw9 q0 qf ql
                  go_wp2_with fail
                  go_meet
                  exact ⟨_, rfl, rfl, HFIN⟩
              · skip
                go_simp
                refine hK.out _ _ trivial (fun _ => ?_)
                clear hK K
                try simp only [Act.put, List.getElem_toArray, List.getElem_cons_succ, List.getElem_cons_zero, List.setIfInBounds_toArray, List.set_cons_zero, List.set_cons_succ]
                have HO142 := Lib.hid HO139.out.allocB
                generalize W139.alloc (.cells #[.int .i64 0, .int .i64 0, .int .i64 0, .int .i64 0, .int .i64 0, .int .i64 0, .int .i64 0, .int .i64 0, .int .i64 0, .int .i64 0, .int .i64 0, .int .i64 0, .int .i64 0, .int .i64 0, .int .i64 0, .int .i64 0, .int .i64 0, .int .i64 0, .int .i64 0, .int .i64 0, .int .i64 0, .int .i64 0, .int .i64 0, .int .i64 0, .int .i64 0, .int .i64 0, .int .i64 0, .int .i64 0, .int .i64 0, .int .i64 0, .int .i64 0, .int .i64 0, .int .i64 0, .int .i64 0, .int .i64 0, .int .i64 0, .int .i64 0, .int .i64 0, .int .i64 0, .int .i64 0, .int .i64 0, .int .i64 0, .int .i64 0, .int .i64 0, .int .i64 0, .int .i64 0, .int .i64 0, .int .i64 0, .int .i64 0, .int .i64 0, .int .i64 0, .int .i64 0, .int .i64 0, .int .i64 0, .int .i64 0, .int .i64 0, .int .i64 0, .int .i64 0, .int .i64 0, .int .i64 0, .int .i64 0, .int .i64 0, .int .i64 0, .int .i64 0] 30) = W142 at *
                refine wpAnyH_ready (rs := [9]) (by kernel_rfl) (by simp) ?_
                refine AllReadyH.cons rfl (fun K hK => ?_) (AllReadyH.nil)
                · skip
                  go_simp
                  go_at_call 9
                  refine (play_any W142 _ (ps.drop J ++ ps.take J) HO142.out.2.1.row (by rw [HLA.out]; omega) HFT.out).mono ?_
                  rintro y W143 ⟨v6, rfl, hr6, hb6⟩
                  obtain ⟨p6, c6, hv6⟩ := hr6.shape
                  generalize (posOf (playM (ps.drop J ++ ps.take J))).length = n6 at hv6
                  subst hv6
                  have HO143 := Lib.hid (HO142.out.kept hb6)
                  clear hr6 hb6
                  unfold vecV
                  try go_wp2_with fail
                  refine hK.out _ _ trivial (fun _ => ?_)
                  clear hK K
                  try simp only [Act.put, List.getElem_toArray, List.getElem_cons_succ, List.getElem_cons_zero, List.setIfInBounds_toArray, List.set_cons_zero, List.set_cons_succ]
                  refine wpAnyH_take (i := 10) (v := ?_) rfl (by kernel_rfl) (by kernel_rfl) (by kernel_rfl) (fun _ _ _ h => h) (Or.inl ⟨by kernel_rfl, ?_⟩) (by first | assumption | trivial) ?_
                  rotate_left
                  · intro w hSw
                    try dsimp only at hSw
                    first | (go_simp; done) | (go_simp; with_reducible rfl)
                  try simp only [Act.put, List.getElem_toArray, List.getElem_cons_succ, List.getElem_cons_zero, List.setIfInBounds_toArray, List.set_cons_zero, List.set_cons_succ]
                  refine wpAnyH_take (i := 11) (v := ?_) rfl (by kernel_rfl) (by kernel_rfl) (by kernel_rfl) (fun _ _ _ h => h) (Or.inl ⟨by kernel_rfl, ?_⟩) (by first | assumption | trivial) ?_
                  rotate_left
                  · intro w hSw
                    try dsimp only at hSw
                    first | (go_simp; done) | (go_simp; with_reducible rfl)
                  try simp only [Act.put, List.getElem_toArray, List.getElem_cons_succ, List.getElem_cons_zero, List.setIfInBounds_toArray, List.set_cons_zero, List.set_cons_succ]
                  refine wpAnyH_take (i := 12) (v := ?_) rfl (by kernel_rfl) (by kernel_rfl) (by kernel_rfl) (fun _ _ _ h => h) (Or.inl ⟨by kernel_rfl, ?_⟩) (by first | assumption | trivial) ?_
                  rotate_left
                  · intro w hSw
                    try dsimp only at hSw
                    first | (go_simp; done) | (go_simp; with_reducible rfl)
                  try simp only [Act.put, List.getElem_toArray, List.getElem_cons_succ, List.getElem_cons_zero, List.setIfInBounds_toArray, List.set_cons_zero, List.set_cons_succ]
                  refine wpAnyH_take (i := 13) (v := ?_) rfl (by kernel_rfl) (by kernel_rfl) (by kernel_rfl) (fun _ _ _ h => h) (Or.inl ⟨by kernel_rfl, ?_⟩) (by first | assumption | trivial) ?_
                  rotate_left
                  · intro w hSw
                    try dsimp only at hSw
                    first | (go_simp; done) | (go_simp; with_reducible rfl)
                  try simp only [Act.put, List.getElem_toArray, List.getElem_cons_succ, List.getElem_cons_zero, List.setIfInBounds_toArray, List.set_cons_zero, List.set_cons_succ]
                  obtain ⟨hbO, _, hA, hB, hAB⟩ := HO143.out
                  have HA := Lib.hid (hA _ rfl)
                  have HBq := Lib.hid (hB _ rfl)
                  have HAB := Lib.hid (hAB _ _ rfl rfl)
                  have HBO := Lib.hid hbO
                  clear hbO hA hB hAB
                  have q0 : W143.cell? ⟨W101.heap.size, 0, none⟩ = some (.slice none 0 0) := HA.out.1.cell 0
                  have qf := HA.out.1.free 0
                  have ql := HA.out.1.lt
                  refine wpAnyH_ready (rs := [16]) (by kernel_rfl) (by simp) ?_
                  refine AllReadyH.cons rfl (fun K hK => ?_) AllReadyH.nil
                  go_simp
                  refine hK.out _ _ trivial (fun hS => ?_)
                  clear hK K
                  try simp only [Act.put, List.getElem_toArray, List.getElem_cons_succ, List.getElem_cons_zero, List.setIfInBounds_toArray, List.set_cons_zero, List.set_cons_succ]
                  have HB2 := Lib.hid (HBq.out.1.setOther (a := ⟨W101.heap.size, 0, none⟩) HAB.out (.slice p6 n6 c6))
                  have HW2 := Lib.hid (HBO.out.setCell (p := ⟨W101.heap.size, 0, none⟩) HA.out.2.1 (.slice p6 n6 c6))
                  have HTH : Hid ((W143.setCell ⟨W101.heap.size, 0, none⟩ (.slice p6 n6 c6)).there W139.heap.size 0 (mCells (playM (ps.drop J ++ ps.take J))).size) := by
                    have h1 := HB2.out.there
                    rw [mCells_size, playM_len]
                    exact h1
                  refine wpAnyH_ready (rs := [17]) (by kernel_rfl) (by simp) ?_
                  refine AllReadyH.cons rfl (fun K hK => ?_) AllReadyH.nil
                  rw [if_pos (by kernel_rfl)]
                  refine wp_store_mid 30 (.tmp 12) (.tmp 65) rfl (W139.heap.size) 0 (mCells (playM (ps.drop J ++ ps.take J))) rfl rfl HTH.out HIN.out (mCells_one _) ?_
                  refine hK.out _ _ trivial (fun hS => ?_)
                  clear hK K
                  try simp only [Act.put, List.getElem_toArray, List.getElem_cons_succ, List.getElem_cons_zero, List.setIfInBounds_toArray, List.set_cons_zero, List.set_cons_succ]
                  refine wpAnyH_take (i := 18) (v := ?_) rfl (by kernel_rfl) (by kernel_rfl) (by kernel_rfl) (fun _ _ _ h => h) (Or.inl ⟨by kernel_rfl, ?_⟩) (by first | assumption | trivial) ?_
                  rotate_left
                  · intro w hSw
                    try dsimp only at hSw
                    first | (go_simp; done) | (go_simp; with_reducible rfl)
                  try simp only [Act.put, List.getElem_toArray, List.getElem_cons_succ, List.getElem_cons_zero, List.setIfInBounds_toArray, List.set_cons_zero, List.set_cons_succ]
                  refine wpAnyH_done (by kernel_rfl) ?_ _
                  have hb9 := blk_store HB2.out (mCells (playM (ps.drop J ++ ps.take J))) (by rw [mCells_size, playM_len]; rfl)
                  have hw9 := HW2.out.trans ((Chg.setCells (W139.heap.size) (mCells (playM (ps.drop J ++ ps.take J))).toList 0 _ _ (Chg.refl (W139.heap.size) (W143.setCell ⟨W101.heap.size, 0, none⟩ (.slice p6 n6 c6)))).below HBq.out.2.1 HW2.out.size)
                  have HFIN := Lib.hid (And.intro hb9 hw9)
                  clear hb9 hw9 q0 qf ql
                  go_wp2_with fail
                  go_meet
                  exact ⟨_, rfl, rfl, HFIN⟩
            · skip
              go_simp
              refine hK.out _ _ trivial (fun _ => ?_)
              clear hK K
              try simp only [Act.put, List.getElem_toArray, List.getElem_cons_succ, List.getElem_cons_zero, List.setIfInBounds_toArray, List.set_cons_zero, List.set_cons_succ]
              have HO144 := Lib.hid HO138.out.allocB
              generalize W138.alloc (.cells #[.int .i64 0, .int .i64 0, .int .i64 0, .int .i64 0, .int .i64 0, .int .i64 0, .int .i64 0, .int .i64 0, .int .i64 0, .int .i64 0, .int .i64 0, .int .i64 0, .int .i64 0, .int .i64 0, .int .i64 0, .int .i64 0, .int .i64 0, .int .i64 0, .int .i64 0, .int .i64 0, .int .i64 0, .int .i64 0, .int .i64 0, .int .i64 0, .int .i64 0, .int .i64 0, .int .i64 0, .int .i64 0, .int .i64 0, .int .i64 0, .int .i64 0, .int .i64 0, .int .i64 0, .int .i64 0, .int .i64 0, .int .i64 0, .int .i64 0, .int .i64 0, .int .i64 0, .int .i64 0, .int .i64 0, .int .i64 0, .int .i64 0, .int .i64 0, .int .i64 0, .int .i64 0, .int .i64 0, .int .i64 0, .int .i64 0, .int .i64 0, .int .i64 0, .int .i64 0, .int .i64 0, .int .i64 0, .int .i64 0, .int .i64 0, .int .i64 0, .int .i64 0, .int .i64 0, .int .i64 0, .int .i64 0, .int .i64 0, .int .i64 0, .int .i64 0] 30) = W144 at *
              refine wpAnyH_ready (rs := [8]) (by kernel_rfl) (by simp) ?_
              refine AllReadyH.cons rfl (fun K hK => ?_) (AllReadyH.nil)
              · skip
                refine step_append_o rfl (.tmp 58) (.tmp 61) 22 rfl 46 elt_put _ _ (ps.drop J) (ps.take J) rfl rfl HO144.out (HVT.out.kept HO144.out.1) (by rw [HLD.out, HLT.out]; omega) (ps.drop J ++ ps.take J) n (rfl) HLA.out ?_
                intro p145 c145 W145 ho145
                refine hK.out _ _ trivial (fun _ => ?_)
                clear hK K
                try simp only [Act.put, List.getElem_toArray, List.getElem_cons_succ, List.getElem_cons_zero, List.setIfInBounds_toArray, List.set_cons_zero, List.set_cons_succ]
                have HO145 := Lib.hid ho145
                clear ho145
                refine wpAnyH_ready (rs := [9]) (by kernel_rfl) (by simp) ?_
                refine AllReadyH.cons rfl (fun K hK => ?_) (AllReadyH.nil)
                · skip
                  go_simp
                  go_at_call 9
                  refine (play_any W145 _ (ps.drop J ++ ps.take J) HO145.out.2.1.row (by rw [HLA.out]; omega) HFT.out).mono ?_
                  rintro y W146 ⟨v6, rfl, hr6, hb6⟩
                  obtain ⟨p6, c6, hv6⟩ := hr6.shape
                  generalize (posOf (playM (ps.drop J ++ ps.take J))).length = n6 at hv6
                  subst hv6
                  have HO146 := Lib.hid (HO145.out.kept hb6)
                  clear hr6 hb6
                  unfold vecV
                  try go_wp2_with fail
                  refine hK.out _ _ trivial (fun _ => ?_)
                  clear hK K
                  try simp only [Act.put, List.getElem_toArray, List.getElem_cons_succ, List.getElem_cons_zero, List.setIfInBounds_toArray, List.set_cons_zero, List.set_cons_succ]
                  refine wpAnyH_take (i := 10) (v := ?_) rfl (by kernel_rfl) (by kernel_rfl) (by kernel_rfl) (fun _ _ _ h => h) (Or.inl ⟨by kernel_rfl, ?_⟩) (by first | assumption | trivial) ?_
                  rotate_left
                  · intro w hSw
                    try dsimp only at hSw
                    first | (go_simp; done) | (go_simp; with_reducible rfl)
                  try simp only [Act.put, List.getElem_toArray, List.getElem_cons_succ, List.getElem_cons_zero, List.setIfInBounds_toArray, List.set_cons_zero, List.set_cons_succ]
                  refine wpAnyH_take (i := 11) (v := ?_) rfl (by kernel_rfl) (by kernel_rfl) (by kernel_rfl) (fun _ _ _ h => h) (Or.inl ⟨by kernel_rfl, ?_⟩) (by first | assumption | trivial) ?_
                  rotate_left
                  · intro w hSw
                    try dsimp only at hSw
                    first | (go_simp; done) | (go_simp; with_reducible rfl)
                  try simp only [Act.put, List.getElem_toArray, List.getElem_cons_succ, List.getElem_cons_zero, List.setIfInBounds_toArray, List.set_cons_zero, List.set_cons_succ]
                  refine wpAnyH_take (i := 12) (v := ?_) rfl (by kernel_rfl) (by kernel_rfl) (by kernel_rfl) (fun _ _ _ h => h) (Or.inl ⟨by kernel_rfl, ?_⟩) (by first | assumption | trivial) ?_
                  rotate_left
                  · intro w hSw
                    try dsimp only at hSw
                    first | (go_simp; done) | (go_simp; with_reducible rfl)
                  try simp only [Act.put, List.getElem_toArray, List.getElem_cons_succ, List.getElem_cons_zero, List.setIfInBounds_toArray, List.set_cons_zero, List.set_cons_succ]
                  refine wpAnyH_take (i := 13) (v := ?_) rfl (by kernel_rfl) (by kernel_rfl) (by kernel_rfl) (fun _ _ _ h => h) (Or.inl ⟨by kernel_rfl, ?_⟩) (by first | assumption | trivial) ?_
                  rotate_left
                  · intro w hSw
                    try dsimp only at hSw
                    first | (go_simp; done) | (go_simp; with_reducible rfl)
                  try simp only [Act.put, List.getElem_toArray, List.getElem_cons_succ, List.getElem_cons_zero, List.setIfInBounds_toArray, List.set_cons_zero, List.set_cons_succ]
                  obtain ⟨hbO, _, hA, hB, hAB⟩ := HO146.out
                  have HA := Lib.hid (hA _ rfl)
                  have HBq := Lib.hid (hB _ rfl)
                  have HAB := Lib.hid (hAB _ _ rfl rfl)
                  have HBO := Lib.hid hbO
                  clear hbO hA hB hAB
                  have q0 : W146.cell? ⟨W101.heap.size, 0, none⟩ = some (.slice none 0 0) := HA.out.1.cell 0
                  have qf := HA.out.1.free 0
                  have ql := HA.out.1.lt
                  refine wpAnyH_ready (rs := [16]) (by kernel_rfl) (by simp) ?_
                  refine AllReadyH.cons rfl (fun K hK => ?_) AllReadyH.nil
                  go_simp
                  refine hK.out _ _ trivial (fun hS => ?_)
                  clear hK K
                  try simp only [Act.put, List.getElem_toArray, List.getElem_cons_succ, List.getElem_cons_zero, List.setIfInBounds_toArray, List.set_cons_zero, List.set_cons_succ]
                  have HB2 := Lib.hid (HBq.out.1.setOther (a := ⟨W101.heap.size, 0, none⟩) HAB.out (.slice p6 n6 c6))
                  have HW2 := Lib.hid (HBO.out.setCell (p := ⟨W101.heap.size, 0, none⟩) HA.out.2.1 (.slice p6 n6 c6))
                  have HTH : Hid ((W146.setCell ⟨W101.heap.size, 0, none⟩ (.slice p6 n6 c6)).there W138.heap.size 0 (mCells (playM (ps.drop J ++ ps.take J))).size) := by
                    have h1 := HB2.out.there
                    rw [mCells_size, playM_len]
                    exact h1
                  refine wpAnyH_ready (rs := [17]) (by kernel_rfl) (by simp) ?_
                  refine AllReadyH.cons rfl (fun K hK => ?_) AllReadyH.nil
                  rw [if_pos (by kernel_rfl)]
                  refine wp_store_mid 30 (.tmp 12) (.tmp 65) rfl (W138.heap.size) 0 (mCells (playM (ps.drop J ++ ps.take J))) rfl rfl HTH.out HIN.out (mCells_one _) ?_
                  refine hK.out _ _ trivial (fun hS => ?_)
                  clear hK K
                  try simp only [Act.put, List.getElem_toArray, List.getElem_cons_succ, List.getElem_cons_zero, List.setIfInBounds_toArray, List.set_cons_zero, List.set_cons_succ]
                  refine wpAnyH_take (i := 18) (v := ?_) rfl (by kernel_rfl) (by kernel_rfl) (by kernel_rfl) (fun _ _ _ h => h) (Or.inl ⟨by kernel_rfl, ?_⟩) (by first | assumption | trivial) ?_
                  rotate_left
                  · intro w hSw
                    try dsimp only at hSw
                    first | (go_simp; done) | (go_simp; with_reducible rfl)
                  try simp only [Act.put, List.getElem_toArray, List.getElem_cons_succ, List.getElem_cons_zero, List.setIfInBounds_toArray, List.set_cons_zero, List.set_cons_succ]
                  refine wpAnyH_done (by kernel_rfl) ?_ _
                  have hb9 := blk_store HB2.out (mCells (playM (ps.drop J ++ ps.take J))) (by rw [mCells_size, playM_len]; rfl)
                  have hw9 := HW2.out.trans ((Chg.setCells (W138.heap.size) (mCells (playM (ps.drop J ++ ps.take J))).toList 0 _ _ (Chg.refl (W138.heap.size) (W146.setCell ⟨W101.heap.size, 0, none⟩ (.slice p6 n6 c6)))).below HBq.out.2.1 HW2.out.size)
                  have HFIN := Lib.hid (And.intro hb9 hw9)
                  clear hb9 hw9 q0 qf ql
                  go_wp2_with fail
                  go_meet
                  exact ⟨_, rfl, rfl, HFIN⟩
          · skip
            go_simp
            refine hK.out _ _ trivial (fun _ => ?_)
            clear hK K
            try simp only [Act.put, List.getElem_toArray, List.getElem_cons_succ, List.getElem_cons_zero, List.setIfInBounds_toArray, List.set_cons_zero, List.set_cons_succ]
            have HO147 := Lib.hid HO137.out.allocB
            generalize W137.alloc (.cells #[.int .i64 0, .int .i64 0, .int .i64 0, .int .i64 0, .int .i64 0, .int .i64 0, .int .i64 0, .int .i64 0, .int .i64 0, .int .i64 0, .int .i64 0, .int .i64 0, .int .i64 0, .int .i64 0, .int .i64 0, .int .i64 0, .int .i64 0, .int .i64 0, .int .i64 0, .int .i64 0, .int .i64 0, .int .i64 0, .int .i64 0, .int .i64 0, .int .i64 0, .int .i64 0, .int .i64 0, .int .i64 0, .int .i64 0, .int .i64 0, .int .i64 0, .int .i64 0, .int .i64 0, .int .i64 0, .int .i64 0, .int .i64 0, .int .i64 0, .int .i64 0, .int .i64 0, .int .i64 0, .int .i64 0, .int .i64 0, .int .i64 0, .int .i64 0, .int .i64 0, .int .i64 0, .int .i64 0, .int .i64 0, .int .i64 0, .int .i64 0, .int .i64 0, .int .i64 0, .int .i64 0, .int .i64 0, .int .i64 0, .int .i64 0, .int .i64 0, .int .i64 0, .int .i64 0, .int .i64 0, .int .i64 0, .int .i64 0, .int .i64 0, .int .i64 0] 30) = W147 at *
            refine wpAnyH_ready (rs := [4]) (by kernel_rfl) (by simp) ?_
            refine AllReadyH.cons rfl (fun K hK => ?_) (AllReadyH.nil)
            · skip
              refine step_append_o rfl (.tmp 54) (.tmp 57) 22 rfl 46 elt_put _ _ ([]) (ps.drop J) rfl rfl HO147.out (HVD.out.kept HO147.out.1) (by rw [HLD.out]; simp only [List.length_nil]; omega) (ps.drop J) (n - J) (List.nil_append _) HLD.out ?_
              intro p148 c148 W148 ho148
              refine hK.out _ _ trivial (fun _ => ?_)
              clear hK K
              try simp only [Act.put, List.getElem_toArray, List.getElem_cons_succ, List.getElem_cons_zero, List.setIfInBounds_toArray, List.set_cons_zero, List.set_cons_succ]
              have HO148 := Lib.hid ho148
              clear ho148
              refine wpAnyH_ready (rs := [8]) (by kernel_rfl) (by simp) ?_
              refine AllReadyH.cons rfl (fun K hK => ?_) (AllReadyH.nil)
              · skip
                refine step_append_o rfl (.tmp 58) (.tmp 61) 22 rfl 46 elt_put _ _ (ps.drop J) (ps.take J) rfl rfl HO148.out (HVT.out.kept HO148.out.1) (by rw [HLD.out, HLT.out]; omega) (ps.drop J ++ ps.take J) n (rfl) HLA.out ?_
                intro p149 c149 W149 ho149
                refine hK.out _ _ trivial (fun _ => ?_)
                clear hK K
                try simp only [Act.put, List.getElem_toArray, List.getElem_cons_succ, List.getElem_cons_zero, List.setIfInBounds_toArray, List.set_cons_zero, List.set_cons_succ]
                have HO149 := Lib.hid ho149
                clear ho149
                refine wpAnyH_ready (rs := [9]) (by kernel_rfl) (by simp) ?_
                refine AllReadyH.cons rfl (fun K hK => ?_) (AllReadyH.nil)
                · skip
                  go_simp
                  go_at_call 9
                  refine (play_any W149 _ (ps.drop J ++ ps.take J) HO149.out.2.1.row (by rw [HLA.out]; omega) HFT.out).mono ?_
                  rintro y W150 ⟨v6, rfl, hr6, hb6⟩
                  obtain ⟨p6, c6, hv6⟩ := hr6.shape
                  generalize (posOf (playM (ps.drop J ++ ps.take J))).length = n6 at hv6
                  subst hv6
                  have HO150 := Lib.hid (HO149.out.kept hb6)
                  clear hr6 hb6
                  unfold vecV
                  try go_wp2_with fail
                  refine hK.out _ _ trivial (fun _ => ?_)
                  clear hK K
                  try simp only [Act.put, List.getElem_toArray, List.getElem_cons_succ, List.getElem_cons_zero, List.setIfInBounds_toArray, List.set_cons_zero, List.set_cons_succ]
                  refine wpAnyH_take (i := 10) (v := ?_) rfl (by kernel_rfl) (by kernel_rfl) (by kernel_rfl) (fun _ _ _ h => h) (Or.inl ⟨by kernel_rfl, ?_⟩) (by first | assumption | trivial) ?_
                  rotate_left
                  · intro w hSw
                    try dsimp only at hSw
                    first | (go_simp; done) | (go_simp; with_reducible rfl)
                  try simp only [Act.put, List.getElem_toArray, List.getElem_cons_succ, List.getElem_cons_zero, List.setIfInBounds_toArray, List.set_cons_zero, List.set_cons_succ]
                  refine wpAnyH_take (i := 11) (v := ?_) rfl (by kernel_rfl) (by kernel_rfl) (by kernel_rfl) (fun _ _ _ h => h) (Or.inl ⟨by kernel_rfl, ?_⟩) (by first | assumption | trivial) ?_
                  rotate_left
                  · intro w hSw
                    try dsimp only at hSw
                    first | (go_simp; done) | (go_simp; with_reducible rfl)
                  try simp only [Act.put, List.getElem_toArray, List.getElem_cons_succ, List.getElem_cons_zero, List.setIfInBounds_toArray, List.set_cons_zero, List.set_cons_succ]
                  refine wpAnyH_take (i := 12) (v := ?_) rfl (by kernel_rfl) (by kernel_rfl) (by kernel_rfl) (fun _ _ _ h => h) (Or.inl ⟨by kernel_rfl, ?_⟩) (by first | assumption | trivial) ?_
                  rotate_left
                  · intro w hSw
                    try dsimp only at hSw
                    first | (go_simp; done) | (go_simp; with_reducible rfl)
                  try simp only [Act.put, List.getElem_toArray, List.getElem_cons_succ, List.getElem_cons_zero, List.setIfInBounds_toArray, List.set_cons_zero, List.set_cons_succ]
                  refine wpAnyH_take (i := 13) (v := ?_) rfl (by kernel_rfl) (by kernel_rfl) (by kernel_rfl) (fun _ _ _ h => h) (Or.inl ⟨by kernel_rfl, ?_⟩) (by first | assumption | trivial) ?_
                  rotate_left
                  · intro w hSw
                    try dsimp only at hSw
                    first | (go_simp; done) | (go_simp; with_reducible rfl)
                  try simp only [Act.put, List.getElem_toArray, List.getElem_cons_succ, List.getElem_cons_zero, List.setIfInBounds_toArray, List.set_cons_zero, List.set_cons_succ]
                  obtain ⟨hbO, _, hA, hB, hAB⟩ := HO150.out
                  have HA := Lib.hid (hA _ rfl)
                  have HBq := Lib.hid (hB _ rfl)
                  have HAB := Lib.hid (hAB _ _ rfl rfl)
                  have HBO := Lib.hid hbO
                  clear hbO hA hB hAB
                  have q0 : W150.cell? ⟨W101.heap.size, 0, none⟩ = some (.slice none 0 0) := HA.out.1.cell 0
                  have qf := HA.out.1.free 0
                  have ql := HA.out.1.lt
                  refine wpAnyH_ready (rs := [16]) (by kernel_rfl) (by simp) ?_
                  refine AllReadyH.cons rfl (fun K hK => ?_) AllReadyH.nil
                  go_simp
                  refine hK.out _ _ trivial (fun hS => ?_)
                  clear hK K
                  try simp only [Act.put, List.getElem_toArray, List.getElem_cons_succ, List.getElem_cons_zero, List.setIfInBounds_toArray, List.set_cons_zero, List.set_cons_succ]
                  have HB2 := Lib.hid (HBq.out.1.setOther (a := ⟨W101.heap.size, 0, none⟩) HAB.out (.slice p6 n6 c6))
                  have HW2 := Lib.hid (HBO.out.setCell (p := ⟨W101.heap.size, 0, none⟩) HA.out.2.1 (.slice p6 n6 c6))
                  have HTH : Hid ((W150.setCell ⟨W101.heap.size, 0, none⟩ (.slice p6 n6 c6)).there W137.heap.size 0 (mCells (playM (ps.drop J ++ ps.take J))).size) := by
                    have h1 := HB2.out.there
                    rw [mCells_size, playM_len]
                    exact h1
                  refine wpAnyH_ready (rs := [17]) (by kernel_rfl) (by simp) ?_
                  refine AllReadyH.cons rfl (fun K hK => ?_) AllReadyH.nil
                  rw [if_pos (by kernel_rfl)]
                  refine wp_store_mid 30 (.tmp 12) (.tmp 65) rfl (W137.heap.size) 0 (mCells (playM (ps.drop J ++ ps.take J))) rfl rfl HTH.out HIN.out (mCells_one _) ?_
                  refine hK.out _ _ trivial (fun hS => ?_)
                  clear hK K
                  try simp only [Act.put, List.getElem_toArray, List.getElem_cons_succ, List.getElem_cons_zero, List.setIfInBounds_toArray, List.set_cons_zero, List.set_cons_succ]
                  refine wpAnyH_take (i := 18) (v := ?_) rfl (by kernel_rfl) (by kernel_rfl) (by kernel_rfl) (fun _ _ _ h => h) (Or.inl ⟨by kernel_rfl, ?_⟩) (by first | assumption | trivial) ?_
                  rotate_left
                  · intro w hSw
                    try dsimp only at hSw
                    first | (go_simp; done) | (go_simp; with_reducible rfl)
                  try simp only [Act.put, List.getElem_toArray, List.getElem_cons_succ, List.getElem_cons_zero, List.setIfInBounds_toArray, List.set_cons_zero, List.set_cons_succ]
                  refine wpAnyH_done (by kernel_rfl) ?_ _
                  have hb9 := blk_store HB2.out (mCells (playM (ps.drop J ++ ps.take J))) (by rw [mCells_size, playM_len]; rfl)
                  have hw9 := HW2.out.trans ((Chg.setCells (W137.heap.size) (mCells (playM (ps.drop J ++ ps.take J))).toList 0 _ _ (Chg.refl (W137.heap.size) (W150.setCell ⟨W101.heap.size, 0, none⟩ (.slice p6 n6 c6)))).below HBq.out.2.1 HW2.out.size)
                  have HFIN := Lib.hid (And.intro hb9 hw9)
                  clear hb9 hw9 q0 qf ql
                  go_wp2_with fail
                  go_meet
                  exact ⟨_, rfl, rfl, HFIN⟩
        · skip
          go_simp
          refine hK.out _ _ trivial (fun _ => ?_)
          clear hK K
          try simp only [Act.put, List.getElem_toArray, List.getElem_cons_succ, List.getElem_cons_zero, List.setIfInBounds_toArray, List.set_cons_zero, List.set_cons_succ]
          have HO151 := Lib.hid HO101.out.allocB
          generalize W101.alloc (.cells #[.int .i64 0, .int .i64 0, .int .i64 0, .int .i64 0, .int .i64 0, .int .i64 0, .int .i64 0, .int .i64 0, .int .i64 0, .int .i64 0, .int .i64 0, .int .i64 0, .int .i64 0, .int .i64 0, .int .i64 0, .int .i64 0, .int .i64 0, .int .i64 0, .int .i64 0, .int .i64 0, .int .i64 0, .int .i64 0, .int .i64 0, .int .i64 0, .int .i64 0, .int .i64 0, .int .i64 0, .int .i64 0, .int .i64 0, .int .i64 0, .int .i64 0, .int .i64 0, .int .i64 0, .int .i64 0, .int .i64 0, .int .i64 0, .int .i64 0, .int .i64 0, .int .i64 0, .int .i64 0, .int .i64 0, .int .i64 0, .int .i64 0, .int .i64 0, .int .i64 0, .int .i64 0, .int .i64 0, .int .i64 0, .int .i64 0, .int .i64 0, .int .i64 0, .int .i64 0, .int .i64 0, .int .i64 0, .int .i64 0, .int .i64 0, .int .i64 0, .int .i64 0, .int .i64 0, .int .i64 0, .int .i64 0, .int .i64 0, .int .i64 0, .int .i64 0] 30) = W151 at *
          refine wpAnyH_ready (rs := [4, 14]) (by kernel_rfl) (by simp) ?_
          refine AllReadyH.cons rfl (fun K hK => ?_) (AllReadyH.cons rfl (fun K hK => ?_) (AllReadyH.nil))
          · skip
            refine step_append_o rfl (.tmp 54) (.tmp 57) 22 rfl 46 elt_put _ _ ([]) (ps.drop J) rfl rfl HO151.out (HVD.out.kept HO151.out.1) (by rw [HLD.out]; simp only [List.length_nil]; omega) (ps.drop J) (n - J) (List.nil_append _) HLD.out ?_
            intro p152 c152 W152 ho152
            refine hK.out _ _ trivial (fun _ => ?_)
            clear hK K
            try simp only [Act.put, List.getElem_toArray, List.getElem_cons_succ, List.getElem_cons_zero, List.setIfInBounds_toArray, List.set_cons_zero, List.set_cons_succ]
            have HO152 := Lib.hid ho152
            clear ho152
            refine wpAnyH_ready (rs := [8, 14]) (by kernel_rfl) (by simp) ?_
            refine AllReadyH.cons rfl (fun K hK => ?_) (AllReadyH.cons rfl (fun K hK => ?_) (AllReadyH.nil))
            · skip
              refine step_append_o rfl (.tmp 58) (.tmp 61) 22 rfl 46 elt_put _ _ (ps.drop J) (ps.take J) rfl rfl HO152.out (HVT.out.kept HO152.out.1) (by rw [HLD.out, HLT.out]; omega) (ps.drop J ++ ps.take J) n (rfl) HLA.out ?_
              intro p153 c153 W153 ho153
              refine hK.out _ _ trivial (fun _ => ?_)
              clear hK K
              try simp only [Act.put, List.getElem_toArray, List.getElem_cons_succ, List.getElem_cons_zero, List.setIfInBounds_toArray, List.set_cons_zero, List.set_cons_succ]
              have HO153 := Lib.hid ho153
              clear ho153
              refine wpAnyH_ready (rs := [9, 14]) (by kernel_rfl) (by simp) ?_
              refine AllReadyH.cons rfl (fun K hK => ?_) (AllReadyH.cons rfl (fun K hK => ?_) (AllReadyH.nil))
              · skip
                go_simp
                go_at_call 9
                refine (play_any W153 _ (ps.drop J ++ ps.take J) HO153.out.2.1.row (by rw [HLA.out]; omega) HFT.out).mono ?_
                rintro y W154 ⟨v6, rfl, hr6, hb6⟩
                obtain ⟨p6, c6, hv6⟩ := hr6.shape
                generalize (posOf (playM (ps.drop J ++ ps.take J))).length = n6 at hv6
                subst hv6
                have HO154 := Lib.hid (HO153.out.kept hb6)
                clear hr6 hb6
                unfold vecV
                try go_wp2_with fail
                refine hK.out _ _ trivial (fun _ => ?_)
                clear hK K
                try simp only [Act.put, List.getElem_toArray, List.getElem_cons_succ, List.getElem_cons_zero, List.setIfInBounds_toArray, List.set_cons_zero, List.set_cons_succ]
                refine wpAnyH_take (i := 10) (v := ?_) rfl (by kernel_rfl) (by kernel_rfl) (by kernel_rfl) (fun _ _ _ h => h) (Or.inl ⟨by kernel_rfl, ?_⟩) (by first | assumption | trivial) ?_
                rotate_left
                · intro w hSw
                  try dsimp only at hSw
                  first | (go_simp; done) | (go_simp; with_reducible rfl)
                try simp only [Act.put, List.getElem_toArray, List.getElem_cons_succ, List.getElem_cons_zero, List.setIfInBounds_toArray, List.set_cons_zero, List.set_cons_succ]
                refine wpAnyH_take (i := 11) (v := ?_) rfl (by kernel_rfl) (by kernel_rfl) (by kernel_rfl) (fun _ _ _ h => h) (Or.inl ⟨by kernel_rfl, ?_⟩) (by first | assumption | trivial) ?_
                rotate_left
                · intro w hSw
                  try dsimp only at hSw
                  first | (go_simp; done) | (go_simp; with_reducible rfl)
                try simp only [Act.put, List.getElem_toArray, List.getElem_cons_succ, List.getElem_cons_zero, List.setIfInBounds_toArray, List.set_cons_zero, List.set_cons_succ]
                refine wpAnyH_take (i := 12) (v := ?_) rfl (by kernel_rfl) (by kernel_rfl) (by kernel_rfl) (fun _ _ _ h => h) (Or.inl ⟨by kernel_rfl, ?_⟩) (by first | assumption | trivial) ?_
                rotate_left
                · intro w hSw
                  try dsimp only at hSw
                  first | (go_simp; done) | (go_simp; with_reducible rfl)
                try simp only [Act.put, List.getElem_toArray, List.getElem_cons_succ, List.getElem_cons_zero, List.setIfInBounds_toArray, List.set_cons_zero, List.set_cons_succ]
                refine wpAnyH_take (i := 13) (v := ?_) rfl (by kernel_rfl) (by kernel_rfl) (by kernel_rfl) (fun _ _ _ h => h) (Or.inl ⟨by kernel_rfl, ?_⟩) (by first | assumption | trivial) ?_
                rotate_left
                · intro w hSw
                  try dsimp only at hSw
                  first | (go_simp; done) | (go_simp; with_reducible rfl)
                try simp only [Act.put, List.getElem_toArray, List.getElem_cons_succ, List.getElem_cons_zero, List.setIfInBounds_toArray, List.set_cons_zero, List.set_cons_succ]
                refine wpAnyH_ready (rs := [14]) (by kernel_rfl) (by simp) ?_
                refine AllReadyH.cons rfl (fun K hK => ?_) (AllReadyH.nil)
                · skip
                  go_simp
                  refine hK.out _ _ trivial (fun _ => ?_)
                  clear hK K
                  try simp only [Act.put, List.getElem_toArray, List.getElem_cons_succ, List.getElem_cons_zero, List.setIfInBounds_toArray, List.set_cons_zero, List.set_cons_succ]
                  have HO155 := Lib.hid HO154.out.allocA
                  generalize W154.alloc (.cells #[.slice none 0 0] 27) = W155 at *
                  obtain ⟨hbO, _, hA, hB, hAB⟩ := HO155.out
                  have HA := Lib.hid (hA _ rfl)
                  have HBq := Lib.hid (hB _ rfl)
                  have HAB := Lib.hid (hAB _ _ rfl rfl)
                  have HBO := Lib.hid hbO
                  clear hbO hA hB hAB
                  have q0 : W155.cell? ⟨W154.heap.size, 0, none⟩ = some (.slice none 0 0) := HA.out.1.cell 0
                  have qf := HA.out.1.free 0
                  have ql := HA.out.1.lt
                  refine wpAnyH_ready (rs := [16]) (by kernel_rfl) (by simp) ?_
                  refine AllReadyH.cons rfl (fun K hK => ?_) AllReadyH.nil
                  go_simp
                  refine hK.out _ _ trivial (fun hS => ?_)
                  clear hK K
                  try simp only [Act.put, List.getElem_toArray, List.getElem_cons_succ, List.getElem_cons_zero, List.setIfInBounds_toArray, List.set_cons_zero, List.set_cons_succ]
                  have HB2 := Lib.hid (HBq.out.1.setOther (a := ⟨W154.heap.size, 0, none⟩) HAB.out (.slice p6 n6 c6))
                  have HW2 := Lib.hid (HBO.out.setCell (p := ⟨W154.heap.size, 0, none⟩) HA.out.2.1 (.slice p6 n6 c6))
                  have HTH : Hid ((W155.setCell ⟨W154.heap.size, 0, none⟩ (.slice p6 n6 c6)).there W101.heap.size 0 (mCells (playM (ps.drop J ++ ps.take J))).size) := by
                    have h1 := HB2.out.there
                    rw [mCells_size, playM_len]
                    exact h1
                  refine wpAnyH_ready (rs := [17]) (by kernel_rfl) (by simp) ?_
                  refine AllReadyH.cons rfl (fun K hK => ?_) AllReadyH.nil
                  rw [if_pos (by kernel_rfl)]
                  refine wp_store_mid 30 (.tmp 12) (.tmp 65) rfl (W101.heap.size) 0 (mCells (playM (ps.drop J ++ ps.take J))) rfl rfl HTH.out HIN.out (mCells_one _) ?_
                  refine hK.out _ _ trivial (fun hS => ?_)
                  clear hK K
                  try simp only [Act.put, List.getElem_toArray, List.getElem_cons_succ, List.getElem_cons_zero, List.setIfInBounds_toArray, List.set_cons_zero, List.set_cons_succ]
                  refine wpAnyH_take (i := 18) (v := ?_) rfl (by kernel_rfl) (by kernel_rfl) (by kernel_rfl) (fun _ _ _ h => h) (Or.inl ⟨by kernel_rfl, ?_⟩) (by first | assumption | trivial) ?_
                  rotate_left
                  · intro w hSw
                    try dsimp only at hSw
                    first | (go_simp; done) | (go_simp; with_reducible rfl)
                  try simp only [Act.put, List.getElem_toArray, List.getElem_cons_succ, List.getElem_cons_zero, List.setIfInBounds_toArray, List.set_cons_zero, List.set_cons_succ]
                  refine wpAnyH_done (by kernel_rfl) ?_ _
                  have hb9 := blk_store HB2.out (mCells (playM (ps.drop J ++ ps.take J))) (by rw [mCells_size, playM_len]; rfl)
                  have hw9 := HW2.out.trans ((Chg.setCells (W101.heap.size) (mCells (playM (ps.drop J ++ ps.take J))).toList 0 _ _ (Chg.refl (W101.heap.size) (W155.setCell ⟨W154.heap.size, 0, none⟩ (.slice p6 n6 c6)))).below HBq.out.2.1 HW2.out.size)
                  have HFIN := Lib.hid (And.intro hb9 hw9)
                  clear hb9 hw9 q0 qf ql
                  go_wp2_with fail
                  go_meet
                  exact ⟨_, rfl, rfl, HFIN⟩
              · skip
                go_simp
                refine hK.out _ _ trivial (fun _ => ?_)
                clear hK K
                try simp only [Act.put, List.getElem_toArray, List.getElem_cons_succ, List.getElem_cons_zero, List.setIfInBounds_toArray, List.set_cons_zero, List.set_cons_succ]
                have HO156 := Lib.hid HO153.out.allocA
                generalize W153.alloc (.cells #[.slice none 0 0] 27) = W156 at *
                refine wpAnyH_ready (rs := [9]) (by kernel_rfl) (by simp) ?_
                refine AllReadyH.cons rfl (fun K hK => ?_) (AllReadyH.nil)
                · skip
                  go_simp
                  go_at_call 9
                  refine (play_any W156 _ (ps.drop J ++ ps.take J) HO156.out.2.1.row (by rw [HLA.out]; omega) HFT.out).mono ?_
                  rintro y W157 ⟨v6, rfl, hr6, hb6⟩
                  obtain ⟨p6, c6, hv6⟩ := hr6.shape
                  generalize (posOf (playM (ps.drop J ++ ps.take J))).length = n6 at hv6
                  subst hv6
                  have HO157 := Lib.hid (HO156.out.kept hb6)
                  clear hr6 hb6
                  unfold vecV
                  try go_wp2_with fail
                  refine hK.out _ _ trivial (fun _ => ?_)
                  clear hK K
                  try simp only [Act.put, List.getElem_toArray, List.getElem_cons_succ, List.getElem_cons_zero, List.setIfInBounds_toArray, List.set_cons_zero, List.set_cons_succ]
                  refine wpAnyH_take (i := 10) (v := ?_) rfl (by kernel_rfl) (by kernel_rfl) (by kernel_rfl) (fun _ _ _ h => h) (Or.inl ⟨by kernel_rfl, ?_⟩) (by first | assumption | trivial) ?_
                  rotate_left
                  · intro w hSw
                    try dsimp only at hSw
                    first | (go_simp; done) | (go_simp; with_reducible rfl)
                  try simp only [Act.put, List.getElem_toArray, List.getElem_cons_succ, List.getElem_cons_zero, List.setIfInBounds_toArray, List.set_cons_zero, List.set_cons_succ]
                  refine wpAnyH_take (i := 11) (v := ?_) rfl (by kernel_rfl) (by kernel_rfl) (by kernel_rfl) (fun _ _ _ h => h) (Or.inl ⟨by kernel_rfl, ?_⟩) (by first | assumption | trivial) ?_
                  rotate_left
                  · intro w hSw
                    try dsimp only at hSw
                    first | (go_simp; done) | (go_simp; with_reducible rfl)
                  try simp only [Act.put, List.getElem_toArray, List.getElem_cons_succ, List.getElem_cons_zero, List.setIfInBounds_toArray, List.set_cons_zero, List.set_cons_succ]
                  refine wpAnyH_take (i := 12) (v := ?_) rfl (by kernel_rfl) (by kernel_rfl) (by kernel_rfl) (fun _ _ _ h => h) (Or.inl ⟨by kernel_rfl, ?_⟩) (by first | assumption | trivial) ?_
                  rotate_left
                  · intro w hSw
                    try dsimp only at hSw
                    first | (go_simp; done) | (go_simp; with_reducible rfl)
                  try simp only [Act.put, List.getElem_toArray, List.getElem_cons_succ, List.getElem_cons_zero, List.setIfInBounds_toArray, List.set_cons_zero, List.set_cons_succ]
                  refine wpAnyH_take (i := 13) (v := ?_) rfl (by kernel_rfl) (by kernel_rfl) (by kernel_rfl) (fun _ _ _ h => h) (Or.inl ⟨by kernel_rfl, ?_⟩) (by first | assumption | trivial) ?_
                  rotate_left
                  · intro w hSw
                    try dsimp only at hSw
                    first | (go_simp; done) | (go_simp; with_reducible rfl)
                  try simp only [Act.put, List.getElem_toArray, List.getElem_cons_succ, List.getElem_cons_zero, List.setIfInBounds_toArray, List.set_cons_zero, List.set_cons_succ]
                  obtain ⟨hbO, _, hA, hB, hAB⟩ := HO157.out
                  have HA := Lib.hid (hA _ rfl)
                  have HBq := Lib.hid (hB _ rfl)
                  have HAB := Lib.hid (hAB _ _ rfl rfl)
                  have HBO := Lib.hid hbO
                  clear hbO hA hB hAB
                  have q0 : W157.cell? ⟨W153.heap.size, 0, none⟩ = some (.slice none 0 0) := HA.out.1.cell 0
                  have qf := HA.out.1.free 0
                  have ql := HA.out.1.lt
                  refine wpAnyH_ready (rs := [16]) (by kernel_rfl) (by simp) ?_
                  refine AllReadyH.cons rfl (fun K hK => ?_) AllReadyH.nil
                  go_simp
                  refine hK.out _ _ trivial (fun hS => ?_)
                  clear hK K
                  try simp only [Act.put, List.getElem_toArray, List.getElem_cons_succ, List.getElem_cons_zero, List.setIfInBounds_toArray, List.set_cons_zero, List.set_cons_succ]
                  have HB2 := Lib.hid (HBq.out.1.setOther (a := ⟨W153.heap.size, 0, none⟩) HAB.out (.slice p6 n6 c6))
                  have HW2 := Lib.hid (HBO.out.setCell (p := ⟨W153.heap.size, 0, none⟩) HA.out.2.1 (.slice p6 n6 c6))
                  have HTH : Hid ((W157.setCell ⟨W153.heap.size, 0, none⟩ (.slice p6 n6 c6)).there W101.heap.size 0 (mCells (playM (ps.drop J ++ ps.take J))).size) := by
                    have h1 := HB2.out.there
                    rw [mCells_size, playM_len]
                    exact h1
                  refine wpAnyH_ready (rs := [17]) (by kernel_rfl) (by simp) ?_
                  refine AllReadyH.cons rfl (fun K hK => ?_) AllReadyH.nil
                  rw [if_pos (by kernel_rfl)]
                  refine wp_store_mid 30 (.tmp 12) (.tmp 65) rfl (W101.heap.size) 0 (mCells (playM (ps.drop J ++ ps.take J))) rfl rfl HTH.out HIN.out (mCells_one _) ?_
                  refine hK.out _ _ trivial (fun hS => ?_)
                  clear hK K
                  try simp only [Act.put, List.getElem_toArray, List.getElem_cons_succ, List.getElem_cons_zero, List.setIfInBounds_toArray, List.set_cons_zero, List.set_cons_succ]
                  refine wpAnyH_take (i := 18) (v := ?_) rfl (by kernel_rfl) (by kernel_rfl) (by kernel_rfl) (fun _ _ _ h => h) (Or.inl ⟨by kernel_rfl, ?_⟩) (by first | assumption | trivial) ?_
                  rotate_left
                  · intro w hSw
                    try dsimp only at hSw
                    first | (go_simp; done) | (go_simp; with_reducible rfl)
                  try simp only [Act.put, List.getElem_toArray, List.getElem_cons_succ, List.getElem_cons_zero, List.setIfInBounds_toArray, List.set_cons_zero, List.set_cons_succ]
                  refine wpAnyH_done (by kernel_rfl) ?_ _
                  have hb9 := blk_store HB2.out (mCells (playM (ps.drop J ++ ps.take J))) (by rw [mCells_size, playM_len]; rfl)
                  have hw9 := HW2.out.trans ((Chg.setCells (W101.heap.size) (mCells (playM (ps.drop J ++ ps.take J))).toList 0 _ _ (Chg.refl (W101.heap.size) (W157.setCell ⟨W153.heap.size, 0, none⟩ (.slice p6 n6 c6)))).below HBq.out.2.1 HW2.out.size)
                  have HFIN := Lib.hid (And.intro hb9 hw9)
                  clear hb9 hw9 q0 qf ql
                  go_wp2_with fail
                  go_meet
                  exact ⟨_, rfl, rfl, HFIN⟩
            · skip
              go_simp
              refine hK.out _ _ trivial (fun _ => ?_)
              clear hK K
              try simp only [Act.put, List.getElem_toArray, List.getElem_cons_succ, List.getElem_cons_zero, List.setIfInBounds_toArray, List.set_cons_zero, List.set_cons_succ]
              have HO158 := Lib.hid HO152.out.allocA
              generalize W152.alloc (.cells #[.slice none 0 0] 27) = W158 at *
              refine wpAnyH_ready (rs := [8]) (by kernel_rfl) (by simp) ?_
              refine AllReadyH.cons rfl (fun K hK => ?_) (AllReadyH.nil)
              · skip
                refine step_append_o rfl (.tmp 58) (.tmp 61) 22 rfl 46 elt_put _ _ (ps.drop J) (ps.take J) rfl rfl HO158.out (HVT.out.kept HO158.out.1) (by rw [HLD.out, HLT.out]; omega) (ps.drop J ++ ps.take J) n (rfl) HLA.out ?_
                intro p159 c159 W159 ho159
                refine hK.out _ _ trivial (fun _ => ?_)
                clear hK K
                try simp only [Act.put, List.getElem_toArray, List.getElem_cons_succ, List.getElem_cons_zero, List.setIfInBounds_toArray, List.set_cons_zero, List.set_cons_succ]
                have HO159 := Lib.hid ho159
                clear ho159
                refine wpAnyH_ready (rs := [9]) (by kernel_rfl) (by simp) ?_
                refine AllReadyH.cons rfl (fun K hK => ?_) (AllReadyH.nil)
                · skip
                  go_simp
                  go_at_call 9
                  refine (play_any W159 _ (ps.drop J ++ ps.take J) HO159.out.2.1.row (by rw [HLA.out]; omega) HFT.out).mono ?_
                  rintro y W160 ⟨v6, rfl, hr6, hb6⟩
                  obtain ⟨p6, c6, hv6⟩ := hr6.shape
                  generalize (posOf (playM (ps.drop J ++ ps.take J))).length = n6 at hv6
                  subst hv6
                  have HO160 := Lib.hid (HO159.out.kept hb6)
                  clear hr6 hb6
                  unfold vecV
                  try go_wp2_with fail
                  refine hK.out _ _ trivial (fun _ => ?_)
                  clear hK K
                  try simp only [Act.put, List.getElem_toArray, List.getElem_cons_succ, List.getElem_cons_zero, List.setIfInBounds_toArray, List.set_cons_zero, List.set_cons_succ]
                  refine wpAnyH_take (i := 10) (v := ?_) rfl (by kernel_rfl) (by kernel_rfl) (by kernel_rfl) (fun _ _ _ h => h) (Or.inl ⟨by kernel_rfl, ?_⟩) (by first | assumption | trivial) ?_
                  rotate_left
                  · intro w hSw
                    try dsimp only at hSw
                    first | (go_simp; done) | (go_simp; with_reducible rfl)
                  try simp only [Act.put, List.getElem_toArray, List.getElem_cons_succ, List.getElem_cons_zero, List.setIfInBounds_toArray, List.set_cons_zero, List.set_cons_succ]
                  refine wpAnyH_take (i := 11) (v := ?_) rfl (by kernel_rfl) (by kernel_rfl) (by kernel_rfl) (fun _ _ _ h => h) (Or.inl ⟨by kernel_rfl, ?_⟩) (by first | assumption | trivial) ?_
                  rotate_left
                  · intro w hSw
                    try dsimp only at hSw
                    first | (go_simp; done) | (go_simp; with_reducible rfl)
                  try simp only [Act.put, List.getElem_toArray, List.getElem_cons_succ, List.getElem_cons_zero, List.setIfInBounds_toArray, List.set_cons_zero, List.set_cons_succ]
                  refine wpAnyH_take (i := 12) (v := ?_) rfl (by kernel_rfl) (by kernel_rfl) (by kernel_rfl) (fun _ _ _ h => h) (Or.inl ⟨by kernel_rfl, ?_⟩) (by first | assumption | trivial) ?_
                  rotate_left
                  · intro w hSw
                    try dsimp only at hSw
                    first | (go_simp; done) | (go_simp; with_reducible rfl)
                  try simp only [Act.put, List.getElem_toArray, List.getElem_cons_succ, List.getElem_cons_zero, List.setIfInBounds_toArray, List.set_cons_zero, List.set_cons_succ]
                  refine wpAnyH_take (i := 13) (v := ?_) rfl (by kernel_rfl) (by kernel_rfl) (by kernel_rfl) (fun _ _ _ h => h) (Or.inl ⟨by kernel_rfl, ?_⟩) (by first | assumption | trivial) ?_
                  rotate_left
                  · intro w hSw
                    try dsimp only at hSw
                    first | (go_simp; done) | (go_simp; with_reducible rfl)
                  try simp only [Act.put, List.getElem_toArray, List.getElem_cons_succ, List.getElem_cons_zero, List.setIfInBounds_toArray, List.set_cons_zero, List.set_cons_succ]
                  obtain ⟨hbO, _, hA, hB, hAB⟩ := HO160.out
                  have HA := Lib.hid (hA _ rfl)
                  have HBq := Lib.hid (hB _ rfl)
                  have HAB := Lib.hid (hAB _ _ rfl rfl)
                  have HBO := Lib.hid hbO
                  clear hbO hA hB hAB
                  have q0 : W160.cell? ⟨W152.heap.size, 0, none⟩ = some (.slice none 0 0) := HA.out.1.cell 0
                  have qf := HA.out.1.free 0
                  have ql := HA.out.1.lt
                  refine wpAnyH_ready (rs := [16]) (by kernel_rfl) (by simp) ?_
                  refine AllReadyH.cons rfl (fun K hK => ?_) AllReadyH.nil
                  go_simp
                  refine hK.out _ _ trivial (fun hS => ?_)
                  clear hK K
                  try simp only [Act.put, List.getElem_toArray, List.getElem_cons_succ, List.getElem_cons_zero, List.setIfInBounds_toArray, List.set_cons_zero, List.set_cons_succ]
                  have HB2 := Lib.hid (HBq.out.1.setOther (a := ⟨W152.heap.size, 0, none⟩) HAB.out (.slice p6 n6 c6))
                  have HW2 := Lib.hid (HBO.out.setCell (p := ⟨W152.heap.size, 0, none⟩) HA.out.2.1 (.slice p6 n6 c6))
                  have HTH : Hid ((W160.setCell ⟨W152.heap.size, 0, none⟩ (.slice p6 n6 c6)).there W101.heap.size 0 (mCells (playM (ps.drop J ++ ps.take J))).size) := by
                    have h1 := HB2.out.there
                    rw [mCells_size, playM_len]
                    exact h1
                  refine wpAnyH_ready (rs := [17]) (by kernel_rfl) (by simp) ?_
                  refine AllReadyH.cons rfl (fun K hK => ?_) AllReadyH.nil
                  rw [if_pos (by kernel_rfl)]
                  refine wp_store_mid 30 (.tmp 12) (.tmp 65) rfl (W101.heap.size) 0 (mCells (playM (ps.drop J ++ ps.take J))) rfl rfl HTH.out HIN.out (mCells_one _) ?_
                  refine hK.out _ _ trivial (fun hS => ?_)
                  clear hK K
                  try simp only [Act.put, List.getElem_toArray, List.getElem_cons_succ, List.getElem_cons_zero, List.setIfInBounds_toArray, List.set_cons_zero, List.set_cons_succ]
                  refine wpAnyH_take (i := 18) (v := ?_) rfl (by kernel_rfl) (by kernel_rfl) (by kernel_rfl) (fun _ _ _ h => h) (Or.inl ⟨by kernel_rfl, ?_⟩) (by first | assumption | trivial) ?_
                  rotate_left
                  · intro w hSw
                    try dsimp only at hSw
                    first | (go_simp; done) | (go_simp; with_reducible rfl)
                  try simp only [Act.put, List.getElem_toArray, List.getElem_cons_succ, List.getElem_cons_zero, List.setIfInBounds_toArray, List.set_cons_zero, List.set_cons_succ]
                  refine wpAnyH_done (by kernel_rfl) ?_ _
                  have hb9 := blk_store HB2.out (mCells (playM (ps.drop J ++ ps.take J))) (by rw [mCells_size, playM_len]; rfl)
                  have hw9 := HW2.out.trans ((Chg.setCells (W101.heap.size) (mCells (playM (ps.drop J ++ ps.take J))).toList 0 _ _ (Chg.refl (W101.heap.size) (W160.setCell ⟨W152.heap.size, 0, none⟩ (.slice p6 n6 c6)))).below HBq.out.2.1 HW2.out.size)
                  have HFIN := Lib.hid (And.intro hb9 hw9)
                  clear hb9 hw9 q0 qf ql
                  go_wp2_with fail
                  go_meet
                  exact ⟨_, rfl, rfl, HFIN⟩
          · skip
            go_simp
            refine hK.out _ _ trivial (fun _ => ?_)
            clear hK K
            try simp only [Act.put, List.getElem_toArray, List.getElem_cons_succ, List.getElem_cons_zero, List.setIfInBounds_toArray, List.set_cons_zero, List.set_cons_succ]
            have HO161 := Lib.hid HO151.out.allocA
            generalize W151.alloc (.cells #[.slice none 0 0] 27) = W161 at *
            refine wpAnyH_ready (rs := [4]) (by kernel_rfl) (by simp) ?_
            refine AllReadyH.cons rfl (fun K hK => ?_) (AllReadyH.nil)
            · skip
              refine step_append_o rfl (.tmp 54) (.tmp 57) 22 rfl 46 elt_put _ _ ([]) (ps.drop J) rfl rfl HO161.out (HVD.out.kept HO161.out.1) (by rw [HLD.out]; simp only [List.length_nil]; omega) (ps.drop J) (n - J) (List.nil_append _) HLD.out ?_
              intro p162 c162 W162 ho162
              refine hK.out _ _ trivial (fun _ => ?_)
              clear hK K
              try simp only [Act.put, List.getElem_toArray, List.getElem_cons_succ, List.getElem_cons_zero, List.setIfInBounds_toArray, List.set_cons_zero, List.set_cons_succ]
              have HO162 := Lib.hid ho162
              clear ho162
              refine wpAnyH_ready (rs := [8]) (by kernel_rfl) (by simp) ?_
              refine AllReadyH.cons rfl (fun K hK => ?_) (AllReadyH.nil)
              · skip
                refine step_append_o rfl (.tmp 58) (.tmp 61) 22 rfl 46 elt_put _ _ (ps.drop J) (ps.take J) rfl rfl HO162.out (HVT.out.kept HO162.out.1) (by rw [HLD.out, HLT.out]; omega) (ps.drop J ++ ps.take J) n (rfl) HLA.out ?_
                intro p163 c163 W163 ho163
                refine hK.out _ _ trivial (fun _ => ?_)
                clear hK K
                try simp only [Act.put, List.getElem_toArray, List.getElem_cons_succ, List.getElem_cons_zero, List.setIfInBounds_toArray, List.set_cons_zero, List.set_cons_succ]
                have HO163 := Lib.hid ho163
                clear ho163
                refine wpAnyH_ready (rs := [9]) (by kernel_rfl) (by simp) ?_
                refine AllReadyH.cons rfl (fun K hK => ?_) (AllReadyH.nil)
                · skip
                  go_simp
                  go_at_call 9
                  refine (play_any W163 _ (ps.drop J ++ ps.take J) HO163.out.2.1.row (by rw [HLA.out]; omega) HFT.out).mono ?_
                  rintro y W164 ⟨v6, rfl, hr6, hb6⟩
                  obtain ⟨p6, c6, hv6⟩ := hr6.shape
                  generalize (posOf (playM (ps.drop J ++ ps.take J))).length = n6 at hv6
                  subst hv6
                  have HO164 := Lib.hid (HO163.out.kept hb6)
                  clear hr6 hb6
                  unfold vecV
                  try go_wp2_with fail
                  refine hK.out _ _ trivial (fun _ => ?_)
                  clear hK K
                  try simp only [Act.put, List.getElem_toArray, List.getElem_cons_succ, List.getElem_cons_zero, List.setIfInBounds_toArray, List.set_cons_zero, List.set_cons_succ]
                  refine wpAnyH_take (i := 10) (v := ?_) rfl (by kernel_rfl) (by kernel_rfl) (by kernel_rfl) (fun _ _ _ h => h) (Or.inl ⟨by kernel_rfl, ?_⟩) (by first | assumption | trivial) ?_
                  rotate_left
                  · intro w hSw
                    try dsimp only at hSw
                    first | (go_simp; done) | (go_simp; with_reducible rfl)
                  try simp only [Act.put, List.getElem_toArray, List.getElem_cons_succ, List.getElem_cons_zero, List.setIfInBounds_toArray, List.set_cons_zero, List.set_cons_succ]
                  refine wpAnyH_take (i := 11) (v := ?_) rfl (by kernel_rfl) (by kernel_rfl) (by kernel_rfl) (fun _ _ _ h => h) (Or.inl ⟨by kernel_rfl, ?_⟩) (by first | assumption | trivial) ?_
                  rotate_left
                  · intro w hSw
                    try dsimp only at hSw
                    first | (go_simp; done) | (go_simp; with_reducible rfl)
                  try simp only [Act.put, List.getElem_toArray, List.getElem_cons_succ, List.getElem_cons_zero, List.setIfInBounds_toArray, List.set_cons_zero, List.set_cons_succ]
                  refine wpAnyH_take (i := 12) (v := ?_) rfl (by kernel_rfl) (by kernel_rfl) (by kernel_rfl) (fun _ _ _ h => h) (Or.inl ⟨by kernel_rfl, ?_⟩) (by first | assumption | trivial) ?_
                  rotate_left
                  · intro w hSw
                    try dsimp only at hSw
                    first | (go_simp; done) | (go_simp; with_reducible rfl)
                  try simp only [Act.put, List.getElem_toArray, List.getElem_cons_succ, List.getElem_cons_zero, List.setIfInBounds_toArray, List.set_cons_zero, List.set_cons_succ]
                  refine wpAnyH_take (i := 13) (v := ?_) rfl (by kernel_rfl) (by kernel_rfl) (by kernel_rfl) (fun _ _ _ h => h) (Or.inl ⟨by kernel_rfl, ?_⟩) (by first | assumption | trivial) ?_
                  rotate_left
                  · intro w hSw
                    try dsimp only at hSw
                    first | (go_simp; done) | (go_simp; with_reducible rfl)
                  try simp only [Act.put, List.getElem_toArray, List.getElem_cons_succ, List.getElem_cons_zero, List.setIfInBounds_toArray, List.set_cons_zero, List.set_cons_succ]
                  obtain ⟨hbO, _, hA, hB, hAB⟩ := HO164.out
                  have HA := Lib.hid (hA _ rfl)
                  have HBq := Lib.hid (hB _ rfl)
                  have HAB := Lib.hid (hAB _ _ rfl rfl)
                  have HBO := Lib.hid hbO
                  clear hbO hA hB hAB
                  have q0 : W164.cell? ⟨W151.heap.size, 0, none⟩ = some (.slice none 0 0) := HA.out.1.cell 0
                  have qf := HA.out.1.free 0
                  have ql := HA.out.1.lt
                  refine wpAnyH_ready (rs := [16]) (by kernel_rfl) (by simp) ?_
                  refine AllReadyH.cons rfl (fun K hK => ?_) AllReadyH.nil
                  go_simp
                  refine hK.out _ _ trivial (fun hS => ?_)
                  clear hK K
                  try simp only [Act.put, List.getElem_toArray, List.getElem_cons_succ, List.getElem_cons_zero, List.setIfInBounds_toArray, List.set_cons_zero, List.set_cons_succ]
                  have HB2 := Lib.hid (HBq.out.1.setOther (a := ⟨W151.heap.size, 0, none⟩) HAB.out (.slice p6 n6 c6))
                  have HW2 := Lib.hid (HBO.out.setCell (p := ⟨W151.heap.size, 0, none⟩) HA.out.2.1 (.slice p6 n6 c6))
                  have HTH : Hid ((W164.setCell ⟨W151.heap.size, 0, none⟩ (.slice p6 n6 c6)).there W101.heap.size 0 (mCells (playM (ps.drop J ++ ps.take J))).size) := by
                    have h1 := HB2.out.there
                    rw [mCells_size, playM_len]
                    exact h1
                  refine wpAnyH_ready (rs := [17]) (by kernel_rfl) (by simp) ?_
                  refine AllReadyH.cons rfl (fun K hK => ?_) AllReadyH.nil
                  rw [if_pos (by kernel_rfl)]
                  refine wp_store_mid 30 (.tmp 12) (.tmp 65) rfl (W101.heap.size) 0 (mCells (playM (ps.drop J ++ ps.take J))) rfl rfl HTH.out HIN.out (mCells_one _) ?_
                  refine hK.out _ _ trivial (fun hS => ?_)
                  clear hK K
                  try simp only [Act.put, List.getElem_toArray, List.getElem_cons_succ, List.getElem_cons_zero, List.setIfInBounds_toArray, List.set_cons_zero, List.set_cons_succ]
                  refine wpAnyH_take (i := 18) (v := ?_) rfl (by kernel_rfl) (by kernel_rfl) (by kernel_rfl) (fun _ _ _ h => h) (Or.inl ⟨by kernel_rfl, ?_⟩) (by first | assumption | trivial) ?_
                  rotate_left
                  · intro w hSw
                    try dsimp only at hSw
                    first | (go_simp; done) | (go_simp; with_reducible rfl)
                  try simp only [Act.put, List.getElem_toArray, List.getElem_cons_succ, List.getElem_cons_zero, List.setIfInBounds_toArray, List.set_cons_zero, List.set_cons_succ]
                  refine wpAnyH_done (by kernel_rfl) ?_ _
                  have hb9 := blk_store HB2.out (mCells (playM (ps.drop J ++ ps.take J))) (by rw [mCells_size, playM_len]; rfl)
                  have hw9 := HW2.out.trans ((Chg.setCells (W101.heap.size) (mCells (playM (ps.drop J ++ ps.take J))).toList 0 _ _ (Chg.refl (W101.heap.size) (W164.setCell ⟨W151.heap.size, 0, none⟩ (.slice p6 n6 c6)))).below HBq.out.2.1 HW2.out.size)
                  have HFIN := Lib.hid (And.intro hb9 hw9)
                  clear hb9 hw9 q0 qf ql
                  go_wp2_with fail
                  go_meet
                  exact ⟨_, rfl, rfl, HFIN⟩
      · skip
        go_simp
        refine hK.out _ _ trivial (fun _ => ?_)
        clear hK K
        try simp only [Act.put, List.getElem_toArray, List.getElem_cons_succ, List.getElem_cons_zero, List.setIfInBounds_toArray, List.set_cons_zero, List.set_cons_succ]
        have HO165 := Lib.hid HO0.out.allocA
        generalize W0.alloc (.cells #[.slice none 0 0] 27) = W165 at *
        refine wpAnyH_ready (rs := [0, 15]) (by kernel_rfl) (by simp) ?_
        refine AllReadyH.cons rfl (fun K hK => ?_) (AllReadyH.cons rfl (fun K hK => ?_) (AllReadyH.nil))
        · skip
          go_simp
          refine hK.out _ _ trivial (fun _ => ?_)
          clear hK K
          try simp only [Act.put, List.getElem_toArray, List.getElem_cons_succ, List.getElem_cons_zero, List.setIfInBounds_toArray, List.set_cons_zero, List.set_cons_succ]
          have HO166 := Lib.hid HO165.out.build
          generalize W165.alloc (.cells #[] 46) = W166 at *
          refine wpAnyH_ready (rs := [4, 15]) (by kernel_rfl) (by simp) ?_
          refine AllReadyH.cons rfl (fun K hK => ?_) (AllReadyH.cons rfl (fun K hK => ?_) (AllReadyH.nil))
          · skip
            refine step_append_o rfl (.tmp 54) (.tmp 57) 22 rfl 46 elt_put _ _ ([]) (ps.drop J) rfl rfl HO166.out (HVD.out.kept HO166.out.1) (by rw [HLD.out]; simp only [List.length_nil]; omega) (ps.drop J) (n - J) (List.nil_append _) HLD.out ?_
            intro p167 c167 W167 ho167
            refine hK.out _ _ trivial (fun _ => ?_)
            clear hK K
            try simp only [Act.put, List.getElem_toArray, List.getElem_cons_succ, List.getElem_cons_zero, List.setIfInBounds_toArray, List.set_cons_zero, List.set_cons_succ]
            have HO167 := Lib.hid ho167
            clear ho167
            refine wpAnyH_ready (rs := [8, 15]) (by kernel_rfl) (by simp) ?_
            refine AllReadyH.cons rfl (fun K hK => ?_) (AllReadyH.cons rfl (fun K hK => ?_) (AllReadyH.nil))
            · skip
              refine step_append_o rfl (.tmp 58) (.tmp 61) 22 rfl 46 elt_put _ _ (ps.drop J) (ps.take J) rfl rfl HO167.out (HVT.out.kept HO167.out.1) (by rw [HLD.out, HLT.out]; omega) (ps.drop J ++ ps.take J) n (rfl) HLA.out ?_
              intro p168 c168 W168 ho168
              refine hK.out _ _ trivial (fun _ => ?_)
              clear hK K
              try simp only [Act.put, List.getElem_toArray, List.getElem_cons_succ, List.getElem_cons_zero, List.setIfInBounds_toArray, List.set_cons_zero, List.set_cons_succ]
              have HO168 := Lib.hid ho168
              clear ho168
              refine wpAnyH_ready (rs := [9, 15]) (by kernel_rfl) (by simp) ?_
              refine AllReadyH.cons rfl (fun K hK => ?_) (AllReadyH.cons rfl (fun K hK => ?_) (AllReadyH.nil))
              · skip
                go_simp
                go_at_call 9
                refine (play_any W168 _ (ps.drop J ++ ps.take J) HO168.out.2.1.row (by rw [HLA.out]; omega) HFT.out).mono ?_
                rintro y W169 ⟨v6, rfl, hr6, hb6⟩
                obtain ⟨p6, c6, hv6⟩ := hr6.shape
                generalize (posOf (playM (ps.drop J ++ ps.take J))).length = n6 at hv6
                subst hv6
                have HO169 := Lib.hid (HO168.out.kept hb6)
                clear hr6 hb6
                unfold vecV
                try go_wp2_with fail
                refine hK.out _ _ trivial (fun _ => ?_)
                clear hK K
                try simp only [Act.put, List.getElem_toArray, List.getElem_cons_succ, List.getElem_cons_zero, List.setIfInBounds_toArray, List.set_cons_zero, List.set_cons_succ]
                refine wpAnyH_take (i := 10) (v := ?_) rfl (by kernel_rfl) (by kernel_rfl) (by kernel_rfl) (fun _ _ _ h => h) (Or.inl ⟨by kernel_rfl, ?_⟩) (by first | assumption | trivial) ?_
                rotate_left
                · intro w hSw
                  try dsimp only at hSw
                  first | (go_simp; done) | (go_simp; with_reducible rfl)
                try simp only [Act.put, List.getElem_toArray, List.getElem_cons_succ, List.getElem_cons_zero, List.setIfInBounds_toArray, List.set_cons_zero, List.set_cons_succ]
                refine wpAnyH_take (i := 11) (v := ?_) rfl (by kernel_rfl) (by kernel_rfl) (by kernel_rfl) (fun _ _ _ h => h) (Or.inl ⟨by kernel_rfl, ?_⟩) (by first | assumption | trivial) ?_
                rotate_left
                · intro w hSw
                  try dsimp only at hSw
                  first | (go_simp; done) | (go_simp; with_reducible rfl)
                try simp only [Act.put, List.getElem_toArray, List.getElem_cons_succ, List.getElem_cons_zero, List.setIfInBounds_toArray, List.set_cons_zero, List.set_cons_succ]
                refine wpAnyH_take (i := 12) (v := ?_) rfl (by kernel_rfl) (by kernel_rfl) (by kernel_rfl) (fun _ _ _ h => h) (Or.inl ⟨by kernel_rfl, ?_⟩) (by first | assumption | trivial) ?_
                rotate_left
                · intro w hSw
                  try dsimp only at hSw
                  first | (go_simp; done) | (go_simp; with_reducible rfl)
                try simp only [Act.put, List.getElem_toArray, List.getElem_cons_succ, List.getElem_cons_zero, List.setIfInBounds_toArray, List.set_cons_zero, List.set_cons_succ]
                refine wpAnyH_take (i := 13) (v := ?_) rfl (by kernel_rfl) (by kernel_rfl) (by kernel_rfl) (fun _ _ _ h => h) (Or.inl ⟨by kernel_rfl, ?_⟩) (by first | assumption | trivial) ?_
                rotate_left
                · intro w hSw
                  try dsimp only at hSw
                  first | (go_simp; done) | (go_simp; with_reducible rfl)
                try simp only [Act.put, List.getElem_toArray, List.getElem_cons_succ, List.getElem_cons_zero, List.setIfInBounds_toArray, List.set_cons_zero, List.set_cons_succ]
                refine wpAnyH_ready (rs := [15]) (by kernel_rfl) (by simp) ?_
                refine AllReadyH.cons rfl (fun K hK => ?_) (AllReadyH.nil)
                · skip
                  go_simp
                  refine hK.out _ _ trivial (fun _ => ?_)
                  clear hK K
                  try simp only [Act.put, List.getElem_toArray, List.getElem_cons_succ, List.getElem_cons_zero, List.setIfInBounds_toArray, List.set_cons_zero, List.set_cons_succ]
                  have HO170 := Lib.hid HO169.out.allocB
                  generalize W169.alloc (.cells #[.int .i64 0, .int .i64 0, .int .i64 0, .int .i64 0, .int .i64 0, .int .i64 0, .int .i64 0, .int .i64 0, .int .i64 0, .int .i64 0, .int .i64 0, .int .i64 0, .int .i64 0, .int .i64 0, .int .i64 0, .int .i64 0, .int .i64 0, .int .i64 0, .int .i64 0, .int .i64 0, .int .i64 0, .int .i64 0, .int .i64 0, .int .i64 0, .int .i64 0, .int .i64 0, .int .i64 0, .int .i64 0, .int .i64 0, .int .i64 0, .int .i64 0, .int .i64 0, .int .i64 0, .int .i64 0, .int .i64 0, .int .i64 0, .int .i64 0, .int .i64 0, .int .i64 0, .int .i64 0, .int .i64 0, .int .i64 0, .int .i64 0, .int .i64 0, .int .i64 0, .int .i64 0, .int .i64 0, .int .i64 0, .int .i64 0, .int .i64 0, .int .i64 0, .int .i64 0, .int .i64 0, .int .i64 0, .int .i64 0, .int .i64 0, .int .i64 0, .int .i64 0, .int .i64 0, .int .i64 0, .int .i64 0, .int .i64 0, .int .i64 0, .int .i64 0] 30) = W170 at *
                  obtain ⟨hbO, _, hA, hB, hAB⟩ := HO170.out
                  have HA := Lib.hid (hA _ rfl)
                  have HBq := Lib.hid (hB _ rfl)
                  have HAB := Lib.hid (hAB _ _ rfl rfl)
                  have HBO := Lib.hid hbO
                  clear hbO hA hB hAB
                  have q0 : W170.cell? ⟨W0.heap.size, 0, none⟩ = some (.slice none 0 0) := HA.out.1.cell 0
                  have qf := HA.out.1.free 0
                  have ql := HA.out.1.lt
                  refine wpAnyH_ready (rs := [16]) (by kernel_rfl) (by simp) ?_
                  refine AllReadyH.cons rfl (fun K hK => ?_) AllReadyH.nil
                  go_simp
                  refine hK.out _ _ trivial (fun hS => ?_)
                  clear hK K
                  try simp only [Act.put, List.getElem_toArray, List.getElem_cons_succ, List.getElem_cons_zero, List.setIfInBounds_toArray, List.set_cons_zero, List.set_cons_succ]
                  have HB2 := Lib.hid (HBq.out.1.setOther (a := ⟨W0.heap.size, 0, none⟩) HAB.out (.slice p6 n6 c6))
                  have HW2 := Lib.hid (HBO.out.setCell (p := ⟨W0.heap.size, 0, none⟩) HA.out.2.1 (.slice p6 n6 c6))
                  have HTH : Hid ((W170.setCell ⟨W0.heap.size, 0, none⟩ (.slice p6 n6 c6)).there W169.heap.size 0 (mCells (playM (ps.drop J ++ ps.take J))).size) := by
                    have h1 := HB2.out.there
                    rw [mCells_size, playM_len]
                    exact h1
                  refine wpAnyH_ready (rs := [17]) (by kernel_rfl) (by simp) ?_
                  refine AllReadyH.cons rfl (fun K hK => ?_) AllReadyH.nil
                  rw [if_pos (by kernel_rfl)]
                  refine wp_store_mid 30 (.tmp 12) (.tmp 65) rfl (W169.heap.size) 0 (mCells (playM (ps.drop J ++ ps.take J))) rfl rfl HTH.out HIN.out (mCells_one _) ?_
                  refine hK.out _ _ trivial (fun hS => ?_)
                  clear hK K
                  try simp only [Act.put, List.getElem_toArray, List.getElem_cons_succ, List.getElem_cons_zero, List.setIfInBounds_toArray, List.set_cons_zero, List.set_cons_succ]
                  refine wpAnyH_take (i := 18) (v := ?_) rfl (by kernel_rfl) (by kernel_rfl) (by kernel_rfl) (fun _ _ _ h => h) (Or.inl ⟨by kernel_rfl, ?_⟩) (by first | assumption | trivial) ?_
                  rotate_left
                  · intro w hSw
                    try dsimp only at hSw
                    first | (go_simp; done) | (go_simp; with_reducible rfl)
                  try simp only [Act.put, List.getElem_toArray, List.getElem_cons_succ, List.getElem_cons_zero, List.setIfInBounds_toArray, List.set_cons_zero, List.set_cons_succ]
                  refine wpAnyH_done (by kernel_rfl) ?_ _
                  have hb9 := blk_store HB2.out (mCells (playM (ps.drop J ++ ps.take J))) (by rw [mCells_size, playM_len]; rfl)
                  have hw9 := HW2.out.trans ((Chg.setCells (W169.heap.size) (mCells (playM (ps.drop J ++ ps.take J))).toList 0 _ _ (Chg.refl (W169.heap.size) (W170.setCell ⟨W0.heap.size, 0, none⟩ (.slice p6 n6 c6)))).below HBq.out.2.1 HW2.out.size)
                  have HFIN := Lib.hid (And.intro hb9 hw9)
                  clear hb9 hw9 q0 qf ql
                  go_wp2_with fail
                  go_meet
                  exact ⟨_, rfl, rfl, HFIN⟩
              · skip
                go_simp
                refine hK.out _ _ trivial (fun _ => ?_)
                clear hK K
                try simp only [Act.put, List.getElem_toArray, List.getElem_cons_succ, List.getElem_cons_zero, List.setIfInBounds_toArray, List.set_cons_zero, List.set_cons_succ]
                have HO171 := Lib.hid HO168.out.allocB
                generalize W168.alloc (.cells #[.int .i64 0, .int .i64 0, .int .i64 0, .int .i64 0, .int .i64 0, .int .i64 0, .int .i64 0, .int .i64 0, .int .i64 0, .int .i64 0, .int .i64 0, .int .i64 0, .int .i64 0, .int .i64 0, .int .i64 0, .int .i64 0, .int .i64 0, .int .i64 0, .int .i64 0, .int .i64 0, .int .i64 0, .int .i64 0, .int .i64 0, .int .i64 0, .int .i64 0, .int .i64 0, .int .i64 0, .int .i64 0, .int .i64 0, .int .i64 0, .int .i64 0, .int .i64 0, .int .i64 0, .int .i64 0, .int .i64 0, .int .i64 0, .int .i64 0, .int .i64 0, .int .i64 0, .int .i64 0, .int .i64 0, .int .i64 0, .int .i64 0, .int .i64 0, .int .i64 0, .int .i64 0, .int .i64 0, .int .i64 0, .int .i64 0, .int .i64 0, .int .i64 0, .int .i64 0, .int .i64 0, .int .i64 0, .int .i64 0, .int .i64 0, .int .i64 0, .int .i64 0, .int .i64 0, .int .i64 0, .int .i64 0, .int .i64 0, .int .i64 0, .int .i64 0] 30) = W171 at *
                refine wpAnyH_ready (rs := [9]) (by kernel_rfl) (by simp) ?_
                refine AllReadyH.cons rfl (fun K hK => ?_) (AllReadyH.nil)
                · skip
                  go_simp
                  go_at_call 9
                  refine (play_any W171 _ (ps.drop J ++ ps.take J) HO171.out.2.1.row (by rw [HLA.out]; omega) HFT.out).mono ?_
                  rintro y W172 ⟨v6, rfl, hr6, hb6⟩
                  obtain ⟨p6, c6, hv6⟩ := hr6.shape
                  generalize (posOf (playM (ps.drop J ++ ps.take J))).length = n6 at hv6
                  subst hv6
                  have HO172 := Lib.hid (HO171.out.kept hb6)
                  clear hr6 hb6
                  unfold vecV
                  try go_wp2_with fail
                  refine hK.out _ _ trivial (fun _ => ?_)
                  clear hK K
                  try simp only [Act.put, List.getElem_toArray, List.getElem_cons_succ, List.getElem_cons_zero, List.setIfInBounds_toArray, List.set_cons_zero, List.set_cons_succ]
                  refine wpAnyH_take (i := 10) (v := ?_) rfl (by kernel_rfl) (by kernel_rfl) (by kernel_rfl) (fun _ _ _ h => h) (Or.inl ⟨by kernel_rfl, ?_⟩) (by first | assumption | trivial) ?_
                  rotate_left
                  · intro w hSw
                    try dsimp only at hSw
                    first | (go_simp; done) | (go_simp; with_reducible rfl)
                  try simp only [Act.put, List.getElem_toArray, List.getElem_cons_succ, List.getElem_cons_zero, List.setIfInBounds_toArray, List.set_cons_zero, List.set_cons_succ]
                  refine wpAnyH_take (i := 11) (v := ?_) rfl (by kernel_rfl) (by kernel_rfl) (by kernel_rfl) (fun _ _ _ h => h) (Or.inl ⟨by kernel_rfl, ?_⟩) (by first | assumption | trivial) ?_
                  rotate_left
                  · intro w hSw
                    try dsimp only at hSw
                    first | (go_simp; done) | (go_simp; with_reducible rfl)
                  try simp only [Act.put, List.getElem_toArray, List.getElem_cons_succ, List.getElem_cons_zero, List.setIfInBounds_toArray, List.set_cons_zero, List.set_cons_succ]
                  refine wpAnyH_take (i := 12) (v := ?_) rfl (by kernel_rfl) (by kernel_rfl) (by kernel_rfl) (fun _ _ _ h => h) (Or.inl ⟨by kernel_rfl, ?_⟩) (by first | assumption | trivial) ?_
                  rotate_left
                  · intro w hSw
                    try dsimp only at hSw
                    first | (go_simp; done) | (go_simp; with_reducible rfl)
                  try simp only [Act.put, List.getElem_toArray, List.getElem_cons_succ, List.getElem_cons_zero, List.setIfInBounds_toArray, List.set_cons_zero, List.set_cons_succ]
                  refine wpAnyH_take (i := 13) (v := ?_) rfl (by kernel_rfl) (by kernel_rfl) (by kernel_rfl) (fun _ _ _ h => h) (Or.inl ⟨by kernel_rfl, ?_⟩) (by first | assumption | trivial) ?_
                  rotate_left
                  · intro w hSw
                    try dsimp only at hSw
                    first | (go_simp; done) | (go_simp; with_reducible rfl)
                  try simp only [Act.put, List.getElem_toArray, List.getElem_cons_succ, List.getElem_cons_zero, List.setIfInBounds_toArray, List.set_cons_zero, List.set_cons_succ]
                  obtain ⟨hbO, _, hA, hB, hAB⟩ := HO172.out
                  have HA := Lib.hid (hA _ rfl)
                  have HBq := Lib.hid (hB _ rfl)
                  have HAB := Lib.hid (hAB _ _ rfl rfl)
                  have HBO := Lib.hid hbO
                  clear hbO hA hB hAB
                  have q0 : W172.cell? ⟨W0.heap.size, 0, none⟩ = some (.slice none 0 0) := HA.out.1.cell 0
                  have qf := HA.out.1.free 0
                  have ql := HA.out.1.lt
                  refine wpAnyH_ready (rs := [16]) (by kernel_rfl) (by simp) ?_
                  refine AllReadyH.cons rfl (fun K hK => ?_) AllReadyH.nil
                  go_simp
                  refine hK.out _ _ trivial (fun hS => ?_)
                  clear hK K
                  try simp only [Act.put, List.getElem_toArray, List.getElem_cons_succ, List.getElem_cons_zero, List.setIfInBounds_toArray, List.set_cons_zero, List.set_cons_succ]
                  have HB2 := Lib.hid (HBq.out.1.setOther (a := ⟨W0.heap.size, 0, none⟩) HAB.out (.slice p6 n6 c6))
                  have HW2 := Lib.hid (HBO.out.setCell (p := ⟨W0.heap.size, 0, none⟩) HA.out.2.1 (.slice p6 n6 c6))
                  have HTH : Hid ((W172.setCell ⟨W0.heap.size, 0, none⟩ (.slice p6 n6 c6)).there W168.heap.size 0 (mCells (playM (ps.drop J ++ ps.take J))).size) := by
                    have h1 := HB2.out.there
                    rw [mCells_size, playM_len]
                    exact h1
                  refine wpAnyH_ready (rs := [17]) (by kernel_rfl) (by simp) ?_
                  refine AllReadyH.cons rfl (fun K hK => ?_) AllReadyH.nil
                  rw [if_pos (by kernel_rfl)]
                  refine wp_store_mid 30 (.tmp 12) (.tmp 65) rfl (W168.heap.size) 0 (mCells (playM (ps.drop J ++ ps.take J))) rfl rfl HTH.out HIN.out (mCells_one _) ?_
                  refine hK.out _ _ trivial (fun hS => ?_)
                  clear hK K
                  try simp only [Act.put, List.getElem_toArray, List.getElem_cons_succ, List.getElem_cons_zero, List.setIfInBounds_toArray, List.set_cons_zero, List.set_cons_succ]
                  refine wpAnyH_take (i := 18) (v := ?_) rfl (by kernel_rfl) (by kernel_rfl) (by kernel_rfl) (fun _ _ _ h => h) (Or.inl ⟨by kernel_rfl, ?_⟩) (by first | assumption | trivial) ?_
                  rotate_left
                  · intro w hSw
                    try dsimp only at hSw
                    first | (go_simp; done) | (go_simp; with_reducible rfl)
                  try simp only [Act.put, List.getElem_toArray, List.getElem_cons_succ, List.getElem_cons_zero, List.setIfInBounds_toArray, List.set_cons_zero, List.set_cons_succ]
                  refine wpAnyH_done (by kernel_rfl) ?_ _
                  have hb9 := blk_store HB2.out (mCells (playM (ps.drop J ++ ps.take J))) (by rw [mCells_size, playM_len]; rfl)
                  have hw9 := HW2.out.trans ((Chg.setCells (W168.heap.size) (mCells (playM (ps.drop J ++ ps.take J))).toList 0 _ _ (Chg.refl (W168.heap.size) (W172.setCell ⟨W0.heap.size, 0, none⟩ (.slice p6 n6 c6)))).below HBq.out.2.1 HW2.out.size)
                  have HFIN := Lib.hid (And.intro hb9 hw9)
                  clear hb9 hw9 q0 qf ql
                  go_wp2_with fail
                  go_meet
                  exact ⟨_, rfl, rfl, HFIN⟩
            · skip
              go_simp
              refine hK.out _ _ trivial (fun _ => ?_)
              clear hK K
              try simp only [Act.put, List.getElem_toArray, List.getElem_cons_succ, List.getElem_cons_zero, List.setIfInBounds_toArray, List.set_cons_zero, List.set_cons_succ]
              have HO173 := Lib.hid HO167.out.allocB
              generalize W167.alloc (.cells #[.int .i64 0, .int .i64 0, .int .i64 0, .int .i64 0, .int .i64 0, .int .i64 0, .int .i64 0, .int .i64 0, .int .i64 0, .int .i64 0, .int .i64 0, .int .i64 0, .int .i64 0, .int .i64 0, .int .i64 0, .int .i64 0, .int .i64 0, .int .i64 0, .int .i64 0, .int .i64 0, .int .i64 0, .int .i64 0, .int .i64 0, .int .i64 0, .int .i64 0, .int .i64 0, .int .i64 0, .int .i64 0, .int .i64 0, .int .i64 0, .int .i64 0, .int .i64 0, .int .i64 0, .int .i64 0, .int .i64 0, .int .i64 0, .int .i64 0, .int .i64 0, .int .i64 0, .int .i64 0, .int .i64 0, .int .i64 0, .int .i64 0, .int .i64 0, .int .i64 0, .int .i64 0, .int .i64 0, .int .i64 0, .int .i64 0, .int .i64 0, .int .i64 0, .int .i64 0, .int .i64 0, .int .i64 0, .int .i64 0, .int .i64 0, .int .i64 0, .int .i64 0, .int .i64 0, .int .i64 0, .int .i64 0, .int .i64 0, .int .i64 0, .int .i64 0] 30) = W173 at *
              refine wpAnyH_ready (rs := [8]) (by kernel_rfl) (by simp) ?_
              refine AllReadyH.cons rfl (fun K hK => ?_) (AllReadyH.nil)
              · skip
                refine step_append_o rfl (.tmp 58) (.tmp 61) 22 rfl 46 elt_put _ _ (ps.drop J) (ps.take J) rfl rfl HO173.out (HVT.out.kept HO173.out.1) (by rw [HLD.out, HLT.out]; omega) (ps.drop J ++ ps.take J) n (rfl) HLA.out ?_
                intro p174 c174 W174 ho174
                refine hK.out _ _ trivial (fun _ => ?_)
                clear hK K
                try simp only [Act.put, List.getElem_toArray, List.getElem_cons_succ, List.getElem_cons_zero, List.setIfInBounds_toArray, List.set_cons_zero, List.set_cons_succ]
                have HO174 := Lib.hid ho174
                clear ho174
                refine wpAnyH_ready (rs := [9]) (by kernel_rfl) (by simp) ?_
                refine AllReadyH.cons rfl (fun K hK => ?_) (AllReadyH.nil)
                · skip
                  go_simp
                  go_at_call 9
                  refine (play_any W174 _ (ps.drop J ++ ps.take J) HO174.out.2.1.row (by rw [HLA.out]; omega) HFT.out).mono ?_
                  rintro y W175 ⟨v6, rfl, hr6, hb6⟩
                  obtain ⟨p6, c6, hv6⟩ := hr6.shape
                  generalize (posOf (playM (ps.drop J ++ ps.take J))).length = n6 at hv6
                  subst hv6
                  have HO175 := Lib.hid (HO174.out.kept hb6)
                  clear hr6 hb6
                  unfold vecV
                  try go_wp2_with fail
                  refine hK.out _ _ trivial (fun _ => ?_)
                  clear hK K
                  try simp only [Act.put, List.getElem_toArray, List.getElem_cons_succ, List.getElem_cons_zero, List.setIfInBounds_toArray, List.set_cons_zero, List.set_cons_succ]
                  refine wpAnyH_take (i := 10) (v := ?_) rfl (by kernel_rfl) (by kernel_rfl) (by kernel_rfl) (fun _ _ _ h => h) (Or.inl ⟨by kernel_rfl, ?_⟩) (by first | assumption | trivial) ?_
                  rotate_left
                  · intro w hSw
                    try dsimp only at hSw
                    first | (go_simp; done) | (go_simp; with_reducible rfl)
                  try simp only [Act.put, List.getElem_toArray, List.getElem_cons_succ, List.getElem_cons_zero, List.setIfInBounds_toArray, List.set_cons_zero, List.set_cons_succ]
                  refine wpAnyH_take (i := 11) (v := ?_) rfl (by kernel_rfl) (by kernel_rfl) (by kernel_rfl) (fun _ _ _ h => h) (Or.inl ⟨by kernel_rfl, ?_⟩) (by first | assumption | trivial) ?_
                  rotate_left
                  · intro w hSw
                    try dsimp only at hSw
                    first | (go_simp; done) | (go_simp; with_reducible rfl)
                  try simp only [Act.put, List.getElem_toArray, List.getElem_cons_succ, List.getElem_cons_zero, List.setIfInBounds_toArray, List.set_cons_zero, List.set_cons_succ]
                  refine wpAnyH_take (i := 12) (v := ?_) rfl (by kernel_rfl) (by kernel_rfl) (by kernel_rfl) (fun _ _ _ h => h) (Or.inl ⟨by kernel_rfl, ?_⟩) (by first | assumption | trivial) ?_
                  rotate_left
                  · intro w hSw
                    try dsimp only at hSw
                    first | (go_simp; done) | (go_simp; with_reducible rfl)
                  try simp only [Act.put, List.getElem_toArray, List.getElem_cons_succ, List.getElem_cons_zero, List.setIfInBounds_toArray, List.set_cons_zero, List.set_cons_succ]
                  refine wpAnyH_take (i := 13) (v := ?_) rfl (by kernel_rfl) (by kernel_rfl) (by kernel_rfl) (fun _ _ _ h => h) (Or.inl ⟨by kernel_rfl, ?_⟩) (by first | assumption | trivial) ?_
                  rotate_left
                  · intro w hSw
                    try dsimp only at hSw
                    first | (go_simp; done) | (go_simp; with_reducible rfl)
                  try simp only [Act.put, List.getElem_toArray, List.getElem_cons_succ, List.getElem_cons_zero, List.setIfInBounds_toArray, List.set_cons_zero, List.set_cons_succ]
                  obtain ⟨hbO, _, hA, hB, hAB⟩ := HO175.out
                  have HA := Lib.hid (hA _ rfl)
                  have HBq := Lib.hid (hB _ rfl)
                  have HAB := Lib.hid (hAB _ _ rfl rfl)
                  have HBO := Lib.hid hbO
                  clear hbO hA hB hAB
                  have q0 : W175.cell? ⟨W0.heap.size, 0, none⟩ = some (.slice none 0 0) := HA.out.1.cell 0
                  have qf := HA.out.1.free 0
                  have ql := HA.out.1.lt
                  refine wpAnyH_ready (rs := [16]) (by kernel_rfl) (by simp) ?_
                  refine AllReadyH.cons rfl (fun K hK => ?_) AllReadyH.nil
                  go_simp
                  refine hK.out _ _ trivial (fun hS => ?_)
                  clear hK K
                  try simp only [Act.put, List.getElem_toArray, List.getElem_cons_succ, List.getElem_cons_zero, List.setIfInBounds_toArray, List.set_cons_zero, List.set_cons_succ]
                  have HB2 := Lib.hid (HBq.out.1.setOther (a := ⟨W0.heap.size, 0, none⟩) HAB.out (.slice p6 n6 c6))
                  have HW2 := Lib.hid (HBO.out.setCell (p := ⟨W0.heap.size, 0, none⟩) HA.out.2.1 (.slice p6 n6 c6))
                  have HTH : Hid ((W175.setCell ⟨W0.heap.size, 0, none⟩ (.slice p6 n6 c6)).there W167.heap.size 0 (mCells (playM (ps.drop J ++ ps.take J))).size) := by
                    have h1 := HB2.out.there
                    rw [mCells_size, playM_len]
                    exact h1
                  refine wpAnyH_ready (rs := [17]) (by kernel_rfl) (by simp) ?_
                  refine AllReadyH.cons rfl (fun K hK => ?_) AllReadyH.nil
                  rw [if_pos (by kernel_rfl)]
                  refine wp_store_mid 30 (.tmp 12) (.tmp 65) rfl (W167.heap.size) 0 (mCells (playM (ps.drop J ++ ps.take J))) rfl rfl HTH.out HIN.out (mCells_one _) ?_
                  refine hK.out _ _ trivial (fun hS => ?_)
                  clear hK K
                  try simp only [Act.put, List.getElem_toArray, List.getElem_cons_succ, List.getElem_cons_zero, List.setIfInBounds_toArray, List.set_cons_zero, List.set_cons_succ]
                  refine wpAnyH_take (i := 18) (v := ?_) rfl (by kernel_rfl) (by kernel_rfl) (by kernel_rfl) (fun _ _ _ h => h) (Or.inl ⟨by kernel_rfl, ?_⟩) (by first | assumption | trivial) ?_
                  rotate_left
                  · intro w hSw
                    try dsimp only at hSw
                    first | (go_simp; done) | (go_simp; with_reducible rfl)
                  try simp only [Act.put, List.getElem_toArray, List.getElem_cons_succ, List.getElem_cons_zero, List.setIfInBounds_toArray, List.set_cons_zero, List.set_cons_succ]
                  refine wpAnyH_done (by kernel_rfl) ?_ _
                  have hb9 := blk_store HB2.out (mCells (playM (ps.drop J ++ ps.take J))) (by rw [mCells_size, playM_len]; rfl)
                  have hw9 := HW2.out.trans ((Chg.setCells (W167.heap.size) (mCells (playM (ps.drop J ++ ps.take J))).toList 0 _ _ (Chg.refl (W167.heap.size) (W175.setCell ⟨W0.heap.size, 0, none⟩ (.slice p6 n6 c6)))).below HBq.out.2.1 HW2.out.size)
                  have HFIN := Lib.hid (And.intro hb9 hw9)
                  clear hb9 hw9 q0 qf ql
                  go_wp2_with fail
                  go_meet
                  exact ⟨_, rfl, rfl, HFIN⟩
          · skip
            go_simp
            refine hK.out _ _ trivial (fun _ => ?_)
            clear hK K
            try simp only [Act.put, List.getElem_toArray, List.getElem_cons_succ, List.getElem_cons_zero, List.setIfInBounds_toArray, List.set_cons_zero, List.set_cons_succ]
            have HO176 := Lib.hid HO166.out.allocB
            generalize W166.alloc (.cells #[.int .i64 0, .int .i64 0, .int .i64 0, .int .i64 0, .int .i64 0, .int .i64 0, .int .i64 0, .int .i64 0, .int .i64 0, .int .i64 0, .int .i64 0, .int .i64 0, .int .i64 0, .int .i64 0, .int .i64 0, .int .i64 0, .int .i64 0, .int .i64 0, .int .i64 0, .int .i64 0, .int .i64 0, .int .i64 0, .int .i64 0, .int .i64 0, .int .i64 0, .int .i64 0, .int .i64 0, .int .i64 0, .int .i64 0, .int .i64 0, .int .i64 0, .int .i64 0, .int .i64 0, .int .i64 0, .int .i64 0, .int .i64 0, .int .i64 0, .int .i64 0, .int .i64 0, .int .i64 0, .int .i64 0, .int .i64 0, .int .i64 0, .int .i64 0, .int .i64 0, .int .i64 0, .int .i64 0, .int .i64 0, .int .i64 0, .int .i64 0, .int .i64 0, .int .i64 0, .int .i64 0, .int .i64 0, .int .i64 0, .int .i64 0, .int .i64 0, .int .i64 0, .int .i64 0, .int .i64 0, .int .i64 0, .int .i64 0, .int .i64 0, .int .i64 0] 30) = W176 at *
            refine wpAnyH_ready (rs := [4]) (by kernel_rfl) (by simp) ?_
            refine AllReadyH.cons rfl (fun K hK => ?_) (AllReadyH.nil)
            · skip
              refine step_append_o rfl (.tmp 54) (.tmp 57) 22 rfl 46 elt_put _ _ ([]) (ps.drop J) rfl rfl HO176.out (HVD.out.kept HO176.out.1) (by rw [HLD.out]; simp only [List.length_nil]; omega) (ps.drop J) (n - J) (List.nil_append _) HLD.out ?_
              intro p177 c177 W177 ho177
              refine hK.out _ _ trivial (fun _ => ?_)
              clear hK K
              try simp only [Act.put, List.getElem_toArray, List.getElem_cons_succ, List.getElem_cons_zero, List.setIfInBounds_toArray, List.set_cons_zero, List.set_cons_succ]
              have HO177 := Lib.hid ho177
              clear ho177
              refine wpAnyH_ready (rs := [8]) (by kernel_rfl) (by simp) ?_
              refine AllReadyH.cons rfl (fun K hK => ?_) (AllReadyH.nil)
              · skip
                refine step_append_o rfl (.tmp 58) (.tmp 61) 22 rfl 46 elt_put _ _ (ps.drop J) (ps.take J) rfl rfl HO177.out (HVT.out.kept HO177.out.1) (by rw [HLD.out, HLT.out]; omega) (ps.drop J ++ ps.take J) n (rfl) HLA.out ?_
                intro p178 c178 W178 ho178
                refine hK.out _ _ trivial (fun _ => ?_)
                clear hK K
                try simp only [Act.put, List.getElem_toArray, List.getElem_cons_succ, List.getElem_cons_zero, List.setIfInBounds_toArray, List.set_cons_zero, List.set_cons_succ]
                have HO178 := Lib.hid ho178
                clear ho178
                refine wpAnyH_ready (rs := [9]) (by kernel_rfl) (by simp) ?_
                refine AllReadyH.cons rfl (fun K hK => ?_) (AllReadyH.nil)
                · skip
                  go_simp
                  go_at_call 9
                  refine (play_any W178 _ (ps.drop J ++ ps.take J) HO178.out.2.1.row (by rw [HLA.out]; omega) HFT.out).mono ?_
                  rintro y W179 ⟨v6, rfl, hr6, hb6⟩
                  obtain ⟨p6, c6, hv6⟩ := hr6.shape
                  generalize (posOf (playM (ps.drop J ++ ps.take J))).length = n6 at hv6
                  subst hv6
                  have HO179 := Lib.hid (HO178.out.kept hb6)
                  clear hr6 hb6
                  unfold vecV
                  try go_wp2_with fail
                  refine hK.out _ _ trivial (fun _ => ?_)
                  clear hK K
                  try simp only [Act.put, List.getElem_toArray, List.getElem_cons_succ, List.getElem_cons_zero, List.setIfInBounds_toArray, List.set_cons_zero, List.set_cons_succ]
                  refine wpAnyH_take (i := 10) (v := ?_) rfl (by kernel_rfl) (by kernel_rfl) (by kernel_rfl) (fun _ _ _ h => h) (Or.inl ⟨by kernel_rfl, ?_⟩) (by first | assumption | trivial) ?_
                  rotate_left
                  · intro w hSw
                    try dsimp only at hSw
                    first | (go_simp; done) | (go_simp; with_reducible rfl)
                  try simp only [Act.put, List.getElem_toArray, List.getElem_cons_succ, List.getElem_cons_zero, List.setIfInBounds_toArray, List.set_cons_zero, List.set_cons_succ]
                  refine wpAnyH_take (i := 11) (v := ?_) rfl (by kernel_rfl) (by kernel_rfl) (by kernel_rfl) (fun _ _ _ h => h) (Or.inl ⟨by kernel_rfl, ?_⟩) (by first | assumption | trivial) ?_
                  rotate_left
                  · intro w hSw
                    try dsimp only at hSw
                    first | (go_simp; done) | (go_simp; with_reducible rfl)
                  try simp only [Act.put, List.getElem_toArray, List.getElem_cons_succ, List.getElem_cons_zero, List.setIfInBounds_toArray, List.set_cons_zero, List.set_cons_succ]
                  refine wpAnyH_take (i := 12) (v := ?_) rfl (by kernel_rfl) (by kernel_rfl) (by kernel_rfl) (fun _ _ _ h => h) (Or.inl ⟨by kernel_rfl, ?_⟩) (by first | assumption | trivial) ?_
                  rotate_left
                  · intro w hSw
                    try dsimp only at hSw
                    first | (go_simp; done) | (go_simp; with_reducible rfl)
                  try simp only [Act.put, List.getElem_toArray, List.getElem_cons_succ, List.getElem_cons_zero, List.setIfInBounds_toArray, List.set_cons_zero, List.set_cons_succ]
                  refine wpAnyH_take (i := 13) (v := ?_) rfl (by kernel_rfl) (by kernel_rfl) (by kernel_rfl) (fun _ _ _ h => h) (Or.inl ⟨by kernel_rfl, ?_⟩) (by first | assumption | trivial) ?_
                  rotate_left
                  · intro w hSw
                    try dsimp only at hSw
                    first | (go_simp; done) | (go_simp; with_reducible rfl)
                  try simp only [Act.put, List.getElem_toArray, List.getElem_cons_succ, List.getElem_cons_zero, List.setIfInBounds_toArray, List.set_cons_zero, List.set_cons_succ]
                  obtain ⟨hbO, _, hA, hB, hAB⟩ := HO179.out
                  have HA := Lib.hid (hA _ rfl)
                  have HBq := Lib.hid (hB _ rfl)
                  have HAB := Lib.hid (hAB _ _ rfl rfl)
                  have HBO := Lib.hid hbO
                  clear hbO hA hB hAB
                  have q0 : W179.cell? ⟨W0.heap.size, 0, none⟩ = some (.slice none 0 0) := HA.out.1.cell 0
                  have qf := HA.out.1.free 0
                  have ql := HA.out.1.lt
                  refine wpAnyH_ready (rs := [16]) (by kernel_rfl) (by simp) ?_
                  refine AllReadyH.cons rfl (fun K hK => ?_) AllReadyH.nil
                  go_simp
                  refine hK.out _ _ trivial (fun hS => ?_)
                  clear hK K
                  try simp only [Act.put, List.getElem_toArray, List.getElem_cons_succ, List.getElem_cons_zero, List.setIfInBounds_toArray, List.set_cons_zero, List.set_cons_succ]
                  have HB2 := Lib.hid (HBq.out.1.setOther (a := ⟨W0.heap.size, 0, none⟩) HAB.out (.slice p6 n6 c6))
                  have HW2 := Lib.hid (HBO.out.setCell (p := ⟨W0.heap.size, 0, none⟩) HA.out.2.1 (.slice p6 n6 c6))
                  have HTH : Hid ((W179.setCell ⟨W0.heap.size, 0, none⟩ (.slice p6 n6 c6)).there W166.heap.size 0 (mCells (playM (ps.drop J ++ ps.take J))).size) := by
                    have h1 := HB2.out.there
                    rw [mCells_size, playM_len]
                    exact h1
                  refine wpAnyH_ready (rs := [17]) (by kernel_rfl) (by simp) ?_
                  refine AllReadyH.cons rfl (fun K hK => ?_) AllReadyH.nil
                  rw [if_pos (by kernel_rfl)]
                  refine wp_store_mid 30 (.tmp 12) (.tmp 65) rfl (W166.heap.size) 0 (mCells (playM (ps.drop J ++ ps.take J))) rfl rfl HTH.out HIN.out (mCells_one _) ?_
                  refine hK.out _ _ trivial (fun hS => ?_)
                  clear hK K
                  try simp only [Act.put, List.getElem_toArray, List.getElem_cons_succ, List.getElem_cons_zero, List.setIfInBounds_toArray, List.set_cons_zero, List.set_cons_succ]
                  refine wpAnyH_take (i := 18) (v := ?_) rfl (by kernel_rfl) (by kernel_rfl) (by kernel_rfl) (fun _ _ _ h => h) (Or.inl ⟨by kernel_rfl, ?_⟩) (by first | assumption | trivial) ?_
                  rotate_left
                  · intro w hSw
                    try dsimp only at hSw
                    first | (go_simp; done) | (go_simp; with_reducible rfl)
                  try simp only [Act.put, List.getElem_toArray, List.getElem_cons_succ, List.getElem_cons_zero, List.setIfInBounds_toArray, List.set_cons_zero, List.set_cons_succ]
                  refine wpAnyH_done (by kernel_rfl) ?_ _
                  have hb9 := blk_store HB2.out (mCells (playM (ps.drop J ++ ps.take J))) (by rw [mCells_size, playM_len]; rfl)
                  have hw9 := HW2.out.trans ((Chg.setCells (W166.heap.size) (mCells (playM (ps.drop J ++ ps.take J))).toList 0 _ _ (Chg.refl (W166.heap.size) (W179.setCell ⟨W0.heap.size, 0, none⟩ (.slice p6 n6 c6)))).below HBq.out.2.1 HW2.out.size)
                  have HFIN := Lib.hid (And.intro hb9 hw9)
                  clear hb9 hw9 q0 qf ql
                  go_wp2_with fail
                  go_meet
                  exact ⟨_, rfl, rfl, HFIN⟩
        · skip
          go_simp
          refine hK.out _ _ trivial (fun _ => ?_)
          clear hK K
          try simp only [Act.put, List.getElem_toArray, List.getElem_cons_succ, List.getElem_cons_zero, List.setIfInBounds_toArray, List.set_cons_zero, List.set_cons_succ]
          have HO180 := Lib.hid HO165.out.allocB
          generalize W165.alloc (.cells #[.int .i64 0, .int .i64 0, .int .i64 0, .int .i64 0, .int .i64 0, .int .i64 0, .int .i64 0, .int .i64 0, .int .i64 0, .int .i64 0, .int .i64 0, .int .i64 0, .int .i64 0, .int .i64 0, .int .i64 0, .int .i64 0, .int .i64 0, .int .i64 0, .int .i64 0, .int .i64 0, .int .i64 0, .int .i64 0, .int .i64 0, .int .i64 0, .int .i64 0, .int .i64 0, .int .i64 0, .int .i64 0, .int .i64 0, .int .i64 0, .int .i64 0, .int .i64 0, .int .i64 0, .int .i64 0, .int .i64 0, .int .i64 0, .int .i64 0, .int .i64 0, .int .i64 0, .int .i64 0, .int .i64 0, .int .i64 0, .int .i64 0, .int .i64 0, .int .i64 0, .int .i64 0, .int .i64 0, .int .i64 0, .int .i64 0, .int .i64 0, .int .i64 0, .int .i64 0, .int .i64 0, .int .i64 0, .int .i64 0, .int .i64 0, .int .i64 0, .int .i64 0, .int .i64 0, .int .i64 0, .int .i64 0, .int .i64 0, .int .i64 0, .int .i64 0] 30) = W180 at *
          refine wpAnyH_ready (rs := [0]) (by kernel_rfl) (by simp) ?_
          refine AllReadyH.cons rfl (fun K hK => ?_) (AllReadyH.nil)
          · skip
            go_simp
            refine hK.out _ _ trivial (fun _ => ?_)
            clear hK K
            try simp only [Act.put, List.getElem_toArray, List.getElem_cons_succ, List.getElem_cons_zero, List.setIfInBounds_toArray, List.set_cons_zero, List.set_cons_succ]
            have HO181 := Lib.hid HO180.out.build
            generalize W180.alloc (.cells #[] 46) = W181 at *
            refine wpAnyH_ready (rs := [4]) (by kernel_rfl) (by simp) ?_
            refine AllReadyH.cons rfl (fun K hK => ?_) (AllReadyH.nil)
            · skip
              refine step_append_o rfl (.tmp 54) (.tmp 57) 22 rfl 46 elt_put _ _ ([]) (ps.drop J) rfl rfl HO181.out (HVD.out.kept HO181.out.1) (by rw [HLD.out]; simp only [List.length_nil]; omega) (ps.drop J) (n - J) (List.nil_append _) HLD.out ?_
              intro p182 c182 W182 ho182
              refine hK.out _ _ trivial (fun _ => ?_)
              clear hK K
              try simp only [Act.put, List.getElem_toArray, List.getElem_cons_succ, List.getElem_cons_zero, List.setIfInBounds_toArray, List.set_cons_zero, List.set_cons_succ]
              have HO182 := Lib.hid ho182
              clear ho182
              refine wpAnyH_ready (rs := [8]) (by kernel_rfl) (by simp) ?_
              refine AllReadyH.cons rfl (fun K hK => ?_) (AllReadyH.nil)
              · skip
                refine step_append_o rfl (.tmp 58) (.tmp 61) 22 rfl 46 elt_put _ _ (ps.drop J) (ps.take J) rfl rfl HO182.out (HVT.out.kept HO182.out.1) (by rw [HLD.out, HLT.out]; omega) (ps.drop J ++ ps.take J) n (rfl) HLA.out ?_
                intro p183 c183 W183 ho183
                refine hK.out _ _ trivial (fun _ => ?_)
                clear hK K
                try simp only [Act.put, List.getElem_toArray, List.getElem_cons_succ, List.getElem_cons_zero, List.setIfInBounds_toArray, List.set_cons_zero, List.set_cons_succ]
                have HO183 := Lib.hid ho183
                clear ho183
                refine wpAnyH_ready (rs := [9]) (by kernel_rfl) (by simp) ?_
                refine AllReadyH.cons rfl (fun K hK => ?_) (AllReadyH.nil)
                · skip
                  go_simp
                  go_at_call 9
                  refine (play_any W183 _ (ps.drop J ++ ps.take J) HO183.out.2.1.row (by rw [HLA.out]; omega) HFT.out).mono ?_
                  rintro y W184 ⟨v6, rfl, hr6, hb6⟩
                  obtain ⟨p6, c6, hv6⟩ := hr6.shape
                  generalize (posOf (playM (ps.drop J ++ ps.take J))).length = n6 at hv6
                  subst hv6
                  have HO184 := Lib.hid (HO183.out.kept hb6)
                  clear hr6 hb6
                  unfold vecV
                  try go_wp2_with fail
                  refine hK.out _ _ trivial (fun _ => ?_)
                  clear hK K
                  try simp only [Act.put, List.getElem_toArray, List.getElem_cons_succ, List.getElem_cons_zero, List.setIfInBounds_toArray, List.set_cons_zero, List.set_cons_succ]
                  refine wpAnyH_take (i := 10) (v := ?_) rfl (by kernel_rfl) (by kernel_rfl) (by kernel_rfl) (fun _ _ _ h => h) (Or.inl ⟨by kernel_rfl, ?_⟩) (by first | assumption | trivial) ?_
                  rotate_left
                  · intro w hSw
                    try dsimp only at hSw
                    first | (go_simp; done) | (go_simp; with_reducible rfl)
                  try simp only [Act.put, List.getElem_toArray, List.getElem_cons_succ, List.getElem_cons_zero, List.setIfInBounds_toArray, List.set_cons_zero, List.set_cons_succ]
                  refine wpAnyH_take (i := 11) (v := ?_) rfl (by kernel_rfl) (by kernel_rfl) (by kernel_rfl) (fun _ _ _ h => h) (Or.inl ⟨by kernel_rfl, ?_⟩) (by first | assumption | trivial) ?_
                  rotate_left
                  · intro w hSw
                    try dsimp only at hSw
                    first | (go_simp; done) | (go_simp; with_reducible rfl)
                  try simp only [Act.put, List.getElem_toArray, List.getElem_cons_succ, List.getElem_cons_zero, List.setIfInBounds_toArray, List.set_cons_zero, List.set_cons_succ]
                  refine wpAnyH_take (i := 12) (v := ?_) rfl (by kernel_rfl) (by kernel_rfl) (by kernel_rfl) (fun _ _ _ h => h) (Or.inl ⟨by kernel_rfl, ?_⟩) (by first | assumption | trivial) ?_
                  rotate_left
                  · intro w hSw
                    try dsimp only at hSw
                    first | (go_simp; done) | (go_simp; with_reducible rfl)
                  try simp only [Act.put, List.getElem_toArray, List.getElem_cons_succ, List.getElem_cons_zero, List.setIfInBounds_toArray, List.set_cons_zero, List.set_cons_succ]
                  refine wpAnyH_take (i := 13) (v := ?_) rfl (by kernel_rfl) (by kernel_rfl) (by kernel_rfl) (fun _ _ _ h => h) (Or.inl ⟨by kernel_rfl, ?_⟩) (by first | assumption | trivial) ?_
                  rotate_left
                  · intro w hSw
                    try dsimp only at hSw
                    first | (go_simp; done) | (go_simp; with_reducible rfl)
                  try simp only [Act.put, List.getElem_toArray, List.getElem_cons_succ, List.getElem_cons_zero, List.setIfInBounds_toArray, List.set_cons_zero, List.set_cons_succ]
                  obtain ⟨hbO, _, hA, hB, hAB⟩ := HO184.out
                  have HA := Lib.hid (hA _ rfl)
                  have HBq := Lib.hid (hB _ rfl)
                  have HAB := Lib.hid (hAB _ _ rfl rfl)
                  have HBO := Lib.hid hbO
                  clear hbO hA hB hAB
                  have q0 : W184.cell? ⟨W0.heap.size, 0, none⟩ = some (.slice none 0 0) := HA.out.1.cell 0
                  have qf := HA.out.1.free 0
                  have ql := HA.out.1.lt
                  refine wpAnyH_ready (rs := [16]) (by kernel_rfl) (by simp) ?_
                  refine AllReadyH.cons rfl (fun K hK => ?_) AllReadyH.nil
                  go_simp
                  refine hK.out _ _ trivial (fun hS => ?_)
                  clear hK K
                  try simp only [Act.put, List.getElem_toArray, List.getElem_cons_succ, List.getElem_cons_zero, List.setIfInBounds_toArray, List.set_cons_zero, List.set_cons_succ]
                  have HB2 := Lib.hid (HBq.out.1.setOther (a := ⟨W0.heap.size, 0, none⟩) HAB.out (.slice p6 n6 c6))
                  have HW2 := Lib.hid (HBO.out.setCell (p := ⟨W0.heap.size, 0, none⟩) HA.out.2.1 (.slice p6 n6 c6))
                  have HTH : Hid ((W184.setCell ⟨W0.heap.size, 0, none⟩ (.slice p6 n6 c6)).there W165.heap.size 0 (mCells (playM (ps.drop J ++ ps.take J))).size) := by
                    have h1 := HB2.out.there
                    rw [mCells_size, playM_len]
                    exact h1
                  refine wpAnyH_ready (rs := [17]) (by kernel_rfl) (by simp) ?_
                  refine AllReadyH.cons rfl (fun K hK => ?_) AllReadyH.nil
                  rw [if_pos (by kernel_rfl)]
                  refine wp_store_mid 30 (.tmp 12) (.tmp 65) rfl (W165.heap.size) 0 (mCells (playM (ps.drop J ++ ps.take J))) rfl rfl HTH.out HIN.out (mCells_one _) ?_
                  refine hK.out _ _ trivial (fun hS => ?_)
                  clear hK K
                  try simp only [Act.put, List.getElem_toArray, List.getElem_cons_succ, List.getElem_cons_zero, List.setIfInBounds_toArray, List.set_cons_zero, List.set_cons_succ]
                  refine wpAnyH_take (i := 18) (v := ?_) rfl (by kernel_rfl) (by kernel_rfl) (by kernel_rfl) (fun _ _ _ h => h) (Or.inl ⟨by kernel_rfl, ?_⟩) (by first | assumption | trivial) ?_
                  rotate_left
                  · intro w hSw
                    try dsimp only at hSw
                    first | (go_simp; done) | (go_simp; with_reducible rfl)
                  try simp only [Act.put, List.getElem_toArray, List.getElem_cons_succ, List.getElem_cons_zero, List.setIfInBounds_toArray, List.set_cons_zero, List.set_cons_succ]
                  refine wpAnyH_done (by kernel_rfl) ?_ _
                  have hb9 := blk_store HB2.out (mCells (playM (ps.drop J ++ ps.take J))) (by rw [mCells_size, playM_len]; rfl)
                  have hw9 := HW2.out.trans ((Chg.setCells (W165.heap.size) (mCells (playM (ps.drop J ++ ps.take J))).toList 0 _ _ (Chg.refl (W165.heap.size) (W184.setCell ⟨W0.heap.size, 0, none⟩ (.slice p6 n6 c6)))).below HBq.out.2.1 HW2.out.size)
                  have HFIN := Lib.hid (And.intro hb9 hw9)
                  clear hb9 hw9 q0 qf ql
                  go_wp2_with fail
                  go_meet
                  exact ⟨_, rfl, rfl, HFIN⟩
      · skip
        go_simp
        refine hK.out _ _ trivial (fun _ => ?_)
        clear hK K
        try simp only [Act.put, List.getElem_toArray, List.getElem_cons_succ, List.getElem_cons_zero, List.setIfInBounds_toArray, List.set_cons_zero, List.set_cons_succ]
        have HO185 := Lib.hid HO0.out.allocB
        generalize W0.alloc (.cells #[.int .i64 0, .int .i64 0, .int .i64 0, .int .i64 0, .int .i64 0, .int .i64 0, .int .i64 0, .int .i64 0, .int .i64 0, .int .i64 0, .int .i64 0, .int .i64 0, .int .i64 0, .int .i64 0, .int .i64 0, .int .i64 0, .int .i64 0, .int .i64 0, .int .i64 0, .int .i64 0, .int .i64 0, .int .i64 0, .int .i64 0, .int .i64 0, .int .i64 0, .int .i64 0, .int .i64 0, .int .i64 0, .int .i64 0, .int .i64 0, .int .i64 0, .int .i64 0, .int .i64 0, .int .i64 0, .int .i64 0, .int .i64 0, .int .i64 0, .int .i64 0, .int .i64 0, .int .i64 0, .int .i64 0, .int .i64 0, .int .i64 0, .int .i64 0, .int .i64 0, .int .i64 0, .int .i64 0, .int .i64 0, .int .i64 0, .int .i64 0, .int .i64 0, .int .i64 0, .int .i64 0, .int .i64 0, .int .i64 0, .int .i64 0, .int .i64 0, .int .i64 0, .int .i64 0, .int .i64 0, .int .i64 0, .int .i64 0, .int .i64 0, .int .i64 0] 30) = W185 at *
        refine wpAnyH_ready (rs := [0, 14]) (by kernel_rfl) (by simp) ?_
        refine AllReadyH.cons rfl (fun K hK => ?_) (AllReadyH.cons rfl (fun K hK => ?_) (AllReadyH.nil))
        · skip
          go_simp
          refine hK.out _ _ trivial (fun _ => ?_)
          clear hK K
          try simp only [Act.put, List.getElem_toArray, List.getElem_cons_succ, List.getElem_cons_zero, List.setIfInBounds_toArray, List.set_cons_zero, List.set_cons_succ]
          have HO186 := Lib.hid HO185.out.build
          generalize W185.alloc (.cells #[] 46) = W186 at *
          refine wpAnyH_ready (rs := [4, 14]) (by kernel_rfl) (by simp) ?_
          refine AllReadyH.cons rfl (fun K hK => ?_) (AllReadyH.cons rfl (fun K hK => ?_) (AllReadyH.nil))
          · skip
            refine step_append_o rfl (.tmp 54) (.tmp 57) 22 rfl 46 elt_put _ _ ([]) (ps.drop J) rfl rfl HO186.out (HVD.out.kept HO186.out.1) (by rw [HLD.out]; simp only [List.length_nil]; omega) (ps.drop J) (n - J) (List.nil_append _) HLD.out ?_
            intro p187 c187 W187 ho187
            refine hK.out _ _ trivial (fun _ => ?_)
            clear hK K
            try simp only [Act.put, List.getElem_toArray, List.getElem_cons_succ, List.getElem_cons_zero, List.setIfInBounds_toArray, List.set_cons_zero, List.set_cons_succ]
            have HO187 := Lib.hid ho187
            clear ho187
            refine wpAnyH_ready (rs := [8, 14]) (by kernel_rfl) (by simp) ?_
            refine AllReadyH.cons rfl (fun K hK => ?_) (AllReadyH.cons rfl (fun K hK => ?_) (AllReadyH.nil))
            · skip
              refine step_append_o rfl (.tmp 58) (.tmp 61) 22 rfl 46 elt_put _ _ (ps.drop J) (ps.take J) rfl rfl HO187.out (HVT.out.kept HO187.out.1) (by rw [HLD.out, HLT.out]; omega) (ps.drop J ++ ps.take J) n (rfl) HLA.out ?_
              intro p188 c188 W188 ho188
              refine hK.out _ _ trivial (fun _ => ?_)
              clear hK K
              try simp only [Act.put, List.getElem_toArray, List.getElem_cons_succ, List.getElem_cons_zero, List.setIfInBounds_toArray, List.set_cons_zero, List.set_cons_succ]
              have HO188 := Lib.hid ho188
              clear ho188
              refine wpAnyH_ready (rs := [9, 14]) (by kernel_rfl) (by simp) ?_
              refine AllReadyH.cons rfl (fun K hK => ?_) (AllReadyH.cons rfl (fun K hK => ?_) (AllReadyH.nil))
              · skip
                go_simp
                go_at_call 9
                refine (play_any W188 _ (ps.drop J ++ ps.take J) HO188.out.2.1.row (by rw [HLA.out]; omega) HFT.out).mono ?_
                rintro y W189 ⟨v6, rfl, hr6, hb6⟩
                obtain ⟨p6, c6, hv6⟩ := hr6.shape
                generalize (posOf (playM (ps.drop J ++ ps.take J))).length = n6 at hv6
                subst hv6
                have HO189 := Lib.hid (HO188.out.kept hb6)
                clear hr6 hb6
                unfold vecV
                try go_wp2_with fail
                refine hK.out _ _ trivial (fun _ => ?_)
                clear hK K
                try simp only [Act.put, List.getElem_toArray, List.getElem_cons_succ, List.getElem_cons_zero, List.setIfInBounds_toArray, List.set_cons_zero, List.set_cons_succ]
                refine wpAnyH_take (i := 10) (v := ?_) rfl (by kernel_rfl) (by kernel_rfl) (by kernel_rfl) (fun _ _ _ h => h) (Or.inl ⟨by kernel_rfl, ?_⟩) (by first | assumption | trivial) ?_
                rotate_left
                · intro w hSw
                  try dsimp only at hSw
                  first | (go_simp; done) | (go_simp; with_reducible rfl)
                try simp only [Act.put, List.getElem_toArray, List.getElem_cons_succ, List.getElem_cons_zero, List.setIfInBounds_toArray, List.set_cons_zero, List.set_cons_succ]
                refine wpAnyH_take (i := 11) (v := ?_) rfl (by kernel_rfl) (by kernel_rfl) (by kernel_rfl) (fun _ _ _ h => h) (Or.inl ⟨by kernel_rfl, ?_⟩) (by first | assumption | trivial) ?_
                rotate_left
                · intro w hSw
                  try dsimp only at hSw
                  first | (go_simp; done) | (go_simp; with_reducible rfl)
                try simp only [Act.put, List.getElem_toArray, List.getElem_cons_succ, List.getElem_cons_zero, List.setIfInBounds_toArray, List.set_cons_zero, List.set_cons_succ]
                refine wpAnyH_take (i := 12) (v := ?_) rfl (by kernel_rfl) (by kernel_rfl) (by kernel_rfl) (fun _ _ _ h => h) (Or.inl ⟨by kernel_rfl, ?_⟩) (by first | assumption | trivial) ?_
                rotate_left
                · intro w hSw
                  try dsimp only at hSw
                  first | (go_simp; done) | (go_simp; with_reducible rfl)
                try simp only [Act.put, List.getElem_toArray, List.getElem_cons_succ, List.getElem_cons_zero, List.setIfInBounds_toArray, List.set_cons_zero, List.set_cons_succ]
                refine wpAnyH_take (i := 13) (v := ?_) rfl (by kernel_rfl) (by kernel_rfl) (by kernel_rfl) (fun _ _ _ h => h) (Or.inl ⟨by kernel_rfl, ?_⟩) (by first | assumption | trivial) ?_
                rotate_left
                · intro w hSw
                  try dsimp only at hSw
                  first | (go_simp; done) | (go_simp; with_reducible rfl)
                try simp only [Act.put, List.getElem_toArray, List.getElem_cons_succ, List.getElem_cons_zero, List.setIfInBounds_toArray, List.set_cons_zero, List.set_cons_succ]
                refine wpAnyH_ready (rs := [14]) (by kernel_rfl) (by simp) ?_
                refine AllReadyH.cons rfl (fun K hK => ?_) (AllReadyH.nil)
                · skip
                  go_simp
                  refine hK.out _ _ trivial (fun _ => ?_)
                  clear hK K
                  try simp only [Act.put, List.getElem_toArray, List.getElem_cons_succ, List.getElem_cons_zero, List.setIfInBounds_toArray, List.set_cons_zero, List.set_cons_succ]
                  have HO190 := Lib.hid HO189.out.allocA
                  generalize W189.alloc (.cells #[.slice none 0 0] 27) = W190 at *
                  obtain ⟨hbO, _, hA, hB, hAB⟩ := HO190.out
                  have HA := Lib.hid (hA _ rfl)
                  have HBq := Lib.hid (hB _ rfl)
                  have HAB := Lib.hid (hAB _ _ rfl rfl)
                  have HBO := Lib.hid hbO
                  clear hbO hA hB hAB
                  have q0 : W190.cell? ⟨W189.heap.size, 0, none⟩ = some (.slice none 0 0) := HA.out.1.cell 0
                  have qf := HA.out.1.free 0
                  have ql := HA.out.1.lt
                  refine wpAnyH_ready (rs := [16]) (by kernel_rfl) (by simp) ?_
                  refine AllReadyH.cons rfl (fun K hK => ?_) AllReadyH.nil
                  go_simp
                  refine hK.out _ _ trivial (fun hS => ?_)
                  clear hK K
                  try simp only [Act.put, List.getElem_toArray, List.getElem_cons_succ, List.getElem_cons_zero, List.setIfInBounds_toArray, List.set_cons_zero, List.set_cons_succ]
                  have HB2 := Lib.hid (HBq.out.1.setOther (a := ⟨W189.heap.size, 0, none⟩) HAB.out (.slice p6 n6 c6))
                  have HW2 := Lib.hid (HBO.out.setCell (p := ⟨W189.heap.size, 0, none⟩) HA.out.2.1 (.slice p6 n6 c6))
                  have HTH : Hid ((W190.setCell ⟨W189.heap.size, 0, none⟩ (.slice p6 n6 c6)).there W0.heap.size 0 (mCells (playM (ps.drop J ++ ps.take J))).size) := by
                    have h1 := HB2.out.there
                    rw [mCells_size, playM_len]
                    exact h1
                  refine wpAnyH_ready (rs := [17]) (by kernel_rfl) (by simp) ?_
                  refine AllReadyH.cons rfl (fun K hK => ?_) AllReadyH.nil
                  rw [if_pos (by kernel_rfl)]
                  refine wp_store_mid 30 (.tmp 12) (.tmp 65) rfl (W0.heap.size) 0 (mCells (playM (ps.drop J ++ ps.take J))) rfl rfl HTH.out HIN.out (mCells_one _) ?_
                  refine hK.out _ _ trivial (fun hS => ?_)
                  clear hK K
                  try simp only [Act.put, List.getElem_toArray, List.getElem_cons_succ, List.getElem_cons_zero, List.setIfInBounds_toArray, List.set_cons_zero, List.set_cons_succ]
                  refine wpAnyH_take (i := 18) (v := ?_) rfl (by kernel_rfl) (by kernel_rfl) (by kernel_rfl) (fun _ _ _ h => h) (Or.inl ⟨by kernel_rfl, ?_⟩) (by first | assumption | trivial) ?_
                  rotate_left
                  · intro w hSw
                    try dsimp only at hSw
                    first | (go_simp; done) | (go_simp; with_reducible rfl)
                  try simp only [Act.put, List.getElem_toArray, List.getElem_cons_succ, List.getElem_cons_zero, List.setIfInBounds_toArray, List.set_cons_zero, List.set_cons_succ]
                  refine wpAnyH_done (by kernel_rfl) ?_ _
                  have hb9 := blk_store HB2.out (mCells (playM (ps.drop J ++ ps.take J))) (by rw [mCells_size, playM_len]; rfl)
                  have hw9 := HW2.out.trans ((Chg.setCells (W0.heap.size) (mCells (playM (ps.drop J ++ ps.take J))).toList 0 _ _ (Chg.refl (W0.heap.size) (W190.setCell ⟨W189.heap.size, 0, none⟩ (.slice p6 n6 c6)))).below HBq.out.2.1 HW2.out.size)
                  have HFIN := Lib.hid (And.intro hb9 hw9)
                  clear hb9 hw9 q0 qf ql
                  go_wp2_with fail
                  go_meet
                  exact ⟨_, rfl, rfl, HFIN⟩
              · skip
                go_simp
                refine hK.out _ _ trivial (fun _ => ?_)
                clear hK K
                try simp only [Act.put, List.getElem_toArray, List.getElem_cons_succ, List.getElem_cons_zero, List.setIfInBounds_toArray, List.set_cons_zero, List.set_cons_succ]
                have HO191 := Lib.hid HO188.out.allocA
                generalize W188.alloc (.cells #[.slice none 0 0] 27) = W191 at *
                refine wpAnyH_ready (rs := [9]) (by kernel_rfl) (by simp) ?_
                refine AllReadyH.cons rfl (fun K hK => ?_) (AllReadyH.nil)
                · skip
                  go_simp
                  go_at_call 9
                  refine (play_any W191 _ (ps.drop J ++ ps.take J) HO191.out.2.1.row (by rw [HLA.out]; omega) HFT.out).mono ?_
                  rintro y W192 ⟨v6, rfl, hr6, hb6⟩
                  obtain ⟨p6, c6, hv6⟩ := hr6.shape
                  generalize (posOf (playM (ps.drop J ++ ps.take J))).length = n6 at hv6
                  subst hv6
                  have HO192 := Lib.hid (HO191.out.kept hb6)
                  clear hr6 hb6
                  unfold vecV
                  try go_wp2_with fail
                  refine hK.out _ _ trivial (fun _ => ?_)
                  clear hK K
                  try simp only [Act.put, List.getElem_toArray, List.getElem_cons_succ, List.getElem_cons_zero, List.setIfInBounds_toArray, List.set_cons_zero, List.set_cons_succ]
                  refine wpAnyH_take (i := 10) (v := ?_) rfl (by kernel_rfl) (by kernel_rfl) (by kernel_rfl) (fun _ _ _ h => h) (Or.inl ⟨by kernel_rfl, ?_⟩) (by first | assumption | trivial) ?_
                  rotate_left
                  · intro w hSw
                    try dsimp only at hSw
                    first | (go_simp; done) | (go_simp; with_reducible rfl)
                  try simp only [Act.put, List.getElem_toArray, List.getElem_cons_succ, List.getElem_cons_zero, List.setIfInBounds_toArray, List.set_cons_zero, List.set_cons_succ]
                  refine wpAnyH_take (i := 11) (v := ?_) rfl (by kernel_rfl) (by kernel_rfl) (by kernel_rfl) (fun _ _ _ h => h) (Or.inl ⟨by kernel_rfl, ?_⟩) (by first | assumption | trivial) ?_
                  rotate_left
                  · intro w hSw
                    try dsimp only at hSw
                    first | (go_simp; done) | (go_simp; with_reducible rfl)
                  try simp only [Act.put, List.getElem_toArray, List.getElem_cons_succ, List.getElem_cons_zero, List.setIfInBounds_toArray, List.set_cons_zero, List.set_cons_succ]
                  refine wpAnyH_take (i := 12) (v := ?_) rfl (by kernel_rfl) (by kernel_rfl) (by kernel_rfl) (fun _ _ _ h => h) (Or.inl ⟨by kernel_rfl, ?_⟩) (by first | assumption | trivial) ?_
                  rotate_left
                  · intro w hSw
                    try dsimp only at hSw
                    first | (go_simp; done) | (go_simp; with_reducible rfl)
                  try simp only [Act.put, List.getElem_toArray, List.getElem_cons_succ, List.getElem_cons_zero, List.setIfInBounds_toArray, List.set_cons_zero, List.set_cons_succ]
                  refine wpAnyH_take (i := 13) (v := ?_) rfl (by kernel_rfl) (by kernel_rfl) (by kernel_rfl) (fun _ _ _ h => h) (Or.inl ⟨by kernel_rfl, ?_⟩) (by first | assumption | trivial) ?_
                  rotate_left
                  · intro w hSw
                    try dsimp only at hSw
                    first | (go_simp; done) | (go_simp; with_reducible rfl)
                  try simp only [Act.put, List.getElem_toArray, List.getElem_cons_succ, List.getElem_cons_zero, List.setIfInBounds_toArray, List.set_cons_zero, List.set_cons_succ]
                  obtain ⟨hbO, _, hA, hB, hAB⟩ := HO192.out
                  have HA := Lib.hid (hA _ rfl)
                  have HBq := Lib.hid (hB _ rfl)
                  have HAB := Lib.hid (hAB _ _ rfl rfl)
                  have HBO := Lib.hid hbO
                  clear hbO hA hB hAB
                  have q0 : W192.cell? ⟨W188.heap.size, 0, none⟩ = some (.slice none 0 0) := HA.out.1.cell 0
                  have qf := HA.out.1.free 0
                  have ql := HA.out.1.lt
                  refine wpAnyH_ready (rs := [16]) (by kernel_rfl) (by simp) ?_
                  refine AllReadyH.cons rfl (fun K hK => ?_) AllReadyH.nil
                  go_simp
                  refine hK.out _ _ trivial (fun hS => ?_)
                  clear hK K
                  try simp only [Act.put, List.getElem_toArray, List.getElem_cons_succ, List.getElem_cons_zero, List.setIfInBounds_toArray, List.set_cons_zero, List.set_cons_succ]
                  have HB2 := Lib.hid (HBq.out.1.setOther (a := ⟨W188.heap.size, 0, none⟩) HAB.out (.slice p6 n6 c6))
                  have HW2 := Lib.hid (HBO.out.setCell (p := ⟨W188.heap.size, 0, none⟩) HA.out.2.1 (.slice p6 n6 c6))
                  have HTH : Hid ((W192.setCell ⟨W188.heap.size, 0, none⟩ (.slice p6 n6 c6)).there W0.heap.size 0 (mCells (playM (ps.drop J ++ ps.take J))).size) := by
                    have h1 := HB2.out.there
                    rw [mCells_size, playM_len]
                    exact h1
                  refine wpAnyH_ready (rs := [17]) (by kernel_rfl) (by simp) ?_
                  refine AllReadyH.cons rfl (fun K hK => ?_) AllReadyH.nil
                  rw [if_pos (by kernel_rfl)]
                  refine wp_store_mid 30 (.tmp 12) (.tmp 65) rfl (W0.heap.size) 0 (mCells (playM (ps.drop J ++ ps.take J))) rfl rfl HTH.out HIN.out (mCells_one _) ?_
                  refine hK.out _ _ trivial (fun hS => ?_)
                  clear hK K
                  try simp only [Act.put, List.getElem_toArray, List.getElem_cons_succ, List.getElem_cons_zero, List.setIfInBounds_toArray, List.set_cons_zero, List.set_cons_succ]
                  refine wpAnyH_take (i := 18) (v := ?_) rfl (by kernel_rfl) (by kernel_rfl) (by kernel_rfl) (fun _ _ _ h => h) (Or.inl ⟨by kernel_rfl, ?_⟩) (by first | assumption | trivial) ?_
                  rotate_left
                  · intro w hSw
                    try dsimp only at hSw
                    first | (go_simp; done) | (go_simp; with_reducible rfl)
                  try simp only [Act.put, List.getElem_toArray, List.getElem_cons_succ, List.getElem_cons_zero, List.setIfInBounds_toArray, List.set_cons_zero, List.set_cons_succ]
                  refine wpAnyH_done (by kernel_rfl) ?_ _
                  have hb9 := blk_store HB2.out (mCells (playM (ps.drop J ++ ps.take J))) (by rw [mCells_size, playM_len]; rfl)
                  have hw9 := HW2.out.trans ((Chg.setCells (W0.heap.size) (mCells (playM (ps.drop J ++ ps.take J))).toList 0 _ _ (Chg.refl (W0.heap.size) (W192.setCell ⟨W188.heap.size, 0, none⟩ (.slice p6 n6 c6)))).below HBq.out.2.1 HW2.out.size)
                  have HFIN := Lib.hid (And.intro hb9 hw9)
                  clear hb9 hw9 q0 qf ql
                  go_wp2_with fail
                  go_meet
                  exact ⟨_, rfl, rfl, HFIN⟩
            · skip
              go_simp
              refine hK.out _ _ trivial (fun _ => ?_)
              clear hK K
              try simp only [Act.put, List.getElem_toArray, List.getElem_cons_succ, List.getElem_cons_zero, List.setIfInBounds_toArray, List.set_cons_zero, List.set_cons_succ]
              have HO193 := Lib.hid HO187.out.allocA
              generalize W187.alloc (.cells #[.slice none 0 0] 27) = W193 at *
              refine wpAnyH_ready (rs := [8]) (by kernel_rfl) (by simp) ?_
              refine AllReadyH.cons rfl (fun K hK => ?_) (AllReadyH.nil)
              · skip
                refine step_append_o rfl (.tmp 58) (.tmp 61) 22 rfl 46 elt_put _ _ (ps.drop J) (ps.take J) rfl rfl HO193.out (HVT.out.kept HO193.out.1) (by rw [HLD.out, HLT.out]; omega) (ps.drop J ++ ps.take J) n (rfl) HLA.out ?_
                intro p194 c194 W194 ho194
                refine hK.out _ _ trivial (fun _ => ?_)
                clear hK K
                try simp only [Act.put, List.getElem_toArray, List.getElem_cons_succ, List.getElem_cons_zero, List.setIfInBounds_toArray, List.set_cons_zero, List.set_cons_succ]
                have HO194 := Lib.hid ho194
                clear ho194
                refine wpAnyH_ready (rs := [9]) (by kernel_rfl) (by simp) ?_
                refine AllReadyH.cons rfl (fun K hK => ?_) (AllReadyH.nil)
                · skip
                  go_simp
                  go_at_call 9
                  refine (play_any W194 _ (ps.drop J ++ ps.take J) HO194.out.2.1.row (by rw [HLA.out]; omega) HFT.out).mono ?_
                  rintro y W195 ⟨v6, rfl, hr6, hb6⟩
                  obtain ⟨p6, c6, hv6⟩ := hr6.shape
                  generalize (posOf (playM (ps.drop J ++ ps.take J))).length = n6 at hv6
                  subst hv6
                  have HO195 := Lib.hid (HO194.out.kept hb6)
                  clear hr6 hb6
                  unfold vecV
                  try go_wp2_with fail
                  refine hK.out _ _ trivial (fun _ => ?_)
                  clear hK K
                  try simp only [Act.put, List.getElem_toArray, List.getElem_cons_succ, List.getElem_cons_zero, List.setIfInBounds_toArray, List.set_cons_zero, List.set_cons_succ]
                  refine wpAnyH_take (i := 10) (v := ?_) rfl (by kernel_rfl) (by kernel_rfl) (by kernel_rfl) (fun _ _ _ h => h) (Or.inl ⟨by kernel_rfl, ?_⟩) (by first | assumption | trivial) ?_
                  rotate_left
                  · intro w hSw
                    try dsimp only at hSw
                    first | (go_simp; done) | (go_simp; with_reducible rfl)
                  try simp only [Act.put, List.getElem_toArray, List.getElem_cons_succ, List.getElem_cons_zero, List.setIfInBounds_toArray, List.set_cons_zero, List.set_cons_succ]
                  refine wpAnyH_take (i := 11) (v := ?_) rfl (by kernel_rfl) (by kernel_rfl) (by kernel_rfl) (fun _ _ _ h => h) (Or.inl ⟨by kernel_rfl, ?_⟩) (by first | assumption | trivial) ?_
                  rotate_left
                  · intro w hSw
                    try dsimp only at hSw
                    first | (go_simp; done) | (go_simp; with_reducible rfl)
                  try simp only [Act.put, List.getElem_toArray, List.getElem_cons_succ, List.getElem_cons_zero, List.setIfInBounds_toArray, List.set_cons_zero, List.set_cons_succ]
                  refine wpAnyH_take (i := 12) (v := ?_) rfl (by kernel_rfl) (by kernel_rfl) (by kernel_rfl) (fun _ _ _ h => h) (Or.inl ⟨by kernel_rfl, ?_⟩) (by first | assumption | trivial) ?_
                  rotate_left
                  · intro w hSw
                    try dsimp only at hSw
                    first | (go_simp; done) | (go_simp; with_reducible rfl)
                  try simp only [Act.put, List.getElem_toArray, List.getElem_cons_succ, List.getElem_cons_zero, List.setIfInBounds_toArray, List.set_cons_zero, List.set_cons_succ]
                  refine wpAnyH_take (i := 13) (v := ?_) rfl (by kernel_rfl) (by kernel_rfl) (by kernel_rfl) (fun _ _ _ h => h) (Or.inl ⟨by kernel_rfl, ?_⟩) (by first | assumption | trivial) ?_
                  rotate_left
                  · intro w hSw
                    try dsimp only at hSw
                    first | (go_simp; done) | (go_simp; with_reducible rfl)
                  try simp only [Act.put, List.getElem_toArray, List.getElem_cons_succ, List.getElem_cons_zero, List.setIfInBounds_toArray, List.set_cons_zero, List.set_cons_succ]
                  obtain ⟨hbO, _, hA, hB, hAB⟩ := HO195.out
                  have HA := Lib.hid (hA _ rfl)
                  have HBq := Lib.hid (hB _ rfl)
                  have HAB := Lib.hid (hAB _ _ rfl rfl)
                  have HBO := Lib.hid hbO
                  clear hbO hA hB hAB
                  have q0 : W195.cell? ⟨W187.heap.size, 0, none⟩ = some (.slice none 0 0) := HA.out.1.cell 0
                  have qf := HA.out.1.free 0
                  have ql := HA.out.1.lt
                  refine wpAnyH_ready (rs := [16]) (by kernel_rfl) (by simp) ?_
                  refine AllReadyH.cons rfl (fun K hK => ?_) AllReadyH.nil
                  go_simp
                  refine hK.out _ _ trivial (fun hS => ?_)
                  clear hK K
                  try simp only [Act.put, List.getElem_toArray, List.getElem_cons_succ, List.getElem_cons_zero, List.setIfInBounds_toArray, List.set_cons_zero, List.set_cons_succ]
                  have HB2 := Lib.hid (HBq.out.1.setOther (a := ⟨W187.heap.size, 0, none⟩) HAB.out (.slice p6 n6 c6))
                  have HW2 := Lib.hid (HBO.out.setCell (p := ⟨W187.heap.size, 0, none⟩) HA.out.2.1 (.slice p6 n6 c6))
                  have HTH : Hid ((W195.setCell ⟨W187.heap.size, 0, none⟩ (.slice p6 n6 c6)).there W0.heap.size 0 (mCells (playM (ps.drop J ++ ps.take J))).size) := by
                    have h1 := HB2.out.there
                    rw [mCells_size, playM_len]
                    exact h1
                  refine wpAnyH_ready (rs := [17]) (by kernel_rfl) (by simp) ?_
                  refine AllReadyH.cons rfl (fun K hK => ?_) AllReadyH.nil
                  rw [if_pos (by kernel_rfl)]
                  refine wp_store_mid 30 (.tmp 12) (.tmp 65) rfl (W0.heap.size) 0 (mCells (playM (ps.drop J ++ ps.take J))) rfl rfl HTH.out HIN.out (mCells_one _) ?_
                  refine hK.out _ _ trivial (fun hS => ?_)
                  clear hK K
                  try simp only [Act.put, List.getElem_toArray, List.getElem_cons_succ, List.getElem_cons_zero, List.setIfInBounds_toArray, List.set_cons_zero, List.set_cons_succ]
                  refine wpAnyH_take (i := 18) (v := ?_) rfl (by kernel_rfl) (by kernel_rfl) (by kernel_rfl) (fun _ _ _ h => h) (Or.inl ⟨by kernel_rfl, ?_⟩) (by first | assumption | trivial) ?_
                  rotate_left
                  · intro w hSw
                    try dsimp only at hSw
                    first | (go_simp; done) | (go_simp; with_reducible rfl)
                  try simp only [Act.put, List.getElem_toArray, List.getElem_cons_succ, List.getElem_cons_zero, List.setIfInBounds_toArray, List.set_cons_zero, List.set_cons_succ]
                  refine wpAnyH_done (by kernel_rfl) ?_ _
                  have hb9 := blk_store HB2.out (mCells (playM (ps.drop J ++ ps.take J))) (by rw [mCells_size, playM_len]; rfl)
                  have hw9 := HW2.out.trans ((Chg.setCells (W0.heap.size) (mCells (playM (ps.drop J ++ ps.take J))).toList 0 _ _ (Chg.refl (W0.heap.size) (W195.setCell ⟨W187.heap.size, 0, none⟩ (.slice p6 n6 c6)))).below HBq.out.2.1 HW2.out.size)
                  have HFIN := Lib.hid (And.intro hb9 hw9)
                  clear hb9 hw9 q0 qf ql
                  go_wp2_with fail
                  go_meet
                  exact ⟨_, rfl, rfl, HFIN⟩
          · skip
            go_simp
            refine hK.out _ _ trivial (fun _ => ?_)
            clear hK K
            try simp only [Act.put, List.getElem_toArray, List.getElem_cons_succ, List.getElem_cons_zero, List.setIfInBounds_toArray, List.set_cons_zero, List.set_cons_succ]
            have HO196 := Lib.hid HO186.out.allocA
            generalize W186.alloc (.cells #[.slice none 0 0] 27) = W196 at *
            refine wpAnyH_ready (rs := [4]) (by kernel_rfl) (by simp) ?_
            refine AllReadyH.cons rfl (fun K hK => ?_) (AllReadyH.nil)
            · skip
              refine step_append_o rfl (.tmp 54) (.tmp 57) 22 rfl 46 elt_put _ _ ([]) (ps.drop J) rfl rfl HO196.out (HVD.out.kept HO196.out.1) (by rw [HLD.out]; simp only [List.length_nil]; omega) (ps.drop J) (n - J) (List.nil_append _) HLD.out ?_
              intro p197 c197 W197 ho197
              refine hK.out _ _ trivial (fun _ => ?_)
              clear hK K
              try simp only [Act.put, List.getElem_toArray, List.getElem_cons_succ, List.getElem_cons_zero, List.setIfInBounds_toArray, List.set_cons_zero, List.set_cons_succ]
              have HO197 := Lib.hid ho197
              clear ho197
              refine wpAnyH_ready (rs := [8]) (by kernel_rfl) (by simp) ?_
              refine AllReadyH.cons rfl (fun K hK => ?_) (AllReadyH.nil)
              · skip
                refine step_append_o rfl (.tmp 58) (.tmp 61) 22 rfl 46 elt_put _ _ (ps.drop J) (ps.take J) rfl rfl HO197.out (HVT.out.kept HO197.out.1) (by rw [HLD.out, HLT.out]; omega) (ps.drop J ++ ps.take J) n (rfl) HLA.out ?_
                intro p198 c198 W198 ho198
                refine hK.out _ _ trivial (fun _ => ?_)
                clear hK K
                try simp only [Act.put, List.getElem_toArray, List.getElem_cons_succ, List.getElem_cons_zero, List.setIfInBounds_toArray, List.set_cons_zero, List.set_cons_succ]
                have HO198 := Lib.hid ho198
                clear ho198
                refine wpAnyH_ready (rs := [9]) (by kernel_rfl) (by simp) ?_
                refine AllReadyH.cons rfl (fun K hK => ?_) (AllReadyH.nil)
                · skip
                  go_simp
                  go_at_call 9
                  refine (play_any W198 _ (ps.drop J ++ ps.take J) HO198.out.2.1.row (by rw [HLA.out]; omega) HFT.out).mono ?_
                  rintro y W199 ⟨v6, rfl, hr6, hb6⟩
                  obtain ⟨p6, c6, hv6⟩ := hr6.shape
                  generalize (posOf (playM (ps.drop J ++ ps.take J))).length = n6 at hv6
                  subst hv6
                  have HO199 := Lib.hid (HO198.out.kept hb6)
                  clear hr6 hb6
                  unfold vecV
                  try go_wp2_with fail
                  refine hK.out _ _ trivial (fun _ => ?_)
                  clear hK K
                  try simp only [Act.put, List.getElem_toArray, List.getElem_cons_succ, List.getElem_cons_zero, List.setIfInBounds_toArray, List.set_cons_zero, List.set_cons_succ]
                  refine wpAnyH_take (i := 10) (v := ?_) rfl (by kernel_rfl) (by kernel_rfl) (by kernel_rfl) (fun _ _ _ h => h) (Or.inl ⟨by kernel_rfl, ?_⟩) (by first | assumption | trivial) ?_
                  rotate_left
                  · intro w hSw
                    try dsimp only at hSw
                    first | (go_simp; done) | (go_simp; with_reducible rfl)
                  try simp only [Act.put, List.getElem_toArray, List.getElem_cons_succ, List.getElem_cons_zero, List.setIfInBounds_toArray, List.set_cons_zero, List.set_cons_succ]
                  refine wpAnyH_take (i := 11) (v := ?_) rfl (by kernel_rfl) (by kernel_rfl) (by kernel_rfl) (fun _ _ _ h => h) (Or.inl ⟨by kernel_rfl, ?_⟩) (by first | assumption | trivial) ?_
                  rotate_left
                  · intro w hSw
                    try dsimp only at hSw
                    first | (go_simp; done) | (go_simp; with_reducible rfl)
                  try simp only [Act.put, List.getElem_toArray, List.getElem_cons_succ, List.getElem_cons_zero, List.setIfInBounds_toArray, List.set_cons_zero, List.set_cons_succ]
                  refine wpAnyH_take (i := 12) (v := ?_) rfl (by kernel_rfl) (by kernel_rfl) (by kernel_rfl) (fun _ _ _ h => h) (Or.inl ⟨by kernel_rfl, ?_⟩) (by first | assumption | trivial) ?_
                  rotate_left
                  · intro w hSw
                    try dsimp only at hSw
                    first | (go_simp; done) | (go_simp; with_reducible rfl)
                  try simp only [Act.put, List.getElem_toArray, List.getElem_cons_succ, List.getElem_cons_zero, List.setIfInBounds_toArray, List.set_cons_zero, List.set_cons_succ]
                  refine wpAnyH_take (i := 13) (v := ?_) rfl (by kernel_rfl) (by kernel_rfl) (by kernel_rfl) (fun _ _ _ h => h) (Or.inl ⟨by kernel_rfl, ?_⟩) (by first | assumption | trivial) ?_
                  rotate_left
                  · intro w hSw
                    try dsimp only at hSw
                    first | (go_simp; done) | (go_simp; with_reducible rfl)
                  try simp only [Act.put, List.getElem_toArray, List.getElem_cons_succ, List.getElem_cons_zero, List.setIfInBounds_toArray, List.set_cons_zero, List.set_cons_succ]
                  obtain ⟨hbO, _, hA, hB, hAB⟩ := HO199.out
                  have HA := Lib.hid (hA _ rfl)
                  have HBq := Lib.hid (hB _ rfl)
                  have HAB := Lib.hid (hAB _ _ rfl rfl)
                  have HBO := Lib.hid hbO
                  clear hbO hA hB hAB
                  have q0 : W199.cell? ⟨W186.heap.size, 0, none⟩ = some (.slice none 0 0) := HA.out.1.cell 0
                  have qf := HA.out.1.free 0
                  have ql := HA.out.1.lt
                  refine wpAnyH_ready (rs := [16]) (by kernel_rfl) (by simp) ?_
                  refine AllReadyH.cons rfl (fun K hK => ?_) AllReadyH.nil
                  go_simp
                  refine hK.out _ _ trivial (fun hS => ?_)
                  clear hK K
                  try simp only [Act.put, List.getElem_toArray, List.getElem_cons_succ, List.getElem_cons_zero, List.setIfInBounds_toArray, List.set_cons_zero, List.set_cons_succ]
                  have HB2 := Lib.hid (HBq.out.1.setOther (a := ⟨W186.heap.size, 0, none⟩) HAB.out (.slice p6 n6 c6))
                  have HW2 := Lib.hid (HBO.out.setCell (p := ⟨W186.heap.size, 0, none⟩) HA.out.2.1 (.slice p6 n6 c6))
                  have HTH : Hid ((W199.setCell ⟨W186.heap.size, 0, none⟩ (.slice p6 n6 c6)).there W0.heap.size 0 (mCells (playM (ps.drop J ++ ps.take J))).size) := by
                    have h1 := HB2.out.there
                    rw [mCells_size, playM_len]
                    exact h1
                  refine wpAnyH_ready (rs := [17]) (by kernel_rfl) (by simp) ?_
                  refine AllReadyH.cons rfl (fun K hK => ?_) AllReadyH.nil
                  rw [if_pos (by kernel_rfl)]
                  refine wp_store_mid 30 (.tmp 12) (.tmp 65) rfl (W0.heap.size) 0 (mCells (playM (ps.drop J ++ ps.take J))) rfl rfl HTH.out HIN.out (mCells_one _) ?_
                  refine hK.out _ _ trivial (fun hS => ?_)
                  clear hK K
                  try simp only [Act.put, List.getElem_toArray, List.getElem_cons_succ, List.getElem_cons_zero, List.setIfInBounds_toArray, List.set_cons_zero, List.set_cons_succ]
                  refine wpAnyH_take (i := 18) (v := ?_) rfl (by kernel_rfl) (by kernel_rfl) (by kernel_rfl) (fun _ _ _ h => h) (Or.inl ⟨by kernel_rfl, ?_⟩) (by first | assumption | trivial) ?_
                  rotate_left
                  · intro w hSw
                    try dsimp only at hSw
                    first | (go_simp; done) | (go_simp; with_reducible rfl)
                  try simp only [Act.put, List.getElem_toArray, List.getElem_cons_succ, List.getElem_cons_zero, List.setIfInBounds_toArray, List.set_cons_zero, List.set_cons_succ]
                  refine wpAnyH_done (by kernel_rfl) ?_ _
                  have hb9 := blk_store HB2.out (mCells (playM (ps.drop J ++ ps.take J))) (by rw [mCells_size, playM_len]; rfl)
                  have hw9 := HW2.out.trans ((Chg.setCells (W0.heap.size) (mCells (playM (ps.drop J ++ ps.take J))).toList 0 _ _ (Chg.refl (W0.heap.size) (W199.setCell ⟨W186.heap.size, 0, none⟩ (.slice p6 n6 c6)))).below HBq.out.2.1 HW2.out.size)
                  have HFIN := Lib.hid (And.intro hb9 hw9)
                  clear hb9 hw9 q0 qf ql
                  go_wp2_with fail
                  go_meet
                  exact ⟨_, rfl, rfl, HFIN⟩
        · skip
          go_simp
          refine hK.out _ _ trivial (fun _ => ?_)
          clear hK K
          try simp only [Act.put, List.getElem_toArray, List.getElem_cons_succ, List.getElem_cons_zero, List.setIfInBounds_toArray, List.set_cons_zero, List.set_cons_succ]
          have HO200 := Lib.hid HO185.out.allocA
          generalize W185.alloc (.cells #[.slice none 0 0] 27) = W200 at *
          refine wpAnyH_ready (rs := [0]) (by kernel_rfl) (by simp) ?_
          refine AllReadyH.cons rfl (fun K hK => ?_) (AllReadyH.nil)
          · skip
            go_simp
            refine hK.out _ _ trivial (fun _ => ?_)
            clear hK K
            try simp only [Act.put, List.getElem_toArray, List.getElem_cons_succ, List.getElem_cons_zero, List.setIfInBounds_toArray, List.set_cons_zero, List.set_cons_succ]
            have HO201 := Lib.hid HO200.out.build
            generalize W200.alloc (.cells #[] 46) = W201 at *
            refine wpAnyH_ready (rs := [4]) (by kernel_rfl) (by simp) ?_
            refine AllReadyH.cons rfl (fun K hK => ?_) (AllReadyH.nil)
            · skip
              refine step_append_o rfl (.tmp 54) (.tmp 57) 22 rfl 46 elt_put _ _ ([]) (ps.drop J) rfl rfl HO201.out (HVD.out.kept HO201.out.1) (by rw [HLD.out]; simp only [List.length_nil]; omega) (ps.drop J) (n - J) (List.nil_append _) HLD.out ?_
              intro p202 c202 W202 ho202
              refine hK.out _ _ trivial (fun _ => ?_)
              clear hK K
              try simp only [Act.put, List.getElem_toArray, List.getElem_cons_succ, List.getElem_cons_zero, List.setIfInBounds_toArray, List.set_cons_zero, List.set_cons_succ]
              have HO202 := Lib.hid ho202
              clear ho202
              refine wpAnyH_ready (rs := [8]) (by kernel_rfl) (by simp) ?_
              refine AllReadyH.cons rfl (fun K hK => ?_) (AllReadyH.nil)
              · skip
                refine step_append_o rfl (.tmp 58) (.tmp 61) 22 rfl 46 elt_put _ _ (ps.drop J) (ps.take J) rfl rfl HO202.out (HVT.out.kept HO202.out.1) (by rw [HLD.out, HLT.out]; omega) (ps.drop J ++ ps.take J) n (rfl) HLA.out ?_
                intro p203 c203 W203 ho203
                refine hK.out _ _ trivial (fun _ => ?_)
                clear hK K
                try simp only [Act.put, List.getElem_toArray, List.getElem_cons_succ, List.getElem_cons_zero, List.setIfInBounds_toArray, List.set_cons_zero, List.set_cons_succ]
                have HO203 := Lib.hid ho203
                clear ho203
                refine wpAnyH_ready (rs := [9]) (by kernel_rfl) (by simp) ?_
                refine AllReadyH.cons rfl (fun K hK => ?_) (AllReadyH.nil)
                · skip
                  go_simp
                  go_at_call 9
                  refine (play_any W203 _ (ps.drop J ++ ps.take J) HO203.out.2.1.row (by rw [HLA.out]; omega) HFT.out).mono ?_
                  rintro y W204 ⟨v6, rfl, hr6, hb6⟩
                  obtain ⟨p6, c6, hv6⟩ := hr6.shape
                  generalize (posOf (playM (ps.drop J ++ ps.take J))).length = n6 at hv6
                  subst hv6
                  have HO204 := Lib.hid (HO203.out.kept hb6)
                  clear hr6 hb6
                  unfold vecV
                  try go_wp2_with fail
                  refine hK.out _ _ trivial (fun _ => ?_)
                  clear hK K
                  try simp only [Act.put, List.getElem_toArray, List.getElem_cons_succ, List.getElem_cons_zero, List.setIfInBounds_toArray, List.set_cons_zero, List.set_cons_succ]
                  refine wpAnyH_take (i := 10) (v := ?_) rfl (by kernel_rfl) (by kernel_rfl) (by kernel_rfl) (fun _ _ _ h => h) (Or.inl ⟨by kernel_rfl, ?_⟩) (by first | assumption | trivial) ?_
                  rotate_left
                  · intro w hSw
                    try dsimp only at hSw
                    first | (go_simp; done) | (go_simp; with_reducible rfl)
                  try simp only [Act.put, List.getElem_toArray, List.getElem_cons_succ, List.getElem_cons_zero, List.setIfInBounds_toArray, List.set_cons_zero, List.set_cons_succ]
                  refine wpAnyH_take (i := 11) (v := ?_) rfl (by kernel_rfl) (by kernel_rfl) (by kernel_rfl) (fun _ _ _ h => h) (Or.inl ⟨by kernel_rfl, ?_⟩) (by first | assumption | trivial) ?_
                  rotate_left
                  · intro w hSw
                    try dsimp only at hSw
                    first | (go_simp; done) | (go_simp; with_reducible rfl)
                  try simp only [Act.put, List.getElem_toArray, List.getElem_cons_succ, List.getElem_cons_zero, List.setIfInBounds_toArray, List.set_cons_zero, List.set_cons_succ]
                  refine wpAnyH_take (i := 12) (v := ?_) rfl (by kernel_rfl) (by kernel_rfl) (by kernel_rfl) (fun _ _ _ h => h) (Or.inl ⟨by kernel_rfl, ?_⟩) (by first | assumption | trivial) ?_
                  rotate_left
                  · intro w hSw
                    try dsimp only at hSw
                    first | (go_simp; done) | (go_simp; with_reducible rfl)
                  try simp only [Act.put, List.getElem_toArray, List.getElem_cons_succ, List.getElem_cons_zero, List.setIfInBounds_toArray, List.set_cons_zero, List.set_cons_succ]
                  refine wpAnyH_take (i := 13) (v := ?_) rfl (by kernel_rfl) (by kernel_rfl) (by kernel_rfl) (fun _ _ _ h => h) (Or.inl ⟨by kernel_rfl, ?_⟩) (by first | assumption | trivial) ?_
                  rotate_left
                  · intro w hSw
                    try dsimp only at hSw
                    first | (go_simp; done) | (go_simp; with_reducible rfl)
                  try simp only [Act.put, List.getElem_toArray, List.getElem_cons_succ, List.getElem_cons_zero, List.setIfInBounds_toArray, List.set_cons_zero, List.set_cons_succ]
                  obtain ⟨hbO, _, hA, hB, hAB⟩ := HO204.out
                  have HA := Lib.hid (hA _ rfl)
                  have HBq := Lib.hid (hB _ rfl)
                  have HAB := Lib.hid (hAB _ _ rfl rfl)
                  have HBO := Lib.hid hbO
                  clear hbO hA hB hAB
                  have q0 : W204.cell? ⟨W185.heap.size, 0, none⟩ = some (.slice none 0 0) := HA.out.1.cell 0
                  have qf := HA.out.1.free 0
                  have ql := HA.out.1.lt
                  refine wpAnyH_ready (rs := [16]) (by kernel_rfl) (by simp) ?_
                  refine AllReadyH.cons rfl (fun K hK => ?_) AllReadyH.nil
                  go_simp
                  refine hK.out _ _ trivial (fun hS => ?_)
                  clear hK K
                  try simp only [Act.put, List.getElem_toArray, List.getElem_cons_succ, List.getElem_cons_zero, List.setIfInBounds_toArray, List.set_cons_zero, List.set_cons_succ]
                  have HB2 := Lib.hid (HBq.out.1.setOther (a := ⟨W185.heap.size, 0, none⟩) HAB.out (.slice p6 n6 c6))
                  have HW2 := Lib.hid (HBO.out.setCell (p := ⟨W185.heap.size, 0, none⟩) HA.out.2.1 (.slice p6 n6 c6))
                  have HTH : Hid ((W204.setCell ⟨W185.heap.size, 0, none⟩ (.slice p6 n6 c6)).there W0.heap.size 0 (mCells (playM (ps.drop J ++ ps.take J))).size) := by
                    have h1 := HB2.out.there
                    rw [mCells_size, playM_len]
                    exact h1
                  refine wpAnyH_ready (rs := [17]) (by kernel_rfl) (by simp) ?_
                  refine AllReadyH.cons rfl (fun K hK => ?_) AllReadyH.nil
                  rw [if_pos (by kernel_rfl)]
                  refine wp_store_mid 30 (.tmp 12) (.tmp 65) rfl (W0.heap.size) 0 (mCells (playM (ps.drop J ++ ps.take J))) rfl rfl HTH.out HIN.out (mCells_one _) ?_
                  refine hK.out _ _ trivial (fun hS => ?_)
                  clear hK K
                  try simp only [Act.put, List.getElem_toArray, List.getElem_cons_succ, List.getElem_cons_zero, List.setIfInBounds_toArray, List.set_cons_zero, List.set_cons_succ]
                  refine wpAnyH_take (i := 18) (v := ?_) rfl (by kernel_rfl) (by kernel_rfl) (by kernel_rfl) (fun _ _ _ h => h) (Or.inl ⟨by kernel_rfl, ?_⟩) (by first | assumption | trivial) ?_
                  rotate_left
                  · intro w hSw
                    try dsimp only at hSw
                    first | (go_simp; done) | (go_simp; with_reducible rfl)
                  try simp only [Act.put, List.getElem_toArray, List.getElem_cons_succ, List.getElem_cons_zero, List.setIfInBounds_toArray, List.set_cons_zero, List.set_cons_succ]
                  refine wpAnyH_done (by kernel_rfl) ?_ _
                  have hb9 := blk_store HB2.out (mCells (playM (ps.drop J ++ ps.take J))) (by rw [mCells_size, playM_len]; rfl)
                  have hw9 := HW2.out.trans ((Chg.setCells (W0.heap.size) (mCells (playM (ps.drop J ++ ps.take J))).toList 0 _ _ (Chg.refl (W0.heap.size) (W204.setCell ⟨W185.heap.size, 0, none⟩ (.slice p6 n6 c6)))).below HBq.out.2.1 HW2.out.size)
                  have HFIN := Lib.hid (And.intro hb9 hw9)
                  clear hb9 hw9 q0 qf ql
                  go_wp2_with fail
                  go_meet
                  exact ⟨_, rfl, rfl, HFIN⟩
    case rest =>
      obtain ⟨bb, rfl, rfl, HF⟩ := hcut
      have hbb := HF.out.1
      rw [HTU.out] at hbb
      have HBB := Lib.hid hbb
      have HMX := Lib.hid (HM4.out.below HF.out.2 HM4.out.lt)
      have HWX := Lib.hid (HB.out.trans (HF.out.2.mono HB.out.size))
      clear hbb HF
      have HIN2 := Lib.hid (mInfo (mCells (playM ps)) (by rw [mCells_size]; exact playM_len _))
      go_wp2_with (with_reducible refine stop_load 30 (.tmp 9) rfl ?_)
      refine wpList_load_blk (by kernel_rfl) 30 (.tmp 9) rfl (w4.heap.size + 1) rfl 30 (mCells (playM ps)) (.array 8 28) HMX.out Try.underlying30 rfl HIN2.out ?_
      go_wp2_with (with_reducible refine stop_load 30 (.tmp 12) rfl ?_)
      refine wpList_load_blk (by kernel_rfl) 30 (.tmp 12) rfl bb rfl 30 (mCells (playM ps)) (.array 8 28) HBB.out Try.underlying30 rfl HIN2.out ?_
      obtain ⟨g, hg, hlit⟩ := mCells_lit (playM ps) (playM_len _)
      clear hg
      rw [hlit]
      have HEQ := fun w => eq_rows g w
      clear hlit HMX HBB HIN2 HMP HVD HVT
      go_wp2_with fail
      go_ret
      exact ⟨rfl, HWX.out⟩
end Go.Proofs.Ytaooiejgigicoaa
