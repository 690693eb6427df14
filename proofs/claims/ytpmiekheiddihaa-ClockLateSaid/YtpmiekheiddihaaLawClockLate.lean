/- ClockLate: the walk. -/
import Derived.Test.YtpmiekheiddihaaClkLate
import Derived.Test.YtpmiekheiddihaaLiftClk
import Derived.WalkArith
namespace Go.Proofs.Ytpmiekheiddihaa
open Go.RowKit Go.Maps
set_option linter.unusedSimpArgs false in
set_option maxHeartbeats 4000000 in
set_option maxRecDepth 100000 in
theorem late_walk (v : Value) (xss : List OpC) (w : World) (hr : TRow encOpC w v xss) (hf : ∀ x ∈ xss, x.Fit) :
    Calls Try.prog 7 #[v] w fun e w' => e = .returned (.bool true) ∧ Below w.heap.size w w' := by
  obtain ⟨psc, csc, hsv⟩ := hr.shape
  subst hsv
  obtain ⟨m, hm⟩ : ∃ m, xss.length = m := ⟨_, rfl⟩
  have HM : Hid (xss.length = m) := Lib.hid hm
  rw [hm] at hr ⊢
  clear hm
  have HR := Lib.hid hr
  have HF := Lib.hid hf
  have HT := Lib.hid (ticks_any w)
  clear hr hf
  go_enter Try.func7, Try.ntmps7
  go_wp2_with fail
  refine HT.out.mono ?_
  rintro q w1 ⟨rfl, hb1⟩
  have HB1 := Lib.hid hb1
  clear hb1 HT
  by_cases c1 : (80 : Int) < (m : Int)
  case pos =>
    go_wp2_with fail
    go_ret
    exact ⟨rfl, HB1.out⟩
  have c1' : (m : Int) ≤ 80 := by omega
  clear c1
  have HNW := Lib.hid (lnew_any w w1 HB1.out)
  go_wp2_with fail
  refine HNW.out.mono ?_
  rintro q w2 ⟨rfl, hc, -⟩
  have HC := Lib.hid hc
  clear hc HNW
  generalize w1.heap.size + 1 = gc at *
  have hmm := @run_makeMap Try.prog
  go_upto_region 7 with fail
  clear hmm
  have HREL : Hid (∃ (L : List Nat) (now : Int) (kk nn : Nat) (ds : List Du), LW w (w2.alloc (.map #[] 0)) L gc w2.heap.size now kk ds nn ds ∧ kk ≤ 0 ∧ nn ≤ 0) := Lib.hid ⟨[w2.heap.size], 0, 0, 0, [], ⟨HC.out.own (oneB w2 _) _ (Nat.le_refl _) (by simp), MpL.made w2, List.mem_cons_self, HC.out.below.size⟩, Nat.le_refl _, Nat.le_refl _⟩
  generalize (w2.alloc (.map #[] 0)) = W0 at *
  generalize w2.heap.size = gm at *
  clear HC HB1
  go_wp2_with fail
  go_loopw [24] (fun v wr => ∃ k : Nat, k ≤ m ∧ v = .int .i64 k ∧ Hid (∃ (L : List Nat) (now : Int) (kk nn : Nat) (ds : List Du), LW w wr L gc gm now kk ds nn ds ∧ kk ≤ k ∧ nn ≤ k)) (fun v _ => m - (intOf v).toNat)
  case atStart => exact ⟨0, Nat.zero_le _, rfl, HREL⟩
  case round =>
    obtain ⟨k, hk, rfl, HJ⟩ := hrel
    clear HREL
    by_cases hlt : k < m
    · have hltI : (k : Int) < (m : Int) := by omega
      have hk100 : k ≤ 99 := by omega
      obtain ⟨L0, now, kk, nn, ds, hp, hkk, hnk⟩ := HJ.out
      have HKI : Hid (kk ≤ k ∧ nn ≤ k ∧ k ≤ 99) := Lib.hid ⟨hkk, hnk, hk100⟩
      have hkl : k < xss.length := by rw [HM.out]; exact hlt
      obtain ⟨b, o, rfl, hbl, hcs⟩ := (HR.out.kept hp.lc.below).at_ k hkl
      have HFX := Lib.hid (HF.out _ (List.getElem_mem hkl))
      generalize xss[k] = x at *
      obtain ⟨xk, xl, xs⟩ := x
      have s0 : wr.cell? ⟨b, o + k * 3, none⟩ = some (.int .i64 xk) := hcs 0 (by decide)
      have s1 : wr.cell? ⟨b, o + k * 3 + 1, none⟩ = some (.int .i64 xl) := hcs 1 (by decide)
      have s2 : wr.cell? ⟨b, o + k * 3 + 2, none⟩ = some (.string xs) := hcs 2 (by decide)
      have HP0 := Lib.hid hp
      clear hcs hbl hp hkk hnk HJ
      go_wp2_with (with_reducible refine stop_storeT 30 (.tmp 6) (.tmp 27) rfl ?_)
      clear s0 s1 s2
      have HLY := Lib.hid (laid_new wr #[.int .i64 0, .int .i64 0, .string ⟨#[]⟩] #[.int .i64 xk, .int .i64 xl, .string xs] 30 rfl)
      have HTH : Hid ((wr.alloc (.cells #[.int .i64 0, .int .i64 0, .string ⟨#[]⟩] 30)).there wr.heap.size 0 3) := Lib.hid (Blk.new wr #[.int .i64 0, .int .i64 0, .string ⟨#[]⟩] 30).thereAt
      refine wpList_store_mid rfl 30 (.tmp 6) (.tmp 27) rfl wr.heap.size 0 #[.int .i64 xk, .int .i64 xl, .string xs] rfl rfl HTH.out (infoO rfl) (all_oneCell_toArray (by intro u hu; simp at hu; rcases hu with rfl | rfl | rfl <;> rfl)) ?_
      clear HTH
      generalize ((wr.alloc (.cells #[.int .i64 0, .int .i64 0, .string ⟨#[]⟩] 30)).setCells wr.heap.size 0 (#[.int .i64 xk, .int .i64 xl, .string xs] : Array Value).toList) = W1 at *
      have HP := Lib.hid (HP0.out.own HLY.out.1 wr.heap.size (Nat.le_refl _) HLY.out.2.2)
      have HO := Lib.hid HLY.out.2.1
      have HGG : Hid (wr.heap.size ≠ gm) := Lib.hid (by have := HP0.out.mp.lt; omega)
      have HGO : Hid (wr.heap.size ∈ wr.heap.size :: L0) := Lib.hid List.mem_cons_self
      obtain ⟨L, hL1⟩ : ∃ l, wr.heap.size :: L0 = l := ⟨_, rfl⟩
      rw [hL1] at HP HGO
      clear hL1
      generalize wr.heap.size = go at *
      clear HLY HP0
      have q0 : W1.cell? ⟨go, 0, none⟩ = some (.int .i64 xk) := HO.out.cell 0
      go_upto_block 2 with fail
      clear q0
      try go_frame
      go_cut [24] from 25 to 114 (fun i wx => i = .int .i64 k ∧ Hid (∃ (L : List Nat) (now : Int) (kk nn : Nat) (ds : List Du), LW w wx L gc gm now kk ds nn ds ∧ kk ≤ (k + 1) ∧ nn ≤ (k + 1)))
      case first =>
        by_cases k0 : xk = 0
        · subst k0
          have hxs : xs.size ≤ 140737488351232 := HFX.out.s
          have HS := Lib.hid (lset_any w L W1 gc now kk ds xs xl HP.out.lc HFX.out.l (by omega) (by have := HKI.out; omega))
          have q1 : W1.cell? ⟨go, 1, none⟩ = some ((.int .i64 xl)) := HO.out.cell 1
          have q2 : W1.cell? ⟨go, 2, none⟩ = some ((.string xs)) := HO.out.cell 2
          by_cases he : setE now ds xs xl = 0
          · rw [he] at HS
            have HE := Lib.hid he
            clear he
            go_wp2_with fail
            clear q1 q2
            refine HS.out.mono ?_
            rintro y9 w5 ⟨rfl, hb5, hst, k5, ds5, hc5, hr5⟩
            obtain ⟨rfl, b5, rfl⟩ := hr5.1 HE.out
            have hps := set_pos HE.out
            have hnw := HP.out.lc.nw
            have e1 : wrap64 (now + xl) = now + xl := IntWalk.wrap64_in _ (by omega)
            have e2 : IntKind.i64.wrap (now + xl) = now + xl := IntWalk.i64_in _ (by omega)
            have hbd := (Below.refl w5.heap.size w5).drew
            have hp5 := (HP.out.prog hst hc5).kept hbd
            have HNO := Lib.hid hp5.lc.now_any
            have HO5 := Lib.hid ((HO.out.st hst HGO.out).below hbd (HO.out.st hst HGO.out).lt)
            obtain ⟨w6, hrun, hmp, hch⟩ := hp5.mp.put HP.out.lc.ck.nd (by have := HKI.out; unfold maxLen; omega) (s := xs) (by unfold maxLen; omega) (t := now + xl) (WalkArith.wf_i64 (by omega))
            have HX : Hid (∃ (L : List Nat) (now : Int) (kk nn : Nat) (ds : List Du), LW w w6 L gc gm now kk ds nn ds ∧ kk ≤ (k + 1) ∧ nn ≤ (k + 1)) := Lib.hid ⟨L, now, _, _, _, hp5.map hch (hmp b5 ((kk : Int) + 1)), by have := HKI.out; omega, by have := HKI.out; omega⟩
            have HO6 := Lib.hid (HO5.out.chg hch HGG.out)
            have hS1 : w5.drew.cell? ⟨go, 1, none⟩ = some (.int .i64 xl) ∧ w5.drew.cell? ⟨go, 2, none⟩ = some (.string xs) := ⟨HO5.out.cell 1, HO5.out.cell 2⟩
            have HSD := Lib.hid hS1
            clear hb5 hst hc5 hr5 hps hnw hp5 hmp hch HS HO HP hbd HO5
            go_upto_region 13 with fail
            refine wp_region_held_drew (S := fun w' => w'.cell? ⟨go, 1, none⟩ = some (.int .i64 xl) ∧ w'.cell? ⟨go, 2, none⟩ = some (.string xs)) (by kernel_rfl) hS1 (fun hS0 => ?_)
            clear hS1
            generalize w5.drew = wd at *
            refine wpAnyH_take (i := 0) (v := ?_) rfl (by kernel_rfl) (by kernel_rfl) (by kernel_rfl) (fun _ _ _ h => h) (Or.inl ⟨by kernel_rfl, ?_⟩) (by first | assumption | trivial) ?_
            rotate_left
            · intro w hSw
              try dsimp only at hSw
              first | (go_simp; done) | (go_simp; with_reducible rfl)
            try simp only [Act.put, List.getElem_toArray, List.getElem_cons_succ, List.getElem_cons_zero, List.setIfInBounds_toArray, List.set_cons_zero, List.set_cons_succ]
            refine wpAnyH_take (i := 1) (v := ?_) rfl (by kernel_rfl) (by kernel_rfl) (by kernel_rfl) (fun _ _ _ h => h) (Or.inl ⟨by kernel_rfl, ?_⟩) (by first | assumption | trivial) ?_
            rotate_left
            · intro w hSw
              try dsimp only at hSw
              first | (go_simp; done) | (go_simp; with_reducible rfl)
            try simp only [Act.put, List.getElem_toArray, List.getElem_cons_succ, List.getElem_cons_zero, List.setIfInBounds_toArray, List.set_cons_zero, List.set_cons_succ]
            refine wpAnyH_take (i := 2) (v := ?_) rfl (by kernel_rfl) (by kernel_rfl) (by kernel_rfl) (fun _ _ _ h => h) (Or.inl ⟨by kernel_rfl, ?_⟩) (by first | assumption | trivial) ?_
            rotate_left
            · intro w hSw
              try dsimp only at hSw
              first | (go_simp; done) | (go_simp; with_reducible rfl)
            try simp only [Act.put, List.getElem_toArray, List.getElem_cons_succ, List.getElem_cons_zero, List.setIfInBounds_toArray, List.set_cons_zero, List.set_cons_succ]
            refine wpAnyH_take (i := 3) (v := ?_) rfl (by kernel_rfl) (by kernel_rfl) (by kernel_rfl) (fun _ _ _ h => h) (Or.inl ⟨by kernel_rfl, ?_⟩) (by first | assumption | trivial) ?_
            rotate_left
            · intro w hSw
              try dsimp only at hSw
              first | (go_simp; done) | (go_simp; with_reducible rfl)
            try simp only [Act.put, List.getElem_toArray, List.getElem_cons_succ, List.getElem_cons_zero, List.setIfInBounds_toArray, List.set_cons_zero, List.set_cons_succ]
            refine wpAnyH_take (i := 5) (v := ?_) rfl (by kernel_rfl) (by kernel_rfl) (by kernel_rfl) (fun _ _ _ h => h) (Or.inl ⟨by kernel_rfl, ?_⟩) (by first | assumption | trivial) ?_
            rotate_left
            · intro w hSw
              try dsimp only at hSw
              first | (go_simp; done) | (go_simp; with_reducible rfl)
            try simp only [Act.put, List.getElem_toArray, List.getElem_cons_succ, List.getElem_cons_zero, List.setIfInBounds_toArray, List.set_cons_zero, List.set_cons_succ]
            refine wpAnyH_take (i := 6) (v := ?_) rfl (by kernel_rfl) (by kernel_rfl) (by kernel_rfl) (fun _ _ _ h => h) (Or.inl ⟨by kernel_rfl, ?_⟩) (by first | assumption | trivial) ?_
            rotate_left
            · intro w hSw
              try dsimp only at hSw
              first | (go_simp; done) | (go_simp; with_reducible rfl)
            try simp only [Act.put, List.getElem_toArray, List.getElem_cons_succ, List.getElem_cons_zero, List.setIfInBounds_toArray, List.set_cons_zero, List.set_cons_succ]
            refine wpAnyH_ready (rs := [4]) (by kernel_rfl) (by simp) ?_
            refine AllReadyH.cons rfl (fun K hK => ?_) AllReadyH.nil
            go_simp
            go_at_call 18
            refine (HNO.out).mono ?_
            rintro y9 w9 ⟨rfl, hw9⟩
            replace hw9 := hw9.symm
            subst hw9
            try go_wp2_with fail
            refine hK.out _ _ HSD.out (fun hS => ?_)
            clear hK K
            try simp only [Act.put, List.getElem_toArray, List.getElem_cons_succ, List.getElem_cons_zero, List.setIfInBounds_toArray, List.set_cons_zero, List.set_cons_succ]
            refine wpAnyH_take (i := 7) (v := ?_) rfl (by kernel_rfl) (by kernel_rfl) (by kernel_rfl) (fun _ _ _ h => h) (Or.inl ⟨by kernel_rfl, ?_⟩) (by first | assumption | trivial) ?_
            rotate_left
            · intro w hSw
              try dsimp only at hSw
              first | (go_simp; done) | (go_simp; with_reducible rfl)
            try simp only [Act.put, List.getElem_toArray, List.getElem_cons_succ, List.getElem_cons_zero, List.setIfInBounds_toArray, List.set_cons_zero, List.set_cons_succ]
            refine wpAnyH_ready (rs := [8]) (by kernel_rfl) (by simp) ?_
            refine AllReadyH.cons rfl (fun K hK => ?_) AllReadyH.nil
            go_simp
            try rw [e2]
            try go_simp
            refine hK.out _ _ ⟨HO6.out.cell 1, HO6.out.cell 2⟩ (fun hS => ?_)
            clear hK K
            try simp only [Act.put, List.getElem_toArray, List.getElem_cons_succ, List.getElem_cons_zero, List.setIfInBounds_toArray, List.set_cons_zero, List.set_cons_succ]
            refine wpAnyH_done (by kernel_rfl) ?_ _
            clear HNO HSD HO6
            go_wp2_with fail
            go_meet
            case rel => exact ⟨rfl, HX⟩
          · have HE := Lib.hid he
            have heb : (setE now ds xs xl == 0) = false := by simpa using he
            obtain ⟨E, hE⟩ : ∃ E, setE now ds xs xl = E := ⟨_, rfl⟩
            rw [hE] at HS heb
            clear he hE
            go_wp2_with fail
            clear q1 q2
            refine HS.out.mono ?_
            rintro y9 w5 ⟨rfl, hb5, hst, k5, ds5, hc5, hr5⟩
            obtain ⟨rfl, rfl⟩ := hr5.2 HE.out
            have HX : Hid (∃ (L : List Nat) (now : Int) (kk nn : Nat) (ds : List Du), LW w w5 L gc gm now kk ds nn ds ∧ kk ≤ (k + 1) ∧ nn ≤ (k + 1)) := Lib.hid ⟨L, now, _, _, _, HP.out.prog hst hc5, by have := HKI.out; omega, by have := HKI.out; omega⟩
            clear hb5 hst hc5 hr5 HS HO HP HE
            go_wp2_with fail
            go_meet
            case rel => exact ⟨rfl, HX⟩
        by_cases k1 : xk = 1
        · subst k1
          clear k0
          have hxs : xs.size ≤ 140737488351232 := HFX.out.s
          have HS := Lib.hid (ldrop_any w L W1 gc now kk ds xs HP.out.lc (by unfold maxLen; omega))
          have q2 : W1.cell? ⟨go, 2, none⟩ = some ((.string xs)) := HO.out.cell 2
          by_cases he : dropE ds xs = 0
          · rw [he] at HS
            clear he
            go_wp2_with fail
            clear q2
            refine HS.out.mono ?_
            rintro y9 w5 ⟨rfl, hb5, hst, hc5⟩
            have hp5 := HP.out.prog hst hc5
            obtain ⟨w6, hrun, hmp, hch⟩ := hp5.mp.drop HP.out.lc.ck.nd (s := xs) (by unfold maxLen; omega) 0
            have HX : Hid (∃ (L : List Nat) (now : Int) (kk nn : Nat) (ds : List Du), LW w w6 L gc gm now kk ds nn ds ∧ kk ≤ (k + 1) ∧ nn ≤ (k + 1)) := Lib.hid ⟨L, now, _, _, _, hp5.map hch hmp, by have := HKI.out; omega, by have := HKI.out; omega⟩
            have HO5 := Lib.hid (HO.out.st hst HGO.out)
            clear hb5 hst hc5 hp5 hmp hch HS HO HP
            have q2 : w5.cell? ⟨go, 2, none⟩ = some ((.string xs)) := HO5.out.cell 2
            go_wp2_with fail
            go_meet
            case rel => exact ⟨rfl, HX⟩
          · have hno : dofU ds xs = none := by
              unfold dropE at he
              by_cases h1 : dofU ds xs = none
              · exact h1
              · rw [if_neg h1] at he; exact absurd rfl he
            have heb : (dropE ds xs == 0) = false := by simpa using he
            obtain ⟨E, hE⟩ : ∃ E, dropE ds xs = E := ⟨_, rfl⟩
            rw [hE] at HS heb
            have HNN := Lib.hid hno
            clear he hE hno
            go_wp2_with fail
            clear q2
            refine HS.out.mono ?_
            rintro y9 w5 ⟨rfl, hb5, hst, hc5⟩
            rw [drop_self HNN.out] at hc5
            have HX : Hid (∃ (L : List Nat) (now : Int) (kk nn : Nat) (ds : List Du), LW w w5 L gc gm now kk ds nn ds ∧ kk ≤ (k + 1) ∧ nn ≤ (k + 1)) := Lib.hid ⟨L, now, _, _, _, HP.out.prog hst hc5, by have := HKI.out; omega, by have := HKI.out; omega⟩
            clear hb5 hst hc5 HS HO HP HNN
            go_wp2_with fail
            go_meet
            case rel => exact ⟨rfl, HX⟩
        have b0 : (xk == 0) = false := by simpa using k0
        have b1 : (xk == 1) = false := by simpa using k1
        by_cases k2 : xk = 2
        · subst k2
          clear k0 k1 b0 b1
          have HS := Lib.hid (ltick_any w L W1 gc now kk ds HP.out.lc)
          go_wp2_with fail
          refine HS.out.mono ?_
          rintro y9 w5 ⟨v5, rfl, ho5, hb5, hst, hl5⟩
          have hc5 := hl5 L (fun x hx => Nat.lt_of_lt_of_le (HP.out.lc.lt x hx) hb5.size) (fun b h1 _ h2 => h1 h2)
          have hp5 := HP.out.prog hst hc5
          obtain ⟨p5, c5, hv5⟩ := ho5.form
          have hln : (tickL now ds).length ≤ 4096 := by
            unfold tickL
            split
            · simp
            · rw [List.length_map]; exact Nat.le_trans (List.length_filter_le _ _) HP.out.lc.ln
          have hrd := fun j hj => late_round HP.out.lc.ck.nd HP.out.lc.tm j hj
          have hen := fun j hj => late_end (now := now) HP.out.lc.ck.nd j hj
          have HSZ := Lib.hid HP.out.lc.ck.szs
          have HND := Lib.hid HP.out.lc.ck.nd
          have HGM : Hid (gm < W1.heap.size) := Lib.hid HP.out.mp.lt
          obtain ⟨T2, hT2⟩ : ∃ t, tickN now = t := ⟨_, rfl⟩
          obtain ⟨DD, hDD⟩ : ∃ l, tickD now ds = l := ⟨_, rfl⟩
          obtain ⟨TL, hTL⟩ : ∃ l, tickL now ds = l := ⟨_, rfl⟩
          rw [hT2, hDD] at hp5
          rw [hDD] at hen
          rw [hT2] at hrd
          rw [hTL] at hln hrd hen ho5 hv5
          obtain ⟨tq, htq⟩ : ∃ m, TL.length = m := ⟨_, rfl⟩
          rw [htq] at hv5
          subst hv5
          have HQ : Hid (TL.length = tq ∧ tq ≤ 4096) := Lib.hid ⟨htq, by omega⟩
          have HRD := Lib.hid hrd
          have HEN := Lib.hid hen
          have HREL : Hid (LW w w5 L gc gm T2 kk DD nn (lftJ ds TL 0) ∧ OwnT encT w5 W1.heap.size 9 (.slice p5 tq c5) TL) := Lib.hid ⟨by rw [lft_zero]; exact hp5, ho5⟩
          generalize W1.heap.size = bw at *
          clear ho5 hb5 hst hl5 hc5 hp5 hln hrd hen hT2 hDD hTL htq HS HO HP HGO
          go_wp2_with fail
          go_loopw [62] (fun v wx => ∃ j : Nat, j ≤ tq ∧ v = .int .i64 j ∧ Hid (LW w wx L gc gm T2 kk DD nn (lftJ ds TL j) ∧ OwnT encT wx bw 9 (.slice p5 tq c5) TL)) (fun v _ => tq - (intOf v).toNat)
          case atStart => exact ⟨0, Nat.zero_le _, rfl, HREL⟩
          case round =>
            obtain ⟨j, hj, rfl, HJ⟩ := hrel
            clear HREL
            by_cases hjq : j < tq
            · have hjI : (j : Int) < (tq : Int) := by omega
              have hj4 : j ≤ 4096 := by have := HQ.out.2; omega
              have hjl : j < TL.length := by rw [HQ.out.1]; exact hjq
              obtain ⟨g5, rfl, hcell⟩ := HJ.out.2.strs j hjl
              obtain ⟨d, hd, hnm, hdt⟩ := HRD.out j hjl
              have hd0 : d ∈ ds := (List.mem_filter.1 hd).1
              have hsz := HSZ.out d hd0
              have hlk := HJ.out.1.mp.look hd hsz
              obtain ⟨w6, hrun, hmp, hch⟩ := HJ.out.1.mp.drop (HND.out.sublist List.filter_sublist) (s := TL[j]) (by rw [← hnm]; exact hsz) 0
              rw [lft_step ds TL j hjl] at hmp
              have HNX : Hid (LW w w6 L gc gm T2 kk DD nn (lftJ ds TL (j + 1)) ∧ OwnT encT w6 bw 9 (.slice (some ⟨g5, 0, none⟩) tq c5) TL) := Lib.hid ⟨HJ.out.1.map hch hmp, HJ.out.2.stay (fun g e => hch.2 g (HJ.out.2.lt g e) (fun e2 => by have := HJ.out.2.block_ge g e; have := HGM.out; omega))⟩
              rw [hnm, hdt] at hlk
              have HNO := Lib.hid HJ.out.1.lc.now_any
              clear hd hnm hdt hd0 hsz hmp hch HJ
              generalize TL[j] = s at *
              clear hjl
              go_wp2_with fail
              refine HNO.out.mono ?_
              rintro y9 w9 ⟨rfl, hw9⟩
              replace hw9 := hw9.symm
              subst hw9
              go_wp2_with fail
              go_roundw
              case rel => exact ⟨j + 1, by omega, by go_num, HNX⟩
              case measure => simp [intOf]; omega
            · have hjI : ¬ (j : Int) < (tq : Int) := by omega
              have HX : Hid (∃ (L : List Nat) (now : Int) (kk nn : Nat) (ds : List Du), LW w wr L gc gm now kk ds nn ds ∧ kk ≤ (k + 1) ∧ nn ≤ (k + 1)) := by
                have h1 := HJ.out.1
                rw [HEN.out j (by rw [HQ.out.1]; omega)] at h1
                exact Lib.hid ⟨L, T2, kk, nn, DD, h1, by have := HKI.out; omega, by have := HKI.out; omega⟩
              clear HJ
              go_wp2_with fail
              go_meet
              case rel => exact ⟨rfl, HX⟩
        · have b2 : (xk == 2) = false := by simpa using k2
          have HX : Hid (∃ (L : List Nat) (now : Int) (kk nn : Nat) (ds : List Du), LW w W1 L gc gm now kk ds nn ds ∧ kk ≤ (k + 1) ∧ nn ≤ (k + 1)) := Lib.hid ⟨_, now, kk, nn, ds, HP.out, by have := HKI.out; omega, by have := HKI.out; omega⟩
          go_wp2_with fail
          go_meet
          case rel => exact ⟨rfl, HX⟩
      case rest =>
        obtain ⟨rfl, HX⟩ := hcut
        obtain ⟨L, now, kk, nn, ds, hp, hkk, hnk⟩ := HX.out
        have HP := Lib.hid hp
        have HKK : Hid (kk ≤ k + 1 ∧ nn ≤ k + 1) := Lib.hid ⟨hkk, hnk⟩
        clear hp hkk hnk HX HKI HFX
        have HLE := Lib.hid HP.out.lc.len_any
        obtain ⟨D, hown, hmd⟩ := HP.out.mp
        rw [← hmd.len] at HLE
        have HMD := Lib.hid hmd
        have HOW := Lib.hid hown
        clear hown hmd
        go_wp2_with fail
        refine HLE.out.mono ?_
        rintro y9 w9 ⟨rfl, hw9⟩
        replace hw9 := hw9.symm
        subst hw9
        clear HLE
        go_wp2_with (first | (at_len; refine wpList_len_own _ rfl _ 53 rfl 9 3 Try.underlying53 _ gm nn D rfl HOW.out ?_) | (at_range; refine wpList_range_own _ rfl _ 53 rfl 9 3 lawS Try.underlying53 _ gm nn D rfl HOW.out ?_; intro w0 hrg0 hg0 hs0))
        try go_frame
        have hb0 : Below wc.heap.size wc w0 := Below.grown (Below.refl _ _) hg0 (Nat.le_refl _) (fun _ h => nomatch h)
        have HL0 := Lib.hid (HP.out.own hb0 wc.heap.size (Nat.le_refl _) (by omega))
        have HGR : Hid (w.heap.size ≤ wc.heap.size) := Lib.hid HP.out.lc.below.size
        have HGI : Hid (wc.heap.size ∈ wc.heap.size :: L) := Lib.hid List.mem_cons_self
        have HRG := Lib.hid hrg0
        have HNE := Lib.hid hrg0.ne
        obtain ⟨L2, hL2⟩ : ∃ l, wc.heap.size :: L = l := ⟨_, rfl⟩
        rw [hL2] at HL0 HGI
        clear hL2 hb0 hrg0 hg0 hs0 HP HOW
        generalize wc.heap.size = gr at *
        have HREL : Hid (w0.ranges Try.prog 9 (plainElem Try.prog 3) gm gr nn D (Maps.has D) (Maps.size D) ∧ LW w w0 L2 gc gm now kk ds nn ds ∧ (∀ kl, Maps.has D kl = true → Maps.has D kl = true)) := Lib.hid ⟨HRG.out, HL0.out, fun _ h => h⟩
        clear HRG HL0
        go_wp2_with fail
        go_loopw [11] (fun _ wr => ∃ (left : Lit → Bool) (cnt : Nat), Hid (wr.ranges Try.prog 9 (plainElem Try.prog 3) gm gr nn D left cnt ∧ LW w wr L2 gc gm now kk ds nn ds ∧ (∀ kl, left kl = true → Maps.has D kl = true))) (fun _ wr => wr.rangeLeft gm gr)
        case atStart => exact ⟨_, _, HREL⟩
        case round =>
          clear HREL
          obtain ⟨left, cnt, HJ⟩ := hrel
          have hrg := HJ.out.1
          go_wp2_with (at_next; refine wpList_next_ranges _ rfl _ rfl 9 lawS (plainElem Try.prog 3) Value.string (Value.int .i64) invKS invVI gm gr _ D _ _ rfl hrg ?_ ?_)
          · skip
            intro hc0 hl0
            clear hc0 hl0 hrg
            have HX : Hid (∃ (L : List Nat) (now : Int) (kk nn : Nat) (ds : List Du), LW w wr L gc gm now kk ds nn ds ∧ kk ≤ (k + 1) ∧ nn ≤ (k + 1)) := Lib.hid ⟨L2, now, kk, nn, ds, HJ.out.2.1, HKK.out.1, HKK.out.2⟩
            clear HJ
            go_wp2_with fail
            go_roundw
            case rel => exact ⟨k + 1, by omega, by go_num, HX⟩
            case measure => simp [intOf]; omega
          · skip
            intro s t kl ya yb w1 cnt1 hkey hlx hR hat hrg1 hlt1 hg1 hs1 hen
            obtain ⟨rfl, hsz⟩ := entry_ks hkey
            have hy : ya = _ := entry_vi hR
            rw [hy] at hat
            obtain ⟨d, hd, hdn, hdt⟩ := HMD.out.due hsz (HJ.out.2.2 _ hlx) hat
            have hl1 := HJ.out.2.1.iter hg1 HGI.out HGR.out HNE.out
            have hwh := when_of hl1.lc.ck.nd hd
            have htm := hl1.lc.tm d hd
            rw [hdn, hdt] at hwh
            rw [hdt] at htm
            have HWN := Lib.hid (hl1.lc.when_any s hsz)
            rw [hwh] at HWN
            have HNO := Lib.hid hl1.lc.now_any
            have htn : ¬ t ≤ now := by omega
            have HNX : Hid (w1.ranges Try.prog 9 (plainElem Try.prog 3) gm gr nn D (fun z => left z && !z.sameKey (kS s)) cnt1 ∧ LW w w1 L2 gc gm now kk ds nn ds ∧ (∀ kl, (left kl && !kl.sameKey (kS s)) = true → Maps.has D kl = true)) := Lib.hid ⟨hrg1, hl1, fun kl h => HJ.out.2.2 kl (by rw [Bool.and_eq_true] at h; exact h.1)⟩
            have HME : Hid (w1.rangeLeft gm gr < wr.rangeLeft gm gr) := Lib.hid (by rw [World.ranges.left_eq hrg1, World.ranges.left_eq hrg]; exact hlt1)
            clear hkey hlx hR hat hrg1 hlt1 hg1 hs1 hy hd hdn hdt hl1 hwh hrg HJ hsz
            go_wp2_with fail
            refine HWN.out.mono ?_
            rintro y9 w9 ⟨rfl, hw9⟩
            replace hw9 := hw9.symm
            subst hw9
            go_wp2_with fail
            refine HNO.out.mono ?_
            rintro y9 w9 ⟨rfl, hw9⟩
            replace hw9 := hw9.symm
            subst hw9
            go_wp2_with fail
            go_roundw
            case rel => exact ⟨_, cnt1, HNX⟩
            case measure => exact HME.out
    · have hle : ¬ (k : Int) < (m : Int) := by omega
      obtain ⟨L, now, kk, nn, ds, hp, hkk, hnk⟩ := HJ.out
      have HBB := Lib.hid hp.lc.below
      clear hp hkk hnk HJ
      go_wp2_with fail
      go_ret
      exact ⟨rfl, HBB.out⟩
end Go.Proofs.Ytpmiekheiddihaa
