/- CycleNets: the walk. -/
import Derived.Test.YteofblabimneiaaReckons
import Derived.Test.YteofblabimneiaaRefCycN
namespace Go.Proofs.Yteofblabimneiaa
open Go.RowKit
set_option linter.unusedSimpArgs false in
set_option maxHeartbeats 8000000 in
set_option maxRecDepth 100000 in
theorem cnets_walk (N : Int) (v : Value) (xs : List Lin) (w : World) (_ : -9223372036854775808 ≤ N ∧ N ≤ 9223372036854775807) (hr : TRow encN w v xs) :
    Calls Try.prog 3 #[.int .i64 N, v] w fun e w' => e = .returned (.bool true) ∧ Below w.heap.size w w' := by
  obtain ⟨p, c, rfl⟩ := hr.shape
  have HK := Lib.hid (reckons_any w)
  by_cases hl : 100 < xs.length
  · have hlI : (100 : Int) < (xs.length : Int) := by omega
    clear hr hl
    generalize xs.length = n at *
    go_enter Try.func3, Try.ntmps3
    go_wp2_with fail
    refine HK.out.mono ?_
    rintro y w1 ⟨rfl, hb1⟩
    have HB1 := Lib.hid hb1
    clear hb1
    go_wp2_with fail
    go_ret
    exact ⟨rfl, HB1.out⟩
  · have hlI : (xs.length : Int) ≤ (100 : Int) := by omega
    have HN := Lib.hid (fun W (h : Below w.heap.size w W) => lnets_any W N _ xs (hr.kept h) (by omega))
    have HRN := Lib.hid (fun W (h : Below w.heap.size w W) => rnets_any W N _ xs (hr.kept h) (by omega))
    have HFI := Lib.hid (fun W (h : Below w.heap.size w W) => lfits_any W N _ xs (hr.kept h) (by omega))
    have HRF := Lib.hid (fun W (h : Below w.heap.size w W) => rfits_any W N _ xs (hr.kept h) (by omega))
    have hzl := netsV_len_le N xs
    clear hr hl
    obtain ⟨E, hE⟩ : ∃ E, netsE N xs = E := ⟨_, rfl⟩
    obtain ⟨F, hF⟩ : ∃ F, fitE N xs = F := ⟨_, rfl⟩
    rw [hE] at HN HRN
    rw [hF] at HFI HRF
    clear hE hF
    generalize netsV N xs = zs at *
    generalize xs.length = n at *
    generalize hm : zs.length = m at *
    have HM := Lib.hid hm
    clear hm
    go_enter Try.func3, Try.ntmps3
    go_wp2_with fail
    refine HK.out.mono ?_
    rintro y w1 ⟨rfl, hb1⟩
    have HB1 := Lib.hid hb1
    clear hb1 HK
    go_wp2_with fail
    refine (HN.out w1 HB1.out).mono ?_
    rintro y w2 ⟨v2, rfl, ho2, hb2⟩
    obtain ⟨p2, c2, hv2⟩ := ho2.form
    rw [HM.out] at hv2
    subst hv2
    have HO2 := Lib.hid ho2
    have HB2 := Lib.hid (HB1.out.trans (hb2.mono HB1.out.size))
    clear ho2 hb2 HN
    go_wp2_with fail
    refine (HRN.out w2 HB2.out).mono ?_
    rintro y w3 ⟨v3, rfl, ho3, hb3⟩
    obtain ⟨p3, c3, hv3⟩ := ho3.form
    rw [HM.out] at hv3
    subst hv3
    have HO3 := Lib.hid ho3
    have HP3 := Lib.hid (HO2.out.later hb3)
    have HB3 := Lib.hid (HB2.out.trans (hb3.mono HB2.out.size))
    clear ho3 hb3 HRN HO2
    go_wp2_with fail
    refine (HFI.out w3 HB3.out).mono ?_
    rintro y w4 ⟨rfl, hb4⟩
    have HO4 := Lib.hid (HO3.out.later hb4)
    have HP4 := Lib.hid (HP3.out.later hb4)
    have HB4 := Lib.hid (HB3.out.trans (hb4.mono HB3.out.size))
    clear hb4 HFI HO3 HP3
    go_wp2_with fail
    refine (HRF.out w4 HB4.out).mono ?_
    rintro y w5 ⟨rfl, hb5⟩
    have HO5 := Lib.hid (HO4.out.later hb5)
    have HP5 := Lib.hid (HP4.out.later hb5)
    have HB5 := Lib.hid (HB4.out.trans (hb5.mono HB4.out.size))
    clear hb5 HRF HO4 HP4
    go_wp2_with fail
    go_loopw [48] (fun i wr => ∃ k : Nat, k ≤ m ∧ i = .int .i64 k ∧ Hid (Below w5.heap.size w5 wr)) (fun i _ => m - (intOf i).toNat)
    case atStart => exact ⟨0, by omega, rfl, Below.refl _ _⟩
    case round =>
      obtain ⟨k, hk, rfl, HB⟩ := hrel
      by_cases hlt : k < m
      · have hltI : (k : Int) < (m : Int) := by omega
        obtain ⟨b1, o1, rfl, _, d1⟩ := (HP5.out.row.kept HB.out).atc k (by rw [HM.out]; exact hlt)
        obtain ⟨b2, o2, rfl, _, d2⟩ := (HO5.out.row.kept HB.out).atc k (by rw [HM.out]; exact hlt)
        generalize zs.getD k 0 = x at *
        have hS1 : wr.drew.cell? ⟨b1, o1 + k, none⟩ = some (.int .i64 x) ∧ wr.drew.cell? ⟨b2, o2 + k, none⟩ = some (.int .i64 x) := ⟨d1, d2⟩
        clear d1 d2
        go_wp2_with fail
        refine wp_region_held_drew (S := fun w' => w'.cell? ⟨b1, o1 + k, none⟩ = some (.int .i64 x) ∧ w'.cell? ⟨b2, o2 + k, none⟩ = some (.int .i64 x)) (by kernel_rfl) hS1 (fun hS0 => ?_)
        refine wpAnyH_take (i := 0) (v := ?_) rfl (by kernel_rfl) (by kernel_rfl) (by kernel_rfl) (fun _ _ _ h => h) (Or.inl ⟨by kernel_rfl, ?_⟩) (by first | assumption | trivial) ?_
        rotate_left
        · intro w hSw
          try dsimp only at hSw
          first | (go_simp; done) | (go_simp; with_reducible rfl)
        try simp only [Act.put, List.getElem_toArray, List.getElem_cons_succ, List.getElem_cons_zero, List.setIfInBounds_toArray, List.set_cons_zero, List.set_cons_succ]
        refine wpAnyH_take (i := 1) (v := ?_) rfl (by kernel_rfl) (by kernel_rfl) (by kernel_rfl) (fun _ _ _ h => h) (Or.inl ⟨by kernel_rfl, ?_⟩) (by first | assumption | trivial) ?_
        rotate_left
        · intro w hSw
          try dsimp only at hSw
          first | (go_simp; done) | (go_simp; with_reducible rfl)
        try simp only [Act.put, List.getElem_toArray, List.getElem_cons_succ, List.getElem_cons_zero, List.setIfInBounds_toArray, List.set_cons_zero, List.set_cons_succ]
        refine wpAnyH_take (i := 2) (v := ?_) rfl (by kernel_rfl) (by kernel_rfl) (by kernel_rfl) (fun _ _ _ h => h) (Or.inl ⟨by kernel_rfl, ?_⟩) (by first | assumption | trivial) ?_
        rotate_left
        · intro w hSw
          try dsimp only at hSw
          first | (go_simp; done) | (go_simp; with_reducible rfl)
        try simp only [Act.put, List.getElem_toArray, List.getElem_cons_succ, List.getElem_cons_zero, List.setIfInBounds_toArray, List.set_cons_zero, List.set_cons_succ]
        refine wpAnyH_take (i := 3) (v := ?_) rfl (by kernel_rfl) (by kernel_rfl) (by kernel_rfl) (fun _ _ _ h => h) (Or.inl ⟨by kernel_rfl, ?_⟩) (by first | assumption | trivial) ?_
        rotate_left
        · intro w hSw
          try dsimp only at hSw
          first | (go_simp; done) | (go_simp; with_reducible rfl)
        try simp only [Act.put, List.getElem_toArray, List.getElem_cons_succ, List.getElem_cons_zero, List.setIfInBounds_toArray, List.set_cons_zero, List.set_cons_succ]
        refine wpAnyH_take (i := 4) (v := ?_) rfl (by kernel_rfl) (by kernel_rfl) (by kernel_rfl) (fun _ _ _ h => h) (Or.inl ⟨by kernel_rfl, ?_⟩) (by first | assumption | trivial) ?_
        rotate_left
        · intro w hSw
          try dsimp only at hSw
          first | (go_simp; done) | (go_simp; with_reducible rfl)
        try simp only [Act.put, List.getElem_toArray, List.getElem_cons_succ, List.getElem_cons_zero, List.setIfInBounds_toArray, List.set_cons_zero, List.set_cons_succ]
        refine wpAnyH_take (i := 5) (v := ?_) rfl (by kernel_rfl) (by kernel_rfl) (by kernel_rfl) (fun _ _ _ h => h) (Or.inl ⟨by kernel_rfl, ?_⟩) (by first | assumption | trivial) ?_
        rotate_left
        · intro w hSw
          try dsimp only at hSw
          first | (go_simp; done) | (go_simp; with_reducible rfl)
        try simp only [Act.put, List.getElem_toArray, List.getElem_cons_succ, List.getElem_cons_zero, List.setIfInBounds_toArray, List.set_cons_zero, List.set_cons_succ]
        refine wpAnyH_take (i := 6) (v := ?_) rfl (by kernel_rfl) (by kernel_rfl) (by kernel_rfl) (fun _ _ _ h => h) (Or.inl ⟨by kernel_rfl, ?_⟩) (by first | assumption | trivial) ?_
        rotate_left
        · intro w hSw
          try dsimp only at hSw
          first | (go_simp; done) | (go_simp; with_reducible rfl)
        try simp only [Act.put, List.getElem_toArray, List.getElem_cons_succ, List.getElem_cons_zero, List.setIfInBounds_toArray, List.set_cons_zero, List.set_cons_succ]
        refine wpAnyH_take (i := 7) (v := ?_) rfl (by kernel_rfl) (by kernel_rfl) (by kernel_rfl) (fun _ _ _ h => h) (Or.inl ⟨by kernel_rfl, ?_⟩) (by first | assumption | trivial) ?_
        rotate_left
        · intro w hSw
          try dsimp only at hSw
          first | (go_simp; done) | (go_simp; with_reducible rfl)
        try simp only [Act.put, List.getElem_toArray, List.getElem_cons_succ, List.getElem_cons_zero, List.setIfInBounds_toArray, List.set_cons_zero, List.set_cons_succ]
        refine wpAnyH_take (i := 8) (v := ?_) rfl (by kernel_rfl) (by kernel_rfl) (by kernel_rfl) (fun _ _ _ h => h) (Or.inl ⟨by kernel_rfl, ?_⟩) (by first | assumption | trivial) ?_
        rotate_left
        · intro w hSw
          try dsimp only at hSw
          first | (go_simp; done) | (go_simp; with_reducible rfl)
        try simp only [Act.put, List.getElem_toArray, List.getElem_cons_succ, List.getElem_cons_zero, List.setIfInBounds_toArray, List.set_cons_zero, List.set_cons_succ]
        refine wpAnyH_done (by kernel_rfl) ?_ _
        have e1 : (x != x) = false := by simp
        have HN : Hid (Below w5.heap.size w5 wr.drew) := HB.out.drew
        go_wp2_with fail
        go_roundw
        case rel => exact ⟨k + 1, by omega, by go_num, HN⟩
        case measure => simp [intOf]; omega
      · have hle : (m : Int) ≤ (k : Int) := by omega
        have HBF := Lib.hid (HB5.out.trans (HB.out.mono HB5.out.size))
        go_wp2_with fail
        go_ret
        exact ⟨rfl, HBF.out⟩
end Go.Proofs.Yteofblabimneiaa
