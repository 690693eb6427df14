/- CycleZero: the walk. -/
import Derived.Test.YteofblabimneiaaReckons
import Derived.Test.YteofblabimneiaaCycSums
import Derived.Test.YteofblabimneiaaRefSum
namespace Go.Proofs.Yteofblabimneiaa
open Go.RowKit
set_option linter.unusedSimpArgs false in
set_option maxHeartbeats 8000000 in
set_option maxRecDepth 100000 in
theorem czero_walk (N : Int) (v : Value) (xs : List Lin) (o0 o1 : Int) (w : World) (_ : -9223372036854775808 ≤ N ∧ N ≤ 9223372036854775807) (hr : TRow encN w v xs) (ho0 : -9223372036854775808 ≤ o0 ∧ o0 ≤ 9223372036854775807) (ho1 : -9223372036854775808 ≤ o1 ∧ o1 ≤ 9223372036854775807) :
    Calls Try.prog 4 #[.int .i64 N, v, .agg #[.int .i64 o0, .int .i64 o1]] w fun e w' => e = .returned (.bool true) ∧ Below w.heap.size w w' := by
  obtain ⟨p, c, rfl⟩ := hr.shape
  have HK := Lib.hid (fun W => reckons_any W)
  have HB0 := Lib.hid (oneB w (.cells #[.int .i64 o0, .int .i64 o1] 33))
  have HX0 := Lib.hid (Blk.new w #[.int .i64 o0, .int .i64 o1] 33)
  by_cases hl : 100 < xs.length
  · have hlI : (100 : Int) < (xs.length : Int) := by omega
    clear hr hl
    generalize xs.length = n at *
    go_enter Try.func4, Try.ntmps4
    go_wp2_with fail
    generalize w.alloc (.cells #[.int .i64 o0, .int .i64 o1] 33) = W0 at *
    refine (HK.out W0).mono ?_
    rintro y w1 ⟨rfl, hb1⟩
    have HB1 := Lib.hid (HB0.out.trans (hb1.mono HB0.out.size))
    have HX1 := Lib.hid (HX0.out.below hb1 HX0.out.lt)
    clear hb1 HK HB0 HX0
    go_wp2_with fail
    go_ret
    exact ⟨rfl, HB1.out⟩
  have hlI : (xs.length : Int) ≤ (100 : Int) := by omega
  have HN := Lib.hid (fun W (h : Below w.heap.size w W) => lnets_any W N _ xs (hr.kept h) (by omega))
  have HRI := Lib.hid (fun W (h : Below w.heap.size w W) vz zs (hz : Row .i64 W vz zs) (hzl : zs.length ≤ 100000) => lright_any W _ vz xs zs (hr.kept h) (by omega) hz hzl)
  by_cases hE : netsE N xs = 0
  · obtain ⟨⟨hN0, hN8⟩, hF⟩ := netsE_ok hE
    obtain ⟨n, rfl⟩ : ∃ n : Nat, N = (n : Int) := ⟨N.toNat, by omega⟩
    rw [hE, netsV_ok hE] at HN
    have HRK := Lib.hid (right_ok hE)
    have HNO := Lib.hid (fun zs (h1 : zs.length = n) (h2 : zs ≠ netsL n xs) => right_no hE h1 h2)
    have HSM : Hid (∀ k : Nat, -1125899906842624000 ≤ netS (k : Int) xs ∧ netS (k : Int) xs ≤ 1125899906842624000) := fun k => net_small (fit_within hF) (by omega)
    have HZ : Hid ((netsL n xs).sum = 0) := nets_zero n xs (fit_within hF)
    have H64 : Hid (All64 (netsL n xs)) := fun z hz => by
      unfold netsL at hz
      obtain ⟨k, _, rfl⟩ := List.mem_map.1 hz
      have := HSM.out k
      omega
    have HSU := Lib.hid (fun W v (h : Row .i64 W v (netsL n xs)) => refsum_any v (netsL n xs) W (by rw [netsL_len]; omega) H64.out h)
    rw [HZ.out, sumN_yes (by unfold Fits; decide), sumE_yes (by unfold Fits; decide)] at HSU
    have hn8 : n ≤ 8 := by omega
    have HLEN : Hid ((netsL n xs).length = n) := netsL_len n xs
    have HGET : Hid (∀ k, k < n → (netsL n xs).getD k 0 = netS (k : Int) xs) := fun k h => netsL_get h
    generalize hzs : netsL n xs = zs at *
    have HZS := Lib.hid hzs
    clear hzs hE hF hN0 hN8 hl hr HZ H64
    generalize xs.length = m at *
    go_enter Try.func4, Try.ntmps4
    go_wp2_with fail
    generalize w.alloc (.cells #[.int .i64 o0, .int .i64 o1] 33) = W0 at *
    refine (HK.out W0).mono ?_
    rintro y w1 ⟨rfl, hb1⟩
    have HB1 := Lib.hid (HB0.out.trans (hb1.mono HB0.out.size))
    have HX1 := Lib.hid (HX0.out.below hb1 HX0.out.lt)
    clear hb1 HK HB0 HX0
    go_wp2_with fail
    refine (HN.out w1 (HB1.out)).mono ?_
    rintro y w2 ⟨v2, rfl, ho2, hb2⟩
    obtain ⟨p2, c2, hv2⟩ := ho2.form
    rw [HLEN.out] at hv2
    subst hv2
    have HO2 := Lib.hid ho2
    have HB2 := Lib.hid (HB1.out.trans (hb2.mono HB1.out.size))
    have HX2 := Lib.hid (HX1.out.below hb2 HX1.out.lt)
    clear ho2 hb2 HN HX1
    go_wp2_with fail
    refine (HSU.out w2 _ HO2.out.row).mono ?_
    rintro y w3 ⟨rfl, hb3⟩
    have HO3 := Lib.hid (HO2.out.later hb3)
    have HB3 := Lib.hid (HB2.out.trans (hb3.mono HB2.out.size))
    have HX3 := Lib.hid (HX2.out.below hb3 HX2.out.lt)
    clear hb3 HSU HX2 HO2
    have HR3 := Lib.hid (HRI.out w3 (HB3.out) _ zs HO3.out.row (by rw [HLEN.out]; omega))
    rw [HRK.out] at HR3
    go_wp2_with fail
    refine HR3.out.mono ?_
    rintro y w4 ⟨rfl, hb4⟩
    have HO4 := Lib.hid (HO3.out.later hb4)
    have HB4 := Lib.hid (HB3.out.trans (hb4.mono HB3.out.size))
    have HX4 := Lib.hid (HX3.out.below hb4 HX3.out.lt)
    clear hb4 HR3 HX3 HO3
    have x0 : w4.cell? ⟨w.heap.size, 0, none⟩ = some (.int .i64 o0) := HX4.out.cell 0
    have x1 : w4.cell? ⟨w.heap.size, 1, none⟩ = some (.int .i64 o1) := HX4.out.cell 1
    by_cases hn0 : n = 0
    · have e1 : ((n : Int) == 0) = true := by simpa using hn0
      clear hn0
      go_wp2_with fail
      go_ret
      exact ⟨rfl, HB4.out⟩
    have e1 : ((n : Int) == 0) = false := by simpa using hn0
    have hnpos : 0 < n := by omega
    clear hn0
    by_cases ho0n : o0 < 0
    · go_wp2_with fail
      go_ret
      exact ⟨rfl, HB4.out⟩
    have ho0p : 0 ≤ o0 := by omega
    by_cases ho1z : o1 = 0
    · have e2 : (o1 == 0) = true := by simpa using ho1z
      clear ho1z
      go_wp2_with fail
      go_ret
      exact ⟨rfl, HB4.out⟩
    have e2 : (o1 == 0) = false := by simpa using ho1z
    have HO1Z := Lib.hid ho1z
    have HX4L := Lib.hid HX4.out.lt
    have HEM := Lib.hid (Own.made .i64 w4 w4.heap.size 2 (Nat.le_refl _))
    have HB5 := Lib.hid (oneB w4 (.cells #[] 2))
    have HZ5 : Hid ((w4.alloc (.cells #[] 2)).heap.size = w4.heap.size + 1) := by show _ = _; simp
    clear ho1z
    go_wp2_with (at_builtin; with_reducible refine stop_appendIN (.tmp 58) (.tmp 59) 24 rfl ?_)
    refine wpList_append_row rfl (.tmp 58) (.tmp 59) 24 rfl 2 .i64 8 w4.heap.size eltAc (.slice (some ⟨w4.heap.size, 0, none⟩) 0 0) (.slice p2 n c2) [] zs rfl rfl HEM.out (HO4.out.row.kept HB5.out) (by have := HLEN.out; simp; omega) (by have := HLEN.out; simp; omega) HB5.out.size zs n (List.nil_append _) HLEN.out ?_
    intro p5 c5 w5 ho5 hb5
    obtain ⟨g5, e5, hg5, hg5l, _⟩ := ho5.at_ hnpos
    subst e5
    have HO5 := Lib.hid ho5
    have hb45 := HB5.out.trans hb5
    have HB6 := Lib.hid (HB4.out.trans (hb45.mono HB4.out.size))
    have HX5 := Lib.hid (HX4.out.below hb45 HX4.out.lt)
    have HG5 := Lib.hid hg5
    have HO45 := Lib.hid (HO4.out.later hb45)
    clear ho5 hb5 hb45 x0 x1 HX4 HEM HB5 HZ5 hg5 HO4
    have x0 : w5.cell? ⟨w.heap.size, 0, none⟩ = some (.int .i64 o0) := HX5.out.cell 0
    have x1 : w5.cell? ⟨w.heap.size, 1, none⟩ = some (.int .i64 o1) := HX5.out.cell 1
    obtain ⟨r, hr⟩ : ∃ r : Nat, o0 % (n : Int) = (r : Int) := ⟨(o0 % (n : Int)).toNat, by have := Int.emod_nonneg o0 (show (n : Int) ≠ 0 by omega); omega⟩
    have hnz : ¬ n = 0 := by omega
    have hrn : r < n := by have := Int.emod_lt_of_pos o0 (show (0 : Int) < (n : Int) by omega); omega
    have hrnI : (r : Int) < (n : Int) := by omega
    have hmod : o0.tmod (n : Int) = (r : Int) := by rw [Int.tmod_eq_emod_of_nonneg ho0p, hr]
    have hwr : IntKind.i64.wrap (r : Int) = (r : Int) := IntWalk.i64_in _ (by omega)
    have hxs := HSM.out r
    obtain ⟨hcx, hfx⟩ := HO5.out.cell r hrn
    rw [HGET.out r hrn] at hcx
    obtain ⟨x, hx⟩ : ∃ x, netS (r : Int) xs = x := ⟨_, rfl⟩
    rw [hx] at hcx hxs
    have HXR : Hid (zs.getD r 0 = x) := by show _ = _; rw [HGET.out r hrn, hx]
    have hgne : g5 ≠ w.heap.size := by have := HX4L.out; have := HG5.out; omega
    have hS1 : w5.drew.cell? ⟨w.heap.size, 0, none⟩ = some (.int .i64 o0) ∧ w5.drew.cell? ⟨w.heap.size, 1, none⟩ = some (.int .i64 o1) := ⟨x0, x1⟩
    have HXOR : Hid (bits .xor .i64 x o1 ≠ x) := xor_ne (by omega) ho1 HO1Z.out
    clear hr hx
    go_wp2_with fail
    refine wp_region_held_drew (S := fun w' => w'.cell? ⟨w.heap.size, 0, none⟩ = some (.int .i64 o0) ∧ w'.cell? ⟨w.heap.size, 1, none⟩ = some (.int .i64 o1)) (by kernel_rfl) hS1 (fun hS0 => ?_)
    refine wpAnyH_take (i := 0) (v := ?_) rfl (by kernel_rfl) (by kernel_rfl) (by kernel_rfl) (fun _ _ _ h => h) (Or.inl ⟨by kernel_rfl, ?_⟩) (by first | assumption | trivial) ?_
    rotate_left
    · intro w hSw
      try dsimp only at hSw
      first | (go_simp; done) | (go_simp; with_reducible rfl)
    try simp only [Act.put, List.getElem_toArray, List.getElem_cons_succ, List.getElem_cons_zero, List.setIfInBounds_toArray, List.set_cons_zero, List.set_cons_succ]
    refine wpAnyH_take (i := 1) (v := ?_) rfl (by kernel_rfl) (by kernel_rfl) (by kernel_rfl) (fun _ _ _ h => h) (Or.inl ⟨by kernel_rfl, ?_⟩) (by first | assumption | trivial) ?_
    rotate_left
    · intro w hSw
      try dsimp only at hSw
      first | (go_simp; done) | (go_simp; with_reducible rfl)
    try simp only [Act.put, List.getElem_toArray, List.getElem_cons_succ, List.getElem_cons_zero, List.setIfInBounds_toArray, List.set_cons_zero, List.set_cons_succ]
    refine wpAnyH_take (i := 2) (v := ?_) rfl (by kernel_rfl) (by kernel_rfl) (by kernel_rfl) (fun _ _ _ h => h) (Or.inl ⟨by kernel_rfl, ?_⟩) (by first | assumption | trivial) ?_
    rotate_left
    · intro w hSw
      try dsimp only at hSw
      first | (go_simp; done) | (go_simp; with_reducible rfl)
    try simp only [Act.put, List.getElem_toArray, List.getElem_cons_succ, List.getElem_cons_zero, List.setIfInBounds_toArray, List.set_cons_zero, List.set_cons_succ]
    refine wpAnyH_take (i := 3) (v := ?_) rfl (by kernel_rfl) (by kernel_rfl) (by kernel_rfl) (fun _ _ _ h => h) (Or.inl ⟨by kernel_rfl, ?_⟩) (by first | assumption | trivial) ?_
    rotate_left
    · intro w hSw
      try dsimp only at hSw
      first | (go_simp; done) | (go_simp; with_reducible rfl)
    try simp only [Act.put, List.getElem_toArray, List.getElem_cons_succ, List.getElem_cons_zero, List.setIfInBounds_toArray, List.set_cons_zero, List.set_cons_succ]
    refine wpAnyH_take (i := 4) (v := ?_) rfl (by kernel_rfl) (by kernel_rfl) (by kernel_rfl) (fun _ _ _ h => h) (Or.inl ⟨by kernel_rfl, ?_⟩) (by first | assumption | trivial) ?_
    rotate_left
    · intro w hSw
      try dsimp only at hSw
      first | (go_simp; done) | (go_simp; with_reducible rfl)
    try simp only [Act.put, List.getElem_toArray, List.getElem_cons_succ, List.getElem_cons_zero, List.setIfInBounds_toArray, List.set_cons_zero, List.set_cons_succ]
    refine wpAnyH_take (i := 5) (v := ?_) rfl (by kernel_rfl) (by kernel_rfl) (by kernel_rfl) (fun _ _ _ h => h) (Or.inl ⟨by kernel_rfl, ?_⟩) (by first | assumption | trivial) ?_
    rotate_left
    · intro w hSw
      try dsimp only at hSw
      first | (go_simp; done) | (go_simp; with_reducible rfl)
    try simp only [Act.put, List.getElem_toArray, List.getElem_cons_succ, List.getElem_cons_zero, List.setIfInBounds_toArray, List.set_cons_zero, List.set_cons_succ]
    refine wpAnyH_take (i := 6) (v := ?_) rfl (by kernel_rfl) (by kernel_rfl) (by kernel_rfl) (fun _ _ _ h => h) (Or.inl ⟨by kernel_rfl, ?_⟩) (by first | assumption | trivial) ?_
    rotate_left
    · intro w hSw
      try dsimp only at hSw
      first | (go_simp; done) | (go_simp; with_reducible rfl)
    try simp only [Act.put, List.getElem_toArray, List.getElem_cons_succ, List.getElem_cons_zero, List.setIfInBounds_toArray, List.set_cons_zero, List.set_cons_succ]
    refine wpAnyH_take (i := 8) (v := ?_) rfl (by kernel_rfl) (by kernel_rfl) (by kernel_rfl) (fun _ _ _ h => h) (Or.inl ⟨by kernel_rfl, ?_⟩) (by first | assumption | trivial) ?_
    rotate_left
    · intro w hSw
      try dsimp only at hSw
      first | (go_simp; done) | (go_simp; with_reducible rfl)
    try simp only [Act.put, List.getElem_toArray, List.getElem_cons_succ, List.getElem_cons_zero, List.setIfInBounds_toArray, List.set_cons_zero, List.set_cons_succ]
    refine wpAnyH_take (i := 9) (v := ?_) rfl (by kernel_rfl) (by kernel_rfl) (by kernel_rfl) (fun _ _ _ h => h) (Or.inl ⟨by kernel_rfl, ?_⟩) (by first | assumption | trivial) ?_
    rotate_left
    · intro w hSw
      try dsimp only at hSw
      first | (go_simp; done) | (go_simp; with_reducible rfl)
    try simp only [Act.put, List.getElem_toArray, List.getElem_cons_succ, List.getElem_cons_zero, List.setIfInBounds_toArray, List.set_cons_zero, List.set_cons_succ]
    refine wpAnyH_ready (rs := [7]) (by kernel_rfl) (by simp) ?_
    refine AllReadyH.cons rfl (fun K hK => ?_) AllReadyH.nil
    go_simp
    refine hK.out _ _ hS1 (fun hS => ?_)
    clear hK K
    try simp only [Act.put, List.getElem_toArray, List.getElem_cons_succ, List.getElem_cons_zero, List.setIfInBounds_toArray, List.set_cons_zero, List.set_cons_succ]
    refine wpAnyH_take (i := 10) (v := ?_) rfl (by kernel_rfl) (by kernel_rfl) (by kernel_rfl) (fun _ _ _ h => h) (Or.inl ⟨by kernel_rfl, ?_⟩) (by first | assumption | trivial) ?_
    rotate_left
    · intro w hSw
      try dsimp only at hSw
      first | (go_simp; done) | (go_simp; with_reducible rfl)
    try simp only [Act.put, List.getElem_toArray, List.getElem_cons_succ, List.getElem_cons_zero, List.setIfInBounds_toArray, List.set_cons_zero, List.set_cons_succ]
    refine wpAnyH_take (i := 11) (v := ?_) rfl (by kernel_rfl) (by kernel_rfl) (by kernel_rfl) (fun _ _ _ h => h) (Or.inl ⟨by kernel_rfl, ?_⟩) (by first | assumption | trivial) ?_
    rotate_left
    · intro w hSw
      try dsimp only at hSw
      first | (go_simp; done) | (go_simp; with_reducible rfl)
    try simp only [Act.put, List.getElem_toArray, List.getElem_cons_succ, List.getElem_cons_zero, List.setIfInBounds_toArray, List.set_cons_zero, List.set_cons_succ]
    refine wpAnyH_ready (rs := [12]) (by kernel_rfl) (by simp) ?_
    refine AllReadyH.cons rfl (fun K hK => ?_) AllReadyH.nil
    go_simp
    generalize bits .xor .i64 x o1 = X at *
    have HX6 := Lib.hid (HX5.out.setOther (a := ⟨g5, r, none⟩) hgne (.int .i64 X))
    have HO6 := Lib.hid (HO5.out.set r X)
    have HB7 := Lib.hid (HB6.out.setCell (p := ⟨g5, r, none⟩) (by have := HX4L.out; have := HG5.out; simp; omega) (.int .i64 X))
    refine hK.out _ _ ⟨HX6.out.cell 0, HX6.out.cell 1⟩ (fun hS => ?_)
    clear hK K
    try simp only [Act.put, List.getElem_toArray, List.getElem_cons_succ, List.getElem_cons_zero, List.setIfInBounds_toArray, List.set_cons_zero, List.set_cons_succ]
    refine wpAnyH_done (by kernel_rfl) ?_ _
    have HNZ : Hid (zs.set r X ≠ zs) := by
      intro h
      have h2 := congrArg (fun l => l.getD r 0) h
      rw [HXR.out, List.getD_eq_getElem?_getD, List.getElem?_set_self (by rw [HLEN.out]; exact hrn)] at h2
      exact HXOR.out h2
    have HW7 : Hid (Below w.heap.size w ((w5.setCell ⟨g5, r, none⟩ (.int .i64 X)).drew)) := HB7.out.drew
    have HR7 := Lib.hid (HRI.out _ HW7.out _ (zs.set r X) (HO6.out.row.kept (Below.refl _ (w5.setCell ⟨g5, r, none⟩ (.int .i64 X))).drew) (by rw [List.length_set, HLEN.out]; omega))
    rw [HNO.out (zs.set r X) (by rw [List.length_set]; exact HLEN.out) HNZ.out] at HR7
    go_wp2_with fail
    refine HR7.out.mono ?_
    rintro y w8 ⟨rfl, hb8⟩
    have HB8 := Lib.hid (HW7.out.trans (hb8.mono HW7.out.size))
    clear hb8 HR7
    go_wp2_with fail
    go_ret
    exact ⟨rfl, HB8.out⟩
  · obtain ⟨E, hE2⟩ : ∃ E, netsE N xs = E := ⟨_, rfl⟩
    have HV : Hid (netsV N xs = []) := by show _ = _; unfold netsV; rw [if_neg hE]
    rw [hE2] at HN hE
    rw [HV.out] at HN
    have e1 : (E != 0) = true := by simpa using hE
    clear hE hE2 hl hr
    generalize xs.length = m at *
    go_enter Try.func4, Try.ntmps4
    go_wp2_with fail
    generalize w.alloc (.cells #[.int .i64 o0, .int .i64 o1] 33) = W0 at *
    refine (HK.out W0).mono ?_
    rintro y w1 ⟨rfl, hb1⟩
    have HB1 := Lib.hid (HB0.out.trans (hb1.mono HB0.out.size))
    have HX1 := Lib.hid (HX0.out.below hb1 HX0.out.lt)
    clear hb1 HK HB0 HX0
    go_wp2_with fail
    refine (HN.out w1 HB1.out).mono ?_
    rintro y w2 ⟨v2, rfl, ho2, hb2⟩
    obtain ⟨p2, c2, hv2⟩ := ho2.form
    subst hv2
    have HB2 := Lib.hid (HB1.out.trans (hb2.mono HB1.out.size))
    clear ho2 hb2 HN
    simp only [List.length_nil]
    go_wp2_with fail
    go_ret
    exact ⟨rfl, HB2.out⟩
end Go.Proofs.Yteofblabimneiaa
