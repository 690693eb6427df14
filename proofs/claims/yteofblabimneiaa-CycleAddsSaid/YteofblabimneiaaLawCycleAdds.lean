/- CycleAdds: the walk. -/
import Derived.Test.YteofblabimneiaaReckons
import Derived.Test.YteofblabimneiaaCycSums
namespace Go.Proofs.Yteofblabimneiaa
open Go.RowKit
set_option linter.unusedSimpArgs false in
set_option maxHeartbeats 8000000 in
set_option maxRecDepth 100000 in
theorem cadds_walk (N : Int) (v : Value) (xs : List Lin) (q : Int) (w : World) (_ : -9223372036854775808 ≤ N ∧ N ≤ 9223372036854775807) (hr : TRow encN w v xs) (hq : -9223372036854775808 ≤ q ∧ q ≤ 9223372036854775807) :
    Calls Try.prog 7 #[.int .i64 N, v, .int .i64 q] w fun e w' => e = .returned (.bool true) ∧ Below w.heap.size w w' := by
  obtain ⟨p, c, rfl⟩ := hr.shape
  have HK := Lib.hid (reckons_any w)
  by_cases hl : 100 < xs.length
  · have hlI : (100 : Int) < (xs.length : Int) := by omega
    clear hr hl
    generalize xs.length = n at *
    go_enter Try.func7, Try.ntmps7
    go_wp2_with fail
    refine HK.out.mono ?_
    rintro y w1 ⟨rfl, hb1⟩
    have HB1 := Lib.hid hb1
    clear hb1
    go_wp2_with fail
    go_ret
    exact ⟨rfl, HB1.out⟩
  have hlI : (xs.length : Int) ≤ (100 : Int) := by omega
  by_cases hq0 : q < 0
  · clear hr hl
    generalize xs.length = n at *
    go_enter Try.func7, Try.ntmps7
    go_wp2_with fail
    refine HK.out.mono ?_
    rintro y w1 ⟨rfl, hb1⟩
    have HB1 := Lib.hid hb1
    clear hb1
    go_wp2_with fail
    go_ret
    exact ⟨rfl, HB1.out⟩
  have hq0' : 0 ≤ q := by omega
  by_cases hqn : (xs.length : Int) < q
  · clear hr hl hq0
    generalize xs.length = n at *
    go_enter Try.func7, Try.ntmps7
    go_wp2_with fail
    refine HK.out.mono ?_
    rintro y w1 ⟨rfl, hb1⟩
    have HB1 := Lib.hid hb1
    clear hb1
    go_wp2_with fail
    go_ret
    exact ⟨rfl, HB1.out⟩
  obtain ⟨cut, rfl⟩ : ∃ cut : Nat, q = (cut : Int) := ⟨q.toNat, by omega⟩
  have hcut : cut ≤ xs.length := by omega
  have hcutI : (cut : Int) ≤ (xs.length : Int) := by omega
  have hcap := hr.cap
  have hcapI : (xs.length : Int) ≤ (c : Int) := by omega
  have hcutC : (cut : Int) ≤ (c : Int) := by omega
  have hxl : xs.length ≤ 100 := by omega
  have HX100 := Lib.hid hxl
  have HN := Lib.hid (fun W (h : Below w.heap.size w W) => lnets_any W N _ xs (hr.kept h) (by omega))
  have HNA := Lib.hid (fun W (h : Below w.heap.size w W) => lnets_any W N _ (xs.take cut) ((hr.kept h).take cut hcut) (by rw [List.length_take]; omega))
  have HNB := Lib.hid (fun W (h : Below w.heap.size w W) (P : Option Addr) (cc : Nat) (hP : ∀ b o, p = some ⟨b, o, none⟩ → cut < xs.length → P = some ⟨b, o + cut * 4, none⟩) (hcc : xs.length - cut ≤ cc) => lnets_any W N (.slice P (xs.length - cut) cc) (xs.drop cut) ((hr.kept h).tail cut hcut rfl hcc hP) (by rw [List.length_drop]; omega))
  have HRI := Lib.hid (fun W (h : Below w.heap.size w W) vz zs (hz : Row .i64 W vz zs) (hzl : zs.length ≤ 100000) => lright_any W _ vz xs zs (hr.kept h) (by omega) hz hzl)
  by_cases hE : netsE N xs = 0
  · obtain ⟨⟨hN0, hN8⟩, hF⟩ := netsE_ok hE
    obtain ⟨n, rfl⟩ : ∃ n : Nat, N = (n : Int) := ⟨N.toNat, by omega⟩
    have hEA := netsE_part hE (List.take_sublist cut xs)
    have hEB := netsE_part hE (List.drop_sublist cut xs)
    rw [hE] at HN
    rw [hEA] at HNA
    rw [hEB] at HNB
    rw [netsV_ok hE] at HN
    rw [netsV_ok hEA] at HNA
    rw [netsV_ok hEB] at HNB
    have HRK := Lib.hid (right_ok hE)
    have HADD : Hid (∀ k : Nat, netS (k : Int) (xs.take cut) + netS (k : Int) (xs.drop cut) = netS (k : Int) xs) := fun k => by rw [← netS_append, List.take_append_drop]
    have HSA : Hid (∀ k : Nat, -1125899906842624000 ≤ netS (k : Int) (xs.take cut) ∧ netS (k : Int) (xs.take cut) ≤ 1125899906842624000) := fun k => net_small (fit_within (fit_part hF (List.take_sublist cut xs))) (by rw [List.length_take]; omega)
    have HSB : Hid (∀ k : Nat, -1125899906842624000 ≤ netS (k : Int) (xs.drop cut) ∧ netS (k : Int) (xs.drop cut) ≤ 1125899906842624000) := fun k => net_small (fit_within (fit_part hF (List.drop_sublist cut xs))) (by rw [List.length_drop]; omega)
    have hn8 : n ≤ 8 := by omega
    clear hE hEA hEB hF hN0 hN8 hl hq0 hqn hq hq0'
    generalize hln : xs.length = m at *
    have HLN := Lib.hid hln
    clear hln hr
    go_enter Try.func7, Try.ntmps7
    go_wp2_with fail
    refine HK.out.mono ?_
    rintro y w1 ⟨rfl, hb1⟩
    have HB1 := Lib.hid hb1
    clear hb1 HK
    go_wp2_with fail
    refine (HN.out w1 HB1.out).mono ?_
    rintro y w2 ⟨v2, rfl, ho2, hb2⟩
    obtain ⟨p2, c2, hv2⟩ := ho2.form
    rw [netsL_len] at hv2
    subst hv2
    have HO2 := Lib.hid ho2
    have HB2 := Lib.hid (HB1.out.trans (hb2.mono HB1.out.size))
    clear ho2 hb2 HN
    go_wp2_with fail
    refine (HNA.out w2 HB2.out).mono ?_
    rintro y w3 ⟨v3, rfl, ho3, hb3⟩
    obtain ⟨p3, c3, hv3⟩ := ho3.form
    rw [netsL_len] at hv3
    subst hv3
    have HO3 := Lib.hid ho3
    have HP3 := Lib.hid (HO2.out.later hb3)
    have HB3 := Lib.hid (HB2.out.trans (hb3.mono HB2.out.size))
    clear ho3 hb3 HNA HO2
    go_wp2_with fail
    · have hcc : cut = c := by omega
      subst hcc
      refine (HNB.out w3 HB3.out _ _ ?hP ?hcc).mono ?_
      case hP =>
        intro b o e h
        exfalso
        omega
      case hcc => omega
      rintro y w4 ⟨v4, rfl, ho4, hb4⟩
      obtain ⟨p4, c4, hv4⟩ := ho4.form
      rw [netsL_len] at hv4
      subst hv4
      have HO4 := Lib.hid ho4
      have HO34 := Lib.hid (HO3.out.later hb4)
      have HP4 := Lib.hid (HP3.out.later hb4)
      have HB4 := Lib.hid (HB3.out.trans (hb4.mono HB3.out.size))
      have HRR := Lib.hid (fun W (h : Below w4.heap.size w4 W) => HRI.out W (HB4.out.trans (h.mono HB4.out.size)) _ (netsL n xs) (HP4.out.row.kept h) (by rw [netsL_len]; omega))
      rw [HRK.out] at HRR
      clear ho4 hb4 HNB HO3 HP3 HRI
      go_wp2_with fail
      go_loopw [61] (fun i wr => ∃ k : Nat, k ≤ n ∧ i = .int .i64 k ∧ Hid (Below w4.heap.size w4 wr)) (fun i _ => n - (intOf i).toNat)
      case atStart => exact ⟨0, by omega, rfl, Below.refl _ _⟩
      case round =>
        obtain ⟨k, hk, rfl, HB⟩ := hrel
        by_cases hlt : k < n
        · have hltI : (k : Int) < (n : Int) := by omega
          obtain ⟨b1, o1, rfl, _, d1⟩ := (HO34.out.row.kept HB.out).atc k (by rw [netsL_len]; exact hlt)
          obtain ⟨b2, o2, rfl, _, d2⟩ := (HO4.out.row.kept HB.out).atc k (by rw [netsL_len]; exact hlt)
          obtain ⟨b3, o3, rfl, _, d3⟩ := (HP4.out.row.kept HB.out).atc k (by rw [netsL_len]; exact hlt)
          rw [netsL_get hlt] at d1 d2 d3
          have hx := HSA.out k
          have hy := HSB.out k
          have hz := HADD.out k
          generalize netS (k : Int) (xs.take cut) = x at *
          generalize netS (k : Int) (xs.drop cut) = y at *
          have hw1 : IntKind.i64.wrap (x + y) = x + y := IntWalk.i64_in _ (by omega)
          have hS1 : wr.drew.cell? ⟨b1, o1 + k, none⟩ = some (.int .i64 x) ∧ wr.drew.cell? ⟨b2, o2 + k, none⟩ = some (.int .i64 y) ∧ wr.drew.cell? ⟨b3, o3 + k, none⟩ = some (.int .i64 (x + y)) := ⟨d1, d2, hz ▸ d3⟩
          clear d1 d2 d3 hz
          go_wp2_with fail
          refine wp_region_held_drew (S := fun w' => w'.cell? ⟨b1, o1 + k, none⟩ = some (.int .i64 x) ∧ w'.cell? ⟨b2, o2 + k, none⟩ = some (.int .i64 y) ∧ w'.cell? ⟨b3, o3 + k, none⟩ = some (.int .i64 (x + y))) (by kernel_rfl) hS1 (fun hS0 => ?_)
          refine wpAnyH_take (i := 0) (v := ?_) rfl (by kernel_rfl) (by kernel_rfl) (by kernel_rfl) (fun _ _ _ h => h) (Or.inl ⟨by kernel_rfl, ?_⟩) (by first | assumption | trivial) ?_
          rotate_left
          · intro w hSw
            try dsimp only at hSw
            first | (go_simp; done) | (go_simp; with_reducible rfl)
          try simp only [Act.put, List.getElem_toArray, List.getElem_cons_succ, List.getElem_cons_zero, List.setIfInBounds_toArray, List.set_cons_zero, List.set_cons_succ]
          refine wpAnyH_take (i := 1) (v := ?_) rfl (by kernel_rfl) (by kernel_rfl) (by kernel_rfl) (fun _ _ _ h => h) (Or.inl ⟨by kernel_rfl, ?_⟩) (by first | assumption | trivial) ?_
          rotate_left
          · intro w hSw
            try dsimp only at hSw
            first | (go_simp; done) | (go_simp; with_reducible rfl)
          try simp only [Act.put, List.getElem_toArray, List.getElem_cons_succ, List.getElem_cons_zero, List.setIfInBounds_toArray, List.set_cons_zero, List.set_cons_succ]
          refine wpAnyH_take (i := 2) (v := ?_) rfl (by kernel_rfl) (by kernel_rfl) (by kernel_rfl) (fun _ _ _ h => h) (Or.inl ⟨by kernel_rfl, ?_⟩) (by first | assumption | trivial) ?_
          rotate_left
          · intro w hSw
            try dsimp only at hSw
            first | (go_simp; done) | (go_simp; with_reducible rfl)
          try simp only [Act.put, List.getElem_toArray, List.getElem_cons_succ, List.getElem_cons_zero, List.setIfInBounds_toArray, List.set_cons_zero, List.set_cons_succ]
          refine wpAnyH_take (i := 3) (v := ?_) rfl (by kernel_rfl) (by kernel_rfl) (by kernel_rfl) (fun _ _ _ h => h) (Or.inl ⟨by kernel_rfl, ?_⟩) (by first | assumption | trivial) ?_
          rotate_left
          · intro w hSw
            try dsimp only at hSw
            first | (go_simp; done) | (go_simp; with_reducible rfl)
          try simp only [Act.put, List.getElem_toArray, List.getElem_cons_succ, List.getElem_cons_zero, List.setIfInBounds_toArray, List.set_cons_zero, List.set_cons_succ]
          refine wpAnyH_take (i := 4) (v := ?_) rfl (by kernel_rfl) (by kernel_rfl) (by kernel_rfl) (fun _ _ _ h => h) (Or.inl ⟨by kernel_rfl, ?_⟩) (by first | assumption | trivial) ?_
          rotate_left
          · intro w hSw
            try dsimp only at hSw
            first | (go_simp; done) | (go_simp; with_reducible rfl)
          try simp only [Act.put, List.getElem_toArray, List.getElem_cons_succ, List.getElem_cons_zero, List.setIfInBounds_toArray, List.set_cons_zero, List.set_cons_succ]
          refine wpAnyH_take (i := 5) (v := ?_) rfl (by kernel_rfl) (by kernel_rfl) (by kernel_rfl) (fun _ _ _ h => h) (Or.inl ⟨by kernel_rfl, ?_⟩) (by first | assumption | trivial) ?_
          rotate_left
          · intro w hSw
            try dsimp only at hSw
            first | (go_simp; done) | (go_simp; with_reducible rfl)
          try simp only [Act.put, List.getElem_toArray, List.getElem_cons_succ, List.getElem_cons_zero, List.setIfInBounds_toArray, List.set_cons_zero, List.set_cons_succ]
          refine wpAnyH_take (i := 6) (v := ?_) rfl (by kernel_rfl) (by kernel_rfl) (by kernel_rfl) (fun _ _ _ h => h) (Or.inl ⟨by kernel_rfl, ?_⟩) (by first | assumption | trivial) ?_
          rotate_left
          · intro w hSw
            try dsimp only at hSw
            first | (go_simp; done) | (go_simp; with_reducible rfl)
          try simp only [Act.put, List.getElem_toArray, List.getElem_cons_succ, List.getElem_cons_zero, List.setIfInBounds_toArray, List.set_cons_zero, List.set_cons_succ]
          refine wpAnyH_take (i := 7) (v := ?_) rfl (by kernel_rfl) (by kernel_rfl) (by kernel_rfl) (fun _ _ _ h => h) (Or.inl ⟨by kernel_rfl, ?_⟩) (by first | assumption | trivial) ?_
          rotate_left
          · intro w hSw
            try dsimp only at hSw
            first | (go_simp; done) | (go_simp; with_reducible rfl)
          try simp only [Act.put, List.getElem_toArray, List.getElem_cons_succ, List.getElem_cons_zero, List.setIfInBounds_toArray, List.set_cons_zero, List.set_cons_succ]
          refine wpAnyH_take (i := 8) (v := ?_) rfl (by kernel_rfl) (by kernel_rfl) (by kernel_rfl) (fun _ _ _ h => h) (Or.inl ⟨by kernel_rfl, ?_⟩) (by first | assumption | trivial) ?_
          rotate_left
          · intro w hSw
            try dsimp only at hSw
            first | (go_simp; done) | (go_simp; with_reducible rfl)
          try simp only [Act.put, List.getElem_toArray, List.getElem_cons_succ, List.getElem_cons_zero, List.setIfInBounds_toArray, List.set_cons_zero, List.set_cons_succ]
          refine wpAnyH_take (i := 9) (v := ?_) rfl (by kernel_rfl) (by kernel_rfl) (by kernel_rfl) (fun _ _ _ h => h) (Or.inl ⟨by kernel_rfl, ?_⟩) (by first | assumption | trivial) ?_
          rotate_left
          · intro w hSw
            try dsimp only at hSw
            first | (go_simp; done) | (go_simp; with_reducible rfl)
          try simp only [Act.put, List.getElem_toArray, List.getElem_cons_succ, List.getElem_cons_zero, List.setIfInBounds_toArray, List.set_cons_zero, List.set_cons_succ]
          refine wpAnyH_take (i := 10) (v := ?_) rfl (by kernel_rfl) (by kernel_rfl) (by kernel_rfl) (fun _ _ _ h => h) (Or.inl ⟨by kernel_rfl, ?_⟩) (by first | assumption | trivial) ?_
          rotate_left
          · intro w hSw
            try dsimp only at hSw
            first | (go_simp; done) | (go_simp; with_reducible rfl)
          try simp only [Act.put, List.getElem_toArray, List.getElem_cons_succ, List.getElem_cons_zero, List.setIfInBounds_toArray, List.set_cons_zero, List.set_cons_succ]
          refine wpAnyH_take (i := 11) (v := ?_) rfl (by kernel_rfl) (by kernel_rfl) (by kernel_rfl) (fun _ _ _ h => h) (Or.inl ⟨by kernel_rfl, ?_⟩) (by first | assumption | trivial) ?_
          rotate_left
          · intro w hSw
            try dsimp only at hSw
            first | (go_simp; done) | (go_simp; with_reducible rfl)
          try simp only [Act.put, List.getElem_toArray, List.getElem_cons_succ, List.getElem_cons_zero, List.setIfInBounds_toArray, List.set_cons_zero, List.set_cons_succ]
          refine wpAnyH_take (i := 12) (v := ?_) rfl (by kernel_rfl) (by kernel_rfl) (by kernel_rfl) (fun _ _ _ h => h) (Or.inl ⟨by kernel_rfl, ?_⟩) (by first | assumption | trivial) ?_
          rotate_left
          · intro w hSw
            try dsimp only at hSw
            first | (go_simp; done) | (go_simp; with_reducible rfl)
          try simp only [Act.put, List.getElem_toArray, List.getElem_cons_succ, List.getElem_cons_zero, List.setIfInBounds_toArray, List.set_cons_zero, List.set_cons_succ]
          refine wpAnyH_take (i := 13) (v := ?_) rfl (by kernel_rfl) (by kernel_rfl) (by kernel_rfl) (fun _ _ _ h => h) (Or.inl ⟨by kernel_rfl, ?_⟩) (by first | assumption | trivial) ?_
          rotate_left
          · intro w hSw
            try dsimp only at hSw
            first | (go_simp; done) | (go_simp; with_reducible rfl)
          try simp only [Act.put, List.getElem_toArray, List.getElem_cons_succ, List.getElem_cons_zero, List.setIfInBounds_toArray, List.set_cons_zero, List.set_cons_succ]
          refine wpAnyH_done (by kernel_rfl) ?_ _
          have HN2 : Hid (Below w4.heap.size w4 wr.drew) := HB.out.drew
          clear hw1
          go_wp2_with fail
          go_roundw
          case rel => exact ⟨k + 1, by omega, by go_num, HN2⟩
          case measure => simp [intOf]; omega
        · have hle : (n : Int) ≤ (k : Int) := by omega
          have HBW := Lib.hid (HB4.out.trans (HB.out.mono HB4.out.size))
          have HR2 := Lib.hid (HRR.out wr HB.out)
          clear HRR
          go_wp2_with fail
          refine HR2.out.mono ?_
          rintro y w6 ⟨rfl, hb6⟩
          have HB6 := Lib.hid (HBW.out.trans (hb6.mono HBW.out.size))
          clear hb6 HR2
          go_wp2_with fail
          go_ret
          exact ⟨rfl, HB6.out⟩
    · skip
      refine (HNB.out w3 HB3.out _ _ ?hP ?hcc).mono ?_
      case hP =>
        intro b o e h
        subst e
        simp [addAt]
      case hcc => omega
      rintro y w4 ⟨v4, rfl, ho4, hb4⟩
      obtain ⟨p4, c4, hv4⟩ := ho4.form
      rw [netsL_len] at hv4
      subst hv4
      have HO4 := Lib.hid ho4
      have HO34 := Lib.hid (HO3.out.later hb4)
      have HP4 := Lib.hid (HP3.out.later hb4)
      have HB4 := Lib.hid (HB3.out.trans (hb4.mono HB3.out.size))
      have HRR := Lib.hid (fun W (h : Below w4.heap.size w4 W) => HRI.out W (HB4.out.trans (h.mono HB4.out.size)) _ (netsL n xs) (HP4.out.row.kept h) (by rw [netsL_len]; omega))
      rw [HRK.out] at HRR
      clear ho4 hb4 HNB HO3 HP3 HRI
      go_wp2_with fail
      go_loopw [61] (fun i wr => ∃ k : Nat, k ≤ n ∧ i = .int .i64 k ∧ Hid (Below w4.heap.size w4 wr)) (fun i _ => n - (intOf i).toNat)
      case atStart => exact ⟨0, by omega, rfl, Below.refl _ _⟩
      case round =>
        obtain ⟨k, hk, rfl, HB⟩ := hrel
        by_cases hlt : k < n
        · have hltI : (k : Int) < (n : Int) := by omega
          obtain ⟨b1, o1, rfl, _, d1⟩ := (HO34.out.row.kept HB.out).atc k (by rw [netsL_len]; exact hlt)
          obtain ⟨b2, o2, rfl, _, d2⟩ := (HO4.out.row.kept HB.out).atc k (by rw [netsL_len]; exact hlt)
          obtain ⟨b3, o3, rfl, _, d3⟩ := (HP4.out.row.kept HB.out).atc k (by rw [netsL_len]; exact hlt)
          rw [netsL_get hlt] at d1 d2 d3
          have hx := HSA.out k
          have hy := HSB.out k
          have hz := HADD.out k
          generalize netS (k : Int) (xs.take cut) = x at *
          generalize netS (k : Int) (xs.drop cut) = y at *
          have hw1 : IntKind.i64.wrap (x + y) = x + y := IntWalk.i64_in _ (by omega)
          have hS1 : wr.drew.cell? ⟨b1, o1 + k, none⟩ = some (.int .i64 x) ∧ wr.drew.cell? ⟨b2, o2 + k, none⟩ = some (.int .i64 y) ∧ wr.drew.cell? ⟨b3, o3 + k, none⟩ = some (.int .i64 (x + y)) := ⟨d1, d2, hz ▸ d3⟩
          clear d1 d2 d3 hz
          go_wp2_with fail
          refine wp_region_held_drew (S := fun w' => w'.cell? ⟨b1, o1 + k, none⟩ = some (.int .i64 x) ∧ w'.cell? ⟨b2, o2 + k, none⟩ = some (.int .i64 y) ∧ w'.cell? ⟨b3, o3 + k, none⟩ = some (.int .i64 (x + y))) (by kernel_rfl) hS1 (fun hS0 => ?_)
          refine wpAnyH_take (i := 0) (v := ?_) rfl (by kernel_rfl) (by kernel_rfl) (by kernel_rfl) (fun _ _ _ h => h) (Or.inl ⟨by kernel_rfl, ?_⟩) (by first | assumption | trivial) ?_
          rotate_left
          · intro w hSw
            try dsimp only at hSw
            first | (go_simp; done) | (go_simp; with_reducible rfl)
          try simp only [Act.put, List.getElem_toArray, List.getElem_cons_succ, List.getElem_cons_zero, List.setIfInBounds_toArray, List.set_cons_zero, List.set_cons_succ]
          refine wpAnyH_take (i := 1) (v := ?_) rfl (by kernel_rfl) (by kernel_rfl) (by kernel_rfl) (fun _ _ _ h => h) (Or.inl ⟨by kernel_rfl, ?_⟩) (by first | assumption | trivial) ?_
          rotate_left
          · intro w hSw
            try dsimp only at hSw
            first | (go_simp; done) | (go_simp; with_reducible rfl)
          try simp only [Act.put, List.getElem_toArray, List.getElem_cons_succ, List.getElem_cons_zero, List.setIfInBounds_toArray, List.set_cons_zero, List.set_cons_succ]
          refine wpAnyH_take (i := 2) (v := ?_) rfl (by kernel_rfl) (by kernel_rfl) (by kernel_rfl) (fun _ _ _ h => h) (Or.inl ⟨by kernel_rfl, ?_⟩) (by first | assumption | trivial) ?_
          rotate_left
          · intro w hSw
            try dsimp only at hSw
            first | (go_simp; done) | (go_simp; with_reducible rfl)
          try simp only [Act.put, List.getElem_toArray, List.getElem_cons_succ, List.getElem_cons_zero, List.setIfInBounds_toArray, List.set_cons_zero, List.set_cons_succ]
          refine wpAnyH_take (i := 3) (v := ?_) rfl (by kernel_rfl) (by kernel_rfl) (by kernel_rfl) (fun _ _ _ h => h) (Or.inl ⟨by kernel_rfl, ?_⟩) (by first | assumption | trivial) ?_
          rotate_left
          · intro w hSw
            try dsimp only at hSw
            first | (go_simp; done) | (go_simp; with_reducible rfl)
          try simp only [Act.put, List.getElem_toArray, List.getElem_cons_succ, List.getElem_cons_zero, List.setIfInBounds_toArray, List.set_cons_zero, List.set_cons_succ]
          refine wpAnyH_take (i := 4) (v := ?_) rfl (by kernel_rfl) (by kernel_rfl) (by kernel_rfl) (fun _ _ _ h => h) (Or.inl ⟨by kernel_rfl, ?_⟩) (by first | assumption | trivial) ?_
          rotate_left
          · intro w hSw
            try dsimp only at hSw
            first | (go_simp; done) | (go_simp; with_reducible rfl)
          try simp only [Act.put, List.getElem_toArray, List.getElem_cons_succ, List.getElem_cons_zero, List.setIfInBounds_toArray, List.set_cons_zero, List.set_cons_succ]
          refine wpAnyH_take (i := 5) (v := ?_) rfl (by kernel_rfl) (by kernel_rfl) (by kernel_rfl) (fun _ _ _ h => h) (Or.inl ⟨by kernel_rfl, ?_⟩) (by first | assumption | trivial) ?_
          rotate_left
          · intro w hSw
            try dsimp only at hSw
            first | (go_simp; done) | (go_simp; with_reducible rfl)
          try simp only [Act.put, List.getElem_toArray, List.getElem_cons_succ, List.getElem_cons_zero, List.setIfInBounds_toArray, List.set_cons_zero, List.set_cons_succ]
          refine wpAnyH_take (i := 6) (v := ?_) rfl (by kernel_rfl) (by kernel_rfl) (by kernel_rfl) (fun _ _ _ h => h) (Or.inl ⟨by kernel_rfl, ?_⟩) (by first | assumption | trivial) ?_
          rotate_left
          · intro w hSw
            try dsimp only at hSw
            first | (go_simp; done) | (go_simp; with_reducible rfl)
          try simp only [Act.put, List.getElem_toArray, List.getElem_cons_succ, List.getElem_cons_zero, List.setIfInBounds_toArray, List.set_cons_zero, List.set_cons_succ]
          refine wpAnyH_take (i := 7) (v := ?_) rfl (by kernel_rfl) (by kernel_rfl) (by kernel_rfl) (fun _ _ _ h => h) (Or.inl ⟨by kernel_rfl, ?_⟩) (by first | assumption | trivial) ?_
          rotate_left
          · intro w hSw
            try dsimp only at hSw
            first | (go_simp; done) | (go_simp; with_reducible rfl)
          try simp only [Act.put, List.getElem_toArray, List.getElem_cons_succ, List.getElem_cons_zero, List.setIfInBounds_toArray, List.set_cons_zero, List.set_cons_succ]
          refine wpAnyH_take (i := 8) (v := ?_) rfl (by kernel_rfl) (by kernel_rfl) (by kernel_rfl) (fun _ _ _ h => h) (Or.inl ⟨by kernel_rfl, ?_⟩) (by first | assumption | trivial) ?_
          rotate_left
          · intro w hSw
            try dsimp only at hSw
            first | (go_simp; done) | (go_simp; with_reducible rfl)
          try simp only [Act.put, List.getElem_toArray, List.getElem_cons_succ, List.getElem_cons_zero, List.setIfInBounds_toArray, List.set_cons_zero, List.set_cons_succ]
          refine wpAnyH_take (i := 9) (v := ?_) rfl (by kernel_rfl) (by kernel_rfl) (by kernel_rfl) (fun _ _ _ h => h) (Or.inl ⟨by kernel_rfl, ?_⟩) (by first | assumption | trivial) ?_
          rotate_left
          · intro w hSw
            try dsimp only at hSw
            first | (go_simp; done) | (go_simp; with_reducible rfl)
          try simp only [Act.put, List.getElem_toArray, List.getElem_cons_succ, List.getElem_cons_zero, List.setIfInBounds_toArray, List.set_cons_zero, List.set_cons_succ]
          refine wpAnyH_take (i := 10) (v := ?_) rfl (by kernel_rfl) (by kernel_rfl) (by kernel_rfl) (fun _ _ _ h => h) (Or.inl ⟨by kernel_rfl, ?_⟩) (by first | assumption | trivial) ?_
          rotate_left
          · intro w hSw
            try dsimp only at hSw
            first | (go_simp; done) | (go_simp; with_reducible rfl)
          try simp only [Act.put, List.getElem_toArray, List.getElem_cons_succ, List.getElem_cons_zero, List.setIfInBounds_toArray, List.set_cons_zero, List.set_cons_succ]
          refine wpAnyH_take (i := 11) (v := ?_) rfl (by kernel_rfl) (by kernel_rfl) (by kernel_rfl) (fun _ _ _ h => h) (Or.inl ⟨by kernel_rfl, ?_⟩) (by first | assumption | trivial) ?_
          rotate_left
          · intro w hSw
            try dsimp only at hSw
            first | (go_simp; done) | (go_simp; with_reducible rfl)
          try simp only [Act.put, List.getElem_toArray, List.getElem_cons_succ, List.getElem_cons_zero, List.setIfInBounds_toArray, List.set_cons_zero, List.set_cons_succ]
          refine wpAnyH_take (i := 12) (v := ?_) rfl (by kernel_rfl) (by kernel_rfl) (by kernel_rfl) (fun _ _ _ h => h) (Or.inl ⟨by kernel_rfl, ?_⟩) (by first | assumption | trivial) ?_
          rotate_left
          · intro w hSw
            try dsimp only at hSw
            first | (go_simp; done) | (go_simp; with_reducible rfl)
          try simp only [Act.put, List.getElem_toArray, List.getElem_cons_succ, List.getElem_cons_zero, List.setIfInBounds_toArray, List.set_cons_zero, List.set_cons_succ]
          refine wpAnyH_take (i := 13) (v := ?_) rfl (by kernel_rfl) (by kernel_rfl) (by kernel_rfl) (fun _ _ _ h => h) (Or.inl ⟨by kernel_rfl, ?_⟩) (by first | assumption | trivial) ?_
          rotate_left
          · intro w hSw
            try dsimp only at hSw
            first | (go_simp; done) | (go_simp; with_reducible rfl)
          try simp only [Act.put, List.getElem_toArray, List.getElem_cons_succ, List.getElem_cons_zero, List.setIfInBounds_toArray, List.set_cons_zero, List.set_cons_succ]
          refine wpAnyH_done (by kernel_rfl) ?_ _
          have HN2 : Hid (Below w4.heap.size w4 wr.drew) := HB.out.drew
          clear hw1
          go_wp2_with fail
          go_roundw
          case rel => exact ⟨k + 1, by omega, by go_num, HN2⟩
          case measure => simp [intOf]; omega
        · have hle : (n : Int) ≤ (k : Int) := by omega
          have HBW := Lib.hid (HB4.out.trans (HB.out.mono HB4.out.size))
          have HR2 := Lib.hid (HRR.out wr HB.out)
          clear HRR
          go_wp2_with fail
          refine HR2.out.mono ?_
          rintro y w6 ⟨rfl, hb6⟩
          have HB6 := Lib.hid (HBW.out.trans (hb6.mono HBW.out.size))
          clear hb6 HR2
          go_wp2_with fail
          go_ret
          exact ⟨rfl, HB6.out⟩
  · obtain ⟨E, hE2⟩ : ∃ E, netsE N xs = E := ⟨_, rfl⟩
    have HV : Hid (netsV N xs = []) := by show _ = _; unfold netsV; rw [if_neg hE]
    rw [hE2] at HN hE
    rw [HV.out] at HN
    have e1 : (E != 0) = true := by simpa using hE
    clear hE hE2 hl hq0 hqn hq
    generalize xs.length = m at *
    clear hr
    go_enter Try.func7, Try.ntmps7
    go_wp2_with fail
    refine HK.out.mono ?_
    rintro y w1 ⟨rfl, hb1⟩
    have HB1 := Lib.hid hb1
    clear hb1 HK
    go_wp2_with fail
    refine (HN.out w1 HB1.out).mono ?_
    rintro y w2 ⟨v2, rfl, ho2, hb2⟩
    obtain ⟨p2, c2, hv2⟩ := ho2.form
    subst hv2
    have HB2 := Lib.hid (HB1.out.trans (hb2.mono HB1.out.size))
    clear ho2 hb2 HN
    simp only [List.length_nil]
    go_wp2_with fail
    go_ret
    exact ⟨rfl, HB2.out⟩
end Go.Proofs.Yteofblabimneiaa
