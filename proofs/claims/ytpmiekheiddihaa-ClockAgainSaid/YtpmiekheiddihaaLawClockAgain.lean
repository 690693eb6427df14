/- ClockAgain: the walk. -/
import Derived.Test.YtpmiekheiddihaaClkR
namespace Go.Proofs.Ytpmiekheiddihaa
open Go.RowKit Go.Maps
set_option linter.unusedSimpArgs false in
set_option maxHeartbeats 4000000 in
set_option maxRecDepth 100000 in
theorem again_f (a b : Int) (w : World) :
    Calls Try.prog 6 #[.int .i64 a, .int .i64 b, .bool false] w fun e w' => e = .returned (.bool true) ∧ Below w.heap.size w w' := by
  have HT := Lib.hid (ticks_any w)
  go_enter Try.func6, Try.ntmps6
  go_wp2_with fail
  refine HT.out.mono ?_
  rintro q w1 ⟨rfl, hb1⟩
  have HB1 := Lib.hid hb1
  clear hb1 HT
  by_cases c1 : a < 1
  case pos =>
    go_wp2_with fail
    go_ret
    exact ⟨rfl, HB1.out⟩
  by_cases c2 : 30 < a
  case pos =>
    have c1' : (1 : Int) ≤ a := by omega
    clear c1
    go_wp2_with fail
    go_ret
    exact ⟨rfl, HB1.out⟩
  by_cases c3 : b < 1
  case pos =>
    have c1' : (1 : Int) ≤ a := by omega
    have c2' : a ≤ (30 : Int) := by omega
    clear c1 c2
    go_wp2_with fail
    go_ret
    exact ⟨rfl, HB1.out⟩
  by_cases c4 : 30 < b
  case pos =>
    have c1' : (1 : Int) ≤ a := by omega
    have c2' : a ≤ (30 : Int) := by omega
    have c3' : (1 : Int) ≤ b := by omega
    clear c1 c2 c3
    go_wp2_with fail
    go_ret
    exact ⟨rfl, HB1.out⟩
  have HAB : Hid (1 ≤ a ∧ a ≤ 30 ∧ 1 ≤ b ∧ b ≤ 30) := Lib.hid (by omega)
  have c1' : (1 : Int) ≤ a := by omega
  have c2' : a ≤ (30 : Int) := by omega
  have c3' : (1 : Int) ≤ b := by omega
  have c4' : b ≤ (30 : Int) := by omega
  clear c1 c2 c3 c4
  have HNW := Lib.hid (lnew_any w w1 HB1.out)
  go_wp2_with fail
  refine HNW.out.mono ?_
  rintro q w2 ⟨rfl, hc, -⟩
  have HC2 := Lib.hid hc
  clear hc HNW HB1
  generalize w1.heap.size + 1 = gc at *
  have HS := Lib.hid (lset_any w [] w2 gc 0 0 [] ⟨#[120]⟩ a HC2.out (by have := HAB.out; omega) (by decide) (by decide))
  rw [set_zero (by have := HAB.out; omega) (by have := HAB.out; omega) (by decide)] at HS
  go_wp2_with fail
  refine HS.out.mono ?_
  rintro q w3 ⟨rfl, -, -, k3, ds3, hc, hr⟩
  obtain ⟨rfl, b1, rfl⟩ := hr.1 (set_zero (by have := HAB.out; omega) (by have := HAB.out; omega) (by decide))
  have HC3 : Hid (LC w [] w3 gc 0 1 [⟨b1, ⟨#[120]⟩, 0 + a, 1⟩]) := Lib.hid hc
  clear hc hr HS HC2
  have HT3 := Lib.hid (ltick_any w [] w3 gc 0 1 _ HC3.out)
  go_wp2_with fail
  refine HT3.out.mono ?_
  rintro q w4 ⟨v4, rfl, -, -, -, hl4⟩
  have hc := hl4 [] (fun _ hx => by cases hx) (fun _ _ _ e => by cases e)
  obtain ⟨ds4, hd4⟩ : ∃ l, tickD 0 [(⟨b1, ⟨#[120]⟩, 0 + a, 1⟩ : Du)] = l := ⟨_, rfl⟩
  have HD4 : Hid (dropU ds4 ⟨#[120]⟩ = [] ∧ ds4.length ≤ 1) := Lib.hid (by
    have h1 : ds4.Sublist [(⟨b1, ⟨#[120]⟩, 0 + a, 1⟩ : Du)] := by rw [← hd4]; exact List.filter_sublist
    refine ⟨?_, by have := h1.length_le; simpa using this⟩
    unfold dropU
    rw [List.filter_eq_nil_iff]
    intro d hd e
    have h2 := h1.subset hd
    rw [List.mem_singleton.1 h2] at e
    exact (of_decide_eq_true e) rfl)
  rw [hd4] at hc
  have HC4 : Hid (LC w [] w4 gc 1 1 ds4) := Lib.hid hc
  clear hc hl4 hd4 HT3 HC3
  have he4 : setE 1 ds4 ⟨#[120]⟩ b = 0 := set_zero (by have := HAB.out; omega) (by have := HAB.out; omega) (by have := HD4.out.2; omega)
  have HS := Lib.hid (lset_any w [] w4 gc 1 1 ds4 ⟨#[120]⟩ b HC4.out (by have := HAB.out; omega) (by decide) (by decide))
  rw [he4] at HS
  have HE4 := Lib.hid he4
  clear he4
  go_wp2_with fail
  refine HS.out.mono ?_
  rintro q w5 ⟨rfl, -, -, k5, ds5, hc, hr⟩
  obtain ⟨rfl, b2, rfl⟩ := hr.1 HE4.out
  have HC5 : Hid (LC w [] w5 gc 1 2 [⟨b2, ⟨#[120]⟩, 1 + b, 2⟩]) := Lib.hid (by rw [HD4.out.1] at hc; exact hc)
  clear hc hr HS HC4 HE4 HD4
  have he5 : setE 1 [(⟨b2, ⟨#[120]⟩, 1 + b, 2⟩ : Du)] ⟨#[121]⟩ 3 = 0 := set_zero (by decide) (by decide) (by simp)
  have HS := Lib.hid (lset_any w [] w5 gc 1 2 _ ⟨#[121]⟩ 3 HC5.out (by decide) (by decide) (by decide))
  rw [he5] at HS
  have HE5 := Lib.hid he5
  clear he5
  go_wp2_with fail
  refine HS.out.mono ?_
  rintro q w6 ⟨rfl, -, -, k6, ds6, hc, hr⟩
  obtain ⟨rfl, b3, rfl⟩ := hr.1 HE5.out
  have HC6 : Hid (LC w [] w6 gc 1 3 [⟨b2, ⟨#[120]⟩, 1 + b, 2⟩, ⟨b3, ⟨#[121]⟩, 4, 3⟩]) := Lib.hid hc
  clear hc hr HS HC5 HE5
  go_upto_region 13 with fail
  have HREL : Hid (LC w [] w6 gc (1 + (0 : Nat)) 3 (aftL (1 + ((0 : Nat) : Int)) [⟨b2, ⟨#[120]⟩, 1 + b, 2⟩, ⟨b3, ⟨#[121]⟩, 4, 3⟩])) := Lib.hid (by
    rw [aft_all (fun d hd => by have := HAB.out; simp only [List.mem_cons, List.not_mem_nil, or_false] at hd; rcases hd with rfl | rfl <;> (dsimp only; omega))]
    exact HC6.out)
  clear HC6
  have hb0 : ¬ b ≤ 0 := by have := HAB.out; omega
  go_wp2_with fail
  go_loopw [8, 48] (fun td v wr => ∃ r : Nat, r ≤ 35 ∧ v = .int .i64 r ∧ td = .int .i64 (if b ≤ (r : Int) then 1 else 0) ∧ Hid (LC w [] wr gc (1 + (r : Int)) 3 (aftL (1 + (r : Int)) [⟨b2, ⟨#[120]⟩, 1 + b, 2⟩, ⟨b3, ⟨#[121]⟩, 4, 3⟩]))) (fun _ v _ => 35 - (intOf v).toNat)
  case atStart => exact ⟨0, by omega, rfl, (by rw [if_neg (by omega)]), HREL⟩
  case round =>
    obtain ⟨r, hr, rfl, rfl, HJ⟩ := hrel
    clear HREL
    by_cases hlt : r < 35
    · have hltI : (r : Int) < 35 := by omega
      have HTK := Lib.hid (ltick_any w [] wr gc (1 + (r : Int)) 3 _ HJ.out)
      have hat := aft_tick (T := 1 + (r : Int)) (ds := [⟨b2, ⟨#[120]⟩, 1 + b, 2⟩, ⟨b3, ⟨#[121]⟩, 4, 3⟩]) (by omega)
      rw [hat.1, hat.2.1, hat.2.2] at HTK
      obtain ⟨NL, hNL⟩ : ∃ NL, (atL (1 + (r : Int) + 1) [⟨b2, ⟨#[120]⟩, 1 + b, 2⟩, ⟨b3, ⟨#[121]⟩, 4, 3⟩]).map (·.nm) = NL := ⟨_, rfl⟩
      have HCN : Hid (NL.length ≤ 2 ∧ (cntS ⟨#[120]⟩ NL : Int) + (if b ≤ (r : Int) then 1 else 0) = (if b ≤ ((r + 1 : Nat) : Int) then 1 else 0) ∧ (⟨#[120]⟩ ∈ NL → 1 + b = 1 + (r : Int) + 1)) := Lib.hid (by
        rw [← hNL]
        unfold atL
        refine ⟨by rw [List.length_map]; exact Nat.le_trans (List.length_filter_le _ _) (by simp), ?_, ?_⟩
        · by_cases h1 : 1 + b = 1 + (r : Int) + 1
          · have e1 : b ≤ ((r + 1 : Nat) : Int) := by omega
            have e2 : ¬ b ≤ (r : Int) := by omega
            rw [if_pos e1, if_neg e2, List.filter_cons, if_pos (by simpa using h1)]
            by_cases h4 : (4 : Int) = 1 + (r : Int) + 1 <;> simp [h4, cntS] <;> (try decide)
          · rw [List.filter_cons, if_neg (by simpa using h1)]
            have e1 : (if b ≤ ((r + 1 : Nat) : Int) then (1 : Int) else 0) = if b ≤ (r : Int) then 1 else 0 := by
              by_cases h5 : b ≤ (r : Int)
              · rw [if_pos h5, if_pos (by omega)]
              · rw [if_neg h5, if_neg (by omega)]
            rw [e1]
            by_cases h4 : (4 : Int) = 1 + (r : Int) + 1 <;> simp [h4, cntS] <;> (try decide)
        · intro h
          rw [List.mem_map] at h
          obtain ⟨d, hd, e⟩ := h
          have h1 := List.mem_filter.1 hd
          have h2 := of_decide_eq_true h1.2
          have h3 := h1.1
          simp only [List.mem_cons, List.not_mem_nil, or_false] at h3
          rcases h3 with rfl | rfl
          · exact h2
          · exact absurd (show (⟨#[121]⟩ : ByteArray) = ⟨#[120]⟩ from e) (by decide))
      rw [hNL] at HTK
      clear hat hNL
      obtain ⟨td, htd⟩ : ∃ td : Int, (if b ≤ (r : Int) then 1 else 0) = td := ⟨_, rfl⟩
      rw [htd] at HCN ⊢
      clear htd
      go_wp2_with fail
      refine HTK.out.mono ?_
      rintro q w8 ⟨v8, rfl, ho8, -, -, hl8⟩
      have HC8 := Lib.hid (hl8 [] (fun _ hx => by cases hx) (fun _ _ _ e => by cases e))
      have HO8 := Lib.hid ho8
      obtain ⟨p8, c8, hv8⟩ := ho8.form
      generalize hn8 : NL.length = n8 at hv8
      subst hv8
      have HN8 : Hid (NL.length = n8 ∧ n8 ≤ 2) := Lib.hid ⟨hn8, by have := HCN.out.1; omega⟩
      clear hn8 ho8 hl8 HTK HJ
      go_wp2_with fail
      go_loopw [8, 53] (fun u v wx => ∃ i : Nat, i ≤ n8 ∧ v = .int .i64 i ∧ u = .int .i64 (td + (cntS ⟨#[120]⟩ (NL.take i) : Int)) ∧ wx = w8) (fun _ v _ => n8 - (intOf v).toNat)
      case atStart => exact ⟨0, Nat.zero_le _, rfl, (by rw [List.take_zero]; show _ = Value.int .i64 (td + 0); rw [Int.add_zero]), rfl⟩
      case round =>
        obtain ⟨i, hi, rfl, rfl, rfl⟩ := hrel
        have hn2 := HN8.out.2
        by_cases hin : i < n8
        · have hinI : (i : Int) < (n8 : Int) := by omega
          have hil : i < NL.length := by rw [HN8.out.1]; exact hin
          have hcn := cnt_take (x := ⟨#[120]⟩) hil
          obtain ⟨g8, rfl, hcell⟩ := HO8.out.strs i hil
          have HME : Hid (NL[i] = ⟨#[120]⟩ → 1 + b = 1 + (r : Int) + 1) := Lib.hid (fun e => HCN.out.2.2 (by rw [← e]; exact List.getElem_mem hil))
          generalize NL[i] = s at *
          by_cases hsx : s = ⟨#[120]⟩
          · subst hsx
            rw [if_pos rfl] at hcn
            have HE : Hid (1 + b = 1 + (r : Int) + 1) := Lib.hid (HME.out rfl)
            have HCC := Lib.hid hcn
            have HNO := Lib.hid HC8.out.now_any
            have e1 : wrap64 (td + (cntS ⟨#[120]⟩ (NL.take i) : Int) + 1) = td + (cntS ⟨#[120]⟩ (NL.take i) : Int) + 1 := by
              have h1 := HCN.out.2.1
              have h2 : cntS ⟨#[120]⟩ (NL.take i) ≤ 2 := Nat.le_trans (List.length_filter_le _ _) (Nat.le_trans (List.length_take_le _ _) (by omega))
              have h3 : cntS ⟨#[120]⟩ NL ≤ 2 := Nat.le_trans (List.length_filter_le _ _) HCN.out.1
              have h4 : td ≤ 1 ∧ -2 ≤ td := by split at h1 <;> omega
              exact IntWalk.wrap64_in _ (by omega)
            have e2 : wrap64 (1 + b) = 1 + b := IntWalk.wrap64_in _ (by omega)
            have e3 : ((1 + (r : Int) + 1) != (1 + b)) = false := by have := HE.out; simp; omega
            clear HME hcn
            go_wp2_with fail
            refine HNO.out.mono ?_
            rintro q w9 ⟨rfl, rfl⟩
            go_wp2_with fail
            go_roundw
            case rel => exact ⟨i + 1, by omega, by go_num, (by rw [HCC.out]; show _ = Value.int .i64 (td + ((cntS ⟨#[120]⟩ (NL.take i) + 1 : Nat) : Int)); congr 1; omega), (by first | rfl | trivial)⟩
            case measure => simp [intOf]; omega
          · rw [if_neg hsx] at hcn
            have HCC := Lib.hid hcn
            have e1 : (s.toList == [120]) = false := bl_lit hsx
            clear HME hcn
            go_wp2_with fail
            go_roundw
            case rel => exact ⟨i + 1, by omega, by go_num, (by rw [HCC.out]; rfl), (by first | rfl | trivial)⟩
            case measure => simp [intOf]; omega
        · have hle : (n8 : Int) ≤ (i : Int) := by omega
          have HNX : Hid (LC w [] wr gc (1 + ((r + 1 : Nat) : Int)) 3 (aftL (1 + ((r + 1 : Nat) : Int)) [⟨b2, ⟨#[120]⟩, 1 + b, 2⟩, ⟨b3, ⟨#[121]⟩, 4, 3⟩])) := Lib.hid (by have h1 := HC8.out; rw [show (1 : Int) + ((r + 1 : Nat) : Int) = 1 + (r : Int) + 1 by omega]; exact h1)
          have HTD : Hid (td + (cntS ⟨#[120]⟩ (NL.take i) : Int) = (if b ≤ ((r + 1 : Nat) : Int) then 1 else 0)) := Lib.hid (by rw [List.take_of_length_le (by have := HN8.out; omega), ← HCN.out.2.1]; omega)
          clear HC8 HO8 HCN hin
          go_wp2_with fail
          go_roundw
          case rel => exact ⟨r + 1, by omega, by go_num, (by rw [HTD.out]), HNX⟩
          case measure => simp [intOf]; omega
    · have hle : (35 : Int) ≤ (r : Int) := by omega
      obtain rfl : r = 35 := by omega
      have HCE : Hid (LC w [] wr gc (1 + ((35 : Nat) : Int)) 3 []) := Lib.hid (by have h1 := HJ.out; rw [aft_none (fun d hd => by have := HAB.out; simp only [List.mem_cons, List.not_mem_nil, or_false] at hd; rcases hd with rfl | rfl <;> (dsimp only; omega))] at h1; exact h1)
      clear HJ hlt
      have HLN := Lib.hid HCE.out.len_any
      have HDP := Lib.hid (ldrop_any w [] wr gc _ 3 [] ⟨#[120]⟩ HCE.out (by decide))
      rw [show dropE [] ⟨#[120]⟩ = 4 from rfl] at HDP
      have et : b ≤ 35 := by have := HAB.out; omega
      have et2 : b ≤ ((35 : Nat) : Int) := by have := HAB.out; omega
      rw [if_pos et2]
      go_wp2_with fail
      refine HLN.out.mono ?_
      rintro q wa ⟨rfl, rfl⟩
      go_wp2_with fail
      refine HDP.out.mono ?_
      rintro q wb ⟨rfl, hb, -, -⟩
      have HBB := Lib.hid (HCE.out.below.trans hb)
      clear hb
      go_wp2_with fail
      go_ret
      exact ⟨rfl, HBB.out⟩
set_option linter.unusedSimpArgs false in
set_option maxHeartbeats 4000000 in
set_option maxRecDepth 100000 in
theorem again_t (a b : Int) (w : World) :
    Calls Try.prog 6 #[.int .i64 a, .int .i64 b, .bool true] w fun e w' => e = .returned (.bool true) ∧ Below w.heap.size w w' := by
  have HT := Lib.hid (ticks_any w)
  go_enter Try.func6, Try.ntmps6
  go_wp2_with fail
  refine HT.out.mono ?_
  rintro q w1 ⟨rfl, hb1⟩
  have HB1 := Lib.hid hb1
  clear hb1 HT
  by_cases c1 : a < 1
  case pos =>
    go_wp2_with fail
    go_ret
    exact ⟨rfl, HB1.out⟩
  by_cases c2 : 30 < a
  case pos =>
    have c1' : (1 : Int) ≤ a := by omega
    clear c1
    go_wp2_with fail
    go_ret
    exact ⟨rfl, HB1.out⟩
  by_cases c3 : b < 1
  case pos =>
    have c1' : (1 : Int) ≤ a := by omega
    have c2' : a ≤ (30 : Int) := by omega
    clear c1 c2
    go_wp2_with fail
    go_ret
    exact ⟨rfl, HB1.out⟩
  by_cases c4 : 30 < b
  case pos =>
    have c1' : (1 : Int) ≤ a := by omega
    have c2' : a ≤ (30 : Int) := by omega
    have c3' : (1 : Int) ≤ b := by omega
    clear c1 c2 c3
    go_wp2_with fail
    go_ret
    exact ⟨rfl, HB1.out⟩
  have HAB : Hid (1 ≤ a ∧ a ≤ 30 ∧ 1 ≤ b ∧ b ≤ 30) := Lib.hid (by omega)
  have c1' : (1 : Int) ≤ a := by omega
  have c2' : a ≤ (30 : Int) := by omega
  have c3' : (1 : Int) ≤ b := by omega
  have c4' : b ≤ (30 : Int) := by omega
  clear c1 c2 c3 c4
  have HNW := Lib.hid (lnew_any w w1 HB1.out)
  go_wp2_with fail
  refine HNW.out.mono ?_
  rintro q w2 ⟨rfl, hc, -⟩
  have HC2 := Lib.hid hc
  clear hc HNW HB1
  generalize w1.heap.size + 1 = gc at *
  have HS := Lib.hid (lset_any w [] w2 gc 0 0 [] ⟨#[120]⟩ a HC2.out (by have := HAB.out; omega) (by decide) (by decide))
  rw [set_zero (by have := HAB.out; omega) (by have := HAB.out; omega) (by decide)] at HS
  go_wp2_with fail
  refine HS.out.mono ?_
  rintro q w3 ⟨rfl, -, -, k3, ds3, hc, hr⟩
  obtain ⟨rfl, b1, rfl⟩ := hr.1 (set_zero (by have := HAB.out; omega) (by have := HAB.out; omega) (by decide))
  have HC3 : Hid (LC w [] w3 gc 0 1 [⟨b1, ⟨#[120]⟩, 0 + a, 1⟩]) := Lib.hid hc
  clear hc hr HS HC2
  have HT3 := Lib.hid (ltick_any w [] w3 gc 0 1 _ HC3.out)
  go_wp2_with fail
  refine HT3.out.mono ?_
  rintro q w4 ⟨v4, rfl, -, -, -, hl4⟩
  have hc := hl4 [] (fun _ hx => by cases hx) (fun _ _ _ e => by cases e)
  obtain ⟨ds4, hd4⟩ : ∃ l, tickD 0 [(⟨b1, ⟨#[120]⟩, 0 + a, 1⟩ : Du)] = l := ⟨_, rfl⟩
  have HD4 : Hid (dropU ds4 ⟨#[120]⟩ = [] ∧ ds4.length ≤ 1) := Lib.hid (by
    have h1 : ds4.Sublist [(⟨b1, ⟨#[120]⟩, 0 + a, 1⟩ : Du)] := by rw [← hd4]; exact List.filter_sublist
    refine ⟨?_, by have := h1.length_le; simpa using this⟩
    unfold dropU
    rw [List.filter_eq_nil_iff]
    intro d hd e
    have h2 := h1.subset hd
    rw [List.mem_singleton.1 h2] at e
    exact (of_decide_eq_true e) rfl)
  rw [hd4] at hc
  have HC4 : Hid (LC w [] w4 gc 1 1 ds4) := Lib.hid hc
  clear hc hl4 hd4 HT3 HC3
  have he4 : setE 1 ds4 ⟨#[120]⟩ b = 0 := set_zero (by have := HAB.out; omega) (by have := HAB.out; omega) (by have := HD4.out.2; omega)
  have HS := Lib.hid (lset_any w [] w4 gc 1 1 ds4 ⟨#[120]⟩ b HC4.out (by have := HAB.out; omega) (by decide) (by decide))
  rw [he4] at HS
  have HE4 := Lib.hid he4
  clear he4
  go_wp2_with fail
  refine HS.out.mono ?_
  rintro q w5 ⟨rfl, -, -, k5, ds5, hc, hr⟩
  obtain ⟨rfl, b2, rfl⟩ := hr.1 HE4.out
  have HC5 : Hid (LC w [] w5 gc 1 2 [⟨b2, ⟨#[120]⟩, 1 + b, 2⟩]) := Lib.hid (by rw [HD4.out.1] at hc; exact hc)
  clear hc hr HS HC4 HE4 HD4
  have he5 : setE 1 [(⟨b2, ⟨#[120]⟩, 1 + b, 2⟩ : Du)] ⟨#[121]⟩ 3 = 0 := set_zero (by decide) (by decide) (by simp)
  have HS := Lib.hid (lset_any w [] w5 gc 1 2 _ ⟨#[121]⟩ 3 HC5.out (by decide) (by decide) (by decide))
  rw [he5] at HS
  have HE5 := Lib.hid he5
  clear he5
  go_wp2_with fail
  refine HS.out.mono ?_
  rintro q w6 ⟨rfl, -, -, k6, ds6, hc, hr⟩
  obtain ⟨rfl, b3, rfl⟩ := hr.1 HE5.out
  have HC6 : Hid (LC w [] w6 gc 1 3 [⟨b2, ⟨#[120]⟩, 1 + b, 2⟩, ⟨b3, ⟨#[121]⟩, 4, 3⟩]) := Lib.hid hc
  clear hc hr HS HC5 HE5
  have HDR := Lib.hid (ldrop_any w [] w6 gc 1 3 _ ⟨#[120]⟩ HC6.out (by decide))
  rw [show dropE [(⟨b2, ⟨#[120]⟩, 1 + b, 2⟩ : Du), ⟨b3, ⟨#[121]⟩, 4, 3⟩] ⟨#[120]⟩ = 0 from rfl] at HDR
  go_wp2_with fail
  refine HDR.out.mono ?_
  rintro q w7 ⟨rfl, -, -, hc⟩
  have HC7 : Hid (LC w [] w7 gc 1 3 [⟨b3, ⟨#[121]⟩, 4, 3⟩]) := Lib.hid hc
  clear hc HDR HC6
  go_upto_region 13 with fail
  have HREL : Hid (LC w [] w7 gc (1 + (0 : Nat)) 3 (aftL (1 + ((0 : Nat) : Int)) [⟨b3, ⟨#[121]⟩, 4, 3⟩])) := Lib.hid (by
    rw [aft_all (fun d hd => by have := HAB.out; simp only [List.mem_cons, List.not_mem_nil, or_false] at hd; rcases hd with rfl <;> (dsimp only; omega))]
    exact HC7.out)
  clear HC7
  have hb0 : ¬ b ≤ 0 := by have := HAB.out; omega
  go_wp2_with fail
  go_loopw [8, 48] (fun td v wr => ∃ r : Nat, r ≤ 35 ∧ v = .int .i64 r ∧ td = .int .i64 0 ∧ Hid (LC w [] wr gc (1 + (r : Int)) 3 (aftL (1 + (r : Int)) [⟨b3, ⟨#[121]⟩, 4, 3⟩]))) (fun _ v _ => 35 - (intOf v).toNat)
  case atStart => exact ⟨0, by omega, rfl, rfl, HREL⟩
  case round =>
    obtain ⟨r, hr, rfl, rfl, HJ⟩ := hrel
    clear HREL
    by_cases hlt : r < 35
    · have hltI : (r : Int) < 35 := by omega
      have HTK := Lib.hid (ltick_any w [] wr gc (1 + (r : Int)) 3 _ HJ.out)
      have hat := aft_tick (T := 1 + (r : Int)) (ds := [⟨b3, ⟨#[121]⟩, 4, 3⟩]) (by omega)
      rw [hat.1, hat.2.1, hat.2.2] at HTK
      obtain ⟨NL, hNL⟩ : ∃ NL, (atL (1 + (r : Int) + 1) [⟨b3, ⟨#[121]⟩, 4, 3⟩]).map (·.nm) = NL := ⟨_, rfl⟩
      have HCN : Hid (NL.length ≤ 2 ∧ (⟨#[120]⟩ ∉ NL)) := Lib.hid (by
        rw [← hNL]
        unfold atL
        refine ⟨by rw [List.length_map]; exact Nat.le_trans (List.length_filter_le _ _) (by simp), ?_⟩
        intro h
        rw [List.mem_map] at h
        obtain ⟨d, hd, e⟩ := h
        have hd := (List.mem_filter.1 hd).1
        rw [List.mem_singleton.1 hd] at e
        exact absurd (show (⟨#[121]⟩ : ByteArray) = ⟨#[120]⟩ from e) (by decide))
      rw [hNL] at HTK
      clear hat hNL
      go_wp2_with fail
      refine HTK.out.mono ?_
      rintro q w8 ⟨v8, rfl, ho8, -, -, hl8⟩
      have HC8 := Lib.hid (hl8 [] (fun _ hx => by cases hx) (fun _ _ _ e => by cases e))
      have HO8 := Lib.hid ho8
      obtain ⟨p8, c8, hv8⟩ := ho8.form
      generalize hn8 : NL.length = n8 at hv8
      subst hv8
      have HN8 : Hid (NL.length = n8 ∧ n8 ≤ 2) := Lib.hid ⟨hn8, by have := HCN.out.1; omega⟩
      clear hn8 ho8 hl8 HTK HJ
      go_wp2_with fail
      go_loopw [8, 53] (fun u v wx => ∃ i : Nat, i ≤ n8 ∧ v = .int .i64 i ∧ u = .int .i64 0 ∧ wx = w8) (fun _ v _ => n8 - (intOf v).toNat)
      case atStart => exact ⟨0, Nat.zero_le _, rfl, rfl, rfl⟩
      case round =>
        obtain ⟨i, hi, rfl, rfl, rfl⟩ := hrel
        have hn2 := HN8.out.2
        by_cases hin : i < n8
        · have hinI : (i : Int) < (n8 : Int) := by omega
          have hil : i < NL.length := by rw [HN8.out.1]; exact hin
          have hcn := cnt_take (x := ⟨#[120]⟩) hil
          obtain ⟨g8, rfl, hcell⟩ := HO8.out.strs i hil
          have HME : Hid (NL[i] ≠ ⟨#[120]⟩) := Lib.hid (fun e => HCN.out.2 (by rw [← e]; exact List.getElem_mem hil))
          generalize NL[i] = s at *
          by_cases hsx : s = ⟨#[120]⟩
          · exact absurd hsx HME.out
          · rw [if_neg hsx] at hcn
            have HCC := Lib.hid hcn
            have e1 : (s.toList == [120]) = false := bl_lit hsx
            clear HME hcn
            go_wp2_with fail
            go_roundw
            case rel => exact ⟨i + 1, by omega, by go_num, rfl, (by first | rfl | trivial)⟩
            case measure => simp [intOf]; omega
        · have hle : (n8 : Int) ≤ (i : Int) := by omega
          have HNX : Hid (LC w [] wr gc (1 + ((r + 1 : Nat) : Int)) 3 (aftL (1 + ((r + 1 : Nat) : Int)) [⟨b3, ⟨#[121]⟩, 4, 3⟩])) := Lib.hid (by have h1 := HC8.out; rw [show (1 : Int) + ((r + 1 : Nat) : Int) = 1 + (r : Int) + 1 by omega]; exact h1)
          skip
          clear HC8 HO8 HCN hin
          go_wp2_with fail
          go_roundw
          case rel => exact ⟨r + 1, by omega, by go_num, rfl, HNX⟩
          case measure => simp [intOf]; omega
    · have hle : (35 : Int) ≤ (r : Int) := by omega
      obtain rfl : r = 35 := by omega
      have HCE : Hid (LC w [] wr gc (1 + ((35 : Nat) : Int)) 3 []) := Lib.hid (by have h1 := HJ.out; rw [aft_none (fun d hd => by have := HAB.out; simp only [List.mem_cons, List.not_mem_nil, or_false] at hd; rcases hd with rfl <;> (dsimp only; omega))] at h1; exact h1)
      clear HJ hlt
      have HLN := Lib.hid HCE.out.len_any
      have HDP := Lib.hid (ldrop_any w [] wr gc _ 3 [] ⟨#[120]⟩ HCE.out (by decide))
      rw [show dropE [] ⟨#[120]⟩ = 4 from rfl] at HDP
      go_wp2_with fail
      refine HLN.out.mono ?_
      rintro q wa ⟨rfl, rfl⟩
      go_wp2_with fail
      refine HDP.out.mono ?_
      rintro q wb ⟨rfl, hb, -, -⟩
      have HBB := Lib.hid (HCE.out.below.trans hb)
      clear hb
      go_wp2_with fail
      go_ret
      exact ⟨rfl, HBB.out⟩
theorem again_walk (a b : Int) (dr : Bool) (w : World) (_ : -9223372036854775808 ≤ a ∧ a ≤ 9223372036854775807) (_ : -9223372036854775808 ≤ b ∧ b ≤ 9223372036854775807) :
    Calls Try.prog 6 #[.int .i64 a, .int .i64 b, .bool dr] w fun e w' => e = .returned (.bool true) ∧ Below w.heap.size w w' := by
  cases dr
  · exact again_f a b w
  · exact again_t a b w
end Go.Proofs.Ytpmiekheiddihaa
