/- CycleMine: the walk. -/
import Derived.Test.YteofblabimneiaaReckons
import Derived.Test.YteofblabimneiaaCycSums
import Derived.Test.YteofblabimneiaaRefCycF
import Derived.Test.YteofblabimneiaaCycHas
import Derived.Test.YteofblabimneiaaGBump
namespace Go.Proofs.Yteofblabimneiaa
open Go.RowKit
theorem mineL_mine (me : Int) (xs : List Lin) : netS me (mineL me xs) = netS me xs := by
  unfold netS netL mineL
  rw [List.filter_filter]
  simp
theorem mineL_take {me : Int} {xs : List Lin} {k : Nat} (hk : k < xs.length) : mineL me (xs.take (k + 1)) = mineL me (xs.take k) ++ (if mineB me xs[k] then [xs[k]] else []) := by
  unfold mineL
  rw [List.take_succ_eq_append_getElem hk, List.filter_append]
  congr 1
  cases h : mineB me xs[k] <;> simp [h]
theorem mineL_cons_len (me : Int) (x : Lin) (xs : List Lin) : ((mineL me (x :: xs)).length : Int) = (if mineB me x then 1 else 0) + ((mineL me xs).length : Int) := by
  unfold mineL
  rw [List.filter_cons]
  cases h : mineB me x
  · simp
  · simp; omega
theorem one_val (me : Int) (x : Lin) (h : x.s ≠ x.b) : (if mineB me x then (1 : Int) else 0) = (if me = x.s then 1 else 0) + (if me = x.b then 1 else 0) := by
  unfold mineB
  by_cases h1 : x.s = me
  · have h2 : ¬ me = x.b := fun e => h (by rw [h1, e])
    rw [decide_eq_true (.inl h1), if_pos rfl, if_pos h1.symm, if_neg h2]; rfl
  · by_cases h2 : x.b = me
    · rw [decide_eq_true (.inr h2), if_pos rfl, if_neg (fun e => h1 e.symm), if_pos h2.symm]; rfl
    · rw [decide_eq_false (by omega), if_neg (by decide), if_neg (fun e => h1 e.symm), if_neg (fun e => h2 e.symm)]; rfl
def cnt (xs : List Lin) (k : Nat) : Int := sumTo (fun i => ((mineL (i : Int) xs).length : Int)) k
theorem cnt_two (n : Nat) : ∀ xs : List Lin, (∀ x ∈ xs, withinB (n : Int) x = true) → cnt xs n = 2 * (xs.length : Int)
  | [], _ => by
    have : ∀ n, sumTo (fun i => ((mineL (i : Int) []).length : Int)) n = 0 := fun n => by
      induction n with
      | zero => rfl
      | succ n ih => rw [sumTo, ih]; rfl
    unfold cnt
    rw [this]; rfl
  | x :: xs, h => by
    have ih := cnt_two n xs (fun y hy => h y (List.mem_cons_of_mem _ hy))
    have hw := h x (by simp)
    unfold withinB at hw
    have hw := of_decide_eq_true hw
    obtain ⟨s, hs⟩ : ∃ s : Nat, x.s = (s : Int) := ⟨x.s.toNat, by omega⟩
    obtain ⟨b, hb⟩ : ∃ b : Nat, x.b = (b : Int) := ⟨x.b.toNat, by omega⟩
    unfold cnt at *
    have e : (fun i : Nat => ((mineL (i : Int) (x :: xs)).length : Int)) = fun i : Nat => ((if (i : Int) = (s : Int) then (1 : Int) else 0) + (if (i : Int) = (b : Int) then (1 : Int) else 0)) + ((mineL (i : Int) xs).length : Int) := by
      funext i
      rw [mineL_cons_len, one_val _ _ hw.2.2.2.2.1, hs, hb]
    rw [e, sumTo_add, ih, sumTo_add, sumTo_one, sumTo_one, if_pos (by omega), if_pos (by omega), List.length_cons]
    omega
theorem cnt_le (xs : List Lin) : ∀ k, 0 ≤ cnt xs k ∧ cnt xs k ≤ (xs.length : Int) * (k : Int)
  | 0 => by unfold cnt; simp [sumTo]
  | k + 1 => by
    have := cnt_le xs k
    have h2 : (mineL (k : Int) xs).length ≤ xs.length := List.length_filter_le _ _
    unfold cnt at *
    rw [sumTo, show ((k + 1 : Nat) : Int) = (k : Int) + 1 by omega, Int.mul_add, Int.mul_one]
    omega
theorem mine_sub (me : Int) (xs : List Lin) : (mineL me xs).Sublist xs := List.filter_sublist
set_option linter.unusedSimpArgs false in
set_option maxHeartbeats 8000000 in
set_option maxRecDepth 100000 in
theorem cmine_walk (N : Int) (v : Value) (xs : List Lin) (w : World) (_ : -9223372036854775808 ≤ N ∧ N ≤ 9223372036854775807) (hr : TRow encN w v xs) :
    Calls Try.prog 6 #[.int .i64 N, v] w fun e w' => e = .returned (.bool true) ∧ Below w.heap.size w w' := by
  obtain ⟨p, c, rfl⟩ := hr.shape
  have HK := Lib.hid (reckons_any w)
  by_cases hl : 100 < xs.length
  · have hlI : (100 : Int) < (xs.length : Int) := by omega
    clear hr hl
    generalize xs.length = n at *
    go_enter Try.func6, Try.ntmps6
    go_wp2_with fail
    refine HK.out.mono ?_
    rintro y w1 ⟨rfl, hb1⟩
    have HB1 := Lib.hid hb1
    clear hb1
    go_wp2_with fail
    go_ret
    exact ⟨rfl, HB1.out⟩
  have hlI : (xs.length : Int) ≤ (100 : Int) := by omega
  by_cases hN0 : N < 0
  · clear hr hl
    generalize xs.length = n at *
    go_enter Try.func6, Try.ntmps6
    go_wp2_with fail
    refine HK.out.mono ?_
    rintro y w1 ⟨rfl, hb1⟩
    have HB1 := Lib.hid hb1
    clear hb1
    go_wp2_with fail
    go_ret
    exact ⟨rfl, HB1.out⟩
  have hN0' : 0 ≤ N := by omega
  by_cases hN8 : 8 < N
  · clear hr hl hN0
    generalize xs.length = n at *
    go_enter Try.func6, Try.ntmps6
    go_wp2_with fail
    refine HK.out.mono ?_
    rintro y w1 ⟨rfl, hb1⟩
    have HB1 := Lib.hid hb1
    clear hb1
    go_wp2_with fail
    go_ret
    exact ⟨rfl, HB1.out⟩
  have hN8' : N ≤ 8 := by omega
  have HRF := Lib.hid (fun W (h : Below w.heap.size w W) => rfits_any W N _ xs (hr.kept h) (by omega))
  by_cases hF : fitE N xs = 0
  · obtain ⟨n, rfl⟩ : ∃ n : Nat, N = (n : Int) := ⟨N.toNat, by omega⟩
    rw [hF] at HRF
    have hE : netsE (n : Int) xs = 0 := by unfold netsE; rw [if_neg (by omega)]; exact hF
    have hxl : xs.length ≤ 100 := by omega
    have HX1 := Lib.hid hxl
    have HN := Lib.hid (fun W (h : Below w.heap.size w W) => lnets_any W (n : Int) _ xs (hr.kept h) (by omega))
    rw [hE, netsV_ok hE] at HN
    have HNM := Lib.hid (fun (me : Nat) W vm (h : TRow encN W vm (mineL (me : Int) xs)) => lnets_any W (n : Int) vm (mineL (me : Int) xs) h (by have := (mine_sub (me : Int) xs).length_le; omega))
    have HNE : Hid (∀ me : Nat, netsE (n : Int) (mineL (me : Int) xs) = 0) := fun me => netsE_part hE (mine_sub _ _)
    have HMI := Lib.hid (fun (me : Nat) W (h : Below w.heap.size w W) => mine_any W (me : Int) _ xs (hr.kept h) (by omega))
    have HCN : Hid (cnt xs n = 2 * (xs.length : Int)) := cnt_two n xs (fit_within hF)
    have HCL := Lib.hid (cnt_le xs)
    have hn8 : n ≤ 8 := by omega
    have HR := Lib.hid hr
    have HW9 := Lib.hid (fit_within hF)
    clear hF hE hl hr hN0 hN8 hN0' hN8'
    generalize hm : xs.length = m at *
    have HM := Lib.hid hm
    clear hm
    go_enter Try.func6, Try.ntmps6
    go_wp2_with fail
    refine HK.out.mono ?_
    rintro y w1 ⟨rfl, hb1⟩
    have HB1 := Lib.hid hb1
    clear hb1 HK
    go_wp2_with fail
    refine (HRF.out w1 HB1.out).mono ?_
    rintro y w2 ⟨rfl, hb2⟩
    have HB2 := Lib.hid (HB1.out.trans (hb2.mono HB1.out.size))
    clear hb2 HRF
    go_wp2_with fail
    go_loopw [5, 36] (fun cv i wr => ∃ me : Nat, me ≤ n ∧ i = .int .i64 me ∧ cv = .int .i64 (cnt xs me) ∧ Hid (Below w.heap.size w wr)) (fun _ i _ => n - (intOf i).toNat)
    case atStart => exact ⟨0, by omega, rfl, rfl, HB2.out⟩
    case round =>
      obtain ⟨me, hme, rfl, rfl, HB⟩ := hrel
      by_cases hlt : me < n
      · have hltI : (me : Int) < (n : Int) := by omega
        generalize wr = W2 at *
        have HREL2 : Hid (OwnT encN W2 W2.heap.size 45 (.slice none 0 0) (mineL (me : Int) (xs.take 0)) ∧ Below W2.heap.size W2 W2) := ⟨OwnT.nil_ _ _ _ _, Below.refl _ _⟩
        have hc0 := HCL.out me
        have hcs1 : cnt xs (me + 1) = cnt xs me + ((mineL (me : Int) xs).length : Int) := rfl
        have hml : (mineL (me : Int) xs).length ≤ m := by have := (mine_sub (me : Int) xs).length_le; have := HM.out; omega
        have hm100 : m ≤ 100 := HX1.out
        have HC0 : Hid (0 ≤ cnt xs me ∧ cnt xs me ≤ 800) := ⟨hc0.1, by
          have : (m : Int) * (me : Int) ≤ 100 * 8 := Int.mul_le_mul (by omega) (by omega) (by omega) (by omega)
          omega⟩
        have HCS := Lib.hid hcs1
        clear hc0 hcs1
        generalize cnt xs me = C at *
        go_wp2_with fail
        go_loopw [7, 41] (fun v i wr => ∃ k : Nat, k ≤ m ∧ i = .int .i64 k ∧ Hid (OwnT encN wr W2.heap.size 45 v (mineL (me : Int) (xs.take k)) ∧ Below W2.heap.size W2 wr)) (fun _ i _ => m - (intOf i).toNat)
        case atStart => exact ⟨0, by omega, rfl, HREL2⟩
        case round =>
          obtain ⟨k, hk, rfl, HJ⟩ := hrel
          clear HREL2
          by_cases hltk : k < m
          · have hkl : k < xs.length := by rw [HM.out]; exact hltk
            have hltK : (k : Int) < (m : Int) := by omega
            have HFS := Lib.hid (mineL_take (me := (me : Int)) hkl)
            obtain ⟨b, o, rfl, hbl, hcs⟩ := ((HR.out.kept HB.out).kept HJ.out.2).at_ k hkl
            generalize xs[k] = x at *
            have c0 : wr.cell? ⟨b, o + k * 4, none⟩ = some (.int .i64 x.s) := hcs 0 (by decide)
            have c1 : wr.cell? ⟨b, o + k * 4 + 1, none⟩ = some (.int .i64 x.n) := hcs 1 (by decide)
            have c2 : wr.cell? ⟨b, o + k * 4 + 2, none⟩ = some (.int .i64 x.b) := hcs 2 (by decide)
            have c3 : wr.cell? ⟨b, o + k * 4 + 3, none⟩ = some (.int .i64 x.a) := hcs 3 (by decide)
            obtain ⟨ho1, hw1⟩ := HJ.out
            obtain ⟨pz, cz, hvz⟩ := ho1.form
            have HZL : Hid ((mineL (me : Int) (xs.take k)).length ≤ 1000) := by
              show _ ≤ _
              have h2 := (mine_sub (me : Int) (xs.take k)).length_le
              rw [List.length_take] at h2
              omega
            generalize hz : mineL (me : Int) (xs.take k) = zs at *
            generalize hq : zs.length = q at *
            subst hvz
            have HQ := Lib.hid hq
            have hq1 : q ≤ 1000 := HZL.out
            have HO2 := Lib.hid (ho1.later (oneB wr (.cells #[.int .i64 x.s, .int .i64 x.n, .int .i64 x.b, .int .i64 x.a] 45)))
            have HX := Lib.hid (Blk.new wr #[.int .i64 x.s, .int .i64 x.n, .int .i64 x.b, .int .i64 x.a] 45)
            have HWW := Lib.hid (hw1.trans ((oneB wr (.cells #[.int .i64 x.s, .int .i64 x.n, .int .i64 x.b, .int .i64 x.a] 45)).mono hw1.size))
            clear ho1 hw1 HJ hcs hq hz
            cases hmb : mineB (me : Int) x
            · have hs : ¬ x.s = (me : Int) := fun e => by unfold mineB at hmb; have := of_decide_eq_false hmb; omega
              have hb : ¬ x.b = (me : Int) := fun e => by unfold mineB at hmb; have := of_decide_eq_false hmb; omega
              have e1 : (x.s == (me : Int)) = false := by simpa using hs
              have e2 : (x.b == (me : Int)) = false := by simpa using hb
              have HNX : Hid (OwnT encN (wr.alloc (.cells #[.int .i64 x.s, .int .i64 x.n, .int .i64 x.b, .int .i64 x.a] 45)) W2.heap.size 45 (.slice pz q cz) (mineL (me : Int) (xs.take (k + 1))) ∧ Below W2.heap.size W2 (wr.alloc (.cells #[.int .i64 x.s, .int .i64 x.n, .int .i64 x.b, .int .i64 x.a] 45))) := ⟨by rw [HFS.out, hmb, if_neg (by decide), List.append_nil]; exact HO2.out, HWW.out⟩
              clear hs hb hmb HFS
              go_wp2_with fail
              go_roundw
              case rel => exact ⟨k + 1, by omega, by go_num, HNX⟩
              case measure => simp [intOf]; omega
            · have HFY : Hid (mineL (me : Int) (xs.take (k + 1)) = zs ++ [x]) := by show _ = _; rw [HFS.out, hmb, if_pos rfl]
              have hor : (x.s == (me : Int)) = true ∨ (x.s == (me : Int)) = false ∧ (x.b == (me : Int)) = true := by
                unfold mineB at hmb
                have := of_decide_eq_true hmb
                by_cases e : x.s = (me : Int)
                · left; simpa using e
                · right; exact ⟨by simpa using e, by simpa using (show x.b = (me : Int) by omega)⟩
              clear hmb HFS
              rcases hor with e1 | ⟨e1, e2⟩
              · skip
                go_wp2_with (at_builtin; with_reducible refine stop_appendIN (.tmp 56) (.tmp 58) 22 rfl ?_)
                refine wpList_append_t rfl (.tmp 56) (.tmp 58) 22 rfl 45 zeroVNc 32 W2.heap.size eltNc rfl (by decide) (.slice pz q cz) (.slice (some ⟨wr.heap.size + 1, 0, none⟩) 1 1) zs [x] rfl rfl (HO2.out.later (oneB _ (.cells #[.int .i64 x.s, .int .i64 x.n, .int .i64 x.b, .int .i64 x.a] 45))) (TRow.one_ encN x (Blk.new' (wr.alloc (.cells #[.int .i64 x.s, .int .i64 x.n, .int .i64 x.b, .int .i64 x.a] 45)) #[.int .i64 x.s, .int .i64 x.n, .int .i64 x.b, .int .i64 x.a] 45 (b := wr.heap.size + 1) (by simp)) rfl (Nat.le_refl _)) (by have := HQ.out; simp; omega) (by have := HWW.out.size; simp at this ⊢; omega) (zs ++ [x]) (q + 1) rfl (by rw [List.length_append, HQ.out]; rfl) ?_
                intro p9 c9 w9 ho9 _ hb9
                have HNX : Hid (OwnT encN w9 W2.heap.size 45 (.slice p9 (q + 1) c9) (mineL (me : Int) (xs.take (k + 1))) ∧ Below W2.heap.size W2 w9) := ⟨by rw [HFY.out]; exact ho9, HWW.out.trans (((Below.refl _ _).alloc HWW.out.size _).trans hb9)⟩
                clear ho9 hb9
                go_wp2_with fail
                go_roundw
                case rel => exact ⟨k + 1, by omega, by go_num, HNX⟩
                case measure => simp [intOf]; omega
              · skip
                go_wp2_with (at_builtin; with_reducible refine stop_appendIN (.tmp 56) (.tmp 58) 22 rfl ?_)
                refine wpList_append_t rfl (.tmp 56) (.tmp 58) 22 rfl 45 zeroVNc 32 W2.heap.size eltNc rfl (by decide) (.slice pz q cz) (.slice (some ⟨wr.heap.size + 1, 0, none⟩) 1 1) zs [x] rfl rfl (HO2.out.later (oneB _ (.cells #[.int .i64 x.s, .int .i64 x.n, .int .i64 x.b, .int .i64 x.a] 45))) (TRow.one_ encN x (Blk.new' (wr.alloc (.cells #[.int .i64 x.s, .int .i64 x.n, .int .i64 x.b, .int .i64 x.a] 45)) #[.int .i64 x.s, .int .i64 x.n, .int .i64 x.b, .int .i64 x.a] 45 (b := wr.heap.size + 1) (by simp)) rfl (Nat.le_refl _)) (by have := HQ.out; simp; omega) (by have := HWW.out.size; simp at this ⊢; omega) (zs ++ [x]) (q + 1) rfl (by rw [List.length_append, HQ.out]; rfl) ?_
                intro p9 c9 w9 ho9 _ hb9
                have HNX : Hid (OwnT encN w9 W2.heap.size 45 (.slice p9 (q + 1) c9) (mineL (me : Int) (xs.take (k + 1))) ∧ Below W2.heap.size W2 w9) := ⟨by rw [HFY.out]; exact ho9, HWW.out.trans (((Below.refl _ _).alloc HWW.out.size _).trans hb9)⟩
                clear ho9 hb9
                go_wp2_with fail
                go_roundw
                case rel => exact ⟨k + 1, by omega, by go_num, HNX⟩
                case measure => simp [intOf]; omega
          · have hlek : (m : Int) ≤ (k : Int) := by omega
            have hkn : k = xs.length := by rw [HM.out]; omega
            have hK := HJ.out
            rw [hkn, List.take_length] at hK
            have HWANT := Lib.hid hK.1.row
            have HBJ := Lib.hid (HB.out.trans (hK.2.mono HB.out.size))
            obtain ⟨pw, cw, hvw⟩ := hK.1.form
            have HMM := Lib.hid (HMI.out me wr HBJ.out)
            have HNM2 := Lib.hid (HNM.out me)
            have HNE2 := Lib.hid (HNE.out me)
            rw [HNE2.out, netsV_ok HNE2.out] at HNM2
            have HGA : Hid ((netsL n (mineL (me : Int) xs)).getD me 0 = netS (me : Int) xs) := by show _ = _; rw [netsL_get hlt, mineL_mine]
            have HGB : Hid ((netsL n xs).getD me 0 = netS (me : Int) xs) := netsL_get hlt
            generalize mineL (me : Int) xs = ms at *
            generalize hml2 : ms.length = lm at *
            have HML := Lib.hid hml2
            subst hvw
            clear hml2 hkn hK HJ
            go_wp2_with fail
            refine HMM.out.mono ?_
            rintro y w3 ⟨v3, rfl, ho3, hb3⟩
            obtain ⟨p3, c3, hv3⟩ := ho3.form
            rw [HML.out] at hv3
            subst hv3
            have HO3 := Lib.hid ho3
            have HB3 := Lib.hid (HBJ.out.trans (hb3.mono HBJ.out.size))
            have HSM := Lib.hid (same_any w3 _ _ ms ms ho3.row (HWANT.out.kept hb3) (by rw [HML.out]; omega))
            rw [show decide (ms = ms) = true from decide_eq_true rfl] at HSM
            have HG3 : Hid (w.heap.size ≤ wr.heap.size) := HBJ.out.size
            clear ho3 hb3 HMM HWANT HBJ
            generalize wr.heap.size = g3 at *
            go_wp2_with fail
            refine HSM.out.mono ?_
            rintro y w4 ⟨rfl, hb4⟩
            have HO4 := Lib.hid (HO3.out.later hb4)
            have HB4 := Lib.hid (HB3.out.trans (hb4.mono HB3.out.size))
            clear hb4 HSM HO3
            go_wp2_with fail
            refine (HNM2.out w4 _ HO4.out.row).mono ?_
            rintro y w5 ⟨v5, rfl, ho5, hb5⟩
            obtain ⟨p5, c5, hv5⟩ := ho5.form
            rw [netsL_len] at hv5
            subst hv5
            have HA5 := Lib.hid ho5.row
            have HO5 := Lib.hid (HO4.out.later hb5)
            have HB5 := Lib.hid (HB4.out.trans (hb5.mono HB4.out.size))
            clear ho5 hb5 HO4 HNM2
            go_wp2_with fail
            refine (HN.out w5 HB5.out).mono ?_
            rintro y w6 ⟨v6, rfl, ho6, hb6⟩
            obtain ⟨p6, c6, hv6⟩ := ho6.form
            rw [netsL_len] at hv6
            subst hv6
            obtain ⟨b1, o1, rfl, _, d1⟩ := (HA5.out.kept hb6).atc me (by rw [netsL_len]; exact hlt)
            obtain ⟨b2, o2, rfl, _, d2⟩ := ho6.row.atc me (by rw [netsL_len]; exact hlt)
            rw [HGA.out] at d1
            rw [HGB.out] at d2
            have HO6 := Lib.hid (HO5.out.later hb6)
            have HB6 := Lib.hid (HB5.out.trans (hb6.mono HB5.out.size))
            clear ho6 hb6 HO5 HA5 HGA HGB
            generalize netS (me : Int) xs = z at *
            have hS1 : w6.drew.cell? ⟨b1, o1 + me, none⟩ = some (.int .i64 z) ∧ w6.drew.cell? ⟨b2, o2 + me, none⟩ = some (.int .i64 z) := ⟨d1, d2⟩
            clear d1 d2
            go_wp2_with fail
            refine wp_region_held_drew (S := fun w' => w'.cell? ⟨b1, o1 + me, none⟩ = some (.int .i64 z) ∧ w'.cell? ⟨b2, o2 + me, none⟩ = some (.int .i64 z)) (by kernel_rfl) hS1 (fun hS0 => ?_)
            refine wpAnyH_take (i := 0) (v := ?_) rfl (by kernel_rfl) (by kernel_rfl) (by kernel_rfl) (fun _ _ _ h => h) (Or.inl ⟨by kernel_rfl, ?_⟩) (by first | assumption | trivial) ?_
            rotate_left
            · intro w hSw
              try dsimp only at hSw
              first | (go_simp; done) | (go_simp; with_reducible rfl)
            try simp only [Act.put, List.getElem_toArray, List.getElem_cons_succ, List.getElem_cons_zero, List.setIfInBounds_toArray, List.set_cons_zero, List.set_cons_succ]
            refine wpAnyH_take (i := 1) (v := ?_) rfl (by kernel_rfl) (by kernel_rfl) (by kernel_rfl) (fun _ _ _ h => h) (Or.inl ⟨by kernel_rfl, ?_⟩) (by first | assumption | trivial) ?_
            rotate_left
            · intro w hSw
              try dsimp only at hSw
              first | (go_simp; done) | (go_simp; with_reducible rfl)
            try simp only [Act.put, List.getElem_toArray, List.getElem_cons_succ, List.getElem_cons_zero, List.setIfInBounds_toArray, List.set_cons_zero, List.set_cons_succ]
            refine wpAnyH_take (i := 2) (v := ?_) rfl (by kernel_rfl) (by kernel_rfl) (by kernel_rfl) (fun _ _ _ h => h) (Or.inl ⟨by kernel_rfl, ?_⟩) (by first | assumption | trivial) ?_
            rotate_left
            · intro w hSw
              try dsimp only at hSw
              first | (go_simp; done) | (go_simp; with_reducible rfl)
            try simp only [Act.put, List.getElem_toArray, List.getElem_cons_succ, List.getElem_cons_zero, List.setIfInBounds_toArray, List.set_cons_zero, List.set_cons_succ]
            refine wpAnyH_take (i := 3) (v := ?_) rfl (by kernel_rfl) (by kernel_rfl) (by kernel_rfl) (fun _ _ _ h => h) (Or.inl ⟨by kernel_rfl, ?_⟩) (by first | assumption | trivial) ?_
            rotate_left
            · intro w hSw
              try dsimp only at hSw
              first | (go_simp; done) | (go_simp; with_reducible rfl)
            try simp only [Act.put, List.getElem_toArray, List.getElem_cons_succ, List.getElem_cons_zero, List.setIfInBounds_toArray, List.set_cons_zero, List.set_cons_succ]
            refine wpAnyH_take (i := 4) (v := ?_) rfl (by kernel_rfl) (by kernel_rfl) (by kernel_rfl) (fun _ _ _ h => h) (Or.inl ⟨by kernel_rfl, ?_⟩) (by first | assumption | trivial) ?_
            rotate_left
            · intro w hSw
              try dsimp only at hSw
              first | (go_simp; done) | (go_simp; with_reducible rfl)
            try simp only [Act.put, List.getElem_toArray, List.getElem_cons_succ, List.getElem_cons_zero, List.setIfInBounds_toArray, List.set_cons_zero, List.set_cons_succ]
            refine wpAnyH_take (i := 5) (v := ?_) rfl (by kernel_rfl) (by kernel_rfl) (by kernel_rfl) (fun _ _ _ h => h) (Or.inl ⟨by kernel_rfl, ?_⟩) (by first | assumption | trivial) ?_
            rotate_left
            · intro w hSw
              try dsimp only at hSw
              first | (go_simp; done) | (go_simp; with_reducible rfl)
            try simp only [Act.put, List.getElem_toArray, List.getElem_cons_succ, List.getElem_cons_zero, List.setIfInBounds_toArray, List.set_cons_zero, List.set_cons_succ]
            refine wpAnyH_take (i := 6) (v := ?_) rfl (by kernel_rfl) (by kernel_rfl) (by kernel_rfl) (fun _ _ _ h => h) (Or.inl ⟨by kernel_rfl, ?_⟩) (by first | assumption | trivial) ?_
            rotate_left
            · intro w hSw
              try dsimp only at hSw
              first | (go_simp; done) | (go_simp; with_reducible rfl)
            try simp only [Act.put, List.getElem_toArray, List.getElem_cons_succ, List.getElem_cons_zero, List.setIfInBounds_toArray, List.set_cons_zero, List.set_cons_succ]
            refine wpAnyH_take (i := 7) (v := ?_) rfl (by kernel_rfl) (by kernel_rfl) (by kernel_rfl) (fun _ _ _ h => h) (Or.inl ⟨by kernel_rfl, ?_⟩) (by first | assumption | trivial) ?_
            rotate_left
            · intro w hSw
              try dsimp only at hSw
              first | (go_simp; done) | (go_simp; with_reducible rfl)
            try simp only [Act.put, List.getElem_toArray, List.getElem_cons_succ, List.getElem_cons_zero, List.setIfInBounds_toArray, List.set_cons_zero, List.set_cons_succ]
            refine wpAnyH_take (i := 8) (v := ?_) rfl (by kernel_rfl) (by kernel_rfl) (by kernel_rfl) (fun _ _ _ h => h) (Or.inl ⟨by kernel_rfl, ?_⟩) (by first | assumption | trivial) ?_
            rotate_left
            · intro w hSw
              try dsimp only at hSw
              first | (go_simp; done) | (go_simp; with_reducible rfl)
            try simp only [Act.put, List.getElem_toArray, List.getElem_cons_succ, List.getElem_cons_zero, List.setIfInBounds_toArray, List.set_cons_zero, List.set_cons_succ]
            refine wpAnyH_take (i := 9) (v := ?_) rfl (by kernel_rfl) (by kernel_rfl) (by kernel_rfl) (fun _ _ _ h => h) (Or.inl ⟨by kernel_rfl, ?_⟩) (by first | assumption | trivial) ?_
            rotate_left
            · intro w hSw
              try dsimp only at hSw
              first | (go_simp; done) | (go_simp; with_reducible rfl)
            try simp only [Act.put, List.getElem_toArray, List.getElem_cons_succ, List.getElem_cons_zero, List.setIfInBounds_toArray, List.set_cons_zero, List.set_cons_succ]
            refine wpAnyH_take (i := 10) (v := ?_) rfl (by kernel_rfl) (by kernel_rfl) (by kernel_rfl) (fun _ _ _ h => h) (Or.inl ⟨by kernel_rfl, ?_⟩) (by first | assumption | trivial) ?_
            rotate_left
            · intro w hSw
              try dsimp only at hSw
              first | (go_simp; done) | (go_simp; with_reducible rfl)
            try simp only [Act.put, List.getElem_toArray, List.getElem_cons_succ, List.getElem_cons_zero, List.setIfInBounds_toArray, List.set_cons_zero, List.set_cons_succ]
            refine wpAnyH_take (i := 11) (v := ?_) rfl (by kernel_rfl) (by kernel_rfl) (by kernel_rfl) (fun _ _ _ h => h) (Or.inl ⟨by kernel_rfl, ?_⟩) (by first | assumption | trivial) ?_
            rotate_left
            · intro w hSw
              try dsimp only at hSw
              first | (go_simp; done) | (go_simp; with_reducible rfl)
            try simp only [Act.put, List.getElem_toArray, List.getElem_cons_succ, List.getElem_cons_zero, List.setIfInBounds_toArray, List.set_cons_zero, List.set_cons_succ]
            refine wpAnyH_take (i := 12) (v := ?_) rfl (by kernel_rfl) (by kernel_rfl) (by kernel_rfl) (fun _ _ _ h => h) (Or.inl ⟨by kernel_rfl, ?_⟩) (by first | assumption | trivial) ?_
            rotate_left
            · intro w hSw
              try dsimp only at hSw
              first | (go_simp; done) | (go_simp; with_reducible rfl)
            try simp only [Act.put, List.getElem_toArray, List.getElem_cons_succ, List.getElem_cons_zero, List.setIfInBounds_toArray, List.set_cons_zero, List.set_cons_succ]
            refine wpAnyH_take (i := 13) (v := ?_) rfl (by kernel_rfl) (by kernel_rfl) (by kernel_rfl) (fun _ _ _ h => h) (Or.inl ⟨by kernel_rfl, ?_⟩) (by first | assumption | trivial) ?_
            rotate_left
            · intro w hSw
              try dsimp only at hSw
              first | (go_simp; done) | (go_simp; with_reducible rfl)
            try simp only [Act.put, List.getElem_toArray, List.getElem_cons_succ, List.getElem_cons_zero, List.setIfInBounds_toArray, List.set_cons_zero, List.set_cons_succ]
            refine wpAnyH_take (i := 14) (v := ?_) rfl (by kernel_rfl) (by kernel_rfl) (by kernel_rfl) (fun _ _ _ h => h) (Or.inl ⟨by kernel_rfl, ?_⟩) (by first | assumption | trivial) ?_
            rotate_left
            · intro w hSw
              try dsimp only at hSw
              first | (go_simp; done) | (go_simp; with_reducible rfl)
            try simp only [Act.put, List.getElem_toArray, List.getElem_cons_succ, List.getElem_cons_zero, List.setIfInBounds_toArray, List.set_cons_zero, List.set_cons_succ]
            refine wpAnyH_take (i := 15) (v := ?_) rfl (by kernel_rfl) (by kernel_rfl) (by kernel_rfl) (fun _ _ _ h => h) (Or.inl ⟨by kernel_rfl, ?_⟩) (by first | assumption | trivial) ?_
            rotate_left
            · intro w hSw
              try dsimp only at hSw
              first | (go_simp; done) | (go_simp; with_reducible rfl)
            try simp only [Act.put, List.getElem_toArray, List.getElem_cons_succ, List.getElem_cons_zero, List.setIfInBounds_toArray, List.set_cons_zero, List.set_cons_succ]
            refine wpAnyH_take (i := 16) (v := ?_) rfl (by kernel_rfl) (by kernel_rfl) (by kernel_rfl) (fun _ _ _ h => h) (Or.inl ⟨by kernel_rfl, ?_⟩) (by first | assumption | trivial) ?_
            rotate_left
            · intro w hSw
              try dsimp only at hSw
              first | (go_simp; done) | (go_simp; with_reducible rfl)
            try simp only [Act.put, List.getElem_toArray, List.getElem_cons_succ, List.getElem_cons_zero, List.setIfInBounds_toArray, List.set_cons_zero, List.set_cons_succ]
            refine wpAnyH_done (by kernel_rfl) ?_ _
            have e1 : (z != z) = false := by simp
            have HO7 : Hid (OwnT encN w6.drew g3 45 (.slice p3 lm c3) ms) := HO6.out
            have HB7 : Hid (Below w.heap.size w w6.drew) := HB6.out.drew
            generalize w6.drew = w7 at *
            obtain ⟨gm, hgm, hgm2, _, HGBM⟩ := HO7.out.gstart HML.out 3 (.inl rfl) (g3 + w7.heap.size) (by omega)
            have HGM := Lib.hid hgm
            have HST : Hid (GBump 4 3 w7 gm lm w7) := HGBM
            have hgmp := fun h => (hgm2 h).1
            clear HGBM hgm hgm2 HO6 HO7 HB6 hS0 hS1
            go_wp2_with fail
            go_loopw [99] (fun i wr => ∃ k2 : Nat, k2 ≤ lm ∧ i = .int .i64 k2 ∧ Hid (GBump 4 3 w7 gm lm wr)) (fun i _ => lm - (intOf i).toNat)
            case atStart => exact ⟨0, by omega, rfl, HST⟩
            case round =>
              obtain ⟨k2, hk2, rfl, HJ2⟩ := hrel
              by_cases hlt2 : k2 < lm
              · have hltK2 : (k2 : Int) < (lm : Int) := by omega
                obtain rfl := hgmp (by omega)
                obtain ⟨zz, hzz, hzf⟩ := gbump_at HJ2.out k2 hlt2
                have HNX := Lib.hid (gbump_set (by decide) HJ2.out k2 (wrap64 (zz + 1)))
                go_wp2_with fail
                go_roundw
                case rel => exact ⟨k2 + 1, by omega, by go_num, HNX⟩
                case measure => simp [intOf]; omega
              · have hle2 : (lm : Int) ≤ (k2 : Int) := by omega
                have HBE : Hid (Below w.heap.size w wr) := HB7.out.trans (HJ2.out.1.below (Nat.le_trans HG3.out HGM.out) HB7.out.size)
                have hcb := HC0.out
                have HNC : Hid (cnt xs (me + 1) = C + (lm : Int)) := HCS.out
                go_wp2_with fail
                go_roundw
                case rel => exact ⟨me + 1, by omega, by go_num, by rw [HNC.out]; try go_num, HBE⟩
                case measure => simp [intOf]; omega
      · have hle : (n : Int) ≤ (me : Int) := by omega
        obtain rfl : me = n := by omega
        have hc2 := HCN.out
        have hm100 : m ≤ 100 := HX1.out
        rw [hc2]
        have hw2 : IntKind.i64.wrap (2 * (m : Int)) = 2 * (m : Int) := IntWalk.i64_in _ (by omega)
        go_wp2_with fail
        go_ret
        exact ⟨rfl, HB.out⟩
  · have e1 : (fitE N xs != 0) = true := by simpa using hF
    generalize fitE N xs = E at *
    clear hF hl hr hN0 hN8
    generalize xs.length = m at *
    go_enter Try.func6, Try.ntmps6
    go_wp2_with fail
    refine HK.out.mono ?_
    rintro y w1 ⟨rfl, hb1⟩
    have HB1 := Lib.hid hb1
    clear hb1 HK
    go_wp2_with fail
    refine (HRF.out w1 HB1.out).mono ?_
    rintro y w2 ⟨rfl, hb2⟩
    have HB2 := Lib.hid (HB1.out.trans (hb2.mono HB1.out.size))
    clear hb2 HRF
    go_wp2_with fail
    go_ret
    exact ⟨rfl, HB2.out⟩
end Go.Proofs.Yteofblabimneiaa
