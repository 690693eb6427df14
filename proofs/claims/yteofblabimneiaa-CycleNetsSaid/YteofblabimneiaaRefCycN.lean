/- contraref16.Nets by contract. -/
import Derived.Test.YteofblabimneiaaRefCycF
namespace Go.Proofs.Yteofblabimneiaa
open Go.RowKit
/-- What is listed of the first k lines for an entity. -/
def MRel (W2 : World) (me : Int) (xs : List Lin) (k : Nat) (v : Value) (wr : World) : Prop := Own .i64 wr W2.heap.size 2 v (netL me (xs.take k)) ∧ Below W2.heap.size W2 wr
theorem netL_take {me : Int} {xs : List Lin} {k : Nat} (hk : k < xs.length) : netL me (xs.take (k + 1)) = netL me (xs.take k) ++ (if mineB me xs[k] then [gives me xs[k]] else []) := by
  unfold netL mineL
  rw [List.take_succ_eq_append_getElem hk, List.filter_append, List.map_append]
  congr 1
  cases h : mineB me xs[k] <;> simp [h]
theorem within_sb {n : Int} {x : Lin} (h : withinB n x = true) : x.s ≠ x.b := by
  unfold withinB at h
  have := of_decide_eq_true h
  omega
set_option linter.unusedSimpArgs false in
set_option maxHeartbeats 4000000 in
set_option maxRecDepth 100000 in
theorem rnets_any (w : World) (N : Int) (v : Value) (xs : List Lin) (hr : TRow encN w v xs) (hn : xs.length ≤ 1000) :
    Calls Try.prog 10 #[.int .i64 N, v] w fun e w' => ∃ v', e = .returned (.tuple #[v', .int .i64 (netsE N xs)]) ∧ Own .i64 w' w.heap.size 2 v' (netsV N xs) ∧ Below w.heap.size w w' := by
  have HF := Lib.hid (fun W (h : Below w.heap.size w W) => rfits_any W N v xs (hr.kept h) (by omega))
  obtain ⟨pv, cv, hv⟩ := hr.shape
  have HR := Lib.hid hr
  have HN := Lib.hid hn
  generalize hnx : xs.length = nx at hv
  have HNX0 := Lib.hid hnx
  clear hnx
  subst hv
  clear hr
  by_cases h0 : N < 0
  · have HE : Hid (netsE N xs = 1) := if_pos (.inl h0)
    have HV : Hid (netsV N xs = []) := by show _ = _; unfold netsV; rw [HE.out, if_neg (by decide)]
    go_enter Try.func10, Try.ntmps10
    go_wp2_with fail
    go_ret2
    exact ⟨_, by rw [HE.out]; rfl, by rw [HV.out]; exact Own.nil_ _ _ _ _, Below.refl _ _⟩
  by_cases h8 : 8 < N
  · have HE : Hid (netsE N xs = 1) := if_pos (.inr h8)
    have HV : Hid (netsV N xs = []) := by show _ = _; unfold netsV; rw [HE.out, if_neg (by decide)]
    go_enter Try.func10, Try.ntmps10
    go_wp2_with fail
    go_ret2
    exact ⟨_, by rw [HE.out]; rfl, by rw [HV.out]; exact Own.nil_ _ _ _ _, Below.refl _ _⟩
  have HE : Hid (netsE N xs = fitE N xs) := if_neg (by omega)
  have h0' : 0 ≤ N := by omega
  have h8' : N ≤ 8 := by omega
  by_cases hf : fitE N xs = 0
  · have HV : Hid (netsV N xs = netsL N.toNat xs) := by show _ = _; unfold netsV; rw [HE.out, hf, if_pos rfl]
    have HFZ := Lib.hid hf
    have HW9 : Hid (∀ x ∈ xs, withinB N x = true) := fit_within hf
    have HFT : Hid (∀ k : Nat, Fits (netS (k : Int) xs)) := fun k => net_fits HW9.out (by omega)
    have H64 : Hid (∀ k : Nat, All64 (netL (k : Int) xs)) := fun k z hz => by
      have := netL_64 (me := (k : Int)) HW9.out z hz
      omega
    have HLL : Hid (∀ k : Nat, (netL (k : Int) xs).length ≤ 1000) := fun k => Nat.le_trans (netL_len _ _) hn
    have HSUM := Lib.hid (fun (k : Nat) (W : World) (v : Value) (h : Row .i64 W v (netL (k : Int) xs)) => refsum_any v (netL (k : Int) xs) W (HLL.out k) (H64.out k) h)
    obtain ⟨n, rfl⟩ : ∃ n : Nat, N = (n : Int) := ⟨N.toNat, by omega⟩
    have hn8 : n ≤ 8 := by omega
    have hnx : nx ≤ 1000 := by have := HNX0.out; omega
    have HNT : Hid (((n : Nat) : Int).toNat = n) := by show _ = _; omega
    clear hf h0 h8 h0' h8' hn
    go_enter Try.func10, Try.ntmps10
    go_wp2_with fail
    refine (HF.out w (Below.refl _ _)).mono ?_
    rintro y w1 ⟨rfl, hb1⟩
    rw [HFZ.out]
    have HB1 := Lib.hid hb1
    have HREL : Hid (NsRel w xs 0 (.slice none 0 0) w1) := ⟨Own.nil_ _ _ _ _, hb1⟩
    clear hb1
    go_wp2_with fail
    go_loopw [7, 8] (fun v i wr => ∃ k : Nat, k ≤ n ∧ i = .int .i64 k ∧ Hid (NsRel w xs k v wr)) (fun _ i _ => n - (intOf i).toNat)
    case atStart => exact ⟨0, by omega, rfl, HREL⟩
    case round =>
      obtain ⟨me, hk, rfl, HK⟩ := hrel
      clear HREL
      by_cases hlt : me < n
      · have hltI : (me : Int) < (n : Int) := by omega
        obtain ⟨ho1, hw1⟩ := HK.out
        obtain ⟨p2, c2, hv2⟩ := ho1.form
        rw [netsL_len] at hv2
        subst hv2
        have HO := Lib.hid ho1
        have HW := Lib.hid hw1
        clear ho1 hw1 HK
        generalize wr = W2 at *
        have HREL2 : Hid (MRel W2 (me : Int) xs 0 (.slice none 0 0) W2) := ⟨Own.nil_ _ _ _ _, Below.refl _ _⟩
        go_wp2_with fail
        go_loopw [9, 10] (fun v i wr => ∃ k : Nat, k ≤ nx ∧ i = .int .i64 k ∧ Hid (MRel W2 (me : Int) xs k v wr)) (fun _ i _ => nx - (intOf i).toNat)
        case atStart => exact ⟨0, by omega, rfl, HREL2⟩
        case round =>
          obtain ⟨k, hk2, rfl, HK⟩ := hrel
          clear HREL2
          by_cases hlt2 : k < nx
          · have hkl : k < xs.length := by rw [HNX0.out]; exact hlt2
            have hltI2 : (k : Int) < (nx : Int) := by omega
            have HSC := Lib.hid (netL_take (me := (me : Int)) hkl)
            have hw9 := within_sb (HW9.out _ (List.getElem_mem hkl))
            obtain ⟨b, o, rfl, hbl, hcs⟩ := ((HR.out.kept HW.out).kept HK.out.2).at_ k hkl
            have hax := within_a (HW9.out _ (List.getElem_mem hkl))
            obtain ⟨x, hx⟩ : ∃ x, xs[k] = x := ⟨_, rfl⟩
            have HX := Lib.hid hx
            rw [hx] at HSC hw9 hcs hax
            clear hx
            have c0 : wr.cell? ⟨b, o + k * 4, none⟩ = some (.int .i64 x.s) := hcs 0 (by decide)
            have c1 : wr.cell? ⟨b, o + k * 4 + 1, none⟩ = some (.int .i64 x.n) := hcs 1 (by decide)
            have c2 : wr.cell? ⟨b, o + k * 4 + 2, none⟩ = some (.int .i64 x.b) := hcs 2 (by decide)
            have c3 : wr.cell? ⟨b, o + k * 4 + 3, none⟩ = some (.int .i64 x.a) := hcs 3 (by decide)
            have HZL : Hid ((netL (me : Int) (xs.take k)).length ≤ 1000) := by
              show _ ≤ _
              have := netL_len (me : Int) (xs.take k)
              rw [List.length_take] at this
              omega
            obtain ⟨ho1, hw1⟩ := HK.out
            obtain ⟨p4, c4, hv2⟩ := ho1.form
            generalize hz : netL (me : Int) (xs.take k) = zs at *
            generalize hm : zs.length = m at *
            subst hv2
            have hm2 : m ≤ 1000 := HZL.out
            have HMZ := Lib.hid hm
            have HO1 := Lib.hid ho1
            have HBR := Lib.hid hw1
            have HSZ : Hid (W2.heap.size ≤ wr.heap.size) := hw1.size
            clear ho1 hw1 HK hz hm hcs
            by_cases hs : x.s = (me : Int)
            · have e1 : (x.s == (me : Int)) = true := by simpa using hs
              have e2 : (x.b == (me : Int)) = false := by
                have : ¬ x.b = (me : Int) := fun h => hw9 (by rw [hs, h])
                simpa using this
              have HSUC : Hid (netL (me : Int) (xs.take (k + 1)) = zs ++ [x.a]) := by
                show _ = _
                rw [HSC.out, show mineB (me : Int) x = true from decide_eq_true (.inl hs), if_pos rfl, show gives (me : Int) x = x.a from if_pos hs]
              clear hs hw9 HSC
              go_wp2_with (at_builtin; with_reducible refine stop_appendIN (.tmp 44) (.tmp 50) 24 rfl ?_)
              refine wpList_append_row rfl (.tmp 44) (.tmp 50) 24 rfl 2 .i64 8 W2.heap.size eltAc (.slice p4 m c4) (.slice (some ⟨wr.heap.size, 0, none⟩) 1 1) zs [x.a] rfl rfl (HO1.out.alloc (.cells #[.int .i64 (x.a)] 2)) ⟨some ⟨wr.heap.size, 0, none⟩, 1, rfl, Nat.le_refl _, .inr ⟨wr.heap.size, 0, rfl, fun i hi => ?_⟩⟩ (by have := HMZ.out; simp; omega) (by have := HMZ.out; simp; omega) (by have := HSZ.out; simp at this ⊢; omega) (zs ++ [x.a]) (m + 1) rfl (by rw [List.length_append, HMZ.out]; rfl) ?_
              · obtain rfl : i = 0 := by simp at hi; omega
                exact (Blk.new' wr #[.int .i64 (x.a)] 2 (b := wr.heap.size) rfl).cell 0
              intro p3 c3 w3 ho3 hb3
              have HNX : Hid (MRel W2 (me : Int) xs (k + 1) (.slice p3 (m + 1) c3) w3) := ⟨by rw [HSUC.out]; exact ho3, HBR.out.trans (((Below.refl _ wr).alloc HSZ.out _).trans hb3)⟩
              clear ho3 hb3
              obtain ⟨b9, o9, e9, _, hcs⟩ := ((HR.out.kept HW.out).kept HNX.out.2).at_ k hkl
              cases e9
              rw [HX.out] at hcs
              have d2 : w3.cell? ⟨b, o + k * 4 + 2, none⟩ = some (.int .i64 x.b) := hcs 2 (by decide)
              clear hcs
              go_wp2_with fail
              go_roundw
              case rel => exact ⟨k + 1, by omega, by go_num, HNX⟩
              case measure => simp [intOf]; omega
            · have e1 : (x.s == (me : Int)) = false := by simpa using hs
              by_cases hb : x.b = (me : Int)
              · have e2 : (x.b == (me : Int)) = true := by simpa using hb
                have HSUC : Hid (netL (me : Int) (xs.take (k + 1)) = zs ++ [-x.a]) := by
                  show _ = _
                  rw [HSC.out, show mineB (me : Int) x = true from decide_eq_true (.inr hb), if_pos rfl, show gives (me : Int) x = -x.a from if_neg hs]
                clear hs hb hw9 HSC
                go_wp2_with (at_builtin; with_reducible refine stop_appendIN (.tmp 59) (.tmp 66) 24 rfl ?_)
                refine wpList_append_row rfl (.tmp 59) (.tmp 66) 24 rfl 2 .i64 8 W2.heap.size eltAc (.slice p4 m c4) (.slice (some ⟨wr.heap.size, 0, none⟩) 1 1) zs [-x.a] rfl rfl (HO1.out.alloc (.cells #[.int .i64 (-x.a)] 2)) ⟨some ⟨wr.heap.size, 0, none⟩, 1, rfl, Nat.le_refl _, .inr ⟨wr.heap.size, 0, rfl, fun i hi => ?_⟩⟩ (by have := HMZ.out; simp; omega) (by have := HMZ.out; simp; omega) (by have := HSZ.out; simp at this ⊢; omega) (zs ++ [-x.a]) (m + 1) rfl (by rw [List.length_append, HMZ.out]; rfl) ?_
                · obtain rfl : i = 0 := by simp at hi; omega
                  exact (Blk.new' wr #[.int .i64 (-x.a)] 2 (b := wr.heap.size) rfl).cell 0
                intro p3 c3 w3 ho3 hb3
                have HNX : Hid (MRel W2 (me : Int) xs (k + 1) (.slice p3 (m + 1) c3) w3) := ⟨by rw [HSUC.out]; exact ho3, HBR.out.trans (((Below.refl _ wr).alloc HSZ.out _).trans hb3)⟩
                clear ho3 hb3
                go_wp2_with fail
                go_roundw
                case rel => exact ⟨k + 1, by omega, by go_num, HNX⟩
                case measure => simp [intOf]; omega
              · have e2 : (x.b == (me : Int)) = false := by simpa using hb
                have HNX : Hid (MRel W2 (me : Int) xs (k + 1) (.slice p4 m c4) wr) := ⟨by
                  rw [HSC.out, show mineB (me : Int) x = false from decide_eq_false (by omega), if_neg (by decide), List.append_nil]; exact HO1.out, HBR.out⟩
                clear hs hb hw9 HSC
                go_wp2_with fail
                go_roundw
                case rel => exact ⟨k + 1, by omega, by go_num, HNX⟩
                case measure => simp [intOf]; omega
          · have hle2 : (nx : Int) ≤ (k : Int) := by omega
            have hkn : k = xs.length := by rw [HNX0.out]; omega
            have hK := HK.out
            rw [hkn] at hK
            unfold MRel at hK
            rw [List.take_length] at hK
            have HSM := Lib.hid (HSUM.out me wr _ hK.1.row)
            have HWQ := Lib.hid (HW.out.trans (hK.2.mono HW.out.size))
            have HOQ := Lib.hid (HO.out.later hK.2)
            obtain ⟨p4, c4, hv2⟩ := hK.1.form
            have HFM : Hid (Fits (netL (me : Int) xs).sum) := HFT.out me
            have HSL : Hid ((netL (me : Int) xs).sum = netS (me : Int) xs) := rfl
            have HSU := Lib.hid (netsL_succ me xs)
            have HKL := Lib.hid (netsL_len me xs)
            generalize (netL (me : Int) xs).length = ml at hv2
            subst hv2
            clear HK hK hkn HO HW
            go_wp2_with fail
            refine HSM.out.mono ?_
            rintro y w2 ⟨rfl, hb2⟩
            rw [sumN_yes HFM.out, sumE_yes HFM.out, HSL.out]
            have HO2 := Lib.hid (HOQ.out.later hb2)
            have HW2 := Lib.hid (HWQ.out.trans (hb2.mono HWQ.out.size))
            generalize netS (me : Int) xs = z at *
            generalize netsL me xs = zs at *
            clear hb2 HOQ HWQ HSM
            go_wp2_with (at_builtin; with_reducible refine stop_appendIN (.tmp 76) (.tmp 78) 24 rfl ?_)
            refine wpList_append_row rfl (.tmp 76) (.tmp 78) 24 rfl 2 .i64 8 w.heap.size eltAc (.slice p2 me c2) (.slice (some ⟨w2.heap.size, 0, none⟩) 1 1) zs [z] rfl rfl (HO2.out.alloc (.cells #[.int .i64 z] 2)) ⟨some ⟨w2.heap.size, 0, none⟩, 1, rfl, Nat.le_refl _, .inr ⟨w2.heap.size, 0, rfl, fun i hi => ?_⟩⟩ (by have := HKL.out; simp; omega) (by have := HKL.out; simp; omega) (by have := HW2.out.size; simp at this ⊢; omega) (zs ++ [z]) (me + 1) rfl (by rw [List.length_append, HKL.out]; rfl) ?_
            · obtain rfl : i = 0 := by simp at hi; omega
              exact (Blk.new' w2 #[.int .i64 z] 2 rfl).cell 0
            intro p3 c3 w3 ho3 hb3
            have HNX : Hid (NsRel w xs (me + 1) (.slice p3 (me + 1) c3) w3) := ⟨by rw [HSU.out]; exact ho3, HW2.out.trans (((Below.refl _ w2).alloc HW2.out.size _).trans hb3)⟩
            clear ho3 hb3
            go_wp2_with fail
            go_roundw
            case rel => exact ⟨me + 1, by omega, by go_num, HNX⟩
            case measure => simp [intOf]; omega
      · have hle : (n : Int) ≤ (me : Int) := by omega
        obtain rfl : me = n := by omega
        obtain ⟨ho1, hw1⟩ := HK.out
        obtain ⟨p2, c2, hv2⟩ := ho1.form
        rw [netsL_len] at hv2
        subst hv2
        have HO := Lib.hid ho1
        have HW := Lib.hid hw1
        clear ho1 hw1 HK
        go_wp2_with fail
        go_ret2
        exact ⟨_, by rw [HE.out, HFZ.out]; rfl, by rw [HV.out, HNT.out]; exact HO.out, HW.out⟩
  · have HV : Hid (netsV N xs = []) := by show _ = _; unfold netsV; rw [HE.out, if_neg hf]
    obtain ⟨E, hE⟩ : ∃ E, fitE N xs = E := ⟨_, rfl⟩
    have HEE := Lib.hid hE
    rw [hE] at hf HE
    have e1 : (E != 0) = true := by simpa using hf
    clear hf h0 h8 hE
    go_enter Try.func10, Try.ntmps10
    go_wp2_with fail
    refine (HF.out w (Below.refl _ _)).mono ?_
    rintro y w1 ⟨rfl, hb1⟩
    rw [HEE.out]
    have HB1 := Lib.hid hb1
    clear hb1
    go_wp2_with fail
    go_ret2
    exact ⟨_, by rw [HE.out]; rfl, by rw [HV.out]; exact Own.nil_ _ _ _ _, HB1.out⟩
end Go.Proofs.Yteofblabimneiaa
