/- CycleBoth: the walk. -/
import Derived.Test.YteofblabimneiaaReckons
import Derived.Test.YteofblabimneiaaRefCycB
import Derived.Test.YteofblabimneiaaRefCycF
namespace Go.Proofs.Yteofblabimneiaa
open Go.RowKit
set_option linter.unusedSimpArgs false in
set_option maxHeartbeats 8000000 in
set_option maxRecDepth 100000 in
theorem cboth_walk (v : Value) (xss : List (List Lin)) (w : World) (hr : LL w v xss) :
    Calls Try.prog 5 #[v] w fun e w' => e = .returned (.bool true) ∧ Below w.heap.size w w' := by
  obtain ⟨p, c, rfl⟩ := hr.shape
  have HK := Lib.hid (reckons_any w)
  by_cases hl : 8 < xss.length
  · have hlI : (8 : Int) < (xss.length : Int) := by omega
    clear hr hl
    generalize xss.length = n at *
    go_enter Try.func5, Try.ntmps5
    go_wp2_with fail
    refine HK.out.mono ?_
    rintro y w1 ⟨rfl, hb1⟩
    have HB1 := Lib.hid hb1
    clear hb1
    go_wp2_with fail
    go_ret
    exact ⟨rfl, HB1.out⟩
  · have hlI : (xss.length : Int) ≤ (8 : Int) := by omega
    have HR := Lib.hid hr
    have hl8 : xss.length ≤ 8 := by omega
    clear hr hl
    generalize hn : xss.length = n at *
    have HL := Lib.hid hn
    clear hn
    go_enter Try.func5, Try.ntmps5
    go_wp2_with fail
    refine HK.out.mono ?_
    rintro y w1 ⟨rfl, hb1⟩
    have HB1 := Lib.hid hb1
    clear hb1 HK
    go_wp2_with fail
    go_loopw [13] (fun i wr => ∃ k : Nat, k ≤ n ∧ i = .int .i64 k ∧ Hid (Below w.heap.size w wr ∧ ∀ j (hj : j < xss.length), j < k → fitE (n : Int) xss[j] = 0 ∧ xss[j].length ≤ 60)) (fun i _ => n - (intOf i).toNat)
    case atStart => exact ⟨0, by omega, rfl, ⟨HB1.out, fun j hj h => by omega⟩⟩
    case round =>
      obtain ⟨k, hk, rfl, HB⟩ := hrel
      by_cases hlt : k < n
      · have hltI : (k : Int) < (n : Int) := by omega
        have hkl : k < xss.length := by rw [HL.out]; exact hlt
        obtain ⟨b, o, u, rfl, hbl, hcu, hru⟩ := (HR.out.kept HB.out.1).at_ k hkl
        obtain ⟨ys, hys⟩ : ∃ ys, xss[k] = ys := ⟨_, rfl⟩
        rw [hys] at hru
        have HYS := Lib.hid hys
        clear hys
        obtain ⟨pu, cu, rfl⟩ := hru.shape
        by_cases h60 : 60 < ys.length
        · have h60I : (60 : Int) < (ys.length : Int) := by omega
          clear h60 hru
          generalize ys.length = ny at *
          go_wp2_with fail
          go_ret
          exact ⟨rfl, HB.out.1⟩
        · have h60I : (ys.length : Int) ≤ (60 : Int) := by omega
          have HRF := Lib.hid (rfits_any wr (n : Int) _ ys hru (by omega))
          clear h60 hru
          generalize hny : ys.length = ny at *
          have HNY := Lib.hid hny
          clear hny
          obtain ⟨F, hF⟩ : ∃ F, fitE (n : Int) ys = F := ⟨_, rfl⟩
          rw [hF] at HRF
          have HFF := Lib.hid hF
          clear hF
          go_wp2_with fail
          refine HRF.out.mono ?_
          rintro y w2 ⟨rfl, hb2⟩
          have HB2 := Lib.hid (HB.out.1.trans (hb2.mono HB.out.1.size))
          clear hb2 HRF
          by_cases h0 : F = 0
          · subst h0
            have HN : Hid (Below w.heap.size w w2 ∧ ∀ j (hj : j < xss.length), j < k + 1 → fitE (n : Int) xss[j] = 0 ∧ xss[j].length ≤ 60) := ⟨HB2.out, fun j hj h => by
              by_cases e : j = k
              · subst e
                have h : ys.length ≤ 60 := by rw [HNY.out]; omega
                exact ⟨by rw [HYS.out]; exact HFF.out, by rw [HYS.out]; exact h⟩
              · exact HB.out.2 j hj (by omega)⟩
            go_wp2_with fail
            go_roundw
            case rel => exact ⟨k + 1, by omega, by go_num, HN⟩
            case measure => simp [intOf]; omega
          · have e1 : (F != 0) = true := by simpa using h0
            clear h0
            go_wp2_with fail
            go_ret
            exact ⟨rfl, HB2.out⟩
      · have hle : (n : Int) ≤ (k : Int) := by omega
        have HALL : Hid (∀ o ∈ xss, fitE (xss.length : Int) o = 0 ∧ o.length ≤ 60) := fun o ho => by
          obtain ⟨j, hj, rfl⟩ := List.mem_iff_getElem.1 ho
          rw [HL.out]
          exact HB.out.2 j hj (by have := HL.out; omega)
        have HBO := Lib.hid (both_any wr _ xss (HR.out.kept HB.out.1) (by rw [HL.out]; omega) (fun o ho => ⟨fit_sort (HALL.out o ho).1, (HALL.out o ho).2⟩))
        have HRB := Lib.hid (fun W (h : Below w.heap.size w W) => rboth_any W _ xss (HR.out.kept h) (by rw [HL.out]; omega) HALL.out)
        have HBF : Hid (fitE (n : Int) (bothL xss xss.length) = 0) := bothL_fits _ (fun o ho => by have := (HALL.out o ho).1; rw [HL.out] at this; exact this) _
        have HBN : Hid ((bothL xss xss.length).length ≤ 1000) := by
          show _ ≤ _
          have := bothL_len xss (fun o ho => (HALL.out o ho).2) xss.length
          have := HL.out
          omega
        have HBB := Lib.hid HB.out.1
        generalize bothL xss xss.length = ls at *
        generalize hll : ls.length = nl at *
        have HLL := Lib.hid hll
        clear hll HB
        go_wp2_with fail
        refine HBO.out.mono ?_
        rintro y w2 ⟨v2, rfl, ho2, hb2⟩
        obtain ⟨p2, c2, hv2⟩ := ho2.form
        rw [HLL.out] at hv2
        subst hv2
        have HO2 := Lib.hid ho2.row
        have HB2 := Lib.hid (HBB.out.trans (hb2.mono HBB.out.size))
        clear ho2 hb2 HBO
        go_wp2_with fail
        refine (HRB.out w2 HB2.out).mono ?_
        rintro y w3 ⟨v3, rfl, ho3, hb3⟩
        obtain ⟨p3, c3, hv3⟩ := ho3.form
        rw [HLL.out] at hv3
        subst hv3
        have HO3 := Lib.hid ho3.row
        have HP3 := Lib.hid (HO2.out.kept hb3)
        have HB3 := Lib.hid (HB2.out.trans (hb3.mono HB2.out.size))
        clear ho3 hb3 HRB HO2
        have HSA := Lib.hid (same_any w3 _ _ ls ls HP3.out HO3.out (by rw [HLL.out]; have := HBN.out; omega))
        rw [show decide (ls = ls) = true from decide_eq_true rfl] at HSA
        go_wp2_with fail
        refine HSA.out.mono ?_
        rintro y w4 ⟨rfl, hb4⟩
        have HP4 := Lib.hid (HP3.out.kept hb4)
        have HB4 := Lib.hid (HB3.out.trans (hb4.mono HB3.out.size))
        clear hb4 HSA HO3 HP3
        have HFI := Lib.hid (lfits_any w4 (n : Int) _ ls HP4.out (by rw [HLL.out]; have := HBN.out; omega))
        rw [HBF.out] at HFI
        go_wp2_with fail
        refine HFI.out.mono ?_
        rintro y w5 ⟨rfl, hb5⟩
        have HB5 := Lib.hid (HB4.out.trans (hb5.mono HB4.out.size))
        clear hb5 HFI
        go_wp2_with fail
        go_ret
        exact ⟨rfl, HB5.out⟩
end Go.Proofs.Yteofblabimneiaa
