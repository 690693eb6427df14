/- cycle.Both by contract. -/
import Derived.Test.YteofblabimneiaaCycOff
namespace Go.Proofs.Yteofblabimneiaa
open Go.RowKit
theorem filt_succ {p : Lin → Bool} {ys : List Lin} {j : Nat} (hj : j < ys.length) : (ys.take (j + 1)).filter p = (ys.take j).filter p ++ (if p ys[j] then [ys[j]] else []) := by
  rw [List.take_succ_eq_append_getElem hj, List.filter_append]
  congr 1
  cases h : p ys[j] <;> simp [h]
set_option linter.unusedSimpArgs false in
set_option maxHeartbeats 4000000 in
set_option maxRecDepth 100000 in
theorem both_any (w : World) (v : Value) (xss : List (List Lin)) (hr : LL w v xss) (hn : xss.length ≤ 1000) (hs : ∀ o ∈ xss, SortN o ∧ o.length ≤ 60) :
    Calls Try.prog 15 #[v] w fun e w' => ∃ v', e = .returned v' ∧ OwnT encN w' w.heap.size 45 v' (bothL xss xss.length) ∧ Below w.heap.size w w' := by
  obtain ⟨p, c, rfl⟩ := hr.shape
  have HR := Lib.hid hr
  have HS := Lib.hid hs
  clear hr hs
  have HBL := Lib.hid (bothL_len xss (fun o ho => (HS.out o ho).2))
  generalize hl : xss.length = n at *
  have HL := Lib.hid hl
  clear hl
  have HOF := Lib.hid (fun (W : World) (h : Below w.heap.size w W) (who : Int) (x : Lin) => offered_any W _ xss who x (HR.out.kept h) (by rw [HL.out]; exact hn) (fun o ho => ⟨(HS.out o ho).1, by have := (HS.out o ho).2; omega⟩))
  unfold Lin.v at HOF
  have HREL : Hid (OwnT encN w w.heap.size 45 (.slice none 0 0) (bothL xss 0) ∧ Below w.heap.size w w) := ⟨OwnT.nil_ _ _ _ _, Below.refl _ _⟩
  go_enter Try.func15, Try.ntmps15
  go_wp2_with fail
  go_loopw [3, 10] (fun v i wr => ∃ k : Nat, k ≤ n ∧ i = .int .i64 k ∧ Hid (OwnT encN wr w.heap.size 45 v (bothL xss k) ∧ Below w.heap.size w wr)) (fun _ i _ => n - (intOf i).toNat)
  case atStart => exact ⟨0, by omega, rfl, HREL⟩
  case round =>
    clear HREL
    obtain ⟨k, hk, rfl, HK⟩ := hrel
    by_cases hlt : k < n
    · have hkl : k < xss.length := by rw [HL.out]; exact hlt
      have hltI : (k : Int) < (n : Int) := by omega
      obtain ⟨b, o, u, rfl, hbl, hcu0, hru⟩ := HR.out.at_ k hkl
      have hcu := (HK.out.2.cell (p := ⟨b, o + k, none⟩) hbl).trans hcu0
      clear hcu0
      have hys := HS.out _ (List.getElem_mem hkl)
      have HPK : Hid (partL xss k = xss[k].filter (bothF xss k)) := by show _ = _; unfold partL; rw [List.getD_eq_getElem?_getD, List.getElem?_eq_getElem hkl, Option.getD_some]
      generalize xss[k] = ys at *
      obtain ⟨pu, cu, rfl⟩ := hru.shape
      have HRU := Lib.hid hru
      have HYS := Lib.hid hys
      have hyl := hys.2
      have HK60 := Lib.hid (HBL.out k)
      obtain ⟨ho1, hw1⟩ := HK.out
      obtain ⟨pa, ca, hva⟩ := ho1.form
      generalize (bothL xss k).length = na at hva
      subst hva
      generalize wr = W2 at *
      have HREL2 : Hid (OwnT encN W2 w.heap.size 45 (.slice pa na ca) (bothL xss k ++ (ys.take 0).filter (bothF xss k)) ∧ Below w.heap.size w W2) := ⟨by simpa using ho1, hw1⟩
      clear hru hys ho1 hw1 HK
      generalize hly : ys.length = ny at *
      have HLY := Lib.hid hly
      clear hly
      go_wp2_with fail
      go_loopw [3, 17] (fun v i wr => ∃ j : Nat, j ≤ ny ∧ i = .int .i64 j ∧ Hid (OwnT encN wr w.heap.size 45 v (bothL xss k ++ (ys.take j).filter (bothF xss k)) ∧ Below w.heap.size w wr)) (fun _ i _ => ny - (intOf i).toNat)
      case atStart => exact ⟨0, by omega, rfl, HREL2⟩
      case round =>
        obtain ⟨j, hj, rfl, HJ⟩ := hrel
        clear HREL2
        by_cases hltj : j < ny
        · have hjl : j < ys.length := by rw [HLY.out]; exact hltj
          have hltJ : (j : Int) < (ny : Int) := by omega
          have HFS := Lib.hid (filt_succ (p := bothF xss k) hjl)
          obtain ⟨b2, o2, rfl, hb2l, hcs⟩ := (HRU.out.kept HJ.out.2).at_ j hjl
          generalize ys[j] = x at *
          have c0 : wr.cell? ⟨b2, o2 + j * 4, none⟩ = some (.int .i64 x.s) := hcs 0 (by decide)
          have c1 : wr.cell? ⟨b2, o2 + j * 4 + 1, none⟩ = some (.int .i64 x.n) := hcs 1 (by decide)
          have c2 : wr.cell? ⟨b2, o2 + j * 4 + 2, none⟩ = some (.int .i64 x.b) := hcs 2 (by decide)
          have c3 : wr.cell? ⟨b2, o2 + j * 4 + 3, none⟩ = some (.int .i64 x.a) := hcs 3 (by decide)
          obtain ⟨ho1, hw1⟩ := HJ.out
          obtain ⟨pz, cz, hvz⟩ := ho1.form
          have HZL : Hid ((bothL xss k ++ (ys.take j).filter (bothF xss k)).length ≤ 70000) := by
            show _ ≤ _
            have h1 := HK60.out
            have h2 := List.length_filter_le (bothF xss k) (ys.take j)
            rw [List.length_take] at h2
            rw [List.length_append]
            omega
          generalize hz : bothL xss k ++ (ys.take j).filter (bothF xss k) = zs at *
          generalize hm : zs.length = m at *
          subst hvz
          have HMZ := Lib.hid hm
          have HO := Lib.hid (ho1.later (oneB wr (.cells #[.int .i64 x.s, .int .i64 x.n, .int .i64 x.b, .int .i64 x.a] 45)))
          have HX := Lib.hid (Blk.new wr #[.int .i64 x.s, .int .i64 x.n, .int .i64 x.b, .int .i64 x.a] 45)
          have HW := Lib.hid (hw1.trans ((oneB wr (.cells #[.int .i64 x.s, .int .i64 x.n, .int .i64 x.b, .int .i64 x.a] 45)).mono hw1.size))
          have HZZ := Lib.hid hz
          have hm7 : m ≤ 70000 := HZL.out
          clear ho1 hw1 HJ hcs hz hm
          by_cases hsk : x.s = (k : Int)
          · have e1 : (x.s == (k : Int)) = true := by simpa using hsk
            have HBF : Hid (bothF xss k x = offB xss x.b x) := by show _ = _; unfold bothF; rw [decide_eq_true hsk, Bool.true_and]
            clear hsk
            go_wp2_with fail
            generalize wr.alloc (.cells #[.int .i64 x.s, .int .i64 x.n, .int .i64 x.b, .int .i64 x.a] 45) = W3 at *
            generalize wr.heap.size = gx at *
            refine (HOF.out W3 HW.out x.b x).mono ?_
            rintro y w2 ⟨rfl, hb2⟩
            have HO2 := Lib.hid (HO.out.later hb2)
            have HX2 := Lib.hid (HX.out.below hb2 HX.out.lt)
            have HW2 := Lib.hid (HW.out.trans (hb2.mono HW.out.size))
            clear hb2 HO HX HW c0 c1 c2 c3
            obtain ⟨fb, hfb⟩ : ∃ fb, offB xss x.b x = fb := ⟨_, rfl⟩
            rw [hfb] at HBF ⊢
            clear hfb
            cases fb
            · have HNX : Hid (OwnT encN w2 w.heap.size 45 (.slice pz m cz) (bothL xss k ++ (ys.take (j + 1)).filter (bothF xss k)) ∧ Below w.heap.size w w2) := ⟨by rw [HFS.out, HBF.out, if_neg (by decide), List.append_nil, HZZ.out]; exact HO2.out, HW2.out⟩
              clear HFS HBF
              go_wp2_with fail
              go_roundw
              case rel => exact ⟨j + 1, by omega, by go_num, HNX⟩
              case measure => simp [intOf]; omega
            · have HFY : Hid (bothL xss k ++ (ys.take (j + 1)).filter (bothF xss k) = zs ++ [x]) := by show _ = _; rw [HFS.out, HBF.out, if_pos rfl, ← List.append_assoc, HZZ.out]
              have x0 : w2.cell? ⟨gx, 0, none⟩ = some (.int .i64 x.s) := HX2.out.cell 0
              have x1 : w2.cell? ⟨gx, 1, none⟩ = some (.int .i64 x.n) := HX2.out.cell 1
              have x2 : w2.cell? ⟨gx, 2, none⟩ = some (.int .i64 x.b) := HX2.out.cell 2
              have x3 : w2.cell? ⟨gx, 3, none⟩ = some (.int .i64 x.a) := HX2.out.cell 3
              clear HFS HBF
              go_wp2_with (at_builtin; with_reducible refine stop_appendIN (.tmp 33) (.tmp 35) 22 rfl ?_)
              refine wpList_append_t rfl (.tmp 33) (.tmp 35) 22 rfl 45 zeroVNc 32 w.heap.size eltNc rfl (by decide) (.slice pz m cz) (.slice (some ⟨w2.heap.size, 0, none⟩) 1 1) zs [x] rfl rfl (HO2.out.later (oneB w2 (.cells #[.int .i64 x.s, .int .i64 x.n, .int .i64 x.b, .int .i64 x.a] 45))) (TRow.one_ encN x (Blk.new w2 #[.int .i64 x.s, .int .i64 x.n, .int .i64 x.b, .int .i64 x.a] 45) rfl (Nat.le_refl _)) (by have := HMZ.out; simp; omega) (by have := HW2.out.size; simp at this ⊢; omega) (zs ++ [x]) (m + 1) rfl (by rw [List.length_append, HMZ.out]; rfl) ?_
              intro p9 c9 w3 ho3 _ hb3
              have HNX : Hid (OwnT encN w3 w.heap.size 45 (.slice p9 (m + 1) c9) (bothL xss k ++ (ys.take (j + 1)).filter (bothF xss k)) ∧ Below w.heap.size w w3) := ⟨by rw [HFY.out]; exact ho3, HW2.out.trans (((Below.refl _ w2).alloc HW2.out.size _).trans hb3)⟩
              clear ho3 hb3
              go_wp2_with fail
              go_roundw
              case rel => exact ⟨j + 1, by omega, by go_num, HNX⟩
              case measure => simp [intOf]; omega
          · have e1 : (x.s == (k : Int)) = false := by simpa using hsk
            have HNX : Hid (OwnT encN (wr.alloc (.cells #[.int .i64 x.s, .int .i64 x.n, .int .i64 x.b, .int .i64 x.a] 45)) w.heap.size 45 (.slice pz m cz) (bothL xss k ++ (ys.take (j + 1)).filter (bothF xss k)) ∧ Below w.heap.size w (wr.alloc (.cells #[.int .i64 x.s, .int .i64 x.n, .int .i64 x.b, .int .i64 x.a] 45))) := ⟨by rw [HFS.out, show bothF xss k x = false by unfold bothF; rw [decide_eq_false hsk]; rfl, if_neg (by decide), List.append_nil, HZZ.out]; exact HO.out, HW.out⟩
            clear hsk HFS
            go_wp2_with fail
            go_roundw
            case rel => exact ⟨j + 1, by omega, by go_num, HNX⟩
            case measure => simp [intOf]; omega
        · have hle : (ny : Int) ≤ (j : Int) := by omega
          have hjn : j = ys.length := by rw [HLY.out]; omega
          have HK2 := HJ.out
          rw [hjn, List.take_length, ← HPK.out, ← bothL_succ] at HK2
          have HNK : Hid (OwnT encN wr w.heap.size 45 _ (bothL xss (k + 1)) ∧ Below w.heap.size w wr) := ⟨HK2.1, HK2.2⟩
          clear hjn HK2 HJ
          go_wp2_with fail
          go_roundw
          case rel => exact ⟨k + 1, by omega, by go_num, HNK⟩
          case measure => simp [intOf]; omega
    · have hle : (n : Int) ≤ (k : Int) := by omega
      obtain rfl : k = n := by omega
      have HF := Lib.hid HK.out
      obtain ⟨pa, ca, hva⟩ := HF.out.1.form
      generalize (bothL xss k).length = na at hva
      subst hva
      clear HK
      go_wp2_with fail
      go_ret
      exact ⟨_, rfl, HF.out.1, HF.out.2⟩
end Go.Proofs.Yteofblabimneiaa
