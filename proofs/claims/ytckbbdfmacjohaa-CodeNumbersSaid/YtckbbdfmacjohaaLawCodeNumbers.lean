/- CodeNumbers: the walk. -/
import Derived.Test.YtckbbdfmacjohaaRefNum
import Derived.Deep.RegionWith
namespace Go.Proofs.Ytckbbdfmacjohaa
open Go.RowKit
theorem Own.dropped {w : World} {base n c g m : Nat} {e : TypeId} {zs : List Int} (h : Own .u8 w base e (.slice (some ⟨g, 0, none⟩) n c) zs) (hm : m ≤ zs.length) (hc : ¬ c = m) : Row .u8 w (.slice (some ⟨g, m, none⟩) (n - m) (c - m)) (zs.drop m) := by
  obtain ⟨g0, _, _, hat⟩ := h.rowAt
  have h2 := (hat.drop m hm).row
  unfold dropP at h2
  rw [if_neg hc] at h2
  simpa [addAt] using h2
theorem end_more (more : List Int) : ((endE more 0 == 0) == ((more.length : Int) == 0)) = true := by
  cases more with
  | nil => rfl
  | cons x xs =>
    have e1 : endE (x :: xs) 0 = 41 := by unfold endE; rw [if_neg (by simp)]; rfl
    have e2 : (((x :: xs).length : Int) == 0) = false := by rw [beq_eq_false_iff_ne]; simp; omega
    rw [e1, e2]; rfl
set_option maxHeartbeats 8000000 in
set_option maxRecDepth 100000 in
theorem numbers_walk (vf : Value) (front : List Int) (n : Int) (vm : Value) (more : List Int) (W : World) (of : Oct front) (rf : Row .u8 W vf front) (lf : front.length ≤ 140737488355328) (hn : -9223372036854775808 ≤ n ∧ n ≤ 9223372036854775807) (om : Oct more) (rm : Row .u8 W vm more) (lm : more.length ≤ 140737488355328) :
    Calls Try.prog 12 #[vf, .int .i64 n, vm] W fun e W' => e = .returned (.bool true) ∧ Below W.heap.size W W' := by
  obtain ⟨n1, n2⟩ := hn
  obtain ⟨pf, cf, rfl⟩ := rf.shape
  obtain ⟨pm, cm, rfl⟩ := rm.shape
  have RF := Lib.hid rf
  have RM := Lib.hid rm
  have OF := Lib.hid of
  have OM := Lib.hid om
  clear rf rm of om
  by_cases h1 : (front.length : Int) ≤ 500 ∧ (more.length : Int) ≤ 500
  · obtain ⟨g1, g2⟩ := h1
    have HTEN := Lib.hid (numL_len n1 n2)
    have HONE : Hid (1 ≤ (numL n).length) := by
      show 1 ≤ _
      rcases h : numL n with _ | _
      · exact absurd h (leb_ne _)
      · simp
    have HE := Lib.hid (numE_of n1 n2 more)
    have HV := Lib.hid (numV_of n1 n2 more)
    have HR := Lib.hid (numR_of n1 n2 more)
    generalize hF : front.length = F at *
    have HF := Lib.hid hF
    generalize hM : more.length = M at *
    have HM := Lib.hid hM
    clear hF hM
    go_enter Try.func12, Try.ntmps12
    go_wp2_with fail
    refine (writes_any W).mono ?_
    rintro y w0 ⟨rfl, hb0⟩
    have B0 := Lib.hid hb0
    have BA := Lib.hid (hb0.alloc hb0.size (.cells #[] 5))
    have O0 := Lib.hid (Own.made_at .u8 w0 w0.heap.size w0.heap.size 5 (Nat.le_refl _) rfl)
    have Z0 := Lib.hid hb0.size
    clear hb0
    go_wp2_with (at_builtin; go_loud (refine wpList_append_row rfl _ _ 53 rfl 5 .u8 1 w0.heap.size elt8 _ _ [] front rfl rfl O0.out (RF.out.under BA.out (Nat.le_refl _)) (by have := HF.out; simp; omega) (by have := HF.out; simp; omega) (by simp) front F rfl HF.out ?_; intro p1 c1 w1 ho1 hb1; have O1 := Lib.hid ho1.row; have B1 := Lib.hid (BA.out.trans (hb1.mono Z0.out)); clear ho1 hb1))
    refine (wnum_any _ front n w1 O1.out (by rw [HF.out]; omega) n1 n2).mono ?_
    rintro y w2 ⟨v2, rfl, ho2, hb2⟩
    have B2 := Lib.hid (B1.out.trans (hb2.mono B1.out.size))
    obtain ⟨L, hL⟩ : ∃ L, L = front ++ numL n := ⟨_, rfl⟩
    rw [← hL] at ho2
    have hLl : L.length = F + (numL n).length := by rw [hL, List.length_append, HF.out]
    have HDR : Hid (L.drop F = numL n) := by show _ = _; rw [hL, ← HF.out]; exact List.drop_left
    obtain ⟨p2, c2, rfl⟩ := ho2.form
    have hq0 : 0 < L.length := by have := HONE.out; omega
    obtain ⟨g, rfl, _, _, _⟩ := ho2.at_ hq0
    have hc2 : L.length ≤ c2 := by obtain ⟨_, _, e0, hcap, _⟩ := ho2.row; cases e0; exact hcap
    have hFq : F < L.length := by have := HONE.out; omega
    have hq2 : L.length ≤ 510 := by have := HTEN.out; omega
    have HL := Lib.hid hL
    have HLL := Lib.hid hLl
    have O2 := Lib.hid ho2
    clear ho2 hb2 hL hLl hq0
    generalize hq : L.length = q at *
    have HQ := Lib.hid hq
    clear hq
    go_wp2_with fail
    have B2d : Hid (Below W.heap.size W w2.drew) := B2.out.drew
    have O2d : Hid (Own .u8 w2.drew w1.heap.size 5 (.slice (some ⟨g, 0, none⟩) q c2) L) := O2.out
    have kA := conv_row (P := Try.prog) w2.drew 53 9 5 Try.underlying53 Try.underlying5 Try.underlying9 _ _ O2d.out.row
    have kF := conv_row (P := Try.prog) w2.drew 53 9 5 Try.underlying53 Try.underlying5 Try.underlying9 _ _ (RF.out.under B2d.out (Nat.le_refl _))
    have hs1 : (strOfNums front).size ≤ 500 := by rw [strOfNums_size, HF.out]; omega
    have hs2 : (strOfNums (numL n)).size ≤ 10 := by rw [strOfNums_size]; exact HTEN.out
    have hsum : strOfNums front ++ strOfNums (numL n) = strOfNums L := by rw [strOfNums_append, HL.out]
    go_region_with (first
      | (go_at_call 31; go_loud (refine (refnum_any n _ n1 n2).mono ?_; rintro y w3 ⟨rfl, hb3⟩; have B3 := Lib.hid (B2d.out.trans (hb3.mono B2d.out.size)); have O3 := Lib.hid (O2d.out.later hb3); have kA3 := conv_row (P := Try.prog) w3 53 9 5 Try.underlying53 Try.underlying5 Try.underlying9 _ _ O3.out.row; have kF3 := conv_row (P := Try.prog) w3 53 9 5 Try.underlying53 Try.underlying5 Try.underlying9 _ _ (RF.out.under B3.out (Nat.le_refl _)); clear hb3)))
    all_goals
      clear kA kF kA3 kF3 hsum hs1 hs2
      have BA3 := Lib.hid (B3.out.alloc B3.out.size (.cells #[] 5))
      have OE3 := Lib.hid (Own.made_at .u8 w3 w3.heap.size w3.heap.size 5 (Nat.le_refl _) rfl)
      have hcF : ¬ c2 = F := by omega
      have hFq2 : F ≤ q := by omega
      have RD := Lib.hid ((O3.out.alloc (.cells #[] 5)).dropped (m := F) (by rw [HQ.out]; omega) hcF)
      rw [HDR.out] at RD
      have HNL : Hid (q - F = (numL n).length) := by show _ = _; have := HLL.out; omega
      have Z3 := Lib.hid B3.out.size
      go_wp2_with (at_builtin; (first
        | (refine wpList_append_row rfl (.tmp 32) (.tmp 36) 53 rfl 5 .u8 1 w3.heap.size elt8 _ _ [] (numL n) rfl rfl OE3.out RD.out (by have := HTEN.out; simp; omega) (by have := HTEN.out; simp; omega) (by simp) (numL n) (q - F) rfl HNL.out.symm ?_; intro p5 c5 w5 ho5 hb5; have O5 := Lib.hid ho5; have B5 := Lib.hid (BA3.out.trans (hb5.mono Z3.out)); have S5 : Hid (w3.heap.size ≤ w5.heap.size) := (by show _ ≤ _; have := hb5.size; simp at this; omega); clear ho5 hb5)
        | go_loud (refine wpList_append_row rfl (.tmp 37) (.tmp 38) 53 rfl 5 .u8 1 w3.heap.size elt8 _ _ (numL n) more rfl rfl O5.out (RM.out.under B5.out (Nat.le_refl _)) (by have h1 := HTEN.out; have h2 := HM.out; omega) (by have h1 := HTEN.out; have h2 := HM.out; omega) S5.out (numL n ++ more) (q - F + M) rfl (by have h1 := HNL.out; have h2 := HM.out; rw [List.length_append]; omega) ?_; intro p6 c6 w6 ho6 hb6; have O6 := Lib.hid ho6.row; have B6 := Lib.hid (B5.out.trans (hb6.mono Z3.out)); clear ho6 hb6)))
      have HLM : Hid ((numL n ++ more).length ≤ 600) := by show _ ≤ _; have h1 := HTEN.out; have h2 := HM.out; rw [List.length_append]; omega
      refine (read_any _ _ w6 O6.out (by have := HLM.out; omega)).mono ?_
      rintro y w7 ⟨r, r0, rfl, hr7, hr, _, hb7⟩
      have B7 := Lib.hid (B6.out.trans (hb7.mono B6.out.size))
      have R7 := Lib.hid hr7
      have G := Lib.hid (Nat.le_trans B6.out.size hr)
      clear hr7 hr hb7
      go_wp2_with fail
      refine (num_any r r0 _ 0 w7 R7.out ((numL_oct n).append OM.out) (by have := HLM.out; omega)).mono ?_
      rintro y w8 ⟨rfl, hc8, hr8⟩
      rw [HV.out]
      rw [HE.out, HR.out] at hr8
      have B8 := Lib.hid (B7.out.trans (hc8.below G.out B7.out.size))
      have R8 := Lib.hid hr8
      clear hc8 hr8
      go_wp2_with fail
      refine (err_any r r0 _ 0 _ R8.out).mono ?_
      rintro y w9 ⟨rfl, rfl⟩
      go_wp2_with fail
      refine (left_any r r0 _ 0 _ R8.out).mono ?_
      rintro y w9 ⟨rfl, rfl⟩
      rw [HM.out]
      go_wp2_with fail
      refine (end_any r r0 _ 0 _ R8.out (by rw [HM.out]; omega)).mono ?_
      rintro y w10 ⟨rfl, hc10, _⟩
      have B10 := Lib.hid (B8.out.trans (hc10.below G.out B8.out.size))
      have HEM := Lib.hid (end_more more)
      rw [HM.out] at HEM
      clear hc10
      go_wp2_with fail
      go_ret
      exact ⟨ret_b HEM.out, B10.out⟩
  · have hg : (500 : Int) < front.length ∨ (front.length : Int) ≤ 500 ∧ (500 : Int) < more.length := by omega
    clear h1
    rcases hg with hg | ⟨hg, hg2⟩
    all_goals
      go_enter Try.func12, Try.ntmps12
      go_wp2_with fail
      refine (writes_any W).mono ?_
      rintro y w0 ⟨rfl, hb0⟩
      go_wp2_with fail
      go_ret
      exact ⟨rfl, hb0⟩
end Go.Proofs.Ytckbbdfmacjohaa
