/- CodeShort: the walk. -/
import Derived.Test.YtckbbdfmacjohabLawCodeOne
namespace Go.Proofs.Ytckbbdfmacjohab
open Go.RowKit
theorem natsOf_dropLast (zs : List Int) : natsOf zs.dropLast = (natsOf zs).dropLast := by unfold natsOf; rw [List.map_dropLast]
theorem readL_short {n : Int} (h1 : -9223372036854775808 ≤ n) (h2 : n ≤ 9223372036854775807) : readL (natsOf (numL n).dropLast) = (0, 0, 40) := by
  have hz := zz_lt h1 h2
  exact readP_short (zz n) 0 0 (by simpa using hz)
theorem numE_short {n : Int} (h1 : -9223372036854775808 ≤ n) (h2 : n ≤ 9223372036854775807) : numE (numL n).dropLast 0 = 40 ∧ numV (numL n).dropLast 0 = 0 ∧ numR (numL n).dropLast 0 = (numL n).dropLast := by
  have h : numE (numL n).dropLast 0 = 40 := by unfold numE; rw [if_pos rfl, readL_short h1 h2]
  exact ⟨h, by unfold numV; rw [h, if_neg (by decide)], by unfold numR; rw [h, if_neg (by decide)]⟩
theorem endE_40 (zs : List Int) : endE zs 40 = 40 := endE_stays (by decide)
/-- A list that was written, with what is behind it. -/
theorem bytes_of (text ys : List Int) (hl : text.length ≤ 16384) :
    bytesE (numL text.length ++ (text ++ ys)) 0 = 0 ∧ bytesV (numL text.length ++ (text ++ ys)) 0 = text ∧ bytesR (numL text.length ++ (text ++ ys)) 0 = ys := by
  have h1 : -9223372036854775808 ≤ (text.length : Int) := by omega
  have h2 : (text.length : Int) ≤ 9223372036854775807 := by omega
  have ho : ¬ outB (text.length : Int) 0 16384 = true := by unfold outB; simp; omega
  have hE := intE_of (a := 0) (b := 16384) h1 h2 (text ++ ys)
  have hV := intV_of (a := 0) (b := 16384) h1 h2 (text ++ ys)
  rw [if_neg ho] at hE hV
  have hN : bytesN (numL text.length ++ (text ++ ys)) 0 = text.length := by unfold bytesN; rw [hV]; simp
  have hR := numR_of h1 h2 (text ++ ys)
  have hB : bytesE (numL text.length ++ (text ++ ys)) 0 = 0 := by
    unfold bytesE; rw [hN, hR, hE]; unfold takeE; rw [if_neg (by simp), if_neg (by simp)]
  refine ⟨hB, ?_, ?_⟩
  · unfold bytesV; rw [if_pos hB, hN, hR]; exact List.take_left
  · unfold bytesR; rw [if_pos hB, hN, hR]; exact List.drop_left
theorem numL_0 : numL 0 = [0] := by unfold numL; rw [leb_small (by decide)]; rfl
/-- A list that lacks its last byte. -/
theorem bytes_short (text : List Int) (hl : text.length ≤ 500) :
    bytesE (numL text.length ++ text).dropLast 0 = 40 ∧ bytesV (numL text.length ++ text).dropLast 0 = [] := by
  have key : bytesE (numL text.length ++ text).dropLast 0 = 40 := by
    rcases List.eq_nil_or_concat text with rfl | ⟨xs, x, rfl⟩
    · simp only [List.length_nil, List.append_nil]
      show bytesE (numL 0).dropLast 0 = 40
      obtain ⟨a, b, c⟩ := numE_short (n := 0) (by decide) (by decide)
      have hE : intE (numL 0).dropLast 0 0 16384 = 40 := by unfold intE; rw [a, b]; rfl
      unfold bytesE; rw [hE]; unfold takeE; rw [if_pos (by decide)]
    · rw [List.concat_eq_append] at hl ⊢
      have e : (numL ((xs ++ [x]).length : Nat) ++ (xs ++ [x])).dropLast = numL ((xs ++ [x]).length : Nat) ++ xs := by
        rw [← List.append_assoc, List.dropLast_concat]
      rw [e]
      have h1 : -9223372036854775808 ≤ ((xs ++ [x]).length : Int) := by omega
      have h2 : ((xs ++ [x]).length : Int) ≤ 9223372036854775807 := by omega
      have ho : ¬ outB ((xs ++ [x]).length : Int) 0 16384 = true := by unfold outB; simp at hl ⊢; omega
      have hE := intE_of (a := 0) (b := 16384) h1 h2 xs
      have hV := intV_of (a := 0) (b := 16384) h1 h2 xs
      rw [if_neg ho] at hE hV
      have hN : bytesN (numL ((xs ++ [x]).length : Nat) ++ xs) 0 = (xs ++ [x]).length := by unfold bytesN; rw [hV]; simp
      unfold bytesE
      rw [hN, hE, numR_of h1 h2 xs]
      unfold takeE
      rw [if_neg (by simp), if_pos (by simp)]
  exact ⟨key, by unfold bytesV; rw [key, if_neg (by decide)]⟩
theorem bool_41 : boolV [0] 41 = false := rfl
set_option maxHeartbeats 8000000 in
set_option maxRecDepth 100000 in
theorem short_walk (n : Int) (vt : Value) (text : List Int) (W : World) (hn : -9223372036854775808 ≤ n ∧ n ≤ 9223372036854775807) (ot : Oct text) (rt : Row .u8 W vt text) (lt : text.length ≤ 140737488355328) :
    Calls Try.prog 5 #[.int .i64 n, vt] W fun e W' => e = .returned (.bool true) ∧ Below W.heap.size W W' := by
  obtain ⟨n1, n2⟩ := hn
  obtain ⟨pt, ct, rfl⟩ := rt.shape
  have RT := Lib.hid rt
  clear rt
  by_cases hg : (text.length : Int) ≤ 500
  · have hten := numL_len n1 n2
    have hone : 1 ≤ (numL n).length := by
      rcases h : numL n with _ | _
      · exact absurd h (leb_ne _)
      · simp
    have hten2 := Lib.hid (numL_len (n := (text.length : Int)) (by omega) (by omega))
    have hone2 : Hid (1 ≤ (numL (text.length : Int)).length) := by
      show 1 ≤ _
      rcases h : numL (text.length : Int) with _ | _
      · exact absurd h (leb_ne _)
      · simp
    obtain ⟨s1, s2, s3⟩ := numE_short n1 n2
    have S1 := Lib.hid s1
    have S2 := Lib.hid s2
    have S3 := Lib.hid s3
    have HD : Hid ((numL n).take ((numL n).length - 1) = (numL n).dropLast) := (List.dropLast_eq_take).symm
    clear s1 s2 s3
    go_enter Try.func5, Try.ntmps5
    go_wp2_with fail
    refine (writes_any W).mono ?_
    rintro y w0 ⟨rfl, hb0⟩
    have B0 := Lib.hid hb0
    clear hb0
    go_wp2_with fail
    refine (wnum_any _ [] n w0 (Row.nil_ _ _ 0) (by simp) n1 n2).mono ?_
    rintro y w1 ⟨v1, rfl, ho1, hb1⟩
    rw [List.nil_append] at ho1
    obtain ⟨p1, c1, rfl⟩ := ho1.form
    have hc1 : (numL n).length ≤ c1 := by obtain ⟨_, _, e0, hcap, _⟩ := ho1.row; cases e0; exact hcap
    have B1 := Lib.hid (B0.out.trans (hb1.mono B0.out.size))
    have hr1 := ho1.row.take ((numL n).length - 1) (by omega)
    rw [HD.out] at hr1
    have O1 := Lib.hid hr1
    have hsub : ((numL n).length : Int) - 1 = (((numL n).length - 1 : Nat) : Int) := by omega
    clear ho1 hb1 hr1
    generalize hm : (numL n).length = m at *
    have HM := Lib.hid hm
    clear hm
    go_wp2_with fail
    refine (read_any _ _ w1 O1.out (by rw [List.length_dropLast, HM.out]; omega)).mono ?_
    rintro y w2 ⟨g, g0, rfl, hr2, hg2, _, hb2⟩
    have B2 := Lib.hid (B1.out.trans (hb2.mono B1.out.size))
    have R2 := Lib.hid hr2
    have G := Lib.hid (Nat.le_trans B1.out.size hg2)
    clear hr2 hg2 hb2
    go_wp2_with fail
    have hol : Oct (numL n).dropLast := by rw [List.dropLast_eq_take]; exact (numL_oct n).take _
    refine (num_any g g0 _ 0 w2 R2.out hol (by rw [List.length_dropLast, HM.out]; omega)).mono ?_
    rintro y w3 ⟨rfl, hc3, hr3⟩
    rw [S2.out]
    rw [S1.out, S3.out] at hr3
    have B3 := Lib.hid (B2.out.trans (hc3.below G.out B2.out.size))
    have R3 := Lib.hid hr3
    clear hc3 hr3
    go_wp2_with fail
    refine (err_any g g0 _ _ _ R3.out).mono ?_
    rintro y w3b ⟨rfl, rfl⟩
    go_wp2_with fail
    refine (end_any g g0 _ _ _ R3.out (by rw [List.length_dropLast, HM.out]; omega)).mono ?_
    rintro y w4 ⟨rfl, hc4, _⟩
    rw [endE_40]
    have B4 := Lib.hid (B3.out.trans (hc4.below G.out B3.out.size))
    clear hc4
    go_wp2_with fail
    refine (wbytes_any _ _ [] text w4 (Row.nil_ _ _ 0) (RT.out.under B4.out (Nat.le_refl _)) (by simp; omega)).mono ?_
    rintro y w5 ⟨v5, rfl, ho5, hb5⟩
    rw [List.nil_append] at ho5
    obtain ⟨p5, c5, rfl⟩ := ho5.form
    have hc5 : (numL (text.length : Int) ++ text).length ≤ c5 := by obtain ⟨_, _, e0, hcap, _⟩ := ho5.row; cases e0; exact hcap
    have B5 := Lib.hid (B4.out.trans (hb5.mono B4.out.size))
    have hML : Hid ((numL (text.length : Int) ++ text).length = (numL (text.length : Int)).length + text.length) := List.length_append
    have h5a : 1 ≤ (numL (text.length : Int) ++ text).length := by have := hone2.out; rw [hML.out]; omega
    have h5b : (numL (text.length : Int) ++ text).length ≤ 510 := by have := hten2.out; rw [hML.out]; omega
    have hr5 := ho5.row.take ((numL (text.length : Int) ++ text).length - 1) (by omega)
    rw [← List.dropLast_eq_take] at hr5
    have O5 := Lib.hid ho5
    have OB5 := Lib.hid hb5.size
    have OD5 := Lib.hid hr5
    have HC := Lib.hid (bytes_short text (by omega))
    have HOC : Hid (Oct (numL (text.length : Int) ++ text).dropLast) := by show Oct _; rw [List.dropLast_eq_take]; exact ((numL_oct _).append ot).take _
    clear ho5 hb5 hr5
    have hgenL : ∃ L, L = (numL (text.length : Int) ++ text) := ⟨_, rfl⟩
    obtain ⟨L, hL⟩ := hgenL
    have HL := Lib.hid hL
    rw [← hL] at hc5 h5a h5b O5 OD5 HC HOC ⊢
    clear hL
    generalize hq : L.length = q at *
    have HQ := Lib.hid hq
    clear hq
    go_wp2_with fail
    refine (read_any _ _ w5 OD5.out (by rw [List.length_dropLast, HQ.out]; omega)).mono ?_
    rintro y w6 ⟨h, h0, rfl, hr6, hg6, _, hb6⟩
    have B6 := Lib.hid (B5.out.trans (hb6.mono B5.out.size))
    have R6 := Lib.hid hr6
    have G6 := Lib.hid (Nat.le_trans B5.out.size hg6)
    have O6 := Lib.hid (O5.out.later hb6)
    have G6' := Lib.hid hg6
    clear hr6 hg6 hb6
    go_wp2_with fail
    refine (bytes_any h h0 _ 0 w6 R6.out HOC.out (by rw [List.length_dropLast, HQ.out]; omega)).mono ?_
    rintro y w7 ⟨v7, rfl, ho7, hc7, hr7⟩
    rw [HC.out.2] at ho7
    rw [HC.out.1] at hr7
    obtain ⟨p7, c7, rfl⟩ := ho7.form
    have B7 := Lib.hid (B6.out.trans (hc7.below G6.out B6.out.size))
    have R7 := Lib.hid hr7
    have O7 := Lib.hid (O6.out.below (B := w5.heap.size) (hc7.below G6'.out (by have := B6.out.size; have := O5.out; have := R6.out.lt; have := G6'.out; omega)) O5.out.lt)
    clear hr7 hc7 ho7
    go_wp2_with fail
    refine (err_any h h0 _ _ _ R7.out).mono ?_
    rintro y w7b ⟨rfl, rfl⟩
    have O8 := Lib.hid (O7.out.alloc (.cells #[.int .u8 0] 5))
    have HRL := Lib.hid (Row.laid .u8 w7 5 [0] #[.int .u8 0] rfl (0, 0) 1 1 rfl (Nat.le_refl _))
    have HS : Hid (w4.heap.size ≤ (w7.alloc (.cells #[.int .u8 0] 5)).heap.size) := by show _ ≤ _; have h1 := B7.out.size; have h2 := O7.out; have h3 := R7.out.lt; have h4 := G6'.out; have h5 := OB5.out; simp; omega
    have B8 := Lib.hid (B7.out.alloc B7.out.size (.cells #[.int .u8 0] 5))
    go_wp2_with (at_builtin; go_loud (refine wpList_append_row rfl _ _ 22 rfl 5 .u8 1 w4.heap.size elt8 _ _ L [0] rfl rfl O8.out HRL.out (by have := HQ.out; simp; omega) (by have := HQ.out; simp; omega) HS.out (L ++ [0]) (q + 1) rfl (by simp [HQ.out]) ?_; intro p9 c9 w9 ho9 hb9; have O9 := Lib.hid ho9.row; have B9 := Lib.hid (B8.out.trans (hb9.mono B4.out.size)); clear ho9 hb9))
    refine (read_any _ _ w9 O9.out (by rw [List.length_append, HQ.out]; simp; omega)).mono ?_
    rintro y w10 ⟨t, t0, rfl, hr10, hg10, _, hb10⟩
    have B10 := Lib.hid (B9.out.trans (hb10.mono B9.out.size))
    have hLL : L ++ [0] = numL (text.length : Int) ++ (text ++ [0]) := by rw [HL.out, List.append_assoc]
    rw [hLL] at hr10
    have R10 := Lib.hid hr10
    have G10 := Lib.hid (Nat.le_trans B9.out.size hg10)
    have HBF := Lib.hid (bytes_of text [0] (by omega))
    have HOO : Hid (Oct (numL (text.length : Int) ++ (text ++ [0]))) := (numL_oct _).append (ot.append (by intro a ha; simp at ha; omega))
    have HLN : Hid ((numL (text.length : Int) ++ (text ++ [0])).length ≤ 520) := by show _ ≤ _; rw [← hLL, List.length_append, HQ.out]; simp; omega
    clear hr10 hg10 hb10 hLL
    go_wp2_with fail
    have B10d : Hid (Below W.heap.size W w10.drew) := B10.out.drew
    have R10d : Hid (Rdr w10.drew t t0 (numL (text.length : Int) ++ (text ++ [0])) 0) := R10.out
    clear R10 B10
    have kT := conv_row (P := Try.prog) w10.drew 22 9 5 Try.underlying22 Try.underlying5 Try.underlying9 _ _ (RT.out.under B10d.out (Nat.le_refl _))
    go_region_with (first
      | (go_at_call 15; go_loud (refine (bytes_any t t0 _ 0 _ R10d.out HOO.out (by have := HLN.out; omega)).mono ?_; rintro y w11 ⟨v11, rfl, ho11, hc11, hr11⟩; rw [HBF.out.2.1] at ho11; rw [HBF.out.1, HBF.out.2.2] at hr11; obtain ⟨p11, c11, rfl⟩ := ho11.form; have B11 := Lib.hid (B10d.out.trans (hc11.below G10.out B10d.out.size)); have k11 := conv_row (P := Try.prog) w11 22 9 5 Try.underlying22 Try.underlying5 Try.underlying9 _ _ ho11.row; have kT11 := conv_row (P := Try.prog) w11 22 9 5 Try.underlying22 Try.underlying5 Try.underlying9 _ _ (RT.out.under B11.out (Nat.le_refl _)); have RB := Lib.hid hr11; clear ho11 hc11 hr11))
      | (go_at_call 10; refine (err_any t t0 _ _ _ (by first | exact RE.out | exact RB.out)).mono ?_; rintro y w12 ⟨rfl, rfl⟩)
      | (go_at_call 13; refine (left_any t t0 _ _ _ RB.out).mono ?_; rintro y w12 ⟨rfl, rfl⟩)
      | (go_at_call 11; go_loud (refine (end_any t t0 _ _ _ RB.out (by simp)).mono ?_; rintro y w13 ⟨rfl, hc13, hr13⟩; rw [show endE [0] 0 = 41 from rfl] at hr13 ⊢; have B13 := Lib.hid (B11.out.trans (hc13.below G10.out B11.out.size)); have RE := Lib.hid hr13; clear hc13 hr13))
      | (go_at_call 16; go_loud (refine (bool_any t t0 _ _ _ RE.out (by intro a ha; simp at ha; omega) (by simp)).mono ?_; rintro y w14 ⟨rfl, hc14, _⟩; rw [bool_41]; have B14 := Lib.hid (B13.out.trans (hc14.below G10.out B13.out.size)); clear hc14)))
    all_goals
      go_wp2_with fail
      go_ret
      exact ⟨rfl, B14.out⟩
  · have hg' : (500 : Int) < (text.length : Int) := by omega
    clear hg
    go_enter Try.func5, Try.ntmps5
    go_wp2_with fail
    refine (writes_any W).mono ?_
    rintro y w0 ⟨rfl, hb0⟩
    go_wp2_with fail
    go_ret
    exact ⟨rfl, hb0⟩
end Go.Proofs.Ytckbbdfmacjohab
