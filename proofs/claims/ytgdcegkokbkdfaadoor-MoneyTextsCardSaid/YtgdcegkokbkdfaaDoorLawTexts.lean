/- MoneyTexts: the walk. -/
import Derived.Test.YtgdcegkokbkdfaaDoorRefParseB
import Derived.Test.YtgdcegkokbkdfaaDoorTextPure
import Derived.Test.YtgdcegkokbkdfaaDoorCounts
namespace Go.Proofs.YtgdcegkokbkdfaaDoor
open Go.RowKit Go.Lib

theorem size_len (s : ByteArray) : s.data.toList.length = s.size := by cases s; rfl
theorem refparse_any (s : ByteArray) (w : World) (hs : s.size ≤ 300) :
    Calls Tryd.prog 22 #[.string s] w fun e w' => e = .returned (.tuple #[.int .i64 (refP s.data.toList).1, .int .i64 (refP s.data.toList).2]) ∧ Below w.heap.size w w' := by
  have hl := size_len s
  have bad : ∀ {x : Int × Int}, x = (0, 41) → Calls Tryd.prog 22 #[.string s] w (fun e w' => e = .returned (.tuple #[.int .i64 0, .int .i64 41]) ∧ Below w.heap.size w w') →
      Calls Tryd.prog 22 #[.string s] w (fun e w' => e = .returned (.tuple #[.int .i64 x.1, .int .i64 x.2]) ∧ Below w.heap.size w w') := fun e h => by rw [e]; exact h
  by_cases h0 : s.size = 0
  · refine bad ?_ (refparse_empty s w hs h0)
    have : s.data.toList = [] := List.length_eq_zero_iff.1 (by omega)
    rw [this]; rfl
  · have g0 := getD_at s 0 (by omega)
    unfold refP
    by_cases h45 : (s.data.toList.getD 0 0).toNat = 45
    · rw [if_pos h45]
      have f45 : (((s[0]'(by omega)).toNat : Int) == 45) = true := by rw [g0] at h45; rw [beq_iff_eq]; omega
      have hb : (s.data.toList.drop 1).length = s.size - 1 := by rw [List.length_drop, hl]
      have gb : ∀ j, (s.data.toList.drop 1).getD j 0 = s.data.toList.getD (1 + j) 0 := fun j => by rw [List.getD_eq_getElem?_getD, List.getD_eq_getElem?_getD, List.getElem?_drop]
      by_cases h4 : s.size < 5
      · refine bad ?_ (refparse_m1 s w hs (by omega) f45 h4)
        rw [refB, if_neg (by rw [hb]; omega)]
      · have gq := getD_at s (s.size - 3) (by omega)
        have g1 := getD_at s 1 (by omega)
        have eq : (s.data.toList.drop 1).getD (s.size - 1 - 3) 0 = s[s.size - 3]'(by omega) := by rw [gb, show 1 + (s.size - 1 - 3) = s.size - 3 by omega, gq]
        have e1 : (s.data.toList.drop 1).getD 0 0 = s[1]'(by omega) := by rw [gb]; exact g1
        by_cases h46 : (s[s.size - 3]'(by omega)).toNat = 46
        · by_cases h48 : s.size = 5 ∨ (s[1]'(by omega)).toNat ≠ 48
          · rw [refB, if_pos (by rw [hb, eq, e1]; exact ⟨by omega, h46, by rcases h48 with h | h; exact .inl (by omega); exact .inr h⟩)]
            have es : scan (s.data.toList.drop 1) ((s.data.toList.drop 1).length - 3) 0 (s.data.toList.drop 1).length [] = scan s.data.toList (s.size - 3) 1 (s.size - 1) [] := by
              have := scan_pre (s.data.toList.take 1) (s.data.toList.drop 1) (s.size - 1 - 3) (s.size - 1) []
              rw [List.take_append_drop, List.length_take, hl, Nat.min_eq_left (by omega), show 1 + (s.size - 1 - 3) = s.size - 3 by omega] at this
              rw [hb, ← this]
            rw [es]
            exact refparse_minus s w hs (by omega) f45 h46 (by rcases h48 with h | h; exact .inl (by omega); exact .inr (by simp; omega))
          · refine bad ?_ (refparse_m3 s w hs (by omega) f45 (by omega) h46 (by simp; omega))
            rw [refB, if_neg (by rw [hb, eq, e1]; rintro ⟨_, _, h | h⟩; exact h48 (.inl (by omega)); exact h48 (.inr h))]
        · refine bad ?_ (refparse_m2 s w hs (by omega) f45 (by omega) (by simp; omega))
          rw [refB, if_neg (by rw [hb, eq]; rintro ⟨_, h, _⟩; exact h46 h)]
    · rw [if_neg h45]
      have f45 : (((s[0]'(by omega)).toNat : Int) == 45) = false := by rw [g0] at h45; rw [beq_eq_false_iff_ne]; omega
      by_cases h4 : s.size < 4
      · refine bad ?_ (refparse_p1 s w hs (by omega) f45 h4)
        rw [refB, if_neg (by rw [hl]; omega)]
      · have gq := getD_at s (s.size - 3) (by omega)
        by_cases h46 : (s[s.size - 3]'(by omega)).toNat = 46
        · by_cases h48 : s.size = 4 ∨ (s[0]'(by omega)).toNat ≠ 48
          · rw [refB, if_pos (by rw [hl, gq, g0]; exact ⟨by omega, h46, h48⟩), hl]
            exact refparse_plus s w hs (by omega) f45 h46 (by rcases h48 with h | h; exact .inl (by omega); exact .inr (by simp; omega))
          · refine bad ?_ (refparse_p3 s w hs (by omega) f45 (by omega) h46 (by simp; omega))
            rw [refB, if_neg (by rw [hl, gq, g0]; rintro ⟨_, _, h⟩; exact h48 h)]
        · refine bad ?_ (refparse_p2 s w hs (by omega) f45 (by omega) (by simp; omega))
          rw [refB, if_neg (by rw [hl, gq]; rintro ⟨_, h, _⟩; exact h46 h)]

theorem text_len {a : Int} (ha : Fits a) : (textL a).length ≤ 30 := by
  unfold Fits at ha
  have := dec_len (a.natAbs / 100) (by omega)
  unfold textL tailL
  split <;> simp <;> omega
set_option maxHeartbeats 2000000 in
set_option maxRecDepth 100000 in
theorem texts_walk (a : Int) (s : ByteArray) (w : World) (ha : Fits a) (_hs : s.size ≤ maxLen) (htab : Pow w) :
    Calls Tryd.prog 7 #[.int .i64 a, .string s] w fun e w' => e = .returned (.bool true) ∧ Below w.heap.size w w' := by
  have HC := Lib.hid (counts_any w htab)
  have HT := Lib.hid htab
  have HA := Lib.hid ha
  clear htab ha
  go_enter Tryd.func7, Tryd.ntmps7
  go_wp2_with fail
  refine HC.out.mono ?_
  rintro e w1 ⟨rfl, hb1⟩
  by_cases hl : s.size ≤ 300
  · have hp1 := fun W => parse_any ⟨(textL a).toArray⟩ W (by have := text_len HA.out; show (textL a).length ≤ _; omega)
    have hp2 := fun W => parse_any s W (by omega)
    have hp3 := fun W => refparse_any s W hl
    rw [show (ByteArray.mk (textL a).toArray).data.toList = textL a from rfl, runV_text a HA.out] at hp1
    rw [refP_runV] at hp3
    have hgood := text_of_runV s.data.toList
    generalize runV s.data.toList 0 false false 0 0 0 = r at *
    obtain ⟨n, f⟩ := r
    have P1 := Lib.hid hp1
    have P2 := Lib.hid hp2
    have P3 := Lib.hid hp3
    have HG := Lib.hid hgood
    clear hp1 hp2 hp3 hgood
    go_wp2_with fail
    refine (text_any a HA.out w1 (powBelow HT.out hb1)).mono ?_
    rintro e w2 ⟨rfl, hb2⟩
    go_wp2_with fail
    refine (P1.out w2).mono ?_
    rintro e w3 ⟨rfl, hb3⟩
    go_wp2_with fail
    refine (reftext_any a HA.out w3).mono ?_
    rintro e w4 ⟨rfl, hb4⟩
    go_wp2_with fail
    refine (P2.out w4).mono ?_
    rintro e w5 ⟨rfl, hb5⟩
    go_wp2_with fail
    refine (P3.out w5).mono ?_
    rintro e w6 ⟨rfl, hb6⟩
    have hB : Hid (Below w.heap.size w w6) := seqB (seqB (seqB (seqB (seqB hb1 hb2) hb3) hb4) hb5) hb6
    clear hb1 hb2 hb3 hb4 hb5 hb6 HC
    by_cases hf : f = 0
    · subst hf
      obtain ⟨hn, ht⟩ := HG.out rfl
      have hs : (ByteArray.mk (textL n).toArray) = s := by
        cases s with
        | mk d =>
          have : (textL n) = d.toList := ht
          rw [this]
      go_wp2_with fail
      refine (text_any n hn w6 (powBelow HT.out hB.out)).mono ?_
      rintro e w7 ⟨rfl, hb7⟩
      rw [hs]
      go_wp2
      go_ret
      exact ⟨rfl, seqB hB.out hb7⟩
    · have hf' : (f != 0) = true := by simpa using hf
      go_wp2
      go_ret
      exact ⟨rfl, hB.out⟩
  · go_wp2
    go_ret
    exact ⟨rfl, hb1⟩
end Go.Proofs.YtgdcegkokbkdfaaDoor
