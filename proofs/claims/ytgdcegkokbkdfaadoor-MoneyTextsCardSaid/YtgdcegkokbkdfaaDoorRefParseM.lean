/- contraref01.Parse, of a text with a minus. -/
import Derived.Test.YtgdcegkokbkdfaaDoorRefParse
namespace Go.Proofs.YtgdcegkokbkdfaaDoor
open Go.RowKit Go.Lib

set_option maxHeartbeats 4000000 in
set_option maxRecDepth 100000 in
theorem refparse_minus (s : ByteArray) (w : World) (hs : s.size ≤ 300) (h4 : 4 + 1 ≤ s.size) (h45 : (((s[0]'(by omega)).toNat : Int) == 45) = true) (h46 : (s[s.size - 3]'(by omega)).toNat = 46) (h48 : s.size = 4 + 1 ∨ (((s[1]'(by omega)).toNat : Int) == 48) = false) :
    Calls Tryd.prog 22 #[.string s] w fun e w' => e = .returned (.tuple #[.int .i64 (refAns true (scan s.data.toList (s.size - 3) 1 (s.size - 1) [])).1, .int .i64 (refAns true (scan s.data.toList (s.size - 3) 1 (s.size - 1) [])).2]) ∧ Below w.heap.size w w' := by
  obtain ⟨i0, hi0, hz0, hz1, hz2⟩ := info_parts info_int
  have hE : s.toList.isEmpty = false := by
    rw [ByteArray.toList_eq]; cases h : s.data.toList with
    | nil => have : s.data.toList.length = s.size := by cases s; rfl
             rw [h] at this; simp at this; omega
    | cons => rfl
  generalize hsc : scan s.data.toList (s.size - 3) 1 (s.size - 1) [] = sc
  have HSC := Lib.hid hsc
  clear hsc
  by_cases h5 : 4 + 1 < s.size
  all_goals
    first | replace h48 := h48.resolve_left (by omega) | clear h48
    go_enter Tryd.func22, Tryd.ntmps22
    go_wp2
    skip
    have hP0 : PRel w true (.slice none 0 0) [] (w.alloc (.cells #[.bool true, .slice none 0 0] 34)) := ⟨Blk.new w _ _, World.ownsRow_nil _ _ _ _, oneB _ _, by simp, fun d hd => by cases hd⟩
    have HP0 := Lib.hid hP0
    clear hP0
    go_loopw [7] (fun v7 wr => ∃ (k : Nat) (xs : List Int) (sl : Value), v7 = .int .i64 (((1 + k : Nat) : Int) - 1) ∧ 1 + k ≤ s.size ∧ xs.length + k ≤ 300 ∧ Hid (scan s.data.toList (s.size - 3) 1 k xs = sc) ∧ Hid (PRel w true sl xs wr)) (fun v7 _ => (RowKit.intOf v7 + 1).toNat)
    case atStart => exact ⟨s.size - 1, [], _, by congr 1; omega, by omega, by simp; omega, HSC, HP0⟩
    case round =>
      obtain ⟨k, xs, sl, rfl, hk, hxl, hscan, HP⟩ := hrel
      have hc0 := HP.out.1.cell 0
      have hc1 := HP.out.1.cell 1
      have hfr := HP.out.1.free 1
      obtain ⟨p, c, rfl⟩ := owned_slice HP.out.2.1
      cases k with
      | zero =>
        have hsx : sc = some xs := hscan.out.symm
        subst hsx
        have HROW := Lib.hid (Row.owned HP.out.2.1)
        have hl3 : xs.length ≤ 300 := by omega
        go_wp2_with fail
        refine (trim_at _ _ xs _ (by omega) HROW.out).mono ?_
        rintro e w1 ⟨rfl, rfl⟩
        have HSET := Lib.hid (HP.out.1.set 1 (.slice p (trimL xs).length c))
        have HRS := Lib.hid (Row.trim (Row.owned (ownsRow_setCell_below HP.out.2.1 (a := ⟨w.heap.size, 1, none⟩) (by simp) (.slice p (trimL xs).length c))))
        have hs0 := HSET.out.cell 0
        have hs1 := HSET.out.cell 1
        have HBS := Lib.hid (HP.out.2.2.1.setCell (p := ⟨w.heap.size, 1, none⟩) (by simp) (.slice p (trimL xs).length c))
        by_cases ht : trimL xs = []
        · have hL : (trimL xs).length = 0 := by rw [ht]; rfl
          have HT := Lib.hid ht
          clear ht
          rw [hL] at hs1 HBS
          rw [hL]
          go_wp2
          go_ret2
          exact ⟨by rw [refAns_em _ xs ⟨rfl, HT.out⟩]; rfl, HBS.out⟩
        · have HE : Hid (trimL xs ≠ []) := ht
          have hpos : (((trimL xs).length : Int) == 0) = false := by
            have : (trimL xs).length ≠ 0 := fun h => ht (List.length_eq_zero_iff.1 h)
            simp; omega
          clear ht
          go_wp2_with fail
          refine (fits_neg (.slice p (trimL xs).length c) (trimL xs) _ (trimL_spec xs.length xs rfl HP.out.2.2.2.2).1 (by have := trimL_le xs; omega) HRS.out).mono ?_
          rintro e w2 ⟨rfl, hb2⟩
          have HB2 := Lib.hid hb2
          clear hb2
          by_cases hf : fitsB (-val (trimL xs)) = true
          all_goals
            (try simp only [Bool.not_eq_true] at hf)
            rw [hf]
            go_wp2
            go_ret2
            refine ⟨?_, (HBS.out.trans (HB2.out.mono (by have := HBS.out.size; simpa using this)))⟩
            first | (rw [refAns_yes true xs (fun h => HE.out h.2) hf]; exact ret_pair (sumN_yes (by simpa [fitsB] using hf)) rfl) | (rw [refAns_no true xs (fun h => HE.out h.2) hf]; rfl)
      | succ k =>
        obtain ⟨i, hi⟩ : ∃ i, 1 + k = i := ⟨_, rfl⟩
        have e : (((1 + (k + 1) : Nat) : Int) - 1) = (i : Int) := by omega
        rw [e]
        have hil : i < s.size := by omega
        have hgd := getD_at s i hil
        by_cases hq : i = s.size - 3
        · have hq' : ((i : Int) == (s.size : Int) - 3) = true := by simp; omega
          have hsc2 : Hid (scan s.data.toList (s.size - 3) 1 k xs = sc) := by
            have := hscan.out
            rwa [scan, if_pos (by omega)] at this
          go_wp2
          go_roundw
          case rel => exact ⟨k, xs, _, by congr 1 <;> omega, by omega, by omega, hsc2, HP⟩
          case measure => simp [RowKit.intOf]; omega
        · have hq' : ((i : Int) == (s.size : Int) - 3) = false := by simp; omega
          by_cases hdg : 48 ≤ (s[i]'hil).toNat ∧ (s[i]'hil).toNat ≤ 57
          · have a1 : IntKind.u8.wrap (((s[i]'hil).toNat : Int) - 48) = ((s[i]'hil).toNat : Int) - 48 := by rw [u8_wrap]; omega
            have a2 : IntKind.i64.wrap (((s[i]'hil).toNat : Int) - 48) = ((s[i]'hil).toNat : Int) - 48 := i64_keep (by omega) (by omega)
            have hsc2 : Hid (scan s.data.toList (s.size - 3) 1 k (xs ++ [((s[i]'hil).toNat : Int) - 48]) = sc) := by
              have := hscan.out
              rw [scan, if_neg (by omega), hi, hgd, if_pos hdg] at this
              exact this
            have C3 : Hid (xs.length + 1 ≤ maxLen) := by show _ ≤ _; unfold maxLen; omega
            have C4 : Hid ((xs.length + 1) * 8 ≤ 140737488355328) := by show _ ≤ _; omega
            have C5 : Hid (∀ o : Obj, w.heap.size + 1 ≤ (wr.alloc o).heap.size) := fun o => by have := HP.out.2.2.2.1; simp; omega
            have C6 : Hid (0 ≤ ((s[i]'hil).toNat : Int) - 48 ∧ ((s[i]'hil).toNat : Int) - 48 ≤ 9) := by show _ ∧ _; omega
            go_wp2_with fail
            have PA := Lib.hid (HP.out.alloc (.cells #[(.int .i64 (((s[i]'hil).toNat : Int) - 48))] 3))
            have N1 := Lib.hid (one_new wr (.int .i64 (((s[i]'hil).toNat : Int) - 48)) 3)
            have N2 : Hid (∀ (j : Nat) (u : Value), [Value.int .i64 (((s[i]'hil).toNat : Int) - 48)][j]? = some u → (wr.alloc (.cells #[(.int .i64 (((s[i]'hil).toNat : Int) - 48))] 3)).drew.cell? ((⟨wr.heap.size, 0, none⟩ : Addr).add j) = some u) := one_new wr (.int .i64 (((s[i]'hil).toNat : Int) - 48)) 3
            have hc2 : (wr.alloc (.cells #[(.int .i64 (((s[i]'hil).toNat : Int) - 48))] 3)).cell? ⟨w.heap.size, 1, none⟩ = some (.slice p xs.length c) := PA.out.1.cell 1
            have S2 : Hid (w.heap.size + 1 ≤ (wr.alloc (.cells #[(.int .i64 (((s[i]'hil).toNat : Int) - 48))] 3)).drew.heap.size) := PA.out.drew.2.2.2.1
            go_region_law (refine step_append_own rfl (.tmp 67) (.tmp 73) 32 rfl (w.heap.size + 1) 3 i0 (.int .i64 0) 1 8 Tryd.underlying32 hi0 hz0 hz1 hz2 rfl (by decide) (.slice p xs.length c) xs.length (xs.map (Value.int .i64)) (by simp [Act.eval]) (by first | exact PA.out.drew.2.1 | exact PA.out.2.1) ⟨wr.heap.size, 0, none⟩ 1 1 [(.int .i64 (((s[i]'hil).toNat : Int) - 48))] (by simp [Act.eval]) rfl (by first | exact N2.out | exact N1.out) (one_cells _ _) C3.out C4.out (by first | exact S2.out | exact PA.out.2.2.2.1) ?_; intro v' w1 hown hgrow _; (first | have hst := PRel.step PA.out.drew _ C6.out hown hgrow | have hst := PRel.step PA.out _ C6.out hown hgrow); obtain ⟨p', c', rfl⟩ := owned_slice hown; have hcw : w1.cell? ⟨w.heap.size, 1, none⟩ = some (.slice p xs.length c) := hst.2.cell 1; have hfw := hst.2.free 1; have HST := Lib.hid hst.1; clear hst hown hgrow)
            all_goals
              go_wp2
              go_roundw
              case rel => exact ⟨k, xs ++ [((s[i]'hil).toNat : Int) - 48], _, by congr 1 <;> omega, by omega, by simp; omega, hsc2, by first | exact HST | exact HST.out.drew⟩
              case measure => simp [RowKit.intOf]; try omega
          · have hsc2 : sc = none := by
              have := hscan.out
              rw [scan, if_neg (by omega), hi, hgd, if_neg hdg] at this
              exact this.symm
            subst hsc2
            have HB := Lib.hid HP.out.2.2.1
            clear hc0 hc1 hfr hgd
            by_cases hlo : (s[i]'hil).toNat < 48
            · go_wp2
              go_ret2
              exact ⟨rfl, HB.out⟩
            · have hhi : 57 < (s[i]'hil).toNat := by omega
              go_wp2
              go_ret2
              exact ⟨rfl, HB.out⟩
end Go.Proofs.YtgdcegkokbkdfaaDoor
