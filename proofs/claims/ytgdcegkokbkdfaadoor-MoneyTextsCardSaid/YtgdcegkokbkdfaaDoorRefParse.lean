/- contraref01.Parse: an amount read from its text, digit by digit from the end. -/
import Derived.Test.YtgdcegkokbkdfaaDoorRefText
import Derived.Test.YtgdcegkokbkdfaaDoorFits
import Derived.Test.YtgdcegkokbkdfaaDoorParse
import Derived.Test.YtgdcegkokbkdfaaDoorStep
namespace Go.Proofs.YtgdcegkokbkdfaaDoor
open Go.RowKit Go.Lib

/-- The digits of the letters from place lo on, k of them, read from the last; the letter at q is passed over. -/
def scan (l : List UInt8) (q lo : Nat) : Nat → List Int → Option (List Int)
  | 0, xs => some xs
  | k + 1, xs => if lo + k = q then scan l q lo k xs else
      if 48 ≤ (l.getD (lo + k) 0).toNat ∧ (l.getD (lo + k) 0).toNat ≤ 57 then scan l q lo k (xs ++ [((l.getD (lo + k) 0).toNat : Int) - 48]) else none
def sgn (m : Bool) (v : Int) : Int := if m then -v else v
/-- What is answered once the digits are read. -/
def refAns (m : Bool) : Option (List Int) → Int × Int
  | none => (0, 41)
  | some xs => if m = true ∧ trimL xs = [] then (0, 41) else if fitsB (sgn m (val (trimL xs))) = true then (sgn m (val (trimL xs)), 0) else (0, 10)

theorem refAns_em (m : Bool) (xs : List Int) (he : m = true ∧ trimL xs = []) : refAns m (some xs) = (0, 41) := by rw [refAns, if_pos he]
theorem refAns_yes (m : Bool) (xs : List Int) (he : ¬ (m = true ∧ trimL xs = [])) (hf : fitsB (sgn m (val (trimL xs))) = true) : refAns m (some xs) = (sgn m (val (trimL xs)), 0) := by rw [refAns, if_neg he, if_pos hf]
theorem refAns_no (m : Bool) (xs : List Int) (he : ¬ (m = true ∧ trimL xs = [])) (hf : fitsB (sgn m (val (trimL xs))) = false) : refAns m (some xs) = (0, 10) := by rw [refAns, if_neg he, if_neg (by rw [hf]; decide)]
theorem getD_at (s : ByteArray) (i : Nat) (h : i < s.size) : s.data.toList.getD i 0 = s[i] := by
  cases s with
  | mk d =>
    rw [List.getD_eq_getElem?_getD, List.getElem?_eq_getElem (show i < d.toList.length from h)]
    rfl
theorem trimL_pref (zs : List Int) : trimL zs = zs.take (trimL zs).length := by
  refine List.prefix_iff_eq_take.1 ?_
  have h : zs.reverse.dropWhile (· == 0) <:+ zs.reverse := List.dropWhile_suffix _
  have := List.reverse_prefix.2 h
  simpa [trimL] using this
theorem trimL_le (zs : List Int) : (trimL zs).length ≤ zs.length := by
  have := congrArg List.length (trimL_pref zs)
  rw [List.length_take] at this; omega
theorem Row.trim {w : World} {p : Option Addr} {c : Nat} {zs : List Int} (h : Row .i64 w (.slice p zs.length c) zs) : Row .i64 w (.slice p (trimL zs).length c) (trimL zs) := by
  have := Row.take h (trimL_le zs)
  rwa [← trimL_pref] at this
set_option maxHeartbeats 1000000 in
theorem trim_at (p : Option Addr) (c : Nat) (zs : List Int) (w : World) (hm : zs.length ≤ 1000000) (hrow : Row .i64 w (.slice p zs.length c) zs) :
    Calls Tryd.prog 27 #[.slice p zs.length c] w fun e w' => e = .returned (.slice p (trimL zs).length c) ∧ w = w' := by
  obtain ⟨p_, c_, e_, hcap, _⟩ := id hrow
  cases e_
  have HR := Lib.hid hrow
  clear hrow
  generalize hn : zs.length = n at *
  have HN := Lib.hid hn
  clear hn
  go_enter Tryd.func27, Tryd.ntmps27
  go_wp2
  go_loop [3] (fun vn => ∃ k : Nat, k ≤ n ∧ vn = .int .i64 k ∧ Hid (∀ j, k ≤ j → j < n → zs.getD j 0 = 0)) (fun vn => (RowKit.intOf vn).toNat)
  case atStart => exact ⟨n, Nat.le_refl _, rfl, fun j a b => by omega⟩
  case round =>
    obtain ⟨k, hk, rfl, hz⟩ := hrel
    have fin : (k = 0 ∨ zs.getD (k - 1) 0 ≠ 0) → Ending.returned (.slice p k c) = .returned (.slice p (trimL zs).length c) := fun h => by
      have hn := HN.out
      rw [trimL_of k (by omega) (fun j a b => hz.out j a (by omega)), trimL_take k (by omega) h, List.length_take, Nat.min_eq_left (by omega)]
    have FIN := Lib.hid fin
    clear fin
    by_cases h0 : k = 0
    · subst h0
      go_wp2
      go_ret
      exact ⟨FIN.out (by simp), rfl⟩
    · obtain ⟨b, o, rfl, hc⟩ := HR.out.at (k - 1) (by rw [HN.out]; omega)
      by_cases hd : zs.getD (k - 1) 0 = 0
      · have HD := Lib.hid hd
        rw [hd] at hc
        clear hd
        go_wp2
        go_round
        case rel => exact ⟨k - 1, by omega, by go_num, fun j a b => by
          by_cases e : j = k - 1
          · rw [e]; exact HD.out
          · exact hz.out j (by omega) b⟩
        case measure => simp [RowKit.intOf]; omega
      · have HD := Lib.hid hd
        have hb : (zs.getD (k - 1) 0 == 0) = false := by simpa using hd
        generalize zs.getD (k - 1) 0 = d at *
        clear hd
        go_wp2
        go_ret
        exact ⟨FIN.out (.inr HD.out), rfl⟩
def PRel (w : World) (m : Bool) (sl : Value) (xs : List Int) (wr : World) : Prop :=
  Blk wr w.heap.size #[.bool m, sl] 34 ∧ wr.ownsRow (w.heap.size + 1) 3 1 sl xs.length (xs.map (Value.int .i64)) ∧ Below w.heap.size w wr ∧ w.heap.size + 1 ≤ wr.heap.size ∧ IsDigs xs
theorem i64_keep {x : Int} (h0 : -9223372036854775808 ≤ x) (h1 : x ≤ 9223372036854775807) : IntKind.i64.wrap x = x := by
  have e : IntKind.i64.wrap x = (if (true && decide (x % 18446744073709551616 ≥ 9223372036854775808)) = true then x % 18446744073709551616 - 18446744073709551616 else x % 18446744073709551616) := rfl
  rw [e]; simp only [Bool.true_and, decide_eq_true_eq]; split <;> omega
theorem PRel.alloc {w wr : World} {m : Bool} {sl : Value} {xs : List Int} (h : PRel w m sl xs wr) (o : Obj) : PRel w m sl xs (wr.alloc o) := by
  obtain ⟨h1, h2, h3, h4, h5⟩ := h
  exact ⟨h1.alloc o, h2.alloc o, h3.alloc (by omega) o, by simp; omega, h5⟩
theorem PRel.drew {w wr : World} {m : Bool} {sl : Value} {xs : List Int} (h : PRel w m sl xs wr) : PRel w m sl xs wr.drew := by
  obtain ⟨h1, h2, h3, h4, h5⟩ := h
  exact ⟨h1.drew, h2, h3.drew, h4, h5⟩
theorem PRel.step {w wr w1 : World} {m : Bool} {sl s' : Value} {xs : List Int} (h : PRel w m sl xs wr) (d : Int) (hd : 0 ≤ d ∧ d ≤ 9)
    (hown : w1.ownsRow (w.heap.size + 1) 3 1 s' (xs.length + 1) (xs.map (Value.int .i64) ++ [.int .i64 d])) (hg : wr.grownBy w1 sl.ownBlock) :
    PRel w m s' (xs ++ [d]) (w1.setCell ⟨w.heap.size, 1, none⟩ s') ∧ Blk w1 w.heap.size #[.bool m, sl] 34 := by
  obtain ⟨h1, h2, h3, h4, h5⟩ := h
  have g1 := h1.grown hg (ownBlock_ne h2 (by omega))
  refine ⟨⟨g1.set 1 s', ?_, (h3.grown hg (by omega) (fun k hk => by have := (h2.lt k hk).1; omega)).setCell (by simp) _, ?_, fun x hx => ?_⟩, g1⟩
  · have := ownsRow_setCell_below hown (a := ⟨w.heap.size, 1, none⟩) (by simp) s'
    simpa using this
  · have := hg.size; simp at this ⊢; omega
  · rcases List.mem_append.1 hx with hx | hx
    · exact h5 x hx
    · simp at hx; subst hx; exact hd

set_option maxHeartbeats 4000000 in
set_option maxRecDepth 100000 in
theorem refparse_plus (s : ByteArray) (w : World) (hs : s.size ≤ 300) (h4 : 4 + 0 ≤ s.size) (h45 : (((s[0]'(by omega)).toNat : Int) == 45) = false) (h46 : (s[s.size - 3]'(by omega)).toNat = 46) (h48 : s.size = 4 + 0 ∨ (((s[0]'(by omega)).toNat : Int) == 48) = false) :
    Calls Tryd.prog 22 #[.string s] w fun e w' => e = .returned (.tuple #[.int .i64 (refAns false (scan s.data.toList (s.size - 3) 0 (s.size - 0) [])).1, .int .i64 (refAns false (scan s.data.toList (s.size - 3) 0 (s.size - 0) [])).2]) ∧ Below w.heap.size w w' := by
  obtain ⟨i0, hi0, hz0, hz1, hz2⟩ := info_parts info_int
  have hE : s.toList.isEmpty = false := by
    rw [ByteArray.toList_eq]; cases h : s.data.toList with
    | nil => have : s.data.toList.length = s.size := by cases s; rfl
             rw [h] at this; simp at this; omega
    | cons => rfl
  generalize hsc : scan s.data.toList (s.size - 3) 0 (s.size - 0) [] = sc
  have HSC := Lib.hid hsc
  clear hsc
  by_cases h5 : 4 + 0 < s.size
  all_goals
    first | replace h48 := h48.resolve_left (by omega) | clear h48
    go_enter Tryd.func22, Tryd.ntmps22
    go_wp2
    skip
    have hP0 : PRel w false (.slice none 0 0) [] (w.alloc (.cells #[.bool false, .slice none 0 0] 34)) := ⟨Blk.new w _ _, World.ownsRow_nil _ _ _ _, oneB _ _, by simp, fun d hd => by cases hd⟩
    have HP0 := Lib.hid hP0
    clear hP0
    go_loopw [7] (fun v7 wr => ∃ (k : Nat) (xs : List Int) (sl : Value), v7 = .int .i64 (((0 + k : Nat) : Int) - 1) ∧ 0 + k ≤ s.size ∧ xs.length + k ≤ 300 ∧ Hid (scan s.data.toList (s.size - 3) 0 k xs = sc) ∧ Hid (PRel w false sl xs wr)) (fun v7 _ => (RowKit.intOf v7 + 1).toNat)
    case atStart => exact ⟨s.size - 0, [], _, by congr 1; omega, by omega, by simp; omega, HSC, HP0⟩
    case round =>
      obtain ⟨k, xs, sl, rfl, hk, hxl, hscan, HP⟩ := hrel
      have hc0 := HP.out.1.cell 0
      have hc1 := HP.out.1.cell 1
      have hfr := HP.out.1.free 1
      obtain ⟨p, c, rfl⟩ := owned_slice HP.out.2.1
      cases k with
      | zero =>
        have hsx : sc = some xs := hscan.out.symm
        subst hsx
        have HROW := Lib.hid (Row.owned HP.out.2.1)
        have hl3 : xs.length ≤ 300 := by omega
        go_wp2_with fail
        refine (trim_at _ _ xs _ (by omega) HROW.out).mono ?_
        rintro e w1 ⟨rfl, rfl⟩
        have HSET := Lib.hid (HP.out.1.set 1 (.slice p (trimL xs).length c))
        have HRS := Lib.hid (Row.trim (Row.owned (ownsRow_setCell_below HP.out.2.1 (a := ⟨w.heap.size, 1, none⟩) (by simp) (.slice p (trimL xs).length c))))
        have hs0 := HSET.out.cell 0
        have hs1 := HSET.out.cell 1
        have HBS := Lib.hid (HP.out.2.2.1.setCell (p := ⟨w.heap.size, 1, none⟩) (by simp) (.slice p (trimL xs).length c))
        have HE : ¬ (false = true ∧ trimL xs = []) := fun h => by simp at h
        go_wp2_with fail
        refine (fits_pos (.slice p (trimL xs).length c) (trimL xs) _ (trimL_spec xs.length xs rfl HP.out.2.2.2.2).1 (by have := trimL_le xs; omega) HRS.out).mono ?_
        rintro e w2 ⟨rfl, hb2⟩
        have HB2 := Lib.hid hb2
        clear hb2
        by_cases hf : fitsB (val (trimL xs)) = true
        all_goals
          (try simp only [Bool.not_eq_true] at hf)
          rw [hf]
          go_wp2
          go_ret2
          refine ⟨?_, (HBS.out.trans (HB2.out.mono (by have := HBS.out.size; simpa using this)))⟩
          first | (rw [refAns_yes false xs HE hf]; exact ret_pair (sumN_yes (by simpa [fitsB] using hf)) rfl) | (rw [refAns_no false xs HE hf]; rfl)
      | succ k =>
        obtain ⟨i, hi⟩ : ∃ i, 0 + k = i := ⟨_, rfl⟩
        have e : (((0 + (k + 1) : Nat) : Int) - 1) = (i : Int) := by omega
        rw [e]
        have hil : i < s.size := by omega
        have hgd := getD_at s i hil
        by_cases hq : i = s.size - 3
        · have hq' : ((i : Int) == (s.size : Int) - 3) = true := by simp; omega
          have hsc2 : Hid (scan s.data.toList (s.size - 3) 0 k xs = sc) := by
            have := hscan.out
            rwa [scan, if_pos (by omega)] at this
          go_wp2
          go_roundw
          case rel => exact ⟨k, xs, _, by congr 1 <;> omega, by omega, by omega, hsc2, HP⟩
          case measure => simp [RowKit.intOf]; omega
        · have hq' : ((i : Int) == (s.size : Int) - 3) = false := by simp; omega
          by_cases hdg : 48 ≤ (s[i]'hil).toNat ∧ (s[i]'hil).toNat ≤ 57
          · have a1 : IntKind.u8.wrap (((s[i]'hil).toNat : Int) - 48) = ((s[i]'hil).toNat : Int) - 48 := by rw [u8_wrap]; omega
            have a2 : IntKind.i64.wrap (((s[i]'hil).toNat : Int) - 48) = ((s[i]'hil).toNat : Int) - 48 := i64_keep (by omega) (by omega)
            have hsc2 : Hid (scan s.data.toList (s.size - 3) 0 k (xs ++ [((s[i]'hil).toNat : Int) - 48]) = sc) := by
              have := hscan.out
              rw [scan, if_neg (by omega), hi, hgd, if_pos hdg] at this
              exact this
            have C3 : Hid (xs.length + 1 ≤ maxLen) := by show _ ≤ _; unfold maxLen; omega
            have C4 : Hid ((xs.length + 1) * 8 ≤ 140737488355328) := by show _ ≤ _; omega
            have C5 : Hid (∀ o : Obj, w.heap.size + 1 ≤ (wr.alloc o).heap.size) := fun o => by have := HP.out.2.2.2.1; simp; omega
            have C6 : Hid (0 ≤ ((s[i]'hil).toNat : Int) - 48 ∧ ((s[i]'hil).toNat : Int) - 48 ≤ 9) := by show _ ∧ _; omega
            go_wp2_with fail
            have PA := Lib.hid (HP.out.alloc (.cells #[(.int .i64 (((s[i]'hil).toNat : Int) - 48))] 3))
            have N1 := Lib.hid (one_new wr (.int .i64 (((s[i]'hil).toNat : Int) - 48)) 3)
            have N2 : Hid (∀ (j : Nat) (u : Value), [Value.int .i64 (((s[i]'hil).toNat : Int) - 48)][j]? = some u → (wr.alloc (.cells #[(.int .i64 (((s[i]'hil).toNat : Int) - 48))] 3)).drew.cell? ((⟨wr.heap.size, 0, none⟩ : Addr).add j) = some u) := one_new wr (.int .i64 (((s[i]'hil).toNat : Int) - 48)) 3
            have hc2 : (wr.alloc (.cells #[(.int .i64 (((s[i]'hil).toNat : Int) - 48))] 3)).cell? ⟨w.heap.size, 1, none⟩ = some (.slice p xs.length c) := PA.out.1.cell 1
            have S2 : Hid (w.heap.size + 1 ≤ (wr.alloc (.cells #[(.int .i64 (((s[i]'hil).toNat : Int) - 48))] 3)).drew.heap.size) := PA.out.drew.2.2.2.1
            go_region_law (refine step_append_own rfl (.tmp 67) (.tmp 73) 32 rfl (w.heap.size + 1) 3 i0 (.int .i64 0) 1 8 Tryd.underlying32 hi0 hz0 hz1 hz2 rfl (by decide) (.slice p xs.length c) xs.length (xs.map (Value.int .i64)) (by simp [Act.eval]) (by first | exact PA.out.drew.2.1 | exact PA.out.2.1) ⟨wr.heap.size, 0, none⟩ 1 1 [(.int .i64 (((s[i]'hil).toNat : Int) - 48))] (by simp [Act.eval]) rfl (by first | exact N2.out | exact N1.out) (one_cells _ _) C3.out C4.out (by first | exact S2.out | exact PA.out.2.2.2.1) ?_; intro v' w1 hown hgrow _; (first | have hst := PRel.step PA.out.drew _ C6.out hown hgrow | have hst := PRel.step PA.out _ C6.out hown hgrow); obtain ⟨p', c', rfl⟩ := owned_slice hown; have hcw : w1.cell? ⟨w.heap.size, 1, none⟩ = some (.slice p xs.length c) := hst.2.cell 1; have hfw := hst.2.free 1; have HST := Lib.hid hst.1; clear hst hown hgrow)
            all_goals
              go_wp2
              go_roundw
              case rel => exact ⟨k, xs ++ [((s[i]'hil).toNat : Int) - 48], _, by congr 1 <;> omega, by omega, by simp; omega, hsc2, by first | exact HST | exact HST.out.drew⟩
              case measure => simp [RowKit.intOf]; try omega
          · have hsc2 : sc = none := by
              have := hscan.out
              rw [scan, if_neg (by omega), hi, hgd, if_neg hdg] at this
              exact this.symm
            subst hsc2
            have HB := Lib.hid HP.out.2.2.1
            clear hc0 hc1 hfr hgd
            by_cases hlo : (s[i]'hil).toNat < 48
            · go_wp2
              go_ret2
              exact ⟨rfl, HB.out⟩
            · have hhi : 57 < (s[i]'hil).toNat := by omega
              go_wp2
              go_ret2
              exact ⟨rfl, HB.out⟩
end Go.Proofs.YtgdcegkokbkdfaaDoor
