/- contraref04.Number by contract. -/
import Derived.Test.YtbimbpmdiahhbaaRefRead
namespace Go.Proofs.Ytbimbpmdiahhbaa
open Go.RowKit
/-- What Number answers: the reader, the number. -/
def docAt (xs : List Nat) (at_ : Nat) (e : Int) : Nat := if e = 0 then (if (docL xs).2.2 = 0 then at_ + (docL xs).2.1 else at_) else at_
def docE (xs : List Nat) (e : Int) : Int := if e = 0 then (docL xs).2.2 else e
def docV (xs : List Nat) (e : Int) : Int := if e = 0 then (if (docL xs).2.2 = 0 then (docL xs).1 else 0) else 0
def DocPost (s : ByteArray) (at_ : Nat) (e : Int) (w : World) (x : Ending) (w' : World) : Prop :=
  x = .returned (.tuple #[rdV s (docAt ((bytesOf s).drop at_) at_ e) (docE ((bytesOf s).drop at_) e), .int .i64 (docV ((bytesOf s).drop at_) e)]) ∧ Below w.heap.size w w'
theorem doc_bad {xs : List Nat} {at_ : Nat} {q : Int} (h : docL xs = (0, 0, q)) (hq : q ≠ 0) : docAt xs at_ 0 = at_ ∧ docE xs 0 = q ∧ docV xs 0 = 0 := by
  unfold docAt docE docV; simp [h, hq]
theorem doc_ok {xs : List Nat} {at_ m : Nat} {n : Int} (h : docL xs = (n, m, 0)) : docAt xs at_ 0 = at_ + m ∧ docE xs 0 = 0 ∧ docV xs 0 = n := by
  unfold docAt docE docV; simp [h]
theorem doc_ret {s : ByteArray} {xs : List Nat} {at_ : Nat} {q : Int} (h : docL xs = (0, 0, q)) (hq : q ≠ 0) :
    Ending.returned (.tuple #[rdV s at_ q, .int .i64 0]) = .returned (.tuple #[.agg #[.string s, .int .i64 (docAt xs at_ 0 : Nat), .int .i64 (docE xs 0)], .int .i64 (docV xs 0)]) := by
  obtain ⟨a, b, c⟩ := doc_bad (at_ := at_) h hq
  rw [a, b, c]; rfl
theorem doc_ret_ok {s : ByteArray} {xs : List Nat} {at_ m : Nat} {n : Int} (h : docL xs = (n, m, 0)) :
    Ending.returned (.tuple #[rdV s (at_ + m) 0, .int .i64 n]) = .returned (.tuple #[.agg #[.string s, .int .i64 (docAt xs at_ 0 : Nat), .int .i64 (docE xs 0)], .int .i64 (docV xs 0)]) := by
  obtain ⟨a, b, c⟩ := doc_ok (at_ := at_) h
  rw [a, b, c]; rfl
theorem val_num (N x : Nat) : Value.int .i64 ((N : Int) * 128 + (x : Int) % 128) = Value.int .i64 ((x % 128 + 128 * N : Nat) : Int) := by congr 1; omega
theorem fin_odd (N x : Nat) (h : x % 128 % 2 = 1) : -((N : Int) * 64 + (x : Int) % 128 / 2) - 1 = unzz (x % 128 + 128 * N) := by unfold unzz; rw [if_neg (by omega)]; omega
theorem fin_even (N x : Nat) (h : ¬ x % 128 % 2 = 1) : (N : Int) * 64 + (x : Int) % 128 / 2 = unzz (x % 128 + 128 * N) := by unfold unzz; rw [if_pos (by omega)]; omega
theorem blk_pair (w : World) (a b : Array Value) (T : TypeId) : Blk ((w.alloc (.cells a T)).alloc (.cells b T)) w.heap.size a T := (Blk.new w a T).alloc _
set_option maxHeartbeats 8000000 in
set_option maxRecDepth 100000 in
theorem refnumber_err (s : ByteArray) (at_ : Nat) (e : Int) (w : World) (he : e ≠ 0) :
    Calls Try.prog 28 #[rdV s at_ e] w (DocPost s at_ e w) := by
  have he2 : (e != 0) = true := by simpa using he
  have HE := Lib.hid he
  clear he
  unfold rdV
  go_enter Try.func28, Try.ntmps28
  go_wp2_with fail
  refine bodyPost_ret (v := .tuple #[rdV s at_ e, .int .i64 0]) (by simp [results, Try.results28, go_sem, rdV]) rfl ⟨by unfold docAt docE docV; rw [if_neg HE.out, if_neg HE.out, if_neg HE.out], ?_⟩
  exact ((Below.refl _ _).alloc (Nat.le_refl _) _).alloc (by simp) _
set_option maxHeartbeats 8000000 in
set_option maxRecDepth 100000 in
theorem refnumber_ok (s : ByteArray) (at_ : Nat) (w : World) (ha : at_ ≤ s.size) (hs : s.size ≤ 20000) :
    Calls Try.prog 28 #[rdV s at_ 0] w (DocPost s at_ 0 w) := by
  obtain ⟨xs, hxs⟩ : ∃ xs, xs = (bytesOf s).drop at_ := ⟨_, rfl⟩
  have HXS := Lib.hid hxs
  have HLEN : Hid (xs.length = s.size - at_) := by show _ = _; rw [hxs, List.length_drop, bytesOf_len]
  have HGET : Hid (∀ p (h1 : at_ ≤ p) (h : p < s.size), xs.getD (p - at_) 0 = s[p].toNat) := by
    show ∀ p (h1 : at_ ≤ p) (h : p < s.size), _
    intro p h1 h
    rw [hxs, drop_get, show at_ + (p - at_) = p by omega, bytesOf_get s _ h]
  unfold DocPost
  rw [← hxs]
  clear hxs
  unfold rdV
  go_enter Try.func28, Try.ntmps28
  go_wp2_with fail
  go_loop [4] (fun v => ∃ p : Nat, at_ ≤ p ∧ p ≤ s.size ∧ p ≤ at_ + 10 ∧ v = .int .i64 p ∧ Hid (∀ i, i < p - at_ → 128 ≤ xs.getD i 0)) (fun v => (s.size + 1 - (intOf v).toNat))
  case atStart => exact ⟨at_, by omega, by omega, by omega, rfl, fun i hi => absurd hi (by omega)⟩
  case round =>
    obtain ⟨p, hp1, hp2, hp3, rfl, HJ⟩ := hrel
    by_cases hA : p = at_ + 10
    · have hm : leadN xs 10 = 10 := by
        have h1 := leadN_le xs 10
        rcases Nat.lt_or_ge (leadN xs 10) 10 with h2 | h2
        · have h3 := HJ.out (leadN xs 10) (by omega)
          have h4 := leadN_end xs 10 h2 (by rw [HLEN.out]; omega)
          omega
        · omega
      have HRES : Hid (docL xs = (0, 0, 41)) := by show _ = _; unfold docL; simp only [hm]; rw [if_pos (Or.inl trivial)]
      have e1 : ((p : Int) - (at_ : Int) == 10) = true := by simp; omega
      have e2 : (10 : Int) ≤ (p : Int) - (at_ : Int) := by omega
      clear hm hA
      go_wp2_with fail
      all_goals
      refine bodyPost_ret (v := .tuple #[rdV s at_ 41, .int .i64 0]) (by simp [results, Try.results28, go_sem, rdV]) rfl ⟨doc_ret HRES.out (by decide), ?_⟩
      exact ((Below.refl _ _).alloc (Nat.le_refl _) _).alloc (by simp) _
    · by_cases hB : p = s.size
      · have hm : leadN xs 10 = xs.length := by
          have h1 := leadN_le xs 10
          have h5 := HLEN.out
          rcases Nat.lt_or_ge (leadN xs 10) xs.length with h2 | h2
          · have h3 := HJ.out (leadN xs 10) (by omega)
            have h4 := leadN_end xs 10 (by omega) h2
            omega
          · omega
        have HRES : Hid (docL xs = (0, 0, 40)) := by show _ = _; have := HLEN.out; unfold docL; simp only [hm]; rw [if_neg (by omega), if_pos trivial]
        have e1 : ((p : Int) - (at_ : Int) == 10) = false := by simp; omega
        have e2 : (s.size : Int) ≤ (p : Int) := by omega
        have e3 : ((p : Int) == (s.size : Int)) = true := by simp; omega
        clear hm hA hB
        go_wp2_with fail
        refine bodyPost_ret (v := .tuple #[rdV s at_ 40, .int .i64 0]) (by simp [results, Try.results28, go_sem, rdV]) rfl ⟨doc_ret HRES.out (by decide), ?_⟩
        exact ((Below.refl _ _).alloc (Nat.le_refl _) _).alloc (by simp) _
      · have hlt : p < s.size := by omega
        have hlet := HGET.out p hp1 hlt
        by_cases hC : 128 ≤ s[p].toNat
        · have hC' : (128 : Int) ≤ (s[p].toNat : Int) := by omega
          have e2 : (p : Int) - (at_ : Int) < 10 := by omega
          have e3 : (p : Int) < (s.size : Int) := by omega
          have HN : Hid (∀ i, i < p + 1 - at_ → 128 ≤ xs.getD i 0) := by
            show ∀ i, i < p + 1 - at_ → 128 ≤ xs.getD i 0
            intro i hi
            rcases (show i < p - at_ ∨ i = p - at_ by omega) with h | rfl
            · exact HJ.out i h
            · rw [hlet]; exact hC
          clear hC hlet
          go_wp2_with fail
          go_round
          case rel => exact ⟨p + 1, by omega, by omega, by omega, by go_num, HN⟩
          case measure => simp [intOf]; omega
        · have hm : leadN xs 10 = p - at_ := by
            have h5 := HLEN.out
            exact (leadN_step xs 10 (p - at_) (by omega) (by omega) HJ.out).2 (by rw [hlet]; omega)
          have HM := Lib.hid hm
          have hC' : (s[p].toNat : Int) < 128 := by omega
          have e1 : ((p : Int) - (at_ : Int) == 10) = false := by simp; omega
          have e2 : (p : Int) - (at_ : Int) < 10 := by omega
          have e3 : (p : Int) < (s.size : Int) := by omega
          have e4 : ((p : Int) == (s.size : Int)) = false := by simp; omega
          have HLET := Lib.hid hlet
          clear hm hlet
          by_cases hC1 : p = at_ + 9 ∧ 1 < s[p].toNat
          · have HRES : Hid (docL xs = (0, 0, 41)) := by
              show _ = _
              have h5 := HLEN.out
              unfold docL; simp only [HM.out]; rw [if_pos (Or.inr ⟨by omega, by omega, by rw [HLET.out]; exact hC1.2⟩)]
            have e5 : ((p : Int) - (at_ : Int) == 9) = true := by simp; omega
            have e6 : (1 : Int) < (s[p].toNat : Int) := by omega
            clear hC1 hC hA hB
            go_wp2_with fail
            refine bodyPost_ret (v := .tuple #[rdV s at_ 41, .int .i64 0]) (by simp [results, Try.results28, go_sem, rdV]) rfl ⟨doc_ret HRES.out (by decide), ?_⟩
            exact ((Below.refl _ _).alloc (Nat.le_refl _) _).alloc (by simp) _
          · by_cases hC2 : at_ < p ∧ s[p].toNat = 0
            · have HRES : Hid (docL xs = (0, 0, 41)) := by
                show _ = _
                have h5 := HLEN.out
                unfold docL; simp only [HM.out]; rw [if_neg (by rw [HLET.out]; omega), if_neg (by omega), if_pos ⟨by omega, by rw [HLET.out]; exact hC2.2⟩]
              have e5 : (at_ : Int) < (p : Int) := by omega
              have e6 : ((s[p].toNat : Int) == 0) = true := by simp; omega
              have e7 : (s[p].toNat : Int) ≤ 1 := by omega
              clear hC1 hC2 hC hA hB
              go_wp2_with fail
              all_goals
              refine bodyPost_ret (v := .tuple #[rdV s at_ 41, .int .i64 0]) (by simp [results, Try.results28, go_sem, rdV]) rfl ⟨doc_ret HRES.out (by decide), ?_⟩
              exact ((Below.refl _ _).alloc (Nat.le_refl _) _).alloc (by simp) _
            · have hp9 : p - at_ ≤ 9 := by omega
              have hpl : p - at_ < xs.length := by have := HLEN.out; omega
              have HRES : Hid (docL xs = (unzz (horN (xs.take (p - at_ + 1))), p - at_ + 1, 0)) := by
                show _ = _
                unfold docL; simp only [HM.out]; rw [if_neg (by rw [HLET.out]; omega), if_neg (by omega), if_neg (by rw [HLET.out]; omega)]
              have hlast : p - at_ = 9 → (xs.getD 9 0) ≤ 1 := by
                intro h
                have h1 := HLET.out
                rw [h] at h1
                rw [h1]; omega
              -- what the digits come to
              have htl : (xs.take (p - at_ + 1)).length = p - at_ + 1 := by rw [List.length_take]; omega
              have hU : horN (xs.take (p - at_ + 1)) < 18446744073709551616 := by
                by_cases h9 : p - at_ = 9
                · rw [h9]
                  have ht : xs.take (9 + 1) = xs.take 9 ++ [xs.getD 9 0] := by
                    rw [List.take_succ_eq_append_getElem (by omega), List.getD_eq_getElem?_getD, List.getElem?_eq_getElem (by omega)]; rfl
                  rw [ht, horN_snoc]
                  have h1 := horN_lt (xs.take 9)
                  have h2 : (xs.take 9).length = 9 := by rw [List.length_take]; omega
                  rw [h2] at h1 ⊢
                  have h3 : xs.getD 9 0 % 128 ≤ 1 := by have := hlast h9; omega
                  have h4 := Nat.mul_le_mul_right (128 ^ 9) h3
                  omega
                · have h1 := horN_lt (xs.take (p - at_ + 1))
                  rw [htl] at h1
                  exact Nat.lt_of_lt_of_le h1 (Nat.le_trans (Nat.pow_le_pow_right (by decide) (show p - at_ + 1 ≤ 9 by omega)) (by decide))
              have HQD : Hid (∀ q, q < p - at_ + 1 → (xs.take (p - at_ + 1)).getD q 0 = xs.getD q 0) := by
                show ∀ q, q < p - at_ + 1 → _
                intro q hq
                rw [List.getD_eq_getElem?_getD, List.getD_eq_getElem?_getD, List.getElem?_take, if_pos hq]
              have HHD : Hid (∀ q, q < p - at_ + 1 → horN ((xs.take (p - at_ + 1)).drop q) = xs.getD q 0 % 128 + 128 * horN ((xs.take (p - at_ + 1)).drop (q + 1))) := by
                show ∀ q, q < p - at_ + 1 → _
                intro q hq
                rw [hor_drop _ q (by omega), HQD.out q hq]
              have HU := Lib.hid hU
              have HBD : Hid (∀ q, 1 ≤ q → horN ((xs.take (p - at_ + 1)).drop q) < 144115188075855872) := by
                show ∀ q, 1 ≤ q → _
                intro q hq
                have h0 := HHD.out 0 (by omega)
                rw [List.drop_zero] at h0
                have h1 := horN_drop_le ((xs.take (p - at_ + 1)).drop 1) (q - 1)
                rw [List.drop_drop, show 1 + (q - 1) = q by omega] at h1
                rw [Nat.zero_add] at h0
                omega
              have hnil : (xs.take (p - at_ + 1)).drop (p - at_ + 1) = [] := List.drop_eq_nil_of_le (by omega)
              have HNIL : Hid (horN ((xs.take (p - at_ + 1)).drop (p - at_ + 1)) = 0) := by show _ = _; rw [hnil]; rfl
              clear htl hU hnil hlast
              generalize xs.take (p - at_ + 1) = T at *
              have hcc : (p : Int) ≤ (at_ : Int) ∧ ((p : Int) - (at_ : Int) == 9) = false ∨ (at_ : Int) < (p : Int) ∧ ((s[p].toNat : Int) == 0) = false ∧ ((p : Int) - (at_ : Int) == 9) = false ∨ (at_ : Int) < (p : Int) ∧ ((s[p].toNat : Int) == 0) = false ∧ ((p : Int) - (at_ : Int) == 9) = true ∧ (s[p].toNat : Int) ≤ 1 := by simp; omega
              have HP1 : Hid (p + 1 = at_ + (p - at_ + 1)) := by show _ = _; omega
              clear hC1 hC2 hC hA hB
              rcases hcc with ⟨hc2, hc1⟩ | ⟨hc2, hc2b, hc1⟩ | ⟨hc2, hc2b, hc1, hc1b⟩
              all_goals
                go_wp2_with fail
                go_loop [5, 6] (fun t v => ∃ q : Nat, at_ ≤ q ∧ q ≤ p ∧ v = .int .i64 q ∧ t = .int .i64 (horN (T.drop (q - at_ + 1)) : Nat)) (fun _ v => (intOf v).toNat)
                case atStart => exact ⟨p, by omega, by omega, rfl, by rw [HNIL.out]; rfl⟩
                case round =>
                  obtain ⟨q, hq1, hq2, rfl, rfl⟩ := hrel
                  by_cases hqa : at_ < q
                  · first
                    | exact absurd hqa (by omega)
                    | (
                      have hqa' : (at_ : Int) < (q : Int) := by omega
                      have hqs : q < s.size := by omega
                      have hl2 := HGET.out q (by omega) hqs
                      have hst := HHD.out (q - at_) (by omega)
                      have hbd := HBD.out (q - at_ + 1) (by omega)
                      have HST : Hid (horN (T.drop (q - 1 - at_ + 1)) = s[q].toNat % 128 + 128 * horN (T.drop (q - at_ + 1))) := by
                        show _ = _
                        rw [show q - 1 - at_ + 1 = q - at_ by omega, hst, hl2]
                      have hb2 := HBD.out (q - at_) (by omega)
                      rw [hst, hl2] at hb2
                      clear hl2 hst
                      generalize horN (T.drop (q - at_ + 1)) = N at *
                      have hb3 : (N : Int) * 128 < 144115188075855872 := by omega
                      have hb8 : (s[q].toNat : Int) % 128 < 128 := by omega
                      go_wp2_with fail
                      go_round
                      case rel => exact ⟨q - 1, by omega, by omega, by congr 1; omega, by rw [HST.out]; exact val_num N _⟩
                      case measure => simp [intOf]; omega)
                  · have hqa' : (q : Int) ≤ (at_ : Int) := by omega
                    obtain rfl : q = at_ := by omega
                    have hqs : q < s.size := by omega
                    have hl2 := HGET.out q (by omega) hqs
                    have hst := HHD.out 0 (by omega)
                    rw [List.drop_zero, Nat.zero_add] at hst
                    rw [show q - q = 0 by omega] at hl2
                    have hbd := HBD.out 1 (by omega)
                    have HST : Hid (horN T = s[q].toNat % 128 + 128 * horN (T.drop 1)) := by show _ = _; rw [hst, hl2]
                    rw [show q - q + 1 = 1 by omega]
                    clear hst hl2
                    generalize hN : horN (T.drop 1) = N at *
                    clear hN
                    by_cases hodd : s[q].toNat % 128 % 2 = 1
                    · have ho : ((s[q].toNat : Int) % 128 % 2 == 1) = true := by simp; omega
                      go_wp2_with fail
                      refine bodyPost_ret (v := .tuple #[rdV s (p + 1) 0, .int .i64 (-((N : Int) * 64 + (s[q].toNat : Int) % 128 / 2) - 1)]) (by simp [results, Try.results28, go_sem, rdV]) rfl ⟨by rw [fin_odd N _ hodd, ← HST.out, HP1.out]; exact doc_ret_ok HRES.out, ?_⟩
                      exact ((Below.refl _ _).alloc (Nat.le_refl _) _).alloc (by simp) _
                    · have ho : ((s[q].toNat : Int) % 128 % 2 == 1) = false := by simp; omega
                      go_wp2_with fail
                      refine bodyPost_ret (v := .tuple #[rdV s (p + 1) 0, .int .i64 ((N : Int) * 64 + (s[q].toNat : Int) % 128 / 2)]) (by simp [results, Try.results28, go_sem, rdV]) rfl ⟨by rw [fin_even N _ hodd, ← HST.out, HP1.out]; exact doc_ret_ok HRES.out, ?_⟩
                      exact ((Below.refl _ _).alloc (Nat.le_refl _) _).alloc (by simp) _
end Go.Proofs.Ytbimbpmdiahhbaa
