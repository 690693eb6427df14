/- money.Sum: what it answers, as a number of any size. -/
import Derived.Test.YtillckkohdjkbaaFits
namespace Go.Proofs.Ytillckkohdjkbaa
open Go.RowKit

def lo64 (x y c : Int) : Int := (x + y + c) % 18446744073709551616
def ca64 (x y c : Int) : Int := (x + y + c) / 18446744073709551616
theorem lo64_0 (x y c : Int) : 0 ≤ lo64 x y c := by unfold lo64; omega
theorem add64 (x y c : Int) (hx : 0 ≤ x) (hy : 0 ≤ y) (hc0 : 0 ≤ c) (hc : c ≤ 1) (w : World) :
    (callFunc 45 #[.int .u64 x, .int .u64 y, .int .u64 c]).run Try.prog w = .ok (.value (.tuple #[.int .u64 (lo64 x y c), .int .u64 (ca64 x y c)])) w := by
  rw [run_callFunc_extern Try.func45 (by kernel_rfl) (by kernel_rfl) (by kernel_rfl) (e := add64Entry) (by kernel_rfl), run_add64 x y c hx hy hc0 hc]
  rfl
/-- High and low word of a number of 128 bits. -/
def Acc (h l s : Int) : Prop := 0 ≤ h ∧ h < 18446744073709551616 ∧ 0 ≤ l ∧ l < 18446744073709551616 ∧ (s - (h * 18446744073709551616 + l)) % 340282366920938463463374607431768211456 = 0
theorem Acc.zero : Acc 0 0 0 := by unfold Acc; decide
theorem Acc.step {h l s : Int} (a : Int) (H : Acc h l s) (h1 : -9223372036854775808 ≤ a) (h2 : a ≤ 9223372036854775807) :
    Acc (lo64 h (IntKind.u64.wrap (a / 9223372036854775808)) (ca64 l (IntKind.u64.wrap a) 0)) (lo64 l (IntKind.u64.wrap a) 0) (s + a) := by
  unfold Acc at *; unfold lo64 ca64
  simp only [u64_wrap]
  have hq : a / 9223372036854775808 = 0 ∧ 0 ≤ a ∨ a / 9223372036854775808 = -1 ∧ a < 0 := by omega
  rcases hq with ⟨hq, hs⟩ | ⟨hq, hs⟩
  · rw [hq]; omega
  · rw [hq]; omega
theorem Acc.carry {h l s a : Int} (H : Acc h l s) : 0 ≤ ca64 l (IntKind.u64.wrap a) 0 ∧ ca64 l (IntKind.u64.wrap a) 0 ≤ 1 ∧ 0 ≤ IntKind.u64.wrap a ∧ 0 ≤ IntKind.u64.wrap (a / 9223372036854775808) := by
  unfold Acc at H; unfold ca64; simp only [u64_wrap]; omega
instance (s : Int) : Decidable (Fits s) := by unfold Fits; infer_instance
/-- Of numbers in some range Sum's test tells whether they fit. -/
theorem Acc.fits {h l s : Int} (H : Acc h l s) (h1 : -170141183460469231731687303715884105728 ≤ s) (h2 : s < 170141183460469231731687303715884105728) :
    ((h != IntKind.u64.wrap (wrap64 l / 9223372036854775808)) = true → ¬ Fits s) ∧ ((h != IntKind.u64.wrap (wrap64 l / 9223372036854775808)) = false → Fits s ∧ wrap64 l = s) := by
  unfold Acc at H; unfold Fits
  have hw : wrap64 l = l ∧ l < 9223372036854775808 ∨ wrap64 l = l - 18446744073709551616 ∧ 9223372036854775808 ≤ l := by unfold wrap64; omega
  simp only [u64_wrap, bne_iff_ne, bne_eq_false_iff_eq]
  rcases hw with ⟨hw, hs⟩ | ⟨hw, hs⟩
  · rw [hw, show l / 9223372036854775808 = 0 by omega]; omega
  · rw [hw, show (l - 18446744073709551616) / 9223372036854775808 = -1 by omega]; omega

theorem take_succ_sum (zs : List Int) (k : Nat) (h : k < zs.length) : (zs.take (k + 1)).sum = (zs.take k).sum + zs.getD k 0 := by
  rw [List.take_succ_eq_append_getElem h, List.sum_append, List.getD_eq_getElem?_getD, List.getElem?_eq_getElem h]; simp
theorem sum_bound (zs : List Int) (h : All64 zs) : -9223372036854775808 * (zs.length : Int) ≤ zs.sum ∧ zs.sum ≤ 9223372036854775807 * (zs.length : Int) := by
  induction zs with
  | nil => simp
  | cons a t ih =>
    have h1 := h a (by simp)
    have h2 := ih (fun b hb => h b (by simp [hb]))
    simp only [List.sum_cons, List.length_cons]; omega

/-- What Sum answers: the number, the error. -/
def sumN (s : Int) : Int := if Fits s then s else 0
def sumE (s : Int) : Int := if Fits s then 0 else 10
theorem sumN_yes {s : Int} (h : Fits s) : sumN s = s := if_pos h
theorem sumN_no {s : Int} (h : ¬ Fits s) : sumN s = 0 := if_neg h
theorem sumE_yes {s : Int} (h : Fits s) : sumE s = 0 := if_pos h
theorem sumE_no {s : Int} (h : ¬ Fits s) : sumE s = 10 := if_neg h
def SumTo (s : Int) (w : World) (e : Ending) (w' : World) : Prop := e = .returned (.tuple #[.int .i64 (sumN s), .int .i64 (sumE s)]) ∧ w = w'
theorem SumTo.yes {s : Int} {w : World} (n : Int) (h : Fits s) (hn : n = s) : SumTo s w (.returned (.tuple #[.int .i64 n, .int .i64 0])) w := ⟨by rw [sumN_yes h, sumE_yes h, hn], rfl⟩
theorem SumTo.no {s : Int} {w : World} (h : ¬ Fits s) : SumTo s w (.returned (.tuple #[.int .i64 0, .int .i64 10])) w := ⟨by rw [sumN_no h, sumE_no h], rfl⟩

set_option maxHeartbeats 1000000 in
theorem sum_any (v : Value) (zs : List Int) (w : World) (hm : zs.length ≤ 140737488355328) (h64 : All64 zs) (hrow : Row .i64 w v zs) :
    Calls Try.prog 28 #[v] w (SumTo zs.sum w) := by
  obtain ⟨p, c, rfl, _, hr⟩ := hrow
  have hr' : ∀ i, i < zs.length → ∃ b o, p = some ⟨b, o, none⟩ ∧ w.cell? ⟨b, o + i, none⟩ = some (.int .i64 (zs.getD i 0)) := by
    intro i hi
    rcases hr with rfl | ⟨b, o, hp, h⟩
    · simp at hi
    · exact ⟨b, o, hp, h i hi⟩
  clear hr
  have HR := Lib.hid hr'
  clear hr'
  have HS : Hid (zs.sum = (zs.take zs.length).sum) := by show _ = _; rw [List.take_length]
  have hb := sum_bound zs h64
  generalize hn : zs.length = n at *
  have HN := Lib.hid hn
  clear hn
  go_enter Try.func28, Try.ntmps28
  go_wp2
  go_loop [4, 5, 6, 11] (fun h l c i => ∃ (k : Nat) (hh ll cc : Int), k ≤ n ∧ i = .int .i64 k ∧ h = .int .u64 hh ∧ l = .int .u64 ll ∧ c = .int .u64 cc ∧ Acc hh ll (zs.take k).sum) (fun _ _ _ i => n - (intOf i).toNat)
  case atStart => exact ⟨0, 0, 0, 0, Nat.zero_le _, rfl, rfl, rfl, rfl, by simpa using Acc.zero⟩
  case round =>
    obtain ⟨k, hh, ll, cc, hk, rfl, rfl, rfl, rfl, hacc⟩ := hrel
    by_cases hlt : k < n
    · obtain ⟨b, o, rfl, hc⟩ := HR.out k hlt
      have hts := take_succ_sum zs k (by rw [HN.out]; exact hlt)
      have ha := h64.getD k
      generalize zs.getD k 0 = a at *
      have hstep := hacc.step a ha.1 ha.2
      rw [← hts] at hstep
      have hk2 := hacc.carry (a := a)
      have hl0 : 0 ≤ ll := hacc.2.2.1
      have hh0 : 0 ≤ hh := hacc.1
      have e1 := add64 ll (IntKind.u64.wrap a) 0 hl0 hk2.2.2.1 (by decide) (by decide) w
      have e2 := add64 hh (IntKind.u64.wrap (a / 9223372036854775808)) (ca64 ll (IntKind.u64.wrap a) 0) hh0 hk2.2.2.2 hk2.1 hk2.2.1 w
      have HST := Lib.hid hstep
      clear hstep hts hacc
      go_wp2
      go_round
      case rel => exact ⟨k + 1, _, _, _, by omega, by go_num, rfl, rfl, rfl, HST.out⟩
      case measure => simp [intOf]; omega
    · obtain rfl : k = n := by omega
      have hf := hacc.fits (by rw [← HS.out]; omega) (by rw [← HS.out]; omega)
      rw [← HS.out] at hf
      have HF := Lib.hid hf
      clear hf
      go_wp2
      · go_ret2
        exact SumTo.no (HF.out.1 (by assumption))
      · go_ret2
        exact SumTo.yes _ (HF.out.2 (by assumption)).1 (HF.out.2 (by assumption)).2

/-- Two numbers in a row of their own. -/
theorem Row.two (w : World) (T : TypeId) (a b : Int) (c : Nat) (hc : 2 ≤ c) : Row .i64 (w.alloc (.cells #[.int .i64 a, .int .i64 b] T)) (.slice (some ⟨w.heap.size, 0, none⟩) 2 c) [a, b] := by
  refine ⟨_, c, rfl, hc, .inr ⟨_, _, rfl, fun i hi => ?_⟩⟩
  rw [World.cell?_alloc_at _ _ _ _ rfl]
  match i, hi with
  | 0, _ => rfl
  | 1, _ => rfl

end Go.Proofs.Ytillckkohdjkbaa
