/- The package item's small functions by contract. -/
import Derived.Test.YtbpfbebebppleaaItemPure
import Derived.Test.YtbpfbebebppleaaMem
namespace Go.Proofs.Ytbpfbebebppleaa
open Go.RowKit
def inB (n a b : Int) : Bool := decide (a ≤ n ∧ n ≤ b)
theorem inB_no {n a b : Int} (h : inB n a b = false) : ¬ (a ≤ n ∧ n ≤ b) := decide_eq_false_iff_not.1 h
theorem inB_yes {n a b : Int} (h : inB n a b = true) : a ≤ n ∧ n ≤ b := of_decide_eq_true h
theorem retB {a b : Bool} (h : a = b) : Ending.returned (.bool a) = .returned (.bool b) := by rw [h]
theorem retD {p : Prop} [Decidable p] (h : p) : Ending.returned (.bool true) = .returned (.bool (decide p)) := retB (decide_eq_true h).symm
theorem retN {p : Prop} [Decidable p] (h : ¬ p) : Ending.returned (.bool false) = .returned (.bool (decide p)) := retB (decide_eq_false h).symm
theorem within_any (n a b : Int) (w : World) : Calls Try.prog 76 #[.int .i64 n, .int .i64 a, .int .i64 b] w fun e w' => e = .returned (.bool (inB n a b)) ∧ w = w' := by
  go_enter Try.func76, Try.ntmps76
  go_wp2
  all_goals
    go_ret
    exact ⟨retB (by unfold inB; simp; omega), rfl⟩
theorem payable_any (n : Int) (w : World) : Calls Try.prog 70 #[.int .i64 n] w fun e w' => e = .returned (.bool (inB n 1 1125899906842624)) ∧ w = w' := by
  go_enter Try.func70, Try.ntmps70
  go_wp2
  all_goals
    go_ret
    exact ⟨retB (by unfold inB; simp; omega), rfl⟩
theorem parties_any (x : Itm) (w : World) : Calls Try.prog 72 #[x.v] w fun e w' => e = .returned (.bool (decide (partsOk x))) ∧ Below w.heap.size w w' := by
  have HB := Lib.hid (oneB w (.cells x.v.cells 64))
  unfold Itm.v at *
  simp only [Value.cells] at HB
  go_enter Try.func72, Try.ntmps72
  go_wp2_with fail
  refine (within_any _ _ _ _).mono ?_
  rintro y w1 ⟨rfl, rfl⟩
  cases h0 : inB x.s 0 7
  · go_wp2_with fail
    go_ret
    exact ⟨retN (by have g := inB_no h0; unfold partsOk; omega), HB.out⟩
  · skip
    go_wp2_with fail
    refine (within_any _ _ _ _).mono ?_
    rintro y w1 ⟨rfl, rfl⟩
    cases h1 : inB x.b 0 7
    · go_wp2_with fail
      go_ret
      exact ⟨retN (by have g := inB_no h1; unfold partsOk; omega), HB.out⟩
    · skip
      have g0 := inB_yes h0; have g1 := inB_yes h1
      clear h0 h1
      go_wp2_with fail
      go_ret
      exact ⟨retB (a := x.s != x.b) (b := decide (partsOk x)) (by rw [Bool.eq_iff_iff, bne_iff_ne, decide_eq_true_iff]; exact ⟨fun h => ⟨g0, g1, h⟩, fun h => h.2.2⟩), HB.out⟩
theorem numbers_any (x : Itm) (w : World) : Calls Try.prog 73 #[x.v] w fun e w' => e = .returned (.bool (decide (numsOk x))) ∧ Below w.heap.size w w' := by
  have HB := Lib.hid (oneB w (.cells x.v.cells 64))
  unfold Itm.v at *
  simp only [Value.cells] at HB
  go_enter Try.func73, Try.ntmps73
  go_wp2_with fail
  refine (within_any _ _ _ _).mono ?_
  rintro y w1 ⟨rfl, rfl⟩
  cases h0 : inB x.n 1 1048576
  · go_wp2_with fail
    go_ret
    exact ⟨retN (by have g := inB_no h0; unfold numsOk; omega), HB.out⟩
  · skip
    go_wp2_with fail
    refine (within_any _ _ _ _).mono ?_
    rintro y w1 ⟨rfl, rfl⟩
    cases h1 : inB x.c 0 7
    · go_wp2_with fail
      go_ret
      exact ⟨retN (by have g := inB_no h1; unfold numsOk; omega), HB.out⟩
    · skip
      go_wp2_with fail
      refine (payable_any _ _).mono ?_
      rintro y w1 ⟨rfl, rfl⟩
      cases h2 : inB x.a 1 1125899906842624
      · go_wp2_with fail
        go_ret
        exact ⟨retN (by have g := inB_no h2; unfold numsOk; omega), HB.out⟩
      · skip
        go_wp2_with fail
        refine (within_any _ _ _ _).mono ?_
        rintro y w1 ⟨rfl, rfl⟩
        cases h3 : inB x.r 0 3
        · go_wp2_with fail
          go_ret
          exact ⟨retN (by have g := inB_no h3; unfold numsOk; omega), HB.out⟩
        · skip
          go_wp2_with fail
          refine (within_any _ _ _ _).mono ?_
          rintro y w1 ⟨rfl, rfl⟩
          cases h4 : inB x.t 1 5
          · go_wp2_with fail
            go_ret
            exact ⟨retN (by have g := inB_no h4; unfold numsOk; omega), HB.out⟩
          · skip
            go_wp2_with fail
            refine (within_any _ _ _ _).mono ?_
            rintro y w1 ⟨rfl, rfl⟩
            cases h5 : inB x.y 0 1048576
            · go_wp2_with fail
              go_ret
              exact ⟨retN (by have g := inB_no h5; unfold numsOk; omega), HB.out⟩
            · skip
              have g0 := inB_yes h0; have g1 := inB_yes h1; have g2 := inB_yes h2; have g3 := inB_yes h3; have g4 := inB_yes h4; have g5 := inB_yes h5
              go_wp2_with fail
              go_ret
              exact ⟨retD (by unfold numsOk; omega), HB.out⟩
end Go.Proofs.Ytbpfbebebppleaa
