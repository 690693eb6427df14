/- contraref09.in, Check by contract. -/
import Derived.Test.YtengkgpobckhjaaItem2
namespace Go.Proofs.Ytengkgpobckhjaa
open Go.RowKit
theorem ref_in_any (n a b : Int) (w : World) : Calls Try.prog 43 #[.int .i64 n, .int .i64 a, .int .i64 b] w fun e w' => e = .returned (.bool (inB n a b)) ∧ w = w' := by
  go_enter Try.func43, Try.ntmps43
  go_wp2
  all_goals
    go_ret
    exact ⟨retB (by unfold inB; simp; omega), rfl⟩
set_option linter.unusedSimpArgs false in
set_option maxHeartbeats 4000000 in
theorem refcheck_any (x : Itm) (w : World) : Calls Try.prog 23 #[x.v] w fun e w' => e = .returned (.int .i64 (chkI x)) ∧ Below w.heap.size w w' := by
  have HIN := Lib.hid (fun n a b w => ref_in_any n a b w)
  unfold Itm.v at *
  go_enter Try.func23, Try.ntmps23
  go_wp2_with fail
  refine (HIN.out _ _ _ _).mono ?_
  rintro y w1 ⟨rfl, rfl⟩
  cases h0 : inB x.s 0 7
  · have HC : Hid (1 = chkI x) := (if_neg (fun h => by have hA := h.1; have hB := h.2; have g := inB_no h0; unfold partsOk at hA; unfold numsOk at hB; omega)).symm
    go_wp2_with fail
    go_ret
    exact ⟨retI HC.out, oneB w _⟩
  · have H0 := Lib.hid (inB_yes h0)
    clear h0
    go_wp2_with fail
    refine (HIN.out _ _ _ _).mono ?_
    rintro y w1 ⟨rfl, rfl⟩
    cases h1 : inB x.b 0 7
    · have HC : Hid (1 = chkI x) := (if_neg (fun h => by have hA := h.1; have hB := h.2; have g := inB_no h1; unfold partsOk at hA; unfold numsOk at hB; omega)).symm
      go_wp2_with fail
      go_ret
      exact ⟨retI HC.out, oneB w _⟩
    · have H1 := Lib.hid (inB_yes h1)
      clear h1
      by_cases hsb : x.b = x.s
      · have esb : (x.b == x.s) = true := by simpa using hsb
        have HC : Hid (1 = chkI x) := (if_neg (fun h => h.1.2.2 hsb.symm)).symm
        clear hsb
        go_wp2_with fail
        go_ret
        exact ⟨retI HC.out, oneB w _⟩
      · have esb : (x.b == x.s) = false := by simpa using hsb
        have HSB := Lib.hid hsb
        clear hsb
        go_wp2_with fail
        refine (HIN.out _ _ _ _).mono ?_
        rintro y w1 ⟨rfl, rfl⟩
        cases h3 : inB x.n 1 1048576
        · have HC : Hid (1 = chkI x) := (if_neg (fun h => by have hA := h.1; have hB := h.2; have g := inB_no h3; unfold partsOk at hA; unfold numsOk at hB; omega)).symm
          go_wp2_with fail
          go_ret
          exact ⟨retI HC.out, oneB w _⟩
        · have H3 := Lib.hid (inB_yes h3)
          clear h3
          go_wp2_with fail
          refine (HIN.out _ _ _ _).mono ?_
          rintro y w1 ⟨rfl, rfl⟩
          cases h4 : inB x.c 0 7
          · have HC : Hid (1 = chkI x) := (if_neg (fun h => by have hA := h.1; have hB := h.2; have g := inB_no h4; unfold partsOk at hA; unfold numsOk at hB; omega)).symm
            go_wp2_with fail
            go_ret
            exact ⟨retI HC.out, oneB w _⟩
          · have H4 := Lib.hid (inB_yes h4)
            clear h4
            go_wp2_with fail
            refine (HIN.out _ _ _ _).mono ?_
            rintro y w1 ⟨rfl, rfl⟩
            cases h5 : inB x.a 1 1125899906842624
            · have HC : Hid (1 = chkI x) := (if_neg (fun h => by have hA := h.1; have hB := h.2; have g := inB_no h5; unfold partsOk at hA; unfold numsOk at hB; omega)).symm
              go_wp2_with fail
              go_ret
              exact ⟨retI HC.out, oneB w _⟩
            · have H5 := Lib.hid (inB_yes h5)
              clear h5
              go_wp2_with fail
              refine (HIN.out _ _ _ _).mono ?_
              rintro y w1 ⟨rfl, rfl⟩
              cases h6 : inB x.r 0 3
              · have HC : Hid (1 = chkI x) := (if_neg (fun h => by have hA := h.1; have hB := h.2; have g := inB_no h6; unfold partsOk at hA; unfold numsOk at hB; omega)).symm
                go_wp2_with fail
                go_ret
                exact ⟨retI HC.out, oneB w _⟩
              · have H6 := Lib.hid (inB_yes h6)
                clear h6
                go_wp2_with fail
                refine (HIN.out _ _ _ _).mono ?_
                rintro y w1 ⟨rfl, rfl⟩
                cases h7 : inB x.t 1 5
                · have HC : Hid (1 = chkI x) := (if_neg (fun h => by have hA := h.1; have hB := h.2; have g := inB_no h7; unfold partsOk at hA; unfold numsOk at hB; omega)).symm
                  go_wp2_with fail
                  go_ret
                  exact ⟨retI HC.out, oneB w _⟩
                · have H7 := Lib.hid (inB_yes h7)
                  clear h7
                  go_wp2_with fail
                  refine (HIN.out _ _ _ _).mono ?_
                  rintro y w1 ⟨rfl, rfl⟩
                  cases h8 : inB x.y 0 1048576
                  · have HC : Hid (1 = chkI x) := (if_neg (fun h => by have hA := h.1; have hB := h.2; have g := inB_no h8; unfold partsOk at hA; unfold numsOk at hB; omega)).symm
                    go_wp2_with fail
                    go_ret
                    exact ⟨retI HC.out, oneB w _⟩
                  · have H8 := Lib.hid (inB_yes h8)
                    clear h8
                    have HC : Hid (chkI x = if cycBad x then 90 else 0) := by
                      show _ = _
                      unfold chkI
                      rw [if_pos ⟨⟨H0.out, H1.out, fun h => HSB.out h.symm⟩, H3.out, H4.out, H5.out, H6.out, H7.out, H8.out⟩]
                    clear H0 H1 HSB H3 H4 H5 H6 H7 H8 HIN
                    go_wp2
                    all_goals
                      go_ret
                      refine ⟨retI ?_, oneB w _⟩
                      rw [HC.out]
                      try simp only [beq_iff_eq, beq_eq_false_iff_ne, bne_iff_ne, bne_eq_false_iff_eq, ne_eq] at *
                      by_cases hc : cycBad x
                      · rw [if_pos hc]; all_goals (exfalso; unfold cycBad at hc; omega)
                      · rw [if_neg hc]; all_goals (exfalso; unfold cycBad at hc; omega)
end Go.Proofs.Ytengkgpobckhjaa
