/- cycle.within, compare, Fits by contract. -/
import Derived.Test.YteofblabimneiaaCycD
import Derived.Test.YteofblabimneiaaBCmp
import Derived.Test.YteofblabimneiaaVecPure
import Derived.IntWalk
namespace Go.Proofs.Yteofblabimneiaa
open Go.RowKit
theorem retBl {a b : Bool} (h : a = b) : Ending.returned (.bool a) = .returned (.bool b) := by rw [h]
theorem ahead_ord {x y : Lin} : aheadB x y = true ↔ ord2 x.s x.n y.s y.n < 0 := by
  unfold aheadB
  have := ord2_cases x.s x.n y.s y.n
  simp only [decide_eq_true_eq]
  omega
set_option linter.unusedSimpArgs false in
set_option maxHeartbeats 4000000 in
set_option maxRecDepth 100000 in
theorem lwithin_any (n : Int) (x : Lin) (w : World) : Calls Try.prog 21 #[.int .i64 n, x.v] w fun e w' => e = .returned (.bool (withinB n x)) ∧ Below w.heap.size w w' := by
  have HB := Lib.hid (oneB w (.cells #[.int .i64 x.s, .int .i64 x.n, .int .i64 x.b, .int .i64 x.a] 45))
  unfold Lin.v at *
  go_enter Try.func21, Try.ntmps21
  go_wp2
  all_goals
    go_ret
    first
      | exact ⟨retBl (by unfold withinB; rw [Bool.eq_iff_iff]; simp only [decide_eq_true_eq, Bool.false_eq_true, false_iff, true_iff, Bool.and_eq_true, bne_iff_ne, ne_eq]; omega), HB.out⟩
      | (have h := HB.out; rw [‹x.s = x.b›] at h; exact ⟨retBl (by unfold withinB; rw [Bool.eq_iff_iff]; simp only [decide_eq_true_eq, Bool.false_eq_true, false_iff, true_iff, Bool.and_eq_true, bne_iff_ne, ne_eq]; omega), h⟩)
set_option linter.unusedSimpArgs false in
set_option maxHeartbeats 4000000 in
set_option maxRecDepth 100000 in
theorem ccompare_any (x y : Lin) (w : World) : Calls Try.prog 22 #[x.v, y.v] w fun e w' => e = .returned (.int .i64 (ord2 x.s x.n y.s y.n)) ∧ Below w.heap.size w w' := by
  have HC := Lib.hid (fun (W : World) => bcompare_any x.s x.n y.s y.n W)
  unfold idV at *
  unfold Lin.v
  go_enter Try.func22, Try.ntmps22
  go_wp2_with fail
  refine (HC.out _).mono ?_
  rintro r w1 ⟨rfl, hb⟩
  have HB := Lib.hid (((oneB w _).alloc (by simp) _).trans (hb.mono (by simp; omega)))
  clear hb
  go_wp2_with fail
  go_ret
  exact ⟨rfl, HB.out⟩
set_option linter.unusedSimpArgs false in
set_option maxHeartbeats 4000000 in
set_option maxRecDepth 100000 in
theorem lfits_any (w : World) (N : Int) (v : Value) (xs : List Lin) (hr : TRow encN w v xs) (hn : xs.length ≤ 100000) :
    Calls Try.prog 11 #[.int .i64 N, v] w fun e w' => e = .returned (.int .i64 (fitE N xs)) ∧ Below w.heap.size w w' := by
  obtain ⟨p, c, rfl⟩ := hr.shape
  have HR := Lib.hid hr
  clear hr
  generalize hl : xs.length = n at *
  have HL := Lib.hid hl
  clear hl
  go_enter Try.func11, Try.ntmps11
  go_wp2_with fail
  go_loopw [5, 9] (fun _ i wr => ∃ k : Nat, k ≤ n ∧ i = .int .i64 k ∧ Hid (Below w.heap.size w wr ∧ ∀ j, j < k → stepE N xs j = 0)) (fun _ i _ => n - (intOf i).toNat)
  case atStart => exact ⟨0, by omega, rfl, ⟨Below.refl _ _, fun j hj => by omega⟩⟩
  case round =>
    obtain ⟨k, hk, rfl, HB⟩ := hrel
    by_cases hlt : k < n
    · have hkl : k < xs.length := by rw [HL.out]; exact hlt
      have hltI : (k : Int) < (n : Int) := by omega
      obtain ⟨b, o, rfl, hbl, hcs⟩ := (HR.out.kept HB.out.1).at_ k hkl
      obtain ⟨x, hx⟩ : ∃ x, xs[k] = x := ⟨_, rfl⟩
      rw [hx] at hcs
      have HX : Hid (xs.getD k lin0 = x) := by show _ = _; rw [List.getD_eq_getElem?_getD, List.getElem?_eq_getElem hkl, Option.getD_some, hx]
      clear hx
      have c0 : wr.cell? ⟨b, o + k * 4, none⟩ = some (.int .i64 x.s) := hcs 0 (by decide)
      have c1 : wr.cell? ⟨b, o + k * 4 + 1, none⟩ = some (.int .i64 x.n) := hcs 1 (by decide)
      have c2 : wr.cell? ⟨b, o + k * 4 + 2, none⟩ = some (.int .i64 x.b) := hcs 2 (by decide)
      have c3 : wr.cell? ⟨b, o + k * 4 + 3, none⟩ = some (.int .i64 x.a) := hcs 3 (by decide)
      have HWI := Lib.hid (fun W => lwithin_any N x W)
      have HX1 := Lib.hid (Blk.new wr #[.int .i64 x.s, .int .i64 x.n, .int .i64 x.b, .int .i64 x.a] 45)
      have HB1 := Lib.hid (HB.out.1.trans ((oneB wr (.cells #[.int .i64 x.s, .int .i64 x.n, .int .i64 x.b, .int .i64 x.a] 45)).mono HB.out.1.size))
      unfold Lin.v at HWI
      clear hcs
      go_wp2_with fail
      generalize wr.alloc (.cells #[.int .i64 x.s, .int .i64 x.n, .int .i64 x.b, .int .i64 x.a] 45) = W1 at *
      generalize hgx : wr.heap.size = gx at *
      refine (HWI.out W1).mono ?_
      rintro y w1 ⟨rfl, hb1⟩
      have HXB := Lib.hid (HX1.out.below hb1 HX1.out.lt)
      have HB2 := Lib.hid (HB1.out.trans (hb1.mono HB1.out.size))
      clear hb1 HX1 HB1 HWI c0 c1 c2 c3 hgx
      cases hw : withinB N x
      · have HE : Hid (fitE N xs = 1) := by
          have h1 : stepE N xs k = 1 := by unfold stepE; rw [HX.out, hw, if_pos rfl]
          exact (fitE_at hkl HB.out.2 (by rw [h1]; decide)).trans h1
        clear hw
        go_wp2_with fail
        go_ret
        exact ⟨by rw [HE.out]; rfl, HB2.out⟩
      · have HWT := Lib.hid hw
        clear hw
        have x0 : w1.cell? ⟨gx, 0, none⟩ = some (.int .i64 x.s) := HXB.out.cell 0
        have x1 : w1.cell? ⟨gx, 1, none⟩ = some (.int .i64 x.n) := HXB.out.cell 1
        have x2 : w1.cell? ⟨gx, 2, none⟩ = some (.int .i64 x.b) := HXB.out.cell 2
        have x3 : w1.cell? ⟨gx, 3, none⟩ = some (.int .i64 x.a) := HXB.out.cell 3
        have hgl := HXB.out.lt
        rcases Nat.eq_zero_or_pos k with rfl | hpos
        · have HN : Hid (Below w.heap.size w w1 ∧ ∀ j, j < 0 + 1 → stepE N xs j = 0) := ⟨HB2.out, fun j hj => by
            obtain rfl : j = 0 := by omega
            unfold stepE
            rw [HX.out, HWT.out, if_neg (by simp), if_neg (by simp)]⟩
          clear hbl
          go_wp2_with fail
          refine wp_region_held_drew (S := fun w' => True) (by kernel_rfl) trivial (fun hS0 => ?_)
          refine wpAnyH_take (i := 0) (v := ?_) rfl (by kernel_rfl) (by kernel_rfl) (by kernel_rfl) (fun _ _ _ h => h) (Or.inl ⟨by kernel_rfl, ?_⟩) (by first | assumption | trivial) ?_
          rotate_left
          · intro w hSw
            try dsimp only at hSw
            first | (go_simp; done) | (go_simp; with_reducible rfl)
          try simp only [Act.put, List.getElem_toArray, List.getElem_cons_succ, List.getElem_cons_zero, List.setIfInBounds_toArray, List.set_cons_zero, List.set_cons_succ]
          refine wpAnyH_take (i := 1) (v := ?_) rfl (by kernel_rfl) (by kernel_rfl) (by kernel_rfl) (fun _ _ _ h => h) (Or.inl ⟨by kernel_rfl, ?_⟩) (by first | assumption | trivial) ?_
          rotate_left
          · intro w hSw
            try dsimp only at hSw
            first | (go_simp; done) | (go_simp; with_reducible rfl)
          try simp only [Act.put, List.getElem_toArray, List.getElem_cons_succ, List.getElem_cons_zero, List.setIfInBounds_toArray, List.set_cons_zero, List.set_cons_succ]
          refine wpAnyH_take (i := 2) (v := ?_) rfl (by kernel_rfl) (by kernel_rfl) (by kernel_rfl) (fun _ _ _ h => h) (Or.inl ⟨by kernel_rfl, ?_⟩) (by first | assumption | trivial) ?_
          rotate_left
          · intro w hSw
            try dsimp only at hSw
            first | (go_simp; done) | (go_simp; with_reducible rfl)
          try simp only [Act.put, List.getElem_toArray, List.getElem_cons_succ, List.getElem_cons_zero, List.setIfInBounds_toArray, List.set_cons_zero, List.set_cons_succ]
          refine wpAnyH_take (i := 3) (v := undef) rfl (by kernel_rfl) (by kernel_rfl) (by kernel_rfl) (fun _ _ _ h => h) (Or.inr ⟨by kernel_rfl, rfl⟩) (by first | assumption | trivial) ?_
          try simp only [Act.put, List.getElem_toArray, List.getElem_cons_succ, List.getElem_cons_zero, List.setIfInBounds_toArray, List.set_cons_zero, List.set_cons_succ]
          refine wpAnyH_take (i := 4) (v := undef) rfl (by kernel_rfl) (by kernel_rfl) (by kernel_rfl) (fun _ _ _ h => h) (Or.inr ⟨by kernel_rfl, rfl⟩) (by first | assumption | trivial) ?_
          try simp only [Act.put, List.getElem_toArray, List.getElem_cons_succ, List.getElem_cons_zero, List.setIfInBounds_toArray, List.set_cons_zero, List.set_cons_succ]
          refine wpAnyH_take (i := 5) (v := undef) rfl (by kernel_rfl) (by kernel_rfl) (by kernel_rfl) (fun _ _ _ h => h) (Or.inr ⟨by kernel_rfl, rfl⟩) (by first | assumption | trivial) ?_
          try simp only [Act.put, List.getElem_toArray, List.getElem_cons_succ, List.getElem_cons_zero, List.setIfInBounds_toArray, List.set_cons_zero, List.set_cons_succ]
          refine wpAnyH_take (i := 6) (v := undef) rfl (by kernel_rfl) (by kernel_rfl) (by kernel_rfl) (fun _ _ _ h => h) (Or.inr ⟨by kernel_rfl, rfl⟩) (by first | assumption | trivial) ?_
          try simp only [Act.put, List.getElem_toArray, List.getElem_cons_succ, List.getElem_cons_zero, List.setIfInBounds_toArray, List.set_cons_zero, List.set_cons_succ]
          refine wpAnyH_take (i := 7) (v := undef) rfl (by kernel_rfl) (by kernel_rfl) (by kernel_rfl) (fun _ _ _ h => h) (Or.inr ⟨by kernel_rfl, rfl⟩) (by first | assumption | trivial) ?_
          try simp only [Act.put, List.getElem_toArray, List.getElem_cons_succ, List.getElem_cons_zero, List.setIfInBounds_toArray, List.set_cons_zero, List.set_cons_succ]
          refine wpAnyH_take (i := 8) (v := undef) rfl (by kernel_rfl) (by kernel_rfl) (by kernel_rfl) (fun _ _ _ h => h) (Or.inr ⟨by kernel_rfl, rfl⟩) (by first | assumption | trivial) ?_
          try simp only [Act.put, List.getElem_toArray, List.getElem_cons_succ, List.getElem_cons_zero, List.setIfInBounds_toArray, List.set_cons_zero, List.set_cons_succ]
          refine wpAnyH_take (i := 9) (v := undef) rfl (by kernel_rfl) (by kernel_rfl) (by kernel_rfl) (fun _ _ _ h => h) (Or.inr ⟨by kernel_rfl, rfl⟩) (by first | assumption | trivial) ?_
          try simp only [Act.put, List.getElem_toArray, List.getElem_cons_succ, List.getElem_cons_zero, List.setIfInBounds_toArray, List.set_cons_zero, List.set_cons_succ]
          refine wpAnyH_take (i := 10) (v := undef) rfl (by kernel_rfl) (by kernel_rfl) (by kernel_rfl) (fun _ _ _ h => h) (Or.inr ⟨by kernel_rfl, rfl⟩) (by first | assumption | trivial) ?_
          try simp only [Act.put, List.getElem_toArray, List.getElem_cons_succ, List.getElem_cons_zero, List.setIfInBounds_toArray, List.set_cons_zero, List.set_cons_succ]
          refine wpAnyH_take (i := 11) (v := ?_) rfl (by kernel_rfl) (by kernel_rfl) (by kernel_rfl) (fun _ _ _ h => h) (Or.inl ⟨by kernel_rfl, ?_⟩) (by first | assumption | trivial) ?_
          rotate_left
          · intro w hSw
            try dsimp only at hSw
            first | (go_simp; done) | (go_simp; with_reducible rfl)
          try simp only [Act.put, List.getElem_toArray, List.getElem_cons_succ, List.getElem_cons_zero, List.setIfInBounds_toArray, List.set_cons_zero, List.set_cons_succ]
          refine wpAnyH_done (by kernel_rfl) ?_ _
          go_wp2_with fail
          go_roundw
          case rel => exact ⟨0 + 1, by omega, by go_num, ⟨HN.out.1.drew, HN.out.2⟩⟩
          case measure => simp [intOf]; omega
        · obtain ⟨m, rfl⟩ : ∃ m, k = m + 1 := ⟨k - 1, by omega⟩
          have hml : m < xs.length := by omega
          obtain ⟨b', o', e1, hbl2, hcs⟩ := (HR.out.kept HB2.out).at_ m hml
          cases e1
          obtain ⟨q, hq⟩ : ∃ q, xs[m] = q := ⟨_, rfl⟩
          rw [hq] at hcs
          have HQ : Hid (xs.getD m lin0 = q) := by show _ = _; rw [List.getD_eq_getElem?_getD, List.getElem?_eq_getElem hml, Option.getD_some, hq]
          clear hq
          have c0 : w1.cell? ⟨b, o + m * 4, none⟩ = some (.int .i64 q.s) := hcs 0 (by decide)
          have c1 : w1.cell? ⟨b, o + m * 4 + 1, none⟩ = some (.int .i64 q.n) := hcs 1 (by decide)
          have c2 : w1.cell? ⟨b, o + m * 4 + 2, none⟩ = some (.int .i64 q.b) := hcs 2 (by decide)
          have c3 : w1.cell? ⟨b, o + m * 4 + 3, none⟩ = some (.int .i64 q.a) := hcs 3 (by decide)
          have HC := Lib.hid (fun W => ccompare_any q x W)
          unfold Lin.v at HC
          clear hcs
          have hS1 : w1.drew.cell? ⟨gx, 0, none⟩ = some (.int .i64 x.s) ∧ w1.drew.cell? ⟨gx, 1, none⟩ = some (.int .i64 x.n) ∧ w1.drew.cell? ⟨gx, 2, none⟩ = some (.int .i64 x.b) ∧ w1.drew.cell? ⟨gx, 3, none⟩ = some (.int .i64 x.a) ∧ w1.drew.cell? ⟨b, o + m * 4, none⟩ = some (.int .i64 q.s) ∧ w1.drew.cell? ⟨b, o + m * 4 + 1, none⟩ = some (.int .i64 q.n) ∧ w1.drew.cell? ⟨b, o + m * 4 + 2, none⟩ = some (.int .i64 q.b) ∧ w1.drew.cell? ⟨b, o + m * 4 + 3, none⟩ = some (.int .i64 q.a) := ⟨x0, x1, x2, x3, c0, c1, c2, c3⟩
          have HS : Hid (∀ w', Below w1.heap.size w1 w' → w'.cell? ⟨gx, 0, none⟩ = some (.int .i64 x.s) ∧ w'.cell? ⟨gx, 1, none⟩ = some (.int .i64 x.n) ∧ w'.cell? ⟨gx, 2, none⟩ = some (.int .i64 x.b) ∧ w'.cell? ⟨gx, 3, none⟩ = some (.int .i64 x.a) ∧ w'.cell? ⟨b, o + m * 4, none⟩ = some (.int .i64 q.s) ∧ w'.cell? ⟨b, o + m * 4 + 1, none⟩ = some (.int .i64 q.n) ∧ w'.cell? ⟨b, o + m * 4 + 2, none⟩ = some (.int .i64 q.b) ∧ w'.cell? ⟨b, o + m * 4 + 3, none⟩ = some (.int .i64 q.a)) := fun w' h => ⟨(h.cell (p := ⟨gx, 0, none⟩) hgl).trans x0, (h.cell (p := ⟨gx, 1, none⟩) hgl).trans x1, (h.cell (p := ⟨gx, 2, none⟩) hgl).trans x2, (h.cell (p := ⟨gx, 3, none⟩) hgl).trans x3, (h.cell (p := ⟨b, _, none⟩) hbl2).trans c0, (h.cell (p := ⟨b, _, none⟩) hbl2).trans c1, (h.cell (p := ⟨b, _, none⟩) hbl2).trans c2, (h.cell (p := ⟨b, _, none⟩) hbl2).trans c3⟩
          have HSE : Hid (stepE N xs (m + 1) = if aheadB q x = false then 41 else 0) := by
            show _ = _
            unfold stepE
            rw [Nat.add_sub_cancel, HX.out, HWT.out, HQ.out, if_neg (by simp)]
            simp
          have hm1 : ((m + 1 : Nat) : Int) - 1 = (m : Int) := by omega
          have hmn : m < n := by omega
          have hwm : IntKind.i64.wrap (m : Int) = (m : Int) := IntWalk.i64_in _ (by omega)
          have hp0 : (0 : Int) < ((m + 1 : Nat) : Int) := by omega
          clear hpos
          go_wp2_with fail
          refine wp_region_held_drew (S := fun w' => w'.cell? ⟨gx, 0, none⟩ = some (.int .i64 x.s) ∧ w'.cell? ⟨gx, 1, none⟩ = some (.int .i64 x.n) ∧ w'.cell? ⟨gx, 2, none⟩ = some (.int .i64 x.b) ∧ w'.cell? ⟨gx, 3, none⟩ = some (.int .i64 x.a) ∧ w'.cell? ⟨b, o + m * 4, none⟩ = some (.int .i64 q.s) ∧ w'.cell? ⟨b, o + m * 4 + 1, none⟩ = some (.int .i64 q.n) ∧ w'.cell? ⟨b, o + m * 4 + 2, none⟩ = some (.int .i64 q.b) ∧ w'.cell? ⟨b, o + m * 4 + 3, none⟩ = some (.int .i64 q.a)) (by kernel_rfl) hS1 (fun hS0 => ?_)
          refine wpAnyH_take (i := 0) (v := ?_) rfl (by kernel_rfl) (by kernel_rfl) (by kernel_rfl) (fun _ _ _ h => h) (Or.inl ⟨by kernel_rfl, ?_⟩) (by first | assumption | trivial) ?_
          rotate_left
          · intro w hSw
            try dsimp only at hSw
            first | (go_simp; done) | (go_simp; with_reducible rfl)
          try simp only [Act.put, List.getElem_toArray, List.getElem_cons_succ, List.getElem_cons_zero, List.setIfInBounds_toArray, List.set_cons_zero, List.set_cons_succ]
          refine wpAnyH_take (i := 1) (v := ?_) rfl (by kernel_rfl) (by kernel_rfl) (by kernel_rfl) (fun _ _ _ h => h) (Or.inl ⟨by kernel_rfl, ?_⟩) (by first | assumption | trivial) ?_
          rotate_left
          · intro w hSw
            try dsimp only at hSw
            first | (go_simp; done) | (go_simp; with_reducible rfl)
          try simp only [Act.put, List.getElem_toArray, List.getElem_cons_succ, List.getElem_cons_zero, List.setIfInBounds_toArray, List.set_cons_zero, List.set_cons_succ]
          refine wpAnyH_take (i := 2) (v := ?_) rfl (by kernel_rfl) (by kernel_rfl) (by kernel_rfl) (fun _ _ _ h => h) (Or.inl ⟨by kernel_rfl, ?_⟩) (by first | assumption | trivial) ?_
          rotate_left
          · intro w hSw
            try dsimp only at hSw
            first | (go_simp; done) | (go_simp; with_reducible rfl)
          try simp only [Act.put, List.getElem_toArray, List.getElem_cons_succ, List.getElem_cons_zero, List.setIfInBounds_toArray, List.set_cons_zero, List.set_cons_succ]
          refine wpAnyH_take (i := 3) (v := ?_) rfl (by kernel_rfl) (by kernel_rfl) (by kernel_rfl) (fun _ _ _ h => h) (Or.inl ⟨by kernel_rfl, ?_⟩) (by first | assumption | trivial) ?_
          rotate_left
          · intro w hSw
            try dsimp only at hSw
            first | (go_simp; done) | (go_simp; with_reducible rfl)
          try simp only [Act.put, List.getElem_toArray, List.getElem_cons_succ, List.getElem_cons_zero, List.setIfInBounds_toArray, List.set_cons_zero, List.set_cons_succ]
          refine wpAnyH_take (i := 4) (v := ?_) rfl (by kernel_rfl) (by kernel_rfl) (by kernel_rfl) (fun _ _ _ h => h) (Or.inl ⟨by kernel_rfl, ?_⟩) (by first | assumption | trivial) ?_
          rotate_left
          · intro w hSw
            try dsimp only at hSw
            first | (go_simp; done) | (go_simp; with_reducible rfl)
          try simp only [Act.put, List.getElem_toArray, List.getElem_cons_succ, List.getElem_cons_zero, List.setIfInBounds_toArray, List.set_cons_zero, List.set_cons_succ]
          refine wpAnyH_take (i := 5) (v := ?_) rfl (by kernel_rfl) (by kernel_rfl) (by kernel_rfl) (fun _ _ _ h => h) (Or.inl ⟨by kernel_rfl, ?_⟩) (by first | assumption | trivial) ?_
          rotate_left
          · intro w hSw
            try dsimp only at hSw
            first | (go_simp; done) | (go_simp; with_reducible rfl)
          try simp only [Act.put, List.getElem_toArray, List.getElem_cons_succ, List.getElem_cons_zero, List.setIfInBounds_toArray, List.set_cons_zero, List.set_cons_succ]
          refine wpAnyH_take (i := 6) (v := ?_) rfl (by kernel_rfl) (by kernel_rfl) (by kernel_rfl) (fun _ _ _ h => h) (Or.inl ⟨by kernel_rfl, ?_⟩) (by first | assumption | trivial) ?_
          rotate_left
          · intro w hSw
            try dsimp only at hSw
            first | (go_simp; done) | (go_simp; with_reducible rfl)
          try simp only [Act.put, List.getElem_toArray, List.getElem_cons_succ, List.getElem_cons_zero, List.setIfInBounds_toArray, List.set_cons_zero, List.set_cons_succ]
          refine wpAnyH_take (i := 7) (v := ?_) rfl (by kernel_rfl) (by kernel_rfl) (by kernel_rfl) (fun _ _ _ h => h) (Or.inl ⟨by kernel_rfl, ?_⟩) (by first | assumption | trivial) ?_
          rotate_left
          · intro w hSw
            try dsimp only at hSw
            first | (go_simp; done) | (go_simp; with_reducible rfl)
          try simp only [Act.put, List.getElem_toArray, List.getElem_cons_succ, List.getElem_cons_zero, List.setIfInBounds_toArray, List.set_cons_zero, List.set_cons_succ]
          refine wpAnyH_take (i := 8) (v := ?_) rfl (by kernel_rfl) (by kernel_rfl) (by kernel_rfl) (fun _ _ _ h => h) (Or.inl ⟨by kernel_rfl, ?_⟩) (by first | assumption | trivial) ?_
          rotate_left
          · intro w hSw
            try dsimp only at hSw
            first | (go_simp; done) | (go_simp; with_reducible rfl)
          try simp only [Act.put, List.getElem_toArray, List.getElem_cons_succ, List.getElem_cons_zero, List.setIfInBounds_toArray, List.set_cons_zero, List.set_cons_succ]
          refine wpAnyH_ready (rs := [9]) (by kernel_rfl) (by simp) ?_
          refine AllReadyH.cons rfl (fun K hK => ?_) AllReadyH.nil
          go_simp
          go_at_call 22
          refine (HC.out w1.drew).mono ?_
          rintro y w2 ⟨rfl, hb2⟩
          have HB3 := Lib.hid ((Below.refl w1.heap.size w1).drew.trans (hb2.mono (Nat.le_refl _)))
          clear hb2
          try go_wp2_with fail
          refine hK.out _ _ (HS.out w2 HB3.out) (fun hS => ?_)
          clear hK K
          try simp only [Act.put, List.getElem_toArray, List.getElem_cons_succ, List.getElem_cons_zero, List.setIfInBounds_toArray, List.set_cons_zero, List.set_cons_succ]
          refine wpAnyH_take (i := 10) (v := ?_) rfl (by kernel_rfl) (by kernel_rfl) (by kernel_rfl) (fun _ _ _ h => h) (Or.inl ⟨by kernel_rfl, ?_⟩) (by first | assumption | trivial) ?_
          rotate_left
          · intro w hSw
            try dsimp only at hSw
            first | (go_simp; done) | (go_simp; with_reducible rfl)
          try simp only [Act.put, List.getElem_toArray, List.getElem_cons_succ, List.getElem_cons_zero, List.setIfInBounds_toArray, List.set_cons_zero, List.set_cons_succ]
          refine wpAnyH_take (i := 11) (v := ?_) rfl (by kernel_rfl) (by kernel_rfl) (by kernel_rfl) (fun _ _ _ h => h) (Or.inl ⟨by kernel_rfl, ?_⟩) (by first | assumption | trivial) ?_
          rotate_left
          · intro w hSw
            try dsimp only at hSw
            first | (go_simp; done) | (go_simp; with_reducible rfl)
          try simp only [Act.put, List.getElem_toArray, List.getElem_cons_succ, List.getElem_cons_zero, List.setIfInBounds_toArray, List.set_cons_zero, List.set_cons_succ]
          refine wpAnyH_done (by kernel_rfl) ?_ _
          cases ha : aheadB q x
          · have hc : 0 ≤ ord2 q.s q.n x.s x.n := by
              have := mt ahead_ord.2 (by rw [ha]; decide)
              omega
            have HE : Hid (fitE N xs = 41) := by
              have h1 : stepE N xs (m + 1) = 41 := by rw [HSE.out, ha, if_pos rfl]
              exact (fitE_at hkl HB.out.2 (by rw [h1]; decide)).trans h1
            have HB4 := Lib.hid (HB2.out.trans (HB3.out.mono HB2.out.size))
            clear ha
            go_wp2_with fail
            go_ret
            exact ⟨by rw [HE.out]; rfl, HB4.out⟩
          · have hc : ord2 q.s q.n x.s x.n < 0 := ahead_ord.1 ha
            have HN : Hid (Below w.heap.size w w2 ∧ ∀ j, j < m + 1 + 1 → stepE N xs j = 0) := ⟨HB2.out.trans (HB3.out.mono HB2.out.size), fun j hj => by
              by_cases e : j = m + 1
              · subst e; rw [HSE.out, ha, if_neg (by simp)]
              · exact HB.out.2 j (by omega)⟩
            clear ha
            go_wp2_with fail
            go_roundw
            case rel => exact ⟨m + 1 + 1, by omega, by go_num, HN⟩
            case measure => simp [intOf]; omega
    · have hle : (n : Int) ≤ (k : Int) := by omega
      have HE : Hid (fitE N xs = 0) := fitE_all fun j hj => HB.out.2 j (by have := HL.out; omega)
      go_wp2_with fail
      go_ret
      exact ⟨by rw [HE.out]; rfl, HB.out.1⟩
end Go.Proofs.Yteofblabimneiaa
