/- contraref16.has, contralaw16.same by contract. -/
import Derived.Test.YteofblabimneiaaCycFits
import Derived.Test.YteofblabimneiaaLineEq
namespace Go.Proofs.Yteofblabimneiaa
open Go.RowKit
set_option linter.unusedSimpArgs false in
set_option maxHeartbeats 4000000 in
set_option maxRecDepth 100000 in
theorem has_any (w : World) (v : Value) (xs : List Lin) (x : Lin) (hr : TRow encN w v xs) (hn : xs.length ≤ 100000) :
    Calls Try.prog 29 #[v, x.v] w fun e w' => e = .returned (.bool (decide (x ∈ xs))) ∧ Below w.heap.size w w' := by
  obtain ⟨p, c, rfl⟩ := hr.shape
  have HR := Lib.hid hr
  have HB := Lib.hid (oneB w (.cells #[.int .i64 x.s, .int .i64 x.n, .int .i64 x.b, .int .i64 x.a] 45))
  have HX := Lib.hid (Blk.new w #[.int .i64 x.s, .int .i64 x.n, .int .i64 x.b, .int .i64 x.a] 45)
  clear hr
  generalize hl : xs.length = n at *
  have HL := Lib.hid hl
  clear hl
  unfold Lin.v
  go_enter Try.func29, Try.ntmps29
  go_wp2_with fail
  generalize w.alloc (.cells #[.int .i64 x.s, .int .i64 x.n, .int .i64 x.b, .int .i64 x.a] 45) = W1 at *
  generalize hgx : w.heap.size = gx at *
  have HGX := Lib.hid hgx
  clear hgx
  go_loopw [5] (fun i wr => ∃ k : Nat, k ≤ n ∧ i = .int .i64 k ∧ Hid (Below gx w wr ∧ Blk wr gx #[.int .i64 x.s, .int .i64 x.n, .int .i64 x.b, .int .i64 x.a] 45 ∧ ∀ j (hj : j < xs.length), j < k → xs[j] ≠ x)) (fun i _ => n - (intOf i).toNat)
  case atStart => exact ⟨0, by omega, rfl, ⟨HB.out, HX.out, fun j hj h => by omega⟩⟩
  case round =>
    obtain ⟨k, hk, rfl, HK⟩ := hrel
    by_cases hlt : k < n
    · have hkl : k < xs.length := by rw [HL.out]; exact hlt
      have hltI : (k : Int) < (n : Int) := by omega
      obtain ⟨b, o, rfl, hbl, hcs⟩ := (HR.out.kept (by first | exact HK.out.1 | (rw [HGX.out]; exact HK.out.1))).at_ k hkl
      obtain ⟨q, hq⟩ : ∃ q, xs[k] = q := ⟨_, rfl⟩
      rw [hq] at hcs
      have HQ := Lib.hid hq
      clear hq
      have c0 : wr.cell? ⟨b, o + k * 4, none⟩ = some (.int .i64 q.s) := hcs 0 (by decide)
      have c1 : wr.cell? ⟨b, o + k * 4 + 1, none⟩ = some (.int .i64 q.n) := hcs 1 (by decide)
      have c2 : wr.cell? ⟨b, o + k * 4 + 2, none⟩ = some (.int .i64 q.b) := hcs 2 (by decide)
      have c3 : wr.cell? ⟨b, o + k * 4 + 3, none⟩ = some (.int .i64 q.a) := hcs 3 (by decide)
      have x0 : wr.cell? ⟨gx, 0, none⟩ = some (.int .i64 x.s) := HK.out.2.1.cell 0
      have x1 : wr.cell? ⟨gx, 1, none⟩ = some (.int .i64 x.n) := HK.out.2.1.cell 1
      have x2 : wr.cell? ⟨gx, 2, none⟩ = some (.int .i64 x.b) := HK.out.2.1.cell 2
      have x3 : wr.cell? ⟨gx, 3, none⟩ = some (.int .i64 x.a) := HK.out.2.1.cell 3
      have hS1 : wr.drew.cell? ⟨b, o + k * 4, none⟩ = some (.int .i64 q.s) ∧ wr.drew.cell? ⟨b, o + k * 4 + 1, none⟩ = some (.int .i64 q.n) ∧ wr.drew.cell? ⟨b, o + k * 4 + 2, none⟩ = some (.int .i64 q.b) ∧ wr.drew.cell? ⟨b, o + k * 4 + 3, none⟩ = some (.int .i64 q.a) ∧ wr.drew.cell? ⟨gx, 0, none⟩ = some (.int .i64 x.s) ∧ wr.drew.cell? ⟨gx, 1, none⟩ = some (.int .i64 x.n) ∧ wr.drew.cell? ⟨gx, 2, none⟩ = some (.int .i64 x.b) ∧ wr.drew.cell? ⟨gx, 3, none⟩ = some (.int .i64 x.a) := ⟨c0, c1, c2, c3, x0, x1, x2, x3⟩
      have keq := fun (w : World) => line_eq q x w
      clear hcs c0 c1 c2 c3 x0 x1 x2 x3
      go_wp2_with fail
      refine wp_region_held_drew (S := fun w' => w'.cell? ⟨b, o + k * 4, none⟩ = some (.int .i64 q.s) ∧ w'.cell? ⟨b, o + k * 4 + 1, none⟩ = some (.int .i64 q.n) ∧ w'.cell? ⟨b, o + k * 4 + 2, none⟩ = some (.int .i64 q.b) ∧ w'.cell? ⟨b, o + k * 4 + 3, none⟩ = some (.int .i64 q.a) ∧ w'.cell? ⟨gx, 0, none⟩ = some (.int .i64 x.s) ∧ w'.cell? ⟨gx, 1, none⟩ = some (.int .i64 x.n) ∧ w'.cell? ⟨gx, 2, none⟩ = some (.int .i64 x.b) ∧ w'.cell? ⟨gx, 3, none⟩ = some (.int .i64 x.a)) (by kernel_rfl) hS1 (fun hS0 => ?_)
      refine wpAnyH_take (i := 0) (v := ?_) rfl (by kernel_rfl) (by kernel_rfl) (by kernel_rfl) (fun _ _ _ h => h) (Or.inl ⟨by kernel_rfl, ?_⟩) (by first | assumption | trivial) ?_
      rotate_left
      · intro w hSw
        try dsimp only at hSw
        first | (go_simp; done) | (go_simp; with_reducible rfl)
      try simp only [Act.put, List.getElem_toArray, List.getElem_cons_succ, List.getElem_cons_zero, List.setIfInBounds_toArray, List.set_cons_zero, List.set_cons_succ]
      refine wpAnyH_take (i := 1) (v := ?_) rfl (by kernel_rfl) (by kernel_rfl) (by kernel_rfl) (fun _ _ _ h => h) (Or.inl ⟨by kernel_rfl, ?_⟩) (by first | assumption | trivial) ?_
      rotate_left
      · intro w hSw
        try dsimp only at hSw
        first | (go_simp; done) | (go_simp; with_reducible rfl)
      try simp only [Act.put, List.getElem_toArray, List.getElem_cons_succ, List.getElem_cons_zero, List.setIfInBounds_toArray, List.set_cons_zero, List.set_cons_succ]
      refine wpAnyH_take (i := 2) (v := ?_) rfl (by kernel_rfl) (by kernel_rfl) (by kernel_rfl) (fun _ _ _ h => h) (Or.inl ⟨by kernel_rfl, ?_⟩) (by first | assumption | trivial) ?_
      rotate_left
      · intro w hSw
        try dsimp only at hSw
        first | (go_simp; done) | (go_simp; with_reducible rfl)
      try simp only [Act.put, List.getElem_toArray, List.getElem_cons_succ, List.getElem_cons_zero, List.setIfInBounds_toArray, List.set_cons_zero, List.set_cons_succ]
      refine wpAnyH_take (i := 3) (v := ?_) rfl (by kernel_rfl) (by kernel_rfl) (by kernel_rfl) (fun _ _ _ h => h) (Or.inl ⟨by kernel_rfl, ?_⟩) (by first | assumption | trivial) ?_
      rotate_left
      · intro w hSw
        try dsimp only at hSw
        first | (go_simp; done) | (go_simp; with_reducible rfl)
      try simp only [Act.put, List.getElem_toArray, List.getElem_cons_succ, List.getElem_cons_zero, List.setIfInBounds_toArray, List.set_cons_zero, List.set_cons_succ]
      refine wpAnyH_take (i := 4) (v := ?_) rfl (by kernel_rfl) (by kernel_rfl) (by kernel_rfl) (fun _ _ _ h => h) (Or.inl ⟨by kernel_rfl, ?_⟩) (by first | assumption | trivial) ?_
      rotate_left
      · intro w hSw
        try dsimp only at hSw
        first | (go_simp; done) | (go_simp; with_reducible rfl)
      try simp only [Act.put, List.getElem_toArray, List.getElem_cons_succ, List.getElem_cons_zero, List.setIfInBounds_toArray, List.set_cons_zero, List.set_cons_succ]
      refine wpAnyH_take (i := 5) (v := ?_) rfl (by kernel_rfl) (by kernel_rfl) (by kernel_rfl) (fun _ _ _ h => h) (Or.inl ⟨by kernel_rfl, ?_⟩) (by first | assumption | trivial) ?_
      rotate_left
      · intro w hSw
        try dsimp only at hSw
        first | (go_simp; done) | (go_simp; with_reducible rfl)
      try simp only [Act.put, List.getElem_toArray, List.getElem_cons_succ, List.getElem_cons_zero, List.setIfInBounds_toArray, List.set_cons_zero, List.set_cons_succ]
      refine wpAnyH_done (by kernel_rfl) ?_ _
      clear keq
      cases hqx : linEq q x
      · have HN : Hid (Below gx w wr.drew ∧ Blk wr.drew gx #[.int .i64 x.s, .int .i64 x.n, .int .i64 x.b, .int .i64 x.a] 45 ∧ ∀ j (hj : j < xs.length), j < k + 1 → xs[j] ≠ x) := ⟨HK.out.1.drew, HK.out.2.1, fun j hj h => by
          by_cases e : j = k
          · subst e
            intro e2
            rw [HQ.out] at e2
            rw [linEq_iff.2 e2] at hqx
            cases hqx
          · exact HK.out.2.2 j hj (by omega)⟩
        clear hqx
        go_wp2_with fail
        go_roundw
        case rel => exact ⟨k + 1, by omega, by go_num, HN⟩
        case measure => simp [intOf]; omega
      · have HE : Hid (decide (x ∈ xs) = true) := decide_eq_true (by rw [← linEq_iff.1 hqx, ← HQ.out]; exact List.getElem_mem hkl)
        have HBW : Hid (Below gx w wr.drew) := HK.out.1.drew
        clear hqx
        go_wp2_with fail
        go_ret
        exact ⟨by rw [HE.out]; rfl, by rw [HGX.out]; exact HBW.out⟩
    · have hle : (n : Int) ≤ (k : Int) := by omega
      have HE : Hid (decide (x ∈ xs) = false) := by
        show _ = _
        apply decide_eq_false
        intro hx
        obtain ⟨j, hj, e⟩ := List.mem_iff_getElem.1 hx
        exact HK.out.2.2 j hj (by have := HL.out; omega) e
      go_wp2_with fail
      go_ret
      exact ⟨by rw [HE.out]; rfl, by rw [HGX.out]; exact HK.out.1⟩
theorem ext_lin {xs ys : List Lin} (hl : xs.length = ys.length) (h : ∀ j (h1 : j < xs.length) (h2 : j < ys.length), xs[j] = ys[j]) : xs = ys := List.ext_getElem hl h
set_option linter.unusedSimpArgs false in
set_option maxHeartbeats 4000000 in
set_option maxRecDepth 100000 in
theorem same_any (w : World) (v1 v2 : Value) (xs ys : List Lin) (h1 : TRow encN w v1 xs) (h2 : TRow encN w v2 ys) (hn : xs.length ≤ 100000) :
    Calls Try.prog 16 #[v1, v2] w fun e w' => e = .returned (.bool (decide (xs = ys))) ∧ Below w.heap.size w w' := by
  obtain ⟨p1, c1, rfl⟩ := h1.shape
  obtain ⟨p2, c2, rfl⟩ := h2.shape
  have HR1 := Lib.hid h1
  have HR2 := Lib.hid h2
  clear h1 h2
  by_cases hl : xs.length = ys.length
  · rw [← hl]
    rw [← hl] at HR2
    have HLL := Lib.hid hl
    clear hl
    generalize hl : xs.length = n at *
    have HL := Lib.hid hl
    clear hl
    go_enter Try.func16, Try.ntmps16
    go_wp2_with fail
    go_loopw [13] (fun i wr => ∃ k : Nat, k ≤ n ∧ i = .int .i64 k ∧ Hid (Below w.heap.size w wr ∧ ∀ j (h1 : j < xs.length) (h2 : j < ys.length), j < k → xs[j] = ys[j])) (fun i _ => n - (intOf i).toNat)
    case atStart => exact ⟨0, by omega, rfl, ⟨Below.refl _ _, fun j _ _ hj => by omega⟩⟩
    case round =>
      obtain ⟨k, hk, rfl, HB⟩ := hrel
      by_cases hlt : k < n
      · have hltI : (k : Int) < (n : Int) := by omega
        have hk1 : k < xs.length := by rw [HL.out]; exact hlt
        have hk2 : k < ys.length := by rw [← HLL.out]; exact hlt
        obtain ⟨b1, o1, rfl, hb1, hcs⟩ := (HR1.out.kept HB.out.1).at_ k hk1
        obtain ⟨b2, o2, rfl, hb2, hds⟩ := (HR2.out.kept HB.out.1).at_ k hk2
        obtain ⟨x, hx⟩ : ∃ x, xs[k] = x := ⟨_, rfl⟩
        obtain ⟨y, hy⟩ : ∃ y, ys[k] = y := ⟨_, rfl⟩
        rw [hx] at hcs
        rw [hy] at hds
        have HX := Lib.hid hx
        have HY := Lib.hid hy
        clear hx hy
        have c0 : wr.cell? ⟨b1, o1 + k * 4, none⟩ = some (.int .i64 x.s) := hcs 0 (by decide)
        have c1 : wr.cell? ⟨b1, o1 + k * 4 + 1, none⟩ = some (.int .i64 x.n) := hcs 1 (by decide)
        have c2 : wr.cell? ⟨b1, o1 + k * 4 + 2, none⟩ = some (.int .i64 x.b) := hcs 2 (by decide)
        have c3 : wr.cell? ⟨b1, o1 + k * 4 + 3, none⟩ = some (.int .i64 x.a) := hcs 3 (by decide)
        have d0 : wr.cell? ⟨b2, o2 + k * 4, none⟩ = some (.int .i64 y.s) := hds 0 (by decide)
        have d1 : wr.cell? ⟨b2, o2 + k * 4 + 1, none⟩ = some (.int .i64 y.n) := hds 1 (by decide)
        have d2 : wr.cell? ⟨b2, o2 + k * 4 + 2, none⟩ = some (.int .i64 y.b) := hds 2 (by decide)
        have d3 : wr.cell? ⟨b2, o2 + k * 4 + 3, none⟩ = some (.int .i64 y.a) := hds 3 (by decide)
        have hS1 : wr.drew.cell? ⟨b1, o1 + k * 4, none⟩ = some (.int .i64 x.s) ∧ wr.drew.cell? ⟨b1, o1 + k * 4 + 1, none⟩ = some (.int .i64 x.n) ∧ wr.drew.cell? ⟨b1, o1 + k * 4 + 2, none⟩ = some (.int .i64 x.b) ∧ wr.drew.cell? ⟨b1, o1 + k * 4 + 3, none⟩ = some (.int .i64 x.a) ∧ wr.drew.cell? ⟨b2, o2 + k * 4, none⟩ = some (.int .i64 y.s) ∧ wr.drew.cell? ⟨b2, o2 + k * 4 + 1, none⟩ = some (.int .i64 y.n) ∧ wr.drew.cell? ⟨b2, o2 + k * 4 + 2, none⟩ = some (.int .i64 y.b) ∧ wr.drew.cell? ⟨b2, o2 + k * 4 + 3, none⟩ = some (.int .i64 y.a) := ⟨c0, c1, c2, c3, d0, d1, d2, d3⟩
        have keq := fun (w : World) => line_eq x y w
        clear hcs hds c0 c1 c2 c3 d0 d1 d2 d3
        go_wp2_with fail
        refine wp_region_held_drew (S := fun w' => w'.cell? ⟨b1, o1 + k * 4, none⟩ = some (.int .i64 x.s) ∧ w'.cell? ⟨b1, o1 + k * 4 + 1, none⟩ = some (.int .i64 x.n) ∧ w'.cell? ⟨b1, o1 + k * 4 + 2, none⟩ = some (.int .i64 x.b) ∧ w'.cell? ⟨b1, o1 + k * 4 + 3, none⟩ = some (.int .i64 x.a) ∧ w'.cell? ⟨b2, o2 + k * 4, none⟩ = some (.int .i64 y.s) ∧ w'.cell? ⟨b2, o2 + k * 4 + 1, none⟩ = some (.int .i64 y.n) ∧ w'.cell? ⟨b2, o2 + k * 4 + 2, none⟩ = some (.int .i64 y.b) ∧ w'.cell? ⟨b2, o2 + k * 4 + 3, none⟩ = some (.int .i64 y.a)) (by kernel_rfl) hS1 (fun hS0 => ?_)
        refine wpAnyH_take (i := 0) (v := ?_) rfl (by kernel_rfl) (by kernel_rfl) (by kernel_rfl) (fun _ _ _ h => h) (Or.inl ⟨by kernel_rfl, ?_⟩) (by first | assumption | trivial) ?_
        rotate_left
        · intro w hSw
          try dsimp only at hSw
          first | (go_simp; done) | (go_simp; with_reducible rfl)
        try simp only [Act.put, List.getElem_toArray, List.getElem_cons_succ, List.getElem_cons_zero, List.setIfInBounds_toArray, List.set_cons_zero, List.set_cons_succ]
        refine wpAnyH_take (i := 1) (v := ?_) rfl (by kernel_rfl) (by kernel_rfl) (by kernel_rfl) (fun _ _ _ h => h) (Or.inl ⟨by kernel_rfl, ?_⟩) (by first | assumption | trivial) ?_
        rotate_left
        · intro w hSw
          try dsimp only at hSw
          first | (go_simp; done) | (go_simp; with_reducible rfl)
        try simp only [Act.put, List.getElem_toArray, List.getElem_cons_succ, List.getElem_cons_zero, List.setIfInBounds_toArray, List.set_cons_zero, List.set_cons_succ]
        refine wpAnyH_take (i := 2) (v := ?_) rfl (by kernel_rfl) (by kernel_rfl) (by kernel_rfl) (fun _ _ _ h => h) (Or.inl ⟨by kernel_rfl, ?_⟩) (by first | assumption | trivial) ?_
        rotate_left
        · intro w hSw
          try dsimp only at hSw
          first | (go_simp; done) | (go_simp; with_reducible rfl)
        try simp only [Act.put, List.getElem_toArray, List.getElem_cons_succ, List.getElem_cons_zero, List.setIfInBounds_toArray, List.set_cons_zero, List.set_cons_succ]
        refine wpAnyH_take (i := 3) (v := ?_) rfl (by kernel_rfl) (by kernel_rfl) (by kernel_rfl) (fun _ _ _ h => h) (Or.inl ⟨by kernel_rfl, ?_⟩) (by first | assumption | trivial) ?_
        rotate_left
        · intro w hSw
          try dsimp only at hSw
          first | (go_simp; done) | (go_simp; with_reducible rfl)
        try simp only [Act.put, List.getElem_toArray, List.getElem_cons_succ, List.getElem_cons_zero, List.setIfInBounds_toArray, List.set_cons_zero, List.set_cons_succ]
        refine wpAnyH_take (i := 4) (v := ?_) rfl (by kernel_rfl) (by kernel_rfl) (by kernel_rfl) (fun _ _ _ h => h) (Or.inl ⟨by kernel_rfl, ?_⟩) (by first | assumption | trivial) ?_
        rotate_left
        · intro w hSw
          try dsimp only at hSw
          first | (go_simp; done) | (go_simp; with_reducible rfl)
        try simp only [Act.put, List.getElem_toArray, List.getElem_cons_succ, List.getElem_cons_zero, List.setIfInBounds_toArray, List.set_cons_zero, List.set_cons_succ]
        refine wpAnyH_take (i := 5) (v := ?_) rfl (by kernel_rfl) (by kernel_rfl) (by kernel_rfl) (fun _ _ _ h => h) (Or.inl ⟨by kernel_rfl, ?_⟩) (by first | assumption | trivial) ?_
        rotate_left
        · intro w hSw
          try dsimp only at hSw
          first | (go_simp; done) | (go_simp; with_reducible rfl)
        try simp only [Act.put, List.getElem_toArray, List.getElem_cons_succ, List.getElem_cons_zero, List.setIfInBounds_toArray, List.set_cons_zero, List.set_cons_succ]
        refine wpAnyH_take (i := 6) (v := ?_) rfl (by kernel_rfl) (by kernel_rfl) (by kernel_rfl) (fun _ _ _ h => h) (Or.inl ⟨by kernel_rfl, ?_⟩) (by first | assumption | trivial) ?_
        rotate_left
        · intro w hSw
          try dsimp only at hSw
          first | (go_simp; done) | (go_simp; with_reducible rfl)
        try simp only [Act.put, List.getElem_toArray, List.getElem_cons_succ, List.getElem_cons_zero, List.setIfInBounds_toArray, List.set_cons_zero, List.set_cons_succ]
        refine wpAnyH_take (i := 7) (v := ?_) rfl (by kernel_rfl) (by kernel_rfl) (by kernel_rfl) (fun _ _ _ h => h) (Or.inl ⟨by kernel_rfl, ?_⟩) (by first | assumption | trivial) ?_
        rotate_left
        · intro w hSw
          try dsimp only at hSw
          first | (go_simp; done) | (go_simp; with_reducible rfl)
        try simp only [Act.put, List.getElem_toArray, List.getElem_cons_succ, List.getElem_cons_zero, List.setIfInBounds_toArray, List.set_cons_zero, List.set_cons_succ]
        refine wpAnyH_take (i := 8) (v := ?_) rfl (by kernel_rfl) (by kernel_rfl) (by kernel_rfl) (fun _ _ _ h => h) (Or.inl ⟨by kernel_rfl, ?_⟩) (by first | assumption | trivial) ?_
        rotate_left
        · intro w hSw
          try dsimp only at hSw
          first | (go_simp; done) | (go_simp; with_reducible rfl)
        try simp only [Act.put, List.getElem_toArray, List.getElem_cons_succ, List.getElem_cons_zero, List.setIfInBounds_toArray, List.set_cons_zero, List.set_cons_succ]
        refine wpAnyH_done (by kernel_rfl) ?_ _
        clear keq
        cases hxy : linEq x y
        · have HE : Hid (decide (xs = ys) = false) := by
            show _ = _
            apply decide_eq_false
            intro h
            subst h
            have h3 := HX.out.symm.trans HY.out
            rw [linEq_iff.2 h3] at hxy
            cases hxy
          clear hxy
          go_wp2_with fail
          go_ret
          exact ⟨by rw [HE.out]; rfl, HB.out.1.drew⟩
        · have HN : Hid (Below w.heap.size w wr.drew ∧ ∀ j (h1 : j < xs.length) (h2 : j < ys.length), j < k + 1 → xs[j] = ys[j]) := ⟨HB.out.1.drew, fun j h1 h2 hj => by
            by_cases e : j = k
            · subst e; rw [HX.out, HY.out, linEq_iff.1 hxy]
            · exact HB.out.2 j h1 h2 (by omega)⟩
          clear hxy
          go_wp2_with fail
          go_roundw
          case rel => exact ⟨k + 1, by omega, by go_num, HN⟩
          case measure => simp [intOf]; omega
      · have hle : (n : Int) ≤ (k : Int) := by omega
        have HE : Hid (decide (xs = ys) = true) := decide_eq_true (ext_lin (by rw [HL.out]; exact HLL.out) fun j h1 h2 => HB.out.2 j h1 h2 (by have := HL.out; omega))
        go_wp2_with fail
        go_ret
        exact ⟨by rw [HE.out]; rfl, HB.out.1⟩
  · have HE : Hid (decide (xs = ys) = false) := by
      show _ = _
      apply decide_eq_false
      intro h
      exact hl (by rw [h])
    have hne : ¬ (xs.length : Int) = (ys.length : Int) := by omega
    clear hl
    generalize xs.length = n at *
    generalize ys.length = m at *
    have e1 : ((n : Int) != (m : Int)) = true := by simpa using hne
    clear hne
    go_enter Try.func16, Try.ntmps16
    go_wp2_with fail
    go_ret
    exact ⟨by rw [HE.out]; rfl, Below.refl _ _⟩
end Go.Proofs.Yteofblabimneiaa
