/- cycle.offered by contract. -/
import Derived.Test.YteofblabimneiaaCycBothD
namespace Go.Proofs.Yteofblabimneiaa
open Go.RowKit
set_option linter.unusedSimpArgs false in
set_option maxHeartbeats 4000000 in
set_option maxRecDepth 100000 in
theorem offered_any (w : World) (v : Value) (xss : List (List Lin)) (who : Int) (x : Lin) (hr : LL w v xss) (hn : xss.length ≤ 1000) (hs : ∀ o ∈ xss, SortN o ∧ o.length ≤ 2000) :
    Calls Try.prog 28 #[v, .int .i64 who, x.v] w fun e w' => e = .returned (.bool (offB xss who x)) ∧ Below w.heap.size w w' := by
  obtain ⟨p, c, rfl⟩ := hr.shape
  have HR := Lib.hid hr
  have HB := Lib.hid (oneB w (.cells #[.int .i64 x.s, .int .i64 x.n, .int .i64 x.b, .int .i64 x.a] 45))
  have HX := Lib.hid (Blk.new w #[.int .i64 x.s, .int .i64 x.n, .int .i64 x.b, .int .i64 x.a] 45)
  clear hr
  by_cases h0 : who < 0
  · have HE : Hid (offB xss who x = false) := by show _ = _; unfold offB; apply decide_eq_false; omega
    clear hs
    generalize xss.length = n at *
    unfold Lin.v
    go_enter Try.func28, Try.ntmps28
    go_wp2_with fail
    go_ret
    exact ⟨by rw [HE.out]; rfl, HB.out⟩
  by_cases h1 : (xss.length : Int) ≤ who
  · have HE : Hid (offB xss who x = false) := by show _ = _; unfold offB; apply decide_eq_false; omega
    have h0' : 0 ≤ who := by omega
    clear hs h0
    generalize xss.length = n at *
    unfold Lin.v
    go_enter Try.func28, Try.ntmps28
    go_wp2_with fail
    go_ret
    exact ⟨by rw [HE.out]; rfl, HB.out⟩
  have h0' : 0 ≤ who := by omega
  have h1' : who < (xss.length : Int) := by omega
  have hi : who.toNat < xss.length := by omega
  have hwr : IntKind.i64.wrap who = who := IntWalk.i64_in _ (by omega)
  clear h0 h1
  obtain ⟨b, o, u, rfl, hbl, hcu, hru⟩ := HR.out.at_ who.toNat hi
  have HO : Hid (offB xss who x = decide (x ∈ xss[who.toNat])) := by
    show _ = _
    unfold offB
    rw [List.getD_eq_getElem?_getD, List.getElem?_eq_getElem hi, Option.getD_some]
    simp only [h0', h1', true_and]
  obtain ⟨hso, hln⟩ := hs _ (List.getElem_mem hi)
  generalize xss[who.toNat] = ys at *
  obtain ⟨pu, cu, rfl⟩ := hru.shape
  obtain ⟨A, mid, B, hA⟩ := aroundF_of_sorted posN ⟨x.s, x.n, 0⟩ ys hso
  have HSR := Lib.hid (fun (W : World) (h : Below w.heap.size w W) => searchN_any W _ ys A mid B x (hru.kept h) hA hln)
  have HRU := Lib.hid hru
  have HA := Lib.hid hA
  unfold Lin.v at HSR
  obtain ⟨fd, hfd⟩ : ∃ fd, decide (mid ≠ []) = fd := ⟨_, rfl⟩
  rw [hfd] at HSR
  have HFD := Lib.hid hfd
  clear hfd
  unfold Lin.v
  clear hs hso hi hru hA
  generalize xss.length = n at *
  go_enter Try.func28, Try.ntmps28
  go_wp2_with fail
  have hcu1 := (HB.out.cell (p := ⟨b, o + who.toNat, none⟩) hbl).trans hcu
  have hbl1 := Nat.lt_of_lt_of_le hbl HB.out.size
  generalize hgx : w.heap.size = gx at *
  have HGX := Lib.hid hgx
  clear hcu hbl hgx
  generalize w.alloc (.cells #[.int .i64 x.s, .int .i64 x.n, .int .i64 x.b, .int .i64 x.a] 45) = W1 at *
  have x0 : W1.cell? ⟨gx, 0, none⟩ = some (.int .i64 x.s) := HX.out.cell 0
  have x1 : W1.cell? ⟨gx, 1, none⟩ = some (.int .i64 x.n) := HX.out.cell 1
  have x2 : W1.cell? ⟨gx, 2, none⟩ = some (.int .i64 x.b) := HX.out.cell 2
  have x3 : W1.cell? ⟨gx, 3, none⟩ = some (.int .i64 x.a) := HX.out.cell 3
  have hgl := HX.out.lt
  have hS1 : W1.drew.cell? ⟨b, o + who.toNat, none⟩ = some (.slice pu ys.length cu) ∧ W1.drew.cell? ⟨gx, 0, none⟩ = some (.int .i64 x.s) ∧ W1.drew.cell? ⟨gx, 1, none⟩ = some (.int .i64 x.n) ∧ W1.drew.cell? ⟨gx, 2, none⟩ = some (.int .i64 x.b) ∧ W1.drew.cell? ⟨gx, 3, none⟩ = some (.int .i64 x.a) := ⟨hcu1, x0, x1, x2, x3⟩
  have HS : Hid (∀ w', Below W1.heap.size W1 w' → w'.cell? ⟨b, o + who.toNat, none⟩ = some (.slice pu ys.length cu) ∧ w'.cell? ⟨gx, 0, none⟩ = some (.int .i64 x.s) ∧ w'.cell? ⟨gx, 1, none⟩ = some (.int .i64 x.n) ∧ w'.cell? ⟨gx, 2, none⟩ = some (.int .i64 x.b) ∧ w'.cell? ⟨gx, 3, none⟩ = some (.int .i64 x.a)) := fun w' h => ⟨(h.cell (p := ⟨b, _, none⟩) hbl1).trans hcu1, (h.cell (p := ⟨gx, 0, none⟩) hgl).trans x0, (h.cell (p := ⟨gx, 1, none⟩) hgl).trans x1, (h.cell (p := ⟨gx, 2, none⟩) hgl).trans x2, (h.cell (p := ⟨gx, 3, none⟩) hgl).trans x3⟩
  refine wp_region_held_drew (S := fun w' => w'.cell? ⟨b, o + who.toNat, none⟩ = some (.slice pu ys.length cu) ∧ w'.cell? ⟨gx, 0, none⟩ = some (.int .i64 x.s) ∧ w'.cell? ⟨gx, 1, none⟩ = some (.int .i64 x.n) ∧ w'.cell? ⟨gx, 2, none⟩ = some (.int .i64 x.b) ∧ w'.cell? ⟨gx, 3, none⟩ = some (.int .i64 x.a)) (by kernel_rfl) hS1 (fun hS0 => ?_)
  refine wpAnyH_take (i := 0) (v := ?_) rfl (by kernel_rfl) (by kernel_rfl) (by kernel_rfl) (fun _ _ _ h => h) (Or.inl ⟨by kernel_rfl, ?_⟩) (by first | assumption | trivial) ?_
  rotate_left
  · intro w hSw
    try dsimp only at hSw
    first | (go_simp; done) | (go_simp; with_reducible rfl)
  try simp only [Act.put, List.getElem_toArray, List.getElem_cons_succ, List.getElem_cons_zero, List.setIfInBounds_toArray, List.set_cons_zero, List.set_cons_succ]
  refine wpAnyH_take (i := 1) (v := ?_) rfl (by kernel_rfl) (by kernel_rfl) (by kernel_rfl) (fun _ _ _ h => h) (Or.inl ⟨by kernel_rfl, ?_⟩) (by first | assumption | trivial) ?_
  rotate_left
  · intro w hSw
    try dsimp only at hSw
    first | (go_simp; done) | (go_simp; with_reducible rfl)
  try simp only [Act.put, List.getElem_toArray, List.getElem_cons_succ, List.getElem_cons_zero, List.setIfInBounds_toArray, List.set_cons_zero, List.set_cons_succ]
  refine wpAnyH_take (i := 2) (v := ?_) rfl (by kernel_rfl) (by kernel_rfl) (by kernel_rfl) (fun _ _ _ h => h) (Or.inl ⟨by kernel_rfl, ?_⟩) (by first | assumption | trivial) ?_
  rotate_left
  · intro w hSw
    try dsimp only at hSw
    first | (go_simp; done) | (go_simp; with_reducible rfl)
  try simp only [Act.put, List.getElem_toArray, List.getElem_cons_succ, List.getElem_cons_zero, List.setIfInBounds_toArray, List.set_cons_zero, List.set_cons_succ]
  refine wpAnyH_take (i := 3) (v := ?_) rfl (by kernel_rfl) (by kernel_rfl) (by kernel_rfl) (fun _ _ _ h => h) (Or.inl ⟨by kernel_rfl, ?_⟩) (by first | assumption | trivial) ?_
  rotate_left
  · intro w hSw
    try dsimp only at hSw
    first | (go_simp; done) | (go_simp; with_reducible rfl)
  try simp only [Act.put, List.getElem_toArray, List.getElem_cons_succ, List.getElem_cons_zero, List.setIfInBounds_toArray, List.set_cons_zero, List.set_cons_succ]
  refine wpAnyH_take (i := 4) (v := ?_) rfl (by kernel_rfl) (by kernel_rfl) (by kernel_rfl) (fun _ _ _ h => h) (Or.inl ⟨by kernel_rfl, ?_⟩) (by first | assumption | trivial) ?_
  rotate_left
  · intro w hSw
    try dsimp only at hSw
    first | (go_simp; done) | (go_simp; with_reducible rfl)
  try simp only [Act.put, List.getElem_toArray, List.getElem_cons_succ, List.getElem_cons_zero, List.setIfInBounds_toArray, List.set_cons_zero, List.set_cons_succ]
  refine wpAnyH_ready (rs := [5]) (by kernel_rfl) (by simp) ?_
  refine AllReadyH.cons rfl (fun K hK => ?_) AllReadyH.nil
  go_simp
  go_at_call 39
  refine (HSR.out W1.drew (by first | exact HB.out.drew | (rw [HGX.out]; exact HB.out.drew))).mono ?_
  rintro y w2 ⟨rfl, hb2⟩
  have HB2 := Lib.hid ((Below.refl W1.heap.size W1).drew.trans (hb2.mono (Nat.le_refl _)))
  clear hb2
  try go_wp2_with fail
  refine hK.out _ _ (HS.out w2 HB2.out) (fun hS => ?_)
  clear hK K
  try simp only [Act.put, List.getElem_toArray, List.getElem_cons_succ, List.getElem_cons_zero, List.setIfInBounds_toArray, List.set_cons_zero, List.set_cons_succ]
  refine wpAnyH_take (i := 6) (v := ?_) rfl (by kernel_rfl) (by kernel_rfl) (by kernel_rfl) (fun _ _ _ h => h) (Or.inl ⟨by kernel_rfl, ?_⟩) (by first | assumption | trivial) ?_
  rotate_left
  · intro w hSw
    try dsimp only at hSw
    first | (go_simp; done) | (go_simp; with_reducible rfl)
  try simp only [Act.put, List.getElem_toArray, List.getElem_cons_succ, List.getElem_cons_zero, List.setIfInBounds_toArray, List.set_cons_zero, List.set_cons_succ]
  refine wpAnyH_take (i := 7) (v := ?_) rfl (by kernel_rfl) (by kernel_rfl) (by kernel_rfl) (fun _ _ _ h => h) (Or.inl ⟨by kernel_rfl, ?_⟩) (by first | assumption | trivial) ?_
  rotate_left
  · intro w hSw
    try dsimp only at hSw
    first | (go_simp; done) | (go_simp; with_reducible rfl)
  try simp only [Act.put, List.getElem_toArray, List.getElem_cons_succ, List.getElem_cons_zero, List.setIfInBounds_toArray, List.set_cons_zero, List.set_cons_succ]
  refine wpAnyH_take (i := 8) (v := ?_) rfl (by kernel_rfl) (by kernel_rfl) (by kernel_rfl) (fun _ _ _ h => h) (Or.inl ⟨by kernel_rfl, ?_⟩) (by first | assumption | trivial) ?_
  rotate_left
  · intro w hSw
    try dsimp only at hSw
    first | (go_simp; done) | (go_simp; with_reducible rfl)
  try simp only [Act.put, List.getElem_toArray, List.getElem_cons_succ, List.getElem_cons_zero, List.setIfInBounds_toArray, List.set_cons_zero, List.set_cons_succ]
  refine wpAnyH_take (i := 9) (v := ?_) rfl (by kernel_rfl) (by kernel_rfl) (by kernel_rfl) (fun _ _ _ h => h) (Or.inl ⟨by kernel_rfl, ?_⟩) (by first | assumption | trivial) ?_
  rotate_left
  · intro w hSw
    try dsimp only at hSw
    first | (go_simp; done) | (go_simp; with_reducible rfl)
  try simp only [Act.put, List.getElem_toArray, List.getElem_cons_succ, List.getElem_cons_zero, List.setIfInBounds_toArray, List.set_cons_zero, List.set_cons_succ]
  refine wpAnyH_take (i := 10) (v := ?_) rfl (by kernel_rfl) (by kernel_rfl) (by kernel_rfl) (fun _ _ _ h => h) (Or.inl ⟨by kernel_rfl, ?_⟩) (by first | assumption | trivial) ?_
  rotate_left
  · intro w hSw
    try dsimp only at hSw
    first | (go_simp; done) | (go_simp; with_reducible rfl)
  try simp only [Act.put, List.getElem_toArray, List.getElem_cons_succ, List.getElem_cons_zero, List.setIfInBounds_toArray, List.set_cons_zero, List.set_cons_succ]
  refine wpAnyH_done (by kernel_rfl) ?_ _
  have HBW := Lib.hid (HB.out.trans (HB2.out.mono (by have := HB.out.size; have := HGX.out; omega)))
  obtain ⟨hcu2, y0, y1, y2, y3⟩ := HS.out w2 HB2.out
  clear hcu1 x0 x1 x2 x3 hS1 HS hS0
  rcases HA.out.mid1 with hm | ⟨q, hm, hq⟩
  · have HE : Hid (offB xss who x = false) := by
      show _ = _
      rw [HO.out]
      apply decide_eq_false
      rw [mem_around HA.out, hm]
      simp
    obtain rfl : fd = false := by rw [← HFD.out, hm]; rfl
    clear hm
    go_wp2_with fail
    refine wp_region_held_drew (S := fun w' => True) (by kernel_rfl) trivial (fun hS0 => ?_)
    refine wpAnyH_take (i := 0) (v := ?_) rfl (by kernel_rfl) (by kernel_rfl) (by kernel_rfl) (fun _ _ _ h => h) (Or.inl ⟨by kernel_rfl, ?_⟩) (by first | assumption | trivial) ?_
    rotate_left
    · intro w hSw
      try dsimp only at hSw
      first | (go_simp; done) | (go_simp; with_reducible rfl)
    try simp only [Act.put, List.getElem_toArray, List.getElem_cons_succ, List.getElem_cons_zero, List.setIfInBounds_toArray, List.set_cons_zero, List.set_cons_succ]
    refine wpAnyH_take (i := 1) (v := ?_) rfl (by kernel_rfl) (by kernel_rfl) (by kernel_rfl) (fun _ _ _ h => h) (Or.inl ⟨by kernel_rfl, ?_⟩) (by first | assumption | trivial) ?_
    rotate_left
    · intro w hSw
      try dsimp only at hSw
      first | (go_simp; done) | (go_simp; with_reducible rfl)
    try simp only [Act.put, List.getElem_toArray, List.getElem_cons_succ, List.getElem_cons_zero, List.setIfInBounds_toArray, List.set_cons_zero, List.set_cons_succ]
    refine wpAnyH_take (i := 2) (v := undef) rfl (by kernel_rfl) (by kernel_rfl) (by kernel_rfl) (fun _ _ _ h => h) (Or.inr ⟨by kernel_rfl, rfl⟩) (by first | assumption | trivial) ?_
    try simp only [Act.put, List.getElem_toArray, List.getElem_cons_succ, List.getElem_cons_zero, List.setIfInBounds_toArray, List.set_cons_zero, List.set_cons_succ]
    refine wpAnyH_take (i := 3) (v := undef) rfl (by kernel_rfl) (by kernel_rfl) (by kernel_rfl) (fun _ _ _ h => h) (Or.inr ⟨by kernel_rfl, rfl⟩) (by first | assumption | trivial) ?_
    try simp only [Act.put, List.getElem_toArray, List.getElem_cons_succ, List.getElem_cons_zero, List.setIfInBounds_toArray, List.set_cons_zero, List.set_cons_succ]
    refine wpAnyH_take (i := 4) (v := undef) rfl (by kernel_rfl) (by kernel_rfl) (by kernel_rfl) (fun _ _ _ h => h) (Or.inr ⟨by kernel_rfl, rfl⟩) (by first | assumption | trivial) ?_
    try simp only [Act.put, List.getElem_toArray, List.getElem_cons_succ, List.getElem_cons_zero, List.setIfInBounds_toArray, List.set_cons_zero, List.set_cons_succ]
    refine wpAnyH_take (i := 5) (v := undef) rfl (by kernel_rfl) (by kernel_rfl) (by kernel_rfl) (fun _ _ _ h => h) (Or.inr ⟨by kernel_rfl, rfl⟩) (by first | assumption | trivial) ?_
    try simp only [Act.put, List.getElem_toArray, List.getElem_cons_succ, List.getElem_cons_zero, List.setIfInBounds_toArray, List.set_cons_zero, List.set_cons_succ]
    refine wpAnyH_take (i := 6) (v := undef) rfl (by kernel_rfl) (by kernel_rfl) (by kernel_rfl) (fun _ _ _ h => h) (Or.inr ⟨by kernel_rfl, rfl⟩) (by first | assumption | trivial) ?_
    try simp only [Act.put, List.getElem_toArray, List.getElem_cons_succ, List.getElem_cons_zero, List.setIfInBounds_toArray, List.set_cons_zero, List.set_cons_succ]
    refine wpAnyH_take (i := 7) (v := undef) rfl (by kernel_rfl) (by kernel_rfl) (by kernel_rfl) (fun _ _ _ h => h) (Or.inr ⟨by kernel_rfl, rfl⟩) (by first | assumption | trivial) ?_
    try simp only [Act.put, List.getElem_toArray, List.getElem_cons_succ, List.getElem_cons_zero, List.setIfInBounds_toArray, List.set_cons_zero, List.set_cons_succ]
    refine wpAnyH_take (i := 8) (v := undef) rfl (by kernel_rfl) (by kernel_rfl) (by kernel_rfl) (fun _ _ _ h => h) (Or.inr ⟨by kernel_rfl, rfl⟩) (by first | assumption | trivial) ?_
    try simp only [Act.put, List.getElem_toArray, List.getElem_cons_succ, List.getElem_cons_zero, List.setIfInBounds_toArray, List.set_cons_zero, List.set_cons_succ]
    refine wpAnyH_take (i := 9) (v := undef) rfl (by kernel_rfl) (by kernel_rfl) (by kernel_rfl) (fun _ _ _ h => h) (Or.inr ⟨by kernel_rfl, rfl⟩) (by first | assumption | trivial) ?_
    try simp only [Act.put, List.getElem_toArray, List.getElem_cons_succ, List.getElem_cons_zero, List.setIfInBounds_toArray, List.set_cons_zero, List.set_cons_succ]
    refine wpAnyH_take (i := 10) (v := undef) rfl (by kernel_rfl) (by kernel_rfl) (by kernel_rfl) (fun _ _ _ h => h) (Or.inr ⟨by kernel_rfl, rfl⟩) (by first | assumption | trivial) ?_
    try simp only [Act.put, List.getElem_toArray, List.getElem_cons_succ, List.getElem_cons_zero, List.setIfInBounds_toArray, List.set_cons_zero, List.set_cons_succ]
    refine wpAnyH_take (i := 11) (v := ?_) rfl (by kernel_rfl) (by kernel_rfl) (by kernel_rfl) (fun _ _ _ h => h) (Or.inl ⟨by kernel_rfl, ?_⟩) (by first | assumption | trivial) ?_
    rotate_left
    · intro w hSw
      try dsimp only at hSw
      first | (go_simp; done) | (go_simp; with_reducible rfl)
    try simp only [Act.put, List.getElem_toArray, List.getElem_cons_succ, List.getElem_cons_zero, List.setIfInBounds_toArray, List.set_cons_zero, List.set_cons_succ]
    refine wpAnyH_take (i := 12) (v := ?_) rfl (by kernel_rfl) (by kernel_rfl) (by kernel_rfl) (fun _ _ _ h => h) (Or.inl ⟨by kernel_rfl, ?_⟩) (by first | assumption | trivial) ?_
    rotate_left
    · intro w hSw
      try dsimp only at hSw
      first | (go_simp; done) | (go_simp; with_reducible rfl)
    try simp only [Act.put, List.getElem_toArray, List.getElem_cons_succ, List.getElem_cons_zero, List.setIfInBounds_toArray, List.set_cons_zero, List.set_cons_succ]
    refine wpAnyH_done (by kernel_rfl) ?_ _
    go_wp2_with fail
    go_ret
    exact ⟨by rw [HE.out]; rfl, by first | exact HBW.out.drew | (rw [HGX.out]; exact HBW.out.drew)⟩
  · have HE : Hid (offB xss who x = linEq q x) := by
      show _ = _
      rw [HO.out, linEq_dec, Bool.eq_iff_iff]
      simp only [decide_eq_true_eq]
      rw [mem_around HA.out, hm, List.mem_singleton]
      exact eq_comm
    obtain rfl : fd = true := by rw [← HFD.out, hm]; rfl
    have hAl : A.length < ys.length := by rw [HA.out.all, hm]; simp only [List.length_append, List.length_cons, List.length_nil]; omega
    have hget : ys[A.length] = q := by
      have e := HA.out.all
      rw [hm] at e
      subst e
      simp
    obtain ⟨bq, oq, e1, hblq, hcs⟩ := (HRU.out.kept (w' := w2) (by first | exact HBW.out | (rw [HGX.out]; exact HBW.out))).at_ A.length hAl
    subst e1
    rw [hget] at hcs
    have hAI : ((A.length : Nat) : Int) < (ys.length : Int) := by omega
    have hwA : IntKind.i64.wrap ((A.length : Nat) : Int) = ((A.length : Nat) : Int) := IntWalk.i64_in _ (by omega)
    have c0 : w2.cell? ⟨bq, oq + A.length * 4, none⟩ = some (.int .i64 q.s) := hcs 0 (by decide)
    have c1 : w2.cell? ⟨bq, oq + A.length * 4 + 1, none⟩ = some (.int .i64 q.n) := hcs 1 (by decide)
    have c2 : w2.cell? ⟨bq, oq + A.length * 4 + 2, none⟩ = some (.int .i64 q.b) := hcs 2 (by decide)
    have c3 : w2.cell? ⟨bq, oq + A.length * 4 + 3, none⟩ = some (.int .i64 q.a) := hcs 3 (by decide)
    have hS2 : w2.drew.cell? ⟨b, o + who.toNat, none⟩ = some (.slice (some ⟨bq, oq, none⟩) ys.length cu) ∧ w2.drew.cell? ⟨gx, 0, none⟩ = some (.int .i64 x.s) ∧ w2.drew.cell? ⟨gx, 1, none⟩ = some (.int .i64 x.n) ∧ w2.drew.cell? ⟨gx, 2, none⟩ = some (.int .i64 x.b) ∧ w2.drew.cell? ⟨gx, 3, none⟩ = some (.int .i64 x.a) ∧ w2.drew.cell? ⟨bq, oq + A.length * 4, none⟩ = some (.int .i64 q.s) ∧ w2.drew.cell? ⟨bq, oq + A.length * 4 + 1, none⟩ = some (.int .i64 q.n) ∧ w2.drew.cell? ⟨bq, oq + A.length * 4 + 2, none⟩ = some (.int .i64 q.b) ∧ w2.drew.cell? ⟨bq, oq + A.length * 4 + 3, none⟩ = some (.int .i64 q.a) := ⟨hcu2, y0, y1, y2, y3, c0, c1, c2, c3⟩
    have keq := fun (w : World) => line_eq q x w
    clear hm hget hcs c0 c1 c2 c3 hcu2 y0 y1 y2 y3 hq
    generalize A.length = Al at *
    go_wp2_with fail
    refine wp_region_held_drew (S := fun w' => w'.cell? ⟨b, o + who.toNat, none⟩ = some (.slice (some ⟨bq, oq, none⟩) ys.length cu) ∧ w'.cell? ⟨gx, 0, none⟩ = some (.int .i64 x.s) ∧ w'.cell? ⟨gx, 1, none⟩ = some (.int .i64 x.n) ∧ w'.cell? ⟨gx, 2, none⟩ = some (.int .i64 x.b) ∧ w'.cell? ⟨gx, 3, none⟩ = some (.int .i64 x.a) ∧ w'.cell? ⟨bq, oq + Al * 4, none⟩ = some (.int .i64 q.s) ∧ w'.cell? ⟨bq, oq + Al * 4 + 1, none⟩ = some (.int .i64 q.n) ∧ w'.cell? ⟨bq, oq + Al * 4 + 2, none⟩ = some (.int .i64 q.b) ∧ w'.cell? ⟨bq, oq + Al * 4 + 3, none⟩ = some (.int .i64 q.a)) (by kernel_rfl) hS2 (fun hS0 => ?_)
    refine wpAnyH_take (i := 0) (v := ?_) rfl (by kernel_rfl) (by kernel_rfl) (by kernel_rfl) (fun _ _ _ h => h) (Or.inl ⟨by kernel_rfl, ?_⟩) (by first | assumption | trivial) ?_
    rotate_left
    · intro w hSw
      try dsimp only at hSw
      first | (go_simp; done) | (go_simp; with_reducible rfl)
    try simp only [Act.put, List.getElem_toArray, List.getElem_cons_succ, List.getElem_cons_zero, List.setIfInBounds_toArray, List.set_cons_zero, List.set_cons_succ]
    refine wpAnyH_take (i := 1) (v := ?_) rfl (by kernel_rfl) (by kernel_rfl) (by kernel_rfl) (fun _ _ _ h => h) (Or.inl ⟨by kernel_rfl, ?_⟩) (by first | assumption | trivial) ?_
    rotate_left
    · intro w hSw
      try dsimp only at hSw
      first | (go_simp; done) | (go_simp; with_reducible rfl)
    try simp only [Act.put, List.getElem_toArray, List.getElem_cons_succ, List.getElem_cons_zero, List.setIfInBounds_toArray, List.set_cons_zero, List.set_cons_succ]
    refine wpAnyH_take (i := 2) (v := ?_) rfl (by kernel_rfl) (by kernel_rfl) (by kernel_rfl) (fun _ _ _ h => h) (Or.inl ⟨by kernel_rfl, ?_⟩) (by first | assumption | trivial) ?_
    rotate_left
    · intro w hSw
      try dsimp only at hSw
      first | (go_simp; done) | (go_simp; with_reducible rfl)
    try simp only [Act.put, List.getElem_toArray, List.getElem_cons_succ, List.getElem_cons_zero, List.setIfInBounds_toArray, List.set_cons_zero, List.set_cons_succ]
    refine wpAnyH_take (i := 3) (v := ?_) rfl (by kernel_rfl) (by kernel_rfl) (by kernel_rfl) (fun _ _ _ h => h) (Or.inl ⟨by kernel_rfl, ?_⟩) (by first | assumption | trivial) ?_
    rotate_left
    · intro w hSw
      try dsimp only at hSw
      first | (go_simp; done) | (go_simp; with_reducible rfl)
    try simp only [Act.put, List.getElem_toArray, List.getElem_cons_succ, List.getElem_cons_zero, List.setIfInBounds_toArray, List.set_cons_zero, List.set_cons_succ]
    refine wpAnyH_take (i := 4) (v := ?_) rfl (by kernel_rfl) (by kernel_rfl) (by kernel_rfl) (fun _ _ _ h => h) (Or.inl ⟨by kernel_rfl, ?_⟩) (by first | assumption | trivial) ?_
    rotate_left
    · intro w hSw
      try dsimp only at hSw
      first | (go_simp; done) | (go_simp; with_reducible rfl)
    try simp only [Act.put, List.getElem_toArray, List.getElem_cons_succ, List.getElem_cons_zero, List.setIfInBounds_toArray, List.set_cons_zero, List.set_cons_succ]
    refine wpAnyH_take (i := 5) (v := ?_) rfl (by kernel_rfl) (by kernel_rfl) (by kernel_rfl) (fun _ _ _ h => h) (Or.inl ⟨by kernel_rfl, ?_⟩) (by first | assumption | trivial) ?_
    rotate_left
    · intro w hSw
      try dsimp only at hSw
      first | (go_simp; done) | (go_simp; with_reducible rfl)
    try simp only [Act.put, List.getElem_toArray, List.getElem_cons_succ, List.getElem_cons_zero, List.setIfInBounds_toArray, List.set_cons_zero, List.set_cons_succ]
    refine wpAnyH_take (i := 6) (v := ?_) rfl (by kernel_rfl) (by kernel_rfl) (by kernel_rfl) (fun _ _ _ h => h) (Or.inl ⟨by kernel_rfl, ?_⟩) (by first | assumption | trivial) ?_
    rotate_left
    · intro w hSw
      try dsimp only at hSw
      first | (go_simp; done) | (go_simp; with_reducible rfl)
    try simp only [Act.put, List.getElem_toArray, List.getElem_cons_succ, List.getElem_cons_zero, List.setIfInBounds_toArray, List.set_cons_zero, List.set_cons_succ]
    refine wpAnyH_take (i := 7) (v := ?_) rfl (by kernel_rfl) (by kernel_rfl) (by kernel_rfl) (fun _ _ _ h => h) (Or.inl ⟨by kernel_rfl, ?_⟩) (by first | assumption | trivial) ?_
    rotate_left
    · intro w hSw
      try dsimp only at hSw
      first | (go_simp; done) | (go_simp; with_reducible rfl)
    try simp only [Act.put, List.getElem_toArray, List.getElem_cons_succ, List.getElem_cons_zero, List.setIfInBounds_toArray, List.set_cons_zero, List.set_cons_succ]
    refine wpAnyH_take (i := 8) (v := ?_) rfl (by kernel_rfl) (by kernel_rfl) (by kernel_rfl) (fun _ _ _ h => h) (Or.inl ⟨by kernel_rfl, ?_⟩) (by first | assumption | trivial) ?_
    rotate_left
    · intro w hSw
      try dsimp only at hSw
      first | (go_simp; done) | (go_simp; with_reducible rfl)
    try simp only [Act.put, List.getElem_toArray, List.getElem_cons_succ, List.getElem_cons_zero, List.setIfInBounds_toArray, List.set_cons_zero, List.set_cons_succ]
    refine wpAnyH_take (i := 9) (v := ?_) rfl (by kernel_rfl) (by kernel_rfl) (by kernel_rfl) (fun _ _ _ h => h) (Or.inl ⟨by kernel_rfl, ?_⟩) (by first | assumption | trivial) ?_
    rotate_left
    · intro w hSw
      try dsimp only at hSw
      first | (go_simp; done) | (go_simp; with_reducible rfl)
    try simp only [Act.put, List.getElem_toArray, List.getElem_cons_succ, List.getElem_cons_zero, List.setIfInBounds_toArray, List.set_cons_zero, List.set_cons_succ]
    refine wpAnyH_take (i := 10) (v := ?_) rfl (by kernel_rfl) (by kernel_rfl) (by kernel_rfl) (fun _ _ _ h => h) (Or.inl ⟨by kernel_rfl, ?_⟩) (by first | assumption | trivial) ?_
    rotate_left
    · intro w hSw
      try dsimp only at hSw
      first | (go_simp; done) | (go_simp; with_reducible rfl)
    try simp only [Act.put, List.getElem_toArray, List.getElem_cons_succ, List.getElem_cons_zero, List.setIfInBounds_toArray, List.set_cons_zero, List.set_cons_succ]
    refine wpAnyH_take (i := 11) (v := ?_) rfl (by kernel_rfl) (by kernel_rfl) (by kernel_rfl) (fun _ _ _ h => h) (Or.inl ⟨by kernel_rfl, ?_⟩) (by first | assumption | trivial) ?_
    rotate_left
    · intro w hSw
      try dsimp only at hSw
      first | (go_simp; done) | (go_simp; with_reducible rfl)
    try simp only [Act.put, List.getElem_toArray, List.getElem_cons_succ, List.getElem_cons_zero, List.setIfInBounds_toArray, List.set_cons_zero, List.set_cons_succ]
    refine wpAnyH_take (i := 12) (v := ?_) rfl (by kernel_rfl) (by kernel_rfl) (by kernel_rfl) (fun _ _ _ h => h) (Or.inl ⟨by kernel_rfl, ?_⟩) (by first | assumption | trivial) ?_
    rotate_left
    · intro w hSw
      try dsimp only at hSw
      first | (go_simp; done) | (go_simp; with_reducible rfl)
    try simp only [Act.put, List.getElem_toArray, List.getElem_cons_succ, List.getElem_cons_zero, List.setIfInBounds_toArray, List.set_cons_zero, List.set_cons_succ]
    refine wpAnyH_done (by kernel_rfl) ?_ _
    clear keq
    go_wp2_with fail
    go_ret
    exact ⟨by rw [HE.out]; rfl, by first | exact HBW.out.drew | (rw [HGX.out]; exact HBW.out.drew)⟩
end Go.Proofs.Yteofblabimneiaa
