/- Twice by contract. -/
import Derived.Test.YtfdehnfcoojljaaNetFns
import Derived.Test.YtfdehnfcoojljaaNetPush
import Derived.Deep.RegionHeld3
namespace Go.Proofs.Ytfdehnfcoojljaa
open Go.RowKit
set_option linter.unusedSimpArgs false
theorem Fly.grow {P : Nat → Prop} {w w' : World} {g : Nat} {ks : List Pk} (h : Fly (fun b => P b ∨ w.heap.size ≤ b) w' g ks) : Fly (Grow P w w') w' g ks := h.mono (fun _ hb hp => hp.imp id (fun h => ⟨h, hb⟩))
set_option maxHeartbeats 4000000 in
set_option maxRecDepth 100000 in
theorem twice_no {P : Nat → Prop} {g : Nat} {ks : List Pk} (w : World) (i : Int) (h : Fly P w g ks) (hi : ¬ (0 ≤ i ∧ i < (ks.length : Int))) : Calls Try.prog 12 #[.pointer (some ⟨g, 0, none⟩), .int .i64 i] w fun e w' => e = .returned (.int .i64 4) ∧ w' = w := by
  have HH := Lib.hid (has_any w i h)
  rw [hasB_no _ _ hi] at HH
  clear h hi
  go_enter Try.func12, Try.ntmps12
  go_wp2_with fail
  refine HH.out.mono ?_
  rintro y w1 ⟨rfl, rfl⟩
  go_wp2_with fail
  go_ret
  exact ⟨rfl, rfl⟩
set_option maxHeartbeats 4000000 in
set_option maxRecDepth 100000 in
theorem twice_full {P : Nat → Prop} {g : Nat} {ks : List Pk} (w : World) (i : Nat) (h : Fly P w g ks) (hi : i < ks.length) (hm : 8192 ≤ ks.length) : Calls Try.prog 12 #[.pointer (some ⟨g, 0, none⟩), .int .i64 i] w fun e w' => e = .returned (.int .i64 3) ∧ w' = w := by
  have HH := Lib.hid (has_any w i h)
  rw [hasB_nat _ _ hi] at HH
  obtain ⟨p, c, aa, h⟩ := h
  have c0 : w.cell? ⟨g, 0, none⟩ = some (.slice p ks.length c) := h.blk.cell 0
  have hm' : (8192 : Int) ≤ (ks.length : Int) := by omega
  clear h hi hm
  generalize ks.length = n at *
  go_enter Try.func12, Try.ntmps12
  go_wp2_with fail
  refine HH.out.mono ?_
  rintro y w1 ⟨rfl, rfl⟩
  go_wp2_with fail
  go_ret
  exact ⟨rfl, rfl⟩
set_option maxHeartbeats 4000000 in
set_option maxRecDepth 100000 in
theorem twice_ok {P : Nat → Prop} {g : Nat} {ks : List Pk} (w : World) (i : Nat) (h : Fly P w g ks) (hi : i < ks.length) (hm : ks.length < 8192) : Calls Try.prog 12 #[.pointer (some ⟨g, 0, none⟩), .int .i64 i] w fun e w' => e = .returned (.int .i64 0) ∧ Fly (Grow P w w') w' g (ks ++ [ks[i]]) ∧ ChgP P w w'  := by
  have HH := Lib.hid (has_any w i h)
  rw [hasB_nat _ _ hi] at HH
  obtain ⟨p, c, aa, h⟩ := h.mono (Q := fun b => P b ∨ w.heap.size ≤ b) (fun b _ hp => .inl hp)
  have hia : i < aa.length := by rw [h.len]; exact hi
  obtain ⟨s, cur, rfl, hrest⟩ := h.own.lies (by omega)
  clear hrest cur
  obtain ⟨b', o', e1, hsl, hcs⟩ := h.own.row.at_ i hia
  cases e1
  have HPK := Lib.hid (h.at_ i hia hi)
  obtain ⟨kk, hkk⟩ : ∃ kk, ks[i] = kk := ⟨_, rfl⟩
  rw [hkk] at HPK ⊢
  obtain ⟨a, ha⟩ : ∃ a, aa[i] = a := ⟨_, rfl⟩
  rw [ha] at hcs HPK
  have hm' : ¬ (8192 : Int) ≤ (ks.length : Int) := by omega
  have hin : (i : Int) < (ks.length : Int) := by omega
  have HNE : Hid (s ≠ g) := (h.sown s rfl).2
  have d0 : w.drew.cell? ⟨s, i, none⟩ = some (.pointer (some ⟨a, 0, none⟩)) := by
    have := hcs 0 (by decide)
    rw [show encA.k = 1 from rfl, Nat.mul_one, Nat.add_zero, Nat.zero_add] at this
    exact this
  have c0 : w.cell? ⟨g, 0, none⟩ = some (.slice (some ⟨s, 0, none⟩) ks.length c) := h.blk.cell 0
  have c1 : w.drew.cell? ⟨g, 0, none⟩ = some (.slice (some ⟨s, 0, none⟩) ks.length c) := h.blk.cell 0
  have c2 : ((w.alloc (.cells #[.pointer (some ⟨a, 0, none⟩)] 55)).drew).cell? ⟨g, 0, none⟩ = some (.slice (some ⟨s, 0, none⟩) ks.length c) := (h.blk.alloc _).cell 0
  have HX := Lib.hid h
  have HM := Lib.hid hm
  have HL : Hid (aa.length = ks.length) := h.len
  clear h hi hm hcs hsl hkk ha hia
  generalize hn : ks.length = n at *
  have HN := Lib.hid hn
  clear hn
  have HX2 : Hid (FlyX (fun b => P b ∨ w.heap.size ≤ b) ((w.alloc (.cells #[.pointer (some ⟨a, 0, none⟩)] 55)).drew) g ks (some ⟨s, 0, none⟩) n c aa) := HX.out.keepP (KeepP.of_below (oneB w _).drew)
  have HPK2 : Hid (PkAt (InF (fun b => P b ∨ w.heap.size ≤ b) g (.slice (some ⟨s, 0, none⟩) n c)) ((w.alloc (.cells #[.pointer (some ⟨a, 0, none⟩)] 55)).drew) a kk) := HPK.out.keepP (KeepP.of_below (oneB w _).drew)
  have HROW : Hid (TRow encA ((w.alloc (.cells #[.pointer (some ⟨a, 0, none⟩)] 55)).drew) (.slice (some ⟨w.heap.size, 0, none⟩) 1 1) [a]) := TRow.one_ encA a (Blk.new w #[.pointer (some ⟨a, 0, none⟩)] 55).drew rfl (Nat.le_refl 1)
  go_enter Try.func12, Try.ntmps12
  go_wp2_with fail
  refine HH.out.mono ?_
  rintro y w1 ⟨rfl, rfl⟩
  go_wp2_with fail
  refine wp_region_held_drew (S := fun w' => True) (by kernel_rfl) trivial (fun hS0 => ?_)
  refine wpAnyH_take (i := 0) (v := ?_) rfl (by kernel_rfl) (by kernel_rfl) (by kernel_rfl) (fun _ _ _ h => h) (Or.inl ⟨by kernel_rfl, ?_⟩) (by first | assumption | trivial) ?_
  rotate_left
  · intro w hSw
    try dsimp only at hSw
    first | (go_simp; done) | (go_simp; with_reducible rfl)
  try simp only [Act.put, List.getElem_toArray, List.getElem_cons_succ, List.getElem_cons_zero, List.setIfInBounds_toArray, List.set_cons_zero, List.set_cons_succ]
  refine wpAnyH_take (i := 1) (v := ?_) rfl (by kernel_rfl) (by kernel_rfl) (by kernel_rfl) (fun _ _ _ h => h) (Or.inl ⟨by kernel_rfl, ?_⟩) (by first | assumption | trivial) ?_
  rotate_left
  · intro w hSw
    try dsimp only at hSw
    first | (go_simp; done) | (go_simp; with_reducible rfl)
  try simp only [Act.put, List.getElem_toArray, List.getElem_cons_succ, List.getElem_cons_zero, List.setIfInBounds_toArray, List.set_cons_zero, List.set_cons_succ]
  refine wpAnyH_take (i := 2) (v := ?_) rfl (by kernel_rfl) (by kernel_rfl) (by kernel_rfl) (fun _ _ _ h => h) (Or.inl ⟨by kernel_rfl, ?_⟩) (by first | assumption | trivial) ?_
  rotate_left
  · intro w hSw
    try dsimp only at hSw
    first | (go_simp; done) | (go_simp; with_reducible rfl)
  try simp only [Act.put, List.getElem_toArray, List.getElem_cons_succ, List.getElem_cons_zero, List.setIfInBounds_toArray, List.set_cons_zero, List.set_cons_succ]
  refine wpAnyH_take (i := 3) (v := ?_) rfl (by kernel_rfl) (by kernel_rfl) (by kernel_rfl) (fun _ _ _ h => h) (Or.inl ⟨by kernel_rfl, ?_⟩) (by first | assumption | trivial) ?_
  rotate_left
  · intro w hSw
    try dsimp only at hSw
    first | (go_simp; done) | (go_simp; with_reducible rfl)
  try simp only [Act.put, List.getElem_toArray, List.getElem_cons_succ, List.getElem_cons_zero, List.setIfInBounds_toArray, List.set_cons_zero, List.set_cons_succ]
  refine wpAnyH_take (i := 5) (v := ?_) rfl (by kernel_rfl) (by kernel_rfl) (by kernel_rfl) (fun _ _ _ h => h) (Or.inl ⟨by kernel_rfl, ?_⟩) (by first | assumption | trivial) ?_
  rotate_left
  · intro w hSw
    try dsimp only at hSw
    first | (go_simp; done) | (go_simp; with_reducible rfl)
  try simp only [Act.put, List.getElem_toArray, List.getElem_cons_succ, List.getElem_cons_zero, List.setIfInBounds_toArray, List.set_cons_zero, List.set_cons_succ]
  refine wpAnyH_take (i := 6) (v := ?_) rfl (by kernel_rfl) (by kernel_rfl) (by kernel_rfl) (fun _ _ _ h => h) (Or.inl ⟨by kernel_rfl, ?_⟩) (by first | assumption | trivial) ?_
  rotate_left
  · intro w hSw
    try dsimp only at hSw
    first | (go_simp; done) | (go_simp; with_reducible rfl)
  try simp only [Act.put, List.getElem_toArray, List.getElem_cons_succ, List.getElem_cons_zero, List.setIfInBounds_toArray, List.set_cons_zero, List.set_cons_succ]
  refine wpAnyH_take (i := 7) (v := ?_) rfl (by kernel_rfl) (by kernel_rfl) (by kernel_rfl) (fun _ _ _ h => h) (Or.inl ⟨by kernel_rfl, ?_⟩) (by first | assumption | trivial) ?_
  rotate_left
  · intro w hSw
    try dsimp only at hSw
    first | (go_simp; done) | (go_simp; with_reducible rfl)
  try simp only [Act.put, List.getElem_toArray, List.getElem_cons_succ, List.getElem_cons_zero, List.setIfInBounds_toArray, List.set_cons_zero, List.set_cons_succ]
  refine wpAnyH_take (i := 9) (v := ?_) rfl (by kernel_rfl) (by kernel_rfl) (by kernel_rfl) (fun _ _ _ h => h) (Or.inl ⟨by kernel_rfl, ?_⟩) (by first | assumption | trivial) ?_
  rotate_left
  · intro w hSw
    try dsimp only at hSw
    first | (go_simp; done) | (go_simp; with_reducible rfl)
  try simp only [Act.put, List.getElem_toArray, List.getElem_cons_succ, List.getElem_cons_zero, List.setIfInBounds_toArray, List.set_cons_zero, List.set_cons_succ]
  refine wpAnyH_ready (rs := [4, 8]) (by kernel_rfl) (by simp) ?_
  refine AllReadyH.cons rfl (fun K hK => ?_) (AllReadyH.cons rfl (fun K hK => ?_) AllReadyH.nil)
  · skip
    go_simp
    refine hK.out _ _ trivial (fun hS => ?_)
    clear hK K
    try simp only [Act.put, List.getElem_toArray, List.getElem_cons_succ, List.getElem_cons_zero, List.setIfInBounds_toArray, List.set_cons_zero, List.set_cons_succ]
    refine wpAnyH_ready (rs := [8]) (by kernel_rfl) (by simp) ?_
    refine AllReadyH.cons rfl (fun K hK => ?_) AllReadyH.nil
    go_simp
    refine hK.out _ _ trivial (fun hS => ?_)
    clear hK K
    try simp only [Act.put, List.getElem_toArray, List.getElem_cons_succ, List.getElem_cons_zero, List.setIfInBounds_toArray, List.set_cons_zero, List.set_cons_succ]
    refine wpAnyH_take (i := 10) (v := ?_) rfl (by kernel_rfl) (by kernel_rfl) (by kernel_rfl) (fun _ _ _ h => h) (Or.inl ⟨by kernel_rfl, ?_⟩) (by first | assumption | trivial) ?_
    rotate_left
    · intro w hSw
      try dsimp only at hSw
      first | (go_simp; done) | (go_simp; with_reducible rfl)
    try simp only [Act.put, List.getElem_toArray, List.getElem_cons_succ, List.getElem_cons_zero, List.setIfInBounds_toArray, List.set_cons_zero, List.set_cons_succ]
    refine wpAnyH_ready (rs := [11]) (by kernel_rfl) (by simp) ?_
    refine AllReadyH.cons rfl (fun K hK => ?_) AllReadyH.nil
    go_simp
    refine hK.out _ _ trivial (fun hS => ?_)
    clear hK K
    try simp only [Act.put, List.getElem_toArray, List.getElem_cons_succ, List.getElem_cons_zero, List.setIfInBounds_toArray, List.set_cons_zero, List.set_cons_succ]
    refine wpAnyH_ready (rs := [12]) (by kernel_rfl) (by simp) ?_
    refine AllReadyH.cons rfl (fun K hK => ?_) AllReadyH.nil
    go_simp
    refine hK.out _ _ trivial (fun hS => ?_)
    clear hK K
    try simp only [Act.put, List.getElem_toArray, List.getElem_cons_succ, List.getElem_cons_zero, List.setIfInBounds_toArray, List.set_cons_zero, List.set_cons_succ]
    refine wpAnyH_ready (rs := [13]) (by kernel_rfl) (by simp) ?_
    refine AllReadyH.cons rfl (fun K hK => ?_) AllReadyH.nil
    refine step_append_tg rfl (.tmp 21) (.tmp 29) 24 rfl 55 (.pointer none) 8 0 eltA rfl (.slice (some ⟨s, 0, none⟩) n c) (.slice (some ⟨w1.heap.size, 0, none⟩) 1 1) aa [a] rfl rfl HX2.out.own HROW.out (by have h1 := HL.out; have h2 := HM.out; simp; omega) (by have h1 := HL.out; have h2 := HM.out; simp; omega) (Nat.zero_le _) (aa ++ [a]) (n + 1) rfl (by rw [List.length_append, HL.out]; rfl) ?_
    intro p' c' w' ho hg hor hb
    have HF := Lib.hid (HX2.out.push ho hg hor HPK2.out (.inr (by simp)) (by have := HM.out; omega))
    have hgb := HX2.out.blk.grown hg (fun e => (HX2.out.sown g e.symm).2 rfl)
    have hg0 : w'.cell? ⟨g, 0, none⟩ = some (.slice (some ⟨s, 0, none⟩) n c) := hgb.cell 0
    have hg1 := hgb.free 0
    have HCP : Hid (ChgP P w1 (w'.setCell ⟨g, 0, none⟩ (.slice p' (n + 1) c'))) := by
      have h1 : ChgP (fun b => P b ∨ w1.heap.size ≤ b) w1 ((w1.alloc (.cells #[.pointer (some ⟨a, 0, none⟩)] 55)).drew) := ChgP.of_below (oneB w1 _).drew
      have h2 : ChgP (fun b => P b ∨ w1.heap.size ≤ b) ((w1.alloc (.cells #[.pointer (some ⟨a, 0, none⟩)] 55)).drew) w' := ⟨hb, fun b hb' hp => hg.block b hb' (fun e => hp (HX2.out.sown b e.symm).1)⟩
      have h3 : ChgP (fun b => P b ∨ w1.heap.size ≤ b) w' (w'.setCell ⟨g, 0, none⟩ (.slice p' (n + 1) c')) := ChgP.of_chg ((Chg.refl g w').set 0 _) HX2.out.inP
      exact ((h1.trans h2).trans h3).imp (fun b hb hp => hp.resolve_right (by omega))
    clear ho hg hor hb hgb
    refine hK.out _ _ trivial (fun hS => ?_)
    clear hK K
    try simp only [Act.put, List.getElem_toArray, List.getElem_cons_succ, List.getElem_cons_zero, List.setIfInBounds_toArray, List.set_cons_zero, List.set_cons_succ]
    refine wpAnyH_take (i := 14) (v := ?_) rfl (by kernel_rfl) (by kernel_rfl) (by kernel_rfl) (fun _ _ _ h => h) (Or.inl ⟨by kernel_rfl, ?_⟩) (by first | assumption | trivial) ?_
    rotate_left
    · intro w hSw
      try dsimp only at hSw
      first | (go_simp; done) | (go_simp; with_reducible rfl)
    try simp only [Act.put, List.getElem_toArray, List.getElem_cons_succ, List.getElem_cons_zero, List.setIfInBounds_toArray, List.set_cons_zero, List.set_cons_succ]
    refine wpAnyH_take (i := 15) (v := ?_) rfl (by kernel_rfl) (by kernel_rfl) (by kernel_rfl) (fun _ _ _ h => h) (Or.inl ⟨by kernel_rfl, ?_⟩) (by first | assumption | trivial) ?_
    rotate_left
    · intro w hSw
      try dsimp only at hSw
      first | (go_simp; done) | (go_simp; with_reducible rfl)
    try simp only [Act.put, List.getElem_toArray, List.getElem_cons_succ, List.getElem_cons_zero, List.setIfInBounds_toArray, List.set_cons_zero, List.set_cons_succ]
    refine wpAnyH_ready (rs := [16]) (by kernel_rfl) (by simp) ?_
    refine AllReadyH.cons rfl (fun K hK => ?_) AllReadyH.nil
    go_simp
    refine hK.out _ _ trivial (fun hS => ?_)
    clear hK K
    try simp only [Act.put, List.getElem_toArray, List.getElem_cons_succ, List.getElem_cons_zero, List.setIfInBounds_toArray, List.set_cons_zero, List.set_cons_succ]
    refine wpAnyH_done (by kernel_rfl) ?_ _
    generalize World.setCell w' _ _ = w5 at *
    clear hg0 hg1
    go_wp2_with fail
    go_ret
    refine ⟨rfl, Fly.grow ⟨p', c', aa ++ [a], ?_⟩, HCP.out⟩
    rw [List.length_append, HN.out]
    exact HF.out
  · skip
    go_simp
    refine hK.out _ _ trivial (fun hS => ?_)
    clear hK K
    try simp only [Act.put, List.getElem_toArray, List.getElem_cons_succ, List.getElem_cons_zero, List.setIfInBounds_toArray, List.set_cons_zero, List.set_cons_succ]
    refine wpAnyH_take (i := 10) (v := ?_) rfl (by kernel_rfl) (by kernel_rfl) (by kernel_rfl) (fun _ _ _ h => h) (Or.inl ⟨by kernel_rfl, ?_⟩) (by first | assumption | trivial) ?_
    rotate_left
    · intro w hSw
      try dsimp only at hSw
      first | (go_simp; done) | (go_simp; with_reducible rfl)
    try simp only [Act.put, List.getElem_toArray, List.getElem_cons_succ, List.getElem_cons_zero, List.setIfInBounds_toArray, List.set_cons_zero, List.set_cons_succ]
    refine wpAnyH_ready (rs := [4, 11]) (by kernel_rfl) (by simp) ?_
    refine AllReadyH.cons rfl (fun K hK => ?_) (AllReadyH.cons rfl (fun K hK => ?_) AllReadyH.nil)
    · skip
      go_simp
      refine hK.out _ _ trivial (fun hS => ?_)
      clear hK K
      try simp only [Act.put, List.getElem_toArray, List.getElem_cons_succ, List.getElem_cons_zero, List.setIfInBounds_toArray, List.set_cons_zero, List.set_cons_succ]
      refine wpAnyH_ready (rs := [11]) (by kernel_rfl) (by simp) ?_
      refine AllReadyH.cons rfl (fun K hK => ?_) AllReadyH.nil
      go_simp
      refine hK.out _ _ trivial (fun hS => ?_)
      clear hK K
      try simp only [Act.put, List.getElem_toArray, List.getElem_cons_succ, List.getElem_cons_zero, List.setIfInBounds_toArray, List.set_cons_zero, List.set_cons_succ]
      refine wpAnyH_ready (rs := [12]) (by kernel_rfl) (by simp) ?_
      refine AllReadyH.cons rfl (fun K hK => ?_) AllReadyH.nil
      go_simp
      refine hK.out _ _ trivial (fun hS => ?_)
      clear hK K
      try simp only [Act.put, List.getElem_toArray, List.getElem_cons_succ, List.getElem_cons_zero, List.setIfInBounds_toArray, List.set_cons_zero, List.set_cons_succ]
      refine wpAnyH_ready (rs := [13]) (by kernel_rfl) (by simp) ?_
      refine AllReadyH.cons rfl (fun K hK => ?_) AllReadyH.nil
      refine step_append_tg rfl (.tmp 21) (.tmp 29) 24 rfl 55 (.pointer none) 8 0 eltA rfl (.slice (some ⟨s, 0, none⟩) n c) (.slice (some ⟨w1.heap.size, 0, none⟩) 1 1) aa [a] rfl rfl HX2.out.own HROW.out (by have h1 := HL.out; have h2 := HM.out; simp; omega) (by have h1 := HL.out; have h2 := HM.out; simp; omega) (Nat.zero_le _) (aa ++ [a]) (n + 1) rfl (by rw [List.length_append, HL.out]; rfl) ?_
      intro p' c' w' ho hg hor hb
      have HF := Lib.hid (HX2.out.push ho hg hor HPK2.out (.inr (by simp)) (by have := HM.out; omega))
      have hgb := HX2.out.blk.grown hg (fun e => (HX2.out.sown g e.symm).2 rfl)
      have hg0 : w'.cell? ⟨g, 0, none⟩ = some (.slice (some ⟨s, 0, none⟩) n c) := hgb.cell 0
      have hg1 := hgb.free 0
      have HCP : Hid (ChgP P w1 (w'.setCell ⟨g, 0, none⟩ (.slice p' (n + 1) c'))) := by
        have h1 : ChgP (fun b => P b ∨ w1.heap.size ≤ b) w1 ((w1.alloc (.cells #[.pointer (some ⟨a, 0, none⟩)] 55)).drew) := ChgP.of_below (oneB w1 _).drew
        have h2 : ChgP (fun b => P b ∨ w1.heap.size ≤ b) ((w1.alloc (.cells #[.pointer (some ⟨a, 0, none⟩)] 55)).drew) w' := ⟨hb, fun b hb' hp => hg.block b hb' (fun e => hp (HX2.out.sown b e.symm).1)⟩
        have h3 : ChgP (fun b => P b ∨ w1.heap.size ≤ b) w' (w'.setCell ⟨g, 0, none⟩ (.slice p' (n + 1) c')) := ChgP.of_chg ((Chg.refl g w').set 0 _) HX2.out.inP
        exact ((h1.trans h2).trans h3).imp (fun b hb hp => hp.resolve_right (by omega))
      clear ho hg hor hb hgb
      refine hK.out _ _ trivial (fun hS => ?_)
      clear hK K
      try simp only [Act.put, List.getElem_toArray, List.getElem_cons_succ, List.getElem_cons_zero, List.setIfInBounds_toArray, List.set_cons_zero, List.set_cons_succ]
      refine wpAnyH_take (i := 14) (v := ?_) rfl (by kernel_rfl) (by kernel_rfl) (by kernel_rfl) (fun _ _ _ h => h) (Or.inl ⟨by kernel_rfl, ?_⟩) (by first | assumption | trivial) ?_
      rotate_left
      · intro w hSw
        try dsimp only at hSw
        first | (go_simp; done) | (go_simp; with_reducible rfl)
      try simp only [Act.put, List.getElem_toArray, List.getElem_cons_succ, List.getElem_cons_zero, List.setIfInBounds_toArray, List.set_cons_zero, List.set_cons_succ]
      refine wpAnyH_take (i := 15) (v := ?_) rfl (by kernel_rfl) (by kernel_rfl) (by kernel_rfl) (fun _ _ _ h => h) (Or.inl ⟨by kernel_rfl, ?_⟩) (by first | assumption | trivial) ?_
      rotate_left
      · intro w hSw
        try dsimp only at hSw
        first | (go_simp; done) | (go_simp; with_reducible rfl)
      try simp only [Act.put, List.getElem_toArray, List.getElem_cons_succ, List.getElem_cons_zero, List.setIfInBounds_toArray, List.set_cons_zero, List.set_cons_succ]
      refine wpAnyH_ready (rs := [16]) (by kernel_rfl) (by simp) ?_
      refine AllReadyH.cons rfl (fun K hK => ?_) AllReadyH.nil
      go_simp
      refine hK.out _ _ trivial (fun hS => ?_)
      clear hK K
      try simp only [Act.put, List.getElem_toArray, List.getElem_cons_succ, List.getElem_cons_zero, List.setIfInBounds_toArray, List.set_cons_zero, List.set_cons_succ]
      refine wpAnyH_done (by kernel_rfl) ?_ _
      generalize World.setCell w' _ _ = w5 at *
      clear hg0 hg1
      go_wp2_with fail
      go_ret
      refine ⟨rfl, Fly.grow ⟨p', c', aa ++ [a], ?_⟩, HCP.out⟩
      rw [List.length_append, HN.out]
      exact HF.out
    · skip
      go_simp
      refine hK.out _ _ trivial (fun hS => ?_)
      clear hK K
      try simp only [Act.put, List.getElem_toArray, List.getElem_cons_succ, List.getElem_cons_zero, List.setIfInBounds_toArray, List.set_cons_zero, List.set_cons_succ]
      refine wpAnyH_ready (rs := [4, 12]) (by kernel_rfl) (by simp) ?_
      refine AllReadyH.cons rfl (fun K hK => ?_) (AllReadyH.cons rfl (fun K hK => ?_) AllReadyH.nil)
      · skip
        go_simp
        refine hK.out _ _ trivial (fun hS => ?_)
        clear hK K
        try simp only [Act.put, List.getElem_toArray, List.getElem_cons_succ, List.getElem_cons_zero, List.setIfInBounds_toArray, List.set_cons_zero, List.set_cons_succ]
        refine wpAnyH_ready (rs := [12]) (by kernel_rfl) (by simp) ?_
        refine AllReadyH.cons rfl (fun K hK => ?_) AllReadyH.nil
        go_simp
        refine hK.out _ _ trivial (fun hS => ?_)
        clear hK K
        try simp only [Act.put, List.getElem_toArray, List.getElem_cons_succ, List.getElem_cons_zero, List.setIfInBounds_toArray, List.set_cons_zero, List.set_cons_succ]
        refine wpAnyH_ready (rs := [13]) (by kernel_rfl) (by simp) ?_
        refine AllReadyH.cons rfl (fun K hK => ?_) AllReadyH.nil
        refine step_append_tg rfl (.tmp 21) (.tmp 29) 24 rfl 55 (.pointer none) 8 0 eltA rfl (.slice (some ⟨s, 0, none⟩) n c) (.slice (some ⟨w1.heap.size, 0, none⟩) 1 1) aa [a] rfl rfl HX2.out.own HROW.out (by have h1 := HL.out; have h2 := HM.out; simp; omega) (by have h1 := HL.out; have h2 := HM.out; simp; omega) (Nat.zero_le _) (aa ++ [a]) (n + 1) rfl (by rw [List.length_append, HL.out]; rfl) ?_
        intro p' c' w' ho hg hor hb
        have HF := Lib.hid (HX2.out.push ho hg hor HPK2.out (.inr (by simp)) (by have := HM.out; omega))
        have hgb := HX2.out.blk.grown hg (fun e => (HX2.out.sown g e.symm).2 rfl)
        have hg0 : w'.cell? ⟨g, 0, none⟩ = some (.slice (some ⟨s, 0, none⟩) n c) := hgb.cell 0
        have hg1 := hgb.free 0
        have HCP : Hid (ChgP P w1 (w'.setCell ⟨g, 0, none⟩ (.slice p' (n + 1) c'))) := by
          have h1 : ChgP (fun b => P b ∨ w1.heap.size ≤ b) w1 ((w1.alloc (.cells #[.pointer (some ⟨a, 0, none⟩)] 55)).drew) := ChgP.of_below (oneB w1 _).drew
          have h2 : ChgP (fun b => P b ∨ w1.heap.size ≤ b) ((w1.alloc (.cells #[.pointer (some ⟨a, 0, none⟩)] 55)).drew) w' := ⟨hb, fun b hb' hp => hg.block b hb' (fun e => hp (HX2.out.sown b e.symm).1)⟩
          have h3 : ChgP (fun b => P b ∨ w1.heap.size ≤ b) w' (w'.setCell ⟨g, 0, none⟩ (.slice p' (n + 1) c')) := ChgP.of_chg ((Chg.refl g w').set 0 _) HX2.out.inP
          exact ((h1.trans h2).trans h3).imp (fun b hb hp => hp.resolve_right (by omega))
        clear ho hg hor hb hgb
        refine hK.out _ _ trivial (fun hS => ?_)
        clear hK K
        try simp only [Act.put, List.getElem_toArray, List.getElem_cons_succ, List.getElem_cons_zero, List.setIfInBounds_toArray, List.set_cons_zero, List.set_cons_succ]
        refine wpAnyH_take (i := 14) (v := ?_) rfl (by kernel_rfl) (by kernel_rfl) (by kernel_rfl) (fun _ _ _ h => h) (Or.inl ⟨by kernel_rfl, ?_⟩) (by first | assumption | trivial) ?_
        rotate_left
        · intro w hSw
          try dsimp only at hSw
          first | (go_simp; done) | (go_simp; with_reducible rfl)
        try simp only [Act.put, List.getElem_toArray, List.getElem_cons_succ, List.getElem_cons_zero, List.setIfInBounds_toArray, List.set_cons_zero, List.set_cons_succ]
        refine wpAnyH_take (i := 15) (v := ?_) rfl (by kernel_rfl) (by kernel_rfl) (by kernel_rfl) (fun _ _ _ h => h) (Or.inl ⟨by kernel_rfl, ?_⟩) (by first | assumption | trivial) ?_
        rotate_left
        · intro w hSw
          try dsimp only at hSw
          first | (go_simp; done) | (go_simp; with_reducible rfl)
        try simp only [Act.put, List.getElem_toArray, List.getElem_cons_succ, List.getElem_cons_zero, List.setIfInBounds_toArray, List.set_cons_zero, List.set_cons_succ]
        refine wpAnyH_ready (rs := [16]) (by kernel_rfl) (by simp) ?_
        refine AllReadyH.cons rfl (fun K hK => ?_) AllReadyH.nil
        go_simp
        refine hK.out _ _ trivial (fun hS => ?_)
        clear hK K
        try simp only [Act.put, List.getElem_toArray, List.getElem_cons_succ, List.getElem_cons_zero, List.setIfInBounds_toArray, List.set_cons_zero, List.set_cons_succ]
        refine wpAnyH_done (by kernel_rfl) ?_ _
        generalize World.setCell w' _ _ = w5 at *
        clear hg0 hg1
        go_wp2_with fail
        go_ret
        refine ⟨rfl, Fly.grow ⟨p', c', aa ++ [a], ?_⟩, HCP.out⟩
        rw [List.length_append, HN.out]
        exact HF.out
      · skip
        go_simp
        refine hK.out _ _ trivial (fun hS => ?_)
        clear hK K
        try simp only [Act.put, List.getElem_toArray, List.getElem_cons_succ, List.getElem_cons_zero, List.setIfInBounds_toArray, List.set_cons_zero, List.set_cons_succ]
        refine wpAnyH_ready (rs := [4]) (by kernel_rfl) (by simp) ?_
        refine AllReadyH.cons rfl (fun K hK => ?_) AllReadyH.nil
        go_simp
        refine hK.out _ _ trivial (fun hS => ?_)
        clear hK K
        try simp only [Act.put, List.getElem_toArray, List.getElem_cons_succ, List.getElem_cons_zero, List.setIfInBounds_toArray, List.set_cons_zero, List.set_cons_succ]
        refine wpAnyH_ready (rs := [13]) (by kernel_rfl) (by simp) ?_
        refine AllReadyH.cons rfl (fun K hK => ?_) AllReadyH.nil
        refine step_append_tg rfl (.tmp 21) (.tmp 29) 24 rfl 55 (.pointer none) 8 0 eltA rfl (.slice (some ⟨s, 0, none⟩) n c) (.slice (some ⟨w1.heap.size, 0, none⟩) 1 1) aa [a] rfl rfl HX2.out.own HROW.out (by have h1 := HL.out; have h2 := HM.out; simp; omega) (by have h1 := HL.out; have h2 := HM.out; simp; omega) (Nat.zero_le _) (aa ++ [a]) (n + 1) rfl (by rw [List.length_append, HL.out]; rfl) ?_
        intro p' c' w' ho hg hor hb
        have HF := Lib.hid (HX2.out.push ho hg hor HPK2.out (.inr (by simp)) (by have := HM.out; omega))
        have hgb := HX2.out.blk.grown hg (fun e => (HX2.out.sown g e.symm).2 rfl)
        have hg0 : w'.cell? ⟨g, 0, none⟩ = some (.slice (some ⟨s, 0, none⟩) n c) := hgb.cell 0
        have hg1 := hgb.free 0
        have HCP : Hid (ChgP P w1 (w'.setCell ⟨g, 0, none⟩ (.slice p' (n + 1) c'))) := by
          have h1 : ChgP (fun b => P b ∨ w1.heap.size ≤ b) w1 ((w1.alloc (.cells #[.pointer (some ⟨a, 0, none⟩)] 55)).drew) := ChgP.of_below (oneB w1 _).drew
          have h2 : ChgP (fun b => P b ∨ w1.heap.size ≤ b) ((w1.alloc (.cells #[.pointer (some ⟨a, 0, none⟩)] 55)).drew) w' := ⟨hb, fun b hb' hp => hg.block b hb' (fun e => hp (HX2.out.sown b e.symm).1)⟩
          have h3 : ChgP (fun b => P b ∨ w1.heap.size ≤ b) w' (w'.setCell ⟨g, 0, none⟩ (.slice p' (n + 1) c')) := ChgP.of_chg ((Chg.refl g w').set 0 _) HX2.out.inP
          exact ((h1.trans h2).trans h3).imp (fun b hb hp => hp.resolve_right (by omega))
        clear ho hg hor hb hgb
        refine hK.out _ _ trivial (fun hS => ?_)
        clear hK K
        try simp only [Act.put, List.getElem_toArray, List.getElem_cons_succ, List.getElem_cons_zero, List.setIfInBounds_toArray, List.set_cons_zero, List.set_cons_succ]
        refine wpAnyH_take (i := 14) (v := ?_) rfl (by kernel_rfl) (by kernel_rfl) (by kernel_rfl) (fun _ _ _ h => h) (Or.inl ⟨by kernel_rfl, ?_⟩) (by first | assumption | trivial) ?_
        rotate_left
        · intro w hSw
          try dsimp only at hSw
          first | (go_simp; done) | (go_simp; with_reducible rfl)
        try simp only [Act.put, List.getElem_toArray, List.getElem_cons_succ, List.getElem_cons_zero, List.setIfInBounds_toArray, List.set_cons_zero, List.set_cons_succ]
        refine wpAnyH_take (i := 15) (v := ?_) rfl (by kernel_rfl) (by kernel_rfl) (by kernel_rfl) (fun _ _ _ h => h) (Or.inl ⟨by kernel_rfl, ?_⟩) (by first | assumption | trivial) ?_
        rotate_left
        · intro w hSw
          try dsimp only at hSw
          first | (go_simp; done) | (go_simp; with_reducible rfl)
        try simp only [Act.put, List.getElem_toArray, List.getElem_cons_succ, List.getElem_cons_zero, List.setIfInBounds_toArray, List.set_cons_zero, List.set_cons_succ]
        refine wpAnyH_ready (rs := [16]) (by kernel_rfl) (by simp) ?_
        refine AllReadyH.cons rfl (fun K hK => ?_) AllReadyH.nil
        go_simp
        refine hK.out _ _ trivial (fun hS => ?_)
        clear hK K
        try simp only [Act.put, List.getElem_toArray, List.getElem_cons_succ, List.getElem_cons_zero, List.setIfInBounds_toArray, List.set_cons_zero, List.set_cons_succ]
        refine wpAnyH_done (by kernel_rfl) ?_ _
        generalize World.setCell w' _ _ = w5 at *
        clear hg0 hg1
        go_wp2_with fail
        go_ret
        refine ⟨rfl, Fly.grow ⟨p', c', aa ++ [a], ?_⟩, HCP.out⟩
        rw [List.length_append, HN.out]
        exact HF.out
end Go.Proofs.Ytfdehnfcoojljaa
