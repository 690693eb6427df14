/- A disk's Read by contract. -/
import Derived.Test.YtjbhcdmeeakdcaaDisk4
import Derived.Laws.CopyOwn
import Derived.OwnWalk
namespace Go.Proofs.Ytjbhcdmeeakdcaa
open Go.RowKit
theorem splice_two {cur A R : List Value} (h : cur.length = A.length + R.length) : splice (splice cur 0 A) A.length R = A ++ R := by
  have h1 : splice cur 0 A = A ++ cur.drop A.length := by simp [splice]
  have h2 : (A ++ cur.drop A.length).drop (A.length + R.length) = [] := List.drop_eq_nil_of_le (by rw [List.length_append, List.length_drop]; omega)
  rw [h1]
  unfold splice
  rw [List.take_left, h2, List.append_nil]
theorem made_own {w : World} {base g n : Nat} {e : TypeId} {zs : List Int} (hb : base ≤ g) (hn : zs.length = n) (hm : n ≤ 140737488355328) (hg : w.heap[g]? = some (.cells (zs.map (Value.int .u8)).toArray e (0, 0))) : Own .u8 w base e (.slice (some ⟨g, 0, none⟩) n n) zs := by
  subst hn
  exact ⟨by simp, .inr ⟨g, zs.length, _, rfl, hb, hg, Nat.le_refl _, by unfold maxLen; omega, by simp, by rw [Nat.mul_one]; exact List.take_of_length_le (by simp)⟩⟩
theorem made_block {w : World} {base g n : Nat} {e : TypeId} {xs : List Value} (h : w.ownsRow base e 1 (.slice (some ⟨g, 0, none⟩) n n) n xs) : ∃ cur : List Value, cur.length = n ∧ w.heap[g]? = some (.cells cur.toArray e (0, 0)) := by
  obtain ⟨_, h | ⟨g', cap, cur, e1, _, hg, _, _, hs, _⟩⟩ := h
  · cases h.1
  · cases e1
    exact ⟨cur.toList, by simpa using hs, by simpa using hg⟩
theorem row_src {w : World} {p : Option Addr} {n c : Nat} {zs : List Int} (h : Row .u8 w (.slice p n c) zs) (h0 : 0 < (zs.map (Value.int .u8)).length) : ∃ ad, p = some ad ∧ ∀ j v, (zs.map (Value.int .u8))[j]? = some v → w.cell? (ad.add j) = some v := by
  obtain ⟨p', c', e, _, h1⟩ := id h
  cases e
  rcases h1 with h1 | ⟨b, o, hp, _⟩
  · rw [h1] at h0; simp at h0
  · subst hp; exact ⟨_, rfl, h.newsAt⟩
set_option linter.unusedSimpArgs false in
set_option maxHeartbeats 4000000 in
set_option maxRecDepth 100000 in
theorem dread_any (w : World) (base g : Nat) (d : DSt) (h : Dk w base g d) :
    Calls Try.prog 26 #[.pointer (some ⟨g, 0, none⟩)] w fun x w' => ∃ v, x = .returned (.tuple #[v, .int .i64 d.readE]) ∧ Own .u8 w' w.heap.size 5 v d.readD ∧ Dk w' base g d ∧ Below w.heap.size w w' := by
  have HD := Lib.hid h
  obtain ⟨vs, vr, hb, k1, k2, _, _, _, _, k7⟩ := h
  have c4 : w.cell? ⟨g, 4, none⟩ = some (.bool d.dn) := hb.cell 4
  unfold DSt.readE DSt.readD
  cases hd : d.dn
  · rw [hd] at c4
    have HA := Lib.hid (ahead_any w g d vs vr hb)
    obtain ⟨av, hav, haO⟩ : ∃ av, av = (if d.nw = true then .slice none 0 0 else vs) ∧ Own .u8 w base 5 av d.ahead := by
      refine ⟨_, rfl, ?_⟩
      unfold DSt.ahead; split
      · exact Own.nil_ _ _ _ _
      · exact k1
    rw [← hav] at HA
    obtain ⟨pa, ca, rfl⟩ := haO.form
    obtain ⟨pr, cr, rfl⟩ := k2.form
    have c2 : w.cell? ⟨g, 2, none⟩ = some (.slice pr d.R.length cr) := hb.cell 2
    have HAO := Lib.hid haO
    have HRO := Lib.hid k2
    have hal : d.ahead.length ≤ 4194304 := by have := ahead_le d; have := k7.2.2.2.1; omega
    have hrl : d.R.length ≤ 4194304 := k7.2.2.2.2.1
    have HALL : Hid (d.all = d.ahead ++ d.R) := rfl
    clear hb k1 k2 k7 hav haO
    generalize hna : d.ahead.length = na at *
    generalize hnr : d.R.length = nr at *
    have HNA := Lib.hid hna
    have HNR := Lib.hid hnr
    clear hna hnr
    go_enter Try.func26, Try.ntmps26
    go_wp2_with fail
    refine HA.out.mono ?_
    rintro y w1 ⟨rfl, rfl⟩
    obtain ⟨i0, ht0, hi0, hz0, hs0, hy0⟩ := elt8
    have hu8 : (Try.prog.info? 5).map (·.size) = some 1 := by rw [hi0]; simp [hs0]
    go_wp2_with (first
      | (at_make; go_loud (refine wpList_make_full _ rfl _ _ 34 rfl w.heap.size 5 i0 (.int .u8 0) 1 ht0 hi0 hz0 hs0 .i64 .i64 _ _ (na + nr) rfl rfl (by push_cast; rfl) (by push_cast; rfl) (by rw [hy0]; omega) (by unfold maxLen; omega) (Nat.le_refl _) ?_; intro w2 hown2 hg2; obtain ⟨cur, hcl, hcb⟩ := made_block hown2; have HCL := Lib.hid hcl; have HCB := Lib.hid hcb; have B2 : Hid (Below w.heap.size w w2) := (Below.refl _ _).grown hg2 (Nat.le_refl _) (fun k e => by cases e); clear hown2 hg2 hcl hcb)))
    have c2d : w2.drew.cell? ⟨g, 2, none⟩ = some (.slice pr nr cr) := (B2.out.cell (p := ⟨g, 2, none⟩) HD.out.lt).trans c2
    have hor : na + nr = na ∨ ¬ nr = 0 := by omega
    have hle : (na : Int) ≤ (na : Int) + (nr : Int) := by omega
    rcases hor with hor | hor
    all_goals
      refine wp_region_held_drew (S := fun w' => w'.cell? ⟨g, 2, none⟩ = some (.slice pr nr cr)) (by kernel_rfl) c2d (fun hS0 => ?_)
      refine wpAnyH_take (i := 0) (v := ?_) rfl (by kernel_rfl) (by kernel_rfl) (by kernel_rfl) (fun _ _ _ h => h) (Or.inl ⟨by kernel_rfl, ?_⟩) (by first | trivial | assumption) ?_
      rotate_left
      · intro w hSw
        try dsimp only at hSw
        first | (go_simp; done) | (go_simp; with_reducible rfl)
      try simp only [Act.put, List.getElem_toArray, List.getElem_cons_succ, List.getElem_cons_zero, List.setIfInBounds_toArray, List.set_cons_zero, List.set_cons_succ]
      refine wpAnyH_take (i := 1) (v := ?_) rfl (by kernel_rfl) (by kernel_rfl) (by kernel_rfl) (fun _ _ _ h => h) (Or.inl ⟨by kernel_rfl, ?_⟩) (by first | trivial | assumption) ?_
      rotate_left
      · intro w hSw
        try dsimp only at hSw
        first | (go_simp; done) | (go_simp; with_reducible rfl)
      try simp only [Act.put, List.getElem_toArray, List.getElem_cons_succ, List.getElem_cons_zero, List.setIfInBounds_toArray, List.set_cons_zero, List.set_cons_succ]
      refine wpAnyH_take (i := 2) (v := ?_) rfl (by kernel_rfl) (by kernel_rfl) (by kernel_rfl) (fun _ _ _ h => h) (Or.inl ⟨by kernel_rfl, ?_⟩) (by first | trivial | assumption) ?_
      rotate_left
      · intro w hSw
        try dsimp only at hSw
        first | (go_simp; done) | (go_simp; with_reducible rfl)
      try simp only [Act.put, List.getElem_toArray, List.getElem_cons_succ, List.getElem_cons_zero, List.setIfInBounds_toArray, List.set_cons_zero, List.set_cons_succ]
      refine wpAnyH_take (i := 5) (v := ?_) rfl (by kernel_rfl) (by kernel_rfl) (by kernel_rfl) (fun _ _ _ h => h) (Or.inl ⟨by kernel_rfl, ?_⟩) (by first | trivial | assumption) ?_
      rotate_left
      · intro w hSw
        try dsimp only at hSw
        first | (go_simp; done) | (go_simp; with_reducible rfl)
      try simp only [Act.put, List.getElem_toArray, List.getElem_cons_succ, List.getElem_cons_zero, List.setIfInBounds_toArray, List.set_cons_zero, List.set_cons_succ]
      refine wpAnyH_take (i := 6) (v := ?_) rfl (by kernel_rfl) (by kernel_rfl) (by kernel_rfl) (fun _ _ _ h => h) (Or.inl ⟨by kernel_rfl, ?_⟩) (by first | trivial | assumption) ?_
      rotate_left
      · intro w hSw
        try dsimp only at hSw
        first | (go_simp; done) | (go_simp; with_reducible rfl)
      try simp only [Act.put, List.getElem_toArray, List.getElem_cons_succ, List.getElem_cons_zero, List.setIfInBounds_toArray, List.set_cons_zero, List.set_cons_succ]
      refine wpAnyH_take (i := 7) (v := ?_) rfl (by kernel_rfl) (by kernel_rfl) (by kernel_rfl) (fun _ _ _ h => h) (Or.inl ⟨by kernel_rfl, ?_⟩) (by first | trivial | assumption) ?_
      rotate_left
      · intro w hSw
        try dsimp only at hSw
        first | (go_simp; done) | (go_simp; with_reducible rfl)
      try simp only [Act.put, List.getElem_toArray, List.getElem_cons_succ, List.getElem_cons_zero, List.setIfInBounds_toArray, List.set_cons_zero, List.set_cons_succ]
      refine wpAnyH_take (i := 8) (v := ?_) rfl (by kernel_rfl) (by kernel_rfl) (by kernel_rfl) (fun _ _ _ h => h) (Or.inl ⟨by kernel_rfl, ?_⟩) (by first | trivial | assumption) ?_
      rotate_left
      · intro w hSw
        try dsimp only at hSw
        first | (go_simp; done) | (go_simp; with_reducible rfl)
      try simp only [Act.put, List.getElem_toArray, List.getElem_cons_succ, List.getElem_cons_zero, List.setIfInBounds_toArray, List.set_cons_zero, List.set_cons_succ]
      refine wpAnyH_ready (rs := [3]) (by kernel_rfl) (by simp) ?_
      refine AllReadyH.cons rfl (fun K hK => ?_) AllReadyH.nil
      refine step_copy_splice rfl (.tmp 22) (.tmp 23) 34 34 rfl 5 Try.underlying34 hu8 _ _ _ _ na ca rfl rfl w.heap.size 0 cur 5 HCB.out (d.ahead.map (Value.int .u8)) (by have := HNA.out; simp [this]) (fun h0 => ⟨rfl, row_src (HAO.out.row.under (B2.out.drew) (Nat.le_refl _)) h0⟩) (by have := HNA.out; have := HCL.out; simp; omega) (ints_onecell _ _) w.heap.size w B2.out.drew (Nat.le_refl _) ?_
      rw [List.length_map, HNA.out]
      intro w3 hg3 hb3
      have c3d : w3.cell? ⟨g, 2, none⟩ = some (.slice pr nr cr) := (hb3.cell (p := ⟨g, 2, none⟩) HD.out.lt).trans c2
      have HCB3 := hg3
      have B3 := Lib.hid hb3
      clear hg3 hb3
      refine hK.out _ _ c3d (fun hS => ?_)
      clear hK K
      try simp only [Act.put, List.getElem_toArray, List.getElem_cons_succ, List.getElem_cons_zero, List.setIfInBounds_toArray, List.set_cons_zero, List.set_cons_succ]
      refine wpAnyH_take (i := 4) (v := ?_) rfl (by kernel_rfl) (by kernel_rfl) (by kernel_rfl) (fun _ _ _ h => h) (Or.inl ⟨by kernel_rfl, ?_⟩) (by first | trivial | assumption) ?_
      rotate_left
      · intro w hSw
        try dsimp only at hSw
        first | (go_simp; done) | (go_simp; with_reducible rfl)
      try simp only [Act.put, List.getElem_toArray, List.getElem_cons_succ, List.getElem_cons_zero, List.setIfInBounds_toArray, List.set_cons_zero, List.set_cons_succ]
      refine wpAnyH_ready (rs := [9]) (by kernel_rfl) (by simp) ?_
      refine AllReadyH.cons rfl (fun K hK => ?_) AllReadyH.nil
      refine step_copy_splice rfl (.tmp 25) (.tmp 29) 34 34 rfl 5 Try.underlying34 hu8 _ _ _ _ nr cr rfl rfl w.heap.size na (splice cur 0 (d.ahead.map (Value.int .u8))) 5 HCB3.out (d.R.map (Value.int .u8)) (by have := HNR.out; first | (simp [this]; done) | (simp [this]; omega)) (fun h0 => ⟨by first | rfl | (exfalso; have := HNR.out; simp at h0; omega), row_src (HRO.out.row.under B3.out (Nat.le_refl _)) h0⟩) (by have h1 := HNA.out; have h2 := HNR.out; have h3 := HCL.out; rw [length_splice _ _ _ (by simp; omega)]; simp; omega) (ints_onecell _ _) w.heap.size w B3.out (Nat.le_refl _) ?_
      rw [List.length_map, HNR.out]
      intro w4 hg4 hb4
      have c4d : w4.cell? ⟨g, 2, none⟩ = some (.slice pr nr cr) := (hb4.cell (p := ⟨g, 2, none⟩) HD.out.lt).trans c2
      have HCB4 := hg4
      have B4 := Lib.hid hb4
      clear hg4 hb4
      refine hK.out _ _ c4d (fun hS => ?_)
      clear hK K
      try simp only [Act.put, List.getElem_toArray, List.getElem_cons_succ, List.getElem_cons_zero, List.setIfInBounds_toArray, List.set_cons_zero, List.set_cons_succ]
      refine wpAnyH_done (by kernel_rfl) ?_ _
      have hfin : Own .u8 w4 w.heap.size 5 (.slice (some ⟨w.heap.size, 0, none⟩) (na + nr) (na + nr)) d.all := by
        have h1 := HNA.out
        have h2 := HNR.out
        refine made_own (Nat.le_refl _) (by rw [HALL.out, List.length_append, h1, h2]) (by omega) ?_
        have h := HCB4.out
        have e : splice (splice cur 0 (d.ahead.map (Value.int .u8))) na (d.R.map (Value.int .u8)) = d.all.map (Value.int .u8) := by
          rw [HALL.out, List.map_append, ← splice_two (cur := cur) (by simp; have := HCL.out; omega), List.length_map, h1]
        rw [e] at h
        exact h
      have HFIN := Lib.hid hfin
      clear hfin
      have HD4 := Lib.hid (HD.out.later B4.out)
      go_wp2_with fail
      go_ret2
      first
      | exact ⟨_, rfl, HFIN.out, HD4.out, B4.out⟩
      | exact ⟨_, rfl, by have h := HFIN.out; rw [hor] at h; exact h, HD4.out, B4.out⟩
  · rw [hd] at c4
    go_enter Try.func26, Try.ntmps26
    go_wp2_with fail
    go_ret2
    exact ⟨_, rfl, Own.nil_ _ _ _ _, HD.out, Below.refl _ _⟩
end Go.Proofs.Ytjbhcdmeeakdcaa
