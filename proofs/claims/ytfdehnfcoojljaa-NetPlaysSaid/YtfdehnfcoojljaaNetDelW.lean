/- slices.Delete of one address by contract: the walk. -/
import Derived.Test.YtfdehnfcoojljaaNetDel
import Derived.Test.YtfdehnfcoojljaaPkData
import Derived.Deep.RegionHeld3
namespace Go.Proofs.Ytfdehnfcoojljaa
open Go.RowKit
set_option linter.unusedSimpArgs false
theorem step_append_A {w : World} {ops : Array Oper} {o : Oper} {a : Act} {K : Act → World → Prop} {Q : Exit → Act → World → Prop} {E : Prop} (hgd : o.guard = none) (s x : Operand)
    (ho : o.op = .call { callee := .builtin .append, args := #[s, x], argTypes := #[24, 24] }) (base g n c i off c' N : Nat) (hN : N = n - (i + 1)) (aa : List Nat) (h : OwnT encA w base 55 (.slice (some ⟨g, 0, none⟩) n c) aa) (hi : i < n) (hoff : i + 1 < n → off = i + 1)
    (hs : a.eval s = .slice (some ⟨g, 0, none⟩) i c) (hx : a.eval x = .slice (some ⟨g, off, none⟩) N c')
    (hK : K (a.put o.dst (.slice (some ⟨g, 0, none⟩) (n - 1) c)) (w.setCells g i ((aa.drop (i + 1)).flatMap encA.E))) :
    if Region.wanted o (yielded ops a.tmps) = true then Oper.wp Try.prog o a w K Q else E := by
  subst hN
  obtain ⟨i0, hu, hi0, hz0, hs0, hb0⟩ := eltA
  have hs1 : i0.size = 1 := hs0
  obtain ⟨g', cur, e1, hb, hg, hnc, hm, hsz, ht, hl⟩ := h.lies (by omega)
  cases e1
  have hk : encA.k = 1 := rfl
  rw [hk, Nat.mul_one] at hsz
  have hdl : ((aa.drop (i + 1)).flatMap encA.E).length = n - (i + 1) := by rw [flatA, List.length_map, List.length_drop, hl]
  refine step_append_in hgd s x 24 ho 55 i0 hu hi0 g i c ⟨g, off, none⟩ (n - (i + 1)) c' ((aa.drop (i + 1)).flatMap encA.E) hs hx (by rw [hdl, hs1, Nat.mul_one]) ?_ (flat_one encA _) (by omega) ?_ ?_
  · intro j u hj
    have hjl : j < n - (i + 1) := by
      rcases Nat.lt_or_ge j (n - (i + 1)) with h1 | h1
      · exact h1
      · rw [List.getElem?_eq_none (by rw [hdl]; exact h1)] at hj; cases hj
    have ho := hoff (by omega)
    subst ho
    rw [flatA, List.getElem?_map, List.getElem?_drop] at hj
    obtain ⟨b', o', e2, _, hc⟩ := h.row.at_ (i + 1 + j) (by omega)
    cases e2
    have h1 := hc 0 (by decide)
    rw [addAt, show i + 1 + j = 0 + (i + 1 + j) * encA.k + 0 by rw [hk]; omega, h1]
    rw [List.getElem?_eq_getElem (by omega)] at hj
    rw [← hj]
    rfl
  · rw [hs1, Nat.mul_one, hdl]
    intro j hj
    refine ⟨?_, hg.free _⟩
    rw [hg.cell, Array.getElem?_eq_getElem (by omega)]
    rfl
  · rw [hs1, Nat.mul_one, show i + (n - (i + 1)) = n - 1 by omega]
    exact hK
set_option maxHeartbeats 4000000 in
set_option maxRecDepth 100000 in
theorem ndelete_any (w : World) (base g n c i : Nat) (aa : List Nat) (h : OwnT encA w base 55 (.slice (some ⟨g, 0, none⟩) n c) aa) (hi : i < n) (hn : n ≤ 8192) :
    Calls Try.prog 16 #[.slice (some ⟨g, 0, none⟩) n c, .int .i64 i, .int .i64 ((i : Int) + 1)] w fun e w' => e = .returned (.slice (some ⟨g, 0, none⟩) (n - 1) c) ∧ OwnT encA w' base 55 (.slice (some ⟨g, 0, none⟩) (n - 1) c) (aa.eraseIdx i) ∧ Chg g w w' := by
  have HO := Lib.hid h
  have HD := Lib.hid (fun vs => h.del i hi vs)
  obtain ⟨g', cur, e1, hb, hg, hnc, hm, hs, ht, hl⟩ := h.lies (by omega)
  cases e1
  have HG := Lib.hid hg
  have HS := Lib.hid hs
  have HL := Lib.hid hl
  have HM := Lib.hid hm
  clear h hb hg hm hs ht hl
  have hm : c ≤ 9223372036854775807 := by have := HM.out; unfold maxLen at this; omega
  have e0 : (0 : Int) ≤ (i : Int) + 1 := by omega
  have e1 : (0 : Int) ≤ (i : Int) := by omega
  have e2 : (i : Int) ≤ (i : Int) + 1 := by omega
  have e3 : (i : Int) + 1 ≤ (n : Int) := by omega
  have e4 : (n : Int) ≤ (c : Int) := by omega
  have e5 : ((i : Int) == (i : Int) + 1) = false := by simp; omega
  have e6 : ((i : Int) + 1).toNat = i + 1 := by omega
  have e7 : (i : Int) ≤ (c : Int) := by omega
  have e8 : (i : Int) + 1 ≤ (c : Int) := by omega
  go_enter Try.func16, Try.ntmps16
  go_wp2_with fail
  by_cases hc : c - (i + 1) = 0
  · obtain rfl : c = i + 1 := by omega
    clear hc
    have hc : i + 1 - (i + 1) = 0 := by omega
    refine wp_region_held_drew (S := fun w' => True) (by kernel_rfl) trivial (fun hS0 => ?_)
    refine wpAnyH_take (i := 0) (v := ?_) rfl (by kernel_rfl) (by kernel_rfl) (by kernel_rfl) (fun _ _ _ h => h) (Or.inl ⟨by kernel_rfl, ?_⟩) (by first | assumption | trivial) ?_
    rotate_left
    · intro w hSw
      try dsimp only at hSw
      first | (go_simp; done) | (go_simp; with_reducible rfl)
    try simp only [Act.put, List.getElem_toArray, List.getElem_cons_succ, List.getElem_cons_zero, List.setIfInBounds_toArray, List.set_cons_zero, List.set_cons_succ]
    refine wpAnyH_take (i := 1) (v := ?_) rfl (by kernel_rfl) (by kernel_rfl) (by kernel_rfl) (fun _ _ _ h => h) (Or.inl ⟨by kernel_rfl, ?_⟩) (by first | assumption | trivial) ?_
    rotate_left
    · intro w hSw
      try dsimp only at hSw
      first | (go_simp; done) | (go_simp; with_reducible rfl)
    try simp only [Act.put, List.getElem_toArray, List.getElem_cons_succ, List.getElem_cons_zero, List.setIfInBounds_toArray, List.set_cons_zero, List.set_cons_succ]
    refine wpAnyH_take (i := 2) (v := ?_) rfl (by kernel_rfl) (by kernel_rfl) (by kernel_rfl) (fun _ _ _ h => h) (Or.inl ⟨by kernel_rfl, ?_⟩) (by first | assumption | trivial) ?_
    rotate_left
    · intro w hSw
      try dsimp only at hSw
      first | (go_simp; done) | (go_simp; with_reducible rfl)
    try simp only [Act.put, List.getElem_toArray, List.getElem_cons_succ, List.getElem_cons_zero, List.setIfInBounds_toArray, List.set_cons_zero, List.set_cons_succ]
    refine wpAnyH_take (i := 3) (v := ?_) rfl (by kernel_rfl) (by kernel_rfl) (by kernel_rfl) (fun _ _ _ h => h) (Or.inl ⟨by kernel_rfl, ?_⟩) (by first | assumption | trivial) ?_
    rotate_left
    · intro w hSw
      try dsimp only at hSw
      first | (go_simp; done) | (go_simp; with_reducible rfl)
    try simp only [Act.put, List.getElem_toArray, List.getElem_cons_succ, List.getElem_cons_zero, List.setIfInBounds_toArray, List.set_cons_zero, List.set_cons_succ]
    refine wpAnyH_take (i := 4) (v := ?_) rfl (by kernel_rfl) (by kernel_rfl) (by kernel_rfl) (fun _ _ _ h => h) (Or.inl ⟨by kernel_rfl, ?_⟩) (by first | assumption | trivial) ?_
    rotate_left
    · intro w hSw
      try dsimp only at hSw
      first | (go_simp; done) | (go_simp; with_reducible rfl)
    try simp only [Act.put, List.getElem_toArray, List.getElem_cons_succ, List.getElem_cons_zero, List.setIfInBounds_toArray, List.set_cons_zero, List.set_cons_succ]
    refine wpAnyH_take (i := 5) (v := ?_) rfl (by kernel_rfl) (by kernel_rfl) (by kernel_rfl) (fun _ _ _ h => h) (Or.inl ⟨by kernel_rfl, ?_⟩) (by first | assumption | trivial) ?_
    rotate_left
    · intro w hSw
      try dsimp only at hSw
      first | (go_simp; done) | (go_simp; with_reducible rfl)
    try simp only [Act.put, List.getElem_toArray, List.getElem_cons_succ, List.getElem_cons_zero, List.setIfInBounds_toArray, List.set_cons_zero, List.set_cons_succ]
    refine wpAnyH_ready (rs := [6]) (by kernel_rfl) (by simp) ?_
    refine AllReadyH.cons rfl (fun K hK => ?_) AllReadyH.nil
    refine step_append_A rfl (.tmp 22) (.tmp 25) rfl base g n (i + 1) i 0 0 0 (by omega) aa (HO.out.later (Below.refl _ _).drew) hi (by omega) rfl (by first | rfl | (show Value.slice (if (i + 1) = i + 1 then _ else _) _ _ = _; rw [if_pos rfl])) ?_
    refine hK.out _ _ trivial (fun hS => ?_)
    clear hK K
    try simp only [Act.put, List.getElem_toArray, List.getElem_cons_succ, List.getElem_cons_zero, List.setIfInBounds_toArray, List.set_cons_zero, List.set_cons_succ]
    refine wpAnyH_take (i := 7) (v := ?_) rfl (by kernel_rfl) (by kernel_rfl) (by kernel_rfl) (fun _ _ _ h => h) (Or.inl ⟨by kernel_rfl, ?_⟩) (by first | assumption | trivial) ?_
    rotate_left
    · intro w hSw
      try dsimp only at hSw
      first | (go_simp; done) | (go_simp; with_reducible rfl)
    try simp only [Act.put, List.getElem_toArray, List.getElem_cons_succ, List.getElem_cons_zero, List.setIfInBounds_toArray, List.set_cons_zero, List.set_cons_succ]
    refine wpAnyH_done (by kernel_rfl) ?_ _
    have HD2 : Hid (∀ vs, OwnT encA ((w.drew.setCells g i ((aa.drop (i + 1)).flatMap encA.E)).setCells g (n - 1) vs) base 55 (.slice (some ⟨g, 0, none⟩) (n - 1) (i + 1)) (aa.eraseIdx i)) := fun vs => (HO.out.later (Below.refl _ _).drew).del i hi vs
    have HT : Hid ((w.drew.setCells g i ((aa.drop (i + 1)).flatMap encA.E)).there g (n - 1) 1) := by
      obtain ⟨Z1, z1, z2, z3⟩ := blk_put ((aa.drop (i + 1)).flatMap encA.E) i cur _ HG.out.drew
      intro j hj
      refine ⟨?_, z1.free _⟩
      have hz := HS.out
      have hk : encA.k = 1 := rfl
      rw [hk, Nat.mul_one] at hz
      rw [z1.cell, Array.getElem?_eq_getElem (by omega)]
      rfl
    have HC : Hid (∀ vs, Chg g w ((w.drew.setCells g i ((aa.drop (i + 1)).flatMap encA.E)).setCells g (n - 1) vs)) := fun vs => chg_putL _ _ _ _ _ (chg_putL _ _ _ _ _ (Chg.refl _ w).drew)
    generalize (w.drew.setCells g i ((aa.drop (i + 1)).flatMap encA.E)) = W1 at *
    have f1 : (n : Int) - 1 ≤ (n : Int) := by omega
    have f2 : ((n : Int) - 1).toNat = n - 1 := by omega
    have f3 : (0 : Int) ≤ (n : Int) - 1 := by omega
    have f4 : ¬ (i + 1) - (n - 1) = 0 := by omega
    have f5 : n - (n - 1) = 1 := by omega
    have f6 : ((n - 1 : Nat) : Int) ≤ (n : Int) := by omega
    go_wp2_with (with_reducible refine stop_clear (.tmp 31) 24 rfl ?_)
    refine wpList_clear_t rfl (.tmp 31) 24 rfl 55 (.pointer none) Try.underlying24 zeroA_run (by intro v hv; simp [Value.cells] at hv; subst hv; rfl) g (n - 1) 1 ((i + 1) - (n - 1)) (by decide) rfl HT.out (fun vs => ?_)
    have HF := Lib.hid (HD2.out vs)
    have HF2 := Lib.hid (HC.out vs)
    clear HD2 HC HT
    generalize World.setCells W1 g (n - 1) vs = W5 at *
    go_wp2_with fail
    go_ret
    exact ⟨rfl, HF.out, HF2.out⟩
  · have HC2 : Hid (¬ c = i + 1) := by show ¬ c = i + 1; omega
    refine wp_region_held_drew (S := fun w' => True) (by kernel_rfl) trivial (fun hS0 => ?_)
    refine wpAnyH_take (i := 0) (v := ?_) rfl (by kernel_rfl) (by kernel_rfl) (by kernel_rfl) (fun _ _ _ h => h) (Or.inl ⟨by kernel_rfl, ?_⟩) (by first | assumption | trivial) ?_
    rotate_left
    · intro w hSw
      try dsimp only at hSw
      first | (go_simp; done) | (go_simp; with_reducible rfl)
    try simp only [Act.put, List.getElem_toArray, List.getElem_cons_succ, List.getElem_cons_zero, List.setIfInBounds_toArray, List.set_cons_zero, List.set_cons_succ]
    refine wpAnyH_take (i := 1) (v := ?_) rfl (by kernel_rfl) (by kernel_rfl) (by kernel_rfl) (fun _ _ _ h => h) (Or.inl ⟨by kernel_rfl, ?_⟩) (by first | assumption | trivial) ?_
    rotate_left
    · intro w hSw
      try dsimp only at hSw
      first | (go_simp; done) | (go_simp; with_reducible rfl)
    try simp only [Act.put, List.getElem_toArray, List.getElem_cons_succ, List.getElem_cons_zero, List.setIfInBounds_toArray, List.set_cons_zero, List.set_cons_succ]
    refine wpAnyH_take (i := 2) (v := ?_) rfl (by kernel_rfl) (by kernel_rfl) (by kernel_rfl) (fun _ _ _ h => h) (Or.inl ⟨by kernel_rfl, ?_⟩) (by first | assumption | trivial) ?_
    rotate_left
    · intro w hSw
      try dsimp only at hSw
      first | (go_simp; done) | (go_simp; with_reducible rfl)
    try simp only [Act.put, List.getElem_toArray, List.getElem_cons_succ, List.getElem_cons_zero, List.setIfInBounds_toArray, List.set_cons_zero, List.set_cons_succ]
    refine wpAnyH_take (i := 3) (v := ?_) rfl (by kernel_rfl) (by kernel_rfl) (by kernel_rfl) (fun _ _ _ h => h) (Or.inl ⟨by kernel_rfl, ?_⟩) (by first | assumption | trivial) ?_
    rotate_left
    · intro w hSw
      try dsimp only at hSw
      first | (go_simp; done) | (go_simp; with_reducible rfl)
    try simp only [Act.put, List.getElem_toArray, List.getElem_cons_succ, List.getElem_cons_zero, List.setIfInBounds_toArray, List.set_cons_zero, List.set_cons_succ]
    refine wpAnyH_take (i := 4) (v := ?_) rfl (by kernel_rfl) (by kernel_rfl) (by kernel_rfl) (fun _ _ _ h => h) (Or.inl ⟨by kernel_rfl, ?_⟩) (by first | assumption | trivial) ?_
    rotate_left
    · intro w hSw
      try dsimp only at hSw
      first | (go_simp; done) | (go_simp; with_reducible rfl)
    try simp only [Act.put, List.getElem_toArray, List.getElem_cons_succ, List.getElem_cons_zero, List.setIfInBounds_toArray, List.set_cons_zero, List.set_cons_succ]
    refine wpAnyH_take (i := 5) (v := ?_) rfl (by kernel_rfl) (by kernel_rfl) (by kernel_rfl) (fun _ _ _ h => h) (Or.inl ⟨by kernel_rfl, ?_⟩) (by first | assumption | trivial) ?_
    rotate_left
    · intro w hSw
      try dsimp only at hSw
      first | (go_simp; done) | (go_simp; with_reducible rfl)
    try simp only [Act.put, List.getElem_toArray, List.getElem_cons_succ, List.getElem_cons_zero, List.setIfInBounds_toArray, List.set_cons_zero, List.set_cons_succ]
    refine wpAnyH_ready (rs := [6]) (by kernel_rfl) (by simp) ?_
    refine AllReadyH.cons rfl (fun K hK => ?_) AllReadyH.nil
    refine step_append_A rfl (.tmp 22) (.tmp 25) rfl base g n c i (i + 1) (c - (i + 1)) (n - (i + 1)) (by omega) aa (HO.out.later (Below.refl _ _).drew) hi (by omega) rfl (by first | rfl | (show Value.slice (if c = i + 1 then _ else _) _ _ = _; rw [if_neg HC2.out])) ?_
    refine hK.out _ _ trivial (fun hS => ?_)
    clear hK K
    try simp only [Act.put, List.getElem_toArray, List.getElem_cons_succ, List.getElem_cons_zero, List.setIfInBounds_toArray, List.set_cons_zero, List.set_cons_succ]
    refine wpAnyH_take (i := 7) (v := ?_) rfl (by kernel_rfl) (by kernel_rfl) (by kernel_rfl) (fun _ _ _ h => h) (Or.inl ⟨by kernel_rfl, ?_⟩) (by first | assumption | trivial) ?_
    rotate_left
    · intro w hSw
      try dsimp only at hSw
      first | (go_simp; done) | (go_simp; with_reducible rfl)
    try simp only [Act.put, List.getElem_toArray, List.getElem_cons_succ, List.getElem_cons_zero, List.setIfInBounds_toArray, List.set_cons_zero, List.set_cons_succ]
    refine wpAnyH_done (by kernel_rfl) ?_ _
    have HD2 : Hid (∀ vs, OwnT encA ((w.drew.setCells g i ((aa.drop (i + 1)).flatMap encA.E)).setCells g (n - 1) vs) base 55 (.slice (some ⟨g, 0, none⟩) (n - 1) c) (aa.eraseIdx i)) := fun vs => (HO.out.later (Below.refl _ _).drew).del i hi vs
    have HT : Hid ((w.drew.setCells g i ((aa.drop (i + 1)).flatMap encA.E)).there g (n - 1) 1) := by
      obtain ⟨Z1, z1, z2, z3⟩ := blk_put ((aa.drop (i + 1)).flatMap encA.E) i cur _ HG.out.drew
      intro j hj
      refine ⟨?_, z1.free _⟩
      have hz := HS.out
      have hk : encA.k = 1 := rfl
      rw [hk, Nat.mul_one] at hz
      rw [z1.cell, Array.getElem?_eq_getElem (by omega)]
      rfl
    have HC : Hid (∀ vs, Chg g w ((w.drew.setCells g i ((aa.drop (i + 1)).flatMap encA.E)).setCells g (n - 1) vs)) := fun vs => chg_putL _ _ _ _ _ (chg_putL _ _ _ _ _ (Chg.refl _ w).drew)
    generalize (w.drew.setCells g i ((aa.drop (i + 1)).flatMap encA.E)) = W1 at *
    have f1 : (n : Int) - 1 ≤ (n : Int) := by omega
    have f2 : ((n : Int) - 1).toNat = n - 1 := by omega
    have f3 : (0 : Int) ≤ (n : Int) - 1 := by omega
    have f4 : ¬ c - (n - 1) = 0 := by omega
    have f5 : n - (n - 1) = 1 := by omega
    have f6 : ((n - 1 : Nat) : Int) ≤ (n : Int) := by omega
    go_wp2_with (with_reducible refine stop_clear (.tmp 31) 24 rfl ?_)
    refine wpList_clear_t rfl (.tmp 31) 24 rfl 55 (.pointer none) Try.underlying24 zeroA_run (by intro v hv; simp [Value.cells] at hv; subst hv; rfl) g (n - 1) 1 (c - (n - 1)) (by decide) rfl HT.out (fun vs => ?_)
    have HF := Lib.hid (HD2.out vs)
    have HF2 := Lib.hid (HC.out vs)
    clear HD2 HC HT
    generalize World.setCells W1 g (n - 1) vs = W5 at *
    go_wp2_with fail
    go_ret
    exact ⟨rfl, HF.out, HF2.out⟩
end Go.Proofs.Ytfdehnfcoojljaa
