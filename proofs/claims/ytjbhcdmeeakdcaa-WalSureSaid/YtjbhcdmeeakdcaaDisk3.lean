/- A disk's methods by contract: settle, Write, Renew, Sync, Up, Crash, New. -/
import Derived.Test.YtjbhcdmeeakdcaaDisk2
import Derived.Test.YtjbhcdmeeakdcaaClone
namespace Go.Proofs.Ytjbhcdmeeakdcaa
open Go.RowKit
theorem own_less {k : IntKind} {w : World} {base base' : Nat} {e : TypeId} {v : Value} {zs : List Int} (h : Own k w base e v zs) (hb : base' ≤ base) : Own k w base' e v zs := by
  refine ⟨h.1, ?_⟩
  rcases h.2 with h | ⟨g, cap, cur, hv, hbg, hr⟩
  · exact .inl h
  · exact .inr ⟨g, cap, cur, hv, by omega, hr⟩
theorem ownBlock_lt {k : IntKind} {w : World} {base : Nat} {e : TypeId} {v : Value} {zs : List Int} (h : Own k w base e v zs) (b : Nat) (hb : v.ownBlock = some b) : b < w.heap.size := h.lt b hb
/-- A row that came in lies in no block of the disk. -/
theorem row_far {W w : World} {v : Value} {zs : List Int} {g : Nat} (h : Row .u8 W v zs) (hb : Below W.heap.size W w) (hg : W.heap.size ≤ g) : ∃ g0, g0 ≠ g ∧ RowAt .u8 w g0 v zs := by
  obtain ⟨p, c, rfl, hc, h1⟩ := id h
  by_cases hz : zs = []
  · subst hz; exact ⟨g + 1, by omega, p, c, rfl, hc, .inl rfl⟩
  · rcases h1 with h1 | ⟨b, o, rfl, h2⟩
    · exact absurd h1 hz
    · have hlt := World.block_lt_of_cell? W _ (h2 0 (List.length_pos_iff.2 hz))
      refine ⟨b, ?_, _, c, rfl, hc, .inr ⟨o, rfl, fun i hi => (hb.cell (p := ⟨b, o + i, none⟩) hlt).trans (h2 i hi)⟩⟩
      have : b < W.heap.size := hlt
      omega
theorem settle_dk {P : Nat → Prop} {w w2 : World} {base g : Nat} {d : DSt} {vs vr v2 a : Value} (HB : Blk w g (cellsD d vs vr) 65) (hok : d.Ok) (hbg : base ≤ g) (ho : Own .u8 w2 base 5 v2 d.all) (hg : w.grownBy w2 a.ownBlock) (ha : a.ownBlock ≠ some g) (hor : v2.ownBlock = a.ownBlock ∨ v2.ownBlock = some w.heap.size) (hab : ∀ b, a.ownBlock = some b → base ≤ b) (hP : PFar P w g vs vr) (haP : ∀ b, a.ownBlock = some b → ¬ P b) :
    Dkp P (((w2.setCell ⟨g, 1, none⟩ v2).setCell ⟨g, 2, none⟩ (.slice none 0 0)).setCell ⟨g, 3, none⟩ (.bool false)) base g d.settleD ∧ BelowP P base w (((w2.setCell ⟨g, 1, none⟩ v2).setCell ⟨g, 2, none⟩ (.slice none 0 0)).setCell ⟨g, 3, none⟩ (.bool false)) := by
  have hlt := HB.lt
  have h2 : Blk w2 g (cellsD d vs vr) 65 := HB.grown hg (fun e => ha e.symm)
  have hne : v2.ownBlock ≠ some g := by
    rcases hor with h | h <;> rw [h]
    · exact ha
    · intro e; cases e; omega
  have hc : Chg g w2 (((w2.setCell ⟨g, 1, none⟩ v2).setCell ⟨g, 2, none⟩ (.slice none 0 0)).setCell ⟨g, 3, none⟩ (.bool false)) := (((Chg.refl g w2).set 1 _).set 2 _).set 3 _
  refine ⟨⟨v2, .slice none 0 0, ((h2.set 1 v2).set 2 (.slice none 0 0)).set 3 (.bool false), ho.chgV hc hne, Own.nil_ _ _ _ _, hne, (fun e => by cases e), (fun b _ e => by cases e), hbg, settle_ok hok, hP.1, ?_, (fun _ e => by cases e), ?_⟩, ?_⟩
  · intro b e hb
    rcases hor with h | h
    · exact haP b (h.symm.trans e) hb
    · rw [h] at e; cases e; have := hP.2.2.2 _ hb; omega
  · intro b hb
    have h1 := hP.2.2.2 b hb
    have h2 := ((Below.refl 0 w).grown hg (Nat.zero_le _) (fun _ _ => Nat.zero_le _)).size
    have h3 := hc.size
    omega
  · have hb1 : BelowP P base w w2 := BelowP.grown hg (by omega) hab haP
    exact hb1.trans (BelowP.chg hc hbg (by have := hb1.1.size; omega) hP.1)
set_option linter.unusedSimpArgs false in
set_option maxHeartbeats 4000000 in
set_option maxRecDepth 100000 in
theorem settle_anyP (P : Nat → Prop) (w : World) (base g : Nat) (d : DSt) (h : Dkp P w base g d) :
    Calls Try.prog 39 #[.pointer (some ⟨g, 0, none⟩)] w fun x w' => x = .returned (.tuple #[]) ∧ Dkp P w' base g d.settleD ∧ BelowP P base w w' := by
  obtain ⟨vs, vr, hb, k1, k2, k3, k4, k5, k6, k7, kP⟩ := h
  have HB := Lib.hid hb
  have hlt := hb.lt
  obtain ⟨pr, cr, rfl⟩ := k2.form
  have K2 := Lib.hid k2
  have a2 : w.drew.cell? ⟨g, 2, none⟩ = some (.slice pr d.R.length cr) := hb.cell 2
  have HAd := Lib.hid (ahead_any w.drew g d vs (.slice pr d.R.length cr) hb)
  have hsz : d.S.length ≤ 4194304 := k7.2.2.2.1
  have hrz : d.R.length ≤ 4194304 := k7.2.2.2.2.1
  have HFR := Lib.hid (fun (a : Value) (v2 : Value) (w2 : World) (h1 : Own .u8 w2 base 5 v2 d.all) (h2 : w.drew.grownBy w2 a.ownBlock) (h3 : a.ownBlock ≠ some g) (h4 : v2.ownBlock = a.ownBlock ∨ v2.ownBlock = some w.drew.heap.size) (h5 : ∀ b, a.ownBlock = some b → base ≤ b) (h6 : ∀ b, a.ownBlock = some b → ¬ P b) => settle_dk (w := w.drew) hb k7 k6 h1 h2 h3 h4 h5 kP h6)
  obtain ⟨av, hav, haO, haB, haN, haP⟩ : ∃ av, av = (if d.nw = true then .slice none 0 0 else vs) ∧ Own .u8 w.drew base 5 av d.ahead ∧ (∀ b, av.ownBlock = some b → base ≤ b) ∧ av.ownBlock ≠ some g ∧ (∀ b, av.ownBlock = some b → ¬ P b) := by
    refine ⟨_, rfl, ?_, ?_, ?_, ?_⟩
    · unfold DSt.ahead; split
      · exact Own.nil_ _ _ _ _
      · exact k1.drew
    · split
      · intro b e; cases e
      · exact k1.block_ge
    · split
      · intro e; cases e
      · exact k3
    · split
      · intro b e; cases e
      · exact kP.2.1
  have HAO := Lib.hid haO
  have HAB := Lib.hid haB
  have HAN := Lib.hid haN
  have HAP := Lib.hid haP
  have HAL : Hid (d.ahead.length ≤ 4194304) := by show _ ≤ _; have := ahead_le d; omega
  have HGR : Hid (∀ (v2 : Value) (w2 : World), w.drew.grownBy w2 av.ownBlock → Blk w2 g (cellsD d vs (.slice pr d.R.length cr)) 65) := fun _ _ h => Blk.grown (w := w.drew) hb h (fun e => haN e.symm)
  rw [← hav] at HAd
  clear hb k1 k2 k5 k7 kP hav haO haB haN haP
  go_enter Try.func39, Try.ntmps39
  go_wp2_with fail
  refine wp_region_held_drew (S := fun w' => w'.cell? ⟨g, 2, none⟩ = some (.slice pr d.R.length cr)) (by kernel_rfl) a2 (fun hS0 => ?_)
  refine wpAnyH_take (i := 0) (v := ?_) rfl (by kernel_rfl) (by kernel_rfl) (by kernel_rfl) (fun _ _ _ h => h) (Or.inl ⟨by kernel_rfl, ?_⟩) (by assumption) ?_
  rotate_left
  · intro w hSw
    try dsimp only at hSw
    first | (go_simp; done) | (go_simp; with_reducible rfl)
  try simp only [Act.put, List.getElem_toArray, List.getElem_cons_succ, List.getElem_cons_zero, List.setIfInBounds_toArray, List.set_cons_zero, List.set_cons_succ]
  refine wpAnyH_take (i := 1) (v := ?_) rfl (by kernel_rfl) (by kernel_rfl) (by kernel_rfl) (fun _ _ _ h => h) (Or.inl ⟨by kernel_rfl, ?_⟩) (by assumption) ?_
  rotate_left
  · intro w hSw
    try dsimp only at hSw
    first | (go_simp; done) | (go_simp; with_reducible rfl)
  try simp only [Act.put, List.getElem_toArray, List.getElem_cons_succ, List.getElem_cons_zero, List.setIfInBounds_toArray, List.set_cons_zero, List.set_cons_succ]
  refine wpAnyH_take (i := 3) (v := ?_) rfl (by kernel_rfl) (by kernel_rfl) (by kernel_rfl) (fun _ _ _ h => h) (Or.inl ⟨by kernel_rfl, ?_⟩) (by assumption) ?_
  rotate_left
  · intro w hSw
    try dsimp only at hSw
    first | (go_simp; done) | (go_simp; with_reducible rfl)
  try simp only [Act.put, List.getElem_toArray, List.getElem_cons_succ, List.getElem_cons_zero, List.setIfInBounds_toArray, List.set_cons_zero, List.set_cons_succ]
  refine wpAnyH_take (i := 4) (v := ?_) rfl (by kernel_rfl) (by kernel_rfl) (by kernel_rfl) (fun _ _ _ h => h) (Or.inl ⟨by kernel_rfl, ?_⟩) (by assumption) ?_
  rotate_left
  · intro w hSw
    try dsimp only at hSw
    first | (go_simp; done) | (go_simp; with_reducible rfl)
  try simp only [Act.put, List.getElem_toArray, List.getElem_cons_succ, List.getElem_cons_zero, List.setIfInBounds_toArray, List.set_cons_zero, List.set_cons_succ]
  refine wpAnyH_take (i := 5) (v := ?_) rfl (by kernel_rfl) (by kernel_rfl) (by kernel_rfl) (fun _ _ _ h => h) (Or.inl ⟨by kernel_rfl, ?_⟩) (by assumption) ?_
  rotate_left
  · intro w hSw
    try dsimp only at hSw
    first | (go_simp; done) | (go_simp; with_reducible rfl)
  try simp only [Act.put, List.getElem_toArray, List.getElem_cons_succ, List.getElem_cons_zero, List.setIfInBounds_toArray, List.set_cons_zero, List.set_cons_succ]
  refine wpAnyH_take (i := 6) (v := ?_) rfl (by kernel_rfl) (by kernel_rfl) (by kernel_rfl) (fun _ _ _ h => h) (Or.inl ⟨by kernel_rfl, ?_⟩) (by assumption) ?_
  rotate_left
  · intro w hSw
    try dsimp only at hSw
    first | (go_simp; done) | (go_simp; with_reducible rfl)
  try simp only [Act.put, List.getElem_toArray, List.getElem_cons_succ, List.getElem_cons_zero, List.setIfInBounds_toArray, List.set_cons_zero, List.set_cons_succ]
  refine wpAnyH_ready (rs := [2]) (by kernel_rfl) (by simp) ?_
  refine AllReadyH.cons rfl (fun K hK => ?_) AllReadyH.nil
  go_simp
  go_at_call 44
  refine HAd.out.mono ?_
  rintro y w1 ⟨rfl, rfl⟩
  try go_wp2_with fail
  refine hK.out _ _ a2 (fun hS1 => ?_)
  clear hK K
  try simp only [Act.put, List.getElem_toArray, List.getElem_cons_succ, List.getElem_cons_zero, List.setIfInBounds_toArray, List.set_cons_zero, List.set_cons_succ]
  refine wpAnyH_ready (rs := [7]) (by kernel_rfl) (by simp) ?_
  refine AllReadyH.cons rfl (fun K hK => ?_) AllReadyH.nil
  refine step_append_g rfl (.tmp 4) (.tmp 8) 34 rfl 5 .u8 1 base elt8 av (.slice pr d.R.length cr) d.ahead d.R rfl rfl HAO.out K2.out.drew.row (by have := HAL.out; omega) (by have := HAL.out; omega) (Nat.le_of_lt (Nat.lt_of_le_of_lt k6 hlt)) ?_
  intro v2 w2 ho2 hg2 hor2
  obtain ⟨p2, q2, hv2⟩ := ho2.form
  generalize (d.ahead ++ d.R).length = n2 at hv2
  subst hv2
  have hb2 := HGR.out (.slice p2 n2 q2) w2 hg2
  have hfin := HFR.out av (.slice p2 n2 q2) w2 ho2 hg2 HAN.out hor2 HAB.out HAP.out
  have b2 : w2.cell? ⟨g, 2, none⟩ = some (.slice pr d.R.length cr) := hb2.cell 2
  have e1 : w2.cell? ⟨g, 1, none⟩ = some vs := hb2.cell 1
  have f1 := hb2.free 1
  have hlt2 := hb2.lt
  have HB2 := Lib.hid hb2
  have HFIN := Lib.hid hfin
  refine hK.out _ _ b2 (fun hS2 => ?_)
  clear hK K ho2 hg2 hor2 hb2 hfin
  try simp only [Act.put, List.getElem_toArray, List.getElem_cons_succ, List.getElem_cons_zero, List.setIfInBounds_toArray, List.set_cons_zero, List.set_cons_succ]
  refine wpAnyH_take (i := 8) (v := ?_) rfl (by kernel_rfl) (by kernel_rfl) (by kernel_rfl) (fun _ _ _ h => h) (Or.inl ⟨by kernel_rfl, ?_⟩) (by assumption) ?_
  rotate_left
  · intro w hSw
    try dsimp only at hSw
    first | (go_simp; done) | (go_simp; with_reducible rfl)
  try simp only [Act.put, List.getElem_toArray, List.getElem_cons_succ, List.getElem_cons_zero, List.setIfInBounds_toArray, List.set_cons_zero, List.set_cons_succ]
  refine wpAnyH_take (i := 9) (v := ?_) rfl (by kernel_rfl) (by kernel_rfl) (by kernel_rfl) (fun _ _ _ h => h) (Or.inl ⟨by kernel_rfl, ?_⟩) (by assumption) ?_
  rotate_left
  · intro w hSw
    try dsimp only at hSw
    first | (go_simp; done) | (go_simp; with_reducible rfl)
  try simp only [Act.put, List.getElem_toArray, List.getElem_cons_succ, List.getElem_cons_zero, List.setIfInBounds_toArray, List.set_cons_zero, List.set_cons_succ]
  refine wpAnyH_ready (rs := [10]) (by kernel_rfl) (by simp) ?_
  refine AllReadyH.cons rfl (fun K hK => ?_) AllReadyH.nil
  go_simp
  have b3 : (w2.setCell ⟨g, 1, none⟩ (.slice p2 n2 q2)).cell? ⟨g, 2, none⟩ = some (.slice pr d.R.length cr) := (HB2.out.set 1 (.slice p2 n2 q2)).cell 2
  have b4 : (w2.setCell ⟨g, 1, none⟩ (.slice p2 n2 q2)).cell? ⟨g, 3, none⟩ = some (.bool d.nw) := (HB2.out.set 1 (.slice p2 n2 q2)).cell 3
  have f2 := (HB2.out.set 1 (.slice p2 n2 q2)).free 2
  have f3 := (HB2.out.set 1 (.slice p2 n2 q2)).free 3
  refine hK.out _ _ b3 (fun hS3 => ?_)
  clear hK K
  try simp only [Act.put, List.getElem_toArray, List.getElem_cons_succ, List.getElem_cons_zero, List.setIfInBounds_toArray, List.set_cons_zero, List.set_cons_succ]
  refine wpAnyH_done (by kernel_rfl) ?_ _
  go_wp2_with fail
  go_end0
  exact ⟨rfl, HFIN.out.1, (BelowP.refl P base w).drew.trans HFIN.out.2⟩
theorem settle_any (w : World) (base g : Nat) (d : DSt) (h : Dk w base g d) :
    Calls Try.prog 39 #[.pointer (some ⟨g, 0, none⟩)] w fun x w' => x = .returned (.tuple #[]) ∧ Dk w' base g d.settleD ∧ Below base w w' :=
  (settle_anyP none_ w base g d h.dkp).mono fun _ _ ⟨h1, h2, h3⟩ => ⟨h1, h2.dk, h3.1⟩
end Go.Proofs.Ytjbhcdmeeakdcaa
