/- msg.written's closure by contract: a number at the end of bytes. -/
import Derived.Test.YtbimbpmdiahhbaaMsgCheck
import Derived.Test.YtbimbpmdiahhbaaAppG
import Derived.Test.YtbimbpmdiahhbaaBoolW
import Derived.Deep.RegionHeld3
namespace Go.Proofs.Ytbimbpmdiahhbaa
open Go.RowKit
set_option linter.unusedSimpArgs false
/-- Block bb holds the call's own bytes so far. -/
def Bst (w : World) (bb : Nat) (v : Value) (zs : List Int) : Prop := Blk w bb #[v] 22 ∧ Own .u8 w (bb + 1) 5 v zs
/-- From world to world: what lies below bb stays, and all else but bb's own bytes. -/
structure Stp (bb : Nat) (v v' : Value) (w w' : World) : Prop where
  low : Below bb w w'
  oth : ∀ q, q < w.heap.size → q ≠ bb → v.ownBlock ≠ some q → w'.heap[q]? = w.heap[q]?
  own : v'.ownBlock = v.ownBlock ∨ ∀ g, v'.ownBlock = some g → w.heap.size ≤ g
theorem Stp.blk {bb q : Nat} {v v' : Value} {w w' : World} {cs : Array Value} {t : TypeId} (h : Stp bb v v' w w') (hB : Blk w q cs t) (hq : q ≠ bb) (hv : v.ownBlock ≠ some q) : Blk w' q cs t ∧ v'.ownBlock ≠ some q := by
  refine ⟨(h.oth q hB.lt hq hv).trans hB, ?_⟩
  rcases h.own with e | e
  · rw [e]; exact hv
  · intro e2
    have := e q e2
    have := hB.lt
    omega
theorem Stp.refl (bb : Nat) (v : Value) (w : World) : Stp bb v v w w := ⟨Below.refl _ _, fun _ _ _ _ => rfl, .inl rfl⟩
theorem Stp.of_below {bb : Nat} {v : Value} {w w' : World} (hb : Below w.heap.size w w') (h : bb ≤ w.heap.size) : Stp bb v v w w' := ⟨hb.mono h, fun q hq _ _ => hb.block q hq, .inl rfl⟩
theorem Stp.trans {bb : Nat} {v v' v'' : Value} {w w' w'' : World} (h : Stp bb v v' w w') (k : Stp bb v' v'' w' w'') : Stp bb v v'' w w'' := by
  have hs := h.low.size
  refine ⟨h.low.trans k.low, fun q hq hne hv => ?_, ?_⟩
  · have hv' : v'.ownBlock ≠ some q := by
      rcases h.own with e | e
      · rw [e]; exact hv
      · intro e2
        have := e q e2
        omega
    exact (k.oth q (by omega) hne hv').trans (h.oth q hq hne hv)
  · rcases k.own with e | e
    · rw [e]; exact h.own
    · exact .inr (fun g hg => by have := e g hg; omega)
theorem Bst.below {w w' : World} {bb : Nat} {v : Value} {zs : List Int} (h : Bst w bb v zs) (hb : Below w.heap.size w w') : Bst w' bb v zs := ⟨h.1.below hb h.1.lt, h.2.later hb⟩
theorem Bst.notbb {w : World} {bb : Nat} {v : Value} {zs : List Int} (h : Bst w bb v zs) : v.ownBlock ≠ some bb := fun e => by have := h.2.block_ge bb e; omega
set_option maxHeartbeats 2000000 in
set_option maxRecDepth 100000 in
theorem add_any (n : Int) (bb : Nat) (v : Value) (zs : List Int) (w : World) (hB : Bst w bb v zs) (hn : I64 n) (hl : zs.length ≤ 1000000) :
    Calls Try.prog 35 #[.int .i64 n, .pointer (some ⟨bb, 0, none⟩)] w fun e w' => e = .returned (.tuple #[]) ∧ ∃ v', Bst w' bb v' (zs ++ numL n) ∧ Stp bb v v' w w' := by
  have hten := Lib.hid (numL_len hn.1 hn.2)
  have HN := Lib.hid hn
  have HB := Lib.hid hB
  have HL := Lib.hid hl
  have hc0 : w.cell? ⟨bb, 0, none⟩ = some v := hB.1.cell 0
  have hbb := hB.1.lt
  obtain ⟨p0, c0, hv0⟩ := hB.2.form
  generalize hln : zs.length = ln at *
  have HLN := Lib.hid hln
  clear hln
  subst hv0
  clear hB hn hl
  go_enter Try.func35, Try.ntmps35
  go_wp2_with fail
  refine wp_region_held_drew (S := fun w' => True) (by kernel_rfl) trivial (fun hS0 => ?_)
  refine wpAnyH_take (i := 1) (v := ?_) rfl (by kernel_rfl) (by kernel_rfl) (by kernel_rfl) (fun _ _ _ h => h) (Or.inl ⟨by kernel_rfl, ?_⟩) (by first | assumption | trivial) ?_
  rotate_left
  · intro w hSw
    try dsimp only at hSw
    first | (go_simp; done) | (go_simp; with_reducible rfl)
  try simp only [Act.put, List.getElem_toArray, List.getElem_cons_succ, List.getElem_cons_zero, List.setIfInBounds_toArray, List.set_cons_zero, List.set_cons_succ]
  refine wpAnyH_ready (rs := [0, 2]) (by kernel_rfl) (by simp) ?_
  refine AllReadyH.cons rfl (fun K hK => ?_) (AllReadyH.cons rfl (fun K hK => ?_) AllReadyH.nil)
  · skip
    go_simp
    refine hK.out _ _ trivial (fun hS => ?_)
    clear hK K
    try simp only [Act.put, List.getElem_toArray, List.getElem_cons_succ, List.getElem_cons_zero, List.setIfInBounds_toArray, List.set_cons_zero, List.set_cons_succ]
    refine wpAnyH_ready (rs := [2]) (by kernel_rfl) (by simp) ?_
    refine AllReadyH.cons rfl (fun K hK => ?_) AllReadyH.nil
    go_simp
    go_at_call 36
    refine (wnum_any _ [] n w.drew (Row.nil_ _ _ _) (by simp) HN.out.1 HN.out.2).mono ?_
    rintro y w1 ⟨v1, rfl, ho1, hb1⟩
    rw [List.nil_append] at ho1
    obtain ⟨p1, c1, hv1⟩ := ho1.form
    generalize hl1 : (numL n).length = l1 at *
    subst hv1
    have hb1' : Below w.heap.size w w1 := ((Below.refl w.heap.size w).drew).trans hb1
    have hc1 : w1.cell? ⟨bb, 0, none⟩ = some (.slice p0 ln c0) := (hb1'.cell (p := ⟨bb, 0, none⟩) hbb).trans hc0
    have HB1 := Lib.hid (HB.out.below hb1')
    have HO1 := Lib.hid ho1
    have HW1 := Lib.hid hb1'
    clear ho1 hb1 hb1'
    try go_wp2_with fail
    refine hK.out _ _ trivial (fun hS => ?_)
    clear hK K
    try simp only [Act.put, List.getElem_toArray, List.getElem_cons_succ, List.getElem_cons_zero, List.setIfInBounds_toArray, List.set_cons_zero, List.set_cons_succ]
    refine wpAnyH_ready (rs := [3]) (by kernel_rfl) (by simp) ?_
    refine AllReadyH.cons rfl (fun K hK => ?_) AllReadyH.nil
    refine step_append_g rfl (.tmp 3) (.tmp 5) 22 rfl 5 .u8 1 (bb + 1) elt8 _ _ zs (numL n) rfl rfl HB1.out.2 HO1.out.row (by have := hten.out; have := HL.out; have := HLN.out; omega) (by have := hten.out; have := HL.out; have := HLN.out; omega) (by have := HB1.out.1.lt; omega) ?_
    intro v2 w2 ho2 hg2 hor2
    obtain ⟨p2, c2, hv2⟩ := ho2.form
    generalize hl2 : (zs ++ numL n).length = l2 at hv2
    subst hv2
    have hbk2 : Blk w2 bb #[.slice p0 ln c0] 22 := HB1.out.1.grown hg2 (fun e => HB1.out.notbb e.symm)
    have hc2 : w2.cell? ⟨bb, 0, none⟩ = some (.slice p0 ln c0) := hbk2.cell 0
    have hf2 := hbk2.free 0
    have hbb2 := hbk2.lt
    have HBK2 := Lib.hid hbk2
    have HO2 := Lib.hid ho2
    have HG2 := Lib.hid hg2
    have HOR2 := Lib.hid hor2
    clear ho2 hg2 hor2 hbk2
    refine hK.out _ _ trivial (fun hS => ?_)
    clear hK K
    try simp only [Act.put, List.getElem_toArray, List.getElem_cons_succ, List.getElem_cons_zero, List.setIfInBounds_toArray, List.set_cons_zero, List.set_cons_succ]
    refine wpAnyH_ready (rs := [4]) (by kernel_rfl) (by simp) ?_
    refine AllReadyH.cons rfl (fun K hK => ?_) AllReadyH.nil
    go_simp
    refine hK.out _ _ trivial (fun hS => ?_)
    clear hK K
    try simp only [Act.put, List.getElem_toArray, List.getElem_cons_succ, List.getElem_cons_zero, List.setIfInBounds_toArray, List.set_cons_zero, List.set_cons_succ]
    refine wpAnyH_done (by kernel_rfl) ?_ _
    clear hc2 hf2 hbb2
    go_wp2_with fail
    have hne : (Value.slice p2 l2 c2).ownBlock ≠ some bb := fun e => by have := HO2.out.block_ge bb e; omega
    refine bodyPost_end (results_none rfl _ _ _) rfl ⟨rfl, _, ⟨HBK2.out.set 0 _, ?_⟩, ?_⟩
    · exact HO2.out.chgV ((Chg.refl bb w2).set 0 _) hne
    · refine (Stp.of_below (v := .slice p0 ln c0) HW1.out (Nat.le_of_lt hbb)).trans ⟨?_, fun q hq hq2 hq3 => ?_, ?_⟩
      · exact ((Below.refl bb w1).grown HG2.out (Nat.le_trans (Nat.le_of_lt hbb) HW1.out.size) (fun g hg => by have := HB1.out.2.block_ge g hg; omega)).setCell (p := ⟨bb, 0, none⟩) (Nat.le_refl _) _
      · exact (((Chg.refl bb w2).set 0 _).2 q (Nat.lt_of_lt_of_le hq HG2.out.size) hq2).trans (HG2.out.block q hq (fun e => hq3 e.symm))
      · rcases HOR2.out with e | e
        · exact .inl e
        · exact .inr (fun g hg => by rw [e] at hg; cases hg; exact Nat.le_refl _)
  · skip
    go_simp
    go_at_call 36
    refine (wnum_any _ [] n w.drew (Row.nil_ _ _ _) (by simp) HN.out.1 HN.out.2).mono ?_
    rintro y w1 ⟨v1, rfl, ho1, hb1⟩
    rw [List.nil_append] at ho1
    obtain ⟨p1, c1, hv1⟩ := ho1.form
    generalize hl1 : (numL n).length = l1 at *
    subst hv1
    have hb1' : Below w.heap.size w w1 := ((Below.refl w.heap.size w).drew).trans hb1
    have hc1 : w1.cell? ⟨bb, 0, none⟩ = some (.slice p0 ln c0) := (hb1'.cell (p := ⟨bb, 0, none⟩) hbb).trans hc0
    have HB1 := Lib.hid (HB.out.below hb1')
    have HO1 := Lib.hid ho1
    have HW1 := Lib.hid hb1'
    clear ho1 hb1 hb1'
    try go_wp2_with fail
    refine hK.out _ _ trivial (fun hS => ?_)
    clear hK K
    try simp only [Act.put, List.getElem_toArray, List.getElem_cons_succ, List.getElem_cons_zero, List.setIfInBounds_toArray, List.set_cons_zero, List.set_cons_succ]
    refine wpAnyH_ready (rs := [0]) (by kernel_rfl) (by simp) ?_
    refine AllReadyH.cons rfl (fun K hK => ?_) AllReadyH.nil
    go_simp
    refine hK.out _ _ trivial (fun hS => ?_)
    clear hK K
    try simp only [Act.put, List.getElem_toArray, List.getElem_cons_succ, List.getElem_cons_zero, List.setIfInBounds_toArray, List.set_cons_zero, List.set_cons_succ]
    refine wpAnyH_ready (rs := [3]) (by kernel_rfl) (by simp) ?_
    refine AllReadyH.cons rfl (fun K hK => ?_) AllReadyH.nil
    refine step_append_g rfl (.tmp 3) (.tmp 5) 22 rfl 5 .u8 1 (bb + 1) elt8 _ _ zs (numL n) rfl rfl HB1.out.2 HO1.out.row (by have := hten.out; have := HL.out; have := HLN.out; omega) (by have := hten.out; have := HL.out; have := HLN.out; omega) (by have := HB1.out.1.lt; omega) ?_
    intro v2 w2 ho2 hg2 hor2
    obtain ⟨p2, c2, hv2⟩ := ho2.form
    generalize hl2 : (zs ++ numL n).length = l2 at hv2
    subst hv2
    have hbk2 : Blk w2 bb #[.slice p0 ln c0] 22 := HB1.out.1.grown hg2 (fun e => HB1.out.notbb e.symm)
    have hc2 : w2.cell? ⟨bb, 0, none⟩ = some (.slice p0 ln c0) := hbk2.cell 0
    have hf2 := hbk2.free 0
    have hbb2 := hbk2.lt
    have HBK2 := Lib.hid hbk2
    have HO2 := Lib.hid ho2
    have HG2 := Lib.hid hg2
    have HOR2 := Lib.hid hor2
    clear ho2 hg2 hor2 hbk2
    refine hK.out _ _ trivial (fun hS => ?_)
    clear hK K
    try simp only [Act.put, List.getElem_toArray, List.getElem_cons_succ, List.getElem_cons_zero, List.setIfInBounds_toArray, List.set_cons_zero, List.set_cons_succ]
    refine wpAnyH_ready (rs := [4]) (by kernel_rfl) (by simp) ?_
    refine AllReadyH.cons rfl (fun K hK => ?_) AllReadyH.nil
    go_simp
    refine hK.out _ _ trivial (fun hS => ?_)
    clear hK K
    try simp only [Act.put, List.getElem_toArray, List.getElem_cons_succ, List.getElem_cons_zero, List.setIfInBounds_toArray, List.set_cons_zero, List.set_cons_succ]
    refine wpAnyH_done (by kernel_rfl) ?_ _
    clear hc2 hf2 hbb2
    go_wp2_with fail
    have hne : (Value.slice p2 l2 c2).ownBlock ≠ some bb := fun e => by have := HO2.out.block_ge bb e; omega
    refine bodyPost_end (results_none rfl _ _ _) rfl ⟨rfl, _, ⟨HBK2.out.set 0 _, ?_⟩, ?_⟩
    · exact HO2.out.chgV ((Chg.refl bb w2).set 0 _) hne
    · refine (Stp.of_below (v := .slice p0 ln c0) HW1.out (Nat.le_of_lt hbb)).trans ⟨?_, fun q hq hq2 hq3 => ?_, ?_⟩
      · exact ((Below.refl bb w1).grown HG2.out (Nat.le_trans (Nat.le_of_lt hbb) HW1.out.size) (fun g hg => by have := HB1.out.2.block_ge g hg; omega)).setCell (p := ⟨bb, 0, none⟩) (Nat.le_refl _) _
      · exact (((Chg.refl bb w2).set 0 _).2 q (Nat.lt_of_lt_of_le hq HG2.out.size) hq2).trans (HG2.out.block q hq (fun e => hq3 e.symm))
      · rcases HOR2.out with e | e
        · exact .inl e
        · exact .inr (fun g hg => by rw [e] at hg; cases hg; exact Nat.le_refl _)
end Go.Proofs.Ytbimbpmdiahhbaa
