/- (*Clock).take by contract. -/
import Derived.Test.YtpmiekheiddihaaClkA
import Derived.Deep.RegionHeld3
namespace Go.Proofs.Ytpmiekheiddihaa
open Go.RowKit Go.Maps
set_option linter.unusedSimpArgs false in
set_option maxHeartbeats 4000000 in
set_option maxRecDepth 100000 in
theorem ctake_any (P : Nat → Prop) (w : World) (gc gm : Nat) (now : Int) (k : Nat) (p : Option Addr) (c : Nat) (hs ds : List Du) (d : Du) (h : Clk P w gc gm now k p c hs ds) (hd : d ∈ ds) (hn : ds.length ≤ 50000) :
    Calls Try.prog 21 #[.pointer (some ⟨gc, 0, none⟩), .pointer (some ⟨d.b, 0, none⟩)] w fun e w' => e = .returned (.string d.nm) ∧ ∃ hs', Clk P w' gc gm now k p c hs' (dropU ds d.nm) ∧ ChgP P w w' := by
  obtain ⟨i, hi, hid, had⟩ := h.due hd
  have hdl := drop_len h.nd hd
  have hcl := h.cl
  have hok := h.ok
  rw [← hdl] at hcl hok
  have HRM := Lib.hid (hremove_any (InQ P gc gm) w.drew gc now k (.map (some gm)) p (dropU ds d.nm).length c hs i hi (hcl.kept (Below.refl _ w).drew) hok (by omega))
  rw [hid] at HRM
  have HB0 := Lib.hid had
  have HH := Lib.hid h
  have HD := Lib.hid hd
  have hta := fun w => ta_due ⟨d.b, 0, none⟩ w
  clear had hcl hok hdl hid hn h hd hi
  go_enter Try.func21, Try.ntmps21
  go_wp2_with fail
  refine wp_region_held_drew (S := fun _ => True) (by kernel_rfl) trivial (fun hS0 => ?_)
  have z3 : w.drew.cell? ⟨d.b, 3, none⟩ = some (.int .i64 i) := HB0.out.cell 3
  have HG0 : Hid (Below w.heap.size w w.drew) := Lib.hid (Below.refl _ w).drew
  have HS0 : Hid (w.heap.size ≤ w.drew.heap.size) := Lib.hid (Nat.le_refl _)
  generalize w.drew = W0 at *
  refine wpAnyH_take (i := 0) (v := ?_) rfl (by kernel_rfl) (by kernel_rfl) (by kernel_rfl) (fun _ _ _ h => h) (Or.inl ⟨by kernel_rfl, ?_⟩) (by first | assumption | trivial) ?_
  rotate_left
  · intro w hSw
    try dsimp only at hSw
    first | (go_simp; done) | (go_simp; with_reducible rfl)
  try simp only [Act.put, List.getElem_toArray, List.getElem_cons_succ, List.getElem_cons_zero, List.setIfInBounds_toArray, List.set_cons_zero, List.set_cons_succ]
  refine wpAnyH_take (i := 1) (v := ?_) rfl (by kernel_rfl) (by kernel_rfl) (by kernel_rfl) (fun _ _ _ h => h) (Or.inl ⟨by kernel_rfl, ?_⟩) (by first | assumption | trivial) ?_
  rotate_left
  · intro w hSw
    try dsimp only at hSw
    first | (go_simp; done) | (go_simp; with_reducible rfl)
  try simp only [Act.put, List.getElem_toArray, List.getElem_cons_succ, List.getElem_cons_zero, List.setIfInBounds_toArray, List.set_cons_zero, List.set_cons_succ]
  refine wpAnyH_take (i := 2) (v := ?_) rfl (by kernel_rfl) (by kernel_rfl) (by kernel_rfl) (fun _ _ _ h => h) (Or.inl ⟨by kernel_rfl, ?_⟩) (by first | assumption | trivial) ?_
  rotate_left
  · intro w hSw
    try dsimp only at hSw
    first | (go_simp; done) | (go_simp; with_reducible rfl)
  try simp only [Act.put, List.getElem_toArray, List.getElem_cons_succ, List.getElem_cons_zero, List.setIfInBounds_toArray, List.set_cons_zero, List.set_cons_succ]
  refine wpAnyH_take (i := 3) (v := ?_) rfl (by kernel_rfl) (by kernel_rfl) (by kernel_rfl) (fun _ _ _ h => h) (Or.inl ⟨by kernel_rfl, ?_⟩) (by first | assumption | trivial) ?_
  rotate_left
  · intro w hSw
    try dsimp only at hSw
    first | (go_simp; done) | (go_simp; with_reducible rfl)
  try simp only [Act.put, List.getElem_toArray, List.getElem_cons_succ, List.getElem_cons_zero, List.setIfInBounds_toArray, List.set_cons_zero, List.set_cons_succ]
  refine wpAnyH_take (i := 4) (v := ?_) rfl (by kernel_rfl) (by kernel_rfl) (by kernel_rfl) (fun _ _ _ h => h) (Or.inl ⟨by kernel_rfl, ?_⟩) (by first | assumption | trivial) ?_
  rotate_left
  · intro w hSw
    try dsimp only at hSw
    first | (go_simp; done) | (go_simp; with_reducible rfl)
  try simp only [Act.put, List.getElem_toArray, List.getElem_cons_succ, List.getElem_cons_zero, List.setIfInBounds_toArray, List.set_cons_zero, List.set_cons_succ]
  refine wpAnyH_take (i := 5) (v := ?_) rfl (by kernel_rfl) (by kernel_rfl) (by kernel_rfl) (fun _ _ _ h => h) (Or.inl ⟨by kernel_rfl, ?_⟩) (by first | assumption | trivial) ?_
  rotate_left
  · intro w hSw
    try dsimp only at hSw
    first | (go_simp; done) | (go_simp; with_reducible rfl)
  try simp only [Act.put, List.getElem_toArray, List.getElem_cons_succ, List.getElem_cons_zero, List.setIfInBounds_toArray, List.set_cons_zero, List.set_cons_succ]
  refine wpAnyH_take (i := 6) (v := ?_) rfl (by kernel_rfl) (by kernel_rfl) (by kernel_rfl) (fun _ _ _ h => h) (Or.inl ⟨by kernel_rfl, ?_⟩) (by first | assumption | trivial) ?_
  rotate_left
  · intro w hSw
    try dsimp only at hSw
    first | (go_simp; done) | (go_simp; with_reducible rfl)
  try simp only [Act.put, List.getElem_toArray, List.getElem_cons_succ, List.getElem_cons_zero, List.setIfInBounds_toArray, List.set_cons_zero, List.set_cons_succ]
  refine wpAnyH_ready (rs := [7]) (by kernel_rfl) (by simp) ?_
  refine AllReadyH.cons rfl (fun K hK => ?_) AllReadyH.nil
  go_simp
  refine hK.out _ _ trivial (fun hS => ?_)
  clear hK K
  try simp only [Act.put, List.getElem_toArray, List.getElem_cons_succ, List.getElem_cons_zero, List.setIfInBounds_toArray, List.set_cons_zero, List.set_cons_succ]
  clear z3 HB0
  refine wpAnyH_ready (rs := [8]) (by kernel_rfl) (by simp) ?_
  refine AllReadyH.cons rfl (fun K hK => ?_) AllReadyH.nil
  go_simp
  go_at_call 23
  refine HRM.out.mono ?_
  rintro y9 w1 ⟨rfl, a, ha, hoa, hpa, hba, hca⟩
  try go_wp2_with fail
  have HA := Lib.hid ha
  have HOA := Lib.hid hoa
  have HPA := Lib.hid hpa
  have HBA := Lib.hid hba
  have HCA := Lib.hid hca
  clear ha hoa hpa hba hca HRM
  refine hK.out _ _ trivial (fun hS => ?_)
  clear hK K
  try simp only [Act.put, List.getElem_toArray, List.getElem_cons_succ, List.getElem_cons_zero, List.setIfInBounds_toArray, List.set_cons_zero, List.set_cons_succ]
  refine wpAnyH_take (i := 9) (v := ?_) rfl (by kernel_rfl) (by kernel_rfl) (by kernel_rfl) (fun _ _ _ h => h) (Or.inl ⟨by kernel_rfl, ?_⟩) (by first | assumption | trivial) ?_
  rotate_left
  · intro w hSw
    try dsimp only at hSw
    first | (go_simp; done) | (go_simp; with_reducible rfl)
  try simp only [Act.put, List.getElem_toArray, List.getElem_cons_succ, List.getElem_cons_zero, List.setIfInBounds_toArray, List.set_cons_zero, List.set_cons_succ]
  refine wpAnyH_take (i := 10) (v := ?_) rfl (by kernel_rfl) (by kernel_rfl) (by kernel_rfl) (fun _ _ _ h => h) (Or.inl ⟨by kernel_rfl, ?_⟩) (by first | assumption | trivial) ?_
  rotate_left
  · intro w hSw
    try dsimp only at hSw
    first | (go_simp; done) | (go_simp; with_reducible rfl)
  try simp only [Act.put, List.getElem_toArray, List.getElem_cons_succ, List.getElem_cons_zero, List.setIfInBounds_toArray, List.set_cons_zero, List.set_cons_succ]
  refine wpAnyH_take (i := 11) (v := ?_) rfl (by kernel_rfl) (by kernel_rfl) (by kernel_rfl) (fun _ _ _ h => h) (Or.inl ⟨by kernel_rfl, ?_⟩) (by first | assumption | trivial) ?_
  rotate_left
  · intro w hSw
    try dsimp only at hSw
    first | (go_simp; done) | (go_simp; with_reducible rfl)
  try simp only [Act.put, List.getElem_toArray, List.getElem_cons_succ, List.getElem_cons_zero, List.setIfInBounds_toArray, List.set_cons_zero, List.set_cons_succ]
  refine wpAnyH_ready (rs := [12]) (by kernel_rfl) (by simp) ?_
  refine AllReadyH.cons rfl (fun K hK => ?_) AllReadyH.nil
  have z0 : w1.cell? ⟨d.b, 0, none⟩ = some (.string d.nm) := HBA.out.cell 0
  go_simp
  clear z0
  refine hK.out _ _ trivial (fun hS => ?_)
  clear hK K
  try simp only [Act.put, List.getElem_toArray, List.getElem_cons_succ, List.getElem_cons_zero, List.setIfInBounds_toArray, List.set_cons_zero, List.set_cons_succ]
  refine wpAnyH_take (i := 13) (v := ?_) rfl (by kernel_rfl) (by kernel_rfl) (by kernel_rfl) (fun _ _ _ h => h) (Or.inl ⟨by kernel_rfl, ?_⟩) (by first | assumption | trivial) ?_
  rotate_left
  · intro w hSw
    try dsimp only at hSw
    first | (go_simp; done) | (go_simp; with_reducible rfl)
  try simp only [Act.put, List.getElem_toArray, List.getElem_cons_succ, List.getElem_cons_zero, List.setIfInBounds_toArray, List.set_cons_zero, List.set_cons_succ]
  refine wpAnyH_done (by kernel_rfl) ?_ _
  have hgm : w1.heap[gm]? = w.heap[gm]? := (HCA.out.2 gm (Nat.lt_of_lt_of_le HH.out.mp.lt HS0.out) (fun hx => hx.elim (fun h => h.2.2 rfl) (fun h => HH.out.ne h))).trans (HG0.out.block gm HH.out.mp.lt)
  obtain ⟨w2, hrun, hmp, hch⟩ := (HH.out.mp.block hgm).drop (s := d.nm) (HH.out.sz d HD.out) 0
  have HMP := Lib.hid hmp
  have HCH := Lib.hid hch
  have z1 : w1.cell? ⟨gc, 3, none⟩ = some (.map (some gm)) := HA.out.blk.cell 3
  clear hgm hmp hch hta
  go_wp2_with fail
  go_ret
  have h := HH.out
  have hdl := drop_len h.nd HD.out
  have hsub : (dropU ds d.nm).Sublist ds := List.filter_sublist
  refine ⟨rfl, a, ⟨⟨HA.out.hp.stay (fun b hb hp => HCH.out.2 b hb hp.2.2), HA.out.blk.chg HCH.out (fun e => h.ne e.symm), HA.out.nq⟩, HOA.out, drop_perm h.nd HD.out h.pm HPA.out, HMP.out.congr (fun s _ => (dof_drop ds d.nm s).symm), h.gin, h.min, h.ne, h.srt.sublist hsub, fun e he => h.top e (hsub.subset he), h.nd.sublist hsub, fun e he => h.sz e (hsub.subset he)⟩, ?_⟩
  exact ((ChgP.of_below HG0.out).trans (HCA.out.imp (fun b _ hx => hx.elim (fun h => h.1) (fun e => e ▸ h.gin)))).trans (ChgP.of_chg HCH.out h.min)
end Go.Proofs.Ytpmiekheiddihaa
