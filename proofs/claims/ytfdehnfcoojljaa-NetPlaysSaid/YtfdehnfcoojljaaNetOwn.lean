/- net.own by contract: a packet whose message has lists of its own. -/
import Derived.Test.YtfdehnfcoojljaaNetData
import Derived.Test.YtfdehnfcoojljaaCloneM
import Derived.Deep.RegionHeld3
namespace Go.Proofs.Ytfdehnfcoojljaa
open Go.RowKit
set_option linter.unusedSimpArgs false
def PkX.v (y : PkX) : Value := .agg #[.int .i64 y.f, .int .i64 y.t, .int .i64 y.n, .int .i64 y.h, .int .i64 y.x.m.k, .int .i64 y.x.m.s, .int .i64 y.x.m.n, .int .i64 y.x.m.b, .int .i64 y.x.m.c, .int .i64 y.x.m.r, .int .i64 y.x.m.y, .int .i64 y.x.m.a, .bool y.x.m.t, .slice y.x.pl y.x.m.ls.length y.x.cl, .slice y.x.pn y.x.m.ns.length y.x.cn]
theorem one15 (y : PkX) : ∀ u ∈ y.cells, u.oneCell' = true := encK.one y
theorem infoK15 {cs : Array Value} (h : cs.size = 15) : (Try.prog.info? 38).map (·.size) = some cs.size := by
  rw [h]
  kernel_rfl
set_option maxHeartbeats 8000000 in
set_option maxRecDepth 100000 in
theorem nown_own (y : PkX) (P : Nat → Prop) (w : World) (hy : y.x.InP P w) :
    Calls Try.prog 15 #[y.v] w fun e w' => ∃ z : PkX, e = .returned z.v ∧ z.pk = y.pk ∧ (z.x.InP (fun b => w.heap.size ≤ b ∧ b < w'.heap.size) w' ∧ OwnT encN w' w.heap.size 48 z.x.vl z.x.m.ls) ∧ Below w.heap.size w w' := by
  obtain ⟨f, t, n, h, ⟨m, pl, cl, pn, cn⟩⟩ := y
  have HL := Lib.hid hy.ls
  have HN := Lib.hid hy.ns
  have HZ : Hid m.Sz := hy.sz
  clear hy
  unfold PkX.v
  dsimp only [MsgX.vl, MsgX.vn] at HL HN ⊢
  generalize hnl : m.ls.length = nl at *
  have HNL := Lib.hid hnl
  generalize hnn : m.ns.length = nn at *
  have HNN := Lib.hid hnn
  clear hnl hnn
  go_enter Try.func15, Try.ntmps15
  go_wp2_with fail
  have HK0 := Lib.hid ((Blk.new w #[.int .i64 f, .int .i64 t, .int .i64 n, .int .i64 h, .int .i64 m.k, .int .i64 m.s, .int .i64 m.n, .int .i64 m.b, .int .i64 m.c, .int .i64 m.r, .int .i64 m.y, .int .i64 m.a, .bool m.t, .slice pl nl cl, .slice pn nn cn] 38).alloc (.cells #[.int .i64 0, .int .i64 0, .int .i64 0, .int .i64 0, .int .i64 0, .int .i64 0, .int .i64 0, .int .i64 0, .int .i64 0, .int .i64 0, .int .i64 0, .int .i64 0, .bool false, .slice none 0 0, .slice none 0 0] 38))
  have HR0 := Lib.hid (Blk.new' (w.alloc (.cells #[.int .i64 f, .int .i64 t, .int .i64 n, .int .i64 h, .int .i64 m.k, .int .i64 m.s, .int .i64 m.n, .int .i64 m.b, .int .i64 m.c, .int .i64 m.r, .int .i64 m.y, .int .i64 m.a, .bool m.t, .slice pl nl cl, .slice pn nn cn] 38)) #[.int .i64 0, .int .i64 0, .int .i64 0, .int .i64 0, .int .i64 0, .int .i64 0, .int .i64 0, .int .i64 0, .int .i64 0, .int .i64 0, .int .i64 0, .int .i64 0, .bool false, .slice none 0 0, .slice none 0 0] 38 (b := w.heap.size + 1) (by simp))
  have HB0 := Lib.hid ((oneB w (.cells #[.int .i64 f, .int .i64 t, .int .i64 n, .int .i64 h, .int .i64 m.k, .int .i64 m.s, .int .i64 m.n, .int .i64 m.b, .int .i64 m.c, .int .i64 m.r, .int .i64 m.y, .int .i64 m.a, .bool m.t, .slice pl nl cl, .slice pn nn cn] 38)).trans ((oneB (w.alloc (.cells #[.int .i64 f, .int .i64 t, .int .i64 n, .int .i64 h, .int .i64 m.k, .int .i64 m.s, .int .i64 m.n, .int .i64 m.b, .int .i64 m.c, .int .i64 m.r, .int .i64 m.y, .int .i64 m.a, .bool m.t, .slice pl nl cl, .slice pn nn cn] 38)) (.cells #[.int .i64 0, .int .i64 0, .int .i64 0, .int .i64 0, .int .i64 0, .int .i64 0, .int .i64 0, .int .i64 0, .int .i64 0, .int .i64 0, .int .i64 0, .int .i64 0, .bool false, .slice none 0 0, .slice none 0 0] 38)).mono (by simp)))
  generalize hW0 : (w.alloc (.cells #[.int .i64 f, .int .i64 t, .int .i64 n, .int .i64 h, .int .i64 m.k, .int .i64 m.s, .int .i64 m.n, .int .i64 m.b, .int .i64 m.c, .int .i64 m.r, .int .i64 m.y, .int .i64 m.a, .bool m.t, .slice pl nl cl, .slice pn nn cn] 38)).alloc (.cells #[.int .i64 0, .int .i64 0, .int .i64 0, .int .i64 0, .int .i64 0, .int .i64 0, .int .i64 0, .int .i64 0, .int .i64 0, .int .i64 0, .int .i64 0, .int .i64 0, .bool false, .slice none 0 0, .slice none 0 0] 38) = W0 at *
  clear hW0
  have HLT := Lib.hid HR0.out.lt
  have h8a : W0.drew.cell? ⟨w.heap.size, 4 + 9, none⟩ = some (.slice pl nl cl) := HK0.out.drew.cell 13
  have h9a : W0.drew.cell? ⟨w.heap.size, 4 + 10, none⟩ = some (.slice pn nn cn) := HK0.out.drew.cell 14
  refine wp_region_held_drew (S := fun w' => True) (by kernel_rfl) trivial (fun hS0 => ?_)
  refine wpAnyH_take (i := 0) (v := ?_) rfl (by kernel_rfl) (by kernel_rfl) (by kernel_rfl) (fun _ _ _ h => h) (Or.inl ⟨by kernel_rfl, ?_⟩) (by first | assumption | trivial) ?_
  rotate_left
  · intro w hSw
    try dsimp only at hSw
    first | (go_simp; done) | (go_simp; with_reducible rfl)
  try simp only [Act.put, List.getElem_toArray, List.getElem_cons_succ, List.getElem_cons_zero, List.setIfInBounds_toArray, List.set_cons_zero, List.set_cons_succ]
  refine wpAnyH_take (i := 1) (v := ?_) rfl (by kernel_rfl) (by kernel_rfl) (by kernel_rfl) (fun _ _ _ h => h) (Or.inl ⟨by kernel_rfl, ?_⟩) (by first | assumption | trivial) ?_
  rotate_left
  · intro w hSw
    try dsimp only at hSw
    first | (go_simp; done) | (go_simp; with_reducible rfl)
  try simp only [Act.put, List.getElem_toArray, List.getElem_cons_succ, List.getElem_cons_zero, List.setIfInBounds_toArray, List.set_cons_zero, List.set_cons_succ]
  refine wpAnyH_take (i := 4) (v := ?_) rfl (by kernel_rfl) (by kernel_rfl) (by kernel_rfl) (fun _ _ _ h => h) (Or.inl ⟨by kernel_rfl, ?_⟩) (by first | assumption | trivial) ?_
  rotate_left
  · intro w hSw
    try dsimp only at hSw
    first | (go_simp; done) | (go_simp; with_reducible rfl)
  try simp only [Act.put, List.getElem_toArray, List.getElem_cons_succ, List.getElem_cons_zero, List.setIfInBounds_toArray, List.set_cons_zero, List.set_cons_succ]
  refine wpAnyH_take (i := 5) (v := ?_) rfl (by kernel_rfl) (by kernel_rfl) (by kernel_rfl) (fun _ _ _ h => h) (Or.inl ⟨by kernel_rfl, ?_⟩) (by first | assumption | trivial) ?_
  rotate_left
  · intro w hSw
    try dsimp only at hSw
    first | (go_simp; done) | (go_simp; with_reducible rfl)
  try simp only [Act.put, List.getElem_toArray, List.getElem_cons_succ, List.getElem_cons_zero, List.setIfInBounds_toArray, List.set_cons_zero, List.set_cons_succ]
  refine wpAnyH_ready (rs := [2, 6]) (by kernel_rfl) (by simp) ?_
  refine AllReadyH.cons rfl (fun K hK => ?_) (AllReadyH.cons rfl (fun K hK => ?_) AllReadyH.nil)
  · skip
    go_simp
    refine hK.out _ _ trivial (fun hS => ?_)
    clear hK K
    try simp only [Act.put, List.getElem_toArray, List.getElem_cons_succ, List.getElem_cons_zero, List.setIfInBounds_toArray, List.set_cons_zero, List.set_cons_succ]
    refine wpAnyH_ready (rs := [3, 6]) (by kernel_rfl) (by simp) ?_
    refine AllReadyH.cons rfl (fun K hK => ?_) (AllReadyH.cons rfl (fun K hK => ?_) AllReadyH.nil)
    · skip
      go_simp
      go_at_call 19
      refine (cloneN_any _ _ _ (HL.out.kept HB0.out.drew) (by rw [HNL.out]; have := HZ.out.1; rw [HNL.out] at this; omega)).mono ?_
      rintro y w2 ⟨v2, rfl, ho2, hb2⟩
      have HO2 := Lib.hid ho2
      have HB2 := Lib.hid ((Below.refl W0.heap.size W0).drew.trans hb2)
      have h9b : w2.cell? ⟨w.heap.size, 4 + 10, none⟩ = some (.slice pn nn cn) := (HK0.out.below HB2.out HK0.out.lt).cell 14
      clear ho2 hb2
      try go_wp2_with fail
      refine hK.out _ _ trivial (fun hS => ?_)
      clear hK K
      try simp only [Act.put, List.getElem_toArray, List.getElem_cons_succ, List.getElem_cons_zero, List.setIfInBounds_toArray, List.set_cons_zero, List.set_cons_succ]
      refine wpAnyH_ready (rs := [6]) (by kernel_rfl) (by simp) ?_
      refine AllReadyH.cons rfl (fun K hK => ?_) AllReadyH.nil
      go_simp
      refine hK.out _ _ trivial (fun hS => ?_)
      clear hK K
      try simp only [Act.put, List.getElem_toArray, List.getElem_cons_succ, List.getElem_cons_zero, List.setIfInBounds_toArray, List.set_cons_zero, List.set_cons_succ]
      refine wpAnyH_take (i := 8) (v := ?_) rfl (by kernel_rfl) (by kernel_rfl) (by kernel_rfl) (fun _ _ _ h => h) (Or.inl ⟨by kernel_rfl, ?_⟩) (by first | assumption | trivial) ?_
      rotate_left
      · intro w hSw
        try dsimp only at hSw
        first | (go_simp; done) | (go_simp; with_reducible rfl)
      try simp only [Act.put, List.getElem_toArray, List.getElem_cons_succ, List.getElem_cons_zero, List.setIfInBounds_toArray, List.set_cons_zero, List.set_cons_succ]
      refine wpAnyH_take (i := 9) (v := ?_) rfl (by kernel_rfl) (by kernel_rfl) (by kernel_rfl) (fun _ _ _ h => h) (Or.inl ⟨by kernel_rfl, ?_⟩) (by first | assumption | trivial) ?_
      rotate_left
      · intro w hSw
        try dsimp only at hSw
        first | (go_simp; done) | (go_simp; with_reducible rfl)
      try simp only [Act.put, List.getElem_toArray, List.getElem_cons_succ, List.getElem_cons_zero, List.setIfInBounds_toArray, List.set_cons_zero, List.set_cons_succ]
      refine wpAnyH_ready (rs := [7]) (by kernel_rfl) (by simp) ?_
      refine AllReadyH.cons rfl (fun K hK => ?_) AllReadyH.nil
      go_simp
      go_at_call 20
      refine (clone64_any _ _ _ (HN.out.kept (HB0.out.trans (HB2.out.mono HB0.out.size))) (by rw [HNN.out]; have := HZ.out.2; rw [HNN.out] at this; omega)).mono ?_
      rintro y w3 ⟨v3, rfl, ho3, hb3⟩
      have HO3 := Lib.hid ho3
      have HO2' := Lib.hid (HO2.out.later hb3)
      have HB3 := Lib.hid (HB2.out.trans (hb3.mono HB2.out.size))
      obtain ⟨ql, dl, rfl⟩ := HO2'.out.form
      obtain ⟨qn, dn, rfl⟩ := HO3.out.form
      rw [HNL.out] at HO2' ⊢
      rw [HNN.out] at HO3 ⊢
      have HK3 := Lib.hid (HK0.out.below HB3.out HK0.out.lt)
      have hc8 := HK3.out.cell 13
      have hc9 := HK3.out.cell 14
      have hf8 := HK3.out.free 13
      have hf9 := HK3.out.free 14
      clear ho3 hb3
      try go_wp2_with fail
      refine hK.out _ _ trivial (fun hS => ?_)
      clear hK K
      try simp only [Act.put, List.getElem_toArray, List.getElem_cons_succ, List.getElem_cons_zero, List.setIfInBounds_toArray, List.set_cons_zero, List.set_cons_succ]
      refine wpAnyH_ready (rs := [10]) (by kernel_rfl) (by simp) ?_
      refine AllReadyH.cons rfl (fun K hK => ?_) AllReadyH.nil
      go_simp
      refine hK.out _ _ trivial (fun hS => ?_)
      clear hK K
      try simp only [Act.put, List.getElem_toArray, List.getElem_cons_succ, List.getElem_cons_zero, List.setIfInBounds_toArray, List.set_cons_zero, List.set_cons_succ]
      refine wpAnyH_take (i := 11) (v := ?_) rfl (by kernel_rfl) (by kernel_rfl) (by kernel_rfl) (fun _ _ _ h => h) (Or.inl ⟨by kernel_rfl, ?_⟩) (by first | assumption | trivial) ?_
      rotate_left
      · intro w hSw
        try dsimp only at hSw
        first | (go_simp; done) | (go_simp; with_reducible rfl)
      try simp only [Act.put, List.getElem_toArray, List.getElem_cons_succ, List.getElem_cons_zero, List.setIfInBounds_toArray, List.set_cons_zero, List.set_cons_succ]
      refine wpAnyH_take (i := 12) (v := ?_) rfl (by kernel_rfl) (by kernel_rfl) (by kernel_rfl) (fun _ _ _ h => h) (Or.inl ⟨by kernel_rfl, ?_⟩) (by first | assumption | trivial) ?_
      rotate_left
      · intro w hSw
        try dsimp only at hSw
        first | (go_simp; done) | (go_simp; with_reducible rfl)
      try simp only [Act.put, List.getElem_toArray, List.getElem_cons_succ, List.getElem_cons_zero, List.setIfInBounds_toArray, List.set_cons_zero, List.set_cons_succ]
      refine wpAnyH_ready (rs := [13]) (by kernel_rfl) (by simp) ?_
      refine AllReadyH.cons rfl (fun K hK => ?_) AllReadyH.nil
      go_simp
      refine hK.out _ _ trivial (fun hS => ?_)
      clear hK K
      try simp only [Act.put, List.getElem_toArray, List.getElem_cons_succ, List.getElem_cons_zero, List.setIfInBounds_toArray, List.set_cons_zero, List.set_cons_succ]
      refine wpAnyH_done (by kernel_rfl) ?_ _
      have HK4 : Hid (Blk ((w3.setCell ⟨w.heap.size, 4 + 9, none⟩ (.slice ql nl dl)).setCell ⟨w.heap.size, 4 + 10, none⟩ (.slice qn nn dn)) w.heap.size #[.int .i64 f, .int .i64 t, .int .i64 n, .int .i64 h, .int .i64 m.k, .int .i64 m.s, .int .i64 m.n, .int .i64 m.b, .int .i64 m.c, .int .i64 m.r, .int .i64 m.y, .int .i64 m.a, .bool m.t, .slice ql nl dl, .slice qn nn dn] 38) := (HK3.out.set 13 (.slice ql nl dl)).set 14 (.slice qn nn dn)
      have HC4 : Hid (Chg w.heap.size w3 ((w3.setCell ⟨w.heap.size, 4 + 9, none⟩ (.slice ql nl dl)).setCell ⟨w.heap.size, 4 + 10, none⟩ (.slice qn nn dn))) := ((Chg.refl _ w3).set 13 _).set 14 _
      have HR3 := Lib.hid (HR0.out.below HB3.out HR0.out.lt)
      have HR4 := Lib.hid (HR3.out.chg HC4.out (by omega))
      have HL4 := Lib.hid (HO2'.out.stay (fun b hb => HC4.out.2 b (HO2'.out.lt b hb) (by have h1 := HO2'.out.block_ge b hb; have h2 := HLT.out; simp at h1; omega)))
      have HN4 := Lib.hid (HO3.out.stayV (fun b hb => HC4.out.2 b (HO3.out.lt b hb) (by have h1 := HO3.out.block_ge b hb; have h2 := HLT.out; have h3 := HB2.out.size; omega)))
      have HB4 := Lib.hid ((HB0.out.trans (HB3.out.mono HB0.out.size)).trans (HC4.out.below (Nat.le_refl _) (by have h2 := HLT.out; have h3 := HB3.out.size; omega)))
      have HLT4 : Hid (W0.heap.size ≤ w2.heap.size) := HB2.out.size
      generalize hW4 : ((w3.setCell ⟨w.heap.size, 4 + 9, none⟩ (.slice ql nl dl)).setCell ⟨w.heap.size, 4 + 10, none⟩ (.slice qn nn dn)) = W4 at *
      clear hW4 HK3 HC4 HR3 HO2' HO2 HO3 HB3 h8a h9a h9b hc8 hc9 hf8 hf9
      have hk4 := HK4.out
      have d0 : W4.cell? ⟨w.heap.size, 0, none⟩ = some (.int .i64 f) := hk4.cell 0
      have d1 : W4.cell? ⟨w.heap.size, 1, none⟩ = some (.int .i64 t) := hk4.cell 1
      have d2 : W4.cell? ⟨w.heap.size, 2, none⟩ = some (.int .i64 n) := hk4.cell 2
      have d3 : W4.cell? ⟨w.heap.size, 3, none⟩ = some (.int .i64 h) := hk4.cell 3
      have d4 : W4.cell? ⟨w.heap.size, 4, none⟩ = some (.int .i64 m.k) := hk4.cell 4
      have d5 : W4.cell? ⟨w.heap.size, 5, none⟩ = some (.int .i64 m.s) := hk4.cell 5
      have d6 : W4.cell? ⟨w.heap.size, 6, none⟩ = some (.int .i64 m.n) := hk4.cell 6
      have d7 : W4.cell? ⟨w.heap.size, 7, none⟩ = some (.int .i64 m.b) := hk4.cell 7
      have d8 : W4.cell? ⟨w.heap.size, 8, none⟩ = some (.int .i64 m.c) := hk4.cell 8
      have d9 : W4.cell? ⟨w.heap.size, 9, none⟩ = some (.int .i64 m.r) := hk4.cell 9
      have d10 : W4.cell? ⟨w.heap.size, 10, none⟩ = some (.int .i64 m.y) := hk4.cell 10
      have d11 : W4.cell? ⟨w.heap.size, 11, none⟩ = some (.int .i64 m.a) := hk4.cell 11
      have d12 : W4.cell? ⟨w.heap.size, 12, none⟩ = some (.bool m.t) := hk4.cell 12
      have d13 : W4.cell? ⟨w.heap.size, 13, none⟩ = some (.slice ql nl dl) := hk4.cell 13
      have d14 : W4.cell? ⟨w.heap.size, 14, none⟩ = some (.slice qn nn dn) := hk4.cell 14
      clear hk4
      go_wp2_with (with_reducible refine stop_storeT 38 (.tmp 2) (.tmp 15) rfl ?_)
      have HTH : Hid (W4.there (w.heap.size + 1) 0 15) := HR4.out.thereAt
      have HF : Hid (Blk (W4.setCells (w.heap.size + 1) 0 (#[.int .i64 f, .int .i64 t, .int .i64 n, .int .i64 h, .int .i64 m.k, .int .i64 m.s, .int .i64 m.n, .int .i64 m.b, .int .i64 m.c, .int .i64 m.r, .int .i64 m.y, .int .i64 m.a, .bool m.t, .slice ql nl dl, .slice qn nn dn] : Array Value).toList) (w.heap.size + 1) #[.int .i64 f, .int .i64 t, .int .i64 n, .int .i64 h, .int .i64 m.k, .int .i64 m.s, .int .i64 m.n, .int .i64 m.b, .int .i64 m.c, .int .i64 m.r, .int .i64 m.y, .int .i64 m.a, .bool m.t, .slice ql nl dl, .slice qn nn dn] 38 ∧ Chg (w.heap.size + 1) W4 (W4.setCells (w.heap.size + 1) 0 (#[.int .i64 f, .int .i64 t, .int .i64 n, .int .i64 h, .int .i64 m.k, .int .i64 m.s, .int .i64 m.n, .int .i64 m.b, .int .i64 m.c, .int .i64 m.r, .int .i64 m.y, .int .i64 m.a, .bool m.t, .slice ql nl dl, .slice qn nn dn] : Array Value).toList)) := ⟨blk_put_all HR4.out _ rfl, chg_putL _ _ _ _ _ (Chg.refl _ W4)⟩
      refine wpList_store_mid rfl 38 (.tmp 2) (.tmp 15) rfl (w.heap.size + 1) 0 #[.int .i64 f, .int .i64 t, .int .i64 n, .int .i64 h, .int .i64 m.k, .int .i64 m.s, .int .i64 m.n, .int .i64 m.b, .int .i64 m.c, .int .i64 m.r, .int .i64 m.y, .int .i64 m.a, .bool m.t, .slice ql nl dl, .slice qn nn dn] rfl rfl HTH.out (infoK15 rfl) (all_oneCell_toArray (by simpa [PkX.cells, MsgX.cells, Msg.cells, MsgX.vl, MsgX.vn, HNL.out, HNN.out] using one15 ⟨f, t, n, h, ⟨m, ql, dl, qn, dn⟩⟩)) ?_
      generalize World.setCells W4 _ _ _ = W5 at *
      clear HTH HR4 HK4 d0 d1 d2 d3 d4 d5 d6 d7 d8 d9 d10 d11 d12 d13 d14
      go_wp2_with fail
      have hf := HF.out.1
      refine bodyPost_ret (v := .agg #[.int .i64 f, .int .i64 t, .int .i64 n, .int .i64 h, .int .i64 m.k, .int .i64 m.s, .int .i64 m.n, .int .i64 m.b, .int .i64 m.c, .int .i64 m.r, .int .i64 m.y, .int .i64 m.a, .bool m.t, .slice ql nl dl, .slice qn nn dn]) (by simp [results, Try.results15, go_sem, hf.cell 0, hf.cell 1, hf.cell 2, hf.cell 3, hf.cell 4, hf.cell 5, hf.cell 6, hf.cell 7, hf.cell 8, hf.cell 9, hf.cell 10, hf.cell 11, hf.cell 12, hf.cell 13, hf.cell 14]) rfl ?_
      have hL5 := HL4.out.stay (fun b hb => HF.out.2.2 b (HL4.out.lt b hb) (by have h1 := HL4.out.block_ge b hb; have h2 := HLT.out; simp at h1; omega))
      have hN5 := HN4.out.stayV (fun b hb => HF.out.2.2 b (HN4.out.lt b hb) (by have h1 := HN4.out.block_ge b hb; have h2 := HLT.out; have h3 := HLT4.out; omega))
      have hs := HLT.out
      have hs4 := HLT4.out
      have hnl := HNL.out
      have hnn := HNN.out
      refine ⟨⟨f, t, n, h, ⟨m, ql, dl, qn, dn⟩⟩, by dsimp only; rw [hnl, hnn], rfl, ⟨⟨?_, ?_, ?_, ?_, HZ.out⟩, ?_⟩, HB4.out.trans (HF.out.2.below (by omega) HB4.out.size)⟩
      · dsimp only [MsgX.vl]; rw [hnl]; exact hL5.row
      · dsimp only [MsgX.vn]; rw [hnn]; exact hN5.row
      · dsimp only [MsgX.vl]; rw [hnl]; exact (hnl ▸ hL5.at_lt).imp (fun b hb => ⟨by have h1 := hb.1; simp at h1; omega, hb.2⟩)
      · dsimp only [MsgX.vn]; rw [hnn]; exact (hnn ▸ hN5.at_lt).imp (fun b hb => ⟨by have h1 := hb.1; omega, hb.2⟩)
      · dsimp only [MsgX.vl]; rw [hnl]; exact hL5.less (by simp; omega)
    · skip
      go_simp
      refine hK.out _ _ trivial (fun hS => ?_)
      clear hK K
      try simp only [Act.put, List.getElem_toArray, List.getElem_cons_succ, List.getElem_cons_zero, List.setIfInBounds_toArray, List.set_cons_zero, List.set_cons_succ]
      refine wpAnyH_ready (rs := [3]) (by kernel_rfl) (by simp) ?_
      refine AllReadyH.cons rfl (fun K hK => ?_) AllReadyH.nil
      go_simp
      go_at_call 19
      refine (cloneN_any _ _ _ (HL.out.kept HB0.out.drew) (by rw [HNL.out]; have := HZ.out.1; rw [HNL.out] at this; omega)).mono ?_
      rintro y w2 ⟨v2, rfl, ho2, hb2⟩
      have HO2 := Lib.hid ho2
      have HB2 := Lib.hid ((Below.refl W0.heap.size W0).drew.trans hb2)
      have h9b : w2.cell? ⟨w.heap.size, 4 + 10, none⟩ = some (.slice pn nn cn) := (HK0.out.below HB2.out HK0.out.lt).cell 14
      clear ho2 hb2
      try go_wp2_with fail
      refine hK.out _ _ trivial (fun hS => ?_)
      clear hK K
      try simp only [Act.put, List.getElem_toArray, List.getElem_cons_succ, List.getElem_cons_zero, List.setIfInBounds_toArray, List.set_cons_zero, List.set_cons_succ]
      refine wpAnyH_take (i := 8) (v := ?_) rfl (by kernel_rfl) (by kernel_rfl) (by kernel_rfl) (fun _ _ _ h => h) (Or.inl ⟨by kernel_rfl, ?_⟩) (by first | assumption | trivial) ?_
      rotate_left
      · intro w hSw
        try dsimp only at hSw
        first | (go_simp; done) | (go_simp; with_reducible rfl)
      try simp only [Act.put, List.getElem_toArray, List.getElem_cons_succ, List.getElem_cons_zero, List.setIfInBounds_toArray, List.set_cons_zero, List.set_cons_succ]
      refine wpAnyH_take (i := 9) (v := ?_) rfl (by kernel_rfl) (by kernel_rfl) (by kernel_rfl) (fun _ _ _ h => h) (Or.inl ⟨by kernel_rfl, ?_⟩) (by first | assumption | trivial) ?_
      rotate_left
      · intro w hSw
        try dsimp only at hSw
        first | (go_simp; done) | (go_simp; with_reducible rfl)
      try simp only [Act.put, List.getElem_toArray, List.getElem_cons_succ, List.getElem_cons_zero, List.setIfInBounds_toArray, List.set_cons_zero, List.set_cons_succ]
      refine wpAnyH_ready (rs := [7]) (by kernel_rfl) (by simp) ?_
      refine AllReadyH.cons rfl (fun K hK => ?_) AllReadyH.nil
      go_simp
      go_at_call 20
      refine (clone64_any _ _ _ (HN.out.kept (HB0.out.trans (HB2.out.mono HB0.out.size))) (by rw [HNN.out]; have := HZ.out.2; rw [HNN.out] at this; omega)).mono ?_
      rintro y w3 ⟨v3, rfl, ho3, hb3⟩
      have HO3 := Lib.hid ho3
      have HO2' := Lib.hid (HO2.out.later hb3)
      have HB3 := Lib.hid (HB2.out.trans (hb3.mono HB2.out.size))
      obtain ⟨ql, dl, rfl⟩ := HO2'.out.form
      obtain ⟨qn, dn, rfl⟩ := HO3.out.form
      rw [HNL.out] at HO2' ⊢
      rw [HNN.out] at HO3 ⊢
      have HK3 := Lib.hid (HK0.out.below HB3.out HK0.out.lt)
      have hc8 := HK3.out.cell 13
      have hc9 := HK3.out.cell 14
      have hf8 := HK3.out.free 13
      have hf9 := HK3.out.free 14
      clear ho3 hb3
      try go_wp2_with fail
      refine hK.out _ _ trivial (fun hS => ?_)
      clear hK K
      try simp only [Act.put, List.getElem_toArray, List.getElem_cons_succ, List.getElem_cons_zero, List.setIfInBounds_toArray, List.set_cons_zero, List.set_cons_succ]
      refine wpAnyH_ready (rs := [10]) (by kernel_rfl) (by simp) ?_
      refine AllReadyH.cons rfl (fun K hK => ?_) AllReadyH.nil
      go_simp
      refine hK.out _ _ trivial (fun hS => ?_)
      clear hK K
      try simp only [Act.put, List.getElem_toArray, List.getElem_cons_succ, List.getElem_cons_zero, List.setIfInBounds_toArray, List.set_cons_zero, List.set_cons_succ]
      refine wpAnyH_take (i := 11) (v := ?_) rfl (by kernel_rfl) (by kernel_rfl) (by kernel_rfl) (fun _ _ _ h => h) (Or.inl ⟨by kernel_rfl, ?_⟩) (by first | assumption | trivial) ?_
      rotate_left
      · intro w hSw
        try dsimp only at hSw
        first | (go_simp; done) | (go_simp; with_reducible rfl)
      try simp only [Act.put, List.getElem_toArray, List.getElem_cons_succ, List.getElem_cons_zero, List.setIfInBounds_toArray, List.set_cons_zero, List.set_cons_succ]
      refine wpAnyH_take (i := 12) (v := ?_) rfl (by kernel_rfl) (by kernel_rfl) (by kernel_rfl) (fun _ _ _ h => h) (Or.inl ⟨by kernel_rfl, ?_⟩) (by first | assumption | trivial) ?_
      rotate_left
      · intro w hSw
        try dsimp only at hSw
        first | (go_simp; done) | (go_simp; with_reducible rfl)
      try simp only [Act.put, List.getElem_toArray, List.getElem_cons_succ, List.getElem_cons_zero, List.setIfInBounds_toArray, List.set_cons_zero, List.set_cons_succ]
      refine wpAnyH_ready (rs := [13]) (by kernel_rfl) (by simp) ?_
      refine AllReadyH.cons rfl (fun K hK => ?_) AllReadyH.nil
      go_simp
      refine hK.out _ _ trivial (fun hS => ?_)
      clear hK K
      try simp only [Act.put, List.getElem_toArray, List.getElem_cons_succ, List.getElem_cons_zero, List.setIfInBounds_toArray, List.set_cons_zero, List.set_cons_succ]
      refine wpAnyH_done (by kernel_rfl) ?_ _
      have HK4 : Hid (Blk ((w3.setCell ⟨w.heap.size, 4 + 9, none⟩ (.slice ql nl dl)).setCell ⟨w.heap.size, 4 + 10, none⟩ (.slice qn nn dn)) w.heap.size #[.int .i64 f, .int .i64 t, .int .i64 n, .int .i64 h, .int .i64 m.k, .int .i64 m.s, .int .i64 m.n, .int .i64 m.b, .int .i64 m.c, .int .i64 m.r, .int .i64 m.y, .int .i64 m.a, .bool m.t, .slice ql nl dl, .slice qn nn dn] 38) := (HK3.out.set 13 (.slice ql nl dl)).set 14 (.slice qn nn dn)
      have HC4 : Hid (Chg w.heap.size w3 ((w3.setCell ⟨w.heap.size, 4 + 9, none⟩ (.slice ql nl dl)).setCell ⟨w.heap.size, 4 + 10, none⟩ (.slice qn nn dn))) := ((Chg.refl _ w3).set 13 _).set 14 _
      have HR3 := Lib.hid (HR0.out.below HB3.out HR0.out.lt)
      have HR4 := Lib.hid (HR3.out.chg HC4.out (by omega))
      have HL4 := Lib.hid (HO2'.out.stay (fun b hb => HC4.out.2 b (HO2'.out.lt b hb) (by have h1 := HO2'.out.block_ge b hb; have h2 := HLT.out; simp at h1; omega)))
      have HN4 := Lib.hid (HO3.out.stayV (fun b hb => HC4.out.2 b (HO3.out.lt b hb) (by have h1 := HO3.out.block_ge b hb; have h2 := HLT.out; have h3 := HB2.out.size; omega)))
      have HB4 := Lib.hid ((HB0.out.trans (HB3.out.mono HB0.out.size)).trans (HC4.out.below (Nat.le_refl _) (by have h2 := HLT.out; have h3 := HB3.out.size; omega)))
      have HLT4 : Hid (W0.heap.size ≤ w2.heap.size) := HB2.out.size
      generalize hW4 : ((w3.setCell ⟨w.heap.size, 4 + 9, none⟩ (.slice ql nl dl)).setCell ⟨w.heap.size, 4 + 10, none⟩ (.slice qn nn dn)) = W4 at *
      clear hW4 HK3 HC4 HR3 HO2' HO2 HO3 HB3 h8a h9a h9b hc8 hc9 hf8 hf9
      have hk4 := HK4.out
      have d0 : W4.cell? ⟨w.heap.size, 0, none⟩ = some (.int .i64 f) := hk4.cell 0
      have d1 : W4.cell? ⟨w.heap.size, 1, none⟩ = some (.int .i64 t) := hk4.cell 1
      have d2 : W4.cell? ⟨w.heap.size, 2, none⟩ = some (.int .i64 n) := hk4.cell 2
      have d3 : W4.cell? ⟨w.heap.size, 3, none⟩ = some (.int .i64 h) := hk4.cell 3
      have d4 : W4.cell? ⟨w.heap.size, 4, none⟩ = some (.int .i64 m.k) := hk4.cell 4
      have d5 : W4.cell? ⟨w.heap.size, 5, none⟩ = some (.int .i64 m.s) := hk4.cell 5
      have d6 : W4.cell? ⟨w.heap.size, 6, none⟩ = some (.int .i64 m.n) := hk4.cell 6
      have d7 : W4.cell? ⟨w.heap.size, 7, none⟩ = some (.int .i64 m.b) := hk4.cell 7
      have d8 : W4.cell? ⟨w.heap.size, 8, none⟩ = some (.int .i64 m.c) := hk4.cell 8
      have d9 : W4.cell? ⟨w.heap.size, 9, none⟩ = some (.int .i64 m.r) := hk4.cell 9
      have d10 : W4.cell? ⟨w.heap.size, 10, none⟩ = some (.int .i64 m.y) := hk4.cell 10
      have d11 : W4.cell? ⟨w.heap.size, 11, none⟩ = some (.int .i64 m.a) := hk4.cell 11
      have d12 : W4.cell? ⟨w.heap.size, 12, none⟩ = some (.bool m.t) := hk4.cell 12
      have d13 : W4.cell? ⟨w.heap.size, 13, none⟩ = some (.slice ql nl dl) := hk4.cell 13
      have d14 : W4.cell? ⟨w.heap.size, 14, none⟩ = some (.slice qn nn dn) := hk4.cell 14
      clear hk4
      go_wp2_with (with_reducible refine stop_storeT 38 (.tmp 2) (.tmp 15) rfl ?_)
      have HTH : Hid (W4.there (w.heap.size + 1) 0 15) := HR4.out.thereAt
      have HF : Hid (Blk (W4.setCells (w.heap.size + 1) 0 (#[.int .i64 f, .int .i64 t, .int .i64 n, .int .i64 h, .int .i64 m.k, .int .i64 m.s, .int .i64 m.n, .int .i64 m.b, .int .i64 m.c, .int .i64 m.r, .int .i64 m.y, .int .i64 m.a, .bool m.t, .slice ql nl dl, .slice qn nn dn] : Array Value).toList) (w.heap.size + 1) #[.int .i64 f, .int .i64 t, .int .i64 n, .int .i64 h, .int .i64 m.k, .int .i64 m.s, .int .i64 m.n, .int .i64 m.b, .int .i64 m.c, .int .i64 m.r, .int .i64 m.y, .int .i64 m.a, .bool m.t, .slice ql nl dl, .slice qn nn dn] 38 ∧ Chg (w.heap.size + 1) W4 (W4.setCells (w.heap.size + 1) 0 (#[.int .i64 f, .int .i64 t, .int .i64 n, .int .i64 h, .int .i64 m.k, .int .i64 m.s, .int .i64 m.n, .int .i64 m.b, .int .i64 m.c, .int .i64 m.r, .int .i64 m.y, .int .i64 m.a, .bool m.t, .slice ql nl dl, .slice qn nn dn] : Array Value).toList)) := ⟨blk_put_all HR4.out _ rfl, chg_putL _ _ _ _ _ (Chg.refl _ W4)⟩
      refine wpList_store_mid rfl 38 (.tmp 2) (.tmp 15) rfl (w.heap.size + 1) 0 #[.int .i64 f, .int .i64 t, .int .i64 n, .int .i64 h, .int .i64 m.k, .int .i64 m.s, .int .i64 m.n, .int .i64 m.b, .int .i64 m.c, .int .i64 m.r, .int .i64 m.y, .int .i64 m.a, .bool m.t, .slice ql nl dl, .slice qn nn dn] rfl rfl HTH.out (infoK15 rfl) (all_oneCell_toArray (by simpa [PkX.cells, MsgX.cells, Msg.cells, MsgX.vl, MsgX.vn, HNL.out, HNN.out] using one15 ⟨f, t, n, h, ⟨m, ql, dl, qn, dn⟩⟩)) ?_
      generalize World.setCells W4 _ _ _ = W5 at *
      clear HTH HR4 HK4 d0 d1 d2 d3 d4 d5 d6 d7 d8 d9 d10 d11 d12 d13 d14
      go_wp2_with fail
      have hf := HF.out.1
      refine bodyPost_ret (v := .agg #[.int .i64 f, .int .i64 t, .int .i64 n, .int .i64 h, .int .i64 m.k, .int .i64 m.s, .int .i64 m.n, .int .i64 m.b, .int .i64 m.c, .int .i64 m.r, .int .i64 m.y, .int .i64 m.a, .bool m.t, .slice ql nl dl, .slice qn nn dn]) (by simp [results, Try.results15, go_sem, hf.cell 0, hf.cell 1, hf.cell 2, hf.cell 3, hf.cell 4, hf.cell 5, hf.cell 6, hf.cell 7, hf.cell 8, hf.cell 9, hf.cell 10, hf.cell 11, hf.cell 12, hf.cell 13, hf.cell 14]) rfl ?_
      have hL5 := HL4.out.stay (fun b hb => HF.out.2.2 b (HL4.out.lt b hb) (by have h1 := HL4.out.block_ge b hb; have h2 := HLT.out; simp at h1; omega))
      have hN5 := HN4.out.stayV (fun b hb => HF.out.2.2 b (HN4.out.lt b hb) (by have h1 := HN4.out.block_ge b hb; have h2 := HLT.out; have h3 := HLT4.out; omega))
      have hs := HLT.out
      have hs4 := HLT4.out
      have hnl := HNL.out
      have hnn := HNN.out
      refine ⟨⟨f, t, n, h, ⟨m, ql, dl, qn, dn⟩⟩, by dsimp only; rw [hnl, hnn], rfl, ⟨⟨?_, ?_, ?_, ?_, HZ.out⟩, ?_⟩, HB4.out.trans (HF.out.2.below (by omega) HB4.out.size)⟩
      · dsimp only [MsgX.vl]; rw [hnl]; exact hL5.row
      · dsimp only [MsgX.vn]; rw [hnn]; exact hN5.row
      · dsimp only [MsgX.vl]; rw [hnl]; exact (hnl ▸ hL5.at_lt).imp (fun b hb => ⟨by have h1 := hb.1; simp at h1; omega, hb.2⟩)
      · dsimp only [MsgX.vn]; rw [hnn]; exact (hnn ▸ hN5.at_lt).imp (fun b hb => ⟨by have h1 := hb.1; omega, hb.2⟩)
      · dsimp only [MsgX.vl]; rw [hnl]; exact hL5.less (by simp; omega)
  · skip
    go_simp
    refine hK.out _ _ trivial (fun hS => ?_)
    clear hK K
    try simp only [Act.put, List.getElem_toArray, List.getElem_cons_succ, List.getElem_cons_zero, List.setIfInBounds_toArray, List.set_cons_zero, List.set_cons_succ]
    refine wpAnyH_ready (rs := [2]) (by kernel_rfl) (by simp) ?_
    refine AllReadyH.cons rfl (fun K hK => ?_) AllReadyH.nil
    go_simp
    refine hK.out _ _ trivial (fun hS => ?_)
    clear hK K
    try simp only [Act.put, List.getElem_toArray, List.getElem_cons_succ, List.getElem_cons_zero, List.setIfInBounds_toArray, List.set_cons_zero, List.set_cons_succ]
    refine wpAnyH_ready (rs := [3]) (by kernel_rfl) (by simp) ?_
    refine AllReadyH.cons rfl (fun K hK => ?_) AllReadyH.nil
    go_simp
    go_at_call 19
    refine (cloneN_any _ _ _ (HL.out.kept HB0.out.drew) (by rw [HNL.out]; have := HZ.out.1; rw [HNL.out] at this; omega)).mono ?_
    rintro y w2 ⟨v2, rfl, ho2, hb2⟩
    have HO2 := Lib.hid ho2
    have HB2 := Lib.hid ((Below.refl W0.heap.size W0).drew.trans hb2)
    have h9b : w2.cell? ⟨w.heap.size, 4 + 10, none⟩ = some (.slice pn nn cn) := (HK0.out.below HB2.out HK0.out.lt).cell 14
    clear ho2 hb2
    try go_wp2_with fail
    refine hK.out _ _ trivial (fun hS => ?_)
    clear hK K
    try simp only [Act.put, List.getElem_toArray, List.getElem_cons_succ, List.getElem_cons_zero, List.setIfInBounds_toArray, List.set_cons_zero, List.set_cons_succ]
    refine wpAnyH_take (i := 8) (v := ?_) rfl (by kernel_rfl) (by kernel_rfl) (by kernel_rfl) (fun _ _ _ h => h) (Or.inl ⟨by kernel_rfl, ?_⟩) (by first | assumption | trivial) ?_
    rotate_left
    · intro w hSw
      try dsimp only at hSw
      first | (go_simp; done) | (go_simp; with_reducible rfl)
    try simp only [Act.put, List.getElem_toArray, List.getElem_cons_succ, List.getElem_cons_zero, List.setIfInBounds_toArray, List.set_cons_zero, List.set_cons_succ]
    refine wpAnyH_take (i := 9) (v := ?_) rfl (by kernel_rfl) (by kernel_rfl) (by kernel_rfl) (fun _ _ _ h => h) (Or.inl ⟨by kernel_rfl, ?_⟩) (by first | assumption | trivial) ?_
    rotate_left
    · intro w hSw
      try dsimp only at hSw
      first | (go_simp; done) | (go_simp; with_reducible rfl)
    try simp only [Act.put, List.getElem_toArray, List.getElem_cons_succ, List.getElem_cons_zero, List.setIfInBounds_toArray, List.set_cons_zero, List.set_cons_succ]
    refine wpAnyH_ready (rs := [7]) (by kernel_rfl) (by simp) ?_
    refine AllReadyH.cons rfl (fun K hK => ?_) AllReadyH.nil
    go_simp
    go_at_call 20
    refine (clone64_any _ _ _ (HN.out.kept (HB0.out.trans (HB2.out.mono HB0.out.size))) (by rw [HNN.out]; have := HZ.out.2; rw [HNN.out] at this; omega)).mono ?_
    rintro y w3 ⟨v3, rfl, ho3, hb3⟩
    have HO3 := Lib.hid ho3
    have HO2' := Lib.hid (HO2.out.later hb3)
    have HB3 := Lib.hid (HB2.out.trans (hb3.mono HB2.out.size))
    obtain ⟨ql, dl, rfl⟩ := HO2'.out.form
    obtain ⟨qn, dn, rfl⟩ := HO3.out.form
    rw [HNL.out] at HO2' ⊢
    rw [HNN.out] at HO3 ⊢
    have HK3 := Lib.hid (HK0.out.below HB3.out HK0.out.lt)
    have hc8 := HK3.out.cell 13
    have hc9 := HK3.out.cell 14
    have hf8 := HK3.out.free 13
    have hf9 := HK3.out.free 14
    clear ho3 hb3
    try go_wp2_with fail
    refine hK.out _ _ trivial (fun hS => ?_)
    clear hK K
    try simp only [Act.put, List.getElem_toArray, List.getElem_cons_succ, List.getElem_cons_zero, List.setIfInBounds_toArray, List.set_cons_zero, List.set_cons_succ]
    refine wpAnyH_ready (rs := [10]) (by kernel_rfl) (by simp) ?_
    refine AllReadyH.cons rfl (fun K hK => ?_) AllReadyH.nil
    go_simp
    refine hK.out _ _ trivial (fun hS => ?_)
    clear hK K
    try simp only [Act.put, List.getElem_toArray, List.getElem_cons_succ, List.getElem_cons_zero, List.setIfInBounds_toArray, List.set_cons_zero, List.set_cons_succ]
    refine wpAnyH_take (i := 11) (v := ?_) rfl (by kernel_rfl) (by kernel_rfl) (by kernel_rfl) (fun _ _ _ h => h) (Or.inl ⟨by kernel_rfl, ?_⟩) (by first | assumption | trivial) ?_
    rotate_left
    · intro w hSw
      try dsimp only at hSw
      first | (go_simp; done) | (go_simp; with_reducible rfl)
    try simp only [Act.put, List.getElem_toArray, List.getElem_cons_succ, List.getElem_cons_zero, List.setIfInBounds_toArray, List.set_cons_zero, List.set_cons_succ]
    refine wpAnyH_take (i := 12) (v := ?_) rfl (by kernel_rfl) (by kernel_rfl) (by kernel_rfl) (fun _ _ _ h => h) (Or.inl ⟨by kernel_rfl, ?_⟩) (by first | assumption | trivial) ?_
    rotate_left
    · intro w hSw
      try dsimp only at hSw
      first | (go_simp; done) | (go_simp; with_reducible rfl)
    try simp only [Act.put, List.getElem_toArray, List.getElem_cons_succ, List.getElem_cons_zero, List.setIfInBounds_toArray, List.set_cons_zero, List.set_cons_succ]
    refine wpAnyH_ready (rs := [13]) (by kernel_rfl) (by simp) ?_
    refine AllReadyH.cons rfl (fun K hK => ?_) AllReadyH.nil
    go_simp
    refine hK.out _ _ trivial (fun hS => ?_)
    clear hK K
    try simp only [Act.put, List.getElem_toArray, List.getElem_cons_succ, List.getElem_cons_zero, List.setIfInBounds_toArray, List.set_cons_zero, List.set_cons_succ]
    refine wpAnyH_done (by kernel_rfl) ?_ _
    have HK4 : Hid (Blk ((w3.setCell ⟨w.heap.size, 4 + 9, none⟩ (.slice ql nl dl)).setCell ⟨w.heap.size, 4 + 10, none⟩ (.slice qn nn dn)) w.heap.size #[.int .i64 f, .int .i64 t, .int .i64 n, .int .i64 h, .int .i64 m.k, .int .i64 m.s, .int .i64 m.n, .int .i64 m.b, .int .i64 m.c, .int .i64 m.r, .int .i64 m.y, .int .i64 m.a, .bool m.t, .slice ql nl dl, .slice qn nn dn] 38) := (HK3.out.set 13 (.slice ql nl dl)).set 14 (.slice qn nn dn)
    have HC4 : Hid (Chg w.heap.size w3 ((w3.setCell ⟨w.heap.size, 4 + 9, none⟩ (.slice ql nl dl)).setCell ⟨w.heap.size, 4 + 10, none⟩ (.slice qn nn dn))) := ((Chg.refl _ w3).set 13 _).set 14 _
    have HR3 := Lib.hid (HR0.out.below HB3.out HR0.out.lt)
    have HR4 := Lib.hid (HR3.out.chg HC4.out (by omega))
    have HL4 := Lib.hid (HO2'.out.stay (fun b hb => HC4.out.2 b (HO2'.out.lt b hb) (by have h1 := HO2'.out.block_ge b hb; have h2 := HLT.out; simp at h1; omega)))
    have HN4 := Lib.hid (HO3.out.stayV (fun b hb => HC4.out.2 b (HO3.out.lt b hb) (by have h1 := HO3.out.block_ge b hb; have h2 := HLT.out; have h3 := HB2.out.size; omega)))
    have HB4 := Lib.hid ((HB0.out.trans (HB3.out.mono HB0.out.size)).trans (HC4.out.below (Nat.le_refl _) (by have h2 := HLT.out; have h3 := HB3.out.size; omega)))
    have HLT4 : Hid (W0.heap.size ≤ w2.heap.size) := HB2.out.size
    generalize hW4 : ((w3.setCell ⟨w.heap.size, 4 + 9, none⟩ (.slice ql nl dl)).setCell ⟨w.heap.size, 4 + 10, none⟩ (.slice qn nn dn)) = W4 at *
    clear hW4 HK3 HC4 HR3 HO2' HO2 HO3 HB3 h8a h9a h9b hc8 hc9 hf8 hf9
    have hk4 := HK4.out
    have d0 : W4.cell? ⟨w.heap.size, 0, none⟩ = some (.int .i64 f) := hk4.cell 0
    have d1 : W4.cell? ⟨w.heap.size, 1, none⟩ = some (.int .i64 t) := hk4.cell 1
    have d2 : W4.cell? ⟨w.heap.size, 2, none⟩ = some (.int .i64 n) := hk4.cell 2
    have d3 : W4.cell? ⟨w.heap.size, 3, none⟩ = some (.int .i64 h) := hk4.cell 3
    have d4 : W4.cell? ⟨w.heap.size, 4, none⟩ = some (.int .i64 m.k) := hk4.cell 4
    have d5 : W4.cell? ⟨w.heap.size, 5, none⟩ = some (.int .i64 m.s) := hk4.cell 5
    have d6 : W4.cell? ⟨w.heap.size, 6, none⟩ = some (.int .i64 m.n) := hk4.cell 6
    have d7 : W4.cell? ⟨w.heap.size, 7, none⟩ = some (.int .i64 m.b) := hk4.cell 7
    have d8 : W4.cell? ⟨w.heap.size, 8, none⟩ = some (.int .i64 m.c) := hk4.cell 8
    have d9 : W4.cell? ⟨w.heap.size, 9, none⟩ = some (.int .i64 m.r) := hk4.cell 9
    have d10 : W4.cell? ⟨w.heap.size, 10, none⟩ = some (.int .i64 m.y) := hk4.cell 10
    have d11 : W4.cell? ⟨w.heap.size, 11, none⟩ = some (.int .i64 m.a) := hk4.cell 11
    have d12 : W4.cell? ⟨w.heap.size, 12, none⟩ = some (.bool m.t) := hk4.cell 12
    have d13 : W4.cell? ⟨w.heap.size, 13, none⟩ = some (.slice ql nl dl) := hk4.cell 13
    have d14 : W4.cell? ⟨w.heap.size, 14, none⟩ = some (.slice qn nn dn) := hk4.cell 14
    clear hk4
    go_wp2_with (with_reducible refine stop_storeT 38 (.tmp 2) (.tmp 15) rfl ?_)
    have HTH : Hid (W4.there (w.heap.size + 1) 0 15) := HR4.out.thereAt
    have HF : Hid (Blk (W4.setCells (w.heap.size + 1) 0 (#[.int .i64 f, .int .i64 t, .int .i64 n, .int .i64 h, .int .i64 m.k, .int .i64 m.s, .int .i64 m.n, .int .i64 m.b, .int .i64 m.c, .int .i64 m.r, .int .i64 m.y, .int .i64 m.a, .bool m.t, .slice ql nl dl, .slice qn nn dn] : Array Value).toList) (w.heap.size + 1) #[.int .i64 f, .int .i64 t, .int .i64 n, .int .i64 h, .int .i64 m.k, .int .i64 m.s, .int .i64 m.n, .int .i64 m.b, .int .i64 m.c, .int .i64 m.r, .int .i64 m.y, .int .i64 m.a, .bool m.t, .slice ql nl dl, .slice qn nn dn] 38 ∧ Chg (w.heap.size + 1) W4 (W4.setCells (w.heap.size + 1) 0 (#[.int .i64 f, .int .i64 t, .int .i64 n, .int .i64 h, .int .i64 m.k, .int .i64 m.s, .int .i64 m.n, .int .i64 m.b, .int .i64 m.c, .int .i64 m.r, .int .i64 m.y, .int .i64 m.a, .bool m.t, .slice ql nl dl, .slice qn nn dn] : Array Value).toList)) := ⟨blk_put_all HR4.out _ rfl, chg_putL _ _ _ _ _ (Chg.refl _ W4)⟩
    refine wpList_store_mid rfl 38 (.tmp 2) (.tmp 15) rfl (w.heap.size + 1) 0 #[.int .i64 f, .int .i64 t, .int .i64 n, .int .i64 h, .int .i64 m.k, .int .i64 m.s, .int .i64 m.n, .int .i64 m.b, .int .i64 m.c, .int .i64 m.r, .int .i64 m.y, .int .i64 m.a, .bool m.t, .slice ql nl dl, .slice qn nn dn] rfl rfl HTH.out (infoK15 rfl) (all_oneCell_toArray (by simpa [PkX.cells, MsgX.cells, Msg.cells, MsgX.vl, MsgX.vn, HNL.out, HNN.out] using one15 ⟨f, t, n, h, ⟨m, ql, dl, qn, dn⟩⟩)) ?_
    generalize World.setCells W4 _ _ _ = W5 at *
    clear HTH HR4 HK4 d0 d1 d2 d3 d4 d5 d6 d7 d8 d9 d10 d11 d12 d13 d14
    go_wp2_with fail
    have hf := HF.out.1
    refine bodyPost_ret (v := .agg #[.int .i64 f, .int .i64 t, .int .i64 n, .int .i64 h, .int .i64 m.k, .int .i64 m.s, .int .i64 m.n, .int .i64 m.b, .int .i64 m.c, .int .i64 m.r, .int .i64 m.y, .int .i64 m.a, .bool m.t, .slice ql nl dl, .slice qn nn dn]) (by simp [results, Try.results15, go_sem, hf.cell 0, hf.cell 1, hf.cell 2, hf.cell 3, hf.cell 4, hf.cell 5, hf.cell 6, hf.cell 7, hf.cell 8, hf.cell 9, hf.cell 10, hf.cell 11, hf.cell 12, hf.cell 13, hf.cell 14]) rfl ?_
    have hL5 := HL4.out.stay (fun b hb => HF.out.2.2 b (HL4.out.lt b hb) (by have h1 := HL4.out.block_ge b hb; have h2 := HLT.out; simp at h1; omega))
    have hN5 := HN4.out.stayV (fun b hb => HF.out.2.2 b (HN4.out.lt b hb) (by have h1 := HN4.out.block_ge b hb; have h2 := HLT.out; have h3 := HLT4.out; omega))
    have hs := HLT.out
    have hs4 := HLT4.out
    have hnl := HNL.out
    have hnn := HNN.out
    refine ⟨⟨f, t, n, h, ⟨m, ql, dl, qn, dn⟩⟩, by dsimp only; rw [hnl, hnn], rfl, ⟨⟨?_, ?_, ?_, ?_, HZ.out⟩, ?_⟩, HB4.out.trans (HF.out.2.below (by omega) HB4.out.size)⟩
    · dsimp only [MsgX.vl]; rw [hnl]; exact hL5.row
    · dsimp only [MsgX.vn]; rw [hnn]; exact hN5.row
    · dsimp only [MsgX.vl]; rw [hnl]; exact (hnl ▸ hL5.at_lt).imp (fun b hb => ⟨by have h1 := hb.1; simp at h1; omega, hb.2⟩)
    · dsimp only [MsgX.vn]; rw [hnn]; exact (hnn ▸ hN5.at_lt).imp (fun b hb => ⟨by have h1 := hb.1; omega, hb.2⟩)
    · dsimp only [MsgX.vl]; rw [hnl]; exact hL5.less (by simp; omega)
theorem nown_any (y : PkX) (P : Nat → Prop) (w : World) (hy : y.x.InP P w) :
    Calls Try.prog 15 #[y.v] w fun e w' => ∃ z : PkX, e = .returned z.v ∧ z.pk = y.pk ∧ z.x.InP (fun b => w.heap.size ≤ b ∧ b < w'.heap.size) w' ∧ Below w.heap.size w w' := by
  refine (nown_own y P w hy).mono ?_
  rintro e w' ⟨z, rfl, h1, ⟨h2, _⟩, h3⟩
  exact ⟨z, rfl, h1, h2, h3⟩
end Go.Proofs.Ytfdehnfcoojljaa
