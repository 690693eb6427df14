/- link.Say by contract. -/
import Derived.Test.YtpjekejkhncjpaaLinkFns3
import Derived.Test.YtpjekejkhncjpaaCatM
namespace Go.Proofs.Ytpjekejkhncjpaa
open Go.RowKit
set_option linter.unusedSimpArgs false
set_option maxHeartbeats 8000000 in
set_option maxRecDepth 100000 in
theorem say_no (P : Nat → Prop) (me i : Int) (p : Option Addr) (n c : Nat) (qs : List Pe) (m : Msg) (vl vn : Value) (w : World) (hn : n = qs.length) (hr : PeRow P w (.slice p n c) qs) (hl : TRow encN w vl m.ls) (hm : Row .i64 w vn m.ns) (hz : m.Sz) (hok : okP me qs.length i = false) :
    Calls Try.prog 7 #[.agg #[.int .i64 me, .slice p n c], .int .i64 i, m.v vl vn] w fun e w' => e = .returned (.tuple #[.agg #[.int .i64 0, .slice none 0 0], .int .i64 1]) ∧ Below w.heap.size w w' := by
  obtain ⟨pl, cl, rfl⟩ := hl.shape
  obtain ⟨pn, cn, rfl⟩ := hm.shape
  have HL := Lib.hid hl
  have HM := Lib.hid hm
  have HZ := Lib.hid hz
  clear hl hm hz
  generalize hnl : m.ls.length = nl at *
  have HNL := Lib.hid hnl
  generalize hnn : m.ns.length = nn at *
  have HNN := Lib.hid hnn
  clear hnl hnn
  unfold Msg.v
  have HK0 := Lib.hid (((Blk.new w #[.int .i64 me, .slice p n c] 27).alloc (.cells #[.int .i64 m.k, .int .i64 m.s, .int .i64 m.n, .int .i64 m.b, .int .i64 m.c, .int .i64 m.r, .int .i64 m.y, .int .i64 m.a, .bool m.t, .slice pl nl cl, .slice pn nn cn] 36)).alloc (.cells #[.int .i64 0, .slice none 0 0] 27))
  have HM0 := Lib.hid ((Blk.new' (w.alloc (.cells #[.int .i64 me, .slice p n c] 27)) #[.int .i64 m.k, .int .i64 m.s, .int .i64 m.n, .int .i64 m.b, .int .i64 m.c, .int .i64 m.r, .int .i64 m.y, .int .i64 m.a, .bool m.t, .slice pl nl cl, .slice pn nn cn] 36 (b := w.heap.size + 1) (by simp)).alloc (.cells #[.int .i64 0, .slice none 0 0] 27))
  have HR0 := Lib.hid (Blk.new' ((w.alloc (.cells #[.int .i64 me, .slice p n c] 27)).alloc (.cells #[.int .i64 m.k, .int .i64 m.s, .int .i64 m.n, .int .i64 m.b, .int .i64 m.c, .int .i64 m.r, .int .i64 m.y, .int .i64 m.a, .bool m.t, .slice pl nl cl, .slice pn nn cn] 36)) #[.int .i64 0, .slice none 0 0] 27 (b := w.heap.size + 1 + 1) (by simp))
  have HB0 := Lib.hid (((oneB w (.cells #[.int .i64 me, .slice p n c] 27)).alloc (by simp) (.cells #[.int .i64 m.k, .int .i64 m.s, .int .i64 m.n, .int .i64 m.b, .int .i64 m.c, .int .i64 m.r, .int .i64 m.y, .int .i64 m.a, .bool m.t, .slice pl nl cl, .slice pn nn cn] 36)).alloc (by simp; omega) (.cells #[.int .i64 0, .slice none 0 0] 27))
  have HOT := Lib.hid (other_any P me i p n c qs _ hn (hr.kept HB0.out))
  rw [hok] at HOT
  clear hn hr hok
  go_enter Try.func7, Try.ntmps7
  go_wp2_with fail
  generalize ((w.alloc (.cells #[.int .i64 me, .slice p n c] 27)).alloc (.cells #[.int .i64 m.k, .int .i64 m.s, .int .i64 m.n, .int .i64 m.b, .int .i64 m.c, .int .i64 m.r, .int .i64 m.y, .int .i64 m.a, .bool m.t, .slice pl nl cl, .slice pn nn cn] 36)).alloc (.cells #[.int .i64 0, .slice none 0 0] 27) = W0 at *
  refine HOT.out.mono ?_
  rintro y w1 ⟨x, rfl, _, hb⟩
  have HB := Lib.hid (HB0.out.trans (hb.mono HB0.out.size))
  have hr1 := (HR0.out.below hb HR0.out.lt).alloc (.cells #[.slice x.p x.n x.c, .int .i64 x.h] 46)
  have HR1 := Lib.hid hr1
  have r0 : (w1.alloc (.cells #[.slice x.p x.n x.c, .int .i64 x.h] 46)).cell? ⟨w.heap.size + 1 + 1, 0, none⟩ = some (.int .i64 0) := hr1.cell 0
  have r1 : (w1.alloc (.cells #[.slice x.p x.n x.c, .int .i64 x.h] 46)).cell? ⟨w.heap.size + 1 + 1, 1, none⟩ = some (.slice none 0 0) := hr1.cell 1
  have rf0 := hr1.free 0
  have rf1 := hr1.free 1
  clear hb hr1 HOT
  go_wp2_with fail
  have hf := (HR1.out.set 0 (.int .i64 0)).set 1 (.slice none 0 0)
  have hc := ((Chg.refl (w.heap.size + 1 + 1) (w1.alloc (.cells #[.slice x.p x.n x.c, .int .i64 x.h] 46))).set 0 (.int .i64 0)).set 1 (.slice none 0 0)
  have hB1 := HB.out.alloc HB.out.size (.cells #[.slice x.p x.n x.c, .int .i64 x.h] 46)
  refine bodyPost_ret (v := .tuple #[.agg #[.int .i64 0, .slice none 0 0], .int .i64 1]) (by simp [results, Try.results7, go_sem, hf.cell 0, hf.cell 1]) rfl ⟨rfl, hB1.trans (hc.below (by omega) hB1.size)⟩
set_option maxHeartbeats 8000000 in
set_option maxRecDepth 100000 in
theorem say_ok (P : Nat → Prop) (me : Int) (j : Nat) (p : Option Addr) (n c : Nat) (qs : List Pe) (m : Msg) (vl vn : Value) (w : World) (hn : n = qs.length) (hr : PeRow P w (.slice p n c) qs) (hl : TRow encN w vl m.ls) (hm : Row .i64 w vn m.ns) (hz : m.Sz) (hok : okP me qs.length j = true) (hj : j < qs.length) (hb : qs.length ≤ 1000) (hs : qs[j].1.length ≤ 1000) (hP : ∀ b, w.heap.size ≤ b → P b) :
    Calls Try.prog 7 #[.agg #[.int .i64 me, .slice p n c], .int .i64 (j : Nat), m.v vl vn] w fun e w' => ∃ v, e = .returned (.tuple #[v, .int .i64 0]) ∧ Lnk P w' v me (qs.set j (qs[j].1 ++ [m], qs[j].2)) ∧ Below w.heap.size w w' := by
  obtain ⟨pl, cl, rfl⟩ := hl.shape
  obtain ⟨pn, cn, rfl⟩ := hm.shape
  have HL := Lib.hid hl
  have HM := Lib.hid hm
  have HZ := Lib.hid hz
  clear hl hm hz
  generalize hnl : m.ls.length = nl at *
  have HNL := Lib.hid hnl
  generalize hnn : m.ns.length = nn at *
  have HNN := Lib.hid hnn
  clear hnl hnn
  unfold Msg.v
  have HK0 := Lib.hid (((Blk.new w #[.int .i64 me, .slice p n c] 27).alloc (.cells #[.int .i64 m.k, .int .i64 m.s, .int .i64 m.n, .int .i64 m.b, .int .i64 m.c, .int .i64 m.r, .int .i64 m.y, .int .i64 m.a, .bool m.t, .slice pl nl cl, .slice pn nn cn] 36)).alloc (.cells #[.int .i64 0, .slice none 0 0] 27))
  have HM0 := Lib.hid ((Blk.new' (w.alloc (.cells #[.int .i64 me, .slice p n c] 27)) #[.int .i64 m.k, .int .i64 m.s, .int .i64 m.n, .int .i64 m.b, .int .i64 m.c, .int .i64 m.r, .int .i64 m.y, .int .i64 m.a, .bool m.t, .slice pl nl cl, .slice pn nn cn] 36 (b := w.heap.size + 1) (by simp)).alloc (.cells #[.int .i64 0, .slice none 0 0] 27))
  have HR0 := Lib.hid (Blk.new' ((w.alloc (.cells #[.int .i64 me, .slice p n c] 27)).alloc (.cells #[.int .i64 m.k, .int .i64 m.s, .int .i64 m.n, .int .i64 m.b, .int .i64 m.c, .int .i64 m.r, .int .i64 m.y, .int .i64 m.a, .bool m.t, .slice pl nl cl, .slice pn nn cn] 36)) #[.int .i64 0, .slice none 0 0] 27 (b := w.heap.size + 1 + 1) (by simp))
  have HB0 := Lib.hid (((oneB w (.cells #[.int .i64 me, .slice p n c] 27)).alloc (by simp) (.cells #[.int .i64 m.k, .int .i64 m.s, .int .i64 m.n, .int .i64 m.b, .int .i64 m.c, .int .i64 m.r, .int .i64 m.y, .int .i64 m.a, .bool m.t, .slice pl nl cl, .slice pn nn cn] 36)).alloc (by simp; omega) (.cells #[.int .i64 0, .slice none 0 0] 27))
  have hP2 : peAt me qs j = qs[j] := by unfold peAt; rw [if_pos hok]; simp [hj]
  have HOT := Lib.hid (fun w' (h : Below w.heap.size w w') => other_any (fun b => P b ∧ b ≠ w.heap.size + 1 + 1) me j p n c qs w' hn ((hr.mono (fun b hb hp => ⟨hp, by omega⟩)).kept h))
  rw [hok, hP2] at HOT
  generalize hq : qs[j] = q at *
  have HPR := Lib.hid (fun (Q : Nat → Prop) (h : ∀ b, b < w.heap.size → P b → Q b) => hr.mono h)
  have HN := Lib.hid hn
  have HJ := Lib.hid hj
  have HB9 := Lib.hid hb
  have HS := Lib.hid hs
  have HPP := Lib.hid hP
  clear hn hr hok hj hb hP2 hq hs hP
  go_enter Try.func7, Try.ntmps7
  go_wp2_with fail
  generalize ((w.alloc (.cells #[.int .i64 me, .slice p n c] 27)).alloc (.cells #[.int .i64 m.k, .int .i64 m.s, .int .i64 m.n, .int .i64 m.b, .int .i64 m.c, .int .i64 m.r, .int .i64 m.y, .int .i64 m.a, .bool m.t, .slice pl nl cl, .slice pn nn cn] 36)).alloc (.cells #[.int .i64 0, .slice none 0 0] 27) = W0 at *
  have HLT0 := Lib.hid HR0.out.lt
  refine (HOT.out W0 HB0.out).mono ?_
  rintro y w1 ⟨x, rfl, hx, hb⟩
  have HX := Lib.hid hx
  have HXN := Lib.hid hx.2.1
  have HB1 := Lib.hid (HB0.out.trans (hb.mono HB0.out.size))
  have HK1 := Lib.hid ((HK0.out.below hb HK0.out.lt).alloc (.cells #[.slice x.p x.n x.c, .int .i64 x.h] 46))
  have HM1 := Lib.hid ((HM0.out.below hb HM0.out.lt).alloc (.cells #[.slice x.p x.n x.c, .int .i64 x.h] 46))
  have HR1 := Lib.hid ((HR0.out.below hb HR0.out.lt).alloc (.cells #[.slice x.p x.n x.c, .int .i64 x.h] 46))
  have HP1 := Lib.hid (Blk.new w1 #[.slice x.p x.n x.c, .int .i64 x.h] 46)
  have HB2 := Lib.hid (HB1.out.alloc HB1.out.size (.cells #[.slice x.p x.n x.c, .int .i64 x.h] 46))
  have HX2 := Lib.hid ((hx.mono (Q := fun b => P b ∧ (b ≠ w.heap.size + 1 + 1 ∧ b ≠ w1.heap.size)) (fun b hb hp => ⟨hp.1, hp.2, by omega⟩)).kept (oneB w1 (.cells #[.slice x.p x.n x.c, .int .i64 x.h] 46)))
  have HLT1 : Hid (w.heap.size + 1 + 1 < w1.heap.size) := Nat.lt_of_lt_of_le HLT0.out hb.size
  have hnx : ¬ (4096 : Int) ≤ (x.n : Int) := by have h1 := HXN.out; have h2 := HS.out; omega
  clear hb hx HOT HK0 HM0 HR0 HB0
  have HG1 : Hid (w1.heap.size < (w1.alloc (.cells #[.slice x.p x.n x.c, .int .i64 x.h] 46)).heap.size) := by show _ < _; simp
  go_wp2_with fail
  generalize w1.alloc (.cells #[.slice x.p x.n x.c, .int .i64 x.h] 46) = W1 at *
  generalize hgp : w1.heap.size = gp at *
  have HS1 : Hid (∀ w', Below W1.heap.size W1 w' → w'.cell? ⟨w.heap.size + 1, 0, none⟩ = some (.int .i64 m.k) ∧ w'.cell? ⟨w.heap.size + 1, 1, none⟩ = some (.int .i64 m.s) ∧ w'.cell? ⟨w.heap.size + 1, 2, none⟩ = some (.int .i64 m.n) ∧ w'.cell? ⟨w.heap.size + 1, 3, none⟩ = some (.int .i64 m.b) ∧ w'.cell? ⟨w.heap.size + 1, 4, none⟩ = some (.int .i64 m.c) ∧ w'.cell? ⟨w.heap.size + 1, 5, none⟩ = some (.int .i64 m.r) ∧ w'.cell? ⟨w.heap.size + 1, 6, none⟩ = some (.int .i64 m.y) ∧ w'.cell? ⟨w.heap.size + 1, 7, none⟩ = some (.int .i64 m.a) ∧ w'.cell? ⟨w.heap.size + 1, 8, none⟩ = some (.bool m.t) ∧ w'.cell? ⟨w.heap.size + 1, 9, none⟩ = some (.slice pl nl cl) ∧ w'.cell? ⟨w.heap.size + 1, 10, none⟩ = some (.slice pn nn cn)) :=
    fun w' hb => ⟨(HM1.out.below hb HM1.out.lt).cell 0, (HM1.out.below hb HM1.out.lt).cell 1, (HM1.out.below hb HM1.out.lt).cell 2, (HM1.out.below hb HM1.out.lt).cell 3, (HM1.out.below hb HM1.out.lt).cell 4, (HM1.out.below hb HM1.out.lt).cell 5, (HM1.out.below hb HM1.out.lt).cell 6, (HM1.out.below hb HM1.out.lt).cell 7, (HM1.out.below hb HM1.out.lt).cell 8, (HM1.out.below hb HM1.out.lt).cell 9, (HM1.out.below hb HM1.out.lt).cell 10⟩
  have hS1 := HS1.out W1.drew (Below.refl _ W1).drew
  have q0 : W1.drew.cell? ⟨gp, 0, none⟩ = some (.slice x.p x.n x.c) := HP1.out.drew.cell 0
  refine wp_region_held_drew (S := fun w' => w'.cell? ⟨w.heap.size + 1, 0, none⟩ = some (.int .i64 m.k) ∧ w'.cell? ⟨w.heap.size + 1, 1, none⟩ = some (.int .i64 m.s) ∧ w'.cell? ⟨w.heap.size + 1, 2, none⟩ = some (.int .i64 m.n) ∧ w'.cell? ⟨w.heap.size + 1, 3, none⟩ = some (.int .i64 m.b) ∧ w'.cell? ⟨w.heap.size + 1, 4, none⟩ = some (.int .i64 m.c) ∧ w'.cell? ⟨w.heap.size + 1, 5, none⟩ = some (.int .i64 m.r) ∧ w'.cell? ⟨w.heap.size + 1, 6, none⟩ = some (.int .i64 m.y) ∧ w'.cell? ⟨w.heap.size + 1, 7, none⟩ = some (.int .i64 m.a) ∧ w'.cell? ⟨w.heap.size + 1, 8, none⟩ = some (.bool m.t) ∧ w'.cell? ⟨w.heap.size + 1, 9, none⟩ = some (.slice pl nl cl) ∧ w'.cell? ⟨w.heap.size + 1, 10, none⟩ = some (.slice pn nn cn)) (by kernel_rfl) hS1 (fun hS0 => ?_)
  refine wpAnyH_take (i := 0) (v := ?_) rfl (by kernel_rfl) (by kernel_rfl) (by kernel_rfl) (fun _ _ _ h => h) (Or.inl ⟨by kernel_rfl, ?_⟩) (by first | assumption | trivial) ?_
  rotate_left
  · intro w hSw
    try dsimp only at hSw
    first | (go_simp; done) | (go_simp; with_reducible rfl)
  try simp only [Act.put, List.getElem_toArray, List.getElem_cons_succ, List.getElem_cons_zero, List.setIfInBounds_toArray, List.set_cons_zero, List.set_cons_succ]
  refine wpAnyH_take (i := 2) (v := ?_) rfl (by kernel_rfl) (by kernel_rfl) (by kernel_rfl) (fun _ _ _ h => h) (Or.inl ⟨by kernel_rfl, ?_⟩) (by first | assumption | trivial) ?_
  rotate_left
  · intro w hSw
    try dsimp only at hSw
    first | (go_simp; done) | (go_simp; with_reducible rfl)
  try simp only [Act.put, List.getElem_toArray, List.getElem_cons_succ, List.getElem_cons_zero, List.setIfInBounds_toArray, List.set_cons_zero, List.set_cons_succ]
  refine wpAnyH_ready (rs := [1, 3]) (by kernel_rfl) (by simp) ?_
  refine AllReadyH.cons rfl (fun K hK => ?_) (AllReadyH.cons rfl (fun K hK => ?_) AllReadyH.nil)
  · skip
    go_simp
    refine hK.out _ _ (by first | assumption | exact (HS1.out _ (Below.refl _ W1).drew) | exact (HS1.out _ HBC.out) | exact (HS1.out _ HBD.out)) (fun hS => ?_)
    clear hK K
    try simp only [Act.put, List.getElem_toArray, List.getElem_cons_succ, List.getElem_cons_zero, List.setIfInBounds_toArray, List.set_cons_zero, List.set_cons_succ]
    refine wpAnyH_ready (rs := [3]) (by kernel_rfl) (by simp) ?_
    refine AllReadyH.cons rfl (fun K hK => ?_) AllReadyH.nil
    go_simp
    go_at_call 14
    refine (own_any m _ _ _ (HL.out.kept HB2.out.drew) (HM.out.kept HB2.out.drew) HZ.out).mono ?_
    rintro y w2 ⟨ul, un, rfl, ol, on, hb⟩
    obtain ⟨ql, dl, rfl⟩ := ol.form
    obtain ⟨qn, dn, rfl⟩ := on.form
    have HOL := Lib.hid ol
    have HON := Lib.hid on
    have HBC := Lib.hid ((Below.refl W1.heap.size W1).drew.trans hb)
    have q1 : w2.cell? ⟨gp, 0, none⟩ = some (.slice x.p x.n x.c) := (HP1.out.below HBC.out HP1.out.lt).cell 0
    clear ol on hb
    rw [HNL.out, HNN.out]
    unfold Msg.v
    try go_wp2_with fail
    refine hK.out _ _ (HS1.out _ HBC.out) (fun hS => ?_)
    clear hK K
    try simp only [Act.put, List.getElem_toArray, List.getElem_cons_succ, List.getElem_cons_zero, List.setIfInBounds_toArray, List.set_cons_zero, List.set_cons_succ]
    refine wpAnyH_ready (rs := [4]) (by kernel_rfl) (by simp) ?_
    refine AllReadyH.cons rfl (fun K hK => ?_) AllReadyH.nil
    go_simp
    have HBD : Hid (Below W1.heap.size W1 (w2.alloc (.cells #[.int .i64 m.k, .int .i64 m.s, .int .i64 m.n, .int .i64 m.b, .int .i64 m.c, .int .i64 m.r, .int .i64 m.y, .int .i64 m.a, .bool m.t, .slice ql nl dl, .slice qn nn dn] 36))) := HBC.out.alloc HBC.out.size _
    have q2 : (w2.alloc (.cells #[.int .i64 m.k, .int .i64 m.s, .int .i64 m.n, .int .i64 m.b, .int .i64 m.c, .int .i64 m.r, .int .i64 m.y, .int .i64 m.a, .bool m.t, .slice ql nl dl, .slice qn nn dn] 36)).cell? ⟨gp, 0, none⟩ = some (.slice x.p x.n x.c) := (HP1.out.below HBD.out HP1.out.lt).cell 0
    refine hK.out _ _ (HS1.out _ HBD.out) (fun hS => ?_)
    clear hK K
    try simp only [Act.put, List.getElem_toArray, List.getElem_cons_succ, List.getElem_cons_zero, List.setIfInBounds_toArray, List.set_cons_zero, List.set_cons_succ]
    refine wpAnyH_ready (rs := [5]) (by kernel_rfl) (by simp) ?_
    refine AllReadyH.cons rfl (fun K hK => ?_) AllReadyH.nil
    go_simp
    refine hK.out _ _ (HS1.out _ (HBD.out.alloc HBD.out.size _)) (fun hS => ?_)
    clear hK K
    try simp only [Act.put, List.getElem_toArray, List.getElem_cons_succ, List.getElem_cons_zero, List.setIfInBounds_toArray, List.set_cons_zero, List.set_cons_succ]
    refine wpAnyH_ready (rs := [6]) (by kernel_rfl) (by simp) ?_
    refine AllReadyH.cons rfl (fun K hK => ?_) AllReadyH.nil
    go_simp
    go_at_call 13
    obtain ⟨xs, hx1, hx2, hx3, hx4⟩ := HX2.out.2.2
    have hxl : xs.length = x.n := by have h := HXN.out; rw [h, ← hx4]; simp
    have HBE : Hid (Below W1.heap.size W1 ((w2.alloc (.cells #[.int .i64 m.k, .int .i64 m.s, .int .i64 m.n, .int .i64 m.b, .int .i64 m.c, .int .i64 m.r, .int .i64 m.y, .int .i64 m.a, .bool m.t, .slice ql nl dl, .slice qn nn dn] 36)).alloc (.cells #[.slice x.p x.n x.c, .slice (some ⟨w2.heap.size, 0, none⟩) 1 1] 22))) := HBD.out.alloc HBD.out.size _
    have hone := TRow.one_ encM (MsgX.mk m ql dl qn dn) ((Blk.new w2 #[.int .i64 m.k, .int .i64 m.s, .int .i64 m.n, .int .i64 m.b, .int .i64 m.c, .int .i64 m.r, .int .i64 m.y, .int .i64 m.a, .bool m.t, .slice ql nl dl, .slice qn nn dn] 36).alloc (.cells #[.slice x.p x.n x.c, .slice (some ⟨w2.heap.size, 0, none⟩) 1 1] 22)) (by simp [encM, MsgX.cells, Msg.cells, MsgX.vl, MsgX.vn, HNL.out, HNN.out]) (Nat.le_refl 1)
    have hB5 := Blk.new' (w2.alloc (.cells #[.int .i64 m.k, .int .i64 m.s, .int .i64 m.n, .int .i64 m.b, .int .i64 m.c, .int .i64 m.r, .int .i64 m.y, .int .i64 m.a, .bool m.t, .slice ql nl dl, .slice qn nn dn] 36)) #[.slice x.p x.n x.c, .slice (some ⟨w2.heap.size, 0, none⟩) 1 1] 22 (b := w2.heap.size + 1) (by simp)
    have hRT := RowsT.two hB5 rfl (hx1.kept HBE.out) hone
    refine (concatM_any (w2.heap.size + 1) 0 2 2 _ _ _ hRT rfl (by decide) (by have h1 := HXN.out; have h2 := HS.out; simp; omega)).mono ?_
    rintro y w6 ⟨v6, rfl, ho6, hb6⟩
    rw [show ([xs, [(MsgX.mk m ql dl qn dn)]] : List (List MsgX)).flatten = xs ++ [(MsgX.mk m ql dl qn dn)] by simp] at ho6
    obtain ⟨p6, c6, rfl⟩ := ho6.form
    have HB6 := Lib.hid (HBE.out.trans (hb6.mono HBE.out.size))
    have HW26 : Hid (Below w2.heap.size w2 w6) := (((oneB w2 _).trans ((oneB _ _).mono (by simp))).trans (hb6.mono (by simp; omega)))
    have hnew : MRow (fun b => P b ∧ (b ≠ w.heap.size + 1 + 1 ∧ b ≠ gp)) w6 (.slice p6 (xs ++ [(MsgX.mk m ql dl qn dn)]).length c6) (q.1 ++ [m]) := ⟨_, ho6.row, ho6.at_P (fun b hb => ⟨HPP.out b (by have h1 := HB2.out.size; have h2 := HBC.out.size; simp at hb; omega), by have h1 := HLT1.out; have h2 := HG1.out; have h3 := HBC.out.size; simp at hb; omega, by have h2 := HG1.out; have h3 := HBC.out.size; simp at hb; omega⟩), (fun y hy => by
      rcases List.mem_append.1 hy with hy | hy
      · exact (hx3 y hy).kept HB6.out
      · simp at hy
        subst hy
        refine ⟨?_, ?_, ?_, ?_, HZ.out⟩
        · exact HOL.out.row.kept HW26.out
        · exact HON.out.row.kept HW26.out
        · exact HOL.out.at_P (fun b hb => ⟨HPP.out b (by have h1 := HB2.out.size; simp at hb; omega), by have h1 := HLT1.out; have h2 := HG1.out; simp at hb; omega, by have h2 := HG1.out; simp at hb; omega⟩)
        · exact HON.out.at_P (fun b hb => ⟨HPP.out b (by have h1 := HB2.out.size; simp at hb; omega), by have h1 := HLT1.out; have h2 := HG1.out; simp at hb; omega, by have h2 := HG1.out; simp at hb; omega⟩)), by rw [List.map_append, hx4]; rfl⟩
    have hnl6 : (xs ++ [(MsgX.mk m ql dl qn dn)]).length = x.n + 1 := by rw [List.length_append, hxl]; rfl
    rw [hnl6] at hnew ⊢
    have HNEW := Lib.hid hnew
    have HM6 := Lib.hid (HM1.out.below HB6.out HM1.out.lt)
    have HP6 := Lib.hid (HP1.out.below HB6.out HP1.out.lt)
    have HK6 := Lib.hid (HK1.out.below HB6.out HK1.out.lt)
    have HR6 := Lib.hid (HR1.out.below HB6.out HR1.out.lt)
    have hp0 := HP6.out.cell 0
    have hp0f := HP6.out.free 0
    clear hx1 hx2 hx3 hx4 hxl hone hB5 hRT ho6 hb6 hnew hnl6
    try go_wp2_with fail
    refine hK.out _ _ (HS1.out _ HB6.out) (fun hS => ?_)
    clear hK K
    try simp only [Act.put, List.getElem_toArray, List.getElem_cons_succ, List.getElem_cons_zero, List.setIfInBounds_toArray, List.set_cons_zero, List.set_cons_succ]
    refine wpAnyH_take (i := 7) (v := ?_) rfl (by kernel_rfl) (by kernel_rfl) (by kernel_rfl) (fun _ _ _ h => h) (Or.inl ⟨by kernel_rfl, ?_⟩) (by first | assumption | trivial) ?_
    rotate_left
    · intro w hSw
      try dsimp only at hSw
      first | (go_simp; done) | (go_simp; with_reducible rfl)
    try simp only [Act.put, List.getElem_toArray, List.getElem_cons_succ, List.getElem_cons_zero, List.setIfInBounds_toArray, List.set_cons_zero, List.set_cons_succ]
    refine wpAnyH_ready (rs := [8]) (by kernel_rfl) (by simp) ?_
    refine AllReadyH.cons rfl (fun K hK => ?_) AllReadyH.nil
    go_simp
    have HC7 : Hid (Chg gp w6 (w6.setCell ⟨gp, 0, none⟩ (.slice p6 (x.n + 1) c6))) := (Chg.refl _ w6).set 0 _
    have HM7 := Lib.hid (HM6.out.chg HC7.out (by have h1 := HLT1.out; omega))
    refine hK.out _ _ ⟨HM7.out.cell 0, HM7.out.cell 1, HM7.out.cell 2, HM7.out.cell 3, HM7.out.cell 4, HM7.out.cell 5, HM7.out.cell 6, HM7.out.cell 7, HM7.out.cell 8, HM7.out.cell 9, HM7.out.cell 10⟩ (fun hS => ?_)
    clear hK K
    try simp only [Act.put, List.getElem_toArray, List.getElem_cons_succ, List.getElem_cons_zero, List.setIfInBounds_toArray, List.set_cons_zero, List.set_cons_succ]
    refine wpAnyH_done (by kernel_rfl) ?_ _
    have HP7 : Hid (Blk (w6.setCell ⟨gp, 0, none⟩ (.slice p6 (x.n + 1) c6)) gp #[.slice p6 (x.n + 1) c6, .int .i64 x.h] 46) := HP6.out.set 0 _
    have HK7 := Lib.hid (HK6.out.chg HC7.out (by have h1 := HLT1.out; omega))
    have HR7 := Lib.hid (HR6.out.chg HC7.out (by have h1 := HLT1.out; omega))
    have HB7 := Lib.hid ((HB2.out.trans (HB6.out.mono HB2.out.size)).trans (HC7.out.below (B := w.heap.size) (by have h1 := HLT1.out; omega) (HB2.out.trans (HB6.out.mono HB2.out.size)).size))
    have HSZ7 : Hid (gp < (w6.setCell ⟨gp, 0, none⟩ (.slice p6 (x.n + 1) c6)).heap.size) := HP7.out.lt
    have HNEW7 := Lib.hid (HNEW.out.keepP (KeepP.of_chg HC7.out (fun h => h.2.2 rfl)))
    generalize (w6.setCell ⟨gp, 0, none⟩ (.slice p6 (x.n + 1) c6)) = W7 at *
    have HWT := Lib.hid (with_any (fun b => P b ∧ (b ≠ w.heap.size + 1 + 1 ∧ b ≠ gp)) me j p n c qs ⟨p6, x.n + 1, c6, x.h⟩ (q.1 ++ [m], q.2) W7 HN.out ((HPR.out _ (fun b hb hp => ⟨hp, by omega, by have h1 := HLT1.out; omega⟩)).kept HB7.out) ⟨HX.out.1, by have h1 := HXN.out; simp [h1], HNEW7.out⟩ HJ.out HB9.out (fun b hb => ⟨HPP.out b (by have h1 := HB7.out.size; omega), by have h1 := HSZ7.out; have h2 := HLT1.out; omega, by have h1 := HSZ7.out; omega⟩))
    dsimp only at HWT
    have hk7 := HK7.out
    have hp7 := HP7.out
    have c0 : W7.cell? ⟨w.heap.size, 0, none⟩ = some (.int .i64 me) := hk7.cell 0
    have c1 : W7.cell? ⟨w.heap.size, 1, none⟩ = some (.slice p n c) := hk7.cell 1
    have c2 : W7.cell? ⟨gp, 0, none⟩ = some (.slice p6 (x.n + 1) c6) := hp7.cell 0
    have c3 : W7.cell? ⟨gp, 1, none⟩ = some (.int .i64 x.h) := hp7.cell 1
    clear hk7 hp7 hp0 hp0f
    go_wp2_with fail
    clear c0 c1 c2 c3
    refine HWT.out.mono ?_
    rintro y w8 ⟨_, rfl, ⟨p8, c8, rfl, hp8⟩, hb8⟩
    have hlen : (qs.set j (q.1 ++ [m], q.2)).length = n := by rw [List.length_set, ← HN.out]
    rw [hlen] at hp8 ⊢
    have HLEN := Lib.hid hlen
    have HP8 := Lib.hid hp8
    have HR8 := Lib.hid (HR7.out.below hb8 HR7.out.lt)
    have HB8 := Lib.hid (HB7.out.trans (hb8.mono HB7.out.size))
    clear hp8 hb8 hlen
    go_wp2_with (with_reducible refine stop_storeT 27 (.tmp 6) (.tmp 35) rfl ?_)
    have HTH : Hid (w8.there (w.heap.size + 1 + 1) 0 2) := HR8.out.thereAt
    have HF : Hid (Blk (w8.setCells (w.heap.size + 1 + 1) 0 [.int .i64 me, .slice p8 n c8]) (w.heap.size + 1 + 1) #[.int .i64 me, .slice p8 n c8] 27 ∧ Chg (w.heap.size + 1 + 1) w8 (w8.setCells (w.heap.size + 1 + 1) 0 [.int .i64 me, .slice p8 n c8])) := ⟨blk_put_all HR8.out _ rfl, chg_putL _ _ _ _ _ (Chg.refl _ _)⟩
    refine wpList_store_mid rfl 27 (.tmp 6) (.tmp 35) rfl (w.heap.size + 1 + 1) 0 #[.int .i64 me, .slice p8 n c8] rfl rfl HTH.out infoL (all_oneCell_toArray (oneL _ _ _ _)) ?_
    generalize World.setCells w8 _ _ _ = w9 at *
    go_wp2_with fail
    have hf := HF.out.1
    refine bodyPost_ret (v := .tuple #[.agg #[.int .i64 me, .slice p8 n c8], .int .i64 0]) (by simp [results, Try.results7, go_sem, hf.cell 0, hf.cell 1]) rfl ?_
    refine ⟨_, rfl, ⟨p8, c8, by rw [HLEN.out], by rw [HLEN.out]; exact (HP8.out.keepP (KeepP.of_chg HF.out.2 (fun h => h.2.1 rfl))).mono (fun b _ h => h.1)⟩, HB8.out.trans (HF.out.2.below (by omega) HB8.out.size)⟩
  · skip
    go_simp
    go_at_call 14
    refine (own_any m _ _ _ (HL.out.kept HB2.out.drew) (HM.out.kept HB2.out.drew) HZ.out).mono ?_
    rintro y w2 ⟨ul, un, rfl, ol, on, hb⟩
    obtain ⟨ql, dl, rfl⟩ := ol.form
    obtain ⟨qn, dn, rfl⟩ := on.form
    have HOL := Lib.hid ol
    have HON := Lib.hid on
    have HBC := Lib.hid ((Below.refl W1.heap.size W1).drew.trans hb)
    have q1 : w2.cell? ⟨gp, 0, none⟩ = some (.slice x.p x.n x.c) := (HP1.out.below HBC.out HP1.out.lt).cell 0
    clear ol on hb
    rw [HNL.out, HNN.out]
    unfold Msg.v
    try go_wp2_with fail
    refine hK.out _ _ (HS1.out _ HBC.out) (fun hS => ?_)
    clear hK K
    try simp only [Act.put, List.getElem_toArray, List.getElem_cons_succ, List.getElem_cons_zero, List.setIfInBounds_toArray, List.set_cons_zero, List.set_cons_succ]
    refine wpAnyH_ready (rs := [1, 4]) (by kernel_rfl) (by simp) ?_
    refine AllReadyH.cons rfl (fun K hK => ?_) (AllReadyH.cons rfl (fun K hK => ?_) AllReadyH.nil)
    · skip
      go_simp
      refine hK.out _ _ (by first | assumption | exact (HS1.out _ (Below.refl _ W1).drew) | exact (HS1.out _ HBC.out) | exact (HS1.out _ HBD.out)) (fun hS => ?_)
      clear hK K
      try simp only [Act.put, List.getElem_toArray, List.getElem_cons_succ, List.getElem_cons_zero, List.setIfInBounds_toArray, List.set_cons_zero, List.set_cons_succ]
      refine wpAnyH_ready (rs := [4]) (by kernel_rfl) (by simp) ?_
      refine AllReadyH.cons rfl (fun K hK => ?_) AllReadyH.nil
      go_simp
      have HBD : Hid (Below W1.heap.size W1 (w2.alloc (.cells #[.int .i64 m.k, .int .i64 m.s, .int .i64 m.n, .int .i64 m.b, .int .i64 m.c, .int .i64 m.r, .int .i64 m.y, .int .i64 m.a, .bool m.t, .slice ql nl dl, .slice qn nn dn] 36))) := HBC.out.alloc HBC.out.size _
      have q2 : (w2.alloc (.cells #[.int .i64 m.k, .int .i64 m.s, .int .i64 m.n, .int .i64 m.b, .int .i64 m.c, .int .i64 m.r, .int .i64 m.y, .int .i64 m.a, .bool m.t, .slice ql nl dl, .slice qn nn dn] 36)).cell? ⟨gp, 0, none⟩ = some (.slice x.p x.n x.c) := (HP1.out.below HBD.out HP1.out.lt).cell 0
      refine hK.out _ _ (HS1.out _ HBD.out) (fun hS => ?_)
      clear hK K
      try simp only [Act.put, List.getElem_toArray, List.getElem_cons_succ, List.getElem_cons_zero, List.setIfInBounds_toArray, List.set_cons_zero, List.set_cons_succ]
      refine wpAnyH_ready (rs := [5]) (by kernel_rfl) (by simp) ?_
      refine AllReadyH.cons rfl (fun K hK => ?_) AllReadyH.nil
      go_simp
      refine hK.out _ _ (HS1.out _ (HBD.out.alloc HBD.out.size _)) (fun hS => ?_)
      clear hK K
      try simp only [Act.put, List.getElem_toArray, List.getElem_cons_succ, List.getElem_cons_zero, List.setIfInBounds_toArray, List.set_cons_zero, List.set_cons_succ]
      refine wpAnyH_ready (rs := [6]) (by kernel_rfl) (by simp) ?_
      refine AllReadyH.cons rfl (fun K hK => ?_) AllReadyH.nil
      go_simp
      go_at_call 13
      obtain ⟨xs, hx1, hx2, hx3, hx4⟩ := HX2.out.2.2
      have hxl : xs.length = x.n := by have h := HXN.out; rw [h, ← hx4]; simp
      have HBE : Hid (Below W1.heap.size W1 ((w2.alloc (.cells #[.int .i64 m.k, .int .i64 m.s, .int .i64 m.n, .int .i64 m.b, .int .i64 m.c, .int .i64 m.r, .int .i64 m.y, .int .i64 m.a, .bool m.t, .slice ql nl dl, .slice qn nn dn] 36)).alloc (.cells #[.slice x.p x.n x.c, .slice (some ⟨w2.heap.size, 0, none⟩) 1 1] 22))) := HBD.out.alloc HBD.out.size _
      have hone := TRow.one_ encM (MsgX.mk m ql dl qn dn) ((Blk.new w2 #[.int .i64 m.k, .int .i64 m.s, .int .i64 m.n, .int .i64 m.b, .int .i64 m.c, .int .i64 m.r, .int .i64 m.y, .int .i64 m.a, .bool m.t, .slice ql nl dl, .slice qn nn dn] 36).alloc (.cells #[.slice x.p x.n x.c, .slice (some ⟨w2.heap.size, 0, none⟩) 1 1] 22)) (by simp [encM, MsgX.cells, Msg.cells, MsgX.vl, MsgX.vn, HNL.out, HNN.out]) (Nat.le_refl 1)
      have hB5 := Blk.new' (w2.alloc (.cells #[.int .i64 m.k, .int .i64 m.s, .int .i64 m.n, .int .i64 m.b, .int .i64 m.c, .int .i64 m.r, .int .i64 m.y, .int .i64 m.a, .bool m.t, .slice ql nl dl, .slice qn nn dn] 36)) #[.slice x.p x.n x.c, .slice (some ⟨w2.heap.size, 0, none⟩) 1 1] 22 (b := w2.heap.size + 1) (by simp)
      have hRT := RowsT.two hB5 rfl (hx1.kept HBE.out) hone
      refine (concatM_any (w2.heap.size + 1) 0 2 2 _ _ _ hRT rfl (by decide) (by have h1 := HXN.out; have h2 := HS.out; simp; omega)).mono ?_
      rintro y w6 ⟨v6, rfl, ho6, hb6⟩
      rw [show ([xs, [(MsgX.mk m ql dl qn dn)]] : List (List MsgX)).flatten = xs ++ [(MsgX.mk m ql dl qn dn)] by simp] at ho6
      obtain ⟨p6, c6, rfl⟩ := ho6.form
      have HB6 := Lib.hid (HBE.out.trans (hb6.mono HBE.out.size))
      have HW26 : Hid (Below w2.heap.size w2 w6) := (((oneB w2 _).trans ((oneB _ _).mono (by simp))).trans (hb6.mono (by simp; omega)))
      have hnew : MRow (fun b => P b ∧ (b ≠ w.heap.size + 1 + 1 ∧ b ≠ gp)) w6 (.slice p6 (xs ++ [(MsgX.mk m ql dl qn dn)]).length c6) (q.1 ++ [m]) := ⟨_, ho6.row, ho6.at_P (fun b hb => ⟨HPP.out b (by have h1 := HB2.out.size; have h2 := HBC.out.size; simp at hb; omega), by have h1 := HLT1.out; have h2 := HG1.out; have h3 := HBC.out.size; simp at hb; omega, by have h2 := HG1.out; have h3 := HBC.out.size; simp at hb; omega⟩), (fun y hy => by
        rcases List.mem_append.1 hy with hy | hy
        · exact (hx3 y hy).kept HB6.out
        · simp at hy
          subst hy
          refine ⟨?_, ?_, ?_, ?_, HZ.out⟩
          · exact HOL.out.row.kept HW26.out
          · exact HON.out.row.kept HW26.out
          · exact HOL.out.at_P (fun b hb => ⟨HPP.out b (by have h1 := HB2.out.size; simp at hb; omega), by have h1 := HLT1.out; have h2 := HG1.out; simp at hb; omega, by have h2 := HG1.out; simp at hb; omega⟩)
          · exact HON.out.at_P (fun b hb => ⟨HPP.out b (by have h1 := HB2.out.size; simp at hb; omega), by have h1 := HLT1.out; have h2 := HG1.out; simp at hb; omega, by have h2 := HG1.out; simp at hb; omega⟩)), by rw [List.map_append, hx4]; rfl⟩
      have hnl6 : (xs ++ [(MsgX.mk m ql dl qn dn)]).length = x.n + 1 := by rw [List.length_append, hxl]; rfl
      rw [hnl6] at hnew ⊢
      have HNEW := Lib.hid hnew
      have HM6 := Lib.hid (HM1.out.below HB6.out HM1.out.lt)
      have HP6 := Lib.hid (HP1.out.below HB6.out HP1.out.lt)
      have HK6 := Lib.hid (HK1.out.below HB6.out HK1.out.lt)
      have HR6 := Lib.hid (HR1.out.below HB6.out HR1.out.lt)
      have hp0 := HP6.out.cell 0
      have hp0f := HP6.out.free 0
      clear hx1 hx2 hx3 hx4 hxl hone hB5 hRT ho6 hb6 hnew hnl6
      try go_wp2_with fail
      refine hK.out _ _ (HS1.out _ HB6.out) (fun hS => ?_)
      clear hK K
      try simp only [Act.put, List.getElem_toArray, List.getElem_cons_succ, List.getElem_cons_zero, List.setIfInBounds_toArray, List.set_cons_zero, List.set_cons_succ]
      refine wpAnyH_take (i := 7) (v := ?_) rfl (by kernel_rfl) (by kernel_rfl) (by kernel_rfl) (fun _ _ _ h => h) (Or.inl ⟨by kernel_rfl, ?_⟩) (by first | assumption | trivial) ?_
      rotate_left
      · intro w hSw
        try dsimp only at hSw
        first | (go_simp; done) | (go_simp; with_reducible rfl)
      try simp only [Act.put, List.getElem_toArray, List.getElem_cons_succ, List.getElem_cons_zero, List.setIfInBounds_toArray, List.set_cons_zero, List.set_cons_succ]
      refine wpAnyH_ready (rs := [8]) (by kernel_rfl) (by simp) ?_
      refine AllReadyH.cons rfl (fun K hK => ?_) AllReadyH.nil
      go_simp
      have HC7 : Hid (Chg gp w6 (w6.setCell ⟨gp, 0, none⟩ (.slice p6 (x.n + 1) c6))) := (Chg.refl _ w6).set 0 _
      have HM7 := Lib.hid (HM6.out.chg HC7.out (by have h1 := HLT1.out; omega))
      refine hK.out _ _ ⟨HM7.out.cell 0, HM7.out.cell 1, HM7.out.cell 2, HM7.out.cell 3, HM7.out.cell 4, HM7.out.cell 5, HM7.out.cell 6, HM7.out.cell 7, HM7.out.cell 8, HM7.out.cell 9, HM7.out.cell 10⟩ (fun hS => ?_)
      clear hK K
      try simp only [Act.put, List.getElem_toArray, List.getElem_cons_succ, List.getElem_cons_zero, List.setIfInBounds_toArray, List.set_cons_zero, List.set_cons_succ]
      refine wpAnyH_done (by kernel_rfl) ?_ _
      have HP7 : Hid (Blk (w6.setCell ⟨gp, 0, none⟩ (.slice p6 (x.n + 1) c6)) gp #[.slice p6 (x.n + 1) c6, .int .i64 x.h] 46) := HP6.out.set 0 _
      have HK7 := Lib.hid (HK6.out.chg HC7.out (by have h1 := HLT1.out; omega))
      have HR7 := Lib.hid (HR6.out.chg HC7.out (by have h1 := HLT1.out; omega))
      have HB7 := Lib.hid ((HB2.out.trans (HB6.out.mono HB2.out.size)).trans (HC7.out.below (B := w.heap.size) (by have h1 := HLT1.out; omega) (HB2.out.trans (HB6.out.mono HB2.out.size)).size))
      have HSZ7 : Hid (gp < (w6.setCell ⟨gp, 0, none⟩ (.slice p6 (x.n + 1) c6)).heap.size) := HP7.out.lt
      have HNEW7 := Lib.hid (HNEW.out.keepP (KeepP.of_chg HC7.out (fun h => h.2.2 rfl)))
      generalize (w6.setCell ⟨gp, 0, none⟩ (.slice p6 (x.n + 1) c6)) = W7 at *
      have HWT := Lib.hid (with_any (fun b => P b ∧ (b ≠ w.heap.size + 1 + 1 ∧ b ≠ gp)) me j p n c qs ⟨p6, x.n + 1, c6, x.h⟩ (q.1 ++ [m], q.2) W7 HN.out ((HPR.out _ (fun b hb hp => ⟨hp, by omega, by have h1 := HLT1.out; omega⟩)).kept HB7.out) ⟨HX.out.1, by have h1 := HXN.out; simp [h1], HNEW7.out⟩ HJ.out HB9.out (fun b hb => ⟨HPP.out b (by have h1 := HB7.out.size; omega), by have h1 := HSZ7.out; have h2 := HLT1.out; omega, by have h1 := HSZ7.out; omega⟩))
      dsimp only at HWT
      have hk7 := HK7.out
      have hp7 := HP7.out
      have c0 : W7.cell? ⟨w.heap.size, 0, none⟩ = some (.int .i64 me) := hk7.cell 0
      have c1 : W7.cell? ⟨w.heap.size, 1, none⟩ = some (.slice p n c) := hk7.cell 1
      have c2 : W7.cell? ⟨gp, 0, none⟩ = some (.slice p6 (x.n + 1) c6) := hp7.cell 0
      have c3 : W7.cell? ⟨gp, 1, none⟩ = some (.int .i64 x.h) := hp7.cell 1
      clear hk7 hp7 hp0 hp0f
      go_wp2_with fail
      clear c0 c1 c2 c3
      refine HWT.out.mono ?_
      rintro y w8 ⟨_, rfl, ⟨p8, c8, rfl, hp8⟩, hb8⟩
      have hlen : (qs.set j (q.1 ++ [m], q.2)).length = n := by rw [List.length_set, ← HN.out]
      rw [hlen] at hp8 ⊢
      have HLEN := Lib.hid hlen
      have HP8 := Lib.hid hp8
      have HR8 := Lib.hid (HR7.out.below hb8 HR7.out.lt)
      have HB8 := Lib.hid (HB7.out.trans (hb8.mono HB7.out.size))
      clear hp8 hb8 hlen
      go_wp2_with (with_reducible refine stop_storeT 27 (.tmp 6) (.tmp 35) rfl ?_)
      have HTH : Hid (w8.there (w.heap.size + 1 + 1) 0 2) := HR8.out.thereAt
      have HF : Hid (Blk (w8.setCells (w.heap.size + 1 + 1) 0 [.int .i64 me, .slice p8 n c8]) (w.heap.size + 1 + 1) #[.int .i64 me, .slice p8 n c8] 27 ∧ Chg (w.heap.size + 1 + 1) w8 (w8.setCells (w.heap.size + 1 + 1) 0 [.int .i64 me, .slice p8 n c8])) := ⟨blk_put_all HR8.out _ rfl, chg_putL _ _ _ _ _ (Chg.refl _ _)⟩
      refine wpList_store_mid rfl 27 (.tmp 6) (.tmp 35) rfl (w.heap.size + 1 + 1) 0 #[.int .i64 me, .slice p8 n c8] rfl rfl HTH.out infoL (all_oneCell_toArray (oneL _ _ _ _)) ?_
      generalize World.setCells w8 _ _ _ = w9 at *
      go_wp2_with fail
      have hf := HF.out.1
      refine bodyPost_ret (v := .tuple #[.agg #[.int .i64 me, .slice p8 n c8], .int .i64 0]) (by simp [results, Try.results7, go_sem, hf.cell 0, hf.cell 1]) rfl ?_
      refine ⟨_, rfl, ⟨p8, c8, by rw [HLEN.out], by rw [HLEN.out]; exact (HP8.out.keepP (KeepP.of_chg HF.out.2 (fun h => h.2.1 rfl))).mono (fun b _ h => h.1)⟩, HB8.out.trans (HF.out.2.below (by omega) HB8.out.size)⟩
    · skip
      go_simp
      have HBD : Hid (Below W1.heap.size W1 (w2.alloc (.cells #[.int .i64 m.k, .int .i64 m.s, .int .i64 m.n, .int .i64 m.b, .int .i64 m.c, .int .i64 m.r, .int .i64 m.y, .int .i64 m.a, .bool m.t, .slice ql nl dl, .slice qn nn dn] 36))) := HBC.out.alloc HBC.out.size _
      have q2 : (w2.alloc (.cells #[.int .i64 m.k, .int .i64 m.s, .int .i64 m.n, .int .i64 m.b, .int .i64 m.c, .int .i64 m.r, .int .i64 m.y, .int .i64 m.a, .bool m.t, .slice ql nl dl, .slice qn nn dn] 36)).cell? ⟨gp, 0, none⟩ = some (.slice x.p x.n x.c) := (HP1.out.below HBD.out HP1.out.lt).cell 0
      refine hK.out _ _ (HS1.out _ HBD.out) (fun hS => ?_)
      clear hK K
      try simp only [Act.put, List.getElem_toArray, List.getElem_cons_succ, List.getElem_cons_zero, List.setIfInBounds_toArray, List.set_cons_zero, List.set_cons_succ]
      refine wpAnyH_ready (rs := [1]) (by kernel_rfl) (by simp) ?_
      refine AllReadyH.cons rfl (fun K hK => ?_) AllReadyH.nil
      go_simp
      refine hK.out _ _ (by first | assumption | exact (HS1.out _ (Below.refl _ W1).drew) | exact (HS1.out _ HBC.out) | exact (HS1.out _ HBD.out)) (fun hS => ?_)
      clear hK K
      try simp only [Act.put, List.getElem_toArray, List.getElem_cons_succ, List.getElem_cons_zero, List.setIfInBounds_toArray, List.set_cons_zero, List.set_cons_succ]
      refine wpAnyH_ready (rs := [5]) (by kernel_rfl) (by simp) ?_
      refine AllReadyH.cons rfl (fun K hK => ?_) AllReadyH.nil
      go_simp
      refine hK.out _ _ (HS1.out _ (HBD.out.alloc HBD.out.size _)) (fun hS => ?_)
      clear hK K
      try simp only [Act.put, List.getElem_toArray, List.getElem_cons_succ, List.getElem_cons_zero, List.setIfInBounds_toArray, List.set_cons_zero, List.set_cons_succ]
      refine wpAnyH_ready (rs := [6]) (by kernel_rfl) (by simp) ?_
      refine AllReadyH.cons rfl (fun K hK => ?_) AllReadyH.nil
      go_simp
      go_at_call 13
      obtain ⟨xs, hx1, hx2, hx3, hx4⟩ := HX2.out.2.2
      have hxl : xs.length = x.n := by have h := HXN.out; rw [h, ← hx4]; simp
      have HBE : Hid (Below W1.heap.size W1 ((w2.alloc (.cells #[.int .i64 m.k, .int .i64 m.s, .int .i64 m.n, .int .i64 m.b, .int .i64 m.c, .int .i64 m.r, .int .i64 m.y, .int .i64 m.a, .bool m.t, .slice ql nl dl, .slice qn nn dn] 36)).alloc (.cells #[.slice x.p x.n x.c, .slice (some ⟨w2.heap.size, 0, none⟩) 1 1] 22))) := HBD.out.alloc HBD.out.size _
      have hone := TRow.one_ encM (MsgX.mk m ql dl qn dn) ((Blk.new w2 #[.int .i64 m.k, .int .i64 m.s, .int .i64 m.n, .int .i64 m.b, .int .i64 m.c, .int .i64 m.r, .int .i64 m.y, .int .i64 m.a, .bool m.t, .slice ql nl dl, .slice qn nn dn] 36).alloc (.cells #[.slice x.p x.n x.c, .slice (some ⟨w2.heap.size, 0, none⟩) 1 1] 22)) (by simp [encM, MsgX.cells, Msg.cells, MsgX.vl, MsgX.vn, HNL.out, HNN.out]) (Nat.le_refl 1)
      have hB5 := Blk.new' (w2.alloc (.cells #[.int .i64 m.k, .int .i64 m.s, .int .i64 m.n, .int .i64 m.b, .int .i64 m.c, .int .i64 m.r, .int .i64 m.y, .int .i64 m.a, .bool m.t, .slice ql nl dl, .slice qn nn dn] 36)) #[.slice x.p x.n x.c, .slice (some ⟨w2.heap.size, 0, none⟩) 1 1] 22 (b := w2.heap.size + 1) (by simp)
      have hRT := RowsT.two hB5 rfl (hx1.kept HBE.out) hone
      refine (concatM_any (w2.heap.size + 1) 0 2 2 _ _ _ hRT rfl (by decide) (by have h1 := HXN.out; have h2 := HS.out; simp; omega)).mono ?_
      rintro y w6 ⟨v6, rfl, ho6, hb6⟩
      rw [show ([xs, [(MsgX.mk m ql dl qn dn)]] : List (List MsgX)).flatten = xs ++ [(MsgX.mk m ql dl qn dn)] by simp] at ho6
      obtain ⟨p6, c6, rfl⟩ := ho6.form
      have HB6 := Lib.hid (HBE.out.trans (hb6.mono HBE.out.size))
      have HW26 : Hid (Below w2.heap.size w2 w6) := (((oneB w2 _).trans ((oneB _ _).mono (by simp))).trans (hb6.mono (by simp; omega)))
      have hnew : MRow (fun b => P b ∧ (b ≠ w.heap.size + 1 + 1 ∧ b ≠ gp)) w6 (.slice p6 (xs ++ [(MsgX.mk m ql dl qn dn)]).length c6) (q.1 ++ [m]) := ⟨_, ho6.row, ho6.at_P (fun b hb => ⟨HPP.out b (by have h1 := HB2.out.size; have h2 := HBC.out.size; simp at hb; omega), by have h1 := HLT1.out; have h2 := HG1.out; have h3 := HBC.out.size; simp at hb; omega, by have h2 := HG1.out; have h3 := HBC.out.size; simp at hb; omega⟩), (fun y hy => by
        rcases List.mem_append.1 hy with hy | hy
        · exact (hx3 y hy).kept HB6.out
        · simp at hy
          subst hy
          refine ⟨?_, ?_, ?_, ?_, HZ.out⟩
          · exact HOL.out.row.kept HW26.out
          · exact HON.out.row.kept HW26.out
          · exact HOL.out.at_P (fun b hb => ⟨HPP.out b (by have h1 := HB2.out.size; simp at hb; omega), by have h1 := HLT1.out; have h2 := HG1.out; simp at hb; omega, by have h2 := HG1.out; simp at hb; omega⟩)
          · exact HON.out.at_P (fun b hb => ⟨HPP.out b (by have h1 := HB2.out.size; simp at hb; omega), by have h1 := HLT1.out; have h2 := HG1.out; simp at hb; omega, by have h2 := HG1.out; simp at hb; omega⟩)), by rw [List.map_append, hx4]; rfl⟩
      have hnl6 : (xs ++ [(MsgX.mk m ql dl qn dn)]).length = x.n + 1 := by rw [List.length_append, hxl]; rfl
      rw [hnl6] at hnew ⊢
      have HNEW := Lib.hid hnew
      have HM6 := Lib.hid (HM1.out.below HB6.out HM1.out.lt)
      have HP6 := Lib.hid (HP1.out.below HB6.out HP1.out.lt)
      have HK6 := Lib.hid (HK1.out.below HB6.out HK1.out.lt)
      have HR6 := Lib.hid (HR1.out.below HB6.out HR1.out.lt)
      have hp0 := HP6.out.cell 0
      have hp0f := HP6.out.free 0
      clear hx1 hx2 hx3 hx4 hxl hone hB5 hRT ho6 hb6 hnew hnl6
      try go_wp2_with fail
      refine hK.out _ _ (HS1.out _ HB6.out) (fun hS => ?_)
      clear hK K
      try simp only [Act.put, List.getElem_toArray, List.getElem_cons_succ, List.getElem_cons_zero, List.setIfInBounds_toArray, List.set_cons_zero, List.set_cons_succ]
      refine wpAnyH_take (i := 7) (v := ?_) rfl (by kernel_rfl) (by kernel_rfl) (by kernel_rfl) (fun _ _ _ h => h) (Or.inl ⟨by kernel_rfl, ?_⟩) (by first | assumption | trivial) ?_
      rotate_left
      · intro w hSw
        try dsimp only at hSw
        first | (go_simp; done) | (go_simp; with_reducible rfl)
      try simp only [Act.put, List.getElem_toArray, List.getElem_cons_succ, List.getElem_cons_zero, List.setIfInBounds_toArray, List.set_cons_zero, List.set_cons_succ]
      refine wpAnyH_ready (rs := [8]) (by kernel_rfl) (by simp) ?_
      refine AllReadyH.cons rfl (fun K hK => ?_) AllReadyH.nil
      go_simp
      have HC7 : Hid (Chg gp w6 (w6.setCell ⟨gp, 0, none⟩ (.slice p6 (x.n + 1) c6))) := (Chg.refl _ w6).set 0 _
      have HM7 := Lib.hid (HM6.out.chg HC7.out (by have h1 := HLT1.out; omega))
      refine hK.out _ _ ⟨HM7.out.cell 0, HM7.out.cell 1, HM7.out.cell 2, HM7.out.cell 3, HM7.out.cell 4, HM7.out.cell 5, HM7.out.cell 6, HM7.out.cell 7, HM7.out.cell 8, HM7.out.cell 9, HM7.out.cell 10⟩ (fun hS => ?_)
      clear hK K
      try simp only [Act.put, List.getElem_toArray, List.getElem_cons_succ, List.getElem_cons_zero, List.setIfInBounds_toArray, List.set_cons_zero, List.set_cons_succ]
      refine wpAnyH_done (by kernel_rfl) ?_ _
      have HP7 : Hid (Blk (w6.setCell ⟨gp, 0, none⟩ (.slice p6 (x.n + 1) c6)) gp #[.slice p6 (x.n + 1) c6, .int .i64 x.h] 46) := HP6.out.set 0 _
      have HK7 := Lib.hid (HK6.out.chg HC7.out (by have h1 := HLT1.out; omega))
      have HR7 := Lib.hid (HR6.out.chg HC7.out (by have h1 := HLT1.out; omega))
      have HB7 := Lib.hid ((HB2.out.trans (HB6.out.mono HB2.out.size)).trans (HC7.out.below (B := w.heap.size) (by have h1 := HLT1.out; omega) (HB2.out.trans (HB6.out.mono HB2.out.size)).size))
      have HSZ7 : Hid (gp < (w6.setCell ⟨gp, 0, none⟩ (.slice p6 (x.n + 1) c6)).heap.size) := HP7.out.lt
      have HNEW7 := Lib.hid (HNEW.out.keepP (KeepP.of_chg HC7.out (fun h => h.2.2 rfl)))
      generalize (w6.setCell ⟨gp, 0, none⟩ (.slice p6 (x.n + 1) c6)) = W7 at *
      have HWT := Lib.hid (with_any (fun b => P b ∧ (b ≠ w.heap.size + 1 + 1 ∧ b ≠ gp)) me j p n c qs ⟨p6, x.n + 1, c6, x.h⟩ (q.1 ++ [m], q.2) W7 HN.out ((HPR.out _ (fun b hb hp => ⟨hp, by omega, by have h1 := HLT1.out; omega⟩)).kept HB7.out) ⟨HX.out.1, by have h1 := HXN.out; simp [h1], HNEW7.out⟩ HJ.out HB9.out (fun b hb => ⟨HPP.out b (by have h1 := HB7.out.size; omega), by have h1 := HSZ7.out; have h2 := HLT1.out; omega, by have h1 := HSZ7.out; omega⟩))
      dsimp only at HWT
      have hk7 := HK7.out
      have hp7 := HP7.out
      have c0 : W7.cell? ⟨w.heap.size, 0, none⟩ = some (.int .i64 me) := hk7.cell 0
      have c1 : W7.cell? ⟨w.heap.size, 1, none⟩ = some (.slice p n c) := hk7.cell 1
      have c2 : W7.cell? ⟨gp, 0, none⟩ = some (.slice p6 (x.n + 1) c6) := hp7.cell 0
      have c3 : W7.cell? ⟨gp, 1, none⟩ = some (.int .i64 x.h) := hp7.cell 1
      clear hk7 hp7 hp0 hp0f
      go_wp2_with fail
      clear c0 c1 c2 c3
      refine HWT.out.mono ?_
      rintro y w8 ⟨_, rfl, ⟨p8, c8, rfl, hp8⟩, hb8⟩
      have hlen : (qs.set j (q.1 ++ [m], q.2)).length = n := by rw [List.length_set, ← HN.out]
      rw [hlen] at hp8 ⊢
      have HLEN := Lib.hid hlen
      have HP8 := Lib.hid hp8
      have HR8 := Lib.hid (HR7.out.below hb8 HR7.out.lt)
      have HB8 := Lib.hid (HB7.out.trans (hb8.mono HB7.out.size))
      clear hp8 hb8 hlen
      go_wp2_with (with_reducible refine stop_storeT 27 (.tmp 6) (.tmp 35) rfl ?_)
      have HTH : Hid (w8.there (w.heap.size + 1 + 1) 0 2) := HR8.out.thereAt
      have HF : Hid (Blk (w8.setCells (w.heap.size + 1 + 1) 0 [.int .i64 me, .slice p8 n c8]) (w.heap.size + 1 + 1) #[.int .i64 me, .slice p8 n c8] 27 ∧ Chg (w.heap.size + 1 + 1) w8 (w8.setCells (w.heap.size + 1 + 1) 0 [.int .i64 me, .slice p8 n c8])) := ⟨blk_put_all HR8.out _ rfl, chg_putL _ _ _ _ _ (Chg.refl _ _)⟩
      refine wpList_store_mid rfl 27 (.tmp 6) (.tmp 35) rfl (w.heap.size + 1 + 1) 0 #[.int .i64 me, .slice p8 n c8] rfl rfl HTH.out infoL (all_oneCell_toArray (oneL _ _ _ _)) ?_
      generalize World.setCells w8 _ _ _ = w9 at *
      go_wp2_with fail
      have hf := HF.out.1
      refine bodyPost_ret (v := .tuple #[.agg #[.int .i64 me, .slice p8 n c8], .int .i64 0]) (by simp [results, Try.results7, go_sem, hf.cell 0, hf.cell 1]) rfl ?_
      refine ⟨_, rfl, ⟨p8, c8, by rw [HLEN.out], by rw [HLEN.out]; exact (HP8.out.keepP (KeepP.of_chg HF.out.2 (fun h => h.2.1 rfl))).mono (fun b _ h => h.1)⟩, HB8.out.trans (HF.out.2.below (by omega) HB8.out.size)⟩
end Go.Proofs.Ytpjekejkhncjpaa
