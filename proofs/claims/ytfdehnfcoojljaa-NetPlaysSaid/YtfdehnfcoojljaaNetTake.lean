/- Take by contract: one is taken. -/
import Derived.Test.YtfdehnfcoojljaaNetFns
import Derived.Test.YtfdehnfcoojljaaNetPush
import Derived.Deep.CutRange
import Derived.Deep.CutBlock
namespace Go.Proofs.Ytfdehnfcoojljaa
open Go.RowKit
set_option linter.unusedSimpArgs false
set_option maxHeartbeats 4000000 in
set_option maxRecDepth 100000 in
theorem take_ok {P : Nat → Prop} {g : Nat} {ks : List Pk} (w : World) (i : Nat) (h : Fly P w g ks) (hi : i < ks.length) : Calls Try.prog 10 #[.pointer (some ⟨g, 0, none⟩), .int .i64 i] w fun e w' => ∃ z : PkX, e = .returned (.tuple #[z.v, .int .i64 0]) ∧ z.pk = ks[i] ∧ z.x.InP (fun b => w.heap.size ≤ b ∧ b < w'.heap.size) w' ∧ Fly P w' g (ks.eraseIdx i) ∧ ChgP P w w'  := by
  have HH := Lib.hid (look_ok (w.alloc (.cells #[.int .i64 0, .int .i64 0, .int .i64 0, .int .i64 0, .int .i64 0, .int .i64 0, .int .i64 0, .int .i64 0, .int .i64 0, .int .i64 0, .int .i64 0, .int .i64 0, .bool false, .slice none 0 0, .slice none 0 0] 38)) i (h.kept (oneB w _)) hi)
  have HF := Lib.hid (Blk.new w #[.int .i64 0, .int .i64 0, .int .i64 0, .int .i64 0, .int .i64 0, .int .i64 0, .int .i64 0, .int .i64 0, .int .i64 0, .int .i64 0, .int .i64 0, .int .i64 0, .bool false, .slice none 0 0, .slice none 0 0] 38)
  obtain ⟨p, c, aa, h⟩ := h
  replace h := h.mono (Q := fun b => P b ∧ b < w.heap.size) (fun b hb hp => ⟨hp, hb⟩)
  have hia : i < aa.length := by rw [h.len]; exact hi
  obtain ⟨s, cur, rfl, hrest⟩ := h.own.lies (by omega)
  clear hrest cur
  have HX := Lib.hid h
  have HGS : Hid (g < w.heap.size ∧ s < w.heap.size) := ⟨h.blk.lt, h.own.lt s rfl⟩
  obtain ⟨kk, hkk⟩ : ∃ kk, ks[i] = kk := ⟨_, rfl⟩
  rw [hkk] at HH ⊢
  have HI := Lib.hid hi
  have hin : (i : Int) + 1 ≤ (ks.length : Int) := by omega
  have h81 : (ks.length : Int) ≤ 8192 := by have := h.max; omega
  clear hkk h hia hi
  generalize hn : ks.length = n at *
  have HN := Lib.hid hn
  clear hn
  unfold PkX.v at HH
  go_enter Try.func10, Try.ntmps10
  go_wp2_with fail
  refine HH.out.mono ?_
  rintro y0 w1 ⟨z, rfl, hz1, hz2, hb⟩
  have HZ1 := Lib.hid hz1
  have HB := Lib.hid (((oneB w (.cells #[.int .i64 0, .int .i64 0, .int .i64 0, .int .i64 0, .int .i64 0, .int .i64 0, .int .i64 0, .int .i64 0, .int .i64 0, .int .i64 0, .int .i64 0, .int .i64 0, .bool false, .slice none 0 0, .slice none 0 0] 38)).trans (hb.mono (by simp))).alloc ((oneB w (.cells #[.int .i64 0, .int .i64 0, .int .i64 0, .int .i64 0, .int .i64 0, .int .i64 0, .int .i64 0, .int .i64 0, .int .i64 0, .int .i64 0, .int .i64 0, .int .i64 0, .bool false, .slice none 0 0, .slice none 0 0] 38)).trans (hb.mono (by simp))).size (.cells #[.int .i64 z.f, .int .i64 z.t, .int .i64 z.n, .int .i64 z.h, .int .i64 z.x.m.k, .int .i64 z.x.m.s, .int .i64 z.x.m.n, .int .i64 z.x.m.b, .int .i64 z.x.m.c, .int .i64 z.x.m.r, .int .i64 z.x.m.y, .int .i64 z.x.m.a, .bool z.x.m.t, .slice z.x.pl z.x.m.ls.length z.x.cl, .slice z.x.pn z.x.m.ns.length z.x.cn] 38))
  have HF1 := Lib.hid ((HF.out.below hb HF.out.lt).alloc (.cells #[.int .i64 z.f, .int .i64 z.t, .int .i64 z.n, .int .i64 z.h, .int .i64 z.x.m.k, .int .i64 z.x.m.s, .int .i64 z.x.m.n, .int .i64 z.x.m.b, .int .i64 z.x.m.c, .int .i64 z.x.m.r, .int .i64 z.x.m.y, .int .i64 z.x.m.a, .bool z.x.m.t, .slice z.x.pl z.x.m.ls.length z.x.cl, .slice z.x.pn z.x.m.ns.length z.x.cn] 38))
  have HF2 := Lib.hid (Blk.new w1 #[.int .i64 z.f, .int .i64 z.t, .int .i64 z.n, .int .i64 z.h, .int .i64 z.x.m.k, .int .i64 z.x.m.s, .int .i64 z.x.m.n, .int .i64 z.x.m.b, .int .i64 z.x.m.c, .int .i64 z.x.m.r, .int .i64 z.x.m.y, .int .i64 z.x.m.a, .bool z.x.m.t, .slice z.x.pl z.x.m.ls.length z.x.cl, .slice z.x.pn z.x.m.ns.length z.x.cn] 38)
  have HX1 := Lib.hid (HX.out.keepP (KeepP.of_below HB.out))
  have HZ2 := Lib.hid (hz2.kept (oneB w1 (.cells #[.int .i64 z.f, .int .i64 z.t, .int .i64 z.n, .int .i64 z.h, .int .i64 z.x.m.k, .int .i64 z.x.m.s, .int .i64 z.x.m.n, .int .i64 z.x.m.b, .int .i64 z.x.m.c, .int .i64 z.x.m.r, .int .i64 z.x.m.y, .int .i64 z.x.m.a, .bool z.x.m.t, .slice z.x.pl z.x.m.ls.length z.x.cl, .slice z.x.pn z.x.m.ns.length z.x.cn] 38)))
  have HS1 : Hid (w.heap.size < w1.heap.size) := by show _ < _; have := hb.size; simp at this; omega
  have c0 : (w1.alloc (.cells #[.int .i64 z.f, .int .i64 z.t, .int .i64 z.n, .int .i64 z.h, .int .i64 z.x.m.k, .int .i64 z.x.m.s, .int .i64 z.x.m.n, .int .i64 z.x.m.b, .int .i64 z.x.m.c, .int .i64 z.x.m.r, .int .i64 z.x.m.y, .int .i64 z.x.m.a, .bool z.x.m.t, .slice z.x.pl z.x.m.ls.length z.x.cl, .slice z.x.pn z.x.m.ns.length z.x.cn] 38)).cell? ⟨g, 0, none⟩ = some (.slice (some ⟨s, 0, none⟩) n c) := HX1.out.blk.cell 0
  clear hz1 hz2 hb HH HF HX
  go_wp2_with fail
  have hw1 : (w1.alloc (.cells #[.int .i64 z.f, .int .i64 z.t, .int .i64 z.n, .int .i64 z.h, .int .i64 z.x.m.k, .int .i64 z.x.m.s, .int .i64 z.x.m.n, .int .i64 z.x.m.b, .int .i64 z.x.m.c, .int .i64 z.x.m.r, .int .i64 z.x.m.y, .int .i64 z.x.m.a, .bool z.x.m.t, .slice z.x.pl z.x.m.ls.length z.x.cl, .slice z.x.pn z.x.m.ns.length z.x.cn] 38)).heap.size = w1.heap.size + 1 := by simp
  have HW1 := Lib.hid hw1
  clear hw1 c0
  generalize w1.alloc (.cells #[.int .i64 z.f, .int .i64 z.t, .int .i64 z.n, .int .i64 z.h, .int .i64 z.x.m.k, .int .i64 z.x.m.s, .int .i64 z.x.m.n, .int .i64 z.x.m.b, .int .i64 z.x.m.c, .int .i64 z.x.m.r, .int .i64 z.x.m.y, .int .i64 z.x.m.a, .bool z.x.m.t, .slice z.x.pl z.x.m.ls.length z.x.cl, .slice z.x.pn z.x.m.ns.length z.x.cn] 38) = w2 at *
  generalize w1.heap.size = gz at *
  refine (ndelete_any w2 0 s n c i aa HX1.out.own (by have := HI.out; omega) (by omega)).mono ?_
  rintro y0 w3 ⟨rfl, hd, hc⟩
  have HD := Lib.hid hd
  have HC := Lib.hid hc
  have HP := Lib.hid (HX1.out.pop hd hc (by have := HI.out; have := HN.out; omega))
  have HG1 : Hid (Blk w3 g #[.slice (some ⟨s, 0, none⟩) n c] 26) := HX1.out.blk.chg hc (Ne.symm (HX1.out.sown s rfl).2)
  have HCP : Hid (ChgP (fun b => P b ∧ b < w.heap.size) w (w3.setCell ⟨g, 0, none⟩ (.slice (some ⟨s, 0, none⟩) (n - 1) c))) := ((ChgP.of_below HB.out).trans (ChgP.of_chg hc (HX1.out.sown s rfl).1)).trans (ChgP.of_chg ((Chg.refl g w3).set 0 _) HX1.out.inP)
  have hg0 := HG1.out.cell 0
  have hg1 := HG1.out.free 0
  have HV : Hid (Blk (w3.setCell ⟨g, 0, none⟩ (.slice (some ⟨s, 0, none⟩) (n - 1) c)) gz #[.int .i64 z.f, .int .i64 z.t, .int .i64 z.n, .int .i64 z.h, .int .i64 z.x.m.k, .int .i64 z.x.m.s, .int .i64 z.x.m.n, .int .i64 z.x.m.b, .int .i64 z.x.m.c, .int .i64 z.x.m.r, .int .i64 z.x.m.y, .int .i64 z.x.m.a, .bool z.x.m.t, .slice z.x.pl z.x.m.ls.length z.x.cl, .slice z.x.pn z.x.m.ns.length z.x.cn] 38) := by
    have h1 := HGS.out
    have h2 := HS1.out
    exact (HF2.out.chg hc (by omega)).setOther (a := ⟨g, 0, none⟩) (by show g ≠ gz; omega) _
  have HR : Hid (Blk (w3.setCell ⟨g, 0, none⟩ (.slice (some ⟨s, 0, none⟩) (n - 1) c)) w.heap.size #[.int .i64 0, .int .i64 0, .int .i64 0, .int .i64 0, .int .i64 0, .int .i64 0, .int .i64 0, .int .i64 0, .int .i64 0, .int .i64 0, .int .i64 0, .int .i64 0, .bool false, .slice none 0 0, .slice none 0 0] 38) := by
    have h1 := HGS.out
    exact (HF1.out.chg hc (by omega)).setOther (a := ⟨g, 0, none⟩) (by show g ≠ w.heap.size; omega) _
  have HZ4 : Hid (z.x.InP (fun b => (w.alloc (.cells #[.int .i64 0, .int .i64 0, .int .i64 0, .int .i64 0, .int .i64 0, .int .i64 0, .int .i64 0, .int .i64 0, .int .i64 0, .int .i64 0, .int .i64 0, .int .i64 0, .bool false, .slice none 0 0, .slice none 0 0] 38)).heap.size ≤ b ∧ b < gz) (w3.setCell ⟨g, 0, none⟩ (.slice (some ⟨s, 0, none⟩) (n - 1) c))) := by
    have h1 := HGS.out
    exact (HZ2.out.keepP (KeepP.of_chg hc (fun hb => by have := hb.1; simp at this; omega))).keepP (KeepP.of_chg ((Chg.refl g w3).set 0 _) (fun hb => by have := hb.1; simp at this; omega))
  have HSZ : Hid (gz < (w3.setCell ⟨g, 0, none⟩ (.slice (some ⟨s, 0, none⟩) (n - 1) c)).heap.size) := HV.out.lt
  clear hd hc HC HD HX1 HZ2 HF1 HF2 HB HG1
  go_upto_region 4 with fail
  clear hg0 hg1
  generalize (w3.setCell ⟨g, 0, none⟩ (.slice (some ⟨s, 0, none⟩) (n - 1) c)) = w4 at *
  have v0 : w4.cell? ⟨gz, 0, none⟩ = some (.int .i64 z.f) := HV.out.cell 0
  have v1 : w4.cell? ⟨gz, 1, none⟩ = some (.int .i64 z.t) := HV.out.cell 1
  have v2 : w4.cell? ⟨gz, 2, none⟩ = some (.int .i64 z.n) := HV.out.cell 2
  have v3 : w4.cell? ⟨gz, 3, none⟩ = some (.int .i64 z.h) := HV.out.cell 3
  have v4 : w4.cell? ⟨gz, 4, none⟩ = some (.int .i64 z.x.m.k) := HV.out.cell 4
  have v5 : w4.cell? ⟨gz, 5, none⟩ = some (.int .i64 z.x.m.s) := HV.out.cell 5
  have v6 : w4.cell? ⟨gz, 6, none⟩ = some (.int .i64 z.x.m.n) := HV.out.cell 6
  have v7 : w4.cell? ⟨gz, 7, none⟩ = some (.int .i64 z.x.m.b) := HV.out.cell 7
  have v8 : w4.cell? ⟨gz, 8, none⟩ = some (.int .i64 z.x.m.c) := HV.out.cell 8
  have v9 : w4.cell? ⟨gz, 9, none⟩ = some (.int .i64 z.x.m.r) := HV.out.cell 9
  have v10 : w4.cell? ⟨gz, 10, none⟩ = some (.int .i64 z.x.m.y) := HV.out.cell 10
  have v11 : w4.cell? ⟨gz, 11, none⟩ = some (.int .i64 z.x.m.a) := HV.out.cell 11
  have v12 : w4.cell? ⟨gz, 12, none⟩ = some (.bool z.x.m.t) := HV.out.cell 12
  have v13 : w4.cell? ⟨gz, 13, none⟩ = some (.slice z.x.pl z.x.m.ls.length z.x.cl) := HV.out.cell 13
  have v14 : w4.cell? ⟨gz, 14, none⟩ = some (.slice z.x.pn z.x.m.ns.length z.x.cn) := HV.out.cell 14
  go_wp2_with (with_reducible refine stop_storeT 38 (.tmp 4) (.tmp 27) rfl ?_)
  have HTH : Hid (w4.there w.heap.size 0 15) := HR.out.thereAt
  have HST : Hid (Blk (w4.setCells w.heap.size 0 (#[.int .i64 z.f, .int .i64 z.t, .int .i64 z.n, .int .i64 z.h, .int .i64 z.x.m.k, .int .i64 z.x.m.s, .int .i64 z.x.m.n, .int .i64 z.x.m.b, .int .i64 z.x.m.c, .int .i64 z.x.m.r, .int .i64 z.x.m.y, .int .i64 z.x.m.a, .bool z.x.m.t, .slice z.x.pl z.x.m.ls.length z.x.cl, .slice z.x.pn z.x.m.ns.length z.x.cn] : Array Value).toList) w.heap.size #[.int .i64 z.f, .int .i64 z.t, .int .i64 z.n, .int .i64 z.h, .int .i64 z.x.m.k, .int .i64 z.x.m.s, .int .i64 z.x.m.n, .int .i64 z.x.m.b, .int .i64 z.x.m.c, .int .i64 z.x.m.r, .int .i64 z.x.m.y, .int .i64 z.x.m.a, .bool z.x.m.t, .slice z.x.pl z.x.m.ls.length z.x.cl, .slice z.x.pn z.x.m.ns.length z.x.cn] 38 ∧ Chg w.heap.size w4 (w4.setCells w.heap.size 0 (#[.int .i64 z.f, .int .i64 z.t, .int .i64 z.n, .int .i64 z.h, .int .i64 z.x.m.k, .int .i64 z.x.m.s, .int .i64 z.x.m.n, .int .i64 z.x.m.b, .int .i64 z.x.m.c, .int .i64 z.x.m.r, .int .i64 z.x.m.y, .int .i64 z.x.m.a, .bool z.x.m.t, .slice z.x.pl z.x.m.ls.length z.x.cl, .slice z.x.pn z.x.m.ns.length z.x.cn] : Array Value).toList)) := ⟨blk_put_all HR.out _ rfl, chg_putL _ _ _ _ _ (Chg.refl _ w4)⟩
  refine wpList_store_mid rfl 38 (.tmp 4) (.tmp 27) rfl w.heap.size 0 #[.int .i64 z.f, .int .i64 z.t, .int .i64 z.n, .int .i64 z.h, .int .i64 z.x.m.k, .int .i64 z.x.m.s, .int .i64 z.x.m.n, .int .i64 z.x.m.b, .int .i64 z.x.m.c, .int .i64 z.x.m.r, .int .i64 z.x.m.y, .int .i64 z.x.m.a, .bool z.x.m.t, .slice z.x.pl z.x.m.ls.length z.x.cl, .slice z.x.pn z.x.m.ns.length z.x.cn] rfl rfl HTH.out (infoK15 rfl) (all_oneCell_toArray (one15 z)) ?_
  generalize World.setCells w4 w.heap.size _ _ = w5 at *
  clear HTH
  clear HR HV v0 v1 v2 v3 v4 v5 v6 v7 v8 v9 v10 v11 v12 v13 v14
  go_wp2_with fail
  have hf := HST.out.1
  refine bodyPost_ret (v := .tuple #[.agg #[.int .i64 z.f, .int .i64 z.t, .int .i64 z.n, .int .i64 z.h, .int .i64 z.x.m.k, .int .i64 z.x.m.s, .int .i64 z.x.m.n, .int .i64 z.x.m.b, .int .i64 z.x.m.c, .int .i64 z.x.m.r, .int .i64 z.x.m.y, .int .i64 z.x.m.a, .bool z.x.m.t, .slice z.x.pl z.x.m.ls.length z.x.cl, .slice z.x.pn z.x.m.ns.length z.x.cn], .int .i64 0]) (by simp [results, Try.results10, go_sem, hf.cell 0, hf.cell 1, hf.cell 2, hf.cell 3, hf.cell 4, hf.cell 5, hf.cell 6, hf.cell 7, hf.cell 8, hf.cell 9, hf.cell 10, hf.cell 11, hf.cell 12, hf.cell 13, hf.cell 14]) rfl ?_
  have h1 := HGS.out
  have h2 := HST.out.2.size
  have h3 := HSZ.out
  refine ⟨z, rfl, HZ1.out, InP.mono' (HZ4.out.keepP (KeepP.of_chg HST.out.2 (fun hb => by have := hb.1; simp at this; omega))) (fun b hb => ⟨by have := hb.1; simp at this; omega, by have := hb.2; omega⟩), ?_, ?_⟩
  · have h4 := HN.out
    have h5 := HI.out
    have hq := (HP.out.keepP (KeepP.of_chg HST.out.2 (fun hb => absurd hb.2 (Nat.lt_irrefl _)))).mono (Q := P) (fun b _ hb => hb.1)
    refine ⟨some ⟨s, 0, none⟩, c, aa.eraseIdx i, ?_⟩
    rw [List.length_eraseIdx, if_pos (by omega), h4]
    exact hq
  · refine ⟨HCP.out.1.trans HST.out.2.1, fun b hb hp => (HST.out.2.2 b (by have := HCP.out.size; omega) (by omega)).trans (HCP.out.2 b hb (fun hn => hp hn.1))⟩
end Go.Proofs.Ytfdehnfcoojljaa
