/- msg.Read by contract. -/
import Derived.Test.YtengkgpobckhjaaMsgFrom
namespace Go.Proofs.Ytengkgpobckhjaa
open Go.RowKit
set_option linter.unusedSimpArgs false
def rE (zs : List Int) : Int := if rdE ⟨zs, 0⟩ = 0 then endE (rdR ⟨zs, 0⟩).z 0 else rdE ⟨zs, 0⟩
def rM (zs : List Int) : Msg := if rE zs = 0 then rdM ⟨zs, 0⟩ else msg0
theorem rdR_e {r : RS} (h : rdE r = 0) : (rdR r).e = 0 := by
  unfold rdE at h
  unfold rdR
  split at h
  · cases h
  · rename_i hb
    rw [if_neg hb]; exact h
/-- The places at which Read ends. -/
structure REnd (w : World) (W : World) (cs : Array Value) (vl : Value) (xs : List Lin) (vn : Value) (ns : List Int) : Prop where
  low : Below w.heap.size w W
  b2 : Blk W w.heap.size cs 28
  ol : OwnT encN W w.heap.size 53 vl xs
  on : Own .i64 W w.heap.size 2 vn ns
theorem rend {w W : World} {cs0 cs : Array Value} {vl vn : Value} {xs : List Lin} {ns : List Int} (hb : Blk W w.heap.size cs0 28) (hs : cs0.size = cs.size) (hl : Below w.heap.size w W) {B : Nat} (hB : w.heap.size + 1 ≤ B) (ol : OwnT encN W B 53 vl xs) (on : Own .i64 W B 2 vn ns) : REnd w (W.setCells w.heap.size 0 cs.toList) cs vl xs vn ns := by
  have hc : Chg w.heap.size W (W.setCells w.heap.size 0 cs.toList) := chg_put _ _ _ (Chg.refl _ W)
  refine ⟨hl.trans (hc.below (Nat.le_refl _) (by have := hl.size; omega)), blk_put_all hb cs hs, ?_, ?_⟩
  · exact (ol.stay (fun g hg => hc.2 g (ol.lt g hg) (by have := ol.block_ge g hg; omega))).less (by omega)
  · exact own_down (on.chgV hc (fun e => by have := on.block_ge _ e; omega)) (by omega)
set_option maxHeartbeats 8000000 in
set_option maxRecDepth 100000 in
theorem mread_any (vb : Value) (zs : List Int) (w : World) (hrow : Row .u8 w vb zs) (h8 : Oct zs) (hl : zs.length ≤ 140737488355000) : Calls Try.prog 14 #[vb] w fun e w' => ∃ vl vn, e = .returned (.tuple #[(rM zs).v vl vn, .int .i64 (rE zs)]) ∧ OwnT encN w' w.heap.size 53 vl (rM zs).ls ∧ Own .i64 w' w.heap.size 2 vn (rM zs).ns ∧ Below w.heap.size w w' := by
  obtain ⟨pb, cb, rfl⟩ := hrow.shape
  have HROW := Lib.hid hrow
  have H8 := Lib.hid h8
  generalize hzl : zs.length = nz at *
  have HZL := Lib.hid hzl
  clear hrow h8 hzl
  go_enter Try.func14, Try.ntmps14
  go_wp2_with fail
  have HB0 := Lib.hid (oneB w (.cells #[.int .i64 0, .int .i64 0, .int .i64 0, .int .i64 0, .int .i64 0, .int .i64 0, .int .i64 0, .int .i64 0, .bool false, .slice none 0 0, .slice none 0 0] 28))
  have HK0 := Lib.hid (Blk.new w #[.int .i64 0, .int .i64 0, .int .i64 0, .int .i64 0, .int .i64 0, .int .i64 0, .int .i64 0, .int .i64 0, .bool false, .slice none 0 0, .slice none 0 0] 28)
  generalize hW0 : w.alloc (.cells #[.int .i64 0, .int .i64 0, .int .i64 0, .int .i64 0, .int .i64 0, .int .i64 0, .int .i64 0, .int .i64 0, .bool false, .slice none 0 0, .slice none 0 0] 28) = W0 at *
  clear hW0
  refine (read_any _ zs W0 (HROW.out.kept HB0.out) (by rw [HZL.out]; exact hl)).mono ?_
  rintro y W1 ⟨g, g0, rfl, hr1, hg1, _, hb1⟩
  have HR1 := Lib.hid hr1
  have HK1 := Lib.hid (HK0.out.below hb1 HK0.out.lt)
  have HB1 := Lib.hid (HB0.out.trans (hb1.mono HB0.out.size))
  have HG1 : Hid (w.heap.size + 1 ≤ g) := by have := HK0.out.lt; show _ ≤ _; omega
  clear hr1 hg1 hb1 HK0 HB0
  go_wp2_with fail
  refine (from_any g g0 ⟨zs, 0⟩ W1 HR1.out ⟨H8.out, by rw [HZL.out]; omega⟩).mono ?_
  rintro y W2 ⟨vl, vn, g0', rfl, ol2, on2, hc2, hr2⟩
  have HS1 : Hid (w.heap.size + 1 ≤ W1.heap.size) := by have := HK1.out.lt; show _ ≤ _; omega
  have HK2 := Lib.hid (HK1.out.chg hc2 (by have := HG1.out; omega))
  have HB2 := Lib.hid (HB1.out.trans (hc2.below (B := w.heap.size) (by have := HG1.out; omega) (by have := HS1.out; omega)))
  have HOL := Lib.hid ol2
  have HON := Lib.hid on2
  have HGL := Lib.hid HR1.out.lt
  generalize W1.heap.size = B at *
  have HR2 := Lib.hid hr2
  clear ol2 on2 hc2 hr2 HK1 HB1 HR1
  obtain ⟨pl, cl, hvl⟩ := HOL.out.form
  obtain ⟨pn, cn, hvn⟩ := HON.out.form
  obtain ⟨m, hm⟩ : ∃ m, rdM ⟨zs, 0⟩ = m := ⟨_, rfl⟩
  rw [hm] at HOL HON hvl hvn ⊢
  have HM := Lib.hid hm
  clear hm
  generalize m.ls.length = nl at hvl
  generalize m.ns.length = nn at hvn
  subst hvl
  subst hvn
  unfold Msg.v
  have HK3 := Lib.hid (HK2.out.alloc (.cells #[.int .i64 m.k, .int .i64 m.s, .int .i64 m.n, .int .i64 m.b, .int .i64 m.c, .int .i64 m.r, .int .i64 m.y, .int .i64 m.a, .bool m.t, .slice pl nl cl, .slice pn nn cn] 28))
  have HB3 := Lib.hid (HB2.out.trans ((oneB W2 (.cells #[.int .i64 m.k, .int .i64 m.s, .int .i64 m.n, .int .i64 m.b, .int .i64 m.c, .int .i64 m.r, .int .i64 m.y, .int .i64 m.a, .bool m.t, .slice pl nl cl, .slice pn nn cn] 28)).mono HB2.out.size))
  have HM3 := Lib.hid (Blk.new W2 #[.int .i64 m.k, .int .i64 m.s, .int .i64 m.n, .int .i64 m.b, .int .i64 m.c, .int .i64 m.r, .int .i64 m.y, .int .i64 m.a, .bool m.t, .slice pl nl cl, .slice pn nn cn] 28)
  have HOL3 := Lib.hid (HOL.out.later (oneB W2 (.cells #[.int .i64 m.k, .int .i64 m.s, .int .i64 m.n, .int .i64 m.b, .int .i64 m.c, .int .i64 m.r, .int .i64 m.y, .int .i64 m.a, .bool m.t, .slice pl nl cl, .slice pn nn cn] 28)))
  have HON3 := Lib.hid (HON.out.later (oneB W2 (.cells #[.int .i64 m.k, .int .i64 m.s, .int .i64 m.n, .int .i64 m.b, .int .i64 m.c, .int .i64 m.r, .int .i64 m.y, .int .i64 m.a, .bool m.t, .slice pl nl cl, .slice pn nn cn] 28)))
  have HR3 := Lib.hid (HR2.out.below (oneB W2 (.cells #[.int .i64 m.k, .int .i64 m.s, .int .i64 m.n, .int .i64 m.b, .int .i64 m.c, .int .i64 m.r, .int .i64 m.y, .int .i64 m.a, .bool m.t, .slice pl nl cl, .slice pn nn cn] 28)))
  have HNE : Hid (W2.heap.size ≠ g) := by have := HR2.out.lt; show _ ≠ _; omega
  by_cases hE : rdE ⟨zs, 0⟩ = 0
  · have HE := Lib.hid hE
    have HRE := Lib.hid (rdR_e hE)
    rw [hE]
    clear hE
    go_wp2_with fail
    generalize hW3 : W2.alloc (.cells #[.int .i64 m.k, .int .i64 m.s, .int .i64 m.n, .int .i64 m.b, .int .i64 m.c, .int .i64 m.r, .int .i64 m.y, .int .i64 m.a, .bool m.t, .slice pl nl cl, .slice pn nn cn] 28) = W3 at *
    clear hW3 HK2 HB2 HOL HON HR2
    generalize hq : W2.heap.size = q at *
    clear hq
    refine (end_any g g0' (rdR ⟨zs, 0⟩).z (rdR ⟨zs, 0⟩).e W3 HR3.out (rdR_good (r := ⟨zs, 0⟩) ⟨H8.out, by rw [HZL.out]; omega⟩).2).mono ?_
    rintro y W4 ⟨rfl, hc4, _⟩
    rw [HRE.out]
    have HRR : Hid (rE zs = endE (rdR ⟨zs, 0⟩).z 0) := by show _ = _; unfold rE; rw [if_pos HE.out]
    have HK4 := Lib.hid (HK3.out.chg hc4 (by have := HG1.out; omega))
    have HB4 := Lib.hid (HB3.out.trans (hc4.below (B := w.heap.size) (by have := HG1.out; omega) HB3.out.size))
    have HM4 := Lib.hid (HM3.out.chg hc4 HNE.out)
    have HOL4 := Lib.hid (HOL3.out.stay (fun b hb => hc4.2 b (HOL3.out.lt b hb) (by have := HOL3.out.block_ge b hb; have := HGL.out; omega)))
    have HON4 := Lib.hid (HON3.out.chgV hc4 (fun e => by have := HON3.out.block_ge g e; have := HGL.out; omega))
    clear hc4 HR3 HK3 HB3 HM3 HOL3 HON3
    by_cases hZ : endE (rdR ⟨zs, 0⟩).z 0 = 0
    · have HRM : Hid (rE zs = 0 ∧ rM zs = m) := by
        have h1 : rE zs = 0 := HRR.out.trans hZ
        refine ⟨h1, ?_⟩
        unfold rM
        rw [if_pos h1, HM.out]
      rw [hZ]
      clear hZ
      have HTH : Hid (W4.there w.heap.size 0 11) := HK4.out.thereAt
      have HINF := Lib.hid (inf11 #[.int .i64 m.k, .int .i64 m.s, .int .i64 m.n, .int .i64 m.b, .int .i64 m.c, .int .i64 m.r, .int .i64 m.y, .int .i64 m.a, .bool m.t, .slice pl nl cl, .slice pn nn cn] rfl)
      have HFIN := Lib.hid (rend (cs := #[.int .i64 m.k, .int .i64 m.s, .int .i64 m.n, .int .i64 m.b, .int .i64 m.c, .int .i64 m.r, .int .i64 m.y, .int .i64 m.a, .bool m.t, .slice pl nl cl, .slice pn nn cn]) HK4.out rfl HB4.out HS1.out HOL4.out HON4.out)
      have hbm := HM4.out
      have cm0 : W4.cell? ⟨q, 0, none⟩ = some (.int .i64 m.k) := hbm.cell 0
      have cm1 : W4.cell? ⟨q, 1, none⟩ = some (.int .i64 m.s) := hbm.cell 1
      have cm2 : W4.cell? ⟨q, 2, none⟩ = some (.int .i64 m.n) := hbm.cell 2
      have cm3 : W4.cell? ⟨q, 3, none⟩ = some (.int .i64 m.b) := hbm.cell 3
      have cm4 : W4.cell? ⟨q, 4, none⟩ = some (.int .i64 m.c) := hbm.cell 4
      have cm5 : W4.cell? ⟨q, 5, none⟩ = some (.int .i64 m.r) := hbm.cell 5
      have cm6 : W4.cell? ⟨q, 6, none⟩ = some (.int .i64 m.y) := hbm.cell 6
      have cm7 : W4.cell? ⟨q, 7, none⟩ = some (.int .i64 m.a) := hbm.cell 7
      have cm8 : W4.cell? ⟨q, 8, none⟩ = some (.bool m.t) := hbm.cell 8
      have cm9 : W4.cell? ⟨q, 9, none⟩ = some (.slice pl nl cl) := hbm.cell 9
      have cm10 : W4.cell? ⟨q, 10, none⟩ = some (.slice pn nn cn) := hbm.cell 10
      clear hbm
      go_wp2_with (with_reducible refine stop_storeT 28 (.tmp 2) (.tmp 22) rfl ?_)
      refine wpList_store_mid rfl 28 (.tmp 2) (.tmp 22) rfl w.heap.size 0 #[.int .i64 m.k, .int .i64 m.s, .int .i64 m.n, .int .i64 m.b, .int .i64 m.c, .int .i64 m.r, .int .i64 m.y, .int .i64 m.a, .bool m.t, .slice pl nl cl, .slice pn nn cn] rfl rfl HTH.out HINF.out (one11 _ _ _ _ _ _ _ _ _ _ _ _ _ _ _) ?_
      generalize World.setCells _ w.heap.size 0 _ = W9 at *
      clear HTH HK4 HB4 HOL4 HON4 cm0 cm1 cm2 cm3 cm4 cm5 cm6 cm7 cm8 cm9 cm10
      go_wp2_with fail
      have hb2 := HFIN.out.b2
      refine bodyPost_ret (v := .tuple #[.agg #[.int .i64 m.k, .int .i64 m.s, .int .i64 m.n, .int .i64 m.b, .int .i64 m.c, .int .i64 m.r, .int .i64 m.y, .int .i64 m.a, .bool m.t, .slice pl nl cl, .slice pn nn cn], .int .i64 0]) (by simp [results, Try.results14, go_sem, hb2.cell 0, hb2.cell 1, hb2.cell 2, hb2.cell 3, hb2.cell 4, hb2.cell 5, hb2.cell 6, hb2.cell 7, hb2.cell 8, hb2.cell 9, hb2.cell 10]) rfl ?_
      rw [HRM.out.2, HRM.out.1]
      exact ⟨_, _, rfl, HFIN.out.ol, HFIN.out.on, HFIN.out.low⟩
    · have he : (endE (rdR ⟨zs, 0⟩).z 0 != 0) = true := by simpa using hZ
      have HRM : Hid (endE (rdR ⟨zs, 0⟩).z 0 = rE zs ∧ rM zs = msg0) := by
        refine ⟨HRR.out.symm, ?_⟩
        unfold rM
        rw [if_neg (by rw [HRR.out]; exact hZ)]
      clear hZ
      generalize endE (rdR ⟨zs, 0⟩).z 0 = E at *
      have HTH : Hid (W4.there w.heap.size 0 11) := HK4.out.thereAt
      have HINF := Lib.hid (inf11 #[.int .i64 0, .int .i64 0, .int .i64 0, .int .i64 0, .int .i64 0, .int .i64 0, .int .i64 0, .int .i64 0, .bool false, .slice none 0 0, .slice none 0 0] rfl)
      have HFIN := Lib.hid (rend (cs := #[.int .i64 0, .int .i64 0, .int .i64 0, .int .i64 0, .int .i64 0, .int .i64 0, .int .i64 0, .int .i64 0, .bool false, .slice none 0 0, .slice none 0 0]) HK4.out rfl HB4.out HS1.out HOL4.out HON4.out)
      go_wp2_with (with_reducible refine stop_storeT 28 (.tmp 2) (.tmp 20) rfl ?_)
      refine wpList_store_mid rfl 28 (.tmp 2) (.tmp 20) rfl w.heap.size 0 #[.int .i64 0, .int .i64 0, .int .i64 0, .int .i64 0, .int .i64 0, .int .i64 0, .int .i64 0, .int .i64 0, .bool false, .slice none 0 0, .slice none 0 0] rfl rfl HTH.out HINF.out (one11 _ _ _ _ _ _ _ _ _ _ _ _ _ _ _) ?_
      generalize World.setCells _ w.heap.size 0 _ = W9 at *
      clear HTH HK4 HB4 HOL4 HON4
      go_wp2_with fail
      have hb2 := HFIN.out.b2
      refine bodyPost_ret (v := .tuple #[.agg #[.int .i64 0, .int .i64 0, .int .i64 0, .int .i64 0, .int .i64 0, .int .i64 0, .int .i64 0, .int .i64 0, .bool false, .slice none 0 0, .slice none 0 0], .int .i64 E]) (by simp [results, Try.results14, go_sem, hb2.cell 0, hb2.cell 1, hb2.cell 2, hb2.cell 3, hb2.cell 4, hb2.cell 5, hb2.cell 6, hb2.cell 7, hb2.cell 8, hb2.cell 9, hb2.cell 10]) rfl ?_
      rw [HRM.out.2, ← HRM.out.1]
      exact ⟨_, _, rfl, OwnT.nil_ _ _ _ _, Own.nil_ _ _ _ _, HFIN.out.low⟩
  · have HRM : Hid (rdE ⟨zs, 0⟩ = rE zs ∧ rM zs = msg0) := by
      have h1 : rE zs = rdE ⟨zs, 0⟩ := by unfold rE; rw [if_neg hE]
      refine ⟨h1.symm, ?_⟩
      unfold rM
      rw [if_neg (by rw [h1]; exact hE)]
    have he : (rdE ⟨zs, 0⟩ == 0) = false := by simpa using hE
    have he2 : (rdE ⟨zs, 0⟩ != 0) = true := by simpa using hE
    clear hE
    generalize rdE ⟨zs, 0⟩ = E at *
    have HK4 := HK3
    have HB4 := HB3
    have HOL4 := HOL3
    have HON4 := HON3
    clear HR3 HK3 HB3 HM3 HOL3 HON3
    have HTH : Hid ((W2.alloc (.cells #[.int .i64 m.k, .int .i64 m.s, .int .i64 m.n, .int .i64 m.b, .int .i64 m.c, .int .i64 m.r, .int .i64 m.y, .int .i64 m.a, .bool m.t, .slice pl nl cl, .slice pn nn cn] 28)).there w.heap.size 0 11) := HK4.out.thereAt
    have HINF := Lib.hid (inf11 #[.int .i64 0, .int .i64 0, .int .i64 0, .int .i64 0, .int .i64 0, .int .i64 0, .int .i64 0, .int .i64 0, .bool false, .slice none 0 0, .slice none 0 0] rfl)
    have HFIN := Lib.hid (rend (cs := #[.int .i64 0, .int .i64 0, .int .i64 0, .int .i64 0, .int .i64 0, .int .i64 0, .int .i64 0, .int .i64 0, .bool false, .slice none 0 0, .slice none 0 0]) HK4.out rfl HB4.out HS1.out HOL4.out HON4.out)
    go_wp2_with (with_reducible refine stop_storeT 28 (.tmp 2) (.tmp 20) rfl ?_)
    refine wpList_store_mid rfl 28 (.tmp 2) (.tmp 20) rfl w.heap.size 0 #[.int .i64 0, .int .i64 0, .int .i64 0, .int .i64 0, .int .i64 0, .int .i64 0, .int .i64 0, .int .i64 0, .bool false, .slice none 0 0, .slice none 0 0] rfl rfl HTH.out HINF.out (one11 _ _ _ _ _ _ _ _ _ _ _ _ _ _ _) ?_
    generalize World.setCells _ w.heap.size 0 _ = W9 at *
    clear HTH HK4 HB4 HOL4 HON4
    go_wp2_with fail
    have hb2 := HFIN.out.b2
    refine bodyPost_ret (v := .tuple #[.agg #[.int .i64 0, .int .i64 0, .int .i64 0, .int .i64 0, .int .i64 0, .int .i64 0, .int .i64 0, .int .i64 0, .bool false, .slice none 0 0, .slice none 0 0], .int .i64 E]) (by simp [results, Try.results14, go_sem, hb2.cell 0, hb2.cell 1, hb2.cell 2, hb2.cell 3, hb2.cell 4, hb2.cell 5, hb2.cell 6, hb2.cell 7, hb2.cell 8, hb2.cell 9, hb2.cell 10]) rfl ?_
    rw [HRM.out.2, ← HRM.out.1]
    exact ⟨_, _, rfl, OwnT.nil_ _ _ _ _, Own.nil_ _ _ _ _, HFIN.out.low⟩
end Go.Proofs.Ytengkgpobckhjaa
