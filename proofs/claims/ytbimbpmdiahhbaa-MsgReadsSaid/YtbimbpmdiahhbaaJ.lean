/- msg.Read by contract. contraref11.Read by contract. contraref11.Same by contract: a message is the same as itself. msg.Write by contract. A row of bytes as a string. A message that was written is read as it was; of one byte more or less it is none. The first example of layer 11 is right. contralaw11.says and fits by contract. MsgReads: what was read is written in the same bytes. MsgReads: what is read fits, and is written without an error. MsgReads: the walk. -/
import Derived.Test.YtbimbpmdiahhbaaMsgFrom
import Derived.Test.YtbimbpmdiahhbaaRefFrom
import Derived.Test.YtbimbpmdiahhbaaMsgData
import Derived.Test.YtbimbpmdiahhbaaMem
import Derived.Deep.RegionHeld3
import Derived.Deep.CutRange
import Derived.Deep.CutBlock
import Derived.Test.YtbimbpmdiahhbaaMsgWritten
import Derived.Test.YtbimbpmdiahhbaaApp
import Derived.Laws.BytesArg
import Derived.Test.YtbimbpmdiahhbaaFromTail
namespace Go.Proofs.Ytbimbpmdiahhbaa
open Go.RowKit
set_option linter.unusedSimpArgs false
def rE (zs : List Int) : Int := if rdE ⟨zs, 0⟩ = 0 then endE (rdR ⟨zs, 0⟩).z 0 else rdE ⟨zs, 0⟩
def rM (zs : List Int) : Msg := if rE zs = 0 then rdM ⟨zs, 0⟩ else msg0
theorem rdR_e {r : RS} (h : rdE r = 0) : (rdR r).e = 0 := by
  unfold rdE at h
  unfold rdR
  split at h
  · cases h
  · rename_i hb
    rw [if_neg hb]; exact h
/-- The places at which Read ends. -/
structure REnd (w : World) (W : World) (cs : Array Value) (vl : Value) (xs : List Lin) (vn : Value) (ns : List Int) : Prop where
  low : Below w.heap.size w W
  b2 : Blk W w.heap.size cs 29
  ol : OwnT encN W w.heap.size 49 vl xs
  on : Own .i64 W w.heap.size 2 vn ns
theorem rend {w W : World} {cs0 cs : Array Value} {vl vn : Value} {xs : List Lin} {ns : List Int} (hb : Blk W w.heap.size cs0 29) (hs : cs0.size = cs.size) (hl : Below w.heap.size w W) {B : Nat} (hB : w.heap.size + 1 ≤ B) (ol : OwnT encN W B 49 vl xs) (on : Own .i64 W B 2 vn ns) : REnd w (W.setCells w.heap.size 0 cs.toList) cs vl xs vn ns := by
  have hc : Chg w.heap.size W (W.setCells w.heap.size 0 cs.toList) := chg_put _ _ _ (Chg.refl _ W)
  refine ⟨hl.trans (hc.below (Nat.le_refl _) (by have := hl.size; omega)), blk_put_all hb cs hs, ?_, ?_⟩
  · exact (ol.stay (fun g hg => hc.2 g (ol.lt g hg) (by have := ol.block_ge g hg; omega))).less (by omega)
  · exact own_down (on.chgV hc (fun e => by have := on.block_ge _ e; omega)) (by omega)
set_option maxHeartbeats 8000000 in
set_option maxRecDepth 100000 in
theorem mread_any (vb : Value) (zs : List Int) (w : World) (hrow : Row .u8 w vb zs) (h8 : Oct zs) (hl : zs.length ≤ 140737488355000) : Calls Try.prog 5 #[vb] w fun e w' => ∃ vl vn, e = .returned (.tuple #[(rM zs).v vl vn, .int .i64 (rE zs)]) ∧ OwnT encN w' w.heap.size 49 vl (rM zs).ls ∧ Own .i64 w' w.heap.size 2 vn (rM zs).ns ∧ Below w.heap.size w w' := by
  obtain ⟨pb, cb, rfl⟩ := hrow.shape
  have HROW := Lib.hid hrow
  have H8 := Lib.hid h8
  generalize hzl : zs.length = nz at *
  have HZL := Lib.hid hzl
  clear hrow h8 hzl
  go_enter Try.func5, Try.ntmps5
  go_wp2_with fail
  have HB0 := Lib.hid (oneB w (.cells #[.int .i64 0, .int .i64 0, .int .i64 0, .int .i64 0, .int .i64 0, .int .i64 0, .int .i64 0, .int .i64 0, .bool false, .slice none 0 0, .slice none 0 0] 29))
  have HK0 := Lib.hid (Blk.new w #[.int .i64 0, .int .i64 0, .int .i64 0, .int .i64 0, .int .i64 0, .int .i64 0, .int .i64 0, .int .i64 0, .bool false, .slice none 0 0, .slice none 0 0] 29)
  generalize hW0 : w.alloc (.cells #[.int .i64 0, .int .i64 0, .int .i64 0, .int .i64 0, .int .i64 0, .int .i64 0, .int .i64 0, .int .i64 0, .bool false, .slice none 0 0, .slice none 0 0] 29) = W0 at *
  clear hW0
  refine (read_any _ zs W0 (HROW.out.kept HB0.out) (by rw [HZL.out]; exact hl)).mono ?_
  rintro y W1 ⟨g, g0, rfl, hr1, hg1, _, hb1⟩
  have HR1 := Lib.hid hr1
  have HK1 := Lib.hid (HK0.out.below hb1 HK0.out.lt)
  have HB1 := Lib.hid (HB0.out.trans (hb1.mono HB0.out.size))
  have HG1 : Hid (w.heap.size + 1 ≤ g) := by have := HK0.out.lt; show _ ≤ _; omega
  clear hr1 hg1 hb1 HK0 HB0
  go_wp2_with fail
  refine (from_any g g0 ⟨zs, 0⟩ W1 HR1.out ⟨H8.out, by rw [HZL.out]; omega⟩).mono ?_
  rintro y W2 ⟨vl, vn, g0', rfl, ol2, on2, hc2, hr2⟩
  have HS1 : Hid (w.heap.size + 1 ≤ W1.heap.size) := by have := HK1.out.lt; show _ ≤ _; omega
  have HK2 := Lib.hid (HK1.out.chg hc2 (by have := HG1.out; omega))
  have HB2 := Lib.hid (HB1.out.trans (hc2.below (B := w.heap.size) (by have := HG1.out; omega) (by have := HS1.out; omega)))
  have HOL := Lib.hid ol2
  have HON := Lib.hid on2
  have HGL := Lib.hid HR1.out.lt
  generalize W1.heap.size = B at *
  have HR2 := Lib.hid hr2
  clear ol2 on2 hc2 hr2 HK1 HB1 HR1
  obtain ⟨pl, cl, hvl⟩ := HOL.out.form
  obtain ⟨pn, cn, hvn⟩ := HON.out.form
  obtain ⟨m, hm⟩ : ∃ m, rdM ⟨zs, 0⟩ = m := ⟨_, rfl⟩
  rw [hm] at HOL HON hvl hvn ⊢
  have HM := Lib.hid hm
  clear hm
  generalize m.ls.length = nl at hvl
  generalize m.ns.length = nn at hvn
  subst hvl
  subst hvn
  unfold Msg.v
  have HK3 := Lib.hid (HK2.out.alloc (.cells #[.int .i64 m.k, .int .i64 m.s, .int .i64 m.n, .int .i64 m.b, .int .i64 m.c, .int .i64 m.r, .int .i64 m.y, .int .i64 m.a, .bool m.t, .slice pl nl cl, .slice pn nn cn] 29))
  have HB3 := Lib.hid (HB2.out.trans ((oneB W2 (.cells #[.int .i64 m.k, .int .i64 m.s, .int .i64 m.n, .int .i64 m.b, .int .i64 m.c, .int .i64 m.r, .int .i64 m.y, .int .i64 m.a, .bool m.t, .slice pl nl cl, .slice pn nn cn] 29)).mono HB2.out.size))
  have HM3 := Lib.hid (Blk.new W2 #[.int .i64 m.k, .int .i64 m.s, .int .i64 m.n, .int .i64 m.b, .int .i64 m.c, .int .i64 m.r, .int .i64 m.y, .int .i64 m.a, .bool m.t, .slice pl nl cl, .slice pn nn cn] 29)
  have HOL3 := Lib.hid (HOL.out.later (oneB W2 (.cells #[.int .i64 m.k, .int .i64 m.s, .int .i64 m.n, .int .i64 m.b, .int .i64 m.c, .int .i64 m.r, .int .i64 m.y, .int .i64 m.a, .bool m.t, .slice pl nl cl, .slice pn nn cn] 29)))
  have HON3 := Lib.hid (HON.out.later (oneB W2 (.cells #[.int .i64 m.k, .int .i64 m.s, .int .i64 m.n, .int .i64 m.b, .int .i64 m.c, .int .i64 m.r, .int .i64 m.y, .int .i64 m.a, .bool m.t, .slice pl nl cl, .slice pn nn cn] 29)))
  have HR3 := Lib.hid (HR2.out.below (oneB W2 (.cells #[.int .i64 m.k, .int .i64 m.s, .int .i64 m.n, .int .i64 m.b, .int .i64 m.c, .int .i64 m.r, .int .i64 m.y, .int .i64 m.a, .bool m.t, .slice pl nl cl, .slice pn nn cn] 29)))
  have HNE : Hid (W2.heap.size ≠ g) := by have := HR2.out.lt; show _ ≠ _; omega
  by_cases hE : rdE ⟨zs, 0⟩ = 0
  · have HE := Lib.hid hE
    have HRE := Lib.hid (rdR_e hE)
    rw [hE]
    clear hE
    go_wp2_with fail
    generalize hW3 : W2.alloc (.cells #[.int .i64 m.k, .int .i64 m.s, .int .i64 m.n, .int .i64 m.b, .int .i64 m.c, .int .i64 m.r, .int .i64 m.y, .int .i64 m.a, .bool m.t, .slice pl nl cl, .slice pn nn cn] 29) = W3 at *
    clear hW3 HK2 HB2 HOL HON HR2
    generalize hq : W2.heap.size = q at *
    clear hq
    refine (end_any g g0' (rdR ⟨zs, 0⟩).z (rdR ⟨zs, 0⟩).e W3 HR3.out (rdR_good (r := ⟨zs, 0⟩) ⟨H8.out, by rw [HZL.out]; omega⟩).2).mono ?_
    rintro y W4 ⟨rfl, hc4, _⟩
    rw [HRE.out]
    have HRR : Hid (rE zs = endE (rdR ⟨zs, 0⟩).z 0) := by show _ = _; unfold rE; rw [if_pos HE.out]
    have HK4 := Lib.hid (HK3.out.chg hc4 (by have := HG1.out; omega))
    have HB4 := Lib.hid (HB3.out.trans (hc4.below (B := w.heap.size) (by have := HG1.out; omega) HB3.out.size))
    have HM4 := Lib.hid (HM3.out.chg hc4 HNE.out)
    have HOL4 := Lib.hid (HOL3.out.stay (fun b hb => hc4.2 b (HOL3.out.lt b hb) (by have := HOL3.out.block_ge b hb; have := HGL.out; omega)))
    have HON4 := Lib.hid (HON3.out.chgV hc4 (fun e => by have := HON3.out.block_ge g e; have := HGL.out; omega))
    clear hc4 HR3 HK3 HB3 HM3 HOL3 HON3
    by_cases hZ : endE (rdR ⟨zs, 0⟩).z 0 = 0
    · have HRM : Hid (rE zs = 0 ∧ rM zs = m) := by
        have h1 : rE zs = 0 := HRR.out.trans hZ
        refine ⟨h1, ?_⟩
        unfold rM
        rw [if_pos h1, HM.out]
      rw [hZ]
      clear hZ
      have HTH : Hid (W4.there w.heap.size 0 11) := HK4.out.thereAt
      have HINF := Lib.hid (inf11 #[.int .i64 m.k, .int .i64 m.s, .int .i64 m.n, .int .i64 m.b, .int .i64 m.c, .int .i64 m.r, .int .i64 m.y, .int .i64 m.a, .bool m.t, .slice pl nl cl, .slice pn nn cn] rfl)
      have HFIN := Lib.hid (rend (cs := #[.int .i64 m.k, .int .i64 m.s, .int .i64 m.n, .int .i64 m.b, .int .i64 m.c, .int .i64 m.r, .int .i64 m.y, .int .i64 m.a, .bool m.t, .slice pl nl cl, .slice pn nn cn]) HK4.out rfl HB4.out HS1.out HOL4.out HON4.out)
      have hbm := HM4.out
      have cm0 : W4.cell? ⟨q, 0, none⟩ = some (.int .i64 m.k) := hbm.cell 0
      have cm1 : W4.cell? ⟨q, 1, none⟩ = some (.int .i64 m.s) := hbm.cell 1
      have cm2 : W4.cell? ⟨q, 2, none⟩ = some (.int .i64 m.n) := hbm.cell 2
      have cm3 : W4.cell? ⟨q, 3, none⟩ = some (.int .i64 m.b) := hbm.cell 3
      have cm4 : W4.cell? ⟨q, 4, none⟩ = some (.int .i64 m.c) := hbm.cell 4
      have cm5 : W4.cell? ⟨q, 5, none⟩ = some (.int .i64 m.r) := hbm.cell 5
      have cm6 : W4.cell? ⟨q, 6, none⟩ = some (.int .i64 m.y) := hbm.cell 6
      have cm7 : W4.cell? ⟨q, 7, none⟩ = some (.int .i64 m.a) := hbm.cell 7
      have cm8 : W4.cell? ⟨q, 8, none⟩ = some (.bool m.t) := hbm.cell 8
      have cm9 : W4.cell? ⟨q, 9, none⟩ = some (.slice pl nl cl) := hbm.cell 9
      have cm10 : W4.cell? ⟨q, 10, none⟩ = some (.slice pn nn cn) := hbm.cell 10
      clear hbm
      go_wp2_with (with_reducible refine stop_storeT 29 (.tmp 2) (.tmp 22) rfl ?_)
      refine wpList_store_mid rfl 29 (.tmp 2) (.tmp 22) rfl w.heap.size 0 #[.int .i64 m.k, .int .i64 m.s, .int .i64 m.n, .int .i64 m.b, .int .i64 m.c, .int .i64 m.r, .int .i64 m.y, .int .i64 m.a, .bool m.t, .slice pl nl cl, .slice pn nn cn] rfl rfl HTH.out HINF.out (one11 _ _ _ _ _ _ _ _ _ _ _ _ _ _ _) ?_
      generalize World.setCells _ w.heap.size 0 _ = W9 at *
      clear HTH HK4 HB4 HOL4 HON4 cm0 cm1 cm2 cm3 cm4 cm5 cm6 cm7 cm8 cm9 cm10
      go_wp2_with fail
      have hb2 := HFIN.out.b2
      refine bodyPost_ret (v := .tuple #[.agg #[.int .i64 m.k, .int .i64 m.s, .int .i64 m.n, .int .i64 m.b, .int .i64 m.c, .int .i64 m.r, .int .i64 m.y, .int .i64 m.a, .bool m.t, .slice pl nl cl, .slice pn nn cn], .int .i64 0]) (by simp [results, Try.results5, go_sem, hb2.cell 0, hb2.cell 1, hb2.cell 2, hb2.cell 3, hb2.cell 4, hb2.cell 5, hb2.cell 6, hb2.cell 7, hb2.cell 8, hb2.cell 9, hb2.cell 10]) rfl ?_
      rw [HRM.out.2, HRM.out.1]
      exact ⟨_, _, rfl, HFIN.out.ol, HFIN.out.on, HFIN.out.low⟩
    · have he : (endE (rdR ⟨zs, 0⟩).z 0 != 0) = true := by simpa using hZ
      have HRM : Hid (endE (rdR ⟨zs, 0⟩).z 0 = rE zs ∧ rM zs = msg0) := by
        refine ⟨HRR.out.symm, ?_⟩
        unfold rM
        rw [if_neg (by rw [HRR.out]; exact hZ)]
      clear hZ
      generalize endE (rdR ⟨zs, 0⟩).z 0 = E at *
      have HTH : Hid (W4.there w.heap.size 0 11) := HK4.out.thereAt
      have HINF := Lib.hid (inf11 #[.int .i64 0, .int .i64 0, .int .i64 0, .int .i64 0, .int .i64 0, .int .i64 0, .int .i64 0, .int .i64 0, .bool false, .slice none 0 0, .slice none 0 0] rfl)
      have HFIN := Lib.hid (rend (cs := #[.int .i64 0, .int .i64 0, .int .i64 0, .int .i64 0, .int .i64 0, .int .i64 0, .int .i64 0, .int .i64 0, .bool false, .slice none 0 0, .slice none 0 0]) HK4.out rfl HB4.out HS1.out HOL4.out HON4.out)
      go_wp2_with (with_reducible refine stop_storeT 29 (.tmp 2) (.tmp 20) rfl ?_)
      refine wpList_store_mid rfl 29 (.tmp 2) (.tmp 20) rfl w.heap.size 0 #[.int .i64 0, .int .i64 0, .int .i64 0, .int .i64 0, .int .i64 0, .int .i64 0, .int .i64 0, .int .i64 0, .bool false, .slice none 0 0, .slice none 0 0] rfl rfl HTH.out HINF.out (one11 _ _ _ _ _ _ _ _ _ _ _ _ _ _ _) ?_
      generalize World.setCells _ w.heap.size 0 _ = W9 at *
      clear HTH HK4 HB4 HOL4 HON4
      go_wp2_with fail
      have hb2 := HFIN.out.b2
      refine bodyPost_ret (v := .tuple #[.agg #[.int .i64 0, .int .i64 0, .int .i64 0, .int .i64 0, .int .i64 0, .int .i64 0, .int .i64 0, .int .i64 0, .bool false, .slice none 0 0, .slice none 0 0], .int .i64 E]) (by simp [results, Try.results5, go_sem, hb2.cell 0, hb2.cell 1, hb2.cell 2, hb2.cell 3, hb2.cell 4, hb2.cell 5, hb2.cell 6, hb2.cell 7, hb2.cell 8, hb2.cell 9, hb2.cell 10]) rfl ?_
      rw [HRM.out.2, ← HRM.out.1]
      exact ⟨_, _, rfl, OwnT.nil_ _ _ _ _, Own.nil_ _ _ _ _, HFIN.out.low⟩
  · have HRM : Hid (rdE ⟨zs, 0⟩ = rE zs ∧ rM zs = msg0) := by
      have h1 : rE zs = rdE ⟨zs, 0⟩ := by unfold rE; rw [if_neg hE]
      refine ⟨h1.symm, ?_⟩
      unfold rM
      rw [if_neg (by rw [h1]; exact hE)]
    have he : (rdE ⟨zs, 0⟩ == 0) = false := by simpa using hE
    have he2 : (rdE ⟨zs, 0⟩ != 0) = true := by simpa using hE
    clear hE
    generalize rdE ⟨zs, 0⟩ = E at *
    have HK4 := HK3
    have HB4 := HB3
    have HOL4 := HOL3
    have HON4 := HON3
    clear HR3 HK3 HB3 HM3 HOL3 HON3
    have HTH : Hid ((W2.alloc (.cells #[.int .i64 m.k, .int .i64 m.s, .int .i64 m.n, .int .i64 m.b, .int .i64 m.c, .int .i64 m.r, .int .i64 m.y, .int .i64 m.a, .bool m.t, .slice pl nl cl, .slice pn nn cn] 29)).there w.heap.size 0 11) := HK4.out.thereAt
    have HINF := Lib.hid (inf11 #[.int .i64 0, .int .i64 0, .int .i64 0, .int .i64 0, .int .i64 0, .int .i64 0, .int .i64 0, .int .i64 0, .bool false, .slice none 0 0, .slice none 0 0] rfl)
    have HFIN := Lib.hid (rend (cs := #[.int .i64 0, .int .i64 0, .int .i64 0, .int .i64 0, .int .i64 0, .int .i64 0, .int .i64 0, .int .i64 0, .bool false, .slice none 0 0, .slice none 0 0]) HK4.out rfl HB4.out HS1.out HOL4.out HON4.out)
    go_wp2_with (with_reducible refine stop_storeT 29 (.tmp 2) (.tmp 20) rfl ?_)
    refine wpList_store_mid rfl 29 (.tmp 2) (.tmp 20) rfl w.heap.size 0 #[.int .i64 0, .int .i64 0, .int .i64 0, .int .i64 0, .int .i64 0, .int .i64 0, .int .i64 0, .int .i64 0, .bool false, .slice none 0 0, .slice none 0 0] rfl rfl HTH.out HINF.out (one11 _ _ _ _ _ _ _ _ _ _ _ _ _ _ _) ?_
    generalize World.setCells _ w.heap.size 0 _ = W9 at *
    clear HTH HK4 HB4 HOL4 HON4
    go_wp2_with fail
    have hb2 := HFIN.out.b2
    refine bodyPost_ret (v := .tuple #[.agg #[.int .i64 0, .int .i64 0, .int .i64 0, .int .i64 0, .int .i64 0, .int .i64 0, .int .i64 0, .int .i64 0, .bool false, .slice none 0 0, .slice none 0 0], .int .i64 E]) (by simp [results, Try.results5, go_sem, hb2.cell 0, hb2.cell 1, hb2.cell 2, hb2.cell 3, hb2.cell 4, hb2.cell 5, hb2.cell 6, hb2.cell 7, hb2.cell 8, hb2.cell 9, hb2.cell 10]) rfl ?_
    rw [HRM.out.2, ← HRM.out.1]
    exact ⟨_, _, rfl, OwnT.nil_ _ _ _ _, Own.nil_ _ _ _ _, HFIN.out.low⟩
end Go.Proofs.Ytbimbpmdiahhbaa
namespace Go.Proofs.Ytbimbpmdiahhbaa
open Go.RowKit
set_option linter.unusedSimpArgs false
/-- Blocks from lo to hi are as they were. -/
def Mid (lo hi : Nat) (w1 w' : World) : Prop := hi ≤ w'.heap.size ∧ ∀ b, lo ≤ b → b < hi → w'.heap[b]? = w1.heap[b]?
theorem Mid.kept {lo hi : Nat} {w1 w' w2 : World} (h : Mid lo hi w1 w') (hb : Below w'.heap.size w' w2) : Mid lo hi w1 w2 := ⟨Nat.le_trans h.1 hb.size, fun b h1 h2 => (hb.block b (Nat.lt_of_lt_of_le h2 h.1)).trans (h.2 b h1 h2)⟩
theorem Mid.chg {lo hi g : Nat} {w1 w' w2 : World} (h : Mid lo hi w1 w') (hc : Chg g w' w2) (hg : g < lo ∨ hi ≤ g) : Mid lo hi w1 w2 := ⟨Nat.le_trans h.1 hc.size, fun b h1 h2 => (hc.2 b (Nat.lt_of_lt_of_le h2 h.1) (by omega)).trans (h.2 b h1 h2)⟩
theorem tie_first {s : ByteArray} {zs : List Int} (ho : Oct zs) (hs : s = strOfNums zs) (hl : zs.length ≤ 20000) : TieR s 0 ⟨zs, 0⟩ := by
  subst hs
  exact ⟨Nat.zero_le _, by rw [strOfNums_size]; exact hl, ho, hl, fun _ => by rw [bytesOf_str ho]; rfl⟩
theorem rE_end {zs : List Int} : rE zs = endE (rdR ⟨zs, 0⟩).z (rdE ⟨zs, 0⟩) ∨ rdE ⟨zs, 0⟩ ≠ 0 := by
  unfold rE
  split
  · rename_i h; rw [h]; exact .inl rfl
  · rename_i h; exact .inr h
set_option maxHeartbeats 4000000 in
set_option maxRecDepth 100000 in
theorem refmread_any (w : World) (s : ByteArray) (zs : List Int) (ho : Oct zs) (hs : s = strOfNums zs) (hl : zs.length ≤ 20000) : Calls Try.prog 6 #[.string s] w fun e w' => ∃ vl vn, e = .returned (.tuple #[(rM zs).v vl vn, .int .i64 (rE zs)]) ∧ OwnT encN w' w.heap.size 49 vl (rM zs).ls ∧ Own .i64 w' w.heap.size 2 vn (rM zs).ns ∧ Below w.heap.size w w' := by
  have HT := Lib.hid (tie_first ho hs hl)
  clear ho hs hl
  have HB0 : Hid (Below w.heap.size w (w.alloc (.cells #[.int .i64 0, .int .i64 0, .int .i64 0, .int .i64 0, .int .i64 0, .int .i64 0, .int .i64 0, .int .i64 0, .bool false, .slice none 0 0, .slice none 0 0] 29))) := Lib.hid ((oneB w _))
  have Hm0 : Hid (Blk (w.alloc (.cells #[.int .i64 0, .int .i64 0, .int .i64 0, .int .i64 0, .int .i64 0, .int .i64 0, .int .i64 0, .int .i64 0, .bool false, .slice none 0 0, .slice none 0 0] 29)) w.heap.size #[.int .i64 0, .int .i64 0, .int .i64 0, .int .i64 0, .int .i64 0, .int .i64 0, .int .i64 0, .int .i64 0, .bool false, .slice none 0 0, .slice none 0 0] 29) := Lib.hid (Blk.new w #[.int .i64 0, .int .i64 0, .int .i64 0, .int .i64 0, .int .i64 0, .int .i64 0, .int .i64 0, .int .i64 0, .bool false, .slice none 0 0, .slice none 0 0] 29)
  have HZ0 : Hid (w.heap.size ≤ (w.alloc (.cells #[.int .i64 0, .int .i64 0, .int .i64 0, .int .i64 0, .int .i64 0, .int .i64 0, .int .i64 0, .int .i64 0, .bool false, .slice none 0 0, .slice none 0 0] 29)).heap.size) := Lib.hid HB0.out.size
  go_enter Try.func6, Try.ntmps6
  go_upto_region 1 with fail
  generalize (w.alloc (.cells #[.int .i64 0, .int .i64 0, .int .i64 0, .int .i64 0, .int .i64 0, .int .i64 0, .int .i64 0, .int .i64 0, .bool false, .slice none 0 0, .slice none 0 0] 29)) = W at *
  have HGL : Hid (w.heap.size < W.heap.size) := Lib.hid Hm0.out.lt
  have HG := Lib.hid (reffrom_any W s 0 ⟨zs, 0⟩ HT.out)
  unfold FromD rdV at HG
  go_wp2_with fail
  refine HG.out.mono ?_
  rintro y9 w1 ⟨a, vl, vn, rfl, hol, hon, htr, hb⟩
  clear HG
  have HGW : Hid (W.heap.size ≤ w1.heap.size) := Lib.hid hb.size
  have Hm1 := Lib.hid (Hm0.out.below hb Hm0.out.lt)
  have HB1 := Lib.hid (HB0.out.trans (hb.mono HB0.out.size))
  have HZ1 : Hid (w.heap.size ≤ w1.heap.size) := Lib.hid (Nat.le_trans HZ0.out hb.size)
  clear Hm0 HB0 HZ0
  clear hb
  have HTR := Lib.hid htr
  clear htr
  obtain ⟨pl, cl, hvl⟩ := hol.form
  obtain ⟨pn, cn, hvn⟩ := hon.form
  obtain ⟨m, hm⟩ : ∃ m, rdM ⟨zs, 0⟩ = m := ⟨_, rfl⟩
  obtain ⟨e0, he0⟩ : ∃ z, rdE ⟨zs, 0⟩ = z := ⟨_, rfl⟩
  rw [hm] at hol hon hvl hvn ⊢
  rw [he0] at HTR ⊢
  have HME := Lib.hid (And.intro hm he0)
  clear hm he0
  obtain ⟨nl, hnl⟩ : ∃ z, m.ls.length = z := ⟨_, rfl⟩
  obtain ⟨nn, hnn⟩ : ∃ z, m.ns.length = z := ⟨_, rfl⟩
  rw [hnl] at hvl
  rw [hnn] at hvn
  subst hvl
  subst hvn
  clear hnl hnn
  have HOL := Lib.hid hol
  have HON := Lib.hid hon
  clear hol hon
  unfold Msg.v
  go_upto_region 2 with fail
  have hba : Below w1.heap.size w1 ((w1.alloc (.cells #[.string s, .int .i64 a, .int .i64 e0] 44)).alloc (.cells #[.int .i64 m.k, .int .i64 m.s, .int .i64 m.n, .int .i64 m.b, .int .i64 m.c, .int .i64 m.r, .int .i64 m.y, .int .i64 m.a, .bool m.t, .slice pl nl cl, .slice pn nn cn] 29)) := (oneB w1 (.cells #[.string s, .int .i64 a, .int .i64 e0] 44)).alloc (by simp) _
  have Hm2 := Lib.hid (Hm1.out.below hba Hm1.out.lt)
  have Hr2 : Hid (Blk ((w1.alloc (.cells #[.string s, .int .i64 a, .int .i64 e0] 44)).alloc (.cells #[.int .i64 m.k, .int .i64 m.s, .int .i64 m.n, .int .i64 m.b, .int .i64 m.c, .int .i64 m.r, .int .i64 m.y, .int .i64 m.a, .bool m.t, .slice pl nl cl, .slice pn nn cn] 29)) w1.heap.size #[.string s, .int .i64 a, .int .i64 e0] 44) := Lib.hid ((Blk.new w1 #[.string s, .int .i64 a, .int .i64 e0] 44).alloc _)
  have Hc2 : Hid (Blk ((w1.alloc (.cells #[.string s, .int .i64 a, .int .i64 e0] 44)).alloc (.cells #[.int .i64 m.k, .int .i64 m.s, .int .i64 m.n, .int .i64 m.b, .int .i64 m.c, .int .i64 m.r, .int .i64 m.y, .int .i64 m.a, .bool m.t, .slice pl nl cl, .slice pn nn cn] 29)) (w1.heap.size + 1) #[.int .i64 m.k, .int .i64 m.s, .int .i64 m.n, .int .i64 m.b, .int .i64 m.c, .int .i64 m.r, .int .i64 m.y, .int .i64 m.a, .bool m.t, .slice pl nl cl, .slice pn nn cn] 29) := Lib.hid (by have h1 := Blk.new (w1.alloc (.cells #[.string s, .int .i64 a, .int .i64 e0] 44)) #[.int .i64 m.k, .int .i64 m.s, .int .i64 m.n, .int .i64 m.b, .int .i64 m.c, .int .i64 m.r, .int .i64 m.y, .int .i64 m.a, .bool m.t, .slice pl nl cl, .slice pn nn cn] 29; rw [show (w1.alloc (.cells #[.string s, .int .i64 a, .int .i64 e0] 44)).heap.size = w1.heap.size + 1 from by simp] at h1; exact h1)
  have HB2 := Lib.hid (HB1.out.trans (hba.mono HB1.out.size))
  have HZ2 : Hid (w.heap.size ≤ ((w1.alloc (.cells #[.string s, .int .i64 a, .int .i64 e0] 44)).alloc (.cells #[.int .i64 m.k, .int .i64 m.s, .int .i64 m.n, .int .i64 m.b, .int .i64 m.c, .int .i64 m.r, .int .i64 m.y, .int .i64 m.a, .bool m.t, .slice pl nl cl, .slice pn nn cn] 29)).heap.size) := Lib.hid HB2.out.size
  have Qk2 : Hid (Mid W.heap.size w1.heap.size w1 ((w1.alloc (.cells #[.string s, .int .i64 a, .int .i64 e0] 44)).alloc (.cells #[.int .i64 m.k, .int .i64 m.s, .int .i64 m.n, .int .i64 m.b, .int .i64 m.c, .int .i64 m.r, .int .i64 m.y, .int .i64 m.a, .bool m.t, .slice pl nl cl, .slice pn nn cn] 29))) := Lib.hid (Mid.kept ⟨Nat.le_refl _, fun _ _ _ => rfl⟩ hba)
  clear hba Hm1 HB1 HZ1
  generalize ((w1.alloc (.cells #[.string s, .int .i64 a, .int .i64 e0] 44)).alloc (.cells #[.int .i64 m.k, .int .i64 m.s, .int .i64 m.n, .int .i64 m.b, .int .i64 m.c, .int .i64 m.r, .int .i64 m.y, .int .i64 m.a, .bool m.t, .slice pl nl cl, .slice pn nn cn] 29)) = W2 at *
  have x0 : W2.cell? ⟨w1.heap.size, 0, none⟩ = some (.string s) := Hr2.out.cell 0
  have x1 : W2.cell? ⟨w1.heap.size, 1, none⟩ = some (.int .i64 a) := Hr2.out.cell 1
  have x2 : W2.cell? ⟨w1.heap.size, 2, none⟩ = some (.int .i64 e0) := Hr2.out.cell 2
  by_cases hE : e0 = 0
  · skip
    subst hE
    have HG := Lib.hid (end_tie s a (rdR ⟨zs, 0⟩) W2 (HTR.out rfl))
    have HRE : Hid ((rdR ⟨zs, 0⟩).e = 0) := Lib.hid (rdR_e HME.out.2)
    unfold rdV at HG
    rw [HRE.out] at HG
    obtain ⟨e1, he1⟩ : ∃ z, endE (rdR ⟨zs, 0⟩).z 0 = z := ⟨_, rfl⟩
    rw [he1] at HG
    have HE1 : Hid (rE zs = e1) := Lib.hid (by unfold rE; rw [if_pos HME.out.2]; exact he1)
    clear he1
    go_wp2_with fail
    clear x0 x1 x2
    refine HG.out.mono ?_
    rintro y9 w3 ⟨rfl, hb⟩
    clear HG
    have Hm3 := Lib.hid (Hm2.out.below hb Hm2.out.lt)
    have Hr3 := Lib.hid (Hr2.out.below hb Hr2.out.lt)
    have Hc3 := Lib.hid (Hc2.out.below hb Hc2.out.lt)
    have Qk3 := Lib.hid (Qk2.out.kept hb)
    have HB3 := Lib.hid (HB2.out.trans (hb.mono HB2.out.size))
    have HZ3 : Hid (w.heap.size ≤ w3.heap.size) := Lib.hid (Nat.le_trans HZ2.out hb.size)
    clear Hm2 Hr2 Hc2 Qk2 HB2 HZ2
    clear hb
    go_wp2_with (with_reducible refine stop_storeT 44 (.tmp 4) (.tmp 13) rfl ?_)
    have HTH : Hid (w3.there w1.heap.size 0 3) := Hr3.out.thereAt
    have hch : Hid (Chg w1.heap.size w3 (w3.setCells w1.heap.size 0 (#[.string s, .int .i64 a, .int .i64 e1] : Array Value).toList)) := Lib.hid (chg_putL _ _ _ _ _ (Chg.refl _ w3))
    have Hr4 : Hid (Blk (w3.setCells w1.heap.size 0 (#[.string s, .int .i64 a, .int .i64 e1] : Array Value).toList) w1.heap.size #[.string s, .int .i64 a, .int .i64 e1] 44) := Lib.hid (blk_put_all Hr3.out _ rfl)
    have HB4 : Hid (Below w.heap.size w (w3.setCells w1.heap.size 0 (#[.string s, .int .i64 a, .int .i64 e1] : Array Value).toList)) := Lib.hid (below_put (by have h9 := HGL.out; have h8 := HGW.out; omega) _ _ _ _ HB3.out)
    have HZ4 : Hid (w.heap.size ≤ (w3.setCells w1.heap.size 0 (#[.string s, .int .i64 a, .int .i64 e1] : Array Value).toList).heap.size) := Lib.hid (Nat.le_trans HZ3.out hch.out.size)
    have Hm4 := Lib.hid (Hm3.out.chg hch.out (by have h9 := HGL.out; have h8 := HGW.out; omega))
    have Hc4 := Lib.hid (Hc3.out.chg hch.out (by have h9 := HGL.out; have h8 := HGW.out; omega))
    have Qk4 := Lib.hid (Qk3.out.chg hch.out (.inr (by omega)))
    clear hch Hm3 Hr3 Hc3 Qk3 HB3 HZ3
    refine wpList_store_mid rfl 44 (.tmp 4) (.tmp 13) rfl w1.heap.size 0 #[.string s, .int .i64 a, .int .i64 e1] rfl rfl HTH.out (infoRd rfl) (all_oneCell_toArray (by intro u hu; simp at hu; rcases hu with rfl | rfl | rfl <;> rfl)) ?_
    generalize (w3.setCells w1.heap.size 0 (#[.string s, .int .i64 a, .int .i64 e1] : Array Value).toList) = W4 at *
    clear HTH
    by_cases hE : e1 = 0
    · skip
      subst hE
      have HRM : Hid (rM zs = m) := Lib.hid (by unfold rM; rw [if_pos HE1.out]; exact HME.out.1)
      have x2 : W4.cell? ⟨w1.heap.size, 2, none⟩ = some (.int .i64 0) := Hr4.out.cell 2
      have d0 : W4.cell? ⟨(w1.heap.size + 1), 0, none⟩ = some (.int .i64 m.k) := Hc4.out.cell 0
      have d1 : W4.cell? ⟨(w1.heap.size + 1), 1, none⟩ = some (.int .i64 m.s) := Hc4.out.cell 1
      have d2 : W4.cell? ⟨(w1.heap.size + 1), 2, none⟩ = some (.int .i64 m.n) := Hc4.out.cell 2
      have d3 : W4.cell? ⟨(w1.heap.size + 1), 3, none⟩ = some (.int .i64 m.b) := Hc4.out.cell 3
      have d4 : W4.cell? ⟨(w1.heap.size + 1), 4, none⟩ = some (.int .i64 m.c) := Hc4.out.cell 4
      have d5 : W4.cell? ⟨(w1.heap.size + 1), 5, none⟩ = some (.int .i64 m.r) := Hc4.out.cell 5
      have d6 : W4.cell? ⟨(w1.heap.size + 1), 6, none⟩ = some (.int .i64 m.y) := Hc4.out.cell 6
      have d7 : W4.cell? ⟨(w1.heap.size + 1), 7, none⟩ = some (.int .i64 m.a) := Hc4.out.cell 7
      have d8 : W4.cell? ⟨(w1.heap.size + 1), 8, none⟩ = some (.bool m.t) := Hc4.out.cell 8
      have d9 : W4.cell? ⟨(w1.heap.size + 1), 9, none⟩ = some (.slice pl nl cl) := Hc4.out.cell 9
      have d10 : W4.cell? ⟨(w1.heap.size + 1), 10, none⟩ = some (.slice pn nn cn) := Hc4.out.cell 10
      go_wp2_with (with_reducible refine stop_storeT 29 (.tmp 2) (.tmp 20) rfl ?_)
      clear x2 d0 d1 d2 d3 d4 d5 d6 d7 d8 d9 d10
      have HTH : Hid (W4.there w.heap.size 0 11) := Hm4.out.thereAt
      have hch : Hid (Chg w.heap.size W4 (W4.setCells w.heap.size 0 (#[.int .i64 m.k, .int .i64 m.s, .int .i64 m.n, .int .i64 m.b, .int .i64 m.c, .int .i64 m.r, .int .i64 m.y, .int .i64 m.a, .bool m.t, .slice pl nl cl, .slice pn nn cn] : Array Value).toList)) := Lib.hid (chg_putL _ _ _ _ _ (Chg.refl _ W4))
      have Hm5 : Hid (Blk (W4.setCells w.heap.size 0 (#[.int .i64 m.k, .int .i64 m.s, .int .i64 m.n, .int .i64 m.b, .int .i64 m.c, .int .i64 m.r, .int .i64 m.y, .int .i64 m.a, .bool m.t, .slice pl nl cl, .slice pn nn cn] : Array Value).toList) w.heap.size #[.int .i64 m.k, .int .i64 m.s, .int .i64 m.n, .int .i64 m.b, .int .i64 m.c, .int .i64 m.r, .int .i64 m.y, .int .i64 m.a, .bool m.t, .slice pl nl cl, .slice pn nn cn] 29) := Lib.hid (blk_put_all Hm4.out _ rfl)
      have HB5 : Hid (Below w.heap.size w (W4.setCells w.heap.size 0 (#[.int .i64 m.k, .int .i64 m.s, .int .i64 m.n, .int .i64 m.b, .int .i64 m.c, .int .i64 m.r, .int .i64 m.y, .int .i64 m.a, .bool m.t, .slice pl nl cl, .slice pn nn cn] : Array Value).toList)) := Lib.hid (below_put (by have h9 := HGL.out; have h8 := HGW.out; omega) _ _ _ _ HB4.out)
      have HZ5 : Hid (w.heap.size ≤ (W4.setCells w.heap.size 0 (#[.int .i64 m.k, .int .i64 m.s, .int .i64 m.n, .int .i64 m.b, .int .i64 m.c, .int .i64 m.r, .int .i64 m.y, .int .i64 m.a, .bool m.t, .slice pl nl cl, .slice pn nn cn] : Array Value).toList).heap.size) := Lib.hid (Nat.le_trans HZ4.out hch.out.size)
      have Hr5 := Lib.hid (Hr4.out.chg hch.out (by have h9 := HGL.out; have h8 := HGW.out; omega))
      have Hc5 := Lib.hid (Hc4.out.chg hch.out (by have h9 := HGL.out; have h8 := HGW.out; omega))
      have Qk5 := Lib.hid (Qk4.out.chg hch.out (.inl HGL.out))
      clear hch Hm4 Hr4 Hc4 Qk4 HB4 HZ4
      refine wpList_store_mid rfl 29 (.tmp 2) (.tmp 20) rfl w.heap.size 0 #[.int .i64 m.k, .int .i64 m.s, .int .i64 m.n, .int .i64 m.b, .int .i64 m.c, .int .i64 m.r, .int .i64 m.y, .int .i64 m.a, .bool m.t, .slice pl nl cl, .slice pn nn cn] rfl rfl HTH.out (infM rfl) (one11 _ _ _ _ _ _ _ _ _ _ _ _ _ _ _) ?_
      generalize (W4.setCells w.heap.size 0 (#[.int .i64 m.k, .int .i64 m.s, .int .i64 m.n, .int .i64 m.b, .int .i64 m.c, .int .i64 m.r, .int .i64 m.y, .int .i64 m.a, .bool m.t, .slice pl nl cl, .slice pn nn cn] : Array Value).toList) = X1 at *
      clear HTH
      go_wp2_with fail
      have hfm := Hm5.out
      refine bodyPost_ret (v := .tuple #[.agg #[.int .i64 m.k, .int .i64 m.s, .int .i64 m.n, .int .i64 m.b, .int .i64 m.c, .int .i64 m.r, .int .i64 m.y, .int .i64 m.a, .bool m.t, .slice pl nl cl, .slice pn nn cn], .int .i64 0]) (by simp [results, Try.results6, go_sem, hfm.cell 0, hfm.cell 1, hfm.cell 2, hfm.cell 3, hfm.cell 4, hfm.cell 5, hfm.cell 6, hfm.cell 7, hfm.cell 8, hfm.cell 9, hfm.cell 10]) rfl ?_
      rw [HRM.out, HE1.out]
      refine ⟨.slice pl nl cl, .slice pn nn cn, rfl, ?_, ?_, HB5.out⟩
      · exact (HOL.out.stay (fun b hb => Qk5.out.2 b (HOL.out.block_ge b hb) (HOL.out.lt b hb))).less (Nat.le_of_lt HGL.out)
      · exact own_down (Own.stayV HON.out (fun b hb => Qk5.out.2 b (Own.block_ge HON.out b hb) (Own.lt HON.out b hb))) (Nat.le_of_lt HGL.out)
    · skip
      have he2 : (e1 != 0) = true := by simpa using hE
      have HRM : Hid (rM zs = msg0 ∧ rE zs = e1) := Lib.hid ⟨by unfold rM; rw [if_neg (by rw [HE1.out]; exact hE)], HE1.out⟩
      clear hE
      have x2 : W4.cell? ⟨w1.heap.size, 2, none⟩ = some (.int .i64 e1) := Hr4.out.cell 2
      go_upto_region 4 with fail
      clear x2
      have hbd := (Below.refl W4.heap.size W4).drew
      have Hm5 := Lib.hid (Hm4.out.below hbd Hm4.out.lt)
      have Hr5 := Lib.hid (Hr4.out.below hbd Hr4.out.lt)
      have Hc5 := Lib.hid (Hc4.out.below hbd Hc4.out.lt)
      have Qk5 := Lib.hid (Qk4.out.kept hbd)
      have HB5 := Lib.hid (HB4.out.trans (hbd.mono HB4.out.size))
      have HZ5 : Hid (w.heap.size ≤ W4.drew.heap.size) := Lib.hid (Nat.le_trans HZ4.out hbd.size)
      clear Hm4 Hr4 Hc4 Qk4 HB4 HZ4
      have hS1 : W4.drew.cell? ⟨w1.heap.size, 0, none⟩ = some (.string s) ∧ W4.drew.cell? ⟨w1.heap.size, 1, none⟩ = some (.int .i64 a) ∧ W4.drew.cell? ⟨w1.heap.size, 2, none⟩ = some (.int .i64 e1) := ⟨Hr5.out.cell 0, Hr5.out.cell 1, Hr5.out.cell 2⟩
      refine wp_region_held_drew (S := fun w' => w'.cell? ⟨w1.heap.size, 0, none⟩ = some (.string s) ∧ w'.cell? ⟨w1.heap.size, 1, none⟩ = some (.int .i64 a) ∧ w'.cell? ⟨w1.heap.size, 2, none⟩ = some (.int .i64 e1)) (by kernel_rfl) hS1 (fun hS0 => ?_)
      clear hS1
      generalize W4.drew = WD at *
      clear hbd
      refine wpAnyH_take (i := 0) (v := ?_) rfl (by kernel_rfl) (by kernel_rfl) (by kernel_rfl) (fun _ _ _ h => h) (Or.inl ⟨by kernel_rfl, ?_⟩) (by first | assumption | trivial) ?_
      rotate_left
      · intro w hSw
        try dsimp only at hSw
        first | (go_simp; done) | (go_simp; with_reducible rfl)
      try simp only [Act.put, List.getElem_toArray, List.getElem_cons_succ, List.getElem_cons_zero, List.setIfInBounds_toArray, List.set_cons_zero, List.set_cons_succ]
      refine wpAnyH_take (i := 1) (v := ?_) rfl (by kernel_rfl) (by kernel_rfl) (by kernel_rfl) (fun _ _ _ h => h) (Or.inl ⟨by kernel_rfl, ?_⟩) (by first | assumption | trivial) ?_
      rotate_left
      · intro w hSw
        try dsimp only at hSw
        first | (go_simp; done) | (go_simp; with_reducible rfl)
      try simp only [Act.put, List.getElem_toArray, List.getElem_cons_succ, List.getElem_cons_zero, List.setIfInBounds_toArray, List.set_cons_zero, List.set_cons_succ]
      refine wpAnyH_take (i := 2) (v := ?_) rfl (by kernel_rfl) (by kernel_rfl) (by kernel_rfl) (fun _ _ _ h => h) (Or.inl ⟨by kernel_rfl, ?_⟩) (by first | assumption | trivial) ?_
      rotate_left
      · intro w hSw
        try dsimp only at hSw
        first | (go_simp; done) | (go_simp; with_reducible rfl)
      try simp only [Act.put, List.getElem_toArray, List.getElem_cons_succ, List.getElem_cons_zero, List.setIfInBounds_toArray, List.set_cons_zero, List.set_cons_succ]
      refine wpAnyH_ready (rs := [3]) (by kernel_rfl) (by simp) ?_
      refine AllReadyH.cons rfl (fun K hK => ?_) AllReadyH.nil
      have z0 : WD.cell? ⟨w.heap.size, 0, none⟩ = some (.int .i64 0) := Hm5.out.cell 0
      have z1 : WD.cell? ⟨w.heap.size, 1, none⟩ = some (.int .i64 0) := Hm5.out.cell 1
      have z2 : WD.cell? ⟨w.heap.size, 2, none⟩ = some (.int .i64 0) := Hm5.out.cell 2
      have z3 : WD.cell? ⟨w.heap.size, 3, none⟩ = some (.int .i64 0) := Hm5.out.cell 3
      have z4 : WD.cell? ⟨w.heap.size, 4, none⟩ = some (.int .i64 0) := Hm5.out.cell 4
      have z5 : WD.cell? ⟨w.heap.size, 5, none⟩ = some (.int .i64 0) := Hm5.out.cell 5
      have z6 : WD.cell? ⟨w.heap.size, 6, none⟩ = some (.int .i64 0) := Hm5.out.cell 6
      have z7 : WD.cell? ⟨w.heap.size, 7, none⟩ = some (.int .i64 0) := Hm5.out.cell 7
      have z8 : WD.cell? ⟨w.heap.size, 8, none⟩ = some (.bool false) := Hm5.out.cell 8
      have z9 : WD.cell? ⟨w.heap.size, 9, none⟩ = some (.slice none 0 0) := Hm5.out.cell 9
      have z10 : WD.cell? ⟨w.heap.size, 10, none⟩ = some (.slice none 0 0) := Hm5.out.cell 10
      have f0 := Hm5.out.free 0
      have f1 := Hm5.out.free 1
      have f2 := Hm5.out.free 2
      have f3 := Hm5.out.free 3
      have f4 := Hm5.out.free 4
      have f5 := Hm5.out.free 5
      have f6 := Hm5.out.free 6
      have f7 := Hm5.out.free 7
      have f8 := Hm5.out.free 8
      have f9 := Hm5.out.free 9
      have f10 := Hm5.out.free 10
      go_simp
      clear z0 f0 z1 f1 z2 f2 z3 f3 z4 f4 z5 f5 z6 f6 z7 f7 z8 f8 z9 f9 z10 f10
      have hch : Hid (Chg w.heap.size WD (((((((((((WD.setCell ⟨w.heap.size, 0, none⟩ (.int .i64 0)).setCell ⟨w.heap.size, 1, none⟩ (.int .i64 0)).setCell ⟨w.heap.size, 2, none⟩ (.int .i64 0)).setCell ⟨w.heap.size, 3, none⟩ (.int .i64 0)).setCell ⟨w.heap.size, 4, none⟩ (.int .i64 0)).setCell ⟨w.heap.size, 5, none⟩ (.int .i64 0)).setCell ⟨w.heap.size, 6, none⟩ (.int .i64 0)).setCell ⟨w.heap.size, 7, none⟩ (.int .i64 0)).setCell ⟨w.heap.size, 8, none⟩ (.bool false)).setCell ⟨w.heap.size, 9, none⟩ (.slice none 0 0)).setCell ⟨w.heap.size, 10, none⟩ (.slice none 0 0))) := Lib.hid ((((((((((((Chg.refl w.heap.size WD).set 0 (.int .i64 0)).set 1 (.int .i64 0)).set 2 (.int .i64 0)).set 3 (.int .i64 0)).set 4 (.int .i64 0)).set 5 (.int .i64 0)).set 6 (.int .i64 0)).set 7 (.int .i64 0)).set 8 (.bool false)).set 9 (.slice none 0 0)).set 10 (.slice none 0 0))
      have Hm6 : Hid (Blk (((((((((((WD.setCell ⟨w.heap.size, 0, none⟩ (.int .i64 0)).setCell ⟨w.heap.size, 1, none⟩ (.int .i64 0)).setCell ⟨w.heap.size, 2, none⟩ (.int .i64 0)).setCell ⟨w.heap.size, 3, none⟩ (.int .i64 0)).setCell ⟨w.heap.size, 4, none⟩ (.int .i64 0)).setCell ⟨w.heap.size, 5, none⟩ (.int .i64 0)).setCell ⟨w.heap.size, 6, none⟩ (.int .i64 0)).setCell ⟨w.heap.size, 7, none⟩ (.int .i64 0)).setCell ⟨w.heap.size, 8, none⟩ (.bool false)).setCell ⟨w.heap.size, 9, none⟩ (.slice none 0 0)).setCell ⟨w.heap.size, 10, none⟩ (.slice none 0 0)) w.heap.size #[.int .i64 0, .int .i64 0, .int .i64 0, .int .i64 0, .int .i64 0, .int .i64 0, .int .i64 0, .int .i64 0, .bool false, .slice none 0 0, .slice none 0 0] 29) := (by have h1 := blk_put_all Hm5.out #[.int .i64 0, .int .i64 0, .int .i64 0, .int .i64 0, .int .i64 0, .int .i64 0, .int .i64 0, .int .i64 0, .bool false, .slice none 0 0, .slice none 0 0] rfl; exact Lib.hid h1)
      have HB6 : Hid (Below w.heap.size w (((((((((((WD.setCell ⟨w.heap.size, 0, none⟩ (.int .i64 0)).setCell ⟨w.heap.size, 1, none⟩ (.int .i64 0)).setCell ⟨w.heap.size, 2, none⟩ (.int .i64 0)).setCell ⟨w.heap.size, 3, none⟩ (.int .i64 0)).setCell ⟨w.heap.size, 4, none⟩ (.int .i64 0)).setCell ⟨w.heap.size, 5, none⟩ (.int .i64 0)).setCell ⟨w.heap.size, 6, none⟩ (.int .i64 0)).setCell ⟨w.heap.size, 7, none⟩ (.int .i64 0)).setCell ⟨w.heap.size, 8, none⟩ (.bool false)).setCell ⟨w.heap.size, 9, none⟩ (.slice none 0 0)).setCell ⟨w.heap.size, 10, none⟩ (.slice none 0 0))) := Lib.hid (((((((((((HB5.out.setCell (p := ⟨w.heap.size, 0, none⟩) (by show w.heap.size ≤ w.heap.size; have h9 := HGL.out; have h8 := HGW.out; omega) (.int .i64 0)).setCell (p := ⟨w.heap.size, 1, none⟩) (by show w.heap.size ≤ w.heap.size; have h9 := HGL.out; have h8 := HGW.out; omega) (.int .i64 0)).setCell (p := ⟨w.heap.size, 2, none⟩) (by show w.heap.size ≤ w.heap.size; have h9 := HGL.out; have h8 := HGW.out; omega) (.int .i64 0)).setCell (p := ⟨w.heap.size, 3, none⟩) (by show w.heap.size ≤ w.heap.size; have h9 := HGL.out; have h8 := HGW.out; omega) (.int .i64 0)).setCell (p := ⟨w.heap.size, 4, none⟩) (by show w.heap.size ≤ w.heap.size; have h9 := HGL.out; have h8 := HGW.out; omega) (.int .i64 0)).setCell (p := ⟨w.heap.size, 5, none⟩) (by show w.heap.size ≤ w.heap.size; have h9 := HGL.out; have h8 := HGW.out; omega) (.int .i64 0)).setCell (p := ⟨w.heap.size, 6, none⟩) (by show w.heap.size ≤ w.heap.size; have h9 := HGL.out; have h8 := HGW.out; omega) (.int .i64 0)).setCell (p := ⟨w.heap.size, 7, none⟩) (by show w.heap.size ≤ w.heap.size; have h9 := HGL.out; have h8 := HGW.out; omega) (.int .i64 0)).setCell (p := ⟨w.heap.size, 8, none⟩) (by show w.heap.size ≤ w.heap.size; have h9 := HGL.out; have h8 := HGW.out; omega) (.bool false)).setCell (p := ⟨w.heap.size, 9, none⟩) (by show w.heap.size ≤ w.heap.size; have h9 := HGL.out; have h8 := HGW.out; omega) (.slice none 0 0)).setCell (p := ⟨w.heap.size, 10, none⟩) (by show w.heap.size ≤ w.heap.size; have h9 := HGL.out; have h8 := HGW.out; omega) (.slice none 0 0))
      have HZ6 : Hid (w.heap.size ≤ (((((((((((WD.setCell ⟨w.heap.size, 0, none⟩ (.int .i64 0)).setCell ⟨w.heap.size, 1, none⟩ (.int .i64 0)).setCell ⟨w.heap.size, 2, none⟩ (.int .i64 0)).setCell ⟨w.heap.size, 3, none⟩ (.int .i64 0)).setCell ⟨w.heap.size, 4, none⟩ (.int .i64 0)).setCell ⟨w.heap.size, 5, none⟩ (.int .i64 0)).setCell ⟨w.heap.size, 6, none⟩ (.int .i64 0)).setCell ⟨w.heap.size, 7, none⟩ (.int .i64 0)).setCell ⟨w.heap.size, 8, none⟩ (.bool false)).setCell ⟨w.heap.size, 9, none⟩ (.slice none 0 0)).setCell ⟨w.heap.size, 10, none⟩ (.slice none 0 0)).heap.size) := Lib.hid (Nat.le_trans HZ5.out hch.out.size)
      have Hr6 := Lib.hid (Hr5.out.chg hch.out (by have h9 := HGL.out; have h8 := HGW.out; omega))
      have Hc6 := Lib.hid (Hc5.out.chg hch.out (by have h9 := HGL.out; have h8 := HGW.out; omega))
      have Qk6 := Lib.hid (Qk5.out.chg hch.out (.inl HGL.out))
      clear hch hS0 Hm5 Hr5 Hc5 Qk5 HB5 HZ5
      generalize (((((((((((WD.setCell ⟨w.heap.size, 0, none⟩ (.int .i64 0)).setCell ⟨w.heap.size, 1, none⟩ (.int .i64 0)).setCell ⟨w.heap.size, 2, none⟩ (.int .i64 0)).setCell ⟨w.heap.size, 3, none⟩ (.int .i64 0)).setCell ⟨w.heap.size, 4, none⟩ (.int .i64 0)).setCell ⟨w.heap.size, 5, none⟩ (.int .i64 0)).setCell ⟨w.heap.size, 6, none⟩ (.int .i64 0)).setCell ⟨w.heap.size, 7, none⟩ (.int .i64 0)).setCell ⟨w.heap.size, 8, none⟩ (.bool false)).setCell ⟨w.heap.size, 9, none⟩ (.slice none 0 0)).setCell ⟨w.heap.size, 10, none⟩ (.slice none 0 0)) = X1 at *
      refine hK.out _ _ ⟨Hr6.out.cell 0, Hr6.out.cell 1, Hr6.out.cell 2⟩ (fun hS0 => ?_)
      clear hK K
      try simp only [Act.put, List.getElem_toArray, List.getElem_cons_succ, List.getElem_cons_zero, List.setIfInBounds_toArray, List.set_cons_zero, List.set_cons_succ]
      refine wpAnyH_take (i := 4) (v := ?_) rfl (by kernel_rfl) (by kernel_rfl) (by kernel_rfl) (fun _ _ _ h => h) (Or.inl ⟨by kernel_rfl, ?_⟩) (by first | assumption | trivial) ?_
      rotate_left
      · intro w hSw
        try dsimp only at hSw
        first | (go_simp; done) | (go_simp; with_reducible rfl)
      try simp only [Act.put, List.getElem_toArray, List.getElem_cons_succ, List.getElem_cons_zero, List.setIfInBounds_toArray, List.set_cons_zero, List.set_cons_succ]
      refine wpAnyH_done (by kernel_rfl) ?_ _
      clear hS0
      go_wp2_with fail
      have hfm := Hm6.out
      refine bodyPost_ret (v := .tuple #[.agg #[.int .i64 0, .int .i64 0, .int .i64 0, .int .i64 0, .int .i64 0, .int .i64 0, .int .i64 0, .int .i64 0, .bool false, .slice none 0 0, .slice none 0 0], .int .i64 e1]) (by simp [results, Try.results6, go_sem, hfm.cell 0, hfm.cell 1, hfm.cell 2, hfm.cell 3, hfm.cell 4, hfm.cell 5, hfm.cell 6, hfm.cell 7, hfm.cell 8, hfm.cell 9, hfm.cell 10]) rfl ?_
      obtain ⟨hM, hE⟩ := HRM.out
      rw [hM, hE]
      exact ⟨.slice none 0 0, .slice none 0 0, rfl, OwnT.nil_ _ _ _ _, Own.nil_ _ _ _ _, HB6.out⟩
  · skip
    have HE1 : Hid (rE zs = e0) := Lib.hid (by unfold rE; rw [if_neg (by rw [HME.out.2]; exact hE)]; exact HME.out.2)
    have HRM : Hid (rM zs = msg0 ∧ rE zs = e0) := Lib.hid ⟨by unfold rM; rw [if_neg (by rw [HE1.out]; exact hE)], HE1.out⟩
    have he2 : (e0 != 0) = true := by simpa using hE
    have HG := Lib.hid (refend_any s a e0 W2)
    rw [show dEE ((bytesOf s).drop a) e0 = e0 from by unfold dEE; simp [hE]] at HG
    unfold rdV at HG
    clear hE
    go_wp2_with fail
    clear x0 x1 x2
    refine HG.out.mono ?_
    rintro y9 w3 ⟨rfl, hb⟩
    clear HG
    have Hm3 := Lib.hid (Hm2.out.below hb Hm2.out.lt)
    have Hr3 := Lib.hid (Hr2.out.below hb Hr2.out.lt)
    have Hc3 := Lib.hid (Hc2.out.below hb Hc2.out.lt)
    have Qk3 := Lib.hid (Qk2.out.kept hb)
    have HB3 := Lib.hid (HB2.out.trans (hb.mono HB2.out.size))
    have HZ3 : Hid (w.heap.size ≤ w3.heap.size) := Lib.hid (Nat.le_trans HZ2.out hb.size)
    clear Hm2 Hr2 Hc2 Qk2 HB2 HZ2
    clear hb
    go_wp2_with (with_reducible refine stop_storeT 44 (.tmp 4) (.tmp 13) rfl ?_)
    have HTH : Hid (w3.there w1.heap.size 0 3) := Hr3.out.thereAt
    have hch : Hid (Chg w1.heap.size w3 (w3.setCells w1.heap.size 0 (#[.string s, .int .i64 a, .int .i64 e0] : Array Value).toList)) := Lib.hid (chg_putL _ _ _ _ _ (Chg.refl _ w3))
    have Hr4 : Hid (Blk (w3.setCells w1.heap.size 0 (#[.string s, .int .i64 a, .int .i64 e0] : Array Value).toList) w1.heap.size #[.string s, .int .i64 a, .int .i64 e0] 44) := Lib.hid (blk_put_all Hr3.out _ rfl)
    have HB4 : Hid (Below w.heap.size w (w3.setCells w1.heap.size 0 (#[.string s, .int .i64 a, .int .i64 e0] : Array Value).toList)) := Lib.hid (below_put (by have h9 := HGL.out; have h8 := HGW.out; omega) _ _ _ _ HB3.out)
    have HZ4 : Hid (w.heap.size ≤ (w3.setCells w1.heap.size 0 (#[.string s, .int .i64 a, .int .i64 e0] : Array Value).toList).heap.size) := Lib.hid (Nat.le_trans HZ3.out hch.out.size)
    have Hm4 := Lib.hid (Hm3.out.chg hch.out (by have h9 := HGL.out; have h8 := HGW.out; omega))
    have Hc4 := Lib.hid (Hc3.out.chg hch.out (by have h9 := HGL.out; have h8 := HGW.out; omega))
    have Qk4 := Lib.hid (Qk3.out.chg hch.out (.inr (by omega)))
    clear hch Hm3 Hr3 Hc3 Qk3 HB3 HZ3
    refine wpList_store_mid rfl 44 (.tmp 4) (.tmp 13) rfl w1.heap.size 0 #[.string s, .int .i64 a, .int .i64 e0] rfl rfl HTH.out (infoRd rfl) (all_oneCell_toArray (by intro u hu; simp at hu; rcases hu with rfl | rfl | rfl <;> rfl)) ?_
    generalize (w3.setCells w1.heap.size 0 (#[.string s, .int .i64 a, .int .i64 e0] : Array Value).toList) = W4 at *
    clear HTH
    have x2 : W4.cell? ⟨w1.heap.size, 2, none⟩ = some (.int .i64 e0) := Hr4.out.cell 2
    go_upto_region 4 with fail
    clear x2
    have hbd := (Below.refl W4.heap.size W4).drew
    have Hm5 := Lib.hid (Hm4.out.below hbd Hm4.out.lt)
    have Hr5 := Lib.hid (Hr4.out.below hbd Hr4.out.lt)
    have Hc5 := Lib.hid (Hc4.out.below hbd Hc4.out.lt)
    have Qk5 := Lib.hid (Qk4.out.kept hbd)
    have HB5 := Lib.hid (HB4.out.trans (hbd.mono HB4.out.size))
    have HZ5 : Hid (w.heap.size ≤ W4.drew.heap.size) := Lib.hid (Nat.le_trans HZ4.out hbd.size)
    clear Hm4 Hr4 Hc4 Qk4 HB4 HZ4
    have hS1 : W4.drew.cell? ⟨w1.heap.size, 0, none⟩ = some (.string s) ∧ W4.drew.cell? ⟨w1.heap.size, 1, none⟩ = some (.int .i64 a) ∧ W4.drew.cell? ⟨w1.heap.size, 2, none⟩ = some (.int .i64 e0) := ⟨Hr5.out.cell 0, Hr5.out.cell 1, Hr5.out.cell 2⟩
    refine wp_region_held_drew (S := fun w' => w'.cell? ⟨w1.heap.size, 0, none⟩ = some (.string s) ∧ w'.cell? ⟨w1.heap.size, 1, none⟩ = some (.int .i64 a) ∧ w'.cell? ⟨w1.heap.size, 2, none⟩ = some (.int .i64 e0)) (by kernel_rfl) hS1 (fun hS0 => ?_)
    clear hS1
    generalize W4.drew = WD at *
    clear hbd
    refine wpAnyH_take (i := 0) (v := ?_) rfl (by kernel_rfl) (by kernel_rfl) (by kernel_rfl) (fun _ _ _ h => h) (Or.inl ⟨by kernel_rfl, ?_⟩) (by first | assumption | trivial) ?_
    rotate_left
    · intro w hSw
      try dsimp only at hSw
      first | (go_simp; done) | (go_simp; with_reducible rfl)
    try simp only [Act.put, List.getElem_toArray, List.getElem_cons_succ, List.getElem_cons_zero, List.setIfInBounds_toArray, List.set_cons_zero, List.set_cons_succ]
    refine wpAnyH_take (i := 1) (v := ?_) rfl (by kernel_rfl) (by kernel_rfl) (by kernel_rfl) (fun _ _ _ h => h) (Or.inl ⟨by kernel_rfl, ?_⟩) (by first | assumption | trivial) ?_
    rotate_left
    · intro w hSw
      try dsimp only at hSw
      first | (go_simp; done) | (go_simp; with_reducible rfl)
    try simp only [Act.put, List.getElem_toArray, List.getElem_cons_succ, List.getElem_cons_zero, List.setIfInBounds_toArray, List.set_cons_zero, List.set_cons_succ]
    refine wpAnyH_take (i := 2) (v := ?_) rfl (by kernel_rfl) (by kernel_rfl) (by kernel_rfl) (fun _ _ _ h => h) (Or.inl ⟨by kernel_rfl, ?_⟩) (by first | assumption | trivial) ?_
    rotate_left
    · intro w hSw
      try dsimp only at hSw
      first | (go_simp; done) | (go_simp; with_reducible rfl)
    try simp only [Act.put, List.getElem_toArray, List.getElem_cons_succ, List.getElem_cons_zero, List.setIfInBounds_toArray, List.set_cons_zero, List.set_cons_succ]
    refine wpAnyH_ready (rs := [3]) (by kernel_rfl) (by simp) ?_
    refine AllReadyH.cons rfl (fun K hK => ?_) AllReadyH.nil
    have z0 : WD.cell? ⟨w.heap.size, 0, none⟩ = some (.int .i64 0) := Hm5.out.cell 0
    have z1 : WD.cell? ⟨w.heap.size, 1, none⟩ = some (.int .i64 0) := Hm5.out.cell 1
    have z2 : WD.cell? ⟨w.heap.size, 2, none⟩ = some (.int .i64 0) := Hm5.out.cell 2
    have z3 : WD.cell? ⟨w.heap.size, 3, none⟩ = some (.int .i64 0) := Hm5.out.cell 3
    have z4 : WD.cell? ⟨w.heap.size, 4, none⟩ = some (.int .i64 0) := Hm5.out.cell 4
    have z5 : WD.cell? ⟨w.heap.size, 5, none⟩ = some (.int .i64 0) := Hm5.out.cell 5
    have z6 : WD.cell? ⟨w.heap.size, 6, none⟩ = some (.int .i64 0) := Hm5.out.cell 6
    have z7 : WD.cell? ⟨w.heap.size, 7, none⟩ = some (.int .i64 0) := Hm5.out.cell 7
    have z8 : WD.cell? ⟨w.heap.size, 8, none⟩ = some (.bool false) := Hm5.out.cell 8
    have z9 : WD.cell? ⟨w.heap.size, 9, none⟩ = some (.slice none 0 0) := Hm5.out.cell 9
    have z10 : WD.cell? ⟨w.heap.size, 10, none⟩ = some (.slice none 0 0) := Hm5.out.cell 10
    have f0 := Hm5.out.free 0
    have f1 := Hm5.out.free 1
    have f2 := Hm5.out.free 2
    have f3 := Hm5.out.free 3
    have f4 := Hm5.out.free 4
    have f5 := Hm5.out.free 5
    have f6 := Hm5.out.free 6
    have f7 := Hm5.out.free 7
    have f8 := Hm5.out.free 8
    have f9 := Hm5.out.free 9
    have f10 := Hm5.out.free 10
    go_simp
    clear z0 f0 z1 f1 z2 f2 z3 f3 z4 f4 z5 f5 z6 f6 z7 f7 z8 f8 z9 f9 z10 f10
    have hch : Hid (Chg w.heap.size WD (((((((((((WD.setCell ⟨w.heap.size, 0, none⟩ (.int .i64 0)).setCell ⟨w.heap.size, 1, none⟩ (.int .i64 0)).setCell ⟨w.heap.size, 2, none⟩ (.int .i64 0)).setCell ⟨w.heap.size, 3, none⟩ (.int .i64 0)).setCell ⟨w.heap.size, 4, none⟩ (.int .i64 0)).setCell ⟨w.heap.size, 5, none⟩ (.int .i64 0)).setCell ⟨w.heap.size, 6, none⟩ (.int .i64 0)).setCell ⟨w.heap.size, 7, none⟩ (.int .i64 0)).setCell ⟨w.heap.size, 8, none⟩ (.bool false)).setCell ⟨w.heap.size, 9, none⟩ (.slice none 0 0)).setCell ⟨w.heap.size, 10, none⟩ (.slice none 0 0))) := Lib.hid ((((((((((((Chg.refl w.heap.size WD).set 0 (.int .i64 0)).set 1 (.int .i64 0)).set 2 (.int .i64 0)).set 3 (.int .i64 0)).set 4 (.int .i64 0)).set 5 (.int .i64 0)).set 6 (.int .i64 0)).set 7 (.int .i64 0)).set 8 (.bool false)).set 9 (.slice none 0 0)).set 10 (.slice none 0 0))
    have Hm6 : Hid (Blk (((((((((((WD.setCell ⟨w.heap.size, 0, none⟩ (.int .i64 0)).setCell ⟨w.heap.size, 1, none⟩ (.int .i64 0)).setCell ⟨w.heap.size, 2, none⟩ (.int .i64 0)).setCell ⟨w.heap.size, 3, none⟩ (.int .i64 0)).setCell ⟨w.heap.size, 4, none⟩ (.int .i64 0)).setCell ⟨w.heap.size, 5, none⟩ (.int .i64 0)).setCell ⟨w.heap.size, 6, none⟩ (.int .i64 0)).setCell ⟨w.heap.size, 7, none⟩ (.int .i64 0)).setCell ⟨w.heap.size, 8, none⟩ (.bool false)).setCell ⟨w.heap.size, 9, none⟩ (.slice none 0 0)).setCell ⟨w.heap.size, 10, none⟩ (.slice none 0 0)) w.heap.size #[.int .i64 0, .int .i64 0, .int .i64 0, .int .i64 0, .int .i64 0, .int .i64 0, .int .i64 0, .int .i64 0, .bool false, .slice none 0 0, .slice none 0 0] 29) := (by have h1 := blk_put_all Hm5.out #[.int .i64 0, .int .i64 0, .int .i64 0, .int .i64 0, .int .i64 0, .int .i64 0, .int .i64 0, .int .i64 0, .bool false, .slice none 0 0, .slice none 0 0] rfl; exact Lib.hid h1)
    have HB6 : Hid (Below w.heap.size w (((((((((((WD.setCell ⟨w.heap.size, 0, none⟩ (.int .i64 0)).setCell ⟨w.heap.size, 1, none⟩ (.int .i64 0)).setCell ⟨w.heap.size, 2, none⟩ (.int .i64 0)).setCell ⟨w.heap.size, 3, none⟩ (.int .i64 0)).setCell ⟨w.heap.size, 4, none⟩ (.int .i64 0)).setCell ⟨w.heap.size, 5, none⟩ (.int .i64 0)).setCell ⟨w.heap.size, 6, none⟩ (.int .i64 0)).setCell ⟨w.heap.size, 7, none⟩ (.int .i64 0)).setCell ⟨w.heap.size, 8, none⟩ (.bool false)).setCell ⟨w.heap.size, 9, none⟩ (.slice none 0 0)).setCell ⟨w.heap.size, 10, none⟩ (.slice none 0 0))) := Lib.hid (((((((((((HB5.out.setCell (p := ⟨w.heap.size, 0, none⟩) (by show w.heap.size ≤ w.heap.size; have h9 := HGL.out; have h8 := HGW.out; omega) (.int .i64 0)).setCell (p := ⟨w.heap.size, 1, none⟩) (by show w.heap.size ≤ w.heap.size; have h9 := HGL.out; have h8 := HGW.out; omega) (.int .i64 0)).setCell (p := ⟨w.heap.size, 2, none⟩) (by show w.heap.size ≤ w.heap.size; have h9 := HGL.out; have h8 := HGW.out; omega) (.int .i64 0)).setCell (p := ⟨w.heap.size, 3, none⟩) (by show w.heap.size ≤ w.heap.size; have h9 := HGL.out; have h8 := HGW.out; omega) (.int .i64 0)).setCell (p := ⟨w.heap.size, 4, none⟩) (by show w.heap.size ≤ w.heap.size; have h9 := HGL.out; have h8 := HGW.out; omega) (.int .i64 0)).setCell (p := ⟨w.heap.size, 5, none⟩) (by show w.heap.size ≤ w.heap.size; have h9 := HGL.out; have h8 := HGW.out; omega) (.int .i64 0)).setCell (p := ⟨w.heap.size, 6, none⟩) (by show w.heap.size ≤ w.heap.size; have h9 := HGL.out; have h8 := HGW.out; omega) (.int .i64 0)).setCell (p := ⟨w.heap.size, 7, none⟩) (by show w.heap.size ≤ w.heap.size; have h9 := HGL.out; have h8 := HGW.out; omega) (.int .i64 0)).setCell (p := ⟨w.heap.size, 8, none⟩) (by show w.heap.size ≤ w.heap.size; have h9 := HGL.out; have h8 := HGW.out; omega) (.bool false)).setCell (p := ⟨w.heap.size, 9, none⟩) (by show w.heap.size ≤ w.heap.size; have h9 := HGL.out; have h8 := HGW.out; omega) (.slice none 0 0)).setCell (p := ⟨w.heap.size, 10, none⟩) (by show w.heap.size ≤ w.heap.size; have h9 := HGL.out; have h8 := HGW.out; omega) (.slice none 0 0))
    have HZ6 : Hid (w.heap.size ≤ (((((((((((WD.setCell ⟨w.heap.size, 0, none⟩ (.int .i64 0)).setCell ⟨w.heap.size, 1, none⟩ (.int .i64 0)).setCell ⟨w.heap.size, 2, none⟩ (.int .i64 0)).setCell ⟨w.heap.size, 3, none⟩ (.int .i64 0)).setCell ⟨w.heap.size, 4, none⟩ (.int .i64 0)).setCell ⟨w.heap.size, 5, none⟩ (.int .i64 0)).setCell ⟨w.heap.size, 6, none⟩ (.int .i64 0)).setCell ⟨w.heap.size, 7, none⟩ (.int .i64 0)).setCell ⟨w.heap.size, 8, none⟩ (.bool false)).setCell ⟨w.heap.size, 9, none⟩ (.slice none 0 0)).setCell ⟨w.heap.size, 10, none⟩ (.slice none 0 0)).heap.size) := Lib.hid (Nat.le_trans HZ5.out hch.out.size)
    have Hr6 := Lib.hid (Hr5.out.chg hch.out (by have h9 := HGL.out; have h8 := HGW.out; omega))
    have Hc6 := Lib.hid (Hc5.out.chg hch.out (by have h9 := HGL.out; have h8 := HGW.out; omega))
    have Qk6 := Lib.hid (Qk5.out.chg hch.out (.inl HGL.out))
    clear hch hS0 Hm5 Hr5 Hc5 Qk5 HB5 HZ5
    generalize (((((((((((WD.setCell ⟨w.heap.size, 0, none⟩ (.int .i64 0)).setCell ⟨w.heap.size, 1, none⟩ (.int .i64 0)).setCell ⟨w.heap.size, 2, none⟩ (.int .i64 0)).setCell ⟨w.heap.size, 3, none⟩ (.int .i64 0)).setCell ⟨w.heap.size, 4, none⟩ (.int .i64 0)).setCell ⟨w.heap.size, 5, none⟩ (.int .i64 0)).setCell ⟨w.heap.size, 6, none⟩ (.int .i64 0)).setCell ⟨w.heap.size, 7, none⟩ (.int .i64 0)).setCell ⟨w.heap.size, 8, none⟩ (.bool false)).setCell ⟨w.heap.size, 9, none⟩ (.slice none 0 0)).setCell ⟨w.heap.size, 10, none⟩ (.slice none 0 0)) = X1 at *
    refine hK.out _ _ ⟨Hr6.out.cell 0, Hr6.out.cell 1, Hr6.out.cell 2⟩ (fun hS0 => ?_)
    clear hK K
    try simp only [Act.put, List.getElem_toArray, List.getElem_cons_succ, List.getElem_cons_zero, List.setIfInBounds_toArray, List.set_cons_zero, List.set_cons_succ]
    refine wpAnyH_take (i := 4) (v := ?_) rfl (by kernel_rfl) (by kernel_rfl) (by kernel_rfl) (fun _ _ _ h => h) (Or.inl ⟨by kernel_rfl, ?_⟩) (by first | assumption | trivial) ?_
    rotate_left
    · intro w hSw
      try dsimp only at hSw
      first | (go_simp; done) | (go_simp; with_reducible rfl)
    try simp only [Act.put, List.getElem_toArray, List.getElem_cons_succ, List.getElem_cons_zero, List.setIfInBounds_toArray, List.set_cons_zero, List.set_cons_succ]
    refine wpAnyH_done (by kernel_rfl) ?_ _
    clear hS0
    go_wp2_with fail
    have hfm := Hm6.out
    refine bodyPost_ret (v := .tuple #[.agg #[.int .i64 0, .int .i64 0, .int .i64 0, .int .i64 0, .int .i64 0, .int .i64 0, .int .i64 0, .int .i64 0, .bool false, .slice none 0 0, .slice none 0 0], .int .i64 e0]) (by simp [results, Try.results6, go_sem, hfm.cell 0, hfm.cell 1, hfm.cell 2, hfm.cell 3, hfm.cell 4, hfm.cell 5, hfm.cell 6, hfm.cell 7, hfm.cell 8, hfm.cell 9, hfm.cell 10]) rfl ?_
    obtain ⟨hM, hE⟩ := HRM.out
    rw [hM, hE]
    exact ⟨.slice none 0 0, .slice none 0 0, rfl, OwnT.nil_ _ _ _ _, Own.nil_ _ _ _ _, HB6.out⟩
end Go.Proofs.Ytbimbpmdiahhbaa
namespace Go.Proofs.Ytbimbpmdiahhbaa
open Go.RowKit
set_option linter.unusedSimpArgs false
theorem rowi_at {k : IntKind} {w : World} {p : Option Addr} {n c : Nat} {zs : List Int} (h : Row k w (.slice p n c) zs) (j : Nat) (hj : j < zs.length) : ∃ b o, p = some ⟨b, o, none⟩ ∧ w.cell? ⟨b, o + j, none⟩ = some (.int k (zs.getD j 0)) := by
  obtain ⟨p', c', e1, _, h⟩ := h
  cases e1
  rcases h with h | ⟨b, o, hp, h⟩
  · subst h; simp at hj
  · exact ⟨b, o, hp, h j hj⟩
set_option maxHeartbeats 8000000 in
set_option maxRecDepth 100000 in
theorem msame_any (m : Msg) (va vb ua ub : Value) (w : World) (ha : TRow encN w va m.ls) (hb : Row .i64 w vb m.ns) (hc : TRow encN w ua m.ls) (hd : Row .i64 w ub m.ns) (hl : m.ls.length ≤ 9000000000000000000) (hn : m.ns.length ≤ 9000000000000000000) :
    Calls Try.prog 7 #[m.v va vb, m.v ua ub] w fun e w' => e = .returned (.bool true) ∧ Below w.heap.size w w' := by
  obtain ⟨pa, ca, rfl⟩ := ha.shape
  obtain ⟨pb, cb, rfl⟩ := hb.shape
  obtain ⟨qa, da, rfl⟩ := hc.shape
  obtain ⟨qb, db, rfl⟩ := hd.shape
  have HA := Lib.hid ha
  have HB := Lib.hid hb
  have HC := Lib.hid hc
  have HD := Lib.hid hd
  clear ha hb hc hd
  generalize hll : m.ls.length = nl at *
  generalize hnl : m.ns.length = nn at *
  have HLL := Lib.hid hll
  have HNN := Lib.hid hnl
  clear hll hnl
  unfold Msg.v
  go_enter Try.func7, Try.ntmps7
  go_wp2_with fail
  have s1 : (w.alloc (.cells #[.int .i64 m.k, .int .i64 m.s, .int .i64 m.n, .int .i64 m.b, .int .i64 m.c, .int .i64 m.r, .int .i64 m.y, .int .i64 m.a, .bool m.t, .slice pa nl ca, .slice pb nn cb] 29)).heap.size = w.heap.size + 1 := by simp
  have HB2 : Hid (Below w.heap.size w ((w.alloc (.cells #[.int .i64 m.k, .int .i64 m.s, .int .i64 m.n, .int .i64 m.b, .int .i64 m.c, .int .i64 m.r, .int .i64 m.y, .int .i64 m.a, .bool m.t, .slice pa nl ca, .slice pb nn cb] 29)).alloc (.cells #[.int .i64 m.k, .int .i64 m.s, .int .i64 m.n, .int .i64 m.b, .int .i64 m.c, .int .i64 m.r, .int .i64 m.y, .int .i64 m.a, .bool m.t, .slice qa nl da, .slice qb nn db] 29))) := (oneB w _).trans ((oneB _ _).mono (by omega))
  have HK1 := Lib.hid ((Blk.new w (#[.int .i64 m.k, .int .i64 m.s, .int .i64 m.n, .int .i64 m.b, .int .i64 m.c, .int .i64 m.r, .int .i64 m.y, .int .i64 m.a, .bool m.t, .slice pa nl ca, .slice pb nn cb]) 29).alloc (.cells #[.int .i64 m.k, .int .i64 m.s, .int .i64 m.n, .int .i64 m.b, .int .i64 m.c, .int .i64 m.r, .int .i64 m.y, .int .i64 m.a, .bool m.t, .slice qa nl da, .slice qb nn db] 29))
  have HK2 : Hid (Blk ((w.alloc (.cells #[.int .i64 m.k, .int .i64 m.s, .int .i64 m.n, .int .i64 m.b, .int .i64 m.c, .int .i64 m.r, .int .i64 m.y, .int .i64 m.a, .bool m.t, .slice pa nl ca, .slice pb nn cb] 29)).alloc (.cells #[.int .i64 m.k, .int .i64 m.s, .int .i64 m.n, .int .i64 m.b, .int .i64 m.c, .int .i64 m.r, .int .i64 m.y, .int .i64 m.a, .bool m.t, .slice qa nl da, .slice qb nn db] 29)) (w.heap.size + 1) #[.int .i64 m.k, .int .i64 m.s, .int .i64 m.n, .int .i64 m.b, .int .i64 m.c, .int .i64 m.r, .int .i64 m.y, .int .i64 m.a, .bool m.t, .slice qa nl da, .slice qb nn db] 29) := by
    show Blk _ _ _ _
    rw [← s1]; exact Blk.new _ _ _
  generalize hW2 : (w.alloc (.cells #[.int .i64 m.k, .int .i64 m.s, .int .i64 m.n, .int .i64 m.b, .int .i64 m.c, .int .i64 m.r, .int .i64 m.y, .int .i64 m.a, .bool m.t, .slice pa nl ca, .slice pb nn cb] 29)).alloc (.cells #[.int .i64 m.k, .int .i64 m.s, .int .i64 m.n, .int .i64 m.b, .int .i64 m.c, .int .i64 m.r, .int .i64 m.y, .int .i64 m.a, .bool m.t, .slice qa nl da, .slice qb nn db] 29) = W2 at *
  clear hW2 s1
  generalize hg1 : w.heap.size = g1 at *
  have HG1 := Lib.hid hg1
  clear hg1
  generalize hg2 : g1 + 1 = g2 at *
  clear hg2
  go_loopw [5] (fun i wr => ∃ k : Nat, k ≤ nl ∧ i = .int .i64 k ∧ Hid (Below W2.heap.size W2 wr)) (fun i _ => nl - (intOf i).toNat)
  case atStart => exact ⟨0, by omega, rfl, Below.refl _ _⟩
  case round =>
    obtain ⟨k, hk, rfl, HW⟩ := hrel
    have a9 : wr.cell? ⟨g1, 9, none⟩ = some (.slice pa nl ca) := (HK1.out.below HW.out HK1.out.lt).cell 9
    have b9 : wr.cell? ⟨g2, 9, none⟩ = some (.slice qa nl da) := (HK2.out.below HW.out HK2.out.lt).cell 9
    by_cases hlt : k < nl
    · have hltI : (k : Int) < (nl : Int) := by omega
      have hkl : k < m.ls.length := by rw [HLL.out]; exact hlt
      obtain ⟨b, o, rfl, hbl, hcs⟩ := ((HA.out.kept (HG1.out.symm ▸ HB2.out)).kept HW.out).at_ k hkl
      obtain ⟨b', o', rfl, hbl', hcs'⟩ := ((HC.out.kept (HG1.out.symm ▸ HB2.out)).kept HW.out).at_ k hkl
      generalize m.ls[k] = x at *
      have c0 : wr.cell? ⟨b, o + k * 4, none⟩ = some (.int .i64 x.s) := hcs 0 (by decide)
      have c1 : wr.cell? ⟨b, o + k * 4 + 1, none⟩ = some (.int .i64 x.n) := hcs 1 (by decide)
      have c2 : wr.cell? ⟨b, o + k * 4 + 2, none⟩ = some (.int .i64 x.b) := hcs 2 (by decide)
      have c3 : wr.cell? ⟨b, o + k * 4 + 3, none⟩ = some (.int .i64 x.a) := hcs 3 (by decide)
      have d0 : wr.cell? ⟨b', o' + k * 4, none⟩ = some (.int .i64 x.s) := hcs' 0 (by decide)
      have d1 : wr.cell? ⟨b', o' + k * 4 + 1, none⟩ = some (.int .i64 x.n) := hcs' 1 (by decide)
      have d2 : wr.cell? ⟨b', o' + k * 4 + 2, none⟩ = some (.int .i64 x.b) := hcs' 2 (by decide)
      have d3 : wr.cell? ⟨b', o' + k * 4 + 3, none⟩ = some (.int .i64 x.a) := hcs' 3 (by decide)
      clear hcs hcs'
      go_upto_region 6 with fail
      refine wp_region_held_drew (S := fun w' => w' = wr.drew) (by kernel_rfl) rfl (fun hS0 => ?_)
      refine wpAnyH_take (i := 0) (v := ?_) rfl (by kernel_rfl) (by kernel_rfl) (by kernel_rfl) (fun _ _ _ h => h) (Or.inl ⟨by kernel_rfl, ?_⟩) (by first | assumption | trivial) ?_
      rotate_left
      · intro w hSw
        try dsimp only at hSw
        subst hSw
        first | (go_simp; done) | (go_simp; with_reducible rfl)
      try simp only [Act.put, List.getElem_toArray, List.getElem_cons_succ, List.getElem_cons_zero, List.setIfInBounds_toArray, List.set_cons_zero, List.set_cons_succ]
      refine wpAnyH_take (i := 1) (v := ?_) rfl (by kernel_rfl) (by kernel_rfl) (by kernel_rfl) (fun _ _ _ h => h) (Or.inl ⟨by kernel_rfl, ?_⟩) (by first | assumption | trivial) ?_
      rotate_left
      · intro w hSw
        try dsimp only at hSw
        subst hSw
        first | (go_simp; done) | (go_simp; with_reducible rfl)
      try simp only [Act.put, List.getElem_toArray, List.getElem_cons_succ, List.getElem_cons_zero, List.setIfInBounds_toArray, List.set_cons_zero, List.set_cons_succ]
      refine wpAnyH_take (i := 2) (v := ?_) rfl (by kernel_rfl) (by kernel_rfl) (by kernel_rfl) (fun _ _ _ h => h) (Or.inl ⟨by kernel_rfl, ?_⟩) (by first | assumption | trivial) ?_
      rotate_left
      · intro w hSw
        try dsimp only at hSw
        subst hSw
        first | (go_simp; done) | (go_simp; with_reducible rfl)
      try simp only [Act.put, List.getElem_toArray, List.getElem_cons_succ, List.getElem_cons_zero, List.setIfInBounds_toArray, List.set_cons_zero, List.set_cons_succ]
      refine wpAnyH_take (i := 3) (v := ?_) rfl (by kernel_rfl) (by kernel_rfl) (by kernel_rfl) (fun _ _ _ h => h) (Or.inl ⟨by kernel_rfl, ?_⟩) (by first | assumption | trivial) ?_
      rotate_left
      · intro w hSw
        try dsimp only at hSw
        subst hSw
        first | (go_simp; done) | (go_simp; with_reducible rfl)
      try simp only [Act.put, List.getElem_toArray, List.getElem_cons_succ, List.getElem_cons_zero, List.setIfInBounds_toArray, List.set_cons_zero, List.set_cons_succ]
      refine wpAnyH_take (i := 4) (v := ?_) rfl (by kernel_rfl) (by kernel_rfl) (by kernel_rfl) (fun _ _ _ h => h) (Or.inl ⟨by kernel_rfl, ?_⟩) (by first | assumption | trivial) ?_
      rotate_left
      · intro w hSw
        try dsimp only at hSw
        subst hSw
        first | (go_simp; done) | (go_simp; with_reducible rfl)
      try simp only [Act.put, List.getElem_toArray, List.getElem_cons_succ, List.getElem_cons_zero, List.setIfInBounds_toArray, List.set_cons_zero, List.set_cons_succ]
      refine wpAnyH_take (i := 5) (v := ?_) rfl (by kernel_rfl) (by kernel_rfl) (by kernel_rfl) (fun _ _ _ h => h) (Or.inl ⟨by kernel_rfl, ?_⟩) (by first | assumption | trivial) ?_
      rotate_left
      · intro w hSw
        try dsimp only at hSw
        subst hSw
        first | (go_simp; done) | (go_simp; with_reducible rfl)
      try simp only [Act.put, List.getElem_toArray, List.getElem_cons_succ, List.getElem_cons_zero, List.setIfInBounds_toArray, List.set_cons_zero, List.set_cons_succ]
      refine wpAnyH_take (i := 6) (v := ?_) rfl (by kernel_rfl) (by kernel_rfl) (by kernel_rfl) (fun _ _ _ h => h) (Or.inl ⟨by kernel_rfl, ?_⟩) (by first | assumption | trivial) ?_
      rotate_left
      · intro w hSw
        try dsimp only at hSw
        subst hSw
        first | (go_simp; done) | (go_simp; with_reducible rfl)
      try simp only [Act.put, List.getElem_toArray, List.getElem_cons_succ, List.getElem_cons_zero, List.setIfInBounds_toArray, List.set_cons_zero, List.set_cons_succ]
      refine wpAnyH_take (i := 7) (v := ?_) rfl (by kernel_rfl) (by kernel_rfl) (by kernel_rfl) (fun _ _ _ h => h) (Or.inl ⟨by kernel_rfl, ?_⟩) (by first | assumption | trivial) ?_
      rotate_left
      · intro w hSw
        try dsimp only at hSw
        subst hSw
        first | (go_simp; done) | (go_simp; with_reducible rfl)
      try simp only [Act.put, List.getElem_toArray, List.getElem_cons_succ, List.getElem_cons_zero, List.setIfInBounds_toArray, List.set_cons_zero, List.set_cons_succ]
      refine wpAnyH_take (i := 8) (v := ?_) rfl (by kernel_rfl) (by kernel_rfl) (by kernel_rfl) (fun _ _ _ h => h) (Or.inl ⟨by kernel_rfl, ?_⟩) (by first | assumption | trivial) ?_
      rotate_left
      · intro w hSw
        try dsimp only at hSw
        subst hSw
        first | (go_simp; done) | (go_simp; with_reducible rfl)
      try simp only [Act.put, List.getElem_toArray, List.getElem_cons_succ, List.getElem_cons_zero, List.setIfInBounds_toArray, List.set_cons_zero, List.set_cons_succ]
      refine wpAnyH_take (i := 9) (v := ?_) rfl (by kernel_rfl) (by kernel_rfl) (by kernel_rfl) (fun _ _ _ h => h) (Or.inl ⟨by kernel_rfl, ?_⟩) (by first | assumption | trivial) ?_
      rotate_left
      · intro w hSw
        try dsimp only at hSw
        subst hSw
        first | (go_simp; done) | (go_simp; with_reducible rfl)
      try simp only [Act.put, List.getElem_toArray, List.getElem_cons_succ, List.getElem_cons_zero, List.setIfInBounds_toArray, List.set_cons_zero, List.set_cons_succ]
      refine wpAnyH_take (i := 10) (v := ?_) rfl (by kernel_rfl) (by kernel_rfl) (by kernel_rfl) (fun _ _ _ h => h) (Or.inl ⟨by kernel_rfl, ?_⟩) (by first | assumption | trivial) ?_
      rotate_left
      · intro w hSw
        try dsimp only at hSw
        subst hSw
        first | (go_simp; done) | (go_simp; with_reducible rfl)
      try simp only [Act.put, List.getElem_toArray, List.getElem_cons_succ, List.getElem_cons_zero, List.setIfInBounds_toArray, List.set_cons_zero, List.set_cons_succ]
      refine wpAnyH_done (by kernel_rfl) ?_ _
      go_wp2_with fail
      go_roundw
      case rel => exact ⟨k + 1, by omega, by go_num, HW.out.drew⟩
      case measure => simp [intOf]; omega
    · have hle : (nl : Int) ≤ (k : Int) := by omega
      have HW3 := HW
      go_wp2_with fail
      go_loopw [6] (fun i wr => ∃ k : Nat, k ≤ nn ∧ i = .int .i64 k ∧ Hid (Below W2.heap.size W2 wr)) (fun i _ => nn - (intOf i).toNat)
      case atStart => exact ⟨0, by omega, rfl, HW3.out⟩
      case round =>
        obtain ⟨j, hj, rfl, HW⟩ := hrel
        have a10 : wr.cell? ⟨g1, 10, none⟩ = some (.slice pb nn cb) := (HK1.out.below HW.out HK1.out.lt).cell 10
        have b10 : wr.cell? ⟨g2, 10, none⟩ = some (.slice qb nn db) := (HK2.out.below HW.out HK2.out.lt).cell 10
        by_cases hlt : j < nn
        · have hltI : (j : Int) < (nn : Int) := by omega
          have hjl : j < m.ns.length := by rw [HNN.out]; exact hlt
          obtain ⟨b, o, rfl, c0⟩ := rowi_at ((HB.out.kept (HG1.out.symm ▸ HB2.out)).kept HW.out) j hjl
          obtain ⟨b', o', rfl, d0⟩ := rowi_at ((HD.out.kept (HG1.out.symm ▸ HB2.out)).kept HW.out) j hjl
          generalize m.ns.getD j 0 = z at *
          go_upto_region 11 with fail
          refine wp_region_held_drew (S := fun w' => w' = wr.drew) (by kernel_rfl) rfl (fun hS0 => ?_)
          refine wpAnyH_take (i := 0) (v := ?_) rfl (by kernel_rfl) (by kernel_rfl) (by kernel_rfl) (fun _ _ _ h => h) (Or.inl ⟨by kernel_rfl, ?_⟩) (by first | assumption | trivial) ?_
          rotate_left
          · intro w hSw
            try dsimp only at hSw
            subst hSw
            first | (go_simp; done) | (go_simp; with_reducible rfl)
          try simp only [Act.put, List.getElem_toArray, List.getElem_cons_succ, List.getElem_cons_zero, List.setIfInBounds_toArray, List.set_cons_zero, List.set_cons_succ]
          refine wpAnyH_take (i := 1) (v := ?_) rfl (by kernel_rfl) (by kernel_rfl) (by kernel_rfl) (fun _ _ _ h => h) (Or.inl ⟨by kernel_rfl, ?_⟩) (by first | assumption | trivial) ?_
          rotate_left
          · intro w hSw
            try dsimp only at hSw
            subst hSw
            first | (go_simp; done) | (go_simp; with_reducible rfl)
          try simp only [Act.put, List.getElem_toArray, List.getElem_cons_succ, List.getElem_cons_zero, List.setIfInBounds_toArray, List.set_cons_zero, List.set_cons_succ]
          refine wpAnyH_take (i := 2) (v := ?_) rfl (by kernel_rfl) (by kernel_rfl) (by kernel_rfl) (fun _ _ _ h => h) (Or.inl ⟨by kernel_rfl, ?_⟩) (by first | assumption | trivial) ?_
          rotate_left
          · intro w hSw
            try dsimp only at hSw
            subst hSw
            first | (go_simp; done) | (go_simp; with_reducible rfl)
          try simp only [Act.put, List.getElem_toArray, List.getElem_cons_succ, List.getElem_cons_zero, List.setIfInBounds_toArray, List.set_cons_zero, List.set_cons_succ]
          refine wpAnyH_take (i := 3) (v := ?_) rfl (by kernel_rfl) (by kernel_rfl) (by kernel_rfl) (fun _ _ _ h => h) (Or.inl ⟨by kernel_rfl, ?_⟩) (by first | assumption | trivial) ?_
          rotate_left
          · intro w hSw
            try dsimp only at hSw
            subst hSw
            first | (go_simp; done) | (go_simp; with_reducible rfl)
          try simp only [Act.put, List.getElem_toArray, List.getElem_cons_succ, List.getElem_cons_zero, List.setIfInBounds_toArray, List.set_cons_zero, List.set_cons_succ]
          refine wpAnyH_take (i := 4) (v := ?_) rfl (by kernel_rfl) (by kernel_rfl) (by kernel_rfl) (fun _ _ _ h => h) (Or.inl ⟨by kernel_rfl, ?_⟩) (by first | assumption | trivial) ?_
          rotate_left
          · intro w hSw
            try dsimp only at hSw
            subst hSw
            first | (go_simp; done) | (go_simp; with_reducible rfl)
          try simp only [Act.put, List.getElem_toArray, List.getElem_cons_succ, List.getElem_cons_zero, List.setIfInBounds_toArray, List.set_cons_zero, List.set_cons_succ]
          refine wpAnyH_take (i := 5) (v := ?_) rfl (by kernel_rfl) (by kernel_rfl) (by kernel_rfl) (fun _ _ _ h => h) (Or.inl ⟨by kernel_rfl, ?_⟩) (by first | assumption | trivial) ?_
          rotate_left
          · intro w hSw
            try dsimp only at hSw
            subst hSw
            first | (go_simp; done) | (go_simp; with_reducible rfl)
          try simp only [Act.put, List.getElem_toArray, List.getElem_cons_succ, List.getElem_cons_zero, List.setIfInBounds_toArray, List.set_cons_zero, List.set_cons_succ]
          refine wpAnyH_take (i := 6) (v := ?_) rfl (by kernel_rfl) (by kernel_rfl) (by kernel_rfl) (fun _ _ _ h => h) (Or.inl ⟨by kernel_rfl, ?_⟩) (by first | assumption | trivial) ?_
          rotate_left
          · intro w hSw
            try dsimp only at hSw
            subst hSw
            first | (go_simp; done) | (go_simp; with_reducible rfl)
          try simp only [Act.put, List.getElem_toArray, List.getElem_cons_succ, List.getElem_cons_zero, List.setIfInBounds_toArray, List.set_cons_zero, List.set_cons_succ]
          refine wpAnyH_take (i := 7) (v := ?_) rfl (by kernel_rfl) (by kernel_rfl) (by kernel_rfl) (fun _ _ _ h => h) (Or.inl ⟨by kernel_rfl, ?_⟩) (by first | assumption | trivial) ?_
          rotate_left
          · intro w hSw
            try dsimp only at hSw
            subst hSw
            first | (go_simp; done) | (go_simp; with_reducible rfl)
          try simp only [Act.put, List.getElem_toArray, List.getElem_cons_succ, List.getElem_cons_zero, List.setIfInBounds_toArray, List.set_cons_zero, List.set_cons_succ]
          refine wpAnyH_take (i := 8) (v := ?_) rfl (by kernel_rfl) (by kernel_rfl) (by kernel_rfl) (fun _ _ _ h => h) (Or.inl ⟨by kernel_rfl, ?_⟩) (by first | assumption | trivial) ?_
          rotate_left
          · intro w hSw
            try dsimp only at hSw
            subst hSw
            first | (go_simp; done) | (go_simp; with_reducible rfl)
          try simp only [Act.put, List.getElem_toArray, List.getElem_cons_succ, List.getElem_cons_zero, List.setIfInBounds_toArray, List.set_cons_zero, List.set_cons_succ]
          refine wpAnyH_take (i := 9) (v := ?_) rfl (by kernel_rfl) (by kernel_rfl) (by kernel_rfl) (fun _ _ _ h => h) (Or.inl ⟨by kernel_rfl, ?_⟩) (by first | assumption | trivial) ?_
          rotate_left
          · intro w hSw
            try dsimp only at hSw
            subst hSw
            first | (go_simp; done) | (go_simp; with_reducible rfl)
          try simp only [Act.put, List.getElem_toArray, List.getElem_cons_succ, List.getElem_cons_zero, List.setIfInBounds_toArray, List.set_cons_zero, List.set_cons_succ]
          refine wpAnyH_take (i := 10) (v := ?_) rfl (by kernel_rfl) (by kernel_rfl) (by kernel_rfl) (fun _ _ _ h => h) (Or.inl ⟨by kernel_rfl, ?_⟩) (by first | assumption | trivial) ?_
          rotate_left
          · intro w hSw
            try dsimp only at hSw
            subst hSw
            first | (go_simp; done) | (go_simp; with_reducible rfl)
          try simp only [Act.put, List.getElem_toArray, List.getElem_cons_succ, List.getElem_cons_zero, List.setIfInBounds_toArray, List.set_cons_zero, List.set_cons_succ]
          refine wpAnyH_done (by kernel_rfl) ?_ _
          go_wp2_with fail
          go_roundw
          case rel => exact ⟨j + 1, by omega, by go_num, HW.out.drew⟩
          case measure => simp [intOf]; omega
        · have hle : (nn : Int) ≤ (j : Int) := by omega
          go_wp2_with fail
          go_ret
          rw [HG1.out]
          exact ⟨rfl, HB2.out.trans (HW.out.mono (by have := HK1.out.lt; omega))⟩
end Go.Proofs.Ytbimbpmdiahhbaa
namespace Go.Proofs.Ytbimbpmdiahhbaa
open Go.RowKit
set_option linter.unusedSimpArgs false
/-- What Write answers. -/
def wrL (zs : List Int) (m : Msg) : List Int := if msgE m = 0 then zs ++ msgL m else []
theorem lins_len : ∀ (xs : List Lin), (∀ x ∈ xs, x.Fit) → (xs.flatMap linL).length ≤ 40 * xs.length
  | [], _ => by simp
  | x :: xs, h => by
    have h1 := lins_len xs (fun y hy => h y (List.mem_cons_of_mem _ hy))
    obtain ⟨f1, f2, f3, f4⟩ := h x (by simp)
    have := numL_len f1.1 f1.2
    have := numL_len f2.1 f2.2
    have := numL_len f3.1 f3.2
    have := numL_len f4.1 f4.2
    rw [List.flatMap_cons, List.length_append, List.length_cons]
    simp only [linL, List.length_append]
    omega
theorem nets_len : ∀ (xs : List Int), (∀ x ∈ xs, I64 x) → (xs.flatMap numL).length ≤ 10 * xs.length
  | [], _ => by simp
  | x :: xs, h => by
    have h1 := nets_len xs (fun y hy => h y (List.mem_cons_of_mem _ hy))
    have f1 := h x (by simp)
    have := numL_len f1.1 f1.2
    rw [List.flatMap_cons, List.length_append, List.length_cons]
    omega
theorem msgL_len {m : Msg} (hF : m.Fit) (h1 : m.ls.length ≤ 1024) (h2 : m.ns.length ≤ 8) : (msgL m).length ≤ 50000 := by
  obtain ⟨⟨f1, f2, f3, f4, f5, f6, f7, f8⟩, hl, hn⟩ := hF
  have a1 := numL_len f1.1 f1.2
  have a2 := numL_len f2.1 f2.2
  have a3 := numL_len f3.1 f3.2
  have a4 := numL_len f4.1 f4.2
  have a5 := numL_len f5.1 f5.2
  have a6 := numL_len f6.1 f6.2
  have a7 := numL_len f7.1 f7.2
  have a8 := numL_len f8.1 f8.2
  have b1 := lins_len m.ls hl
  have b2 := nets_len m.ns hn
  have c1 := numL_len (n := (m.ls.length : Int)) (by omega) (by omega)
  have c2 := numL_len (n := (m.ns.length : Int)) (by omega) (by omega)
  simp only [msgL, msgL2, msgL3, boL, List.length_append, List.length_cons, List.length_nil]
  omega
theorem ret_ve {v : Value} {a b : Int} (h : a = b) : Ending.returned (.tuple #[v, .int .i64 a]) = .returned (.tuple #[v, .int .i64 b]) := by rw [h]
set_option maxHeartbeats 4000000 in
set_option maxRecDepth 100000 in
theorem write_any (vb : Value) (zs : List Int) (m : Msg) (vl vn : Value) (w : World) (hb : Row .u8 w vb zs) (hl : TRow encN w vl m.ls) (hn : Row .i64 w vn m.ns) (hF : m.Fit) (bb : zs.length ≤ 140737488300000) (bl : m.ls.length ≤ 140737488355328) (bn : m.ns.length ≤ 140737488355328) : Calls Try.prog 8 #[vb, .agg #[.int .i64 m.k, .int .i64 m.s, .int .i64 m.n, .int .i64 m.b, .int .i64 m.c, .int .i64 m.r, .int .i64 m.y, .int .i64 m.a, .bool m.t, vl, vn]] w fun e w' => ∃ v, e = .returned (.tuple #[v, .int .i64 (msgE m)]) ∧ Own .u8 w' w.heap.size 5 v (wrL zs m) ∧ Below w.heap.size w w' := by
  obtain ⟨pl, cl, rfl⟩ := hl.shape
  obtain ⟨pn, cn, rfl⟩ := hn.shape
  obtain ⟨pb, cb, rfl⟩ := hb.shape
  have HLK := Lib.hid (fun (w' : World) (h : Below w.heap.size w w') => hl.kept h)
  have HNK := Lib.hid (fun (w' : World) (h : Below w.heap.size w w') => hn.kept h)
  have HBK := Lib.hid (fun (w' : World) (h : Below w.heap.size w w') => hb.kept h)
  have HF := Lib.hid hF
  clear hl hn hb hF
  generalize hll : m.ls.length = nl at *
  generalize hnl : m.ns.length = nn at *
  generalize hbl : zs.length = nb at *
  have HLL := Lib.hid hll
  have HNN := Lib.hid hnl
  have HBL := Lib.hid hbl
  clear hll hnl hbl
  go_enter Try.func8, Try.ntmps8
  go_wp2_with fail
  have HM0 := Lib.hid (Blk.new w #[.int .i64 m.k, .int .i64 m.s, .int .i64 m.n, .int .i64 m.b, .int .i64 m.c, .int .i64 m.r, .int .i64 m.y, .int .i64 m.a, .bool m.t, .slice pl nl cl, .slice pn nn cn] 29)
  have HB0 := Lib.hid (oneB w (.cells #[.int .i64 m.k, .int .i64 m.s, .int .i64 m.n, .int .i64 m.b, .int .i64 m.c, .int .i64 m.r, .int .i64 m.y, .int .i64 m.a, .bool m.t, .slice pl nl cl, .slice pn nn cn] 29))
  generalize hW0 : w.alloc (.cells #[.int .i64 m.k, .int .i64 m.s, .int .i64 m.n, .int .i64 m.b, .int .i64 m.c, .int .i64 m.r, .int .i64 m.y, .int .i64 m.a, .bool m.t, .slice pl nl cl, .slice pn nn cn] 29) = W0 at *
  refine (mcheck_any m _ _ W0 (HLK.out _ HB0.out) (HNK.out _ HB0.out) (by have := HLL.out; omega) (by have := HNN.out; omega)).mono ?_
  rintro y W1 ⟨rfl, hb1⟩
  have HM1 := Lib.hid (HM0.out.below hb1 HM0.out.lt)
  have HB1 := Lib.hid (HB0.out.trans (hb1.mono (Nat.le_of_lt HM0.out.lt)))
  clear hb1 hW0
  by_cases hE : msgE m = 0
  · have HE := Lib.hid hE
    obtain ⟨_, e1, e2, _⟩ := msgE_ok hE
    have HWR : Hid (wrL zs m = zs ++ msgL m) := by show _ = _; unfold wrL; rw [if_pos hE]
    have HLEN := Lib.hid (msgL_len HF.out e1 e2)
    have HE1 := Lib.hid e1
    have HE2 := Lib.hid e2
    rw [hE]
    clear hE e1 e2
    have c0 : W1.cell? ⟨w.heap.size, 0, none⟩ = some (.int .i64 m.k) := HM1.out.cell 0
    have c1 : W1.cell? ⟨w.heap.size, 1, none⟩ = some (.int .i64 m.s) := HM1.out.cell 1
    have c2 : W1.cell? ⟨w.heap.size, 2, none⟩ = some (.int .i64 m.n) := HM1.out.cell 2
    have c3 : W1.cell? ⟨w.heap.size, 3, none⟩ = some (.int .i64 m.b) := HM1.out.cell 3
    have c4 : W1.cell? ⟨w.heap.size, 4, none⟩ = some (.int .i64 m.c) := HM1.out.cell 4
    have c5 : W1.cell? ⟨w.heap.size, 5, none⟩ = some (.int .i64 m.r) := HM1.out.cell 5
    have c6 : W1.cell? ⟨w.heap.size, 6, none⟩ = some (.int .i64 m.y) := HM1.out.cell 6
    have c7 : W1.cell? ⟨w.heap.size, 7, none⟩ = some (.int .i64 m.a) := HM1.out.cell 7
    have c8 : W1.cell? ⟨w.heap.size, 8, none⟩ = some (.bool m.t) := HM1.out.cell 8
    have c9 : W1.cell? ⟨w.heap.size, 9, none⟩ = some (.slice pl nl cl) := HM1.out.cell 9
    have c10 : W1.cell? ⟨w.heap.size, 10, none⟩ = some (.slice pn nn cn) := HM1.out.cell 10
    go_wp2_with fail
    refine (written_any m _ _ W1 (HLK.out _ HB1.out) (HNK.out _ HB1.out) HF.out HE1.out HE2.out).mono ?_
    rintro y W2 ⟨v2, rfl, ho2, hb2⟩
    obtain ⟨p2, q2, hv2⟩ := ho2.form
    generalize hl2 : (msgL m).length = n2 at *
    subst hv2
    have HO2 := Lib.hid ho2
    have HB2 := Lib.hid (HB1.out.trans (hb2.mono HB1.out.size))
    have HL2 := Lib.hid hl2
    clear ho2 hb2 hl2 c0 c1 c2 c3 c4 c5 c6 c7 c8 c9 c10
    go_wp2_with fail
    have HR := Lib.hid (Rows8.two W2 22 W2.heap.size rfl _ _ zs (msgL m) (HBK.out _ HB2.out) HO2.out.row)
    refine (concat8_any _ 0 2 _ _ _ _ HR.out rfl (by decide) (by have := HLEN.out; have := HBL.out; have := HL2.out; simp; omega)).mono ?_
    rintro y w2 ⟨v3, rfl, ho3, hb3⟩
    have HO3 := Lib.hid ho3
    have HB3 := Lib.hid hb3
    clear ho3 hb3
    go_wp2_with fail
    refine bodyPost_ret (results_tmp2 rfl _ _ _) rfl ?_
    have hs := HB2.out.size
    refine ⟨_, ret_ve HE.out.symm, ?_, (HB2.out.alloc hs _).trans (HB3.out.mono (by simp; omega))⟩
    rw [HWR.out]
    refine own_down (by simpa using HO3.out) ?_
    first | omega | (simp; omega)
  · have HWR : Hid (wrL zs m = []) := by show _ = _; unfold wrL; rw [if_neg hE]
    generalize hEE : msgE m = E at *
    have HEE := Lib.hid hEE
    clear hEE
    go_wp2_with fail
    refine bodyPost_ret (results_tmp2 rfl _ _ _) rfl ?_
    refine ⟨_, ret_ve HEE.out.symm, ?_, HB1.out⟩
    rw [HWR.out]
    exact Own.nil_ _ _ _ _
end Go.Proofs.Ytbimbpmdiahhbaa
namespace Go.Proofs.Ytbimbpmdiahhbaa
open Go.RowKit
/-- A row of bytes, turned into a string. -/
theorem conv_row {P : Program} (w : World) (src dst e : TypeId) (hs : P.underlying src = some (.slice e)) (he : P.underlying e = some (.int .u8)) (hd : P.underlying dst = some .string) (v : Value) (zs : List Int) (hrow : Row .u8 w v zs) :
    (convert src dst v).run P w = .ok (.string (strOfNums zs)) w := by
  obtain ⟨p, c, rfl, hc, hr⟩ := id hrow
  cases p with
  | none =>
    have hz : zs = [] := by
      rcases hr with h | ⟨b, o, h, _⟩
      · exact h
      · cases h
    subst hz
    rw [run_convert_bytes_nil w src e hs he _ c dst hd]
    rfl
  | some ad =>
    have hl : (loadCells ad zs.length).run P w = .ok (zs.map (Value.int .u8)).toArray w := by
      have := run_loadCells_list (P := P) w ad (zs.map (Value.int .u8)) hrow.newsAt
      simpa using this
    rw [run_convert_bytes_string w src dst e _ zs.length c hs he hd, run_bytesToString w _ zs.length c zs hl, foldl_push_bytes]
    simp [strOfNums, ByteArray.empty, ByteArray.emptyWithCapacity]
    rfl
end Go.Proofs.Ytbimbpmdiahhbaa
namespace Go.Proofs.Ytbimbpmdiahhbaa
open Go.RowKit
theorem Row.cut {k : IntKind} {w : World} {n c : Nat} {p : Option Addr} {zs : List Int} (h : Row k w (.slice p n c) zs) (m : Nat) (hm : m ≤ zs.length) : Row k w (.slice p m c) (zs.take m) := by
  obtain ⟨p', c', e, hc, h⟩ := h
  cases e
  refine ⟨p, c, by rw [List.length_take, Nat.min_eq_left hm], by rw [List.length_take]; omega, ?_⟩
  rcases h with h | ⟨b, o, hp, h⟩
  · left; rw [h]; simp
  · refine .inr ⟨b, o, hp, fun i hi => ?_⟩
    rw [List.length_take] at hi
    rw [h i (by omega), List.getD_eq_getElem?_getD, List.getD_eq_getElem?_getD, List.getElem?_take, if_pos (by omega)]
theorem readL_cut {n : Int} (h1 : -9223372036854775808 ≤ n) (h2 : n ≤ 9223372036854775807) : readL (natsOf (numL n).dropLast) = (0, 0, 40) := by
  have hz := zz_lt h1 h2
  exact readP_short (zz n) 0 0 (by simpa using hz)
theorem numE_cut {n : Int} (h1 : -9223372036854775808 ≤ n) (h2 : n ≤ 9223372036854775807) : numE (numL n).dropLast 0 = 40 := by unfold numE; rw [if_pos rfl, readL_cut h1 h2]
theorem numL_nought : numL 0 = [0] := by unfold numL; rw [leb_small (by decide)]; rfl
theorem flat_oct {α : Type} {f : α → List Int} (hf : ∀ x, Oct (f x)) : ∀ xs : List α, Oct (xs.flatMap f)
  | [] => fun _ h => by cases h
  | x :: xs => by
    rw [List.flatMap_cons]
    exact (hf x).append (flat_oct hf xs)
theorem boL_oct (t : Bool) : Oct (boL t) := by intro a ha; simp [boL] at ha; subst ha; split <;> omega
theorem linL_oct (x : Lin) : Oct (linL x) := (numL_oct _).append ((numL_oct _).append ((numL_oct _).append (numL_oct _)))
theorem msgL3_oct (m : Msg) : Oct (msgL3 m) := (numL_oct _).append ((flat_oct linL_oct _).append ((numL_oct _).append (flat_oct (fun z => numL_oct z) _)))
theorem msgL_oct (m : Msg) : Oct (msgL m) := (numL_oct _).append ((numL_oct _).append ((numL_oct _).append ((numL_oct _).append ((numL_oct _).append ((numL_oct _).append ((numL_oct _).append ((numL_oct _).append ((boL_oct _).append (msgL3_oct m)))))))))
theorem rE_w {m : Msg} (hE : msgE m = 0) (hF : m.Fit) : rE (msgL m) = 0 ∧ rM (msgL m) = m := by
  obtain ⟨h1, h2, h3⟩ := msg_w hE hF []
  rw [List.append_nil] at h1 h2 h3
  have h4 : rE (msgL m) = 0 := by unfold rE; rw [if_pos h1, h3]; rfl
  exact ⟨h4, by unfold rM; rw [if_pos h4, h2]⟩
theorem rE_more {m : Msg} (hE : msgE m = 0) (hF : m.Fit) (x : Int) : rE (msgL m ++ [x]) = 41 ∧ rM (msgL m ++ [x]) = msg0 := by
  obtain ⟨h1, h2, h3⟩ := msg_w hE hF [x]
  have h4 : rE (msgL m ++ [x]) = 41 := by unfold rE; rw [if_pos h1, h3]; rfl
  exact ⟨h4, by unfold rM; rw [if_neg (by rw [h4]; decide)]⟩
/-- Up to the number of lines. -/
def msgF (m : Msg) : List Int := numL m.k ++ (numL m.s ++ (numL m.n ++ (numL m.b ++ (numL m.c ++ (numL m.r ++ (numL m.y ++ (numL m.a ++ (boL m.t ++ numL m.ls.length))))))))
theorem msgF_eq (m : Msg) : msgL m = msgF m ++ (m.ls.flatMap linL ++ (numL m.ns.length ++ m.ns.flatMap numL)) := by
  unfold msgL msgL2 msgL3 msgF
  simp only [List.append_assoc]
theorem msg_front {m : Msg} (hE : msgE m = 0) (hF : m.Fit) (T : List Int) : badK ⟨msgF m ++ T, 0⟩ = false ∧ R10 ⟨msgF m ++ T, 0⟩ = ⟨T, 0⟩ ∧ nLs ⟨msgF m ++ T, 0⟩ = m.ls.length := by
  obtain ⟨hk, hl, hn, hnums, hls⟩ := msgE_ok hE
  obtain ⟨⟨_, _, _, _, _, _, _, ha⟩, hFl, hFn⟩ := hF
  simp only [Msg.numsOk, Bool.and_eq_true] at hnums
  obtain ⟨h1, h2, h3, h4, h5, h6⟩ := hnums
  have h0 : okN m.k = true := by have := okK_iff.1 hk; exact okN_iff.2 (by omega)
  have e0 : (⟨msgF m ++ T, 0⟩ : RS).nx = ⟨numL m.s ++ (numL m.n ++ (numL m.b ++ (numL m.c ++ (numL m.r ++ (numL m.y ++ (numL m.a ++ (boL m.t ++ (numL m.ls.length ++ T)))))))), 0⟩ ∧ (⟨msgF m ++ T, 0⟩ : RS).nV = m.k := by
    unfold msgF
    simp only [List.append_assoc]
    exact nx_w h0 _
  generalize hR : (⟨msgF m ++ T, 0⟩ : RS) = R at *
  obtain ⟨e0, v0⟩ := e0
  have hbad : badK R = false := by unfold badK; rw [e0, v0, hk]; rfl
  have e1 := (nx_w h1 (numL m.n ++ (numL m.b ++ (numL m.c ++ (numL m.r ++ (numL m.y ++ (numL m.a ++ (boL m.t ++ (numL m.ls.length ++ T))))))))).1
  have e2 := (nx_w h2 (numL m.b ++ (numL m.c ++ (numL m.r ++ (numL m.y ++ (numL m.a ++ (boL m.t ++ (numL m.ls.length ++ T)))))))).1
  have e3 := (nx_w h3 (numL m.c ++ (numL m.r ++ (numL m.y ++ (numL m.a ++ (boL m.t ++ (numL m.ls.length ++ T))))))).1
  have e4 := (nx_w h4 (numL m.r ++ (numL m.y ++ (numL m.a ++ (boL m.t ++ (numL m.ls.length ++ T)))))).1
  have e5 := (nx_w h5 (numL m.y ++ (numL m.a ++ (boL m.t ++ (numL m.ls.length ++ T))))).1
  have e6 := (nx_w h6 (numL m.a ++ (boL m.t ++ (numL m.ls.length ++ T)))).1
  have e8 := (num_w ha (boL m.t ++ (numL m.ls.length ++ T))).1
  have e9 := (bool_w m.t (numL m.ls.length ++ T)).1
  have q9 : R9 R = ⟨numL m.ls.length ++ T, 0⟩ := by unfold R9 R7; rw [e0, e1, e2, e3, e4, e5, e6, e8, e9]
  obtain ⟨e10, v10⟩ := int_w (z := (m.ls.length : Int)) (a := 0) (b := 1024) (by unfold I64; omega) (by omega) (by omega) T
  refine ⟨hbad, ?_, ?_⟩
  · unfold R10; rw [q9, e10]
  · unfold nLs; rw [q9, v10]; omega
theorem numL_ne (z : Int) : numL z ≠ [] := leb_ne _
theorem rE_short {m : Msg} (hE : msgE m = 0) (hF : m.Fit) : rE (msgL m).dropLast = 40 := by
  obtain ⟨hk, hl, hn, hnums, hls⟩ := msgE_ok hE
  obtain ⟨_, hFl, hFn⟩ := id hF
  have key : rdE ⟨(msgL m).dropLast, 0⟩ = 40 := by
    rw [msgF_eq]
    by_cases h0 : m.ns = []
    · have e : (msgF m ++ (m.ls.flatMap linL ++ (numL m.ns.length ++ m.ns.flatMap numL))).dropLast = msgF m ++ (m.ls.flatMap linL ++ (numL 0).dropLast) := by
        rw [h0, List.flatMap_nil, List.append_nil, ← List.append_assoc, List.dropLast_append_of_ne_nil (numL_ne _), List.append_assoc]
        rfl
      rw [e]
      obtain ⟨f1, f2, f3⟩ := msg_front hE hF (m.ls.flatMap linL ++ (numL 0).dropLast)
      generalize (⟨msgF m ++ (m.ls.flatMap linL ++ (numL 0).dropLast), 0⟩ : RS) = R at *
      have q11 : R11 R = ⟨(numL 0).dropLast, 0⟩ := by unfold R11; rw [f2, f3, (lins_w m.ls.length m.ls rfl (fun x hx => List.all_eq_true.1 hls x hx) (fun x hx => (hFl x hx).2.2.2) _).1]
      have hd : (numL 0).dropLast = [] := by rw [numL_nought]; rfl
      have q12 : R12 R = ⟨[], 40⟩ := by unfold R12; rw [q11, hd]; rfl
      have qn : nNs R = 0 := by unfold nNs; rw [q11, hd]; rfl
      unfold rdE R13
      rw [f1, qn, q12]
      rfl
    · have hsp := (List.dropLast_concat_getLast h0).symm
      generalize hp : m.ns.dropLast = ps at hsp
      generalize hz : m.ns.getLast h0 = z at hsp
      have hzF : I64 z := hFn z (by rw [hsp]; simp)
      have hpl : m.ns.length = ps.length + 1 := by rw [hsp]; simp
      have e : (msgF m ++ (m.ls.flatMap linL ++ (numL m.ns.length ++ m.ns.flatMap numL))).dropLast = msgF m ++ (m.ls.flatMap linL ++ (numL m.ns.length ++ (ps.flatMap numL ++ (numL z).dropLast))) := by
        have e1 : m.ns.flatMap numL = ps.flatMap numL ++ numL z := by rw [hsp]; simp
        rw [e1, ← List.append_assoc, ← List.append_assoc, ← List.append_assoc, List.dropLast_append_of_ne_nil (numL_ne _)]
        simp only [List.append_assoc]
      rw [e]
      obtain ⟨f1, f2, f3⟩ := msg_front hE hF (m.ls.flatMap linL ++ (numL m.ns.length ++ (ps.flatMap numL ++ (numL z).dropLast)))
      generalize (⟨msgF m ++ (m.ls.flatMap linL ++ (numL m.ns.length ++ (ps.flatMap numL ++ (numL z).dropLast))), 0⟩ : RS) = R at *
      have q11 : R11 R = ⟨numL m.ns.length ++ (ps.flatMap numL ++ (numL z).dropLast), 0⟩ := by unfold R11; rw [f2, f3, (lins_w m.ls.length m.ls rfl (fun x hx => List.all_eq_true.1 hls x hx) (fun x hx => (hFl x hx).2.2.2) _).1]
      obtain ⟨e12, v12⟩ := int_w (z := (m.ns.length : Int)) (a := 0) (b := 8) (by unfold I64; omega) (by omega) (by omega) (ps.flatMap numL ++ (numL z).dropLast)
      have q12 : R12 R = ⟨ps.flatMap numL ++ (numL z).dropLast, 0⟩ := by unfold R12; rw [q11, e12]
      have qn : nNs R = ps.length + 1 := by unfold nNs; rw [q11, v12]; omega
      have qe : ((⟨ps.flatMap numL ++ (numL z).dropLast, 0⟩ : RS).nets ps.length) = ⟨(numL z).dropLast, 0⟩ := (nets_w ps.length ps rfl (fun x hx => hFn x (by rw [hsp]; exact List.mem_append_left _ hx)) _).1
      unfold rdE R13
      rw [f1, qn, q12, RS.nets, qe]
      exact numE_cut hzF.1 hzF.2
  unfold rE
  rw [key]
  rfl
def vote3 : Msg := ⟨13, 0, 0, 0, 0, 0, 3, 0, true, [], []⟩
theorem numL_13 : numL 13 = [26] := by unfold numL; rw [leb_small (by decide)]; rfl
theorem numL_3 : numL 3 = [6] := by unfold numL; rw [leb_small (by decide)]; rfl
theorem vote3_E : msgE vote3 = 0 := by decide
theorem vote3_L : msgL vote3 = [26, 0, 0, 0, 0, 0, 6, 0, 1, 0, 0] := by
  unfold msgL msgL2 msgL3 vote3
  simp only [List.length_nil, List.flatMap_nil]
  rw [numL_13, numL_3, show ((0 : Nat) : Int) = 0 from rfl, numL_nought]
  rfl
theorem vote3_F : vote3.Fit := by
  refine ⟨?_, (fun _ h => by cases h), (fun _ h => by cases h)⟩
  unfold vote3 I64
  decide
end Go.Proofs.Ytbimbpmdiahhbaa
namespace Go.Proofs.Ytbimbpmdiahhbaa
open Go.RowKit
set_option maxHeartbeats 2000000 in
set_option maxRecDepth 100000 in
theorem says_any (w : World) : Calls Try.prog 4 #[] w fun e w' => e = .returned (.bool true) ∧ Below w.heap.size w w' := by
  go_enter Try.func4, Try.ntmps4
  go_wp2_with fail
  refine (write_any _ [] vote3 _ _ w (Row.nil_ _ _ 0) (TRow.nil_ _ _) (Row.nil_ _ _ 0) vote3_F (by simp) (by decide) (by decide)).mono ?_
  rintro y w1 ⟨v1, rfl, ho1, hb1⟩
  rw [vote3_E, show wrL [] vote3 = [26, 0, 0, 0, 0, 0, 6, 0, 1, 0, 0] by unfold wrL; rw [if_pos vote3_E, vote3_L]; rfl] at *
  have HO1 := Lib.hid ho1.row
  have k1 := conv_row (P := Try.prog) w1 22 9 5 Try.underlying22 Try.underlying5 Try.underlying9 v1 _ ho1.row
  have HB1 := Lib.hid hb1
  obtain ⟨p1, c1, rfl⟩ := ho1.form
  clear ho1 hb1
  go_wp2_with fail
  refine (mread_any _ _ w1 HO1.out (by rw [← vote3_L]; exact msgL_oct _) (by decide)).mono ?_
  rintro y w2 ⟨vl, vn, rfl, ol2, on2, hb2⟩
  have hr := rE_w vote3_E vote3_F
  rw [vote3_L] at hr
  rw [hr.2] at ol2 on2
  rw [hr.1, hr.2]
  obtain ⟨pl, cl, rfl⟩ := ol2.form
  obtain ⟨pn, cn, rfl⟩ := on2.form
  have k2 := conv_row (P := Try.prog) (w2.alloc (.cells #[.int .i64 13, .int .i64 0, .int .i64 0, .int .i64 0, .int .i64 0, .int .i64 0, .int .i64 3, .int .i64 0, .bool true, .slice pl 0 cl, .slice pn 0 cn] 29)) 22 9 5 Try.underlying22 Try.underlying5 Try.underlying9 (.slice p1 11 c1) _ ((HO1.out.kept hb2).kept (oneB _ _))
  rw [show strOfNums [26, 0, 0, 0, 0, 0, 6, 0, 1, 0, 0] = ⟨#[26, 0, 0, 0, 0, 0, 6, 0, 1, 0, 0]⟩ from rfl] at k2
  have HB2 := Lib.hid (HB1.out.trans (hb2.mono HB1.out.size))
  clear ol2 on2 hb2 hr k1
  unfold Msg.v vote3
  go_wp2_with fail
  go_ret
  exact ⟨rfl, HB2.out.alloc HB2.out.size _⟩
end Go.Proofs.Ytbimbpmdiahhbaa
namespace Go.Proofs.Ytbimbpmdiahhbaa
open Go.RowKit
theorem natsOf_same : ∀ {a b : List Int}, Oct a → Oct b → natsOf a = natsOf b → a = b
  | [], [], _, _, _ => rfl
  | [], _ :: _, _, _, h => by simp [natsOf] at h
  | _ :: _, [], _, _, h => by simp [natsOf] at h
  | x :: a, y :: b, ha, hb, h => by
    simp only [natsOf, List.map_cons, List.cons.injEq] at h
    have h1 := ha x (List.mem_cons_self ..)
    have h2 := hb y (List.mem_cons_self ..)
    have e : x = y := by omega
    rw [e, natsOf_same (fun z hz => ha z (List.mem_cons_of_mem _ hz)) (fun z hz => hb z (List.mem_cons_of_mem _ hz)) h.2]
theorem num_back {r : RS} (ho : Oct r.z) (h : r.num.e = 0) : r.e = 0 ∧ numL r.numV ++ r.num.z = r.z := by
  have h1 : numE r.z r.e = 0 := h
  have he : r.e = 0 := by
    refine Classical.byContradiction fun hn => ?_
    rw [numE_bad hn] at h1
    exact hn h1
  refine ⟨he, ?_⟩
  have h2 : (readL (natsOf r.z)).2.2 = 0 := by
    unfold numE at h1
    rw [if_pos he] at h1
    exact h1
  have hv : r.numV = (readL (natsOf r.z)).1 := by
    show numV r.z r.e = _
    unfold numV
    rw [if_pos h1]
  have hz : r.num.z = r.z.drop (readL (natsOf r.z)).2.1 := by
    show numR r.z r.e = _
    unfold numR
    rw [if_pos h1]
  have h3 : natsOf (numL r.numV) = natsOf (r.z.take (readL (natsOf r.z)).2.1) := by
    rw [natsOf_take, hv]
    refine readL_back (fun x hx => ?_) h2
    obtain ⟨a, ha, rfl⟩ := List.mem_map.1 hx
    have := ho a ha
    omega
  have h4 : numL r.numV = r.z.take (readL (natsOf r.z)).2.1 := natsOf_same (numL_oct _) (fun a ha => ho a ((List.take_sublist _ _).subset ha)) h3
  rw [h4, hz, List.take_append_drop]
theorem int_back {r : RS} (ho : Oct r.z) {a b : Int} (h : (r.int a b).e = 0) : r.e = 0 ∧ numL (r.intV a b) ++ (r.int a b).z = r.z := by
  have h1 : intE r.z r.e a b = 0 := h
  unfold intE at h1
  by_cases hb : outB (numV r.z r.e) a b = true
  · rw [if_pos hb] at h1
    unfold orE at h1
    split at h1
    · cases h1
    · exact absurd h1 ‹_›
  · rw [if_neg hb] at h1
    have h2 := num_back (r := r) ho h1
    refine ⟨h2.1, ?_⟩
    have hv : r.intV a b = r.numV := by
      show intV r.z r.e a b = _
      unfold intV
      rw [if_neg hb]
      rfl
    rw [hv]
    exact h2.2
theorem bool_back {r : RS} (ho : Oct r.z) (h : r.bool.e = 0) : r.e = 0 ∧ boL r.boolV ++ r.bool.z = r.z := by
  have h1 : boolE r.z r.e = 0 := h
  unfold boolE at h1
  by_cases ht : takeE r.z r.e 1 = 0
  · rw [if_pos ht] at h1
    have h2 := takeE_good ht
    refine ⟨h2.1, ?_⟩
    have hv : r.boolV = decide (r.z.getD 0 0 = 1) := by
      show boolV r.z r.e = _
      unfold boolV
      rw [if_pos ht]
    have hz : r.bool.z = r.z.drop 1 := by
      show boolR r.z r.e = _
      unfold boolR
      rw [if_pos ht]
    rw [hv, hz]
    cases hr : r.z with
    | nil => rw [hr] at h2; simp at h2
    | cons x t =>
      rw [hr] at h1
      have hx := ho x (by rw [hr]; exact List.mem_cons_self ..)
      simp only [List.getD_cons_zero] at h1 ⊢
      have hx1 : x = 0 ∨ x = 1 := by
        split at h1
        · cases h1
        · omega
      unfold boL
      rcases hx1 with rfl | rfl <;> simp
  · rw [if_neg ht] at h1
    exact absurd h1 ht
theorem lin_back {r : RS} (hg : r.Good) (h : r.lin.e = 0) : r.e = 0 ∧ linL (rdLin r) ++ r.lin.z = r.z := by
  have h1 := num_back (r := r.nx.nx.nx) hg.nx.nx.nx.1 h
  have h2 := int_back (r := r.nx.nx) hg.nx.nx.1 h1.1
  have h3 := int_back (r := r.nx) hg.nx.1 h2.1
  have h4 := int_back (r := r) hg.1 h3.1
  refine ⟨h4.1, ?_⟩
  unfold linL rdLin
  dsimp only
  rw [List.append_assoc, List.append_assoc, List.append_assoc]
  show numL r.nV ++ (numL r.nx.nV ++ (numL r.nx.nx.nV ++ (numL r.nx.nx.nx.numV ++ r.nx.nx.nx.num.z))) = r.z
  rw [h1.2]
  have e2 : numL r.nx.nx.nV ++ r.nx.nx.nx.z = r.nx.nx.z := h2.2
  have e3 : numL r.nx.nV ++ r.nx.nx.z = r.nx.z := h3.2
  have e4 : numL r.nV ++ r.nx.z = r.z := h4.2
  rw [e2, e3, e4]
theorem lins_back {r : RS} (hg : r.Good) : ∀ n, (r.lins n).e = 0 → r.e = 0 ∧ (rdLins r n).flatMap linL ++ (r.lins n).z = r.z
  | 0, h => ⟨h, rfl⟩
  | n + 1, h => by
    have h1 := lin_back (r := r.lins n) (hg.lins n) h
    have h2 := lins_back hg n h1.1
    refine ⟨h2.1, ?_⟩
    show (rdLins r n ++ [rdLin (r.lins n)]).flatMap linL ++ (r.lins n).lin.z = r.z
    rw [List.flatMap_append, List.flatMap_singleton, List.append_assoc, h1.2, h2.2]
theorem nets_back {r : RS} (hg : r.Good) : ∀ n, (r.nets n).e = 0 → r.e = 0 ∧ (rdNets r n).flatMap numL ++ (r.nets n).z = r.z
  | 0, h => ⟨h, rfl⟩
  | n + 1, h => by
    have h1 := num_back (r := r.nets n) (hg.nets n).1 h
    have h2 := nets_back hg n h1.1
    refine ⟨h2.1, ?_⟩
    show (rdNets r n ++ [(r.nets n).numV]).flatMap numL ++ (r.nets n).num.z = r.z
    rw [List.flatMap_append, List.flatMap_singleton, List.append_assoc, h1.2, h2.2]
set_option maxRecDepth 100000 in
theorem all_back {r : RS} (hg : r.Good) (h : (R13 r).e = 0) : msgL (rdAll r) ++ (R13 r).z = r.z := by
  have n1 := nets_back (r := R12 r) (R12_good hg) (nNs r) h
  have n2 := int_back (r := R11 r) (R11_good hg).1 n1.1
  have n3 := lins_back (r := R10 r) (R10_good hg) (nLs r) n2.1
  have n4 := int_back (r := R9 r) (R9_good hg).1 n3.1
  have n5 := bool_back (r := (R7 r).num) (R7_good hg).num.1 n4.1
  have n6 := num_back (r := R7 r) (R7_good hg).1 n5.1
  have n7 := int_back (r := r.nx.nx.nx.nx.nx.nx) hg.nx.nx.nx.nx.nx.nx.1 n6.1
  have n8 := int_back (r := r.nx.nx.nx.nx.nx) hg.nx.nx.nx.nx.nx.1 n7.1
  have n9 := int_back (r := r.nx.nx.nx.nx) hg.nx.nx.nx.nx.1 n8.1
  have m1 := int_back (r := r.nx.nx.nx) hg.nx.nx.nx.1 n9.1
  have m2 := int_back (r := r.nx.nx) hg.nx.nx.1 m1.1
  have m3 := int_back (r := r.nx) hg.nx.1 m2.1
  have m4 := int_back (r := r) hg.1 m3.1
  have e1 : (rdNets (R12 r) (nNs r)).flatMap numL ++ (R13 r).z = (R12 r).z := n1.2
  have e2 : numL ((nNs r : Nat) : Int) ++ (R12 r).z = (R11 r).z := by have := n2.2; rw [(nNs_eq r).1] at this; exact this
  have e3 : (rdLins (R10 r) (nLs r)).flatMap linL ++ (R11 r).z = (R10 r).z := n3.2
  have e4 : numL ((nLs r : Nat) : Int) ++ (R10 r).z = (R9 r).z := by have := n4.2; rw [(nLs_eq r).1] at this; exact this
  have e5 : boL (R7 r).num.boolV ++ (R9 r).z = (R7 r).num.z := n5.2
  have e6 : numL (R7 r).numV ++ (R7 r).num.z = (R7 r).z := n6.2
  have e7 : numL r.nx.nx.nx.nx.nx.nx.nV ++ (R7 r).z = r.nx.nx.nx.nx.nx.nx.z := n7.2
  have e8 : numL r.nx.nx.nx.nx.nx.nV ++ r.nx.nx.nx.nx.nx.nx.z = r.nx.nx.nx.nx.nx.z := n8.2
  have e9 : numL r.nx.nx.nx.nx.nV ++ r.nx.nx.nx.nx.nx.z = r.nx.nx.nx.nx.z := n9.2
  have f1 : numL r.nx.nx.nx.nV ++ r.nx.nx.nx.nx.z = r.nx.nx.nx.z := m1.2
  have f2 : numL r.nx.nx.nV ++ r.nx.nx.nx.z = r.nx.nx.z := m2.2
  have f3 : numL r.nx.nV ++ r.nx.nx.z = r.nx.z := m3.2
  have f4 : numL r.nV ++ r.nx.z = r.z := m4.2
  unfold msgL msgL2 msgL3 rdAll
  dsimp only
  rw [rdLins_len, rdNets_len]
  simp only [List.append_assoc]
  rw [e1, e2, e3, e4, e5, e6, e7, e8, e9, f1, f2, f3, f4]
set_option maxRecDepth 100000 in
/-- **What is read of any bytes without an error is written in the same bytes.** -/
theorem msg_back {zs : List Int} (ho : Oct zs) (hl : zs.length ≤ 9223372036854775000) (h : rE zs = 0) : msgL (rM zs) = zs := by
  have hg : (⟨zs, 0⟩ : RS).Good := ⟨ho, hl⟩
  unfold rM
  rw [if_pos h]
  unfold rE at h
  by_cases h1 : rdE ⟨zs, 0⟩ = 0
  · rw [if_pos h1] at h
    unfold rdM
    rw [if_pos h1]
    have hb : badK ⟨zs, 0⟩ = false := by
      cases hb : badK ⟨zs, 0⟩
      · rfl
      · unfold rdE at h1
        rw [hb] at h1
        cases h1
    have hR : rdR ⟨zs, 0⟩ = R13 ⟨zs, 0⟩ := by unfold rdR; rw [hb]; rfl
    have h2 : (R13 ⟨zs, 0⟩).e = 0 := by
      unfold rdE at h1
      rw [hb] at h1
      exact h1
    have h3 := all_back hg h2
    rw [hR] at h
    have h4 : (R13 ⟨zs, 0⟩).z = [] := by
      unfold endE at h
      split at h
      · assumption
      · cases h
    rw [h4, List.append_nil] at h3
    exact h3
  · rw [if_neg h1] at h
    exact absurd h h1
end Go.Proofs.Ytbimbpmdiahhbaa
namespace Go.Proofs.Ytbimbpmdiahhbaa
open Go.RowKit
theorem rdLins_all {P : Lin → Prop} {r : RS} (h : ∀ k, P (rdLin (r.lins k))) : ∀ n, ∀ x ∈ rdLins r n, P x
  | 0, x, hx => by cases hx
  | n + 1, x, hx => by
    rw [rdLins, List.mem_append] at hx
    rcases hx with hx | hx
    · exact rdLins_all h n x hx
    · rw [List.mem_singleton] at hx
      subst hx
      exact h n
theorem rdNets_all {P : Int → Prop} {r : RS} (h : ∀ k, P (r.nets k).numV) : ∀ n, ∀ x ∈ rdNets r n, P x
  | 0, x, hx => by cases hx
  | n + 1, x, hx => by
    rw [rdNets, List.mem_append] at hx
    rcases hx with hx | hx
    · exact rdNets_all h n x hx
    · rw [List.mem_singleton] at hx
      subst hx
      exact h n
theorem msg0_fit : msg0.Fit := ⟨by unfold msg0 I64; decide, (fun _ h => nomatch h), (fun _ h => nomatch h)⟩
theorem rdAll_fit (r : RS) : (rdAll r).Fit ∧ (rdAll r).ls.length ≤ 1024 ∧ (rdAll r).ns.length ≤ 8 := by
  refine ⟨⟨⟨r.nV_64, r.nx.nV_64, r.nx.nx.nV_64, r.nx.nx.nx.nV_64, r.nx.nx.nx.nx.nV_64, r.nx.nx.nx.nx.nx.nV_64, r.nx.nx.nx.nx.nx.nx.nV_64, (R7 r).numV_fits⟩, ?_, ?_⟩, ?_, ?_⟩
  · exact rdLins_all (fun k => ⟨RS.nV_64 _, RS.nV_64 _, RS.nV_64 _, RS.numV_fits _⟩) _
  · exact rdNets_all (fun k => RS.numV_fits _) _
  · show (rdLins (R10 r) (nLs r)).length ≤ 1024
    rw [rdLins_len]
    exact (nLs_eq r).2
  · show (rdNets (R12 r) (nNs r)).length ≤ 8
    rw [rdNets_len]
    exact (nNs_eq r).2
theorem rM_fit (zs : List Int) : (rM zs).Fit ∧ (rM zs).ls.length ≤ 1024 ∧ (rM zs).ns.length ≤ 8 := by
  unfold rM rdM
  split
  · split
    · exact rdAll_fit _
    · exact ⟨msg0_fit, by decide, by decide⟩
  · exact ⟨msg0_fit, by decide, by decide⟩
theorem nx_bad {r : RS} (h : r.nx.e ≠ 0) : (R13 r).e ≠ 0 := by
  have h2 : r.nx.nx.e = r.nx.e := int_stick h _ _
  have h3 : r.nx.nx.nx.e = r.nx.e := (int_stick (r := r.nx.nx) (by rw [h2]; exact h) _ _).trans h2
  have h4 : r.nx.nx.nx.nx.e = r.nx.e := (int_stick (r := r.nx.nx.nx) (by rw [h3]; exact h) _ _).trans h3
  have h5 : r.nx.nx.nx.nx.nx.e = r.nx.e := (int_stick (r := r.nx.nx.nx.nx) (by rw [h4]; exact h) _ _).trans h4
  have h6 : r.nx.nx.nx.nx.nx.nx.e = r.nx.e := (int_stick (r := r.nx.nx.nx.nx.nx) (by rw [h5]; exact h) _ _).trans h5
  have e7 : (R7 r).e = r.nx.e := (int_stick (r := r.nx.nx.nx.nx.nx.nx) (by rw [h6]; exact h) _ _).trans h6
  rw [← F13_R13, F13_stick (by rw [e7]; exact h), e7]
  exact h
theorem rM_E {zs : List Int} (h : rE zs = 0) : msgE (rM zs) = 0 := by
  have hm : rM zs = rdM ⟨zs, 0⟩ := by unfold rM; rw [if_pos h]
  have h1 : rdE ⟨zs, 0⟩ = 0 := by
    unfold rE at h
    split at h
    · assumption
    · exact h
  have hm2 : rdM ⟨zs, 0⟩ = rdAll ⟨zs, 0⟩ := by unfold rdM; rw [if_pos h1]
  rw [hm, hm2]
  generalize (⟨zs, 0⟩ : RS) = r at *
  have hb : badK r = false := by
    cases hb : badK r
    · rfl
    · unfold rdE at h1; rw [hb] at h1; cases h1
  have h13 : (R13 r).e = 0 := by unfold rdE at h1; rw [hb, if_neg (by simp)] at h1; exact h1
  have hx : r.nx.e = 0 := by
    by_cases hx : r.nx.e = 0
    · exact hx
    · exact absurd h13 (nx_bad hx)
  have hk : okK r.nV = true := by
    unfold badK at hb
    rw [hx] at hb
    simpa using hb
  have ⟨_, hl, hn⟩ := rdAll_fit r
  have hnu : (rdAll r).numsOk = true := by
    unfold Msg.numsOk rdAll
    dsimp only
    rw [r.nx.nV_fits, r.nx.nx.nV_fits, r.nx.nx.nx.nV_fits, r.nx.nx.nx.nx.nV_fits, r.nx.nx.nx.nx.nx.nV_fits, r.nx.nx.nx.nx.nx.nx.nV_fits]
    rfl
  have hli : (rdAll r).ls.all Lin.ok = true := by
    rw [List.all_eq_true]
    exact rdLins_all (fun k => by
      unfold Lin.ok rdLin
      dsimp only
      rw [RS.nV_fits, RS.nV_fits, RS.nV_fits]
      rfl) _
  have hk2 : okK (rdAll r).k = true := hk
  unfold msgE
  rw [hk2, hnu, hli]
  simp
  omega
theorem rM_wr {zs : List Int} (ho : Oct zs) (hl : zs.length ≤ 9223372036854775000) (h : rE zs = 0) : msgE (rM zs) = 0 ∧ wrL [] (rM zs) = zs := by
  refine ⟨rM_E h, ?_⟩
  unfold wrL
  rw [if_pos (rM_E h), msg_back ho hl h]
  rfl
end Go.Proofs.Ytbimbpmdiahhbaa
namespace Go.Proofs.Ytbimbpmdiahhbaa
open Go.RowKit
set_option linter.unusedSimpArgs false
set_option maxHeartbeats 8000000 in
set_option maxRecDepth 100000 in
theorem mreads_walk (vb : Value) (zs : List Int) (W : World) (ho : Oct zs) (hr : Row .u8 W vb zs) (_hl : zs.length ≤ 140737488355328) :
    Calls Try.prog 3 #[vb] W fun e w' => e = .returned (.bool true) ∧ Below W.heap.size W w' := by
  obtain ⟨pb, cb, rfl⟩ := hr.shape
  have HO := Lib.hid ho
  have Qz0 := Lib.hid hr
  have HB0 : Hid (Below W.heap.size W W) := Lib.hid (Below.refl _ _)
  have HZ0 : Hid (W.heap.size ≤ W.heap.size) := Lib.hid (Nat.le_refl _)
  clear ho hr _hl
  generalize hzl : zs.length = n at *
  have HZL := Lib.hid hzl
  clear hzl
  by_cases h1 : 20000 < n
  · have g1 : (20000 : Int) < (n : Int) := by omega
    go_enter Try.func3, Try.ntmps3
    go_wp2_with fail
    refine (says_any _).mono ?_
    rintro y w1 ⟨rfl, hb1⟩
    go_wp2_with fail
    go_ret
    exact ⟨rfl, hb1⟩
  have g1 : ¬ (20000 : Int) < (n : Int) := by omega
  have HN : Hid (zs.length ≤ 20000) := Lib.hid (by rw [HZL.out]; omega)
  clear h1
  go_enter Try.func3, Try.ntmps3
  go_wp2_with fail
  refine (says_any _).mono ?_
  rintro y w1 ⟨rfl, hb⟩
  have Qz1 := Lib.hid (Qz0.out.kept hb)
  have HB1 := Lib.hid (HB0.out.trans (hb.mono HB0.out.size))
  have HZ1 : Hid (W.heap.size ≤ w1.heap.size) := Lib.hid (Nat.le_trans HZ0.out hb.size)
  clear Qz0 HB0 HZ0
  clear hb
  go_wp2_with fail
  clear g1
  have HG := Lib.hid (mread_any _ zs w1 Qz1.out HO.out (by have h1 := HN.out; omega))
  refine HG.out.mono ?_
  rintro y w2 ⟨vl, vn, rfl, hol, hon, hb⟩
  clear HG
  have Qz2 := Lib.hid (Qz1.out.kept hb)
  have HB2 := Lib.hid (HB1.out.trans (hb.mono HB1.out.size))
  have HZ2 : Hid (W.heap.size ≤ w2.heap.size) := Lib.hid (Nat.le_trans HZ1.out hb.size)
  clear Qz1 HB1 HZ1
  clear hb
  obtain ⟨m, hm⟩ : ∃ m, rM zs = m := ⟨_, rfl⟩
  obtain ⟨e0, he0⟩ : ∃ z, rE zs = z := ⟨_, rfl⟩
  rw [hm] at hol hon ⊢
  rw [he0]
  obtain ⟨pl, cl, rfl⟩ := hol.form
  obtain ⟨pn, cn, rfl⟩ := hon.form
  have Sl2 := Lib.hid hol
  have Qn2 : Hid (NRw w2 w1.heap.size (.slice pn m.ns.length cn) m.ns) := Lib.hid hon
  have HME := Lib.hid (And.intro hm he0)
  have HFT : Hid (m.Fit ∧ m.ls.length ≤ 1024 ∧ m.ns.length ≤ 8) := Lib.hid (by rw [← hm]; exact rM_fit zs)
  clear hol hon hm he0
  unfold Msg.v
  have hba := oneB w2 (.cells #[.int .i64 m.k, .int .i64 m.s, .int .i64 m.n, .int .i64 m.b, .int .i64 m.c, .int .i64 m.r, .int .i64 m.y, .int .i64 m.a, .bool m.t, .slice pl m.ls.length cl, .slice pn m.ns.length cn] 29)
  have Qz3 := Lib.hid (Qz2.out.kept hba)
  have Qn3 := Lib.hid (Qn2.out.kept hba)
  have Sl3 := Lib.hid (Sl2.out.later hba)
  have Ha3 := Lib.hid (Blk.new w2 #[.int .i64 m.k, .int .i64 m.s, .int .i64 m.n, .int .i64 m.b, .int .i64 m.c, .int .i64 m.r, .int .i64 m.y, .int .i64 m.a, .bool m.t, .slice pl m.ls.length cl, .slice pn m.ns.length cn] 29)
  have HB3 := Lib.hid (HB2.out.alloc HB2.out.size (.cells #[.int .i64 m.k, .int .i64 m.s, .int .i64 m.n, .int .i64 m.b, .int .i64 m.c, .int .i64 m.r, .int .i64 m.y, .int .i64 m.a, .bool m.t, .slice pl m.ls.length cl, .slice pn m.ns.length cn] 29))
  have HZ3 : Hid (W.heap.size ≤ (w2.alloc (.cells #[.int .i64 m.k, .int .i64 m.s, .int .i64 m.n, .int .i64 m.b, .int .i64 m.c, .int .i64 m.r, .int .i64 m.y, .int .i64 m.a, .bool m.t, .slice pl m.ls.length cl, .slice pn m.ns.length cn] 29)).heap.size) := Lib.hid (Nat.le_trans HZ2.out hba.size)
  have HGga : Hid (W.heap.size ≤ w2.heap.size) := Lib.hid HB2.out.size
  clear hba Qz2 Qn2 Sl2 HB2 HZ2
  go_upto_region 6 with fail
  generalize (w2.alloc (.cells #[.int .i64 m.k, .int .i64 m.s, .int .i64 m.n, .int .i64 m.b, .int .i64 m.c, .int .i64 m.r, .int .i64 m.y, .int .i64 m.a, .bool m.t, .slice pl m.ls.length cl, .slice pn m.ns.length cn] 29)) = W3 at *
  generalize hgga : w2.heap.size = ga at *
  clear hgga
  clear HGga
  have kb := conv_row (P := Try.prog) W3 22 9 5 Try.underlying22 Try.underlying5 Try.underlying9 (.slice pb n cb) zs Qz3.out
  go_wp2_with fail
  clear kb
  have HG := Lib.hid (refmread_any W3 (strOfNums zs) zs HO.out rfl HN.out)
  refine HG.out.mono ?_
  rintro y w4 ⟨vl2, vn2, rfl, hol, hon, hb⟩
  clear HG
  have Ha4 := Lib.hid (Ha3.out.below hb Ha3.out.lt)
  have Qz4 := Lib.hid (Qz3.out.kept hb)
  have Qn4 := Lib.hid (Qn3.out.kept hb)
  have Sl4 := Lib.hid (Sl3.out.later hb)
  have HB4 := Lib.hid (HB3.out.trans (hb.mono HB3.out.size))
  have HZ4 : Hid (W.heap.size ≤ w4.heap.size) := Lib.hid (Nat.le_trans HZ3.out hb.size)
  clear Ha3 Qz3 Qn3 Sl3 HB3 HZ3
  clear hb
  rw [HME.out.1] at hol hon ⊢
  rw [HME.out.2]
  obtain ⟨ql, dl, rfl⟩ := hol.form
  obtain ⟨qn, dn, rfl⟩ := hon.form
  have Su4 := Lib.hid hol
  have Qv4 : Hid (NRw w4 W3.heap.size (.slice qn m.ns.length dn) m.ns) := Lib.hid hon
  clear hol hon
  unfold Msg.v
  have hba := oneB w4 (.cells #[.int .i64 m.k, .int .i64 m.s, .int .i64 m.n, .int .i64 m.b, .int .i64 m.c, .int .i64 m.r, .int .i64 m.y, .int .i64 m.a, .bool m.t, .slice ql m.ls.length dl, .slice qn m.ns.length dn] 29)
  have Ha5 := Lib.hid (Ha4.out.below hba Ha4.out.lt)
  have Qz5 := Lib.hid (Qz4.out.kept hba)
  have Qn5 := Lib.hid (Qn4.out.kept hba)
  have Qv5 := Lib.hid (Qv4.out.kept hba)
  have Sl5 := Lib.hid (Sl4.out.later hba)
  have Su5 := Lib.hid (Su4.out.later hba)
  have Hd5 := Lib.hid (Blk.new w4 #[.int .i64 m.k, .int .i64 m.s, .int .i64 m.n, .int .i64 m.b, .int .i64 m.c, .int .i64 m.r, .int .i64 m.y, .int .i64 m.a, .bool m.t, .slice ql m.ls.length dl, .slice qn m.ns.length dn] 29)
  have HB5 := Lib.hid (HB4.out.alloc HB4.out.size (.cells #[.int .i64 m.k, .int .i64 m.s, .int .i64 m.n, .int .i64 m.b, .int .i64 m.c, .int .i64 m.r, .int .i64 m.y, .int .i64 m.a, .bool m.t, .slice ql m.ls.length dl, .slice qn m.ns.length dn] 29))
  have HZ5 : Hid (W.heap.size ≤ (w4.alloc (.cells #[.int .i64 m.k, .int .i64 m.s, .int .i64 m.n, .int .i64 m.b, .int .i64 m.c, .int .i64 m.r, .int .i64 m.y, .int .i64 m.a, .bool m.t, .slice ql m.ls.length dl, .slice qn m.ns.length dn] 29)).heap.size) := Lib.hid (Nat.le_trans HZ4.out hba.size)
  have HGgd : Hid (W.heap.size ≤ w4.heap.size) := Lib.hid HB4.out.size
  clear hba Ha4 Qz4 Qn4 Qv4 Sl4 Su4 HB4 HZ4
  go_upto_region 7 with fail
  generalize (w4.alloc (.cells #[.int .i64 m.k, .int .i64 m.s, .int .i64 m.n, .int .i64 m.b, .int .i64 m.c, .int .i64 m.r, .int .i64 m.y, .int .i64 m.a, .bool m.t, .slice ql m.ls.length dl, .slice qn m.ns.length dn] 29)) = W5 at *
  generalize hggd : w4.heap.size = gd at *
  clear hggd
  clear HGgd
  have x0 : W5.cell? ⟨ga, 0, none⟩ = some (.int .i64 m.k) := Ha5.out.cell 0
  have x1 : W5.cell? ⟨ga, 1, none⟩ = some (.int .i64 m.s) := Ha5.out.cell 1
  have x2 : W5.cell? ⟨ga, 2, none⟩ = some (.int .i64 m.n) := Ha5.out.cell 2
  have x3 : W5.cell? ⟨ga, 3, none⟩ = some (.int .i64 m.b) := Ha5.out.cell 3
  have x4 : W5.cell? ⟨ga, 4, none⟩ = some (.int .i64 m.c) := Ha5.out.cell 4
  have x5 : W5.cell? ⟨ga, 5, none⟩ = some (.int .i64 m.r) := Ha5.out.cell 5
  have x6 : W5.cell? ⟨ga, 6, none⟩ = some (.int .i64 m.y) := Ha5.out.cell 6
  have x7 : W5.cell? ⟨ga, 7, none⟩ = some (.int .i64 m.a) := Ha5.out.cell 7
  have x8 : W5.cell? ⟨ga, 8, none⟩ = some (.bool m.t) := Ha5.out.cell 8
  have x9 : W5.cell? ⟨ga, 9, none⟩ = some (.slice pl m.ls.length cl) := Ha5.out.cell 9
  have x10 : W5.cell? ⟨ga, 10, none⟩ = some (.slice pn m.ns.length cn) := Ha5.out.cell 10
  have y0 : W5.cell? ⟨gd, 0, none⟩ = some (.int .i64 m.k) := Hd5.out.cell 0
  have y1 : W5.cell? ⟨gd, 1, none⟩ = some (.int .i64 m.s) := Hd5.out.cell 1
  have y2 : W5.cell? ⟨gd, 2, none⟩ = some (.int .i64 m.n) := Hd5.out.cell 2
  have y3 : W5.cell? ⟨gd, 3, none⟩ = some (.int .i64 m.b) := Hd5.out.cell 3
  have y4 : W5.cell? ⟨gd, 4, none⟩ = some (.int .i64 m.c) := Hd5.out.cell 4
  have y5 : W5.cell? ⟨gd, 5, none⟩ = some (.int .i64 m.r) := Hd5.out.cell 5
  have y6 : W5.cell? ⟨gd, 6, none⟩ = some (.int .i64 m.y) := Hd5.out.cell 6
  have y7 : W5.cell? ⟨gd, 7, none⟩ = some (.int .i64 m.a) := Hd5.out.cell 7
  have y8 : W5.cell? ⟨gd, 8, none⟩ = some (.bool m.t) := Hd5.out.cell 8
  have y9 : W5.cell? ⟨gd, 9, none⟩ = some (.slice ql m.ls.length dl) := Hd5.out.cell 9
  have y10 : W5.cell? ⟨gd, 10, none⟩ = some (.slice qn m.ns.length dn) := Hd5.out.cell 10
  have HG := Lib.hid (msame_any m _ _ _ _ W5 Sl5.out.row (Own.row Qn5.out) Su5.out.row (Own.row Qv5.out) (by have h1 := HFT.out.2.1; omega) (by have h1 := HFT.out.2.2; omega))
  unfold Msg.v at HG
  go_wp2_with fail
  clear x0 x1 x2 x3 x4 x5 x6 x7 x8 x9 x10 y0 y1 y2 y3 y4 y5 y6 y7 y8 y9 y10
  refine HG.out.mono ?_
  rintro y w6 ⟨rfl, hb⟩
  clear HG
  have Ha6 := Lib.hid (Ha5.out.below hb Ha5.out.lt)
  have Hd6 := Lib.hid (Hd5.out.below hb Hd5.out.lt)
  have Qz6 := Lib.hid (Qz5.out.kept hb)
  have Qn6 := Lib.hid (Qn5.out.kept hb)
  have Qv6 := Lib.hid (Qv5.out.kept hb)
  have Sl6 := Lib.hid (Sl5.out.later hb)
  have Su6 := Lib.hid (Su5.out.later hb)
  have HB6 := Lib.hid (HB5.out.trans (hb.mono HB5.out.size))
  have HZ6 : Hid (W.heap.size ≤ w6.heap.size) := Lib.hid (Nat.le_trans HZ5.out hb.size)
  clear Ha5 Hd5 Qz5 Qn5 Qv5 Sl5 Su5 HB5 HZ5
  clear hb
  by_cases hE : e0 = 0
  · skip
    subst hE
    have HW := Lib.hid (rM_wr HO.out (by have h1 := HN.out; omega) HME.out.2)
    rw [HME.out.1] at HW
    have x0 : w6.cell? ⟨ga, 0, none⟩ = some (.int .i64 m.k) := Ha6.out.cell 0
    have x1 : w6.cell? ⟨ga, 1, none⟩ = some (.int .i64 m.s) := Ha6.out.cell 1
    have x2 : w6.cell? ⟨ga, 2, none⟩ = some (.int .i64 m.n) := Ha6.out.cell 2
    have x3 : w6.cell? ⟨ga, 3, none⟩ = some (.int .i64 m.b) := Ha6.out.cell 3
    have x4 : w6.cell? ⟨ga, 4, none⟩ = some (.int .i64 m.c) := Ha6.out.cell 4
    have x5 : w6.cell? ⟨ga, 5, none⟩ = some (.int .i64 m.r) := Ha6.out.cell 5
    have x6 : w6.cell? ⟨ga, 6, none⟩ = some (.int .i64 m.y) := Ha6.out.cell 6
    have x7 : w6.cell? ⟨ga, 7, none⟩ = some (.int .i64 m.a) := Ha6.out.cell 7
    have x8 : w6.cell? ⟨ga, 8, none⟩ = some (.bool m.t) := Ha6.out.cell 8
    have x9 : w6.cell? ⟨ga, 9, none⟩ = some (.slice pl m.ls.length cl) := Ha6.out.cell 9
    have x10 : w6.cell? ⟨ga, 10, none⟩ = some (.slice pn m.ns.length cn) := Ha6.out.cell 10
    have HG := Lib.hid (write_any (.slice none 0 0) [] m _ _ w6 (Row.nil_ _ _ _) Sl6.out.row (Own.row Qn6.out) HFT.out.1 (by decide) (by have h1 := HFT.out.2.1; omega) (by have h1 := HFT.out.2.2; omega))
    rw [HW.out.1, HW.out.2] at HG
    go_wp2_with fail
    clear x0 x1 x2 x3 x4 x5 x6 x7 x8 x9 x10
    refine HG.out.mono ?_
    rintro y w7 ⟨v7, rfl, ho7, hb⟩
    clear HG
    have Ha7 := Lib.hid (Ha6.out.below hb Ha6.out.lt)
    have Hd7 := Lib.hid (Hd6.out.below hb Hd6.out.lt)
    have Qz7 := Lib.hid (Qz6.out.kept hb)
    have Qn7 := Lib.hid (Qn6.out.kept hb)
    have Qv7 := Lib.hid (Qv6.out.kept hb)
    have Sl7 := Lib.hid (Sl6.out.later hb)
    have Su7 := Lib.hid (Su6.out.later hb)
    have HB7 := Lib.hid (HB6.out.trans (hb.mono HB6.out.size))
    have HZ7 : Hid (W.heap.size ≤ w7.heap.size) := Lib.hid (Nat.le_trans HZ6.out hb.size)
    clear Ha6 Hd6 Qz6 Qn6 Qv6 Sl6 Su6 HB6 HZ6
    clear hb
    obtain ⟨p7, c7, rfl⟩ := ho7.form
    rw [HZL.out] at ho7 ⊢
    have ka := conv_row (P := Try.prog) w7 22 9 5 Try.underlying22 Try.underlying5 Try.underlying9 (.slice p7 n c7) zs ho7.row
    have kb := conv_row (P := Try.prog) w7 22 9 5 Try.underlying22 Try.underlying5 Try.underlying9 (.slice pb n cb) zs Qz7.out
    clear ho7
    go_wp2_with fail
    go_ret
    exact ⟨by simp, HB7.out⟩
  · skip
    have he2 : (e0 != 0) = true := by simpa using hE
    clear hE
    go_wp2_with fail
    go_ret
    exact ⟨rfl, HB6.out⟩
end Go.Proofs.Ytbimbpmdiahhbaa
