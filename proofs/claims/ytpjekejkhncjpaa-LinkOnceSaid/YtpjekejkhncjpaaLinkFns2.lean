/- link.with, New by contract. -/
import Derived.Test.YtpjekejkhncjpaaLinkFns
import Derived.Laws.MakeOwn
namespace Go.Proofs.Ytpjekejkhncjpaa
open Go.RowKit
set_option linter.unusedSimpArgs false
theorem infoP : (Try.prog.info? 46).map (·.size) = some 2 := by kernel_rfl
theorem infoL : (Try.prog.info? 27).map (·.size) = some 2 := by kernel_rfl
theorem oneL (me : Int) (p : Option Addr) (n c : Nat) : ∀ u ∈ [Value.int .i64 me, .slice p n c], u.oneCell' = true := by
  intro u hu
  simp at hu
  rcases hu with rfl | rfl <;> rfl
theorem PeRow.set {P : Nat → Prop} {w : World} {base : Nat} {p : Option Addr} {n c : Nat} {xs : List PeerX} {qs : List Pe} {j : Nat} {x : PeerX} {q : Pe} (ho : OwnT encP w base 46 (.slice p n c) (xs.set j x)) (hl : xs.length = qs.length) (h : ∀ i (h : i < xs.length) (h' : i < qs.length), PeOk P w xs[i] qs[i]) (hx : PeOk P w x q) (hP : ∀ b, base ≤ b → P b) : PeRow P w (.slice p n c) (qs.set j q) := by
  refine ⟨_, ho.row, ho.at_P hP, by rw [List.length_set, List.length_set, hl], fun i hi hi' => ?_⟩
  rw [List.length_set] at hi hi'
  by_cases hij : j = i
  · subst hij
    rw [List.getElem_set_self, List.getElem_set_self]
    exact hx
  · rw [List.getElem_set_ne hij, List.getElem_set_ne hij]
    exact h i hi hi'
set_option maxHeartbeats 4000000 in
set_option maxRecDepth 100000 in
theorem with_any (P : Nat → Prop) (me : Int) (j : Nat) (p : Option Addr) (n c : Nat) (qs : List Pe) (x : PeerX) (q : Pe) (w : World) (hn : n = qs.length) (hr : PeRow P w (.slice p n c) qs) (hx : PeOk P w x q) (hj : j < qs.length) (hb : qs.length ≤ 1000) (hP : ∀ b, w.heap.size ≤ b → P b) :
    Calls Try.prog 15 #[.agg #[.int .i64 me, .slice p n c], .int .i64 (j : Nat), .agg #[.slice x.p x.n x.c, .int .i64 x.h]] w fun e w' => ∃ v, e = .returned v ∧ Lnk P w' v me (qs.set j q) ∧ Below w.heap.size w w' := by
  obtain ⟨xs, hxs, _, hl, ho⟩ := hr
  have HPP := Lib.hid hP
  clear hP
  have HXS := Lib.hid hxs
  have HL := Lib.hid hl
  have HO := Lib.hid (fun w' (h : Below w.heap.size w w') i h1 h2 => (ho i h1 h2).kept h)
  have HX := Lib.hid (fun w' (h : Below w.heap.size w w') => hx.kept h)
  have HN := Lib.hid hn
  have HQ := Lib.hid hb
  have hjn : (j : Int) < (n : Int) := by omega
  have hjn' : j < n := by omega
  clear hxs hl ho hx hn hj hb
  have HK0 := Lib.hid (((Blk.new w #[.int .i64 me, .slice p n c] 27).alloc (.cells #[.slice x.p x.n x.c, .int .i64 x.h] 46)).alloc (.cells #[.int .i64 0, .slice none 0 0] 27))
  have HP0 := Lib.hid ((Blk.new' (w.alloc (.cells #[.int .i64 me, .slice p n c] 27)) #[.slice x.p x.n x.c, .int .i64 x.h] 46 (b := w.heap.size + 1) (by simp)).alloc (.cells #[.int .i64 0, .slice none 0 0] 27))
  have HR0 := Lib.hid (Blk.new' ((w.alloc (.cells #[.int .i64 me, .slice p n c] 27)).alloc (.cells #[.slice x.p x.n x.c, .int .i64 x.h] 46)) #[.int .i64 0, .slice none 0 0] 27 (b := w.heap.size + 1 + 1) (by simp))
  have HB0 := Lib.hid (((oneB w (.cells #[.int .i64 me, .slice p n c] 27)).alloc (by simp) (.cells #[.slice x.p x.n x.c, .int .i64 x.h] 46)).alloc (by simp; omega) (.cells #[.int .i64 0, .slice none 0 0] 27))
  go_enter Try.func15, Try.ntmps15
  go_wp2_with fail
  generalize ((w.alloc (.cells #[.int .i64 me, .slice p n c] 27)).alloc (.cells #[.slice x.p x.n x.c, .int .i64 x.h] 46)).alloc (.cells #[.int .i64 0, .slice none 0 0] 27) = W0 at *
  have HLT := Lib.hid HR0.out.lt
  refine (cloneP_any W0 _ xs (HXS.out.kept HB0.out) (by rw [HL.out]; have := HQ.out; omega)).mono ?_
  rintro y w2 ⟨v2, rfl, ho2, hb2⟩
  obtain ⟨pv, cv, rfl⟩ := ho2.form
  rw [HL.out, ← HN.out] at ho2 ⊢
  obtain ⟨gv, cur, rfl, hgv, hcur, hnc, hrest⟩ := ho2.lies (by omega)
  clear hrest
  have HO2 := Lib.hid ho2
  have HK2 := Lib.hid (HK0.out.below hb2 HK0.out.lt)
  have HP2 := Lib.hid (HP0.out.below hb2 HP0.out.lt)
  have HR2 := Lib.hid (HR0.out.below hb2 HR0.out.lt)
  have HB2 := Lib.hid (HB0.out.trans (hb2.mono HB0.out.size))
  have HGV := Lib.hid hgv
  have hk2 := HK2.out
  have c0 : w2.cell? ⟨w.heap.size, 0, none⟩ = some (.int .i64 me) := hk2.cell 0
  have c1 : w2.cell? ⟨w.heap.size, 1, none⟩ = some (.slice p n c) := hk2.cell 1
  have f1 := hk2.free 1
  clear hk2 ho2 hgv hcur hb2 HK0 HP0 HR0 HB0
  have HK3 : Hid (Blk (w2.setCell ⟨w.heap.size, 1, none⟩ (.slice (some ⟨gv, 0, none⟩) n cv)) w.heap.size #[.int .i64 me, .slice (some ⟨gv, 0, none⟩) n cv] 27) := HK2.out.set 1 _
  have HC3 : Hid (Chg w.heap.size w2 (w2.setCell ⟨w.heap.size, 1, none⟩ (.slice (some ⟨gv, 0, none⟩) n cv))) := (Chg.refl _ w2).set 1 _
  have HP3 := Lib.hid (HP2.out.chg HC3.out (by omega))
  have HR3 := Lib.hid (HR2.out.chg HC3.out (by omega))
  have HO3 := Lib.hid (HO2.out.stay (fun b hb => HC3.out.2 b (HO2.out.lt b hb) (by have h1 := HO2.out.block_ge b hb; have h2 := HLT.out; omega)))
  have HB3 := Lib.hid (HB2.out.trans (HC3.out.below (Nat.le_refl _) HB2.out.size))
  have hk3 := HK3.out
  have hp3 := HP3.out
  have d0 : (w2.setCell ⟨w.heap.size, 1, none⟩ (.slice (some ⟨gv, 0, none⟩) n cv)).cell? ⟨w.heap.size, 0, none⟩ = some (.int .i64 me) := hk3.cell 0
  have d1 : (w2.setCell ⟨w.heap.size, 1, none⟩ (.slice (some ⟨gv, 0, none⟩) n cv)).cell? ⟨w.heap.size, 1, none⟩ = some (.slice (some ⟨gv, 0, none⟩) n cv) := hk3.cell 1
  have d2 : (w2.setCell ⟨w.heap.size, 1, none⟩ (.slice (some ⟨gv, 0, none⟩) n cv)).cell? ⟨w.heap.size + 1, 0, none⟩ = some (.slice x.p x.n x.c) := hp3.cell 0
  have d3 : (w2.setCell ⟨w.heap.size, 1, none⟩ (.slice (some ⟨gv, 0, none⟩) n cv)).cell? ⟨w.heap.size + 1, 1, none⟩ = some (.int .i64 x.h) := hp3.cell 1
  clear hk3 hp3
  go_wp2_with (with_reducible refine stop_storeT 46 (.tmp 15) (.tmp 14) rfl ?_)
  generalize w2.setCell ⟨w.heap.size, 1, none⟩ (.slice (some ⟨gv, 0, none⟩) n cv) = w3 at *
  have HTH := Lib.hid (HO3.out.there j 2 (by show j * 2 + 2 ≤ cv * 2; omega) (by omega))
  have HO4 := Lib.hid (HO3.out.put j hjn' x)
  have HC4 : Hid (Chg gv w3 (w3.setCells gv (j * 2) [.slice x.p x.n x.c, .int .i64 x.h])) := chg_putL _ _ _ _ _ (Chg.refl _ _)
  have HK4 := Lib.hid (HK3.out.chg HC4.out (by have h1 := HGV.out; have h2 := HLT.out; omega))
  have HR4 := Lib.hid (HR3.out.chg HC4.out (by have h1 := HGV.out; have h2 := HLT.out; omega))
  have HB4 := Lib.hid (HB3.out.trans (HC4.out.below (by have h1 := HGV.out; have h2 := HLT.out; omega) HB3.out.size))
  refine wpList_store_mid rfl 46 (.tmp 15) (.tmp 14) rfl gv (j * 2) #[.slice x.p x.n x.c, .int .i64 x.h] rfl rfl HTH.out infoP (all_oneCell_toArray (encP.one x)) ?_
  have HO4' : Hid (OwnT encP (w3.setCells gv (j * 2) [.slice x.p x.n x.c, .int .i64 x.h]) W0.heap.size 46 (.slice (some ⟨gv, 0, none⟩) n cv) (xs.set j x)) := HO4.out
  clear HO4 HTH
  generalize w3.setCells gv (j * 2) _ = w4 at *
  have hk4 := HK4.out
  have e0 : w4.cell? ⟨w.heap.size, 0, none⟩ = some (.int .i64 me) := hk4.cell 0
  have e1 : w4.cell? ⟨w.heap.size, 1, none⟩ = some (.slice (some ⟨gv, 0, none⟩) n cv) := hk4.cell 1
  clear hk4 d0 d1 d2 d3 c0 c1 f1
  go_wp2_with (with_reducible refine stop_storeT 27 (.tmp 6) (.tmp 16) rfl ?_)
  have HTH : Hid (w4.there (w.heap.size + 1 + 1) 0 2) := HR4.out.thereAt
  have HF : Hid (Blk (w4.setCells (w.heap.size + 1 + 1) 0 [.int .i64 me, .slice (some ⟨gv, 0, none⟩) n cv]) (w.heap.size + 1 + 1) #[.int .i64 me, .slice (some ⟨gv, 0, none⟩) n cv] 27 ∧ Chg (w.heap.size + 1 + 1) w4 (w4.setCells (w.heap.size + 1 + 1) 0 [.int .i64 me, .slice (some ⟨gv, 0, none⟩) n cv])) := ⟨blk_put_all HR4.out _ rfl, chg_putL _ _ _ _ _ (Chg.refl _ _)⟩
  refine wpList_store_mid rfl 27 (.tmp 6) (.tmp 16) rfl (w.heap.size + 1 + 1) 0 #[.int .i64 me, .slice (some ⟨gv, 0, none⟩) n cv] rfl rfl HTH.out infoL (all_oneCell_toArray (oneL _ _ _ _)) ?_
  have HB5 := Lib.hid (HB4.out.trans (HF.out.2.below (by omega) HB4.out.size))
  have HO5 := Lib.hid (HO4'.out.stay (fun b hb => HF.out.2.2 b (HO4'.out.lt b hb) (by have h1 := HO4'.out.block_ge b hb; have h2 := HLT.out; omega)))
  generalize World.setCells w4 _ _ _ = w5 at *
  go_wp2_with fail
  have hf := HF.out.1
  refine bodyPost_ret (v := .agg #[.int .i64 me, .slice (some ⟨gv, 0, none⟩) n cv]) (by simp [results, Try.results15, go_sem, hf.cell 0, hf.cell 1]) rfl ?_
  exact ⟨_, rfl, ⟨some ⟨gv, 0, none⟩, cv, by rw [List.length_set, ← HN.out], by rw [List.length_set, ← HN.out]; exact PeRow.set HO5.out HL.out (HO.out _ HB5.out) (HX.out _ HB5.out) (fun b hb => HPP.out b (by have h2 := HLT.out; omega))⟩, HB5.out⟩
end Go.Proofs.Ytpjekejkhncjpaa
