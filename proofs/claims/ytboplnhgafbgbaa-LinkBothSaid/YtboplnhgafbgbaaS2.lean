/- Rows of truths as rows of one cell each; one false more (append of make). Rows that lie in no block of a list. LinkBoth: its walk. A slice of messages: their lists' lengths are bounded by the size of what is handed in. From what a reading tells of a slice of bools to a row. -/
import Derived.Test.YtboplnhgafbgbaaS1
import Derived.Lib.AppendZeros
import Derived.Deep.CutRange
import Derived.Deep.CutBlock
import Derived.Deep.RegionHeld3
import Derived.SizedLaws
import Derived.ProofKit
import Derived.OpenShut
import Derived.Deep.Grids
namespace Go.Proofs.Ytboplnhgafbgbaa
open Go.RowKit
set_option linter.unusedSimpArgs false
def encB1 : Enc Bool := ⟨1, fun b => [.bool b], by decide, fun _ => rfl, by
 intro y u hu
 rw [List.mem_singleton] at hu
 subst hu
 rfl⟩
theorem eltB1 : EltT encB1 Try.prog 23 4 (.bool false) 1 := eltT_mk Try.underlying23 (by kernel_rfl)
theorem RowB.trow {w : World} {v : Value} {bs : List Bool} (h : RowB w v bs) : TRow encB1 w v bs := by
 obtain ⟨p, c, rfl, hc, h⟩ := h
 refine ⟨p, c, rfl, hc, ?_⟩
 rcases h with h | ⟨b, o, rfl, h⟩
 ·exact .inl h
 ·cases bs with
  | nil => exact .inl rfl
  | cons x bs =>
   refine .inr ⟨b, o, rfl, World.block_lt_of_cell? w _ (h 0 (by simp)), fun i hi t ht => ?_⟩
   have ht0 : t = 0 := by have : t < 1 := ht; omega
   subst ht0
   have h1 := h i hi
   have e : o + i * encB1.k + 0 = o + i := by show o + i * 1 + 0 = o + i; omega
   rw [e, h1, List.getD_eq_getElem?_getD, List.getElem?_eq_getElem hi]
   rfl
theorem zc1 : Builtin.zeroCells (Value.bool false).cells 1 = #[Value.bool false] := by
 first | rfl | kernel_rfl
theorem app_false {P : Program} (w : World) (base : Nat) (t tn ty e : TypeId) (i : TypeInfo) (ht : P.underlying t = some (.slice e)) (htn : P.underlying tn = some (.int .i64)) (hi : P.info? e = some i) (hz : i.zero = some (.bool false)) (hs : i.size = 1) (hby : i.bytes = 1)
  (v : Value) (n : Nat) (xs : List Value) (hown : w.ownsRow base e 1 v n xs) (h63 : n ≤ 1000000) (hbase : base ≤ w.heap.size) :
  ∃ v' w', (Builtin.append_ #[t, tn] ty #[v, .int .i64 1]).run P w = .ok v' w' ∧ w'.ownsRow base e 1 v' (n + 1) (xs ++ [.bool false]) ∧ w.grownBy w' v.ownBlock := by
 have hxl : xs.length = n := by have h := hown.1; simpa using h
 have hlen : (xs ++ [Value.bool false]).length = (n + 1) * 1 := by rw [List.length_append, hxl]; simp
 have grown : ∀ (old : Nat), old < n + 1 → ∀ (row : Option Nat),
   (w.drew.alloc (.cells ((xs ++ [Value.bool false]).toArray ++ Builtin.zeroCells (Value.bool false).cells (grownCap w (n + 1) old e - (n + 1))) e)).ownsRow base e 1
    (.slice (some ⟨w.heap.size, 0, none⟩) (n + 1) (grownCap w (n + 1) old e)) (n + 1) (xs ++ [.bool false]) ∧
   w.grownBy (w.drew.alloc (.cells ((xs ++ [Value.bool false]).toArray ++ Builtin.zeroCells (Value.bool false).cells (grownCap w (n + 1) old e - (n + 1))) e)) row := by
  intro old ho row
  have hge := grownCap_ge w (n + 1) old e
  have hcm : grownCap w (n + 1) old e ≤ maxLen := grownCap_le_maxLen w (n + 1) old e (by unfold maxLen; omega)
  refine ⟨⟨hlen, .inr ⟨w.heap.size, _, _, rfl, hbase, heap_alloc_new w.drew _, hge, hcm, ?_, ?_⟩⟩, ⟨rfl, rfl, rfl, by simp, fun k hk _ => Below.heap_alloc w.drew _ k hk⟩⟩
  ·simp only [Array.size_append, List.size_toArray, size_zeroCells, hlen]
   show (n + 1) * 1 + (grownCap w (n + 1) old e - (n + 1)) * 1 = grownCap w (n + 1) old e * 1
   omega
  ·simp only [Array.toList_append]
   rw [← hlen]
   exact List.take_left
 have hw1 : IntKind.i64.wrap 1 = 1 := by decide
 have hm1 : ((n : Int) + 1) ≤ 9223372036854775807 := by omega
 rcases hown.2 with ⟨rfl, rfl⟩ | ⟨g, cap, cur, rfl, hbg, hg, hnc, hcm, hcs, htake⟩
 ·have hx : xs = [] := List.eq_nil_of_length_eq_zero hxl
  subst hx
  have hr := Lib.run_append_nil_zeros (P := P) w t tn ty e i (.bool false) .i64 .i64 ht htn hi hz 1 (by decide) (by omega) (by decide) (by rw [hby]; decide)
  have hgr := grown 0 (by omega) (Value.ownBlock (.slice none 0 0))
  rw [zc1] at hr
  exact ⟨_, _, hr, hgr.1, hgr.2⟩
 ·by_cases hroom : n + 1 ≤ cap
  ·have hlt : n < cur.size := by omega
   have hst := run_storeCells_cells (P := P) g n [Value.bool false] 0 w (fun j hj => by
    have hj0 : j = 0 := by simpa using hj
    subst hj0
    rw [cell_of_row w g _ cur e (0, 0) hg]
    simp only [Nat.add_zero]
    rw [Array.getElem?_eq_getElem hlt]
    rfl) (fun j hj => by simp [World.frozen?, hg]) (by intro u hu; simp at hu; subst hu; rfl)
   simp only [Nat.add_zero] at hst
   refine ⟨.slice (some ⟨g, 0, none⟩) (n + 1) cap, w.setCells g n [.bool false], ?_, ⟨hlen, .inr ⟨g, cap, cur.setIfInBounds n (.bool false), rfl, hbg, ?_, hroom, hcm, by simpa using hcs, ?_⟩⟩, ?_⟩
   ·simp [Builtin.append_, run_underlying ht, run_underlying htn, sizeOf, typeInfo, zeroValue, hi, hz, hs, hby, asInt, asIntOf, hw1, hroom, Addr.add_lit, hst, zc1]
   ·exact (show Blk w g cur e from hg).set n (.bool false)
   ·rw [Array.toList_setIfInBounds, Nat.mul_one, List.take_set]
    have h1 : cur.toList.take (n + 1) = xs ++ [cur[n]] := by
     rw [List.take_succ_eq_append_getElem (by simpa using hlt), ← htake, Nat.mul_one]
     simp
    rw [h1, List.set_append_right _ _ (by omega), hxl]
    simp
   ·refine ⟨rfl, rfl, rfl, ?_, fun k hk hne => Below.heap_setCell w ⟨g, n, none⟩ _ k (fun e => hne (by rw [e]; rfl))⟩
    exact ((Chg.refl g w).set n (.bool false)).size
  ·have holds : ∀ j u, xs[j]? = some u → w.cell? ((⟨g, 0, none⟩ : Addr).add j) = some u := hown.cells (g := g) rfl
   have hn : ¬ (n + 1 ≤ cap) := hroom
   have hfo := run_firstCells_some (P := P) w.drew i.size n ⟨g, 0, none⟩ n cap xs (by rw [hs]; omega) (by simpa using holds)
   rw [hs] at hfo
   have h48' : ¬ (281474976710656 < Builtin.nextslicecap (n + 1) cap) := by
    have h := growslice_fits (bytes := 1) (show cap < n + 1 by omega) (show (n + 1) * 1 ≤ 140737488355328 by omega)
    omega
   have h63' : ¬ (9223372036854775807 < ((n : Int) + 1)) := by omega
   have hgr := grown cap (by omega) (Value.ownBlock (.slice (some ⟨g, 0, none⟩) n cap))
   refine ⟨_, _, ?_, hgr.1, hgr.2⟩
   simp [Builtin.append_, run_underlying ht, run_underlying htn, sizeOf, typeInfo, zeroValue, hi, hz, hs, hby, asInt, asIntOf, hw1, hn, h63', h48', Question.forced, hfo, newRow, grownCap, zc1]
   intro h
   exfalso
   have h1 : max (1 : Int) 0 = 1 := by decide
   omega
end Go.Proofs.Ytboplnhgafbgbaa
namespace Go.Proofs.Ytboplnhgafbgbaa
open Go.RowKit
def NotIn (gs : List Nat) (b : Nat) : Prop := b ∉ gs
theorem notIn_self {gs : List Nat} {g : Nat} (h : g ∈ gs) : ¬ NotIn gs g := fun hn => hn h
/-- A row in blocks of Q. -/
def RwN {α : Type} (e : Enc α) (Q : Nat → Prop) (w : World) (v : Value) (xs : List α) : Prop := TRow e w v xs ∧ At Q v xs.length
section
variable {α : Type} {e : Enc α} {Q : Nat → Prop} {w w' : World} {v : Value} {xs : List α}
theorem RwN.kept (h : RwN e Q w v xs) (hb : Below w.heap.size w w') : RwN e Q w' v xs := ⟨h.1.kept hb, h.2⟩
theorem RwN.chg {g : Nat} (h : RwN e Q w v xs) (hc : Chg g w w') (hg : ¬ Q g) : RwN e Q w' v xs := ⟨h.1.keepP h.2 (KeepP.of_chg hc hg), h.2⟩
theorem RwN.nil_ (e : Enc α) (Q : Nat → Prop) (w : World) : RwN e Q w (.slice none 0 0) [] := ⟨TRow.nil_ e w, fun _ _ _ _ h => by cases h⟩
theorem RwN.lt (h : RwN e Q w v xs) : At (fun b => b < w.heap.size ∧ Q b) v xs.length := by
 rintro b o n c rfl hn
 exact ⟨h.1.lt_ hn, h.2 b o n c rfl hn⟩
theorem RwN.imp {R : Nat → Prop} (h : RwN e Q w v xs) (hq : ∀ b, b < w.heap.size → Q b → R b) : RwN e R w v xs := by
 refine ⟨h.1, ?_⟩
 rintro b o n c rfl hn
 have h2 := h.lt b o n c rfl hn
 exact hq b h2.1 h2.2
theorem OwnT.rwN {base : Nat} {ty : TypeId} (h : OwnT e w base ty v xs) (hq : ∀ b, base ≤ b → Q b) : RwN e Q w v xs := ⟨h.row, by
 rintro b o n c rfl hn
 exact hq b (h.block_ge b rfl)⟩
end
end Go.Proofs.Ytboplnhgafbgbaa
namespace Go.Proofs.Ytboplnhgafbgbaa
open Go.RowKit
set_option linter.unusedSimpArgs false
theorem PeRow.chg {P : Nat → Prop} {w w' : World} {v : Value} {qs : List Pe} {g : Nat} (h : PeRow P w v qs) (hc : Chg g w w') (hg : ¬ P g) : PeRow P w' v qs := h.keepP (KeepP.of_chg hc hg)
theorem PkRow.chg {P : Nat → Prop} {w w' : World} {v : Value} {ks : List Pk} {g : Nat} (h : PkRow P w v ks) (hc : Chg g w w') (hg : ¬ P g) : PkRow P w' v ks := h.keepP (KeepP.of_chg hc hg)
theorem packs_any (P : Nat → Prop) (me : Int) (j K : Nat) (p : Option Addr) (n c : Nat) (qs : List Pe) (w : World) (hn : n = qs.length) (hr : PeRow P w (.slice p n c) qs) (hok : okP me qs.length j = true) (hj : j < qs.length) (hs : qs[j].1.length ≤ 1000) (hP : ∀ b, w.heap.size ≤ b → P b) :
  Calls Try.prog 7 #[.agg #[.int .i64 me, .slice p n c], .int .i64 (j : Nat), .int .i64 (K : Nat)] w fun e w' => ∃ v, e = .returned v ∧ PkRow P w' v (packs me j qs[j] K) ∧ Below w.heap.size w w' := by
 unfold packs
 by_cases h : qs[j].1.length ≤ K
 ·rw [if_pos h]
  exact packets_one P me j (K : Int) p n c qs w hn hr hok hj hs (.inr ⟨by omega, by simpa using h⟩) hP
 ·rw [if_neg h]
  exact packets_many P me j K p n c qs w hn hr hok hj hs (by omega) hP
theorem packs_len (me tq : Int) (q : Pe) (k : Nat) : (packs me tq q k).length = if q.1.length ≤ k then 1 else q.1.length - k := by
 unfold packs
 split
 ·rfl
 ·rw [pkN_length, List.length_drop]
/-- How much was heard behind u packets. -/
def hhU (L h u : Nat) : Nat := if L ≤ h then h else h + u
theorem next_yes {q : Pe} {e : Nat} (hq : q.2 = (e : Int)) : nextB q true ((e : Int) + 1) = true := by
 unfold nextB
 rw [hq]
 simp
 omega
theorem next_no (q : Pe) (ok : Bool) : nextB q ok 0 = false := by
 unfold nextB
 simp
theorem hhU_0 (L h : Nat) : hhU L h 0 = h := by
 unfold hhU
 split <;> rfl
theorem packs_one {me tq : Int} {q : Pe} {k u : Nat} (h : q.1.length ≤ k) (hu : u < (packs me tq q k).length) : (packs me tq q k)[u].n = 0 := by
 have e : packs me tq q k = [⟨me, tq, 0, q.2, msgZ⟩] := by unfold packs; rw [if_pos h]
 have h1 : u = 0 := by rw [packs_len, if_pos h] at hu; omega
 subst h1
 simp only [e]
 rfl
theorem packs_many {me tq : Int} {q : Pe} {k u : Nat} (h : ¬ q.1.length ≤ k) (hu : u < (packs me tq q k).length) : ∃ hk : k + u < q.1.length, (packs me tq q k)[u].n = ((k + u : Nat) : Int) + 1 ∧ (packs me tq q k)[u].m = q.1[k + u] := by
 have hl : k + u < q.1.length := by rw [packs_len, if_neg h] at hu; omega
 refine ⟨hl, ?_⟩
 have e : packs me tq q k = pkN me tq q.2 k (q.1.drop k) := by unfold packs; rw [if_neg h]
 have h1 := pkN_get me tq q.2 (q.1.drop k) k u (by rw [List.length_drop]; omega)
 rw [← e, List.getElem?_eq_getElem hu] at h1
 have h2 := Option.some.inj h1
 rw [h2]
 refine ⟨by simp, ?_⟩
 show (q.1.drop k)[u]'_ = _
 rw [List.getElem_drop]
/-- A message whose lists lie in blocks of Q. -/
def InN (Q : Nat → Prop) (x : MsgX) (w : World) : Prop := x.InP Q w
theorem InN.kept {Q : Nat → Prop} {x : MsgX} {w w' : World} (h : InN Q x w) (hb : Below w.heap.size w w') : InN Q x w' := MsgX.InP.kept h hb
theorem InN.chg {Q : Nat → Prop} {x : MsgX} {w w' : World} {g : Nat} (h : InN Q x w) (hc : Chg g w w') (hg : ¬ Q g) : InN Q x w' := MsgX.InP.keepP h (KeepP.of_chg hc hg)
set_option linter.unusedSimpArgs false in
set_option maxHeartbeats 8000000 in
set_option maxRecDepth 100000 in
theorem lboth_walk (va : Value) (xs : List MsgX) (vb : Value) (ys : List MsgX) (vc : Value) (bs : List Bool) (w : World) (hx : TRow encM w va xs) (hf : ∀ y ∈ xs, y.In w ∧ y.m.Sz) (hy : TRow encM w vb ys) (hg : ∀ y ∈ ys, y.In w ∧ y.m.Sz) (hr : RowB w vc bs) (_hl : bs.length ≤ 9223372036854775807) :
  Calls Try.prog 3 #[va, vb, vc] w fun e w' => e = .returned (.bool true) ∧ Below w.heap.size w w' := by
 obtain ⟨pa, ca, hv1⟩ := hx.shape
 obtain ⟨pb, cb, hv2⟩ := hy.shape
 obtain ⟨po, co, hv3⟩ := hr.shape
 generalize hla : xs.length = la at hv1
 generalize hlb : ys.length = lb at hv2
 generalize hlo : bs.length = lo at hv3
 subst hv1
 subst hv2
 subst hv3
 have HXS := Lib.hid hx
 have HXF := Lib.hid hf
 have HYS := Lib.hid hy
 have HYF := Lib.hid hg
 have HBS := Lib.hid hr.trow
 have HLL : Hid (xs.length = la ∧ ys.length = lb ∧ bs.length = lo) := Lib.hid ⟨hla, hlb, hlo⟩
 clear hx hf hy hg hr hla hlb hlo _hl
 have HSP := Lib.hid (fun W => speaks_any W)
 go_enter Try.func3, Try.ntmps3
 go_wp2_with fail
 refine (HSP.out w).mono ?_
 rintro y9 W ⟨rfl, hb⟩
 clear HSP
 have HB0 := Lib.hid hb
 have HZ0 : Hid (w.heap.size ≤ W.heap.size) := Lib.hid hb.size
 clear hb
 by_cases h1 : 20 < la
 ·have h1I : (20 : Int) < (la : Int) := by omega
  go_wp2_with fail
  go_ret
  exact ⟨rfl, HB0.out⟩
 by_cases h2 : 20 < lb
 ·have h1I : ¬ (20 : Int) < (la : Int) := by omega
  have h2I : (20 : Int) < (lb : Int) := by omega
  go_wp2_with fail
  go_ret
  exact ⟨rfl, HB0.out⟩
 by_cases h3 : 80 < lo
 ·have h1I : ¬ (20 : Int) < (la : Int) := by omega
  have h2I : ¬ (20 : Int) < (lb : Int) := by omega
  have h3I : (80 : Int) < (lo : Int) := by omega
  go_wp2_with fail
  go_ret
  exact ⟨rfl, HB0.out⟩
 have h1I : ¬ (20 : Int) < (la : Int) := by omega
 have h2I : ¬ (20 : Int) < (lb : Int) := by omega
 have h3I : ¬ (80 : Int) < (lo : Int) := by omega
 have HSM : Hid (la ≤ 20 ∧ lb ≤ 20 ∧ lo ≤ 80) := Lib.hid (by omega)
 go_upto_region 5 with fail
 clear h1 h2 h3 h1I h2I h3I
 have hba := oneB W (.cells #[.int .i64 0, .slice none 0 0, .int .i64 0, .slice none 0 0] 28)
 have Hl1 := Lib.hid (Blk.new W #[.int .i64 0, .slice none 0 0, .int .i64 0, .slice none 0 0] 28)
 have HB1 := Lib.hid (HB0.out.alloc HB0.out.size (.cells #[.int .i64 0, .slice none 0 0, .int .i64 0, .slice none 0 0] 28))
 have HZ1 := kzq HZ0 hba.size
 have HGgl : Hid (w.heap.size ≤ W.heap.size) := Lib.hid HB0.out.size
 clear hba HB0 HZ0
 go_upto_region 6 with fail
 generalize (W.alloc (.cells #[.int .i64 0, .slice none 0 0, .int .i64 0, .slice none 0 0] 28)) = W1 at *
 generalize hggl : W.heap.size = gl at *
 clear hggl
 have HG := Lib.hid (new_ok (NotIn [gl]) 0 2 W1 ⟨by decide, by decide, by decide, by decide⟩ (fun b hb hm => by have h0 := Hl1.out.lt; simp only [List.mem_cons, List.not_mem_nil, or_false] at hm; omega))
 go_wp2_with fail
 refine HG.out.mono ?_
 rintro y9 w2 ⟨_, rfl, ⟨p0, c0, rfl, hp⟩, hb⟩
 clear HG
 rw [show (peers0 2).length = 2 from rfl] at hp ⊢
 have HPQ := Lib.hid hp
 clear hp
 have Hl2 := kbq Hl1 hb
 have HB2 := ktq HB1 hb
 have HZ2 := kzq HZ1 hb.size
 clear Hl1 HB1 HZ1
 clear hb
 have Qu2 : Hid (PeRow (NotIn [gl]) w2 (.slice p0 2 c0) (peers0 2)) := HPQ
 clear HPQ
 have z0 : w2.cell? ⟨gl, 0, none⟩ = some (.int .i64 0) := Hl2.out.cell 0
 have f0 := Hl2.out.free 0
 have z1 : w2.cell? ⟨gl, 1, none⟩ = some (.slice none 0 0) := Hl2.out.cell 1
 have f1 := Hl2.out.free 1
 go_upto_region 7 with fail
 clear z0 z1 f0 f1
 have hch := Lib.hid (((Chg.refl gl w2).set 0 (.int .i64 0)).set 1 (.slice p0 2 c0))
 have Hl3 : Hid (Blk _ gl #[.int .i64 0, .slice p0 2 c0, .int .i64 0, .slice none 0 0] 28) := Lib.hid ((Hl2.out.set 0 (.int .i64 0)).set 1 (.slice p0 2 c0))
 have HB3 : Hid (Below w.heap.size w ((w2.setCell ⟨gl, 0, none⟩ (.int .i64 0)).setCell ⟨gl, 1, none⟩ (.slice p0 2 c0))) := Lib.hid (HB2.out.trans (hch.out.below HGgl.out HB2.out.size))
 have HZ3 := kzq HZ2 hch.out.size
 have Qu3 := Lib.hid (Qu2.out.chg hch.out (notIn_self (by simp)))
 clear hch Hl2 Qu2 HB2 HZ2
 generalize ((w2.setCell ⟨gl, 0, none⟩ (.int .i64 0)).setCell ⟨gl, 1, none⟩ (.slice p0 2 c0)) = W3 at *
 have HG := Lib.hid (new_ok (NotIn [gl]) 1 2 W3 ⟨by decide, by decide, by decide, by decide⟩ (fun b hb hm => by have h0 := Hl3.out.lt; simp only [List.mem_cons, List.not_mem_nil, or_false] at hm; omega))
 go_wp2_with fail
 refine HG.out.mono ?_
 rintro y9 w4 ⟨_, rfl, ⟨p1, c1, rfl, hp⟩, hb⟩
 clear HG
 rw [show (peers0 2).length = 2 from rfl] at hp ⊢
 have HPQ := Lib.hid hp
 clear hp
 have Hl4 := kbq Hl3 hb
 have Qu4 := Lib.hid (Qu3.out.kept hb)
 have HB4 := ktq HB3 hb
 have HZ4 := kzq HZ3 hb.size
 clear Hl3 Qu3 HB3 HZ3
 clear hb
 have Qv4 : Hid (PeRow (NotIn [gl]) w4 (.slice p1 2 c1) (peers0 2)) := HPQ
 clear HPQ
 have z2 : w4.cell? ⟨gl, 2, none⟩ = some (.int .i64 0) := Hl4.out.cell 2
 have f2 := Hl4.out.free 2
 have z3 : w4.cell? ⟨gl, 3, none⟩ = some (.slice none 0 0) := Hl4.out.cell 3
 have f3 := Hl4.out.free 3
 go_upto_region 8 with fail
 clear z2 z3 f2 f3
 have hch := Lib.hid (((Chg.refl gl w4).set 2 (.int .i64 1)).set 3 (.slice p1 2 c1))
 have Hl5 : Hid (Blk _ gl #[.int .i64 0, .slice p0 2 c0, .int .i64 1, .slice p1 2 c1] 28) := Lib.hid ((Hl4.out.set 2 (.int .i64 1)).set 3 (.slice p1 2 c1))
 have HB5 : Hid (Below w.heap.size w ((w4.setCell ⟨gl, 2, none⟩ (.int .i64 1)).setCell ⟨gl, 3, none⟩ (.slice p1 2 c1))) := Lib.hid (HB4.out.trans (hch.out.below HGgl.out HB4.out.size))
 have HZ5 := kzq HZ4 hch.out.size
 have Qu5 := Lib.hid (Qu4.out.chg hch.out (notIn_self (by simp)))
 have Qv5 := Lib.hid (Qv4.out.chg hch.out (notIn_self (by simp)))
 clear hch Hl4 Qu4 Qv4 HB4 HZ4
 generalize ((w4.setCell ⟨gl, 2, none⟩ (.int .i64 1)).setCell ⟨gl, 3, none⟩ (.slice p1 2 c1)) = W5 at *
 have HGS : Hid (gl < W5.heap.size) := Lib.hid Hl5.out.lt
 have hba := oneB W5 (.cells #[.slice pa la ca, .slice pb lb cb] 32)
 have Hl6 := kbq Hl5 hba
 have Qu6 := Lib.hid (Qu5.out.kept hba)
 have Qv6 := Lib.hid (Qv5.out.kept hba)
 have Hs6 := Lib.hid (Blk.new W5 #[.slice pa la ca, .slice pb lb cb] 32)
 have HB6 := Lib.hid (HB5.out.alloc HB5.out.size (.cells #[.slice pa la ca, .slice pb lb cb] 32))
 have HZ6 := kzq HZ5 hba.size
 have HGgs : Hid (w.heap.size ≤ W5.heap.size) := Lib.hid HB5.out.size
 clear hba Hl5 Qu5 Qv5 HB5 HZ5
 go_upto_region 9 with fail
 generalize (W5.alloc (.cells #[.slice pa la ca, .slice pb lb cb] 32)) = W6 at *
 generalize hggs : W5.heap.size = gs at *
 clear hggs
 have HREL : Hid (∃ (p0 : Option Addr) (c0 : Nat) (p1 : Option Addr) (c1 : Nat), Blk W6 gl #[.int .i64 0, .slice p0 2 c0, .int .i64 1, .slice p1 2 c1] 28 ∧ Blk W6 gs #[.slice pa la ca, .slice pb lb cb] 32 ∧ PeRow (NotIn [gl]) W6 (.slice p0 2 c0) (qn0 (if 1 ≤ 0 then xs.map MsgX.m else []) 0) ∧ PeRow (NotIn [gl]) W6 (.slice p1 2 c1) (qn1 (if 2 ≤ 0 then ys.map MsgX.m else []) 0) ∧ Below w.heap.size w W6) := Lib.hid ⟨p0, c0, p1, c1, Hl6.out, Hs6.out, Qu6.out, Qv6.out, HB6.out⟩
 clear Hl6 Hs6 Qu6 Qv6 HB6 HZ6
 go_wp2_with fail
 go_loopw [47] (fun i wr => ∃ k : Nat, k ≤ 2 ∧ i = .int .i64 k ∧ Hid (∃ (p0 : Option Addr) (c0 : Nat) (p1 : Option Addr) (c1 : Nat), Blk wr gl #[.int .i64 0, .slice p0 2 c0, .int .i64 1, .slice p1 2 c1] 28 ∧ Blk wr gs #[.slice pa la ca, .slice pb lb cb] 32 ∧ PeRow (NotIn [gl]) wr (.slice p0 2 c0) (qn0 (if 1 ≤ k then xs.map MsgX.m else []) 0) ∧ PeRow (NotIn [gl]) wr (.slice p1 2 c1) (qn1 (if 2 ≤ k then ys.map MsgX.m else []) 0) ∧ Below w.heap.size w wr)) (fun i _ => 2 - (intOf i).toNat)
 case atStart => exact ⟨0, by omega, rfl, HREL⟩
 case round =>
  clear HREL
  obtain ⟨i, hi, rfl, HK⟩ := hrel
  by_cases hlt : i < 2
  ·have hi2 : i = 0 ∨ i = 1 := by omega
   clear hi hlt
   rcases hi2 with rfl | rfl
   ·rw [show ((0 : Nat) : Int) = 0 from rfl]
    as_aux_lemma =>
     have HK : Hid (∃ (p0 : Option Addr) (c0 : Nat) (p1 : Option Addr) (c1 : Nat), Blk wr gl #[.int .i64 0, .slice p0 2 c0, .int .i64 1, .slice p1 2 c1] 28 ∧ Blk wr gs #[.slice pa la ca, .slice pb lb cb] 32 ∧ PeRow (NotIn [gl]) wr (.slice p0 2 c0) (qn0 ((xs.map MsgX.m).take 0) 0) ∧ PeRow (NotIn [gl]) wr (.slice p1 2 c1) (qn1 [] 0) ∧ Below w.heap.size w wr) := HK
     obtain ⟨p0, c0, p1, c1, hk1, hk2, hk3, hk4, hk5⟩ := HK.out
     have Hl20 := Lib.hid hk1
     have Hs20 := Lib.hid hk2
     have Qu20 := Lib.hid hk3
     have Qv20 := Lib.hid hk4
     have HB20 := Lib.hid hk5
     have HZ20 : Hid (w.heap.size ≤ wr.heap.size) := Lib.hid hk5.size
     clear HK hk1 hk2 hk3 hk4 hk5
     have e0 : wr.cell? ⟨gs, 0, none⟩ = some (.slice pa la ca) := Hs20.out.cell 0
     have HREL : Hid (∃ (p0 : Option Addr) (c0 : Nat) (p1 : Option Addr) (c1 : Nat), Blk wr gl #[.int .i64 0, .slice p0 2 c0, .int .i64 1, .slice p1 2 c1] 28 ∧ Blk wr gs #[.slice pa la ca, .slice pb lb cb] 32 ∧ PeRow (NotIn [gl]) wr (.slice p0 2 c0) (qn0 ((xs.map MsgX.m).take 0) 0) ∧ PeRow (NotIn [gl]) wr (.slice p1 2 c1) (qn1 [] 0) ∧ Below w.heap.size w wr) := Lib.hid ⟨p0, c0, p1, c1, Hl20.out, Hs20.out, Qu20.out, Qv20.out, HB20.out⟩
     clear Hl20 Hs20 Qu20 Qv20 HB20 HZ20
     go_wp2_with fail
     clear e0
     go_loopw [54] (fun j wr => ∃ k : Nat, k ≤ la ∧ j = .int .i64 k ∧ Hid (∃ (p0 : Option Addr) (c0 : Nat) (p1 : Option Addr) (c1 : Nat), Blk wr gl #[.int .i64 0, .slice p0 2 c0, .int .i64 1, .slice p1 2 c1] 28 ∧ Blk wr gs #[.slice pa la ca, .slice pb lb cb] 32 ∧ PeRow (NotIn [gl]) wr (.slice p0 2 c0) (qn0 ((xs.map MsgX.m).take k) 0) ∧ PeRow (NotIn [gl]) wr (.slice p1 2 c1) (qn1 [] 0) ∧ Below w.heap.size w wr)) (fun j _ => la - (intOf j).toNat)
     case atStart => exact ⟨0, by omega, rfl, HREL⟩
     case round =>
      clear HREL
      obtain ⟨k, hk, rfl, HK⟩ := hrel
      have hk9 : k + 1 ≤ 21 := by have := HSM.out.1; omega
      by_cases hltk : k < la
      ·skip
       have hltI : (k : Int) < (la : Int) := by omega
       have HLT : Hid (k < la) := Lib.hid hltk
       obtain ⟨p0, c0, p1, c1, hk1, hk2, hk3, hk4, hk5⟩ := HK.out
       have Hl30 := Lib.hid hk1
       have Hs30 := Lib.hid hk2
       have Qu30 := Lib.hid hk3
       have Qv30 := Lib.hid hk4
       have HB30 := Lib.hid hk5
       have HZ30 : Hid (w.heap.size ≤ wr.heap.size) := Lib.hid hk5.size
       clear HK hk1 hk2 hk3 hk4 hk5
       have hkl : k < xs.length := by have := HLL.out.1; omega
       obtain ⟨mb, mo, hmp, hml, hmc⟩ := (HXS.out.kept HB30.out).at_ k hkl
       obtain ⟨X, hX⟩ : ∃ X, xs[k] = X := ⟨_, rfl⟩
       rw [hX] at hmc
       have HXI := Lib.hid (HXF.out X (by rw [← hX]; exact List.getElem_mem hkl))
       have HTK : Hid ((xs.map MsgX.m).take (k + 1) = (xs.map MsgX.m).take k ++ [X.m]) := Lib.hid (by rw [List.take_succ_eq_append_getElem (by rw [List.length_map]; exact hkl), List.getElem_map, hX])
       subst hmp
       clear hkl hX hml hk hltk
       have c0 : wr.cell? ⟨mb, mo + k * 11, none⟩ = some (.int .i64 X.m.k) := hmc 0 (by decide)
       have c1 : wr.cell? ⟨mb, mo + k * 11 + 1, none⟩ = some (.int .i64 X.m.s) := hmc 1 (by decide)
       have c2 : wr.cell? ⟨mb, mo + k * 11 + 2, none⟩ = some (.int .i64 X.m.n) := hmc 2 (by decide)
       have c3 : wr.cell? ⟨mb, mo + k * 11 + 3, none⟩ = some (.int .i64 X.m.b) := hmc 3 (by decide)
       have c4 : wr.cell? ⟨mb, mo + k * 11 + 4, none⟩ = some (.int .i64 X.m.c) := hmc 4 (by decide)
       have c5 : wr.cell? ⟨mb, mo + k * 11 + 5, none⟩ = some (.int .i64 X.m.r) := hmc 5 (by decide)
       have c6 : wr.cell? ⟨mb, mo + k * 11 + 6, none⟩ = some (.int .i64 X.m.y) := hmc 6 (by decide)
       have c7 : wr.cell? ⟨mb, mo + k * 11 + 7, none⟩ = some (.int .i64 X.m.a) := hmc 7 (by decide)
       have c8 : wr.cell? ⟨mb, mo + k * 11 + 8, none⟩ = some (.bool X.m.t) := hmc 8 (by decide)
       have c9 : wr.cell? ⟨mb, mo + k * 11 + 9, none⟩ = some (.slice X.pl X.m.ls.length X.cl) := hmc 9 (by decide)
       have c10 : wr.cell? ⟨mb, mo + k * 11 + 10, none⟩ = some (.slice X.pn X.m.ns.length X.cn) := hmc 10 (by decide)
       clear hmc
       have HGM : Hid (gl < wr.heap.size ∧ gs < wr.heap.size) := Lib.hid ⟨Hl30.out.lt, Hs30.out.lt⟩
       have hba := oneB wr (.cells #[.int .i64 X.m.k, .int .i64 X.m.s, .int .i64 X.m.n, .int .i64 X.m.b, .int .i64 X.m.c, .int .i64 X.m.r, .int .i64 X.m.y, .int .i64 X.m.a, .bool X.m.t, .slice X.pl X.m.ls.length X.cl, .slice X.pn X.m.ns.length X.cn] 38)
       have Hl31 := kbq Hl30 hba
       have Hs31 := kbq Hs30 hba
       have Qu31 := Lib.hid (Qu30.out.kept hba)
       have Qv31 := Lib.hid (Qv30.out.kept hba)
       have Hm31 := Lib.hid (Blk.new wr #[.int .i64 X.m.k, .int .i64 X.m.s, .int .i64 X.m.n, .int .i64 X.m.b, .int .i64 X.m.c, .int .i64 X.m.r, .int .i64 X.m.y, .int .i64 X.m.a, .bool X.m.t, .slice X.pl X.m.ls.length X.cl, .slice X.pn X.m.ns.length X.cn] 38)
       have HB31 := Lib.hid (HB30.out.alloc HB30.out.size (.cells #[.int .i64 X.m.k, .int .i64 X.m.s, .int .i64 X.m.n, .int .i64 X.m.b, .int .i64 X.m.c, .int .i64 X.m.r, .int .i64 X.m.y, .int .i64 X.m.a, .bool X.m.t, .slice X.pl X.m.ls.length X.cl, .slice X.pn X.m.ns.length X.cn] 38))
       have HZ31 := kzq HZ30 hba.size
       have HGgm : Hid (w.heap.size ≤ wr.heap.size) := Lib.hid HB30.out.size
       clear hba Hl30 Hs30 Qu30 Qv30 HB30 HZ30
       go_upto_region 15 with fail
       clear hltI c0 c1 c2 c3 c4 c5 c6 c7 c8 c9 c10
       generalize (wr.alloc (.cells #[.int .i64 X.m.k, .int .i64 X.m.s, .int .i64 X.m.n, .int .i64 X.m.b, .int .i64 X.m.c, .int .i64 X.m.r, .int .i64 X.m.y, .int .i64 X.m.a, .bool X.m.t, .slice X.pl X.m.ls.length X.cl, .slice X.pn X.m.ns.length X.cn] 38)) = W7 at *
       generalize hggm : wr.heap.size = gm at *
       clear hggm
       have hbd := (Below.refl W7.heap.size W7).drew
       have Hl32 := kbq Hl31 hbd
       have Hs32 := kbq Hs31 hbd
       have Hm32 := kbq Hm31 hbd
       have Qu32 := Lib.hid (Qu31.out.kept hbd)
       have Qv32 := Lib.hid (Qv31.out.kept hbd)
       have HB32 := ktq HB31 hbd
       have HZ32 := kzq HZ31 hbd.size
       clear Hl31 Hs31 Hm31 Qu31 Qv31 HB31 HZ31
       refine wp_region_held_drew (S := fun w' => w'.cell? ⟨gm, 0, none⟩ = some (.int .i64 X.m.k) ∧ w'.cell? ⟨gm, 1, none⟩ = some (.int .i64 X.m.s) ∧ w'.cell? ⟨gm, 2, none⟩ = some (.int .i64 X.m.n) ∧ w'.cell? ⟨gm, 3, none⟩ = some (.int .i64 X.m.b) ∧ w'.cell? ⟨gm, 4, none⟩ = some (.int .i64 X.m.c) ∧ w'.cell? ⟨gm, 5, none⟩ = some (.int .i64 X.m.r) ∧ w'.cell? ⟨gm, 6, none⟩ = some (.int .i64 X.m.y) ∧ w'.cell? ⟨gm, 7, none⟩ = some (.int .i64 X.m.a) ∧ w'.cell? ⟨gm, 8, none⟩ = some (.bool X.m.t) ∧ w'.cell? ⟨gm, 9, none⟩ = some (.slice X.pl X.m.ls.length X.cl) ∧ w'.cell? ⟨gm, 10, none⟩ = some (.slice X.pn X.m.ns.length X.cn)) (by kernel_rfl) ⟨Hm32.out.cell 0, Hm32.out.cell 1, Hm32.out.cell 2, Hm32.out.cell 3, Hm32.out.cell 4, Hm32.out.cell 5, Hm32.out.cell 6, Hm32.out.cell 7, Hm32.out.cell 8, Hm32.out.cell 9, Hm32.out.cell 10⟩ (fun hS0 => ?_)
       generalize W7.drew = WD at *
       clear hbd
       refine tkq 0 ?_
       refine tkq 1 ?_
       refine tkq 2 ?_
       refine tkq 4 ?_
       refine tkq 5 ?_
       refine tkq 6 ?_
       refine rdq 3 (fun K hK => ?_)
       have u0 : WD.cell? ⟨gl, 0, none⟩ = some (.int .i64 0) := Hl32.out.cell 0
       have u1 : WD.cell? ⟨gl, 1, none⟩ = some (.slice p0 2 c0) := Hl32.out.cell 1
       go_simp
       clear u0 u1 hS0
       refine hK.out _ _ ⟨Hm32.out.cell 0, Hm32.out.cell 1, Hm32.out.cell 2, Hm32.out.cell 3, Hm32.out.cell 4, Hm32.out.cell 5, Hm32.out.cell 6, Hm32.out.cell 7, Hm32.out.cell 8, Hm32.out.cell 9, Hm32.out.cell 10⟩ (fun hS0 => ?_)
       clear hK K
       try simp only [Act.put, List.getElem_toArray, List.getElem_cons_succ, List.getElem_cons_zero, List.setIfInBounds_toArray, List.set_cons_zero, List.set_cons_succ]
       refine rdq 7 (fun K hK => ?_)
       have HG := Lib.hid (say_ok (NotIn [gl]) 0 1 p0 2 c0 (qn0 ((xs.map MsgX.m).take k) 0) X.m (.slice X.pl X.m.ls.length X.cl) (.slice X.pn X.m.ns.length X.cn) WD rfl Qu32.out (HXI.out.1.ls.kept HB32.out) (HXI.out.1.ns.kept HB32.out) HXI.out.2 rfl (by show 1 < 2; decide) (by show 2 ≤ 1000; decide) (by show ((xs.map MsgX.m).take k).length ≤ 1000; rw [List.length_take]; have := HLT.out; have := HSM.out.1; omega) (fun b hb hm => by have h0 := Hl32.out.lt; simp only [List.mem_cons, List.not_mem_nil, or_false] at hm; omega))
       unfold Msg.v at HG
       go_simp
       go_at_call 6
       refine HG.out.mono ?_
       rintro y9 w8 ⟨_, rfl, ⟨p5, c5, rfl, hp5⟩, hb⟩
       clear HG
       have HP5 : Hid (PeRow (NotIn [gl]) w8 (.slice p5 2 c5) (qn0 ((xs.map MsgX.m).take (k + 1)) 0)) := Lib.hid (by rw [HTK.out]; exact hp5)
       dsimp only [List.length_set, qn0, qn1, List.length_cons, List.length_nil, Nat.zero_add, Nat.reduceAdd]
       clear hp5
       have Hl33 := kbq Hl32 hb
       have Hs33 := kbq Hs32 hb
       have Hm33 := kbq Hm32 hb
       have Qu33 := Lib.hid (Qu32.out.kept hb)
       have Qv33 := Lib.hid (Qv32.out.kept hb)
       have HB33 := ktq HB32 hb
       have HZ33 := kzq HZ32 hb.size
       clear Hl32 Hs32 Hm32 Qu32 Qv32 HB32 HZ32
       clear hb hS0
       clear Qu33
       have Qu33 := HP5
       clear HP5
       try go_wp2_with fail
       refine hK.out _ _ ⟨Hm33.out.cell 0, Hm33.out.cell 1, Hm33.out.cell 2, Hm33.out.cell 3, Hm33.out.cell 4, Hm33.out.cell 5, Hm33.out.cell 6, Hm33.out.cell 7, Hm33.out.cell 8, Hm33.out.cell 9, Hm33.out.cell 10⟩ (fun hS0 => ?_)
       clear hK K
       try simp only [Act.put, List.getElem_toArray, List.getElem_cons_succ, List.getElem_cons_zero, List.setIfInBounds_toArray, List.set_cons_zero, List.set_cons_succ]
       refine tkq 8 ?_
       refine tkq 9 ?_
       refine tkq 10 ?_
       refine tkq 11 ?_
       refine rdq 12 (fun K hK => ?_)
       have z0 : w8.cell? ⟨gl, 0, none⟩ = some (.int .i64 0) := Hl33.out.cell 0
       have z1 : w8.cell? ⟨gl, 1, none⟩ = some (.slice p0 2 c0) := Hl33.out.cell 1
       have z2 : w8.cell? ⟨gl, 2, none⟩ = some (.int .i64 1) := Hl33.out.cell 2
       have z3 : w8.cell? ⟨gl, 3, none⟩ = some (.slice p1 2 c1) := Hl33.out.cell 3
       have f0 := Hl33.out.free 0
       have f1 := Hl33.out.free 1
       have f2 := Hl33.out.free 2
       have f3 := Hl33.out.free 3
       go_simp
       clear z0 f0 z1 f1 z2 f2 z3 f3
       have hch := Lib.hid (((Chg.refl gl w8).set 0 (.int .i64 0)).set 1 (.slice p5 2 c5))
       have Hl34 : Hid (Blk _ gl #[.int .i64 0, .slice p5 2 c5, .int .i64 1, .slice p1 2 c1] 28) := Lib.hid ((Hl33.out.set 0 (.int .i64 0)).set 1 (.slice p5 2 c5))
       have HB34 := ksq HB33 hch (by show w.heap.size ≤ gl; have := HGgl.out; have := HGS.out; have := HGM.out; omega)
       have HZ34 := kzq HZ33 hch.out.size
       have Hs34 := kcq Hs33 hch (by have := HGgl.out; have := HGS.out; have := HGM.out; omega)
       have Hm34 := kcq Hm33 hch (by have := HGgl.out; have := HGS.out; have := HGM.out; omega)
       have Qu34 := Lib.hid (Qu33.out.chg hch.out (notIn_self (by simp)))
       have Qv34 := Lib.hid (Qv33.out.chg hch.out (notIn_self (by simp)))
       clear hch hS0 Hl33 Hs33 Hm33 Qu33 Qv33 HB33 HZ33
       generalize ((w8.setCell ⟨gl, 0, none⟩ (.int .i64 0)).setCell ⟨gl, 1, none⟩ (.slice p5 2 c5)) = W9 at *
       refine hK.out _ _ ⟨Hm34.out.cell 0, Hm34.out.cell 1, Hm34.out.cell 2, Hm34.out.cell 3, Hm34.out.cell 4, Hm34.out.cell 5, Hm34.out.cell 6, Hm34.out.cell 7, Hm34.out.cell 8, Hm34.out.cell 9, Hm34.out.cell 10⟩ (fun hS0 => ?_)
       clear hK K
       try simp only [Act.put, List.getElem_toArray, List.getElem_cons_succ, List.getElem_cons_zero, List.setIfInBounds_toArray, List.set_cons_zero, List.set_cons_succ]
       refine wpAnyH_done (by kernel_rfl) ?_ _
       clear hS0
       have HNX : Hid (∃ (p0 : Option Addr) (c0 : Nat) (p1 : Option Addr) (c1 : Nat), Blk W9 gl #[.int .i64 0, .slice p0 2 c0, .int .i64 1, .slice p1 2 c1] 28 ∧ Blk W9 gs #[.slice (some ⟨mb, mo, none⟩) la ca, .slice pb lb cb] 32 ∧ PeRow (NotIn [gl]) W9 (.slice p0 2 c0) (qn0 ((xs.map MsgX.m).take (k + 1)) 0) ∧ PeRow (NotIn [gl]) W9 (.slice p1 2 c1) (qn1 [] 0) ∧ Below w.heap.size w W9) := Lib.hid ⟨p5, c5, p1, c1, Hl34.out, Hs34.out, Qu34.out, Qv34.out, HB34.out⟩
       clear Hl34 Hs34 Hm34 Qu34 Qv34 HB34 HZ34 HTK HXI
       go_wp2_with fail
       go_roundw
       case rel => exact ⟨k + 1, by have := HLT.out; omega, by go_num, HNX⟩
       case measure => have := HLT.out; simp [intOf]; omega
      ·skip
       have hltI : ¬ (k : Int) < (la : Int) := by omega
       have HNX : Hid (∃ (p0 : Option Addr) (c0 : Nat) (p1 : Option Addr) (c1 : Nat), Blk wr gl #[.int .i64 0, .slice p0 2 c0, .int .i64 1, .slice p1 2 c1] 28 ∧ Blk wr gs #[.slice pa la ca, .slice pb lb cb] 32 ∧ PeRow (NotIn [gl]) wr (.slice p0 2 c0) (qn0 (if 1 ≤ 1 then xs.map MsgX.m else []) 0) ∧ PeRow (NotIn [gl]) wr (.slice p1 2 c1) (qn1 (if 2 ≤ 1 then ys.map MsgX.m else []) 0) ∧ Below w.heap.size w wr) := Lib.hid (by have h := HK.out; rw [List.take_of_length_le (by rw [List.length_map]; have := HLL.out.1; omega)] at h; exact h)
       clear HK hk hltk hk9
       go_upto_region 17 with fail
       clear hltI
       go_wp2_with fail
       go_roundw
       case rel => exact ⟨1, by omega, by go_num, HNX⟩
       case measure => simp [intOf]
   ·rw [show ((1 : Nat) : Int) = 1 from rfl]
    as_aux_lemma =>
     have HK : Hid (∃ (p0 : Option Addr) (c0 : Nat) (p1 : Option Addr) (c1 : Nat), Blk wr gl #[.int .i64 0, .slice p0 2 c0, .int .i64 1, .slice p1 2 c1] 28 ∧ Blk wr gs #[.slice pa la ca, .slice pb lb cb] 32 ∧ PeRow (NotIn [gl]) wr (.slice p0 2 c0) (qn0 (xs.map MsgX.m) 0) ∧ PeRow (NotIn [gl]) wr (.slice p1 2 c1) (qn1 ((ys.map MsgX.m).take 0) 0) ∧ Below w.heap.size w wr) := HK
     obtain ⟨p0, c0, p1, c1, hk1, hk2, hk3, hk4, hk5⟩ := HK.out
     have Hl20 := Lib.hid hk1
     have Hs20 := Lib.hid hk2
     have Qu20 := Lib.hid hk3
     have Qv20 := Lib.hid hk4
     have HB20 := Lib.hid hk5
     have HZ20 : Hid (w.heap.size ≤ wr.heap.size) := Lib.hid hk5.size
     clear HK hk1 hk2 hk3 hk4 hk5
     have e1 : wr.cell? ⟨gs, 1, none⟩ = some (.slice pb lb cb) := Hs20.out.cell 1
     have HREL : Hid (∃ (p0 : Option Addr) (c0 : Nat) (p1 : Option Addr) (c1 : Nat), Blk wr gl #[.int .i64 0, .slice p0 2 c0, .int .i64 1, .slice p1 2 c1] 28 ∧ Blk wr gs #[.slice pa la ca, .slice pb lb cb] 32 ∧ PeRow (NotIn [gl]) wr (.slice p0 2 c0) (qn0 (xs.map MsgX.m) 0) ∧ PeRow (NotIn [gl]) wr (.slice p1 2 c1) (qn1 ((ys.map MsgX.m).take 0) 0) ∧ Below w.heap.size w wr) := Lib.hid ⟨p0, c0, p1, c1, Hl20.out, Hs20.out, Qu20.out, Qv20.out, HB20.out⟩
     clear Hl20 Hs20 Qu20 Qv20 HB20 HZ20
     go_wp2_with fail
     clear e1
     go_loopw [54] (fun j wr => ∃ k : Nat, k ≤ lb ∧ j = .int .i64 k ∧ Hid (∃ (p0 : Option Addr) (c0 : Nat) (p1 : Option Addr) (c1 : Nat), Blk wr gl #[.int .i64 0, .slice p0 2 c0, .int .i64 1, .slice p1 2 c1] 28 ∧ Blk wr gs #[.slice pa la ca, .slice pb lb cb] 32 ∧ PeRow (NotIn [gl]) wr (.slice p0 2 c0) (qn0 (xs.map MsgX.m) 0) ∧ PeRow (NotIn [gl]) wr (.slice p1 2 c1) (qn1 ((ys.map MsgX.m).take k) 0) ∧ Below w.heap.size w wr)) (fun j _ => lb - (intOf j).toNat)
     case atStart => exact ⟨0, by omega, rfl, HREL⟩
     case round =>
      clear HREL
      obtain ⟨k, hk, rfl, HK⟩ := hrel
      have hk9 : k + 1 ≤ 21 := by have := HSM.out.2.1; omega
      by_cases hltk : k < lb
      ·skip
       have hltI : (k : Int) < (lb : Int) := by omega
       have HLT : Hid (k < lb) := Lib.hid hltk
       obtain ⟨p0, c0, p1, c1, hk1, hk2, hk3, hk4, hk5⟩ := HK.out
       have Hl30 := Lib.hid hk1
       have Hs30 := Lib.hid hk2
       have Qu30 := Lib.hid hk3
       have Qv30 := Lib.hid hk4
       have HB30 := Lib.hid hk5
       have HZ30 : Hid (w.heap.size ≤ wr.heap.size) := Lib.hid hk5.size
       clear HK hk1 hk2 hk3 hk4 hk5
       have hkl : k < ys.length := by have := HLL.out.2.1; omega
       obtain ⟨mb, mo, hmp, hml, hmc⟩ := (HYS.out.kept HB30.out).at_ k hkl
       obtain ⟨X, hX⟩ : ∃ X, ys[k] = X := ⟨_, rfl⟩
       rw [hX] at hmc
       have HXI := Lib.hid (HYF.out X (by rw [← hX]; exact List.getElem_mem hkl))
       have HTK : Hid ((ys.map MsgX.m).take (k + 1) = (ys.map MsgX.m).take k ++ [X.m]) := Lib.hid (by rw [List.take_succ_eq_append_getElem (by rw [List.length_map]; exact hkl), List.getElem_map, hX])
       subst hmp
       clear hkl hX hml hk hltk
       have c0 : wr.cell? ⟨mb, mo + k * 11, none⟩ = some (.int .i64 X.m.k) := hmc 0 (by decide)
       have c1 : wr.cell? ⟨mb, mo + k * 11 + 1, none⟩ = some (.int .i64 X.m.s) := hmc 1 (by decide)
       have c2 : wr.cell? ⟨mb, mo + k * 11 + 2, none⟩ = some (.int .i64 X.m.n) := hmc 2 (by decide)
       have c3 : wr.cell? ⟨mb, mo + k * 11 + 3, none⟩ = some (.int .i64 X.m.b) := hmc 3 (by decide)
       have c4 : wr.cell? ⟨mb, mo + k * 11 + 4, none⟩ = some (.int .i64 X.m.c) := hmc 4 (by decide)
       have c5 : wr.cell? ⟨mb, mo + k * 11 + 5, none⟩ = some (.int .i64 X.m.r) := hmc 5 (by decide)
       have c6 : wr.cell? ⟨mb, mo + k * 11 + 6, none⟩ = some (.int .i64 X.m.y) := hmc 6 (by decide)
       have c7 : wr.cell? ⟨mb, mo + k * 11 + 7, none⟩ = some (.int .i64 X.m.a) := hmc 7 (by decide)
       have c8 : wr.cell? ⟨mb, mo + k * 11 + 8, none⟩ = some (.bool X.m.t) := hmc 8 (by decide)
       have c9 : wr.cell? ⟨mb, mo + k * 11 + 9, none⟩ = some (.slice X.pl X.m.ls.length X.cl) := hmc 9 (by decide)
       have c10 : wr.cell? ⟨mb, mo + k * 11 + 10, none⟩ = some (.slice X.pn X.m.ns.length X.cn) := hmc 10 (by decide)
       clear hmc
       have HGM : Hid (gl < wr.heap.size ∧ gs < wr.heap.size) := Lib.hid ⟨Hl30.out.lt, Hs30.out.lt⟩
       have hba := oneB wr (.cells #[.int .i64 X.m.k, .int .i64 X.m.s, .int .i64 X.m.n, .int .i64 X.m.b, .int .i64 X.m.c, .int .i64 X.m.r, .int .i64 X.m.y, .int .i64 X.m.a, .bool X.m.t, .slice X.pl X.m.ls.length X.cl, .slice X.pn X.m.ns.length X.cn] 38)
       have Hl31 := kbq Hl30 hba
       have Hs31 := kbq Hs30 hba
       have Qu31 := Lib.hid (Qu30.out.kept hba)
       have Qv31 := Lib.hid (Qv30.out.kept hba)
       have Hm31 := Lib.hid (Blk.new wr #[.int .i64 X.m.k, .int .i64 X.m.s, .int .i64 X.m.n, .int .i64 X.m.b, .int .i64 X.m.c, .int .i64 X.m.r, .int .i64 X.m.y, .int .i64 X.m.a, .bool X.m.t, .slice X.pl X.m.ls.length X.cl, .slice X.pn X.m.ns.length X.cn] 38)
       have HB31 := Lib.hid (HB30.out.alloc HB30.out.size (.cells #[.int .i64 X.m.k, .int .i64 X.m.s, .int .i64 X.m.n, .int .i64 X.m.b, .int .i64 X.m.c, .int .i64 X.m.r, .int .i64 X.m.y, .int .i64 X.m.a, .bool X.m.t, .slice X.pl X.m.ls.length X.cl, .slice X.pn X.m.ns.length X.cn] 38))
       have HZ31 := kzq HZ30 hba.size
       have HGgm : Hid (w.heap.size ≤ wr.heap.size) := Lib.hid HB30.out.size
       clear hba Hl30 Hs30 Qu30 Qv30 HB30 HZ30
       go_upto_region 15 with fail
       clear hltI c0 c1 c2 c3 c4 c5 c6 c7 c8 c9 c10
       generalize (wr.alloc (.cells #[.int .i64 X.m.k, .int .i64 X.m.s, .int .i64 X.m.n, .int .i64 X.m.b, .int .i64 X.m.c, .int .i64 X.m.r, .int .i64 X.m.y, .int .i64 X.m.a, .bool X.m.t, .slice X.pl X.m.ls.length X.cl, .slice X.pn X.m.ns.length X.cn] 38)) = W7 at *
       generalize hggm : wr.heap.size = gm at *
       clear hggm
       have hbd := (Below.refl W7.heap.size W7).drew
       have Hl32 := kbq Hl31 hbd
       have Hs32 := kbq Hs31 hbd
       have Hm32 := kbq Hm31 hbd
       have Qu32 := Lib.hid (Qu31.out.kept hbd)
       have Qv32 := Lib.hid (Qv31.out.kept hbd)
       have HB32 := ktq HB31 hbd
       have HZ32 := kzq HZ31 hbd.size
       clear Hl31 Hs31 Hm31 Qu31 Qv31 HB31 HZ31
       refine wp_region_held_drew (S := fun w' => w'.cell? ⟨gm, 0, none⟩ = some (.int .i64 X.m.k) ∧ w'.cell? ⟨gm, 1, none⟩ = some (.int .i64 X.m.s) ∧ w'.cell? ⟨gm, 2, none⟩ = some (.int .i64 X.m.n) ∧ w'.cell? ⟨gm, 3, none⟩ = some (.int .i64 X.m.b) ∧ w'.cell? ⟨gm, 4, none⟩ = some (.int .i64 X.m.c) ∧ w'.cell? ⟨gm, 5, none⟩ = some (.int .i64 X.m.r) ∧ w'.cell? ⟨gm, 6, none⟩ = some (.int .i64 X.m.y) ∧ w'.cell? ⟨gm, 7, none⟩ = some (.int .i64 X.m.a) ∧ w'.cell? ⟨gm, 8, none⟩ = some (.bool X.m.t) ∧ w'.cell? ⟨gm, 9, none⟩ = some (.slice X.pl X.m.ls.length X.cl) ∧ w'.cell? ⟨gm, 10, none⟩ = some (.slice X.pn X.m.ns.length X.cn)) (by kernel_rfl) ⟨Hm32.out.cell 0, Hm32.out.cell 1, Hm32.out.cell 2, Hm32.out.cell 3, Hm32.out.cell 4, Hm32.out.cell 5, Hm32.out.cell 6, Hm32.out.cell 7, Hm32.out.cell 8, Hm32.out.cell 9, Hm32.out.cell 10⟩ (fun hS0 => ?_)
       generalize W7.drew = WD at *
       clear hbd
       refine tkq 0 ?_
       refine tkq 1 ?_
       refine tkq 2 ?_
       refine tkq 4 ?_
       refine tkq 5 ?_
       refine tkq 6 ?_
       refine rdq 3 (fun K hK => ?_)
       have u2 : WD.cell? ⟨gl, 2, none⟩ = some (.int .i64 1) := Hl32.out.cell 2
       have u3 : WD.cell? ⟨gl, 3, none⟩ = some (.slice p1 2 c1) := Hl32.out.cell 3
       go_simp
       clear u2 u3 hS0
       refine hK.out _ _ ⟨Hm32.out.cell 0, Hm32.out.cell 1, Hm32.out.cell 2, Hm32.out.cell 3, Hm32.out.cell 4, Hm32.out.cell 5, Hm32.out.cell 6, Hm32.out.cell 7, Hm32.out.cell 8, Hm32.out.cell 9, Hm32.out.cell 10⟩ (fun hS0 => ?_)
       clear hK K
       try simp only [Act.put, List.getElem_toArray, List.getElem_cons_succ, List.getElem_cons_zero, List.setIfInBounds_toArray, List.set_cons_zero, List.set_cons_succ]
       refine rdq 7 (fun K hK => ?_)
       have HG := Lib.hid (say_ok (NotIn [gl]) 1 0 p1 2 c1 (qn1 ((ys.map MsgX.m).take k) 0) X.m (.slice X.pl X.m.ls.length X.cl) (.slice X.pn X.m.ns.length X.cn) WD rfl Qv32.out (HXI.out.1.ls.kept HB32.out) (HXI.out.1.ns.kept HB32.out) HXI.out.2 rfl (by show 0 < 2; decide) (by show 2 ≤ 1000; decide) (by show ((ys.map MsgX.m).take k).length ≤ 1000; rw [List.length_take]; have := HLT.out; have := HSM.out.2.1; omega) (fun b hb hm => by have h0 := Hl32.out.lt; simp only [List.mem_cons, List.not_mem_nil, or_false] at hm; omega))
       unfold Msg.v at HG
       go_simp
       go_at_call 6
       refine HG.out.mono ?_
       rintro y9 w8 ⟨_, rfl, ⟨p5, c5, rfl, hp5⟩, hb⟩
       clear HG
       have HP5 : Hid (PeRow (NotIn [gl]) w8 (.slice p5 2 c5) (qn1 ((ys.map MsgX.m).take (k + 1)) 0)) := Lib.hid (by rw [HTK.out]; exact hp5)
       dsimp only [List.length_set, qn0, qn1, List.length_cons, List.length_nil, Nat.zero_add, Nat.reduceAdd]
       clear hp5
       have Hl33 := kbq Hl32 hb
       have Hs33 := kbq Hs32 hb
       have Hm33 := kbq Hm32 hb
       have Qu33 := Lib.hid (Qu32.out.kept hb)
       have Qv33 := Lib.hid (Qv32.out.kept hb)
       have HB33 := ktq HB32 hb
       have HZ33 := kzq HZ32 hb.size
       clear Hl32 Hs32 Hm32 Qu32 Qv32 HB32 HZ32
       clear hb hS0
       clear Qv33
       have Qv33 := HP5
       clear HP5
       try go_wp2_with fail
       refine hK.out _ _ ⟨Hm33.out.cell 0, Hm33.out.cell 1, Hm33.out.cell 2, Hm33.out.cell 3, Hm33.out.cell 4, Hm33.out.cell 5, Hm33.out.cell 6, Hm33.out.cell 7, Hm33.out.cell 8, Hm33.out.cell 9, Hm33.out.cell 10⟩ (fun hS0 => ?_)
       clear hK K
       try simp only [Act.put, List.getElem_toArray, List.getElem_cons_succ, List.getElem_cons_zero, List.setIfInBounds_toArray, List.set_cons_zero, List.set_cons_succ]
       refine tkq 8 ?_
       refine tkq 9 ?_
       refine tkq 10 ?_
       refine tkq 11 ?_
       refine rdq 12 (fun K hK => ?_)
       have z0 : w8.cell? ⟨gl, 0, none⟩ = some (.int .i64 0) := Hl33.out.cell 0
       have z1 : w8.cell? ⟨gl, 1, none⟩ = some (.slice p0 2 c0) := Hl33.out.cell 1
       have z2 : w8.cell? ⟨gl, 2, none⟩ = some (.int .i64 1) := Hl33.out.cell 2
       have z3 : w8.cell? ⟨gl, 3, none⟩ = some (.slice p1 2 c1) := Hl33.out.cell 3
       have f0 := Hl33.out.free 0
       have f1 := Hl33.out.free 1
       have f2 := Hl33.out.free 2
       have f3 := Hl33.out.free 3
       go_simp
       clear z0 f0 z1 f1 z2 f2 z3 f3
       have hch := Lib.hid (((Chg.refl gl w8).set 2 (.int .i64 1)).set 3 (.slice p5 2 c5))
       have Hl34 : Hid (Blk _ gl #[.int .i64 0, .slice p0 2 c0, .int .i64 1, .slice p5 2 c5] 28) := Lib.hid ((Hl33.out.set 2 (.int .i64 1)).set 3 (.slice p5 2 c5))
       have HB34 := ksq HB33 hch (by show w.heap.size ≤ gl; have := HGgl.out; have := HGS.out; have := HGM.out; omega)
       have HZ34 := kzq HZ33 hch.out.size
       have Hs34 := kcq Hs33 hch (by have := HGgl.out; have := HGS.out; have := HGM.out; omega)
       have Hm34 := kcq Hm33 hch (by have := HGgl.out; have := HGS.out; have := HGM.out; omega)
       have Qu34 := Lib.hid (Qu33.out.chg hch.out (notIn_self (by simp)))
       have Qv34 := Lib.hid (Qv33.out.chg hch.out (notIn_self (by simp)))
       clear hch hS0 Hl33 Hs33 Hm33 Qu33 Qv33 HB33 HZ33
       generalize ((w8.setCell ⟨gl, 2, none⟩ (.int .i64 1)).setCell ⟨gl, 3, none⟩ (.slice p5 2 c5)) = W9 at *
       refine hK.out _ _ ⟨Hm34.out.cell 0, Hm34.out.cell 1, Hm34.out.cell 2, Hm34.out.cell 3, Hm34.out.cell 4, Hm34.out.cell 5, Hm34.out.cell 6, Hm34.out.cell 7, Hm34.out.cell 8, Hm34.out.cell 9, Hm34.out.cell 10⟩ (fun hS0 => ?_)
       clear hK K
       try simp only [Act.put, List.getElem_toArray, List.getElem_cons_succ, List.getElem_cons_zero, List.setIfInBounds_toArray, List.set_cons_zero, List.set_cons_succ]
       refine wpAnyH_done (by kernel_rfl) ?_ _
       clear hS0
       have HNX : Hid (∃ (p0 : Option Addr) (c0 : Nat) (p1 : Option Addr) (c1 : Nat), Blk W9 gl #[.int .i64 0, .slice p0 2 c0, .int .i64 1, .slice p1 2 c1] 28 ∧ Blk W9 gs #[.slice pa la ca, .slice (some ⟨mb, mo, none⟩) lb cb] 32 ∧ PeRow (NotIn [gl]) W9 (.slice p0 2 c0) (qn0 (xs.map MsgX.m) 0) ∧ PeRow (NotIn [gl]) W9 (.slice p1 2 c1) (qn1 ((ys.map MsgX.m).take (k + 1)) 0) ∧ Below w.heap.size w W9) := Lib.hid ⟨p0, c0, p5, c5, Hl34.out, Hs34.out, Qu34.out, Qv34.out, HB34.out⟩
       clear Hl34 Hs34 Hm34 Qu34 Qv34 HB34 HZ34 HTK HXI
       go_wp2_with fail
       go_roundw
       case rel => exact ⟨k + 1, by have := HLT.out; omega, by go_num, HNX⟩
       case measure => have := HLT.out; simp [intOf]; omega
      ·skip
       have hltI : ¬ (k : Int) < (lb : Int) := by omega
       have HNX : Hid (∃ (p0 : Option Addr) (c0 : Nat) (p1 : Option Addr) (c1 : Nat), Blk wr gl #[.int .i64 0, .slice p0 2 c0, .int .i64 1, .slice p1 2 c1] 28 ∧ Blk wr gs #[.slice pa la ca, .slice pb lb cb] 32 ∧ PeRow (NotIn [gl]) wr (.slice p0 2 c0) (qn0 (if 1 ≤ 2 then xs.map MsgX.m else []) 0) ∧ PeRow (NotIn [gl]) wr (.slice p1 2 c1) (qn1 (if 2 ≤ 2 then ys.map MsgX.m else []) 0) ∧ Below w.heap.size w wr) := Lib.hid (by have h := HK.out; rw [List.take_of_length_le (by rw [List.length_map]; have := HLL.out.2.1; omega)] at h; exact h)
       clear HK hk hltk hk9
       go_upto_region 17 with fail
       clear hltI
       go_wp2_with fail
       go_roundw
       case rel => exact ⟨2, by omega, by go_num, HNX⟩
       case measure => simp [intOf]
  ·skip
   have hlt2 : i = 2 := by omega
   have HK2 : Hid (∃ (p0 : Option Addr) (c0 : Nat) (p1 : Option Addr) (c1 : Nat), Blk wr gl #[.int .i64 0, .slice p0 2 c0, .int .i64 1, .slice p1 2 c1] 28 ∧ Blk wr gs #[.slice pa la ca, .slice pb lb cb] 32 ∧ PeRow (NotIn [gl]) wr (.slice p0 2 c0) (qn0 (xs.map MsgX.m) 0) ∧ PeRow (NotIn [gl]) wr (.slice p1 2 c1) (qn1 (ys.map MsgX.m) 0) ∧ Below w.heap.size w wr) := Lib.hid (by have h := HK.out; rw [hlt2] at h; exact h)
   have hltI : ¬ (i : Int) < 2 := by omega
   clear hi hlt hlt2 HK
   obtain ⟨p0, c0, p1, c1, hk1, hk2, hk3, hk4, hk5⟩ := HK2.out
   have Hl40 := Lib.hid hk1
   have Hs40 := Lib.hid hk2
   have Qu40 := Lib.hid hk3
   have Qv40 := Lib.hid hk4
   have HB40 := Lib.hid hk5
   have HZ40 : Hid (w.heap.size ≤ wr.heap.size) := Lib.hid hk5.size
   clear HK2 hk1 hk2 hk3 hk4 hk5
   go_upto_region 18 with fail
   clear hltI
   generalize wr = V at *
   have HVL : Hid (gl < V.heap.size) := Lib.hid Hl40.out.lt
   have HOE := Lib.hid (OwnT.madeE encB1 V V.heap.size 4 (Nat.le_refl _))
   have HBE := Lib.hid (oneB V (.cells #[] 4))
   have HRW := Lib.hid ((HBS.out.kept HB40.out).kept HBE.out)
   go_wp2_with (at_builtin; with_reducible refine stop_appendT (.tmp 72) (.tmp 73) 23 rfl ?_)
   refine wpList_append_t rfl (.tmp 72) (.tmp 73) 23 rfl 4 (.bool false) 1 V.heap.size eltB1 rfl (by decide) (.slice (some ⟨V.heap.size, 0, none⟩) 0 0) (.slice po lo co) [] bs rfl rfl HOE.out HRW.out (by have := HLL.out.2.2; have := HSM.out.2.2; simp; omega) HBE.out.size bs lo (List.nil_append _) HLL.out.2.2 ?_
   intro p6 c6 w6 ho _ hbw
   have hb6 : Below V.heap.size V w6 := HBE.out.trans hbw
   have hui : Try.prog.underlying 3 = some (.int .i64) := Try.underlying3
   obtain ⟨ib, hib1, hib2, hib3, hib4, hib5⟩ := eltB1
   obtain ⟨v7, w7, hrun7, hown7, hg7⟩ := app_false w6 V.heap.size 23 3 23 4 ib hib1 hui hib2 hib3 hib4 hib5 (.slice p6 lo c6) lo (bs.flatMap encB1.E) (by have h := ho; unfold OwnT at h; rw [HLL.out.2.2] at h; exact h) (by have := HSM.out.2.2; omega) hb6.size
   have hown8 : OwnT encB1 w7 V.heap.size 4 v7 (bs ++ [false]) := by
    unfold OwnT
    rw [List.flatMap_append, List.length_append, HLL.out.2.2]
    exact hown7
   have hb7 : Below V.heap.size w6 w7 := (Below.refl _ _).grown hg7 hb6.size (fun g hg => ho.block_ge g hg)
   refine Lib.wpList_append_run _ rfl _ _ _ _ rfl _ _ rfl rfl _ _ hrun7 ?_
   obtain ⟨p7, c7, hv7⟩ := hown8.form
   rw [List.length_append, HLL.out.2.2] at hv7
   replace hv7 : v7 = .slice p7 (lo + 1) c7 := hv7
   subst hv7
   have hb : Below V.heap.size V w7 := hb6.trans hb7
   have Qo41 : Hid (RwN encB1 (NotIn [gl]) w7 (.slice p7 (lo + 1) c7) (bs ++ [false])) := Lib.hid (hown8.rwN (fun b hb hm => by have := HVL.out; simp only [List.mem_cons, List.not_mem_nil, or_false] at hm; omega))
   clear ho hbw hb6 hui hib1 hib2 hib3 hib4 hib5 hrun7 hown7 hg7 hown8 hb7 HOE HBE HRW
   have Hl41 := kbq Hl40 hb
   have Hs41 := kbq Hs40 hb
   have Qu41 := Lib.hid (Qu40.out.kept hb)
   have Qv41 := Lib.hid (Qv40.out.kept hb)
   have HB41 := ktq HB40 hb
   have HZ41 := kzq HZ40 hb.size
   clear Hl40 Hs40 Qu40 Qv40 HB40 HZ40
   clear hb
   have HREL : Hid (∃ (ha hb : Nat), ha ≤ la ∧ hb ≤ lb ∧ RwN encB1 (NotIn [gl]) w7 (.slice p7 (lo + 1) c7) (bs ++ [false]) ∧ ∃ (p0 : Option Addr) (c0 : Nat) (p1 : Option Addr) (c1 : Nat), Blk w7 gl #[.int .i64 0, .slice p0 2 c0, .int .i64 1, .slice p1 2 c1] 28 ∧ Blk w7 gs #[.slice pa la ca, .slice pb lb cb] 32 ∧ PeRow (NotIn [gl]) w7 (.slice p0 2 c0) (qn0 (xs.map MsgX.m) hb) ∧ PeRow (NotIn [gl]) w7 (.slice p1 2 c1) (qn1 (ys.map MsgX.m) ha) ∧ Below w.heap.size w w7) := Lib.hid ⟨0, 0, Nat.zero_le _, Nat.zero_le _, Qo41.out, p0, c0, p1, c1, Hl41.out, Hs41.out, Qu41.out, Qv41.out, HB41.out⟩
   clear Hl41 Hs41 Qu41 Qv41 Qo41 HB41 HZ41
   go_wp2_with fail
   go_loopw [77] (fun i wr => ∃ t : Nat, t ≤ lo + 1 ∧ i = .int .i64 t ∧ Hid (∃ (ha hb : Nat), ha ≤ la ∧ hb ≤ lb ∧ RwN encB1 (NotIn [gl]) wr (.slice p7 (lo + 1) c7) (bs ++ [false]) ∧ ∃ (p0 : Option Addr) (c0 : Nat) (p1 : Option Addr) (c1 : Nat), Blk wr gl #[.int .i64 0, .slice p0 2 c0, .int .i64 1, .slice p1 2 c1] 28 ∧ Blk wr gs #[.slice pa la ca, .slice pb lb cb] 32 ∧ PeRow (NotIn [gl]) wr (.slice p0 2 c0) (qn0 (xs.map MsgX.m) hb) ∧ PeRow (NotIn [gl]) wr (.slice p1 2 c1) (qn1 (ys.map MsgX.m) ha) ∧ Below w.heap.size w wr)) (fun i _ => lo + 1 - (intOf i).toNat)
   case atStart => exact ⟨0, by omega, rfl, HREL⟩
   case round =>
    clear HREL
    obtain ⟨t, ht, rfl, HT⟩ := hrel
    have ht9 : t + 1 ≤ 82 := by have := HSM.out.2.2; omega
    obtain ⟨ha, hb0, hha, hhb, hoo, p0, c0, p1, c1, hk1, hk2, hk3, hk4, hk5⟩ := HT.out
    have HHA := Lib.hid hha
    have HHB := Lib.hid hhb
    have Qo50 := Lib.hid hoo
    have Hl50 := Lib.hid hk1
    have Hs50 := Lib.hid hk2
    have Qu50 := Lib.hid hk3
    have Qv50 := Lib.hid hk4
    have HB50 := Lib.hid hk5
    have HZ50 : Hid (w.heap.size ≤ wr.heap.size) := Lib.hid hk5.size
    clear HT hha hhb hoo hk1 hk2 hk3 hk4 hk5
    by_cases hlt : t < lo + 1
    ·skip
     have hltI : (t : Int) < ((lo : Int) + 1) := by omega
     have HLT3 : Hid (t < lo + 1) := Lib.hid hlt
     obtain ⟨ob, oo, hop, hol, hoc0⟩ := Qo50.out.1.at_ t (by rw [List.length_append, HLL.out.2.2]; exact hlt)
     have hoc := hoc0 0 (by decide)
     obtain ⟨x, hx⟩ : ∃ x, (bs ++ [false])[t]'(by rw [List.length_append, HLL.out.2.2]; exact hlt) = x := ⟨_, rfl⟩
     rw [hx] at hoc
     have hoc2 : wr.cell? ⟨ob, oo + t, none⟩ = some (.bool x) := by
      rw [show oo + t = oo + t * encB1.k + 0 from by show oo + t = oo + t * 1 + 0; omega]
      exact hoc
     subst hop
     clear hol hoc hoc0 hx hlt ht
     cases x
     ·skip
      go_upto_region 24 with fail
      clear hoc2
      as_aux_lemma =>
       obtain ⟨rb, ro, hrp, hrl, hrc⟩ := Qv50.out.heard 0 (by show 0 < 2; decide)
       have hrc : wr.cell? ⟨rb, ro + 1, none⟩ = some (.int .i64 (ha : Nat)) := hrc
       have HRC : Hid (∀ W2, Below wr.heap.size wr W2 → W2.cell? ⟨rb, ro + 1, none⟩ = some (.int .i64 (ha : Nat))) := Lib.hid (fun W2 h => (h.cell (p := ⟨rb, _, none⟩) hrl).trans hrc)
       have HRB : Hid (Below wr.heap.size wr wr.drew) := Lib.hid (Below.refl _ _).drew
       subst hrp
       clear hrl hrc
       clear hltI
       have hw9 : IntKind.i64.wrap 1 = 1 := rfl
       have hbd := (Below.refl wr.heap.size wr).drew
       have Hl51 := kbq Hl50 hbd
       have Hs51 := kbq Hs50 hbd
       have Qu51 := Lib.hid (Qu50.out.kept hbd)
       have Qv51 := Lib.hid (Qv50.out.kept hbd)
       have Qo51 := Lib.hid (Qo50.out.kept hbd)
       have HB51 := ktq HB50 hbd
       have HZ51 := kzq HZ50 hbd.size
       clear Hl50 Hs50 Qu50 Qv50 Qo50 HB50 HZ50
       refine wp_region_held_drew (S := fun w' => w'.cell? ⟨gl, 0, none⟩ = some (.int .i64 0) ∧ w'.cell? ⟨gl, 1, none⟩ = some (.slice p0 2 c0) ∧ w'.cell? ⟨gl, 2, none⟩ = some (.int .i64 1) ∧ w'.cell? ⟨gl, 3, none⟩ = some (.slice (some ⟨rb, ro, none⟩) 2 c1) ∧ w'.cell? ⟨rb, ro + 1, none⟩ = some (.int .i64 (ha : Nat))) (by kernel_rfl) ⟨Hl51.out.cell 0, Hl51.out.cell 1, Hl51.out.cell 2, Hl51.out.cell 3, (HRC.out _ HRB.out)⟩ (fun hS0 => ?_)
       generalize wr.drew = WD at *
       clear hbd
       refine tkq 0 ?_
       refine tkq 1 ?_
       refine tkq 2 ?_
       refine tkq 3 ?_
       refine tkq 4 ?_
       refine tkq 5 ?_
       refine tkq 6 ?_
       refine tkq 7 ?_
       refine tkq 8 ?_
       refine tkq 9 ?_
       refine tkq 10 ?_
       refine tkq 11 ?_
       refine tkq 12 ?_
       refine tkq 13 ?_
       refine tkq 16 ?_
       refine rdq 14 (fun K hK => ?_)
       have HG := Lib.hid (packs_any (NotIn [gl]) 0 1 ha p0 2 c0 (qn0 (xs.map MsgX.m) hb0) WD rfl Qu51.out rfl (by show 1 < 2; decide) (by show (xs.map MsgX.m).length ≤ 1000; rw [List.length_map]; have := HLL.out.1; have := HSM.out.1; omega) (fun b hb hm => by have h0 := Hl51.out.lt; simp only [List.mem_cons, List.not_mem_nil, or_false] at hm; omega))
       go_simp
       go_at_call 7
       refine HG.out.mono ?_
       rintro y9 w8 ⟨v8, rfl, hk8, hb⟩
       clear HG
       have hk8 : PkRow (NotIn [gl]) w8 v8 (packs 0 1 (xs.map MsgX.m, ((hb0 : Nat) : Int)) ha) := hk8
       obtain ⟨PK, hPK⟩ : ∃ l, packs 0 1 (xs.map MsgX.m, ((hb0 : Nat) : Int)) ha = l := ⟨_, rfl⟩
       rw [hPK] at hk8
       have HPK := Lib.hid hPK
       obtain ⟨np, hnp⟩ : ∃ z, PK.length = z := ⟨_, rfl⟩
       obtain ⟨p8, c8, hv8⟩ := hk8.shape
       rw [hnp] at hv8
       subst hv8
       have HNP : Hid (PK.length = np) := Lib.hid hnp
       have HK8 := Lib.hid hk8
       have HRB := ktq HRB hb
       clear hPK hnp hk8
       have Hl52 := kbq Hl51 hb
       have Hs52 := kbq Hs51 hb
       have Qu52 := Lib.hid (Qu51.out.kept hb)
       have Qv52 := Lib.hid (Qv51.out.kept hb)
       have Qo52 := Lib.hid (Qo51.out.kept hb)
       have HB52 := ktq HB51 hb
       have HZ52 := kzq HZ51 hb.size
       clear Hl51 Hs51 Qu51 Qv51 Qo51 HB51 HZ51
       clear hb hS0
       have Qk52 := HK8
       clear HK8
       try go_wp2_with fail
       refine hK.out _ _ ⟨Hl52.out.cell 0, Hl52.out.cell 1, Hl52.out.cell 2, Hl52.out.cell 3, (HRC.out _ HRB.out)⟩ (fun hS0 => ?_)
       clear hK K
       try simp only [Act.put, List.getElem_toArray, List.getElem_cons_succ, List.getElem_cons_zero, List.setIfInBounds_toArray, List.set_cons_zero, List.set_cons_succ]
       refine tkq 15 ?_
       refine wpAnyH_done (by kernel_rfl) ?_ _
       clear hS0
       have HNPL : Hid (np = if la ≤ ha then 1 else la - ha) := Lib.hid (by
        have h1 := packs_len 0 1 (xs.map MsgX.m, ((hb0 : Nat) : Int)) ha
        rw [HPK.out, HNP.out] at h1
        have h2 : (xs.map MsgX.m).length = la := by rw [List.length_map]; exact HLL.out.1
        rw [h2] at h1
        exact h1)
       have HNP9 : Hid (np ≤ 21) := Lib.hid (by have h1 := HNPL.out; have := HSM.out.1; split at h1 <;> omega)
       clear HRC HRB
       have HREL : Hid (∃ (pR : Option Addr) (cR : Nat), Blk w8 gl #[.int .i64 0, .slice p0 2 c0, .int .i64 1, .slice pR 2 cR] 28 ∧ Blk w8 gs #[.slice pa la ca, .slice pb lb cb] 32 ∧ PeRow (NotIn [gl]) w8 (.slice p0 2 c0) (qn0 (xs.map MsgX.m) hb0) ∧ PeRow (NotIn [gl]) w8 (.slice pR 2 cR) (qn1 (ys.map MsgX.m) ((hhU la ha 0 : Nat) : Int)) ∧ PkRow (NotIn [gl]) w8 (.slice p8 np c8) PK ∧ RwN encB1 (NotIn [gl]) w8 (.slice (some ⟨ob, oo, none⟩) (lo + 1) c7) (bs ++ [false]) ∧ Below w.heap.size w w8) := Lib.hid ⟨(some ⟨rb, ro, none⟩), c1, Hl52.out, Hs52.out, Qu52.out, (by rw [hhU_0]; exact Qv52.out), Qk52.out, Qo52.out, HB52.out⟩
       clear Hl52 Hs52 Qu52 Qv52 Qo52 Qk52 HB52 HZ52
       go_wp2_with fail
       go_loopw [98] (fun i wr => ∃ u : Nat, u ≤ np ∧ i = .int .i64 u ∧ Hid (∃ (pR : Option Addr) (cR : Nat), Blk wr gl #[.int .i64 0, .slice p0 2 c0, .int .i64 1, .slice pR 2 cR] 28 ∧ Blk wr gs #[.slice pa la ca, .slice pb lb cb] 32 ∧ PeRow (NotIn [gl]) wr (.slice p0 2 c0) (qn0 (xs.map MsgX.m) hb0) ∧ PeRow (NotIn [gl]) wr (.slice pR 2 cR) (qn1 (ys.map MsgX.m) ((hhU la ha u : Nat) : Int)) ∧ PkRow (NotIn [gl]) wr (.slice p8 np c8) PK ∧ RwN encB1 (NotIn [gl]) wr (.slice (some ⟨ob, oo, none⟩) (lo + 1) c7) (bs ++ [false]) ∧ Below w.heap.size w wr)) (fun i _ => np - (intOf i).toNat)
       case atStart => exact ⟨0, by omega, rfl, HREL⟩
       case round =>
        clear HREL
        obtain ⟨u, hu, rfl, HU⟩ := hrel
        have hu9 : u + 1 ≤ 22 := by have := HNP9.out; omega
        obtain ⟨pR, cR, hk1, hk2, hk3, hk4, hk5, hk6, hk7⟩ := HU.out
        have Hl60 := Lib.hid hk1
        have Hs60 := Lib.hid hk2
        have Qu60 := Lib.hid hk3
        have Qv60 := Lib.hid hk4
        have Qk60 := Lib.hid hk5
        have Qo60 := Lib.hid hk6
        have HB60 := Lib.hid hk7
        have HZ60 : Hid (w.heap.size ≤ wr.heap.size) := Lib.hid hk7.size
        clear HU hk1 hk2 hk3 hk4 hk5 hk6 hk7
        by_cases hlu : u < np
        ·skip
         have hluI : (u : Int) < (np : Int) := by omega
         have HLU : Hid (u < np) := Lib.hid hlu
         obtain ⟨yk, hy1, hy2, hy3, hy4⟩ := Qk60.out
         have hkx : u < yk.length := by have h1 := congrArg List.length hy4; rw [List.length_map, HNP.out] at h1; omega
         obtain ⟨kb, ko, hkp, hkl, hkc⟩ := hy1.at_ u hkx
         obtain ⟨⟨yf, yt, yn, yh, ⟨ym, ypl, ycl, ypn, ycn⟩⟩, hY⟩ : ∃ Y, yk[u] = Y := ⟨_, rfl⟩
         rw [hY] at hkc
         have hyi := hy3 _ (List.getElem_mem hkx)
         rw [hY] at hyi
         have HYI : Hid ((⟨ym, ypl, ycl, ypn, ycn⟩ : MsgX).InP (NotIn [gl]) wr) := Lib.hid hyi
         have hup : u < PK.length := by rw [HNP.out]; exact hlu
         have HYP : Hid ((⟨yf, yt, yn, yh, ym⟩ : Pk) = PK[u]'hup) := Lib.hid (by
          have h1 : (yk.map PkX.pk)[u]'(by rw [List.length_map]; exact hkx) = PK[u]'hup := by simp only [hy4]
          rw [List.getElem_map, hY] at h1
          exact h1)
         subst hkp
         clear hy1 hy2 hy3 hy4 hkl hY hlu hu hkx hyi
         by_cases hone : la ≤ ha
         ·skip
          as_aux_lemma =>
           have hyn : yn = 0 := by
            have h1 := packs_one (me := 0) (tq := 1) (q := (xs.map MsgX.m, ((hb0 : Nat) : Int))) (k := ha) (u := u) (by show (xs.map MsgX.m).length ≤ ha; rw [List.length_map]; have := HLL.out.1; omega) (by have h2 := HPK.out; first | (rw [h2]; exact hup) | exact (by rw [show packs 0 1 (xs.map MsgX.m, ((hb0 : Nat) : Int)) ha = PK from h2]; exact hup))
            have h2 : packs 0 1 (xs.map MsgX.m, ((hb0 : Nat) : Int)) ha = PK := HPK.out
            simp only [h2] at h1
            rw [← HYP.out] at h1
            exact h1
           subst hyn
           have c0 : wr.cell? ⟨kb, ko + u * 15, none⟩ = some (.int .i64 yf) := hkc 0 (by decide)
           have c1 : wr.cell? ⟨kb, ko + u * 15 + 1, none⟩ = some (.int .i64 yt) := hkc 1 (by decide)
           have c2 : wr.cell? ⟨kb, ko + u * 15 + 2, none⟩ = some (.int .i64 0) := hkc 2 (by decide)
           have c3 : wr.cell? ⟨kb, ko + u * 15 + 3, none⟩ = some (.int .i64 yh) := hkc 3 (by decide)
           have c4 : wr.cell? ⟨kb, ko + u * 15 + 4, none⟩ = some (.int .i64 ym.k) := hkc 4 (by decide)
           have c5 : wr.cell? ⟨kb, ko + u * 15 + 5, none⟩ = some (.int .i64 ym.s) := hkc 5 (by decide)
           have c6 : wr.cell? ⟨kb, ko + u * 15 + 6, none⟩ = some (.int .i64 ym.n) := hkc 6 (by decide)
           have c7 : wr.cell? ⟨kb, ko + u * 15 + 7, none⟩ = some (.int .i64 ym.b) := hkc 7 (by decide)
           have c8 : wr.cell? ⟨kb, ko + u * 15 + 8, none⟩ = some (.int .i64 ym.c) := hkc 8 (by decide)
           have c9 : wr.cell? ⟨kb, ko + u * 15 + 9, none⟩ = some (.int .i64 ym.r) := hkc 9 (by decide)
           have c10 : wr.cell? ⟨kb, ko + u * 15 + 10, none⟩ = some (.int .i64 ym.y) := hkc 10 (by decide)
           have c11 : wr.cell? ⟨kb, ko + u * 15 + 11, none⟩ = some (.int .i64 ym.a) := hkc 11 (by decide)
           have c12 : wr.cell? ⟨kb, ko + u * 15 + 12, none⟩ = some (.bool ym.t) := hkc 12 (by decide)
           have c13 : wr.cell? ⟨kb, ko + u * 15 + 13, none⟩ = some (.slice ypl ym.ls.length ycl) := hkc 13 (by decide)
           have c14 : wr.cell? ⟨kb, ko + u * 15 + 14, none⟩ = some (.slice ypn ym.ns.length ycn) := hkc 14 (by decide)
           clear hkc
           have HGK : Hid (gl < wr.heap.size ∧ gs < wr.heap.size) := Lib.hid ⟨Hl60.out.lt, Hs60.out.lt⟩
           have Qi60 : Hid (InN (NotIn [gl]) ⟨ym, ypl, ycl, ypn, ycn⟩ wr) := Lib.hid HYI.out
           clear HYI
           have hba := oneB wr (.cells #[.int .i64 yf, .int .i64 yt, .int .i64 0, .int .i64 yh, .int .i64 ym.k, .int .i64 ym.s, .int .i64 ym.n, .int .i64 ym.b, .int .i64 ym.c, .int .i64 ym.r, .int .i64 ym.y, .int .i64 ym.a, .bool ym.t, .slice ypl ym.ls.length ycl, .slice ypn ym.ns.length ycn] 45)
           have Hl61 := kbq Hl60 hba
           have Hs61 := kbq Hs60 hba
           have Qu61 := Lib.hid (Qu60.out.kept hba)
           have Qv61 := Lib.hid (Qv60.out.kept hba)
           have Qk61 := Lib.hid (Qk60.out.kept hba)
           have Qo61 := Lib.hid (Qo60.out.kept hba)
           have Qi61 := Lib.hid (Qi60.out.kept hba)
           have Hk61 := Lib.hid (Blk.new wr #[.int .i64 yf, .int .i64 yt, .int .i64 0, .int .i64 yh, .int .i64 ym.k, .int .i64 ym.s, .int .i64 ym.n, .int .i64 ym.b, .int .i64 ym.c, .int .i64 ym.r, .int .i64 ym.y, .int .i64 ym.a, .bool ym.t, .slice ypl ym.ls.length ycl, .slice ypn ym.ns.length ycn] 45)
           have HB61 := Lib.hid (HB60.out.alloc HB60.out.size (.cells #[.int .i64 yf, .int .i64 yt, .int .i64 0, .int .i64 yh, .int .i64 ym.k, .int .i64 ym.s, .int .i64 ym.n, .int .i64 ym.b, .int .i64 ym.c, .int .i64 ym.r, .int .i64 ym.y, .int .i64 ym.a, .bool ym.t, .slice ypl ym.ls.length ycl, .slice ypn ym.ns.length ycn] 45))
           have HZ61 := kzq HZ60 hba.size
           have HGgk : Hid (w.heap.size ≤ wr.heap.size) := Lib.hid HB60.out.size
           clear hba Hl60 Hs60 Qu60 Qv60 Qk60 Qo60 Qi60 HB60 HZ60
           go_upto_region 27 with fail
           clear hluI c0 c1 c2 c3 c4 c5 c6 c7 c8 c9 c10 c11 c12 c13 c14
           generalize (wr.alloc (.cells #[.int .i64 yf, .int .i64 yt, .int .i64 0, .int .i64 yh, .int .i64 ym.k, .int .i64 ym.s, .int .i64 ym.n, .int .i64 ym.b, .int .i64 ym.c, .int .i64 ym.r, .int .i64 ym.y, .int .i64 ym.a, .bool ym.t, .slice ypl ym.ls.length ycl, .slice ypn ym.ns.length ycn] 45)) = W9 at *
           generalize hggk : wr.heap.size = gk at *
           clear hggk
           have hbd := (Below.refl W9.heap.size W9).drew
           have Hl62 := kbq Hl61 hbd
           have Hs62 := kbq Hs61 hbd
           have Hk62 := kbq Hk61 hbd
           have Qu62 := Lib.hid (Qu61.out.kept hbd)
           have Qv62 := Lib.hid (Qv61.out.kept hbd)
           have Qk62 := Lib.hid (Qk61.out.kept hbd)
           have Qo62 := Lib.hid (Qo61.out.kept hbd)
           have Qi62 := Lib.hid (Qi61.out.kept hbd)
           have HB62 := ktq HB61 hbd
           have HZ62 := kzq HZ61 hbd.size
           clear Hl61 Hs61 Hk61 Qu61 Qv61 Qk61 Qo61 Qi61 HB61 HZ61
           refine wp_region_held_drew (S := fun w' => w'.cell? ⟨gl, 0, none⟩ = some (.int .i64 0) ∧ w'.cell? ⟨gl, 1, none⟩ = some (.slice p0 2 c0) ∧ w'.cell? ⟨gl, 2, none⟩ = some (.int .i64 1) ∧ w'.cell? ⟨gl, 3, none⟩ = some (.slice pR 2 cR) ∧ w'.cell? ⟨gk, 2, none⟩ = some (.int .i64 0)) (by kernel_rfl) ⟨Hl62.out.cell 0, Hl62.out.cell 1, Hl62.out.cell 2, Hl62.out.cell 3, Hk62.out.cell 2⟩ (fun hS0 => ?_)
           generalize W9.drew = WA at *
           clear hbd
           refine tkq 0 ?_
           refine tkq 1 ?_
           refine tkq 2 ?_
           refine tkq 3 ?_
           refine tkq 4 ?_
           refine tkq 5 ?_
           refine tkq 6 ?_
           refine rdq 7 (fun K hK => ?_)
           have HG := Lib.hid (next_any (NotIn [gl]) 1 0 0 pR 2 cR (qn1 (ys.map MsgX.m) ((hhU la ha u : Nat) : Int)) WA rfl Qv62.out (by decide))
           rw [next_no] at HG
           obtain ⟨ob2, hob⟩ : ∃ z, oldB (peAt 1 (qn1 (ys.map MsgX.m) ((hhU la ha u : Nat) : Int)) 0) (okP 1 (qn1 (ys.map MsgX.m) ((hhU la ha u : Nat) : Int)).length 0) 0 = z := ⟨_, rfl⟩
           rw [hob] at HG
           clear hob
           go_simp
           go_at_call 8
           refine HG.out.mono ?_
           rintro y9 wB ⟨rfl, hb⟩
           clear HG
           have Hl63 := kbq Hl62 hb
           have Hs63 := kbq Hs62 hb
           have Hk63 := kbq Hk62 hb
           have Qu63 := Lib.hid (Qu62.out.kept hb)
           have Qv63 := Lib.hid (Qv62.out.kept hb)
           have Qk63 := Lib.hid (Qk62.out.kept hb)
           have Qo63 := Lib.hid (Qo62.out.kept hb)
           have Qi63 := Lib.hid (Qi62.out.kept hb)
           have HB63 := ktq HB62 hb
           have HZ63 := kzq HZ62 hb.size
           clear Hl62 Hs62 Hk62 Qu62 Qv62 Qk62 Qo62 Qi62 HB62 HZ62
           clear hb hS0
           try go_wp2_with fail
           refine hK.out _ _ ⟨Hl63.out.cell 0, Hl63.out.cell 1, Hl63.out.cell 2, Hl63.out.cell 3, Hk63.out.cell 2⟩ (fun hS0 => ?_)
           clear hK K
           try simp only [Act.put, List.getElem_toArray, List.getElem_cons_succ, List.getElem_cons_zero, List.setIfInBounds_toArray, List.set_cons_zero, List.set_cons_succ]
           refine tkq 8 ?_
           refine tkq 9 ?_
           refine tkq 10 ?_
           refine tkq 11 ?_
           refine tkq 12 ?_
           refine wpAnyH_done (by kernel_rfl) ?_ _
           clear hS0
           have HNX : Hid (∃ (pR : Option Addr) (cR : Nat), Blk wB gl #[.int .i64 0, .slice p0 2 c0, .int .i64 1, .slice pR 2 cR] 28 ∧ Blk wB gs #[.slice pa la ca, .slice pb lb cb] 32 ∧ PeRow (NotIn [gl]) wB (.slice p0 2 c0) (qn0 (xs.map MsgX.m) hb0) ∧ PeRow (NotIn [gl]) wB (.slice pR 2 cR) (qn1 (ys.map MsgX.m) ((hhU la ha (u + 1) : Nat) : Int)) ∧ PkRow (NotIn [gl]) wB (.slice (some ⟨kb, ko, none⟩) np c8) PK ∧ RwN encB1 (NotIn [gl]) wB (.slice (some ⟨ob, oo, none⟩) (lo + 1) c7) (bs ++ [false]) ∧ Below w.heap.size w wB) := Lib.hid ⟨pR, cR, Hl63.out, Hs63.out, Qu63.out, (by rw [show hhU la ha (u + 1) = hhU la ha u from by unfold hhU; rw [if_pos hone, if_pos hone]]; exact Qv63.out), Qk63.out, Qo63.out, HB63.out⟩
           clear Hl63 Hs63 Hk63 Qu63 Qv63 Qk63 Qo63 Qi63 HB63 HZ63 HYP hone hup
           go_upto_region 32 with fail
           go_wp2_with fail
           go_roundw
           case rel => exact ⟨u + 1, by have := HLU.out; omega, by go_num, HNX⟩
           case measure => have := HLU.out; simp [intOf]; omega
         ·skip
          as_aux_lemma =>
           have hpk2 : packs 0 1 (xs.map MsgX.m, ((hb0 : Nat) : Int)) ha = PK := HPK.out
           obtain ⟨hku0, hyn0, hymm0⟩ := packs_many (me := 0) (tq := 1) (q := (xs.map MsgX.m, ((hb0 : Nat) : Int))) (k := ha) (u := u) (by show ¬ (xs.map MsgX.m).length ≤ ha; rw [List.length_map]; have := HLL.out.1; omega) (by rw [hpk2]; exact hup)
           simp only [hpk2] at hyn0 hymm0
           rw [← HYP.out] at hyn0 hymm0
           have hyn : yn = ((ha + u : Nat) : Int) + 1 := hyn0
           obtain ⟨e, he, hku, hymm⟩ : ∃ e, ∃ _ : ha + u = e, ∃ hk : e < (xs.map MsgX.m).length, ym = (xs.map MsgX.m)[e]'hk := ⟨_, rfl, hku0, hymm0⟩
           clear hyn0 hymm0
           rw [he] at hyn
           rw [List.length_map] at hku
           rw [List.getElem_map] at hymm
           subst hyn
           have HE : Hid (ha + u = e ∧ e < la) := Lib.hid ⟨he, by have := HLL.out.1; omega⟩
           have HHE : Hid (((hhU la ha u : Nat) : Int) = (e : Int)) := Lib.hid (by unfold hhU; rw [if_neg hone, he])
           obtain ⟨⟨xm, xpl, xcl, xpn, xcn⟩, hX⟩ : ∃ X, xs[e] = X := ⟨_, rfl⟩
           have hxi := (HXF.out _ (List.getElem_mem hku)).1
           rw [hX] at hxi hymm
           have HXI := Lib.hid hxi
           obtain ⟨ab, ao, hap, hal, hac⟩ := HXS.out.at_ e hku
           rw [hX] at hac
           have hxm : xm = ym := hymm.symm
           subst hxm
           have HAC : Hid (∀ q9, q9 < 11 → ∀ W2, Below w.heap.size w W2 → W2.cell? ⟨ab, ao + e * 11 + q9, none⟩ = (MsgX.cells ⟨xm, xpl, xcl, xpn, xcn⟩)[q9]?) := Lib.hid (fun q9 h9 W2 hb2 => (hb2.cell (p := ⟨ab, _, none⟩) hal).trans (hac q9 h9))
           have HPA := Lib.hid hap
           clear hX hku hac hal hap he hymm hxi hpk2
           have c0 : wr.cell? ⟨kb, ko + u * 15, none⟩ = some (.int .i64 yf) := hkc 0 (by decide)
           have c1 : wr.cell? ⟨kb, ko + u * 15 + 1, none⟩ = some (.int .i64 yt) := hkc 1 (by decide)
           have c2 : wr.cell? ⟨kb, ko + u * 15 + 2, none⟩ = some (.int .i64 ((e : Int) + 1)) := hkc 2 (by decide)
           have c3 : wr.cell? ⟨kb, ko + u * 15 + 3, none⟩ = some (.int .i64 yh) := hkc 3 (by decide)
           have c4 : wr.cell? ⟨kb, ko + u * 15 + 4, none⟩ = some (.int .i64 xm.k) := hkc 4 (by decide)
           have c5 : wr.cell? ⟨kb, ko + u * 15 + 5, none⟩ = some (.int .i64 xm.s) := hkc 5 (by decide)
           have c6 : wr.cell? ⟨kb, ko + u * 15 + 6, none⟩ = some (.int .i64 xm.n) := hkc 6 (by decide)
           have c7 : wr.cell? ⟨kb, ko + u * 15 + 7, none⟩ = some (.int .i64 xm.b) := hkc 7 (by decide)
           have c8 : wr.cell? ⟨kb, ko + u * 15 + 8, none⟩ = some (.int .i64 xm.c) := hkc 8 (by decide)
           have c9 : wr.cell? ⟨kb, ko + u * 15 + 9, none⟩ = some (.int .i64 xm.r) := hkc 9 (by decide)
           have c10 : wr.cell? ⟨kb, ko + u * 15 + 10, none⟩ = some (.int .i64 xm.y) := hkc 10 (by decide)
           have c11 : wr.cell? ⟨kb, ko + u * 15 + 11, none⟩ = some (.int .i64 xm.a) := hkc 11 (by decide)
           have c12 : wr.cell? ⟨kb, ko + u * 15 + 12, none⟩ = some (.bool xm.t) := hkc 12 (by decide)
           have c13 : wr.cell? ⟨kb, ko + u * 15 + 13, none⟩ = some (.slice ypl xm.ls.length ycl) := hkc 13 (by decide)
           have c14 : wr.cell? ⟨kb, ko + u * 15 + 14, none⟩ = some (.slice ypn xm.ns.length ycn) := hkc 14 (by decide)
           clear hkc
           have HGK : Hid (gl < wr.heap.size ∧ gs < wr.heap.size) := Lib.hid ⟨Hl60.out.lt, Hs60.out.lt⟩
           have Qi60 : Hid (InN (NotIn [gl]) ⟨xm, ypl, ycl, ypn, ycn⟩ wr) := Lib.hid HYI.out
           clear HYI
           have hba := oneB wr (.cells #[.int .i64 yf, .int .i64 yt, .int .i64 ((e : Int) + 1), .int .i64 yh, .int .i64 xm.k, .int .i64 xm.s, .int .i64 xm.n, .int .i64 xm.b, .int .i64 xm.c, .int .i64 xm.r, .int .i64 xm.y, .int .i64 xm.a, .bool xm.t, .slice ypl xm.ls.length ycl, .slice ypn xm.ns.length ycn] 45)
           have Hl61 := kbq Hl60 hba
           have Hs61 := kbq Hs60 hba
           have Qu61 := Lib.hid (Qu60.out.kept hba)
           have Qv61 := Lib.hid (Qv60.out.kept hba)
           have Qk61 := Lib.hid (Qk60.out.kept hba)
           have Qo61 := Lib.hid (Qo60.out.kept hba)
           have Qi61 := Lib.hid (Qi60.out.kept hba)
           have Hk61 := Lib.hid (Blk.new wr #[.int .i64 yf, .int .i64 yt, .int .i64 ((e : Int) + 1), .int .i64 yh, .int .i64 xm.k, .int .i64 xm.s, .int .i64 xm.n, .int .i64 xm.b, .int .i64 xm.c, .int .i64 xm.r, .int .i64 xm.y, .int .i64 xm.a, .bool xm.t, .slice ypl xm.ls.length ycl, .slice ypn xm.ns.length ycn] 45)
           have HB61 := Lib.hid (HB60.out.alloc HB60.out.size (.cells #[.int .i64 yf, .int .i64 yt, .int .i64 ((e : Int) + 1), .int .i64 yh, .int .i64 xm.k, .int .i64 xm.s, .int .i64 xm.n, .int .i64 xm.b, .int .i64 xm.c, .int .i64 xm.r, .int .i64 xm.y, .int .i64 xm.a, .bool xm.t, .slice ypl xm.ls.length ycl, .slice ypn xm.ns.length ycn] 45))
           have HZ61 := kzq HZ60 hba.size
           have HGgk : Hid (w.heap.size ≤ wr.heap.size) := Lib.hid HB60.out.size
           clear hba Hl60 Hs60 Qu60 Qv60 Qk60 Qo60 Qi60 HB60 HZ60
           go_upto_region 27 with fail
           clear hluI c0 c1 c2 c3 c4 c5 c6 c7 c8 c9 c10 c11 c12 c13 c14
           generalize (wr.alloc (.cells #[.int .i64 yf, .int .i64 yt, .int .i64 ((e : Int) + 1), .int .i64 yh, .int .i64 xm.k, .int .i64 xm.s, .int .i64 xm.n, .int .i64 xm.b, .int .i64 xm.c, .int .i64 xm.r, .int .i64 xm.y, .int .i64 xm.a, .bool xm.t, .slice ypl xm.ls.length ycl, .slice ypn xm.ns.length ycn] 45)) = W9 at *
           generalize hggk : wr.heap.size = gk at *
           clear hggk
           have hbd := (Below.refl W9.heap.size W9).drew
           have Hl62 := kbq Hl61 hbd
           have Hs62 := kbq Hs61 hbd
           have Hk62 := kbq Hk61 hbd
           have Qu62 := Lib.hid (Qu61.out.kept hbd)
           have Qv62 := Lib.hid (Qv61.out.kept hbd)
           have Qk62 := Lib.hid (Qk61.out.kept hbd)
           have Qo62 := Lib.hid (Qo61.out.kept hbd)
           have Qi62 := Lib.hid (Qi61.out.kept hbd)
           have HB62 := ktq HB61 hbd
           have HZ62 := kzq HZ61 hbd.size
           clear Hl61 Hs61 Hk61 Qu61 Qv61 Qk61 Qo61 Qi61 HB61 HZ61
           refine wp_region_held_drew (S := fun w' => w'.cell? ⟨gl, 0, none⟩ = some (.int .i64 0) ∧ w'.cell? ⟨gl, 1, none⟩ = some (.slice p0 2 c0) ∧ w'.cell? ⟨gl, 2, none⟩ = some (.int .i64 1) ∧ w'.cell? ⟨gl, 3, none⟩ = some (.slice pR 2 cR) ∧ w'.cell? ⟨gk, 2, none⟩ = some (.int .i64 ((e : Int) + 1))) (by kernel_rfl) ⟨Hl62.out.cell 0, Hl62.out.cell 1, Hl62.out.cell 2, Hl62.out.cell 3, Hk62.out.cell 2⟩ (fun hS0 => ?_)
           generalize W9.drew = WA at *
           clear hbd
           refine tkq 0 ?_
           refine tkq 1 ?_
           refine tkq 2 ?_
           refine tkq 3 ?_
           refine tkq 4 ?_
           refine tkq 5 ?_
           refine tkq 6 ?_
           refine rdq 7 (fun K hK => ?_)
           have HG := Lib.hid (next_any (NotIn [gl]) 1 0 ((e : Int) + 1) pR 2 cR (qn1 (ys.map MsgX.m) ((hhU la ha u : Nat) : Int)) WA rfl Qv62.out (by have := HE.out.2; have := HSM.out.1; omega))
           rw [show okP 1 (qn1 (ys.map MsgX.m) ((hhU la ha u : Nat) : Int)).length 0 = true from rfl, next_yes (e := e) (show (peAt 1 (qn1 (ys.map MsgX.m) ((hhU la ha u : Nat) : Int)) 0).2 = (e : Int) from HHE.out)] at HG
           obtain ⟨ob2, hob⟩ : ∃ z, oldB (peAt 1 (qn1 (ys.map MsgX.m) ((hhU la ha u : Nat) : Int)) 0) (true) ((e : Int) + 1) = z := ⟨_, rfl⟩
           rw [hob] at HG
           clear hob
           go_simp
           go_at_call 8
           refine HG.out.mono ?_
           rintro y9 wB ⟨rfl, hb⟩
           clear HG
           have Hl63 := kbq Hl62 hb
           have Hs63 := kbq Hs62 hb
           have Hk63 := kbq Hk62 hb
           have Qu63 := Lib.hid (Qu62.out.kept hb)
           have Qv63 := Lib.hid (Qv62.out.kept hb)
           have Qk63 := Lib.hid (Qk62.out.kept hb)
           have Qo63 := Lib.hid (Qo62.out.kept hb)
           have Qi63 := Lib.hid (Qi62.out.kept hb)
           have HB63 := ktq HB62 hb
           have HZ63 := kzq HZ62 hb.size
           clear Hl62 Hs62 Hk62 Qu62 Qv62 Qk62 Qo62 Qi62 HB62 HZ62
           clear hb hS0
           try go_wp2_with fail
           refine hK.out _ _ ⟨Hl63.out.cell 0, Hl63.out.cell 1, Hl63.out.cell 2, Hl63.out.cell 3, Hk63.out.cell 2⟩ (fun hS0 => ?_)
           clear hK K
           try simp only [Act.put, List.getElem_toArray, List.getElem_cons_succ, List.getElem_cons_zero, List.setIfInBounds_toArray, List.set_cons_zero, List.set_cons_succ]
           refine tkq 8 ?_
           refine tkq 9 ?_
           refine tkq 10 ?_
           refine tkq 11 ?_
           refine tkq 12 ?_
           refine wpAnyH_done (by kernel_rfl) ?_ _
           clear hS0
           go_upto_region 29 with fail
           have HG := Lib.hid (hear_ok (NotIn [gl]) 1 0 pR 2 cR (qn1 (ys.map MsgX.m) ((hhU la ha u : Nat) : Int)) wB rfl Qv63.out rfl (by show 0 < 2; decide) (by show 2 ≤ 1000; decide) (by show -1000000000000 ≤ ((hhU la ha u : Nat) : Int) ∧ ((hhU la ha u : Nat) : Int) ≤ 1000000000000; rw [HHE.out]; have := HE.out.2; have := HSM.out.1; omega) (fun b hb hm => by have h0 := Hl63.out.lt; simp only [List.mem_cons, List.not_mem_nil, or_false] at hm; omega))
           have a2 : wB.cell? ⟨gl, 2, none⟩ = some (.int .i64 1) := Hl63.out.cell 2
           have a3 : wB.cell? ⟨gl, 3, none⟩ = some (.slice pR 2 cR) := Hl63.out.cell 3
           go_wp2_with fail
           clear a2 a3
           refine HG.out.mono ?_
           rintro y9 wC ⟨_, rfl, ⟨p9, c9, rfl, hp9⟩, hb⟩
           clear HG
           have HP9 : Hid (PeRow (NotIn [gl]) wC (.slice p9 2 c9) (qn1 (ys.map MsgX.m) ((hhU la ha (u + 1) : Nat) : Int))) := Lib.hid (by
            rw [show ((hhU la ha (u + 1) : Nat) : Int) = ((hhU la ha u : Nat) : Int) + 1 from by unfold hhU; rw [if_neg hone, if_neg hone]; omega]
            exact hp9)
           dsimp only [List.length_set, qn0, qn1, List.length_cons, List.length_nil, Nat.zero_add, Nat.reduceAdd]
           clear hp9
           have Hl64 := kbq Hl63 hb
           have Hs64 := kbq Hs63 hb
           have Hk64 := kbq Hk63 hb
           have Qu64 := Lib.hid (Qu63.out.kept hb)
           have Qv64 := Lib.hid (Qv63.out.kept hb)
           have Qk64 := Lib.hid (Qk63.out.kept hb)
           have Qo64 := Lib.hid (Qo63.out.kept hb)
           have Qi64 := Lib.hid (Qi63.out.kept hb)
           have HB64 := ktq HB63 hb
           have HZ64 := kzq HZ63 hb.size
           clear Hl63 Hs63 Hk63 Qu63 Qv63 Qk63 Qo63 Qi63 HB63 HZ63
           clear hb
           clear Qv64
           have Qv64 := HP9
           clear HP9
           have z2 : wC.cell? ⟨gl, 2, none⟩ = some (.int .i64 1) := Hl64.out.cell 2
           have f2 := Hl64.out.free 2
           have z3 : wC.cell? ⟨gl, 3, none⟩ = some (.slice pR 2 cR) := Hl64.out.cell 3
           have f3 := Hl64.out.free 3
           go_upto_region 30 with fail
           clear z2 z3 f2 f3
           have hch := Lib.hid (((Chg.refl gl wC).set 2 (.int .i64 1)).set 3 (.slice p9 2 c9))
           have Hl65 : Hid (Blk _ gl #[.int .i64 0, .slice p0 2 c0, .int .i64 1, .slice p9 2 c9] 28) := Lib.hid ((Hl64.out.set 2 (.int .i64 1)).set 3 (.slice p9 2 c9))
           have HB65 : Hid (Below w.heap.size w ((wC.setCell ⟨gl, 2, none⟩ (.int .i64 1)).setCell ⟨gl, 3, none⟩ (.slice p9 2 c9))) := Lib.hid (HB64.out.trans (hch.out.below HGgl.out HB64.out.size))
           have HZ65 := kzq HZ64 hch.out.size
           have Hs65 := kcq Hs64 hch (by have := HGgl.out; have := HGS.out; have := HGK.out; omega)
           have Hk65 := kcq Hk64 hch (by have := HGgl.out; have := HGS.out; have := HGK.out; omega)
           have Qu65 := Lib.hid (Qu64.out.chg hch.out (notIn_self (by simp)))
           have Qv65 := Lib.hid (Qv64.out.chg hch.out (notIn_self (by simp)))
           have Qk65 := Lib.hid (Qk64.out.chg hch.out (notIn_self (by simp)))
           have Qo65 := Lib.hid (Qo64.out.chg hch.out (notIn_self (by simp)))
           have Qi65 := Lib.hid (Qi64.out.chg hch.out (notIn_self (by simp)))
           clear hch Hl64 Hs64 Hk64 Qu64 Qv64 Qk64 Qo64 Qi64 HB64 HZ64
           generalize ((wC.setCell ⟨gl, 2, none⟩ (.int .i64 1)).setCell ⟨gl, 3, none⟩ (.slice p9 2 c9)) = WE at *
           have he : e < la := HE.out.2
           have heI : (e : Int) < (la : Int) := by omega
           have hwe : IntKind.i64.wrap (e : Int) = (e : Int) := IntWalk.i64_in _ (by have := HSM.out.1; omega)
           have hbd := (Below.refl WE.heap.size WE).drew
           have Hl66 := kbq Hl65 hbd
           have Hs66 := kbq Hs65 hbd
           have Hk66 := kbq Hk65 hbd
           have Qu66 := Lib.hid (Qu65.out.kept hbd)
           have Qv66 := Lib.hid (Qv65.out.kept hbd)
           have Qk66 := Lib.hid (Qk65.out.kept hbd)
           have Qo66 := Lib.hid (Qo65.out.kept hbd)
           have Qi66 := Lib.hid (Qi65.out.kept hbd)
           have HB66 := ktq HB65 hbd
           have HZ66 := kzq HZ65 hbd.size
           clear Hl65 Hs65 Hk65 Qu65 Qv65 Qk65 Qo65 Qi65 HB65 HZ65
           refine wp_region_held_drew (S := fun w' => w'.cell? ⟨gk, 2, none⟩ = some (.int .i64 ((e : Int) + 1)) ∧ w'.cell? ⟨gk, 4, none⟩ = some (.int .i64 xm.k) ∧ w'.cell? ⟨gk, 5, none⟩ = some (.int .i64 xm.s) ∧ w'.cell? ⟨gk, 6, none⟩ = some (.int .i64 xm.n) ∧ w'.cell? ⟨gk, 7, none⟩ = some (.int .i64 xm.b) ∧ w'.cell? ⟨gk, 8, none⟩ = some (.int .i64 xm.c) ∧ w'.cell? ⟨gk, 9, none⟩ = some (.int .i64 xm.r) ∧ w'.cell? ⟨gk, 10, none⟩ = some (.int .i64 xm.y) ∧ w'.cell? ⟨gk, 11, none⟩ = some (.int .i64 xm.a) ∧ w'.cell? ⟨gk, 12, none⟩ = some (.bool xm.t) ∧ w'.cell? ⟨gk, 13, none⟩ = some (.slice ypl xm.ls.length ycl) ∧ w'.cell? ⟨gk, 14, none⟩ = some (.slice ypn xm.ns.length ycn) ∧ w'.cell? ⟨gs, 0, none⟩ = some (.slice (some ⟨ab, ao, none⟩) la ca) ∧ w'.cell? ⟨ab, ao + e * 11, none⟩ = some (.int .i64 xm.k) ∧ w'.cell? ⟨ab, ao + e * 11 + 1, none⟩ = some (.int .i64 xm.s) ∧ w'.cell? ⟨ab, ao + e * 11 + 2, none⟩ = some (.int .i64 xm.n) ∧ w'.cell? ⟨ab, ao + e * 11 + 3, none⟩ = some (.int .i64 xm.b) ∧ w'.cell? ⟨ab, ao + e * 11 + 4, none⟩ = some (.int .i64 xm.c) ∧ w'.cell? ⟨ab, ao + e * 11 + 5, none⟩ = some (.int .i64 xm.r) ∧ w'.cell? ⟨ab, ao + e * 11 + 6, none⟩ = some (.int .i64 xm.y) ∧ w'.cell? ⟨ab, ao + e * 11 + 7, none⟩ = some (.int .i64 xm.a) ∧ w'.cell? ⟨ab, ao + e * 11 + 8, none⟩ = some (.bool xm.t) ∧ w'.cell? ⟨ab, ao + e * 11 + 9, none⟩ = some (.slice xpl xm.ls.length xcl) ∧ w'.cell? ⟨ab, ao + e * 11 + 10, none⟩ = some (.slice xpn xm.ns.length xcn)) (by kernel_rfl) ⟨Hk66.out.cell 2, Hk66.out.cell 4, Hk66.out.cell 5, Hk66.out.cell 6, Hk66.out.cell 7, Hk66.out.cell 8, Hk66.out.cell 9, Hk66.out.cell 10, Hk66.out.cell 11, Hk66.out.cell 12, Hk66.out.cell 13, Hk66.out.cell 14, (by rw [← HPA.out]; exact Hs66.out.cell 0), (HAC.out 0 (by decide) _ HB66.out), (HAC.out 1 (by decide) _ HB66.out), (HAC.out 2 (by decide) _ HB66.out), (HAC.out 3 (by decide) _ HB66.out), (HAC.out 4 (by decide) _ HB66.out), (HAC.out 5 (by decide) _ HB66.out), (HAC.out 6 (by decide) _ HB66.out), (HAC.out 7 (by decide) _ HB66.out), (HAC.out 8 (by decide) _ HB66.out), (HAC.out 9 (by decide) _ HB66.out), (HAC.out 10 (by decide) _ HB66.out)⟩ (fun hS0 => ?_)
           generalize WE.drew = WF at *
           clear hbd
           refine tkq 0 ?_
           refine tkq 1 ?_
           refine tkq 2 ?_
           refine tkq 3 ?_
           refine tkq 4 ?_
           refine tkq 5 ?_
           refine tkq 6 ?_
           refine tkq 7 ?_
           refine tkq 8 ?_
           refine tkq 9 ?_
           refine rdq 10 (fun K hK => ?_)
           have hip : MsgX.InP (NotIn [gl]) WF ⟨xm, ypl, ycl, ypn, ycn⟩ := Qi66.out
           have kk1 : TRow encN WF (.slice ypl xm.ls.length ycl) xm.ls := hip.ls
           have kk2 : Row .i64 WF (.slice ypn xm.ns.length ycn) xm.ns := hip.ns
           have kk3 : TRow encN w (.slice xpl xm.ls.length xcl) xm.ls := HXI.out.ls
           have kk4 : Row .i64 w (.slice xpn xm.ns.length xcn) xm.ns := HXI.out.ns
           have kk5 : xm.Sz := hip.sz
           have kk6 : xm.ls.length ≤ 9000000000000000000 := by have := kk5.1; omega
           have kk7 : xm.ns.length ≤ 9000000000000000000 := by have := kk5.2; omega
           have HG := Lib.hid (msame_any xm (.slice ypl xm.ls.length ycl) (.slice ypn xm.ns.length ycn) (.slice xpl xm.ls.length xcl) (.slice xpn xm.ns.length xcn) WF kk1 kk2 (kk3.kept HB66.out) (kk4.kept HB66.out) kk6 kk7)
           clear kk1 kk2 kk3 kk4 kk5 kk6 kk7 hip
           unfold Msg.v at HG
           go_simp
           go_at_call 10
           refine HG.out.mono ?_
           rintro y9 wG ⟨rfl, hb⟩
           clear HG
           have Hl67 := kbq Hl66 hb
           have Hs67 := kbq Hs66 hb
           have Hk67 := kbq Hk66 hb
           have Qu67 := Lib.hid (Qu66.out.kept hb)
           have Qv67 := Lib.hid (Qv66.out.kept hb)
           have Qk67 := Lib.hid (Qk66.out.kept hb)
           have Qo67 := Lib.hid (Qo66.out.kept hb)
           have Qi67 := Lib.hid (Qi66.out.kept hb)
           have HB67 := ktq HB66 hb
           have HZ67 := kzq HZ66 hb.size
           clear Hl66 Hs66 Hk66 Qu66 Qv66 Qk66 Qo66 Qi66 HB66 HZ66
           clear hb hS0
           try go_wp2_with fail
           refine hK.out _ _ ⟨Hk67.out.cell 2, Hk67.out.cell 4, Hk67.out.cell 5, Hk67.out.cell 6, Hk67.out.cell 7, Hk67.out.cell 8, Hk67.out.cell 9, Hk67.out.cell 10, Hk67.out.cell 11, Hk67.out.cell 12, Hk67.out.cell 13, Hk67.out.cell 14, (by rw [← HPA.out]; exact Hs67.out.cell 0), (HAC.out 0 (by decide) _ HB67.out), (HAC.out 1 (by decide) _ HB67.out), (HAC.out 2 (by decide) _ HB67.out), (HAC.out 3 (by decide) _ HB67.out), (HAC.out 4 (by decide) _ HB67.out), (HAC.out 5 (by decide) _ HB67.out), (HAC.out 6 (by decide) _ HB67.out), (HAC.out 7 (by decide) _ HB67.out), (HAC.out 8 (by decide) _ HB67.out), (HAC.out 9 (by decide) _ HB67.out), (HAC.out 10 (by decide) _ HB67.out)⟩ (fun hS0 => ?_)
           clear hK K
           try simp only [Act.put, List.getElem_toArray, List.getElem_cons_succ, List.getElem_cons_zero, List.setIfInBounds_toArray, List.set_cons_zero, List.set_cons_succ]
           refine tkq 11 ?_
           refine wpAnyH_done (by kernel_rfl) ?_ _
           clear hS0
           have HNX : Hid (∃ (pR : Option Addr) (cR : Nat), Blk wG gl #[.int .i64 0, .slice p0 2 c0, .int .i64 1, .slice pR 2 cR] 28 ∧ Blk wG gs #[.slice pa la ca, .slice pb lb cb] 32 ∧ PeRow (NotIn [gl]) wG (.slice p0 2 c0) (qn0 (xs.map MsgX.m) hb0) ∧ PeRow (NotIn [gl]) wG (.slice pR 2 cR) (qn1 (ys.map MsgX.m) ((hhU la ha (u + 1) : Nat) : Int)) ∧ PkRow (NotIn [gl]) wG (.slice (some ⟨kb, ko, none⟩) np c8) PK ∧ RwN encB1 (NotIn [gl]) wG (.slice (some ⟨ob, oo, none⟩) (lo + 1) c7) (bs ++ [false]) ∧ Below w.heap.size w wG) := Lib.hid ⟨p9, c9, Hl67.out, Hs67.out, Qu67.out, Qv67.out, Qk67.out, Qo67.out, HB67.out⟩
           clear Hl67 Hs67 Hk67 Qu67 Qv67 Qk67 Qo67 Qi67 HB67 HZ67 HYP hone he heI hwe HAC HPA HXI HHE hup
           go_upto_region 32 with fail
           go_wp2_with fail
           go_roundw
           case rel => exact ⟨u + 1, by have := HLU.out; omega, by go_num, HNX⟩
           case measure => have := HLU.out; simp [intOf]; omega
        ·skip
         as_aux_lemma =>
          have hluI : ¬ (u : Int) < (np : Int) := by omega
          have HEND : Hid (((hhU la ha u : Nat) : Int) = (la : Int)) := Lib.hid (by
           have h1 := HNPL.out
           have h2 := HHA.out
           unfold hhU
           by_cases hc : la ≤ ha
           ·rw [if_pos hc]; omega
           ·rw [if_neg hc] at h1 ⊢; omega)
          clear hu hlu hu9
          have Qe60 : Hid (PeRow (NotIn [gl]) wr (.slice pR 2 cR) (qn1 (ys.map MsgX.m) (la : Int))) := Lib.hid (by have h := Qv60.out; rw [HEND.out] at h; exact h)
          clear Qv60
          obtain ⟨rb2, ro2, hrp, hrl, hrc⟩ := Qe60.out.heard 0 (by show 0 < 2; decide)
          have hrc : wr.cell? ⟨rb2, ro2 + 1, none⟩ = some (.int .i64 (la : Int)) := hrc
          have HRC : Hid (wr.drew.cell? ⟨rb2, ro2 + 1, none⟩ = some (.int .i64 (la : Int))) := Lib.hid hrc
          subst hrp
          clear hrl hrc
          go_upto_region 33 with fail
          clear hluI
          have hnn : ((la : Int) != (la : Int)) = false := by simp
          have hbd := (Below.refl wr.heap.size wr).drew
          have Hl61 := kbq Hl60 hbd
          have Hs61 := kbq Hs60 hbd
          have Qu61 := Lib.hid (Qu60.out.kept hbd)
          have Qk61 := Lib.hid (Qk60.out.kept hbd)
          have Qo61 := Lib.hid (Qo60.out.kept hbd)
          have Qe61 := Lib.hid (Qe60.out.kept hbd)
          have HB61 := ktq HB60 hbd
          have HZ61 := kzq HZ60 hbd.size
          clear Hl60 Hs60 Qu60 Qk60 Qo60 Qe60 HB60 HZ60
          refine wp_region_held_drew (S := fun w' => w'.cell? ⟨gl, 0, none⟩ = some (.int .i64 0) ∧ w'.cell? ⟨gl, 1, none⟩ = some (.slice p0 2 c0) ∧ w'.cell? ⟨gl, 2, none⟩ = some (.int .i64 1) ∧ w'.cell? ⟨gl, 3, none⟩ = some (.slice (some ⟨rb2, ro2, none⟩) 2 cR) ∧ w'.cell? ⟨rb2, ro2 + 1, none⟩ = some (.int .i64 (la : Int)) ∧ w'.cell? ⟨gs, 0, none⟩ = some (.slice pa la ca)) (by kernel_rfl) ⟨Hl61.out.cell 0, Hl61.out.cell 1, Hl61.out.cell 2, Hl61.out.cell 3, HRC.out, Hs61.out.cell 0⟩ (fun hS0 => ?_)
          generalize wr.drew = WH at *
          clear hbd
          refine tkq 0 ?_
          refine tkq 1 ?_
          refine tkq 2 ?_
          refine tkq 3 ?_
          refine tkq 4 ?_
          refine tkq 5 ?_
          refine tkq 6 ?_
          refine tkq 7 ?_
          refine tkq 8 ?_
          refine tkq 9 ?_
          refine tkq 10 ?_
          refine tkq 11 ?_
          refine tkq 12 ?_
          refine tkq 13 ?_
          refine wpAnyH_done (by kernel_rfl) ?_ _
          clear hS0
          have HNX : Hid (∃ (ha hb : Nat), ha ≤ la ∧ hb ≤ lb ∧ RwN encB1 (NotIn [gl]) WH (.slice (some ⟨ob, oo, none⟩) (lo + 1) c7) (bs ++ [false]) ∧ ∃ (p0 : Option Addr) (c0 : Nat) (p1 : Option Addr) (c1 : Nat), Blk WH gl #[.int .i64 0, .slice p0 2 c0, .int .i64 1, .slice p1 2 c1] 28 ∧ Blk WH gs #[.slice pa la ca, .slice pb lb cb] 32 ∧ PeRow (NotIn [gl]) WH (.slice p0 2 c0) (qn0 (xs.map MsgX.m) hb) ∧ PeRow (NotIn [gl]) WH (.slice p1 2 c1) (qn1 (ys.map MsgX.m) ha) ∧ Below w.heap.size w WH) := Lib.hid ⟨la, hb0, Nat.le_refl _, HHB.out, Qo61.out, p0, c0, some ⟨rb2, ro2, none⟩, cR, Hl61.out, Hs61.out, Qu61.out, Qe61.out, HB61.out⟩
          clear Hl61 Hs61 Qu61 Qk61 Qo61 Qe61 HB61 HZ61 hnn HRC
          go_upto_region 35 with fail
          go_wp2_with fail
          go_roundw
          case rel => exact ⟨t + 1, by have := HLT3.out; omega, by go_num, HNX⟩
          case measure => have := HLT3.out; simp [intOf]; omega
     ·skip
      go_upto_region 24 with fail
      clear hoc2
      as_aux_lemma =>
       obtain ⟨rb, ro, hrp, hrl, hrc⟩ := Qu50.out.heard 1 (by show 1 < 2; decide)
       have hrc : wr.cell? ⟨rb, ro + 3, none⟩ = some (.int .i64 (hb0 : Nat)) := hrc
       have HRC : Hid (∀ W2, Below wr.heap.size wr W2 → W2.cell? ⟨rb, ro + 3, none⟩ = some (.int .i64 (hb0 : Nat))) := Lib.hid (fun W2 h => (h.cell (p := ⟨rb, _, none⟩) hrl).trans hrc)
       have HRB : Hid (Below wr.heap.size wr wr.drew) := Lib.hid (Below.refl _ _).drew
       subst hrp
       clear hrl hrc
       clear hltI
       have hw9 : IntKind.i64.wrap 0 = 0 := rfl
       have hbd := (Below.refl wr.heap.size wr).drew
       have Hl51 := kbq Hl50 hbd
       have Hs51 := kbq Hs50 hbd
       have Qu51 := Lib.hid (Qu50.out.kept hbd)
       have Qv51 := Lib.hid (Qv50.out.kept hbd)
       have Qo51 := Lib.hid (Qo50.out.kept hbd)
       have HB51 := ktq HB50 hbd
       have HZ51 := kzq HZ50 hbd.size
       clear Hl50 Hs50 Qu50 Qv50 Qo50 HB50 HZ50
       refine wp_region_held_drew (S := fun w' => w'.cell? ⟨gl, 0, none⟩ = some (.int .i64 0) ∧ w'.cell? ⟨gl, 1, none⟩ = some (.slice (some ⟨rb, ro, none⟩) 2 c0) ∧ w'.cell? ⟨gl, 2, none⟩ = some (.int .i64 1) ∧ w'.cell? ⟨gl, 3, none⟩ = some (.slice p1 2 c1) ∧ w'.cell? ⟨rb, ro + 3, none⟩ = some (.int .i64 (hb0 : Nat))) (by kernel_rfl) ⟨Hl51.out.cell 0, Hl51.out.cell 1, Hl51.out.cell 2, Hl51.out.cell 3, (HRC.out _ HRB.out)⟩ (fun hS0 => ?_)
       generalize wr.drew = WD at *
       clear hbd
       refine tkq 0 ?_
       refine tkq 1 ?_
       refine tkq 2 ?_
       refine tkq 3 ?_
       refine tkq 4 ?_
       refine tkq 5 ?_
       refine tkq 6 ?_
       refine tkq 7 ?_
       refine tkq 8 ?_
       refine tkq 9 ?_
       refine tkq 10 ?_
       refine tkq 11 ?_
       refine tkq 12 ?_
       refine tkq 13 ?_
       refine tkq 16 ?_
       refine rdq 14 (fun K hK => ?_)
       have HG := Lib.hid (packs_any (NotIn [gl]) 1 0 hb0 p1 2 c1 (qn1 (ys.map MsgX.m) ha) WD rfl Qv51.out rfl (by show 0 < 2; decide) (by show (ys.map MsgX.m).length ≤ 1000; rw [List.length_map]; have := HLL.out.2.1; have := HSM.out.2.1; omega) (fun b hb hm => by have h0 := Hl51.out.lt; simp only [List.mem_cons, List.not_mem_nil, or_false] at hm; omega))
       go_simp
       go_at_call 7
       refine HG.out.mono ?_
       rintro y9 w8 ⟨v8, rfl, hk8, hb⟩
       clear HG
       have hk8 : PkRow (NotIn [gl]) w8 v8 (packs 1 0 (ys.map MsgX.m, ((ha : Nat) : Int)) hb0) := hk8
       obtain ⟨PK, hPK⟩ : ∃ l, packs 1 0 (ys.map MsgX.m, ((ha : Nat) : Int)) hb0 = l := ⟨_, rfl⟩
       rw [hPK] at hk8
       have HPK := Lib.hid hPK
       obtain ⟨np, hnp⟩ : ∃ z, PK.length = z := ⟨_, rfl⟩
       obtain ⟨p8, c8, hv8⟩ := hk8.shape
       rw [hnp] at hv8
       subst hv8
       have HNP : Hid (PK.length = np) := Lib.hid hnp
       have HK8 := Lib.hid hk8
       have HRB := ktq HRB hb
       clear hPK hnp hk8
       have Hl52 := kbq Hl51 hb
       have Hs52 := kbq Hs51 hb
       have Qu52 := Lib.hid (Qu51.out.kept hb)
       have Qv52 := Lib.hid (Qv51.out.kept hb)
       have Qo52 := Lib.hid (Qo51.out.kept hb)
       have HB52 := ktq HB51 hb
       have HZ52 := kzq HZ51 hb.size
       clear Hl51 Hs51 Qu51 Qv51 Qo51 HB51 HZ51
       clear hb hS0
       have Qk52 := HK8
       clear HK8
       try go_wp2_with fail
       refine hK.out _ _ ⟨Hl52.out.cell 0, Hl52.out.cell 1, Hl52.out.cell 2, Hl52.out.cell 3, (HRC.out _ HRB.out)⟩ (fun hS0 => ?_)
       clear hK K
       try simp only [Act.put, List.getElem_toArray, List.getElem_cons_succ, List.getElem_cons_zero, List.setIfInBounds_toArray, List.set_cons_zero, List.set_cons_succ]
       refine tkq 15 ?_
       refine wpAnyH_done (by kernel_rfl) ?_ _
       clear hS0
       have HNPL : Hid (np = if lb ≤ hb0 then 1 else lb - hb0) := Lib.hid (by
        have h1 := packs_len 1 0 (ys.map MsgX.m, ((ha : Nat) : Int)) hb0
        rw [HPK.out, HNP.out] at h1
        have h2 : (ys.map MsgX.m).length = lb := by rw [List.length_map]; exact HLL.out.2.1
        rw [h2] at h1
        exact h1)
       have HNP9 : Hid (np ≤ 21) := Lib.hid (by have h1 := HNPL.out; have := HSM.out.2.1; split at h1 <;> omega)
       clear HRC HRB
       have HREL : Hid (∃ (pR : Option Addr) (cR : Nat), Blk w8 gl #[.int .i64 0, .slice pR 2 cR, .int .i64 1, .slice p1 2 c1] 28 ∧ Blk w8 gs #[.slice pa la ca, .slice pb lb cb] 32 ∧ PeRow (NotIn [gl]) w8 (.slice p1 2 c1) (qn1 (ys.map MsgX.m) ha) ∧ PeRow (NotIn [gl]) w8 (.slice pR 2 cR) (qn0 (xs.map MsgX.m) ((hhU lb hb0 0 : Nat) : Int)) ∧ PkRow (NotIn [gl]) w8 (.slice p8 np c8) PK ∧ RwN encB1 (NotIn [gl]) w8 (.slice (some ⟨ob, oo, none⟩) (lo + 1) c7) (bs ++ [false]) ∧ Below w.heap.size w w8) := Lib.hid ⟨(some ⟨rb, ro, none⟩), c0, Hl52.out, Hs52.out, Qv52.out, (by rw [hhU_0]; exact Qu52.out), Qk52.out, Qo52.out, HB52.out⟩
       clear Hl52 Hs52 Qu52 Qv52 Qo52 Qk52 HB52 HZ52
       go_wp2_with fail
       go_loopw [98] (fun i wr => ∃ u : Nat, u ≤ np ∧ i = .int .i64 u ∧ Hid (∃ (pR : Option Addr) (cR : Nat), Blk wr gl #[.int .i64 0, .slice pR 2 cR, .int .i64 1, .slice p1 2 c1] 28 ∧ Blk wr gs #[.slice pa la ca, .slice pb lb cb] 32 ∧ PeRow (NotIn [gl]) wr (.slice p1 2 c1) (qn1 (ys.map MsgX.m) ha) ∧ PeRow (NotIn [gl]) wr (.slice pR 2 cR) (qn0 (xs.map MsgX.m) ((hhU lb hb0 u : Nat) : Int)) ∧ PkRow (NotIn [gl]) wr (.slice p8 np c8) PK ∧ RwN encB1 (NotIn [gl]) wr (.slice (some ⟨ob, oo, none⟩) (lo + 1) c7) (bs ++ [false]) ∧ Below w.heap.size w wr)) (fun i _ => np - (intOf i).toNat)
       case atStart => exact ⟨0, by omega, rfl, HREL⟩
       case round =>
        clear HREL
        obtain ⟨u, hu, rfl, HU⟩ := hrel
        have hu9 : u + 1 ≤ 22 := by have := HNP9.out; omega
        obtain ⟨pR, cR, hk1, hk2, hk3, hk4, hk5, hk6, hk7⟩ := HU.out
        have Hl60 := Lib.hid hk1
        have Hs60 := Lib.hid hk2
        have Qv60 := Lib.hid hk3
        have Qu60 := Lib.hid hk4
        have Qk60 := Lib.hid hk5
        have Qo60 := Lib.hid hk6
        have HB60 := Lib.hid hk7
        have HZ60 : Hid (w.heap.size ≤ wr.heap.size) := Lib.hid hk7.size
        clear HU hk1 hk2 hk3 hk4 hk5 hk6 hk7
        by_cases hlu : u < np
        ·skip
         have hluI : (u : Int) < (np : Int) := by omega
         have HLU : Hid (u < np) := Lib.hid hlu
         obtain ⟨yk, hy1, hy2, hy3, hy4⟩ := Qk60.out
         have hkx : u < yk.length := by have h1 := congrArg List.length hy4; rw [List.length_map, HNP.out] at h1; omega
         obtain ⟨kb, ko, hkp, hkl, hkc⟩ := hy1.at_ u hkx
         obtain ⟨⟨yf, yt, yn, yh, ⟨ym, ypl, ycl, ypn, ycn⟩⟩, hY⟩ : ∃ Y, yk[u] = Y := ⟨_, rfl⟩
         rw [hY] at hkc
         have hyi := hy3 _ (List.getElem_mem hkx)
         rw [hY] at hyi
         have HYI : Hid ((⟨ym, ypl, ycl, ypn, ycn⟩ : MsgX).InP (NotIn [gl]) wr) := Lib.hid hyi
         have hup : u < PK.length := by rw [HNP.out]; exact hlu
         have HYP : Hid ((⟨yf, yt, yn, yh, ym⟩ : Pk) = PK[u]'hup) := Lib.hid (by
          have h1 : (yk.map PkX.pk)[u]'(by rw [List.length_map]; exact hkx) = PK[u]'hup := by simp only [hy4]
          rw [List.getElem_map, hY] at h1
          exact h1)
         subst hkp
         clear hy1 hy2 hy3 hy4 hkl hY hlu hu hkx hyi
         by_cases hone : lb ≤ hb0
         ·skip
          as_aux_lemma =>
           have hyn : yn = 0 := by
            have h1 := packs_one (me := 1) (tq := 0) (q := (ys.map MsgX.m, ((ha : Nat) : Int))) (k := hb0) (u := u) (by show (ys.map MsgX.m).length ≤ hb0; rw [List.length_map]; have := HLL.out.2.1; omega) (by have h2 := HPK.out; first | (rw [h2]; exact hup) | exact (by rw [show packs 1 0 (ys.map MsgX.m, ((ha : Nat) : Int)) hb0 = PK from h2]; exact hup))
            have h2 : packs 1 0 (ys.map MsgX.m, ((ha : Nat) : Int)) hb0 = PK := HPK.out
            simp only [h2] at h1
            rw [← HYP.out] at h1
            exact h1
           subst hyn
           have c0 : wr.cell? ⟨kb, ko + u * 15, none⟩ = some (.int .i64 yf) := hkc 0 (by decide)
           have c1 : wr.cell? ⟨kb, ko + u * 15 + 1, none⟩ = some (.int .i64 yt) := hkc 1 (by decide)
           have c2 : wr.cell? ⟨kb, ko + u * 15 + 2, none⟩ = some (.int .i64 0) := hkc 2 (by decide)
           have c3 : wr.cell? ⟨kb, ko + u * 15 + 3, none⟩ = some (.int .i64 yh) := hkc 3 (by decide)
           have c4 : wr.cell? ⟨kb, ko + u * 15 + 4, none⟩ = some (.int .i64 ym.k) := hkc 4 (by decide)
           have c5 : wr.cell? ⟨kb, ko + u * 15 + 5, none⟩ = some (.int .i64 ym.s) := hkc 5 (by decide)
           have c6 : wr.cell? ⟨kb, ko + u * 15 + 6, none⟩ = some (.int .i64 ym.n) := hkc 6 (by decide)
           have c7 : wr.cell? ⟨kb, ko + u * 15 + 7, none⟩ = some (.int .i64 ym.b) := hkc 7 (by decide)
           have c8 : wr.cell? ⟨kb, ko + u * 15 + 8, none⟩ = some (.int .i64 ym.c) := hkc 8 (by decide)
           have c9 : wr.cell? ⟨kb, ko + u * 15 + 9, none⟩ = some (.int .i64 ym.r) := hkc 9 (by decide)
           have c10 : wr.cell? ⟨kb, ko + u * 15 + 10, none⟩ = some (.int .i64 ym.y) := hkc 10 (by decide)
           have c11 : wr.cell? ⟨kb, ko + u * 15 + 11, none⟩ = some (.int .i64 ym.a) := hkc 11 (by decide)
           have c12 : wr.cell? ⟨kb, ko + u * 15 + 12, none⟩ = some (.bool ym.t) := hkc 12 (by decide)
           have c13 : wr.cell? ⟨kb, ko + u * 15 + 13, none⟩ = some (.slice ypl ym.ls.length ycl) := hkc 13 (by decide)
           have c14 : wr.cell? ⟨kb, ko + u * 15 + 14, none⟩ = some (.slice ypn ym.ns.length ycn) := hkc 14 (by decide)
           clear hkc
           have HGK : Hid (gl < wr.heap.size ∧ gs < wr.heap.size) := Lib.hid ⟨Hl60.out.lt, Hs60.out.lt⟩
           have Qi60 : Hid (InN (NotIn [gl]) ⟨ym, ypl, ycl, ypn, ycn⟩ wr) := Lib.hid HYI.out
           clear HYI
           have hba := oneB wr (.cells #[.int .i64 yf, .int .i64 yt, .int .i64 0, .int .i64 yh, .int .i64 ym.k, .int .i64 ym.s, .int .i64 ym.n, .int .i64 ym.b, .int .i64 ym.c, .int .i64 ym.r, .int .i64 ym.y, .int .i64 ym.a, .bool ym.t, .slice ypl ym.ls.length ycl, .slice ypn ym.ns.length ycn] 45)
           have Hl61 := kbq Hl60 hba
           have Hs61 := kbq Hs60 hba
           have Qu61 := Lib.hid (Qu60.out.kept hba)
           have Qv61 := Lib.hid (Qv60.out.kept hba)
           have Qk61 := Lib.hid (Qk60.out.kept hba)
           have Qo61 := Lib.hid (Qo60.out.kept hba)
           have Qi61 := Lib.hid (Qi60.out.kept hba)
           have Hk61 := Lib.hid (Blk.new wr #[.int .i64 yf, .int .i64 yt, .int .i64 0, .int .i64 yh, .int .i64 ym.k, .int .i64 ym.s, .int .i64 ym.n, .int .i64 ym.b, .int .i64 ym.c, .int .i64 ym.r, .int .i64 ym.y, .int .i64 ym.a, .bool ym.t, .slice ypl ym.ls.length ycl, .slice ypn ym.ns.length ycn] 45)
           have HB61 := Lib.hid (HB60.out.alloc HB60.out.size (.cells #[.int .i64 yf, .int .i64 yt, .int .i64 0, .int .i64 yh, .int .i64 ym.k, .int .i64 ym.s, .int .i64 ym.n, .int .i64 ym.b, .int .i64 ym.c, .int .i64 ym.r, .int .i64 ym.y, .int .i64 ym.a, .bool ym.t, .slice ypl ym.ls.length ycl, .slice ypn ym.ns.length ycn] 45))
           have HZ61 := kzq HZ60 hba.size
           have HGgk : Hid (w.heap.size ≤ wr.heap.size) := Lib.hid HB60.out.size
           clear hba Hl60 Hs60 Qu60 Qv60 Qk60 Qo60 Qi60 HB60 HZ60
           go_upto_region 27 with fail
           clear hluI c0 c1 c2 c3 c4 c5 c6 c7 c8 c9 c10 c11 c12 c13 c14
           generalize (wr.alloc (.cells #[.int .i64 yf, .int .i64 yt, .int .i64 0, .int .i64 yh, .int .i64 ym.k, .int .i64 ym.s, .int .i64 ym.n, .int .i64 ym.b, .int .i64 ym.c, .int .i64 ym.r, .int .i64 ym.y, .int .i64 ym.a, .bool ym.t, .slice ypl ym.ls.length ycl, .slice ypn ym.ns.length ycn] 45)) = W9 at *
           generalize hggk : wr.heap.size = gk at *
           clear hggk
           have hbd := (Below.refl W9.heap.size W9).drew
           have Hl62 := kbq Hl61 hbd
           have Hs62 := kbq Hs61 hbd
           have Hk62 := kbq Hk61 hbd
           have Qu62 := Lib.hid (Qu61.out.kept hbd)
           have Qv62 := Lib.hid (Qv61.out.kept hbd)
           have Qk62 := Lib.hid (Qk61.out.kept hbd)
           have Qo62 := Lib.hid (Qo61.out.kept hbd)
           have Qi62 := Lib.hid (Qi61.out.kept hbd)
           have HB62 := ktq HB61 hbd
           have HZ62 := kzq HZ61 hbd.size
           clear Hl61 Hs61 Hk61 Qu61 Qv61 Qk61 Qo61 Qi61 HB61 HZ61
           refine wp_region_held_drew (S := fun w' => w'.cell? ⟨gl, 0, none⟩ = some (.int .i64 0) ∧ w'.cell? ⟨gl, 1, none⟩ = some (.slice pR 2 cR) ∧ w'.cell? ⟨gl, 2, none⟩ = some (.int .i64 1) ∧ w'.cell? ⟨gl, 3, none⟩ = some (.slice p1 2 c1) ∧ w'.cell? ⟨gk, 2, none⟩ = some (.int .i64 0)) (by kernel_rfl) ⟨Hl62.out.cell 0, Hl62.out.cell 1, Hl62.out.cell 2, Hl62.out.cell 3, Hk62.out.cell 2⟩ (fun hS0 => ?_)
           generalize W9.drew = WA at *
           clear hbd
           refine tkq 0 ?_
           refine tkq 1 ?_
           refine tkq 2 ?_
           refine tkq 3 ?_
           refine tkq 4 ?_
           refine tkq 5 ?_
           refine tkq 6 ?_
           refine rdq 7 (fun K hK => ?_)
           have HG := Lib.hid (next_any (NotIn [gl]) 0 1 0 pR 2 cR (qn0 (xs.map MsgX.m) ((hhU lb hb0 u : Nat) : Int)) WA rfl Qu62.out (by decide))
           rw [next_no] at HG
           obtain ⟨ob2, hob⟩ : ∃ z, oldB (peAt 0 (qn0 (xs.map MsgX.m) ((hhU lb hb0 u : Nat) : Int)) 1) (okP 0 (qn0 (xs.map MsgX.m) ((hhU lb hb0 u : Nat) : Int)).length 1) 0 = z := ⟨_, rfl⟩
           rw [hob] at HG
           clear hob
           go_simp
           go_at_call 8
           refine HG.out.mono ?_
           rintro y9 wB ⟨rfl, hb⟩
           clear HG
           have Hl63 := kbq Hl62 hb
           have Hs63 := kbq Hs62 hb
           have Hk63 := kbq Hk62 hb
           have Qu63 := Lib.hid (Qu62.out.kept hb)
           have Qv63 := Lib.hid (Qv62.out.kept hb)
           have Qk63 := Lib.hid (Qk62.out.kept hb)
           have Qo63 := Lib.hid (Qo62.out.kept hb)
           have Qi63 := Lib.hid (Qi62.out.kept hb)
           have HB63 := ktq HB62 hb
           have HZ63 := kzq HZ62 hb.size
           clear Hl62 Hs62 Hk62 Qu62 Qv62 Qk62 Qo62 Qi62 HB62 HZ62
           clear hb hS0
           try go_wp2_with fail
           refine hK.out _ _ ⟨Hl63.out.cell 0, Hl63.out.cell 1, Hl63.out.cell 2, Hl63.out.cell 3, Hk63.out.cell 2⟩ (fun hS0 => ?_)
           clear hK K
           try simp only [Act.put, List.getElem_toArray, List.getElem_cons_succ, List.getElem_cons_zero, List.setIfInBounds_toArray, List.set_cons_zero, List.set_cons_succ]
           refine tkq 8 ?_
           refine tkq 9 ?_
           refine tkq 10 ?_
           refine tkq 11 ?_
           refine tkq 12 ?_
           refine wpAnyH_done (by kernel_rfl) ?_ _
           clear hS0
           have HNX : Hid (∃ (pR : Option Addr) (cR : Nat), Blk wB gl #[.int .i64 0, .slice pR 2 cR, .int .i64 1, .slice p1 2 c1] 28 ∧ Blk wB gs #[.slice pa la ca, .slice pb lb cb] 32 ∧ PeRow (NotIn [gl]) wB (.slice p1 2 c1) (qn1 (ys.map MsgX.m) ha) ∧ PeRow (NotIn [gl]) wB (.slice pR 2 cR) (qn0 (xs.map MsgX.m) ((hhU lb hb0 (u + 1) : Nat) : Int)) ∧ PkRow (NotIn [gl]) wB (.slice (some ⟨kb, ko, none⟩) np c8) PK ∧ RwN encB1 (NotIn [gl]) wB (.slice (some ⟨ob, oo, none⟩) (lo + 1) c7) (bs ++ [false]) ∧ Below w.heap.size w wB) := Lib.hid ⟨pR, cR, Hl63.out, Hs63.out, Qv63.out, (by rw [show hhU lb hb0 (u + 1) = hhU lb hb0 u from by unfold hhU; rw [if_pos hone, if_pos hone]]; exact Qu63.out), Qk63.out, Qo63.out, HB63.out⟩
           clear Hl63 Hs63 Hk63 Qu63 Qv63 Qk63 Qo63 Qi63 HB63 HZ63 HYP hone hup
           go_upto_region 32 with fail
           go_wp2_with fail
           go_roundw
           case rel => exact ⟨u + 1, by have := HLU.out; omega, by go_num, HNX⟩
           case measure => have := HLU.out; simp [intOf]; omega
         ·skip
          as_aux_lemma =>
           have hpk2 : packs 1 0 (ys.map MsgX.m, ((ha : Nat) : Int)) hb0 = PK := HPK.out
           obtain ⟨hku0, hyn0, hymm0⟩ := packs_many (me := 1) (tq := 0) (q := (ys.map MsgX.m, ((ha : Nat) : Int))) (k := hb0) (u := u) (by show ¬ (ys.map MsgX.m).length ≤ hb0; rw [List.length_map]; have := HLL.out.2.1; omega) (by rw [hpk2]; exact hup)
           simp only [hpk2] at hyn0 hymm0
           rw [← HYP.out] at hyn0 hymm0
           have hyn : yn = ((hb0 + u : Nat) : Int) + 1 := hyn0
           obtain ⟨e, he, hku, hymm⟩ : ∃ e, ∃ _ : hb0 + u = e, ∃ hk : e < (ys.map MsgX.m).length, ym = (ys.map MsgX.m)[e]'hk := ⟨_, rfl, hku0, hymm0⟩
           clear hyn0 hymm0
           rw [he] at hyn
           rw [List.length_map] at hku
           rw [List.getElem_map] at hymm
           subst hyn
           have HE : Hid (hb0 + u = e ∧ e < lb) := Lib.hid ⟨he, by have := HLL.out.2.1; omega⟩
           have HHE : Hid (((hhU lb hb0 u : Nat) : Int) = (e : Int)) := Lib.hid (by unfold hhU; rw [if_neg hone, he])
           obtain ⟨⟨xm, xpl, xcl, xpn, xcn⟩, hX⟩ : ∃ X, ys[e] = X := ⟨_, rfl⟩
           have hxi := (HYF.out _ (List.getElem_mem hku)).1
           rw [hX] at hxi hymm
           have HXI := Lib.hid hxi
           obtain ⟨ab, ao, hap, hal, hac⟩ := HYS.out.at_ e hku
           rw [hX] at hac
           have hxm : xm = ym := hymm.symm
           subst hxm
           have HAC : Hid (∀ q9, q9 < 11 → ∀ W2, Below w.heap.size w W2 → W2.cell? ⟨ab, ao + e * 11 + q9, none⟩ = (MsgX.cells ⟨xm, xpl, xcl, xpn, xcn⟩)[q9]?) := Lib.hid (fun q9 h9 W2 hb2 => (hb2.cell (p := ⟨ab, _, none⟩) hal).trans (hac q9 h9))
           have HPA := Lib.hid hap
           clear hX hku hac hal hap he hymm hxi hpk2
           have c0 : wr.cell? ⟨kb, ko + u * 15, none⟩ = some (.int .i64 yf) := hkc 0 (by decide)
           have c1 : wr.cell? ⟨kb, ko + u * 15 + 1, none⟩ = some (.int .i64 yt) := hkc 1 (by decide)
           have c2 : wr.cell? ⟨kb, ko + u * 15 + 2, none⟩ = some (.int .i64 ((e : Int) + 1)) := hkc 2 (by decide)
           have c3 : wr.cell? ⟨kb, ko + u * 15 + 3, none⟩ = some (.int .i64 yh) := hkc 3 (by decide)
           have c4 : wr.cell? ⟨kb, ko + u * 15 + 4, none⟩ = some (.int .i64 xm.k) := hkc 4 (by decide)
           have c5 : wr.cell? ⟨kb, ko + u * 15 + 5, none⟩ = some (.int .i64 xm.s) := hkc 5 (by decide)
           have c6 : wr.cell? ⟨kb, ko + u * 15 + 6, none⟩ = some (.int .i64 xm.n) := hkc 6 (by decide)
           have c7 : wr.cell? ⟨kb, ko + u * 15 + 7, none⟩ = some (.int .i64 xm.b) := hkc 7 (by decide)
           have c8 : wr.cell? ⟨kb, ko + u * 15 + 8, none⟩ = some (.int .i64 xm.c) := hkc 8 (by decide)
           have c9 : wr.cell? ⟨kb, ko + u * 15 + 9, none⟩ = some (.int .i64 xm.r) := hkc 9 (by decide)
           have c10 : wr.cell? ⟨kb, ko + u * 15 + 10, none⟩ = some (.int .i64 xm.y) := hkc 10 (by decide)
           have c11 : wr.cell? ⟨kb, ko + u * 15 + 11, none⟩ = some (.int .i64 xm.a) := hkc 11 (by decide)
           have c12 : wr.cell? ⟨kb, ko + u * 15 + 12, none⟩ = some (.bool xm.t) := hkc 12 (by decide)
           have c13 : wr.cell? ⟨kb, ko + u * 15 + 13, none⟩ = some (.slice ypl xm.ls.length ycl) := hkc 13 (by decide)
           have c14 : wr.cell? ⟨kb, ko + u * 15 + 14, none⟩ = some (.slice ypn xm.ns.length ycn) := hkc 14 (by decide)
           clear hkc
           have HGK : Hid (gl < wr.heap.size ∧ gs < wr.heap.size) := Lib.hid ⟨Hl60.out.lt, Hs60.out.lt⟩
           have Qi60 : Hid (InN (NotIn [gl]) ⟨xm, ypl, ycl, ypn, ycn⟩ wr) := Lib.hid HYI.out
           clear HYI
           have hba := oneB wr (.cells #[.int .i64 yf, .int .i64 yt, .int .i64 ((e : Int) + 1), .int .i64 yh, .int .i64 xm.k, .int .i64 xm.s, .int .i64 xm.n, .int .i64 xm.b, .int .i64 xm.c, .int .i64 xm.r, .int .i64 xm.y, .int .i64 xm.a, .bool xm.t, .slice ypl xm.ls.length ycl, .slice ypn xm.ns.length ycn] 45)
           have Hl61 := kbq Hl60 hba
           have Hs61 := kbq Hs60 hba
           have Qu61 := Lib.hid (Qu60.out.kept hba)
           have Qv61 := Lib.hid (Qv60.out.kept hba)
           have Qk61 := Lib.hid (Qk60.out.kept hba)
           have Qo61 := Lib.hid (Qo60.out.kept hba)
           have Qi61 := Lib.hid (Qi60.out.kept hba)
           have Hk61 := Lib.hid (Blk.new wr #[.int .i64 yf, .int .i64 yt, .int .i64 ((e : Int) + 1), .int .i64 yh, .int .i64 xm.k, .int .i64 xm.s, .int .i64 xm.n, .int .i64 xm.b, .int .i64 xm.c, .int .i64 xm.r, .int .i64 xm.y, .int .i64 xm.a, .bool xm.t, .slice ypl xm.ls.length ycl, .slice ypn xm.ns.length ycn] 45)
           have HB61 := Lib.hid (HB60.out.alloc HB60.out.size (.cells #[.int .i64 yf, .int .i64 yt, .int .i64 ((e : Int) + 1), .int .i64 yh, .int .i64 xm.k, .int .i64 xm.s, .int .i64 xm.n, .int .i64 xm.b, .int .i64 xm.c, .int .i64 xm.r, .int .i64 xm.y, .int .i64 xm.a, .bool xm.t, .slice ypl xm.ls.length ycl, .slice ypn xm.ns.length ycn] 45))
           have HZ61 := kzq HZ60 hba.size
           have HGgk : Hid (w.heap.size ≤ wr.heap.size) := Lib.hid HB60.out.size
           clear hba Hl60 Hs60 Qu60 Qv60 Qk60 Qo60 Qi60 HB60 HZ60
           go_upto_region 27 with fail
           clear hluI c0 c1 c2 c3 c4 c5 c6 c7 c8 c9 c10 c11 c12 c13 c14
           generalize (wr.alloc (.cells #[.int .i64 yf, .int .i64 yt, .int .i64 ((e : Int) + 1), .int .i64 yh, .int .i64 xm.k, .int .i64 xm.s, .int .i64 xm.n, .int .i64 xm.b, .int .i64 xm.c, .int .i64 xm.r, .int .i64 xm.y, .int .i64 xm.a, .bool xm.t, .slice ypl xm.ls.length ycl, .slice ypn xm.ns.length ycn] 45)) = W9 at *
           generalize hggk : wr.heap.size = gk at *
           clear hggk
           have hbd := (Below.refl W9.heap.size W9).drew
           have Hl62 := kbq Hl61 hbd
           have Hs62 := kbq Hs61 hbd
           have Hk62 := kbq Hk61 hbd
           have Qu62 := Lib.hid (Qu61.out.kept hbd)
           have Qv62 := Lib.hid (Qv61.out.kept hbd)
           have Qk62 := Lib.hid (Qk61.out.kept hbd)
           have Qo62 := Lib.hid (Qo61.out.kept hbd)
           have Qi62 := Lib.hid (Qi61.out.kept hbd)
           have HB62 := ktq HB61 hbd
           have HZ62 := kzq HZ61 hbd.size
           clear Hl61 Hs61 Hk61 Qu61 Qv61 Qk61 Qo61 Qi61 HB61 HZ61
           refine wp_region_held_drew (S := fun w' => w'.cell? ⟨gl, 0, none⟩ = some (.int .i64 0) ∧ w'.cell? ⟨gl, 1, none⟩ = some (.slice pR 2 cR) ∧ w'.cell? ⟨gl, 2, none⟩ = some (.int .i64 1) ∧ w'.cell? ⟨gl, 3, none⟩ = some (.slice p1 2 c1) ∧ w'.cell? ⟨gk, 2, none⟩ = some (.int .i64 ((e : Int) + 1))) (by kernel_rfl) ⟨Hl62.out.cell 0, Hl62.out.cell 1, Hl62.out.cell 2, Hl62.out.cell 3, Hk62.out.cell 2⟩ (fun hS0 => ?_)
           generalize W9.drew = WA at *
           clear hbd
           refine tkq 0 ?_
           refine tkq 1 ?_
           refine tkq 2 ?_
           refine tkq 3 ?_
           refine tkq 4 ?_
           refine tkq 5 ?_
           refine tkq 6 ?_
           refine rdq 7 (fun K hK => ?_)
           have HG := Lib.hid (next_any (NotIn [gl]) 0 1 ((e : Int) + 1) pR 2 cR (qn0 (xs.map MsgX.m) ((hhU lb hb0 u : Nat) : Int)) WA rfl Qu62.out (by have := HE.out.2; have := HSM.out.2.1; omega))
           rw [show okP 0 (qn0 (xs.map MsgX.m) ((hhU lb hb0 u : Nat) : Int)).length 1 = true from rfl, next_yes (e := e) (show (peAt 0 (qn0 (xs.map MsgX.m) ((hhU lb hb0 u : Nat) : Int)) 1).2 = (e : Int) from HHE.out)] at HG
           obtain ⟨ob2, hob⟩ : ∃ z, oldB (peAt 0 (qn0 (xs.map MsgX.m) ((hhU lb hb0 u : Nat) : Int)) 1) (true) ((e : Int) + 1) = z := ⟨_, rfl⟩
           rw [hob] at HG
           clear hob
           go_simp
           go_at_call 8
           refine HG.out.mono ?_
           rintro y9 wB ⟨rfl, hb⟩
           clear HG
           have Hl63 := kbq Hl62 hb
           have Hs63 := kbq Hs62 hb
           have Hk63 := kbq Hk62 hb
           have Qu63 := Lib.hid (Qu62.out.kept hb)
           have Qv63 := Lib.hid (Qv62.out.kept hb)
           have Qk63 := Lib.hid (Qk62.out.kept hb)
           have Qo63 := Lib.hid (Qo62.out.kept hb)
           have Qi63 := Lib.hid (Qi62.out.kept hb)
           have HB63 := ktq HB62 hb
           have HZ63 := kzq HZ62 hb.size
           clear Hl62 Hs62 Hk62 Qu62 Qv62 Qk62 Qo62 Qi62 HB62 HZ62
           clear hb hS0
           try go_wp2_with fail
           refine hK.out _ _ ⟨Hl63.out.cell 0, Hl63.out.cell 1, Hl63.out.cell 2, Hl63.out.cell 3, Hk63.out.cell 2⟩ (fun hS0 => ?_)
           clear hK K
           try simp only [Act.put, List.getElem_toArray, List.getElem_cons_succ, List.getElem_cons_zero, List.setIfInBounds_toArray, List.set_cons_zero, List.set_cons_succ]
           refine tkq 8 ?_
           refine tkq 9 ?_
           refine tkq 10 ?_
           refine tkq 11 ?_
           refine tkq 12 ?_
           refine wpAnyH_done (by kernel_rfl) ?_ _
           clear hS0
           go_upto_region 29 with fail
           have HG := Lib.hid (hear_ok (NotIn [gl]) 0 1 pR 2 cR (qn0 (xs.map MsgX.m) ((hhU lb hb0 u : Nat) : Int)) wB rfl Qu63.out rfl (by show 1 < 2; decide) (by show 2 ≤ 1000; decide) (by show -1000000000000 ≤ ((hhU lb hb0 u : Nat) : Int) ∧ ((hhU lb hb0 u : Nat) : Int) ≤ 1000000000000; rw [HHE.out]; have := HE.out.2; have := HSM.out.2.1; omega) (fun b hb hm => by have h0 := Hl63.out.lt; simp only [List.mem_cons, List.not_mem_nil, or_false] at hm; omega))
           have a0 : wB.cell? ⟨gl, 0, none⟩ = some (.int .i64 0) := Hl63.out.cell 0
           have a1 : wB.cell? ⟨gl, 1, none⟩ = some (.slice pR 2 cR) := Hl63.out.cell 1
           go_wp2_with fail
           clear a0 a1
           refine HG.out.mono ?_
           rintro y9 wC ⟨_, rfl, ⟨p9, c9, rfl, hp9⟩, hb⟩
           clear HG
           have HP9 : Hid (PeRow (NotIn [gl]) wC (.slice p9 2 c9) (qn0 (xs.map MsgX.m) ((hhU lb hb0 (u + 1) : Nat) : Int))) := Lib.hid (by
            rw [show ((hhU lb hb0 (u + 1) : Nat) : Int) = ((hhU lb hb0 u : Nat) : Int) + 1 from by unfold hhU; rw [if_neg hone, if_neg hone]; omega]
            exact hp9)
           dsimp only [List.length_set, qn0, qn1, List.length_cons, List.length_nil, Nat.zero_add, Nat.reduceAdd]
           clear hp9
           have Hl64 := kbq Hl63 hb
           have Hs64 := kbq Hs63 hb
           have Hk64 := kbq Hk63 hb
           have Qu64 := Lib.hid (Qu63.out.kept hb)
           have Qv64 := Lib.hid (Qv63.out.kept hb)
           have Qk64 := Lib.hid (Qk63.out.kept hb)
           have Qo64 := Lib.hid (Qo63.out.kept hb)
           have Qi64 := Lib.hid (Qi63.out.kept hb)
           have HB64 := ktq HB63 hb
           have HZ64 := kzq HZ63 hb.size
           clear Hl63 Hs63 Hk63 Qu63 Qv63 Qk63 Qo63 Qi63 HB63 HZ63
           clear hb
           clear Qu64
           have Qu64 := HP9
           clear HP9
           have z0 : wC.cell? ⟨gl, 0, none⟩ = some (.int .i64 0) := Hl64.out.cell 0
           have f0 := Hl64.out.free 0
           have z1 : wC.cell? ⟨gl, 1, none⟩ = some (.slice pR 2 cR) := Hl64.out.cell 1
           have f1 := Hl64.out.free 1
           go_upto_region 30 with fail
           clear z0 z1 f0 f1
           have hch := Lib.hid (((Chg.refl gl wC).set 0 (.int .i64 0)).set 1 (.slice p9 2 c9))
           have Hl65 : Hid (Blk _ gl #[.int .i64 0, .slice p9 2 c9, .int .i64 1, .slice p1 2 c1] 28) := Lib.hid ((Hl64.out.set 0 (.int .i64 0)).set 1 (.slice p9 2 c9))
           have HB65 : Hid (Below w.heap.size w ((wC.setCell ⟨gl, 0, none⟩ (.int .i64 0)).setCell ⟨gl, 1, none⟩ (.slice p9 2 c9))) := Lib.hid (HB64.out.trans (hch.out.below HGgl.out HB64.out.size))
           have HZ65 := kzq HZ64 hch.out.size
           have Hs65 := kcq Hs64 hch (by have := HGgl.out; have := HGS.out; have := HGK.out; omega)
           have Hk65 := kcq Hk64 hch (by have := HGgl.out; have := HGS.out; have := HGK.out; omega)
           have Qu65 := Lib.hid (Qu64.out.chg hch.out (notIn_self (by simp)))
           have Qv65 := Lib.hid (Qv64.out.chg hch.out (notIn_self (by simp)))
           have Qk65 := Lib.hid (Qk64.out.chg hch.out (notIn_self (by simp)))
           have Qo65 := Lib.hid (Qo64.out.chg hch.out (notIn_self (by simp)))
           have Qi65 := Lib.hid (Qi64.out.chg hch.out (notIn_self (by simp)))
           clear hch Hl64 Hs64 Hk64 Qu64 Qv64 Qk64 Qo64 Qi64 HB64 HZ64
           generalize ((wC.setCell ⟨gl, 0, none⟩ (.int .i64 0)).setCell ⟨gl, 1, none⟩ (.slice p9 2 c9)) = WE at *
           have he : e < lb := HE.out.2
           have heI : (e : Int) < (lb : Int) := by omega
           have hwe : IntKind.i64.wrap (e : Int) = (e : Int) := IntWalk.i64_in _ (by have := HSM.out.2.1; omega)
           have hbd := (Below.refl WE.heap.size WE).drew
           have Hl66 := kbq Hl65 hbd
           have Hs66 := kbq Hs65 hbd
           have Hk66 := kbq Hk65 hbd
           have Qu66 := Lib.hid (Qu65.out.kept hbd)
           have Qv66 := Lib.hid (Qv65.out.kept hbd)
           have Qk66 := Lib.hid (Qk65.out.kept hbd)
           have Qo66 := Lib.hid (Qo65.out.kept hbd)
           have Qi66 := Lib.hid (Qi65.out.kept hbd)
           have HB66 := ktq HB65 hbd
           have HZ66 := kzq HZ65 hbd.size
           clear Hl65 Hs65 Hk65 Qu65 Qv65 Qk65 Qo65 Qi65 HB65 HZ65
           refine wp_region_held_drew (S := fun w' => w'.cell? ⟨gk, 2, none⟩ = some (.int .i64 ((e : Int) + 1)) ∧ w'.cell? ⟨gk, 4, none⟩ = some (.int .i64 xm.k) ∧ w'.cell? ⟨gk, 5, none⟩ = some (.int .i64 xm.s) ∧ w'.cell? ⟨gk, 6, none⟩ = some (.int .i64 xm.n) ∧ w'.cell? ⟨gk, 7, none⟩ = some (.int .i64 xm.b) ∧ w'.cell? ⟨gk, 8, none⟩ = some (.int .i64 xm.c) ∧ w'.cell? ⟨gk, 9, none⟩ = some (.int .i64 xm.r) ∧ w'.cell? ⟨gk, 10, none⟩ = some (.int .i64 xm.y) ∧ w'.cell? ⟨gk, 11, none⟩ = some (.int .i64 xm.a) ∧ w'.cell? ⟨gk, 12, none⟩ = some (.bool xm.t) ∧ w'.cell? ⟨gk, 13, none⟩ = some (.slice ypl xm.ls.length ycl) ∧ w'.cell? ⟨gk, 14, none⟩ = some (.slice ypn xm.ns.length ycn) ∧ w'.cell? ⟨gs, 1, none⟩ = some (.slice (some ⟨ab, ao, none⟩) lb cb) ∧ w'.cell? ⟨ab, ao + e * 11, none⟩ = some (.int .i64 xm.k) ∧ w'.cell? ⟨ab, ao + e * 11 + 1, none⟩ = some (.int .i64 xm.s) ∧ w'.cell? ⟨ab, ao + e * 11 + 2, none⟩ = some (.int .i64 xm.n) ∧ w'.cell? ⟨ab, ao + e * 11 + 3, none⟩ = some (.int .i64 xm.b) ∧ w'.cell? ⟨ab, ao + e * 11 + 4, none⟩ = some (.int .i64 xm.c) ∧ w'.cell? ⟨ab, ao + e * 11 + 5, none⟩ = some (.int .i64 xm.r) ∧ w'.cell? ⟨ab, ao + e * 11 + 6, none⟩ = some (.int .i64 xm.y) ∧ w'.cell? ⟨ab, ao + e * 11 + 7, none⟩ = some (.int .i64 xm.a) ∧ w'.cell? ⟨ab, ao + e * 11 + 8, none⟩ = some (.bool xm.t) ∧ w'.cell? ⟨ab, ao + e * 11 + 9, none⟩ = some (.slice xpl xm.ls.length xcl) ∧ w'.cell? ⟨ab, ao + e * 11 + 10, none⟩ = some (.slice xpn xm.ns.length xcn)) (by kernel_rfl) ⟨Hk66.out.cell 2, Hk66.out.cell 4, Hk66.out.cell 5, Hk66.out.cell 6, Hk66.out.cell 7, Hk66.out.cell 8, Hk66.out.cell 9, Hk66.out.cell 10, Hk66.out.cell 11, Hk66.out.cell 12, Hk66.out.cell 13, Hk66.out.cell 14, (by rw [← HPA.out]; exact Hs66.out.cell 1), (HAC.out 0 (by decide) _ HB66.out), (HAC.out 1 (by decide) _ HB66.out), (HAC.out 2 (by decide) _ HB66.out), (HAC.out 3 (by decide) _ HB66.out), (HAC.out 4 (by decide) _ HB66.out), (HAC.out 5 (by decide) _ HB66.out), (HAC.out 6 (by decide) _ HB66.out), (HAC.out 7 (by decide) _ HB66.out), (HAC.out 8 (by decide) _ HB66.out), (HAC.out 9 (by decide) _ HB66.out), (HAC.out 10 (by decide) _ HB66.out)⟩ (fun hS0 => ?_)
           generalize WE.drew = WF at *
           clear hbd
           refine tkq 0 ?_
           refine tkq 1 ?_
           refine tkq 2 ?_
           refine tkq 3 ?_
           refine tkq 4 ?_
           refine tkq 5 ?_
           refine tkq 6 ?_
           refine tkq 7 ?_
           refine tkq 8 ?_
           refine tkq 9 ?_
           refine rdq 10 (fun K hK => ?_)
           have hip : MsgX.InP (NotIn [gl]) WF ⟨xm, ypl, ycl, ypn, ycn⟩ := Qi66.out
           have kk1 : TRow encN WF (.slice ypl xm.ls.length ycl) xm.ls := hip.ls
           have kk2 : Row .i64 WF (.slice ypn xm.ns.length ycn) xm.ns := hip.ns
           have kk3 : TRow encN w (.slice xpl xm.ls.length xcl) xm.ls := HXI.out.ls
           have kk4 : Row .i64 w (.slice xpn xm.ns.length xcn) xm.ns := HXI.out.ns
           have kk5 : xm.Sz := hip.sz
           have kk6 : xm.ls.length ≤ 9000000000000000000 := by have := kk5.1; omega
           have kk7 : xm.ns.length ≤ 9000000000000000000 := by have := kk5.2; omega
           have HG := Lib.hid (msame_any xm (.slice ypl xm.ls.length ycl) (.slice ypn xm.ns.length ycn) (.slice xpl xm.ls.length xcl) (.slice xpn xm.ns.length xcn) WF kk1 kk2 (kk3.kept HB66.out) (kk4.kept HB66.out) kk6 kk7)
           clear kk1 kk2 kk3 kk4 kk5 kk6 kk7 hip
           unfold Msg.v at HG
           go_simp
           go_at_call 10
           refine HG.out.mono ?_
           rintro y9 wG ⟨rfl, hb⟩
           clear HG
           have Hl67 := kbq Hl66 hb
           have Hs67 := kbq Hs66 hb
           have Hk67 := kbq Hk66 hb
           have Qu67 := Lib.hid (Qu66.out.kept hb)
           have Qv67 := Lib.hid (Qv66.out.kept hb)
           have Qk67 := Lib.hid (Qk66.out.kept hb)
           have Qo67 := Lib.hid (Qo66.out.kept hb)
           have Qi67 := Lib.hid (Qi66.out.kept hb)
           have HB67 := ktq HB66 hb
           have HZ67 := kzq HZ66 hb.size
           clear Hl66 Hs66 Hk66 Qu66 Qv66 Qk66 Qo66 Qi66 HB66 HZ66
           clear hb hS0
           try go_wp2_with fail
           refine hK.out _ _ ⟨Hk67.out.cell 2, Hk67.out.cell 4, Hk67.out.cell 5, Hk67.out.cell 6, Hk67.out.cell 7, Hk67.out.cell 8, Hk67.out.cell 9, Hk67.out.cell 10, Hk67.out.cell 11, Hk67.out.cell 12, Hk67.out.cell 13, Hk67.out.cell 14, (by rw [← HPA.out]; exact Hs67.out.cell 1), (HAC.out 0 (by decide) _ HB67.out), (HAC.out 1 (by decide) _ HB67.out), (HAC.out 2 (by decide) _ HB67.out), (HAC.out 3 (by decide) _ HB67.out), (HAC.out 4 (by decide) _ HB67.out), (HAC.out 5 (by decide) _ HB67.out), (HAC.out 6 (by decide) _ HB67.out), (HAC.out 7 (by decide) _ HB67.out), (HAC.out 8 (by decide) _ HB67.out), (HAC.out 9 (by decide) _ HB67.out), (HAC.out 10 (by decide) _ HB67.out)⟩ (fun hS0 => ?_)
           clear hK K
           try simp only [Act.put, List.getElem_toArray, List.getElem_cons_succ, List.getElem_cons_zero, List.setIfInBounds_toArray, List.set_cons_zero, List.set_cons_succ]
           refine tkq 11 ?_
           refine wpAnyH_done (by kernel_rfl) ?_ _
           clear hS0
           have HNX : Hid (∃ (pR : Option Addr) (cR : Nat), Blk wG gl #[.int .i64 0, .slice pR 2 cR, .int .i64 1, .slice p1 2 c1] 28 ∧ Blk wG gs #[.slice pa la ca, .slice pb lb cb] 32 ∧ PeRow (NotIn [gl]) wG (.slice p1 2 c1) (qn1 (ys.map MsgX.m) ha) ∧ PeRow (NotIn [gl]) wG (.slice pR 2 cR) (qn0 (xs.map MsgX.m) ((hhU lb hb0 (u + 1) : Nat) : Int)) ∧ PkRow (NotIn [gl]) wG (.slice (some ⟨kb, ko, none⟩) np c8) PK ∧ RwN encB1 (NotIn [gl]) wG (.slice (some ⟨ob, oo, none⟩) (lo + 1) c7) (bs ++ [false]) ∧ Below w.heap.size w wG) := Lib.hid ⟨p9, c9, Hl67.out, Hs67.out, Qv67.out, Qu67.out, Qk67.out, Qo67.out, HB67.out⟩
           clear Hl67 Hs67 Hk67 Qu67 Qv67 Qk67 Qo67 Qi67 HB67 HZ67 HYP hone he heI hwe HAC HPA HXI HHE hup
           go_upto_region 32 with fail
           go_wp2_with fail
           go_roundw
           case rel => exact ⟨u + 1, by have := HLU.out; omega, by go_num, HNX⟩
           case measure => have := HLU.out; simp [intOf]; omega
        ·skip
         as_aux_lemma =>
          have hluI : ¬ (u : Int) < (np : Int) := by omega
          have HEND : Hid (((hhU lb hb0 u : Nat) : Int) = (lb : Int)) := Lib.hid (by
           have h1 := HNPL.out
           have h2 := HHB.out
           unfold hhU
           by_cases hc : lb ≤ hb0
           ·rw [if_pos hc]; omega
           ·rw [if_neg hc] at h1 ⊢; omega)
          clear hu hlu hu9
          have Qe60 : Hid (PeRow (NotIn [gl]) wr (.slice pR 2 cR) (qn0 (xs.map MsgX.m) (lb : Int))) := Lib.hid (by have h := Qu60.out; rw [HEND.out] at h; exact h)
          clear Qu60
          obtain ⟨rb2, ro2, hrp, hrl, hrc⟩ := Qe60.out.heard 1 (by show 1 < 2; decide)
          have hrc : wr.cell? ⟨rb2, ro2 + 3, none⟩ = some (.int .i64 (lb : Int)) := hrc
          have HRC : Hid (wr.drew.cell? ⟨rb2, ro2 + 3, none⟩ = some (.int .i64 (lb : Int))) := Lib.hid hrc
          subst hrp
          clear hrl hrc
          go_upto_region 33 with fail
          clear hluI
          have hnn : ((lb : Int) != (lb : Int)) = false := by simp
          have hbd := (Below.refl wr.heap.size wr).drew
          have Hl61 := kbq Hl60 hbd
          have Hs61 := kbq Hs60 hbd
          have Qv61 := Lib.hid (Qv60.out.kept hbd)
          have Qk61 := Lib.hid (Qk60.out.kept hbd)
          have Qo61 := Lib.hid (Qo60.out.kept hbd)
          have Qe61 := Lib.hid (Qe60.out.kept hbd)
          have HB61 := ktq HB60 hbd
          have HZ61 := kzq HZ60 hbd.size
          clear Hl60 Hs60 Qv60 Qk60 Qo60 Qe60 HB60 HZ60
          refine wp_region_held_drew (S := fun w' => w'.cell? ⟨gl, 0, none⟩ = some (.int .i64 0) ∧ w'.cell? ⟨gl, 1, none⟩ = some (.slice (some ⟨rb2, ro2, none⟩) 2 cR) ∧ w'.cell? ⟨gl, 2, none⟩ = some (.int .i64 1) ∧ w'.cell? ⟨gl, 3, none⟩ = some (.slice p1 2 c1) ∧ w'.cell? ⟨rb2, ro2 + 3, none⟩ = some (.int .i64 (lb : Int)) ∧ w'.cell? ⟨gs, 1, none⟩ = some (.slice pb lb cb)) (by kernel_rfl) ⟨Hl61.out.cell 0, Hl61.out.cell 1, Hl61.out.cell 2, Hl61.out.cell 3, HRC.out, Hs61.out.cell 1⟩ (fun hS0 => ?_)
          generalize wr.drew = WH at *
          clear hbd
          refine tkq 0 ?_
          refine tkq 1 ?_
          refine tkq 2 ?_
          refine tkq 3 ?_
          refine tkq 4 ?_
          refine tkq 5 ?_
          refine tkq 6 ?_
          refine tkq 7 ?_
          refine tkq 8 ?_
          refine tkq 9 ?_
          refine tkq 10 ?_
          refine tkq 11 ?_
          refine tkq 12 ?_
          refine tkq 13 ?_
          refine wpAnyH_done (by kernel_rfl) ?_ _
          clear hS0
          have HNX : Hid (∃ (ha hb : Nat), ha ≤ la ∧ hb ≤ lb ∧ RwN encB1 (NotIn [gl]) WH (.slice (some ⟨ob, oo, none⟩) (lo + 1) c7) (bs ++ [false]) ∧ ∃ (p0 : Option Addr) (c0 : Nat) (p1 : Option Addr) (c1 : Nat), Blk WH gl #[.int .i64 0, .slice p0 2 c0, .int .i64 1, .slice p1 2 c1] 28 ∧ Blk WH gs #[.slice pa la ca, .slice pb lb cb] 32 ∧ PeRow (NotIn [gl]) WH (.slice p0 2 c0) (qn0 (xs.map MsgX.m) hb) ∧ PeRow (NotIn [gl]) WH (.slice p1 2 c1) (qn1 (ys.map MsgX.m) ha) ∧ Below w.heap.size w WH) := Lib.hid ⟨ha, lb, HHA.out, Nat.le_refl _, Qo61.out, some ⟨rb2, ro2, none⟩, cR, p1, c1, Hl61.out, Hs61.out, Qe61.out, Qv61.out, HB61.out⟩
          clear Hl61 Hs61 Qv61 Qk61 Qo61 Qe61 HB61 HZ61 hnn HRC
          go_upto_region 35 with fail
          go_wp2_with fail
          go_roundw
          case rel => exact ⟨t + 1, by have := HLT3.out; omega, by go_num, HNX⟩
          case measure => have := HLT3.out; simp [intOf]; omega
    ·skip
     as_aux_lemma =>
      have hltI : ¬ (t : Int) < ((lo : Int) + 1) := by omega
      clear ht hlt ht9
      have a0 : wr.cell? ⟨gl, 0, none⟩ = some (.int .i64 0) := Hl50.out.cell 0
      have a1 : wr.cell? ⟨gl, 1, none⟩ = some (.slice p0 2 c0) := Hl50.out.cell 1
      have HG := Lib.hid (packs_any (NotIn [gl]) 0 1 la p0 2 c0 (qn0 (xs.map MsgX.m) hb0) wr rfl Qu50.out rfl (by show 1 < 2; decide) (by show (xs.map MsgX.m).length ≤ 1000; rw [List.length_map]; have := HLL.out.1; have := HSM.out.1; omega) (fun b hb hm => by have h0 := Hl50.out.lt; simp only [List.mem_cons, List.not_mem_nil, or_false] at hm; omega))
      go_wp2_with fail
      clear a0 a1
      refine HG.out.mono ?_
      rintro y9 w9 ⟨v9, rfl, hk9, hb⟩
      clear HG
      obtain ⟨p9, c9, hv9⟩ := hk9.shape
      have hl1 : (packs 0 ((1 : Nat) : Int) ((qn0 (xs.map MsgX.m) hb0)[1]'(by show 1 < 2; decide)) la).length = 1 := by
       rw [packs_len, if_pos (by show (xs.map MsgX.m).length ≤ la; rw [List.length_map]; have := HLL.out.1; omega)]
      rw [hl1] at hv9
      subst hv9
      clear hk9 hl1
      have HBE := ktq HB50 hb
      clear hb
      go_wp2_with fail
      go_ret
      exact ⟨rfl, HBE.out⟩
end Go.Proofs.Ytboplnhgafbgbaa
namespace Go.Proofs.Ytboplnhgafbgbaa
open Go.ChangeShapes Go.WideShapes Go.ChangeAt Go.RowKit
section
variable {H : Type} {enc : TypeId × Value → H} {P : Program} {w : World} {base : Nat} {held : Bool}
theorem slice_len {s t : TypeId} {fuel : Nat} {c : Value} {y : DataW H × List MemPlace} {p : Option Addr} {n cap : Nat}
  (hs : P.underlying s = some (.slice t)) (h : DataW.trod enc P w base (fun _ => true) held fuel s [c] = some y) (hw : ∀ k ∈ DataW.weights P s y.1, k ≤ reachBytes) (hc : c = .slice p n cap) : n * P.bytesOf t ≤ reachBytes := by
 rcases Go.Deep.open_slice hs h with ⟨hcs, _⟩ | ⟨a', len', cap', m, n', D, Pl, hcs, _, _, _, _, rfl, _⟩
 ·simp at hcs
  rw [hcs] at hc
  cases hc
  simp
 ·simp at hcs
  rw [hcs] at hc
  cases hc
  have := hw _ (by simp only [DataW.weights, hs, List.mem_cons]; exact .inl rfl)
  simp only [List.length_map, List.length_range] at this
  exact Nat.le_trans (Nat.mul_le_mul_right _ (Nat.le_add_right _ _)) this
/-- Of a message that is read: the lengths of its two lists. -/
theorem msg_len {t sl tl sn q : TypeId} {fk g f2 f3 f4 f5 f6 f7 f8 f9 : Field}
  (ht : P.underlying t = some (.struct #[fk, g, f2, f3, f4, f5, f6, f7, f8, f9])) (o8 : f8.offset = 9) (o9 : f9.offset = 10) (t8 : f8.type = sl) (t9 : f9.type = sn) (hs : P.underlying sl = some (.slice tl)) (hn : P.underlying sn = some (.slice q)) (c8 : P.cellsOf sl = 1) (c9 : P.cellsOf sn = 1) (bl : P.bytesOf tl = 32) (bq : P.bytesOf q = 8)
  (fuel : Nat) (x : MsgX) (y : DataW H × List MemPlace) (hf : DataW.trod enc P w base (fun _ => true) held fuel t x.cells = some y) (hw : ∀ k ∈ DataW.weights P t y.1, k ≤ reachBytes) : x.m.Sz := by
 obtain ⟨xs, k, hk, hxy, _, hxl, hf⟩ := DataW.trod_struct ht hf
 match xs, hxl with
 | [yk, yg, y2, y3, y4, y5, y6, y7, y8, y9], _ =>
  have g8 := hf 8 f8 rfl
  have g9 := hf 9 f9 rfl
  subst t8 t9
  simp [o8, o9, c8, c9, MsgX.cells, Msg.cells] at g8 g9
  have hw' : ∀ k ∈ DataW.weightsEach P (#[fk, g, f2, f3, f4, f5, f6, f7, f8, f9].toList.map (·.type)) [yk.1, yg.1, y2.1, y3.1, y4.1, y5.1, y6.1, y7.1, y8.1, y9.1], k ≤ reachBytes := by
   intro k hk
   refine hw k ?_
   rw [hxy]
   simp only [DataW.weights, ht]
   exact hk
  have e8 := slice_len hs g8 (fun k hk => hw' k (DataW.weights_mem_each (j := 8) (t := f8.type) (d := y8.1) rfl rfl k hk)) (p := x.pl) (n := x.m.ls.length) (cap := x.cl) rfl
  have e9 := slice_len hn g9 (fun k hk => hw' k (DataW.weights_mem_each (j := 9) (t := f9.type) (d := y9.1) rfl rfl k hk)) (p := x.pn) (n := x.m.ns.length) (cap := x.cn) rfl
  rw [bl] at e8
  rw [bq] at e9
  unfold reachBytes at e8 e9
  exact ⟨by omega, by omega⟩
theorem weights_mem_all {e : TypeId} : ∀ {ds : List (DataW H)} {d : DataW H}, d ∈ ds → ∀ n ∈ d.weights P e, n ∈ DataW.weightsAll P e ds
 | d0 :: ds, d, hd, n, hn => by
  unfold DataW.weightsAll
  rcases List.mem_cons.1 hd with rfl | hd
  ·exact List.mem_append_left _ hn
  ·exact List.mem_append_right _ (weights_mem_all hd n hn)
theorem msgs_of_open {t e : TypeId} {fuel : Nat} {a : Option Addr} {len cap : Nat} {x : DataW H × List MemPlace}
  (ht : P.underlying t = some (.slice e)) (ce : P.cellsOf e = 11)
  (rd : ∀ (fuel : Nat) (cs : List Value) (y : DataW H × List MemPlace), cs.length = 11 → DataW.trod enc P w base (fun _ => true) held fuel e cs = some y → ∃ x : MsgX, cs = x.cells ∧ x.In w)
  (sz : ∀ (fuel : Nat) (x : MsgX) (y : DataW H × List MemPlace), DataW.trod enc P w base (fun _ => true) held fuel e x.cells = some y → (∀ k ∈ DataW.weights P e y.1, k ≤ reachBytes) → x.m.Sz)
  (h : DataW.trod enc P w base (fun _ => true) held fuel t (Value.slice a len cap).cells.toList = some x) (hw : ∀ k ∈ DataW.weights P t x.1, k ≤ reachBytes) : ∃ xs : List MsgX, TRow encM w (.slice a len cap) xs ∧ ∀ y ∈ xs, y.In w ∧ y.m.Sz := by
 have h' : DataW.trod enc P w base (fun _ => true) held fuel t [.slice a len cap] = some x := by simpa [Value.cells] using h
 rcases Go.Deep.open_slice ht h' with ⟨hcs, _⟩ | ⟨a', len', cap', m, n, D, Pl, hcs, hb, hl, hm, hmm, rfl, hx⟩
 ·simp at hcs
  obtain ⟨rfl, rfl, rfl⟩ := hcs
  exact ⟨[], TRow.nil_ encM w, (fun _ h => by cases h)⟩
 ·simp at hcs
  obtain ⟨rfl, rfl, rfl⟩ := hcs
  have hlm : len ≤ m := by rw [hmm]; split <;> omega
  have each : ∀ i, i < len → ∃ y : MsgX, (y.In w ∧ y.m.Sz) ∧ ∀ t, t < 11 → w.cell? (a'.add (i * 11 + t)) = y.cells[t]? := by
   intro i hi
   obtain ⟨cs', h1, h2⟩ := hx i (by omega)
   rw [ce] at h1
   obtain ⟨_, hlen, hcell⟩ := World.cells?_some h1
   obtain ⟨y, rfl, hF⟩ := rd _ _ _ hlen h2
   refine ⟨y, ⟨hF, sz _ _ _ h2 (fun k hk => hw k ?_)⟩, fun t ht => ?_⟩
   ·simp only [DataW.weights, ht, List.mem_cons]
    exact .inr (List.mem_append_left _ (weights_mem_all (List.mem_map.2 ⟨i, List.mem_range.2 hi, rfl⟩) k hk))
   ·have e0 := hcell t (by omega)
    rw [Go.Deep.add_add] at e0
    rw [e0, List.getElem?_eq_getElem (by rw [hlen]; exact ht)]
  by_cases h0 : len = 0
  ·subst h0
   exact ⟨[], ⟨_, _, rfl, Nat.zero_le _, .inl rfl⟩, (fun _ h => by cases h)⟩
  ·obtain ⟨q0, _⟩ := each 0 (by omega)
   have each' : ∀ i, ∃ y : MsgX, i < len → (y.In w ∧ y.m.Sz) ∧ ∀ t, t < 11 → w.cell? (a'.add (i * 11 + t)) = y.cells[t]? := by
    intro i
    by_cases hi : i < len
    ·obtain ⟨y, hy⟩ := each i hi
     exact ⟨y, fun _ => hy⟩
    ·exact ⟨q0, fun h => absurd h hi⟩
   let q : Nat → MsgX := fun i => Classical.choose (each' i)
   have hq : ∀ i, i < len → ((q i).In w ∧ (q i).m.Sz) ∧ ∀ t, t < 11 → w.cell? (a'.add (i * 11 + t)) = (q i).cells[t]? := fun i => Classical.choose_spec (each' i)
   have hL : ((List.range len).map q).length = len := by simp
   refine ⟨(List.range len).map q, ⟨some a', cap, by rw [hL], by rw [hL]; exact hl, .inr ?_⟩, fun z hz => ?_⟩
   ·obtain ⟨b, off, spot⟩ := a'
    have h00 := (hq 0 (by omega)).2 0 (by decide)
    have hspot : spot = none := by simpa [Addr.add] using World.cell?_spot h00
    subst hspot
    refine ⟨b, off, rfl, ?_, fun i hi t ht => ?_⟩
    ·rw [addAt] at h00
     exact World.block_lt_of_cell? w _ h00
    ·rw [hL] at hi
     have := (hq i (by omega)).2 t ht
     rw [addAt] at this
     rw [show off + i * encM.k + t = off + (i * 11 + t) by show off + i * 11 + t = _; omega, this]
     simp
     rfl
   ·obtain ⟨i, hi, rfl⟩ := List.mem_map.1 hz
    exact (hq i (by have := List.mem_range.1 hi; omega)).1
end
end Go.Proofs.Ytboplnhgafbgbaa
namespace Go.Proofs.Ytboplnhgafbgbaa
open Go.ChangeShapes Go.WideShapes Go.ChangeAt Go.RowKit
theorem rowB_of_open {W : World} (x : Addr) (len cap : Nat) (B : Nat → Bool) (hl : len ≤ cap) (hm : cap ≤ maxLen) (hcell : ∀ i, i < cap → W.cell? (x.add i) = some (.bool (B i))) :
  ∃ bs, RowB W (.slice (some x) len cap) bs ∧ bs.length ≤ 9223372036854775807 := by
 refine ⟨(List.range len).map B, ⟨some x, cap, by simp, by simpa using hl, ?_⟩, by simp; unfold maxLen at hm; omega⟩
 by_cases h0 : len = 0
 ·left; subst h0; simp
 ·right
  obtain ⟨b, off, spot⟩ := x
  have hspot : spot = none := by simpa [Addr.add] using World.cell?_spot (hcell 0 (by omega))
  subst hspot
  refine ⟨b, off, rfl, fun i hi => ?_⟩
  simp at hi
  rw [← addAt, hcell i (by omega), List.getD_eq_getElem?_getD]
  simp [hi]
end Go.Proofs.Ytboplnhgafbgbaa
