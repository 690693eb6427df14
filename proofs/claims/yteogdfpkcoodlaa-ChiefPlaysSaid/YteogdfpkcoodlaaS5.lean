/- contraref18.offer by contract. contraref18.Do by contract. contralaw18.leads by contract. contraref11.Same by contract: a message is the same as itself. chief's Do in a law that writes into what is said: where the cycles lie, and where what is said. contralaw18.like by contract. contralaw18.fits by contract. -/
import Derived.Test.YteogdfpkcoodlaaS4
import Derived.Test.YteogdfpkcoodlaaS2
import Derived.Test.YteogdfpkcoodlaaS3
import Derived.Test.YteogdfpkcoodlaaS1
import Derived.Deep.RegionHeld3
import Derived.Deep.CutRange
import Derived.Deep.CutBlock
namespace Go.Proofs.Yteogdfpkcoodlaa
open Go.RowKit
set_option linter.unusedSimpArgs false
def DrX.setO1 (x : DrX) (j : Nat) : DrX := { x with o := fun i => if i = j then true else x.o i }
def DrX.setO2 (x : DrX) (j : Nat) (ls : List Lin) (p : Option Addr) (c : Nat) : DrX := { x with L := fun i => if i = j then ls else x.L i, p := fun i => if i = j then p else x.p i, c := fun i => if i = j then c else x.c i }
def DrX.setLs (x : DrX) (ls : List Lin) (p : Option Addr) (c : Nat) : DrX := { x with ls := ls, pl := p, cl := c }
def DrX.setNs (x : DrX) (ns : List Int) (p : Option Addr) (c : Nat) : DrX := { x with ns := ns, pn := p, cn := c }
theorem DrX.In.setO1 {P : Nat → Prop} {w : World} {x : DrX} (h : x.In P w) (j : Nat) : (x.setO1 j).In P w := ⟨h.of, h.oa, h.ls, h.al, h.ns, h.an⟩
theorem DrX.In.setO2 {P : Nat → Prop} {w : World} {x : DrX} (h : x.In P w) (j : Nat) {ls : List Lin} {p : Option Addr} {c : Nat} (hr : TRow encN w (.slice p ls.length c) ls) (ha : At P (.slice p ls.length c) ls.length) : (x.setO2 j ls p c).In P w := by
 refine ⟨fun i hi => ?_, fun i hi => ?_, h.ls, h.al, h.ns, h.an⟩
 ·show TRow encN w (.slice (if i = j then p else x.p i) (if i = j then ls else x.L i).length (if i = j then c else x.c i)) (if i = j then ls else x.L i)
  by_cases e : i = j
  ·rw [if_pos e, if_pos e, if_pos e]; exact hr
  ·rw [if_neg e, if_neg e, if_neg e]; exact h.of i hi
 ·show At P (.slice (if i = j then p else x.p i) (if i = j then ls else x.L i).length (if i = j then c else x.c i)) (if i = j then ls else x.L i).length
  by_cases e : i = j
  ·rw [if_pos e, if_pos e, if_pos e]; exact ha
  ·rw [if_neg e, if_neg e, if_neg e]; exact h.oa i hi
theorem DrX.In.setLs {P : Nat → Prop} {w : World} {x : DrX} (h : x.In P w) {ls : List Lin} {p : Option Addr} {c : Nat} (hr : TRow encN w (.slice p ls.length c) ls) (ha : At P (.slice p ls.length c) ls.length) : (x.setLs ls p c).In P w := ⟨h.of, h.oa, hr, ha, h.ns, h.an⟩
theorem DrX.In.setNs {P : Nat → Prop} {w : World} {x : DrX} (h : x.In P w) {ns : List Int} {p : Option Addr} {c : Nat} (hr : Row .i64 w (.slice p ns.length c) ns) (ha : At P (.slice p ns.length c) ns.length) : (x.setNs ns p c).In P w := ⟨h.of, h.oa, h.ls, h.al, hr, ha⟩
theorem DrX.arr_setO1 (x : DrX) (j : Nat) (hj : j < 8) : x.arr.setIfInBounds (2 + j) (.bool true) = (x.setO1 j).arr := by
 match j, hj with
 | 0, _ => rfl
 | 1, _ => rfl
 | 2, _ => rfl
 | 3, _ => rfl
 | 4, _ => rfl
 | 5, _ => rfl
 | 6, _ => rfl
 | 7, _ => rfl
theorem DrX.arr_setO2 (x : DrX) (j : Nat) (hj : j < 8) (ls : List Lin) (p : Option Addr) (c : Nat) : x.arr.setIfInBounds (18 + j) (.slice p ls.length c) = (x.setO2 j ls p c).arr := by
 match j, hj with
 | 0, _ => rfl
 | 1, _ => rfl
 | 2, _ => rfl
 | 3, _ => rfl
 | 4, _ => rfl
 | 5, _ => rfl
 | 6, _ => rfl
 | 7, _ => rfl
theorem DrX.arr_setLs (x : DrX) (ls : List Lin) (p : Option Addr) (c : Nat) : x.arr.setIfInBounds 26 (.slice p ls.length c) = (x.setLs ls p c).arr := rfl
theorem DrX.arr_setNs (x : DrX) (ns : List Int) (p : Option Addr) (c : Nat) : x.arr.setIfInBounds 27 (.slice p ns.length c) = (x.setNs ns p c).arr := rfl
theorem DrX.rn_offer {N : Nat} {x : DrX} {j : Nat} (hj : j < N) (ls : List Lin) (p : Option Addr) (c : Nat) : ((x.setO1 j).setO2 j ls p c).rn N = (x.rn N).offer j ls := by
 unfold Rn.offer
 rw [DrX.hs_at hj]
 unfold DrX.rn DrX.setO2 DrX.setO1
 simp only [Rn.mk.injEq, true_and, and_true]
 refine List.ext_getElem (by simp) (fun i h1 h2 => ?_)
 rw [List.getElem_set]
 simp only [List.getElem_map, List.getElem_range]
 by_cases h : j = i
 ·subst h; simp
 ·simp [h, Ne.symm h]
theorem any_notO {N : Nat} {x : DrX} : (x.rn N).hs.any (fun h => !h.o) = true ↔ ∃ i, i < N ∧ x.o i = false := by
 unfold DrX.rn
 simp only [List.any_eq_true, List.mem_map, List.mem_range]
 constructor
 ·rintro ⟨h, ⟨i, hi, rfl⟩, h2⟩
  exact ⟨i, hi, by simpa using h2⟩
 ·rintro ⟨i, hi, h2⟩
  exact ⟨_, ⟨i, hi, rfl⟩, by simp [h2]⟩
def DrX.ln (x : DrX) (i : Nat) : LnX := ⟨x.p i, x.c i, x.L i⟩
theorem DrX.lines (N : Nat) (x : DrX) : (x.rn N).hs.map Hd.ls = (List.range N).map x.L := by
 unfold DrX.rn
 rw [List.map_map]
 rfl
theorem LL.of_d {P : Nat → Prop} {w : World} {base N : Nat} {v : Value} {x : DrX} (h8 : N ≤ 8) (h : OwnT encL w base 33 v ((List.range N).map x.ln)) (hi : x.In P w) : LL w v ((List.range N).map x.L) := by
 obtain ⟨p, c, e, hc, hr⟩ := h.row
 refine ⟨p, c, by rw [e, List.length_map, List.length_map], by rw [List.length_map] at hc ⊢; exact hc, ?_⟩
 rcases hr with hr | ⟨b, o, hp, hb, hr⟩
 ·left
  rw [List.map_eq_nil_iff] at hr
  rw [hr]; rfl
 ·refine .inr ⟨b, o, hp, hb, fun i hi' => ?_⟩
  rw [List.length_map] at hi'
  have hiN : i < N := by simpa using hi'
  have h1 := hr i (by rw [List.length_map]; exact hi') 0 (by decide)
  rw [List.getElem_map, List.getElem_range] at h1
  have h1 : w.cell? ⟨b, o + i * 1 + 0, none⟩ = some (.slice (x.p i) (x.L i).length (x.c i)) := h1
  rw [Nat.mul_one, Nat.add_zero] at h1
  refine ⟨_, h1, ?_⟩
  rw [List.getElem_map, List.getElem_range]
  exact hi.of i (by omega)
theorem mine_lt {me : Int} {ls : List Lin} : (mineL me ls).length < ls.length ↔ ∃ x ∈ ls, mineB me x = false := by
 unfold mineL
 rw [List.length_filter_lt_length_iff_exists]
 simp
set_option linter.unusedSimpArgs false in
set_option maxHeartbeats 4000000 in
set_option maxRecDepth 100000 in
theorem doffer_any (w : World) (P : Nat → Prop) (N : Nat) (p : Option Addr) (n c : Nat) (rs : List Rn) (x : DrX) (y : MsgX) (j : Nat) (hrs : DsR P N w (.slice p n c) rs) (hn : n = rs.length) (hl : n ≤ 2000) (h8 : N ≤ 8) (h1N : 1 ≤ N) (hk1 : 1 ≤ y.m.y) (hk2 : y.m.y ≤ n) (hx : x.In P w) (hxr : x.rn N = rnAt rs y.m.y) (hj : j < N) (hy : y.InP P w) (hyl : y.m.ls.length ≤ 60) (hok : ∀ h ∈ (rnAt rs y.m.y).hs, fitE (N : Int) h.ls = 0 ∧ h.ls.length ≤ 60) :
  Calls Try.prog 19 #[.agg #[.int .i64 (N : Int), .slice p n c], x.v, y.m.v (.slice y.pl y.m.ls.length y.cl) (.slice y.pn y.m.ns.length y.cn), .int .i64 (j : Int)] w (DP w P N (offerC N rs y.m j)) := by
 obtain ⟨ym, ypl, ycl, ypn, ycn⟩ := y
 dsimp only at hy hyl hok hxr hk1 hk2 ⊢
 have HYI : Hid (TRow encN w (.slice ypl ym.ls.length ycl) ym.ls ∧ At (fun b => P b ∧ b < w.heap.size) (.slice ypl ym.ls.length ycl) ym.ls.length) := Lib.hid ⟨hy.ls, At.ltT hy.ls hy.al⟩
 have HYL : Hid (ym.ls.length ≤ 60) := Lib.hid hyl
 have HFO := Lib.hid hok
 have HN1 : Hid (1 ≤ N) := Lib.hid h1N
 clear hy hyl hok h1N
 have HRS := Lib.hid hrs.lt
 have HXI := Lib.hid hx.lt
 have HXR := Lib.hid hxr
 have HNN : Hid (N ≤ 8) := Lib.hid h8
 have HKK : Hid (n = rs.length ∧ n ≤ 2000) := Lib.hid ⟨hn, hl⟩
 have HYK : Hid (1 ≤ ym.y ∧ ym.y ≤ n) := Lib.hid ⟨hk1, hk2⟩
 have HJN : Hid (j < N) := Lib.hid hj
 clear hrs h8 hn hl hx hxr hk1 hk2 hj
 unfold DP
 obtain ⟨⟨RS, OU, ER⟩, hA⟩ : ∃ A, offerC N rs ym j = A := ⟨_, rfl⟩
 rw [hA]
 have HA := Lib.hid hA
 clear hA
 dsimp only
 unfold Msg.v DrX.v
 have HB0 : Hid (Below w.heap.size w ((((w.alloc (.cells #[.int .i64 (N : Int), .slice p n c] 30)).alloc (.cells x.arr 76)).alloc (.cells #[.int .i64 ym.k, .int .i64 ym.s, .int .i64 ym.n, .int .i64 ym.b, .int .i64 ym.c, .int .i64 ym.r, .int .i64 ym.y, .int .i64 ym.a, .bool ym.t, .slice ypl ym.ls.length ycl, .slice ypn ym.ns.length ycn] 36)).alloc (.cells #[.int .i64 0, .slice none 0 0] 30))) := Lib.hid (((((oneB w _).alloc (by simp <;> omega) _).alloc (by simp <;> omega) _).alloc (by simp <;> omega) _))
 have Hc0 : Hid (Blk ((((w.alloc (.cells #[.int .i64 (N : Int), .slice p n c] 30)).alloc (.cells x.arr 76)).alloc (.cells #[.int .i64 ym.k, .int .i64 ym.s, .int .i64 ym.n, .int .i64 ym.b, .int .i64 ym.c, .int .i64 ym.r, .int .i64 ym.y, .int .i64 ym.a, .bool ym.t, .slice ypl ym.ls.length ycl, .slice ypn ym.ns.length ycn] 36)).alloc (.cells #[.int .i64 0, .slice none 0 0] 30)) w.heap.size #[.int .i64 (N : Int), .slice p n c] 30) := Lib.hid ((((Blk.new w #[.int .i64 (N : Int), .slice p n c] 30).alloc _).alloc _).alloc _)
 have Hx0 : Hid (Blk ((((w.alloc (.cells #[.int .i64 (N : Int), .slice p n c] 30)).alloc (.cells x.arr 76)).alloc (.cells #[.int .i64 ym.k, .int .i64 ym.s, .int .i64 ym.n, .int .i64 ym.b, .int .i64 ym.c, .int .i64 ym.r, .int .i64 ym.y, .int .i64 ym.a, .bool ym.t, .slice ypl ym.ls.length ycl, .slice ypn ym.ns.length ycn] 36)).alloc (.cells #[.int .i64 0, .slice none 0 0] 30)) (w.heap.size + 1) x.arr 76) := Lib.hid (((Blk.new' (w.alloc (.cells #[.int .i64 (N : Int), .slice p n c] 30)) x.arr 76 (by simp)).alloc _).alloc _)
 have Hm0 : Hid (Blk ((((w.alloc (.cells #[.int .i64 (N : Int), .slice p n c] 30)).alloc (.cells x.arr 76)).alloc (.cells #[.int .i64 ym.k, .int .i64 ym.s, .int .i64 ym.n, .int .i64 ym.b, .int .i64 ym.c, .int .i64 ym.r, .int .i64 ym.y, .int .i64 ym.a, .bool ym.t, .slice ypl ym.ls.length ycl, .slice ypn ym.ns.length ycn] 36)).alloc (.cells #[.int .i64 0, .slice none 0 0] 30)) (w.heap.size + 1 + 1) #[.int .i64 ym.k, .int .i64 ym.s, .int .i64 ym.n, .int .i64 ym.b, .int .i64 ym.c, .int .i64 ym.r, .int .i64 ym.y, .int .i64 ym.a, .bool ym.t, .slice ypl ym.ls.length ycl, .slice ypn ym.ns.length ycn] 36) := Lib.hid ((Blk.new' ((w.alloc (.cells #[.int .i64 (N : Int), .slice p n c] 30)).alloc (.cells x.arr 76)) #[.int .i64 ym.k, .int .i64 ym.s, .int .i64 ym.n, .int .i64 ym.b, .int .i64 ym.c, .int .i64 ym.r, .int .i64 ym.y, .int .i64 ym.a, .bool ym.t, .slice ypl ym.ls.length ycl, .slice ypn ym.ns.length ycn] 36 (by simp)).alloc _)
 have Hr0 : Hid (Blk ((((w.alloc (.cells #[.int .i64 (N : Int), .slice p n c] 30)).alloc (.cells x.arr 76)).alloc (.cells #[.int .i64 ym.k, .int .i64 ym.s, .int .i64 ym.n, .int .i64 ym.b, .int .i64 ym.c, .int .i64 ym.r, .int .i64 ym.y, .int .i64 ym.a, .bool ym.t, .slice ypl ym.ls.length ycl, .slice ypn ym.ns.length ycn] 36)).alloc (.cells #[.int .i64 0, .slice none 0 0] 30)) (w.heap.size + 1 + 1 + 1) #[.int .i64 0, .slice none 0 0] 30) := Lib.hid (Blk.new' (((w.alloc (.cells #[.int .i64 (N : Int), .slice p n c] 30)).alloc (.cells x.arr 76)).alloc (.cells #[.int .i64 ym.k, .int .i64 ym.s, .int .i64 ym.n, .int .i64 ym.b, .int .i64 ym.c, .int .i64 ym.r, .int .i64 ym.y, .int .i64 ym.a, .bool ym.t, .slice ypl ym.ls.length ycl, .slice ypn ym.ns.length ycn] 36)) #[.int .i64 0, .slice none 0 0] 30 (by simp))
 have HZ0 : Hid (w.heap.size ≤ ((((w.alloc (.cells #[.int .i64 (N : Int), .slice p n c] 30)).alloc (.cells x.arr 76)).alloc (.cells #[.int .i64 ym.k, .int .i64 ym.s, .int .i64 ym.n, .int .i64 ym.b, .int .i64 ym.c, .int .i64 ym.r, .int .i64 ym.y, .int .i64 ym.a, .bool ym.t, .slice ypl ym.ls.length ycl, .slice ypn ym.ns.length ycn] 36)).alloc (.cells #[.int .i64 0, .slice none 0 0] 30)).heap.size) := Lib.hid HB0.out.size
 go_enter Try.func19, Try.ntmps19
 go_upto_region 1 with fail
 generalize ((((w.alloc (.cells #[.int .i64 (N : Int), .slice p n c] 30)).alloc (.cells x.arr 76)).alloc (.cells #[.int .i64 ym.k, .int .i64 ym.s, .int .i64 ym.n, .int .i64 ym.b, .int .i64 ym.c, .int .i64 ym.r, .int .i64 ym.y, .int .i64 ym.a, .bool ym.t, .slice ypl ym.ls.length ycl, .slice ypn ym.ns.length ycn] 36)).alloc (.cells #[.int .i64 0, .slice none 0 0] 30)) = W at *
 have HWL : Hid (w.heap.size + 1 + 1 + 1 < W.heap.size) := Lib.hid Hr0.out.lt
 have x1 : W.cell? ⟨w.heap.size + 1, 1, none⟩ = some (.int .i64 x.st) := Hx0.out.cell 1
 by_cases hs2 : x.st = 1
 ·skip
  have hs3 : (x.st == 1) = true := by simpa using hs2
  have hs4 : (x.st != 1) = false := by simpa using hs2
  have HS2 : Hid ((rnAt rs ym.y).st = 1) := Lib.hid (by rw [← HXR.out]; exact hs2)
  clear hs2
  go_upto_region 3 with fail
  clear x1 hs3 hs4
  have hj8 : j < 8 := by have := HJN.out; have := HNN.out; omega
  obtain ⟨tj, htj⟩ : ∃ t, x.o j = t := ⟨_, rfl⟩
  have xt : W.cell? ⟨w.heap.size + 1, 2 + j, none⟩ = some (.bool tj) := by rw [← htj]; exact (Hx0.out.cell (2 + j)).trans (x.arr_o j hj8)
  have HTJ : Hid (((rnAt rs ym.y).hs.getD j hd0).o = tj) := Lib.hid (by rw [← HXR.out, DrX.hs_at HJN.out]; exact htj)
  clear htj
  cases tj
  ·skip
   go_upto_region 5 with fail
   clear xt hj8
   generalize hln : ym.ls.length = L at *
   have HLN : Hid (ym.ls.length = L) := Lib.hid hln
   clear hln
   have HREL : Hid (Below W.heap.size W W ∧ (ym.ls.take 0).all (mineB (j : Int)) = true) := Lib.hid ⟨Below.refl _ _, rfl⟩
   go_wp2_with fail
   go_loopw [11] (fun i wr => ∃ k : Nat, k ≤ L ∧ i = .int .i64 k ∧ Hid (Below W.heap.size W wr ∧ (ym.ls.take k).all (mineB (j : Int)) = true)) (fun i _ => L - (intOf i).toNat)
   case atStart => exact ⟨0, by omega, rfl, HREL⟩
   case round =>
    clear HREL
    obtain ⟨k, hk, rfl, HK⟩ := hrel
    have hk9 : k + 1 ≤ 61 := by have := HYL.out; omega
    have hbk := HK.out.1
    have Hc1 := kbq Hc0 hbk
    have Hx1 := kbq Hx0 hbk
    have Hm1 := kbq Hm0 hbk
    have Hr1 := kbq Hr0 hbk
    have HB1 := ktq HB0 hbk
    have HZ1 := kzq HZ0 hbk.size
    clear Hc0 Hx0 Hm0 Hr0 HB0 HZ0
    clear hbk
    by_cases hlt : k < L
    ·skip
     have hltI : (k : Int) < (L : Int) := by omega
     have HLT : Hid (k < L) := Lib.hid hlt
     have hkl : k < ym.ls.length := by have := HLN.out; omega
     have hyr := HYI.out.1
     obtain ⟨lb, lo, hp, hbl, hcs⟩ := (hyr.kept HB1.out).at_ k hkl
     obtain ⟨l, hl⟩ : ∃ l, ym.ls[k] = l := ⟨_, rfl⟩
     rw [hl] at hcs
     subst hp
     have e0 : wr.cell? ⟨lb, lo + k * 4, none⟩ = some (.int .i64 l.s) := hcs 0 (by decide)
     have e2 : wr.cell? ⟨lb, lo + k * 4 + 2, none⟩ = some (.int .i64 l.b) := hcs 2 (by decide)
     have HLK : Hid (ym.ls[k]? = some l) := Lib.hid (by rw [List.getElem?_eq_getElem hkl, hl])
     have HTA : Hid ((ym.ls.take (k + 1)).all (mineB (j : Int)) = mineB (j : Int) l) := Lib.hid (by rw [List.take_succ_eq_append_getElem hkl, List.all_append, HK.out.2, hl]; simp)
     clear hcs hbl hkl hl hyr hk
     have m9 : wr.cell? ⟨w.heap.size + 1 + 1, 9, none⟩ = some (.slice (some ⟨lb, lo, none⟩) L ycl) := Hm1.out.cell 9
     cases hs : (l.s == (j : Int))
     ·skip
      have hsb : (l.s != (j : Int)) = true := by rw [bne, hs]; rfl
      cases hb : (l.b == (j : Int))
      ·skip
       have hbb : (l.b != (j : Int)) = true := by rw [bne, hb]; rfl
       have HMI : Hid (mineB (j : Int) l = false) := Lib.hid (by
        unfold mineB
        have h1 : l.s ≠ (j : Int) := by simpa using hs
        have h2 : l.b ≠ (j : Int) := by simpa using hb
        exact decide_eq_false (by omega))
       go_upto_region 9 with fail
       clear hltI m9 e0 e2 hlt hs hsb hb hbb
       have hA := HA.out
       rw [show offerC N rs ym j = (rs, [], 140) from by unfold offerC; rw [if_neg (by rw [HS2.out]; decide), if_neg (by rw [HTJ.out]; decide), if_pos (mine_lt.2 ⟨l, List.mem_of_getElem? HLK.out, HMI.out⟩)]] at hA
       cases hA
       have a0 : wr.cell? ⟨w.heap.size, 0, none⟩ = some (.int .i64 (N : Int)) := Hc1.out.cell 0
       have a1 : wr.cell? ⟨w.heap.size, 1, none⟩ = some (.slice p n c) := Hc1.out.cell 1
       go_wp2_with (with_reducible refine stop_storeT 30 (.tmp 8) (.tmp 53) rfl ?_)
       clear a0 a1
       have HTH : Hid (wr.there (w.heap.size + 1 + 1 + 1) 0 2) := Hr1.out.thereAt
       have hch : Hid (Chg (w.heap.size + 1 + 1 + 1) wr (wr.setCells (w.heap.size + 1 + 1 + 1) 0 (#[.int .i64 (N : Int), .slice p n c] : Array Value).toList)) := Lib.hid (chg_putL _ _ _ _ _ (Chg.refl _ wr))
       have Hr2 : Hid (Blk (wr.setCells (w.heap.size + 1 + 1 + 1) 0 (#[.int .i64 (N : Int), .slice p n c] : Array Value).toList) (w.heap.size + 1 + 1 + 1) #[.int .i64 (N : Int), .slice p n c] 30) := Lib.hid (blk_put_all Hr1.out _ rfl)
       have HB2 : Hid (Below w.heap.size w (wr.setCells (w.heap.size + 1 + 1 + 1) 0 (#[.int .i64 (N : Int), .slice p n c] : Array Value).toList)) := Lib.hid (below_put (by omega) _ _ _ _ HB1.out)
       have HZ2 := kzq HZ1 hch.out.size
       have Hc2 := kcq Hc1 hch (by omega)
       have Hx2 := kcq Hx1 hch (by omega)
       have Hm2 := kcq Hm1 hch (by omega)
       clear hch Hc1 Hx1 Hm1 Hr1 HB1 HZ1
       refine wpList_store_mid rfl 30 (.tmp 8) (.tmp 53) rfl (w.heap.size + 1 + 1 + 1) 0 #[.int .i64 (N : Int), .slice p n c] rfl rfl HTH.out (infoDC rfl) (all_oneCell_toArray (by intro u hu; simp at hu; rcases hu with rfl | rfl <;> rfl)) ?_
       generalize (wr.setCells (w.heap.size + 1 + 1 + 1) 0 (#[.int .i64 (N : Int), .slice p n c] : Array Value).toList) = W2 at *
       clear HTH
       go_wp2_with fail
       have hfr := Hr2.out
       refine bodyPost_ret (v := .tuple #[.agg #[.int .i64 (N : Int), .slice p n c], .slice none 0 0, .int .i64 140]) (by simp [results, Try.results19, go_sem, hfr.cell 0, hfr.cell 1]) rfl ⟨_, _, _, none, 0, 0, rfl, HKK.out.1, rfl, ((HRS.out.kept HB2.out).imp (fun b h => .inl h.1)), SdR.nil_ _ _, HB2.out⟩
      ·skip
       have hbb : (l.b != (j : Int)) = false := by rw [bne, hb]; rfl
       have HC : Hid True := Lib.hid trivial
       have HNX : Hid (Below W.heap.size W wr ∧ (ym.ls.take (k + 1)).all (mineB (j : Int)) = true) := Lib.hid ⟨HK.out.1, by rw [HTA.out]; unfold mineB; exact decide_eq_true (.inr (by simpa using hb))⟩
       clear Hc1 Hx1 Hm1 Hr1 HB1 HZ1 HK HTA HLK
       go_upto_region 7 with fail
       clear hltI m9 e0 e2 hlt HC hs hsb hb hbb
       go_wp2_with fail
       go_roundw
       case rel => exact ⟨k + 1, by have := HLT.out; omega, by go_num, HNX⟩
       case measure => have := HLT.out; simp [intOf]; omega
     ·skip
      have hsb : (l.s != (j : Int)) = false := by rw [bne, hs]; rfl
      have HC : Hid True := Lib.hid trivial
      have HNX : Hid (Below W.heap.size W wr ∧ (ym.ls.take (k + 1)).all (mineB (j : Int)) = true) := Lib.hid ⟨HK.out.1, by rw [HTA.out]; unfold mineB; exact decide_eq_true (.inl (by simpa using hs))⟩
      clear Hc1 Hx1 Hm1 Hr1 HB1 HZ1 HK HTA HLK
      go_upto_region 7 with fail
      clear hltI m9 e0 e2 hlt HC hs hsb
      go_wp2_with fail
      go_roundw
      case rel => exact ⟨k + 1, by have := HLT.out; omega, by go_num, HNX⟩
      case measure => have := HLT.out; simp [intOf]; omega
    ·skip
     have hltI : ¬ (k : Int) < (L : Int) := by omega
     have HMN : Hid (¬ (mineL (j : Int) ym.ls).length < ym.ls.length) := Lib.hid (fun h => by
      obtain ⟨l, hl, h1⟩ := mine_lt.1 h
      have h2 := HK.out.2
      rw [List.take_of_length_le (by rw [HLN.out]; omega), List.all_eq_true] at h2
      rw [h2 l hl] at h1
      cases h1)
     have m9 : wr.cell? ⟨w.heap.size + 1 + 1, 9, none⟩ = some (.slice ypl L ycl) := Hm1.out.cell 9
     clear hk hlt HK hk9
     go_upto_region 10 with fail
     clear hltI m9
     generalize wr = V at *
     obtain ⟨fe, hfe⟩ : ∃ f, fitE (N : Int) ym.ls = f := ⟨_, rfl⟩
     have HG := Lib.hid (rfits_any V (N : Int) (.slice ypl L ycl) ym.ls (HYI.out.1.kept HB1.out) (by have := HYL.out; have := HLN.out; omega))
     rw [hfe] at HG
     have HFE := Lib.hid hfe
     clear hfe
     have a0 : V.cell? ⟨w.heap.size, 0, none⟩ = some (.int .i64 (N : Int)) := Hc1.out.cell 0
     have m9 : V.cell? ⟨w.heap.size + 1 + 1, 9, none⟩ = some (.slice ypl L ycl) := Hm1.out.cell 9
     go_wp2_with fail
     clear a0 m9
     refine HG.out.mono ?_
     rintro y9 w1 ⟨rfl, hb⟩
     clear HG
     have Hc2 := kbq Hc1 hb
     have Hx2 := kbq Hx1 hb
     have Hm2 := kbq Hm1 hb
     have Hr2 := kbq Hr1 hb
     have HB2 := ktq HB1 hb
     have HZ2 := kzq HZ1 hb.size
     clear Hc1 Hx1 Hm1 Hr1 HB1 HZ1
     clear hb
     by_cases hf0 : fe = 0
     ·skip
      subst hf0
      have HF0 : Hid (¬ fitE (N : Int) ym.ls ≠ 0) := Lib.hid (by rw [HFE.out]; decide)
      go_upto_region 13 with fail
      have hj8 : j < 8 := by have := HJN.out; have := HNN.out; omega
      have z9 : w1.cell? ⟨w.heap.size + 1, 2 + j, none⟩ = some (.bool (x.o j)) := (Hx2.out.cell (2 + j)).trans (x.arr_o j hj8)
      have f9 := Hx2.out.free (2 + j)
      go_upto_region 14 with fail
      clear z9 f9 
      have hch := Lib.hid ((Chg.refl (w.heap.size + 1) w1).set (2 + j) (.bool true))
      have Hx3 : Hid (Blk (w1.setCell ⟨w.heap.size + 1, 2 + j, none⟩ (.bool true)) (w.heap.size + 1) (x.setO1 j).arr 76) := Lib.hid (by have h := Hx2.out.set (2 + j) (.bool true); rwa [x.arr_setO1 j (by have := HJN.out; have := HNN.out; omega)] at h)
      have HB3 := ksq HB2 hch (by show w.heap.size ≤ (w.heap.size + 1); omega)
      have HZ3 := kzq HZ2 hch.out.size
      have Hc3 := kcq Hc2 hch (by omega)
      have Hm3 := kcq Hm2 hch (by omega)
      have Hr3 := kcq Hr2 hch (by omega)
      clear hch Hc2 Hx2 Hm2 Hr2 HB2 HZ2
      generalize (w1.setCell ⟨w.heap.size + 1, 2 + j, none⟩ (.bool true)) = W2 at *
      have z9 : W2.cell? ⟨w.heap.size + 1, 18 + j, none⟩ = some (.slice (x.p j) (x.L j).length (x.c j)) := (Hx3.out.cell (18 + j)).trans ((x.setO1 j).arr_p j hj8)
      have f9 := Hx3.out.free (18 + j)
      have m9 : W2.cell? ⟨w.heap.size + 1 + 1, 9, none⟩ = some (.slice ypl L ycl) := Hm3.out.cell 9
      go_upto_region 15 with fail
      clear z9 f9 m9
      have hch := Lib.hid ((Chg.refl (w.heap.size + 1) W2).set (18 + j) (.slice ypl L ycl))
      have Hx4 : Hid (Blk (W2.setCell ⟨w.heap.size + 1, 18 + j, none⟩ (.slice ypl L ycl)) (w.heap.size + 1) ((x.setO1 j).setO2 j ym.ls ypl ycl).arr 76) := Lib.hid (by have h := Hx3.out.set (18 + j) (.slice ypl L ycl); rwa [show (x.setO1 j).arr.setIfInBounds (18 + j) (.slice ypl L ycl) = ((x.setO1 j).setO2 j ym.ls ypl ycl).arr from by rw [← HLN.out]; exact (x.setO1 j).arr_setO2 j (by have := HJN.out; have := HNN.out; omega) _ _ _] at h)
      have HB4 := ksq HB3 hch (by show w.heap.size ≤ (w.heap.size + 1); omega)
      have HZ4 := kzq HZ3 hch.out.size
      have Hc4 := kcq Hc3 hch (by omega)
      have Hm4 := kcq Hm3 hch (by omega)
      have Hr4 := kcq Hr3 hch (by omega)
      clear hch Hc3 Hx3 Hm3 Hr3 HB3 HZ3
      generalize (W2.setCell ⟨w.heap.size + 1, 18 + j, none⟩ (.slice ypl L ycl)) = W3 at *
      clear hj8
      have HXO : Hid (((x.setO1 j).setO2 j ym.ls ypl ycl).In (fun b => P b ∧ b < w.heap.size) w) := Lib.hid ((HXI.out.setO1 j).setO2 j (by rw [HLN.out]; exact HYI.out.1) (by rw [HLN.out]; exact HYI.out.2))
      have HVR : Hid (((x.setO1 j).setO2 j ym.ls ypl ycl).rn N = (rnAt rs ym.y).offer j ym.ls) := Lib.hid (by rw [DrX.rn_offer HJN.out, HXR.out])
      obtain ⟨X, hX⟩ : ∃ X, (x.setO1 j).setO2 j ym.ls ypl ycl = X := ⟨_, rfl⟩
      rw [hX] at HXO HVR Hx4
      have HFX : Hid (∀ h ∈ (X.rn N).hs, fitE (N : Int) h.ls = 0 ∧ h.ls.length ≤ 60) := Lib.hid (fun h hh => by
       rw [HVR.out] at hh
       rcases List.mem_or_eq_of_mem_set hh with h' | h'
       ·exact HFO.out h h'
       ·subst h'; exact ⟨HFE.out, (by show ym.ls.length ≤ 60; have := HYL.out; have := HLN.out; omega)⟩)
      clear hX
      have HREL : Hid (OwnT encL W3 W3.heap.size 33 (.slice none 0 0) ((List.range 0).map X.ln) ∧ Below W3.heap.size W3 W3 ∧ ∀ i, i < 0 → X.o i = true) := Lib.hid ⟨OwnT.nil_ _ _ _ _, Below.refl _ _, fun _ h => absurd h (Nat.not_lt_zero _)⟩
      go_wp2_with fail
      go_loopw [13, 14] (fun v i wr => ∃ k : Nat, k ≤ N ∧ i = .int .i64 k ∧ Hid (OwnT encL wr W3.heap.size 33 v ((List.range k).map X.ln) ∧ Below W3.heap.size W3 wr ∧ ∀ i, i < k → X.o i = true)) (fun _ i _ => N - (intOf i).toNat)
      case atStart => exact ⟨0, by omega, rfl, HREL⟩
      case round =>
       clear HREL
       obtain ⟨k, hk, rfl, HK⟩ := hrel
       have hk9 : k + 1 ≤ 9 := by have := HNN.out; omega
       obtain ⟨pz, cz, hvz⟩ := HK.out.1.form
       have HZL : Hid (((List.range k).map X.ln).length = k) := Lib.hid (by simp)
       rw [HZL.out] at hvz
       subst hvz
       have hbk := HK.out.2.1
       have Hc5 := kbq Hc4 hbk
       have Hx5 := kbq Hx4 hbk
       have Hm5 := kbq Hm4 hbk
       have Hr5 := kbq Hr4 hbk
       have HB5 := ktq HB4 hbk
       have HZ5 := kzq HZ4 hbk.size
       clear Hc4 Hx4 Hm4 Hr4 HB4 HZ4
       clear hbk
       by_cases hlt : k < N
       ·skip
        have hltI : (k : Int) < (N : Int) := by omega
        have HLT : Hid (k < N) := Lib.hid hlt
        have hk8 : k < 8 := by have := HNN.out; omega
        have a0 : wr.cell? ⟨w.heap.size, 0, none⟩ = some (.int .i64 (N : Int)) := Hc5.out.cell 0
        obtain ⟨tk, htk⟩ : ∃ t, X.o k = t := ⟨_, rfl⟩
        have xt : wr.cell? ⟨w.heap.size + 1, 2 + k, none⟩ = some (.bool tk) := by rw [← htk]; exact (Hx5.out.cell (2 + k)).trans (X.arr_o k hk8)
        have HTK := Lib.hid htk
        clear htk hk hlt
        cases tk
        ·skip
         go_upto_region 20 with fail
         clear hltI a0 xt hk8
         have hA := HA.out
         rw [show offerC N rs ym j = (rs.set (ym.y - 1).toNat (X.rn N), [], 0) from by unfold offerC; rw [if_neg (by rw [HS2.out]; decide), if_neg (by rw [HTJ.out]; decide), if_neg HMN.out, if_neg HF0.out, ← HVR.out, if_pos (any_notO.2 ⟨k, HLT.out, HTK.out⟩)]] at hA
         cases hA
         have HG := Lib.hid (dwith_any wr (fun b => P b ∧ b < w.heap.size) N ym.y p n c rs (X) (HRS.out.kept HB5.out) HKK.out.1 HKK.out.2 HYK.out.1 HYK.out.2 (HXO.out.kept HB5.out))
         have HWC : Hid (w.heap.size ≤ wr.heap.size ∧ w.heap.size + 1 + 1 + 1 < wr.heap.size) := Lib.hid ⟨HZ5.out, Hr5.out.lt⟩
         unfold DrX.v at HG
         have a0 : wr.cell? ⟨w.heap.size, 0, none⟩ = some (.int .i64 (N : Int)) := Hc5.out.cell 0
         have a1 : wr.cell? ⟨w.heap.size, 1, none⟩ = some (.slice p n c) := Hc5.out.cell 1
         have m6 : wr.cell? ⟨(w.heap.size + 1 + 1), 6, none⟩ = some (.int .i64 ym.y) := Hm5.out.cell 6
         go_wp2_with (with_reducible refine stop_loadT 76 (.tmp 5) rfl ?_)
         refine wpList_loadD rfl (.tmp 5) rfl (w.heap.size + 1) 0 rfl (X) (dcell Hx5.out) ?_
         go_wp2_with fail
         clear a0 a1 m6 
         refine HG.out.mono ?_
         rintro y9 w3 ⟨p3, c3, rfl, hq, hb⟩
         clear HG
         have HQ := Lib.hid hq.lt
         clear hq
         have Hc6 := kbq Hc5 hb
         have Hx6 := kbq Hx5 hb
         have Hm6 := kbq Hm5 hb
         have Hr6 := kbq Hr5 hb
         have HB6 := ktq HB5 hb
         have HZ6 := kzq HZ5 hb.size
         clear Hc5 Hx5 Hm5 Hr5 HB5 HZ5
         clear hb
         go_wp2_with (with_reducible refine stop_storeT 30 (.tmp 8) (.tmp 86) rfl ?_)
         have HTH : Hid (w3.there (w.heap.size + 1 + 1 + 1) 0 2) := Hr6.out.thereAt
         have hch : Hid (Chg (w.heap.size + 1 + 1 + 1) w3 (w3.setCells (w.heap.size + 1 + 1 + 1) 0 (#[.int .i64 (N : Int), .slice p3 n c3] : Array Value).toList)) := Lib.hid (chg_putL _ _ _ _ _ (Chg.refl _ w3))
         have Hr7 : Hid (Blk (w3.setCells (w.heap.size + 1 + 1 + 1) 0 (#[.int .i64 (N : Int), .slice p3 n c3] : Array Value).toList) (w.heap.size + 1 + 1 + 1) #[.int .i64 (N : Int), .slice p3 n c3] 30) := Lib.hid (blk_put_all Hr6.out _ rfl)
         have HB7 : Hid (Below w.heap.size w (w3.setCells (w.heap.size + 1 + 1 + 1) 0 (#[.int .i64 (N : Int), .slice p3 n c3] : Array Value).toList)) := Lib.hid (below_put (by omega) _ _ _ _ HB6.out)
         have HZ7 := kzq HZ6 hch.out.size
         have Hc7 := kcq Hc6 hch (by omega)
         have Hx7 := kcq Hx6 hch (by omega)
         have Hm7 := kcq Hm6 hch (by omega)
         have HQ4 := Lib.hid (HQ.out.chg hch.out (by intro h; (try dsimp only at h); have h1 := HWC.out; rcases h.1 with h3 | h3; (have := h3.2; omega); omega))
         clear HQ
         clear hch Hc6 Hx6 Hm6 Hr6 HB6 HZ6
         refine wpList_store_mid rfl 30 (.tmp 8) (.tmp 86) rfl (w.heap.size + 1 + 1 + 1) 0 #[.int .i64 (N : Int), .slice p3 n c3] rfl rfl HTH.out (infoDC rfl) (all_oneCell_toArray (by intro u hu; simp at hu; rcases hu with rfl | rfl <;> rfl)) ?_
         generalize (w3.setCells (w.heap.size + 1 + 1 + 1) 0 (#[.int .i64 (N : Int), .slice p3 n c3] : Array Value).toList) = W4 at *
         clear HTH
         go_wp2_with fail
         have hfr := Hr7.out
         refine bodyPost_ret (v := .tuple #[.agg #[.int .i64 (N : Int), .slice p3 n c3], .slice none 0 0, .int .i64 0]) (by simp [results, Try.results19, go_sem, hfr.cell 0, hfr.cell 1]) rfl ⟨p3, n, c3, none, 0, 0, rfl, (by rw [List.length_set]; exact HKK.out.1), rfl, (by exact HQ4.out.imp (Q := fun b => P b ∨ w.heap.size ≤ b) (fun b h => by have h1 := HWC.out; rcases h.1 with h2 | h2; exact .inl h2.1; exact .inr (by omega))), SdR.nil_ _ _, HB7.out⟩
        ·skip
         have xp : wr.cell? ⟨w.heap.size + 1, 18 + k, none⟩ = some (.slice (X.p k) (X.L k).length (X.c k)) := (Hx5.out.cell (18 + k)).trans (X.arr_p k hk8)
         go_upto_region 21 with fail
         clear xt
         have HBZ := Lib.hid (oneB wr (.cells #[.slice (X.p k) (X.L k).length (X.c k)] 33))
         have HTKK : Hid ((List.range k).map X.ln ++ [X.ln k] = (List.range (k + 1)).map X.ln) := Lib.hid (by rw [List.range_succ, List.map_append]; rfl)
         go_wp2_with (at_builtin; with_reducible refine stop_appendT (.tmp 87) (.tmp 92) 93 rfl ?_)
         clear a0 xp hltI hk8
         refine wpList_append_t rfl (.tmp 87) (.tmp 92) 93 rfl 33 (.slice none 0 0) 24 W3.heap.size eltL rfl (by decide) (.slice pz k cz) (.slice (some ⟨wr.heap.size, 0, none⟩) 1 1) ((List.range k).map X.ln) [X.ln k] rfl rfl (HK.out.1.later HBZ.out) (TRow.one_ encL (X.ln k) (Blk.new wr #[.slice (X.p k) (X.L k).length (X.c k)] 33) rfl (Nat.le_refl 1)) (by have := HZL.out; simp only [List.length_singleton]; omega) (by have := HK.out.2.1.size; have := HBZ.out.size; omega) ((List.range (k + 1)).map X.ln) (k + 1) HTKK.out (by simp) ?_
         intro p8 c8 w8 ho _ hb8
         have HNX : Hid (OwnT encL w8 W3.heap.size 33 (.slice p8 (k + 1) c8) ((List.range (k + 1)).map X.ln) ∧ Below W3.heap.size W3 w8 ∧ ∀ i, i < (k + 1) → X.o i = true) := Lib.hid ⟨ho, (HK.out.2.1.trans (HBZ.out.mono HK.out.2.1.size)).trans hb8, fun i hi => by
          by_cases e : i = k
          ·rw [e]; exact HTK.out
          ·exact HK.out.2.2 i (by omega)⟩
         clear ho hb8 HBZ HTKK HK HTK Hc5 Hx5 Hm5 Hr5 HB5 HZ5
         go_wp2_with fail
         go_roundw
         case rel => exact ⟨k + 1, by have := HLT.out; omega, by go_num, HNX⟩
         case measure => have := HLT.out; simp [intOf]; omega
       ·skip
        have hltI : ¬ (k : Int) < (N : Int) := by omega
        have HAL : Hid (¬ ((X.rn N).hs.any (fun h => !h.o) = true)) := Lib.hid (fun h => by
         obtain ⟨i, hi, h1⟩ := any_notO.1 h
         rw [HK.out.2.2 i (by omega)] at h1
         cases h1)
        obtain rfl : N = k := by omega
        have HLS : Hid (LL wr (.slice pz N cz) ((List.range N).map X.L)) := Lib.hid (LL.of_d HNN.out HK.out.1 (HXO.out.kept HB5.out))
        have a0 : wr.cell? ⟨w.heap.size, 0, none⟩ = some (.int .i64 (N : Int)) := Hc5.out.cell 0
        clear HK hk hlt hk9 HZL
        go_upto_region 22 with fail
        clear a0 hltI
        generalize wr = V2 at *
        have hA := HA.out
        rw [show offerC N rs ym j = (rs.set (ym.y - 1).toNat ((X.rn N).rec_ N), toAllL N (prepM ym.y ((X.rn N).rec_ N)), 0) from by unfold offerC; rw [if_neg (by rw [HS2.out]; decide), if_neg (by rw [HTJ.out]; decide), if_neg HMN.out, if_neg HF0.out, ← HVR.out, if_neg HAL.out]] at hA
        cases hA
        obtain ⟨LS, hLS⟩ : ∃ l, bothL ((List.range N).map X.L) N = l := ⟨_, rfl⟩
        have HLE : Hid (bothL ((List.range N).map X.L) N = LS) := Lib.hid hLS
        have HLF : Hid (fitE (N : Int) LS = 0 ∧ LS.length ≤ 480) := Lib.hid (by
         rw [← hLS, ← DrX.lines]
         refine ⟨bothL_fits (N : Int) (fun o ho => ?_) N, ?_⟩
         ·obtain ⟨h, hh, rfl⟩ := List.mem_map.1 ho
          exact (HFX.out h hh).1
         ·have h1 := bothL_len ((X.rn N).hs.map Hd.ls) (fun o ho => by
           obtain ⟨h, hh, rfl⟩ := List.mem_map.1 ho
           exact (HFX.out h hh).2) N
          have := HNN.out
          omega)
        have HG := Lib.hid (rboth_any V2 (.slice pz N cz) ((List.range N).map X.L) HLS.out (by have := HNN.out; simp; omega) (fun o ho => by
         rw [← DrX.lines] at ho
         obtain ⟨h, hh, rfl⟩ := List.mem_map.1 ho
         have h1 := HFX.out h hh
         rw [show ((((List.range N).map X.L).length : Nat) : Int) = (N : Int) by simp]
         exact h1))
        rw [show bothL ((List.range N).map X.L) ((List.range N).map X.L).length = LS from by rw [← hLS]; simp] at HG
        clear hLS
        go_wp2_with fail
        refine HG.out.mono ?_
        rintro y9 w4 ⟨v4, rfl, ho, hb⟩
        clear HG HLS
        have HV4 : Hid (V2.heap.size ≤ w4.heap.size) := Lib.hid hb.size
        obtain ⟨p4, c4, hv4⟩ := ho.form
        have HNL : Hid (LS.length = LS.length) := Lib.hid rfl
        subst hv4
        have HO4 := Lib.hid ho
        have HV24 : Hid (w.heap.size + 1 + 1 + 1 < V2.heap.size) := Lib.hid Hr5.out.lt
        clear ho HNL
        have Hc6 := kbq Hc5 hb
        have Hx6 := kbq Hx5 hb
        have Hm6 := kbq Hm5 hb
        have Hr6 := kbq Hr5 hb
        have HB6 := ktq HB5 hb
        have HZ6 := kzq HZ5 hb.size
        clear Hc5 Hx5 Hm5 Hr5 HB5 HZ5
        clear hb
        generalize hnl : LS.length = nl at *
        have HNL : Hid (LS.length = nl) := Lib.hid hnl
        have HG := Lib.hid (rnets_any w4 (N : Int) (.slice p4 nl c4) LS (by have h := HO4.out.row; exact h) (by have := HLF.out.2; omega))
        have HNE : Hid (netsE (N : Int) LS = 0) := Lib.hid (by unfold netsE; rw [if_neg (by have := HNN.out; omega)]; exact HLF.out.1)
        rw [show netsV (N : Int) LS = netsL N LS from by unfold netsV; rw [if_pos HNE.out]; rfl, HNE.out] at HG
        clear hnl
        have a0 : w4.cell? ⟨w.heap.size, 0, none⟩ = some (.int .i64 (N : Int)) := Hc6.out.cell 0
        go_wp2_with fail
        clear a0
        refine HG.out.mono ?_
        rintro y9 w5 ⟨v5, rfl, ho, hb⟩
        clear HG
        obtain ⟨p5, c5, hv5⟩ := ho.form
        rw [netsL_len] at hv5
        subst hv5
        have HO5 := Lib.hid ho
        have HO4b := Lib.hid (HO4.out.later hb)
        have HW45 : Hid (V2.heap.size ≤ w4.heap.size ∧ w4.heap.size ≤ w5.heap.size) := Lib.hid ⟨HV4.out, hb.size⟩
        clear ho HO4
        have Hc7 := kbq Hc6 hb
        have Hx7 := kbq Hx6 hb
        have Hm7 := kbq Hm6 hb
        have Hr7 := kbq Hr6 hb
        have HB7 := ktq HB6 hb
        have HZ7 := kzq HZ6 hb.size
        clear Hc6 Hx6 Hm6 Hr6 HB6 HZ6
        clear hb
        have hn1 : (nl : Int) ≤ 1024 := by have := HLF.out.2; have := HNL.out; omega
        have hn2 : ¬ 1024 < nl := by omega
        go_upto_region 26 with fail
        clear hn1 hn2
        have z9 : w5.cell? ⟨w.heap.size + 1, 1, none⟩ = some (.int .i64 X.st) := Hx7.out.cell 1
        have f9 := Hx7.out.free 1
        go_upto_region 27 with fail
        clear z9 f9 
        have hch := Lib.hid ((Chg.refl (w.heap.size + 1) w5).set 1 (.int .i64 2))
        have Hx8 : Hid (Blk (w5.setCell ⟨w.heap.size + 1, 1, none⟩ (.int .i64 2)) (w.heap.size + 1) (X.to 2).arr 76) := Lib.hid (by have h := Hx7.out.set 1 (.int .i64 2); rwa [DrX.arr_to] at h)
        have HB8 := ksq HB7 hch (by show w.heap.size ≤ (w.heap.size + 1); have := HV24.out; omega)
        have HZ8 := kzq HZ7 hch.out.size
        have Hc8 := kcq Hc7 hch (by have := HV24.out; omega)
        have Hm8 := kcq Hm7 hch (by have := HV24.out; omega)
        have Hr8 := kcq Hr7 hch (by have := HV24.out; omega)
        have HO4b := Lib.hid (HO4b.out.stay (fun g hg => hch.out.2 g (HO4b.out.lt g hg) (by have h1 := HO4b.out.block_ge g hg; have := HV24.out; omega)))
        have HO5 := Lib.hid (HO5.out.stayV (fun g hg => hch.out.2 g (World.ownsRow.lt HO5.out g hg).2 (by have h1 := (World.ownsRow.lt HO5.out g hg).1; have := HV24.out; have := HW45.out; omega)))
        clear hch Hc7 Hx7 Hm7 Hr7 HB7 HZ7
        generalize (w5.setCell ⟨w.heap.size + 1, 1, none⟩ (.int .i64 2)) = W6 at *
        have z9 : W6.cell? ⟨w.heap.size + 1, 26, none⟩ = some (.slice X.pl X.ls.length X.cl) := Hx8.out.cell 26
        have f9 := Hx8.out.free 26
        go_upto_region 28 with fail
        clear z9 f9 
        have hch := Lib.hid ((Chg.refl (w.heap.size + 1) W6).set 26 (.slice p4 nl c4))
        have Hx9 : Hid (Blk (W6.setCell ⟨w.heap.size + 1, 26, none⟩ (.slice p4 nl c4)) (w.heap.size + 1) ((X.to 2).setLs LS p4 c4).arr 76) := Lib.hid (by have h := Hx8.out.set 26 (.slice p4 nl c4); rwa [show (X.to 2).arr.setIfInBounds 26 (.slice p4 nl c4) = ((X.to 2).setLs LS p4 c4).arr from by rw [← HNL.out]; rfl] at h)
        have HB9 := ksq HB8 hch (by show w.heap.size ≤ (w.heap.size + 1); have := HV24.out; omega)
        have HZ9 := kzq HZ8 hch.out.size
        have Hc9 := kcq Hc8 hch (by have := HV24.out; omega)
        have Hm9 := kcq Hm8 hch (by have := HV24.out; omega)
        have Hr9 := kcq Hr8 hch (by have := HV24.out; omega)
        have HO4b := Lib.hid (HO4b.out.stay (fun g hg => hch.out.2 g (HO4b.out.lt g hg) (by have h1 := HO4b.out.block_ge g hg; have := HV24.out; omega)))
        have HO5 := Lib.hid (HO5.out.stayV (fun g hg => hch.out.2 g (World.ownsRow.lt HO5.out g hg).2 (by have h1 := (World.ownsRow.lt HO5.out g hg).1; have := HV24.out; have := HW45.out; omega)))
        clear hch Hc8 Hx8 Hm8 Hr8 HB8 HZ8
        generalize (W6.setCell ⟨w.heap.size + 1, 26, none⟩ (.slice p4 nl c4)) = W7 at *
        have z9 : W7.cell? ⟨w.heap.size + 1, 27, none⟩ = some (.slice X.pn X.ns.length X.cn) := Hx9.out.cell 27
        have f9 := Hx9.out.free 27
        go_upto_region 29 with fail
        clear z9 f9 
        have hch := Lib.hid ((Chg.refl (w.heap.size + 1) W7).set 27 (.slice p5 N c5))
        have Hx10 : Hid (Blk (W7.setCell ⟨w.heap.size + 1, 27, none⟩ (.slice p5 N c5)) (w.heap.size + 1) (((X.to 2).setLs LS p4 c4).setNs (netsL N LS) p5 c5).arr 76) := Lib.hid (by have h := Hx9.out.set 27 (.slice p5 N c5); rwa [show ((X.to 2).setLs LS p4 c4).arr.setIfInBounds 27 (.slice p5 N c5) = ((((X.to 2).setLs LS p4 c4).setNs (netsL N LS) p5 c5)).arr from by rw [← DrX.arr_setNs, netsL_len]] at h)
        have HB10 := ksq HB9 hch (by show w.heap.size ≤ (w.heap.size + 1); have := HV24.out; omega)
        have HZ10 := kzq HZ9 hch.out.size
        have Hc10 := kcq Hc9 hch (by have := HV24.out; omega)
        have Hm10 := kcq Hm9 hch (by have := HV24.out; omega)
        have Hr10 := kcq Hr9 hch (by have := HV24.out; omega)
        have HO4b := Lib.hid (HO4b.out.stay (fun g hg => hch.out.2 g (HO4b.out.lt g hg) (by have h1 := HO4b.out.block_ge g hg; have := HV24.out; omega)))
        have HO5 := Lib.hid (HO5.out.stayV (fun g hg => hch.out.2 g (World.ownsRow.lt HO5.out g hg).2 (by have h1 := (World.ownsRow.lt HO5.out g hg).1; have := HV24.out; have := HW45.out; omega)))
        clear hch Hc9 Hx9 Hm9 Hr9 HB9 HZ9
        generalize (W7.setCell ⟨w.heap.size + 1, 27, none⟩ (.slice p5 N c5)) = W8 at *
        have HX3 : Hid ((((X.to 2).setLs LS p4 c4).setNs (netsL N LS) p5 c5).In (fun b => (P b ∧ b < w.heap.size) ∨ V2.heap.size ≤ b) W8) := Lib.hid ((DrX.In.setLs (((HXO.out.kept HB10.out).imp (fun b h => .inl h)).to 2) (by rw [HNL.out]; have h := HO4b.out.row; exact h) (by rw [HNL.out]; have h := HO4b.out.at_P (P := fun b => (P b ∧ b < w.heap.size) ∨ V2.heap.size ≤ b) (fun b h => .inr h); rw [HNL.out] at h; exact h)).setNs (by rw [netsL_len]; exact HO5.out.row) (by rw [netsL_len]; have h := HO5.out.at_P (P := fun b => (P b ∧ b < w.heap.size) ∨ V2.heap.size ≤ b) (fun b h => .inr (by have := HW45.out; omega)); rw [netsL_len] at h; exact h))
        have HR3 : Hid ((((X.to 2).setLs LS p4 c4).setNs (netsL N LS) p5 c5).rn N = (X.rn N).rec_ N) := Lib.hid (by
         unfold Rn.rec_
         rw [DrX.lines, HLE.out]
         rfl)
        obtain ⟨X3, hX3⟩ : ∃ x, ((X.to 2).setLs LS p4 c4).setNs (netsL N LS) p5 c5 = x := ⟨_, rfl⟩
        rw [hX3] at HX3 HR3 Hx10
        clear hX3
        have hbd := (Below.refl W8.heap.size W8).drew
        have Hc11 := kbq Hc10 hbd
        have Hx11 := kbq Hx10 hbd
        have Hm11 := kbq Hm10 hbd
        have Hr11 := kbq Hr10 hbd
        have HB11 := ktq HB10 hbd
        have HZ11 := kzq HZ10 hbd.size
        clear Hc10 Hx10 Hm10 Hr10 HB10 HZ10
        refine wp_region_held_drew (S := fun w' => w'.cell? ⟨w.heap.size, 0, none⟩ = some (.int .i64 (N : Int)) ∧ w'.cell? ⟨w.heap.size, 1, none⟩ = some (.slice p n c) ∧ Blk w' (w.heap.size + 1) X3.arr 76 ∧ w'.cell? ⟨w.heap.size + 1 + 1, 6, none⟩ = some (.int .i64 ym.y)) (by kernel_rfl) ⟨Hc11.out.cell 0, Hc11.out.cell 1, Hx11.out, Hm11.out.cell 6⟩ (fun hS0 => ?_)
        have HO4b := Lib.hid (HO4b.out.later hbd)
        have HO5 := Lib.hid (HO5.out.stayV (fun g hg => hbd.block g (World.ownsRow.lt HO5.out g hg).2))
        have HX3 := Lib.hid (HX3.out.kept hbd)
        generalize W8.drew = WD at *
        clear hbd
        refine tkq 0 ?_
        refine tkq 1 ?_
        refine tkq 2 ?_
        refine wpAnyH_take (i := 3) (v := .agg (X3).arr) rfl (by kernel_rfl) (by kernel_rfl) (by kernel_rfl) (fun _ _ _ h => h) (yieldsIf_loadD (by kernel_rfl) (.tmp 5) rfl (w.heap.size + 1) 0 rfl (X3) (fun w hw => dcell (hw.2.2.1))) (by first | assumption | trivial) ?_
        try simp only [Act.put, List.getElem_toArray, List.getElem_cons_succ, List.getElem_cons_zero, List.setIfInBounds_toArray, List.set_cons_zero, List.set_cons_succ]
        refine tkq 5 ?_
        refine tkq 6 ?_
        refine tkq 7 ?_
        refine tkq 8 ?_
        refine tkq 9 ?_
        refine tkq 10 ?_
        refine tkq 11 ?_
        refine rdq 4 (fun K hK => ?_)
        have HG := Lib.hid (dwith_any WD (fun b => (P b ∧ b < w.heap.size) ∨ V2.heap.size ≤ b) N ym.y p n c rs X3 ((HRS.out.kept HB11.out).imp (fun b h => .inl h)) HKK.out.1 HKK.out.2 HYK.out.1 HYK.out.2 HX3.out)
        unfold DrX.v at HG
        go_simp
        go_at_call 36
        refine HG.out.mono ?_
        rintro y9 w9 ⟨p6, c6, rfl, hq, hb⟩
        clear HG
        have HQ := Lib.hid hq.lt
        have HO4b := Lib.hid (HO4b.out.later hb)
        have HO5 := Lib.hid (HO5.out.stayV (fun g hg => hb.block g (World.ownsRow.lt HO5.out g hg).2))
        have HWC : Hid (w.heap.size ≤ WD.heap.size ∧ w.heap.size + 1 + 1 + 1 < WD.heap.size ∧ WD.heap.size ≤ w9.heap.size) := Lib.hid ⟨HZ11.out, Hr11.out.lt, hb.size⟩
        clear hq HX3
        have Hc12 := kbq Hc11 hb
        have Hx12 := kbq Hx11 hb
        have Hm12 := kbq Hm11 hb
        have Hr12 := kbq Hr11 hb
        have HB12 := ktq HB11 hb
        have HZ12 := kzq HZ11 hb.size
        clear Hc11 Hx11 Hm11 Hr11 HB11 HZ11
        clear hb hS0
        try go_wp2_with fail
        refine hK.out _ _ ⟨Hc12.out.cell 0, Hc12.out.cell 1, Hx12.out, Hm12.out.cell 6⟩ (fun hS0 => ?_)
        clear hK K
        try simp only [Act.put, List.getElem_toArray, List.getElem_cons_succ, List.getElem_cons_zero, List.setIfInBounds_toArray, List.set_cons_zero, List.set_cons_succ]
        refine rdq 12 (fun K hK => ?_)
        have HG := Lib.hid (dall_any w9 N (⟨⟨12, 0, 0, 0, 0, 0, ym.y, 0, false, LS, netsL N LS⟩, p4, c4, p5, c5⟩ : MsgX) (fun b => (P b ∧ b < w.heap.size) ∨ V2.heap.size ≤ b) HNN.out ⟨(by show TRow encN w9 (.slice p4 LS.length c4) LS; rw [HNL.out]; exact HO4b.out.row), (by show Row .i64 w9 (.slice p5 (netsL N LS).length c5) (netsL N LS); rw [netsL_len]; exact HO5.out.row), (by show At _ (.slice p4 LS.length c4) LS.length; rw [HNL.out]; have h := HO4b.out.at_P (P := (fun b => (P b ∧ b < w.heap.size) ∨ V2.heap.size ≤ b)) (fun b h => .inr h); rw [HNL.out] at h; exact h), (by show At _ (.slice p5 (netsL N LS).length c5) (netsL N LS).length; rw [netsL_len]; have h := HO5.out.at_P (P := (fun b => (P b ∧ b < w.heap.size) ∨ V2.heap.size ≤ b)) (fun b h => .inr (by have := HW45.out; omega)); rw [netsL_len] at h; exact h), ⟨by show LS.length * 32 ≤ _; have := HLF.out.2; have := HNL.out; omega, by show (netsL N LS).length * 8 ≤ _; rw [netsL_len]; have := HNN.out; omega⟩⟩)
        unfold Msg.v at HG
        dsimp only at HG
        rw [netsL_len, HNL.out] at HG
        go_simp
        go_at_call 34
        refine HG.out.mono ?_
        rintro y9 w10 ⟨p7, c7, rfl, hs, hb⟩
        clear HG
        have HQ := Lib.hid (HQ.out.kept hb)
        have HSD := Lib.hid hs.ltB
        clear hs HO4b HO5
        have Hc13 := kbq Hc12 hb
        have Hx13 := kbq Hx12 hb
        have Hm13 := kbq Hm12 hb
        have Hr13 := kbq Hr12 hb
        have HB13 := ktq HB12 hb
        have HZ13 := kzq HZ12 hb.size
        clear Hc12 Hx12 Hm12 Hr12 HB12 HZ12
        clear hb hS0
        try go_wp2_with fail
        refine hK.out _ _ ⟨Hc13.out.cell 0, Hc13.out.cell 1, Hx13.out, Hm13.out.cell 6⟩ (fun hS0 => ?_)
        clear hK K
        try simp only [Act.put, List.getElem_toArray, List.getElem_cons_succ, List.getElem_cons_zero, List.setIfInBounds_toArray, List.set_cons_zero, List.set_cons_succ]
        refine rdq 13 (fun K hK => ?_)
        have z0 : w10.cell? ⟨(w.heap.size + 1 + 1 + 1), 0, none⟩ = some (.int .i64 0) := Hr13.out.cell 0
        have z1 : w10.cell? ⟨(w.heap.size + 1 + 1 + 1), 1, none⟩ = some (.slice none 0 0) := Hr13.out.cell 1
        have f0 := Hr13.out.free 0
        have f1 := Hr13.out.free 1
        go_simp
        clear z0 f0 z1 f1
        have hch := Lib.hid (((Chg.refl (w.heap.size + 1 + 1 + 1) w10).set 0 (.int .i64 (N : Int))).set 1 (.slice p6 n c6))
        have Hr14 : Hid (Blk _ (w.heap.size + 1 + 1 + 1) #[.int .i64 (N : Int), .slice p6 n c6] 30) := Lib.hid ((Hr13.out.set 0 (.int .i64 (N : Int))).set 1 (.slice p6 n c6))
        have HB14 := ksq HB13 hch (by show w.heap.size ≤ (w.heap.size + 1 + 1 + 1); have := HV24.out; omega)
        have HZ14 := kzq HZ13 hch.out.size
        have Hc14 := kcq Hc13 hch (by have := HV24.out; omega)
        have Hx14 := kcq Hx13 hch (by have := HV24.out; omega)
        have Hm14 := kcq Hm13 hch (by have := HV24.out; omega)
        have HSD2 := Lib.hid (HSD.out.chg hch.out (by intro h; (try dsimp only at h); have h1 := HWC.out; have h5 := HV24.out; rcases h.1 with h3 | h3; (rcases h3 with h3 | h3; (have := h3.2; omega); omega); omega))
        have HQ4 := Lib.hid (HQ.out.chg hch.out (by intro h; (try dsimp only at h); have h1 := HWC.out; have h5 := HV24.out; rcases h.1 with h3 | h3; (rcases h3 with h3 | h3; (have := h3.2; omega); omega); omega))
        clear HSD HQ
        clear hch hS0 Hc13 Hx13 Hm13 Hr13 HB13 HZ13
        generalize ((w10.setCell ⟨w.heap.size + 1 + 1 + 1, 0, none⟩ (.int .i64 (N : Int))).setCell ⟨w.heap.size + 1 + 1 + 1, 1, none⟩ (.slice p6 n c6)) = W11 at *
        refine hK.out _ _ ⟨Hc14.out.cell 0, Hc14.out.cell 1, Hx14.out, Hm14.out.cell 6⟩ (fun hS0 => ?_)
        clear hK K
        try simp only [Act.put, List.getElem_toArray, List.getElem_cons_succ, List.getElem_cons_zero, List.setIfInBounds_toArray, List.set_cons_zero, List.set_cons_succ]
        refine tkq 14 ?_
        refine tkq 15 ?_
        refine wpAnyH_done (by kernel_rfl) ?_ _
        clear hS0
        go_wp2_with fail
        have hfr := Hr14.out
        refine bodyPost_ret (v := .tuple #[.agg #[.int .i64 (N : Int), .slice p6 n c6], .slice p7 N c7, .int .i64 0]) (by simp [results, Try.results19, go_sem, hfr.cell 0, hfr.cell 1]) rfl ⟨p6, n, c6, p7, N, c7, rfl, (by rw [List.length_set]; exact HKK.out.1), by unfold toAllL; simp, ?_, ?_, HB14.out⟩
        ·rw [← HR3.out]
         exact HQ4.out.imp (Q := fun b => P b ∨ w.heap.size ≤ b) (fun b h => by have h1 := HWC.out; have h5 := HV24.out; rcases h.1 with h3 | h3; (rcases h3 with h3 | h3; exact .inl h3.1; exact .inr (by omega)); exact .inr (by omega))
        ·have h1 := HSD2.out.imp (R := fun b => P b ∨ w.heap.size ≤ b) (fun b h => by have h1 := HWC.out; have h5 := HV24.out; rcases h.1 with h3 | h3; (rcases h3 with h3 | h3; exact .inl h3.1; exact .inr (by omega)); exact .inr (by omega))
         have h2 : (prepM ym.y ((X.rn N).rec_ N)) = ⟨12, 0, 0, 0, 0, 0, ym.y, 0, false, LS, netsL N LS⟩ := by
          unfold prepM Rn.rec_
          rw [DrX.lines, HLE.out]
         rw [h2]
         exact h1
     ·skip
      have hfa : (fe == 0) = false := by simpa using hf0
      have hfb : (fe != 0) = true := by simpa using hf0
      have HF0 : Hid (fitE (N : Int) ym.ls ≠ 0) := Lib.hid (by rw [HFE.out]; exact hf0)
      go_upto_region 12 with fail
      clear hfa hfb hf0
      have hA := HA.out
      rw [show offerC N rs ym j = (rs, [], fe) from by unfold offerC; rw [if_neg (by rw [HS2.out]; decide), if_neg (by rw [HTJ.out]; decide), if_neg HMN.out, if_pos HF0.out, HFE.out]] at hA
      cases hA
      have a0 : w1.cell? ⟨w.heap.size, 0, none⟩ = some (.int .i64 (N : Int)) := Hc2.out.cell 0
      have a1 : w1.cell? ⟨w.heap.size, 1, none⟩ = some (.slice p n c) := Hc2.out.cell 1
      go_wp2_with (with_reducible refine stop_storeT 30 (.tmp 8) (.tmp 61) rfl ?_)
      clear a0 a1
      have HTH : Hid (w1.there (w.heap.size + 1 + 1 + 1) 0 2) := Hr2.out.thereAt
      have hch : Hid (Chg (w.heap.size + 1 + 1 + 1) w1 (w1.setCells (w.heap.size + 1 + 1 + 1) 0 (#[.int .i64 (N : Int), .slice p n c] : Array Value).toList)) := Lib.hid (chg_putL _ _ _ _ _ (Chg.refl _ w1))
      have Hr3 : Hid (Blk (w1.setCells (w.heap.size + 1 + 1 + 1) 0 (#[.int .i64 (N : Int), .slice p n c] : Array Value).toList) (w.heap.size + 1 + 1 + 1) #[.int .i64 (N : Int), .slice p n c] 30) := Lib.hid (blk_put_all Hr2.out _ rfl)
      have HB3 : Hid (Below w.heap.size w (w1.setCells (w.heap.size + 1 + 1 + 1) 0 (#[.int .i64 (N : Int), .slice p n c] : Array Value).toList)) := Lib.hid (below_put (by omega) _ _ _ _ HB2.out)
      have HZ3 := kzq HZ2 hch.out.size
      have Hc3 := kcq Hc2 hch (by omega)
      have Hx3 := kcq Hx2 hch (by omega)
      have Hm3 := kcq Hm2 hch (by omega)
      clear hch Hc2 Hx2 Hm2 Hr2 HB2 HZ2
      refine wpList_store_mid rfl 30 (.tmp 8) (.tmp 61) rfl (w.heap.size + 1 + 1 + 1) 0 #[.int .i64 (N : Int), .slice p n c] rfl rfl HTH.out (infoDC rfl) (all_oneCell_toArray (by intro u hu; simp at hu; rcases hu with rfl | rfl <;> rfl)) ?_
      generalize (w1.setCells (w.heap.size + 1 + 1 + 1) 0 (#[.int .i64 (N : Int), .slice p n c] : Array Value).toList) = W2 at *
      clear HTH
      go_wp2_with fail
      have hfr := Hr3.out
      refine bodyPost_ret (v := .tuple #[.agg #[.int .i64 (N : Int), .slice p n c], .slice none 0 0, .int .i64 ER]) (by simp [results, Try.results19, go_sem, hfr.cell 0, hfr.cell 1]) rfl ⟨_, _, _, none, 0, 0, rfl, HKK.out.1, rfl, ((HRS.out.kept HB3.out).imp (fun b h => .inl h.1)), SdR.nil_ _ _, HB3.out⟩
  ·skip
   go_upto_region 4 with fail
   clear xt hj8
   have hA := HA.out
   rw [show offerC N rs ym j = (rs, [], 5) from by unfold offerC; rw [if_neg (by rw [HS2.out]; decide), if_pos HTJ.out]] at hA
   cases hA
   have a0 : W.cell? ⟨w.heap.size, 0, none⟩ = some (.int .i64 (N : Int)) := Hc0.out.cell 0
   have a1 : W.cell? ⟨w.heap.size, 1, none⟩ = some (.slice p n c) := Hc0.out.cell 1
   go_wp2_with (with_reducible refine stop_storeT 30 (.tmp 8) (.tmp 26) rfl ?_)
   clear a0 a1
   have HTH : Hid (W.there (w.heap.size + 1 + 1 + 1) 0 2) := Hr0.out.thereAt
   have hch : Hid (Chg (w.heap.size + 1 + 1 + 1) W (W.setCells (w.heap.size + 1 + 1 + 1) 0 (#[.int .i64 (N : Int), .slice p n c] : Array Value).toList)) := Lib.hid (chg_putL _ _ _ _ _ (Chg.refl _ W))
   have Hr1 : Hid (Blk (W.setCells (w.heap.size + 1 + 1 + 1) 0 (#[.int .i64 (N : Int), .slice p n c] : Array Value).toList) (w.heap.size + 1 + 1 + 1) #[.int .i64 (N : Int), .slice p n c] 30) := Lib.hid (blk_put_all Hr0.out _ rfl)
   have HB1 : Hid (Below w.heap.size w (W.setCells (w.heap.size + 1 + 1 + 1) 0 (#[.int .i64 (N : Int), .slice p n c] : Array Value).toList)) := Lib.hid (below_put (by omega) _ _ _ _ HB0.out)
   have HZ1 := kzq HZ0 hch.out.size
   have Hc1 := kcq Hc0 hch (by omega)
   have Hx1 := kcq Hx0 hch (by omega)
   have Hm1 := kcq Hm0 hch (by omega)
   clear hch Hc0 Hx0 Hm0 Hr0 HB0 HZ0
   refine wpList_store_mid rfl 30 (.tmp 8) (.tmp 26) rfl (w.heap.size + 1 + 1 + 1) 0 #[.int .i64 (N : Int), .slice p n c] rfl rfl HTH.out (infoDC rfl) (all_oneCell_toArray (by intro u hu; simp at hu; rcases hu with rfl | rfl <;> rfl)) ?_
   generalize (W.setCells (w.heap.size + 1 + 1 + 1) 0 (#[.int .i64 (N : Int), .slice p n c] : Array Value).toList) = W2 at *
   clear HTH
   go_wp2_with fail
   have hfr := Hr1.out
   refine bodyPost_ret (v := .tuple #[.agg #[.int .i64 (N : Int), .slice p n c], .slice none 0 0, .int .i64 5]) (by simp [results, Try.results19, go_sem, hfr.cell 0, hfr.cell 1]) rfl ⟨_, _, _, none, 0, 0, rfl, HKK.out.1, rfl, ((HRS.out.kept HB1.out).imp (fun b h => .inl h.1)), SdR.nil_ _ _, HB1.out⟩
 ·skip
  have hs3 : (x.st == 1) = false := by simpa using hs2
  have hs4 : (x.st != 1) = true := by simpa using hs2
  have HS2 : Hid ((rnAt rs ym.y).st ≠ 1) := Lib.hid (by rw [← HXR.out]; exact hs2)
  clear hs2
  go_upto_region 2 with fail
  clear x1 hs3 hs4
  have hA := HA.out
  rw [show offerC N rs ym j = (rs, [], 90) from by unfold offerC; rw [if_pos (by simpa using HS2.out)]] at hA
  cases hA
  have a0 : W.cell? ⟨w.heap.size, 0, none⟩ = some (.int .i64 (N : Int)) := Hc0.out.cell 0
  have a1 : W.cell? ⟨w.heap.size, 1, none⟩ = some (.slice p n c) := Hc0.out.cell 1
  go_wp2_with (with_reducible refine stop_storeT 30 (.tmp 8) (.tmp 21) rfl ?_)
  clear a0 a1
  have HTH : Hid (W.there (w.heap.size + 1 + 1 + 1) 0 2) := Hr0.out.thereAt
  have hch : Hid (Chg (w.heap.size + 1 + 1 + 1) W (W.setCells (w.heap.size + 1 + 1 + 1) 0 (#[.int .i64 (N : Int), .slice p n c] : Array Value).toList)) := Lib.hid (chg_putL _ _ _ _ _ (Chg.refl _ W))
  have Hr1 : Hid (Blk (W.setCells (w.heap.size + 1 + 1 + 1) 0 (#[.int .i64 (N : Int), .slice p n c] : Array Value).toList) (w.heap.size + 1 + 1 + 1) #[.int .i64 (N : Int), .slice p n c] 30) := Lib.hid (blk_put_all Hr0.out _ rfl)
  have HB1 : Hid (Below w.heap.size w (W.setCells (w.heap.size + 1 + 1 + 1) 0 (#[.int .i64 (N : Int), .slice p n c] : Array Value).toList)) := Lib.hid (below_put (by omega) _ _ _ _ HB0.out)
  have HZ1 := kzq HZ0 hch.out.size
  have Hc1 := kcq Hc0 hch (by omega)
  have Hx1 := kcq Hx0 hch (by omega)
  have Hm1 := kcq Hm0 hch (by omega)
  clear hch Hc0 Hx0 Hm0 Hr0 HB0 HZ0
  refine wpList_store_mid rfl 30 (.tmp 8) (.tmp 21) rfl (w.heap.size + 1 + 1 + 1) 0 #[.int .i64 (N : Int), .slice p n c] rfl rfl HTH.out (infoDC rfl) (all_oneCell_toArray (by intro u hu; simp at hu; rcases hu with rfl | rfl <;> rfl)) ?_
  generalize (W.setCells (w.heap.size + 1 + 1 + 1) 0 (#[.int .i64 (N : Int), .slice p n c] : Array Value).toList) = W2 at *
  clear HTH
  go_wp2_with fail
  have hfr := Hr1.out
  refine bodyPost_ret (v := .tuple #[.agg #[.int .i64 (N : Int), .slice p n c], .slice none 0 0, .int .i64 90]) (by simp [results, Try.results19, go_sem, hfr.cell 0, hfr.cell 1]) rfl ⟨_, _, _, none, 0, 0, rfl, HKK.out.1, rfl, ((HRS.out.kept HB1.out).imp (fun b h => .inl h.1)), SdR.nil_ _ _, HB1.out⟩
end Go.Proofs.Yteogdfpkcoodlaa
namespace Go.Proofs.Yteogdfpkcoodlaa
open Go.RowKit
set_option linter.unusedSimpArgs false
section
variable {N : Nat} {rs : List Rn} {m : Msg} {fro : Int}
theorem doC_none (h5 : m.k ≠ 5) (h16 : m.k ≠ 16) (h11 : m.k ≠ 11) (h13 : m.k ≠ 13) (h15 : m.k ≠ 15) : doC N rs m fro = (rs, [], 110) := by
 unfold doC
 by_cases hf : fro = -1
 ·rw [if_pos hf, if_neg h5, if_neg h16]
 ·rw [if_neg hf, if_neg (by omega)]
theorem doC_cl (hf : fro ≠ -1) (hk : m.k = 5 ∨ m.k = 16) : doC N rs m fro = (rs, [], 110) := by
 unfold doC
 rw [if_neg hf, if_neg (by omega)]
theorem doC_nd (hk : m.k = 11 ∨ m.k = 13 ∨ m.k = 15) : doC N rs m (-1) = (rs, [], 110) := by
 unfold doC
 rw [if_pos rfl, if_neg (by omega), if_neg (by omega)]
theorem doC_start (hk : m.k = 5) : doC N rs m (-1) = startC N rs m := by
 unfold doC
 rw [if_pos rfl, if_pos hk]
theorem doC_due0 (hk : m.k = 16) (hh : hasB rs m.y = false) : doC N rs m (-1) = (rs, [], 4) := by
 unfold doC
 rw [if_pos rfl, if_neg (by omega), if_pos hk, if_neg (by rw [hh]; decide)]
theorem doC_due1 (hk : m.k = 16) (hh : hasB rs m.y = true) : doC N rs m (-1) = dueC N rs m := by
 unfold doC
 rw [if_pos rfl, if_neg (by omega), if_pos hk, if_pos hh]
theorem doC_oth (hk : m.k = 11 ∨ m.k = 13 ∨ m.k = 15) (hf : fro ≠ -1) (h : fro < 0 ∨ (N : Int) ≤ fro) : doC N rs m fro = (rs, [], 140) := by
 unfold doC
 rw [if_neg hf, if_pos hk, if_pos h]
theorem doC_mis {j : Nat} (hk : m.k = 11 ∨ m.k = 13 ∨ m.k = 15) (hj : j < N) (hh : hasB rs m.y = false) : doC N rs m (j : Int) = (rs, [], 4) := by
 unfold doC
 rw [if_neg (by omega), if_pos hk, if_neg (by omega), if_pos hh]
theorem doC_off {j : Nat} (hk : m.k = 11) (hj : j < N) (hh : hasB rs m.y = true) : doC N rs m (j : Int) = offerC N rs m j := by
 unfold doC
 rw [if_neg (by omega), if_pos (.inl hk), if_neg (by omega), if_neg (by rw [hh]; decide), if_pos hk]
 rfl
theorem doC_vote {j : Nat} (hk : m.k = 13) (hj : j < N) (hh : hasB rs m.y = true) : doC N rs m (j : Int) = voteC N rs m j := by
 unfold doC
 rw [if_neg (by omega), if_pos (.inr (.inl hk)), if_neg (by omega), if_neg (by rw [hh]; decide), if_neg (by omega), if_pos hk]
 rfl
theorem doC_query {j : Nat} (hk : m.k = 15) (hj : j < N) (hh : hasB rs m.y = true) : doC N rs m (j : Int) = queryC rs m (j : Int) := by
 unfold doC
 rw [if_neg (by omega), if_pos (.inr (.inr hk)), if_neg (by omega), if_neg (by rw [hh]; decide), if_neg (by omega), if_neg (by omega)]
end
set_option linter.unusedSimpArgs false in
set_option maxHeartbeats 4000000 in
set_option maxRecDepth 100000 in
theorem ddo_any (w : World) (P : Nat → Prop) (N : Nat) (p : Option Addr) (n c : Nat) (rs : List Rn) (y : MsgX) (fro : Int) (hrs : DsR P N w (.slice p n c) rs) (hn : n = rs.length) (hl : n ≤ 2000) (h8 : N ≤ 8) (h1N : 1 ≤ N) (hst : StOk rs) (hok : COk N rs) (hy : y.InP P w) (hyl : y.m.ls.length ≤ 60) :
  Calls Try.prog 8 #[.agg #[.int .i64 (N : Int), .slice p n c], y.m.v (.slice y.pl y.m.ls.length y.cl) (.slice y.pn y.m.ns.length y.cn), .int .i64 fro] w (DP w P N (doC N rs y.m fro)) := by
 obtain ⟨ym, ypl, ycl, ypn, ycn⟩ := y
 dsimp only at hy hyl ⊢
 have HRS := Lib.hid hrs.lt
 have HYI : Hid ((⟨ym, ypl, ycl, ypn, ycn⟩ : MsgX).InP (fun b => P b ∧ b < w.heap.size) w) := Lib.hid ⟨hy.ls, hy.ns, At.ltT hy.ls hy.al, At.ltR hy.ns hy.an, hy.sz⟩
 have HYL : Hid (ym.ls.length ≤ 60) := Lib.hid hyl
 have HNN : Hid (N ≤ 8) := Lib.hid h8
 have HN1 : Hid (1 ≤ N) := Lib.hid h1N
 have HKK : Hid (n = rs.length ∧ n ≤ 2000) := Lib.hid ⟨hn, hl⟩
 have HSO := Lib.hid hst
 have HCO := Lib.hid hok
 clear hrs hy hyl h8 h1N hn hl hst hok
 unfold DP
 obtain ⟨⟨RS, OU, ER⟩, hA⟩ : ∃ A, doC N rs ym fro = A := ⟨_, rfl⟩
 rw [hA]
 have HA := Lib.hid hA
 clear hA
 dsimp only
 unfold Msg.v
 have HB0 : Hid (Below w.heap.size w (((w.alloc (.cells #[.int .i64 (N : Int), .slice p n c] 30)).alloc (.cells #[.int .i64 ym.k, .int .i64 ym.s, .int .i64 ym.n, .int .i64 ym.b, .int .i64 ym.c, .int .i64 ym.r, .int .i64 ym.y, .int .i64 ym.a, .bool ym.t, .slice ypl ym.ls.length ycl, .slice ypn ym.ns.length ycn] 36)).alloc (.cells #[.int .i64 0, .slice none 0 0] 30))) := Lib.hid ((((oneB w _).alloc (by simp <;> omega) _).alloc (by simp <;> omega) _))
 have Hc0 : Hid (Blk (((w.alloc (.cells #[.int .i64 (N : Int), .slice p n c] 30)).alloc (.cells #[.int .i64 ym.k, .int .i64 ym.s, .int .i64 ym.n, .int .i64 ym.b, .int .i64 ym.c, .int .i64 ym.r, .int .i64 ym.y, .int .i64 ym.a, .bool ym.t, .slice ypl ym.ls.length ycl, .slice ypn ym.ns.length ycn] 36)).alloc (.cells #[.int .i64 0, .slice none 0 0] 30)) w.heap.size #[.int .i64 (N : Int), .slice p n c] 30) := Lib.hid (((Blk.new w #[.int .i64 (N : Int), .slice p n c] 30).alloc _).alloc _)
 have Hm0 : Hid (Blk (((w.alloc (.cells #[.int .i64 (N : Int), .slice p n c] 30)).alloc (.cells #[.int .i64 ym.k, .int .i64 ym.s, .int .i64 ym.n, .int .i64 ym.b, .int .i64 ym.c, .int .i64 ym.r, .int .i64 ym.y, .int .i64 ym.a, .bool ym.t, .slice ypl ym.ls.length ycl, .slice ypn ym.ns.length ycn] 36)).alloc (.cells #[.int .i64 0, .slice none 0 0] 30)) (w.heap.size + 1) #[.int .i64 ym.k, .int .i64 ym.s, .int .i64 ym.n, .int .i64 ym.b, .int .i64 ym.c, .int .i64 ym.r, .int .i64 ym.y, .int .i64 ym.a, .bool ym.t, .slice ypl ym.ls.length ycl, .slice ypn ym.ns.length ycn] 36) := Lib.hid ((Blk.new' (w.alloc (.cells #[.int .i64 (N : Int), .slice p n c] 30)) #[.int .i64 ym.k, .int .i64 ym.s, .int .i64 ym.n, .int .i64 ym.b, .int .i64 ym.c, .int .i64 ym.r, .int .i64 ym.y, .int .i64 ym.a, .bool ym.t, .slice ypl ym.ls.length ycl, .slice ypn ym.ns.length ycn] 36 (by simp)).alloc _)
 have Hr0 : Hid (Blk (((w.alloc (.cells #[.int .i64 (N : Int), .slice p n c] 30)).alloc (.cells #[.int .i64 ym.k, .int .i64 ym.s, .int .i64 ym.n, .int .i64 ym.b, .int .i64 ym.c, .int .i64 ym.r, .int .i64 ym.y, .int .i64 ym.a, .bool ym.t, .slice ypl ym.ls.length ycl, .slice ypn ym.ns.length ycn] 36)).alloc (.cells #[.int .i64 0, .slice none 0 0] 30)) (w.heap.size + 1 + 1) #[.int .i64 0, .slice none 0 0] 30) := Lib.hid (Blk.new' ((w.alloc (.cells #[.int .i64 (N : Int), .slice p n c] 30)).alloc (.cells #[.int .i64 ym.k, .int .i64 ym.s, .int .i64 ym.n, .int .i64 ym.b, .int .i64 ym.c, .int .i64 ym.r, .int .i64 ym.y, .int .i64 ym.a, .bool ym.t, .slice ypl ym.ls.length ycl, .slice ypn ym.ns.length ycn] 36)) #[.int .i64 0, .slice none 0 0] 30 (by simp))
 have HZ0 : Hid (w.heap.size ≤ (((w.alloc (.cells #[.int .i64 (N : Int), .slice p n c] 30)).alloc (.cells #[.int .i64 ym.k, .int .i64 ym.s, .int .i64 ym.n, .int .i64 ym.b, .int .i64 ym.c, .int .i64 ym.r, .int .i64 ym.y, .int .i64 ym.a, .bool ym.t, .slice ypl ym.ls.length ycl, .slice ypn ym.ns.length ycn] 36)).alloc (.cells #[.int .i64 0, .slice none 0 0] 30)).heap.size) := Lib.hid HB0.out.size
 go_enter Try.func8, Try.ntmps8
 go_upto_region 1 with fail
 generalize (((w.alloc (.cells #[.int .i64 (N : Int), .slice p n c] 30)).alloc (.cells #[.int .i64 ym.k, .int .i64 ym.s, .int .i64 ym.n, .int .i64 ym.b, .int .i64 ym.c, .int .i64 ym.r, .int .i64 ym.y, .int .i64 ym.a, .bool ym.t, .slice ypl ym.ls.length ycl, .slice ypn ym.ns.length ycn] 36)).alloc (.cells #[.int .i64 0, .slice none 0 0] 30)) = W at *
 have HWL : Hid (w.heap.size + 1 + 1 < W.heap.size) := Lib.hid Hr0.out.lt
 have m0 : W.cell? ⟨w.heap.size + 1, 0, none⟩ = some (.int .i64 ym.k) := Hm0.out.cell 0
 by_cases hk : ym.k = 5
 ·skip
  have k5 : (ym.k == 5) = true := by rw [hk]; rfl
  have k16 : (ym.k == 16) = false := by rw [hk]; rfl
  have k11 : (ym.k == 11) = false := by rw [hk]; rfl
  have k13 : (ym.k == 13) = false := by rw [hk]; rfl
  have k15 : (ym.k == 15) = false := by rw [hk]; rfl
  have HKD := Lib.hid hk
  clear hk
  by_cases hf : fro = -1
  ·skip
   subst hf
   go_upto_region 6 with fail
   clear m0 k5 k16 k11 k13 k15
   have hA := HA.out
   rw [show doC N rs ym _ = startC N rs ym from doC_start HKD.out] at hA
   have HG := Lib.hid (dstart_any W (fun b => P b ∧ b < w.heap.size) N p n c rs (⟨ym, ypl, ycl, ypn, ycn⟩ : MsgX) (HRS.out.kept HB0.out) HKK.out.1 HKK.out.2 HNN.out HSO.out)
   rw [hA] at HG
   unfold DP at HG
   dsimp only at HG
   clear hA
   unfold Msg.v at HG
   have HWC : Hid (w.heap.size ≤ W.heap.size ∧ w.heap.size + 1 + 1 < W.heap.size) := Lib.hid ⟨HZ0.out, Hr0.out.lt⟩
   have a0 : W.cell? ⟨w.heap.size, 0, none⟩ = some (.int .i64 (N : Int)) := Hc0.out.cell 0
   have a1 : W.cell? ⟨w.heap.size, 1, none⟩ = some (.slice p n c) := Hc0.out.cell 1
   have m0 : W.cell? ⟨(w.heap.size + 1), 0, none⟩ = some (.int .i64 ym.k) := Hm0.out.cell 0
   have m1 : W.cell? ⟨(w.heap.size + 1), 1, none⟩ = some (.int .i64 ym.s) := Hm0.out.cell 1
   have m2 : W.cell? ⟨(w.heap.size + 1), 2, none⟩ = some (.int .i64 ym.n) := Hm0.out.cell 2
   have m3 : W.cell? ⟨(w.heap.size + 1), 3, none⟩ = some (.int .i64 ym.b) := Hm0.out.cell 3
   have m4 : W.cell? ⟨(w.heap.size + 1), 4, none⟩ = some (.int .i64 ym.c) := Hm0.out.cell 4
   have m5 : W.cell? ⟨(w.heap.size + 1), 5, none⟩ = some (.int .i64 ym.r) := Hm0.out.cell 5
   have m6 : W.cell? ⟨(w.heap.size + 1), 6, none⟩ = some (.int .i64 ym.y) := Hm0.out.cell 6
   have m7 : W.cell? ⟨(w.heap.size + 1), 7, none⟩ = some (.int .i64 ym.a) := Hm0.out.cell 7
   have m8 : W.cell? ⟨(w.heap.size + 1), 8, none⟩ = some (.bool ym.t) := Hm0.out.cell 8
   have m9 : W.cell? ⟨(w.heap.size + 1), 9, none⟩ = some (.slice ypl ym.ls.length ycl) := Hm0.out.cell 9
   have m10 : W.cell? ⟨(w.heap.size + 1), 10, none⟩ = some (.slice ypn ym.ns.length ycn) := Hm0.out.cell 10
   go_wp2_with fail
   clear a0 a1 m0 m1 m2 m3 m4 m5 m6 m7 m8 m9 m10
   refine HG.out.mono ?_
   rintro y9 w3 ⟨p3, n3, c3, p5, n5, c5, rfl, hn3, hn5, hq, hs, hb⟩
   clear HG
   have HQ := Lib.hid hq.lt
   have HSD := Lib.hid hs.ltB
   have HN35 := Lib.hid (And.intro hn3 hn5)
   clear hq hs hn3 hn5
   have Hc1 := kbq Hc0 hb
   have Hm1 := kbq Hm0 hb
   have Hr1 := kbq Hr0 hb
   have HB1 := ktq HB0 hb
   have HZ1 := kzq HZ0 hb.size
   clear Hc0 Hm0 Hr0 HB0 HZ0
   clear hb
   go_wp2_with (with_reducible refine stop_storeT 30 (.tmp 6) (.tmp 52) rfl ?_)
   have HTH : Hid (w3.there (w.heap.size + 1 + 1) 0 2) := Hr1.out.thereAt
   have hch : Hid (Chg (w.heap.size + 1 + 1) w3 (w3.setCells (w.heap.size + 1 + 1) 0 (#[.int .i64 (N : Int), .slice p3 n3 c3] : Array Value).toList)) := Lib.hid (chg_putL _ _ _ _ _ (Chg.refl _ w3))
   have Hr2 : Hid (Blk (w3.setCells (w.heap.size + 1 + 1) 0 (#[.int .i64 (N : Int), .slice p3 n3 c3] : Array Value).toList) (w.heap.size + 1 + 1) #[.int .i64 (N : Int), .slice p3 n3 c3] 30) := Lib.hid (blk_put_all Hr1.out _ rfl)
   have HB2 : Hid (Below w.heap.size w (w3.setCells (w.heap.size + 1 + 1) 0 (#[.int .i64 (N : Int), .slice p3 n3 c3] : Array Value).toList)) := Lib.hid (below_put (by omega) _ _ _ _ HB1.out)
   have HZ2 := kzq HZ1 hch.out.size
   have Hc2 := kcq Hc1 hch (by omega)
   have Hm2 := kcq Hm1 hch (by omega)
   have HSD2 := Lib.hid (HSD.out.chg hch.out (by intro h; (try dsimp only at h); have h1 := HWC.out; rcases h.1 with h3 | h3; (have := h3.2; omega); omega))
   have HQ4 := Lib.hid (HQ.out.chg hch.out (by intro h; (try dsimp only at h); have h1 := HWC.out; rcases h.1 with h3 | h3; (have := h3.2; omega); omega))
   clear HSD HQ
   clear hch Hc1 Hm1 Hr1 HB1 HZ1
   refine wpList_store_mid rfl 30 (.tmp 6) (.tmp 52) rfl (w.heap.size + 1 + 1) 0 #[.int .i64 (N : Int), .slice p3 n3 c3] rfl rfl HTH.out (infoDC rfl) (all_oneCell_toArray (by intro u hu; simp at hu; rcases hu with rfl | rfl <;> rfl)) ?_
   generalize (w3.setCells (w.heap.size + 1 + 1) 0 (#[.int .i64 (N : Int), .slice p3 n3 c3] : Array Value).toList) = W4 at *
   clear HTH
   go_wp2_with fail
   have hfr := Hr2.out
   refine bodyPost_ret (v := .tuple #[.agg #[.int .i64 (N : Int), .slice p3 n3 c3], .slice p5 n5 c5, .int .i64 ER]) (by simp [results, Try.results8, go_sem, hfr.cell 0, hfr.cell 1]) rfl ⟨p3, n3, c3, p5, n5, c5, rfl, HN35.out.1, HN35.out.2, (by exact HQ4.out.imp (Q := fun b => P b ∨ w.heap.size ≤ b) (fun b h => by have h1 := HWC.out; rcases h.1 with h2 | h2; exact .inl h2.1; exact .inr (by omega))), (by exact HSD2.out.imp (R := fun b => P b ∨ w.heap.size ≤ b) (fun b h => by have h1 := HWC.out; rcases h.1 with h2 | h2; exact .inl h2.1; exact .inr (by omega))), HB2.out⟩
  ·skip
   have hf1 : (fro == -1) = false := by simpa using hf
   have HF := Lib.hid hf
   clear hf
   go_upto_region 4 with fail
   clear m0 k5 k16 k11 k13 k15 hf1
   have hA := HA.out
   rw [show doC N rs ym _ = (rs, [], 110) from doC_cl HF.out (.inl HKD.out)] at hA
   cases hA
   have a0 : W.cell? ⟨w.heap.size, 0, none⟩ = some (.int .i64 (N : Int)) := Hc0.out.cell 0
   have a1 : W.cell? ⟨w.heap.size, 1, none⟩ = some (.slice p n c) := Hc0.out.cell 1
   go_wp2_with (with_reducible refine stop_storeT 30 (.tmp 6) (.tmp 45) rfl ?_)
   clear a0 a1
   have HTH : Hid (W.there (w.heap.size + 1 + 1) 0 2) := Hr0.out.thereAt
   have hch : Hid (Chg (w.heap.size + 1 + 1) W (W.setCells (w.heap.size + 1 + 1) 0 (#[.int .i64 (N : Int), .slice p n c] : Array Value).toList)) := Lib.hid (chg_putL _ _ _ _ _ (Chg.refl _ W))
   have Hr1 : Hid (Blk (W.setCells (w.heap.size + 1 + 1) 0 (#[.int .i64 (N : Int), .slice p n c] : Array Value).toList) (w.heap.size + 1 + 1) #[.int .i64 (N : Int), .slice p n c] 30) := Lib.hid (blk_put_all Hr0.out _ rfl)
   have HB1 : Hid (Below w.heap.size w (W.setCells (w.heap.size + 1 + 1) 0 (#[.int .i64 (N : Int), .slice p n c] : Array Value).toList)) := Lib.hid (below_put (by omega) _ _ _ _ HB0.out)
   have HZ1 := kzq HZ0 hch.out.size
   have Hc1 := kcq Hc0 hch (by omega)
   have Hm1 := kcq Hm0 hch (by omega)
   clear hch Hc0 Hm0 Hr0 HB0 HZ0
   refine wpList_store_mid rfl 30 (.tmp 6) (.tmp 45) rfl (w.heap.size + 1 + 1) 0 #[.int .i64 (N : Int), .slice p n c] rfl rfl HTH.out (infoDC rfl) (all_oneCell_toArray (by intro u hu; simp at hu; rcases hu with rfl | rfl <;> rfl)) ?_
   generalize (W.setCells (w.heap.size + 1 + 1) 0 (#[.int .i64 (N : Int), .slice p n c] : Array Value).toList) = W2 at *
   clear HTH
   go_wp2_with fail
   have hfr := Hr1.out
   refine bodyPost_ret (v := .tuple #[.agg #[.int .i64 (N : Int), .slice p n c], .slice none 0 0, .int .i64 110]) (by simp [results, Try.results8, go_sem, hfr.cell 0, hfr.cell 1]) rfl ⟨_, _, _, none, 0, 0, rfl, HKK.out.1, rfl, ((HRS.out.kept HB1.out).imp (fun b h => .inl h.1)), SdR.nil_ _ _, HB1.out⟩
 have HN5K := Lib.hid hk
 have k5 : (ym.k == 5) = false := by simpa using hk
 clear hk
 by_cases hk : ym.k = 16
 ·skip
  have k5 : (ym.k == 5) = false := by rw [hk]; rfl
  have k16 : (ym.k == 16) = true := by rw [hk]; rfl
  have k11 : (ym.k == 11) = false := by rw [hk]; rfl
  have k13 : (ym.k == 13) = false := by rw [hk]; rfl
  have k15 : (ym.k == 15) = false := by rw [hk]; rfl
  have HKD := Lib.hid hk
  clear hk
  by_cases hf : fro = -1
  ·skip
   subst hf
   go_upto_region 9 with fail
   obtain ⟨yy, hyy⟩ : ∃ z, ym.y = z := ⟨_, rfl⟩
   have HYY := Lib.hid hyy
   clear hyy
   have m6 : W.cell? ⟨w.heap.size + 1, 6, none⟩ = some (.int .i64 yy) := by rw [← HYY.out]; exact Hm0.out.cell 6
   have a0 : W.cell? ⟨w.heap.size, 0, none⟩ = some (.int .i64 (N : Int)) := Hc0.out.cell 0
   have a1 : W.cell? ⟨w.heap.size, 1, none⟩ = some (.slice p n c) := Hc0.out.cell 1
   by_cases hy1 : yy < 1
   ·skip
    have HHB : Hid (hasB rs ym.y = false) := Lib.hid (by unfold hasB; rw [HYY.out]; exact decide_eq_false (by have := HKK.out.1; omega))
    go_upto_region 10 with fail
    clear m6 a0 a1 m0 k5 k16 k11 k13 k15 hy1
    have hA := HA.out
    rw [show doC N rs ym _ = (rs, [], 4) from doC_due0 HKD.out HHB.out] at hA
    cases hA
    have a0 : W.cell? ⟨w.heap.size, 0, none⟩ = some (.int .i64 (N : Int)) := Hc0.out.cell 0
    have a1 : W.cell? ⟨w.heap.size, 1, none⟩ = some (.slice p n c) := Hc0.out.cell 1
    go_wp2_with (with_reducible refine stop_storeT 30 (.tmp 6) (.tmp 78) rfl ?_)
    clear a0 a1
    have HTH : Hid (W.there (w.heap.size + 1 + 1) 0 2) := Hr0.out.thereAt
    have hch : Hid (Chg (w.heap.size + 1 + 1) W (W.setCells (w.heap.size + 1 + 1) 0 (#[.int .i64 (N : Int), .slice p n c] : Array Value).toList)) := Lib.hid (chg_putL _ _ _ _ _ (Chg.refl _ W))
    have Hr1 : Hid (Blk (W.setCells (w.heap.size + 1 + 1) 0 (#[.int .i64 (N : Int), .slice p n c] : Array Value).toList) (w.heap.size + 1 + 1) #[.int .i64 (N : Int), .slice p n c] 30) := Lib.hid (blk_put_all Hr0.out _ rfl)
    have HB1 : Hid (Below w.heap.size w (W.setCells (w.heap.size + 1 + 1) 0 (#[.int .i64 (N : Int), .slice p n c] : Array Value).toList)) := Lib.hid (below_put (by omega) _ _ _ _ HB0.out)
    have HZ1 := kzq HZ0 hch.out.size
    have Hc1 := kcq Hc0 hch (by omega)
    have Hm1 := kcq Hm0 hch (by omega)
    clear hch Hc0 Hm0 Hr0 HB0 HZ0
    refine wpList_store_mid rfl 30 (.tmp 6) (.tmp 78) rfl (w.heap.size + 1 + 1) 0 #[.int .i64 (N : Int), .slice p n c] rfl rfl HTH.out (infoDC rfl) (all_oneCell_toArray (by intro u hu; simp at hu; rcases hu with rfl | rfl <;> rfl)) ?_
    generalize (W.setCells (w.heap.size + 1 + 1) 0 (#[.int .i64 (N : Int), .slice p n c] : Array Value).toList) = W2 at *
    clear HTH
    go_wp2_with fail
    have hfr := Hr1.out
    refine bodyPost_ret (v := .tuple #[.agg #[.int .i64 (N : Int), .slice p n c], .slice none 0 0, .int .i64 4]) (by simp [results, Try.results8, go_sem, hfr.cell 0, hfr.cell 1]) rfl ⟨_, _, _, none, 0, 0, rfl, HKK.out.1, rfl, ((HRS.out.kept HB1.out).imp (fun b h => .inl h.1)), SdR.nil_ _ _, HB1.out⟩
   by_cases hy2 : (n : Int) < yy
   ·skip
    have HHB : Hid (hasB rs ym.y = false) := Lib.hid (by unfold hasB; rw [HYY.out]; exact decide_eq_false (by have := HKK.out.1; omega))
    go_upto_region 10 with fail
    clear m6 a0 a1 m0 k5 k16 k11 k13 k15 hy1 hy2
    have hA := HA.out
    rw [show doC N rs ym _ = (rs, [], 4) from doC_due0 HKD.out HHB.out] at hA
    cases hA
    have a0 : W.cell? ⟨w.heap.size, 0, none⟩ = some (.int .i64 (N : Int)) := Hc0.out.cell 0
    have a1 : W.cell? ⟨w.heap.size, 1, none⟩ = some (.slice p n c) := Hc0.out.cell 1
    go_wp2_with (with_reducible refine stop_storeT 30 (.tmp 6) (.tmp 78) rfl ?_)
    clear a0 a1
    have HTH : Hid (W.there (w.heap.size + 1 + 1) 0 2) := Hr0.out.thereAt
    have hch : Hid (Chg (w.heap.size + 1 + 1) W (W.setCells (w.heap.size + 1 + 1) 0 (#[.int .i64 (N : Int), .slice p n c] : Array Value).toList)) := Lib.hid (chg_putL _ _ _ _ _ (Chg.refl _ W))
    have Hr1 : Hid (Blk (W.setCells (w.heap.size + 1 + 1) 0 (#[.int .i64 (N : Int), .slice p n c] : Array Value).toList) (w.heap.size + 1 + 1) #[.int .i64 (N : Int), .slice p n c] 30) := Lib.hid (blk_put_all Hr0.out _ rfl)
    have HB1 : Hid (Below w.heap.size w (W.setCells (w.heap.size + 1 + 1) 0 (#[.int .i64 (N : Int), .slice p n c] : Array Value).toList)) := Lib.hid (below_put (by omega) _ _ _ _ HB0.out)
    have HZ1 := kzq HZ0 hch.out.size
    have Hc1 := kcq Hc0 hch (by omega)
    have Hm1 := kcq Hm0 hch (by omega)
    clear hch Hc0 Hm0 Hr0 HB0 HZ0
    refine wpList_store_mid rfl 30 (.tmp 6) (.tmp 78) rfl (w.heap.size + 1 + 1) 0 #[.int .i64 (N : Int), .slice p n c] rfl rfl HTH.out (infoDC rfl) (all_oneCell_toArray (by intro u hu; simp at hu; rcases hu with rfl | rfl <;> rfl)) ?_
    generalize (W.setCells (w.heap.size + 1 + 1) 0 (#[.int .i64 (N : Int), .slice p n c] : Array Value).toList) = W2 at *
    clear HTH
    go_wp2_with fail
    have hfr := Hr1.out
    refine bodyPost_ret (v := .tuple #[.agg #[.int .i64 (N : Int), .slice p n c], .slice none 0 0, .int .i64 4]) (by simp [results, Try.results8, go_sem, hfr.cell 0, hfr.cell 1]) rfl ⟨_, _, _, none, 0, 0, rfl, HKK.out.1, rfl, ((HRS.out.kept HB1.out).imp (fun b h => .inl h.1)), SdR.nil_ _ _, HB1.out⟩
   obtain ⟨kn, hkn⟩ : ∃ kn : Nat, yy = (kn : Int) + 1 := ⟨(yy - 1).toNat, by omega⟩
   subst hkn
   have hkl : kn < n := by omega
   have HKN : Hid (kn < n) := Lib.hid hkl
   have HHB : Hid (hasB rs ym.y = true) := Lib.hid (by unfold hasB; rw [HYY.out]; exact decide_eq_true (by have := HKK.out.1; omega))
   have hw1 : wrap64 (kn : Int) = (kn : Int) := by unfold wrap64; have := HKK.out.2; omega
   have hkI : (kn : Int) < (n : Int) := by omega
   obtain ⟨xs, hr, hat, hin, hm⟩ := HRS.out
   have hkx : kn < xs.length := by have h1 := HKK.out.1; rw [← hm, List.length_map] at h1; omega
   obtain ⟨b, o, hp, hbl, hcs⟩ := hr.at_ kn hkx
   obtain ⟨X, hX⟩ : ∃ X, xs[kn] = X := ⟨_, rfl⟩
   rw [hX] at hcs
   have HXI : Hid (X.In (fun b => P b ∧ b < w.heap.size) w) := Lib.hid (hin X (by rw [← hX]; exact List.getElem_mem hkx))
   have HXR : Hid (X.rn N = rnAt rs ym.y) := Lib.hid (by
    unfold rnAt
    rw [HYY.out, ← hm, show ((kn : Int) + 1 - 1).toNat = kn by omega, List.getElem?_map, List.getElem?_eq_getElem hkx, hX]
    rfl)
   have HXS : Hid (1 ≤ X.st ∧ X.st ≤ 4) := Lib.hid (HSO.out (X.rn N) (by rw [← hm]; exact List.mem_map_of_mem (by rw [← hX]; exact List.getElem_mem hkx)))
   have HBL := Lib.hid hbl
   have HCS := Lib.hid hcs
   subst hp
   clear hr hat hin hm hbl hcs hX hkx
   go_upto_region 11 with fail
   clear a0 a1
   have a1 : W.cell? ⟨w.heap.size, 1, none⟩ = some (.slice (some ⟨b, o, none⟩) n c) := Hc0.out.cell 1
   go_wp2_with (with_reducible refine stop_loadT 76 (.tmp 84) rfl ?_)
   refine wpList_loadD rfl (.tmp 84) rfl b (o + kn * 28) rfl X (fun t ht => (HB0.out.cell (p := ⟨b, _, none⟩) HBL.out).trans (HCS.out t ht)) ?_
   have HGR : Hid (w.heap.size + 1 + 1 < W.heap.size) := Lib.hid Hr0.out.lt
   have hba := oneB W (.cells #[.int .i64 0, .int .i64 0, .bool false, .bool false, .bool false, .bool false, .bool false, .bool false, .bool false, .bool false, .bool false, .bool false, .bool false, .bool false, .bool false, .bool false, .bool false, .bool false, .slice none 0 0, .slice none 0 0, .slice none 0 0, .slice none 0 0, .slice none 0 0, .slice none 0 0, .slice none 0 0, .slice none 0 0, .slice none 0 0, .slice none 0 0] 76)
   have Hc1 := kbq Hc0 hba
   have Hm1 := kbq Hm0 hba
   have Hr1 := kbq Hr0 hba
   have Hx1 := Lib.hid (Blk.new W #[.int .i64 0, .int .i64 0, .bool false, .bool false, .bool false, .bool false, .bool false, .bool false, .bool false, .bool false, .bool false, .bool false, .bool false, .bool false, .bool false, .bool false, .bool false, .bool false, .slice none 0 0, .slice none 0 0, .slice none 0 0, .slice none 0 0, .slice none 0 0, .slice none 0 0, .slice none 0 0, .slice none 0 0, .slice none 0 0, .slice none 0 0] 76)
   have HB1 := Lib.hid (HB0.out.alloc HB0.out.size (.cells #[.int .i64 0, .int .i64 0, .bool false, .bool false, .bool false, .bool false, .bool false, .bool false, .bool false, .bool false, .bool false, .bool false, .bool false, .bool false, .bool false, .bool false, .bool false, .bool false, .slice none 0 0, .slice none 0 0, .slice none 0 0, .slice none 0 0, .slice none 0 0, .slice none 0 0, .slice none 0 0, .slice none 0 0, .slice none 0 0, .slice none 0 0] 76))
   have HZ1 := kzq HZ0 hba.size
   have HGgx : Hid (w.heap.size ≤ W.heap.size) := Lib.hid HB0.out.size
   clear hba Hc0 Hm0 Hr0 HB0 HZ0
   go_wp2_with (with_reducible refine stop_storeT 76 (.tmp 11) (.tmp 85) rfl ?_)
   clear a1 m6 hy1 hy2 hkl hkI hw1
   generalize (W.alloc (.cells #[.int .i64 0, .int .i64 0, .bool false, .bool false, .bool false, .bool false, .bool false, .bool false, .bool false, .bool false, .bool false, .bool false, .bool false, .bool false, .bool false, .bool false, .bool false, .bool false, .slice none 0 0, .slice none 0 0, .slice none 0 0, .slice none 0 0, .slice none 0 0, .slice none 0 0, .slice none 0 0, .slice none 0 0, .slice none 0 0, .slice none 0 0] 76)) = W1 at *
   generalize hggx : W.heap.size = gx at *
   have HGX := Lib.hid hggx
   clear hggx
   have HTH : Hid (W1.there gx 0 28) := Hx1.out.thereAt
   have hch : Hid (Chg gx W1 (W1.setCells gx 0 X.arr.toList)) := Lib.hid (chg_putL _ _ _ _ _ (Chg.refl _ W1))
   have Hx2 : Hid (Blk (W1.setCells gx 0 X.arr.toList) gx X.arr 76) := Lib.hid (blk_put_all Hx1.out _ rfl)
   have HB2 : Hid (Below w.heap.size w (W1.setCells gx 0 X.arr.toList)) := Lib.hid (below_put (by have := HGR.out; have := HGgx.out; omega) _ _ _ _ HB1.out)
   have HZ2 := kzq HZ1 hch.out.size
   have Hc2 := kcq Hc1 hch (by have := HGR.out; have := HGgx.out; omega)
   have Hm2 := kcq Hm1 hch (by have := HGR.out; have := HGgx.out; omega)
   have Hr2 := kcq Hr1 hch (by have := HGR.out; have := HGgx.out; omega)
   clear hch Hc1 Hm1 Hr1 Hx1 HB1 HZ1
   refine wpList_store_mid rfl 76 (.tmp 11) (.tmp 85) rfl gx 0 X.arr rfl rfl HTH.out (infoD28 rfl) X.all_one ?_
   generalize (W1.setCells gx 0 X.arr.toList) = W2 at *
   clear HTH
   clear m0
   go_upto_region 12 with fail
   have m0 : W2.cell? ⟨w.heap.size + 1, 0, none⟩ = some (.int .i64 ym.k) := Hm2.out.cell 0
   go_upto_region 16 with fail
   have x1 : W2.cell? ⟨gx, 1, none⟩ = some (.int .i64 X.st) := Hx2.out.cell 1
   by_cases hs3 : X.st < 3
   ·skip
    have HOP : Hid (openB (rnAt rs ym.y) = true) := Lib.hid (by rw [← HXR.out, openB_lt (show 1 ≤ (X.rn N).st ∧ (X.rn N).st ≤ 4 from HXS.out)]; exact decide_eq_true hs3)
    go_upto_region 19 with fail
    clear m0 k5 k16 k11 k13 k15 x1 hs3
    have hA := HA.out
    rw [show doC N rs ym _ = (rs.set (ym.y - 1).toNat ((rnAt rs ym.y).to 4), toAllL N (decM ym.y ((rnAt rs ym.y).to 4)), 0) from (by rw [doC_due1 HKD.out HHB.out]; unfold dueC; rw [if_pos HOP.out])] at hA
    have HG := Lib.hid (dend_any W2 (fun b => P b ∧ b < w.heap.size) N ym.y false (some ⟨b, o, none⟩) n c rs X (HRS.out.kept HB2.out) HKK.out.1 HKK.out.2 (by rw [HYY.out]; omega) (by rw [HYY.out]; have := HKN.out; omega) (HXI.out.kept HB2.out) HNN.out)
    rw [HXR.out] at HG
    cases hA
    have HWC : Hid (w.heap.size ≤ W2.heap.size ∧ w.heap.size + 1 + 1 < W2.heap.size) := Lib.hid ⟨HZ2.out, Hr2.out.lt⟩
    have a0 : W2.cell? ⟨w.heap.size, 0, none⟩ = some (.int .i64 (N : Int)) := Hc2.out.cell 0
    have a1 : W2.cell? ⟨w.heap.size, 1, none⟩ = some (.slice (some ⟨b, o, none⟩) n c) := Hc2.out.cell 1
    have m6 : W2.cell? ⟨w.heap.size + 1, 6, none⟩ = some (.int .i64 ym.y) := Hm2.out.cell 6
    unfold DrX.v at HG
    go_wp2_with (with_reducible refine stop_loadT 76 (.tmp 11) rfl ?_)
    refine wpList_loadD rfl (.tmp 11) rfl gx 0 rfl X (dcell Hx2.out) ?_
    go_wp2_with fail
    clear a0 a1 m6
    refine HG.out.mono ?_
    rintro y9 w3 ⟨p3, n3, c3, p5, n5, c5, rfl, hn3, hn5, hq, hs, hb⟩
    clear HG
    have HQ := Lib.hid hq.lt
    have HSD := Lib.hid hs.ltB
    have HN35 := Lib.hid (And.intro hn3 hn5)
    clear hq hs hn3 hn5
    have Hc3 := kbq Hc2 hb
    have Hm3 := kbq Hm2 hb
    have Hr3 := kbq Hr2 hb
    have Hx3 := kbq Hx2 hb
    have HB3 := ktq HB2 hb
    have HZ3 := kzq HZ2 hb.size
    clear Hc2 Hm2 Hr2 Hx2 HB2 HZ2
    clear hb
    go_wp2_with (with_reducible refine stop_storeT 30 (.tmp 6) (.tmp 124) rfl ?_)
    have HTH : Hid (w3.there (w.heap.size + 1 + 1) 0 2) := Hr3.out.thereAt
    have hch : Hid (Chg (w.heap.size + 1 + 1) w3 (w3.setCells (w.heap.size + 1 + 1) 0 (#[.int .i64 (N : Int), .slice p3 n3 c3] : Array Value).toList)) := Lib.hid (chg_putL _ _ _ _ _ (Chg.refl _ w3))
    have Hr4 : Hid (Blk (w3.setCells (w.heap.size + 1 + 1) 0 (#[.int .i64 (N : Int), .slice p3 n3 c3] : Array Value).toList) (w.heap.size + 1 + 1) #[.int .i64 (N : Int), .slice p3 n3 c3] 30) := Lib.hid (blk_put_all Hr3.out _ rfl)
    have HB4 : Hid (Below w.heap.size w (w3.setCells (w.heap.size + 1 + 1) 0 (#[.int .i64 (N : Int), .slice p3 n3 c3] : Array Value).toList)) := Lib.hid (below_put (by have := HGR.out; have := HGgx.out; omega) _ _ _ _ HB3.out)
    have HZ4 := kzq HZ3 hch.out.size
    have Hc4 := kcq Hc3 hch (by have := HGR.out; have := HGgx.out; omega)
    have Hm4 := kcq Hm3 hch (by have := HGR.out; have := HGgx.out; omega)
    have Hx4 := kcq Hx3 hch (by have := HGR.out; have := HGgx.out; omega)
    have HSD2 := Lib.hid (HSD.out.chg hch.out (by intro h; (try dsimp only at h); have h1 := HWC.out; rcases h.1 with h3 | h3; (have := h3.2; omega); omega))
    have HQ4 := Lib.hid (HQ.out.chg hch.out (by intro h; (try dsimp only at h); have h1 := HWC.out; rcases h.1 with h3 | h3; (have := h3.2; omega); omega))
    clear HSD HQ
    clear hch Hc3 Hm3 Hr3 Hx3 HB3 HZ3
    refine wpList_store_mid rfl 30 (.tmp 6) (.tmp 124) rfl (w.heap.size + 1 + 1) 0 #[.int .i64 (N : Int), .slice p3 n3 c3] rfl rfl HTH.out (infoDC rfl) (all_oneCell_toArray (by intro u hu; simp at hu; rcases hu with rfl | rfl <;> rfl)) ?_
    generalize (w3.setCells (w.heap.size + 1 + 1) 0 (#[.int .i64 (N : Int), .slice p3 n3 c3] : Array Value).toList) = W4 at *
    clear HTH
    go_wp2_with fail
    have hfr := Hr4.out
    refine bodyPost_ret (v := .tuple #[.agg #[.int .i64 (N : Int), .slice p3 n3 c3], .slice p5 n5 c5, .int .i64 0]) (by simp [results, Try.results8, go_sem, hfr.cell 0, hfr.cell 1]) rfl ⟨p3, n3, c3, p5, n5, c5, rfl, HN35.out.1, HN35.out.2, (by exact HQ4.out.imp (Q := fun b => P b ∨ w.heap.size ≤ b) (fun b h => by have h1 := HWC.out; rcases h.1 with h2 | h2; exact .inl h2.1; exact .inr (by omega))), (by exact HSD2.out.imp (R := fun b => P b ∨ w.heap.size ≤ b) (fun b h => by have h1 := HWC.out; rcases h.1 with h2 | h2; exact .inl h2.1; exact .inr (by omega))), HB4.out⟩
   ·skip
    have HOP : Hid (openB (rnAt rs ym.y) = false) := Lib.hid (by rw [← HXR.out, openB_lt (show 1 ≤ (X.rn N).st ∧ (X.rn N).st ≤ 4 from HXS.out)]; exact decide_eq_false hs3)
    go_upto_region 17 with fail
    clear m0 k5 k16 k11 k13 k15 x1 hs3
    have hA := HA.out
    rw [show doC N rs ym _ = (rs, [], 90) from by rw [doC_due1 HKD.out HHB.out]; unfold dueC; rw [if_neg (by rw [HOP.out]; decide)]] at hA
    cases hA
    have a0 : W2.cell? ⟨w.heap.size, 0, none⟩ = some (.int .i64 (N : Int)) := Hc2.out.cell 0
    have a1 : W2.cell? ⟨w.heap.size, 1, none⟩ = some (.slice (some ⟨b, o, none⟩) n c) := Hc2.out.cell 1
    go_wp2_with (with_reducible refine stop_storeT 30 (.tmp 6) (.tmp 115) rfl ?_)
    clear a0 a1
    have HTH : Hid (W2.there (w.heap.size + 1 + 1) 0 2) := Hr2.out.thereAt
    have hch : Hid (Chg (w.heap.size + 1 + 1) W2 (W2.setCells (w.heap.size + 1 + 1) 0 (#[.int .i64 (N : Int), .slice (some ⟨b, o, none⟩) n c] : Array Value).toList)) := Lib.hid (chg_putL _ _ _ _ _ (Chg.refl _ W2))
    have Hr3 : Hid (Blk (W2.setCells (w.heap.size + 1 + 1) 0 (#[.int .i64 (N : Int), .slice (some ⟨b, o, none⟩) n c] : Array Value).toList) (w.heap.size + 1 + 1) #[.int .i64 (N : Int), .slice (some ⟨b, o, none⟩) n c] 30) := Lib.hid (blk_put_all Hr2.out _ rfl)
    have HB3 : Hid (Below w.heap.size w (W2.setCells (w.heap.size + 1 + 1) 0 (#[.int .i64 (N : Int), .slice (some ⟨b, o, none⟩) n c] : Array Value).toList)) := Lib.hid (below_put (by have := HGR.out; have := HGgx.out; omega) _ _ _ _ HB2.out)
    have HZ3 := kzq HZ2 hch.out.size
    have Hc3 := kcq Hc2 hch (by have := HGR.out; have := HGgx.out; omega)
    have Hm3 := kcq Hm2 hch (by have := HGR.out; have := HGgx.out; omega)
    have Hx3 := kcq Hx2 hch (by have := HGR.out; have := HGgx.out; omega)
    clear hch Hc2 Hm2 Hr2 Hx2 HB2 HZ2
    refine wpList_store_mid rfl 30 (.tmp 6) (.tmp 115) rfl (w.heap.size + 1 + 1) 0 #[.int .i64 (N : Int), .slice (some ⟨b, o, none⟩) n c] rfl rfl HTH.out (infoDC rfl) (all_oneCell_toArray (by intro u hu; simp at hu; rcases hu with rfl | rfl <;> rfl)) ?_
    generalize (W2.setCells (w.heap.size + 1 + 1) 0 (#[.int .i64 (N : Int), .slice (some ⟨b, o, none⟩) n c] : Array Value).toList) = W3 at *
    clear HTH
    go_wp2_with fail
    have hfr := Hr3.out
    refine bodyPost_ret (v := .tuple #[.agg #[.int .i64 (N : Int), .slice (some ⟨b, o, none⟩) n c], .slice none 0 0, .int .i64 90]) (by simp [results, Try.results8, go_sem, hfr.cell 0, hfr.cell 1]) rfl ⟨_, _, _, none, 0, 0, rfl, HKK.out.1, rfl, ((HRS.out.kept HB3.out).imp (fun b h => .inl h.1)), SdR.nil_ _ _, HB3.out⟩
  ·skip
   have hf1 : (fro == -1) = false := by simpa using hf
   have HF := Lib.hid hf
   clear hf
   go_upto_region 4 with fail
   clear m0 k5 k16 k11 k13 k15 hf1
   have hA := HA.out
   rw [show doC N rs ym _ = (rs, [], 110) from doC_cl HF.out (.inr HKD.out)] at hA
   cases hA
   have a0 : W.cell? ⟨w.heap.size, 0, none⟩ = some (.int .i64 (N : Int)) := Hc0.out.cell 0
   have a1 : W.cell? ⟨w.heap.size, 1, none⟩ = some (.slice p n c) := Hc0.out.cell 1
   go_wp2_with (with_reducible refine stop_storeT 30 (.tmp 6) (.tmp 45) rfl ?_)
   clear a0 a1
   have HTH : Hid (W.there (w.heap.size + 1 + 1) 0 2) := Hr0.out.thereAt
   have hch : Hid (Chg (w.heap.size + 1 + 1) W (W.setCells (w.heap.size + 1 + 1) 0 (#[.int .i64 (N : Int), .slice p n c] : Array Value).toList)) := Lib.hid (chg_putL _ _ _ _ _ (Chg.refl _ W))
   have Hr1 : Hid (Blk (W.setCells (w.heap.size + 1 + 1) 0 (#[.int .i64 (N : Int), .slice p n c] : Array Value).toList) (w.heap.size + 1 + 1) #[.int .i64 (N : Int), .slice p n c] 30) := Lib.hid (blk_put_all Hr0.out _ rfl)
   have HB1 : Hid (Below w.heap.size w (W.setCells (w.heap.size + 1 + 1) 0 (#[.int .i64 (N : Int), .slice p n c] : Array Value).toList)) := Lib.hid (below_put (by omega) _ _ _ _ HB0.out)
   have HZ1 := kzq HZ0 hch.out.size
   have Hc1 := kcq Hc0 hch (by omega)
   have Hm1 := kcq Hm0 hch (by omega)
   clear hch Hc0 Hm0 Hr0 HB0 HZ0
   refine wpList_store_mid rfl 30 (.tmp 6) (.tmp 45) rfl (w.heap.size + 1 + 1) 0 #[.int .i64 (N : Int), .slice p n c] rfl rfl HTH.out (infoDC rfl) (all_oneCell_toArray (by intro u hu; simp at hu; rcases hu with rfl | rfl <;> rfl)) ?_
   generalize (W.setCells (w.heap.size + 1 + 1) 0 (#[.int .i64 (N : Int), .slice p n c] : Array Value).toList) = W2 at *
   clear HTH
   go_wp2_with fail
   have hfr := Hr1.out
   refine bodyPost_ret (v := .tuple #[.agg #[.int .i64 (N : Int), .slice p n c], .slice none 0 0, .int .i64 110]) (by simp [results, Try.results8, go_sem, hfr.cell 0, hfr.cell 1]) rfl ⟨_, _, _, none, 0, 0, rfl, HKK.out.1, rfl, ((HRS.out.kept HB1.out).imp (fun b h => .inl h.1)), SdR.nil_ _ _, HB1.out⟩
 have HN16K := Lib.hid hk
 have k16 : (ym.k == 16) = false := by simpa using hk
 clear hk
 by_cases hk : ym.k = 11
 ·skip
  have k5 : (ym.k == 5) = false := by rw [hk]; rfl
  have k16 : (ym.k == 16) = false := by rw [hk]; rfl
  have k11 : (ym.k == 11) = true := by rw [hk]; rfl
  have k13 : (ym.k == 13) = false := by rw [hk]; rfl
  have k15 : (ym.k == 15) = false := by rw [hk]; rfl
  have HKD := Lib.hid hk
  clear hk
  by_cases hf : fro = -1
  ·skip
   subst hf
   go_upto_region 4 with fail
   clear m0 k5 k16 k11 k13 k15
   have hA := HA.out
   rw [show doC N rs ym _ = (rs, [], 110) from doC_nd (by have := HKD.out; omega)] at hA
   cases hA
   have a0 : W.cell? ⟨w.heap.size, 0, none⟩ = some (.int .i64 (N : Int)) := Hc0.out.cell 0
   have a1 : W.cell? ⟨w.heap.size, 1, none⟩ = some (.slice p n c) := Hc0.out.cell 1
   go_wp2_with (with_reducible refine stop_storeT 30 (.tmp 6) (.tmp 45) rfl ?_)
   clear a0 a1
   have HTH : Hid (W.there (w.heap.size + 1 + 1) 0 2) := Hr0.out.thereAt
   have hch : Hid (Chg (w.heap.size + 1 + 1) W (W.setCells (w.heap.size + 1 + 1) 0 (#[.int .i64 (N : Int), .slice p n c] : Array Value).toList)) := Lib.hid (chg_putL _ _ _ _ _ (Chg.refl _ W))
   have Hr1 : Hid (Blk (W.setCells (w.heap.size + 1 + 1) 0 (#[.int .i64 (N : Int), .slice p n c] : Array Value).toList) (w.heap.size + 1 + 1) #[.int .i64 (N : Int), .slice p n c] 30) := Lib.hid (blk_put_all Hr0.out _ rfl)
   have HB1 : Hid (Below w.heap.size w (W.setCells (w.heap.size + 1 + 1) 0 (#[.int .i64 (N : Int), .slice p n c] : Array Value).toList)) := Lib.hid (below_put (by omega) _ _ _ _ HB0.out)
   have HZ1 := kzq HZ0 hch.out.size
   have Hc1 := kcq Hc0 hch (by omega)
   have Hm1 := kcq Hm0 hch (by omega)
   clear hch Hc0 Hm0 Hr0 HB0 HZ0
   refine wpList_store_mid rfl 30 (.tmp 6) (.tmp 45) rfl (w.heap.size + 1 + 1) 0 #[.int .i64 (N : Int), .slice p n c] rfl rfl HTH.out (infoDC rfl) (all_oneCell_toArray (by intro u hu; simp at hu; rcases hu with rfl | rfl <;> rfl)) ?_
   generalize (W.setCells (w.heap.size + 1 + 1) 0 (#[.int .i64 (N : Int), .slice p n c] : Array Value).toList) = W2 at *
   clear HTH
   go_wp2_with fail
   have hfr := Hr1.out
   refine bodyPost_ret (v := .tuple #[.agg #[.int .i64 (N : Int), .slice p n c], .slice none 0 0, .int .i64 110]) (by simp [results, Try.results8, go_sem, hfr.cell 0, hfr.cell 1]) rfl ⟨_, _, _, none, 0, 0, rfl, HKK.out.1, rfl, ((HRS.out.kept HB1.out).imp (fun b h => .inl h.1)), SdR.nil_ _ _, HB1.out⟩
  ·skip
   have hf1 : (fro == -1) = false := by simpa using hf
   have HF := Lib.hid hf
   clear hf
   have a0 : W.cell? ⟨w.heap.size, 0, none⟩ = some (.int .i64 (N : Int)) := Hc0.out.cell 0
   by_cases hf2 : fro < 0
   ·skip
    have HF2 := Lib.hid hf2
    go_upto_region 8 with fail
    clear m0 k5 k16 k11 k13 k15 hf1 a0 hf2
    have hA := HA.out
    rw [show doC N rs ym _ = (rs, [], 140) from doC_oth (by have := HKD.out; omega) HF.out (.inl HF2.out)] at hA
    cases hA
    have a0 : W.cell? ⟨w.heap.size, 0, none⟩ = some (.int .i64 (N : Int)) := Hc0.out.cell 0
    have a1 : W.cell? ⟨w.heap.size, 1, none⟩ = some (.slice p n c) := Hc0.out.cell 1
    go_wp2_with (with_reducible refine stop_storeT 30 (.tmp 6) (.tmp 66) rfl ?_)
    clear a0 a1
    have HTH : Hid (W.there (w.heap.size + 1 + 1) 0 2) := Hr0.out.thereAt
    have hch : Hid (Chg (w.heap.size + 1 + 1) W (W.setCells (w.heap.size + 1 + 1) 0 (#[.int .i64 (N : Int), .slice p n c] : Array Value).toList)) := Lib.hid (chg_putL _ _ _ _ _ (Chg.refl _ W))
    have Hr1 : Hid (Blk (W.setCells (w.heap.size + 1 + 1) 0 (#[.int .i64 (N : Int), .slice p n c] : Array Value).toList) (w.heap.size + 1 + 1) #[.int .i64 (N : Int), .slice p n c] 30) := Lib.hid (blk_put_all Hr0.out _ rfl)
    have HB1 : Hid (Below w.heap.size w (W.setCells (w.heap.size + 1 + 1) 0 (#[.int .i64 (N : Int), .slice p n c] : Array Value).toList)) := Lib.hid (below_put (by omega) _ _ _ _ HB0.out)
    have HZ1 := kzq HZ0 hch.out.size
    have Hc1 := kcq Hc0 hch (by omega)
    have Hm1 := kcq Hm0 hch (by omega)
    clear hch Hc0 Hm0 Hr0 HB0 HZ0
    refine wpList_store_mid rfl 30 (.tmp 6) (.tmp 66) rfl (w.heap.size + 1 + 1) 0 #[.int .i64 (N : Int), .slice p n c] rfl rfl HTH.out (infoDC rfl) (all_oneCell_toArray (by intro u hu; simp at hu; rcases hu with rfl | rfl <;> rfl)) ?_
    generalize (W.setCells (w.heap.size + 1 + 1) 0 (#[.int .i64 (N : Int), .slice p n c] : Array Value).toList) = W2 at *
    clear HTH
    go_wp2_with fail
    have hfr := Hr1.out
    refine bodyPost_ret (v := .tuple #[.agg #[.int .i64 (N : Int), .slice p n c], .slice none 0 0, .int .i64 140]) (by simp [results, Try.results8, go_sem, hfr.cell 0, hfr.cell 1]) rfl ⟨_, _, _, none, 0, 0, rfl, HKK.out.1, rfl, ((HRS.out.kept HB1.out).imp (fun b h => .inl h.1)), SdR.nil_ _ _, HB1.out⟩
   by_cases hf3 : (N : Int) ≤ fro
   ·skip
    have HF3 := Lib.hid hf3
    go_upto_region 8 with fail
    clear m0 k5 k16 k11 k13 k15 hf1 a0 hf2 hf3
    have hA := HA.out
    rw [show doC N rs ym _ = (rs, [], 140) from doC_oth (by have := HKD.out; omega) HF.out (.inr HF3.out)] at hA
    cases hA
    have a0 : W.cell? ⟨w.heap.size, 0, none⟩ = some (.int .i64 (N : Int)) := Hc0.out.cell 0
    have a1 : W.cell? ⟨w.heap.size, 1, none⟩ = some (.slice p n c) := Hc0.out.cell 1
    go_wp2_with (with_reducible refine stop_storeT 30 (.tmp 6) (.tmp 66) rfl ?_)
    clear a0 a1
    have HTH : Hid (W.there (w.heap.size + 1 + 1) 0 2) := Hr0.out.thereAt
    have hch : Hid (Chg (w.heap.size + 1 + 1) W (W.setCells (w.heap.size + 1 + 1) 0 (#[.int .i64 (N : Int), .slice p n c] : Array Value).toList)) := Lib.hid (chg_putL _ _ _ _ _ (Chg.refl _ W))
    have Hr1 : Hid (Blk (W.setCells (w.heap.size + 1 + 1) 0 (#[.int .i64 (N : Int), .slice p n c] : Array Value).toList) (w.heap.size + 1 + 1) #[.int .i64 (N : Int), .slice p n c] 30) := Lib.hid (blk_put_all Hr0.out _ rfl)
    have HB1 : Hid (Below w.heap.size w (W.setCells (w.heap.size + 1 + 1) 0 (#[.int .i64 (N : Int), .slice p n c] : Array Value).toList)) := Lib.hid (below_put (by omega) _ _ _ _ HB0.out)
    have HZ1 := kzq HZ0 hch.out.size
    have Hc1 := kcq Hc0 hch (by omega)
    have Hm1 := kcq Hm0 hch (by omega)
    clear hch Hc0 Hm0 Hr0 HB0 HZ0
    refine wpList_store_mid rfl 30 (.tmp 6) (.tmp 66) rfl (w.heap.size + 1 + 1) 0 #[.int .i64 (N : Int), .slice p n c] rfl rfl HTH.out (infoDC rfl) (all_oneCell_toArray (by intro u hu; simp at hu; rcases hu with rfl | rfl <;> rfl)) ?_
    generalize (W.setCells (w.heap.size + 1 + 1) 0 (#[.int .i64 (N : Int), .slice p n c] : Array Value).toList) = W2 at *
    clear HTH
    go_wp2_with fail
    have hfr := Hr1.out
    refine bodyPost_ret (v := .tuple #[.agg #[.int .i64 (N : Int), .slice p n c], .slice none 0 0, .int .i64 140]) (by simp [results, Try.results8, go_sem, hfr.cell 0, hfr.cell 1]) rfl ⟨_, _, _, none, 0, 0, rfl, HKK.out.1, rfl, ((HRS.out.kept HB1.out).imp (fun b h => .inl h.1)), SdR.nil_ _ _, HB1.out⟩
   obtain ⟨j, hj⟩ : ∃ j : Nat, fro = (j : Int) := ⟨fro.toNat, by omega⟩
   subst hj
   have HJN : Hid (j < N) := Lib.hid (by omega)
   go_upto_region 9 with fail
   clear a0 hf1 hf2 hf3
   obtain ⟨yy, hyy⟩ : ∃ z, ym.y = z := ⟨_, rfl⟩
   have HYY := Lib.hid hyy
   clear hyy
   have m6 : W.cell? ⟨w.heap.size + 1, 6, none⟩ = some (.int .i64 yy) := by rw [← HYY.out]; exact Hm0.out.cell 6
   have a0 : W.cell? ⟨w.heap.size, 0, none⟩ = some (.int .i64 (N : Int)) := Hc0.out.cell 0
   have a1 : W.cell? ⟨w.heap.size, 1, none⟩ = some (.slice p n c) := Hc0.out.cell 1
   by_cases hy1 : yy < 1
   ·skip
    have HHB : Hid (hasB rs ym.y = false) := Lib.hid (by unfold hasB; rw [HYY.out]; exact decide_eq_false (by have := HKK.out.1; omega))
    go_upto_region 10 with fail
    clear m6 a0 a1 m0 k5 k16 k11 k13 k15 hy1
    have hA := HA.out
    rw [show doC N rs ym _ = (rs, [], 4) from doC_mis (by have := HKD.out; omega) HJN.out HHB.out] at hA
    cases hA
    have a0 : W.cell? ⟨w.heap.size, 0, none⟩ = some (.int .i64 (N : Int)) := Hc0.out.cell 0
    have a1 : W.cell? ⟨w.heap.size, 1, none⟩ = some (.slice p n c) := Hc0.out.cell 1
    go_wp2_with (with_reducible refine stop_storeT 30 (.tmp 6) (.tmp 78) rfl ?_)
    clear a0 a1
    have HTH : Hid (W.there (w.heap.size + 1 + 1) 0 2) := Hr0.out.thereAt
    have hch : Hid (Chg (w.heap.size + 1 + 1) W (W.setCells (w.heap.size + 1 + 1) 0 (#[.int .i64 (N : Int), .slice p n c] : Array Value).toList)) := Lib.hid (chg_putL _ _ _ _ _ (Chg.refl _ W))
    have Hr1 : Hid (Blk (W.setCells (w.heap.size + 1 + 1) 0 (#[.int .i64 (N : Int), .slice p n c] : Array Value).toList) (w.heap.size + 1 + 1) #[.int .i64 (N : Int), .slice p n c] 30) := Lib.hid (blk_put_all Hr0.out _ rfl)
    have HB1 : Hid (Below w.heap.size w (W.setCells (w.heap.size + 1 + 1) 0 (#[.int .i64 (N : Int), .slice p n c] : Array Value).toList)) := Lib.hid (below_put (by omega) _ _ _ _ HB0.out)
    have HZ1 := kzq HZ0 hch.out.size
    have Hc1 := kcq Hc0 hch (by omega)
    have Hm1 := kcq Hm0 hch (by omega)
    clear hch Hc0 Hm0 Hr0 HB0 HZ0
    refine wpList_store_mid rfl 30 (.tmp 6) (.tmp 78) rfl (w.heap.size + 1 + 1) 0 #[.int .i64 (N : Int), .slice p n c] rfl rfl HTH.out (infoDC rfl) (all_oneCell_toArray (by intro u hu; simp at hu; rcases hu with rfl | rfl <;> rfl)) ?_
    generalize (W.setCells (w.heap.size + 1 + 1) 0 (#[.int .i64 (N : Int), .slice p n c] : Array Value).toList) = W2 at *
    clear HTH
    go_wp2_with fail
    have hfr := Hr1.out
    refine bodyPost_ret (v := .tuple #[.agg #[.int .i64 (N : Int), .slice p n c], .slice none 0 0, .int .i64 4]) (by simp [results, Try.results8, go_sem, hfr.cell 0, hfr.cell 1]) rfl ⟨_, _, _, none, 0, 0, rfl, HKK.out.1, rfl, ((HRS.out.kept HB1.out).imp (fun b h => .inl h.1)), SdR.nil_ _ _, HB1.out⟩
   by_cases hy2 : (n : Int) < yy
   ·skip
    have HHB : Hid (hasB rs ym.y = false) := Lib.hid (by unfold hasB; rw [HYY.out]; exact decide_eq_false (by have := HKK.out.1; omega))
    go_upto_region 10 with fail
    clear m6 a0 a1 m0 k5 k16 k11 k13 k15 hy1 hy2
    have hA := HA.out
    rw [show doC N rs ym _ = (rs, [], 4) from doC_mis (by have := HKD.out; omega) HJN.out HHB.out] at hA
    cases hA
    have a0 : W.cell? ⟨w.heap.size, 0, none⟩ = some (.int .i64 (N : Int)) := Hc0.out.cell 0
    have a1 : W.cell? ⟨w.heap.size, 1, none⟩ = some (.slice p n c) := Hc0.out.cell 1
    go_wp2_with (with_reducible refine stop_storeT 30 (.tmp 6) (.tmp 78) rfl ?_)
    clear a0 a1
    have HTH : Hid (W.there (w.heap.size + 1 + 1) 0 2) := Hr0.out.thereAt
    have hch : Hid (Chg (w.heap.size + 1 + 1) W (W.setCells (w.heap.size + 1 + 1) 0 (#[.int .i64 (N : Int), .slice p n c] : Array Value).toList)) := Lib.hid (chg_putL _ _ _ _ _ (Chg.refl _ W))
    have Hr1 : Hid (Blk (W.setCells (w.heap.size + 1 + 1) 0 (#[.int .i64 (N : Int), .slice p n c] : Array Value).toList) (w.heap.size + 1 + 1) #[.int .i64 (N : Int), .slice p n c] 30) := Lib.hid (blk_put_all Hr0.out _ rfl)
    have HB1 : Hid (Below w.heap.size w (W.setCells (w.heap.size + 1 + 1) 0 (#[.int .i64 (N : Int), .slice p n c] : Array Value).toList)) := Lib.hid (below_put (by omega) _ _ _ _ HB0.out)
    have HZ1 := kzq HZ0 hch.out.size
    have Hc1 := kcq Hc0 hch (by omega)
    have Hm1 := kcq Hm0 hch (by omega)
    clear hch Hc0 Hm0 Hr0 HB0 HZ0
    refine wpList_store_mid rfl 30 (.tmp 6) (.tmp 78) rfl (w.heap.size + 1 + 1) 0 #[.int .i64 (N : Int), .slice p n c] rfl rfl HTH.out (infoDC rfl) (all_oneCell_toArray (by intro u hu; simp at hu; rcases hu with rfl | rfl <;> rfl)) ?_
    generalize (W.setCells (w.heap.size + 1 + 1) 0 (#[.int .i64 (N : Int), .slice p n c] : Array Value).toList) = W2 at *
    clear HTH
    go_wp2_with fail
    have hfr := Hr1.out
    refine bodyPost_ret (v := .tuple #[.agg #[.int .i64 (N : Int), .slice p n c], .slice none 0 0, .int .i64 4]) (by simp [results, Try.results8, go_sem, hfr.cell 0, hfr.cell 1]) rfl ⟨_, _, _, none, 0, 0, rfl, HKK.out.1, rfl, ((HRS.out.kept HB1.out).imp (fun b h => .inl h.1)), SdR.nil_ _ _, HB1.out⟩
   obtain ⟨kn, hkn⟩ : ∃ kn : Nat, yy = (kn : Int) + 1 := ⟨(yy - 1).toNat, by omega⟩
   subst hkn
   have hkl : kn < n := by omega
   have HKN : Hid (kn < n) := Lib.hid hkl
   have HHB : Hid (hasB rs ym.y = true) := Lib.hid (by unfold hasB; rw [HYY.out]; exact decide_eq_true (by have := HKK.out.1; omega))
   have hw1 : wrap64 (kn : Int) = (kn : Int) := by unfold wrap64; have := HKK.out.2; omega
   have hkI : (kn : Int) < (n : Int) := by omega
   obtain ⟨xs, hr, hat, hin, hm⟩ := HRS.out
   have hkx : kn < xs.length := by have h1 := HKK.out.1; rw [← hm, List.length_map] at h1; omega
   obtain ⟨b, o, hp, hbl, hcs⟩ := hr.at_ kn hkx
   obtain ⟨X, hX⟩ : ∃ X, xs[kn] = X := ⟨_, rfl⟩
   rw [hX] at hcs
   have HXI : Hid (X.In (fun b => P b ∧ b < w.heap.size) w) := Lib.hid (hin X (by rw [← hX]; exact List.getElem_mem hkx))
   have HXR : Hid (X.rn N = rnAt rs ym.y) := Lib.hid (by
    unfold rnAt
    rw [HYY.out, ← hm, show ((kn : Int) + 1 - 1).toNat = kn by omega, List.getElem?_map, List.getElem?_eq_getElem hkx, hX]
    rfl)
   have HXS : Hid (1 ≤ X.st ∧ X.st ≤ 4) := Lib.hid (HSO.out (X.rn N) (by rw [← hm]; exact List.mem_map_of_mem (by rw [← hX]; exact List.getElem_mem hkx)))
   have HBL := Lib.hid hbl
   have HCS := Lib.hid hcs
   subst hp
   clear hr hat hin hm hbl hcs hX hkx
   go_upto_region 11 with fail
   clear a0 a1
   have a1 : W.cell? ⟨w.heap.size, 1, none⟩ = some (.slice (some ⟨b, o, none⟩) n c) := Hc0.out.cell 1
   go_wp2_with (with_reducible refine stop_loadT 76 (.tmp 84) rfl ?_)
   refine wpList_loadD rfl (.tmp 84) rfl b (o + kn * 28) rfl X (fun t ht => (HB0.out.cell (p := ⟨b, _, none⟩) HBL.out).trans (HCS.out t ht)) ?_
   have HGR : Hid (w.heap.size + 1 + 1 < W.heap.size) := Lib.hid Hr0.out.lt
   have hba := oneB W (.cells #[.int .i64 0, .int .i64 0, .bool false, .bool false, .bool false, .bool false, .bool false, .bool false, .bool false, .bool false, .bool false, .bool false, .bool false, .bool false, .bool false, .bool false, .bool false, .bool false, .slice none 0 0, .slice none 0 0, .slice none 0 0, .slice none 0 0, .slice none 0 0, .slice none 0 0, .slice none 0 0, .slice none 0 0, .slice none 0 0, .slice none 0 0] 76)
   have Hc1 := kbq Hc0 hba
   have Hm1 := kbq Hm0 hba
   have Hr1 := kbq Hr0 hba
   have Hx1 := Lib.hid (Blk.new W #[.int .i64 0, .int .i64 0, .bool false, .bool false, .bool false, .bool false, .bool false, .bool false, .bool false, .bool false, .bool false, .bool false, .bool false, .bool false, .bool false, .bool false, .bool false, .bool false, .slice none 0 0, .slice none 0 0, .slice none 0 0, .slice none 0 0, .slice none 0 0, .slice none 0 0, .slice none 0 0, .slice none 0 0, .slice none 0 0, .slice none 0 0] 76)
   have HB1 := Lib.hid (HB0.out.alloc HB0.out.size (.cells #[.int .i64 0, .int .i64 0, .bool false, .bool false, .bool false, .bool false, .bool false, .bool false, .bool false, .bool false, .bool false, .bool false, .bool false, .bool false, .bool false, .bool false, .bool false, .bool false, .slice none 0 0, .slice none 0 0, .slice none 0 0, .slice none 0 0, .slice none 0 0, .slice none 0 0, .slice none 0 0, .slice none 0 0, .slice none 0 0, .slice none 0 0] 76))
   have HZ1 := kzq HZ0 hba.size
   have HGgx : Hid (w.heap.size ≤ W.heap.size) := Lib.hid HB0.out.size
   clear hba Hc0 Hm0 Hr0 HB0 HZ0
   go_wp2_with (with_reducible refine stop_storeT 76 (.tmp 11) (.tmp 85) rfl ?_)
   clear a1 m6 hy1 hy2 hkl hkI hw1
   generalize (W.alloc (.cells #[.int .i64 0, .int .i64 0, .bool false, .bool false, .bool false, .bool false, .bool false, .bool false, .bool false, .bool false, .bool false, .bool false, .bool false, .bool false, .bool false, .bool false, .bool false, .bool false, .slice none 0 0, .slice none 0 0, .slice none 0 0, .slice none 0 0, .slice none 0 0, .slice none 0 0, .slice none 0 0, .slice none 0 0, .slice none 0 0, .slice none 0 0] 76)) = W1 at *
   generalize hggx : W.heap.size = gx at *
   have HGX := Lib.hid hggx
   clear hggx
   have HTH : Hid (W1.there gx 0 28) := Hx1.out.thereAt
   have hch : Hid (Chg gx W1 (W1.setCells gx 0 X.arr.toList)) := Lib.hid (chg_putL _ _ _ _ _ (Chg.refl _ W1))
   have Hx2 : Hid (Blk (W1.setCells gx 0 X.arr.toList) gx X.arr 76) := Lib.hid (blk_put_all Hx1.out _ rfl)
   have HB2 : Hid (Below w.heap.size w (W1.setCells gx 0 X.arr.toList)) := Lib.hid (below_put (by have := HGR.out; have := HGgx.out; omega) _ _ _ _ HB1.out)
   have HZ2 := kzq HZ1 hch.out.size
   have Hc2 := kcq Hc1 hch (by have := HGR.out; have := HGgx.out; omega)
   have Hm2 := kcq Hm1 hch (by have := HGR.out; have := HGgx.out; omega)
   have Hr2 := kcq Hr1 hch (by have := HGR.out; have := HGgx.out; omega)
   clear hch Hc1 Hm1 Hr1 Hx1 HB1 HZ1
   refine wpList_store_mid rfl 76 (.tmp 11) (.tmp 85) rfl gx 0 X.arr rfl rfl HTH.out (infoD28 rfl) X.all_one ?_
   generalize (W1.setCells gx 0 X.arr.toList) = W2 at *
   clear HTH
   clear m0
   go_upto_region 12 with fail
   have m0 : W2.cell? ⟨w.heap.size + 1, 0, none⟩ = some (.int .i64 ym.k) := Hm2.out.cell 0
   go_upto_region 13 with fail
   clear m0 k5 k16 k11 k13 k15
   have hA := HA.out
   rw [show doC N rs ym _ = offerC N rs ym j from doC_off HKD.out HJN.out HHB.out] at hA
   have HG := Lib.hid (doffer_any W2 (fun b => P b ∧ b < w.heap.size) N (some ⟨b, o, none⟩) n c rs X (⟨ym, ypl, ycl, ypn, ycn⟩ : MsgX) j (HRS.out.kept HB2.out) HKK.out.1 HKK.out.2 HNN.out HN1.out (by show 1 ≤ ym.y; rw [HYY.out]; omega) (by show ym.y ≤ n; rw [HYY.out]; have := HKN.out; omega) (HXI.out.kept HB2.out) HXR.out HJN.out (HYI.out.kept HB2.out) HYL.out (HCO.out _ (rnAt_mem HHB.out)).2)
   rw [hA] at HG
   unfold DP at HG
   dsimp only at HG
   clear hA
   unfold Msg.v at HG
   have HWC : Hid (w.heap.size ≤ W2.heap.size ∧ w.heap.size + 1 + 1 < W2.heap.size) := Lib.hid ⟨HZ2.out, Hr2.out.lt⟩
   have a0 : W2.cell? ⟨w.heap.size, 0, none⟩ = some (.int .i64 (N : Int)) := Hc2.out.cell 0
   have a1 : W2.cell? ⟨w.heap.size, 1, none⟩ = some (.slice (some ⟨b, o, none⟩) n c) := Hc2.out.cell 1
   have m0 : W2.cell? ⟨(w.heap.size + 1), 0, none⟩ = some (.int .i64 ym.k) := Hm2.out.cell 0
   have m1 : W2.cell? ⟨(w.heap.size + 1), 1, none⟩ = some (.int .i64 ym.s) := Hm2.out.cell 1
   have m2 : W2.cell? ⟨(w.heap.size + 1), 2, none⟩ = some (.int .i64 ym.n) := Hm2.out.cell 2
   have m3 : W2.cell? ⟨(w.heap.size + 1), 3, none⟩ = some (.int .i64 ym.b) := Hm2.out.cell 3
   have m4 : W2.cell? ⟨(w.heap.size + 1), 4, none⟩ = some (.int .i64 ym.c) := Hm2.out.cell 4
   have m5 : W2.cell? ⟨(w.heap.size + 1), 5, none⟩ = some (.int .i64 ym.r) := Hm2.out.cell 5
   have m6 : W2.cell? ⟨(w.heap.size + 1), 6, none⟩ = some (.int .i64 ym.y) := Hm2.out.cell 6
   have m7 : W2.cell? ⟨(w.heap.size + 1), 7, none⟩ = some (.int .i64 ym.a) := Hm2.out.cell 7
   have m8 : W2.cell? ⟨(w.heap.size + 1), 8, none⟩ = some (.bool ym.t) := Hm2.out.cell 8
   have m9 : W2.cell? ⟨(w.heap.size + 1), 9, none⟩ = some (.slice ypl ym.ls.length ycl) := Hm2.out.cell 9
   have m10 : W2.cell? ⟨(w.heap.size + 1), 10, none⟩ = some (.slice ypn ym.ns.length ycn) := Hm2.out.cell 10
   unfold DrX.v at HG
   go_wp2_with (with_reducible refine stop_loadT 76 (.tmp 11) rfl ?_)
   refine wpList_loadD rfl (.tmp 11) rfl gx 0 rfl X (dcell Hx2.out) ?_
   go_wp2_with fail
   clear a0 a1 m0 m1 m2 m3 m4 m5 m6 m7 m8 m9 m10
   refine HG.out.mono ?_
   rintro y9 w3 ⟨p3, n3, c3, p5, n5, c5, rfl, hn3, hn5, hq, hs, hb⟩
   clear HG
   have HQ := Lib.hid hq.lt
   have HSD := Lib.hid hs.ltB
   have HN35 := Lib.hid (And.intro hn3 hn5)
   clear hq hs hn3 hn5
   have Hc3 := kbq Hc2 hb
   have Hm3 := kbq Hm2 hb
   have Hr3 := kbq Hr2 hb
   have Hx3 := kbq Hx2 hb
   have HB3 := ktq HB2 hb
   have HZ3 := kzq HZ2 hb.size
   clear Hc2 Hm2 Hr2 Hx2 HB2 HZ2
   clear hb
   go_wp2_with (with_reducible refine stop_storeT 30 (.tmp 6) (.tmp 94) rfl ?_)
   have HTH : Hid (w3.there (w.heap.size + 1 + 1) 0 2) := Hr3.out.thereAt
   have hch : Hid (Chg (w.heap.size + 1 + 1) w3 (w3.setCells (w.heap.size + 1 + 1) 0 (#[.int .i64 (N : Int), .slice p3 n3 c3] : Array Value).toList)) := Lib.hid (chg_putL _ _ _ _ _ (Chg.refl _ w3))
   have Hr4 : Hid (Blk (w3.setCells (w.heap.size + 1 + 1) 0 (#[.int .i64 (N : Int), .slice p3 n3 c3] : Array Value).toList) (w.heap.size + 1 + 1) #[.int .i64 (N : Int), .slice p3 n3 c3] 30) := Lib.hid (blk_put_all Hr3.out _ rfl)
   have HB4 : Hid (Below w.heap.size w (w3.setCells (w.heap.size + 1 + 1) 0 (#[.int .i64 (N : Int), .slice p3 n3 c3] : Array Value).toList)) := Lib.hid (below_put (by have := HGR.out; have := HGgx.out; omega) _ _ _ _ HB3.out)
   have HZ4 := kzq HZ3 hch.out.size
   have Hc4 := kcq Hc3 hch (by have := HGR.out; have := HGgx.out; omega)
   have Hm4 := kcq Hm3 hch (by have := HGR.out; have := HGgx.out; omega)
   have Hx4 := kcq Hx3 hch (by have := HGR.out; have := HGgx.out; omega)
   have HSD2 := Lib.hid (HSD.out.chg hch.out (by intro h; (try dsimp only at h); have h1 := HWC.out; rcases h.1 with h3 | h3; (have := h3.2; omega); omega))
   have HQ4 := Lib.hid (HQ.out.chg hch.out (by intro h; (try dsimp only at h); have h1 := HWC.out; rcases h.1 with h3 | h3; (have := h3.2; omega); omega))
   clear HSD HQ
   clear hch Hc3 Hm3 Hr3 Hx3 HB3 HZ3
   refine wpList_store_mid rfl 30 (.tmp 6) (.tmp 94) rfl (w.heap.size + 1 + 1) 0 #[.int .i64 (N : Int), .slice p3 n3 c3] rfl rfl HTH.out (infoDC rfl) (all_oneCell_toArray (by intro u hu; simp at hu; rcases hu with rfl | rfl <;> rfl)) ?_
   generalize (w3.setCells (w.heap.size + 1 + 1) 0 (#[.int .i64 (N : Int), .slice p3 n3 c3] : Array Value).toList) = W4 at *
   clear HTH
   go_wp2_with fail
   have hfr := Hr4.out
   refine bodyPost_ret (v := .tuple #[.agg #[.int .i64 (N : Int), .slice p3 n3 c3], .slice p5 n5 c5, .int .i64 ER]) (by simp [results, Try.results8, go_sem, hfr.cell 0, hfr.cell 1]) rfl ⟨p3, n3, c3, p5, n5, c5, rfl, HN35.out.1, HN35.out.2, (by exact HQ4.out.imp (Q := fun b => P b ∨ w.heap.size ≤ b) (fun b h => by have h1 := HWC.out; rcases h.1 with h2 | h2; exact .inl h2.1; exact .inr (by omega))), (by exact HSD2.out.imp (R := fun b => P b ∨ w.heap.size ≤ b) (fun b h => by have h1 := HWC.out; rcases h.1 with h2 | h2; exact .inl h2.1; exact .inr (by omega))), HB4.out⟩
 have HN11K := Lib.hid hk
 have k11 : (ym.k == 11) = false := by simpa using hk
 clear hk
 by_cases hk : ym.k = 13
 ·skip
  have k5 : (ym.k == 5) = false := by rw [hk]; rfl
  have k16 : (ym.k == 16) = false := by rw [hk]; rfl
  have k11 : (ym.k == 11) = false := by rw [hk]; rfl
  have k13 : (ym.k == 13) = true := by rw [hk]; rfl
  have k15 : (ym.k == 15) = false := by rw [hk]; rfl
  have HKD := Lib.hid hk
  clear hk
  by_cases hf : fro = -1
  ·skip
   subst hf
   go_upto_region 4 with fail
   clear m0 k5 k16 k11 k13 k15
   have hA := HA.out
   rw [show doC N rs ym _ = (rs, [], 110) from doC_nd (by have := HKD.out; omega)] at hA
   cases hA
   have a0 : W.cell? ⟨w.heap.size, 0, none⟩ = some (.int .i64 (N : Int)) := Hc0.out.cell 0
   have a1 : W.cell? ⟨w.heap.size, 1, none⟩ = some (.slice p n c) := Hc0.out.cell 1
   go_wp2_with (with_reducible refine stop_storeT 30 (.tmp 6) (.tmp 45) rfl ?_)
   clear a0 a1
   have HTH : Hid (W.there (w.heap.size + 1 + 1) 0 2) := Hr0.out.thereAt
   have hch : Hid (Chg (w.heap.size + 1 + 1) W (W.setCells (w.heap.size + 1 + 1) 0 (#[.int .i64 (N : Int), .slice p n c] : Array Value).toList)) := Lib.hid (chg_putL _ _ _ _ _ (Chg.refl _ W))
   have Hr1 : Hid (Blk (W.setCells (w.heap.size + 1 + 1) 0 (#[.int .i64 (N : Int), .slice p n c] : Array Value).toList) (w.heap.size + 1 + 1) #[.int .i64 (N : Int), .slice p n c] 30) := Lib.hid (blk_put_all Hr0.out _ rfl)
   have HB1 : Hid (Below w.heap.size w (W.setCells (w.heap.size + 1 + 1) 0 (#[.int .i64 (N : Int), .slice p n c] : Array Value).toList)) := Lib.hid (below_put (by omega) _ _ _ _ HB0.out)
   have HZ1 := kzq HZ0 hch.out.size
   have Hc1 := kcq Hc0 hch (by omega)
   have Hm1 := kcq Hm0 hch (by omega)
   clear hch Hc0 Hm0 Hr0 HB0 HZ0
   refine wpList_store_mid rfl 30 (.tmp 6) (.tmp 45) rfl (w.heap.size + 1 + 1) 0 #[.int .i64 (N : Int), .slice p n c] rfl rfl HTH.out (infoDC rfl) (all_oneCell_toArray (by intro u hu; simp at hu; rcases hu with rfl | rfl <;> rfl)) ?_
   generalize (W.setCells (w.heap.size + 1 + 1) 0 (#[.int .i64 (N : Int), .slice p n c] : Array Value).toList) = W2 at *
   clear HTH
   go_wp2_with fail
   have hfr := Hr1.out
   refine bodyPost_ret (v := .tuple #[.agg #[.int .i64 (N : Int), .slice p n c], .slice none 0 0, .int .i64 110]) (by simp [results, Try.results8, go_sem, hfr.cell 0, hfr.cell 1]) rfl ⟨_, _, _, none, 0, 0, rfl, HKK.out.1, rfl, ((HRS.out.kept HB1.out).imp (fun b h => .inl h.1)), SdR.nil_ _ _, HB1.out⟩
  ·skip
   have hf1 : (fro == -1) = false := by simpa using hf
   have HF := Lib.hid hf
   clear hf
   have a0 : W.cell? ⟨w.heap.size, 0, none⟩ = some (.int .i64 (N : Int)) := Hc0.out.cell 0
   by_cases hf2 : fro < 0
   ·skip
    have HF2 := Lib.hid hf2
    go_upto_region 8 with fail
    clear m0 k5 k16 k11 k13 k15 hf1 a0 hf2
    have hA := HA.out
    rw [show doC N rs ym _ = (rs, [], 140) from doC_oth (by have := HKD.out; omega) HF.out (.inl HF2.out)] at hA
    cases hA
    have a0 : W.cell? ⟨w.heap.size, 0, none⟩ = some (.int .i64 (N : Int)) := Hc0.out.cell 0
    have a1 : W.cell? ⟨w.heap.size, 1, none⟩ = some (.slice p n c) := Hc0.out.cell 1
    go_wp2_with (with_reducible refine stop_storeT 30 (.tmp 6) (.tmp 66) rfl ?_)
    clear a0 a1
    have HTH : Hid (W.there (w.heap.size + 1 + 1) 0 2) := Hr0.out.thereAt
    have hch : Hid (Chg (w.heap.size + 1 + 1) W (W.setCells (w.heap.size + 1 + 1) 0 (#[.int .i64 (N : Int), .slice p n c] : Array Value).toList)) := Lib.hid (chg_putL _ _ _ _ _ (Chg.refl _ W))
    have Hr1 : Hid (Blk (W.setCells (w.heap.size + 1 + 1) 0 (#[.int .i64 (N : Int), .slice p n c] : Array Value).toList) (w.heap.size + 1 + 1) #[.int .i64 (N : Int), .slice p n c] 30) := Lib.hid (blk_put_all Hr0.out _ rfl)
    have HB1 : Hid (Below w.heap.size w (W.setCells (w.heap.size + 1 + 1) 0 (#[.int .i64 (N : Int), .slice p n c] : Array Value).toList)) := Lib.hid (below_put (by omega) _ _ _ _ HB0.out)
    have HZ1 := kzq HZ0 hch.out.size
    have Hc1 := kcq Hc0 hch (by omega)
    have Hm1 := kcq Hm0 hch (by omega)
    clear hch Hc0 Hm0 Hr0 HB0 HZ0
    refine wpList_store_mid rfl 30 (.tmp 6) (.tmp 66) rfl (w.heap.size + 1 + 1) 0 #[.int .i64 (N : Int), .slice p n c] rfl rfl HTH.out (infoDC rfl) (all_oneCell_toArray (by intro u hu; simp at hu; rcases hu with rfl | rfl <;> rfl)) ?_
    generalize (W.setCells (w.heap.size + 1 + 1) 0 (#[.int .i64 (N : Int), .slice p n c] : Array Value).toList) = W2 at *
    clear HTH
    go_wp2_with fail
    have hfr := Hr1.out
    refine bodyPost_ret (v := .tuple #[.agg #[.int .i64 (N : Int), .slice p n c], .slice none 0 0, .int .i64 140]) (by simp [results, Try.results8, go_sem, hfr.cell 0, hfr.cell 1]) rfl ⟨_, _, _, none, 0, 0, rfl, HKK.out.1, rfl, ((HRS.out.kept HB1.out).imp (fun b h => .inl h.1)), SdR.nil_ _ _, HB1.out⟩
   by_cases hf3 : (N : Int) ≤ fro
   ·skip
    have HF3 := Lib.hid hf3
    go_upto_region 8 with fail
    clear m0 k5 k16 k11 k13 k15 hf1 a0 hf2 hf3
    have hA := HA.out
    rw [show doC N rs ym _ = (rs, [], 140) from doC_oth (by have := HKD.out; omega) HF.out (.inr HF3.out)] at hA
    cases hA
    have a0 : W.cell? ⟨w.heap.size, 0, none⟩ = some (.int .i64 (N : Int)) := Hc0.out.cell 0
    have a1 : W.cell? ⟨w.heap.size, 1, none⟩ = some (.slice p n c) := Hc0.out.cell 1
    go_wp2_with (with_reducible refine stop_storeT 30 (.tmp 6) (.tmp 66) rfl ?_)
    clear a0 a1
    have HTH : Hid (W.there (w.heap.size + 1 + 1) 0 2) := Hr0.out.thereAt
    have hch : Hid (Chg (w.heap.size + 1 + 1) W (W.setCells (w.heap.size + 1 + 1) 0 (#[.int .i64 (N : Int), .slice p n c] : Array Value).toList)) := Lib.hid (chg_putL _ _ _ _ _ (Chg.refl _ W))
    have Hr1 : Hid (Blk (W.setCells (w.heap.size + 1 + 1) 0 (#[.int .i64 (N : Int), .slice p n c] : Array Value).toList) (w.heap.size + 1 + 1) #[.int .i64 (N : Int), .slice p n c] 30) := Lib.hid (blk_put_all Hr0.out _ rfl)
    have HB1 : Hid (Below w.heap.size w (W.setCells (w.heap.size + 1 + 1) 0 (#[.int .i64 (N : Int), .slice p n c] : Array Value).toList)) := Lib.hid (below_put (by omega) _ _ _ _ HB0.out)
    have HZ1 := kzq HZ0 hch.out.size
    have Hc1 := kcq Hc0 hch (by omega)
    have Hm1 := kcq Hm0 hch (by omega)
    clear hch Hc0 Hm0 Hr0 HB0 HZ0
    refine wpList_store_mid rfl 30 (.tmp 6) (.tmp 66) rfl (w.heap.size + 1 + 1) 0 #[.int .i64 (N : Int), .slice p n c] rfl rfl HTH.out (infoDC rfl) (all_oneCell_toArray (by intro u hu; simp at hu; rcases hu with rfl | rfl <;> rfl)) ?_
    generalize (W.setCells (w.heap.size + 1 + 1) 0 (#[.int .i64 (N : Int), .slice p n c] : Array Value).toList) = W2 at *
    clear HTH
    go_wp2_with fail
    have hfr := Hr1.out
    refine bodyPost_ret (v := .tuple #[.agg #[.int .i64 (N : Int), .slice p n c], .slice none 0 0, .int .i64 140]) (by simp [results, Try.results8, go_sem, hfr.cell 0, hfr.cell 1]) rfl ⟨_, _, _, none, 0, 0, rfl, HKK.out.1, rfl, ((HRS.out.kept HB1.out).imp (fun b h => .inl h.1)), SdR.nil_ _ _, HB1.out⟩
   obtain ⟨j, hj⟩ : ∃ j : Nat, fro = (j : Int) := ⟨fro.toNat, by omega⟩
   subst hj
   have HJN : Hid (j < N) := Lib.hid (by omega)
   go_upto_region 9 with fail
   clear a0 hf1 hf2 hf3
   obtain ⟨yy, hyy⟩ : ∃ z, ym.y = z := ⟨_, rfl⟩
   have HYY := Lib.hid hyy
   clear hyy
   have m6 : W.cell? ⟨w.heap.size + 1, 6, none⟩ = some (.int .i64 yy) := by rw [← HYY.out]; exact Hm0.out.cell 6
   have a0 : W.cell? ⟨w.heap.size, 0, none⟩ = some (.int .i64 (N : Int)) := Hc0.out.cell 0
   have a1 : W.cell? ⟨w.heap.size, 1, none⟩ = some (.slice p n c) := Hc0.out.cell 1
   by_cases hy1 : yy < 1
   ·skip
    have HHB : Hid (hasB rs ym.y = false) := Lib.hid (by unfold hasB; rw [HYY.out]; exact decide_eq_false (by have := HKK.out.1; omega))
    go_upto_region 10 with fail
    clear m6 a0 a1 m0 k5 k16 k11 k13 k15 hy1
    have hA := HA.out
    rw [show doC N rs ym _ = (rs, [], 4) from doC_mis (by have := HKD.out; omega) HJN.out HHB.out] at hA
    cases hA
    have a0 : W.cell? ⟨w.heap.size, 0, none⟩ = some (.int .i64 (N : Int)) := Hc0.out.cell 0
    have a1 : W.cell? ⟨w.heap.size, 1, none⟩ = some (.slice p n c) := Hc0.out.cell 1
    go_wp2_with (with_reducible refine stop_storeT 30 (.tmp 6) (.tmp 78) rfl ?_)
    clear a0 a1
    have HTH : Hid (W.there (w.heap.size + 1 + 1) 0 2) := Hr0.out.thereAt
    have hch : Hid (Chg (w.heap.size + 1 + 1) W (W.setCells (w.heap.size + 1 + 1) 0 (#[.int .i64 (N : Int), .slice p n c] : Array Value).toList)) := Lib.hid (chg_putL _ _ _ _ _ (Chg.refl _ W))
    have Hr1 : Hid (Blk (W.setCells (w.heap.size + 1 + 1) 0 (#[.int .i64 (N : Int), .slice p n c] : Array Value).toList) (w.heap.size + 1 + 1) #[.int .i64 (N : Int), .slice p n c] 30) := Lib.hid (blk_put_all Hr0.out _ rfl)
    have HB1 : Hid (Below w.heap.size w (W.setCells (w.heap.size + 1 + 1) 0 (#[.int .i64 (N : Int), .slice p n c] : Array Value).toList)) := Lib.hid (below_put (by omega) _ _ _ _ HB0.out)
    have HZ1 := kzq HZ0 hch.out.size
    have Hc1 := kcq Hc0 hch (by omega)
    have Hm1 := kcq Hm0 hch (by omega)
    clear hch Hc0 Hm0 Hr0 HB0 HZ0
    refine wpList_store_mid rfl 30 (.tmp 6) (.tmp 78) rfl (w.heap.size + 1 + 1) 0 #[.int .i64 (N : Int), .slice p n c] rfl rfl HTH.out (infoDC rfl) (all_oneCell_toArray (by intro u hu; simp at hu; rcases hu with rfl | rfl <;> rfl)) ?_
    generalize (W.setCells (w.heap.size + 1 + 1) 0 (#[.int .i64 (N : Int), .slice p n c] : Array Value).toList) = W2 at *
    clear HTH
    go_wp2_with fail
    have hfr := Hr1.out
    refine bodyPost_ret (v := .tuple #[.agg #[.int .i64 (N : Int), .slice p n c], .slice none 0 0, .int .i64 4]) (by simp [results, Try.results8, go_sem, hfr.cell 0, hfr.cell 1]) rfl ⟨_, _, _, none, 0, 0, rfl, HKK.out.1, rfl, ((HRS.out.kept HB1.out).imp (fun b h => .inl h.1)), SdR.nil_ _ _, HB1.out⟩
   by_cases hy2 : (n : Int) < yy
   ·skip
    have HHB : Hid (hasB rs ym.y = false) := Lib.hid (by unfold hasB; rw [HYY.out]; exact decide_eq_false (by have := HKK.out.1; omega))
    go_upto_region 10 with fail
    clear m6 a0 a1 m0 k5 k16 k11 k13 k15 hy1 hy2
    have hA := HA.out
    rw [show doC N rs ym _ = (rs, [], 4) from doC_mis (by have := HKD.out; omega) HJN.out HHB.out] at hA
    cases hA
    have a0 : W.cell? ⟨w.heap.size, 0, none⟩ = some (.int .i64 (N : Int)) := Hc0.out.cell 0
    have a1 : W.cell? ⟨w.heap.size, 1, none⟩ = some (.slice p n c) := Hc0.out.cell 1
    go_wp2_with (with_reducible refine stop_storeT 30 (.tmp 6) (.tmp 78) rfl ?_)
    clear a0 a1
    have HTH : Hid (W.there (w.heap.size + 1 + 1) 0 2) := Hr0.out.thereAt
    have hch : Hid (Chg (w.heap.size + 1 + 1) W (W.setCells (w.heap.size + 1 + 1) 0 (#[.int .i64 (N : Int), .slice p n c] : Array Value).toList)) := Lib.hid (chg_putL _ _ _ _ _ (Chg.refl _ W))
    have Hr1 : Hid (Blk (W.setCells (w.heap.size + 1 + 1) 0 (#[.int .i64 (N : Int), .slice p n c] : Array Value).toList) (w.heap.size + 1 + 1) #[.int .i64 (N : Int), .slice p n c] 30) := Lib.hid (blk_put_all Hr0.out _ rfl)
    have HB1 : Hid (Below w.heap.size w (W.setCells (w.heap.size + 1 + 1) 0 (#[.int .i64 (N : Int), .slice p n c] : Array Value).toList)) := Lib.hid (below_put (by omega) _ _ _ _ HB0.out)
    have HZ1 := kzq HZ0 hch.out.size
    have Hc1 := kcq Hc0 hch (by omega)
    have Hm1 := kcq Hm0 hch (by omega)
    clear hch Hc0 Hm0 Hr0 HB0 HZ0
    refine wpList_store_mid rfl 30 (.tmp 6) (.tmp 78) rfl (w.heap.size + 1 + 1) 0 #[.int .i64 (N : Int), .slice p n c] rfl rfl HTH.out (infoDC rfl) (all_oneCell_toArray (by intro u hu; simp at hu; rcases hu with rfl | rfl <;> rfl)) ?_
    generalize (W.setCells (w.heap.size + 1 + 1) 0 (#[.int .i64 (N : Int), .slice p n c] : Array Value).toList) = W2 at *
    clear HTH
    go_wp2_with fail
    have hfr := Hr1.out
    refine bodyPost_ret (v := .tuple #[.agg #[.int .i64 (N : Int), .slice p n c], .slice none 0 0, .int .i64 4]) (by simp [results, Try.results8, go_sem, hfr.cell 0, hfr.cell 1]) rfl ⟨_, _, _, none, 0, 0, rfl, HKK.out.1, rfl, ((HRS.out.kept HB1.out).imp (fun b h => .inl h.1)), SdR.nil_ _ _, HB1.out⟩
   obtain ⟨kn, hkn⟩ : ∃ kn : Nat, yy = (kn : Int) + 1 := ⟨(yy - 1).toNat, by omega⟩
   subst hkn
   have hkl : kn < n := by omega
   have HKN : Hid (kn < n) := Lib.hid hkl
   have HHB : Hid (hasB rs ym.y = true) := Lib.hid (by unfold hasB; rw [HYY.out]; exact decide_eq_true (by have := HKK.out.1; omega))
   have hw1 : wrap64 (kn : Int) = (kn : Int) := by unfold wrap64; have := HKK.out.2; omega
   have hkI : (kn : Int) < (n : Int) := by omega
   obtain ⟨xs, hr, hat, hin, hm⟩ := HRS.out
   have hkx : kn < xs.length := by have h1 := HKK.out.1; rw [← hm, List.length_map] at h1; omega
   obtain ⟨b, o, hp, hbl, hcs⟩ := hr.at_ kn hkx
   obtain ⟨X, hX⟩ : ∃ X, xs[kn] = X := ⟨_, rfl⟩
   rw [hX] at hcs
   have HXI : Hid (X.In (fun b => P b ∧ b < w.heap.size) w) := Lib.hid (hin X (by rw [← hX]; exact List.getElem_mem hkx))
   have HXR : Hid (X.rn N = rnAt rs ym.y) := Lib.hid (by
    unfold rnAt
    rw [HYY.out, ← hm, show ((kn : Int) + 1 - 1).toNat = kn by omega, List.getElem?_map, List.getElem?_eq_getElem hkx, hX]
    rfl)
   have HXS : Hid (1 ≤ X.st ∧ X.st ≤ 4) := Lib.hid (HSO.out (X.rn N) (by rw [← hm]; exact List.mem_map_of_mem (by rw [← hX]; exact List.getElem_mem hkx)))
   have HBL := Lib.hid hbl
   have HCS := Lib.hid hcs
   subst hp
   clear hr hat hin hm hbl hcs hX hkx
   go_upto_region 11 with fail
   clear a0 a1
   have a1 : W.cell? ⟨w.heap.size, 1, none⟩ = some (.slice (some ⟨b, o, none⟩) n c) := Hc0.out.cell 1
   go_wp2_with (with_reducible refine stop_loadT 76 (.tmp 84) rfl ?_)
   refine wpList_loadD rfl (.tmp 84) rfl b (o + kn * 28) rfl X (fun t ht => (HB0.out.cell (p := ⟨b, _, none⟩) HBL.out).trans (HCS.out t ht)) ?_
   have HGR : Hid (w.heap.size + 1 + 1 < W.heap.size) := Lib.hid Hr0.out.lt
   have hba := oneB W (.cells #[.int .i64 0, .int .i64 0, .bool false, .bool false, .bool false, .bool false, .bool false, .bool false, .bool false, .bool false, .bool false, .bool false, .bool false, .bool false, .bool false, .bool false, .bool false, .bool false, .slice none 0 0, .slice none 0 0, .slice none 0 0, .slice none 0 0, .slice none 0 0, .slice none 0 0, .slice none 0 0, .slice none 0 0, .slice none 0 0, .slice none 0 0] 76)
   have Hc1 := kbq Hc0 hba
   have Hm1 := kbq Hm0 hba
   have Hr1 := kbq Hr0 hba
   have Hx1 := Lib.hid (Blk.new W #[.int .i64 0, .int .i64 0, .bool false, .bool false, .bool false, .bool false, .bool false, .bool false, .bool false, .bool false, .bool false, .bool false, .bool false, .bool false, .bool false, .bool false, .bool false, .bool false, .slice none 0 0, .slice none 0 0, .slice none 0 0, .slice none 0 0, .slice none 0 0, .slice none 0 0, .slice none 0 0, .slice none 0 0, .slice none 0 0, .slice none 0 0] 76)
   have HB1 := Lib.hid (HB0.out.alloc HB0.out.size (.cells #[.int .i64 0, .int .i64 0, .bool false, .bool false, .bool false, .bool false, .bool false, .bool false, .bool false, .bool false, .bool false, .bool false, .bool false, .bool false, .bool false, .bool false, .bool false, .bool false, .slice none 0 0, .slice none 0 0, .slice none 0 0, .slice none 0 0, .slice none 0 0, .slice none 0 0, .slice none 0 0, .slice none 0 0, .slice none 0 0, .slice none 0 0] 76))
   have HZ1 := kzq HZ0 hba.size
   have HGgx : Hid (w.heap.size ≤ W.heap.size) := Lib.hid HB0.out.size
   clear hba Hc0 Hm0 Hr0 HB0 HZ0
   go_wp2_with (with_reducible refine stop_storeT 76 (.tmp 11) (.tmp 85) rfl ?_)
   clear a1 m6 hy1 hy2 hkl hkI hw1
   generalize (W.alloc (.cells #[.int .i64 0, .int .i64 0, .bool false, .bool false, .bool false, .bool false, .bool false, .bool false, .bool false, .bool false, .bool false, .bool false, .bool false, .bool false, .bool false, .bool false, .bool false, .bool false, .slice none 0 0, .slice none 0 0, .slice none 0 0, .slice none 0 0, .slice none 0 0, .slice none 0 0, .slice none 0 0, .slice none 0 0, .slice none 0 0, .slice none 0 0] 76)) = W1 at *
   generalize hggx : W.heap.size = gx at *
   have HGX := Lib.hid hggx
   clear hggx
   have HTH : Hid (W1.there gx 0 28) := Hx1.out.thereAt
   have hch : Hid (Chg gx W1 (W1.setCells gx 0 X.arr.toList)) := Lib.hid (chg_putL _ _ _ _ _ (Chg.refl _ W1))
   have Hx2 : Hid (Blk (W1.setCells gx 0 X.arr.toList) gx X.arr 76) := Lib.hid (blk_put_all Hx1.out _ rfl)
   have HB2 : Hid (Below w.heap.size w (W1.setCells gx 0 X.arr.toList)) := Lib.hid (below_put (by have := HGR.out; have := HGgx.out; omega) _ _ _ _ HB1.out)
   have HZ2 := kzq HZ1 hch.out.size
   have Hc2 := kcq Hc1 hch (by have := HGR.out; have := HGgx.out; omega)
   have Hm2 := kcq Hm1 hch (by have := HGR.out; have := HGgx.out; omega)
   have Hr2 := kcq Hr1 hch (by have := HGR.out; have := HGgx.out; omega)
   clear hch Hc1 Hm1 Hr1 Hx1 HB1 HZ1
   refine wpList_store_mid rfl 76 (.tmp 11) (.tmp 85) rfl gx 0 X.arr rfl rfl HTH.out (infoD28 rfl) X.all_one ?_
   generalize (W1.setCells gx 0 X.arr.toList) = W2 at *
   clear HTH
   clear m0
   go_upto_region 12 with fail
   have m0 : W2.cell? ⟨w.heap.size + 1, 0, none⟩ = some (.int .i64 ym.k) := Hm2.out.cell 0
   go_upto_region 15 with fail
   clear m0 k5 k16 k11 k13 k15
   have hA := HA.out
   rw [show doC N rs ym _ = voteC N rs ym j from doC_vote HKD.out HJN.out HHB.out] at hA
   have HG := Lib.hid (dvote_any W2 (fun b => P b ∧ b < w.heap.size) N (some ⟨b, o, none⟩) n c rs X (⟨ym, ypl, ycl, ypn, ycn⟩ : MsgX) j (HRS.out.kept HB2.out) HKK.out.1 HKK.out.2 HNN.out (by show 1 ≤ ym.y; rw [HYY.out]; omega) (by show ym.y ≤ n; rw [HYY.out]; have := HKN.out; omega) (HXI.out.kept HB2.out) HXR.out HJN.out)
   rw [hA] at HG
   unfold DP at HG
   dsimp only at HG
   clear hA
   unfold Msg.v at HG
   have HWC : Hid (w.heap.size ≤ W2.heap.size ∧ w.heap.size + 1 + 1 < W2.heap.size) := Lib.hid ⟨HZ2.out, Hr2.out.lt⟩
   have a0 : W2.cell? ⟨w.heap.size, 0, none⟩ = some (.int .i64 (N : Int)) := Hc2.out.cell 0
   have a1 : W2.cell? ⟨w.heap.size, 1, none⟩ = some (.slice (some ⟨b, o, none⟩) n c) := Hc2.out.cell 1
   have m0 : W2.cell? ⟨(w.heap.size + 1), 0, none⟩ = some (.int .i64 ym.k) := Hm2.out.cell 0
   have m1 : W2.cell? ⟨(w.heap.size + 1), 1, none⟩ = some (.int .i64 ym.s) := Hm2.out.cell 1
   have m2 : W2.cell? ⟨(w.heap.size + 1), 2, none⟩ = some (.int .i64 ym.n) := Hm2.out.cell 2
   have m3 : W2.cell? ⟨(w.heap.size + 1), 3, none⟩ = some (.int .i64 ym.b) := Hm2.out.cell 3
   have m4 : W2.cell? ⟨(w.heap.size + 1), 4, none⟩ = some (.int .i64 ym.c) := Hm2.out.cell 4
   have m5 : W2.cell? ⟨(w.heap.size + 1), 5, none⟩ = some (.int .i64 ym.r) := Hm2.out.cell 5
   have m6 : W2.cell? ⟨(w.heap.size + 1), 6, none⟩ = some (.int .i64 ym.y) := Hm2.out.cell 6
   have m7 : W2.cell? ⟨(w.heap.size + 1), 7, none⟩ = some (.int .i64 ym.a) := Hm2.out.cell 7
   have m8 : W2.cell? ⟨(w.heap.size + 1), 8, none⟩ = some (.bool ym.t) := Hm2.out.cell 8
   have m9 : W2.cell? ⟨(w.heap.size + 1), 9, none⟩ = some (.slice ypl ym.ls.length ycl) := Hm2.out.cell 9
   have m10 : W2.cell? ⟨(w.heap.size + 1), 10, none⟩ = some (.slice ypn ym.ns.length ycn) := Hm2.out.cell 10
   unfold DrX.v at HG
   go_wp2_with (with_reducible refine stop_loadT 76 (.tmp 11) rfl ?_)
   refine wpList_loadD rfl (.tmp 11) rfl gx 0 rfl X (dcell Hx2.out) ?_
   go_wp2_with fail
   clear a0 a1 m0 m1 m2 m3 m4 m5 m6 m7 m8 m9 m10
   refine HG.out.mono ?_
   rintro y9 w3 ⟨p3, n3, c3, p5, n5, c5, rfl, hn3, hn5, hq, hs, hb⟩
   clear HG
   have HQ := Lib.hid hq.lt
   have HSD := Lib.hid hs.ltB
   have HN35 := Lib.hid (And.intro hn3 hn5)
   clear hq hs hn3 hn5
   have Hc3 := kbq Hc2 hb
   have Hm3 := kbq Hm2 hb
   have Hr3 := kbq Hr2 hb
   have Hx3 := kbq Hx2 hb
   have HB3 := ktq HB2 hb
   have HZ3 := kzq HZ2 hb.size
   clear Hc2 Hm2 Hr2 Hx2 HB2 HZ2
   clear hb
   go_wp2_with (with_reducible refine stop_storeT 30 (.tmp 6) (.tmp 105) rfl ?_)
   have HTH : Hid (w3.there (w.heap.size + 1 + 1) 0 2) := Hr3.out.thereAt
   have hch : Hid (Chg (w.heap.size + 1 + 1) w3 (w3.setCells (w.heap.size + 1 + 1) 0 (#[.int .i64 (N : Int), .slice p3 n3 c3] : Array Value).toList)) := Lib.hid (chg_putL _ _ _ _ _ (Chg.refl _ w3))
   have Hr4 : Hid (Blk (w3.setCells (w.heap.size + 1 + 1) 0 (#[.int .i64 (N : Int), .slice p3 n3 c3] : Array Value).toList) (w.heap.size + 1 + 1) #[.int .i64 (N : Int), .slice p3 n3 c3] 30) := Lib.hid (blk_put_all Hr3.out _ rfl)
   have HB4 : Hid (Below w.heap.size w (w3.setCells (w.heap.size + 1 + 1) 0 (#[.int .i64 (N : Int), .slice p3 n3 c3] : Array Value).toList)) := Lib.hid (below_put (by have := HGR.out; have := HGgx.out; omega) _ _ _ _ HB3.out)
   have HZ4 := kzq HZ3 hch.out.size
   have Hc4 := kcq Hc3 hch (by have := HGR.out; have := HGgx.out; omega)
   have Hm4 := kcq Hm3 hch (by have := HGR.out; have := HGgx.out; omega)
   have Hx4 := kcq Hx3 hch (by have := HGR.out; have := HGgx.out; omega)
   have HSD2 := Lib.hid (HSD.out.chg hch.out (by intro h; (try dsimp only at h); have h1 := HWC.out; rcases h.1 with h3 | h3; (have := h3.2; omega); omega))
   have HQ4 := Lib.hid (HQ.out.chg hch.out (by intro h; (try dsimp only at h); have h1 := HWC.out; rcases h.1 with h3 | h3; (have := h3.2; omega); omega))
   clear HSD HQ
   clear hch Hc3 Hm3 Hr3 Hx3 HB3 HZ3
   refine wpList_store_mid rfl 30 (.tmp 6) (.tmp 105) rfl (w.heap.size + 1 + 1) 0 #[.int .i64 (N : Int), .slice p3 n3 c3] rfl rfl HTH.out (infoDC rfl) (all_oneCell_toArray (by intro u hu; simp at hu; rcases hu with rfl | rfl <;> rfl)) ?_
   generalize (w3.setCells (w.heap.size + 1 + 1) 0 (#[.int .i64 (N : Int), .slice p3 n3 c3] : Array Value).toList) = W4 at *
   clear HTH
   go_wp2_with fail
   have hfr := Hr4.out
   refine bodyPost_ret (v := .tuple #[.agg #[.int .i64 (N : Int), .slice p3 n3 c3], .slice p5 n5 c5, .int .i64 ER]) (by simp [results, Try.results8, go_sem, hfr.cell 0, hfr.cell 1]) rfl ⟨p3, n3, c3, p5, n5, c5, rfl, HN35.out.1, HN35.out.2, (by exact HQ4.out.imp (Q := fun b => P b ∨ w.heap.size ≤ b) (fun b h => by have h1 := HWC.out; rcases h.1 with h2 | h2; exact .inl h2.1; exact .inr (by omega))), (by exact HSD2.out.imp (R := fun b => P b ∨ w.heap.size ≤ b) (fun b h => by have h1 := HWC.out; rcases h.1 with h2 | h2; exact .inl h2.1; exact .inr (by omega))), HB4.out⟩
 have HN13K := Lib.hid hk
 have k13 : (ym.k == 13) = false := by simpa using hk
 clear hk
 by_cases hk : ym.k = 15
 ·skip
  have k5 : (ym.k == 5) = false := by rw [hk]; rfl
  have k16 : (ym.k == 16) = false := by rw [hk]; rfl
  have k11 : (ym.k == 11) = false := by rw [hk]; rfl
  have k13 : (ym.k == 13) = false := by rw [hk]; rfl
  have k15 : (ym.k == 15) = true := by rw [hk]; rfl
  have HKD := Lib.hid hk
  clear hk
  by_cases hf : fro = -1
  ·skip
   subst hf
   go_upto_region 4 with fail
   clear m0 k5 k16 k11 k13 k15
   have hA := HA.out
   rw [show doC N rs ym _ = (rs, [], 110) from doC_nd (by have := HKD.out; omega)] at hA
   cases hA
   have a0 : W.cell? ⟨w.heap.size, 0, none⟩ = some (.int .i64 (N : Int)) := Hc0.out.cell 0
   have a1 : W.cell? ⟨w.heap.size, 1, none⟩ = some (.slice p n c) := Hc0.out.cell 1
   go_wp2_with (with_reducible refine stop_storeT 30 (.tmp 6) (.tmp 45) rfl ?_)
   clear a0 a1
   have HTH : Hid (W.there (w.heap.size + 1 + 1) 0 2) := Hr0.out.thereAt
   have hch : Hid (Chg (w.heap.size + 1 + 1) W (W.setCells (w.heap.size + 1 + 1) 0 (#[.int .i64 (N : Int), .slice p n c] : Array Value).toList)) := Lib.hid (chg_putL _ _ _ _ _ (Chg.refl _ W))
   have Hr1 : Hid (Blk (W.setCells (w.heap.size + 1 + 1) 0 (#[.int .i64 (N : Int), .slice p n c] : Array Value).toList) (w.heap.size + 1 + 1) #[.int .i64 (N : Int), .slice p n c] 30) := Lib.hid (blk_put_all Hr0.out _ rfl)
   have HB1 : Hid (Below w.heap.size w (W.setCells (w.heap.size + 1 + 1) 0 (#[.int .i64 (N : Int), .slice p n c] : Array Value).toList)) := Lib.hid (below_put (by omega) _ _ _ _ HB0.out)
   have HZ1 := kzq HZ0 hch.out.size
   have Hc1 := kcq Hc0 hch (by omega)
   have Hm1 := kcq Hm0 hch (by omega)
   clear hch Hc0 Hm0 Hr0 HB0 HZ0
   refine wpList_store_mid rfl 30 (.tmp 6) (.tmp 45) rfl (w.heap.size + 1 + 1) 0 #[.int .i64 (N : Int), .slice p n c] rfl rfl HTH.out (infoDC rfl) (all_oneCell_toArray (by intro u hu; simp at hu; rcases hu with rfl | rfl <;> rfl)) ?_
   generalize (W.setCells (w.heap.size + 1 + 1) 0 (#[.int .i64 (N : Int), .slice p n c] : Array Value).toList) = W2 at *
   clear HTH
   go_wp2_with fail
   have hfr := Hr1.out
   refine bodyPost_ret (v := .tuple #[.agg #[.int .i64 (N : Int), .slice p n c], .slice none 0 0, .int .i64 110]) (by simp [results, Try.results8, go_sem, hfr.cell 0, hfr.cell 1]) rfl ⟨_, _, _, none, 0, 0, rfl, HKK.out.1, rfl, ((HRS.out.kept HB1.out).imp (fun b h => .inl h.1)), SdR.nil_ _ _, HB1.out⟩
  ·skip
   have hf1 : (fro == -1) = false := by simpa using hf
   have HF := Lib.hid hf
   clear hf
   have a0 : W.cell? ⟨w.heap.size, 0, none⟩ = some (.int .i64 (N : Int)) := Hc0.out.cell 0
   by_cases hf2 : fro < 0
   ·skip
    have HF2 := Lib.hid hf2
    go_upto_region 8 with fail
    clear m0 k5 k16 k11 k13 k15 hf1 a0 hf2
    have hA := HA.out
    rw [show doC N rs ym _ = (rs, [], 140) from doC_oth (by have := HKD.out; omega) HF.out (.inl HF2.out)] at hA
    cases hA
    have a0 : W.cell? ⟨w.heap.size, 0, none⟩ = some (.int .i64 (N : Int)) := Hc0.out.cell 0
    have a1 : W.cell? ⟨w.heap.size, 1, none⟩ = some (.slice p n c) := Hc0.out.cell 1
    go_wp2_with (with_reducible refine stop_storeT 30 (.tmp 6) (.tmp 66) rfl ?_)
    clear a0 a1
    have HTH : Hid (W.there (w.heap.size + 1 + 1) 0 2) := Hr0.out.thereAt
    have hch : Hid (Chg (w.heap.size + 1 + 1) W (W.setCells (w.heap.size + 1 + 1) 0 (#[.int .i64 (N : Int), .slice p n c] : Array Value).toList)) := Lib.hid (chg_putL _ _ _ _ _ (Chg.refl _ W))
    have Hr1 : Hid (Blk (W.setCells (w.heap.size + 1 + 1) 0 (#[.int .i64 (N : Int), .slice p n c] : Array Value).toList) (w.heap.size + 1 + 1) #[.int .i64 (N : Int), .slice p n c] 30) := Lib.hid (blk_put_all Hr0.out _ rfl)
    have HB1 : Hid (Below w.heap.size w (W.setCells (w.heap.size + 1 + 1) 0 (#[.int .i64 (N : Int), .slice p n c] : Array Value).toList)) := Lib.hid (below_put (by omega) _ _ _ _ HB0.out)
    have HZ1 := kzq HZ0 hch.out.size
    have Hc1 := kcq Hc0 hch (by omega)
    have Hm1 := kcq Hm0 hch (by omega)
    clear hch Hc0 Hm0 Hr0 HB0 HZ0
    refine wpList_store_mid rfl 30 (.tmp 6) (.tmp 66) rfl (w.heap.size + 1 + 1) 0 #[.int .i64 (N : Int), .slice p n c] rfl rfl HTH.out (infoDC rfl) (all_oneCell_toArray (by intro u hu; simp at hu; rcases hu with rfl | rfl <;> rfl)) ?_
    generalize (W.setCells (w.heap.size + 1 + 1) 0 (#[.int .i64 (N : Int), .slice p n c] : Array Value).toList) = W2 at *
    clear HTH
    go_wp2_with fail
    have hfr := Hr1.out
    refine bodyPost_ret (v := .tuple #[.agg #[.int .i64 (N : Int), .slice p n c], .slice none 0 0, .int .i64 140]) (by simp [results, Try.results8, go_sem, hfr.cell 0, hfr.cell 1]) rfl ⟨_, _, _, none, 0, 0, rfl, HKK.out.1, rfl, ((HRS.out.kept HB1.out).imp (fun b h => .inl h.1)), SdR.nil_ _ _, HB1.out⟩
   by_cases hf3 : (N : Int) ≤ fro
   ·skip
    have HF3 := Lib.hid hf3
    go_upto_region 8 with fail
    clear m0 k5 k16 k11 k13 k15 hf1 a0 hf2 hf3
    have hA := HA.out
    rw [show doC N rs ym _ = (rs, [], 140) from doC_oth (by have := HKD.out; omega) HF.out (.inr HF3.out)] at hA
    cases hA
    have a0 : W.cell? ⟨w.heap.size, 0, none⟩ = some (.int .i64 (N : Int)) := Hc0.out.cell 0
    have a1 : W.cell? ⟨w.heap.size, 1, none⟩ = some (.slice p n c) := Hc0.out.cell 1
    go_wp2_with (with_reducible refine stop_storeT 30 (.tmp 6) (.tmp 66) rfl ?_)
    clear a0 a1
    have HTH : Hid (W.there (w.heap.size + 1 + 1) 0 2) := Hr0.out.thereAt
    have hch : Hid (Chg (w.heap.size + 1 + 1) W (W.setCells (w.heap.size + 1 + 1) 0 (#[.int .i64 (N : Int), .slice p n c] : Array Value).toList)) := Lib.hid (chg_putL _ _ _ _ _ (Chg.refl _ W))
    have Hr1 : Hid (Blk (W.setCells (w.heap.size + 1 + 1) 0 (#[.int .i64 (N : Int), .slice p n c] : Array Value).toList) (w.heap.size + 1 + 1) #[.int .i64 (N : Int), .slice p n c] 30) := Lib.hid (blk_put_all Hr0.out _ rfl)
    have HB1 : Hid (Below w.heap.size w (W.setCells (w.heap.size + 1 + 1) 0 (#[.int .i64 (N : Int), .slice p n c] : Array Value).toList)) := Lib.hid (below_put (by omega) _ _ _ _ HB0.out)
    have HZ1 := kzq HZ0 hch.out.size
    have Hc1 := kcq Hc0 hch (by omega)
    have Hm1 := kcq Hm0 hch (by omega)
    clear hch Hc0 Hm0 Hr0 HB0 HZ0
    refine wpList_store_mid rfl 30 (.tmp 6) (.tmp 66) rfl (w.heap.size + 1 + 1) 0 #[.int .i64 (N : Int), .slice p n c] rfl rfl HTH.out (infoDC rfl) (all_oneCell_toArray (by intro u hu; simp at hu; rcases hu with rfl | rfl <;> rfl)) ?_
    generalize (W.setCells (w.heap.size + 1 + 1) 0 (#[.int .i64 (N : Int), .slice p n c] : Array Value).toList) = W2 at *
    clear HTH
    go_wp2_with fail
    have hfr := Hr1.out
    refine bodyPost_ret (v := .tuple #[.agg #[.int .i64 (N : Int), .slice p n c], .slice none 0 0, .int .i64 140]) (by simp [results, Try.results8, go_sem, hfr.cell 0, hfr.cell 1]) rfl ⟨_, _, _, none, 0, 0, rfl, HKK.out.1, rfl, ((HRS.out.kept HB1.out).imp (fun b h => .inl h.1)), SdR.nil_ _ _, HB1.out⟩
   obtain ⟨j, hj⟩ : ∃ j : Nat, fro = (j : Int) := ⟨fro.toNat, by omega⟩
   subst hj
   have HJN : Hid (j < N) := Lib.hid (by omega)
   go_upto_region 9 with fail
   clear a0 hf1 hf2 hf3
   obtain ⟨yy, hyy⟩ : ∃ z, ym.y = z := ⟨_, rfl⟩
   have HYY := Lib.hid hyy
   clear hyy
   have m6 : W.cell? ⟨w.heap.size + 1, 6, none⟩ = some (.int .i64 yy) := by rw [← HYY.out]; exact Hm0.out.cell 6
   have a0 : W.cell? ⟨w.heap.size, 0, none⟩ = some (.int .i64 (N : Int)) := Hc0.out.cell 0
   have a1 : W.cell? ⟨w.heap.size, 1, none⟩ = some (.slice p n c) := Hc0.out.cell 1
   by_cases hy1 : yy < 1
   ·skip
    have HHB : Hid (hasB rs ym.y = false) := Lib.hid (by unfold hasB; rw [HYY.out]; exact decide_eq_false (by have := HKK.out.1; omega))
    go_upto_region 10 with fail
    clear m6 a0 a1 m0 k5 k16 k11 k13 k15 hy1
    have hA := HA.out
    rw [show doC N rs ym _ = (rs, [], 4) from doC_mis (by have := HKD.out; omega) HJN.out HHB.out] at hA
    cases hA
    have a0 : W.cell? ⟨w.heap.size, 0, none⟩ = some (.int .i64 (N : Int)) := Hc0.out.cell 0
    have a1 : W.cell? ⟨w.heap.size, 1, none⟩ = some (.slice p n c) := Hc0.out.cell 1
    go_wp2_with (with_reducible refine stop_storeT 30 (.tmp 6) (.tmp 78) rfl ?_)
    clear a0 a1
    have HTH : Hid (W.there (w.heap.size + 1 + 1) 0 2) := Hr0.out.thereAt
    have hch : Hid (Chg (w.heap.size + 1 + 1) W (W.setCells (w.heap.size + 1 + 1) 0 (#[.int .i64 (N : Int), .slice p n c] : Array Value).toList)) := Lib.hid (chg_putL _ _ _ _ _ (Chg.refl _ W))
    have Hr1 : Hid (Blk (W.setCells (w.heap.size + 1 + 1) 0 (#[.int .i64 (N : Int), .slice p n c] : Array Value).toList) (w.heap.size + 1 + 1) #[.int .i64 (N : Int), .slice p n c] 30) := Lib.hid (blk_put_all Hr0.out _ rfl)
    have HB1 : Hid (Below w.heap.size w (W.setCells (w.heap.size + 1 + 1) 0 (#[.int .i64 (N : Int), .slice p n c] : Array Value).toList)) := Lib.hid (below_put (by omega) _ _ _ _ HB0.out)
    have HZ1 := kzq HZ0 hch.out.size
    have Hc1 := kcq Hc0 hch (by omega)
    have Hm1 := kcq Hm0 hch (by omega)
    clear hch Hc0 Hm0 Hr0 HB0 HZ0
    refine wpList_store_mid rfl 30 (.tmp 6) (.tmp 78) rfl (w.heap.size + 1 + 1) 0 #[.int .i64 (N : Int), .slice p n c] rfl rfl HTH.out (infoDC rfl) (all_oneCell_toArray (by intro u hu; simp at hu; rcases hu with rfl | rfl <;> rfl)) ?_
    generalize (W.setCells (w.heap.size + 1 + 1) 0 (#[.int .i64 (N : Int), .slice p n c] : Array Value).toList) = W2 at *
    clear HTH
    go_wp2_with fail
    have hfr := Hr1.out
    refine bodyPost_ret (v := .tuple #[.agg #[.int .i64 (N : Int), .slice p n c], .slice none 0 0, .int .i64 4]) (by simp [results, Try.results8, go_sem, hfr.cell 0, hfr.cell 1]) rfl ⟨_, _, _, none, 0, 0, rfl, HKK.out.1, rfl, ((HRS.out.kept HB1.out).imp (fun b h => .inl h.1)), SdR.nil_ _ _, HB1.out⟩
   by_cases hy2 : (n : Int) < yy
   ·skip
    have HHB : Hid (hasB rs ym.y = false) := Lib.hid (by unfold hasB; rw [HYY.out]; exact decide_eq_false (by have := HKK.out.1; omega))
    go_upto_region 10 with fail
    clear m6 a0 a1 m0 k5 k16 k11 k13 k15 hy1 hy2
    have hA := HA.out
    rw [show doC N rs ym _ = (rs, [], 4) from doC_mis (by have := HKD.out; omega) HJN.out HHB.out] at hA
    cases hA
    have a0 : W.cell? ⟨w.heap.size, 0, none⟩ = some (.int .i64 (N : Int)) := Hc0.out.cell 0
    have a1 : W.cell? ⟨w.heap.size, 1, none⟩ = some (.slice p n c) := Hc0.out.cell 1
    go_wp2_with (with_reducible refine stop_storeT 30 (.tmp 6) (.tmp 78) rfl ?_)
    clear a0 a1
    have HTH : Hid (W.there (w.heap.size + 1 + 1) 0 2) := Hr0.out.thereAt
    have hch : Hid (Chg (w.heap.size + 1 + 1) W (W.setCells (w.heap.size + 1 + 1) 0 (#[.int .i64 (N : Int), .slice p n c] : Array Value).toList)) := Lib.hid (chg_putL _ _ _ _ _ (Chg.refl _ W))
    have Hr1 : Hid (Blk (W.setCells (w.heap.size + 1 + 1) 0 (#[.int .i64 (N : Int), .slice p n c] : Array Value).toList) (w.heap.size + 1 + 1) #[.int .i64 (N : Int), .slice p n c] 30) := Lib.hid (blk_put_all Hr0.out _ rfl)
    have HB1 : Hid (Below w.heap.size w (W.setCells (w.heap.size + 1 + 1) 0 (#[.int .i64 (N : Int), .slice p n c] : Array Value).toList)) := Lib.hid (below_put (by omega) _ _ _ _ HB0.out)
    have HZ1 := kzq HZ0 hch.out.size
    have Hc1 := kcq Hc0 hch (by omega)
    have Hm1 := kcq Hm0 hch (by omega)
    clear hch Hc0 Hm0 Hr0 HB0 HZ0
    refine wpList_store_mid rfl 30 (.tmp 6) (.tmp 78) rfl (w.heap.size + 1 + 1) 0 #[.int .i64 (N : Int), .slice p n c] rfl rfl HTH.out (infoDC rfl) (all_oneCell_toArray (by intro u hu; simp at hu; rcases hu with rfl | rfl <;> rfl)) ?_
    generalize (W.setCells (w.heap.size + 1 + 1) 0 (#[.int .i64 (N : Int), .slice p n c] : Array Value).toList) = W2 at *
    clear HTH
    go_wp2_with fail
    have hfr := Hr1.out
    refine bodyPost_ret (v := .tuple #[.agg #[.int .i64 (N : Int), .slice p n c], .slice none 0 0, .int .i64 4]) (by simp [results, Try.results8, go_sem, hfr.cell 0, hfr.cell 1]) rfl ⟨_, _, _, none, 0, 0, rfl, HKK.out.1, rfl, ((HRS.out.kept HB1.out).imp (fun b h => .inl h.1)), SdR.nil_ _ _, HB1.out⟩
   obtain ⟨kn, hkn⟩ : ∃ kn : Nat, yy = (kn : Int) + 1 := ⟨(yy - 1).toNat, by omega⟩
   subst hkn
   have hkl : kn < n := by omega
   have HKN : Hid (kn < n) := Lib.hid hkl
   have HHB : Hid (hasB rs ym.y = true) := Lib.hid (by unfold hasB; rw [HYY.out]; exact decide_eq_true (by have := HKK.out.1; omega))
   have hw1 : wrap64 (kn : Int) = (kn : Int) := by unfold wrap64; have := HKK.out.2; omega
   have hkI : (kn : Int) < (n : Int) := by omega
   obtain ⟨xs, hr, hat, hin, hm⟩ := HRS.out
   have hkx : kn < xs.length := by have h1 := HKK.out.1; rw [← hm, List.length_map] at h1; omega
   obtain ⟨b, o, hp, hbl, hcs⟩ := hr.at_ kn hkx
   obtain ⟨X, hX⟩ : ∃ X, xs[kn] = X := ⟨_, rfl⟩
   rw [hX] at hcs
   have HXI : Hid (X.In (fun b => P b ∧ b < w.heap.size) w) := Lib.hid (hin X (by rw [← hX]; exact List.getElem_mem hkx))
   have HXR : Hid (X.rn N = rnAt rs ym.y) := Lib.hid (by
    unfold rnAt
    rw [HYY.out, ← hm, show ((kn : Int) + 1 - 1).toNat = kn by omega, List.getElem?_map, List.getElem?_eq_getElem hkx, hX]
    rfl)
   have HXS : Hid (1 ≤ X.st ∧ X.st ≤ 4) := Lib.hid (HSO.out (X.rn N) (by rw [← hm]; exact List.mem_map_of_mem (by rw [← hX]; exact List.getElem_mem hkx)))
   have HBL := Lib.hid hbl
   have HCS := Lib.hid hcs
   subst hp
   clear hr hat hin hm hbl hcs hX hkx
   go_upto_region 11 with fail
   clear a0 a1
   have a1 : W.cell? ⟨w.heap.size, 1, none⟩ = some (.slice (some ⟨b, o, none⟩) n c) := Hc0.out.cell 1
   go_wp2_with (with_reducible refine stop_loadT 76 (.tmp 84) rfl ?_)
   refine wpList_loadD rfl (.tmp 84) rfl b (o + kn * 28) rfl X (fun t ht => (HB0.out.cell (p := ⟨b, _, none⟩) HBL.out).trans (HCS.out t ht)) ?_
   have HGR : Hid (w.heap.size + 1 + 1 < W.heap.size) := Lib.hid Hr0.out.lt
   have hba := oneB W (.cells #[.int .i64 0, .int .i64 0, .bool false, .bool false, .bool false, .bool false, .bool false, .bool false, .bool false, .bool false, .bool false, .bool false, .bool false, .bool false, .bool false, .bool false, .bool false, .bool false, .slice none 0 0, .slice none 0 0, .slice none 0 0, .slice none 0 0, .slice none 0 0, .slice none 0 0, .slice none 0 0, .slice none 0 0, .slice none 0 0, .slice none 0 0] 76)
   have Hc1 := kbq Hc0 hba
   have Hm1 := kbq Hm0 hba
   have Hr1 := kbq Hr0 hba
   have Hx1 := Lib.hid (Blk.new W #[.int .i64 0, .int .i64 0, .bool false, .bool false, .bool false, .bool false, .bool false, .bool false, .bool false, .bool false, .bool false, .bool false, .bool false, .bool false, .bool false, .bool false, .bool false, .bool false, .slice none 0 0, .slice none 0 0, .slice none 0 0, .slice none 0 0, .slice none 0 0, .slice none 0 0, .slice none 0 0, .slice none 0 0, .slice none 0 0, .slice none 0 0] 76)
   have HB1 := Lib.hid (HB0.out.alloc HB0.out.size (.cells #[.int .i64 0, .int .i64 0, .bool false, .bool false, .bool false, .bool false, .bool false, .bool false, .bool false, .bool false, .bool false, .bool false, .bool false, .bool false, .bool false, .bool false, .bool false, .bool false, .slice none 0 0, .slice none 0 0, .slice none 0 0, .slice none 0 0, .slice none 0 0, .slice none 0 0, .slice none 0 0, .slice none 0 0, .slice none 0 0, .slice none 0 0] 76))
   have HZ1 := kzq HZ0 hba.size
   have HGgx : Hid (w.heap.size ≤ W.heap.size) := Lib.hid HB0.out.size
   clear hba Hc0 Hm0 Hr0 HB0 HZ0
   go_wp2_with (with_reducible refine stop_storeT 76 (.tmp 11) (.tmp 85) rfl ?_)
   clear a1 m6 hy1 hy2 hkl hkI hw1
   generalize (W.alloc (.cells #[.int .i64 0, .int .i64 0, .bool false, .bool false, .bool false, .bool false, .bool false, .bool false, .bool false, .bool false, .bool false, .bool false, .bool false, .bool false, .bool false, .bool false, .bool false, .bool false, .slice none 0 0, .slice none 0 0, .slice none 0 0, .slice none 0 0, .slice none 0 0, .slice none 0 0, .slice none 0 0, .slice none 0 0, .slice none 0 0, .slice none 0 0] 76)) = W1 at *
   generalize hggx : W.heap.size = gx at *
   have HGX := Lib.hid hggx
   clear hggx
   have HTH : Hid (W1.there gx 0 28) := Hx1.out.thereAt
   have hch : Hid (Chg gx W1 (W1.setCells gx 0 X.arr.toList)) := Lib.hid (chg_putL _ _ _ _ _ (Chg.refl _ W1))
   have Hx2 : Hid (Blk (W1.setCells gx 0 X.arr.toList) gx X.arr 76) := Lib.hid (blk_put_all Hx1.out _ rfl)
   have HB2 : Hid (Below w.heap.size w (W1.setCells gx 0 X.arr.toList)) := Lib.hid (below_put (by have := HGR.out; have := HGgx.out; omega) _ _ _ _ HB1.out)
   have HZ2 := kzq HZ1 hch.out.size
   have Hc2 := kcq Hc1 hch (by have := HGR.out; have := HGgx.out; omega)
   have Hm2 := kcq Hm1 hch (by have := HGR.out; have := HGgx.out; omega)
   have Hr2 := kcq Hr1 hch (by have := HGR.out; have := HGgx.out; omega)
   clear hch Hc1 Hm1 Hr1 Hx1 HB1 HZ1
   refine wpList_store_mid rfl 76 (.tmp 11) (.tmp 85) rfl gx 0 X.arr rfl rfl HTH.out (infoD28 rfl) X.all_one ?_
   generalize (W1.setCells gx 0 X.arr.toList) = W2 at *
   clear HTH
   clear m0
   go_upto_region 12 with fail
   have m0 : W2.cell? ⟨w.heap.size + 1, 0, none⟩ = some (.int .i64 ym.k) := Hm2.out.cell 0
   go_upto_region 16 with fail
   have x1 : W2.cell? ⟨gx, 1, none⟩ = some (.int .i64 X.st) := Hx2.out.cell 1
   by_cases hs3 : X.st < 3
   ·skip
    have HOP : Hid (openB (rnAt rs ym.y) = true) := Lib.hid (by rw [← HXR.out, openB_lt (show 1 ≤ (X.rn N).st ∧ (X.rn N).st ≤ 4 from HXS.out)]; exact decide_eq_true hs3)
    go_upto_region 17 with fail
    clear m0 k5 k16 k11 k13 k15 x1 hs3
    have hA := HA.out
    rw [show doC N rs ym _ = (rs, [], 90) from by rw [doC_query HKD.out HJN.out HHB.out]; unfold queryC; rw [if_pos HOP.out]] at hA
    cases hA
    have a0 : W2.cell? ⟨w.heap.size, 0, none⟩ = some (.int .i64 (N : Int)) := Hc2.out.cell 0
    have a1 : W2.cell? ⟨w.heap.size, 1, none⟩ = some (.slice (some ⟨b, o, none⟩) n c) := Hc2.out.cell 1
    go_wp2_with (with_reducible refine stop_storeT 30 (.tmp 6) (.tmp 115) rfl ?_)
    clear a0 a1
    have HTH : Hid (W2.there (w.heap.size + 1 + 1) 0 2) := Hr2.out.thereAt
    have hch : Hid (Chg (w.heap.size + 1 + 1) W2 (W2.setCells (w.heap.size + 1 + 1) 0 (#[.int .i64 (N : Int), .slice (some ⟨b, o, none⟩) n c] : Array Value).toList)) := Lib.hid (chg_putL _ _ _ _ _ (Chg.refl _ W2))
    have Hr3 : Hid (Blk (W2.setCells (w.heap.size + 1 + 1) 0 (#[.int .i64 (N : Int), .slice (some ⟨b, o, none⟩) n c] : Array Value).toList) (w.heap.size + 1 + 1) #[.int .i64 (N : Int), .slice (some ⟨b, o, none⟩) n c] 30) := Lib.hid (blk_put_all Hr2.out _ rfl)
    have HB3 : Hid (Below w.heap.size w (W2.setCells (w.heap.size + 1 + 1) 0 (#[.int .i64 (N : Int), .slice (some ⟨b, o, none⟩) n c] : Array Value).toList)) := Lib.hid (below_put (by have := HGR.out; have := HGgx.out; omega) _ _ _ _ HB2.out)
    have HZ3 := kzq HZ2 hch.out.size
    have Hc3 := kcq Hc2 hch (by have := HGR.out; have := HGgx.out; omega)
    have Hm3 := kcq Hm2 hch (by have := HGR.out; have := HGgx.out; omega)
    have Hx3 := kcq Hx2 hch (by have := HGR.out; have := HGgx.out; omega)
    clear hch Hc2 Hm2 Hr2 Hx2 HB2 HZ2
    refine wpList_store_mid rfl 30 (.tmp 6) (.tmp 115) rfl (w.heap.size + 1 + 1) 0 #[.int .i64 (N : Int), .slice (some ⟨b, o, none⟩) n c] rfl rfl HTH.out (infoDC rfl) (all_oneCell_toArray (by intro u hu; simp at hu; rcases hu with rfl | rfl <;> rfl)) ?_
    generalize (W2.setCells (w.heap.size + 1 + 1) 0 (#[.int .i64 (N : Int), .slice (some ⟨b, o, none⟩) n c] : Array Value).toList) = W3 at *
    clear HTH
    go_wp2_with fail
    have hfr := Hr3.out
    refine bodyPost_ret (v := .tuple #[.agg #[.int .i64 (N : Int), .slice (some ⟨b, o, none⟩) n c], .slice none 0 0, .int .i64 90]) (by simp [results, Try.results8, go_sem, hfr.cell 0, hfr.cell 1]) rfl ⟨_, _, _, none, 0, 0, rfl, HKK.out.1, rfl, ((HRS.out.kept HB3.out).imp (fun b h => .inl h.1)), SdR.nil_ _ _, HB3.out⟩
   ·skip
    have HOP : Hid (openB (rnAt rs ym.y) = false) := Lib.hid (by rw [← HXR.out, openB_lt (show 1 ≤ (X.rn N).st ∧ (X.rn N).st ≤ 4 from HXS.out)]; exact decide_eq_false hs3)
    go_upto_region 20 with fail
    clear m0 k5 k16 k11 k13 k15 x1 hs3
    have hA := HA.out
    rw [show doC N rs ym _ = (rs, [((j : Int), decM ym.y (rnAt rs ym.y))], 0) from by rw [doC_query HKD.out HJN.out HHB.out]; unfold queryC; rw [if_neg (by rw [HOP.out]; decide)]] at hA
    cases hA
    obtain ⟨bq, hbq⟩ : ∃ b, (X.st == 3) = b := ⟨_, rfl⟩
    have HBQ := Lib.hid hbq
    have hbd := (Below.refl W2.heap.size W2).drew
    have Hc3 := kbq Hc2 hbd
    have Hm3 := kbq Hm2 hbd
    have Hr3 := kbq Hr2 hbd
    have Hx3 := kbq Hx2 hbd
    have HB3 := ktq HB2 hbd
    have HZ3 := kzq HZ2 hbd.size
    clear Hc2 Hm2 Hr2 Hx2 HB2 HZ2
    refine wp_region_held_drew (S := fun w' => w'.cell? ⟨w.heap.size, 0, none⟩ = some (.int .i64 (N : Int)) ∧ w'.cell? ⟨w.heap.size, 1, none⟩ = some (.slice (some ⟨b, o, none⟩) n c) ∧ Blk w' gx X.arr 76 ∧ w'.cell? ⟨w.heap.size + 1, 6, none⟩ = some (.int .i64 ym.y) ∧ w'.cell? ⟨gx, 1, none⟩ = some (.int .i64 X.st)) (by kernel_rfl) ⟨Hc3.out.cell 0, Hc3.out.cell 1, Hx3.out, Hm3.out.cell 6, Hx3.out.cell 1⟩ (fun hS0 => ?_)
    generalize W2.drew = WD at *
    clear hbd
    refine tkq 0 ?_
    refine tkq 1 ?_
    refine tkq 2 ?_
    refine tkq 3 ?_
    refine tkq 4 ?_
    refine tkq 5 ?_
    refine tkq 6 ?_
    refine tkq 7 ?_
    refine tkq 8 ?_
    clear hbq
    refine wpAnyH_ready (rs := [9, 10]) (by kernel_rfl) (by simp) ?_
    refine AllReadyH.cons rfl (fun K hK => ?_) (AllReadyH.cons rfl (fun K hK => ?_) AllReadyH.nil)
    ·skip
     go_simp
     have HGS : Hid (w.heap.size ≤ WD.heap.size ∧ w.heap.size + 1 + 1 < WD.heap.size ∧ gx < WD.heap.size) := Lib.hid ⟨HZ3.out, Hr3.out.lt, Hx3.out.lt⟩
     have hba := oneB WD (.cells #[.int .i64 (j : Int), .int .i64 14, .int .i64 0, .int .i64 0, .int .i64 0, .int .i64 0, .int .i64 0, .int .i64 ym.y, .int .i64 0, .bool bq, .slice none 0 0, .slice none 0 0] 48)
     have Hc4 := kbq Hc3 hba
     have Hm4 := kbq Hm3 hba
     have Hr4 := kbq Hr3 hba
     have Hx4 := kbq Hx3 hba
     have Hs4 := Lib.hid (Blk.new WD #[.int .i64 (j : Int), .int .i64 14, .int .i64 0, .int .i64 0, .int .i64 0, .int .i64 0, .int .i64 0, .int .i64 ym.y, .int .i64 0, .bool bq, .slice none 0 0, .slice none 0 0] 48)
     have HB4 := Lib.hid (HB3.out.alloc HB3.out.size (.cells #[.int .i64 (j : Int), .int .i64 14, .int .i64 0, .int .i64 0, .int .i64 0, .int .i64 0, .int .i64 0, .int .i64 ym.y, .int .i64 0, .bool bq, .slice none 0 0, .slice none 0 0] 48))
     have HZ4 := kzq HZ3 hba.size
     clear hba hS0 Hc3 Hm3 Hr3 Hx3 HB3 HZ3
     generalize (WD.alloc (.cells #[.int .i64 (j : Int), .int .i64 14, .int .i64 0, .int .i64 0, .int .i64 0, .int .i64 0, .int .i64 0, .int .i64 ym.y, .int .i64 0, .bool bq, .slice none 0 0, .slice none 0 0] 48)) = W5 at *
     generalize hggs : WD.heap.size = gs at *
     clear hggs
     refine hK.out _ _ ⟨Hc4.out.cell 0, Hc4.out.cell 1, Hx4.out, Hm4.out.cell 6, Hx4.out.cell 1⟩ (fun hS0 => ?_)
     clear hK K
     try simp only [Act.put, List.getElem_toArray, List.getElem_cons_succ, List.getElem_cons_zero, List.setIfInBounds_toArray, List.set_cons_zero, List.set_cons_succ]
     refine rdq 10 (fun K hK => ?_)
     have z0 : W5.cell? ⟨(w.heap.size + 1 + 1), 0, none⟩ = some (.int .i64 0) := Hr4.out.cell 0
     have z1 : W5.cell? ⟨(w.heap.size + 1 + 1), 1, none⟩ = some (.slice none 0 0) := Hr4.out.cell 1
     have f0 := Hr4.out.free 0
     have f1 := Hr4.out.free 1
     go_simp
     clear z0 f0 z1 f1
     have hch := Lib.hid (((Chg.refl (w.heap.size + 1 + 1) W5).set 0 (.int .i64 (N : Int))).set 1 (.slice (some ⟨b, o, none⟩) n c))
     have Hr5 : Hid (Blk _ (w.heap.size + 1 + 1) #[.int .i64 (N : Int), .slice (some ⟨b, o, none⟩) n c] 30) := Lib.hid ((Hr4.out.set 0 (.int .i64 (N : Int))).set 1 (.slice (some ⟨b, o, none⟩) n c))
     have HB5 := ksq HB4 hch (by show w.heap.size ≤ (w.heap.size + 1 + 1); have := HGR.out; have := HGgx.out; have := HGS.out; omega)
     have HZ5 := kzq HZ4 hch.out.size
     have Hc5 := kcq Hc4 hch (by have := HGR.out; have := HGgx.out; have := HGS.out; omega)
     have Hm5 := kcq Hm4 hch (by have := HGR.out; have := HGgx.out; have := HGS.out; omega)
     have Hx5 := kcq Hx4 hch (by have := HGR.out; have := HGgx.out; have := HGS.out; omega)
     have Hs5 := kcq Hs4 hch (by have := HGR.out; have := HGgx.out; have := HGS.out; omega)
     clear hch hS0 Hc4 Hm4 Hr4 Hx4 Hs4 HB4 HZ4
     generalize ((W5.setCell ⟨w.heap.size + 1 + 1, 0, none⟩ (.int .i64 (N : Int))).setCell ⟨w.heap.size + 1 + 1, 1, none⟩ (.slice (some ⟨b, o, none⟩) n c)) = W6 at *
     refine hK.out _ _ ⟨Hc5.out.cell 0, Hc5.out.cell 1, Hx5.out, Hm5.out.cell 6, Hx5.out.cell 1⟩ (fun hS0 => ?_)
     clear hK K
     try simp only [Act.put, List.getElem_toArray, List.getElem_cons_succ, List.getElem_cons_zero, List.setIfInBounds_toArray, List.set_cons_zero, List.set_cons_succ]
     refine tkq 11 ?_
     refine tkq 12 ?_
     refine wpAnyH_done (by kernel_rfl) ?_ _
     clear hS0
     go_wp2_with fail
     have hfr := Hr5.out
     refine bodyPost_ret (v := .tuple #[.agg #[.int .i64 (N : Int), .slice (some ⟨b, o, none⟩) n c], .slice (some ⟨gs, 0, none⟩) 1 1, .int .i64 0]) (by simp [results, Try.results8, go_sem, hfr.cell 0, hfr.cell 1]) rfl ⟨_, _, _, _, _, _, rfl, HKK.out.1, rfl, ((HRS.out.kept HB5.out).imp (fun b h => .inl h.1)), ?_, HB5.out⟩
     have e : decM ym.y (rnAt rs ym.y) = ⟨14, 0, 0, 0, 0, 0, ym.y, 0, bq, [], []⟩ := by
      unfold decM
      rw [← HXR.out, show ((X.rn N).st == 3) = bq from HBQ.out]
     rw [e]
     refine ⟨[⟨(j : Int), ⟨⟨14, 0, 0, 0, 0, 0, ym.y, 0, bq, [], []⟩, none, 0, none, 0⟩⟩], ⟨TRow.one_ encS _ Hs5.out rfl (Nat.le_refl 1), fun b o n c e _ => by cases e; exact .inr (by have := HGS.out; omega)⟩, fun z hz => ?_, rfl⟩
     obtain rfl := List.mem_singleton.1 hz
     exact ⟨TRow.nil_ _ _, Row.nil_ _ _ 0, At.nil_ _ _, At.nil_ _ _, ⟨by show 0 * 32 ≤ _; decide, by show 0 * 8 ≤ _; decide⟩⟩
    ·skip
     have z0 : WD.cell? ⟨(w.heap.size + 1 + 1), 0, none⟩ = some (.int .i64 0) := Hr3.out.cell 0
     have z1 : WD.cell? ⟨(w.heap.size + 1 + 1), 1, none⟩ = some (.slice none 0 0) := Hr3.out.cell 1
     have f0 := Hr3.out.free 0
     have f1 := Hr3.out.free 1
     go_simp
     clear z0 f0 z1 f1
     have hch := Lib.hid (((Chg.refl (w.heap.size + 1 + 1) WD).set 0 (.int .i64 (N : Int))).set 1 (.slice (some ⟨b, o, none⟩) n c))
     have Hr4 : Hid (Blk _ (w.heap.size + 1 + 1) #[.int .i64 (N : Int), .slice (some ⟨b, o, none⟩) n c] 30) := Lib.hid ((Hr3.out.set 0 (.int .i64 (N : Int))).set 1 (.slice (some ⟨b, o, none⟩) n c))
     have HB4 := ksq HB3 hch (by show w.heap.size ≤ (w.heap.size + 1 + 1); have := HGR.out; have := HGgx.out; omega)
     have HZ4 := kzq HZ3 hch.out.size
     have Hc4 := kcq Hc3 hch (by have := HGR.out; have := HGgx.out; omega)
     have Hm4 := kcq Hm3 hch (by have := HGR.out; have := HGgx.out; omega)
     have Hx4 := kcq Hx3 hch (by have := HGR.out; have := HGgx.out; omega)
     clear hch hS0 Hc3 Hm3 Hr3 Hx3 HB3 HZ3
     generalize ((WD.setCell ⟨w.heap.size + 1 + 1, 0, none⟩ (.int .i64 (N : Int))).setCell ⟨w.heap.size + 1 + 1, 1, none⟩ (.slice (some ⟨b, o, none⟩) n c)) = W5 at *
     refine hK.out _ _ ⟨Hc4.out.cell 0, Hc4.out.cell 1, Hx4.out, Hm4.out.cell 6, Hx4.out.cell 1⟩ (fun hS0 => ?_)
     clear hK K
     try simp only [Act.put, List.getElem_toArray, List.getElem_cons_succ, List.getElem_cons_zero, List.setIfInBounds_toArray, List.set_cons_zero, List.set_cons_succ]
     refine rdq 9 (fun K hK => ?_)
     go_simp
     have HGS : Hid (w.heap.size ≤ W5.heap.size ∧ w.heap.size + 1 + 1 < W5.heap.size ∧ gx < W5.heap.size) := Lib.hid ⟨HZ4.out, Hr4.out.lt, Hx4.out.lt⟩
     have hba := oneB W5 (.cells #[.int .i64 (j : Int), .int .i64 14, .int .i64 0, .int .i64 0, .int .i64 0, .int .i64 0, .int .i64 0, .int .i64 ym.y, .int .i64 0, .bool bq, .slice none 0 0, .slice none 0 0] 48)
     have Hc5 := kbq Hc4 hba
     have Hm5 := kbq Hm4 hba
     have Hr5 := kbq Hr4 hba
     have Hx5 := kbq Hx4 hba
     have Hs5 := Lib.hid (Blk.new W5 #[.int .i64 (j : Int), .int .i64 14, .int .i64 0, .int .i64 0, .int .i64 0, .int .i64 0, .int .i64 0, .int .i64 ym.y, .int .i64 0, .bool bq, .slice none 0 0, .slice none 0 0] 48)
     have HB5 := Lib.hid (HB4.out.alloc HB4.out.size (.cells #[.int .i64 (j : Int), .int .i64 14, .int .i64 0, .int .i64 0, .int .i64 0, .int .i64 0, .int .i64 0, .int .i64 ym.y, .int .i64 0, .bool bq, .slice none 0 0, .slice none 0 0] 48))
     have HZ5 := kzq HZ4 hba.size
     clear hba hS0 Hc4 Hm4 Hr4 Hx4 HB4 HZ4
     generalize (W5.alloc (.cells #[.int .i64 (j : Int), .int .i64 14, .int .i64 0, .int .i64 0, .int .i64 0, .int .i64 0, .int .i64 0, .int .i64 ym.y, .int .i64 0, .bool bq, .slice none 0 0, .slice none 0 0] 48)) = W6 at *
     generalize hggs : W5.heap.size = gs at *
     clear hggs
     refine hK.out _ _ ⟨Hc5.out.cell 0, Hc5.out.cell 1, Hx5.out, Hm5.out.cell 6, Hx5.out.cell 1⟩ (fun hS0 => ?_)
     clear hK K
     try simp only [Act.put, List.getElem_toArray, List.getElem_cons_succ, List.getElem_cons_zero, List.setIfInBounds_toArray, List.set_cons_zero, List.set_cons_succ]
     refine tkq 11 ?_
     refine tkq 12 ?_
     refine wpAnyH_done (by kernel_rfl) ?_ _
     clear hS0
     go_wp2_with fail
     have hfr := Hr5.out
     refine bodyPost_ret (v := .tuple #[.agg #[.int .i64 (N : Int), .slice (some ⟨b, o, none⟩) n c], .slice (some ⟨gs, 0, none⟩) 1 1, .int .i64 0]) (by simp [results, Try.results8, go_sem, hfr.cell 0, hfr.cell 1]) rfl ⟨_, _, _, _, _, _, rfl, HKK.out.1, rfl, ((HRS.out.kept HB5.out).imp (fun b h => .inl h.1)), ?_, HB5.out⟩
     have e : decM ym.y (rnAt rs ym.y) = ⟨14, 0, 0, 0, 0, 0, ym.y, 0, bq, [], []⟩ := by
      unfold decM
      rw [← HXR.out, show ((X.rn N).st == 3) = bq from HBQ.out]
     rw [e]
     refine ⟨[⟨(j : Int), ⟨⟨14, 0, 0, 0, 0, 0, ym.y, 0, bq, [], []⟩, none, 0, none, 0⟩⟩], ⟨TRow.one_ encS _ Hs5.out rfl (Nat.le_refl 1), fun b o n c e _ => by cases e; exact .inr (by have := HGS.out; omega)⟩, fun z hz => ?_, rfl⟩
     obtain rfl := List.mem_singleton.1 hz
     exact ⟨TRow.nil_ _ _, Row.nil_ _ _ 0, At.nil_ _ _, At.nil_ _ _, ⟨by show 0 * 32 ≤ _; decide, by show 0 * 8 ≤ _; decide⟩⟩
 have HN15K := Lib.hid hk
 have k15 : (ym.k == 15) = false := by simpa using hk
 clear hk
 go_upto_region 4 with fail
 clear m0 k5 k16 k11 k13 k15
 have hA := HA.out
 rw [show doC N rs ym _ = (rs, [], 110) from doC_none HN5K.out HN16K.out HN11K.out HN13K.out HN15K.out] at hA
 cases hA
 have a0 : W.cell? ⟨w.heap.size, 0, none⟩ = some (.int .i64 (N : Int)) := Hc0.out.cell 0
 have a1 : W.cell? ⟨w.heap.size, 1, none⟩ = some (.slice p n c) := Hc0.out.cell 1
 go_wp2_with (with_reducible refine stop_storeT 30 (.tmp 6) (.tmp 45) rfl ?_)
 clear a0 a1
 have HTH : Hid (W.there (w.heap.size + 1 + 1) 0 2) := Hr0.out.thereAt
 have hch : Hid (Chg (w.heap.size + 1 + 1) W (W.setCells (w.heap.size + 1 + 1) 0 (#[.int .i64 (N : Int), .slice p n c] : Array Value).toList)) := Lib.hid (chg_putL _ _ _ _ _ (Chg.refl _ W))
 have Hr1 : Hid (Blk (W.setCells (w.heap.size + 1 + 1) 0 (#[.int .i64 (N : Int), .slice p n c] : Array Value).toList) (w.heap.size + 1 + 1) #[.int .i64 (N : Int), .slice p n c] 30) := Lib.hid (blk_put_all Hr0.out _ rfl)
 have HB1 : Hid (Below w.heap.size w (W.setCells (w.heap.size + 1 + 1) 0 (#[.int .i64 (N : Int), .slice p n c] : Array Value).toList)) := Lib.hid (below_put (by omega) _ _ _ _ HB0.out)
 have HZ1 := kzq HZ0 hch.out.size
 have Hc1 := kcq Hc0 hch (by omega)
 have Hm1 := kcq Hm0 hch (by omega)
 clear hch Hc0 Hm0 Hr0 HB0 HZ0
 refine wpList_store_mid rfl 30 (.tmp 6) (.tmp 45) rfl (w.heap.size + 1 + 1) 0 #[.int .i64 (N : Int), .slice p n c] rfl rfl HTH.out (infoDC rfl) (all_oneCell_toArray (by intro u hu; simp at hu; rcases hu with rfl | rfl <;> rfl)) ?_
 generalize (W.setCells (w.heap.size + 1 + 1) 0 (#[.int .i64 (N : Int), .slice p n c] : Array Value).toList) = W2 at *
 clear HTH
 go_wp2_with fail
 have hfr := Hr1.out
 refine bodyPost_ret (v := .tuple #[.agg #[.int .i64 (N : Int), .slice p n c], .slice none 0 0, .int .i64 110]) (by simp [results, Try.results8, go_sem, hfr.cell 0, hfr.cell 1]) rfl ⟨_, _, _, none, 0, 0, rfl, HKK.out.1, rfl, ((HRS.out.kept HB1.out).imp (fun b h => .inl h.1)), SdR.nil_ _ _, HB1.out⟩
end Go.Proofs.Yteogdfpkcoodlaa
namespace Go.Proofs.Yteogdfpkcoodlaa
open Go.RowKit
set_option linter.unusedSimpArgs false
def ll1 : Lin := ⟨0, 1, 1, 70⟩
def mS : Msg := ⟨5, 0, 0, 0, 0, 0, 0, 0, false, [], []⟩
def mO : Msg := ⟨11, 0, 0, 0, 0, 0, 1, 0, false, [ll1], []⟩
def mV : Msg := ⟨13, 0, 0, 0, 0, 0, 1, 0, true, [], []⟩
def mP : Msg := ⟨12, 0, 0, 0, 0, 0, 1, 0, false, [ll1], [70, -70]⟩
def mD : Msg := ⟨14, 0, 0, 0, 0, 0, 1, 0, true, [], []⟩
def rsA : List Rn := [⟨0, 1, [hd0, hd0], [], []⟩]
def rsB : List Rn := [⟨0, 1, [⟨true, false, [ll1]⟩, hd0], [], []⟩]
def rsC : List Rn := [⟨0, 2, [⟨true, false, [ll1]⟩, ⟨true, false, [ll1]⟩], [ll1], [70, -70]⟩]
def rsD : List Rn := [⟨0, 2, [⟨true, false, [ll1]⟩, ⟨true, true, [ll1]⟩], [ll1], [70, -70]⟩]
def rsE : List Rn := [⟨0, 3, [⟨true, true, [ll1]⟩, ⟨true, true, [ll1]⟩], [ll1], [70, -70]⟩]
theorem lead1 : doC 2 [] mS (-1) = (rsA, [(0, askM 1 0), (1, askM 1 0)], 0) := by rfl
theorem lead2 : doC 2 rsA mO 0 = (rsB, [], 0) := by rfl
theorem lead3 : doC 2 rsB mO 1 = (rsC, [(0, mP), (1, mP)], 0) := by rfl
theorem lead4 : doC 2 rsC mV 1 = (rsD, [], 0) := by rfl
theorem lead5 : doC 2 rsD mV 0 = (rsE, [(0, mD), (1, mD)], 0) := by rfl
set_option linter.unusedSimpArgs false in
set_option maxHeartbeats 4000000 in
set_option maxRecDepth 100000 in
theorem leads_any (w : World) : Calls Try.prog 5 #[] w fun e w' => e = .returned (.bool true) ∧ Below w.heap.size w w' := by
 have HB0 := Lib.hid (Below.refl w.heap.size w)
 have HZ0 : Hid (w.heap.size ≤ w.heap.size) := Lib.hid (Nat.le_refl _)
 go_enter Try.func5, Try.ntmps5
 have hba := oneB w (.cells #[.int .i64 2, .slice none 0 0] 27)
 have Hc1 := Lib.hid (Blk.new w #[.int .i64 2, .slice none 0 0] 27)
 have HB1 := Lib.hid (HB0.out.alloc HB0.out.size (.cells #[.int .i64 2, .slice none 0 0] 27))
 have HZ1 := kzq HZ0 hba.size
 have HGgc : Hid (w.heap.size ≤ w.heap.size) := Lib.hid HB0.out.size
 clear hba HB0 HZ0
 go_upto_region 2 with fail
 generalize (w.alloc (.cells #[.int .i64 2, .slice none 0 0] 27)) = W0 at *
 have Qc1 : Hid (Ct (NotIn [w.heap.size]) W0 2 none 0 0 []) := Lib.hid (Ct.nil_ _ _ _)
 have HG := Lib.hid (cdo_q W0 (NotIn [w.heap.size]) 2 2 rfl none 0 0 [] (⟨mS, none, 0, none, 0⟩ : MsgX) (-1) Qc1.out (fun b hb hm => by have h0 := Hc1.out.lt; simp only [List.mem_cons, List.not_mem_nil, or_false] at hm; omega) (by rw [Qc1.out.n]; decide) (by decide) (by decide) (fun _ => True) ⟨TRow.nil_ _ _, Row.nil_ _ _ 0, At.nil_ _ _, At.nil_ _ _, ⟨by show 0 * 32 ≤ _; decide, by show 0 * 8 ≤ _; decide⟩⟩ (by decide) rsA [(0, askM 1 0), (1, askM 1 0)] 0 lead1)
 simp only [mS, ll1, Msg.v, List.length_cons, List.length_nil, Nat.zero_add] at HG
 have a0 : W0.cell? ⟨w.heap.size, 0, none⟩ = some (.int .i64 2) := Hc1.out.cell 0
 have a1 : W0.cell? ⟨w.heap.size, 1, none⟩ = some (.slice none 0 0) := Hc1.out.cell 1
 go_wp2_with fail
 clear a0 a1 
 refine HG.out.mono ?_
 rintro y9 w1 ⟨hb, p1, n1, c1, pv1, nv1, cv1, rfl, hc, hnv, hsd⟩
 clear HG Qc1
 have Hc2 := kbq Hc1 hb
 have HB2 := ktq HB1 hb
 have HZ2 := kzq HZ1 hb.size
 clear Hc1 HB1 HZ1
 clear hb
 have Qc2 := Lib.hid hc
 have Qs2 := Lib.hid hsd
 clear hc hsd
 replace hnv : nv1 = 2 := hnv
 subst hnv
 go_wp2_with (with_reducible refine stop_storeT 27 (.tmp 1) (.tmp 13) rfl ?_)
 have HTH : Hid (w1.there w.heap.size 0 2) := Hc2.out.thereAt
 have hch : Hid (Chg w.heap.size w1 (w1.setCells w.heap.size 0 (#[.int .i64 2, .slice p1 n1 c1] : Array Value).toList)) := Lib.hid (chg_putL _ _ _ _ _ (Chg.refl _ w1))
 have Hc3 : Hid (Blk (w1.setCells w.heap.size 0 (#[.int .i64 2, .slice p1 n1 c1] : Array Value).toList) w.heap.size #[.int .i64 2, .slice p1 n1 c1] 27) := Lib.hid (blk_put_all Hc2.out _ rfl)
 have HB3 : Hid (Below w.heap.size w (w1.setCells w.heap.size 0 (#[.int .i64 2, .slice p1 n1 c1] : Array Value).toList)) := Lib.hid (below_put (by omega) _ _ _ _ HB2.out)
 have HZ3 := kzq HZ2 hch.out.size
 have Qc3 := Lib.hid (Qc2.out.chg hch.out (notIn_self (by simp)))
 have Qs3 := Lib.hid (Qs2.out.chg hch.out (notIn_self (by simp)))
 clear hch Hc2 Qc2 Qs2 HB2 HZ2
 refine wpList_store_mid rfl 27 (.tmp 1) (.tmp 13) rfl w.heap.size 0 #[.int .i64 2, .slice p1 n1 c1] rfl rfl HTH.out (infoC2 rfl) (all_oneCell_toArray (by intro u hu; simp at hu; rcases hu with rfl | rfl <;> rfl)) ?_
 generalize (w1.setCells w.heap.size 0 (#[.int .i64 2, .slice p1 n1 c1] : Array Value).toList) = W1 at *
 clear HTH
 have HGL : Hid (w.heap.size < W1.heap.size) := Lib.hid Hc3.out.lt
 have hba := oneB W1 (.cells #[.int .i64 0, .int .i64 1, .int .i64 1, .int .i64 70] 64)
 have Hc4 := kbq Hc3 hba
 have Qc4 := Lib.hid (Qc3.out.kept hba)
 have Qs4 := Lib.hid (Qs3.out.kept hba)
 have Hl4 := Lib.hid (Blk.new W1 #[.int .i64 0, .int .i64 1, .int .i64 1, .int .i64 70] 64)
 have HB4 := Lib.hid (HB3.out.alloc HB3.out.size (.cells #[.int .i64 0, .int .i64 1, .int .i64 1, .int .i64 70] 64))
 have HZ4 := kzq HZ3 hba.size
 have HGgl : Hid (w.heap.size ≤ W1.heap.size) := Lib.hid HB3.out.size
 clear hba Hc3 Qc3 Qs3 HB3 HZ3
 go_upto_region 4 with fail
 generalize (W1.alloc (.cells #[.int .i64 0, .int .i64 1, .int .i64 1, .int .i64 70] 64)) = W2 at *
 generalize hggl : W1.heap.size = gl at *
 clear hggl
 obtain ⟨bo, oo, hpv, hsa⟩ := Qs4.out.at_ (by decide)
 subst hpv
 obtain ⟨za, hz1, hz2, hz3⟩ := hsa 1 (by decide)
 have HMa : Hid (za.x.m = askM 1 0) := Lib.hid hz2
 have Qza4 := Lib.hid hz3
 clear hz1 hz2 hz3
 clear hsa Qs4
 have e1 : W2.cell? ⟨bo, oo + 13, none⟩ = some (.int .i64 10) := by
  have h := Qza4.out.1.2.2 1 (by decide)
  have h2 : (SdX.cells za)[1]? = some (.int .i64 za.x.m.k) := rfl
  rw [HMa.out] at h2
  exact h.trans h2
 have e6 : W2.cell? ⟨bo, oo + 19, none⟩ = some (.int .i64 1) := by
  have h := Qza4.out.1.2.2 7 (by decide)
  have h2 : (SdX.cells za)[7]? = some (.int .i64 za.x.m.y) := rfl
  rw [HMa.out] at h2
  exact h.trans h2
 go_upto_region 6 with fail
 clear e1 e6
 have HG := Lib.hid (cdo_q W2 (NotIn [w.heap.size]) 2 2 rfl p1 n1 c1 rsA (⟨mO, some ⟨gl, 0, none⟩, 1, none, 0⟩ : MsgX) 0 Qc4.out (fun b hb hm => by have h0 := Hc4.out.lt; simp only [List.mem_cons, List.not_mem_nil, or_false] at hm; omega) (by rw [Qc4.out.n]; decide) (by decide) (by decide) (fun _ => True) ⟨TRow.one_ encN ll1 Hl4.out rfl (Nat.le_refl _), Row.nil_ _ _ 0, fun _ _ _ _ _ _ => trivial, fun _ _ _ _ _ _ => trivial, ⟨by show 1 * 32 ≤ _; decide, by show 0 * 8 ≤ _; decide⟩⟩ (by show 1 ≤ 60; decide) rsB [] 0 lead2)
 simp only [mO, ll1, Msg.v, List.length_cons, List.length_nil, Nat.zero_add] at HG
 have a0 : W2.cell? ⟨w.heap.size, 0, none⟩ = some (.int .i64 2) := Hc4.out.cell 0
 have a1 : W2.cell? ⟨w.heap.size, 1, none⟩ = some (.slice p1 n1 c1) := Hc4.out.cell 1
 go_wp2_with fail
 clear a0 a1 
 refine HG.out.mono ?_
 rintro y9 w3 ⟨hb, p3, n3, c3, pv3, nv3, cv3, rfl, hc, hnv, hsd⟩
 clear HG Qc4
 clear Qza4
 have Hc5 := kbq Hc4 hb
 have Hl5 := kbq Hl4 hb
 have HB5 := ktq HB4 hb
 have HZ5 := kzq HZ4 hb.size
 clear Hc4 Hl4 HB4 HZ4
 clear hb
 have Qc5 := Lib.hid hc
 have Qs5 := Lib.hid hsd
 clear hc hsd
 replace hnv : nv3 = 0 := hnv
 subst hnv
 go_wp2_with (with_reducible refine stop_storeT 27 (.tmp 1) (.tmp 47) rfl ?_)
 have HTH : Hid (w3.there w.heap.size 0 2) := Hc5.out.thereAt
 have hch : Hid (Chg w.heap.size w3 (w3.setCells w.heap.size 0 (#[.int .i64 2, .slice p3 n3 c3] : Array Value).toList)) := Lib.hid (chg_putL _ _ _ _ _ (Chg.refl _ w3))
 have Hc6 : Hid (Blk (w3.setCells w.heap.size 0 (#[.int .i64 2, .slice p3 n3 c3] : Array Value).toList) w.heap.size #[.int .i64 2, .slice p3 n3 c3] 27) := Lib.hid (blk_put_all Hc5.out _ rfl)
 have HB6 : Hid (Below w.heap.size w (w3.setCells w.heap.size 0 (#[.int .i64 2, .slice p3 n3 c3] : Array Value).toList)) := Lib.hid (below_put (by have := HGL.out; omega) _ _ _ _ HB5.out)
 have HZ6 := kzq HZ5 hch.out.size
 have Hl6 := kcq Hl5 hch (by have := HGL.out; omega)
 have Qc6 := Lib.hid (Qc5.out.chg hch.out (notIn_self (by simp)))
 have Qs6 := Lib.hid (Qs5.out.chg hch.out (notIn_self (by simp)))
 clear hch Hc5 Hl5 Qc5 Qs5 HB5 HZ5
 refine wpList_store_mid rfl 27 (.tmp 1) (.tmp 47) rfl w.heap.size 0 #[.int .i64 2, .slice p3 n3 c3] rfl rfl HTH.out (infoC2 rfl) (all_oneCell_toArray (by intro u hu; simp at hu; rcases hu with rfl | rfl <;> rfl)) ?_
 generalize (w3.setCells w.heap.size 0 (#[.int .i64 2, .slice p3 n3 c3] : Array Value).toList) = W3 at *
 clear HTH
 have HG := Lib.hid (cdo_q W3 (NotIn [w.heap.size]) 2 2 rfl p3 n3 c3 rsB (⟨mO, some ⟨gl, 0, none⟩, 1, none, 0⟩ : MsgX) 1 Qc6.out (fun b hb hm => by have h0 := Hc6.out.lt; simp only [List.mem_cons, List.not_mem_nil, or_false] at hm; omega) (by rw [Qc6.out.n]; decide) (by decide) (by decide) (fun _ => True) ⟨TRow.one_ encN ll1 Hl6.out rfl (Nat.le_refl _), Row.nil_ _ _ 0, fun _ _ _ _ _ _ => trivial, fun _ _ _ _ _ _ => trivial, ⟨by show 1 * 32 ≤ _; decide, by show 0 * 8 ≤ _; decide⟩⟩ (by show 1 ≤ 60; decide) rsC [(0, mP), (1, mP)] 0 lead3)
 simp only [mO, ll1, Msg.v, List.length_cons, List.length_nil, Nat.zero_add] at HG
 have a0 : W3.cell? ⟨w.heap.size, 0, none⟩ = some (.int .i64 2) := Hc6.out.cell 0
 have a1 : W3.cell? ⟨w.heap.size, 1, none⟩ = some (.slice p3 n3 c3) := Hc6.out.cell 1
 go_wp2_with fail
 clear a0 a1 
 refine HG.out.mono ?_
 rintro y9 w4 ⟨hb, p4, n4, c4, pv4, nv4, cv4, rfl, hc, hnv, hsd⟩
 clear HG Qc6
 clear Qs6
 have Hc7 := kbq Hc6 hb
 have Hl7 := kbq Hl6 hb
 have HB7 := ktq HB6 hb
 have HZ7 := kzq HZ6 hb.size
 clear Hc6 Hl6 HB6 HZ6
 clear hb
 have Qc7 := Lib.hid hc
 have Qs7 := Lib.hid hsd
 clear hc hsd
 replace hnv : nv4 = 2 := hnv
 subst hnv
 go_wp2_with (with_reducible refine stop_storeT 27 (.tmp 1) (.tmp 55) rfl ?_)
 have HTH : Hid (w4.there w.heap.size 0 2) := Hc7.out.thereAt
 have hch : Hid (Chg w.heap.size w4 (w4.setCells w.heap.size 0 (#[.int .i64 2, .slice p4 n4 c4] : Array Value).toList)) := Lib.hid (chg_putL _ _ _ _ _ (Chg.refl _ w4))
 have Hc8 : Hid (Blk (w4.setCells w.heap.size 0 (#[.int .i64 2, .slice p4 n4 c4] : Array Value).toList) w.heap.size #[.int .i64 2, .slice p4 n4 c4] 27) := Lib.hid (blk_put_all Hc7.out _ rfl)
 have HB8 : Hid (Below w.heap.size w (w4.setCells w.heap.size 0 (#[.int .i64 2, .slice p4 n4 c4] : Array Value).toList)) := Lib.hid (below_put (by have := HGL.out; omega) _ _ _ _ HB7.out)
 have HZ8 := kzq HZ7 hch.out.size
 have Hl8 := kcq Hl7 hch (by have := HGL.out; omega)
 have Qc8 := Lib.hid (Qc7.out.chg hch.out (notIn_self (by simp)))
 have Qs8 := Lib.hid (Qs7.out.chg hch.out (notIn_self (by simp)))
 clear hch Hc7 Hl7 Qc7 Qs7 HB7 HZ7
 refine wpList_store_mid rfl 27 (.tmp 1) (.tmp 55) rfl w.heap.size 0 #[.int .i64 2, .slice p4 n4 c4] rfl rfl HTH.out (infoC2 rfl) (all_oneCell_toArray (by intro u hu; simp at hu; rcases hu with rfl | rfl <;> rfl)) ?_
 generalize (w4.setCells w.heap.size 0 (#[.int .i64 2, .slice p4 n4 c4] : Array Value).toList) = W4 at *
 clear HTH
 obtain ⟨bp, op, hpv, hsa⟩ := Qs8.out.at_ (by decide)
 subst hpv
 obtain ⟨zb, hz1, hz2, hz3⟩ := hsa 0 (by decide)
 have HMb : Hid (zb.x.m = mP) := Lib.hid hz2
 have Qzb8 := Lib.hid hz3
 clear hz1 hz2 hz3
 clear hsa Qs8
 obtain ⟨bn, on, hpn, hbn, hcn⟩ := Row.atc (show Row .i64 W4 (.slice zb.x.pn zb.x.m.ns.length zb.x.cn) zb.x.m.ns from Qzb8.out.2.ns) 1 (by rw [HMb.out]; decide)
 have e10 : W4.cell? ⟨bp, op + 11, none⟩ = some (.slice (some ⟨bn, on, none⟩) 2 zb.x.cn) := by
  have h := Qzb8.out.1.2.2 11 (by decide)
  have h2 : (SdX.cells zb)[11]? = some (.slice zb.x.pn zb.x.m.ns.length zb.x.cn) := rfl
  rw [HMb.out, hpn] at h2
  have h3 : W4.cell? ⟨bp, op + 11, none⟩ = (SdX.cells zb)[11]? := by
   have h4 := h
   rwa [Nat.zero_mul, Nat.add_zero] at h4
  exact h3.trans h2
 have e11 : W4.cell? ⟨bn, on + 1, none⟩ = some (.int .i64 (-70)) := by rw [hcn, HMb.out]; rfl
 clear hpn hbn hcn
 go_upto_region 10 with fail
 clear e10 e11
 have HG := Lib.hid (cdo_q W4 (NotIn [w.heap.size]) 2 2 rfl p4 n4 c4 rsC (⟨mV, none, 0, none, 0⟩ : MsgX) 1 Qc8.out (fun b hb hm => by have h0 := Hc8.out.lt; simp only [List.mem_cons, List.not_mem_nil, or_false] at hm; omega) (by rw [Qc8.out.n]; decide) (by decide) (by decide) (fun _ => True) ⟨TRow.nil_ _ _, Row.nil_ _ _ 0, At.nil_ _ _, At.nil_ _ _, ⟨by show 0 * 32 ≤ _; decide, by show 0 * 8 ≤ _; decide⟩⟩ (by decide) rsD [] 0 lead4)
 simp only [mV, ll1, Msg.v, List.length_cons, List.length_nil, Nat.zero_add] at HG
 have a0 : W4.cell? ⟨w.heap.size, 0, none⟩ = some (.int .i64 2) := Hc8.out.cell 0
 have a1 : W4.cell? ⟨w.heap.size, 1, none⟩ = some (.slice p4 n4 c4) := Hc8.out.cell 1
 go_wp2_with fail
 clear a0 a1 
 refine HG.out.mono ?_
 rintro y9 w5 ⟨hb, p5, n5, c5, pv5, nv5, cv5, rfl, hc, hnv, hsd⟩
 clear HG Qc8
 clear Qzb8
 have Hc9 := kbq Hc8 hb
 have Hl9 := kbq Hl8 hb
 have HB9 := ktq HB8 hb
 have HZ9 := kzq HZ8 hb.size
 clear Hc8 Hl8 HB8 HZ8
 clear hb
 have Qc9 := Lib.hid hc
 have Qs9 := Lib.hid hsd
 clear hc hsd
 replace hnv : nv5 = 0 := hnv
 subst hnv
 go_wp2_with (with_reducible refine stop_storeT 27 (.tmp 1) (.tmp 90) rfl ?_)
 have HTH : Hid (w5.there w.heap.size 0 2) := Hc9.out.thereAt
 have hch : Hid (Chg w.heap.size w5 (w5.setCells w.heap.size 0 (#[.int .i64 2, .slice p5 n5 c5] : Array Value).toList)) := Lib.hid (chg_putL _ _ _ _ _ (Chg.refl _ w5))
 have Hc10 : Hid (Blk (w5.setCells w.heap.size 0 (#[.int .i64 2, .slice p5 n5 c5] : Array Value).toList) w.heap.size #[.int .i64 2, .slice p5 n5 c5] 27) := Lib.hid (blk_put_all Hc9.out _ rfl)
 have HB10 : Hid (Below w.heap.size w (w5.setCells w.heap.size 0 (#[.int .i64 2, .slice p5 n5 c5] : Array Value).toList)) := Lib.hid (below_put (by have := HGL.out; omega) _ _ _ _ HB9.out)
 have HZ10 := kzq HZ9 hch.out.size
 have Hl10 := kcq Hl9 hch (by have := HGL.out; omega)
 have Qc10 := Lib.hid (Qc9.out.chg hch.out (notIn_self (by simp)))
 have Qs10 := Lib.hid (Qs9.out.chg hch.out (notIn_self (by simp)))
 clear hch Hc9 Hl9 Qc9 Qs9 HB9 HZ9
 refine wpList_store_mid rfl 27 (.tmp 1) (.tmp 90) rfl w.heap.size 0 #[.int .i64 2, .slice p5 n5 c5] rfl rfl HTH.out (infoC2 rfl) (all_oneCell_toArray (by intro u hu; simp at hu; rcases hu with rfl | rfl <;> rfl)) ?_
 generalize (w5.setCells w.heap.size 0 (#[.int .i64 2, .slice p5 n5 c5] : Array Value).toList) = W5 at *
 clear HTH
 have HG := Lib.hid (cdo_q W5 (NotIn [w.heap.size]) 2 2 rfl p5 n5 c5 rsD (⟨mV, none, 0, none, 0⟩ : MsgX) 0 Qc10.out (fun b hb hm => by have h0 := Hc10.out.lt; simp only [List.mem_cons, List.not_mem_nil, or_false] at hm; omega) (by rw [Qc10.out.n]; decide) (by decide) (by decide) (fun _ => True) ⟨TRow.nil_ _ _, Row.nil_ _ _ 0, At.nil_ _ _, At.nil_ _ _, ⟨by show 0 * 32 ≤ _; decide, by show 0 * 8 ≤ _; decide⟩⟩ (by decide) rsE [(0, mD), (1, mD)] 0 lead5)
 simp only [mV, ll1, Msg.v, List.length_cons, List.length_nil, Nat.zero_add] at HG
 have a0 : W5.cell? ⟨w.heap.size, 0, none⟩ = some (.int .i64 2) := Hc10.out.cell 0
 have a1 : W5.cell? ⟨w.heap.size, 1, none⟩ = some (.slice p5 n5 c5) := Hc10.out.cell 1
 go_wp2_with fail
 clear a0 a1 
 refine HG.out.mono ?_
 rintro y9 w6 ⟨hb, p6, n6, c6, pv6, nv6, cv6, rfl, hc, hnv, hsd⟩
 clear HG Qc10
 clear Qs10
 have Hc11 := kbq Hc10 hb
 have Hl11 := kbq Hl10 hb
 have HB11 := ktq HB10 hb
 have HZ11 := kzq HZ10 hb.size
 clear Hc10 Hl10 HB10 HZ10
 clear hb
 have Qc11 := Lib.hid hc
 have Qs11 := Lib.hid hsd
 clear hc hsd
 replace hnv : nv6 = 2 := hnv
 subst hnv
 go_wp2_with (with_reducible refine stop_storeT 27 (.tmp 1) (.tmp 97) rfl ?_)
 have HTH : Hid (w6.there w.heap.size 0 2) := Hc11.out.thereAt
 have hch : Hid (Chg w.heap.size w6 (w6.setCells w.heap.size 0 (#[.int .i64 2, .slice p6 n6 c6] : Array Value).toList)) := Lib.hid (chg_putL _ _ _ _ _ (Chg.refl _ w6))
 have Hc12 : Hid (Blk (w6.setCells w.heap.size 0 (#[.int .i64 2, .slice p6 n6 c6] : Array Value).toList) w.heap.size #[.int .i64 2, .slice p6 n6 c6] 27) := Lib.hid (blk_put_all Hc11.out _ rfl)
 have HB12 : Hid (Below w.heap.size w (w6.setCells w.heap.size 0 (#[.int .i64 2, .slice p6 n6 c6] : Array Value).toList)) := Lib.hid (below_put (by have := HGL.out; omega) _ _ _ _ HB11.out)
 have HZ12 := kzq HZ11 hch.out.size
 have Hl12 := kcq Hl11 hch (by have := HGL.out; omega)
 have Qc12 := Lib.hid (Qc11.out.chg hch.out (notIn_self (by simp)))
 have Qs12 := Lib.hid (Qs11.out.chg hch.out (notIn_self (by simp)))
 clear hch Hc11 Hl11 Qc11 Qs11 HB11 HZ11
 refine wpList_store_mid rfl 27 (.tmp 1) (.tmp 97) rfl w.heap.size 0 #[.int .i64 2, .slice p6 n6 c6] rfl rfl HTH.out (infoC2 rfl) (all_oneCell_toArray (by intro u hu; simp at hu; rcases hu with rfl | rfl <;> rfl)) ?_
 generalize (w6.setCells w.heap.size 0 (#[.int .i64 2, .slice p6 n6 c6] : Array Value).toList) = W6 at *
 clear HTH
 obtain ⟨bd, od, hpv, hsa⟩ := Qs12.out.at_ (by decide)
 subst hpv
 obtain ⟨zd, hz1, hz2, hz3⟩ := hsa 0 (by decide)
 have HMd : Hid (zd.x.m = mD) := Lib.hid hz2
 have Qzd12 := Lib.hid hz3
 clear hz1 hz2 hz3
 clear hsa Qs12
 have HG := Lib.hid (cget_q W6 (NotIn [w.heap.size]) 2 2 rfl 1 p6 n6 c6 rsE Qc12.out (by rw [Qc12.out.n]; decide) (by decide) (by decide) true rfl)
 have a0 : W6.cell? ⟨w.heap.size, 0, none⟩ = some (.int .i64 2) := Hc12.out.cell 0
 have a1 : W6.cell? ⟨w.heap.size, 1, none⟩ = some (.slice p6 n6 c6) := Hc12.out.cell 1
 go_wp2_with fail
 clear a0 a1
 refine HG.out.mono ?_
 rintro y9 w7 ⟨hb, x, rfl, hg⟩
 clear HG
 have HXR : Hid (x.r.st = 3) := Lib.hid (by rw [(hg.1 rfl).1]; rfl)
 clear hg
 unfold RunX.v
 have Hc13 := kbq Hc12 hb
 have Hl13 := kbq Hl12 hb
 have Qc13 := Lib.hid (Qc12.out.kept hb)
 have Qzd13 := Lib.hid (Qzd12.out.kept hb)
 have HB13 := ktq HB12 hb
 have HZ13 := kzq HZ12 hb.size
 clear Hc12 Hl12 Qc12 Qzd12 HB12 HZ12
 clear hb
 have hba := oneB w7 (.cells #[.int .i64 x.r.cu, .int .i64 x.r.st, .slice x.pf x.r.hs.length x.cf, .slice x.pl x.r.ls.length x.cl, .slice x.pn x.r.ns.length x.cn] 56)
 have Hc14 := kbq Hc13 hba
 have Hl14 := kbq Hl13 hba
 have Qc14 := Lib.hid (Qc13.out.kept hba)
 have Qzd14 := Lib.hid (Qzd13.out.kept hba)
 have Hx14 := Lib.hid (Blk.new w7 #[.int .i64 x.r.cu, .int .i64 x.r.st, .slice x.pf x.r.hs.length x.cf, .slice x.pl x.r.ls.length x.cl, .slice x.pn x.r.ns.length x.cn] 56)
 have HB14 := Lib.hid (HB13.out.alloc HB13.out.size (.cells #[.int .i64 x.r.cu, .int .i64 x.r.st, .slice x.pf x.r.hs.length x.cf, .slice x.pl x.r.ls.length x.cl, .slice x.pn x.r.ns.length x.cn] 56))
 have HZ14 := kzq HZ13 hba.size
 have HGgx : Hid (w.heap.size ≤ w7.heap.size) := Lib.hid HB13.out.size
 clear hba Hc13 Hl13 Qc13 Qzd13 HB13 HZ13
 go_upto_region 13 with fail
 generalize (w7.alloc (.cells #[.int .i64 x.r.cu, .int .i64 x.r.st, .slice x.pf x.r.hs.length x.cf, .slice x.pl x.r.ls.length x.cl, .slice x.pn x.r.ns.length x.cn] 56)) = W8 at *
 generalize hggx : w7.heap.size = gx at *
 clear hggx
 have e1 : W8.cell? ⟨gx, 1, none⟩ = some (.int .i64 3) := by have h := Hx14.out.cell 1; have h2 := HXR.out; rw [h]; show some (Value.int .i64 x.r.st) = _; rw [h2]
 have e9 : W8.cell? ⟨bd, od + 9, none⟩ = some (.bool true) := by
  have h := Qzd14.out.1.2.2 9 (by decide)
  have h2 : (SdX.cells zd)[9]? = some (.bool zd.x.m.t) := rfl
  rw [HMd.out] at h2
  rw [Nat.zero_mul, Nat.add_zero] at h
  exact h.trans h2
 have HG := Lib.hid (cwaits_q W8 (NotIn [w.heap.size]) 2 2 rfl p6 n6 c6 rsE Qc14.out (by rw [Qc14.out.n]; decide) [] (by rw [Qc14.out.n]; rfl))
 have a0 : W8.cell? ⟨w.heap.size, 0, none⟩ = some (.int .i64 2) := Hc14.out.cell 0
 have a1 : W8.cell? ⟨w.heap.size, 1, none⟩ = some (.slice p6 n6 c6) := Hc14.out.cell 1
 go_wp2_with fail
 clear a0 a1 e1 e9
 refine HG.out.mono ?_
 rintro y9 w9 ⟨hb, pw, nw, cw, rfl, hnw, hrw⟩
 clear HG hrw
 replace hnw : nw = 0 := hnw
 subst hnw
 have Hc15 := kbq Hc14 hb
 have Hl15 := kbq Hl14 hb
 have Hx15 := kbq Hx14 hb
 have Qc15 := Lib.hid (Qc14.out.kept hb)
 have Qzd15 := Lib.hid (Qzd14.out.kept hb)
 have HB15 := ktq HB14 hb
 have HZ15 := kzq HZ14 hb.size
 clear Hc14 Hl14 Hx14 Qc14 Qzd14 HB14 HZ14
 clear hb
 go_wp2_with fail
 go_ret
 exact ⟨rfl, HB15.out⟩
end Go.Proofs.Yteogdfpkcoodlaa
namespace Go.Proofs.Yteogdfpkcoodlaa
open Go.RowKit
set_option linter.unusedSimpArgs false
theorem rowi_at {k : IntKind} {w : World} {p : Option Addr} {n c : Nat} {zs : List Int} (h : Row k w (.slice p n c) zs) (j : Nat) (hj : j < zs.length) : ∃ b o, p = some ⟨b, o, none⟩ ∧ w.cell? ⟨b, o + j, none⟩ = some (.int k (zs.getD j 0)) := by
 obtain ⟨p', c', e1, _, h⟩ := h
 cases e1
 rcases h with h | ⟨b, o, hp, h⟩
 ·subst h; simp at hj
 ·exact ⟨b, o, hp, h j hj⟩
set_option maxHeartbeats 8000000 in
set_option maxRecDepth 100000 in
theorem msame_any (m : Msg) (va vb ua ub : Value) (w : World) (ha : TRow encN w va m.ls) (hb : Row .i64 w vb m.ns) (hc : TRow encN w ua m.ls) (hd : Row .i64 w ub m.ns) (hl : m.ls.length ≤ 9000000000000000000) (hn : m.ns.length ≤ 9000000000000000000) :
  Calls Try.prog 9 #[m.v va vb, m.v ua ub] w fun e w' => e = .returned (.bool true) ∧ Below w.heap.size w w' := by
 obtain ⟨pa, ca, rfl⟩ := ha.shape
 obtain ⟨pb, cb, rfl⟩ := hb.shape
 obtain ⟨qa, da, rfl⟩ := hc.shape
 obtain ⟨qb, db, rfl⟩ := hd.shape
 have HA := Lib.hid ha
 have HB := Lib.hid hb
 have HC := Lib.hid hc
 have HD := Lib.hid hd
 clear ha hb hc hd
 generalize hll : m.ls.length = nl at *
 generalize hnl : m.ns.length = nn at *
 have HLL := Lib.hid hll
 have HNN := Lib.hid hnl
 clear hll hnl
 unfold Msg.v
 go_enter Try.func9, Try.ntmps9
 go_wp2_with fail
 have s1 : (w.alloc (.cells #[.int .i64 m.k, .int .i64 m.s, .int .i64 m.n, .int .i64 m.b, .int .i64 m.c, .int .i64 m.r, .int .i64 m.y, .int .i64 m.a, .bool m.t, .slice pa nl ca, .slice pb nn cb] 36)).heap.size = w.heap.size + 1 := by simp
 have HB2 : Hid (Below w.heap.size w ((w.alloc (.cells #[.int .i64 m.k, .int .i64 m.s, .int .i64 m.n, .int .i64 m.b, .int .i64 m.c, .int .i64 m.r, .int .i64 m.y, .int .i64 m.a, .bool m.t, .slice pa nl ca, .slice pb nn cb] 36)).alloc (.cells #[.int .i64 m.k, .int .i64 m.s, .int .i64 m.n, .int .i64 m.b, .int .i64 m.c, .int .i64 m.r, .int .i64 m.y, .int .i64 m.a, .bool m.t, .slice qa nl da, .slice qb nn db] 36))) := (oneB w _).trans ((oneB _ _).mono (by omega))
 have HK1 := Lib.hid ((Blk.new w (#[.int .i64 m.k, .int .i64 m.s, .int .i64 m.n, .int .i64 m.b, .int .i64 m.c, .int .i64 m.r, .int .i64 m.y, .int .i64 m.a, .bool m.t, .slice pa nl ca, .slice pb nn cb]) 36).alloc (.cells #[.int .i64 m.k, .int .i64 m.s, .int .i64 m.n, .int .i64 m.b, .int .i64 m.c, .int .i64 m.r, .int .i64 m.y, .int .i64 m.a, .bool m.t, .slice qa nl da, .slice qb nn db] 36))
 have HK2 : Hid (Blk ((w.alloc (.cells #[.int .i64 m.k, .int .i64 m.s, .int .i64 m.n, .int .i64 m.b, .int .i64 m.c, .int .i64 m.r, .int .i64 m.y, .int .i64 m.a, .bool m.t, .slice pa nl ca, .slice pb nn cb] 36)).alloc (.cells #[.int .i64 m.k, .int .i64 m.s, .int .i64 m.n, .int .i64 m.b, .int .i64 m.c, .int .i64 m.r, .int .i64 m.y, .int .i64 m.a, .bool m.t, .slice qa nl da, .slice qb nn db] 36)) (w.heap.size + 1) #[.int .i64 m.k, .int .i64 m.s, .int .i64 m.n, .int .i64 m.b, .int .i64 m.c, .int .i64 m.r, .int .i64 m.y, .int .i64 m.a, .bool m.t, .slice qa nl da, .slice qb nn db] 36) := by
  show Blk _ _ _ _
  rw [← s1]; exact Blk.new _ _ _
 generalize hW2 : (w.alloc (.cells #[.int .i64 m.k, .int .i64 m.s, .int .i64 m.n, .int .i64 m.b, .int .i64 m.c, .int .i64 m.r, .int .i64 m.y, .int .i64 m.a, .bool m.t, .slice pa nl ca, .slice pb nn cb] 36)).alloc (.cells #[.int .i64 m.k, .int .i64 m.s, .int .i64 m.n, .int .i64 m.b, .int .i64 m.c, .int .i64 m.r, .int .i64 m.y, .int .i64 m.a, .bool m.t, .slice qa nl da, .slice qb nn db] 36) = W2 at *
 clear hW2 s1
 generalize hg1 : w.heap.size = g1 at *
 have HG1 := Lib.hid hg1
 clear hg1
 generalize hg2 : g1 + 1 = g2 at *
 clear hg2
 go_loopw [5] (fun i wr => ∃ k : Nat, k ≤ nl ∧ i = .int .i64 k ∧ Hid (Below W2.heap.size W2 wr)) (fun i _ => nl - (intOf i).toNat)
 case atStart => exact ⟨0, by omega, rfl, Below.refl _ _⟩
 case round =>
  obtain ⟨k, hk, rfl, HW⟩ := hrel
  have a9 : wr.cell? ⟨g1, 9, none⟩ = some (.slice pa nl ca) := (HK1.out.below HW.out HK1.out.lt).cell 9
  have b9 : wr.cell? ⟨g2, 9, none⟩ = some (.slice qa nl da) := (HK2.out.below HW.out HK2.out.lt).cell 9
  by_cases hlt : k < nl
  ·have hltI : (k : Int) < (nl : Int) := by omega
   have hkl : k < m.ls.length := by rw [HLL.out]; exact hlt
   obtain ⟨b, o, rfl, hbl, hcs⟩ := ((HA.out.kept (HG1.out.symm ▸ HB2.out)).kept HW.out).at_ k hkl
   obtain ⟨b', o', rfl, hbl', hcs'⟩ := ((HC.out.kept (HG1.out.symm ▸ HB2.out)).kept HW.out).at_ k hkl
   generalize m.ls[k] = x at *
   have c0 : wr.cell? ⟨b, o + k * 4, none⟩ = some (.int .i64 x.s) := hcs 0 (by decide)
   have c1 : wr.cell? ⟨b, o + k * 4 + 1, none⟩ = some (.int .i64 x.n) := hcs 1 (by decide)
   have c2 : wr.cell? ⟨b, o + k * 4 + 2, none⟩ = some (.int .i64 x.b) := hcs 2 (by decide)
   have c3 : wr.cell? ⟨b, o + k * 4 + 3, none⟩ = some (.int .i64 x.a) := hcs 3 (by decide)
   have d0 : wr.cell? ⟨b', o' + k * 4, none⟩ = some (.int .i64 x.s) := hcs' 0 (by decide)
   have d1 : wr.cell? ⟨b', o' + k * 4 + 1, none⟩ = some (.int .i64 x.n) := hcs' 1 (by decide)
   have d2 : wr.cell? ⟨b', o' + k * 4 + 2, none⟩ = some (.int .i64 x.b) := hcs' 2 (by decide)
   have d3 : wr.cell? ⟨b', o' + k * 4 + 3, none⟩ = some (.int .i64 x.a) := hcs' 3 (by decide)
   clear hcs hcs'
   go_upto_region 6 with fail
   refine wp_region_held_drew (S := fun w' => w' = wr.drew) (by kernel_rfl) rfl (fun hS0 => ?_)
   refine wpAnyH_take (i := 0) (v := ?_) rfl (by kernel_rfl) (by kernel_rfl) (by kernel_rfl) (fun _ _ _ h => h) (Or.inl ⟨by kernel_rfl, ?_⟩) (by first | assumption | trivial) ?_
   rotate_left
   ·intro w hSw
    try dsimp only at hSw
    subst hSw
    first | (go_simp; done) | (go_simp; with_reducible rfl)
   try simp only [Act.put, List.getElem_toArray, List.getElem_cons_succ, List.getElem_cons_zero, List.setIfInBounds_toArray, List.set_cons_zero, List.set_cons_succ]
   refine wpAnyH_take (i := 1) (v := ?_) rfl (by kernel_rfl) (by kernel_rfl) (by kernel_rfl) (fun _ _ _ h => h) (Or.inl ⟨by kernel_rfl, ?_⟩) (by first | assumption | trivial) ?_
   rotate_left
   ·intro w hSw
    try dsimp only at hSw
    subst hSw
    first | (go_simp; done) | (go_simp; with_reducible rfl)
   try simp only [Act.put, List.getElem_toArray, List.getElem_cons_succ, List.getElem_cons_zero, List.setIfInBounds_toArray, List.set_cons_zero, List.set_cons_succ]
   refine wpAnyH_take (i := 2) (v := ?_) rfl (by kernel_rfl) (by kernel_rfl) (by kernel_rfl) (fun _ _ _ h => h) (Or.inl ⟨by kernel_rfl, ?_⟩) (by first | assumption | trivial) ?_
   rotate_left
   ·intro w hSw
    try dsimp only at hSw
    subst hSw
    first | (go_simp; done) | (go_simp; with_reducible rfl)
   try simp only [Act.put, List.getElem_toArray, List.getElem_cons_succ, List.getElem_cons_zero, List.setIfInBounds_toArray, List.set_cons_zero, List.set_cons_succ]
   refine wpAnyH_take (i := 3) (v := ?_) rfl (by kernel_rfl) (by kernel_rfl) (by kernel_rfl) (fun _ _ _ h => h) (Or.inl ⟨by kernel_rfl, ?_⟩) (by first | assumption | trivial) ?_
   rotate_left
   ·intro w hSw
    try dsimp only at hSw
    subst hSw
    first | (go_simp; done) | (go_simp; with_reducible rfl)
   try simp only [Act.put, List.getElem_toArray, List.getElem_cons_succ, List.getElem_cons_zero, List.setIfInBounds_toArray, List.set_cons_zero, List.set_cons_succ]
   refine wpAnyH_take (i := 4) (v := ?_) rfl (by kernel_rfl) (by kernel_rfl) (by kernel_rfl) (fun _ _ _ h => h) (Or.inl ⟨by kernel_rfl, ?_⟩) (by first | assumption | trivial) ?_
   rotate_left
   ·intro w hSw
    try dsimp only at hSw
    subst hSw
    first | (go_simp; done) | (go_simp; with_reducible rfl)
   try simp only [Act.put, List.getElem_toArray, List.getElem_cons_succ, List.getElem_cons_zero, List.setIfInBounds_toArray, List.set_cons_zero, List.set_cons_succ]
   refine wpAnyH_take (i := 5) (v := ?_) rfl (by kernel_rfl) (by kernel_rfl) (by kernel_rfl) (fun _ _ _ h => h) (Or.inl ⟨by kernel_rfl, ?_⟩) (by first | assumption | trivial) ?_
   rotate_left
   ·intro w hSw
    try dsimp only at hSw
    subst hSw
    first | (go_simp; done) | (go_simp; with_reducible rfl)
   try simp only [Act.put, List.getElem_toArray, List.getElem_cons_succ, List.getElem_cons_zero, List.setIfInBounds_toArray, List.set_cons_zero, List.set_cons_succ]
   refine wpAnyH_take (i := 6) (v := ?_) rfl (by kernel_rfl) (by kernel_rfl) (by kernel_rfl) (fun _ _ _ h => h) (Or.inl ⟨by kernel_rfl, ?_⟩) (by first | assumption | trivial) ?_
   rotate_left
   ·intro w hSw
    try dsimp only at hSw
    subst hSw
    first | (go_simp; done) | (go_simp; with_reducible rfl)
   try simp only [Act.put, List.getElem_toArray, List.getElem_cons_succ, List.getElem_cons_zero, List.setIfInBounds_toArray, List.set_cons_zero, List.set_cons_succ]
   refine wpAnyH_take (i := 7) (v := ?_) rfl (by kernel_rfl) (by kernel_rfl) (by kernel_rfl) (fun _ _ _ h => h) (Or.inl ⟨by kernel_rfl, ?_⟩) (by first | assumption | trivial) ?_
   rotate_left
   ·intro w hSw
    try dsimp only at hSw
    subst hSw
    first | (go_simp; done) | (go_simp; with_reducible rfl)
   try simp only [Act.put, List.getElem_toArray, List.getElem_cons_succ, List.getElem_cons_zero, List.setIfInBounds_toArray, List.set_cons_zero, List.set_cons_succ]
   refine wpAnyH_take (i := 8) (v := ?_) rfl (by kernel_rfl) (by kernel_rfl) (by kernel_rfl) (fun _ _ _ h => h) (Or.inl ⟨by kernel_rfl, ?_⟩) (by first | assumption | trivial) ?_
   rotate_left
   ·intro w hSw
    try dsimp only at hSw
    subst hSw
    first | (go_simp; done) | (go_simp; with_reducible rfl)
   try simp only [Act.put, List.getElem_toArray, List.getElem_cons_succ, List.getElem_cons_zero, List.setIfInBounds_toArray, List.set_cons_zero, List.set_cons_succ]
   refine wpAnyH_take (i := 9) (v := ?_) rfl (by kernel_rfl) (by kernel_rfl) (by kernel_rfl) (fun _ _ _ h => h) (Or.inl ⟨by kernel_rfl, ?_⟩) (by first | assumption | trivial) ?_
   rotate_left
   ·intro w hSw
    try dsimp only at hSw
    subst hSw
    first | (go_simp; done) | (go_simp; with_reducible rfl)
   try simp only [Act.put, List.getElem_toArray, List.getElem_cons_succ, List.getElem_cons_zero, List.setIfInBounds_toArray, List.set_cons_zero, List.set_cons_succ]
   refine wpAnyH_take (i := 10) (v := ?_) rfl (by kernel_rfl) (by kernel_rfl) (by kernel_rfl) (fun _ _ _ h => h) (Or.inl ⟨by kernel_rfl, ?_⟩) (by first | assumption | trivial) ?_
   rotate_left
   ·intro w hSw
    try dsimp only at hSw
    subst hSw
    first | (go_simp; done) | (go_simp; with_reducible rfl)
   try simp only [Act.put, List.getElem_toArray, List.getElem_cons_succ, List.getElem_cons_zero, List.setIfInBounds_toArray, List.set_cons_zero, List.set_cons_succ]
   refine wpAnyH_done (by kernel_rfl) ?_ _
   go_wp2_with fail
   go_roundw
   case rel => exact ⟨k + 1, by omega, by go_num, HW.out.drew⟩
   case measure => simp [intOf]; omega
  ·have hle : (nl : Int) ≤ (k : Int) := by omega
   have HW3 := HW
   go_wp2_with fail
   go_loopw [6] (fun i wr => ∃ k : Nat, k ≤ nn ∧ i = .int .i64 k ∧ Hid (Below W2.heap.size W2 wr)) (fun i _ => nn - (intOf i).toNat)
   case atStart => exact ⟨0, by omega, rfl, HW3.out⟩
   case round =>
    obtain ⟨j, hj, rfl, HW⟩ := hrel
    have a10 : wr.cell? ⟨g1, 10, none⟩ = some (.slice pb nn cb) := (HK1.out.below HW.out HK1.out.lt).cell 10
    have b10 : wr.cell? ⟨g2, 10, none⟩ = some (.slice qb nn db) := (HK2.out.below HW.out HK2.out.lt).cell 10
    by_cases hlt : j < nn
    ·have hltI : (j : Int) < (nn : Int) := by omega
     have hjl : j < m.ns.length := by rw [HNN.out]; exact hlt
     obtain ⟨b, o, rfl, c0⟩ := rowi_at ((HB.out.kept (HG1.out.symm ▸ HB2.out)).kept HW.out) j hjl
     obtain ⟨b', o', rfl, d0⟩ := rowi_at ((HD.out.kept (HG1.out.symm ▸ HB2.out)).kept HW.out) j hjl
     generalize m.ns.getD j 0 = z at *
     go_upto_region 11 with fail
     refine wp_region_held_drew (S := fun w' => w' = wr.drew) (by kernel_rfl) rfl (fun hS0 => ?_)
     refine wpAnyH_take (i := 0) (v := ?_) rfl (by kernel_rfl) (by kernel_rfl) (by kernel_rfl) (fun _ _ _ h => h) (Or.inl ⟨by kernel_rfl, ?_⟩) (by first | assumption | trivial) ?_
     rotate_left
     ·intro w hSw
      try dsimp only at hSw
      subst hSw
      first | (go_simp; done) | (go_simp; with_reducible rfl)
     try simp only [Act.put, List.getElem_toArray, List.getElem_cons_succ, List.getElem_cons_zero, List.setIfInBounds_toArray, List.set_cons_zero, List.set_cons_succ]
     refine wpAnyH_take (i := 1) (v := ?_) rfl (by kernel_rfl) (by kernel_rfl) (by kernel_rfl) (fun _ _ _ h => h) (Or.inl ⟨by kernel_rfl, ?_⟩) (by first | assumption | trivial) ?_
     rotate_left
     ·intro w hSw
      try dsimp only at hSw
      subst hSw
      first | (go_simp; done) | (go_simp; with_reducible rfl)
     try simp only [Act.put, List.getElem_toArray, List.getElem_cons_succ, List.getElem_cons_zero, List.setIfInBounds_toArray, List.set_cons_zero, List.set_cons_succ]
     refine wpAnyH_take (i := 2) (v := ?_) rfl (by kernel_rfl) (by kernel_rfl) (by kernel_rfl) (fun _ _ _ h => h) (Or.inl ⟨by kernel_rfl, ?_⟩) (by first | assumption | trivial) ?_
     rotate_left
     ·intro w hSw
      try dsimp only at hSw
      subst hSw
      first | (go_simp; done) | (go_simp; with_reducible rfl)
     try simp only [Act.put, List.getElem_toArray, List.getElem_cons_succ, List.getElem_cons_zero, List.setIfInBounds_toArray, List.set_cons_zero, List.set_cons_succ]
     refine wpAnyH_take (i := 3) (v := ?_) rfl (by kernel_rfl) (by kernel_rfl) (by kernel_rfl) (fun _ _ _ h => h) (Or.inl ⟨by kernel_rfl, ?_⟩) (by first | assumption | trivial) ?_
     rotate_left
     ·intro w hSw
      try dsimp only at hSw
      subst hSw
      first | (go_simp; done) | (go_simp; with_reducible rfl)
     try simp only [Act.put, List.getElem_toArray, List.getElem_cons_succ, List.getElem_cons_zero, List.setIfInBounds_toArray, List.set_cons_zero, List.set_cons_succ]
     refine wpAnyH_take (i := 4) (v := ?_) rfl (by kernel_rfl) (by kernel_rfl) (by kernel_rfl) (fun _ _ _ h => h) (Or.inl ⟨by kernel_rfl, ?_⟩) (by first | assumption | trivial) ?_
     rotate_left
     ·intro w hSw
      try dsimp only at hSw
      subst hSw
      first | (go_simp; done) | (go_simp; with_reducible rfl)
     try simp only [Act.put, List.getElem_toArray, List.getElem_cons_succ, List.getElem_cons_zero, List.setIfInBounds_toArray, List.set_cons_zero, List.set_cons_succ]
     refine wpAnyH_take (i := 5) (v := ?_) rfl (by kernel_rfl) (by kernel_rfl) (by kernel_rfl) (fun _ _ _ h => h) (Or.inl ⟨by kernel_rfl, ?_⟩) (by first | assumption | trivial) ?_
     rotate_left
     ·intro w hSw
      try dsimp only at hSw
      subst hSw
      first | (go_simp; done) | (go_simp; with_reducible rfl)
     try simp only [Act.put, List.getElem_toArray, List.getElem_cons_succ, List.getElem_cons_zero, List.setIfInBounds_toArray, List.set_cons_zero, List.set_cons_succ]
     refine wpAnyH_take (i := 6) (v := ?_) rfl (by kernel_rfl) (by kernel_rfl) (by kernel_rfl) (fun _ _ _ h => h) (Or.inl ⟨by kernel_rfl, ?_⟩) (by first | assumption | trivial) ?_
     rotate_left
     ·intro w hSw
      try dsimp only at hSw
      subst hSw
      first | (go_simp; done) | (go_simp; with_reducible rfl)
     try simp only [Act.put, List.getElem_toArray, List.getElem_cons_succ, List.getElem_cons_zero, List.setIfInBounds_toArray, List.set_cons_zero, List.set_cons_succ]
     refine wpAnyH_take (i := 7) (v := ?_) rfl (by kernel_rfl) (by kernel_rfl) (by kernel_rfl) (fun _ _ _ h => h) (Or.inl ⟨by kernel_rfl, ?_⟩) (by first | assumption | trivial) ?_
     rotate_left
     ·intro w hSw
      try dsimp only at hSw
      subst hSw
      first | (go_simp; done) | (go_simp; with_reducible rfl)
     try simp only [Act.put, List.getElem_toArray, List.getElem_cons_succ, List.getElem_cons_zero, List.setIfInBounds_toArray, List.set_cons_zero, List.set_cons_succ]
     refine wpAnyH_take (i := 8) (v := ?_) rfl (by kernel_rfl) (by kernel_rfl) (by kernel_rfl) (fun _ _ _ h => h) (Or.inl ⟨by kernel_rfl, ?_⟩) (by first | assumption | trivial) ?_
     rotate_left
     ·intro w hSw
      try dsimp only at hSw
      subst hSw
      first | (go_simp; done) | (go_simp; with_reducible rfl)
     try simp only [Act.put, List.getElem_toArray, List.getElem_cons_succ, List.getElem_cons_zero, List.setIfInBounds_toArray, List.set_cons_zero, List.set_cons_succ]
     refine wpAnyH_take (i := 9) (v := ?_) rfl (by kernel_rfl) (by kernel_rfl) (by kernel_rfl) (fun _ _ _ h => h) (Or.inl ⟨by kernel_rfl, ?_⟩) (by first | assumption | trivial) ?_
     rotate_left
     ·intro w hSw
      try dsimp only at hSw
      subst hSw
      first | (go_simp; done) | (go_simp; with_reducible rfl)
     try simp only [Act.put, List.getElem_toArray, List.getElem_cons_succ, List.getElem_cons_zero, List.setIfInBounds_toArray, List.set_cons_zero, List.set_cons_succ]
     refine wpAnyH_take (i := 10) (v := ?_) rfl (by kernel_rfl) (by kernel_rfl) (by kernel_rfl) (fun _ _ _ h => h) (Or.inl ⟨by kernel_rfl, ?_⟩) (by first | assumption | trivial) ?_
     rotate_left
     ·intro w hSw
      try dsimp only at hSw
      subst hSw
      first | (go_simp; done) | (go_simp; with_reducible rfl)
     try simp only [Act.put, List.getElem_toArray, List.getElem_cons_succ, List.getElem_cons_zero, List.setIfInBounds_toArray, List.set_cons_zero, List.set_cons_succ]
     refine wpAnyH_done (by kernel_rfl) ?_ _
     go_wp2_with fail
     go_roundw
     case rel => exact ⟨j + 1, by omega, by go_num, HW.out.drew⟩
     case measure => simp [intOf]; omega
    ·have hle : (nn : Int) ≤ (j : Int) := by omega
     go_wp2_with fail
     go_ret
     rw [HG1.out]
     exact ⟨rfl, HB2.out.trans (HW.out.mono (by have := HK1.out.lt; omega))⟩
end Go.Proofs.Yteogdfpkcoodlaa
namespace Go.Proofs.Yteogdfpkcoodlaa
open Go.RowKit
set_option linter.unusedSimpArgs false
theorem Ct.imp {P Q : Nat → Prop} {w : World} {N : Nat} {p : Option Addr} {n c : Nat} {rs : List Rn} (h : Ct P w N p n c rs) (hq : ∀ b, P b → Q b) : Ct Q w N p n c rs := ⟨h.rs.imp hq, h.n, h.ok⟩
theorem Ct.keepP {P : Nat → Prop} {w w' : World} {N : Nat} {p : Option Addr} {n c : Nat} {rs : List Rn} (h : Ct P w N p n c rs) (hk : KeepP P w w') : Ct P w' N p n c rs := ⟨h.rs.keepP hk, h.n, h.ok⟩
theorem Blk.keepP {P : Nat → Prop} {w w' : World} {b : Nat} {cs : Array Value} {t : TypeId} (h : Blk w b cs t) (hk : KeepP P w w') (hb : P b) : Blk w' b cs t := (hk.2 b h.lt hb).trans h
theorem cdo_o (w : World) (Q : Nat → Prop) (N : Nat) (NI : Int) (hNI : NI = (N : Int)) (p : Option Addr) (n c : Nat) (rs : List Rn) (y : MsgX) (fro : Int) (h : Ct Q w N p n c rs) (hq : ∀ b, Q b → b < w.heap.size) (hl : n ≤ 1000) (hN1 : 1 ≤ N) (hN8 : N ≤ 8) (Pm : Nat → Prop) (hy : y.InP Pm w) (hyl : y.m.ls.length ≤ 60) (rs2 : List Rn) (out : List (Int × Msg)) (err : Int) (hA : doC N rs y.m fro = (rs2, out, err)) :
  Calls Try.prog 7 #[.agg #[.int .i64 NI, .slice p n c], y.m.v (.slice y.pl y.m.ls.length y.cl) (.slice y.pn y.m.ns.length y.cn), .int .i64 fro] w fun a w' =>
   Below w.heap.size w w' ∧ ∃ p2 n2 c2 pv nv cv B, a = .returned (.tuple #[.agg #[.int .i64 NI, .slice p2 n2 c2], .slice pv nv cv, .int .i64 err]) ∧ w.heap.size ≤ B ∧ Ct (fun b => Q b ∨ (w.heap.size ≤ b ∧ b < B)) w' N p2 n2 c2 rs2 ∧ nv = out.length ∧ SaidL w' B (.slice pv nv cv) out := by
 subst hNI
 have ho := do_ok h.ok hN8 y.m hyl fro
 refine (cdo_any w Q N p n c rs y fro h.rs hq h.n hl hN1 hN8 h.ok.1 Pm hy hyl).mono ?_
 rintro a w' ⟨p2, n2, c2, pv, nv, cv, B, rfl, hn2, hnv, hB, hr, hs, hb⟩
 rw [hA] at hn2 hnv hr hs ho
 rw [hA]
 exact ⟨hb, p2, n2, c2, pv, nv, cv, B, rfl, hB, ⟨hr, hn2, ho.1⟩, hnv, hs⟩
/-- The cells of a list of numbers, free to be written. -/
def IntsAt (w : World) (p : Option Addr) (len k : Nat) : Prop := ∀ b o, p = some ⟨b, o, none⟩ → ∀ j, j < len * k → (∃ v, w.cell? ⟨b, o + j, none⟩ = some (.int .i64 v)) ∧ w.frozen? ⟨b, o + j, none⟩ = false
theorem IntsAt.set {w : World} {p : Option Addr} {len k : Nat} (h : IntsAt w p len k) (g i : Nat) (v : Int) : IntsAt (w.setCell ⟨g, i, none⟩ (.int .i64 v)) p len k := by
 intro b o e j hj
 obtain ⟨⟨u, hu⟩, hf⟩ := h b o e j hj
 refine ⟨?_, by rw [World.frozen?_setCell]; exact hf⟩
 by_cases hbg : (⟨g, i, none⟩ : Addr) = ⟨b, o + j, none⟩
 ·cases hbg
  exact ⟨v, World.cell?_setCell_same _ _ _ hu⟩
 ·exact ⟨u, by rw [World.cell?_setCell_other (h := hbg)]; exact hu⟩
theorem IntsAt.kept {w w' : World} {p : Option Addr} {len k : Nat} (h : IntsAt w p len k) (hb : Below w.heap.size w w') : IntsAt w' p len k := by
 intro b o e j hj
 obtain ⟨⟨u, hu⟩, hf⟩ := h b o e j hj
 have hlt := World.block_lt_of_cell? w _ hu
 have he : w'.heap[b]? = w.heap[b]? := hb.block b hlt
 exact ⟨⟨u, (World.cell?_of_block (a := ⟨b, o + j, none⟩) he).trans hu⟩, by unfold World.frozen? at hf ⊢; rw [he]; exact hf⟩
theorem TRow.ints {w : World} {p : Option Addr} {c : Nat} {xs : List Lin} (h : TRow encN w (.slice p xs.length c) xs) (hf : Fre w p xs.length) : IntsAt w p xs.length 4 := by
 intro b o e j hj
 subst e
 have hn : 0 < xs.length := by omega
 obtain ⟨cs, t, hB⟩ := hf b o rfl hn
 have hi : j / 4 < xs.length := by omega
 have hm : j % 4 < 4 := by omega
 obtain ⟨b2, o2, e2, _, hc⟩ := h.at_ (j / 4) hi
 cases e2
 have h1 := hc (j % 4) hm
 have e3 : o + j / 4 * 4 + j % 4 = o + j := by omega
 rw [show encN.k = 4 from rfl, e3] at h1
 refine ⟨?_, hB.free _⟩
 rw [h1]
 have : j % 4 = 0 ∨ j % 4 = 1 ∨ j % 4 = 2 ∨ j % 4 = 3 := by omega
 rcases this with h | h | h | h <;> rw [h] <;> exact ⟨_, rfl⟩
theorem Row.ints {w : World} {p : Option Addr} {c : Nat} {xs : List Int} (h : Row .i64 w (.slice p xs.length c) xs) (hf : Fre w p xs.length) : IntsAt w p xs.length 1 := by
 intro b o e j hj
 subst e
 have hn : 0 < xs.length := by omega
 obtain ⟨cs, t, hB⟩ := hf b o rfl hn
 obtain ⟨b2, o2, e2, _, hc⟩ := Row.atc h j (by omega)
 cases e2
 exact ⟨⟨_, hc⟩, hB.free _⟩
theorem TRow.some_ {α : Type} {e : Enc α} {w : World} {p : Option Addr} {n c : Nat} {xs : List α} (h : TRow e w (.slice p n c) xs) (hn : 0 < xs.length) : ∃ b o, p = some ⟨b, o, none⟩ := by
 obtain ⟨b, o, e, _⟩ := h.at_ 0 hn
 exact ⟨b, o, e⟩
/-- What Get answers, whether there is a cycle or not. -/
theorem GetP.uni {w : World} {base : Nat} {rs : List Rn} {k : Int} {x : RunX} {b : Bool} (h : GetP w base rs k x b) : x.r = (if b then rnAt rs k else noRun.r) ∧ x.In (fun b => base ≤ b) w ∧ Fre w x.pl x.r.ls.length := by
 cases b with
 | true => exact h.1 rfl
 | false =>
  have h1 := h.2 rfl
  subst h1
  exact ⟨rfl, ⟨HsR.nil_ _ _, TRow.nil_ _ _, At.nil_ _ _, Row.nil_ _ _ 0, At.nil_ _ _⟩, Fre.none_ _ _⟩
theorem get_sizes {N : Nat} {rs : List Rn} {k : Int} {b : Bool} (h : LOk N rs) (hb : hasB rs k = b) : (∀ q ∈ (if b then rnAt rs k else noRun.r).hs, q.ls.length ≤ 60) ∧ (if b then rnAt rs k else noRun.r).ls.length ≤ 480 ∧ (if b then rnAt rs k else noRun.r).ns.length ≤ 8 ∧ (if b then rnAt rs k else noRun.r).hs.length ≤ N := by
 cases b with
 | true =>
  have h1 := rnAt_mem hb
  exact ⟨fun q hq => ((h.1 _ h1).2 q hq).2, (h.2 _ h1).1, (h.2 _ h1).2, Nat.le_of_eq (h.1 _ h1).1⟩
 | false => exact ⟨(fun _ h => nomatch h), by show 0 ≤ 480; decide, by show 0 ≤ 8; decide, Nat.zero_le _⟩
theorem IntsAt.keepP {P : Nat → Prop} {w w' : World} {p : Option Addr} {len k : Nat} (h : IntsAt w p len k) (hk : KeepP P w w') (hP : ∀ b o, p = some ⟨b, o, none⟩ → P b) : IntsAt w' p len k := by
 intro b o e j hj
 obtain ⟨⟨u, hu⟩, hf⟩ := h b o e j hj
 have hlt := World.block_lt_of_cell? w _ hu
 have he : w'.heap[b]? = w.heap[b]? := hk.2 b hlt (hP b o e)
 exact ⟨⟨u, (World.cell?_of_block (a := ⟨b, o + j, none⟩) he).trans hu⟩, by unfold World.frozen? at hf ⊢; rw [he]; exact hf⟩
theorem IntsAt.keepG {g : Nat} {w w' : World} {p : Option Addr} {len k : Nat} (h : IntsAt w p len k) (hc : Chg g w w') (hP : ∀ b o, p = some ⟨b, o, none⟩ → b ≠ g) : IntsAt w' p len k := h.keepP (P := fun b => b ≠ g) (KeepP.of_chg hc (fun h => h rfl)) hP
/-- A list of numbers that may be written, in a block of P. -/
def LW (P : Nat → Prop) (p : Option Addr) (len k : Nat) (w : World) : Prop := (0 < len → ∃ b o, p = some ⟨b, o, none⟩ ∧ P b) ∧ IntsAt w p len k
theorem LW.set {P : Nat → Prop} {p : Option Addr} {len k : Nat} {w : World} (h : LW P p len k w) (g i : Nat) (v : Int) : LW P p len k (w.setCell ⟨g, i, none⟩ (.int .i64 v)) := ⟨h.1, h.2.set g i v⟩
theorem LW.kept {P : Nat → Prop} {p : Option Addr} {len k : Nat} {w w' : World} (h : LW P p len k w) (hb : Below w.heap.size w w') : LW P p len k w' := ⟨h.1, h.2.kept hb⟩
theorem LW.at_ {P : Nat → Prop} {p : Option Addr} {len k : Nat} {w : World} (h : LW P p len k w) (j q : Nat) (hj : j < len) (hq : q < k) : ∃ b o v, p = some ⟨b, o, none⟩ ∧ P b ∧ w.cell? ⟨b, o + j * k + q, none⟩ = some (.int .i64 v) ∧ w.frozen? ⟨b, o + j * k + q, none⟩ = false := by
 obtain ⟨b, o, e, hp⟩ := h.1 (by omega)
 have hlt : j * k + q < len * k := by
  have h1 : (j + 1) * k ≤ len * k := Nat.mul_le_mul_right k hj
  rw [Nat.succ_mul] at h1
  omega
 obtain ⟨⟨v, hv⟩, hf⟩ := h.2 b o e (j * k + q) hlt
 rw [← Nat.add_assoc] at hv hf
 exact ⟨b, o, v, e, hp, hv, hf⟩
theorem LW.at1 {P : Nat → Prop} {p : Option Addr} {len : Nat} {w : World} (h : LW P p len 1 w) (j : Nat) (hj : j < len) : ∃ b o v, p = some ⟨b, o, none⟩ ∧ P b ∧ w.cell? ⟨b, o + j, none⟩ = some (.int .i64 v) ∧ w.frozen? ⟨b, o + j, none⟩ = false := by
 obtain ⟨b, o, v, e, hp, h1, h2⟩ := h.at_ j 0 hj (by decide)
 rw [Nat.mul_one, Nat.add_zero] at h1 h2
 exact ⟨b, o, v, e, hp, h1, h2⟩
theorem LW.chg {P : Nat → Prop} {p : Option Addr} {len k g : Nat} {w w' : World} (h : LW P p len k w) (hc : Chg g w w') (hg : ¬ P g) : LW P p len k w' := by
 refine ⟨h.1, fun b o e j hj => ?_⟩
 have h0 : 0 < len := by
  rcases Nat.eq_zero_or_pos len with h0 | h0
  ·rw [h0, Nat.zero_mul] at hj
   exact absurd hj (Nat.not_lt_zero _)
  ·exact h0
 obtain ⟨b2, o2, e2, hp⟩ := h.1 h0
 refine (h.2.keepG hc (fun b' o' e' => ?_)) b o e j hj
 cases e'.symm.trans e2
 exact fun e3 => hg (e3 ▸ hp)
/-- Only blocks outside P have changed, and none that was there when the law began. -/
def Wr (P : Nat → Prop) (w W0 wr : World) : Prop := KeepP P W0 wr ∧ Below w.heap.size w wr
theorem Wr.set {P : Nat → Prop} {w W0 wr : World} {g : Nat} (h : Wr P w W0 wr) (hp : ¬ P g) (hg : w.heap.size ≤ g) (i : Nat) (v : Value) : Wr P w W0 (wr.setCell ⟨g, i, none⟩ v) :=
 ⟨h.1.trans (KeepP.of_chg ((Chg.refl g wr).set i v) hp), h.2.setCell (p := ⟨g, i, none⟩) hg v⟩
theorem Wr.kept {P : Nat → Prop} {w W0 wr w' : World} (h : Wr P w W0 wr) (hb : Below wr.heap.size wr w') : Wr P w W0 w' := ⟨h.1.trans (KeepP.of_below hb), h.2.trans (hb.mono h.2.size)⟩
theorem Wr.start {P : Nat → Prop} {w W0 : World} (h : Below w.heap.size w W0) : Wr P w W0 W0 := ⟨KeepP.refl _ _, h⟩
def InS (B S : Nat) (pv : Option Addr) (nv cv : Nat) (b : Nat) : Prop := B ≤ b ∧ b < S ∧ (Value.slice pv nv cv).ownBlock ≠ some b
/-- What is said, its numbers being written. -/
def Sdw (B S : Nat) (pv : Option Addr) (nv cv : Nat) (xs : List SdX) (w W0 wr : World) : Prop :=
 (OwnT encS wr B 47 (.slice pv nv cv) xs ∧ ∀ z ∈ xs, LW (InS B S pv nv cv) z.x.pl z.x.m.ls.length 4 wr ∧ LW (InS B S pv nv cv) z.x.pn z.x.m.ns.length 1 wr ∧ z.x.m.Sz) ∧ Wr (fun b => ¬ (B ≤ b ∧ b < S)) w W0 wr ∧ w.heap.size ≤ B
theorem Sdw.set {B S : Nat} {pv : Option Addr} {nv cv : Nat} {xs : List SdX} {w W0 wr : World} {g : Nat} (h : Sdw B S pv nv cv xs w W0 wr) (hg : InS B S pv nv cv g) (i : Nat) (v : Int) : Sdw B S pv nv cv xs w W0 (wr.setCell ⟨g, i, none⟩ (.int .i64 v)) :=
 ⟨⟨h.1.1.stay (fun b hb => ((Chg.refl g wr).set i (.int .i64 v)).2 b (h.1.1.lt b hb) (fun e => hg.2.2 (e ▸ hb))), fun z hz => ⟨(h.1.2 z hz).1.set _ _ _, (h.1.2 z hz).2.1.set _ _ _, (h.1.2 z hz).2.2⟩⟩, h.2.1.set (fun hn => hn ⟨hg.1, hg.2.1⟩) (Nat.le_trans h.2.2 hg.1) i _, h.2.2⟩
theorem Sdw.kept {B S : Nat} {pv : Option Addr} {nv cv : Nat} {xs : List SdX} {w W0 wr w' : World} (h : Sdw B S pv nv cv xs w W0 wr) (hb : Below wr.heap.size wr w') : Sdw B S pv nv cv xs w W0 w' :=
 ⟨⟨h.1.1.later hb, fun z hz => ⟨(h.1.2 z hz).1.kept hb, (h.1.2 z hz).2.1.kept hb, (h.1.2 z hz).2.2⟩⟩, h.2.1.kept hb, h.2.2⟩
theorem lw_lines {P : Nat → Prop} {w : World} {p : Option Addr} {c : Nat} {xs : List Lin} (h : TRow encN w (.slice p xs.length c) xs) (ha : At P (.slice p xs.length c) xs.length) (hf : Fre w p xs.length) : LW P p xs.length 4 w :=
 ⟨fun hn => by
  obtain ⟨b, o, e⟩ := h.some_ hn
  exact ⟨b, o, e, ha b o _ _ (by rw [e]) hn⟩, h.ints hf⟩
theorem lw_nums {P : Nat → Prop} {w : World} {p : Option Addr} {c : Nat} {xs : List Int} (h : Row .i64 w (.slice p xs.length c) xs) (ha : At P (.slice p xs.length c) xs.length) (hf : Fre w p xs.length) : LW P p xs.length 1 w :=
 ⟨fun hn => by
  obtain ⟨b, o, e, _⟩ := Row.atc h 0 hn
  exact ⟨b, o, e, ha b o _ _ (by rw [e]) hn⟩, h.ints hf⟩
/-- What each has said, read. -/
theorem HsR.at_ {P : Nat → Prop} {w : World} {p : Option Addr} {n c : Nat} {hs : List Hd} (h : HsR P w (.slice p n c) hs) (k : Nat) (hk : k < hs.length) : ∃ b o pq cq, p = some ⟨b, o, none⟩ ∧ w.cell? ⟨b, o + k * 3 + 2, none⟩ = some (.slice pq hs[k].ls.length cq) ∧ TRow encN w (.slice pq hs[k].ls.length cq) hs[k].ls := by
 obtain ⟨xs, h1, h2, h3, rfl⟩ := h
 have hk2 : k < xs.length := by rw [List.length_map] at hk; exact hk
 obtain ⟨b, o, e, _, hc⟩ := h1.at_ k hk2
 refine ⟨b, o, xs[k].p, xs[k].c, e, ?_, ?_⟩
 ·simp only [List.getElem_map]
  exact hc 2 (by decide)
 ·simp only [List.getElem_map]
  exact (h3 _ (List.getElem_mem hk2)).1
theorem do_out (rs : List Rn) (m : Msg) (fro : Int) : (doC 3 rs m fro).2.1.length ≤ 3 := by
 have h : ∀ (c : Prop) (_ : Decidable c) (a b : CAns), a.2.1.length ≤ 3 → b.2.1.length ≤ 3 → (if c then a else b).2.1.length ≤ 3 := by
  intro c _ a b ha hb
  split <;> assumption
 unfold doC startC dueC queryC offerC voteC
 repeat' (with_reducible refine h _ _ _ _ ?_ ?_)
 all_goals first | (show 0 ≤ 3; decide) | (show 1 ≤ 3; decide) | (show (toAllL 3 _).length ≤ 3; rw [toAllL_len]; decide)
/-- One cell. -/
def CellIs (b i : Nat) (v : Value) (w : World) : Prop := w.cell? ⟨b, i, none⟩ = some v
theorem CellIs.kept {b i : Nat} {v : Value} {w w' : World} (h : CellIs b i v w) (hb : Below w.heap.size w w') : CellIs b i v w' := (hb.cell (p := ⟨b, i, none⟩) (World.block_lt_of_cell? w _ h)).trans h
end Go.Proofs.Yteogdfpkcoodlaa
namespace Go.Proofs.Yteogdfpkcoodlaa
open Go.RowKit
set_option linter.unusedSimpArgs false
theorem HsR.at3 {P : Nat → Prop} {w : World} {p : Option Addr} {n c : Nat} {hs : List Hd} (h : HsR P w (.slice p n c) hs) (k : Nat) (hk : k < hs.length) : ∃ b o pq cq, p = some ⟨b, o, none⟩ ∧ w.cell? ⟨b, o + k * 3, none⟩ = some (.bool hs[k].o) ∧ w.cell? ⟨b, o + k * 3 + 1, none⟩ = some (.bool hs[k].t) ∧ w.cell? ⟨b, o + k * 3 + 2, none⟩ = some (.slice pq hs[k].ls.length cq) ∧ TRow encN w (.slice pq hs[k].ls.length cq) hs[k].ls := by
 obtain ⟨xs, h1, h2, h3, rfl⟩ := h
 have hk2 : k < xs.length := by rw [List.length_map] at hk; exact hk
 obtain ⟨b, o, e, _, hc⟩ := h1.at_ k hk2
 refine ⟨b, o, xs[k].p, xs[k].c, e, ?_, ?_, ?_, ?_⟩
 ·simp only [List.getElem_map]
  exact hc 0 (by decide)
 ·simp only [List.getElem_map]
  exact hc 1 (by decide)
 ·simp only [List.getElem_map]
  exact hc 2 (by decide)
 ·simp only [List.getElem_map]
  exact (h3 _ (List.getElem_mem hk2)).1
theorem DrX.hs_get {N : Nat} {x : DrX} {q : Nat} (h : q < (x.rn N).hs.length) : (x.rn N).hs[q] = ⟨x.o q, x.t q, x.L q⟩ := by
 have h1 := DrX.hs_at (N := N) (x := x) (i := q) (by rw [DrX.hs_len] at h; exact h)
 rw [List.getD_eq_getElem?_getD, List.getElem?_eq_getElem h] at h1
 exact h1
theorem waitC_mono (rs : List Rn) (k m : Nat) (h : k ≤ m) : ∃ l, waitC rs m = waitC rs k ++ l := by
 induction m with
 | zero => exact ⟨[], by rw [show k = 0 by omega, List.append_nil]⟩
 | succ m ih =>
  by_cases e : k = m + 1
  ·exact ⟨[], by rw [e, List.append_nil]⟩
  ·obtain ⟨l, hl⟩ := ih (by omega)
   exact ⟨l ++ _, by rw [waitC_succ, hl, List.append_assoc]⟩
theorem wait_at {rs : List Rn} {t n : Nat} (ht : t < n) (ho : openB (rs.getD t ⟨0, 0, [], [], []⟩) = true) : (waitC rs t).length < (waitC rs n).length ∧ (waitC rs n).getD (waitC rs t).length 0 = (t : Int) + 1 := by
 obtain ⟨l, hl⟩ := waitC_mono rs (t + 1) n ht
 rw [waitC_succ, if_pos ho, List.append_assoc] at hl
 rw [hl]
 refine ⟨by simp, ?_⟩
 rw [List.getD_eq_getElem?_getD, List.getElem?_append_right (Nat.le_refl _)]
 simp
theorem getD_rn {rs : List Rn} {t : Nat} : rs.getD t ⟨0, 0, [], [], []⟩ = rnAt rs ((t : Int) + 1) := by
 unfold rnAt
 rw [List.getD_eq_getElem?_getD, show ((t : Int) + 1 - 1).toNat = t by omega]
set_option linter.unusedSimpArgs false in
set_option maxHeartbeats 4000000 in
set_option maxRecDepth 100000 in
theorem dlike_any (w : World) (Q P : Nat → Prop) (N : Nat) (p : Option Addr) (n c : Nat) (p' : Option Addr) (n' c' : Nat) (rs : List Rn) (h : Ct Q w N p n c rs) (hd : DsR P N w (.slice p' n' c') rs) (hn' : n' = rs.length) (hl : n ≤ 2000) (h1N : 1 ≤ N) (h8 : N ≤ 8) (hso : StOk rs) :
  Calls Try.prog 10 #[.agg #[.int .i64 (N : Int), .slice p n c], .agg #[.int .i64 (N : Int), .slice p' n' c']] w fun e w' => e = .returned (.bool true) ∧ Below w.heap.size w w' := by
 obtain ⟨hr, hn, hok⟩ := h
 obtain rfl : n = n' := by rw [hn', hn]
 have HCT : Hid (Ct (fun b => Q b ∧ b < w.heap.size) w N p n c rs) := Lib.hid ⟨hr.lt, hn, hok⟩
 have HDS := Lib.hid hd
 have HKK : Hid (n = rs.length ∧ n ≤ 2000 ∧ 1 ≤ N ∧ N ≤ 8) := Lib.hid ⟨hn, hl, h1N, h8⟩
 have HSO := Lib.hid hso
 clear hr hn hok hd hn' hl h1N h8 hso
 have HB0 : Hid (Below w.heap.size w ((w.alloc (.cells #[.int .i64 (N : Int), .slice p n c] 27)).alloc (.cells #[.int .i64 (N : Int), .slice p' n c'] 30))) := Lib.hid (((oneB w _).alloc (by simp <;> omega) _))
 have Hc0 : Hid (Blk ((w.alloc (.cells #[.int .i64 (N : Int), .slice p n c] 27)).alloc (.cells #[.int .i64 (N : Int), .slice p' n c'] 30)) w.heap.size #[.int .i64 (N : Int), .slice p n c] 27) := Lib.hid ((Blk.new w #[.int .i64 (N : Int), .slice p n c] 27).alloc _)
 have Hd0 : Hid (Blk ((w.alloc (.cells #[.int .i64 (N : Int), .slice p n c] 27)).alloc (.cells #[.int .i64 (N : Int), .slice p' n c'] 30)) (w.heap.size + 1) #[.int .i64 (N : Int), .slice p' n c'] 30) := Lib.hid (Blk.new' (w.alloc (.cells #[.int .i64 (N : Int), .slice p n c] 27)) #[.int .i64 (N : Int), .slice p' n c'] 30 (by simp))
 have HZ0 : Hid (w.heap.size ≤ ((w.alloc (.cells #[.int .i64 (N : Int), .slice p n c] 27)).alloc (.cells #[.int .i64 (N : Int), .slice p' n c'] 30)).heap.size) := Lib.hid HB0.out.size
 go_enter Try.func10, Try.ntmps10
 go_upto_region 1 with fail
 generalize ((w.alloc (.cells #[.int .i64 (N : Int), .slice p n c] 27)).alloc (.cells #[.int .i64 (N : Int), .slice p' n c'] 30)) = W at *
 have a1 : W.cell? ⟨w.heap.size, 1, none⟩ = some (.slice p n c) := Hc0.out.cell 1
 have e1 : W.cell? ⟨(w.heap.size + 1), 1, none⟩ = some (.slice p' n c') := Hd0.out.cell 1
 have hnn : ((n : Int) != (n : Int)) = false := by simp
 go_upto_region 4 with fail
 clear hnn
 go_wp2_with fail
 clear a1 e1
 have HREL : Hid (Blk W w.heap.size #[.int .i64 (N : Int), .slice p n c] 27 ∧ Blk W (w.heap.size + 1) #[.int .i64 (N : Int), .slice p' n c'] 30 ∧ Below w.heap.size w W) := Lib.hid ⟨Hc0.out, Hd0.out, HB0.out⟩
 go_loopw [5, 23] (fun op i wr => ∃ t : Nat, t ≤ n ∧ i = .int .i64 t ∧ op = .int .i64 ((waitC rs t).length : Nat) ∧ Hid (Blk wr w.heap.size #[.int .i64 (N : Int), .slice p n c] 27 ∧ Blk wr (w.heap.size + 1) #[.int .i64 (N : Int), .slice p' n c'] 30 ∧ Below w.heap.size w wr)) (fun _ i _ => n - (intOf i).toNat)
 case atStart => exact ⟨0, by omega, rfl, rfl, HREL⟩
 case round =>
  clear HREL
  obtain ⟨t, ht, rfl, rfl, HK⟩ := hrel
  have ht9 : t + 1 ≤ 2001 := by have := HKK.out.2.1; omega
  have Hc10 := Lib.hid HK.out.1
  have Hd10 := Lib.hid HK.out.2.1
  have HB10 := Lib.hid HK.out.2.2
  have HZ10 : Hid (w.heap.size ≤ wr.heap.size) := Lib.hid HB10.out.size
  clear HK
  by_cases hlt : t < n
  ·skip
   have hltI : (t : Int) < (n : Int) := by omega
   have HLT : Hid (t < n) := Lib.hid hlt
   have HTN : Hid (t < rs.length) := Lib.hid (by have := HKK.out.1; omega)
   obtain ⟨xs, dr, dat, din, dm⟩ := HDS.out
   have hkx : t < xs.length := by have h1 := HTN.out; rw [← dm, List.length_map] at h1; exact h1
   obtain ⟨b, o, hp, hbl, hcs⟩ := dr.at_ t hkx
   obtain ⟨X, hX⟩ : ∃ X, xs[t] = X := ⟨_, rfl⟩
   rw [hX] at hcs
   have HXI : Hid (X.In P w) := Lib.hid (din X (by rw [← hX]; exact List.getElem_mem hkx))
   have HXR : Hid (rnAt rs ((t : Int) + 1) = X.rn N) := Lib.hid (by
    rw [← getD_rn, ← dm, List.getD_eq_getElem?_getD, List.getElem?_map, List.getElem?_eq_getElem hkx, hX]
    rfl)
   have HHB : Hid (hasB rs ((t : Int) + 1) = true) := Lib.hid (by unfold hasB; exact decide_eq_true (by have := HTN.out; omega))
   have HXS : Hid (1 ≤ X.st ∧ X.st ≤ 4) := Lib.hid (by have h := HSO.out _ (rnAt_mem HHB.out); rw [HXR.out] at h; exact h)
   have HSZ : Hid ((∀ q, q < N → (X.L q).length ≤ 60) ∧ X.ls.length ≤ 480 ∧ X.ns.length ≤ 8) := Lib.hid (by
    have h1 := rnAt_mem HHB.out
    have h2 := HCT.out.ok.1 _ h1
    have h3 := HCT.out.ok.2 _ h1
    rw [HXR.out] at h2 h3
    refine ⟨fun q hq => ?_, h3.1, h3.2⟩
    have h4 := (h2.2 ⟨X.o q, X.t q, X.L q⟩ (by unfold DrX.rn; exact List.mem_map.2 ⟨q, List.mem_range.2 hq, rfl⟩)).2
    exact h4)
   have HBL := Lib.hid hbl
   have HCS := Lib.hid hcs
   subst hp
   clear dr dat din dm hbl hcs hX hkx hlt ht
   go_upto_region 7 with fail
   clear hltI
   have HG := Lib.hid (cget_q wr (fun b => Q b ∧ b < w.heap.size) N (N : Int) rfl ((t : Int) + 1) p n c rs (HCT.out.kept HB10.out) HKK.out.2.1 HKK.out.2.2.1 HKK.out.2.2.2 true HHB.out)
   have a0 : wr.cell? ⟨w.heap.size, 0, none⟩ = some (.int .i64 (N : Int)) := Hc10.out.cell 0
   have a1 : wr.cell? ⟨w.heap.size, 1, none⟩ = some (.slice p n c) := Hc10.out.cell 1
   go_wp2_with fail
   clear a0 a1
   refine HG.out.mono ?_
   rintro y9 w1 ⟨hb, ⟨rx, pf, cf, pl, cl, pn, cn⟩, rfl, hg⟩
   clear HG
   obtain ⟨hg1, hg2, _⟩ := hg.1 rfl
   replace hg1 : X.rn N = rx := (by have h : rx = _ := hg1; rw [h, HXR.out])
   subst hg1
   have HXX := Lib.hid hg2.hs
   have HXL := Lib.hid hg2.ls
   have HXN := Lib.hid hg2.ns
   clear hg hg2
   rw [RunX.v_mk, DrX.hs_len, show (X.rn N).cu = X.cu from rfl, show (X.rn N).st = X.st from rfl, show (X.rn N).ls = X.ls from rfl, show (X.rn N).ns = X.ns from rfl]
   have Hc11 := kbq Hc10 hb
   have Hd11 := kbq Hd10 hb
   have HB11 := ktq HB10 hb
   have HZ11 := kzq HZ10 hb.size
   clear Hc10 Hd10 HB10 HZ10
   clear hb
   have HW1 := Lib.hid (Below.refl w1.heap.size w1)
   have HGC : Hid (w.heap.size + 1 < w1.heap.size) := Lib.hid Hd11.out.lt
   have hba := oneB w1 (.cells #[.int .i64 X.cu, .int .i64 X.st, .slice pf N cf, .slice pl X.ls.length cl, .slice pn X.ns.length cn] 56)
   have Hc12 := kbq Hc11 hba
   have Hd12 := kbq Hd11 hba
   have Hx12 := Lib.hid (Blk.new w1 #[.int .i64 X.cu, .int .i64 X.st, .slice pf N cf, .slice pl X.ls.length cl, .slice pn X.ns.length cn] 56)
   have HB12 := Lib.hid (HB11.out.alloc HB11.out.size (.cells #[.int .i64 X.cu, .int .i64 X.st, .slice pf N cf, .slice pl X.ls.length cl, .slice pn X.ns.length cn] 56))
   have HZ12 := kzq HZ11 hba.size
   have HGgx : Hid (w.heap.size ≤ w1.heap.size) := Lib.hid HB11.out.size
   have HW3 := Lib.hid (HW1.out.trans hba)
   clear HW1 hba Hc11 Hd11 HB11 HZ11
   go_upto_region 8 with fail
   generalize (w1.alloc (.cells #[.int .i64 X.cu, .int .i64 X.st, .slice pf N cf, .slice pl X.ls.length cl, .slice pn X.ns.length cn] 56)) = W3 at *
   obtain ⟨gx, hggx⟩ : ∃ g, w1.heap.size = g := ⟨_, rfl⟩
   have HGXE := Lib.hid hggx
   rw [hggx]
   rw [hggx] at HGgx Hx12 HGC
   clear hggx
   have hlt2 : t < n := HLT.out
   have hlt3 : (t : Int) < (n : Int) := by omega
   have e1 : W3.cell? ⟨(w.heap.size + 1), 1, none⟩ = some (.slice (some ⟨b, o, none⟩) n c') := Hd12.out.cell 1
   go_wp2_with (with_reducible refine stop_loadT 76 (.tmp 36) rfl ?_)
   refine wpList_loadD rfl (.tmp 36) rfl b (o + t * 28) rfl X (fun u hu => (HB12.out.cell (p := ⟨b, _, none⟩) HBL.out).trans (HCS.out u hu)) ?_
   have HW1G : Hid (w1.heap.size ≤ gx) := Lib.hid (by rw [← HGXE.out]; exact Nat.le_refl _)
   have HGX : Hid (gx < W3.heap.size) := Lib.hid Hx12.out.lt
   have hba := oneB W3 (.cells #[.int .i64 0, .int .i64 0, .bool false, .bool false, .bool false, .bool false, .bool false, .bool false, .bool false, .bool false, .bool false, .bool false, .bool false, .bool false, .bool false, .bool false, .bool false, .bool false, .slice none 0 0, .slice none 0 0, .slice none 0 0, .slice none 0 0, .slice none 0 0, .slice none 0 0, .slice none 0 0, .slice none 0 0, .slice none 0 0, .slice none 0 0] 76)
   have Hc13 := kbq Hc12 hba
   have Hd13 := kbq Hd12 hba
   have Hx13 := kbq Hx12 hba
   have Hu13 := Lib.hid (Blk.new W3 #[.int .i64 0, .int .i64 0, .bool false, .bool false, .bool false, .bool false, .bool false, .bool false, .bool false, .bool false, .bool false, .bool false, .bool false, .bool false, .bool false, .bool false, .bool false, .bool false, .slice none 0 0, .slice none 0 0, .slice none 0 0, .slice none 0 0, .slice none 0 0, .slice none 0 0, .slice none 0 0, .slice none 0 0, .slice none 0 0, .slice none 0 0] 76)
   have HB13 := Lib.hid (HB12.out.alloc HB12.out.size (.cells #[.int .i64 0, .int .i64 0, .bool false, .bool false, .bool false, .bool false, .bool false, .bool false, .bool false, .bool false, .bool false, .bool false, .bool false, .bool false, .bool false, .bool false, .bool false, .bool false, .slice none 0 0, .slice none 0 0, .slice none 0 0, .slice none 0 0, .slice none 0 0, .slice none 0 0, .slice none 0 0, .slice none 0 0, .slice none 0 0, .slice none 0 0] 76))
   have HZ13 := kzq HZ12 hba.size
   have HGgu : Hid (w.heap.size ≤ W3.heap.size) := Lib.hid HB12.out.size
   have HW4 := ktq HW3 hba
   clear HW3 hba Hc12 Hd12 Hx12 HB12 HZ12
   go_wp2_with (with_reducible refine stop_storeT 76 (.tmp 9) (.tmp 37) rfl ?_)
   clear e1 hlt2 hlt3
   generalize (W3.alloc (.cells #[.int .i64 0, .int .i64 0, .bool false, .bool false, .bool false, .bool false, .bool false, .bool false, .bool false, .bool false, .bool false, .bool false, .bool false, .bool false, .bool false, .bool false, .bool false, .bool false, .slice none 0 0, .slice none 0 0, .slice none 0 0, .slice none 0 0, .slice none 0 0, .slice none 0 0, .slice none 0 0, .slice none 0 0, .slice none 0 0, .slice none 0 0] 76)) = W4 at *
   generalize hggu : W3.heap.size = gu at *
   clear hggu
   have HTH : Hid (W4.there gu 0 28) := Hu13.out.thereAt
   have hch : Hid (Chg gu W4 (W4.setCells gu 0 X.arr.toList)) := Lib.hid (chg_putL _ _ _ _ _ (Chg.refl _ W4))
   have Hu14 : Hid (Blk (W4.setCells gu 0 X.arr.toList) gu X.arr 76) := Lib.hid (blk_put_all Hu13.out _ rfl)
   have HB14 : Hid (Below w.heap.size w (W4.setCells gu 0 X.arr.toList)) := Lib.hid (below_put (by have := HGC.out; have := HGX.out; have := HGgx.out; have := HGgu.out; omega) _ _ _ _ HB13.out)
   have HZ14 := kzq HZ13 hch.out.size
   have HW5 : Hid (Below w1.heap.size w1 (W4.setCells gu 0 X.arr.toList)) := Lib.hid (HW4.out.trans (hch.out.below (by have := HW1G.out; have := HGX.out; omega) HW4.out.size))
   have Hc14 := kcq Hc13 hch (by have := HGC.out; have := HGX.out; have := HGgx.out; have := HGgu.out; omega)
   have Hd14 := kcq Hd13 hch (by have := HGC.out; have := HGX.out; have := HGgx.out; have := HGgu.out; omega)
   have Hx14 := kcq Hx13 hch (by have := HGC.out; have := HGX.out; have := HGgx.out; have := HGgu.out; omega)
   clear hch HW4 Hc13 Hd13 Hx13 Hu13 HB13 HZ13
   refine wpList_store_mid rfl 76 (.tmp 9) (.tmp 37) rfl gu 0 X.arr rfl rfl HTH.out (infoD28 rfl) X.all_one ?_
   generalize (W4.setCells gu 0 X.arr.toList) = W5 at *
   clear HTH
   go_upto_region 9 with fail
   have HG := Lib.hid (msame_any ⟨0, 0, 0, 0, 0, 0, 0, 0, false, X.ls, X.ns⟩ (.slice pl X.ls.length cl) (.slice pn X.ns.length cn) (.slice X.pl X.ls.length X.cl) (.slice X.pn X.ns.length X.cn) W5 (HXL.out.kept HW5.out) (HXN.out.kept HW5.out) (HXI.out.ls.kept HB14.out) (HXI.out.ns.kept HB14.out) (by show X.ls.length ≤ _; have := HSZ.out.2.1; omega) (by show X.ns.length ≤ _; have := HSZ.out.2.2; omega))
   simp only [Msg.v] at HG
   have a0 : W5.cell? ⟨gx, 0, none⟩ = some (.int .i64 X.cu) := Hx14.out.cell 0
   have a1 : W5.cell? ⟨gx, 1, none⟩ = some (.int .i64 X.st) := Hx14.out.cell 1
   have a2 : W5.cell? ⟨gx, 2, none⟩ = some (.slice pf N cf) := Hx14.out.cell 2
   have a3 : W5.cell? ⟨gx, 3, none⟩ = some (.slice pl X.ls.length cl) := Hx14.out.cell 3
   have a4 : W5.cell? ⟨gx, 4, none⟩ = some (.slice pn X.ns.length cn) := Hx14.out.cell 4
   have e0 : W5.cell? ⟨(w.heap.size + 1), 0, none⟩ = some (.int .i64 (N : Int)) := Hd14.out.cell 0
   have u0 : W5.cell? ⟨gu, 0, none⟩ = some (.int .i64 X.cu) := Hu14.out.cell 0
   have u1 : W5.cell? ⟨gu, 1, none⟩ = some (.int .i64 X.st) := Hu14.out.cell 1
   have u26 : W5.cell? ⟨gu, 26, none⟩ = some (.slice X.pl X.ls.length X.cl) := Hu14.out.cell 26
   have u27 : W5.cell? ⟨gu, 27, none⟩ = some (.slice X.pn X.ns.length X.cn) := Hu14.out.cell 27
   have hbs : (X.st != X.st) = false := by simp
   have hbc : (X.cu != X.cu) = false := by simp
   have hbN : ((N : Int) != (N : Int)) = false := by simp
   go_wp2_with fail
   refine HG.out.mono ?_
   rintro y9 w6 ⟨rfl, hb⟩
   clear HG a0 a1 a2 a3 a4 e0 u0 u1 u26 u27
   have HW6 := ktq HW5 hb
   clear HW5
   have Hc15 := kbq Hc14 hb
   have Hd15 := kbq Hd14 hb
   have Hx15 := kbq Hx14 hb
   have Hu15 := kbq Hu14 hb
   have HB15 := ktq HB14 hb
   have HZ15 := kzq HZ14 hb.size
   clear Hc14 Hd14 Hx14 Hu14 HB14 HZ14
   clear hb
   have a2 : w6.cell? ⟨gx, 2, none⟩ = some (.slice pf N cf) := Hx15.out.cell 2
   have e0 : w6.cell? ⟨(w.heap.size + 1), 0, none⟩ = some (.int .i64 (N : Int)) := Hd15.out.cell 0
   go_upto_region 11 with fail
   clear hbs hbc hbN e0
   have HREL : Hid (Below w6.heap.size w6 w6) := Lib.hid (Below.refl _ _)
   go_wp2_with fail
   clear a2
   go_loopw [79] (fun i wr => ∃ q : Nat, q ≤ N ∧ i = .int .i64 q ∧ Hid (Below w6.heap.size w6 wr)) (fun i _ => N - (intOf i).toNat)
   case atStart => exact ⟨0, by omega, rfl, HREL⟩
   case round =>
    clear HREL
    obtain ⟨q, hq, rfl, HQK⟩ := hrel
    have hq9 : q + 1 ≤ 9 := by have := HKK.out.2.2.2; omega
    have hbk := HQK.out
    have Hc16 := kbq Hc15 hbk
    have Hd16 := kbq Hd15 hbk
    have Hx16 := kbq Hx15 hbk
    have Hu16 := kbq Hu15 hbk
    have HB16 := ktq HB15 hbk
    have HZ16 := kzq HZ15 hbk.size
    clear Hc15 Hd15 Hx15 Hu15 HB15 HZ15
    clear hbk
    have HW7 : Hid (Below w1.heap.size w1 wr) := Lib.hid (HW6.out.trans (HQK.out.mono HW6.out.size))
    by_cases hlq : q < N
    ·skip
     have hlqI : (q : Int) < (N : Int) := by omega
     have HLQ : Hid (q < N) := Lib.hid hlq
     obtain ⟨b1, o1, pq, cq, hp1, h1o, h1t, h1s, h1r⟩ := (HXX.out.kept HW7.out).at3 q (by rw [DrX.hs_len]; exact hlq)
     rw [DrX.hs_get] at h1o h1t h1s h1r
     dsimp only at h1o h1t h1s h1r
     subst hp1
     obtain ⟨oq, hoq⟩ : ∃ z, X.o q = z := ⟨_, rfl⟩
     obtain ⟨tq, htq⟩ : ∃ z, X.t q = z := ⟨_, rfl⟩
     rw [hoq] at h1o
     rw [htq] at h1t
     have HOQ : Hid (X.arr[2 + q]? = some (.bool oq)) := Lib.hid (by rw [← hoq]; exact X.arr_o q (by have := HKK.out.2.2.2; omega))
     have HTQ : Hid (X.arr[10 + q]? = some (.bool tq)) := Lib.hid (by rw [← htq]; exact X.arr_t q (by have := HKK.out.2.2.2; omega))
     have HROW := Lib.hid h1r
     clear hoq htq h1r hlq hq
     have HGU : Hid (gu < wr.heap.size) := Lib.hid Hu16.out.lt
     have hba := oneB wr (.cells #[.bool oq, .bool tq, .slice pq (X.L q).length cq] 80)
     have Hc17 := kbq Hc16 hba
     have Hd17 := kbq Hd16 hba
     have Hx17 := kbq Hx16 hba
     have Hu17 := kbq Hu16 hba
     have Hh17 := Lib.hid (Blk.new wr #[.bool oq, .bool tq, .slice pq (X.L q).length cq] 80)
     have HB17 := Lib.hid (HB16.out.alloc HB16.out.size (.cells #[.bool oq, .bool tq, .slice pq (X.L q).length cq] 80))
     have HZ17 := kzq HZ16 hba.size
     have HGgh : Hid (w.heap.size ≤ wr.heap.size) := Lib.hid HB16.out.size
     have HW8 : Hid (Below w6.heap.size w6 (wr.alloc (.cells #[.bool oq, .bool tq, .slice pq (X.L q).length cq] 80))) := ktq HQK hba
     have HROW2 := Lib.hid (HROW.out.kept hba)
     clear HROW hba Hc16 Hd16 Hx16 Hu16 HB16 HZ16
     go_upto_region 14 with fail
     clear h1o h1t h1s hlqI
     generalize (wr.alloc (.cells #[.bool oq, .bool tq, .slice pq (X.L q).length cq] 80)) = W8 at *
     generalize hggh : wr.heap.size = gh at *
     clear hggh
     have hq8 : q < 8 := by have := HLQ.out; have := HKK.out.2.2.2; omega
     have hq8I : (q : Int) < 8 := by omega
     have hbo : (oq != oq) = false := by simp
     have hbt : (tq != tq) = false := by simp
     have hbd := (Below.refl W8.heap.size W8).drew
     have Hc18 := kbq Hc17 hbd
     have Hd18 := kbq Hd17 hbd
     have Hx18 := kbq Hx17 hbd
     have Hu18 := kbq Hu17 hbd
     have Hh18 := kbq Hh17 hbd
     have HB18 := ktq HB17 hbd
     have HZ18 := kzq HZ17 hbd.size
     clear Hc17 Hd17 Hx17 Hu17 Hh17 HB17 HZ17
     have hS1 : W8.drew.cell? ⟨gh, 0, none⟩ = some (.bool oq) ∧ W8.drew.cell? ⟨gh, 1, none⟩ = some (.bool tq) ∧ W8.drew.cell? ⟨gh, 2, none⟩ = some (.slice pq (X.L q).length cq) ∧ W8.drew.cell? ⟨gu, 2 + q, none⟩ = some (.bool oq) ∧ W8.drew.cell? ⟨gu, 10 + q, none⟩ = some (.bool tq) ∧ W8.drew.cell? ⟨gu, 18 + q, none⟩ = some (.slice (X.p q) (X.L q).length (X.c q)) := ⟨Hh18.out.cell 0, Hh18.out.cell 1, Hh18.out.cell 2, ((Hu18.out.cell (2 + q)).trans HOQ.out), ((Hu18.out.cell (10 + q)).trans HTQ.out), ((Hu18.out.cell (18 + q)).trans (X.arr_p q hq8))⟩
     have HWM : Hid (Below w6.heap.size w6 W8.drew) := Lib.hid (HW8.out.trans (Below.refl _ _).drew)
     refine wp_region_held_drew (S := fun w' => w'.cell? ⟨gh, 0, none⟩ = some (.bool oq) ∧ w'.cell? ⟨gh, 1, none⟩ = some (.bool tq) ∧ w'.cell? ⟨gh, 2, none⟩ = some (.slice pq (X.L q).length cq) ∧ w'.cell? ⟨gu, 2 + q, none⟩ = some (.bool oq) ∧ w'.cell? ⟨gu, 10 + q, none⟩ = some (.bool tq) ∧ w'.cell? ⟨gu, 18 + q, none⟩ = some (.slice (X.p q) (X.L q).length (X.c q))) (by kernel_rfl) hS1 (fun hS0 => ?_)
     clear hS1
     have HROW2 := Lib.hid (HROW2.out.kept hbd)
     generalize W8.drew = WD at *
     clear hbd
     refine tkq 0 ?_
     refine tkq 1 ?_
     refine tkq 2 ?_
     refine tkq 3 ?_
     refine tkq 4 ?_
     refine tkq 5 ?_
     refine tkq 6 ?_
     refine tkq 7 ?_
     refine tkq 8 ?_
     refine tkq 9 ?_
     refine tkq 10 ?_
     refine tkq 11 ?_
     refine tkq 12 ?_
     refine tkq 13 ?_
     refine tkq 14 ?_
     refine tkq 15 ?_
     refine tkq 16 ?_
     refine tkq 17 ?_
     refine tkq 18 ?_
     refine tkq 19 ?_
     refine tkq 20 ?_
     refine tkq 21 ?_
     refine tkq 22 ?_
     refine tkq 23 ?_
     refine tkq 24 ?_
     refine rdq 25 (fun K hK => ?_)
     have HG := Lib.hid (msame_any ⟨0, 0, 0, 0, 0, 0, 0, 0, false, X.L q, []⟩ (.slice pq (X.L q).length cq) (.slice none 0 0) (.slice (X.p q) (X.L q).length (X.c q)) (.slice none 0 0) WD HROW2.out (Row.nil_ _ _ 0) ((HXI.out.of q hq8).kept HB18.out) (Row.nil_ _ _ 0) (by show (X.L q).length ≤ _; have := HSZ.out.1 q HLQ.out; omega) (by show 0 ≤ _; decide))
     simp only [Msg.v, List.length_nil] at HG
     go_simp
     go_at_call 9
     refine HG.out.mono ?_
     rintro y9 w9 ⟨rfl, hb⟩
     clear HG
     have HWN : Hid (Below w6.heap.size w6 w9) := ktq HWM hb
     clear HROW2
     have Hc19 := kbq Hc18 hb
     have Hd19 := kbq Hd18 hb
     have Hx19 := kbq Hx18 hb
     have Hu19 := kbq Hu18 hb
     have Hh19 := kbq Hh18 hb
     have HB19 := ktq HB18 hb
     have HZ19 := kzq HZ18 hb.size
     clear Hc18 Hd18 Hx18 Hu18 Hh18 HB18 HZ18
     clear hb hS0
     try go_wp2_with fail
     refine hK.out _ _ ⟨Hh19.out.cell 0, Hh19.out.cell 1, Hh19.out.cell 2, ((Hu19.out.cell (2 + q)).trans HOQ.out), ((Hu19.out.cell (10 + q)).trans HTQ.out), ((Hu19.out.cell (18 + q)).trans (X.arr_p q hq8))⟩ (fun hS0 => ?_)
     clear hK K
     try simp only [Act.put, List.getElem_toArray, List.getElem_cons_succ, List.getElem_cons_zero, List.setIfInBounds_toArray, List.set_cons_zero, List.set_cons_succ]
     refine tkq 26 ?_
     refine tkq 27 ?_
     refine wpAnyH_done (by kernel_rfl) ?_ _
     clear hS0
     clear Hc19 Hd19 Hx19 Hu19 Hh19 HB19 HZ19 hbo hbt hq8 hq8I HOQ HTQ HQK HW7
     go_wp2_with fail
     go_roundw
     case rel => exact ⟨q + 1, by have := HLQ.out; omega, by go_num, HWN⟩
     case measure => have := HLQ.out; simp [intOf]; omega
    ·skip
     have hlqI : ¬ (q : Int) < (N : Int) := by omega
     clear hq hlq hq9 HQK
     have u1 : wr.cell? ⟨gu, 1, none⟩ = some (.int .i64 X.st) := Hu16.out.cell 1
     go_upto_region 17 with fail
     clear hlqI
     by_cases hs3 : X.st < 3
     ·skip
      have HOP : Hid (openB (rs.getD t ⟨0, 0, [], [], []⟩) = true) := Lib.hid (by rw [getD_rn, HXR.out, openB_lt (show 1 ≤ (X.rn N).st ∧ (X.rn N).st ≤ 4 from HXS.out)]; exact decide_eq_true hs3)
      have HWA := Lib.hid (wait_at (n := n) HLT.out HOP.out)
      go_upto_region 18 with fail
      clear u1 hs3
      obtain ⟨WL, hWL⟩ : ∃ l, waitC rs n = l := ⟨_, rfl⟩
      have HWL := Lib.hid hWL
      clear hWL
      have HG := Lib.hid (cwaits_q wr (fun b => Q b ∧ b < w.heap.size) N (N : Int) rfl p n c rs (HCT.out.kept HB16.out) HKK.out.2.1 WL HWL.out)
      have a0 : wr.cell? ⟨w.heap.size, 0, none⟩ = some (.int .i64 (N : Int)) := Hc16.out.cell 0
      have a1 : wr.cell? ⟨w.heap.size, 1, none⟩ = some (.slice p n c) := Hc16.out.cell 1
      go_wp2_with fail
      clear a0 a1
      refine HG.out.mono ?_
      rintro y9 w7 ⟨hb, pw, nw, cw, rfl, hnw, hrw⟩
      clear HG
      have HNW : Hid (nw = WL.length) := Lib.hid hnw
      have HRW := Lib.hid hrw
      clear hnw hrw
      have Hc17 := kbq Hc16 hb
      have Hd17 := kbq Hd16 hb
      have Hx17 := kbq Hx16 hb
      have Hu17 := kbq Hu16 hb
      have HB17 := ktq HB16 hb
      have HZ17 := kzq HZ16 hb.size
      clear Hc16 Hd16 Hx16 Hu16 HB16 HZ16
      clear hb
      obtain ⟨op, hop⟩ : ∃ z, (waitC rs t).length = z := ⟨_, rfl⟩
      rw [hop, HWL.out] at HWA
      have HOPE := Lib.hid hop
      rw [hop]
      clear hop
      obtain ⟨lb, lo, hlp, hll, hlc⟩ := Row.atc HRW.out op HWA.out.1
      rw [HWA.out.2] at hlc
      subst hlp
      have ho1 : op < nw := by have := HWA.out.1; have := HNW.out; omega
      have ho2 : ¬ (nw : Int) ≤ (op : Int) := by omega
      have ho3 : ¬ nw ≤ op := by omega
      have ho9 : op + 1 ≤ 2001 := by have h := waitC_len rs t; rw [HOPE.out] at h; have := HLT.out; have := HKK.out.2.1; omega
      have htt : ((t : Int) + 1 != (t : Int) + 1) = false := by simp
      go_upto_region 21 with fail
      clear hlc ho1 ho2 ho3 htt hll
      have HNX : Hid (Blk w7 w.heap.size #[.int .i64 (N : Int), .slice p n c] 27 ∧ Blk w7 (w.heap.size + 1) #[.int .i64 (N : Int), .slice (some ⟨b, o, none⟩) n c'] 30 ∧ Below w.heap.size w w7) := Lib.hid ⟨Hc17.out, Hd17.out, HB17.out⟩
      have HEQ : Hid ((waitC rs (t + 1)).length = op + 1) := Lib.hid (by rw [waitC_succ, if_pos HOP.out, List.length_append, HOPE.out]; rfl)
      clear Hc17 Hd17 Hx17 Hu17 HB17 HZ17 HWA
      go_wp2_with fail
      go_roundw
      case rel => exact ⟨t + 1, by have := HLT.out; omega, by go_num, by rw [HEQ.out]; go_num, HNX⟩
      case measure => have := HLT.out; simp [intOf]; omega
     ·skip
      have HOP : Hid (openB (rs.getD t ⟨0, 0, [], [], []⟩) = false) := Lib.hid (by rw [getD_rn, HXR.out, openB_lt (show 1 ≤ (X.rn N).st ∧ (X.rn N).st ≤ 4 from HXS.out)]; exact decide_eq_false hs3)
      go_upto_region 22 with fail
      clear u1 hs3
      have HNX : Hid (Blk wr w.heap.size #[.int .i64 (N : Int), .slice p n c] 27 ∧ Blk wr (w.heap.size + 1) #[.int .i64 (N : Int), .slice (some ⟨b, o, none⟩) n c'] 30 ∧ Below w.heap.size w wr) := Lib.hid ⟨Hc16.out, Hd16.out, HB16.out⟩
      have HEQ : Hid ((waitC rs (t + 1)).length = (waitC rs t).length) := Lib.hid (by rw [waitC_succ, if_neg (by rw [HOP.out]; decide), List.append_nil])
      clear Hc16 Hd16 Hx16 Hu16 HB16 HZ16
      go_wp2_with fail
      go_roundw
      case rel => exact ⟨t + 1, by have := HLT.out; omega, by go_num, by rw [HEQ.out], HNX⟩
      case measure => have := HLT.out; simp [intOf]; omega
  ·skip
   have hltI : ¬ (t : Int) < (n : Int) := by omega
   have hte : t = n := by omega
   rw [hte]
   clear hte
   clear ht hlt
   obtain ⟨WL, hWL⟩ : ∃ l, waitC rs n = l := ⟨_, rfl⟩
   have HWL := Lib.hid hWL
   rw [hWL]
   clear hWL
   go_upto_region 23 with fail
   clear hltI
   have HG := Lib.hid (cwaits_q wr (fun b => Q b ∧ b < w.heap.size) N (N : Int) rfl p n c rs (HCT.out.kept HB10.out) HKK.out.2.1 WL HWL.out)
   have a0 : wr.cell? ⟨w.heap.size, 0, none⟩ = some (.int .i64 (N : Int)) := Hc10.out.cell 0
   have a1 : wr.cell? ⟨w.heap.size, 1, none⟩ = some (.slice p n c) := Hc10.out.cell 1
   go_wp2_with fail
   clear a0 a1
   refine HG.out.mono ?_
   rintro y9 w7 ⟨hb, pw, nw, cw, rfl, hnw, hrw⟩
   clear HG hrw
   subst hnw
   have Hc11 := kbq Hc10 hb
   have Hd11 := kbq Hd10 hb
   have HB11 := ktq HB10 hb
   have HZ11 := kzq HZ10 hb.size
   clear Hc10 Hd10 HB10 HZ10
   clear hb
   have hee : ((WL.length : Int) == (WL.length : Int)) = true := by simp
   go_wp2_with fail
   go_ret
   exact ⟨rfl, HB11.out⟩
end Go.Proofs.Yteogdfpkcoodlaa
namespace Go.Proofs.Yteogdfpkcoodlaa
open Go.RowKit
set_option linter.unusedSimpArgs false
def fitZ (z : SdX) : Bool := decide (z.x.m.ls.length ≤ 60) && decide (z.x.m.ns.length ≤ 12)
def fitsC (ws : List SdX) : Bool := decide (ws.length ≤ 60) && ws.all fitZ
theorem fitsC_ok {ws : List SdX} (h : fitsC ws = true) : ws.length ≤ 60 ∧ ∀ z ∈ ws, z.x.m.ls.length ≤ 60 ∧ z.x.m.ns.length ≤ 12 := by
 unfold fitsC fitZ at h
 simp only [Bool.and_eq_true, decide_eq_true_eq, List.all_eq_true] at h
 exact ⟨h.1, h.2⟩
set_option linter.unusedSimpArgs false in
set_option maxHeartbeats 4000000 in
set_option maxRecDepth 100000 in
theorem cfits_any (w : World) (vw : Value) (ws : List SdX) (hw : TRow encS w vw ws) :
  Calls Try.prog 6 #[vw] w fun e w' => e = .returned (.bool (fitsC ws)) ∧ Below w.heap.size w w' := by
 obtain ⟨p2, c2, rfl⟩ := hw.shape
 by_cases h2 : 60 < ws.length
 ·have e : fitsC ws = false := by unfold fitsC; rw [show decide (ws.length ≤ 60) = false by simp; omega]; rfl
  rw [e]
  have hI : (60 : Int) < (ws.length : Int) := by omega
  clear hw h2 e
  go_enter Try.func6, Try.ntmps6
  go_wp2_with fail
  go_ret
  exact ⟨rfl, Below.refl _ _⟩
 have e2 : decide (ws.length ≤ 60) = true := by simp; omega
 have hI2 : ¬ (60 : Int) < (ws.length : Int) := by omega
 have HE : Hid (fitsC ws = ws.all fitZ) := by show _ = _; unfold fitsC; rw [e2]; rfl
 have HW := Lib.hid hw
 have HWN : Hid (ws.length ≤ 60) := by show _ ≤ _; omega
 clear hw h2 e2
 generalize hn : ws.length = n at *
 have HL : Hid (ws.length = n) := Lib.hid hn
 clear hn
 have HREL : Hid (Below w.heap.size w w ∧ (ws.take 0).all fitZ = true) := ⟨Below.refl _ _, rfl⟩
 go_enter Try.func6, Try.ntmps6
 go_upto_region 3 with fail
 clear hI2
 go_wp2_with fail
 go_loopw [10] (fun i wr => ∃ k : Nat, k ≤ n ∧ i = .int .i64 k ∧ Hid (Below w.heap.size w wr ∧ (ws.take k).all fitZ = true)) (fun i _ => n - (intOf i).toNat)
 case atStart => exact ⟨0, by omega, rfl, HREL⟩
 case round =>
  clear HREL
  obtain ⟨k, hk, rfl, HK⟩ := hrel
  have hk9 : k + 1 ≤ 61 := by have := HWN.out; omega
  by_cases hlt : k < n
  ·have hkl : k < ws.length := by rw [HL.out]; exact hlt
   have hltI : (k : Int) < (n : Int) := by omega
   have HTA : Hid ((ws.take (k + 1)).all fitZ = fitZ ws[k]) := by show _ = _; rw [List.take_succ_eq_append_getElem hkl, List.all_append, HK.out.2]; simp
   have HNO : Hid (fitZ ws[k] = false → ws.all fitZ = false) := fun h => by
    cases ha : ws.all fitZ
    ·rfl
    ·rw [List.all_eq_true] at ha
     rw [ha _ (List.getElem_mem hkl)] at h
     cases h
   obtain ⟨b, o, rfl, hbl, hcs⟩ := (HW.out.kept HK.out.1).at_ k hkl
   generalize ws[k] = z at *
   have c0 : wr.cell? ⟨b, o + k * 12, none⟩ = some (.int .i64 z.tw) := hcs 0 (by decide)
   have c1 : wr.cell? ⟨b, o + k * 12 + 1, none⟩ = some (.int .i64 z.x.m.k) := hcs 1 (by decide)
   have c2 : wr.cell? ⟨b, o + k * 12 + 2, none⟩ = some (.int .i64 z.x.m.s) := hcs 2 (by decide)
   have c3 : wr.cell? ⟨b, o + k * 12 + 3, none⟩ = some (.int .i64 z.x.m.n) := hcs 3 (by decide)
   have c4 : wr.cell? ⟨b, o + k * 12 + 4, none⟩ = some (.int .i64 z.x.m.b) := hcs 4 (by decide)
   have c5 : wr.cell? ⟨b, o + k * 12 + 5, none⟩ = some (.int .i64 z.x.m.c) := hcs 5 (by decide)
   have c6 : wr.cell? ⟨b, o + k * 12 + 6, none⟩ = some (.int .i64 z.x.m.r) := hcs 6 (by decide)
   have c7 : wr.cell? ⟨b, o + k * 12 + 7, none⟩ = some (.int .i64 z.x.m.y) := hcs 7 (by decide)
   have c8 : wr.cell? ⟨b, o + k * 12 + 8, none⟩ = some (.int .i64 z.x.m.a) := hcs 8 (by decide)
   have c9 : wr.cell? ⟨b, o + k * 12 + 9, none⟩ = some (.bool z.x.m.t) := hcs 9 (by decide)
   have c10 : wr.cell? ⟨b, o + k * 12 + 10, none⟩ = some (.slice z.x.pl z.x.m.ls.length z.x.cl) := hcs 10 (by decide)
   have c11 : wr.cell? ⟨b, o + k * 12 + 11, none⟩ = some (.slice z.x.pn z.x.m.ns.length z.x.cn) := hcs 11 (by decide)
   have HX := Lib.hid (Blk.new wr #[.int .i64 z.tw, .int .i64 z.x.m.k, .int .i64 z.x.m.s, .int .i64 z.x.m.n, .int .i64 z.x.m.b, .int .i64 z.x.m.c, .int .i64 z.x.m.r, .int .i64 z.x.m.y, .int .i64 z.x.m.a, .bool z.x.m.t, .slice z.x.pl z.x.m.ls.length z.x.cl, .slice z.x.pn z.x.m.ns.length z.x.cn] 38)
   have HB1 := Lib.hid (HK.out.1.alloc HK.out.1.size (.cells #[.int .i64 z.tw, .int .i64 z.x.m.k, .int .i64 z.x.m.s, .int .i64 z.x.m.n, .int .i64 z.x.m.b, .int .i64 z.x.m.c, .int .i64 z.x.m.r, .int .i64 z.x.m.y, .int .i64 z.x.m.a, .bool z.x.m.t, .slice z.x.pl z.x.m.ls.length z.x.cl, .slice z.x.pn z.x.m.ns.length z.x.cn] 38))
   clear hcs
   go_upto_region 6 with fail
   clear c0 c1 c2 c3 c4 c5 c6 c7 c8 c9 c10 c11
   generalize (wr.alloc (.cells #[.int .i64 z.tw, .int .i64 z.x.m.k, .int .i64 z.x.m.s, .int .i64 z.x.m.n, .int .i64 z.x.m.b, .int .i64 z.x.m.c, .int .i64 z.x.m.r, .int .i64 z.x.m.y, .int .i64 z.x.m.a, .bool z.x.m.t, .slice z.x.pl z.x.m.ls.length z.x.cl, .slice z.x.pn z.x.m.ns.length z.x.cn] 38)) = W2 at *
   generalize wr.heap.size = gx at *
   have c10 : W2.cell? ⟨gx, 10, none⟩ = some (.slice z.x.pl z.x.m.ls.length z.x.cl) := HX.out.cell 10
   have c11 : W2.cell? ⟨gx, 11, none⟩ = some (.slice z.x.pn z.x.m.ns.length z.x.cn) := HX.out.cell 11
   by_cases hl : 60 < z.x.m.ls.length
   ·have hlI : (60 : Int) < (z.x.m.ls.length : Int) := by omega
    have HF : Hid (fitsC ws = false) := by
     show _ = _
     rw [HE.out, HNO.out (by unfold fitZ; rw [show decide (z.x.m.ls.length ≤ 60) = false by simp; omega]; rfl)]
    clear hl
    go_wp2_with fail
    go_ret
    exact ⟨by rw [HF.out]; rfl, HB1.out⟩
   ·have hlI : ¬ (60 : Int) < (z.x.m.ls.length : Int) := by omega
    by_cases hm : 12 < z.x.m.ns.length
    ·have hmI : (12 : Int) < (z.x.m.ns.length : Int) := by omega
     have HF : Hid (fitsC ws = false) := by
      show _ = _
      rw [HE.out, HNO.out (by unfold fitZ; rw [show decide (z.x.m.ns.length ≤ 12) = false by simp; omega, Bool.and_false])]
     clear hl hm
     go_wp2_with fail
     go_ret
     exact ⟨by rw [HF.out]; rfl, HB1.out⟩
    ·have hmI : ¬ (12 : Int) < (z.x.m.ns.length : Int) := by omega
     have HNX : Hid (Below w.heap.size w W2 ∧ (ws.take (k + 1)).all fitZ = true) := ⟨HB1.out, by rw [HTA.out]; unfold fitZ; rw [show decide (z.x.m.ls.length ≤ 60) = true by simp; omega, show decide (z.x.m.ns.length ≤ 12) = true by simp; omega]; rfl⟩
     clear hl hm
     go_wp2_with fail
     go_roundw
     case rel => exact ⟨k + 1, by omega, by go_num, HNX⟩
     case measure => simp [intOf]; omega
  ·have hltI : ¬ (k : Int) < (n : Int) := by omega
   have HF : Hid (fitsC ws = true) := by
    show _ = _
    rw [HE.out, ← HK.out.2, List.take_of_length_le (by rw [HL.out]; omega)]
   go_wp2_with fail
   go_ret
   exact ⟨by rw [HF.out]; rfl, HK.out.1⟩
end Go.Proofs.Yteogdfpkcoodlaa
