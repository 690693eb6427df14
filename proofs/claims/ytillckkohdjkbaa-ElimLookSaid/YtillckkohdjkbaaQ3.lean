/- contralaw15.two by contract: two books with what they take of some items. contralaw15.holds by contract. One item more at one of two books: what they then say of each other. Maps keyed by an item's name. A map of items by their names. Two lists of items, in order, by their names: alike just if each of the one is the other's of its name, and they are as many. Plain numbers: decimal digits, the least one first; no program is named here. Plain numbers: sums, differences and the order of numbers that are written out in digits. contraref01.From: a whole number, written out in digits. contraref01.trim and less: noughts at the end; the order of numbers that are written out. contraref01.plus and minus: digits together, and digits less others. contraref01.minus: digits less others. contraref01.Plus: two numbers together. contraref01.Fits: a number as a whole one of 64 bits. contraref01.Sum: all together, as a number of any size. An append onto a row of the call's own: which blocks stay. ElimLook: the walk. From what a reading tells of a slice of 64-bit numbers to a row. From what a reading tells of a slice of structs or arrays to a row of them. Slices of items: from what a reading tells of them to rows. -/
import Derived.Test.YtillckkohdjkbaaQ1
import Derived.Test.YtillckkohdjkbaaQ2
import Derived.Deep.Cut
import Derived.Maps.OwnSet
import Derived.DeepKeys4
import Derived.WalkArith
import Derived.RowKit
import Derived.BigQuiet
import Derived.Deep.QuietTactic
import Derived.BigGuard
import Derived.Deep.RegionHeld3
import Derived.Deep.RegionWith
import Derived.Deep.CutBlock
import Derived.ProofKit
import Derived.OpenShut
import Derived.Deep.SlicePairs
import Derived.ChangeSlices
import Derived.ChangeArms
namespace Go.Proofs.Ytillckkohdjkbaa
open Go.RowKit
/-- Two books in blocks of their own, two places for the results ahead of them. -/
structure TwoR (w : World) (ga gb : Nat) (XA XB : List Itm) (pa : Option Addr) (na ca : Nat) (pb : Option Addr) (nb cb : Nat) (wr : World) : Prop where
 lo : w.heap.size + 1 < ga
 ab : ga < gb
 z0 : Blk wr w.heap.size #[.int .i64 0, .slice none 0 0, .slice none 0 0] 26
 z1 : Blk wr (w.heap.size + 1) #[.int .i64 0, .slice none 0 0, .slice none 0 0] 26
 ba : Blk wr ga #[.int .i64 0, .slice pa na ca, .slice none 0 0] 26
 bb : Blk wr gb #[.int .i64 1, .slice pb nb cb, .slice none 0 0] 26
 ra : TRow encI wr (.slice pa na ca) XA
 rb : TRow encI wr (.slice pb nb cb) XB
 la : XA.length = na
 lb : XB.length = nb
 oa : ∀ k, (Value.slice pa na ca).ownBlock = some k → gb < k
 ob : ∀ k, (Value.slice pb nb cb).ownBlock = some k → gb < k
 below : Below w.heap.size w wr
theorem TwoR.kept {w wr w' : World} {ga gb na ca nb cb : Nat} {XA XB : List Itm} {pa pb : Option Addr} (h : TwoR w ga gb XA XB pa na ca pb nb cb wr) (hb : Below wr.heap.size wr w') : TwoR w ga gb XA XB pa na ca pb nb cb w' :=
 ⟨h.lo, h.ab, h.z0.below hb h.z0.lt, h.z1.below hb h.z1.lt, h.ba.below hb h.ba.lt, h.bb.below hb h.bb.lt, h.ra.kept hb, h.rb.kept hb, h.la, h.lb, h.oa, h.ob, h.below.trans (hb.mono h.below.size)⟩
theorem blk_st3 {w : World} {b g : Nat} {cs : Array Value} {t : TypeId} (h : Blk w b cs t) (hne : b ≠ g) (a c d : Value) : Blk (st3 w g a c d) b cs t := (st3_other w g b a c d hne).trans h
theorem TwoR.setA {w wr : World} {ga gb na ca nb cb n2 c2 : Nat} {XA XB Y : List Itm} {pa pb p2 : Option Addr} (h : TwoR w ga gb XA XB pa na ca pb nb cb wr) (hr : TRow encI wr (.slice p2 n2 c2) Y) (hl : Y.length = n2) (ho : ∀ k, (Value.slice p2 n2 c2).ownBlock = some k → gb < k) : TwoR w ga gb Y XB p2 n2 c2 pb nb cb (st3 wr ga (.int .i64 0) (.slice p2 n2 c2) (.slice none 0 0)) :=
 ⟨h.lo, h.ab, blk_st3 h.z0 (by have := h.lo; omega) _ _ _, blk_st3 h.z1 (by have := h.lo; omega) _ _ _, st3_blk h.ba rfl _ _ _, blk_st3 h.bb (by have := h.ab; omega) _ _ _, hr.st3 (fun k hk => by have := ho k hk; have := h.ab; omega) _ _ _, h.rb.st3 (fun k hk => by have := h.ob k hk; have := h.ab; omega) _ _ _, hl, h.lb, ho, h.ob, st3_below h.below (by have := h.lo; omega) _ _ _⟩
theorem TwoR.setB {w wr : World} {ga gb na ca nb cb n2 c2 : Nat} {XA XB Y : List Itm} {pa pb p2 : Option Addr} (h : TwoR w ga gb XA XB pa na ca pb nb cb wr) (hr : TRow encI wr (.slice p2 n2 c2) Y) (hl : Y.length = n2) (ho : ∀ k, (Value.slice p2 n2 c2).ownBlock = some k → gb < k) : TwoR w ga gb XA Y pa na ca p2 n2 c2 (st3 wr gb (.int .i64 1) (.slice p2 n2 c2) (.slice none 0 0)) :=
 ⟨h.lo, h.ab, blk_st3 h.z0 (by have := h.lo; have := h.ab; omega) _ _ _, blk_st3 h.z1 (by have := h.lo; have := h.ab; omega) _ _ _, blk_st3 h.ba (by have := h.ab; omega) _ _ _, st3_blk h.bb rfl _ _ _, h.ra.st3 (fun k hk => by have := h.oa k hk; omega) _ _ _, hr.st3 (fun k hk => by have := ho k hk; omega) _ _ _, h.la, hl, h.oa, ho, st3_below h.below (by have := h.lo; have := h.ab; omega) _ _ _⟩
set_option linter.unusedSimpArgs false in
set_option maxHeartbeats 4000000 in
set_option maxRecDepth 100000 in
theorem two_any (w : World) (va vb : Value) (la lb : List Itm) (ha : TRow encI w va la) (hb : TRow encI w vb lb) (hna : la.length ≤ 30) (hnb : lb.length ≤ 30) :
  Calls Try.prog 6 #[va, vb] w fun e w' => ∃ pa na ca pb nb cb, e = .returned (.tuple #[bookV 0 (.slice pa na ca) (.slice none 0 0), bookV 1 (.slice pb nb cb) (.slice none 0 0), .bool true]) ∧ TRow encI w' (.slice pa na ca) (foldX 0 [] la) ∧ (foldX 0 [] la).length = na ∧ TRow encI w' (.slice pb nb cb) (foldX 1 [] lb) ∧ (foldX 1 [] lb).length = nb ∧ Below w.heap.size w w' ∧ (∀ k, (Value.slice pa na ca).ownBlock = some k → w.heap.size ≤ k) ∧ (∀ k, (Value.slice pb nb cb).ownBlock = some k → w.heap.size ≤ k) := by
 obtain ⟨p1, c1, rfl⟩ := ha.shape
 obtain ⟨p2, c2, rfl⟩ := hb.shape
 have HR1 := Lib.hid ha
 have HR2 := Lib.hid hb
 clear ha hb
 generalize hl1 : la.length = n1 at *
 have HL1 := Lib.hid hl1
 generalize hl2 : lb.length = n2 at *
 have HL2 := Lib.hid hl2
 clear hl1 hl2
 go_enter Try.func6, Try.ntmps6
 go_wp2_with fail
 generalize hW1 : (w.alloc (.cells #[.int .i64 0, .slice none 0 0, .slice none 0 0] 26)).alloc (.cells #[.int .i64 0, .slice none 0 0, .slice none 0 0] 26) = W1
 have HB1 : Hid (Below w.heap.size w W1) := by show Below _ _ _; rw [← hW1]; exact (oneB w _).alloc (by simp) _
 have HZ0 : Hid (Blk W1 w.heap.size #[.int .i64 0, .slice none 0 0, .slice none 0 0] 26) := by show Blk _ _ _ _; rw [← hW1]; exact (Blk.new w _ _).alloc _
 have HZ1 : Hid (Blk W1 (w.heap.size + 1) #[.int .i64 0, .slice none 0 0, .slice none 0 0] 26) := by show Blk _ _ _ _; rw [← hW1]; exact Blk.new' _ _ _ (by simp)
 clear hW1
 refine (newB_any W1 0 (by decide)).mono ?_
 rintro y w2 ⟨rfl, hb2⟩
 have HB2 := ktq HB1 hb2
 have HZ02 := kbq HZ0 hb2
 have HZ12 := kbq HZ1 hb2
 clear hb2 HB1 HZ0 HZ1
 unfold bookV at *
 go_upto_region 2 with fail
 have HB3 := Lib.hid (HB2.out.trans ((oneB w2 (.cells #[.int .i64 0, .slice none 0 0, .slice none 0 0] 26)).mono HB2.out.size))
 have HZ03 := Lib.hid (HZ02.out.alloc (.cells #[.int .i64 0, .slice none 0 0, .slice none 0 0] 26))
 have HZ13 := Lib.hid (HZ12.out.alloc (.cells #[.int .i64 0, .slice none 0 0, .slice none 0 0] 26))
 have HA3 := Lib.hid (Blk.new w2 #[.int .i64 0, .slice none 0 0, .slice none 0 0] 26)
 have HGA : Hid (w.heap.size + 1 < w2.heap.size) := HZ12.out.lt
 generalize w2.alloc (.cells #[.int .i64 0, .slice none 0 0, .slice none 0 0] 26) = W3 at *
 generalize w2.heap.size = ga at *
 clear HB2 HZ02 HZ12
 have HNB := Lib.hid (newB_any W3 1 (by decide))
 unfold bookV at HNB
 go_wp2_with fail
 refine HNB.out.mono ?_
 rintro y w4 ⟨rfl, hb4⟩
 have HB4 := ktq HB3 hb4
 have HZ04 := kbq HZ03 hb4
 have HZ14 := kbq HZ13 hb4
 have HA4 := kbq HA3 hb4
 clear hb4 HB3 HZ03 HZ13 HA3 HNB
 go_upto_region 3 with fail
 have HREL : Hid (TwoR w ga w4.heap.size (foldX 0 [] (la.take 0)) [] none 0 0 none 0 0 (w4.alloc (.cells #[.int .i64 1, .slice none 0 0, .slice none 0 0] 26))) := ⟨HGA.out, HA4.out.lt, HZ04.out.alloc _, HZ14.out.alloc _, HA4.out.alloc _, Blk.new w4 _ _, TRow.nil_ _ _, TRow.nil_ _ _, rfl, rfl, (fun k h => by cases h), (fun k h => by cases h), HB4.out.trans ((oneB w4 _).mono HB4.out.size)⟩
 generalize w4.alloc (.cells #[.int .i64 1, .slice none 0 0, .slice none 0 0] 26) = W5 at *
 generalize w4.heap.size = gb at *
 clear HB4 HZ04 HZ14 HA4
 go_wp2_with fail
 go_loopw [25] (fun i wr => ∃ (k : Nat) (pa : Option Addr) (na ca : Nat), k ≤ n1 ∧ i = .int .i64 k ∧ Hid (TwoR w ga gb (foldX 0 [] (la.take k)) [] pa na ca none 0 0 wr)) (fun i _ => n1 - (intOf i).toNat)
 case atStart => exact ⟨0, none, 0, 0, by omega, rfl, HREL⟩
 case round =>
  obtain ⟨k, pa, na, ca, hk, rfl, HK⟩ := hrel
  clear HREL
  by_cases hlt : k < n1
  ·have hkl : k < la.length := by rw [HL1.out]; exact hlt
   have hltI : (k : Int) < (n1 : Int) := by omega
   have HFT := Lib.hid (foldX_take (me := 0) (X := []) hkl)
   obtain ⟨b, o, rfl, hbl, hcs⟩ := (HR1.out.kept HK.out.below).at_ k hkl
   generalize la[k] = x at *
   have c0 : wr.cell? ⟨b, o + k * 8, none⟩ = some (.int .i64 x.s) := hcs 0 (by decide)
   have c1 : wr.cell? ⟨b, o + k * 8 + 1, none⟩ = some (.int .i64 x.n) := hcs 1 (by decide)
   have c2 : wr.cell? ⟨b, o + k * 8 + 2, none⟩ = some (.int .i64 x.b) := hcs 2 (by decide)
   have c3 : wr.cell? ⟨b, o + k * 8 + 3, none⟩ = some (.int .i64 x.c) := hcs 3 (by decide)
   have c4 : wr.cell? ⟨b, o + k * 8 + 4, none⟩ = some (.int .i64 x.a) := hcs 4 (by decide)
   have c5 : wr.cell? ⟨b, o + k * 8 + 5, none⟩ = some (.int .i64 x.r) := hcs 5 (by decide)
   have c6 : wr.cell? ⟨b, o + k * 8 + 6, none⟩ = some (.int .i64 x.t) := hcs 6 (by decide)
   have c7 : wr.cell? ⟨b, o + k * 8 + 7, none⟩ = some (.int .i64 x.y) := hcs 7 (by decide)
   have HGD := Lib.hid (foldX_good (l := la.take k) (goodB_nil 0))
   have HLN : Hid ((foldX 0 [] (la.take k)).length ≤ 30) := by
    show _ ≤ _
    have := foldX_len (l := la.take k) (goodB_nil 0)
    rw [List.length_take, List.length_nil] at this
    omega
   have HK2 := Lib.hid (HK.out.kept (oneB wr (.cells #[.int .i64 x.s, .int .i64 x.n, .int .i64 x.b, .int .i64 x.c, .int .i64 x.a, .int .i64 x.r, .int .i64 x.t, .int .i64 x.y] 39)))
   have HX := Lib.hid (Blk.new wr #[.int .i64 x.s, .int .i64 x.n, .int .i64 x.b, .int .i64 x.c, .int .i64 x.a, .int .i64 x.r, .int .i64 x.t, .int .i64 x.y] 39)
   clear hcs HK
   go_upto_region 6 with fail
   generalize wr.alloc (.cells #[.int .i64 x.s, .int .i64 x.n, .int .i64 x.b, .int .i64 x.c, .int .i64 x.a, .int .i64 x.r, .int .i64 x.t, .int .i64 x.y] 39) = W2 at *
   generalize wr.heap.size = gx at *
   have x0 : W2.cell? ⟨gx, 0, none⟩ = some (.int .i64 x.s) := HX.out.cell 0
   have x1 : W2.cell? ⟨gx, 1, none⟩ = some (.int .i64 x.n) := HX.out.cell 1
   have x2 : W2.cell? ⟨gx, 2, none⟩ = some (.int .i64 x.b) := HX.out.cell 2
   have x3 : W2.cell? ⟨gx, 3, none⟩ = some (.int .i64 x.c) := HX.out.cell 3
   have x4 : W2.cell? ⟨gx, 4, none⟩ = some (.int .i64 x.a) := HX.out.cell 4
   have x5 : W2.cell? ⟨gx, 5, none⟩ = some (.int .i64 x.r) := HX.out.cell 5
   have x6 : W2.cell? ⟨gx, 6, none⟩ = some (.int .i64 x.t) := HX.out.cell 6
   have x7 : W2.cell? ⟨gx, 7, none⟩ = some (.int .i64 x.y) := HX.out.cell 7
   have b0 : W2.cell? ⟨ga, 0, none⟩ = some (.int .i64 0) := HK2.out.ba.cell 0
   have b1 : W2.cell? ⟨ga, 1, none⟩ = some (.slice pa na ca) := HK2.out.ba.cell 1
   have b2 : W2.cell? ⟨ga, 2, none⟩ = some (.slice none 0 0) := HK2.out.ba.cell 2
   clear c0 c1 c2 c3 c4 c5 c6 c7
   have HPUT := Lib.hid (put_any W2 0 pa none na ca 0 0 x _ HK2.out.ra HK2.out.la HGD.out.1 (by have := HK2.out.la; have := HLN.out; omega))
   rw [← HFT.out] at HPUT
   unfold bookV Itm.v at HPUT
   generalize putE 0 x = ee at *
   go_wp2_with fail
   refine HPUT.out.mono ?_
   rintro y w3 ⟨p3, n3, c3, rfl, hr3, hn3, hb3, ho3⟩
   have HK3 := Lib.hid (HK2.out.kept hb3)
   have HNX : Hid (TwoR w ga gb (foldX 0 [] (la.take (k + 1))) [] p3 n3 c3 none 0 0 (st3 w3 ga (.int .i64 0) (.slice p3 n3 c3) (.slice none 0 0))) := HK3.out.setA hr3 hn3.symm (fun q hq => (ho3 q hq).elim (HK2.out.oa q) (fun h => by have := HK2.out.bb.lt; omega))
   have b0 : w3.cell? ⟨ga, 0, none⟩ = some (.int .i64 0) := HK3.out.ba.cell 0
   have b1 : w3.cell? ⟨ga, 1, none⟩ = some (.slice pa na ca) := HK3.out.ba.cell 1
   have b2 : w3.cell? ⟨ga, 2, none⟩ = some (.slice none 0 0) := HK3.out.ba.cell 2
   have f0 := HK3.out.ba.free 0
   have f1 := HK3.out.ba.free 1
   have f2 := HK3.out.ba.free 2
   unfold st3 at HNX
   clear HPUT hr3 hn3 hb3 ho3 HK2 HK3 HX x0 x1 x2 x3 x4 x5 x6 x7
   go_wp2_with fail
   go_roundw
   case rel => exact ⟨k + 1, p3, n3, c3, by omega, by go_num, HNX⟩
   case measure => simp [intOf]; omega
  ·have hle : (n1 : Int) ≤ (k : Int) := by omega
   have hkn : k = la.length := by rw [HL1.out]; omega
   have hK := HK.out
   rw [hkn, List.take_length] at hK
   have HREL2 : Hid (TwoR w ga gb (foldX 0 [] la) (foldX 1 [] (lb.take 0)) pa na ca none 0 0 wr) := hK
   clear hK hkn HK
   go_wp2_with fail
   go_loopw [38] (fun i wr => ∃ (k : Nat) (pb : Option Addr) (nb cb : Nat), k ≤ n2 ∧ i = .int .i64 k ∧ Hid (TwoR w ga gb (foldX 0 [] la) (foldX 1 [] (lb.take k)) pa na ca pb nb cb wr)) (fun i _ => n2 - (intOf i).toNat)
   case atStart => exact ⟨0, none, 0, 0, by omega, rfl, HREL2⟩
   case round =>
    obtain ⟨k, pb, nb, cb, hk, rfl, HK⟩ := hrel
    clear HREL2
    by_cases hlt : k < n2
    ·have hkl : k < lb.length := by rw [HL2.out]; exact hlt
     have hltI : (k : Int) < (n2 : Int) := by omega
     have HFT := Lib.hid (foldX_take (me := 1) (X := []) hkl)
     obtain ⟨b, o, rfl, hbl, hcs⟩ := (HR2.out.kept HK.out.below).at_ k hkl
     generalize lb[k] = x at *
     have c0 : wr.cell? ⟨b, o + k * 8, none⟩ = some (.int .i64 x.s) := hcs 0 (by decide)
     have c1 : wr.cell? ⟨b, o + k * 8 + 1, none⟩ = some (.int .i64 x.n) := hcs 1 (by decide)
     have c2 : wr.cell? ⟨b, o + k * 8 + 2, none⟩ = some (.int .i64 x.b) := hcs 2 (by decide)
     have c3 : wr.cell? ⟨b, o + k * 8 + 3, none⟩ = some (.int .i64 x.c) := hcs 3 (by decide)
     have c4 : wr.cell? ⟨b, o + k * 8 + 4, none⟩ = some (.int .i64 x.a) := hcs 4 (by decide)
     have c5 : wr.cell? ⟨b, o + k * 8 + 5, none⟩ = some (.int .i64 x.r) := hcs 5 (by decide)
     have c6 : wr.cell? ⟨b, o + k * 8 + 6, none⟩ = some (.int .i64 x.t) := hcs 6 (by decide)
     have c7 : wr.cell? ⟨b, o + k * 8 + 7, none⟩ = some (.int .i64 x.y) := hcs 7 (by decide)
     have HGD := Lib.hid (foldX_good (l := lb.take k) (goodB_nil 1))
     have HLN : Hid ((foldX 1 [] (lb.take k)).length ≤ 30) := by
      show _ ≤ _
      have := foldX_len (l := lb.take k) (goodB_nil 1)
      rw [List.length_take, List.length_nil] at this
      omega
     have HK2 := Lib.hid (HK.out.kept (oneB wr (.cells #[.int .i64 x.s, .int .i64 x.n, .int .i64 x.b, .int .i64 x.c, .int .i64 x.a, .int .i64 x.r, .int .i64 x.t, .int .i64 x.y] 39)))
     have HX := Lib.hid (Blk.new wr #[.int .i64 x.s, .int .i64 x.n, .int .i64 x.b, .int .i64 x.c, .int .i64 x.a, .int .i64 x.r, .int .i64 x.t, .int .i64 x.y] 39)
     clear hcs HK
     go_upto_region 11 with fail
     generalize wr.alloc (.cells #[.int .i64 x.s, .int .i64 x.n, .int .i64 x.b, .int .i64 x.c, .int .i64 x.a, .int .i64 x.r, .int .i64 x.t, .int .i64 x.y] 39) = W2 at *
     generalize wr.heap.size = gx at *
     have x0 : W2.cell? ⟨gx, 0, none⟩ = some (.int .i64 x.s) := HX.out.cell 0
     have x1 : W2.cell? ⟨gx, 1, none⟩ = some (.int .i64 x.n) := HX.out.cell 1
     have x2 : W2.cell? ⟨gx, 2, none⟩ = some (.int .i64 x.b) := HX.out.cell 2
     have x3 : W2.cell? ⟨gx, 3, none⟩ = some (.int .i64 x.c) := HX.out.cell 3
     have x4 : W2.cell? ⟨gx, 4, none⟩ = some (.int .i64 x.a) := HX.out.cell 4
     have x5 : W2.cell? ⟨gx, 5, none⟩ = some (.int .i64 x.r) := HX.out.cell 5
     have x6 : W2.cell? ⟨gx, 6, none⟩ = some (.int .i64 x.t) := HX.out.cell 6
     have x7 : W2.cell? ⟨gx, 7, none⟩ = some (.int .i64 x.y) := HX.out.cell 7
     have b0 : W2.cell? ⟨gb, 0, none⟩ = some (.int .i64 1) := HK2.out.bb.cell 0
     have b1 : W2.cell? ⟨gb, 1, none⟩ = some (.slice pb nb cb) := HK2.out.bb.cell 1
     have b2 : W2.cell? ⟨gb, 2, none⟩ = some (.slice none 0 0) := HK2.out.bb.cell 2
     clear c0 c1 c2 c3 c4 c5 c6 c7
     have HPUT := Lib.hid (put_any W2 1 pb none nb cb 0 0 x _ HK2.out.rb HK2.out.lb HGD.out.1 (by have := HK2.out.lb; have := HLN.out; omega))
     rw [← HFT.out] at HPUT
     unfold bookV Itm.v at HPUT
     generalize putE 1 x = ee at *
     go_wp2_with fail
     refine HPUT.out.mono ?_
     rintro y w3 ⟨p3, n3, c3, rfl, hr3, hn3, hb3, ho3⟩
     have HK3 := Lib.hid (HK2.out.kept hb3)
     have HNX : Hid (TwoR w ga gb (foldX 0 [] la) (foldX 1 [] (lb.take (k + 1))) pa na ca p3 n3 c3 (st3 w3 gb (.int .i64 1) (.slice p3 n3 c3) (.slice none 0 0))) := HK3.out.setB hr3 hn3.symm (fun q hq => (ho3 q hq).elim (HK2.out.ob q) (fun h => by have := HK2.out.bb.lt; omega))
     have b0 : w3.cell? ⟨gb, 0, none⟩ = some (.int .i64 1) := HK3.out.bb.cell 0
     have b1 : w3.cell? ⟨gb, 1, none⟩ = some (.slice pb nb cb) := HK3.out.bb.cell 1
     have b2 : w3.cell? ⟨gb, 2, none⟩ = some (.slice none 0 0) := HK3.out.bb.cell 2
     have f0 := HK3.out.bb.free 0
     have f1 := HK3.out.bb.free 1
     have f2 := HK3.out.bb.free 2
     unfold st3 at HNX
     clear HPUT hr3 hn3 hb3 ho3 HK2 HK3 HX x0 x1 x2 x3 x4 x5 x6 x7
     go_wp2_with fail
     go_roundw
     case rel => exact ⟨k + 1, p3, n3, c3, by omega, by go_num, HNX⟩
     case measure => simp [intOf]; omega
    ·have hle2 : (n2 : Int) ≤ (k : Int) := by omega
     have hkn : k = lb.length := by rw [HL2.out]; omega
     have hK := HK.out
     rw [hkn, List.take_length] at hK
     have HF := Lib.hid hK
     clear hK hkn HK
     have hS1 : wr.drew.cell? ⟨ga, 0, none⟩ = some (.int .i64 0) ∧ wr.drew.cell? ⟨ga, 1, none⟩ = some (.slice pa na ca) ∧ wr.drew.cell? ⟨ga, 2, none⟩ = some (.slice none 0 0) ∧ wr.drew.cell? ⟨gb, 0, none⟩ = some (.int .i64 1) ∧ wr.drew.cell? ⟨gb, 1, none⟩ = some (.slice pb nb cb) ∧ wr.drew.cell? ⟨gb, 2, none⟩ = some (.slice none 0 0) := ⟨HF.out.ba.cell 0, HF.out.ba.cell 1, HF.out.ba.cell 2, HF.out.bb.cell 0, HF.out.bb.cell 1, HF.out.bb.cell 2⟩
     go_wp2_with fail
     refine wp_region_held_drew (S := fun w' => w'.cell? ⟨ga, 0, none⟩ = some (.int .i64 0) ∧ w'.cell? ⟨ga, 1, none⟩ = some (.slice pa na ca) ∧ w'.cell? ⟨ga, 2, none⟩ = some (.slice none 0 0) ∧ w'.cell? ⟨gb, 0, none⟩ = some (.int .i64 1) ∧ w'.cell? ⟨gb, 1, none⟩ = some (.slice pb nb cb) ∧ w'.cell? ⟨gb, 2, none⟩ = some (.slice none 0 0)) (by kernel_rfl) hS1 (fun hS0 => ?_)
     refine tkq 0 ?_
     refine tkq 1 ?_
     refine tkq 2 ?_
     refine tkq 3 ?_
     refine tkq 4 ?_
     refine tkq 5 ?_
     have HFD := Lib.hid (HF.out.kept (Below.refl wr.heap.size wr).drew)
     clear HF hS1 hS0
     generalize wr.drew = WD at *
     have HF := HFD
     clear HFD
     have z0 : WD.cell? ⟨w.heap.size, 0, none⟩ = some (.int .i64 0) := HF.out.z0.cell 0
     have z1 : WD.cell? ⟨w.heap.size, 1, none⟩ = some (.slice none 0 0) := HF.out.z0.cell 1
     have z2 : WD.cell? ⟨w.heap.size, 2, none⟩ = some (.slice none 0 0) := HF.out.z0.cell 2
     have f0 : WD.frozen? ⟨w.heap.size, 0, none⟩ = false := HF.out.z0.free 0
     have f1 : WD.frozen? ⟨w.heap.size, 1, none⟩ = false := HF.out.z0.free 1
     have f2 : WD.frozen? ⟨w.heap.size, 2, none⟩ = false := HF.out.z0.free 2
     have HLO : Hid (w.heap.size + 1 < ga ∧ ga < gb) := ⟨HF.out.lo, HF.out.ab⟩
     have HQ0 := Lib.hid (st3_blk (w := WD) HF.out.z0 rfl (.int .i64 0) (.slice pa na ca) (.slice none 0 0))
     have HQ1 := Lib.hid (blk_st3 (w := WD) (g := w.heap.size) HF.out.z1 (by omega) (.int .i64 0) (.slice pa na ca) (.slice none 0 0))
     have HQA := Lib.hid (blk_st3 (w := WD) (g := w.heap.size) HF.out.ba (by have := HLO.out; omega) (.int .i64 0) (.slice pa na ca) (.slice none 0 0))
     have HQB := Lib.hid (blk_st3 (w := WD) (g := w.heap.size) HF.out.bb (by have := HLO.out; omega) (.int .i64 0) (.slice pa na ca) (.slice none 0 0))
     have HRA := Lib.hid (TRow.st3 (w := WD) (g := w.heap.size) HF.out.ra (fun k hk => by have := HF.out.oa k hk; have := HLO.out; omega) (.int .i64 0) (.slice pa na ca) (.slice none 0 0))
     have HRB := Lib.hid (TRow.st3 (w := WD) (g := w.heap.size) HF.out.rb (fun k hk => by have := HF.out.ob k hk; have := HLO.out; omega) (.int .i64 0) (.slice pa na ca) (.slice none 0 0))
     have HBQ := Lib.hid (st3_below (g := w.heap.size) HF.out.below (Nat.le_refl _) (.int .i64 0) (.slice pa na ca) (.slice none 0 0))
     unfold st3 at HQ0 HQ1 HQA HQB HRA HRB HBQ
     refine rdq 6 (fun K hK => ?_)
     go_simp
     generalize ((WD.setCell ⟨w.heap.size, 0, none⟩ (.int .i64 0)).setCell ⟨w.heap.size, 1, none⟩ (.slice pa na ca)).setCell ⟨w.heap.size, 2, none⟩ (.slice none 0 0) = W6 at *
     refine hK.out _ _ ⟨HQA.out.cell 0, HQA.out.cell 1, HQA.out.cell 2, HQB.out.cell 0, HQB.out.cell 1, HQB.out.cell 2⟩ (fun hS => ?_)
     clear hK K z0 z1 z2 f0 f1 f2
     try simp only [Act.put, List.getElem_toArray, List.getElem_cons_succ, List.getElem_cons_zero, List.setIfInBounds_toArray, List.set_cons_zero, List.set_cons_succ]
     have z0 : W6.cell? ⟨w.heap.size + 1, 0, none⟩ = some (.int .i64 0) := HQ1.out.cell 0
     have z1 : W6.cell? ⟨w.heap.size + 1, 1, none⟩ = some (.slice none 0 0) := HQ1.out.cell 1
     have z2 : W6.cell? ⟨w.heap.size + 1, 2, none⟩ = some (.slice none 0 0) := HQ1.out.cell 2
     have f0 := HQ1.out.free 0
     have f1 := HQ1.out.free 1
     have f2 := HQ1.out.free 2
     have HT1 := Lib.hid (st3_blk HQ1.out rfl (.int .i64 1) (.slice pb nb cb) (.slice none 0 0))
     have HT0 := Lib.hid (blk_st3 (g := w.heap.size + 1) HQ0.out (by omega) (.int .i64 1) (.slice pb nb cb) (.slice none 0 0))
     have HTA := Lib.hid (blk_st3 (g := w.heap.size + 1) HQA.out (by have := HLO.out; omega) (.int .i64 1) (.slice pb nb cb) (.slice none 0 0))
     have HTB := Lib.hid (blk_st3 (g := w.heap.size + 1) HQB.out (by have := HLO.out; omega) (.int .i64 1) (.slice pb nb cb) (.slice none 0 0))
     have HRA2 := Lib.hid (TRow.st3 (g := w.heap.size + 1) HRA.out (fun k hk => by have := HF.out.oa k hk; have := HLO.out; omega) (.int .i64 1) (.slice pb nb cb) (.slice none 0 0))
     have HRB2 := Lib.hid (TRow.st3 (g := w.heap.size + 1) HRB.out (fun k hk => by have := HF.out.ob k hk; have := HLO.out; omega) (.int .i64 1) (.slice pb nb cb) (.slice none 0 0))
     have HBT := Lib.hid (st3_below (g := w.heap.size + 1) HBQ.out (by omega) (.int .i64 1) (.slice pb nb cb) (.slice none 0 0))
     have HLA : Hid ((foldX 0 [] la).length = na) := HF.out.la
     have HOA9 : Hid (∀ k, (Value.slice pa na ca).ownBlock = some k → w.heap.size ≤ k) := fun k hk => by have := HF.out.oa k hk; have := HLO.out; omega
     have HOB9 : Hid (∀ k, (Value.slice pb nb cb).ownBlock = some k → w.heap.size ≤ k) := fun k hk => by have := HF.out.ob k hk; have := HLO.out; omega
     have HLB : Hid ((foldX 1 [] lb).length = nb) := HF.out.lb
     unfold st3 at HT0 HT1 HTA HTB HRA2 HRB2 HBT
     clear HF HQ0 HQ1 HQA HQB HRA HRB HBQ
     refine rdq 7 (fun K hK => ?_)
     go_simp
     generalize ((W6.setCell ⟨w.heap.size + 1, 0, none⟩ (.int .i64 1)).setCell ⟨w.heap.size + 1, 1, none⟩ (.slice pb nb cb)).setCell ⟨w.heap.size + 1, 2, none⟩ (.slice none 0 0) = W7 at *
     refine hK.out _ _ ⟨HTA.out.cell 0, HTA.out.cell 1, HTA.out.cell 2, HTB.out.cell 0, HTB.out.cell 1, HTB.out.cell 2⟩ (fun hS => ?_)
     clear hK K z0 z1 z2 f0 f1 f2
     try simp only [Act.put, List.getElem_toArray, List.getElem_cons_succ, List.getElem_cons_zero, List.setIfInBounds_toArray, List.set_cons_zero, List.set_cons_succ]
     refine tkq 8 ?_
     refine wpAnyH_done (by kernel_rfl) ?_ _
     have r0 : W7.cell? ⟨w.heap.size, 0, none⟩ = some (.int .i64 0) := HT0.out.cell 0
     have r1 : W7.cell? ⟨w.heap.size, 1, none⟩ = some (.slice pa na ca) := HT0.out.cell 1
     have r2 : W7.cell? ⟨w.heap.size, 2, none⟩ = some (.slice none 0 0) := HT0.out.cell 2
     have r3 : W7.cell? ⟨w.heap.size + 1, 0, none⟩ = some (.int .i64 1) := HT1.out.cell 0
     have r4 : W7.cell? ⟨w.heap.size + 1, 1, none⟩ = some (.slice pb nb cb) := HT1.out.cell 1
     have r5 : W7.cell? ⟨w.heap.size + 1, 2, none⟩ = some (.slice none 0 0) := HT1.out.cell 2
     go_wp2_with fail
     refine bodyPost_ret (v := .tuple #[.agg #[.int .i64 0, .slice pa na ca, .slice none 0 0], .agg #[.int .i64 1, .slice pb nb cb, .slice none 0 0], .bool true]) (by simp [results, Try.results6, go_sem, r0, r1, r2, r3, r4, r5, show IntKind.i64.wrap 0 = 0 from by decide]) rfl ⟨pa, na, ca, pb, nb, cb, rfl, HRA2.out, HLA.out, HRB2.out, HLB.out, HBT.out, HOA9.out, HOB9.out⟩
end Go.Proofs.Ytillckkohdjkbaa
namespace Go.Proofs.Ytillckkohdjkbaa
open Go.RowKit
def h1 : List Itm := [⟨0, 1, 1, 0, 70, 0, 3, 0⟩]
def h2 : List Itm := [⟨0, 1, 1, 0, 70, 0, 3, 5⟩]
/-- Two books in a row. -/
def bkA (pa : Option Addr) (na ca : Nat) (xs : List Itm) : Bk := ⟨0, pa, na, ca, none, 0, 0, xs⟩
def bkB (pb : Option Addr) (nb cb : Nat) (ys : List Itm) : Bk := ⟨1, pb, nb, cb, none, 0, 0, ys⟩
theorem two_row {w : World} {g : Nat} {pa pb : Option Addr} {na ca nb cb : Nat} (xs ys : List Itm) (h : Blk w g #[.int .i64 0, .slice pa na ca, .slice none 0 0, .int .i64 1, .slice pb nb cb, .slice none 0 0] 26) : TRow encB w (.slice (some ⟨g, 0, none⟩) 2 2) [bkA pa na ca xs, bkB pb nb cb ys] := TRow.lit encB _ 2 2 h rfl rfl (Nat.le_refl _)
theorem two_in {w : World} {pa pb : Option Addr} {na ca nb cb : Nat} {xs ys : List Itm} (ha : TRow encI w (.slice pa na ca) xs) (hb : TRow encI w (.slice pb nb cb) ys) (la : xs.length = na) (lb : ys.length = nb) (ga : GoodB 0 xs) (gb : GoodB 1 ys) (na2 : xs.length ≤ 2000) (nb2 : ys.length ≤ 2000) : ∀ b ∈ [bkA pa na ca xs, bkB pb nb cb ys], b.In w := by
 intro b hb'
 simp only [List.mem_cons, List.not_mem_nil, or_false] at hb'
 rcases hb' with rfl | rfl
 ·exact ⟨ha, la, na2, goodB_ok ga⟩
 ·exact ⟨hb, lb, nb2, goodB_ok gb⟩
set_option linter.unusedSimpArgs false in
set_option maxHeartbeats 4000000 in
set_option maxRecDepth 100000 in
theorem holds15_any (w : World) : Calls Try.prog 5 #[] w fun e w' => e = .returned (.bool true) ∧ Below w.heap.size w w' := by
 go_enter Try.func5, Try.ntmps5
 go_wp2_with fail
 have HR1 : Hid (TRow encI ((w.alloc (.cells #[.int .i64 0, .int .i64 1, .int .i64 1, .int .i64 0, .int .i64 70, .int .i64 0, .int .i64 3, .int .i64 0] 39)).alloc (.cells #[.int .i64 0, .int .i64 1, .int .i64 1, .int .i64 0, .int .i64 70, .int .i64 0, .int .i64 3, .int .i64 5] 39)) (.slice (some ⟨w.heap.size, 0, none⟩) 1 1) h1) := TRow.lit encI h1 1 1 ((Blk.new w #[.int .i64 0, .int .i64 1, .int .i64 1, .int .i64 0, .int .i64 70, .int .i64 0, .int .i64 3, .int .i64 0] 39).alloc _) rfl rfl (Nat.le_refl _)
 have HR2 : Hid (TRow encI ((w.alloc (.cells #[.int .i64 0, .int .i64 1, .int .i64 1, .int .i64 0, .int .i64 70, .int .i64 0, .int .i64 3, .int .i64 0] 39)).alloc (.cells #[.int .i64 0, .int .i64 1, .int .i64 1, .int .i64 0, .int .i64 70, .int .i64 0, .int .i64 3, .int .i64 5] 39)) (.slice (some ⟨w.heap.size + 1, 0, none⟩) 1 1) h2) := TRow.lit encI h2 1 1 (Blk.new' (w.alloc (.cells #[.int .i64 0, .int .i64 1, .int .i64 1, .int .i64 0, .int .i64 70, .int .i64 0, .int .i64 3, .int .i64 0] 39)) #[.int .i64 0, .int .i64 1, .int .i64 1, .int .i64 0, .int .i64 70, .int .i64 0, .int .i64 3, .int .i64 5] 39 (b := w.heap.size + 1) (by simp)) rfl rfl (Nat.le_refl _)
 have HB1 : Hid (Below w.heap.size w ((w.alloc (.cells #[.int .i64 0, .int .i64 1, .int .i64 1, .int .i64 0, .int .i64 70, .int .i64 0, .int .i64 3, .int .i64 0] 39)).alloc (.cells #[.int .i64 0, .int .i64 1, .int .i64 1, .int .i64 0, .int .i64 70, .int .i64 0, .int .i64 3, .int .i64 5] 39))) := (oneB w _).alloc (by simp) _
 have HTW := Lib.hid (two_any _ _ _ h1 h2 HR1.out HR2.out (by decide) (by decide))
 generalize (w.alloc (.cells #[.int .i64 0, .int .i64 1, .int .i64 1, .int .i64 0, .int .i64 70, .int .i64 0, .int .i64 3, .int .i64 0] 39)).alloc (.cells #[.int .i64 0, .int .i64 1, .int .i64 1, .int .i64 0, .int .i64 70, .int .i64 0, .int .i64 3, .int .i64 5] 39) = W1 at *
 refine HTW.out.mono ?_
 rintro y w2 ⟨pa, na, ca, pb, nb, cb, rfl, hra, hla, hrb, hlb, hb2, _, _⟩
 rw [show foldX 0 [] h1 = h1 by decide +kernel] at hra hla
 rw [show foldX 1 [] h2 = h2 by decide +kernel] at hrb hlb
 have HB2 := ktq HB1 hb2
 have HRA := Lib.hid hra
 have HRB := Lib.hid hrb
 have HLA := Lib.hid hla
 have HLB := Lib.hid hlb
 clear hra hla hrb hlb hb2 HTW HR1 HR2 HB1
 unfold bookV
 go_upto_region 2 with fail
 generalize hW3 : (w2.alloc (.cells #[.int .i64 0, .slice pa na ca, .slice none 0 0] 26)).alloc (.cells #[.int .i64 1, .slice pb nb cb, .slice none 0 0] 26) = W3
 have HB3 : Hid (Below w2.heap.size w2 W3) := by show Below _ _ _; rw [← hW3]; exact (oneB w2 _).alloc (by simp) _
 have HKA : Hid (Blk W3 w2.heap.size #[.int .i64 0, .slice pa na ca, .slice none 0 0] 26) := by show Blk _ _ _ _; rw [← hW3]; exact (Blk.new w2 _ _).alloc _
 have HKB : Hid (Blk W3 (w2.heap.size + 1) #[.int .i64 1, .slice pb nb cb, .slice none 0 0] 26) := by show Blk _ _ _ _; rw [← hW3]; exact Blk.new' _ _ _ (by simp)
 clear hW3
 have HBW := Lib.hid (HB2.out.trans (HB3.out.mono HB2.out.size))
 have HIN : Hid (∀ b ∈ [bkA pa na ca h1, bkB pb nb cb h2], b.In w2) := two_in HRA.out HRB.out HLA.out HLB.out (by unfold GoodB SortedP h1; refine ⟨by decide, ?_⟩; intro x hx; rw [List.mem_singleton.1 hx]; decide) (by unfold GoodB SortedP h2; refine ⟨by decide, ?_⟩; intro x hx; rw [List.mem_singleton.1 hx]; decide) (by decide) (by decide)
 have HIN3 : Hid (∀ b ∈ [bkA pa na ca h1, bkB pb nb cb h2], b.In W3) := fun b hb => (HIN.out b hb).kept HB3.out
 have HLK := Lib.hid (fun W (h : Below W3.heap.size W3 W) => look_any W 0 1 0 pa none pb none na ca 0 0 nb cb 0 0 h1 h2 ((HRA.out.kept HB3.out).kept h) ((HRB.out.kept HB3.out).kept h) HLA.out HLB.out (by decide) (by decide) (fun x hx => by rw [List.mem_singleton.1 hx]; decide) (fun x hx => by rw [List.mem_singleton.1 hx]; decide))
 rw [show lookV 0 1 0 h1 h2 = pairV 0 1 70 70 true from by unfold lookV; rw [show amtS (soldL 0 1 0 h1) = 70 by decide +kernel, show amtS (soldL 0 1 0 h2) = 70 by decide +kernel, show alikeB 0 1 0 h1 h2 = true by decide +kernel]] at HLK
 unfold bookV pairV at HLK
 clear HRA HRB HLA HLB HB2 HB3 HIN
 generalize w2.heap.size = ga at *
 have a0 : W3.cell? ⟨ga, 0, none⟩ = some (.int .i64 0) := HKA.out.cell 0
 have a1 : W3.cell? ⟨ga, 1, none⟩ = some (.slice pa na ca) := HKA.out.cell 1
 have a2 : W3.cell? ⟨ga, 2, none⟩ = some (.slice none 0 0) := HKA.out.cell 2
 have b0 : W3.cell? ⟨(ga + 1), 0, none⟩ = some (.int .i64 1) := HKB.out.cell 0
 have b1 : W3.cell? ⟨(ga + 1), 1, none⟩ = some (.slice pb nb cb) := HKB.out.cell 1
 have b2 : W3.cell? ⟨(ga + 1), 2, none⟩ = some (.slice none 0 0) := HKB.out.cell 2
 go_wp2_with fail
 refine (HLK.out W3 (Below.refl _ _)).mono ?_
 rintro y w4 ⟨rfl, hb4⟩
 have HB4 := Lib.hid hb4
 clear hb4 HLK a0 a1 a2 b0 b1 b2
 go_upto_region 3 with fail
 have HP5 := Lib.hid (Blk.new w4 #[.int .i64 0, .int .i64 1, .int .i64 70, .int .i64 70, .bool true] 30)
 have HB5 := Lib.hid (HB4.out.trans ((oneB w4 (.cells #[.int .i64 0, .int .i64 1, .int .i64 70, .int .i64 70, .bool true] 30)).mono HB4.out.size))
 generalize w4.alloc (.cells #[.int .i64 0, .int .i64 1, .int .i64 70, .int .i64 70, .bool true] 30) = W5 at *
 generalize w4.heap.size = gp at *
 have HKA5 := Lib.hid (HKA.out.below HB5.out HKA.out.lt)
 have HKB5 := Lib.hid (HKB.out.below HB5.out HKB.out.lt)
 have HIN5 : Hid (∀ b ∈ [bkA pa na ca h1, bkB pb nb cb h2], b.In W5) := fun b hb => (HIN3.out b hb).kept HB5.out
 clear HB4
 have a0 : W5.cell? ⟨ga, 0, none⟩ = some (.int .i64 0) := HKA5.out.cell 0
 have a1 : W5.cell? ⟨ga, 1, none⟩ = some (.slice pa na ca) := HKA5.out.cell 1
 have a2 : W5.cell? ⟨ga, 2, none⟩ = some (.slice none 0 0) := HKA5.out.cell 2
 have b0 : W5.cell? ⟨(ga + 1), 0, none⟩ = some (.int .i64 1) := HKB5.out.cell 0
 have b1 : W5.cell? ⟨(ga + 1), 1, none⟩ = some (.slice pb nb cb) := HKB5.out.cell 1
 have b2 : W5.cell? ⟨(ga + 1), 2, none⟩ = some (.slice none 0 0) := HKB5.out.cell 2
 have HTR := Lib.hid (two_row (w := W5.alloc (.cells #[.int .i64 0, .slice pa na ca, .slice none 0 0, .int .i64 1, .slice pb nb cb, .slice none 0 0] 26)) h1 h2 (Blk.new W5 #[.int .i64 0, .slice pa na ca, .slice none 0 0, .int .i64 1, .slice pb nb cb, .slice none 0 0] 26))
 have HB6 := Lib.hid (oneB W5 (.cells #[.int .i64 0, .slice pa na ca, .slice none 0 0, .int .i64 1, .slice pb nb cb, .slice none 0 0] 26))
 have HGR := Lib.hid (group_in _ 0 _ _ HTR.out (fun b hb => (HIN5.out b hb).kept HB6.out) (by simp) (by decide) (fun b hb => by simp only [List.mem_cons, List.not_mem_nil, or_false] at hb; rcases hb with rfl | rfl <;> simp [bkA, bkB]) (by simp [bkA, bkB]))
 rw [show grpL 0 [bkA pa na ca h1, bkB pb nb cb h2] = [⟨0, 0, 70⟩, ⟨1, 0, -70⟩] from by rfl] at HGR
 unfold vecV at HGR
 go_wp2_with fail
 generalize W5.alloc (.cells #[.int .i64 0, .slice pa na ca, .slice none 0 0, .int .i64 1, .slice pb nb cb, .slice none 0 0] 26) = W6 at *
 refine HGR.out.mono ?_
 rintro y w7 ⟨v7, rfl, hr7, hb7⟩
 obtain ⟨p7, c7, hv7⟩ := hr7.shape
 have hv7 : v7 = .slice p7 2 c7 := hv7
 subst hv7
 have HB7 := ktq HB6 hb7
 have HR7 := Lib.hid hr7
 clear hr7 hb7 HGR HTR HB6 a0 a1 a2 b0 b1 b2
 go_upto_region 4 with fail
 have HV8 := Lib.hid (Blk.new w7 #[.slice p7 2 c7] 50)
 have HB8 := Lib.hid (HB7.out.trans ((oneB w7 (.cells #[.slice p7 2 c7] 50)).mono HB7.out.size))
 have HR8 := Lib.hid (HR7.out.kept (oneB w7 (.cells #[.slice p7 2 c7] 50)))
 generalize w7.alloc (.cells #[.slice p7 2 c7] 50) = W8 at *
 generalize w7.heap.size = gv at *
 have HTO := Lib.hid (totalL_any W8 _ _ 0 (by decide) (fun q hq => by simp only [List.mem_cons, List.not_mem_nil, or_false] at hq; rcases hq with rfl | rfl <;> (unfold Fits; decide)) HR8.out)
 rw [show sumN (amtsC 0 [(⟨0, 0, 70⟩ : Pos), ⟨1, 0, -70⟩]).sum = 0 by decide +kernel, show sumE (amtsC 0 [(⟨0, 0, 70⟩ : Pos), ⟨1, 0, -70⟩]).sum = 0 by decide +kernel] at HTO
 unfold vecV at HTO
 have v0 : W8.cell? ⟨gv, 0, none⟩ = some (.slice p7 2 c7) := HV8.out.cell 0
 clear HB7 HR7
 go_wp2_with fail
 refine HTO.out.mono ?_
 rintro y w9 ⟨rfl, hb9⟩
 have HB9 := ktq HB8 hb9
 have HV9 := kbq HV8 hb9
 have HR9 := Lib.hid (HR8.out.kept hb9)
 have HP9 := Lib.hid (HP5.out.below HB9.out HP5.out.lt)
 clear hb9 HTO v0 HB8 HV8 HR8
 have v0 : w9.cell? ⟨gv, 0, none⟩ = some (.slice p7 2 c7) := HV9.out.cell 0
 have q2 : w9.cell? ⟨gp, 2, none⟩ = some (.int .i64 70) := HP9.out.cell 2
 have q3 : w9.cell? ⟨gp, 3, none⟩ = some (.int .i64 70) := HP9.out.cell 3
 have q4 : w9.cell? ⟨gp, 4, none⟩ = some (.bool true) := HP9.out.cell 4
 have hw0 : IntKind.i64.wrap 0 = 0 := by decide
 have HOF := Lib.hid (of_any w9 _ _ [] [⟨0, 0, 70⟩] [⟨1, 0, -70⟩] 0 0 HR9.out ⟨rfl, (fun _ h => by cases h), (fun q hq => by rw [List.mem_singleton.1 hq]; decide), .inr ⟨_, rfl, by decide⟩⟩ (by decide))
 unfold vecV at HOF
 go_wp2_with fail
 refine HOF.out.mono ?_
 rintro y w10 ⟨rfl, hb10⟩
 have HB10 := ktq HB9 hb10
 have HKA10 := Lib.hid (HKA5.out.below HB10.out HKA5.out.lt)
 have HKB10 := Lib.hid (HKB5.out.below HB10.out HKB5.out.lt)
 clear hb10 HOF v0 q2 q3 q4
 have a0 : w10.cell? ⟨ga, 0, none⟩ = some (.int .i64 0) := HKA10.out.cell 0
 have a1 : w10.cell? ⟨ga, 1, none⟩ = some (.slice pa na ca) := HKA10.out.cell 1
 have a2 : w10.cell? ⟨ga, 2, none⟩ = some (.slice none 0 0) := HKA10.out.cell 2
 have b0 : w10.cell? ⟨(ga + 1), 0, none⟩ = some (.int .i64 1) := HKB10.out.cell 0
 have b1 : w10.cell? ⟨(ga + 1), 1, none⟩ = some (.slice pb nb cb) := HKB10.out.cell 1
 have b2 : w10.cell? ⟨(ga + 1), 2, none⟩ = some (.slice none 0 0) := HKB10.out.cell 2
 have HTR2 := Lib.hid (two_row (w := w10.alloc (.cells #[.int .i64 0, .slice pa na ca, .slice none 0 0, .int .i64 1, .slice pb nb cb, .slice none 0 0] 26)) h1 h2 (Blk.new w10 #[.int .i64 0, .slice pa na ca, .slice none 0 0, .int .i64 1, .slice pb nb cb, .slice none 0 0] 26))
 have HB11 := Lib.hid (oneB w10 (.cells #[.int .i64 0, .slice pa na ca, .slice none 0 0, .int .i64 1, .slice pb nb cb, .slice none 0 0] 26))
 have HEV := Lib.hid (even_any _ 0 _ _ HTR2.out (fun b hb => ((HIN5.out b hb).kept HB10.out).kept HB11.out) (by simp))
 rw [show evenB 0 [bkA pa na ca h1, bkB pb nb cb h2] = true from by rfl] at HEV
 have HB12 := Lib.hid (HB10.out.trans (HB11.out.mono HB10.out.size))
 rw [show midA [(⟨0, 0, 70⟩ : Pos)] = 70 from rfl]
 go_wp2_with fail
 generalize w10.alloc (.cells #[.int .i64 0, .slice pa na ca, .slice none 0 0, .int .i64 1, .slice pb nb cb, .slice none 0 0] 26) = W12 at *
 refine HEV.out.mono ?_
 rintro y w13 ⟨rfl, hb13⟩
 have HB13 := Lib.hid (HBW.out.trans ((HB5.out.trans ((HB12.out.trans (hb13.mono HB12.out.size)).mono HB5.out.size)).mono HBW.out.size))
 clear hb13 HEV
 go_wp2_with fail
 go_ret
 exact ⟨rfl, HB13.out⟩
end Go.Proofs.Ytillckkohdjkbaa
namespace Go.Proofs.Ytillckkohdjkbaa
open Go.RowKit
def ltL (x : Itm) (X : List Itm) : List Itm := X.filter (fun z => decide (ordP (posI z) (posI x) < 0))
def gtL (x : Itm) (X : List Itm) : List Itm := X.filter (fun z => decide (0 < ordP (posI z) (posI x)))
def Apart (x : Itm) (X : List Itm) : Prop := ∀ z ∈ X, ordP (posI z) (posI x) ≠ 0
theorem ordP_flip {p q r : Pos} (h1 : 0 < ordP p r) (h2 : ordP p q < 0) : 0 < ordP q r := by
 rw [ordP_lt] at h2
 rw [ordP_gt] at h1 ⊢
 omega
/-- Nothing of its name among them: those ahead and those behind are all. -/
theorem lt_gt {x : Itm} : ∀ {X : List Itm}, SortedP (X.map posI) → Apart x X → ltL x X ++ gtL x X = X
 | [], _, _ => rfl
 | z :: X, hs, ha => by
  have hs' : SortedP (X.map posI) := (List.pairwise_cons.1 hs).2
  have hz := (List.pairwise_cons.1 hs).1
  have ih := lt_gt (x := x) hs' (fun y hy => ha y (by simp [hy]))
  have h0 := ha z (by simp)
  unfold ltL gtL at *
  rw [List.filter_cons, List.filter_cons]
  by_cases h1 : ordP (posI z) (posI x) < 0
  ·rw [if_pos (by simpa using h1), if_neg (by simp; omega), List.cons_append, ih]
  ·have h2 : 0 < ordP (posI z) (posI x) := by omega
   rw [if_neg (by simpa using h1), if_pos (by simpa using h2)]
   have e : X.filter (fun z => decide (ordP (posI z) (posI x) < 0)) = [] := by
    rw [List.filter_eq_nil_iff]
    intro y hy
    have h3 := ordP_flip h2 (hz (posI y) (List.mem_map_of_mem hy))
    simp
    omega
   have e2 : X.filter (fun z => decide (0 < ordP (posI z) (posI x))) = X := by
    rw [e, List.nil_append] at ih
    exact ih
   rw [e, e2, List.nil_append]
theorem ins_parts (X : List Itm) (x : Itm) : insX X x = ltL x X ++ [x] ++ gtL x X := rfl
theorem filter_swap (p q : Itm → Bool) (X : List Itm) : (X.filter q).filter p = (X.filter p).filter q := by
 rw [List.filter_filter, List.filter_filter]
 exact List.filter_congr (fun z _ => by rw [Bool.and_comm])
theorem ins_filter (p : Itm → Bool) (X : List Itm) (x : Itm) : (insX X x).filter p = ltL x (X.filter p) ++ (if p x then [x] else []) ++ gtL x (X.filter p) := by
 rw [ins_parts, List.filter_append, List.filter_append]
 unfold ltL gtL
 rw [filter_swap, filter_swap p _ X]
 congr 2
 cases h : p x <;> simp [h]
theorem sorted_filter {X : List Itm} (p : Itm → Bool) (h : SortedP (X.map posI)) : SortedP ((X.filter p).map posI) := List.Pairwise.sublist ((List.filter_sublist).map posI) h
theorem apart_filter {x : Itm} {X : List Itm} (p : Itm → Bool) (h : Apart x X) : Apart x (X.filter p) := fun z hz => h z (List.mem_filter.1 hz).1
/-- What a book has of one kind, one item more (of no name that is there): as it was, or with that item. -/
theorem put_filter {me : Int} {p : Itm → Bool} {X : List Itm} {x : Itm} (hs : SortedP (X.map posI)) (ha : Apart x X) (hp : p x = true → chkI x = 0 → (x.s = me ∨ x.b = me)) : (putX me X x).filter p = if p x ∧ chkI x = 0 then ltL x (X.filter p) ++ [x] ++ gtL x (X.filter p) else X.filter p := by
 unfold putX
 by_cases h1 : chkI x = 0 ∧ (x.s = me ∨ x.b = me)
 ·rw [if_pos h1, ins_filter]
  by_cases h2 : p x = true
  ·rw [if_pos h2, if_pos ⟨h2, h1.1⟩]
  ·rw [if_neg h2, if_neg (fun h => h2 h.1), List.append_nil]
   exact lt_gt (sorted_filter p hs) (apart_filter p ha)
 ·rw [if_neg h1, if_neg (fun h => h1 ⟨h.2, hp h.1 h.2⟩)]
theorem fold_mem {me : Int} : ∀ {l X : List Itm} {z : Itm}, z ∈ foldX me X l → z ∈ X ∨ z ∈ l
 | [], _, _, h => .inl h
 | x :: l, X, z, h => by
  have h : z ∈ foldX me (putX me X x) l := h
  rcases fold_mem h with h1 | h1
  ·unfold putX at h1
   split at h1
   ·rcases ins_mem h1 with rfl | h2
    ·exact .inr (by simp)
    ·exact .inl h2
   ·exact .inl h1
  ·exact .inr (by simp [h1])
/-- No two of the items have one name. -/
def Names (l : List Itm) : Prop := l.Pairwise (fun x y => ordP (posI x) (posI y) ≠ 0)
theorem ord_sym {x y : Itm} (h : ordP (posI x) (posI y) ≠ 0) : ordP (posI y) (posI x) ≠ 0 := by
 intro e
 rw [ordP_eq] at e
 exact h (ordP_eq.2 ⟨e.1.symm, e.2.symm⟩)
/-- Two books that are filled from one list: of one kind that both take, they have the same. -/
theorem fold_same {m1 m2 : Int} {p : Itm → Bool} (hp1 : ∀ x, p x = true → (x.s = m1 ∨ x.b = m1)) (hp2 : ∀ x, p x = true → (x.s = m2 ∨ x.b = m2)) :
  ∀ (l X Y : List Itm), GoodB m1 X → GoodB m2 Y → Names l → (∀ x ∈ l, Apart x X ∧ Apart x Y) → X.filter p = Y.filter p → (foldX m1 X l).filter p = (foldX m2 Y l).filter p
 | [], _, _, _, _, _, _, h => h
 | x :: l, X, Y, hX, hY, hn, ha, h => by
  obtain ⟨n1, n2⟩ := List.pairwise_cons.1 hn
  have a0 := ha x (by simp)
  show (foldX m1 (putX m1 X x) l).filter p = (foldX m2 (putX m2 Y x) l).filter p
  refine fold_same hp1 hp2 l _ _ (putX_good hX) (putX_good hY) n2 (fun y hy => ?_) ?_
  ·have a1 := ha y (by simp [hy])
   have one : ∀ {me : Int} {Z : List Itm}, Apart y Z → Apart y (putX me Z x) := fun {me Z} hz u hu => by
    unfold putX at hu
    split at hu
    ·rcases ins_mem hu with rfl | hu
     ·exact n1 y hy
     ·exact hz u hu
    ·exact hz u hu
   exact ⟨one a1.1, one a1.2⟩
  ·rw [put_filter hX.1 a0.1 (fun h _ => hp1 x h), put_filter hY.1 a0.2 (fun h _ => hp2 x h), h]
theorem sold_parties {s b c : Int} {x : Itm} (h : soldB s b c x = true) : x.s = s ∧ x.b = b := by
 unfold soldB at h
 simp at h
 omega
theorem amtS_app (A B : List Itm) : amtS (A ++ B) = amtS A + amtS B := by unfold amtS; rw [List.map_append, List.sum_append]
/-- All of ElimOdd, by numbers. -/
theorem odd_pure {la : List Itm} {x : Itm} (hn : Names la) (hx : Apart x la) (hs : x.s = 0) (hb : x.b = 1) (ht : x.t = 3) (hc : chkI x = 0) (V W : List Itm) (hV : V = foldX 0 [] la) (hW : W = foldX 1 [] la) :
  (alikeB 0 1 x.c (putX 0 V x) W = false ∧ amtS (soldL 0 1 x.c (putX 0 V x)) = amtS (soldL 0 1 x.c W) + x.a) ∧ soldL 0 1 x.c (putX 0 V x) = soldL 0 1 x.c (putX 1 W x) := by
 have gV : GoodB 0 V := hV ▸ foldX_good (goodB_nil 0)
 have gW : GoodB 1 W := hW ▸ foldX_good (goodB_nil 1)
 have p1 : ∀ y : Itm, soldB 0 1 x.c y = true → (y.s = 0 ∨ y.b = 0) := fun y h => .inl (sold_parties h).1
 have p2 : ∀ y : Itm, soldB 0 1 x.c y = true → (y.s = 1 ∨ y.b = 1) := fun y h => .inr (sold_parties h).2
 have hVW : V.filter (soldB 0 1 x.c) = W.filter (soldB 0 1 x.c) := by
  rw [hV, hW]
  exact fold_same p1 p2 la [] [] (goodB_nil 0) (goodB_nil 1) hn (fun _ _ => ⟨(fun _ h => by cases h), (fun _ h => by cases h)⟩) rfl
 have aV : Apart x V := fun z hz => by
  rw [hV] at hz
  rcases fold_mem hz with h | h
  ·cases h
  ·exact hx z h
 have aW : Apart x W := fun z hz => by
  rw [hW] at hz
  rcases fold_mem hz with h | h
  ·cases h
  ·exact hx z h
 have hpx : soldB 0 1 x.c x = true := by unfold soldB; simp [hs, hb, ht]
 have e1 := put_filter (me := 0) (p := soldB 0 1 x.c) gV.1 aV (fun h _ => p1 x h)
 have e2 := put_filter (me := 1) (p := soldB 0 1 x.c) gW.1 aW (fun h _ => p2 x h)
 rw [if_pos ⟨hpx, hc⟩] at e1 e2
 have e3 := lt_gt (x := x) (sorted_filter (soldB 0 1 x.c) gW.1) (apart_filter (soldB 0 1 x.c) aW)
 have s1 : soldL 0 1 x.c (putX 0 V x) = (ltL x (W.filter (soldB 0 1 x.c))).map unC ++ [unC x] ++ (gtL x (W.filter (soldB 0 1 x.c))).map unC := by
  unfold soldL
  rw [e1, hVW]
  simp
 have s2 : soldL 0 1 x.c W = (ltL x (W.filter (soldB 0 1 x.c))).map unC ++ (gtL x (W.filter (soldB 0 1 x.c))).map unC := by
  unfold soldL
  rw [← List.map_append, e3]
 refine ⟨⟨?_, ?_⟩, ?_⟩
 ·unfold alikeB
  rw [decide_eq_false_iff_not]
  intro h
  have := congrArg List.length h
  rw [s1, s2] at this
  simp at this
 ·rw [s1, s2]
  simp only [amtS_app]
  show _ + amtS [unC x] + _ = _
  have : amtS [unC x] = x.a := by unfold amtS unC; simp
  omega
 ·unfold soldL
  rw [e1, e2, hVW]
end Go.Proofs.Ytillckkohdjkbaa
namespace Go.Proofs.Ytillckkohdjkbaa
open Go.RowKit Go.Maps
set_option linter.unusedSimpArgs false
theorem nmLaid : laidOutB Try.prog = true := by kernel_rfl
theorem nmWide : (match Try.prog.underlying 37 with | some (.array _ _) | some (.struct _) => true | _ => false) = true := by rw [Try.underlying37]
set_option maxRecDepth 100000 in
theorem nmLaw : Keyed Try.prog 37 := Keyed.of_law (deep_law_laid nmLaid (m := 2) (by omega) (of_decide_eq_true (by kernel_rfl)) (by kernel_rfl) nmWide)
def nmV (s n : Int) : Value := .agg #[.int .i64 s, .int .i64 n]
def nmK (s n : Int) : Lit := .string (keyBytes [.int .i64 s, .int .i64 n])
theorem nmKey {s n : Int} (hs : F64 s) (hn : F64 n) : keyOf Try.prog 37 (nmV s n) = some (nmK s n) := by
 have w1 : (Lit.int .i64 s).wf = true := WalkArith.wf_i64 hs
 have w2 : (Lit.int .i64 n).wf = true := WalkArith.wf_i64 hn
 have hk : Try.prog.keyType 37 = true := by kernel_rfl
 have hc : Try.prog.cellsOf 37 = 2 := by kernel_rfl
 have hc1 : Try.prog.cellsOf 3 = 1 := by kernel_rfl
 obtain ⟨m, hm⟩ : ∃ m, Try.prog.types.size = m + 1 := ⟨Try.prog.types.size - 1, by kernel_rfl⟩
 have hf : (nmV s n).formed Try.prog 37 = true := by simp [nmV, Value.formed, Try.underlying37, hc]
 unfold keyOf
 rw [Try.underlying37]
 dsimp only
 rw [hk, hf, hm]
 simp [nmV, nmK, Value.cells, Program.keyLits, Try.underlying37, Try.underlying3, hc, hc1, w1, w2]
theorem nmK_ne {s n s' n' : Int} (hs : F64 s) (hn : F64 n) (hs' : F64 s') (hn' : F64 n') (h : ¬ (s' = s ∧ n' = n)) : nmK s' n' ≠ nmK s n := by
 intro e
 have h1 := nmKey hs' hn'
 rw [e] at h1
 have := nmLaw.inj h1 (nmKey hs hn)
 unfold nmV at this
 simp at this
 exact h this
theorem zeroB (w : World) : (zeroValue 4).run Try.prog w = .ok (.bool false) w := by kernel_rfl
theorem boolInv {P : Program} {e : TypeId} (he : P.underlying e = some .bool) {v : Value} {z : DataW Unit × List MemPlace} (h : plainElem P e v = some z) : ∃ x, v = .bool x ∧ z = (.lit (.bool x), []) := by
 unfold plainElem at h
 rw [he] at h
 cases v <;> simp at h
 subst h
 exact ⟨_, rfl, rfl⟩
/-- Block b is a map of at most n names, that has d s n at each. -/
def MpK (b n : Nat) (d : Int → Int → Bool) (w : World) : Prop := ∃ D : DataW Unit, w.ownsMap Try.prog 37 (plainElem Try.prog 4) b n D ∧ Maps.IsMap D ∧ ∀ s m : Int, F64 s → F64 m → D.atKey (nmK s m) (.lit (.bool false)) = .lit (.bool (d s m))
theorem MpK.block {b n : Nat} {d : Int → Int → Bool} {w w' : World} (h : MpK b n d w) (hb : w'.heap[b]? = w.heap[b]?) : MpK b n d w' := by
 obtain ⟨D, ⟨es, clock, h1, h2⟩, h3⟩ := h
 exact ⟨D, ⟨es, clock, hb.trans h1, h2⟩, h3⟩
theorem MpK.lt {b n : Nat} {d : Int → Int → Bool} {w : World} (h : MpK b n d w) : b < w.heap.size := by
 obtain ⟨D, h1, _⟩ := h
 exact h1.lt
theorem MpK.kept {b n : Nat} {d : Int → Int → Bool} {w w' : World} (h : MpK b n d w) (hb : Below w.heap.size w w') : MpK b n d w' := h.block (hb.block b h.lt)
theorem MpK.chg {b n : Nat} {d : Int → Int → Bool} {w w' : World} {g : Nat} (h : MpK b n d w) (hc : Chg g w w') (hg : b ≠ g) : MpK b n d w' := h.block (hc.2 b h.lt hg)
theorem MpK.made (w : World) : MpK w.heap.size 0 (fun _ _ => false) (w.alloc (.map #[] 0)) := ⟨.map [], World.ownsMap_made _ _ _ _, (World.ownsMap_made (H := Unit) w Try.prog 37 (plainElem Try.prog 4)).isMap, fun _ _ _ _ => rfl⟩
theorem MpK.look {b n : Nat} {d : Int → Int → Bool} {w : World} (h : MpK b n d w) {s m : Int} (hs : F64 s) (hm : F64 m) : (Instr.lookup 43 (.map (some b)) (.agg #[.int .i64 s, .int .i64 m]) false).run Try.prog w = .ok (.bool (d s m)) w := by
 obtain ⟨D, h1, _, h2⟩ := h
 obtain ⟨v, ps, hrun, hv⟩ := h1.lookup nmLaw Try.underlying43 (zeroB w) (plainElem_bool Try.underlying4 false) (nmKey hs hm)
 obtain ⟨x, rfl, hx⟩ := boolInv Try.underlying4 hv
 have hx := congrArg Prod.fst hx
 dsimp only at hx
 rw [h2 s m hs hm] at hx
 cases hx
 exact hrun
/-- A name is put in. -/
theorem MpK.put {b n : Nat} {d : Int → Int → Bool} {w : World} (h : MpK b n d w) {s m : Int} (hs : F64 s) (hm : F64 m) (hn : n < maxLen) (v : Bool) : ∃ w', (Instr.mapUpdate 43 (.map (some b)) (.agg #[.int .i64 s, .int .i64 m]) (.bool v)).run Try.prog w = .ok () w' ∧ MpK b (n + 1) (fun s' m' => if s' = s ∧ m' = m then v else d s' m') w' ∧ Chg b w w' := by
 obtain ⟨D, h1, h0, h2⟩ := h
 obtain ⟨w', hrun, h3, hg⟩ := h1.update nmLaw Try.underlying43 hn (nmKey hs hm) (plainElem_bool Try.underlying4 v)
 refine ⟨w', hrun, ⟨_, h3, h3.isMap, fun s' m' hs' hm' => ?_⟩, ⟨Below.grown (Below.refl _ _) hg (Nat.zero_le _) (fun _ _ => Nat.zero_le _), fun i hi hne => hg.block i hi (by intro e; cases e; exact hne rfl)⟩⟩
 by_cases e : s' = s ∧ m' = m
 ·obtain ⟨rfl, rfl⟩ := e
  rw [Maps.atKey_put_same h0 (by constructor)]
  simp
 ·rw [Maps.atKey_put_other (nmK_ne hs hm hs' hm' e)]
  simp only [if_neg e]
  exact h2 s' m' hs' hm'
end Go.Proofs.Ytillckkohdjkbaa
namespace Go.Proofs.Ytillckkohdjkbaa
open Go.RowKit Go.Maps
set_option linter.unusedSimpArgs false
def itm0 : Itm := ⟨0, 0, 0, 0, 0, 0, 0, 0⟩
def datI (x : Itm) : DataW Unit := .agg [.lit (.int .i64 x.s), .lit (.int .i64 x.n), .lit (.int .i64 x.b), .lit (.int .i64 x.c), .lit (.int .i64 x.a), .lit (.int .i64 x.r), .lit (.int .i64 x.t), .lit (.int .i64 x.y)]
/-- How an item reads. -/
def rdI (v : Value) : Option (DataW Unit × List MemPlace) :=
 match v with
 | .agg ⟨[.int .i64 a, .int .i64 b, .int .i64 c, .int .i64 d, .int .i64 e, .int .i64 f, .int .i64 g, .int .i64 h]⟩ => some (datI ⟨a, b, c, d, e, f, g, h⟩, [])
 | _ => none
theorem rdI_v (x : Itm) : rdI x.v = some (datI x, []) := rfl
theorem rdI_inv {v : Value} {ps : List MemPlace} (x : Itm) (h : rdI v = some (datI x, ps)) : v = x.v := by
 unfold rdI at h
 split at h
 ·simp only [Option.some.injEq, Prod.mk.injEq] at h
  have h1 := h.1
  unfold datI at h1
  simp only [DataW.agg.injEq, List.cons.injEq, DataW.lit.injEq, Lit.int.injEq, true_and, and_true] at h1
  obtain ⟨rfl, rfl, rfl, rfl, rfl, rfl, rfl, rfl⟩ := h1
  rfl
 ·cases h
theorem zeroItm (w : World) : (zeroValue 39).run Try.prog w = .ok itm0.v w := by kernel_rfl
/-- Block b is a map of at most n names, that has the item d s m at each. -/
def MpJ (b n : Nat) (d : Int → Int → Itm) (w : World) : Prop := ∃ D : DataW Unit, w.ownsMap Try.prog 37 rdI b n D ∧ Maps.IsMap D ∧ ∀ s m : Int, F64 s → F64 m → D.atKey (nmK s m) (datI itm0) = datI (d s m)
theorem MpJ.block {b n : Nat} {d : Int → Int → Itm} {w w' : World} (h : MpJ b n d w) (hb : w'.heap[b]? = w.heap[b]?) : MpJ b n d w' := by
 obtain ⟨D, ⟨es, clock, h1, h2⟩, h3⟩ := h
 exact ⟨D, ⟨es, clock, hb.trans h1, h2⟩, h3⟩
theorem MpJ.lt {b n : Nat} {d : Int → Int → Itm} {w : World} (h : MpJ b n d w) : b < w.heap.size := by
 obtain ⟨D, h1, _⟩ := h
 exact h1.lt
theorem MpJ.mono {b n n' : Nat} {d : Int → Int → Itm} {w : World} (h : MpJ b n d w) (hn : n ≤ n') : MpJ b n' d w := by
 obtain ⟨D, h1, h3⟩ := h
 exact ⟨D, h1.mono hn, h3⟩
theorem MpJ.kept {b n : Nat} {d : Int → Int → Itm} {w w' : World} (h : MpJ b n d w) (hb : Below w.heap.size w w') : MpJ b n d w' := h.block (hb.block b h.lt)
theorem MpJ.chg {b n : Nat} {d : Int → Int → Itm} {w w' : World} {g : Nat} (h : MpJ b n d w) (hc : Chg g w w') (hg : b ≠ g) : MpJ b n d w' := h.block (hc.2 b h.lt hg)
theorem MpJ.made (w : World) : MpJ w.heap.size 0 (fun _ _ => itm0) (w.alloc (.map #[] 0)) := ⟨.map [], World.ownsMap_made _ _ _ _, (World.ownsMap_made (H := Unit) w Try.prog 37 rdI).isMap, fun _ _ _ _ => rfl⟩
theorem MpJ.look {b n : Nat} {d : Int → Int → Itm} {w : World} (h : MpJ b n d w) {s m : Int} (hs : F64 s) (hm : F64 m) : (Instr.lookup 35 (.map (some b)) (.agg #[.int .i64 s, .int .i64 m]) false).run Try.prog w = .ok (d s m).v w := by
 obtain ⟨D, h1, _, h2⟩ := h
 obtain ⟨v, ps, hrun, hv⟩ := h1.lookup nmLaw Try.underlying35 (zeroItm w) (rdI_v itm0) (nmKey hs hm)
 rw [h2 s m hs hm] at hv
 rw [rdI_inv _ hv] at hrun
 exact hrun
/-- An item is put in. -/
theorem MpJ.put {b n : Nat} {d : Int → Int → Itm} {w : World} (h : MpJ b n d w) {s m : Int} (hs : F64 s) (hm : F64 m) (hn : n < maxLen) (x : Itm) : ∃ w', (Instr.mapUpdate 35 (.map (some b)) (.agg #[.int .i64 s, .int .i64 m]) x.v).run Try.prog w = .ok () w' ∧ MpJ b (n + 1) (fun s' m' => if s' = s ∧ m' = m then x else d s' m') w' ∧ Chg b w w' := by
 obtain ⟨D, h1, h0, h2⟩ := h
 obtain ⟨w', hrun, h3, hg⟩ := h1.update nmLaw Try.underlying35 hn (nmKey hs hm) (rdI_v x)
 refine ⟨w', hrun, ⟨_, h3, h3.isMap, fun s' m' hs' hm' => ?_⟩, ⟨Below.grown (Below.refl _ _) hg (Nat.zero_le _) (fun _ _ => Nat.zero_le _), fun i hi hne => hg.block i hi (by intro e; cases e; exact hne rfl)⟩⟩
 by_cases e : s' = s ∧ m' = m
 ·obtain ⟨rfl, rfl⟩ := e
  rw [Maps.atKey_put_same h0 (by constructor)]
  simp
 ·rw [Maps.atKey_put_other (nmK_ne hs hm hs' hm' e)]
  simp only [if_neg e]
  exact h2 s' m' hs' hm'
end Go.Proofs.Ytillckkohdjkbaa
namespace Go.Proofs.Ytillckkohdjkbaa
open Go.RowKit
/-- A map that is filled with items, by their names. -/
def lookI (l : List Itm) : Int → Int → Itm := l.foldl (fun d y => fun s n => if s = y.s ∧ n = y.n then y else d s n) (fun _ _ => itm0)
theorem lookI_snoc (l : List Itm) (y : Itm) : lookI (l ++ [y]) = fun s n => if s = y.s ∧ n = y.n then y else lookI l s n := by
 unfold lookI; rw [List.foldl_append]; rfl
theorem look_other {s n : Int} : ∀ (l : List Itm) (d : Int → Int → Itm), (∀ z ∈ l, ¬ (s = z.s ∧ n = z.n)) → l.foldl (fun d y => fun s n => if s = y.s ∧ n = y.n then y else d s n) d s n = d s n
 | [], _, _ => rfl
 | a :: l, d, h => by
  rw [List.foldl_cons, look_other l _ (fun z hz => h z (by simp [hz]))]
  exact if_neg (h a (by simp))
theorem look_in {s n : Int} : ∀ (l : List Itm) (d : Int → Int → Itm), l.foldl (fun d y => fun s n => if s = y.s ∧ n = y.n then y else d s n) d s n = d s n ∨ l.foldl (fun d y => fun s n => if s = y.s ∧ n = y.n then y else d s n) d s n ∈ l
 | [], _ => .inl rfl
 | a :: l, d => by
  rw [List.foldl_cons]
  rcases look_in (s := s) (n := n) l (fun s n => if s = a.s ∧ n = a.n then a else d s n) with h | h
  ·rw [h]
   by_cases e : s = a.s ∧ n = a.n
   ·right; show (if s = a.s ∧ n = a.n then a else d s n) ∈ _; rw [if_pos e]; simp
   ·left; exact if_neg e
  ·exact .inr (List.mem_cons_of_mem _ h)
theorem look_there {l : List Itm} (hs : SortedP (l.map posI)) {y : Itm} (hy : y ∈ l) : lookI l y.s y.n = y := by
 obtain ⟨A, B, rfl⟩ := List.append_of_mem hy
 unfold lookI
 rw [List.foldl_append, List.foldl_cons, look_other B _ (fun z hz e => ?_)]
 ·exact if_pos ⟨rfl, rfl⟩
 ·unfold SortedP at hs
  rw [List.map_append, List.map_cons, List.pairwise_append] at hs
  have h1 := (List.pairwise_cons.1 hs.2.1).1 (posI z) (List.mem_map_of_mem hz)
  rw [ordP_lt] at h1
  have e1 : y.s = z.s := e.1
  have e2 : y.n = z.n := e.2
  have : (posI y).e = y.s := rfl
  have : (posI y).c = y.n := rfl
  have : (posI z).e = z.s := rfl
  have : (posI z).c = z.n := rfl
  omega
/-- Of sorted lists the one whose items are all the other's is a part of it. -/
theorem part_of : ∀ (A B : List Itm), SortedP (A.map posI) → SortedP (B.map posI) → (∀ y ∈ B, y ∈ A) → B.Sublist A
 | _, [], _, _, _ => List.nil_sublist _
 | [], y :: _, _, _, h => by have := h y (by simp); cases this
 | a :: A, y :: B, hA, hB, h => by
  have a1 := List.pairwise_cons.1 hA
  have b1 := List.pairwise_cons.1 hB
  by_cases e : y = a
  ·subst e
   refine List.Sublist.cons_cons _ (part_of A B a1.2 b1.2 (fun z hz => ?_))
   rcases List.mem_cons.1 (h z (by simp [hz])) with h2 | h2
   ·have := b1.1 (posI z) (List.mem_map_of_mem hz)
    rw [h2, ordP_lt] at this
    omega
   ·exact h2
  ·have hy : y ∈ A := (List.mem_cons.1 (h y (by simp))).resolve_left e
   refine List.Sublist.cons _ (part_of A (y :: B) a1.2 hB (fun z hz => ?_))
   rcases List.mem_cons.1 hz with rfl | hz
   ·exact hy
   ·refine (List.mem_cons.1 (h z (by simp [hz]))).resolve_left (fun e2 => ?_)
    have h1 := b1.1 (posI z) (List.mem_map_of_mem hz)
    have h2 := a1.1 (posI y) (List.mem_map_of_mem hy)
    rw [e2] at h1
    rw [ordP_lt] at h1 h2
    omega
def allAt (A B : List Itm) : Bool := B.all (fun y => decide (lookI A y.s y.n = y))
theorem allAt_snoc (A B : List Itm) (y : Itm) : allAt A (B ++ [y]) = (allAt A B && decide (lookI A y.s y.n = y)) := by
 unfold allAt; rw [List.all_append, List.all_cons, List.all_nil, Bool.and_true]
theorem alike_is {A B : List Itm} (hA : SortedP (A.map posI)) (hB : SortedP (B.map posI)) (h0 : ∀ y ∈ B, y.t = 3) : (allAt A B && decide (A.length = B.length)) = decide (A = B) := by
 rw [Bool.eq_iff_iff, Bool.and_eq_true, decide_eq_true_eq, decide_eq_true_eq]
 constructor
 ·rintro ⟨h1, h2⟩
  unfold allAt at h1
  rw [List.all_eq_true] at h1
  have hin : ∀ y ∈ B, y ∈ A := fun y hy => by
   have h3 := of_decide_eq_true (h1 y hy)
   rcases look_in (s := y.s) (n := y.n) A (fun _ _ => itm0) with h | h
   ·exfalso
    have h4 : lookI A y.s y.n = itm0 := h
    rw [h3] at h4
    have := h0 y hy
    rw [h4] at this
    revert this
    decide
   ·have h4 : lookI A y.s y.n ∈ A := h
    rw [h3] at h4
    exact h4
  exact ((part_of A B hA hB hin).eq_of_length h2.symm).symm
 ·rintro rfl
  refine ⟨?_, rfl⟩
  unfold allAt
  rw [List.all_eq_true]
  exact fun y hy => decide_eq_true (look_there hA hy)
theorem sold_sorted {X : List Itm} (s b c : Int) (h : SortedP (X.map posI)) : SortedP ((soldL s b c X).map posI) := by
 have e : (soldL s b c X).map posI = (X.filter (soldB s b c)).map posI := by
  unfold soldL
  rw [List.map_map]
  rfl
 rw [e]
 exact sorted_filter _ h
theorem sold_state {s b c : Int} {X : List Itm} : ∀ y ∈ soldL s b c X, y.t = 3 := by
 intro y hy
 unfold soldL at hy
 obtain ⟨z, hz, rfl⟩ := List.mem_map.1 hy
 have h := (List.mem_filter.1 hz).2
 unfold soldB at h
 simp at h
 exact h.1.1.1
end Go.Proofs.Ytillckkohdjkbaa
namespace Go.Proofs.Ytillckkohdjkbaa

/-- The decimal digits of a number, the least one first, no nought at the end. -/
def digs (n : Nat) : List Int := if n = 0 then [] else ((n % 10 : Nat) : Int) :: digs (n / 10)
termination_by n
decreasing_by omega
theorem digs_zero : digs 0 = [] := by rw [digs]; rfl
theorem digs_pos {n : Nat} (h : n ≠ 0) : digs n = ((n % 10 : Nat) : Int) :: digs (n / 10) := by rw [digs, if_neg h]

/-- The number of digits. -/
def val : List Int → Int
 | [] => 0
 | d :: t => d + 10 * val t
/-- Each is a digit. -/
def IsDigs (l : List Int) : Prop := ∀ d ∈ l, 0 ≤ d ∧ d ≤ 9
/-- Digits, and no nought at the end. -/
def Norm (l : List Int) : Prop := IsDigs l ∧ l.getLast? ≠ some 0

theorem IsDigs.cons {d : Int} {t : List Int} (h : IsDigs (d :: t)) : (0 ≤ d ∧ d ≤ 9) ∧ IsDigs t := ⟨h d (by simp), fun x hx => h x (by simp [hx])⟩
theorem val_nonneg {l : List Int} (h : IsDigs l) : 0 ≤ val l := by
 induction l with
 | nil => simp [val]
 | cons d t ih => obtain ⟨h1, h2⟩ := h.cons; have := ih h2; simp only [val]; omega
theorem val_digs (n : Nat) : val (digs n) = n := by
 induction n using Nat.strongRecOn with
 | _ n ih =>
  by_cases h : n = 0
  ·subst h; simp [digs_zero, val]
  ·rw [digs_pos h, val, ih (n / 10) (by omega)]; omega
theorem digs_isDigs (n : Nat) : IsDigs (digs n) := by
 induction n using Nat.strongRecOn with
 | _ n ih =>
  by_cases h : n = 0
  ·subst h; intro d hd; simp [digs_zero] at hd
  ·rw [digs_pos h]
   intro d hd
   rcases List.mem_cons.1 hd with rfl | hd
   ·omega
   ·exact ih (n / 10) (by omega) d hd
theorem digs_nil {n : Nat} : digs n = [] ↔ n = 0 := by
 constructor
 ·intro h
  by_cases e : n = 0
  ·exact e
  ·rw [digs_pos e] at h; cases h
 ·rintro rfl; exact digs_zero
theorem Norm.tail {d : Int} {t : List Int} (h : Norm (d :: t)) : Norm t := by
 refine ⟨h.1.cons.2, fun e => ?_⟩
 have h2 := h.2
 cases t with
 | nil => simp at e
 | cons x s => rw [List.getLast?_cons_cons] at h2; exact h2 e
theorem digs_norm (n : Nat) : Norm (digs n) := by
 refine ⟨digs_isDigs n, ?_⟩
 induction n using Nat.strongRecOn with
 | _ n ih =>
  by_cases h : n = 0
  ·subst h; simp [digs_zero]
  ·rw [digs_pos h]
   by_cases h10 : n / 10 = 0
   ·rw [h10, digs_zero]; simp; omega
   ·have := ih (n / 10) (by omega)
    rw [digs_pos h10] at this ⊢
    rw [List.getLast?_cons_cons]; exact this
/-- There is one way alone to write a number. -/
theorem norm_digs {l : List Int} (h : Norm l) : l = digs (val l).toNat := by
 induction l with
 | nil => simp [val, digs_zero]
 | cons d t ih =>
  have it := ih h.tail
  obtain ⟨⟨h1, h2⟩, h3⟩ := h.1.cons
  have hv := val_nonneg h3
  have hne : (val (d :: t)).toNat ≠ 0 := by
   simp only [val]
   intro e
   have h0 : val t = 0 := by omega
   have hd : d = 0 := by omega
   rw [h0] at it
   simp [digs_zero] at it
   subst it
   exact h.2 (by simp [hd])
  rw [digs_pos hne]
  simp only [val]
  rw [show ((((d + 10 * val t).toNat % 10 : Nat)) : Int) = d by omega, show (d + 10 * val t).toNat / 10 = (val t).toNat by omega, ← it]

theorem val_append (a b : List Int) : val (a ++ b) = val a + 10 ^ a.length * val b := by
 induction a with
 | nil => simp [val]
 | cons d t ih =>
  rw [List.cons_append, val, ih, val, List.length_cons, Int.pow_succ, Int.mul_add, Int.mul_comm (10 ^ t.length) 10, ← Int.mul_assoc, Int.add_assoc]
theorem val_lt {l : List Int} (h : IsDigs l) : val l < 10 ^ l.length := by
 induction l with
 | nil => simp [val]
 | cons d t ih =>
  obtain ⟨h1, h2⟩ := h.cons
  have := ih h2
  rw [val, List.length_cons, Int.pow_succ]; omega
theorem digs_length (n k : Nat) (h : n < 10 ^ k) : (digs n).length ≤ k := by
 induction k generalizing n with
 | zero =>
  have : n = 0 := by simpa using h
  subst this; simp [digs_zero]
 | succ k ih =>
  by_cases e : n = 0
  ·subst e; simp [digs_zero]
  ·rw [digs_pos e, List.length_cons]
   have := ih (n / 10) (by rw [Nat.pow_succ] at h; omega)
   omega

/-- Without noughts at the end. -/
def trimL (l : List Int) : List Int := (l.reverse.dropWhile (· == 0)).reverse
theorem trimL_snoc_zero (l : List Int) : trimL (l ++ [0]) = trimL l := by simp [trimL]
theorem trimL_snoc {d : Int} (l : List Int) (h : d ≠ 0) : trimL (l ++ [d]) = l ++ [d] := by simp [trimL, h]
theorem trimL_nil : trimL [] = [] := rfl
theorem snoc_cases (l : List Int) : l = [] ∨ ∃ t d, l = t ++ [d] := by
 rcases l.eq_nil_or_concat with h | ⟨t, d, h⟩
 ·exact .inl h
 ·exact .inr ⟨t, d, by simpa using h⟩
theorem trimL_spec (n : Nat) : ∀ l : List Int, l.length = n → IsDigs l → Norm (trimL l) ∧ val (trimL l) = val l ∧ (trimL l).length ≤ n := by
 induction n with
 | zero => intro l hl _; rw [List.length_eq_zero_iff] at hl; subst hl; simp [trimL_nil, Norm, IsDigs]
 | succ n ih =>
  intro l hl hd
  rcases snoc_cases l with rfl | ⟨t, d, rfl⟩
  ·simp at hl
  ·have ht : IsDigs t := fun x hx => hd x (by simp [hx])
   by_cases h0 : d = 0
   ·subst h0
    rw [trimL_snoc_zero]
    obtain ⟨a, b, c⟩ := ih t (by simpa using hl) ht
    exact ⟨a, by rw [b, val_append]; simp [val], by omega⟩
   ·rw [trimL_snoc t h0]
    exact ⟨⟨hd, by simpa using h0⟩, rfl, by omega⟩
end Go.Proofs.Ytillckkohdjkbaa
namespace Go.Proofs.Ytillckkohdjkbaa

def plusC : List Int → List Int → Int → List Int
 | [], [], c => if c = 0 then [] else [c]
 | x :: a, [], c => ((c + x) % 10) :: plusC a [] ((c + x) / 10)
 | [], y :: b, c => ((c + y) % 10) :: plusC [] b ((c + y) / 10)
 | x :: a, y :: b, c => ((c + x + y) % 10) :: plusC a b ((c + x + y) / 10)

theorem plusC_spec : ∀ (a b : List Int) (c : Int), IsDigs a → IsDigs b → 0 ≤ c → c ≤ 1 →
  IsDigs (plusC a b c) ∧ val (plusC a b c) = val a + val b + c ∧ (plusC a b c).length ≤ a.length + b.length + 1
 | [], [], c, _, _, h0, h1 => by
  unfold plusC
  split
  ·simp [IsDigs, val]; omega
  ·simp [IsDigs, val]; omega
 | x :: a, [], c, ha, hb, h0, h1 => by
  obtain ⟨hx, ha'⟩ := ha.cons
  obtain ⟨r1, r2, r3⟩ := plusC_spec a [] ((c + x) / 10) ha' hb (by omega) (by omega)
  unfold plusC
  refine ⟨fun d hd => ?_, ?_, ?_⟩
  ·rcases List.mem_cons.1 hd with rfl | hd
   ·omega
   ·exact r1 d hd
  ·simp only [val] at r2 ⊢; omega
  ·simp only [List.length_cons, List.length_nil] at r3 ⊢; omega
 | [], y :: b, c, ha, hb, h0, h1 => by
  obtain ⟨hy, hb'⟩ := hb.cons
  obtain ⟨r1, r2, r3⟩ := plusC_spec [] b ((c + y) / 10) ha hb' (by omega) (by omega)
  unfold plusC
  refine ⟨fun d hd => ?_, ?_, ?_⟩
  ·rcases List.mem_cons.1 hd with rfl | hd
   ·omega
   ·exact r1 d hd
  ·simp only [val] at r2 ⊢; omega
  ·simp only [List.length_cons, List.length_nil] at r3 ⊢; omega
 | x :: a, y :: b, c, ha, hb, h0, h1 => by
  obtain ⟨hx, ha'⟩ := ha.cons
  obtain ⟨hy, hb'⟩ := hb.cons
  obtain ⟨r1, r2, r3⟩ := plusC_spec a b ((c + x + y) / 10) ha' hb' (by omega) (by omega)
  unfold plusC
  refine ⟨fun d hd => ?_, ?_, ?_⟩
  ·rcases List.mem_cons.1 hd with rfl | hd
   ·omega
   ·exact r1 d hd
  ·simp only [val] at r2 ⊢; omega
  ·simp only [List.length_cons] at r3 ⊢; omega

theorem drop_cases (a : List Int) (i : Nat) : (i < a.length ∧ a.drop i = a.getD i 0 :: a.drop (i + 1)) ∨ (a.length ≤ i ∧ a.drop i = [] ∧ a.drop (i + 1) = [] ∧ a.getD i 0 = 0) := by
 by_cases h : i < a.length
 ·left
  refine ⟨h, ?_⟩
  rw [List.getD_eq_getElem?_getD, List.getElem?_eq_getElem h]
  exact List.drop_eq_getElem_cons h
 ·right
  refine ⟨by omega, by rw [List.drop_eq_nil_iff]; omega, by rw [List.drop_eq_nil_iff]; omega, ?_⟩
  rw [List.getD_eq_getElem?_getD, List.getElem?_eq_none (by omega)]; rfl

/-- A round of the sum. -/
theorem plusC_step (a b : List Int) (i : Nat) (c : Int) (h0 : 0 ≤ c) (h1 : c ≤ 1) (h : i < a.length ∨ i < b.length ∨ 0 < c) :
  plusC (a.drop i) (b.drop i) c = ((c + a.getD i 0 + b.getD i 0) % 10) :: plusC (a.drop (i + 1)) (b.drop (i + 1)) ((c + a.getD i 0 + b.getD i 0) / 10) := by
 rcases drop_cases a i with ⟨ha, ea⟩ | ⟨ha, ea, ea', ga⟩ <;> rcases drop_cases b i with ⟨hb, eb⟩ | ⟨hb, eb, eb', gb⟩
 ·rw [ea, eb, plusC]
 ·rw [ea, eb, eb', gb, plusC, Int.add_zero]
 ·rw [ea, eb, ea', ga, plusC, Int.add_zero]
 ·obtain rfl : c = 1 := by omega
  rw [ea, eb, ea', eb', ga, gb]; simp [plusC]
theorem plusC_stop (a b : List Int) (i : Nat) (ha : a.length ≤ i) (hb : b.length ≤ i) : plusC (a.drop i) (b.drop i) 0 = [] := by
 rw [List.drop_eq_nil_iff.2 ha, List.drop_eq_nil_iff.2 hb]; simp [plusC]

def minusC : List Int → List Int → Int → List Int
 | [], _, _ => []
 | x :: a, b, c => (if x - c - b.headD 0 < 0 then x - c - b.headD 0 + 10 else x - c - b.headD 0) :: minusC a b.tail (if x - c - b.headD 0 < 0 then 1 else 0)

theorem minusC_length : ∀ (a b : List Int) (c : Int), (minusC a b c).length = a.length
 | [], _, _ => rfl
 | x :: a, b, c => by rw [minusC, List.length_cons, List.length_cons, minusC_length]
theorem headD_tail {b : List Int} (h : IsDigs b) : 0 ≤ b.headD 0 ∧ b.headD 0 ≤ 9 ∧ IsDigs b.tail ∧ val b = b.headD 0 + 10 * val b.tail := by
 cases b with
 | nil => simp [val, IsDigs]
 | cons y t => obtain ⟨h1, h2⟩ := h.cons; exact ⟨h1.1, h1.2, h2, rfl⟩
theorem minusC_spec : ∀ (a b : List Int) (c : Int), IsDigs a → IsDigs b → 0 ≤ c → c ≤ 1 → val b + c ≤ val a →
  IsDigs (minusC a b c) ∧ val (minusC a b c) = val a - val b - c
 | [], b, c, _, hb, h0, h1, h => by
  have := val_nonneg hb
  simp only [minusC, val] at *
  exact ⟨fun _ h => by simp at h, by omega⟩
 | x :: a, b, c, ha, hb, h0, h1, h => by
  obtain ⟨hx, ha'⟩ := ha.cons
  obtain ⟨y0, y1, hb', ev⟩ := headD_tail hb
  rw [ev] at h ⊢
  have hva := val_nonneg ha'
  have hvb := val_nonneg hb'
  simp only [val] at h
  obtain ⟨r1, r2⟩ := minusC_spec a b.tail (if x - c - b.headD 0 < 0 then 1 else 0) ha' hb' (by split <;> omega) (by split <;> omega) (by split <;> omega)
  rw [minusC]
  refine ⟨fun d hd => ?_, ?_⟩
  ·rcases List.mem_cons.1 hd with rfl | hd
   ·split <;> omega
   ·exact r1 d hd
  ·simp only [val]; rw [r2]; split <;> omega
/-- A round of the difference. -/
theorem minusC_step (a b : List Int) (i : Nat) (c : Int) (h : i < a.length) :
  minusC (a.drop i) (b.drop i) c = (if a.getD i 0 - c - b.getD i 0 < 0 then a.getD i 0 - c - b.getD i 0 + 10 else a.getD i 0 - c - b.getD i 0) ::
   minusC (a.drop (i + 1)) (b.drop (i + 1)) (if a.getD i 0 - c - b.getD i 0 < 0 then 1 else 0) := by
 rcases drop_cases a i with ⟨ha, ea⟩ | ⟨ha, _⟩
 ·rw [ea, minusC]
  have e1 : (b.drop i).headD 0 = b.getD i 0 := by
   rcases drop_cases b i with ⟨_, eb⟩ | ⟨_, eb, _, gb⟩
   ·rw [eb]; rfl
   ·rw [eb, gb]; rfl
  rw [e1, List.tail_drop]
 ·omega
theorem minusC_stop (a b : List Int) (i : Nat) (c : Int) (ha : a.length ≤ i) : minusC (a.drop i) (b.drop i) c = [] := by
 rw [List.drop_eq_nil_iff.2 ha]; rfl

theorem norm_ge {l : List Int} (h : Norm l) (hl : l ≠ []) : (10 : Int) ^ (l.length - 1) ≤ val l := by
 rcases snoc_cases l with rfl | ⟨t, d, rfl⟩
 ·exact absurd rfl hl
 ·have hd := h.1 d (by simp)
  have hne : d ≠ 0 := fun e => h.2 (by simp [e])
  have ht : IsDigs t := fun x hx => h.1 x (by simp [hx])
  have := val_nonneg ht
  rw [val_append]
  simp only [val, List.length_append, List.length_cons, List.length_nil, Nat.zero_add, Nat.add_sub_cancel]
  have hp : (0 : Int) ≤ 10 ^ t.length := Int.pow_nonneg (by decide)
  have h2 : (10 : Int) ^ t.length * 1 ≤ 10 ^ t.length * (d + 10 * 0) := Int.mul_le_mul_of_nonneg_left (by omega) hp
  omega
theorem pow10_mono {m n : Nat} (h : m ≤ n) : (10 : Int) ^ m ≤ 10 ^ n := by
 obtain ⟨k, rfl⟩ := Nat.exists_eq_add_of_le h
 rw [Int.pow_add]
 have h1 : (0 : Int) ≤ 10 ^ m := Int.pow_nonneg (by decide)
 have h2 : (1 : Int) ≤ 10 ^ k := by have := Int.pow_pos (n := 10) (m := k) (by decide); omega
 have := Int.mul_le_mul_of_nonneg_left h2 h1
 omega
/-- Shorter is less. -/
theorem less_short {a b : List Int} (ha : Norm a) (hb : Norm b) (h : a.length < b.length) : val a < val b := by
 have h1 := val_lt ha.1
 have h2 := norm_ge hb (by rintro rfl; simp at h)
 have h3 := pow10_mono (m := a.length) (n := b.length - 1) (by omega)
 omega
/-- Alike from i + 1 on, unlike at i: that digit decides. -/
theorem less_at {a b : List Int} (ha : IsDigs a) (hb : IsDigs b) (i : Nat) (h : i < a.length) (hl : a.length = b.length) (ht : a.drop (i + 1) = b.drop (i + 1)) (hne : a.getD i 0 < b.getD i 0) : val a < val b := by
 have ea : a = a.take i ++ (a.getD i 0 :: a.drop (i + 1)) := by
  rcases drop_cases a i with ⟨_, e⟩ | ⟨e, _⟩
  ·rw [← e, List.take_append_drop]
  ·omega
 have eb : b = b.take i ++ (b.getD i 0 :: b.drop (i + 1)) := by
  rcases drop_cases b i with ⟨_, e⟩ | ⟨e, _⟩
  ·rw [← e, List.take_append_drop]
  ·omega
 have la : (a.take i).length = i := by rw [List.length_take]; omega
 have lb : (b.take i).length = i := by rw [List.length_take]; omega
 have da : IsDigs (a.take i) := fun d hd => ha d (List.mem_of_mem_take hd)
 have db : IsDigs (b.take i) := fun d hd => hb d (List.mem_of_mem_take hd)
 have va := val_lt da
 have vb := val_nonneg db
 rw [ea, eb, val_append, val_append, la, lb, ht]
 rw [la] at va
 simp only [val]
 have hp : (0 : Int) ≤ 10 ^ i := Int.pow_nonneg (by decide)
 have h2 : (10 : Int) ^ i * (a.getD i 0 + 10 * val (b.drop (i + 1)) + 1) ≤ 10 ^ i * (b.getD i 0 + 10 * val (b.drop (i + 1))) := Int.mul_le_mul_of_nonneg_left (by omega) hp
 rw [Int.mul_add, Int.mul_one] at h2
 omega
end Go.Proofs.Ytillckkohdjkbaa
namespace Go.Proofs.Ytillckkohdjkbaa
open Go.RowKit

theorem info_int : (Try.prog.info? 3).map (fun i => (i.zero, i.size, i.bytes)) = some (some (.int .i64 0), 1, 8) := by kernel_rfl

/-- What the slice owns is read as a row. -/
theorem Row.owned {w : World} {B : Nat} {T : TypeId} {v : Value} {zs : List Int} (h : w.ownsRow B T 1 v zs.length (zs.map (Value.int .i64))) : Row .i64 w v zs := by
 obtain ⟨h1, h2 | ⟨g, cap, cur, rfl, hb, hg, hn, hm, hs, ht⟩⟩ := h
 ·obtain ⟨rfl, h2⟩ := h2
  exact ⟨none, 0, by rw [h2], by omega, .inl (List.length_eq_zero_iff.1 h2)⟩
 ·refine ⟨_, cap, rfl, hn, .inr ⟨g, 0, rfl, fun i hi => ?_⟩⟩
  rw [Nat.mul_one] at ht
  rw [cell_of_row w g (0 + i) cur T (0, 0) hg, Nat.zero_add]
  have := congrArg (fun l => l[i]?) ht
  simp only [List.getElem?_take, List.getElem?_map, if_pos hi] at this
  rw [List.getElem?_eq_getElem hi] at this
  rw [List.getD_eq_getElem?_getD, List.getElem?_eq_getElem hi]
  simpa using this

/-- The number x, written out: whether it is below 0, and its digits. -/
def IsBig (w : World) (v : Value) (x : Int) : Prop := ∃ s, v = .agg #[.bool (decide (x < 0)), s] ∧ Row .i64 w s (digs x.natAbs)

/-- What the loop keeps: the digits so far, what is left, the block of the answer. -/
def FromRel (a : Int) (H : Nat) (w : World) (m : Nat) (s : Value) (xs : List Int) (wr : World) : Prop :=
 digs a.natAbs = xs ++ digs m ∧ Blk wr (H + 1) #[.bool (decide (a < 0)), s] 63 ∧ Blk wr H #[.bool false, .slice none 0 0] 63 ∧
  wr.ownsRow (H + 2) 3 1 s xs.length (xs.map (Value.int .i64)) ∧ Below H w wr

theorem FromRel.step {a : Int} {H : Nat} {w wr w1 : World} {m : Nat} {s s' : Value} {xs : List Int} (h : FromRel a H w m s xs wr) (hm : m ≠ 0) (o : Obj)
  (hown : w1.ownsRow (H + 2) 3 1 s' (xs.length + 1) (xs.map (Value.int .i64) ++ [.int .i64 ((m % 10 : Nat) : Int)])) (hg : (wr.alloc o).grownBy w1 s.ownBlock) :
  FromRel a H w (m / 10) s' (xs ++ [((m % 10 : Nat) : Int)]) (w1.setCell ⟨H + 1, 1, none⟩ s') := by
 obtain ⟨h1, h2, h3, h4, h5⟩ := h
 have g2 := (h2.alloc o).grown hg (ownBlock_ne h4 (by omega))
 have g3 := (h3.alloc o).grown hg (ownBlock_ne h4 (by omega))
 refine ⟨by rw [h1, digs_pos hm]; simp, g2.set 1 s', g3.setOther (by simp) s', ?_, ?_⟩
 ·have := ownsRow_setCell_below hown (a := ⟨H + 1, 1, none⟩) (by simp) s'
  simpa using this
 ·have hH := h3.lt
  have b1 := (h5.alloc (by omega) o).grown hg (by have := hH; simp; omega) (fun k hk => by have := (h4.lt k hk).1; omega)
  exact b1.setCell (by simp) _

theorem digs_len_of {n k : Nat} {xs : List Int} {m : Nat} (h : digs n = xs ++ digs m) (hn : n < 10 ^ k) : xs.length ≤ k := by
 have h1 := digs_length n k hn
 rw [h, List.length_append] at h1
 omega

set_option maxHeartbeats 1000000 in
set_option maxRecDepth 100000 in
theorem from_pos (a : Int) (w : World) (h0 : 0 ≤ a) (h1 : a ≤ 9223372036854775807) :
  Calls Try.prog 20 #[.int .i64 a] w fun e w' => ∃ v, e = .returned v ∧ IsBig w' v a ∧ Below w.heap.size w w' := by
 obtain ⟨i0, hi, hz0, hz1, hz2⟩ := info_parts info_int
 have hneg : decide (a < 0) = false := by simpa using h0
 have hn : Hid (a.natAbs < 10 ^ 19) := by show a.natAbs < 10 ^ 19; omega
 go_enter Try.func20, Try.ntmps20
 go_wp2
 go_loopw [0] (fun va wr => ∃ (m : Nat) (xs : List Int) (s : Value), va = .int .i64 m ∧ (m : Int) ≤ 9223372036854775807 ∧ FromRel a w.heap.size w m s xs wr) (fun va _ => (intOf va).toNat)
 case atStart =>
  refine ⟨a.natAbs, [], .slice none 0 0, ?_, by omega, rfl, ?_, ?_, World.ownsRow_nil _ _ _ _, ?_⟩
  ·congr 1; omega
  ·rw [hneg]; exact Blk.new' _ _ _ (by simp)
  ·exact (Blk.new _ _ _).alloc _
  ·exact ((Below.refl _ _).alloc (Nat.le_refl _) _).alloc (by simp) _
 case round =>
  obtain ⟨m, xs, s, rfl, hm, hR⟩ := hrel
  have hc0 : wr.cell? ⟨w.heap.size + 1, 0, none⟩ = some (.bool false) := by rw [hR.2.1.cell 0, hneg]; rfl
  have hc1 : wr.cell? ⟨w.heap.size + 1, 1, none⟩ = some s := hR.2.1.cell 1
  have hfr := hR.2.1.free 1
  have ha0 : wr.cell? ⟨w.heap.size, 0, none⟩ = some (.bool false) := hR.2.2.1.cell 0
  have ha1 : wr.cell? ⟨w.heap.size, 1, none⟩ = some (.slice none 0 0) := hR.2.2.1.cell 1
  have hf0 := hR.2.2.1.free 0
  have hf1 := hR.2.2.1.free 1
  have hlen := digs_len_of hR.1 hn.out
  have hsz := hR.2.1.lt
  have HR := Lib.hid hR
  clear hR
  obtain ⟨p, c, rfl⟩ := owned_slice HR.out.2.2.2.1
  by_cases hz : m = 0
  ·subst hz
   go_wp2
   have hR := HR.out
   have hf : Blk ((wr.setCell ⟨w.heap.size, 0, none⟩ (.bool false)).setCell ⟨w.heap.size, 1, none⟩ (.slice p xs.length c)) w.heap.size #[.bool false, .slice p xs.length c] 63 := (hR.2.2.1.set 0 _).set 1 _
   refine bodyPost_ret (v := .agg #[.bool false, .slice p xs.length c]) (by simp [results, Try.results20, go_sem, hf.cell 0, hf.cell 1]) rfl ?_
   have hb := ((hR.2.2.2.2.setCell (p := ⟨w.heap.size, 0, none⟩) (by simp) (.bool false)).setCell (p := ⟨w.heap.size, 1, none⟩) (by simp) (.slice p xs.length c))
   refine ⟨_, rfl, ⟨_, by rw [hneg], ?_⟩, hb⟩
   have hd : digs a.natAbs = xs := by rw [hR.1, digs_zero, List.append_nil]
   rw [hd]
   exact Row.owned (ownsRow_setCell_below (ownsRow_setCell_below hR.2.2.2.1 (a := ⟨w.heap.size, 0, none⟩) (by simp) _) (a := ⟨w.heap.size, 1, none⟩) (by simp) _)
  ·have hzb : ((m : Int) != 0) = true := by simpa using hz
   go_wp2_with (at_builtin; refine wpList_append_own _ rfl _ _ 61 rfl (w.heap.size + 2) 3 i0 (.int .i64 0) 1 8 Try.underlying61 hi hz0 hz1 hz2 rfl (by decide) _ _ _ rfl (HR.out.2.2.2.1.alloc _) ⟨wr.heap.size, 0, none⟩ 1 1 [.int .i64 ((m : Int) % 10)] rfl rfl ?c1 ?c2 ?c3 ?c4 ?c5 ?_)
   case c1 => exact one_new _ _ _
   case c2 => exact one_cells _ _
   case c3 => unfold maxLen; omega
   case c4 => omega
   case c5 => simp; omega
   ·intro v' w1 hown hgrow _
    have hst := HR.out.step hz _ hown hgrow
    obtain ⟨p', c', rfl⟩ := owned_slice hown
    have hb1 := (HR.out.2.1.alloc (.cells #[.int .i64 ((m : Int) % 10)] 3)).grown hgrow (ownBlock_ne HR.out.2.2.2.1 (by omega))
    have hcw : w1.cell? ⟨w.heap.size + 1, 1, none⟩ = some (.slice p xs.length c) := hb1.cell 1
    have hfw := hb1.free 1
    have HST := Lib.hid hst
    clear hst hown hgrow hb1
    go_wp2
    go_roundw
    case rel => exact ⟨m / 10, xs ++ [((m % 10 : Nat) : Int)], _, by go_num, by omega, by simpa using HST.out⟩
    case measure => simp [intOf]; omega
set_option maxHeartbeats 1000000 in
set_option maxRecDepth 100000 in
theorem from_neg (a : Int) (w : World) (h0 : a < 0) (h1 : -9223372036854775808 ≤ a) :
  Calls Try.prog 20 #[.int .i64 a] w fun e w' => ∃ v, e = .returned v ∧ IsBig w' v a ∧ Below w.heap.size w w' := by
 obtain ⟨i0, hi, hz0, hz1, hz2⟩ := info_parts info_int
 have hneg : decide (a < 0) = true := by simpa using h0
 have hn : Hid (a.natAbs < 10 ^ 19) := by show a.natAbs < 10 ^ 19; omega
 go_enter Try.func20, Try.ntmps20
 go_wp2
 go_loopw [0] (fun va wr => ∃ (m : Nat) (xs : List Int) (s : Value), va = .int .i64 (-(m : Int)) ∧ (m : Int) ≤ 9223372036854775808 ∧ FromRel a w.heap.size w m s xs wr) (fun va _ => (intOf va).natAbs)
 case atStart =>
  refine ⟨a.natAbs, [], .slice none 0 0, ?_, by omega, rfl, ?_, ?_, World.ownsRow_nil _ _ _ _, ?_⟩
  ·congr 1; omega
  ·rw [hneg]; exact Blk.new' _ _ _ (by simp)
  ·exact (Blk.new _ _ _).alloc _
  ·exact ((Below.refl _ _).alloc (Nat.le_refl _) _).alloc (by simp) _
 case round =>
  obtain ⟨m, xs, s, rfl, hm, hR⟩ := hrel
  have hc0 : wr.cell? ⟨w.heap.size + 1, 0, none⟩ = some (.bool true) := by rw [hR.2.1.cell 0, hneg]; rfl
  have hc1 : wr.cell? ⟨w.heap.size + 1, 1, none⟩ = some s := hR.2.1.cell 1
  have hfr := hR.2.1.free 1
  have ha0 : wr.cell? ⟨w.heap.size, 0, none⟩ = some (.bool false) := hR.2.2.1.cell 0
  have ha1 : wr.cell? ⟨w.heap.size, 1, none⟩ = some (.slice none 0 0) := hR.2.2.1.cell 1
  have hf0 := hR.2.2.1.free 0
  have hf1 := hR.2.2.1.free 1
  have hlen := digs_len_of hR.1 hn.out
  have hsz := hR.2.1.lt
  have HR := Lib.hid hR
  clear hR
  obtain ⟨p, c, rfl⟩ := owned_slice HR.out.2.2.2.1
  by_cases hz : m = 0
  ·subst hz
   go_wp2
   have hR := HR.out
   have hf : Blk ((wr.setCell ⟨w.heap.size, 0, none⟩ (.bool true)).setCell ⟨w.heap.size, 1, none⟩ (.slice p xs.length c)) w.heap.size #[.bool true, .slice p xs.length c] 63 := (hR.2.2.1.set 0 _).set 1 _
   refine bodyPost_ret (v := .agg #[.bool true, .slice p xs.length c]) (by simp [results, Try.results20, go_sem, hf.cell 0, hf.cell 1]) rfl ?_
   have hb := ((hR.2.2.2.2.setCell (p := ⟨w.heap.size, 0, none⟩) (by simp) (.bool true)).setCell (p := ⟨w.heap.size, 1, none⟩) (by simp) (.slice p xs.length c))
   refine ⟨_, rfl, ⟨_, by rw [hneg], ?_⟩, hb⟩
   have hd : digs a.natAbs = xs := by rw [hR.1, digs_zero, List.append_nil]
   rw [hd]
   exact Row.owned (ownsRow_setCell_below (ownsRow_setCell_below hR.2.2.2.1 (a := ⟨w.heap.size, 0, none⟩) (by simp) _) (a := ⟨w.heap.size, 1, none⟩) (by simp) _)
  ·have hzb : (-(m : Int) != 0) = true := by simpa using hz
   have hdiv : (-(m : Int)).tdiv 10 = -((m : Int) / 10) := by rw [Int.neg_tdiv, Int.tdiv_eq_ediv_of_nonneg (by omega)]
   have hmod : (-(m : Int)).tmod 10 = -((m : Int) % 10) := by rw [Int.neg_tmod, Int.tmod_eq_emod_of_nonneg (by omega)]
   by_cases h10 : (m : Int) % 10 = 0
   ·have hmod0 : (-(m : Int)).tmod 10 = 0 := by rw [hmod, h10]; rfl
    clear hmod
    go_wp2_with (at_builtin; refine wpList_append_own _ rfl _ _ 61 rfl (w.heap.size + 2) 3 i0 (.int .i64 0) 1 8 Try.underlying61 hi hz0 hz1 hz2 rfl (by decide) _ _ _ rfl (HR.out.2.2.2.1.alloc _) ⟨wr.heap.size, 0, none⟩ 1 1 [.int .i64 0] rfl rfl ?c1 ?c2 ?c3 ?c4 ?c5 ?_)
    case c1 => exact one_new _ _ _
    case c2 => exact one_cells _ _
    case c3 => unfold maxLen; omega
    case c4 => omega
    case c5 => simp; omega
    intro v' w1 hown hgrow _
    have hst := HR.out.step hz (.cells #[.int .i64 0] 3) (by rw [show ((m % 10 : Nat) : Int) = 0 by omega]; exact hown) hgrow
    obtain ⟨p', c', rfl⟩ := owned_slice hown
    have hb1 := (HR.out.2.1.alloc (.cells #[.int .i64 0] 3)).grown hgrow (ownBlock_ne HR.out.2.2.2.1 (by omega))
    have hcw : w1.cell? ⟨w.heap.size + 1, 1, none⟩ = some (.slice p xs.length c) := hb1.cell 1
    have hfw := hb1.free 1
    have HST := Lib.hid hst
    clear hst hown hgrow hb1
    go_wp2
    go_roundw
    case rel => exact ⟨m / 10, xs ++ [((m % 10 : Nat) : Int)], _, by go_num, by omega, by simpa using HST.out⟩
    case measure => simp [intOf]; omega
   ·have hpos : 0 < (m : Int) % 10 := by omega
    go_wp2_with (at_builtin; refine wpList_append_own _ rfl _ _ 61 rfl (w.heap.size + 2) 3 i0 (.int .i64 0) 1 8 Try.underlying61 hi hz0 hz1 hz2 rfl (by decide) _ _ _ rfl (HR.out.2.2.2.1.alloc _) ⟨wr.heap.size, 0, none⟩ 1 1 [.int .i64 ((m : Int) % 10)] rfl rfl ?c1 ?c2 ?c3 ?c4 ?c5 ?_)
    case c1 => exact one_new _ _ _
    case c2 => exact one_cells _ _
    case c3 => unfold maxLen; omega
    case c4 => omega
    case c5 => simp; omega
    intro v' w1 hown hgrow _
    have hst := HR.out.step hz (.cells #[.int .i64 ((m : Int) % 10)] 3) (by rw [show ((m % 10 : Nat) : Int) = ((m : Int) % 10) by omega]; exact hown) hgrow
    obtain ⟨p', c', rfl⟩ := owned_slice hown
    have hb1 := (HR.out.2.1.alloc (.cells #[.int .i64 ((m : Int) % 10)] 3)).grown hgrow (ownBlock_ne HR.out.2.2.2.1 (by omega))
    have hcw : w1.cell? ⟨w.heap.size + 1, 1, none⟩ = some (.slice p xs.length c) := hb1.cell 1
    have hfw := hb1.free 1
    have HST := Lib.hid hst
    clear hst hown hgrow hb1
    go_wp2
    go_roundw
    case rel => exact ⟨m / 10, xs ++ [((m % 10 : Nat) : Int)], _, by go_num, by omega, by simpa using HST.out⟩
    case measure => simp [intOf]; omega
theorem from_any (a : Int) (w : World) (ha : Fits a) :
  Calls Try.prog 20 #[.int .i64 a] w fun e w' => ∃ v, e = .returned v ∧ IsBig w' v a ∧ Below w.heap.size w w' := by
 by_cases h : 0 ≤ a
 ·exact from_pos a w h ha.2
 ·exact from_neg a w (by omega) ha.1
end Go.Proofs.Ytillckkohdjkbaa
namespace Go.Proofs.Ytillckkohdjkbaa
open Go.RowKit

theorem Row.take {k : IntKind} {w : World} {p : Option Addr} {c n : Nat} {zs : List Int} (h : Row k w (.slice p zs.length c) zs) (hn : n ≤ zs.length) : Row k w (.slice p n c) (zs.take n) := by
 obtain ⟨p', c', e, hc, h⟩ := h
 cases e
 have hl : (zs.take n).length = n := by rw [List.length_take]; omega
 refine ⟨p, c, by rw [hl], by omega, ?_⟩
 rcases h with h | ⟨b, o, rfl, h⟩
 ·subst h; simp
 ·by_cases h0 : n = 0
  ·left; subst h0; simp
  ·refine .inr ⟨b, o, rfl, fun i hi => ?_⟩
   rw [hl] at hi
   rw [h i (by omega), List.getD_eq_getElem?_getD, List.getD_eq_getElem?_getD, List.getElem?_take, if_pos hi]

/-- What a row of ints holds at i, where it has such a place. -/
theorem Row.at {k : IntKind} {w : World} {p : Option Addr} {c n : Nat} {zs : List Int} (h : Row k w (.slice p n c) zs) (i : Nat) (hi : i < zs.length) : ∃ b o, p = some ⟨b, o, none⟩ ∧ w.cell? ⟨b, o + i, none⟩ = some (.int k (zs.getD i 0)) := by
 obtain ⟨p', c', e, _, h⟩ := h
 cases e
 rcases h with rfl | ⟨b, o, rfl, h⟩
 ·simp at hi
 ·exact ⟨b, o, rfl, h i hi⟩

theorem trimL_of {l : List Int} (n : Nat) (h : n ≤ l.length) (hz : ∀ j, n ≤ j → j < l.length → l.getD j 0 = 0) : trimL l = trimL (l.take n) := by
 obtain ⟨k, hk⟩ := Nat.exists_eq_add_of_le h
 induction k generalizing n with
 | zero => rw [List.take_of_length_le (by omega)]
 | succ k ih =>
  rw [ih (n + 1) (by omega) (fun j a b => hz j (by omega) b) (by omega)]
  have : l.take (n + 1) = l.take n ++ [0] := by
   rw [List.take_succ_eq_append_getElem (by omega)]
   have := hz n (Nat.le_refl _) (by omega)
   rw [List.getD_eq_getElem?_getD, List.getElem?_eq_getElem (by omega)] at this
   rw [show l[n] = 0 by simpa using this]
  rw [this, trimL_snoc_zero]
theorem trimL_take {l : List Int} (n : Nat) (h : n ≤ l.length) (hn : n = 0 ∨ l.getD (n - 1) 0 ≠ 0) : trimL (l.take n) = l.take n := by
 rcases hn with rfl | hn
 ·simp [trimL_nil]
 ·by_cases h0 : n = 0
  ·subst h0; simp [trimL_nil]
  ·obtain ⟨m, rfl⟩ : ∃ m, n = m + 1 := ⟨n - 1, by omega⟩
   rw [List.take_succ_eq_append_getElem (by omega)]
   apply trimL_snoc
   rw [List.getD_eq_getElem?_getD, Nat.add_sub_cancel, List.getElem?_eq_getElem (by omega)] at hn
   simpa using hn

theorem trim_any (v : Value) (zs : List Int) (w : World) (hm : zs.length ≤ 1000000) (hrow : Row .i64 w v zs) :
  Calls Try.prog 30 #[v] w fun e w' => ∃ v', e = .returned v' ∧ Row .i64 w v' (trimL zs) ∧ w = w' := by
 obtain ⟨p, c, rfl, hcap, _⟩ := id hrow
 have HR := Lib.hid hrow
 clear hrow
 generalize hn : zs.length = n at *
 have HN := Lib.hid hn
 clear hn
 go_enter Try.func30, Try.ntmps30
 go_wp2
 go_loop [3] (fun vn => ∃ k : Nat, k ≤ n ∧ vn = .int .i64 k ∧ Hid (∀ j, k ≤ j → j < n → zs.getD j 0 = 0)) (fun vn => (intOf vn).toNat)
 case atStart => exact ⟨n, Nat.le_refl _, rfl, fun j a b => by omega⟩
 case round =>
  obtain ⟨k, hk, rfl, hz⟩ := hrel
  have fin : (k = 0 ∨ zs.getD (k - 1) 0 ≠ 0) → Row .i64 w (.slice p k c) (trimL zs) := fun h => by
   have hn := HN.out
   rw [trimL_of k (by omega) (fun j a b => hz.out j a (by omega)), trimL_take k (by omega) h]
   exact Row.take (by rw [hn]; exact HR.out) (by omega)
  have FIN := Lib.hid fin
  clear fin
  by_cases h0 : k = 0
  ·subst h0
   go_wp2
   go_ret
   exact ⟨_, rfl, FIN.out (by simp), rfl⟩
  ·obtain ⟨b, o, rfl, hc⟩ := HR.out.at (k - 1) (by rw [HN.out]; omega)
   by_cases hd : zs.getD (k - 1) 0 = 0
   ·have HD := Lib.hid hd
    rw [hd] at hc
    clear hd
    go_wp2
    go_round
    case rel => exact ⟨k - 1, by omega, by go_num, fun j a b => by
     by_cases e : j = k - 1
     ·rw [e]; exact HD.out
     ·exact hz.out j (by omega) b⟩
    case measure => simp [intOf]; omega
   ·have HD := Lib.hid hd
    have hb : (zs.getD (k - 1) 0 == 0) = false := by simpa using hd
    generalize zs.getD (k - 1) 0 = d at *
    clear hd
    go_wp2
    go_ret
    exact ⟨_, rfl, FIN.out (.inr HD.out), rfl⟩

theorem drop_eq {a b : List Int} {i : Nat} (ha : i < a.length) (hl : a.length = b.length) (ht : a.drop (i + 1) = b.drop (i + 1)) (he : a.getD i 0 = b.getD i 0) : a.drop i = b.drop i := by
 rcases drop_cases a i with ⟨_, ea⟩ | ⟨h, _⟩
 ·rcases drop_cases b i with ⟨_, eb⟩ | ⟨h, _⟩
  ·rw [ea, eb, ht, he]
  ·omega
 ·omega

/-- The order of two numbers that are written out. -/
def lessB (x y : Int) : Bool := decide (x < y)
def LessRel (a b : List Int) (k : Nat) : Prop := a.drop k = b.drop k

set_option maxHeartbeats 1000000 in
theorem less_any (u v : Value) (a b : List Int) (w : World) (ha : Norm a) (hb : Norm b) (hm : a.length ≤ 1000000) (_hm' : b.length ≤ 1000000) (hu : Row .i64 w u a) (hv : Row .i64 w v b) :
  Calls Try.prog 32 #[u, v] w fun e w' => e = .returned (.bool (lessB (val a) (val b))) ∧ Below w.heap.size w w' := by
 obtain ⟨p, c, rfl, _, _⟩ := id hu
 obtain ⟨q, d, rfl, _, _⟩ := id hv
 have HU := Lib.hid hu
 have HV := Lib.hid hv
 clear hu hv
 by_cases hlen : a.length = b.length
 ·generalize hn : a.length = n at *
  have hnb : ((n : Int) != (n : Int)) = false := by simp
  have HN := Lib.hid hn
  have HB := Lib.hid hlen
  clear hn
  rw [← hlen]
  clear hlen
  go_enter Try.func32, Try.ntmps32
  go_wp2
  go_loopw [5] (fun vi wr => ∃ (j : Int) (nd : Nat), -1 ≤ j ∧ j < n ∧ vi = .int .i64 j ∧ Hid (a.drop (j + 1).toNat = b.drop (j + 1).toNat) ∧ wr = w.drewN nd) (fun vi _ => (intOf vi + 1).toNat)
  case atStart =>
   refine ⟨(n : Int) - 1, 0, by omega, by omega, rfl, ?_, rfl⟩
   show _ = _
   rw [show ((n : Int) - 1 + 1).toNat = n by omega]
   rw [List.drop_eq_nil_iff.2 (by rw [HN.out]; exact Nat.le_refl _), List.drop_eq_nil_iff.2 (by rw [← HB.out]; exact Nat.le_refl _)]
  case round =>
   obtain ⟨j, nd, hj0, hj1, rfl, hd, rfl⟩ := hrel
   by_cases h0 : j < 0
   ·obtain rfl : j = -1 := by omega
    have hfin : Hid (lessB (val a) (val b) = false) := by
     have := hd.out
     simp at this
     show _ = _
     rw [this]; simp [lessB]
    go_wp2
    go_ret
    exact ⟨by rw [hfin.out]; rfl, drewN_below _ _ _⟩
   ·obtain ⟨m, rfl⟩ : ∃ m : Nat, j = m := ⟨j.toNat, by omega⟩
    have hd' : Hid (a.drop (m + 1) = b.drop (m + 1)) := by
     have := hd.out
     rw [show ((m : Int) + 1).toNat = m + 1 by omega] at this
     exact this
    clear hd
    obtain ⟨x, o, rfl, hc⟩ := HU.out.at m (by rw [HN.out]; omega)
    obtain ⟨x', o', rfl, hc'⟩ := HV.out.at m (by rw [← HB.out]; omega)
    by_cases he : a.getD m 0 = b.getD m 0
    ·have HE : Hid (a.drop m = b.drop m) := drop_eq (by rw [HN.out]; omega) (HN.out.trans HB.out) hd'.out he
     have hbb : (a.getD m 0 != b.getD m 0) = false := by simpa using he
     generalize a.getD m 0 = aa at *
     generalize b.getD m 0 = bb at *
     clear he
     go_wp2_with fail
     go_quiet (fail)
     go_wp2
     go_roundw
     case rel => exact ⟨(m : Int) - 1, _, by omega, by omega, rfl, by
      show _ = _
      rw [show ((m : Int) - 1 + 1).toNat = m by omega]
      exact HE.out, rfl⟩
     case measure => simp [intOf]
    ·have hfin : Hid (lessB (val a) (val b) = decide (a.getD m 0 < b.getD m 0)) := by
      show _ = _
      unfold lessB
      rw [decide_eq_decide]
      constructor
      ·intro h
       by_cases e : b.getD m 0 < a.getD m 0
       ·have := less_at hb.1 ha.1 m (by rw [← HB.out]; omega) (HB.out.symm.trans HN.out.symm) hd'.out.symm e; omega
       ·omega
      ·exact less_at ha.1 hb.1 m (by rw [HN.out]; omega) (HN.out.trans HB.out) hd'.out
     have hbb : (a.getD m 0 != b.getD m 0) = true := by simpa using he
     generalize a.getD m 0 = aa at *
     generalize b.getD m 0 = bb at *
     clear he
     go_wp2_with fail
     go_quiet (fail)
     go_wp2_with fail
     go_quiet (fail)
     go_wp2
     go_ret
     exact ⟨by rw [hfin.out]; rfl, below_drewN (below_drewN (drewN_below _ _ _) _) _⟩
 ·have hnb : ((a.length : Int) != (b.length : Int)) = true := by simp; omega
  go_enter Try.func32, Try.ntmps32
  go_wp2
  have hfin : Hid (lessB (val a) (val b) = decide (a.length < b.length)) := by
   show _ = _
   unfold lessB
   rw [decide_eq_decide]
   constructor
   ·intro h
    by_cases e : b.length < a.length
    ·have := less_short hb ha e; omega
    ·omega
   ·exact less_short ha hb
  go_ret
  exact ⟨by rw [hfin.out]; rfl, Below.refl _ _⟩
end Go.Proofs.Ytillckkohdjkbaa
namespace Go.Proofs.Ytillckkohdjkbaa
open Go.RowKit

/-- What the loop of the sum keeps. -/
def PlusRel (a b : List Int) (w : World) (i : Nat) (c : Int) (xs : List Int) (v : Value) (wr : World) : Prop :=
 plusC a b 0 = xs ++ plusC (a.drop i) (b.drop i) c ∧ xs.length = i ∧ wr.ownsRow w.heap.size 3 1 v xs.length (xs.map (Value.int .i64)) ∧ Below w.heap.size w wr
theorem PlusRel.start (a b : List Int) (w : World) : PlusRel a b w 0 0 [] (.slice none 0 0) w := ⟨by simp, rfl, World.ownsRow_nil _ _ _ _, Below.refl _ _⟩
theorem PlusRel.step {a b : List Int} {w wr w1 : World} {i : Nat} {c : Int} {xs : List Int} {v v' : Value} (h : PlusRel a b w i c xs v wr) (s : Int) (hs : s = c + a.getD i 0 + b.getD i 0)
  (h0 : 0 ≤ c) (h1 : c ≤ 1) (hin : i < a.length ∨ i < b.length ∨ 0 < c) (o : Obj)
  (hown : w1.ownsRow w.heap.size 3 1 v' (xs.length + 1) (xs.map (Value.int .i64) ++ [.int .i64 (s % 10)])) (hg : (wr.alloc o).grownBy w1 v.ownBlock) :
  PlusRel a b w (i + 1) (s / 10) (xs ++ [s % 10]) v' w1 := by
 obtain ⟨e1, e2, e3, e4⟩ := h
 have hb := e4.size
 refine ⟨?_, by simp [e2], by simpa using hown, (e4.alloc hb o).grown hg (by simp; omega) (fun k hk => (e3.lt k hk).1)⟩
 rw [e1, plusC_step a b i c h0 h1 hin, ← hs, List.append_assoc]; rfl
theorem PlusRel.len {a b : List Int} {w wr : World} {i : Nat} {c : Int} {xs : List Int} {v : Value} (h : PlusRel a b w i c xs v wr) (ha : IsDigs a) (hb : IsDigs b) : i ≤ a.length + b.length + 1 := by
 have h1 := (plusC_spec a b 0 ha hb (by decide) (by decide)).2.2
 rw [h.1, List.length_append, h.2.1] at h1
 omega
theorem digs_getD {a : List Int} (ha : IsDigs a) (i : Nat) : 0 ≤ a.getD i 0 ∧ a.getD i 0 ≤ 9 := by
 rw [List.getD_eq_getElem?_getD]
 by_cases hi : i < a.length
 ·rw [List.getElem?_eq_getElem hi]; exact ha _ (List.getElem_mem hi)
 ·rw [List.getElem?_eq_none (by omega)]; simp
theorem getD_out {a : List Int} {i : Nat} (h : a.length ≤ i) : a.getD i 0 = 0 := by rw [List.getD_eq_getElem?_getD, List.getElem?_eq_none h]; rfl

set_option maxHeartbeats 2000000 in
set_option maxRecDepth 100000 in
theorem plus_any (u v : Value) (a b : List Int) (w : World) (ha : IsDigs a) (hb : IsDigs b) (hma : a.length ≤ 1000000) (hmb : b.length ≤ 1000000) (hu : Row .i64 w u a) (hv : Row .i64 w v b) :
  Calls Try.prog 31 #[u, v] w fun e w' => ∃ v', e = .returned v' ∧ Row .i64 w' v' (plusC a b 0) ∧ Below w.heap.size w w' := by
 obtain ⟨i0, hi, hz0, hz1, hz2⟩ := info_parts info_int
 obtain ⟨p, ca, rfl, _, hp⟩ := id hu
 obtain ⟨q, cb, rfl, _, hq⟩ := id hv
 have HU := Lib.hid hu
 have HV := Lib.hid hv
 clear hu hv hp hq
 generalize hla : a.length = la at *
 generalize hlb : b.length = lb at *
 have HLA := Lib.hid hla
 have HLB := Lib.hid hlb
 clear hla hlb
 go_enter Try.func31, Try.ntmps31
 go_wp2
 go_loopw [5, 6, 7] (fun vo vc vi wr => ∃ (i : Nat) (c : Int) (xs : List Int) (po : Option Addr) (co : Nat), vi = .int .i64 i ∧ vc = .int .i64 c ∧ vo = .slice po xs.length co ∧ 0 ≤ c ∧ c ≤ 1 ∧ Hid (PlusRel a b w i c xs (.slice po xs.length co) wr)) (fun _ _ vi _ => la + lb + 2 - (intOf vi).toNat)
 case atStart => exact ⟨0, 0, [], none, 0, rfl, rfl, rfl, by decide, by decide, PlusRel.start a b w⟩
 case round =>
  obtain ⟨i, c, xs, po, co, rfl, rfl, rfl, h0, h1, HR⟩ := hrel
  have hil := HR.out.len ha hb
  rw [HLA.out, HLB.out] at hil
  have hxl : Hid (xs.length = i) := HR.out.2.1
  have C3 : Hid (xs.length + 1 ≤ maxLen) := by have := hxl.out; show _ ≤ _; unfold maxLen; omega
  have C4 : Hid ((xs.length + 1) * 8 ≤ 140737488355328) := by have := hxl.out; show _ ≤ _; omega
  have C5 : Hid (∀ o : Obj, w.heap.size ≤ (wr.alloc o).heap.size) := fun o => by have := HR.out.2.2.2.size; simp; omega
  have hbel := HR.out.2.2.2
  have hx := digs_getD ha i
  have hy := digs_getD hb i
  have hsz := hbel.size
  have HX0 : la ≤ i → a.getD i 0 = 0 := fun h => getD_out (by rw [HLA.out]; exact h)
  have HY0 : lb ≤ i → b.getD i 0 = 0 := fun h => getD_out (by rw [HLB.out]; exact h)
  have cx : i < la → ∃ x o, p = some ⟨x, o, none⟩ ∧ wr.cell? ⟨x, o + i, none⟩ = some (.int .i64 (a.getD i 0)) := fun h => by
   obtain ⟨x, o, e, hc⟩ := HU.out.at i (by rw [HLA.out]; exact h)
   exact ⟨x, o, e, by rw [hbel.cell (p := ⟨x, o + i, none⟩) (World.block_lt_of_cell? w _ hc)]; exact hc⟩
  have cy : i < lb → ∃ x o, q = some ⟨x, o, none⟩ ∧ wr.cell? ⟨x, o + i, none⟩ = some (.int .i64 (b.getD i 0)) := fun h => by
   obtain ⟨x, o, e, hc⟩ := HV.out.at i (by rw [HLB.out]; exact h)
   exact ⟨x, o, e, by rw [hbel.cell (p := ⟨x, o + i, none⟩) (World.block_lt_of_cell? w _ hc)]; exact hc⟩
  have step : ∀ (s : Int) (w1 : World) (v' : Value) (hs : s = c + a.getD i 0 + b.getD i 0) (hin : i < la ∨ i < lb ∨ 0 < c) (o : Obj)
    (hown : w1.ownsRow w.heap.size 3 1 v' (xs.length + 1) (xs.map (Value.int .i64) ++ [.int .i64 (s % 10)])) (hg : (wr.alloc o).grownBy w1 (Value.slice po xs.length co).ownBlock),
    PlusRel a b w (i + 1) (s / 10) (xs ++ [s % 10]) v' w1 := fun s w1 v' hs hin o hown hg => HR.out.step s hs h0 h1 (by rw [HLA.out, HLB.out]; exact hin) o hown hg
  have STEP := Lib.hid step
  have HX := Lib.hid HX0
  have HY := Lib.hid HY0
  have CX := Lib.hid cx
  have CY := Lib.hid cy
  have HBEL := Lib.hid hbel
  clear step HX0 HY0 cx cy hbel
  generalize a.getD i 0 = x at *
  generalize b.getD i 0 = y at *
  by_cases hia : i < la
  ·obtain ⟨bx, ox, rfl, hcx⟩ := CX.out hia
   by_cases hib : i < lb
   ·obtain ⟨by', oy, rfl, hcy⟩ := CY.out hib
    clear CX CY
    go_wp2_with (at_builtin; refine wpList_append_own _ rfl _ _ 61 rfl w.heap.size 3 i0 (.int .i64 0) 1 8 Try.underlying61 hi hz0 hz1 hz2 rfl (by decide) _ _ _ rfl (HR.out.2.2.1.alloc _) ⟨wr.heap.size, 0, none⟩ 1 1 [.int .i64 ((c + x + y) % 10)] rfl rfl (one_new _ _ _) (one_cells _ _) C3.out C4.out (C5.out _) ?_)
    intro v' w1 hown hgrow _
    have hst := STEP.out (c + x + y) w1 v' rfl (.inl hia) _ hown hgrow
    obtain ⟨p', c', rfl⟩ := owned_slice hown
    have HST := Lib.hid hst
    clear hst hown hgrow
    go_wp2
    go_roundw
    case rel => exact ⟨i + 1, (c + x + y) / 10, xs ++ [(c + x + y) % 10], p', c', by go_num, rfl, by simp, by omega, by omega, by show PlusRel _ _ _ _ _ _ _ _; rw [List.length_append]; exact HST.out⟩
    case measure => simp [intOf]; omega
   ·have hy0 := HY.out (by omega)
    subst hy0
    clear CX CY HY
    go_wp2_with (at_builtin; refine wpList_append_own _ rfl _ _ 61 rfl w.heap.size 3 i0 (.int .i64 0) 1 8 Try.underlying61 hi hz0 hz1 hz2 rfl (by decide) _ _ _ rfl (HR.out.2.2.1.alloc _) ⟨wr.heap.size, 0, none⟩ 1 1 [.int .i64 ((c + x) % 10)] rfl rfl (one_new _ _ _) (one_cells _ _) C3.out C4.out (C5.out _) ?_)
    intro v' w1 hown hgrow _
    have hst := STEP.out (c + x) w1 v' (by omega) (.inl hia) _ hown hgrow
    obtain ⟨p', c', rfl⟩ := owned_slice hown
    have HST := Lib.hid hst
    clear hst hown hgrow
    go_wp2
    go_roundw
    case rel => exact ⟨i + 1, (c + x) / 10, xs ++ [(c + x) % 10], p', c', by go_num, rfl, by simp, by omega, by omega, by show PlusRel _ _ _ _ _ _ _ _; rw [List.length_append]; exact HST.out⟩
    case measure => simp [intOf]; omega
  ·have hx0 := HX.out (by omega)
   subst hx0
   by_cases hib : i < lb
   ·obtain ⟨by', oy, rfl, hcy⟩ := CY.out hib
    clear CX CY HX
    go_wp2_with (at_builtin; refine wpList_append_own _ rfl _ _ 61 rfl w.heap.size 3 i0 (.int .i64 0) 1 8 Try.underlying61 hi hz0 hz1 hz2 rfl (by decide) _ _ _ rfl (HR.out.2.2.1.alloc _) ⟨wr.heap.size, 0, none⟩ 1 1 [.int .i64 ((c + y) % 10)] rfl rfl (one_new _ _ _) (one_cells _ _) C3.out C4.out (C5.out _) ?_)
    intro v' w1 hown hgrow _
    have hst := STEP.out (c + y) w1 v' (by omega) (.inr (.inl hib)) _ hown hgrow
    obtain ⟨p', c', rfl⟩ := owned_slice hown
    have HST := Lib.hid hst
    clear hst hown hgrow
    go_wp2
    go_roundw
    case rel => exact ⟨i + 1, (c + y) / 10, xs ++ [(c + y) % 10], p', c', by go_num, rfl, by simp, by omega, by omega, by show PlusRel _ _ _ _ _ _ _ _; rw [List.length_append]; exact HST.out⟩
    case measure => simp [intOf]; omega
   ·have hy0 := HY.out (by omega)
    subst hy0
    by_cases hc : 0 < c
    ·clear CX CY HX HY
     go_wp2_with (at_builtin; refine wpList_append_own _ rfl _ _ 61 rfl w.heap.size 3 i0 (.int .i64 0) 1 8 Try.underlying61 hi hz0 hz1 hz2 rfl (by decide) _ _ _ rfl (HR.out.2.2.1.alloc _) ⟨wr.heap.size, 0, none⟩ 1 1 [.int .i64 ((c) % 10)] rfl rfl (one_new _ _ _) (one_cells _ _) C3.out C4.out (C5.out _) ?_)
     intro v' w1 hown hgrow _
     have hst := STEP.out (c) w1 v' (by omega) (.inr (.inr hc)) _ hown hgrow
     obtain ⟨p', c', rfl⟩ := owned_slice hown
     have HST := Lib.hid hst
     clear hst hown hgrow
     go_wp2
     go_roundw
     case rel => exact ⟨i + 1, (c) / 10, xs ++ [(c) % 10], p', c', by go_num, rfl, by simp, by omega, by omega, by show PlusRel _ _ _ _ _ _ _ _; rw [List.length_append]; exact HST.out⟩
     case measure => simp [intOf]; omega
    ·obtain rfl : c = 0 := by omega
     go_wp2
     go_ret
     have hR := HR.out
     have e : plusC a b 0 = xs := by rw [hR.1, plusC_stop a b i (by rw [HLA.out]; omega) (by rw [HLB.out]; omega), List.append_nil]
     exact ⟨_, rfl, by rw [e]; exact Row.owned hR.2.2.1, hR.2.2.2⟩
end Go.Proofs.Ytillckkohdjkbaa
namespace Go.Proofs.Ytillckkohdjkbaa
open Go.RowKit

/-- What the loop of the difference keeps. -/
def MinusRel (a b : List Int) (w : World) (i : Nat) (c : Int) (xs : List Int) (v : Value) (wr : World) : Prop :=
 minusC a b 0 = xs ++ minusC (a.drop i) (b.drop i) c ∧ xs.length = i ∧ wr.ownsRow w.heap.size 3 1 v xs.length (xs.map (Value.int .i64)) ∧ Below w.heap.size w wr
theorem MinusRel.start (a b : List Int) (w : World) : MinusRel a b w 0 0 [] (.slice none 0 0) w := ⟨by simp, rfl, World.ownsRow_nil _ _ _ _, Below.refl _ _⟩
theorem MinusRel.step {a b : List Int} {w wr w1 : World} {i : Nat} {c : Int} {xs : List Int} {v v' : Value} (h : MinusRel a b w i c xs v wr) (s r c' : Int) (hs : s = a.getD i 0 - c - b.getD i 0)
  (hr : r = if s < 0 then s + 10 else s) (hc : c' = if s < 0 then 1 else 0) (hin : i < a.length) (o : Obj)
  (hown : w1.ownsRow w.heap.size 3 1 v' (xs.length + 1) (xs.map (Value.int .i64) ++ [.int .i64 r])) (hg : (wr.alloc o).grownBy w1 v.ownBlock) :
  MinusRel a b w (i + 1) c' (xs ++ [r]) v' w1 := by
 obtain ⟨e1, e2, e3, e4⟩ := h
 have hb := e4.size
 refine ⟨?_, by simp [e2], by simpa using hown, (e4.alloc hb o).grown hg (by simp; omega) (fun k hk => (e3.lt k hk).1)⟩
 rw [e1, minusC_step a b i c hin, ← hs, ← hr, ← hc, List.append_assoc]; rfl

set_option maxHeartbeats 2000000 in
set_option maxRecDepth 100000 in
theorem minus_any (u v : Value) (a b : List Int) (w : World) (ha : IsDigs a) (hb : IsDigs b) (hma : a.length ≤ 1000000) (_hmb : b.length ≤ 1000000) (hu : Row .i64 w u a) (hv : Row .i64 w v b) :
  Calls Try.prog 33 #[u, v] w fun e w' => ∃ v', e = .returned v' ∧ Row .i64 w' v' (trimL (minusC a b 0)) ∧ Below w.heap.size w w' := by
 obtain ⟨i0, hi, hz0, hz1, hz2⟩ := info_parts info_int
 obtain ⟨p, ca, rfl, _, hp⟩ := id hu
 obtain ⟨q, cb, rfl, _, hq⟩ := id hv
 have HU := Lib.hid hu
 have HV := Lib.hid hv
 clear hu hv hp hq
 generalize hla : a.length = la at *
 generalize hlb : b.length = lb at *
 have HLA := Lib.hid hla
 have HLB := Lib.hid hlb
 clear hla hlb
 go_enter Try.func33, Try.ntmps33
 go_wp2
 go_loopw [5, 6, 7] (fun vo vc vi wr => ∃ (i : Nat) (c : Int) (xs : List Int) (po : Option Addr) (co : Nat), i ≤ la ∧ vi = .int .i64 i ∧ vc = .int .i64 c ∧ vo = .slice po xs.length co ∧ 0 ≤ c ∧ c ≤ 1 ∧ Hid (MinusRel a b w i c xs (.slice po xs.length co) wr)) (fun _ _ vi _ => la - (intOf vi).toNat)
 case atStart => exact ⟨0, 0, [], none, 0, Nat.zero_le _, rfl, rfl, rfl, by decide, by decide, MinusRel.start a b w⟩
 case round =>
  obtain ⟨i, c, xs, po, co, hil, rfl, rfl, rfl, h0, h1, HR⟩ := hrel
  have hxl : Hid (xs.length = i) := HR.out.2.1
  have C3 : Hid (xs.length + 1 ≤ maxLen) := by have := hxl.out; show _ ≤ _; unfold maxLen; omega
  have C4 : Hid ((xs.length + 1) * 8 ≤ 140737488355328) := by have := hxl.out; show _ ≤ _; omega
  have C5 : Hid (∀ o : Obj, w.heap.size ≤ (wr.alloc o).heap.size) := fun o => by have := HR.out.2.2.2.size; simp; omega
  have hbel := HR.out.2.2.2
  have hx := digs_getD ha i
  have hy := digs_getD hb i
  have hsz := hbel.size
  have HY0 : lb ≤ i → b.getD i 0 = 0 := fun h => getD_out (by rw [HLB.out]; exact h)
  have cx : i < la → ∃ x o, p = some ⟨x, o, none⟩ ∧ wr.cell? ⟨x, o + i, none⟩ = some (.int .i64 (a.getD i 0)) := fun h => by
   obtain ⟨x, o, e, hc⟩ := HU.out.at i (by rw [HLA.out]; exact h)
   exact ⟨x, o, e, by rw [hbel.cell (p := ⟨x, o + i, none⟩) (World.block_lt_of_cell? w _ hc)]; exact hc⟩
  have cy : i < lb → ∃ x o, q = some ⟨x, o, none⟩ ∧ wr.cell? ⟨x, o + i, none⟩ = some (.int .i64 (b.getD i 0)) := fun h => by
   obtain ⟨x, o, e, hc⟩ := HV.out.at i (by rw [HLB.out]; exact h)
   exact ⟨x, o, e, by rw [hbel.cell (p := ⟨x, o + i, none⟩) (World.block_lt_of_cell? w _ hc)]; exact hc⟩
  have step : ∀ (s r c' : Int) (w1 : World) (v' : Value) (hs : s = a.getD i 0 - c - b.getD i 0) (hr : r = if s < 0 then s + 10 else s) (hc : c' = if s < 0 then 1 else 0) (hin : i < la) (o : Obj)
    (hown : w1.ownsRow w.heap.size 3 1 v' (xs.length + 1) (xs.map (Value.int .i64) ++ [.int .i64 r])) (hg : (wr.alloc o).grownBy w1 (Value.slice po xs.length co).ownBlock),
    MinusRel a b w (i + 1) c' (xs ++ [r]) v' w1 := fun s r c' w1 v' hs hr hc hin o hown hg => HR.out.step s r c' hs hr hc (by rw [HLA.out]; exact hin) o hown hg
  have STEP := Lib.hid step
  have HY := Lib.hid HY0
  have CX := Lib.hid cx
  have CY := Lib.hid cy
  have HBEL := Lib.hid hbel
  clear step HY0 cx cy hbel
  generalize a.getD i 0 = x at *
  generalize b.getD i 0 = y at *
  by_cases hia : i < la
  ·obtain ⟨bx, ox, rfl, hcx⟩ := CX.out hia
   by_cases hib : i < lb
   ·obtain ⟨by', oy, rfl, hcy⟩ := CY.out hib
    clear CX CY HY
    by_cases hs : x - c - y < 0
    ·go_wp2_with (at_builtin; refine wpList_append_own _ rfl _ _ 61 rfl w.heap.size 3 i0 (.int .i64 0) 1 8 Try.underlying61 hi hz0 hz1 hz2 rfl (by decide) _ _ _ rfl (HR.out.2.2.1.alloc _) ⟨wr.heap.size, 0, none⟩ 1 1 [.int .i64 (x - c - y + 10)] rfl rfl (one_new _ _ _) (one_cells _ _) C3.out C4.out (C5.out _) ?_)
     intro v' w1 hown hgrow _
     have hst := STEP.out (x - c - y) (x - c - y + 10) 1 w1 v' rfl (by rw [if_pos hs]) (by rw [if_pos hs]) hia _ hown hgrow
     obtain ⟨p', c', rfl⟩ := owned_slice hown
     have HST := Lib.hid hst
     clear hst hown hgrow
     go_wp2
     go_roundw
     case rel => exact ⟨i + 1, 1, xs ++ [x - c - y + 10], p', c', by omega, by go_num, rfl, by simp, by omega, by omega, by show MinusRel _ _ _ _ _ _ _ _; rw [List.length_append]; exact HST.out⟩
     case measure => simp [intOf]; omega
    ·go_wp2_with (at_builtin; refine wpList_append_own _ rfl _ _ 61 rfl w.heap.size 3 i0 (.int .i64 0) 1 8 Try.underlying61 hi hz0 hz1 hz2 rfl (by decide) _ _ _ rfl (HR.out.2.2.1.alloc _) ⟨wr.heap.size, 0, none⟩ 1 1 [.int .i64 (x - c - y)] rfl rfl (one_new _ _ _) (one_cells _ _) C3.out C4.out (C5.out _) ?_)
     intro v' w1 hown hgrow _
     have hst := STEP.out (x - c - y) (x - c - y) 0 w1 v' rfl (by rw [if_neg (by omega)]) (by rw [if_neg (by omega)]) hia _ hown hgrow
     obtain ⟨p', c', rfl⟩ := owned_slice hown
     have HST := Lib.hid hst
     clear hst hown hgrow
     go_wp2
     go_roundw
     case rel => exact ⟨i + 1, 0, xs ++ [x - c - y], p', c', by omega, by go_num, rfl, by simp, by omega, by omega, by show MinusRel _ _ _ _ _ _ _ _; rw [List.length_append]; exact HST.out⟩
     case measure => simp [intOf]; omega
   ·have hy0 := HY.out (by omega)
    subst hy0
    clear CX CY HY
    by_cases hs : x - c < 0
    ·go_wp2_with (at_builtin; refine wpList_append_own _ rfl _ _ 61 rfl w.heap.size 3 i0 (.int .i64 0) 1 8 Try.underlying61 hi hz0 hz1 hz2 rfl (by decide) _ _ _ rfl (HR.out.2.2.1.alloc _) ⟨wr.heap.size, 0, none⟩ 1 1 [.int .i64 (x - c + 10)] rfl rfl (one_new _ _ _) (one_cells _ _) C3.out C4.out (C5.out _) ?_)
     intro v' w1 hown hgrow _
     have hst := STEP.out (x - c) (x - c + 10) 1 w1 v' (by omega) (by rw [if_pos hs]) (by rw [if_pos hs]) hia _ hown hgrow
     obtain ⟨p', c', rfl⟩ := owned_slice hown
     have HST := Lib.hid hst
     clear hst hown hgrow
     go_wp2
     go_roundw
     case rel => exact ⟨i + 1, 1, xs ++ [x - c + 10], p', c', by omega, by go_num, rfl, by simp, by omega, by omega, by show MinusRel _ _ _ _ _ _ _ _; rw [List.length_append]; exact HST.out⟩
     case measure => simp [intOf]; omega
    ·go_wp2_with (at_builtin; refine wpList_append_own _ rfl _ _ 61 rfl w.heap.size 3 i0 (.int .i64 0) 1 8 Try.underlying61 hi hz0 hz1 hz2 rfl (by decide) _ _ _ rfl (HR.out.2.2.1.alloc _) ⟨wr.heap.size, 0, none⟩ 1 1 [.int .i64 (x - c)] rfl rfl (one_new _ _ _) (one_cells _ _) C3.out C4.out (C5.out _) ?_)
     intro v' w1 hown hgrow _
     have hst := STEP.out (x - c) (x - c) 0 w1 v' (by omega) (by rw [if_neg (by omega)]) (by rw [if_neg (by omega)]) hia _ hown hgrow
     obtain ⟨p', c', rfl⟩ := owned_slice hown
     have HST := Lib.hid hst
     clear hst hown hgrow
     go_wp2
     go_roundw
     case rel => exact ⟨i + 1, 0, xs ++ [x - c], p', c', by omega, by go_num, rfl, by simp, by omega, by omega, by show MinusRel _ _ _ _ _ _ _ _; rw [List.length_append]; exact HST.out⟩
     case measure => simp [intOf]; omega
  ·have hR := HR.out
   have e : minusC a b 0 = xs := by rw [hR.1, minusC_stop a b i c (by rw [HLA.out]; omega), List.append_nil]
   have hrow : Row .i64 wr (.slice po xs.length co) (minusC a b 0) := by rw [e]; exact Row.owned hR.2.2.1
   have hbel := hR.2.2.2
   have hlen : xs.length ≤ 1000000 := by have := hxl.out; omega
   have hlm : (minusC a b 0).length ≤ 1000000 := by rw [e]; exact hlen
   have HBL := Lib.hid hbel
   have HE := Lib.hid e
   clear CX CY HY hR STEP e hbel HR
   go_wp2_with (go_at_call 30; refine (trim_any _ _ _ hlm hrow).mono ?_; rintro e w' ⟨v', rfl, hrow', rfl⟩)
   go_ret
   exact ⟨_, rfl, hrow', HBL.out⟩
end Go.Proofs.Ytillckkohdjkbaa
namespace Go.Proofs.Ytillckkohdjkbaa
open Go.RowKit

theorem Row.below {k : IntKind} {w w' : World} {v : Value} {zs : List Int} {B : Nat} (h : Row k w v zs) (hb : Below B w w') (hB : w.heap.size ≤ B) : Row k w' v zs := h.kept (hb.mono hB)

theorem Row.form {k : IntKind} {w : World} {v : Value} {zs : List Int} (h : Row k w v zs) : ∃ p c, v = .slice p zs.length c := by obtain ⟨p, c, e, _⟩ := h; exact ⟨p, c, e⟩

/-- What a cell holds, whatever that is. -/
def peek (w : World) (a : Addr) : Value := (w.cell? a).getD undef
theorem peek_ok {w : World} {a : Addr} {v : Value} (h : w.cell? a = some v) : w.cell? a = some (peek w a) := by unfold peek; rw [h]; rfl
theorem set2_cell {w : World} {b : Nat} {x y : Value} {a : Addr} (h : a.block ≠ b) : ((w.setCell ⟨b, 0, none⟩ x).setCell ⟨b, 1, none⟩ y).cell? a = w.cell? a := by
 rw [World.cell?_of_block (w := w.setCell ⟨b, 0, none⟩ x) (Below.heap_setCell _ _ _ _ h), World.cell?_of_block (w := w) (Below.heap_setCell _ _ _ _ h)]
theorem set2_peek {w : World} {b : Nat} {x y u v : Value} (h0 : w.cell? ⟨b, 0, none⟩ = some u) (h1 : w.cell? ⟨b, 1, none⟩ = some v) :
  ((w.setCell ⟨b, 0, none⟩ x).setCell ⟨b, 1, none⟩ y).cell? ⟨b, 0, none⟩ = some (peek ((w.setCell ⟨b, 0, none⟩ x).setCell ⟨b, 1, none⟩ y) ⟨b, 0, none⟩) ∧
  ((w.setCell ⟨b, 0, none⟩ x).setCell ⟨b, 1, none⟩ y).cell? ⟨b, 1, none⟩ = some (peek ((w.setCell ⟨b, 0, none⟩ x).setCell ⟨b, 1, none⟩ y) ⟨b, 1, none⟩) := by
 constructor
 ·refine peek_ok (v := x) ?_
  rw [World.cell?_setCell_other _ _ _ _ (by simp)]
  exact World.cell?_setCell_same _ _ _ h0
 ·have h2 : (w.setCell ⟨b, 0, none⟩ x).cell? ⟨b, 1, none⟩ = some v := by rw [World.cell?_setCell_other _ _ _ _ (by simp)]; exact h1
  exact peek_ok (World.cell?_setCell_same _ _ _ h2)

/-- A row stays when a cell is written that holds no number of its kind. -/
theorem Row.set {k : IntKind} {w : World} {v : Value} {zs : List Int} (h : Row k w v zs) {a : Addr} {x : Value} (hx : w.cell? a = some x) (hne : ∀ n, x ≠ .int k n) (u : Value) : Row k (w.setCell a u) v zs := by
 obtain ⟨p, c, rfl, hc, h⟩ := h
 refine ⟨p, c, rfl, hc, ?_⟩
 rcases h with h | ⟨b, o, rfl, h⟩
 ·exact .inl h
 ·refine .inr ⟨b, o, rfl, fun i hi => ?_⟩
  have h1 := h i hi
  rw [World.cell?_setCell_other _ _ _ _ (fun e => by
   rw [e, h1] at hx
   exact hne _ (Option.some.inj hx).symm)]
  exact h1

/-- What a region holds while it calls: the two numbers' cells, and a place for the answer. -/
abbrev Held (h : Nat) (m s n t : Value) (w : World) : Prop :=
 w.cell? ⟨h, 0, none⟩ = some m ∧ w.cell? ⟨h, 1, none⟩ = some s ∧ w.cell? ⟨h + 1, 0, none⟩ = some n ∧ w.cell? ⟨h + 1, 1, none⟩ = some t ∧
 w.cell? ⟨h + 1 + 1, 0, none⟩ = some (peek w ⟨h + 1 + 1, 0, none⟩) ∧ w.cell? ⟨h + 1 + 1, 1, none⟩ = some (peek w ⟨h + 1 + 1, 1, none⟩) ∧
 w.frozen? ⟨h + 1 + 1, 0, none⟩ = false ∧ w.frozen? ⟨h + 1 + 1, 1, none⟩ = false
theorem held_call {h : Nat} {m s n t : Value} {w w' : World} (H : Held h m s n t w) (hb : Below w.heap.size w w') : Held h m s n t w' := by
 obtain ⟨h1, h2, h0, h3, h4, h5, h6, h7⟩ := H
 have l := World.block_lt_of_cell? w _ h4
 simp only at l
 refine ⟨?_, ?_, ?_, ?_, ?_, ?_, ?_, ?_⟩
 ·rw [hb.cell (p := ⟨h, 0, none⟩) (by simp; omega)]; exact h1
 ·rw [hb.cell (p := ⟨h, 1, none⟩) (by simp; omega)]; exact h2
 ·rw [hb.cell (p := ⟨h + 1, 0, none⟩) (by simp; omega)]; exact h0
 ·rw [hb.cell (p := ⟨h + 1, 1, none⟩) (by simp; omega)]; exact h3
 ·refine peek_ok (v := peek w ⟨h + 1 + 1, 0, none⟩) ?_; rw [hb.cell (p := ⟨h + 1 + 1, 0, none⟩) (by simp; omega)]; exact h4
 ·refine peek_ok (v := peek w ⟨h + 1 + 1, 1, none⟩) ?_; rw [hb.cell (p := ⟨h + 1 + 1, 1, none⟩) (by simp; omega)]; exact h5
 ·rw [hb.frozen (p := ⟨h + 1 + 1, 0, none⟩) (by simp; omega)]; exact h6
 ·rw [hb.frozen (p := ⟨h + 1 + 1, 1, none⟩) (by simp; omega)]; exact h7
theorem held_set {h : Nat} {m s n t : Value} {w : World} (H : Held h m s n t w) (x y : Value) : Held h m s n t ((w.setCell ⟨h + 1 + 1, 0, none⟩ x).setCell ⟨h + 1 + 1, 1, none⟩ y) := by
 obtain ⟨h1, h2, h0, h3, h4, h5, h6, h7⟩ := H
 exact ⟨by rw [set2_cell (by simp; omega)]; exact h1, by rw [set2_cell (by simp; omega)]; exact h2, by rw [set2_cell (by simp)]; exact h0, by rw [set2_cell (by simp)]; exact h3, (set2_peek h4 h5).1, (set2_peek h4 h5).2, by simpa using h6, by simpa using h7⟩
theorem held_drew {h : Nat} {m s n t : Value} {w : World} (H : Held h m s n t w) : Held h m s n t w.drew := H

set_option maxHeartbeats 2000000 in
theorem bigplus_same (s t : Value) (m n : Bool) (da db : List Int) (w : World) (ha : Norm da) (hb : Norm db) (hla : da.length ≤ 1000) (hlb : db.length ≤ 1000) (hs : Row .i64 w s da) (ht : Row .i64 w t db) (hmm : (m == n) = true) :
  Calls Try.prog 19 #[.agg #[.bool m, s], .agg #[.bool n, t]] w fun e w' => ∃ v, e = .returned (.agg #[.bool m, v]) ∧ Row .i64 w' v (trimL (plusC da db 0)) ∧ Below w.heap.size w w' := by
 have hl : (plusC da db 0).length ≤ 1000000 := by have := (plusC_spec da db 0 ha.1 hb.1 (by decide) (by decide)).2.2; omega
 obtain ⟨p, ca, rfl⟩ := hs.form
 obtain ⟨q, cb, rfl⟩ := ht.form
 have HS := Lib.hid hs
 have HT := Lib.hid ht
 clear hs ht
 go_enter Try.func19, Try.ntmps19
 go_wp2_with fail
 have b0 : Blk (((w.alloc (.cells #[.bool m, .slice p da.length ca] 63)).alloc (.cells #[.bool n, .slice q db.length cb] 63)).alloc (.cells #[.bool false, .slice none 0 0] 63)) w.heap.size _ _ := ((Blk.new w _ _).alloc _).alloc _
 have b1 : Blk (((w.alloc (.cells #[.bool m, .slice p da.length ca] 63)).alloc (.cells #[.bool n, .slice q db.length cb] 63)).alloc (.cells #[.bool false, .slice none 0 0] 63)) (w.heap.size + 1) _ _ := (Blk.new' _ _ _ (by simp)).alloc _
 have b2 : Blk (((w.alloc (.cells #[.bool m, .slice p da.length ca] 63)).alloc (.cells #[.bool n, .slice q db.length cb] 63)).alloc (.cells #[.bool false, .slice none 0 0] 63)) (w.heap.size + 1 + 1) _ _ := Blk.new' _ _ _ (by simp)
 have hbw : Below w.heap.size w (((w.alloc (.cells #[.bool m, .slice p da.length ca] 63)).alloc (.cells #[.bool n, .slice q db.length cb] 63)).alloc (.cells #[.bool false, .slice none 0 0] 63)) := (((Below.refl _ _).alloc (Nat.le_refl _) _).alloc (by simp) _).alloc (by simp; omega) _
 generalize (((w.alloc (.cells #[.bool m, .slice p da.length ca] 63)).alloc (.cells #[.bool n, .slice q db.length cb] 63)).alloc (.cells #[.bool false, .slice none 0 0] 63)) = W at *
 have hsW := b2.lt
 have c00 : W.cell? ⟨w.heap.size, 0, none⟩ = some (.bool m) := b0.cell 0
 have c01 : W.cell? ⟨w.heap.size, 1, none⟩ = some (.slice p da.length ca) := b0.cell 1
 have c10 : W.cell? ⟨w.heap.size + 1, 0, none⟩ = some (.bool n) := b1.cell 0
 have c11 : W.cell? ⟨w.heap.size + 1, 1, none⟩ = some (.slice q db.length cb) := b1.cell 1
 have c20 := peek_ok (show W.cell? ⟨w.heap.size + 1 + 1, 0, none⟩ = some (.bool false) from b2.cell 0)
 have c21 := peek_ok (show W.cell? ⟨w.heap.size + 1 + 1, 1, none⟩ = some (.slice none 0 0) from b2.cell 1)
 have f20 := b2.free 0
 have f21 := b2.free 1
 have RA := Lib.hid (fun (W' : World) (h : Below w.heap.size W W') => HS.out.below (hbw.trans h) (Nat.le_refl _))
 have RB := Lib.hid (fun (W' : World) (h : Below w.heap.size W W') => HT.out.below (hbw.trans h) (Nat.le_refl _))
 have HBW := Lib.hid hbw
 have B2 := Lib.hid b2
 clear b0 b1 b2 hbw HS HT
 go_region_held3 (fun w' => w'.cell? ⟨w.heap.size, 0, none⟩ = some (.bool m) ∧ w'.cell? ⟨w.heap.size, 1, none⟩ = some (.slice p da.length ca) ∧ w'.cell? ⟨w.heap.size + 1, 0, none⟩ = some (.bool n) ∧ w'.cell? ⟨w.heap.size + 1, 1, none⟩ = some (.slice q db.length cb) ∧ w'.cell? ⟨w.heap.size + 1 + 1, 0, none⟩ = some (peek w' ⟨w.heap.size + 1 + 1, 0, none⟩) ∧ w'.cell? ⟨w.heap.size + 1 + 1, 1, none⟩ = some (peek w' ⟨w.heap.size + 1 + 1, 1, none⟩) ∧ w'.frozen? ⟨w.heap.size + 1 + 1, 0, none⟩ = false ∧ w'.frozen? ⟨w.heap.size + 1 + 1, 1, none⟩ = false)
  (first | (refine held_set ?_ _ _; assumption) | (refine held_call ?_ hb1; assumption) | assumption | (refine held_drew ⟨?_, ?_, ?_, ?_, ?_, ?_, ?_, ?_⟩ <;> assumption))
  (first
   | (go_at_call 31; refine (plus_any _ _ da db _ ha.1 hb.1 (by omega) (by omega) (RA.out _ ?_) (RB.out _ ?_)).mono ?_; (exact Below.drew (Below.refl _ _)); (exact Below.drew (Below.refl _ _)); rintro e w1 ⟨v1, rfl, hrow1, hb1⟩; obtain ⟨p1, c1, rfl⟩ := hrow1.form)
   | (go_at_call 30; refine (trim_any _ _ _ hl (hrow1.kept ?_)).mono ?_; (first | exact Below.refl _ _ | exact Below.drew (Below.refl _ _)); rintro e w2 ⟨v2, rfl, hrow2, rfl⟩; obtain ⟨p2, c2, rfl⟩ := hrow2.form))
 go_wp2
 have e3 := B2.out.drew.below hb1 hsW
 have hf := (e3.set 0 (.bool m)).set 1 (.slice p2 (trimL (plusC da db 0)).length c2)
 refine bodyPost_ret (v := .agg #[.bool m, .slice p2 (trimL (plusC da db 0)).length c2]) (by simp [results, Try.results19, go_sem, hf.cell 0, hf.cell 1]) rfl ?_
 have r1 := hrow2.set (e3.cell 0) (by intro n; simp) (.bool m)
 have r2 := r1.set ((e3.set 0 (.bool m)).cell 1) (by intro n; simp) (.slice p2 (trimL (plusC da db 0)).length c2)
 exact ⟨_, rfl, r2, (((HBW.out.drew.trans (hb1.mono (by simp; omega))).setCell (p := ⟨w.heap.size + 1 + 1, 0, none⟩) (by simp; omega) _).setCell (p := ⟨w.heap.size + 1 + 1, 1, none⟩) (by simp; omega) _)⟩

set_option maxHeartbeats 2000000 in
theorem bigplus_less (s t : Value) (m n : Bool) (da db : List Int) (w : World) (ha : Norm da) (hb : Norm db) (hla : da.length ≤ 1000) (hlb : db.length ≤ 1000) (hs : Row .i64 w s da) (ht : Row .i64 w t db) (hmm : (m == n) = false) (hless : lessB (val da) (val db) = true) :
  Calls Try.prog 19 #[.agg #[.bool m, s], .agg #[.bool n, t]] w fun e w' => ∃ v, e = .returned (.agg #[.bool n, v]) ∧ Row .i64 w' v (trimL (minusC db da 0)) ∧ Below w.heap.size w w' := by
 obtain ⟨p, ca, rfl⟩ := hs.form
 obtain ⟨q, cb, rfl⟩ := ht.form
 have HS := Lib.hid hs
 have HT := Lib.hid ht
 clear hs ht
 go_enter Try.func19, Try.ntmps19
 go_wp2_with fail
 have b0 : Blk (((w.alloc (.cells #[.bool m, .slice p da.length ca] 63)).alloc (.cells #[.bool n, .slice q db.length cb] 63)).alloc (.cells #[.bool false, .slice none 0 0] 63)) w.heap.size _ _ := ((Blk.new w _ _).alloc _).alloc _
 have b1 : Blk (((w.alloc (.cells #[.bool m, .slice p da.length ca] 63)).alloc (.cells #[.bool n, .slice q db.length cb] 63)).alloc (.cells #[.bool false, .slice none 0 0] 63)) (w.heap.size + 1) _ _ := (Blk.new' _ _ _ (by simp)).alloc _
 have b2 : Blk (((w.alloc (.cells #[.bool m, .slice p da.length ca] 63)).alloc (.cells #[.bool n, .slice q db.length cb] 63)).alloc (.cells #[.bool false, .slice none 0 0] 63)) (w.heap.size + 1 + 1) _ _ := Blk.new' _ _ _ (by simp)
 have hbw : Below w.heap.size w (((w.alloc (.cells #[.bool m, .slice p da.length ca] 63)).alloc (.cells #[.bool n, .slice q db.length cb] 63)).alloc (.cells #[.bool false, .slice none 0 0] 63)) := (((Below.refl _ _).alloc (Nat.le_refl _) _).alloc (by simp) _).alloc (by simp; omega) _
 generalize (((w.alloc (.cells #[.bool m, .slice p da.length ca] 63)).alloc (.cells #[.bool n, .slice q db.length cb] 63)).alloc (.cells #[.bool false, .slice none 0 0] 63)) = W at *
 have hsW := b2.lt
 have c00 : W.cell? ⟨w.heap.size, 0, none⟩ = some (.bool m) := b0.cell 0
 have c01 : W.cell? ⟨w.heap.size, 1, none⟩ = some (.slice p da.length ca) := b0.cell 1
 have c10 : W.cell? ⟨w.heap.size + 1, 0, none⟩ = some (.bool n) := b1.cell 0
 have c11 : W.cell? ⟨w.heap.size + 1, 1, none⟩ = some (.slice q db.length cb) := b1.cell 1
 have c20 := peek_ok (show W.cell? ⟨w.heap.size + 1 + 1, 0, none⟩ = some (.bool false) from b2.cell 0)
 have c21 := peek_ok (show W.cell? ⟨w.heap.size + 1 + 1, 1, none⟩ = some (.slice none 0 0) from b2.cell 1)
 have f20 := b2.free 0
 have f21 := b2.free 1
 have RA := Lib.hid (fun (W' : World) (h : Below w.heap.size W W') => HS.out.below (hbw.trans h) (Nat.le_refl _))
 have RB := Lib.hid (fun (W' : World) (h : Below w.heap.size W W') => HT.out.below (hbw.trans h) (Nat.le_refl _))
 have HBW := Lib.hid hbw
 have B2 := Lib.hid b2
 clear b0 b1 b2 hbw HS HT
 go_wp2_with (go_at_call 32; refine (less_any _ _ da db _ ha hb (by omega) (by omega) (RA.out _ (Below.refl _ _)) (RB.out _ (Below.refl _ _))).mono ?_; rintro e w0 ⟨rfl, hb0⟩; rw [hless])
 obtain ⟨d00, d01, d10, d11, d20, d21, g20, g21⟩ := held_call ⟨c00, c01, c10, c11, c20, c21, f20, f21⟩ hb0
 have hs0 := hb0.size
 clear c00 c01 c10 c11 c20 c21 f20 f21
 go_region_held3 (fun w' => w'.cell? ⟨w.heap.size, 0, none⟩ = some (.bool m) ∧ w'.cell? ⟨w.heap.size, 1, none⟩ = some (.slice p da.length ca) ∧ w'.cell? ⟨w.heap.size + 1, 0, none⟩ = some (.bool n) ∧ w'.cell? ⟨w.heap.size + 1, 1, none⟩ = some (.slice q db.length cb) ∧ w'.cell? ⟨w.heap.size + 1 + 1, 0, none⟩ = some (peek w' ⟨w.heap.size + 1 + 1, 0, none⟩) ∧ w'.cell? ⟨w.heap.size + 1 + 1, 1, none⟩ = some (peek w' ⟨w.heap.size + 1 + 1, 1, none⟩) ∧ w'.frozen? ⟨w.heap.size + 1 + 1, 0, none⟩ = false ∧ w'.frozen? ⟨w.heap.size + 1 + 1, 1, none⟩ = false)
  (first | (refine held_set ?_ _ _; assumption) | (refine held_call ?_ hb1; assumption) | assumption | (refine held_drew ⟨?_, ?_, ?_, ?_, ?_, ?_, ?_, ?_⟩ <;> assumption))
  (first
   | (go_at_call 33; refine (minus_any _ _ db da _ hb.1 ha.1 (by omega) (by omega) (RB.out _ ?_) (RA.out _ ?_)).mono ?_; (exact (hb0.mono (by omega)).drew); (exact (hb0.mono (by omega)).drew); rintro e w1 ⟨v2, rfl, hrow2, hb1⟩; obtain ⟨p2, c2, rfl⟩ := hrow2.form))
 go_wp2
 have e3 := (B2.out.below hb0 hsW).drew.below hb1 (by simp; omega)
 have hf := (e3.set 0 (.bool n)).set 1 (.slice p2 (trimL (minusC db da 0)).length c2)
 refine bodyPost_ret (v := .agg #[.bool n, .slice p2 (trimL (minusC db da 0)).length c2]) (by simp [results, Try.results19, go_sem, hf.cell 0, hf.cell 1]) rfl ?_
 have r1 := hrow2.set (e3.cell 0) (by intro n; simp) (.bool n)
 have r2 := r1.set ((e3.set 0 (.bool n)).cell 1) (by intro n; simp) (.slice p2 (trimL (minusC db da 0)).length c2)
 exact ⟨_, rfl, r2, ((((HBW.out.trans (hb0.mono (by omega))).drew.trans (hb1.mono (by simp; omega))).setCell (p := ⟨w.heap.size + 1 + 1, 0, none⟩) (by simp; omega) _).setCell (p := ⟨w.heap.size + 1 + 1, 1, none⟩) (by simp; omega) _)⟩

set_option maxHeartbeats 2000000 in
theorem bigplus_more_no (s t : Value) (n : Bool) (da db : List Int) (w : World) (ha : Norm da) (hb : Norm db) (hla : da.length ≤ 1000) (hlb : db.length ≤ 1000) (hs : Row .i64 w s da) (ht : Row .i64 w t db) (hmm : (false == n) = false) (hless : lessB (val da) (val db) = false) :
  Calls Try.prog 19 #[.agg #[.bool false, s], .agg #[.bool n, t]] w fun e w' => ∃ v, e = .returned (.agg #[.bool false, v]) ∧ Row .i64 w' v (trimL (minusC da db 0)) ∧ Below w.heap.size w w' := by
 obtain ⟨p, ca, rfl⟩ := hs.form
 obtain ⟨q, cb, rfl⟩ := ht.form
 have HS := Lib.hid hs
 have HT := Lib.hid ht
 clear hs ht
 go_enter Try.func19, Try.ntmps19
 go_wp2_with fail
 have b0 : Blk (((w.alloc (.cells #[.bool false, .slice p da.length ca] 63)).alloc (.cells #[.bool n, .slice q db.length cb] 63)).alloc (.cells #[.bool false, .slice none 0 0] 63)) w.heap.size _ _ := ((Blk.new w _ _).alloc _).alloc _
 have b1 : Blk (((w.alloc (.cells #[.bool false, .slice p da.length ca] 63)).alloc (.cells #[.bool n, .slice q db.length cb] 63)).alloc (.cells #[.bool false, .slice none 0 0] 63)) (w.heap.size + 1) _ _ := (Blk.new' _ _ _ (by simp)).alloc _
 have b2 : Blk (((w.alloc (.cells #[.bool false, .slice p da.length ca] 63)).alloc (.cells #[.bool n, .slice q db.length cb] 63)).alloc (.cells #[.bool false, .slice none 0 0] 63)) (w.heap.size + 1 + 1) _ _ := Blk.new' _ _ _ (by simp)
 have hbw : Below w.heap.size w (((w.alloc (.cells #[.bool false, .slice p da.length ca] 63)).alloc (.cells #[.bool n, .slice q db.length cb] 63)).alloc (.cells #[.bool false, .slice none 0 0] 63)) := (((Below.refl _ _).alloc (Nat.le_refl _) _).alloc (by simp) _).alloc (by simp; omega) _
 generalize (((w.alloc (.cells #[.bool false, .slice p da.length ca] 63)).alloc (.cells #[.bool n, .slice q db.length cb] 63)).alloc (.cells #[.bool false, .slice none 0 0] 63)) = W at *
 have hsW := b2.lt
 have c00 : W.cell? ⟨w.heap.size, 0, none⟩ = some (.bool false) := b0.cell 0
 have c01 : W.cell? ⟨w.heap.size, 1, none⟩ = some (.slice p da.length ca) := b0.cell 1
 have c10 : W.cell? ⟨w.heap.size + 1, 0, none⟩ = some (.bool n) := b1.cell 0
 have c11 : W.cell? ⟨w.heap.size + 1, 1, none⟩ = some (.slice q db.length cb) := b1.cell 1
 have c20 := peek_ok (show W.cell? ⟨w.heap.size + 1 + 1, 0, none⟩ = some (.bool false) from b2.cell 0)
 have c21 := peek_ok (show W.cell? ⟨w.heap.size + 1 + 1, 1, none⟩ = some (.slice none 0 0) from b2.cell 1)
 have f20 := b2.free 0
 have f21 := b2.free 1
 have RA := Lib.hid (fun (W' : World) (h : Below w.heap.size W W') => HS.out.below (hbw.trans h) (Nat.le_refl _))
 have RB := Lib.hid (fun (W' : World) (h : Below w.heap.size W W') => HT.out.below (hbw.trans h) (Nat.le_refl _))
 have HBW := Lib.hid hbw
 have B2 := Lib.hid b2
 clear b0 b1 b2 hbw HS HT
 clear hmm
 go_wp2_with (first
  | (go_at_call 32; refine (less_any _ _ da db _ ha hb (by omega) (by omega) (RA.out _ (Below.refl _ _)) (RB.out _ (Below.refl _ _))).mono ?_; rintro e w0 ⟨rfl, hb0⟩; rw [hless]; obtain ⟨d00, d01, d10, d11, d20, d21, g20, g21⟩ := held_call ⟨c00, c01, c10, c11, c20, c21, f20, f21⟩ hb0; have hs0 := hb0.size; clear c00 c01 c10 c11 c20 c21 f20 f21)
  | (go_at_call 33; refine (minus_any _ _ da db _ ha.1 hb.1 (by omega) (by omega) (RA.out _ (hb0.mono (by omega))) (RB.out _ (hb0.mono (by omega)))).mono ?_; rintro e w1 ⟨v2, rfl, hrow2, hb1⟩; obtain ⟨p2, c2, rfl⟩ := hrow2.form; obtain ⟨e00, e01, e10, e11, e20, e21, h20, h21⟩ := held_call ⟨d00, d01, d10, d11, d20, d21, g20, g21⟩ hb1; clear d00 d01 d10 d11 d20 d21 g20 g21))
 have e3 := (B2.out.below hb0 hsW).below hb1 (by omega)
 have hf := (e3.set 0 (.bool false)).set 1 (.slice p2 (trimL (minusC da db 0)).length c2)
 refine bodyPost_ret (v := .agg #[.bool false, .slice p2 (trimL (minusC da db 0)).length c2]) (by simp [results, Try.results19, go_sem, hf.cell 0, hf.cell 1]) rfl ?_
 have r1 := hrow2.set (e3.cell 0) (by intro n; simp) (.bool false)
 have r2 := r1.set ((e3.set 0 (.bool false)).cell 1) (by intro n; simp) (.slice p2 (trimL (minusC da db 0)).length c2)
 exact ⟨_, rfl, r2, ((((HBW.out.trans (hb0.mono (by omega))).trans (hb1.mono (by omega))).setCell (p := ⟨w.heap.size + 1 + 1, 0, none⟩) (by simp; omega) _).setCell (p := ⟨w.heap.size + 1 + 1, 1, none⟩) (by simp; omega) _)⟩

set_option maxHeartbeats 2000000 in
theorem bigplus_more_yes (s t : Value) (n : Bool) (da db : List Int) (w : World) (ha : Norm da) (hb : Norm db) (hla : da.length ≤ 1000) (hlb : db.length ≤ 1000) (hs : Row .i64 w s da) (ht : Row .i64 w t db) (hmm : (true == n) = false) (hless : lessB (val da) (val db) = false) (h0 : 0 < (trimL (minusC da db 0)).length) :
  Calls Try.prog 19 #[.agg #[.bool true, s], .agg #[.bool n, t]] w fun e w' => ∃ v, e = .returned (.agg #[.bool true, v]) ∧ Row .i64 w' v (trimL (minusC da db 0)) ∧ Below w.heap.size w w' := by
 obtain ⟨p, ca, rfl⟩ := hs.form
 obtain ⟨q, cb, rfl⟩ := ht.form
 have HS := Lib.hid hs
 have HT := Lib.hid ht
 clear hs ht
 go_enter Try.func19, Try.ntmps19
 go_wp2_with fail
 have b0 : Blk (((w.alloc (.cells #[.bool true, .slice p da.length ca] 63)).alloc (.cells #[.bool n, .slice q db.length cb] 63)).alloc (.cells #[.bool false, .slice none 0 0] 63)) w.heap.size _ _ := ((Blk.new w _ _).alloc _).alloc _
 have b1 : Blk (((w.alloc (.cells #[.bool true, .slice p da.length ca] 63)).alloc (.cells #[.bool n, .slice q db.length cb] 63)).alloc (.cells #[.bool false, .slice none 0 0] 63)) (w.heap.size + 1) _ _ := (Blk.new' _ _ _ (by simp)).alloc _
 have b2 : Blk (((w.alloc (.cells #[.bool true, .slice p da.length ca] 63)).alloc (.cells #[.bool n, .slice q db.length cb] 63)).alloc (.cells #[.bool false, .slice none 0 0] 63)) (w.heap.size + 1 + 1) _ _ := Blk.new' _ _ _ (by simp)
 have hbw : Below w.heap.size w (((w.alloc (.cells #[.bool true, .slice p da.length ca] 63)).alloc (.cells #[.bool n, .slice q db.length cb] 63)).alloc (.cells #[.bool false, .slice none 0 0] 63)) := (((Below.refl _ _).alloc (Nat.le_refl _) _).alloc (by simp) _).alloc (by simp; omega) _
 generalize (((w.alloc (.cells #[.bool true, .slice p da.length ca] 63)).alloc (.cells #[.bool n, .slice q db.length cb] 63)).alloc (.cells #[.bool false, .slice none 0 0] 63)) = W at *
 have hsW := b2.lt
 have c00 : W.cell? ⟨w.heap.size, 0, none⟩ = some (.bool true) := b0.cell 0
 have c01 : W.cell? ⟨w.heap.size, 1, none⟩ = some (.slice p da.length ca) := b0.cell 1
 have c10 : W.cell? ⟨w.heap.size + 1, 0, none⟩ = some (.bool n) := b1.cell 0
 have c11 : W.cell? ⟨w.heap.size + 1, 1, none⟩ = some (.slice q db.length cb) := b1.cell 1
 have c20 := peek_ok (show W.cell? ⟨w.heap.size + 1 + 1, 0, none⟩ = some (.bool false) from b2.cell 0)
 have c21 := peek_ok (show W.cell? ⟨w.heap.size + 1 + 1, 1, none⟩ = some (.slice none 0 0) from b2.cell 1)
 have f20 := b2.free 0
 have f21 := b2.free 1
 have RA := Lib.hid (fun (W' : World) (h : Below w.heap.size W W') => HS.out.below (hbw.trans h) (Nat.le_refl _))
 have RB := Lib.hid (fun (W' : World) (h : Below w.heap.size W W') => HT.out.below (hbw.trans h) (Nat.le_refl _))
 have HBW := Lib.hid hbw
 have B2 := Lib.hid b2
 clear b0 b1 b2 hbw HS HT
 clear hmm
 go_wp2_with (first
  | (go_at_call 32; refine (less_any _ _ da db _ ha hb (by omega) (by omega) (RA.out _ (Below.refl _ _)) (RB.out _ (Below.refl _ _))).mono ?_; rintro e w0 ⟨rfl, hb0⟩; rw [hless]; obtain ⟨d00, d01, d10, d11, d20, d21, g20, g21⟩ := held_call ⟨c00, c01, c10, c11, c20, c21, f20, f21⟩ hb0; have hs0 := hb0.size; clear c00 c01 c10 c11 c20 c21 f20 f21)
  | (go_at_call 33; refine (minus_any _ _ da db _ ha.1 hb.1 (by omega) (by omega) (RA.out _ (hb0.mono (by omega))) (RB.out _ (hb0.mono (by omega)))).mono ?_; rintro e w1 ⟨v2, rfl, hrow2, hb1⟩; obtain ⟨p2, c2, rfl⟩ := hrow2.form; obtain ⟨e00, e01, e10, e11, e20, e21, h20, h21⟩ := held_call ⟨d00, d01, d10, d11, d20, d21, g20, g21⟩ hb1; clear d00 d01 d10 d11 d20 d21 g20 g21))
 have e3 := (B2.out.below hb0 hsW).below hb1 (by omega)
 have hf := (e3.set 0 (.bool true)).set 1 (.slice p2 (trimL (minusC da db 0)).length c2)
 refine bodyPost_ret (v := .agg #[.bool true, .slice p2 (trimL (minusC da db 0)).length c2]) (by simp [results, Try.results19, go_sem, hf.cell 0, hf.cell 1]) rfl ?_
 have r1 := hrow2.set (e3.cell 0) (by intro n; simp) (.bool true)
 have r2 := r1.set ((e3.set 0 (.bool true)).cell 1) (by intro n; simp) (.slice p2 (trimL (minusC da db 0)).length c2)
 exact ⟨_, rfl, r2, ((((HBW.out.trans (hb0.mono (by omega))).trans (hb1.mono (by omega))).setCell (p := ⟨w.heap.size + 1 + 1, 0, none⟩) (by simp; omega) _).setCell (p := ⟨w.heap.size + 1 + 1, 1, none⟩) (by simp; omega) _)⟩

set_option maxHeartbeats 2000000 in
theorem bigplus_more_nil (s t : Value) (n : Bool) (da db : List Int) (w : World) (ha : Norm da) (hb : Norm db) (hla : da.length ≤ 1000) (hlb : db.length ≤ 1000) (hs : Row .i64 w s da) (ht : Row .i64 w t db) (hmm : (true == n) = false) (hless : lessB (val da) (val db) = false) (h0 : decide (0 < (trimL (minusC da db 0)).length) = false) :
  Calls Try.prog 19 #[.agg #[.bool true, s], .agg #[.bool n, t]] w fun e w' => ∃ v, e = .returned (.agg #[.bool false, v]) ∧ Row .i64 w' v (trimL (minusC da db 0)) ∧ Below w.heap.size w w' := by
 obtain ⟨p, ca, rfl⟩ := hs.form
 obtain ⟨q, cb, rfl⟩ := ht.form
 have HS := Lib.hid hs
 have HT := Lib.hid ht
 clear hs ht
 go_enter Try.func19, Try.ntmps19
 go_wp2_with fail
 have b0 : Blk (((w.alloc (.cells #[.bool true, .slice p da.length ca] 63)).alloc (.cells #[.bool n, .slice q db.length cb] 63)).alloc (.cells #[.bool false, .slice none 0 0] 63)) w.heap.size _ _ := ((Blk.new w _ _).alloc _).alloc _
 have b1 : Blk (((w.alloc (.cells #[.bool true, .slice p da.length ca] 63)).alloc (.cells #[.bool n, .slice q db.length cb] 63)).alloc (.cells #[.bool false, .slice none 0 0] 63)) (w.heap.size + 1) _ _ := (Blk.new' _ _ _ (by simp)).alloc _
 have b2 : Blk (((w.alloc (.cells #[.bool true, .slice p da.length ca] 63)).alloc (.cells #[.bool n, .slice q db.length cb] 63)).alloc (.cells #[.bool false, .slice none 0 0] 63)) (w.heap.size + 1 + 1) _ _ := Blk.new' _ _ _ (by simp)
 have hbw : Below w.heap.size w (((w.alloc (.cells #[.bool true, .slice p da.length ca] 63)).alloc (.cells #[.bool n, .slice q db.length cb] 63)).alloc (.cells #[.bool false, .slice none 0 0] 63)) := (((Below.refl _ _).alloc (Nat.le_refl _) _).alloc (by simp) _).alloc (by simp; omega) _
 generalize (((w.alloc (.cells #[.bool true, .slice p da.length ca] 63)).alloc (.cells #[.bool n, .slice q db.length cb] 63)).alloc (.cells #[.bool false, .slice none 0 0] 63)) = W at *
 have hsW := b2.lt
 have c00 : W.cell? ⟨w.heap.size, 0, none⟩ = some (.bool true) := b0.cell 0
 have c01 : W.cell? ⟨w.heap.size, 1, none⟩ = some (.slice p da.length ca) := b0.cell 1
 have c10 : W.cell? ⟨w.heap.size + 1, 0, none⟩ = some (.bool n) := b1.cell 0
 have c11 : W.cell? ⟨w.heap.size + 1, 1, none⟩ = some (.slice q db.length cb) := b1.cell 1
 have c20 := peek_ok (show W.cell? ⟨w.heap.size + 1 + 1, 0, none⟩ = some (.bool false) from b2.cell 0)
 have c21 := peek_ok (show W.cell? ⟨w.heap.size + 1 + 1, 1, none⟩ = some (.slice none 0 0) from b2.cell 1)
 have f20 := b2.free 0
 have f21 := b2.free 1
 have RA := Lib.hid (fun (W' : World) (h : Below w.heap.size W W') => HS.out.below (hbw.trans h) (Nat.le_refl _))
 have RB := Lib.hid (fun (W' : World) (h : Below w.heap.size W W') => HT.out.below (hbw.trans h) (Nat.le_refl _))
 have HBW := Lib.hid hbw
 have B2 := Lib.hid b2
 clear b0 b1 b2 hbw HS HT
 clear hmm
 go_wp2_with (first
  | (go_at_call 32; refine (less_any _ _ da db _ ha hb (by omega) (by omega) (RA.out _ (Below.refl _ _)) (RB.out _ (Below.refl _ _))).mono ?_; rintro e w0 ⟨rfl, hb0⟩; rw [hless]; obtain ⟨d00, d01, d10, d11, d20, d21, g20, g21⟩ := held_call ⟨c00, c01, c10, c11, c20, c21, f20, f21⟩ hb0; have hs0 := hb0.size; clear c00 c01 c10 c11 c20 c21 f20 f21)
  | (go_at_call 33; refine (minus_any _ _ da db _ ha.1 hb.1 (by omega) (by omega) (RA.out _ (hb0.mono (by omega))) (RB.out _ (hb0.mono (by omega)))).mono ?_; rintro e w1 ⟨v2, rfl, hrow2, hb1⟩; obtain ⟨p2, c2, rfl⟩ := hrow2.form; obtain ⟨e00, e01, e10, e11, e20, e21, h20, h21⟩ := held_call ⟨d00, d01, d10, d11, d20, d21, g20, g21⟩ hb1; clear d00 d01 d10 d11 d20 d21 g20 g21))
 have e3 := (B2.out.below hb0 hsW).below hb1 (by omega)
 have hf := (e3.set 0 (.bool false)).set 1 (.slice p2 (trimL (minusC da db 0)).length c2)
 refine bodyPost_ret (v := .agg #[.bool false, .slice p2 (trimL (minusC da db 0)).length c2]) (by simp [results, Try.results19, go_sem, hf.cell 0, hf.cell 1]) rfl ?_
 have r1 := hrow2.set (e3.cell 0) (by intro n; simp) (.bool false)
 have r2 := r1.set ((e3.set 0 (.bool false)).cell 1) (by intro n; simp) (.slice p2 (trimL (minusC da db 0)).length c2)
 exact ⟨_, rfl, r2, ((((HBW.out.trans (hb0.mono (by omega))).trans (hb1.mono (by omega))).setCell (p := ⟨w.heap.size + 1 + 1, 0, none⟩) (by simp; omega) _).setCell (p := ⟨w.heap.size + 1 + 1, 1, none⟩) (by simp; omega) _)⟩

/-- Of at most forty digits. -/
def Small (x : Int) : Prop := x.natAbs < 10 ^ 40
theorem Small.len {x : Int} (h : Small x) : (digs x.natAbs).length ≤ 1000 := Nat.le_trans (digs_length _ 40 h) (by decide)
theorem digs_plus {x y : Int} (h : decide (x < 0) = decide (y < 0)) : trimL (plusC (digs x.natAbs) (digs y.natAbs) 0) = digs (x + y).natAbs ∧ decide (x < 0) = decide (x + y < 0) := by
 obtain ⟨s1, s2, _⟩ := plusC_spec (digs x.natAbs) (digs y.natAbs) 0 (digs_isDigs _) (digs_isDigs _) (by decide) (by decide)
 obtain ⟨t1, t2, _⟩ := trimL_spec _ _ rfl s1
 rw [decide_eq_decide] at h
 refine ⟨?_, by rw [decide_eq_decide]; omega⟩
 rw [norm_digs t1, t2, s2, val_digs, val_digs]
 congr 1; omega
theorem digs_minus {x y : Int} (hle : y.natAbs ≤ x.natAbs) : trimL (minusC (digs x.natAbs) (digs y.natAbs) 0) = digs (x.natAbs - y.natAbs) := by
 obtain ⟨s1, s2⟩ := minusC_spec (digs x.natAbs) (digs y.natAbs) 0 (digs_isDigs _) (digs_isDigs _) (by decide) (by decide) (by rw [val_digs, val_digs]; omega)
 obtain ⟨t1, t2, _⟩ := trimL_spec _ _ rfl s1
 rw [norm_digs t1, t2, s2, val_digs, val_digs]
 congr 1; omega

/-- The contract: two numbers together. -/
theorem bigplus_any (u v : Value) (x y : Int) (w : World) (hx : Small x) (hy : Small y) (hu : IsBig w u x) (hv : IsBig w v y) :
  Calls Try.prog 19 #[u, v] w fun e w' => ∃ r, e = .returned r ∧ IsBig w' r (x + y) ∧ Below w.heap.size w w' := by
 obtain ⟨s, rfl, hs⟩ := hu
 obtain ⟨t, rfl, ht⟩ := hv
 by_cases hsg : decide (x < 0) = decide (y < 0)
 ·refine (bigplus_same s t _ _ _ _ w (digs_norm _) (digs_norm _) hx.len hy.len hs ht (by rw [hsg]; simp)).mono ?_
  rintro e w' ⟨r, rfl, hr, hb⟩
  obtain ⟨e1, e2⟩ := digs_plus hsg
  exact ⟨_, rfl, ⟨r, by rw [e2], by rw [← e1]; exact hr⟩, hb⟩
 ·have hmn : (decide (x < 0) == decide (y < 0)) = false := by rw [beq_eq_false_iff_ne]; exact hsg
  have hne : ¬ (x < 0 ↔ y < 0) := fun h => hsg (by rw [decide_eq_decide]; exact h)
  by_cases hl : x.natAbs < y.natAbs
  ·have hless : lessB (val (digs x.natAbs)) (val (digs y.natAbs)) = true := by unfold lessB; rw [val_digs, val_digs, decide_eq_true_eq]; omega
   refine (bigplus_less s t _ _ _ _ w (digs_norm _) (digs_norm _) hx.len hy.len hs ht hmn hless).mono ?_
   rintro e w' ⟨r, rfl, hr, hb⟩
   rw [digs_minus (by omega)] at hr
   refine ⟨_, rfl, ⟨r, ?_, ?_⟩, hb⟩
   ·rw [show decide (y < 0) = decide (x + y < 0) by rw [decide_eq_decide]; omega]
   ·rw [show (x + y).natAbs = y.natAbs - x.natAbs by omega]; exact hr
  ·have hless : lessB (val (digs x.natAbs)) (val (digs y.natAbs)) = false := by unfold lessB; rw [val_digs, val_digs, decide_eq_false_iff_not]; omega
   have hd := digs_minus (x := x) (y := y) (by omega)
   have ea : (x + y).natAbs = x.natAbs - y.natAbs := by omega
   by_cases hx0 : x < 0
   ·have hmn' : (true == decide (y < 0)) = false := by rw [← hmn]; simp [hx0]
    by_cases h0 : 0 < (trimL (minusC (digs x.natAbs) (digs y.natAbs) 0)).length
    ·have hpos : x.natAbs - y.natAbs ≠ 0 := fun e => by rw [hd, e, digs_zero] at h0; simp at h0
     rw [show decide (x < 0) = true by simpa using hx0]
     refine (bigplus_more_yes s t _ _ _ w (digs_norm _) (digs_norm _) hx.len hy.len hs ht hmn' hless h0).mono ?_
     rintro e w' ⟨r, rfl, hr, hb⟩
     rw [hd] at hr
     refine ⟨_, rfl, ⟨r, ?_, by rw [ea]; exact hr⟩, hb⟩
     rw [show decide (x + y < 0) = true by rw [decide_eq_true_eq]; omega]
    ·have hz : x.natAbs - y.natAbs = 0 := by
      rw [hd] at h0
      exact digs_nil.1 (List.length_eq_zero_iff.1 (by omega))
     rw [show decide (x < 0) = true by simpa using hx0]
     refine (bigplus_more_nil s t _ _ _ w (digs_norm _) (digs_norm _) hx.len hy.len hs ht hmn' hless (by simpa using h0)).mono ?_
     rintro e w' ⟨r, rfl, hr, hb⟩
     rw [hd] at hr
     refine ⟨_, rfl, ⟨r, ?_, by rw [ea]; exact hr⟩, hb⟩
     rw [show decide (x + y < 0) = false by rw [decide_eq_false_iff_not]; omega]
   ·have hmn' : (false == decide (y < 0)) = false := by simp [show y < 0 by omega]
    rw [show decide (x < 0) = false by simpa using hx0]
    refine (bigplus_more_no s t _ _ _ w (digs_norm _) (digs_norm _) hx.len hy.len hs ht hmn' hless).mono ?_
    rintro e w' ⟨r, rfl, hr, hb⟩
    rw [hd] at hr
    refine ⟨_, rfl, ⟨r, ?_, by rw [ea]; exact hr⟩, hb⟩
    rw [show decide (x + y < 0) = false by rw [decide_eq_false_iff_not]; omega]
end Go.Proofs.Ytillckkohdjkbaa
namespace Go.Proofs.Ytillckkohdjkbaa
open Go.RowKit

def mostP : List Int := [7, 0, 8, 5, 7, 7, 4, 5, 8, 6, 3, 0, 2, 7, 3, 3, 2, 2, 9]
def mostM : List Int := [8, 0, 8, 5, 7, 7, 4, 5, 8, 6, 3, 0, 2, 7, 3, 3, 2, 2, 9]
theorem mostP_norm : Norm mostP := by unfold Norm IsDigs mostP; decide
theorem mostM_norm : Norm mostM := by unfold Norm IsDigs mostM; decide
theorem mostP_val : val mostP = 9223372036854775807 := by decide
theorem mostM_val : val mostM = 9223372036854775808 := by decide

/-- A row of its own, all cells known. -/
theorem Row.lit (w : World) (T : TypeId) (zs : List Int) (n : Nat) (hn : n = zs.length) {b : Nat} (hb : b = w.heap.size) (cs : Array Value) (hcs : cs = (zs.map (Value.int .i64)).toArray) :
  Row .i64 (w.alloc (.cells cs T)) (.slice (some ⟨b, 0, none⟩) n n) zs := by
 subst hn hb hcs
 refine ⟨_, _, rfl, Nat.le_refl _, .inr ⟨_, _, rfl, fun i hi => ?_⟩⟩
 rw [World.cell?_alloc_at _ _ _ _ rfl, List.getD_eq_getElem?_getD, List.getElem?_eq_getElem hi]
 simp [hi]

theorem val_drop {l : List Int} (h : IsDigs l) (k : Nat) : 0 ≤ val (l.drop k) ∧ val (l.drop k) ≤ val l := by
 induction k generalizing l with
 | zero => exact ⟨val_nonneg h, Int.le_refl _⟩
 | succ k ih =>
  cases l with
  | nil => simp [val]
  | cons d t =>
   obtain ⟨h1, h2⟩ := h.cons
   obtain ⟨a, b⟩ := ih h2
   have := val_nonneg h2
   rw [List.drop_succ_cons]
   simp only [val]; omega
theorem val_drop_step {l : List Int} (m : Nat) (h : m < l.length) : val (l.drop m) = l.getD m 0 + 10 * val (l.drop (m + 1)) := by
 rcases drop_cases l m with ⟨_, e⟩ | ⟨e, _⟩
 ·rw [e, val]
 ·omega
theorem ret_two {a b : Int} {c d : Bool} (h : a = b) (h' : c = d) : Ending.returned (.tuple #[.int .i64 a, .bool c]) = .returned (.tuple #[.int .i64 b, .bool d]) := by rw [h, h']
/-- Do they fit, as a number, with this sign? -/
def fitsB (x : Int) : Bool := decide (Fits x)

set_option maxHeartbeats 2000000 in
set_option maxRecDepth 100000 in
theorem fits_pos (s : Value) (da : List Int) (w : World) (ha : Norm da) (hla : da.length ≤ 1000) (hs : Row .i64 w s da) :
  Calls Try.prog 21 #[.agg #[.bool false, s]] w fun e w' => e = .returned (.tuple #[.int .i64 (sumN (val da)), .bool (fitsB (val da))]) ∧ Below w.heap.size w w' := by
 obtain ⟨p, ca, rfl⟩ := hs.form
 have hv0 := val_nonneg ha.1
 go_enter Try.func21, Try.ntmps21
 go_wp2_with fail
 have b0 : Blk ((w.alloc (.cells #[.bool false, .slice p da.length ca] 63)).alloc (.cells #[.int .i64 7, .int .i64 0, .int .i64 8, .int .i64 5, .int .i64 7, .int .i64 7, .int .i64 4, .int .i64 5, .int .i64 8, .int .i64 6, .int .i64 3, .int .i64 0, .int .i64 2, .int .i64 7, .int .i64 3, .int .i64 3, .int .i64 2, .int .i64 2, .int .i64 9] 3)) w.heap.size _ _ := (Blk.new w _ _).alloc _
 have hbw : Below w.heap.size w ((w.alloc (.cells #[.bool false, .slice p da.length ca] 63)).alloc (.cells #[.int .i64 7, .int .i64 0, .int .i64 8, .int .i64 5, .int .i64 7, .int .i64 7, .int .i64 4, .int .i64 5, .int .i64 8, .int .i64 6, .int .i64 3, .int .i64 0, .int .i64 2, .int .i64 7, .int .i64 3, .int .i64 3, .int .i64 2, .int .i64 2, .int .i64 9] 3)) := ((Below.refl _ _).alloc (Nat.le_refl _) _).alloc (by simp) _
 have hrm : Row .i64 ((w.alloc (.cells #[.bool false, .slice p da.length ca] 63)).alloc (.cells #[.int .i64 7, .int .i64 0, .int .i64 8, .int .i64 5, .int .i64 7, .int .i64 7, .int .i64 4, .int .i64 5, .int .i64 8, .int .i64 6, .int .i64 3, .int .i64 0, .int .i64 2, .int .i64 7, .int .i64 3, .int .i64 3, .int .i64 2, .int .i64 2, .int .i64 9] 3)) (.slice (some ⟨w.heap.size + 1, 0, none⟩) 19 19) mostP := Row.lit _ _ mostP 19 rfl (by simp) _ rfl
 generalize ((w.alloc (.cells #[.bool false, .slice p da.length ca] 63)).alloc (.cells #[.int .i64 7, .int .i64 0, .int .i64 8, .int .i64 5, .int .i64 7, .int .i64 7, .int .i64 4, .int .i64 5, .int .i64 8, .int .i64 6, .int .i64 3, .int .i64 0, .int .i64 2, .int .i64 7, .int .i64 3, .int .i64 3, .int .i64 2, .int .i64 2, .int .i64 9] 3)) = W at *
 have HR := Lib.hid (fun (W' : World) (h : Below w.heap.size W W') => hs.below (hbw.trans h) (Nat.le_refl _))
 have hless := less_any _ _ mostP da W mostP_norm ha (by decide) (by omega) hrm (HR.out W (Below.refl _ _))
 rw [mostP_val] at hless
 have HBW := Lib.hid hbw
 have B0 := Lib.hid b0
 have hsz := b0.lt
 clear hs hbw b0 hrm
 by_cases hf : val da ≤ 9223372036854775807
 ·have hl : lessB 9223372036854775807 (val da) = false := by unfold lessB; rw [decide_eq_false_iff_not]; omega
  have hfit : Fits (val da) := by unfold Fits; omega
  have h1 : Hid (sumN (val da) = val da) := sumN_yes hfit
  have h2 : Hid (fitsB (val da) = true) := by show _ = _; unfold fitsB; simpa using hfit
  rw [hl] at hless
  clear hfit hl
  refine hless.mono ?_
  rintro e w1 ⟨rfl, hb1⟩
  have B1 := B0.out.below hb1 hsz
  have c0 : w1.cell? ⟨w.heap.size, 0, none⟩ = some (.bool false) := B1.cell 0
  have c1 : w1.cell? ⟨w.heap.size, 1, none⟩ = some (.slice p da.length ca) := B1.cell 1
  have R1 := Lib.hid (HR.out w1 (hb1.mono (by omega)))
  have HB := Lib.hid (HBW.out.trans (hb1.mono (by omega)))
  clear hless B1 hb1 HR HBW B0
  go_wp2
  go_loop [5, 6] (fun vn vi => ∃ j V : Int, -1 ≤ j ∧ j < (da.length : Int) ∧ vi = .int .i64 j ∧ vn = .int .i64 (V) ∧ Hid (V = val (da.drop (j + 1).toNat))) (fun _ vi => (intOf vi + 1).toNat)
  case atStart =>
   refine ⟨(da.length : Int) - 1, 0, by omega, by omega, rfl, rfl, ?_⟩
   show _ = _
   rw [List.drop_eq_nil_iff.2 (by omega)]; rfl
  case round =>
   obtain ⟨j, V, hj0, hj1, rfl, rfl, hV⟩ := hrel
   by_cases h0 : j < 0
   ·obtain rfl : j = -1 := by omega
    have hV' : Hid (V = val da) := by have := hV.out; simp at this; exact this
    clear hV
    go_wp2
    go_ret2
    exact ⟨ret_two (by rw [h1.out, hV'.out]) (by rw [h2.out]), HB.out⟩
   ·obtain ⟨k, rfl⟩ : ∃ k : Nat, j = k := ⟨j.toNat, by omega⟩
    have hV' : V = val (da.drop (k + 1)) := by have := hV.out; rw [show ((k : Int) + 1).toNat = k + 1 by omega] at this; exact this
    clear hV
    obtain ⟨b, o, rfl, hc⟩ := R1.out.at k (by omega)
    have hst := val_drop_step (l := da) k (by omega)
    rw [← hV'] at hst
    have hbd := val_drop ha.1 k
    have hbv := (val_drop ha.1 (k + 1)).1
    rw [← hV'] at hbv
    rw [hst] at hbd
    have hdg := digs_getD ha.1 k
    have HST := Lib.hid hst
    generalize da.getD k 0 = d at *
    have hm0 : 0 ≤ d + 10 * V := hbd.1
    have hm1 : d + 10 * V ≤ 9223372036854775807 := Int.le_trans hbd.2 hf
    clear hst hbd hV'
    go_wp2
    go_round
    case rel => exact ⟨(k : Int) - 1, d + 10 * V, by omega, by omega, rfl, by first | rfl | (congr 1; omega), by show _ = _; rw [show ((k : Int) - 1 + 1).toNat = k by omega]; exact HST.out.symm⟩
    case measure => simp [intOf]
 ·have hl : lessB 9223372036854775807 (val da) = true := by unfold lessB; rw [decide_eq_true_eq]; omega
  have hfit : ¬ Fits (val da) := by unfold Fits; omega
  have h1 : Hid (sumN (val da) = 0) := sumN_no hfit
  have h2 : Hid (fitsB (val da) = false) := by show _ = _; unfold fitsB; simpa using hfit
  rw [hl] at hless
  clear hfit hl hf
  refine hless.mono ?_
  rintro e w1 ⟨rfl, hb1⟩
  have HB := Lib.hid (HBW.out.trans (hb1.mono (by omega)))
  clear hless hb1
  go_wp2
  go_ret2
  exact ⟨ret_two (by rw [h1.out]) (by rw [h2.out]), HB.out⟩

set_option maxHeartbeats 2000000 in
set_option maxRecDepth 100000 in
theorem fits_neg (s : Value) (da : List Int) (w : World) (ha : Norm da) (hla : da.length ≤ 1000) (hs : Row .i64 w s da) :
  Calls Try.prog 21 #[.agg #[.bool true, s]] w fun e w' => e = .returned (.tuple #[.int .i64 (sumN (-val da)), .bool (fitsB (-val da))]) ∧ Below w.heap.size w w' := by
 obtain ⟨p, ca, rfl⟩ := hs.form
 have hv0 := val_nonneg ha.1
 go_enter Try.func21, Try.ntmps21
 go_wp2_with fail
 have b0 : Blk (((w.alloc (.cells #[.bool true, .slice p da.length ca] 63)).alloc (.cells #[.int .i64 7, .int .i64 0, .int .i64 8, .int .i64 5, .int .i64 7, .int .i64 7, .int .i64 4, .int .i64 5, .int .i64 8, .int .i64 6, .int .i64 3, .int .i64 0, .int .i64 2, .int .i64 7, .int .i64 3, .int .i64 3, .int .i64 2, .int .i64 2, .int .i64 9] 3)).alloc (.cells #[.int .i64 8, .int .i64 0, .int .i64 8, .int .i64 5, .int .i64 7, .int .i64 7, .int .i64 4, .int .i64 5, .int .i64 8, .int .i64 6, .int .i64 3, .int .i64 0, .int .i64 2, .int .i64 7, .int .i64 3, .int .i64 3, .int .i64 2, .int .i64 2, .int .i64 9] 3)) w.heap.size _ _ := ((Blk.new w _ _).alloc _).alloc _
 have hbw : Below w.heap.size w (((w.alloc (.cells #[.bool true, .slice p da.length ca] 63)).alloc (.cells #[.int .i64 7, .int .i64 0, .int .i64 8, .int .i64 5, .int .i64 7, .int .i64 7, .int .i64 4, .int .i64 5, .int .i64 8, .int .i64 6, .int .i64 3, .int .i64 0, .int .i64 2, .int .i64 7, .int .i64 3, .int .i64 3, .int .i64 2, .int .i64 2, .int .i64 9] 3)).alloc (.cells #[.int .i64 8, .int .i64 0, .int .i64 8, .int .i64 5, .int .i64 7, .int .i64 7, .int .i64 4, .int .i64 5, .int .i64 8, .int .i64 6, .int .i64 3, .int .i64 0, .int .i64 2, .int .i64 7, .int .i64 3, .int .i64 3, .int .i64 2, .int .i64 2, .int .i64 9] 3)) := (((Below.refl _ _).alloc (Nat.le_refl _) _).alloc (by simp) _).alloc (by simp; omega) _
 have hrm : Row .i64 (((w.alloc (.cells #[.bool true, .slice p da.length ca] 63)).alloc (.cells #[.int .i64 7, .int .i64 0, .int .i64 8, .int .i64 5, .int .i64 7, .int .i64 7, .int .i64 4, .int .i64 5, .int .i64 8, .int .i64 6, .int .i64 3, .int .i64 0, .int .i64 2, .int .i64 7, .int .i64 3, .int .i64 3, .int .i64 2, .int .i64 2, .int .i64 9] 3)).alloc (.cells #[.int .i64 8, .int .i64 0, .int .i64 8, .int .i64 5, .int .i64 7, .int .i64 7, .int .i64 4, .int .i64 5, .int .i64 8, .int .i64 6, .int .i64 3, .int .i64 0, .int .i64 2, .int .i64 7, .int .i64 3, .int .i64 3, .int .i64 2, .int .i64 2, .int .i64 9] 3)) (.slice (some ⟨w.heap.size + 1 + 1, 0, none⟩) 19 19) mostM := Row.lit _ _ mostM 19 rfl (by simp) _ rfl
 generalize (((w.alloc (.cells #[.bool true, .slice p da.length ca] 63)).alloc (.cells #[.int .i64 7, .int .i64 0, .int .i64 8, .int .i64 5, .int .i64 7, .int .i64 7, .int .i64 4, .int .i64 5, .int .i64 8, .int .i64 6, .int .i64 3, .int .i64 0, .int .i64 2, .int .i64 7, .int .i64 3, .int .i64 3, .int .i64 2, .int .i64 2, .int .i64 9] 3)).alloc (.cells #[.int .i64 8, .int .i64 0, .int .i64 8, .int .i64 5, .int .i64 7, .int .i64 7, .int .i64 4, .int .i64 5, .int .i64 8, .int .i64 6, .int .i64 3, .int .i64 0, .int .i64 2, .int .i64 7, .int .i64 3, .int .i64 3, .int .i64 2, .int .i64 2, .int .i64 9] 3)) = W at *
 have HR := Lib.hid (fun (W' : World) (h : Below w.heap.size W W') => hs.below (hbw.trans h) (Nat.le_refl _))
 have hless := less_any _ _ mostM da W mostM_norm ha (by decide) (by omega) hrm (HR.out W (Below.refl _ _))
 rw [mostM_val] at hless
 have HBW := Lib.hid hbw
 have B0 := Lib.hid b0
 have hsz := b0.lt
 clear hs hbw b0 hrm
 by_cases hf : val da ≤ 9223372036854775808
 ·have hl : lessB 9223372036854775808 (val da) = false := by unfold lessB; rw [decide_eq_false_iff_not]; omega
  have hfit : Fits (-val da) := by unfold Fits; omega
  have h1 : Hid (sumN (-val da) = -val da) := sumN_yes hfit
  have h2 : Hid (fitsB (-val da) = true) := by show _ = _; unfold fitsB; simpa using hfit
  rw [hl] at hless
  clear hfit hl
  refine hless.mono ?_
  rintro e w1 ⟨rfl, hb1⟩
  have B1 := B0.out.below hb1 hsz
  have c0 : w1.cell? ⟨w.heap.size, 0, none⟩ = some (.bool true) := B1.cell 0
  have c1 : w1.cell? ⟨w.heap.size, 1, none⟩ = some (.slice p da.length ca) := B1.cell 1
  have R1 := Lib.hid (HR.out w1 (hb1.mono (by omega)))
  have HB := Lib.hid (HBW.out.trans (hb1.mono (by omega)))
  clear hless B1 hb1 HR HBW B0
  go_wp2
  go_loop [5, 6] (fun vn vi => ∃ j V : Int, -1 ≤ j ∧ j < (da.length : Int) ∧ vi = .int .i64 j ∧ vn = .int .i64 (-V) ∧ Hid (V = val (da.drop (j + 1).toNat))) (fun _ vi => (intOf vi + 1).toNat)
  case atStart =>
   refine ⟨(da.length : Int) - 1, 0, by omega, by omega, rfl, by simp, ?_⟩
   show _ = _
   rw [List.drop_eq_nil_iff.2 (by omega)]; rfl
  case round =>
   obtain ⟨j, V, hj0, hj1, rfl, rfl, hV⟩ := hrel
   by_cases h0 : j < 0
   ·obtain rfl : j = -1 := by omega
    have hV' : Hid (V = val da) := by have := hV.out; simp at this; exact this
    clear hV
    go_wp2
    go_ret2
    exact ⟨ret_two (by rw [h1.out, hV'.out]) (by rw [h2.out]), HB.out⟩
   ·obtain ⟨k, rfl⟩ : ∃ k : Nat, j = k := ⟨j.toNat, by omega⟩
    have hV' : V = val (da.drop (k + 1)) := by have := hV.out; rw [show ((k : Int) + 1).toNat = k + 1 by omega] at this; exact this
    clear hV
    obtain ⟨b, o, rfl, hc⟩ := R1.out.at k (by omega)
    have hst := val_drop_step (l := da) k (by omega)
    rw [← hV'] at hst
    have hbd := val_drop ha.1 k
    have hbv := (val_drop ha.1 (k + 1)).1
    rw [← hV'] at hbv
    rw [hst] at hbd
    have hdg := digs_getD ha.1 k
    have HST := Lib.hid hst
    generalize da.getD k 0 = d at *
    have hm0 : 0 ≤ d + 10 * V := hbd.1
    have hm1 : d + 10 * V ≤ 9223372036854775808 := Int.le_trans hbd.2 hf
    clear hst hbd hV'
    go_wp2
    go_round
    case rel => exact ⟨(k : Int) - 1, d + 10 * V, by omega, by omega, rfl, by first | rfl | (congr 1; omega), by show _ = _; rw [show ((k : Int) - 1 + 1).toNat = k by omega]; exact HST.out.symm⟩
    case measure => simp [intOf]
 ·have hl : lessB 9223372036854775808 (val da) = true := by unfold lessB; rw [decide_eq_true_eq]; omega
  have hfit : ¬ Fits (-val da) := by unfold Fits; omega
  have h1 : Hid (sumN (-val da) = 0) := sumN_no hfit
  have h2 : Hid (fitsB (-val da) = false) := by show _ = _; unfold fitsB; simpa using hfit
  rw [hl] at hless
  clear hfit hl hf
  refine hless.mono ?_
  rintro e w1 ⟨rfl, hb1⟩
  have HB := Lib.hid (HBW.out.trans (hb1.mono (by omega)))
  clear hless hb1
  go_wp2
  go_ret2
  exact ⟨ret_two (by rw [h1.out]) (by rw [h2.out]), HB.out⟩

theorem fits_any (v : Value) (x : Int) (w : World) (hx : Small x) (hv : IsBig w v x) :
  Calls Try.prog 21 #[v] w fun e w' => e = .returned (.tuple #[.int .i64 (sumN x), .bool (fitsB x)]) ∧ Below w.heap.size w w' := by
 obtain ⟨s, rfl, hs⟩ := hv
 by_cases h : x < 0
 ·rw [show decide (x < 0) = true by simpa using h]
  have := fits_neg s _ w (digs_norm _) hx.len hs
  rw [val_digs, show -((x.natAbs : Nat) : Int) = x by omega] at this
  exact this
 ·rw [show decide (x < 0) = false by simpa using h]
  have := fits_pos s _ w (digs_norm _) hx.len hs
  rw [val_digs, show ((x.natAbs : Nat) : Int) = x by omega] at this
  exact this
end Go.Proofs.Ytillckkohdjkbaa
namespace Go.Proofs.Ytillckkohdjkbaa
open Go.RowKit

theorem IsBig.kept {w w' : World} {v : Value} {x : Int} (h : IsBig w v x) (hb : Below w.heap.size w w') : IsBig w' v x := by
 obtain ⟨s, e, hr⟩ := h
 exact ⟨s, e, hr.kept hb⟩
theorem IsBig.form {w : World} {v : Value} {x : Int} (h : IsBig w v x) : ∃ p n c, v = .agg #[.bool (decide (x < 0)), .slice p n c] := by
 obtain ⟨s, e, hr⟩ := h
 obtain ⟨p, c, rfl⟩ := hr.form
 exact ⟨p, _, c, e⟩
theorem IsBig.set {w : World} {v : Value} {x : Int} (h : IsBig w v x) {a : Addr} {y : Value} (hx : w.cell? a = some y) (hne : ∀ n, y ≠ .int .i64 n) (u : Value) : IsBig (w.setCell a u) v x := by
 obtain ⟨s, e, hr⟩ := h
 exact ⟨s, e, hr.set hx hne u⟩
theorem small_sum {zs : List Int} (h : All64 zs) (hl : zs.length ≤ 1000) (k : Nat) : Small (zs.take k).sum := by
 have h1 := sum_bound (zs.take k) (fun a ha => h a (List.mem_of_mem_take ha))
 have h2 : (zs.take k).length ≤ 1000 := by rw [List.length_take]; omega
 unfold Small
 omega
theorem small_one {a : Int} (h : Fits a) : Small a := by unfold Fits at h; unfold Small; omega

/-- What the loop keeps. -/
def SumRel (zs : List Int) (w : World) (k : Nat) (p : Option Addr) (n c : Nat) (wr : World) : Prop :=
 Blk wr w.heap.size #[.bool (decide ((zs.take k).sum < 0)), .slice p n c] 63 ∧ IsBig wr (.agg #[.bool (decide ((zs.take k).sum < 0)), .slice p n c]) (zs.take k).sum ∧ Below w.heap.size w wr

theorem SumRel.step {zs : List Int} {w w2 : World} {k : Nat} {p p' : Option Addr} {n n' c c' : Nat} {mm : Bool} {y : Int} (hB : Blk w2 w.heap.size #[.bool mm, .slice p n c] 63)
  (hy : (zs.take (k + 1)).sum = y) (hbr : IsBig w2 (.agg #[.bool (decide (y < 0)), .slice p' n' c']) y) (hb : Below w.heap.size w w2) :
  SumRel zs w (k + 1) p' n' c' ((w2.setCell ⟨w.heap.size, 0, none⟩ (.bool (decide (y < 0)))).setCell ⟨w.heap.size, 1, none⟩ (.slice p' n' c')) := by
 subst hy
 refine ⟨(hB.set 0 _).set 1 _, ?_, (hb.setCell (by simp) _).setCell (by simp) _⟩
 exact (hbr.set (hB.cell 0) (by intro n; simp) _).set ((hB.set 0 _).cell 1) (by intro n; simp) _

set_option maxHeartbeats 2000000 in
theorem refsum_any (v : Value) (zs : List Int) (w : World) (hm : zs.length ≤ 1000) (h64 : All64 zs) (hrow : Row .i64 w v zs) :
  Calls Try.prog 8 #[v] w fun e w' => e = .returned (.tuple #[.int .i64 (sumN zs.sum), .int .i64 (sumE zs.sum)]) ∧ Below w.heap.size w w' := by
 obtain ⟨p0, c0, rfl⟩ := hrow.form
 have HR := Lib.hid hrow
 have HS : Hid (zs.sum = (zs.take zs.length).sum) := by show _ = _; rw [List.take_length]
 clear hrow
 generalize hn : zs.length = n0 at *
 have HN := Lib.hid hn
 clear hn
 go_enter Try.func8, Try.ntmps8
 go_wp2
 go_loopw [5] (fun vi wr => ∃ (k : Nat) (p : Option Addr) (n c : Nat), k ≤ n0 ∧ vi = .int .i64 k ∧ Hid (SumRel zs w k p n c wr)) (fun vi _ => n0 - (intOf vi).toNat)
 case atStart =>
  refine ⟨0, none, 0, 0, Nat.zero_le _, rfl, ?_, ?_, ?_⟩
  ·simpa using Blk.new w _ _
  ·refine ⟨.slice none 0 0, rfl, none, 0, ?_, ?_, .inl ?_⟩ <;> simp [digs_zero]
  ·exact (Below.refl _ _).alloc (Nat.le_refl _) _
 case round =>
  obtain ⟨k, p, n, c, hk, rfl, HREL⟩ := hrel
  by_cases hlt : k < n0
  ·obtain ⟨b, o, rfl, hc⟩ := HR.out.at k (by rw [HN.out]; exact hlt)
   have hB := HREL.out.1
   have HBIG := Lib.hid HREL.out.2.1
   have hbel := HREL.out.2.2
   have hcl : wr.cell? ⟨b, o + k, none⟩ = some (.int .i64 (zs.getD k 0)) := (hbel.cell (p := ⟨b, o + k, none⟩) (World.block_lt_of_cell? w _ hc)).trans hc
   have ha : Fits (zs.getD k 0) := h64.getD k
   have hsx := small_sum h64 (by rw [HN.out]; exact hm) k
   have hts : Hid ((zs.take (k + 1)).sum = (zs.take k).sum + zs.getD k 0) := take_succ_sum zs k (by rw [HN.out]; exact hlt)
   have c0 : wr.cell? ⟨w.heap.size, 0, none⟩ = some (.bool (decide ((zs.take k).sum < 0))) := hB.cell 0
   have c1 : wr.cell? ⟨w.heap.size, 1, none⟩ = some (.slice p n c) := hB.cell 1
   have hsz := hB.lt
   have HBB := Lib.hid hB
   have HBEL := Lib.hid hbel
   clear hB hbel hc
   generalize (zs.take k).sum = x at *
   generalize zs.getD k 0 = a at *
   have hsa := small_one ha
   generalize hmm : decide (x < 0) = mm at *
   clear hmm
   go_wp2_with fail
   go_region_with (first
    | (go_at_call 20; refine (from_any a _ ha).mono ?_; rintro e w1 ⟨vf, rfl, hbf, hb1⟩; have HB1 : Hid (Below wr.heap.size wr w1) := (by first | exact hb1 | exact (Below.refl _ _).drew.trans hb1); have k0 : w1.cell? ⟨w.heap.size, 0, none⟩ = some (.bool mm) := (HB1.out.cell (p := ⟨w.heap.size, 0, none⟩) hsz).trans c0; have k1 : w1.cell? ⟨w.heap.size, 1, none⟩ = some (.slice p n c) := (HB1.out.cell (p := ⟨w.heap.size, 1, none⟩) hsz).trans c1)
    | (go_at_call 19; refine (bigplus_any _ _ x a _ hsx hsa (HBIG.out.kept ?_) (hbf.kept ?_)).mono ?_; (first | exact HB1.out | exact HB1.out.drew); (first | exact Below.refl _ _ | exact (Below.refl _ _).drew); rintro e w2 ⟨r, rfl, hbr, hb2⟩; have HB2 : Hid (Below wr.heap.size wr w2) := (by first | exact HB1.out.trans (hb2.mono HB1.out.size) | exact HB1.out.drew.trans (hb2.mono HB1.out.size)); have B2 := HBB.out.below HB2.out hsz; have m0 : w2.cell? ⟨w.heap.size, 0, none⟩ = some (.bool mm) := B2.cell 0; have m1 : w2.cell? ⟨w.heap.size, 1, none⟩ = some (.slice p n c) := B2.cell 1; have f0 := B2.free 0; have f1 := B2.free 1; obtain ⟨pr, nr, cr, rfl⟩ := hbr.form))
   all_goals
    go_wp2
    have hst := SumRel.step B2 hts.out hbr (HBEL.out.trans (HB2.out.mono (by omega)))
    go_roundw
    case rel => exact ⟨k + 1, pr, nr, cr, by omega, by go_num, hst⟩
    case measure => simp [intOf]; omega
  ·obtain rfl : k = n0 := by omega
   have hB := HREL.out.1
   have hbig := HREL.out.2.1
   have HBEL := Lib.hid HREL.out.2.2
   have hsx := small_sum h64 (by rw [HN.out]; exact hm) k
   rw [← HS.out] at hB hbig hsx
   have c0 : wr.cell? ⟨w.heap.size, 0, none⟩ = some (.bool (decide (zs.sum < 0))) := hB.cell 0
   have c1 : wr.cell? ⟨w.heap.size, 1, none⟩ = some (.slice p n c) := hB.cell 1
   have hfit := fits_any _ zs.sum wr hsx hbig
   obtain ⟨x, hx⟩ : ∃ x, x = zs.sum := ⟨_, rfl⟩
   rw [← hx] at c0 hfit
   have HX := Lib.hid hx
   clear hx
   generalize decide (x < 0) = mm at *
   have HF : Hid ((fitsB x = true → sumE x = 0) ∧ (fitsB x = false → sumE x = 10 ∧ sumN x = 0)) := by
    constructor
    ·intro h; exact sumE_yes (by simpa [fitsB] using h)
    ·intro h; have h' : ¬ Fits x := by simpa [fitsB] using h
     exact ⟨sumE_no h', sumN_no h'⟩
   have hsz := hB.lt
   clear hB hbig hsx HREL HS
   have HFT := Lib.hid hfit
   clear hfit
   cases hfb : fitsB x with
   | true =>
    have e1 : Hid (sumE x = 0) := HF.out.1 hfb
    go_wp2_with (go_at_call 21; refine HFT.out.mono ?_; rintro e w1 ⟨rfl, hb1⟩; rw [hfb])
    go_ret2
    exact ⟨by rw [← HX.out, e1.out]; rfl, HBEL.out.trans (hb1.mono (by omega))⟩
   | false =>
    have e1 : Hid (sumE x = 10) := (HF.out.2 hfb).1
    have e2 : Hid (sumN x = 0) := (HF.out.2 hfb).2
    go_wp2_with (go_at_call 21; refine HFT.out.mono ?_; rintro e w1 ⟨rfl, hb1⟩; rw [hfb])
    go_ret2
    exact ⟨by rw [← HX.out, e1.out, e2.out]; rfl, HBEL.out.trans (hb1.mono (by omega))⟩
end Go.Proofs.Ytillckkohdjkbaa
namespace Go.Proofs.Ytillckkohdjkbaa
open Go.RowKit
theorem run_append_row_g {P : Program} (w : World) (t ty e : TypeId) (k : IntKind) (bytes base : Nat) (he : Elt P t e k bytes) (v y : Value) (zs ys : List Int) (hown : Own k w base e v zs) (hrow : Row k w y ys)
  (h63 : zs.length + ys.length ≤ 140737488355000) (hbytes : (zs.length + ys.length) * bytes ≤ 140737488355328) (hbase : base ≤ w.heap.size) :
  ∃ v' w', (Builtin.append_ #[t, t] ty #[v, y]).run P w = .ok v' w' ∧ Own k w' base e v' (zs ++ ys) ∧ w.grownBy w' v.ownBlock ∧ (v'.ownBlock = v.ownBlock ∨ v'.ownBlock = some w.heap.size) := by
 obtain ⟨i, ht, hi, hz, hs, hby⟩ := he
 obtain ⟨p, c, rfl, hc, hr⟩ := id hrow
 have h63' : zs.length + ys.length ≤ maxLen := by unfold maxLen; omega
 cases p with
 | some ad =>
  obtain ⟨v', w', hrun, hown', hg, _, hor⟩ := run_append_own_at (P := P) w base t ty e i (.int k 0) 1 bytes ht hi hz hs hby rfl (by decide) v zs.length (zs.map (.int k)) hown ad ys.length c (ys.map (.int k)) (by simp) hrow.newsAt (ints_onecell k ys) h63' hbytes hbase
  refine ⟨v', w', hrun, ?_, hg, hor⟩
  unfold Own
  rw [List.map_append, List.length_append]
  exact hown'
 | none =>
  have hy : ys = [] := by
   rcases hr with h | ⟨b, o, h, _⟩
   ·exact h
   ·cases h
  subst hy
  refine ⟨v, w, ?_, by simpa using hown, ⟨rfl, rfl, rfl, Nat.le_refl _, fun _ _ _ => rfl⟩, .inl rfl⟩
  rcases hown.2 with ⟨rfl, h0⟩ | ⟨g, cap, cur, rfl, _, _, hnc, _⟩
  ·simp [Builtin.append_, run_underlying ht, sizeOf, typeInfo, hi, Builtin.lenOf, Builtin.firstCells]
  ·simp [Builtin.append_, run_underlying ht, sizeOf, typeInfo, hi, Builtin.lenOf, Builtin.firstCells, hnc, storeCells]
theorem wpList_append_g {P : Program} {w : World} {ops : Array Oper} {rest : List Oper} {o : Oper} {a : Act} {Q : Exit → Act → World → Prop} (hgd : o.guard = none) (s x : Operand) (t : TypeId)
  (ho : o.op = .call { callee := .builtin .append, args := #[s, x], argTypes := #[t, t] })
  (e : TypeId) (k : IntKind) (bytes base : Nat) (he : Elt P t e k bytes) (v y : Value) (zs ys : List Int) (hs : a.eval s = v) (hx : a.eval x = y) (hown : Own k w base e v zs) (hrow : Row k w y ys)
  (h63 : zs.length + ys.length ≤ 140737488355000) (hbytes : (zs.length + ys.length) * bytes ≤ 140737488355328) (hbase : base ≤ w.heap.size)
  (h : ∀ v' w', Own k w' base e v' (zs ++ ys) → w.grownBy w' v.ownBlock → (v'.ownBlock = v.ownBlock ∨ v'.ownBlock = some w.heap.size) → wpList P ops Q rest (a.put o.dst v') w') : wpList P ops Q (o :: rest) a w := by
 refine wpList_plain hgd fun K hK => ?_
 obtain ⟨v', w', hrun, h1, h2, h3⟩ := run_append_row_g w t o.type e k bytes base he v y zs ys hown hrow h63 hbytes hbase
 unfold Oper.wp
 simp [execOp, ho, resolve, invoke, builtin, hs, hx, hrun, Result.andThen]
 exact hK _ _ (h v' w' h1 h2 h3)
/-- Where the order is open. -/
theorem step_append_g {P : Program} {w : World} {ops : Array Oper} {o : Oper} {a : Act} {K : Act → World → Prop} {Q : Exit → Act → World → Prop} {E : Prop} (hgd : o.guard = none) (s x : Operand) (t : TypeId)
  (ho : o.op = .call { callee := .builtin .append, args := #[s, x], argTypes := #[t, t] })
  (e : TypeId) (k : IntKind) (bytes base : Nat) (he : Elt P t e k bytes) (v y : Value) (zs ys : List Int) (hs : a.eval s = v) (hx : a.eval x = y) (hown : Own k w base e v zs) (hrow : Row k w y ys)
  (h63 : zs.length + ys.length ≤ 140737488355000) (hbytes : (zs.length + ys.length) * bytes ≤ 140737488355328) (hbase : base ≤ w.heap.size)
  (h : ∀ v' w', Own k w' base e v' (zs ++ ys) → w.grownBy w' v.ownBlock → (v'.ownBlock = v.ownBlock ∨ v'.ownBlock = some w.heap.size) → K (a.put o.dst v') w') :
  if Region.wanted o (yielded ops a.tmps) = true then Oper.wp P o a w K Q else E := by
 have hw : Region.wanted o (yielded ops a.tmps) = true := by simp [Region.wanted, hgd]
 rw [if_pos hw]
 obtain ⟨v', w', hrun, h1, h2, h3⟩ := run_append_row_g w t o.type e k bytes base he v y zs ys hown hrow h63 hbytes hbase
 unfold Oper.wp
 simp [execOp, ho, resolve, invoke, builtin, hs, hx, hrun, Result.andThen]
 exact h v' w' h1 h2 h3
/-- What an append onto one of the call's own rows leaves of another one, and of a block. -/
theorem Own.grown {k : IntKind} {w w' : World} {base : Nat} {e : TypeId} {v u : Value} {zs : List Int} (h : Own k w base e v zs) (hg : w.grownBy w' u.ownBlock) (hne : ∀ b, v.ownBlock = some b → u.ownBlock ≠ some b) : Own k w' base e v zs := by
 refine World.ownsRow.kept h hg ?_
 cases hv : v.ownBlock with
 | none => exact .inl rfl
 | some b => exact .inr (fun e => hne b hv e.symm)
/-- A row of the call's own that lies elsewhere than what changes. -/
theorem Own.chgV {k : IntKind} {w w' : World} {base gx : Nat} {e : TypeId} {v : Value} {zs : List Int} (h : Own k w base e v zs) (hc : Chg gx w w') (hne : v.ownBlock ≠ some gx) : Own k w' base e v zs := by
 obtain ⟨hl, h2⟩ := h
 refine ⟨hl, ?_⟩
 rcases h2 with h2 | ⟨g', cap, cur, rfl, hb, hgg, hr⟩
 ·exact .inl h2
 ·exact .inr ⟨g', cap, cur, rfl, hb, (hc.2 g' (lt_of_block hgg) (fun e => hne (by rw [e]; rfl))).trans hgg, hr⟩
end Go.Proofs.Ytillckkohdjkbaa
namespace Go.Proofs.Ytillckkohdjkbaa
open Go.RowKit
theorem good_fit {me : Int} {X : List Itm} (h : GoodB me X) : ∀ x ∈ X, F64 x.s ∧ F64 x.n := by
 intro x hx
 obtain ⟨h1, h2, _⟩ := chk_ok (h.2 x hx).1
 unfold partsOk at h1
 unfold numsOk at h2
 unfold F64
 omega
theorem sold_all {s b c : Int} {x : Itm} (h1 : x.t = 3) (h2 : x.c = c) (h3 : x.s = s) (h4 : x.b = b) : soldB s b c x = true := by unfold soldB; simp [h1, h2, h3, h4]
theorem sold_no {s b c : Int} {x : Itm} (h : ¬ (x.t = 3 ∧ x.c = c ∧ x.s = s ∧ x.b = b)) : soldB s b c x = false := by
 rw [Bool.eq_false_iff]
 intro e
 unfold soldB at e
 simp at e
 exact h ⟨e.1.1.1, e.1.1.2, e.1.2, e.2⟩
theorem lookI_put (l : List Itm) (x : Itm) : lookI (l ++ [unC x]) = fun s' m' => if s' = x.s ∧ m' = x.n then unC x else lookI l s' m' := lookI_snoc l (unC x)
set_option linter.unusedSimpArgs false in
set_option maxHeartbeats 8000000 in
set_option maxRecDepth 100000 in
theorem elook_walk (va : Value) (la : List Itm) (vb : Value) (lb : List Itm) (cur : Int) (w : World) (ha : TRow encI w va la) (hb : TRow encI w vb lb) (_ : -9223372036854775808 ≤ cur ∧ cur ≤ 9223372036854775807) :
  Calls Try.prog 3 #[va, vb, .int .i64 cur] w fun e w' => e = .returned (.bool true) ∧ Below w.heap.size w w' := by
 obtain ⟨p1, c1, rfl⟩ := ha.shape
 obtain ⟨p2, c2, rfl⟩ := hb.shape
 have HK := Lib.hid (fun W => holds15_any W)
 by_cases hl1 : 30 < la.length
 ·have hlI : (30 : Int) < (la.length : Int) := by omega
  clear ha hb hl1
  generalize la.length = n1 at *
  generalize lb.length = n2 at *
  go_enter Try.func3, Try.ntmps3
  go_wp2_with fail
  refine (HK.out w).mono ?_
  rintro y w1 ⟨rfl, hb1⟩
  have HB1 := Lib.hid hb1
  clear hb1
  go_wp2_with fail
  go_ret
  exact ⟨rfl, HB1.out⟩
 have hlI1 : (la.length : Int) ≤ (30 : Int) := by omega
 by_cases hl2 : 30 < lb.length
 ·have hlI : (30 : Int) < (lb.length : Int) := by omega
  clear ha hb hl1 hl2
  generalize la.length = n1 at *
  generalize lb.length = n2 at *
  go_enter Try.func3, Try.ntmps3
  go_wp2_with fail
  refine (HK.out w).mono ?_
  rintro y w1 ⟨rfl, hb1⟩
  have HB1 := Lib.hid hb1
  clear hb1
  go_wp2_with fail
  go_ret
  exact ⟨rfl, HB1.out⟩
 have hlI2 : (lb.length : Int) ≤ (30 : Int) := by omega
 have HTW := Lib.hid (fun W (h : Below w.heap.size w W) => two_any W _ _ la lb (ha.kept h) (hb.kept h) (by omega) (by omega))
 have HGA : Hid (GoodB 0 (foldX 0 [] la)) := Lib.hid (foldX_good (goodB_nil 0))
 have HGB : Hid (GoodB 1 (foldX 1 [] lb)) := Lib.hid (foldX_good (goodB_nil 1))
 have HNA : Hid ((foldX 0 [] la).length ≤ 30) := Lib.hid (by have := foldX_len (l := la) (goodB_nil 0); rw [List.length_nil] at this; omega)
 have HNB : Hid ((foldX 1 [] lb).length ≤ 30) := Lib.hid (by have := foldX_len (l := lb) (goodB_nil 1); rw [List.length_nil] at this; omega)
 clear ha hb hl1 hl2
 generalize la.length = n1 at *
 generalize lb.length = n2 at *
 generalize foldX 0 [] la = X at *
 generalize foldX 1 [] lb = Y at *
 unfold bookV at HTW
 have hmm := @run_makeMap Try.prog
 go_enter Try.func3, Try.ntmps3
 go_wp2_with fail
 refine (HK.out w).mono ?_
 rintro y9 w1 ⟨rfl, hb⟩
 have HB1 := Lib.hid hb
 have HZ1 : Hid (w.heap.size ≤ w1.heap.size) := Lib.hid hb.size
 clear hb HK
 have HG := Lib.hid (HTW.out w1 HB1.out)
 go_wp2_with fail
 refine HG.out.mono ?_
 rintro y9 w2 ⟨pa, na, ca, pb, nb, cb, rfl, hrx, hlx, hry, hly, hb, -, -⟩
 clear HG
 have HB2 := ktq HB1 hb
 have HZ2 := kzq HZ1 hb.size
 clear HB1 HZ1
 clear hb
 have QX2 := Lib.hid hrx
 have QY2 := Lib.hid hry
 have HLX := Lib.hid hlx
 have HLY := Lib.hid hly
 clear hrx hry hlx hly HTW
 go_upto_region 6 with fail
 have hba : Below w2.heap.size w2 ((w2.alloc (.cells #[.int .i64 0, .slice pa na ca, .slice none 0 0] 26)).alloc (.cells #[.int .i64 1, .slice pb nb cb, .slice none 0 0] 26)) := (oneB w2 _).alloc (by simp) _
 have QX3 := Lib.hid (QX2.out.kept hba)
 have QY3 := Lib.hid (QY2.out.kept hba)
 have Ha3 : Hid (Blk ((w2.alloc (.cells #[.int .i64 0, .slice pa na ca, .slice none 0 0] 26)).alloc (.cells #[.int .i64 1, .slice pb nb cb, .slice none 0 0] 26)) w2.heap.size #[.int .i64 0, .slice pa na ca, .slice none 0 0] 26) := Lib.hid ((Blk.new w2 #[.int .i64 0, .slice pa na ca, .slice none 0 0] 26).alloc _)
 have Hb3 : Hid (Blk ((w2.alloc (.cells #[.int .i64 0, .slice pa na ca, .slice none 0 0] 26)).alloc (.cells #[.int .i64 1, .slice pb nb cb, .slice none 0 0] 26)) (w2.heap.size + 1) #[.int .i64 1, .slice pb nb cb, .slice none 0 0] 26) := Lib.hid (Blk.new' _ _ _ (by simp))
 have HB3 := ktq HB2 hba
 have HZ3 : Hid (w.heap.size ≤ ((w2.alloc (.cells #[.int .i64 0, .slice pa na ca, .slice none 0 0] 26)).alloc (.cells #[.int .i64 1, .slice pb nb cb, .slice none 0 0] 26)).heap.size) := Lib.hid HB3.out.size
 clear hba QX2 QY2 HB2 HZ2
 generalize ((w2.alloc (.cells #[.int .i64 0, .slice pa na ca, .slice none 0 0] 26)).alloc (.cells #[.int .i64 1, .slice pb nb cb, .slice none 0 0] 26)) = W3 at *
 generalize w2.heap.size = ga at *
 have HG := Lib.hid (look_any W3 0 1 cur pa none pb none na ca 0 0 nb cb 0 0 X Y QX3.out QY3.out HLX.out HLY.out (by have := HNA.out; omega) (by have := HNB.out; omega) (goodB_ok HGA.out) (goodB_ok HGB.out))
 unfold lookV pairV bookV at HG
 obtain ⟨SA, hSA⟩ : ∃ z, amtS (soldL 0 1 cur X) = z := ⟨_, rfl⟩
 obtain ⟨SB, hSB⟩ : ∃ z, amtS (soldL 0 1 cur Y) = z := ⟨_, rfl⟩
 obtain ⟨AL, hAL⟩ : ∃ z, alikeB 0 1 cur X Y = z := ⟨_, rfl⟩
 rw [hSA, hSB, hAL] at HG
 have HSA := Lib.hid hSA
 have HSB := Lib.hid hSB
 have HAL := Lib.hid hAL
 clear hSA hSB hAL
 have a0 : W3.cell? ⟨ga, 0, none⟩ = some (.int .i64 0) := Ha3.out.cell 0
 have a1 : W3.cell? ⟨ga, 1, none⟩ = some (.slice pa na ca) := Ha3.out.cell 1
 have a2 : W3.cell? ⟨ga, 2, none⟩ = some (.slice none 0 0) := Ha3.out.cell 2
 have b0 : W3.cell? ⟨(ga + 1), 0, none⟩ = some (.int .i64 1) := Hb3.out.cell 0
 have b1 : W3.cell? ⟨(ga + 1), 1, none⟩ = some (.slice pb nb cb) := Hb3.out.cell 1
 have b2 : W3.cell? ⟨(ga + 1), 2, none⟩ = some (.slice none 0 0) := Hb3.out.cell 2
 go_wp2_with fail
 clear a0 a1 a2 b0 b1 b2
 refine HG.out.mono ?_
 rintro y9 w4 ⟨rfl, hb⟩
 clear HG
 have Ha4 := kbq Ha3 hb
 have Hb4 := kbq Hb3 hb
 have QX4 := Lib.hid (QX3.out.kept hb)
 have QY4 := Lib.hid (QY3.out.kept hb)
 have HB4 := ktq HB3 hb
 have HZ4 := kzq HZ3 hb.size
 clear Ha3 Hb3 QX3 QY3 HB3 HZ3
 clear hb
 have hba := oneB w4 (.cells #[.int .i64 0, .int .i64 1, .int .i64 SA, .int .i64 SB, .bool AL] 30)
 have Ha5 := kbq Ha4 hba
 have Hb5 := kbq Hb4 hba
 have QX5 := Lib.hid (QX4.out.kept hba)
 have QY5 := Lib.hid (QY4.out.kept hba)
 have Hp5 := Lib.hid (Blk.new w4 #[.int .i64 0, .int .i64 1, .int .i64 SA, .int .i64 SB, .bool AL] 30)
 have HB5 := Lib.hid (HB4.out.alloc HB4.out.size (.cells #[.int .i64 0, .int .i64 1, .int .i64 SA, .int .i64 SB, .bool AL] 30))
 have HZ5 := kzq HZ4 hba.size
 have HGgp : Hid (w.heap.size ≤ w4.heap.size) := Lib.hid HB4.out.size
 clear hba Ha4 Hb4 QX4 QY4 HB4 HZ4
 go_upto_region 7 with fail
 generalize (w4.alloc (.cells #[.int .i64 0, .int .i64 1, .int .i64 SA, .int .i64 SB, .bool AL] 30)) = W5 at *
 generalize hggp : w4.heap.size = gp at *
 clear hggp
 have hba : Below W5.heap.size W5 (W5.alloc (.map #[] 0)) := oneB W5 _
 have HMAP : Hid (MpJ W5.heap.size 0 (lookI []) (W5.alloc (.map #[] 0))) := Lib.hid (MpJ.made W5)
 have Ha6 := kbq Ha5 hba
 have Hb6 := kbq Hb5 hba
 have Hp6 := kbq Hp5 hba
 have QX6 := Lib.hid (QX5.out.kept hba)
 have QY6 := Lib.hid (QY5.out.kept hba)
 have HB6 := ktq HB5 hba
 have HGM : Hid (ga + 1 < W5.heap.size ∧ gp < W5.heap.size ∧ W5.heap.size < (W5.alloc (.map #[] 0)).heap.size ∧ w.heap.size ≤ W5.heap.size) := Lib.hid ⟨Hb5.out.lt, Hp5.out.lt, by simp, HB5.out.size⟩
 have HRX : Hid (∀ W, Below W5.heap.size W5 W → TRow encI W (.slice pa na ca) X) := Lib.hid (fun W h => QX5.out.kept h)
 have HRY : Hid (∀ W, Below W5.heap.size W5 W → TRow encI W (.slice pb nb cb) Y) := Lib.hid (fun W h => QY5.out.kept h)
 have HBMM := Lib.hid (oneB W5 (.map #[] 0))
 go_upto_region 10 with fail
 clear hba hmm Ha5 Hb5 Hp5 QX5 QY5 HB5 HZ5
 have HWW : Hid (∀ W, Below W5.heap.size (W5.alloc (.map #[] 0)) W → Below W5.heap.size W5 W) := Lib.hid (fun W h => HBMM.out.trans h)
 have hgm1 : (W5.alloc (.map #[] 0)).heap.size = W5.heap.size + 1 := by simp
 rw [hgm1] at HGM
 have HG1 := Lib.hid hgm1
 clear hgm1
 generalize W5.alloc (.map #[] 0) = W6 at *
 have HREL : Hid (Own .i64 W6 (W5.heap.size + 1) 2 (.slice none 0 0) ((soldL 0 1 cur (X.take 0)).map (·.a)) ∧ MpJ W5.heap.size 0 (lookI (soldL 0 1 cur (X.take 0))) W6 ∧ Below W5.heap.size W6 W6) := Lib.hid ⟨Own.nil_ _ _ _ _, HMAP.out, Below.refl _ _⟩
 clear HMAP HBMM
 generalize W5.heap.size = gm at *
 have a1 : W6.cell? ⟨ga, 1, none⟩ = some (.slice pa na ca) := Ha6.out.cell 1
 go_wp2_with fail
 clear a1
 go_loopw [12, 52] (fun v i wr => ∃ k : Nat, k ≤ na ∧ i = .int .i64 k ∧ Hid (Own .i64 wr (gm + 1) 2 v ((soldL 0 1 cur (X.take k)).map (·.a)) ∧ MpJ gm k (lookI (soldL 0 1 cur (X.take k))) wr ∧ Below gm W6 wr)) (fun _ i _ => na - (intOf i).toNat)
 case atStart => exact ⟨0, by omega, rfl, HREL⟩
 case round =>
  obtain ⟨k, hk, rfl, HJ⟩ := hrel
  clear HREL
  by_cases hlt : k < na
  ·skip
   have hkl : k < X.length := by rw [HLX.out]; exact hlt
   have hk30 : k + 1 ≤ 31 := by have := HNA.out; omega
   have hltI : (k : Int) < (na : Int) := by omega
   have HTK := Lib.hid (soldL_take (s := 0) (b := 1) (c := cur) hkl)
   have HXF : Hid (F64 X[k].s ∧ F64 X[k].n) := Lib.hid (good_fit HGA.out _ (List.getElem_mem hkl))
   obtain ⟨b2, o2, rfl, hb2l, hcs⟩ := (HRX.out wr (HWW.out wr HJ.out.2.2)).at_ k hkl
   generalize X[k] = x at *
   have c0 : wr.cell? ⟨b2, o2 + k * 8, none⟩ = some (.int .i64 x.s) := hcs 0 (by decide)
   have c1 : wr.cell? ⟨b2, o2 + k * 8 + 1, none⟩ = some (.int .i64 x.n) := hcs 1 (by decide)
   have c2 : wr.cell? ⟨b2, o2 + k * 8 + 2, none⟩ = some (.int .i64 x.b) := hcs 2 (by decide)
   have c3 : wr.cell? ⟨b2, o2 + k * 8 + 3, none⟩ = some (.int .i64 x.c) := hcs 3 (by decide)
   have c4 : wr.cell? ⟨b2, o2 + k * 8 + 4, none⟩ = some (.int .i64 x.a) := hcs 4 (by decide)
   have c5 : wr.cell? ⟨b2, o2 + k * 8 + 5, none⟩ = some (.int .i64 x.r) := hcs 5 (by decide)
   have c6 : wr.cell? ⟨b2, o2 + k * 8 + 6, none⟩ = some (.int .i64 x.t) := hcs 6 (by decide)
   have c7 : wr.cell? ⟨b2, o2 + k * 8 + 7, none⟩ = some (.int .i64 x.y) := hcs 7 (by decide)
   have HZN : Hid (((soldL 0 1 cur (X.take k)).map (·.a)).length ≤ 30) := Lib.hid (by rw [List.length_map]; have h2 := soldL_len 0 1 cur (X.take k); rw [List.length_take] at h2; have := HNA.out; have := HLX.out; omega)
   obtain ⟨ho, hm, hw⟩ := HJ.out
   obtain ⟨pv, cv, hv⟩ := ho.form
   obtain ⟨zs, hzs⟩ : ∃ zs, (soldL 0 1 cur (X.take k)).map (·.a) = zs := ⟨_, rfl⟩
   rw [hzs] at hv ho HZN
   have HZS := Lib.hid hzs
   generalize hm2 : zs.length = m at *
   subst hv
   have HMZ : Hid (zs.length = m ∧ m ≤ 30) := Lib.hid ⟨hm2, HZN.out⟩
   have HOW := Lib.hid ho
   have HO := Lib.hid (ho.alloc (.cells #[.int .i64 x.s, .int .i64 x.n, .int .i64 x.b, .int .i64 x.c, .int .i64 x.a, .int .i64 x.r, .int .i64 x.t, .int .i64 x.y] 39))
   have HM := Lib.hid hm
   have HB := Lib.hid hw
   have HY := Lib.hid (Blk.new wr #[.int .i64 x.s, .int .i64 x.n, .int .i64 x.b, .int .i64 x.c, .int .i64 x.a, .int .i64 x.r, .int .i64 x.t, .int .i64 x.y] 39)
   have hm7 : m ≤ 30 := HMZ.out.2
   clear ho hm hw HJ hcs hzs hm2 HZN
   by_cases ht : x.t = 3
   case neg =>
    have HSO : Hid (soldB 0 1 cur x = false) := Lib.hid (sold_no (fun h => ht h.1))
    have e1 : (x.t == 3) = false := by simpa using ht
    clear ht
    have HNX : Hid (Own .i64 (wr.alloc (.cells #[.int .i64 x.s, .int .i64 x.n, .int .i64 x.b, .int .i64 x.c, .int .i64 x.a, .int .i64 x.r, .int .i64 x.t, .int .i64 x.y] 39)) (gm + 1) 2 (.slice pv m cv) ((soldL 0 1 cur (X.take (k + 1))).map (·.a)) ∧ MpJ gm (k + 1) (lookI (soldL 0 1 cur (X.take (k + 1)))) (wr.alloc (.cells #[.int .i64 x.s, .int .i64 x.n, .int .i64 x.b, .int .i64 x.c, .int .i64 x.a, .int .i64 x.r, .int .i64 x.t, .int .i64 x.y] 39)) ∧ Below gm W6 (wr.alloc (.cells #[.int .i64 x.s, .int .i64 x.n, .int .i64 x.b, .int .i64 x.c, .int .i64 x.a, .int .i64 x.r, .int .i64 x.t, .int .i64 x.y] 39))) := by
     have h1 := HTK.out
     rw [HSO.out, if_neg (by decide), List.append_nil] at h1
     rw [h1, HZS.out]
     exact Lib.hid ⟨HO.out, (HM.out.kept (oneB wr _)).mono (by omega), HB.out.alloc (by have h2 := HB.out.size; have h3 := HG1.out; omega) _⟩
    clear HSO HTK HO HM HB HY HZS HMZ
    go_wp2_with fail
    go_roundw
    case rel => exact ⟨k + 1, by omega, by go_num, HNX⟩
    case measure => simp [intOf]; omega
   by_cases hc : x.c = cur
   case neg =>
    have HSO : Hid (soldB 0 1 cur x = false) := Lib.hid (sold_no (fun h => hc h.2.1))
    have e1 : (x.t == 3) = true := by simpa using ht
    have e2 : (x.c == cur) = false := by simpa using hc
    clear ht hc
    have HNX : Hid (Own .i64 (wr.alloc (.cells #[.int .i64 x.s, .int .i64 x.n, .int .i64 x.b, .int .i64 x.c, .int .i64 x.a, .int .i64 x.r, .int .i64 x.t, .int .i64 x.y] 39)) (gm + 1) 2 (.slice pv m cv) ((soldL 0 1 cur (X.take (k + 1))).map (·.a)) ∧ MpJ gm (k + 1) (lookI (soldL 0 1 cur (X.take (k + 1)))) (wr.alloc (.cells #[.int .i64 x.s, .int .i64 x.n, .int .i64 x.b, .int .i64 x.c, .int .i64 x.a, .int .i64 x.r, .int .i64 x.t, .int .i64 x.y] 39)) ∧ Below gm W6 (wr.alloc (.cells #[.int .i64 x.s, .int .i64 x.n, .int .i64 x.b, .int .i64 x.c, .int .i64 x.a, .int .i64 x.r, .int .i64 x.t, .int .i64 x.y] 39))) := by
     have h1 := HTK.out
     rw [HSO.out, if_neg (by decide), List.append_nil] at h1
     rw [h1, HZS.out]
     exact Lib.hid ⟨HO.out, (HM.out.kept (oneB wr _)).mono (by omega), HB.out.alloc (by have h2 := HB.out.size; have h3 := HG1.out; omega) _⟩
    clear HSO HTK HO HM HB HY HZS HMZ
    go_wp2_with fail
    go_roundw
    case rel => exact ⟨k + 1, by omega, by go_num, HNX⟩
    case measure => simp [intOf]; omega
   by_cases hs : x.s = 0
   case neg =>
    have HSO : Hid (soldB 0 1 cur x = false) := Lib.hid (sold_no (fun h => hs h.2.2.1))
    have e1 : (x.t == 3) = true := by simpa using ht
    have e2 : (x.c == cur) = true := by simpa using hc
    have e3 : (x.s == 0) = false := by simpa using hs
    clear ht hc hs
    have HNX : Hid (Own .i64 (wr.alloc (.cells #[.int .i64 x.s, .int .i64 x.n, .int .i64 x.b, .int .i64 x.c, .int .i64 x.a, .int .i64 x.r, .int .i64 x.t, .int .i64 x.y] 39)) (gm + 1) 2 (.slice pv m cv) ((soldL 0 1 cur (X.take (k + 1))).map (·.a)) ∧ MpJ gm (k + 1) (lookI (soldL 0 1 cur (X.take (k + 1)))) (wr.alloc (.cells #[.int .i64 x.s, .int .i64 x.n, .int .i64 x.b, .int .i64 x.c, .int .i64 x.a, .int .i64 x.r, .int .i64 x.t, .int .i64 x.y] 39)) ∧ Below gm W6 (wr.alloc (.cells #[.int .i64 x.s, .int .i64 x.n, .int .i64 x.b, .int .i64 x.c, .int .i64 x.a, .int .i64 x.r, .int .i64 x.t, .int .i64 x.y] 39))) := by
     have h1 := HTK.out
     rw [HSO.out, if_neg (by decide), List.append_nil] at h1
     rw [h1, HZS.out]
     exact Lib.hid ⟨HO.out, (HM.out.kept (oneB wr _)).mono (by omega), HB.out.alloc (by have h2 := HB.out.size; have h3 := HG1.out; omega) _⟩
    clear HSO HTK HO HM HB HY HZS HMZ
    go_wp2_with fail
    go_roundw
    case rel => exact ⟨k + 1, by omega, by go_num, HNX⟩
    case measure => simp [intOf]; omega
   by_cases hb : x.b = 1
   case neg =>
    have HSO : Hid (soldB 0 1 cur x = false) := Lib.hid (sold_no (fun h => hb h.2.2.2))
    have e1 : (x.t == 3) = true := by simpa using ht
    have e2 : (x.c == cur) = true := by simpa using hc
    have e3 : (x.s == 0) = true := by simpa using hs
    have e4 : (x.b == 1) = false := by simpa using hb
    clear ht hc hs hb
    have HNX : Hid (Own .i64 (wr.alloc (.cells #[.int .i64 x.s, .int .i64 x.n, .int .i64 x.b, .int .i64 x.c, .int .i64 x.a, .int .i64 x.r, .int .i64 x.t, .int .i64 x.y] 39)) (gm + 1) 2 (.slice pv m cv) ((soldL 0 1 cur (X.take (k + 1))).map (·.a)) ∧ MpJ gm (k + 1) (lookI (soldL 0 1 cur (X.take (k + 1)))) (wr.alloc (.cells #[.int .i64 x.s, .int .i64 x.n, .int .i64 x.b, .int .i64 x.c, .int .i64 x.a, .int .i64 x.r, .int .i64 x.t, .int .i64 x.y] 39)) ∧ Below gm W6 (wr.alloc (.cells #[.int .i64 x.s, .int .i64 x.n, .int .i64 x.b, .int .i64 x.c, .int .i64 x.a, .int .i64 x.r, .int .i64 x.t, .int .i64 x.y] 39))) := by
     have h1 := HTK.out
     rw [HSO.out, if_neg (by decide), List.append_nil] at h1
     rw [h1, HZS.out]
     exact Lib.hid ⟨HO.out, (HM.out.kept (oneB wr _)).mono (by omega), HB.out.alloc (by have h2 := HB.out.size; have h3 := HG1.out; omega) _⟩
    clear HSO HTK HO HM HB HY HZS HMZ
    go_wp2_with fail
    go_roundw
    case rel => exact ⟨k + 1, by omega, by go_num, HNX⟩
    case measure => simp [intOf]; omega
   have HSO : Hid (soldB 0 1 cur x = true) := Lib.hid (sold_all ht hc hs hb)
   have e1 : (x.t == 3) = true := by simpa using ht
   have e2 : (x.c == cur) = true := by simpa using hc
   have e3 : (x.s == 0) = true := by simpa using hs
   have e4 : (x.b == 1) = true := by simpa using hb
   clear ht hc hs hb
   have HO2 : Hid (Own .i64 ((wr.alloc (.cells #[.int .i64 x.s, .int .i64 x.n, .int .i64 x.b, .int .i64 x.c, .int .i64 x.a, .int .i64 x.r, .int .i64 x.t, .int .i64 x.y] 39)).alloc (.cells #[.int .i64 x.a] 2)) (gm + 1) 2 (.slice pv m cv) zs) := Lib.hid (HO.out.alloc _)
   have HOL : Hid (∀ g, (Value.slice pv m cv).ownBlock = some g → g < wr.heap.size) := Lib.hid HOW.out.lt
   have HOG : Hid (∀ g, (Value.slice pv m cv).ownBlock = some g → gm + 1 ≤ g) := Lib.hid HOW.out.block_ge
   have HMW := Lib.hid HM.out.lt
   have HSW : Hid (gm + 1 ≤ wr.heap.size) := Lib.hid (by have h2 := HB.out.size; have h3 := HG1.out; omega)
   have HEQ : Hid ((soldL 0 1 cur (X.take (k + 1))) = soldL 0 1 cur (X.take k) ++ [unC x]) := Lib.hid (by have h1 := HTK.out; rw [HSO.out, if_pos rfl] at h1; exact h1)
   clear HTK HSO
   go_wp2_with (at_builtin; with_reducible refine stop_appendI (.tmp 76) (.tmp 79) 34 rfl ?_)
   refine wpList_append_g rfl (.tmp 76) (.tmp 79) 34 rfl 2 .i64 8 (gm + 1) eltA (.slice pv m cv) (.slice (some ⟨wr.heap.size + 1, 0, none⟩) 1 1) zs [x.a] rfl rfl HO2.out ⟨some ⟨wr.heap.size + 1, 0, none⟩, 1, rfl, Nat.le_refl _, .inr ⟨wr.heap.size + 1, 0, rfl, fun i hi => ?_⟩⟩ (by have := HMZ.out; simp; omega) (by have := HMZ.out; simp; omega) (by have := HSW.out; simp; omega) ?_
   ·obtain rfl : i = 0 := by simp at hi; omega
    exact (Blk.new' (wr.alloc (.cells #[.int .i64 x.s, .int .i64 x.n, .int .i64 x.b, .int .i64 x.c, .int .i64 x.a, .int .i64 x.r, .int .i64 x.t, .int .i64 x.y] 39)) #[.int .i64 (x.a)] 2 (b := wr.heap.size + 1) (by simp)).cell 0
   intro v6 w6 ho6 hg6 hor6
   have hlen : (zs ++ [x.a]).length = m + 1 := by rw [List.length_append, HMZ.out.1]; rfl
   obtain ⟨p6, c6', hv6⟩ := ho6.form
   rw [hlen] at hv6
   subst hv6
   have hne : (Value.slice p6 (m + 1) c6').ownBlock ≠ some wr.heap.size := by
    rcases hor6 with h | h
    ·rw [h]; intro e; exact absurd (HOL.out _ e) (Nat.lt_irrefl _)
    ·rw [h]; simp; omega
   have HY6 : Hid (Blk w6 wr.heap.size #[.int .i64 x.s, .int .i64 x.n, .int .i64 x.b, .int .i64 x.c, .int .i64 x.a, .int .i64 x.r, .int .i64 x.t, .int .i64 x.y] 39) := Lib.hid ((hg6.block wr.heap.size (by simp; omega) (fun e => absurd (HOL.out _ e.symm) (Nat.lt_irrefl _))).trans (HY.out.alloc _))
   have HM6 : Hid (MpJ gm k (lookI (soldL 0 1 cur (X.take k))) w6) := Lib.hid (((HM.out.kept (oneB wr _)).kept (oneB _ _)).block (hg6.block gm (by have := HMW.out; simp; omega) (fun e => absurd (HOG.out _ e.symm) (by omega))))
   have hb6 : Below gm W6 w6 := Below.grown ((HB.out.alloc (by have := HSW.out; omega) _).alloc (by have := HSW.out; simp; omega) _) hg6 (by have := HSW.out; simp; omega) (fun b e => by have := HOG.out b e; omega)
   have HB6 := Lib.hid hb6
   have HS6 : Hid (wr.heap.size + 1 ≤ w6.heap.size) := Lib.hid (by have := hg6.size; simp at this; omega)
   have HO6 := Lib.hid ho6
   have HNE := Lib.hid hne
   have HO6G : Hid (∀ g, (Value.slice p6 (m + 1) c6').ownBlock = some g → gm + 1 ≤ g) := Lib.hid ho6.block_ge
   clear ho6 hg6 hor6 hne hlen hb6 HO2 HOL HOG HO HM HB HY HOW HMZ
   have z7 : w6.cell? ⟨wr.heap.size, 7, none⟩ = some (.int .i64 x.y) := HY6.out.cell 7
   have f7 := HY6.out.free 7
   go_upto_region 16 with fail
   clear z7 f7 c0 c1 c2 c3 c4 c5 c6 c7 e1 e2 e3 e4
   have hch : Chg wr.heap.size w6 (w6.setCell ⟨wr.heap.size, 7, none⟩ (.int .i64 0)) := (Chg.refl _ _).set 7 _
   have HY7 : Hid (Blk _ wr.heap.size #[.int .i64 x.s, .int .i64 x.n, .int .i64 x.b, .int .i64 x.c, .int .i64 x.a, .int .i64 x.r, .int .i64 x.t, .int .i64 0] 39) := Lib.hid (HY6.out.set 7 _)
   have HO7 := Lib.hid (HO6.out.chgV hch HNE.out)
   have HM7 := Lib.hid (HM6.out.chg hch (Nat.ne_of_lt HMW.out))
   have HB7 := Lib.hid (HB6.out.trans (hch.below (Nat.le_of_lt HMW.out) (by have := HS6.out; have := HMW.out; omega)))
   clear hch HY6 HO6 HM6 HB6 HS6 HNE
   generalize w6.setCell ⟨wr.heap.size, 7, none⟩ (.int .i64 0) = w7 at *
   obtain ⟨w8, hrun, hmp, hch8⟩ := HM7.out.put HXF.out.1 HXF.out.2 (by unfold maxLen; omega) (unC x)
   rw [← lookI_put, ← HEQ.out] at hmp
   have HNX : Hid (Own .i64 w8 (gm + 1) 2 (.slice p6 (m + 1) c6') ((soldL 0 1 cur (X.take (k + 1))).map (·.a)) ∧ MpJ gm (k + 1) (lookI (soldL 0 1 cur (X.take (k + 1)))) w8 ∧ Below gm W6 w8) := by
    refine Lib.hid ⟨?_, hmp, HB7.out.trans (hch8.below (Nat.le_refl _) (Nat.le_of_lt HM7.out.lt))⟩
    rw [HEQ.out, List.map_append, HZS.out]
    exact HO7.out.chgV hch8 (fun e => by have := HO6G.out _ e; omega)
   clear hmp hch8 HO7 HM7 HB7 HEQ HO6G HMW HSW HZS
   unfold unC Itm.v at hrun
   have d0 : w7.cell? ⟨wr.heap.size, 0, none⟩ = some (.int .i64 x.s) := HY7.out.cell 0
   have d1 : w7.cell? ⟨wr.heap.size, 1, none⟩ = some (.int .i64 x.n) := HY7.out.cell 1
   have d2 : w7.cell? ⟨wr.heap.size, 2, none⟩ = some (.int .i64 x.b) := HY7.out.cell 2
   have d3 : w7.cell? ⟨wr.heap.size, 3, none⟩ = some (.int .i64 x.c) := HY7.out.cell 3
   have d4 : w7.cell? ⟨wr.heap.size, 4, none⟩ = some (.int .i64 x.a) := HY7.out.cell 4
   have d5 : w7.cell? ⟨wr.heap.size, 5, none⟩ = some (.int .i64 x.r) := HY7.out.cell 5
   have d6 : w7.cell? ⟨wr.heap.size, 6, none⟩ = some (.int .i64 x.t) := HY7.out.cell 6
   have d7 : w7.cell? ⟨wr.heap.size, 7, none⟩ = some (.int .i64 0) := HY7.out.cell 7
   go_wp2_with fail
   go_roundw
   case rel => exact ⟨k + 1, by omega, by go_num, HNX⟩
   case measure => simp [intOf]; omega
  ·skip
   have hle : (na : Int) ≤ (k : Int) := by omega
   go_upto_region 18 with fail
   have hkn : k = X.length := by rw [HLX.out]; omega
   have hK := HJ.out
   rw [hkn, List.take_length] at hK
   obtain ⟨ho, hm, hw⟩ := hK
   have HADL : Hid ((soldL 0 1 cur X).map (·.a) = (soldL 0 1 cur X).map (·.a)) := Lib.hid rfl
   obtain ⟨pv, cv, hv⟩ := ho.form
   generalize hmv : ((soldL 0 1 cur X).map (·.a)).length = mv at *
   subst hv
   have HMV : Hid (mv = (soldL 0 1 cur X).length) := Lib.hid (by rw [← hmv, List.length_map])
   have HO := Lib.hid ho
   have HM := Lib.hid hm
   have HW9 := Lib.hid (HWW.out wr hw)
   have Hb9 := Lib.hid (Hb6.out.below hw HGM.out.1)
   have Hp9 := Lib.hid (Hp6.out.below hw HGM.out.2.1)
   have HB9 := Lib.hid (HB6.out.trans (hw.mono HGM.out.2.2.2))
   have HRY9 := Lib.hid (HRY.out wr HW9.out)
   clear ho hm hw hmv HJ hkn HRX HRY HWW HADL HW9 Ha6 Hb6 Hp6 QX6 QY6 HB6 hlt hle hk HG1
   generalize hw9 : wr = w9 at *
   clear hw9
   have b1 : w9.cell? ⟨ga + 1, 1, none⟩ = some (.slice pb nb cb) := Hb9.out.cell 1
   have HREL : Hid (Own .i64 w9 w9.heap.size 2 (.slice none 0 0) ((soldL 0 1 cur (Y.take 0)).map (·.a)) ∧ Below w9.heap.size w9 w9) := Lib.hid ⟨Own.nil_ _ _ _ _, Below.refl _ _⟩
   go_wp2_with fail
   clear b1
   go_loopw [13, 15, 90] (fun v al i wr => ∃ k : Nat, k ≤ nb ∧ i = .int .i64 k ∧ al = .bool (allAt (soldL 0 1 cur X) (soldL 0 1 cur (Y.take k))) ∧ Hid (Own .i64 wr w9.heap.size 2 v ((soldL 0 1 cur (Y.take k)).map (·.a)) ∧ Below w9.heap.size w9 wr)) (fun _ _ i _ => nb - (intOf i).toNat)
   case atStart => exact ⟨0, by omega, rfl, rfl, HREL⟩
   case round =>
    obtain ⟨k, hk, rfl, rfl, HJ⟩ := hrel
    clear HREL
    by_cases hlt : k < nb
    ·skip
     have hkl : k < Y.length := by rw [HLY.out]; exact hlt
     have hk30 : k + 1 ≤ 31 := by have := HNB.out; omega
     have hltI : (k : Int) < (nb : Int) := by omega
     have HTK := Lib.hid (soldL_take (s := 0) (b := 1) (c := cur) hkl)
     have HXF : Hid (F64 Y[k].s ∧ F64 Y[k].n) := Lib.hid (good_fit HGB.out _ (List.getElem_mem hkl))
     obtain ⟨AK, hAK⟩ : ∃ z, allAt (soldL 0 1 cur X) (soldL 0 1 cur (Y.take k)) = z := ⟨_, rfl⟩
     rw [hAK]
     have HAK := Lib.hid hAK
     clear hAK
     obtain ⟨b2, o2, rfl, hb2l, hcs⟩ := (HRY9.out.kept HJ.out.2).at_ k hkl
     generalize Y[k] = x at *
     have c0 : wr.cell? ⟨b2, o2 + k * 8, none⟩ = some (.int .i64 x.s) := hcs 0 (by decide)
     have c1 : wr.cell? ⟨b2, o2 + k * 8 + 1, none⟩ = some (.int .i64 x.n) := hcs 1 (by decide)
     have c2 : wr.cell? ⟨b2, o2 + k * 8 + 2, none⟩ = some (.int .i64 x.b) := hcs 2 (by decide)
     have c3 : wr.cell? ⟨b2, o2 + k * 8 + 3, none⟩ = some (.int .i64 x.c) := hcs 3 (by decide)
     have c4 : wr.cell? ⟨b2, o2 + k * 8 + 4, none⟩ = some (.int .i64 x.a) := hcs 4 (by decide)
     have c5 : wr.cell? ⟨b2, o2 + k * 8 + 5, none⟩ = some (.int .i64 x.r) := hcs 5 (by decide)
     have c6 : wr.cell? ⟨b2, o2 + k * 8 + 6, none⟩ = some (.int .i64 x.t) := hcs 6 (by decide)
     have c7 : wr.cell? ⟨b2, o2 + k * 8 + 7, none⟩ = some (.int .i64 x.y) := hcs 7 (by decide)
     have HZN : Hid (((soldL 0 1 cur (Y.take k)).map (·.a)).length ≤ 30) := Lib.hid (by rw [List.length_map]; have h2 := soldL_len 0 1 cur (Y.take k); rw [List.length_take] at h2; have := HNB.out; have := HLY.out; omega)
     obtain ⟨ho, hw⟩ := HJ.out
     obtain ⟨pw, cw, hv⟩ := ho.form
     obtain ⟨zs, hzs⟩ : ∃ zs, (soldL 0 1 cur (Y.take k)).map (·.a) = zs := ⟨_, rfl⟩
     rw [hzs] at hv ho HZN
     have HZS := Lib.hid hzs
     generalize hm2 : zs.length = m at *
     subst hv
     have HMZ : Hid (zs.length = m ∧ m ≤ 30) := Lib.hid ⟨hm2, HZN.out⟩
     have HOW := Lib.hid ho
     have HO := Lib.hid (ho.alloc (.cells #[.int .i64 x.s, .int .i64 x.n, .int .i64 x.b, .int .i64 x.c, .int .i64 x.a, .int .i64 x.r, .int .i64 x.t, .int .i64 x.y] 39))
     have HB := Lib.hid hw
     have HY := Lib.hid (Blk.new wr #[.int .i64 x.s, .int .i64 x.n, .int .i64 x.b, .int .i64 x.c, .int .i64 x.a, .int .i64 x.r, .int .i64 x.t, .int .i64 x.y] 39)
     have hm7 : m ≤ 30 := HMZ.out.2
     clear ho hw HJ hcs hzs hm2 HZN
     by_cases ht : x.t = 3
     case neg =>
      have HSO : Hid (soldB 0 1 cur x = false) := Lib.hid (sold_no (fun h => ht h.1))
      have e1 : (x.t == 3) = false := by simpa using ht
      clear ht
      have HNX : Hid (Own .i64 (wr.alloc (.cells #[.int .i64 x.s, .int .i64 x.n, .int .i64 x.b, .int .i64 x.c, .int .i64 x.a, .int .i64 x.r, .int .i64 x.t, .int .i64 x.y] 39)) w9.heap.size 2 (.slice pw m cw) ((soldL 0 1 cur (Y.take (k + 1))).map (·.a)) ∧ Below w9.heap.size w9 (wr.alloc (.cells #[.int .i64 x.s, .int .i64 x.n, .int .i64 x.b, .int .i64 x.c, .int .i64 x.a, .int .i64 x.r, .int .i64 x.t, .int .i64 x.y] 39))) := by
       have h1 := HTK.out
       rw [HSO.out, if_neg (by decide), List.append_nil] at h1
       rw [h1, HZS.out]
       exact Lib.hid ⟨HO.out, HB.out.alloc HB.out.size _⟩
      have HAQ : Hid (allAt (soldL 0 1 cur X) (soldL 0 1 cur (Y.take (k + 1))) = AK) := Lib.hid (by have h1 := HTK.out; rw [HSO.out, if_neg (by decide), List.append_nil] at h1; rw [h1]; exact HAK.out)
      clear HSO HTK HO HB HY HZS HMZ HAK
      go_wp2_with fail
      go_roundw
      case rel => exact ⟨k + 1, by omega, by go_num, by rw [HAQ.out], HNX⟩
      case measure => simp [intOf]; omega
     by_cases hc : x.c = cur
     case neg =>
      have HSO : Hid (soldB 0 1 cur x = false) := Lib.hid (sold_no (fun h => hc h.2.1))
      have e1 : (x.t == 3) = true := by simpa using ht
      have e2 : (x.c == cur) = false := by simpa using hc
      clear ht hc
      have HNX : Hid (Own .i64 (wr.alloc (.cells #[.int .i64 x.s, .int .i64 x.n, .int .i64 x.b, .int .i64 x.c, .int .i64 x.a, .int .i64 x.r, .int .i64 x.t, .int .i64 x.y] 39)) w9.heap.size 2 (.slice pw m cw) ((soldL 0 1 cur (Y.take (k + 1))).map (·.a)) ∧ Below w9.heap.size w9 (wr.alloc (.cells #[.int .i64 x.s, .int .i64 x.n, .int .i64 x.b, .int .i64 x.c, .int .i64 x.a, .int .i64 x.r, .int .i64 x.t, .int .i64 x.y] 39))) := by
       have h1 := HTK.out
       rw [HSO.out, if_neg (by decide), List.append_nil] at h1
       rw [h1, HZS.out]
       exact Lib.hid ⟨HO.out, HB.out.alloc HB.out.size _⟩
      have HAQ : Hid (allAt (soldL 0 1 cur X) (soldL 0 1 cur (Y.take (k + 1))) = AK) := Lib.hid (by have h1 := HTK.out; rw [HSO.out, if_neg (by decide), List.append_nil] at h1; rw [h1]; exact HAK.out)
      clear HSO HTK HO HB HY HZS HMZ HAK
      go_wp2_with fail
      go_roundw
      case rel => exact ⟨k + 1, by omega, by go_num, by rw [HAQ.out], HNX⟩
      case measure => simp [intOf]; omega
     by_cases hs : x.s = 0
     case neg =>
      have HSO : Hid (soldB 0 1 cur x = false) := Lib.hid (sold_no (fun h => hs h.2.2.1))
      have e1 : (x.t == 3) = true := by simpa using ht
      have e2 : (x.c == cur) = true := by simpa using hc
      have e3 : (x.s == 0) = false := by simpa using hs
      clear ht hc hs
      have HNX : Hid (Own .i64 (wr.alloc (.cells #[.int .i64 x.s, .int .i64 x.n, .int .i64 x.b, .int .i64 x.c, .int .i64 x.a, .int .i64 x.r, .int .i64 x.t, .int .i64 x.y] 39)) w9.heap.size 2 (.slice pw m cw) ((soldL 0 1 cur (Y.take (k + 1))).map (·.a)) ∧ Below w9.heap.size w9 (wr.alloc (.cells #[.int .i64 x.s, .int .i64 x.n, .int .i64 x.b, .int .i64 x.c, .int .i64 x.a, .int .i64 x.r, .int .i64 x.t, .int .i64 x.y] 39))) := by
       have h1 := HTK.out
       rw [HSO.out, if_neg (by decide), List.append_nil] at h1
       rw [h1, HZS.out]
       exact Lib.hid ⟨HO.out, HB.out.alloc HB.out.size _⟩
      have HAQ : Hid (allAt (soldL 0 1 cur X) (soldL 0 1 cur (Y.take (k + 1))) = AK) := Lib.hid (by have h1 := HTK.out; rw [HSO.out, if_neg (by decide), List.append_nil] at h1; rw [h1]; exact HAK.out)
      clear HSO HTK HO HB HY HZS HMZ HAK
      go_wp2_with fail
      go_roundw
      case rel => exact ⟨k + 1, by omega, by go_num, by rw [HAQ.out], HNX⟩
      case measure => simp [intOf]; omega
     by_cases hb : x.b = 1
     case neg =>
      have HSO : Hid (soldB 0 1 cur x = false) := Lib.hid (sold_no (fun h => hb h.2.2.2))
      have e1 : (x.t == 3) = true := by simpa using ht
      have e2 : (x.c == cur) = true := by simpa using hc
      have e3 : (x.s == 0) = true := by simpa using hs
      have e4 : (x.b == 1) = false := by simpa using hb
      clear ht hc hs hb
      have HNX : Hid (Own .i64 (wr.alloc (.cells #[.int .i64 x.s, .int .i64 x.n, .int .i64 x.b, .int .i64 x.c, .int .i64 x.a, .int .i64 x.r, .int .i64 x.t, .int .i64 x.y] 39)) w9.heap.size 2 (.slice pw m cw) ((soldL 0 1 cur (Y.take (k + 1))).map (·.a)) ∧ Below w9.heap.size w9 (wr.alloc (.cells #[.int .i64 x.s, .int .i64 x.n, .int .i64 x.b, .int .i64 x.c, .int .i64 x.a, .int .i64 x.r, .int .i64 x.t, .int .i64 x.y] 39))) := by
       have h1 := HTK.out
       rw [HSO.out, if_neg (by decide), List.append_nil] at h1
       rw [h1, HZS.out]
       exact Lib.hid ⟨HO.out, HB.out.alloc HB.out.size _⟩
      have HAQ : Hid (allAt (soldL 0 1 cur X) (soldL 0 1 cur (Y.take (k + 1))) = AK) := Lib.hid (by have h1 := HTK.out; rw [HSO.out, if_neg (by decide), List.append_nil] at h1; rw [h1]; exact HAK.out)
      clear HSO HTK HO HB HY HZS HMZ HAK
      go_wp2_with fail
      go_roundw
      case rel => exact ⟨k + 1, by omega, by go_num, by rw [HAQ.out], HNX⟩
      case measure => simp [intOf]; omega
     have HSO : Hid (soldB 0 1 cur x = true) := Lib.hid (sold_all ht hc hs hb)
     have e1 : (x.t == 3) = true := by simpa using ht
     have e2 : (x.c == cur) = true := by simpa using hc
     have e3 : (x.s == 0) = true := by simpa using hs
     have e4 : (x.b == 1) = true := by simpa using hb
     clear ht hc hs hb
     have HO2 : Hid (Own .i64 ((wr.alloc (.cells #[.int .i64 x.s, .int .i64 x.n, .int .i64 x.b, .int .i64 x.c, .int .i64 x.a, .int .i64 x.r, .int .i64 x.t, .int .i64 x.y] 39)).alloc (.cells #[.int .i64 x.a] 2)) w9.heap.size 2 (.slice pw m cw) zs) := Lib.hid (HO.out.alloc _)
     have HOL : Hid (∀ g, (Value.slice pw m cw).ownBlock = some g → g < wr.heap.size) := Lib.hid HOW.out.lt
     have HOG : Hid (∀ g, (Value.slice pw m cw).ownBlock = some g → w9.heap.size ≤ g) := Lib.hid HOW.out.block_ge
     have HSW : Hid (w9.heap.size ≤ wr.heap.size) := Lib.hid HB.out.size
     have HEQ : Hid ((soldL 0 1 cur (Y.take (k + 1))) = soldL 0 1 cur (Y.take k) ++ [unC x]) := Lib.hid (by have h1 := HTK.out; rw [HSO.out, if_pos rfl] at h1; exact h1)
     clear HTK HSO
     go_wp2_with (at_builtin; with_reducible refine stop_appendI (.tmp 114) (.tmp 117) 34 rfl ?_)
     refine wpList_append_g rfl (.tmp 114) (.tmp 117) 34 rfl 2 .i64 8 w9.heap.size eltA (.slice pw m cw) (.slice (some ⟨wr.heap.size + 1, 0, none⟩) 1 1) zs [x.a] rfl rfl HO2.out ⟨some ⟨wr.heap.size + 1, 0, none⟩, 1, rfl, Nat.le_refl _, .inr ⟨wr.heap.size + 1, 0, rfl, fun i hi => ?_⟩⟩ (by have := HMZ.out; simp; omega) (by have := HMZ.out; simp; omega) (by have := HSW.out; simp; omega) ?_
     ·obtain rfl : i = 0 := by simp at hi; omega
      exact (Blk.new' (wr.alloc (.cells #[.int .i64 x.s, .int .i64 x.n, .int .i64 x.b, .int .i64 x.c, .int .i64 x.a, .int .i64 x.r, .int .i64 x.t, .int .i64 x.y] 39)) #[.int .i64 (x.a)] 2 (b := wr.heap.size + 1) (by simp)).cell 0
     intro v6 w6 ho6 hg6 hor6
     have hlen : (zs ++ [x.a]).length = m + 1 := by rw [List.length_append, HMZ.out.1]; rfl
     obtain ⟨p6, c6', hv6⟩ := ho6.form
     rw [hlen] at hv6
     subst hv6
     have hne : (Value.slice p6 (m + 1) c6').ownBlock ≠ some wr.heap.size := by
      rcases hor6 with h | h
      ·rw [h]; intro e; exact absurd (HOL.out _ e) (Nat.lt_irrefl _)
      ·rw [h]; simp; omega
     have HY6 : Hid (Blk w6 wr.heap.size #[.int .i64 x.s, .int .i64 x.n, .int .i64 x.b, .int .i64 x.c, .int .i64 x.a, .int .i64 x.r, .int .i64 x.t, .int .i64 x.y] 39) := Lib.hid ((hg6.block wr.heap.size (by simp; omega) (fun e => absurd (HOL.out _ e.symm) (Nat.lt_irrefl _))).trans (HY.out.alloc _))
     have hb6 : Below w9.heap.size w9 w6 := Below.grown ((HB.out.alloc HB.out.size _).alloc (by have := HSW.out; simp; omega) _) hg6 (by have := HSW.out; simp; omega) (fun b e => HOG.out b e)
     have HB6 := Lib.hid hb6
     have HO6 := Lib.hid ho6
     have HNE := Lib.hid hne
     clear ho6 hg6 hor6 hne hlen hb6 HO2 HOL HOG HO HB HY HOW HMZ
     have z7 : w6.cell? ⟨wr.heap.size, 7, none⟩ = some (.int .i64 x.y) := HY6.out.cell 7
     have f7 := HY6.out.free 7
     go_upto_region 24 with fail
     clear z7 f7 c0 c1 c2 c3 c4 c5 c6 c7 e1 e2 e3 e4
     have hch : Chg wr.heap.size w6 (w6.setCell ⟨wr.heap.size, 7, none⟩ (.int .i64 0)) := (Chg.refl _ _).set 7 _
     have HY7 : Hid (Blk _ wr.heap.size #[.int .i64 x.s, .int .i64 x.n, .int .i64 x.b, .int .i64 x.c, .int .i64 x.a, .int .i64 x.r, .int .i64 x.t, .int .i64 0] 39) := Lib.hid (HY6.out.set 7 _)
     have HO7 := Lib.hid (HO6.out.chgV hch HNE.out)
     have HB7 := Lib.hid (HB6.out.trans (hch.below HSW.out (HB6.out.size)))
     have HM7 := Lib.hid (HM.out.kept HB7.out)
     clear hch HY6 HO6 HB6 HNE HSW
     generalize w6.setCell ⟨wr.heap.size, 7, none⟩ (.int .i64 0) = w7 at *
     cases AK
     case false =>
      have HNX : Hid (Own .i64 w7.drew w9.heap.size 2 (.slice p6 (m + 1) c6') ((soldL 0 1 cur (Y.take (k + 1))).map (·.a)) ∧ Below w9.heap.size w9 w7.drew) := by
       refine Lib.hid ⟨?_, HB7.out.drew⟩
       rw [HEQ.out, List.map_append, HZS.out]
       exact HO7.out.drew
      have hlook := MpJ.look (show MpJ gm _ (lookI (soldL 0 1 cur X)) w7.drew from HM7.out) HXF.out.1 HXF.out.2
      have HAQ : Hid (allAt (soldL 0 1 cur X) (soldL 0 1 cur (Y.take (k + 1))) = false) := Lib.hid (by rw [HEQ.out, allAt_snoc, HAK.out, Bool.false_and])
      generalize lookI (soldL 0 1 cur X) x.s x.n = z at *
      have keq := fun w => item_eq z (unC x) w
      dsimp only [unC] at keq
      unfold Itm.v at hlook
      have hS1 : w7.drew.cell? ⟨wr.heap.size, 0, none⟩ = some (.int .i64 x.s) ∧ w7.drew.cell? ⟨wr.heap.size, 1, none⟩ = some (.int .i64 x.n) ∧ w7.drew.cell? ⟨wr.heap.size, 2, none⟩ = some (.int .i64 x.b) ∧ w7.drew.cell? ⟨wr.heap.size, 3, none⟩ = some (.int .i64 x.c) ∧ w7.drew.cell? ⟨wr.heap.size, 4, none⟩ = some (.int .i64 x.a) ∧ w7.drew.cell? ⟨wr.heap.size, 5, none⟩ = some (.int .i64 x.r) ∧ w7.drew.cell? ⟨wr.heap.size, 6, none⟩ = some (.int .i64 x.t) ∧ w7.drew.cell? ⟨wr.heap.size, 7, none⟩ = some (.int .i64 0) ∧ (Instr.lookup 35 (.map (some gm)) (.agg #[.int .i64 x.s, .int .i64 x.n]) false).run Try.prog w7.drew = .ok (.agg #[.int .i64 z.s, .int .i64 z.n, .int .i64 z.b, .int .i64 z.c, .int .i64 z.a, .int .i64 z.r, .int .i64 z.t, .int .i64 z.y]) w7.drew := ⟨HY7.out.cell 0, HY7.out.cell 1, HY7.out.cell 2, HY7.out.cell 3, HY7.out.cell 4, HY7.out.cell 5, HY7.out.cell 6, HY7.out.cell 7, hlook⟩
      clear hlook HB7 HO7 HM7 HEQ HZS HAK HY7
      refine wp_region_held_drew (S := fun w' => w'.cell? ⟨wr.heap.size, 0, none⟩ = some (.int .i64 x.s) ∧ w'.cell? ⟨wr.heap.size, 1, none⟩ = some (.int .i64 x.n) ∧ w'.cell? ⟨wr.heap.size, 2, none⟩ = some (.int .i64 x.b) ∧ w'.cell? ⟨wr.heap.size, 3, none⟩ = some (.int .i64 x.c) ∧ w'.cell? ⟨wr.heap.size, 4, none⟩ = some (.int .i64 x.a) ∧ w'.cell? ⟨wr.heap.size, 5, none⟩ = some (.int .i64 x.r) ∧ w'.cell? ⟨wr.heap.size, 6, none⟩ = some (.int .i64 x.t) ∧ w'.cell? ⟨wr.heap.size, 7, none⟩ = some (.int .i64 0) ∧ (Instr.lookup 35 (.map (some gm)) (.agg #[.int .i64 x.s, .int .i64 x.n]) false).run Try.prog w' = .ok (.agg #[.int .i64 z.s, .int .i64 z.n, .int .i64 z.b, .int .i64 z.c, .int .i64 z.a, .int .i64 z.r, .int .i64 z.t, .int .i64 z.y]) w') (by kernel_rfl) hS1 (fun hS0 => ?_)
      clear hS1
      refine tkq 0 ?_
      refine tkq 1 ?_
      refine tnq 2 ?_
      refine tnq 3 ?_
      refine tnq 4 ?_
      refine tnq 5 ?_
      refine tnq 6 ?_
      refine tnq 7 ?_
      refine tkq 8 ?_
      refine tkq 9 ?_
      refine wpAnyH_done (by kernel_rfl) ?_ _
      clear hS0
      go_wp2_with fail
      go_roundw
      case rel => exact ⟨k + 1, by omega, by go_num, by rw [HAQ.out], HNX⟩
      case measure => simp [intOf]; omega
     case true =>
      have HNX : Hid (Own .i64 w7.drew w9.heap.size 2 (.slice p6 (m + 1) c6') ((soldL 0 1 cur (Y.take (k + 1))).map (·.a)) ∧ Below w9.heap.size w9 w7.drew) := by
       refine Lib.hid ⟨?_, HB7.out.drew⟩
       rw [HEQ.out, List.map_append, HZS.out]
       exact HO7.out.drew
      have hlook := MpJ.look (show MpJ gm _ (lookI (soldL 0 1 cur X)) w7.drew from HM7.out) HXF.out.1 HXF.out.2
      have HAQ : Hid (allAt (soldL 0 1 cur X) (soldL 0 1 cur (Y.take (k + 1))) = itmEq (lookI (soldL 0 1 cur X) x.s x.n) (unC x)) := Lib.hid (by rw [HEQ.out, allAt_snoc, HAK.out, Bool.true_and, itmEq_dec]; rfl)
      generalize lookI (soldL 0 1 cur X) x.s x.n = z at *
      have keq := fun w => item_eq z (unC x) w
      dsimp only [unC] at keq
      unfold Itm.v at hlook
      have hS1 : w7.drew.cell? ⟨wr.heap.size, 0, none⟩ = some (.int .i64 x.s) ∧ w7.drew.cell? ⟨wr.heap.size, 1, none⟩ = some (.int .i64 x.n) ∧ w7.drew.cell? ⟨wr.heap.size, 2, none⟩ = some (.int .i64 x.b) ∧ w7.drew.cell? ⟨wr.heap.size, 3, none⟩ = some (.int .i64 x.c) ∧ w7.drew.cell? ⟨wr.heap.size, 4, none⟩ = some (.int .i64 x.a) ∧ w7.drew.cell? ⟨wr.heap.size, 5, none⟩ = some (.int .i64 x.r) ∧ w7.drew.cell? ⟨wr.heap.size, 6, none⟩ = some (.int .i64 x.t) ∧ w7.drew.cell? ⟨wr.heap.size, 7, none⟩ = some (.int .i64 0) ∧ (Instr.lookup 35 (.map (some gm)) (.agg #[.int .i64 x.s, .int .i64 x.n]) false).run Try.prog w7.drew = .ok (.agg #[.int .i64 z.s, .int .i64 z.n, .int .i64 z.b, .int .i64 z.c, .int .i64 z.a, .int .i64 z.r, .int .i64 z.t, .int .i64 z.y]) w7.drew := ⟨HY7.out.cell 0, HY7.out.cell 1, HY7.out.cell 2, HY7.out.cell 3, HY7.out.cell 4, HY7.out.cell 5, HY7.out.cell 6, HY7.out.cell 7, hlook⟩
      clear hlook HB7 HO7 HM7 HEQ HZS HAK HY7
      refine wp_region_held_drew (S := fun w' => w'.cell? ⟨wr.heap.size, 0, none⟩ = some (.int .i64 x.s) ∧ w'.cell? ⟨wr.heap.size, 1, none⟩ = some (.int .i64 x.n) ∧ w'.cell? ⟨wr.heap.size, 2, none⟩ = some (.int .i64 x.b) ∧ w'.cell? ⟨wr.heap.size, 3, none⟩ = some (.int .i64 x.c) ∧ w'.cell? ⟨wr.heap.size, 4, none⟩ = some (.int .i64 x.a) ∧ w'.cell? ⟨wr.heap.size, 5, none⟩ = some (.int .i64 x.r) ∧ w'.cell? ⟨wr.heap.size, 6, none⟩ = some (.int .i64 x.t) ∧ w'.cell? ⟨wr.heap.size, 7, none⟩ = some (.int .i64 0) ∧ (Instr.lookup 35 (.map (some gm)) (.agg #[.int .i64 x.s, .int .i64 x.n]) false).run Try.prog w' = .ok (.agg #[.int .i64 z.s, .int .i64 z.n, .int .i64 z.b, .int .i64 z.c, .int .i64 z.a, .int .i64 z.r, .int .i64 z.t, .int .i64 z.y]) w') (by kernel_rfl) hS1 (fun hS0 => ?_)
      clear hS1
      refine tkq 0 ?_
      refine tkq 1 ?_
      refine tkq 2 ?_
      refine tkq 3 ?_
      refine tkq 4 ?_
      refine tkq 5 ?_
      refine tkq 6 ?_
      refine tkq 7 ?_
      refine tkq 8 ?_
      refine tkq 9 ?_
      refine wpAnyH_done (by kernel_rfl) ?_ _
      clear hS0
      go_wp2_with fail
      go_roundw
      case rel => exact ⟨k + 1, by omega, by go_num, by rw [HAQ.out]; rfl, HNX⟩
      case measure => simp [intOf]; omega
    ·skip
     have hle : (nb : Int) ≤ (k : Int) := by omega
     go_upto_region 26 with fail
     have hkn : k = Y.length := by rw [HLY.out]; omega
     have hK := HJ.out
     rw [hkn, List.take_length] at hK ⊢
     obtain ⟨ho, hw⟩ := hK
     obtain ⟨pw, cw, hv⟩ := ho.form
     generalize hmw : ((soldL 0 1 cur Y).map (·.a)).length = mw at *
     subst hv
     have HMW : Hid (mw = (soldL 0 1 cur Y).length) := Lib.hid (by rw [← hmw, List.length_map])
     have HMS : Hid (mv ≤ 30 ∧ mw ≤ 30) := Lib.hid (by have h1 := soldL_len 0 1 cur X; have h2 := soldL_len 0 1 cur Y; have := HNA.out; have := HNB.out; have := HMV.out; have := HMW.out; omega)
     have hbA := amts_small (soldL_ok (s := 0) (b := 1) (c := cur) (goodB_ok HGA.out)) (by have := HMV.out; have := HMS.out; omega)
     have hbB := amts_small (soldL_ok (s := 0) (b := 1) (c := cur) (goodB_ok HGB.out)) (by have := HMW.out; have := HMS.out; omega)
     rw [HSA.out] at hbA
     rw [HSB.out] at hbB
     have HFA : Hid (Fits SA ∧ Fits SB) := Lib.hid (by unfold Fits; omega)
     have hSA : ((soldL 0 1 cur X).map (·.a)).sum = SA := HSA.out
     have hSB : ((soldL 0 1 cur Y).map (·.a)).sum = SB := HSB.out
     have hok : ∀ xs : List Itm, Okx xs → All64 (xs.map (·.a)) := fun xs h z hz => by
      obtain ⟨x, hx, rfl⟩ := List.mem_map.1 hz
      have := h x hx
      constructor <;> omega
     have HS1 := Lib.hid (refsum_any _ _ wr (by rw [List.length_map]; have := HMV.out; have := HMS.out; omega) (hok _ (soldL_ok (goodB_ok HGA.out))) (HO.out.row.kept hw))
     rw [hSA, sumN_yes HFA.out.1, sumE_yes HFA.out.1] at HS1
     have HS2 := Lib.hid (fun W (h : Below wr.heap.size wr W) => refsum_any _ _ W (by rw [List.length_map]; have := HMW.out; have := HMS.out; omega) (hok _ (soldL_ok (goodB_ok HGB.out))) (ho.row.kept h))
     rw [hSB, sumN_yes HFA.out.2, sumE_yes HFA.out.2] at HS2
     have hal := alike_is (sold_sorted 0 1 cur HGA.out.1) (sold_sorted 0 1 cur HGB.out.1) (sold_state (s := 0) (b := 1) (c := cur) (X := Y))
     have h2 : decide (soldL 0 1 cur X = soldL 0 1 cur Y) = AL := HAL.out
     rw [h2, ← HMV.out, ← HMW.out] at hal
     have Hp := kbq Hp9 hw
     have HBR := ktq HB9 hw
     clear ho hw hmw HJ hkn hbA hbB hSA hSB hok h2
     generalize allAt (soldL 0 1 cur X) (soldL 0 1 cur Y) = AK at *
     obtain ⟨D, hD⟩ : ∃ D, decide (mv = mw) = D := ⟨_, rfl⟩
     have e1 : ((mv : Int) == (mw : Int)) = D := by rw [← hD, Bool.eq_iff_iff, beq_iff_eq, decide_eq_true_eq]; omega
     rw [hD] at hal
     have HE := Lib.hid hal
     clear hal hD HMV HMW HMS HFA
     generalize hwr : wr = wa at *
     clear hwr
     cases AK
     case false =>
      have hAL : AL = false := by have h := HE.out; simpa using h.symm
      clear HE
      subst hAL
      go_upto_region 27 with fail
      clear e1
      go_wp2_with fail
      refine HS1.out.mono ?_
      rintro y9 wb ⟨rfl, hb⟩
      have HBb := ktq HBR hb
      have Hpb := kbq Hp hb
      have HSb := Lib.hid (HS2.out wb hb)
      clear hb
      go_wp2_with fail
      refine HSb.out.mono ?_
      rintro y9 wc ⟨rfl, hb⟩
      have HBc := ktq HBb hb
      have Hpc := kbq Hpb hb
      clear hb
      have q0 : wc.cell? ⟨gp, 0, none⟩ = some (.int .i64 0) := Hpc.out.cell 0
      have q1 : wc.cell? ⟨gp, 1, none⟩ = some (.int .i64 1) := Hpc.out.cell 1
      have q2 : wc.cell? ⟨gp, 2, none⟩ = some (.int .i64 SA) := Hpc.out.cell 2
      have q3 : wc.cell? ⟨gp, 3, none⟩ = some (.int .i64 SB) := Hpc.out.cell 3
      have q4 : wc.cell? ⟨gp, 4, none⟩ = some (.bool false) := Hpc.out.cell 4
      go_wp2_with fail
      go_ret
      exact ⟨rfl, HBc.out⟩
     case true =>
      have hAL : AL = D := by have h := HE.out; simpa using h.symm
      clear HE
      subst hAL
      go_upto_region 27 with fail
      clear e1
      go_wp2_with fail
      refine HS1.out.mono ?_
      rintro y9 wb ⟨rfl, hb⟩
      have HBb := ktq HBR hb
      have Hpb := kbq Hp hb
      have HSb := Lib.hid (HS2.out wb hb)
      clear hb
      go_wp2_with fail
      refine HSb.out.mono ?_
      rintro y9 wc ⟨rfl, hb⟩
      have HBc := ktq HBb hb
      have Hpc := kbq Hpb hb
      clear hb
      have q0 : wc.cell? ⟨gp, 0, none⟩ = some (.int .i64 0) := Hpc.out.cell 0
      have q1 : wc.cell? ⟨gp, 1, none⟩ = some (.int .i64 1) := Hpc.out.cell 1
      have q2 : wc.cell? ⟨gp, 2, none⟩ = some (.int .i64 SA) := Hpc.out.cell 2
      have q3 : wc.cell? ⟨gp, 3, none⟩ = some (.int .i64 SB) := Hpc.out.cell 3
      have q4 : wc.cell? ⟨gp, 4, none⟩ = some (.bool AL) := Hpc.out.cell 4
      go_wp2_with fail
      go_ret
      exact ⟨rfl, HBc.out⟩
end Go.Proofs.Ytillckkohdjkbaa
namespace Go.Proofs.Ytillckkohdjkbaa
open Go.ChangeShapes Go.WideShapes Go.ChangeAt Go.RowKit
theorem row_of_open {W : World} (x : Addr) (zs : List Int) {len cap : Nat} (hz : zs.length = cap) (hl : len ≤ cap) (hcell : ∀ i, i < zs.length → W.cell? (x.add i) = some (.int .i64 (zs.getD i 0))) (hwz : ∀ n ∈ zs, (Lit.int .i64 n).wf = true) :
  ∃ ys, Row .i64 W (.slice (some x) len cap) ys ∧ All64 ys := by
 have hlen : (zs.take len).length = len := by rw [List.length_take]; omega
 refine ⟨zs.take len, ⟨some x, cap, by rw [hlen], by omega, ?_⟩, fun a ha => bounds_i64 (hwz a (List.mem_of_mem_take ha))⟩
 by_cases h0 : len = 0
 ·left; subst h0; simp
 ·obtain ⟨b, off, rfl, hc⟩ := ints_at hcell (by omega)
  refine .inr ⟨b, off, rfl, fun i hi => ?_⟩
  rw [hlen] at hi
  rw [hc i (by omega), List.getD_eq_getElem?_getD, List.getD_eq_getElem?_getD, List.getElem?_take, if_pos hi]
end Go.Proofs.Ytillckkohdjkbaa
namespace Go.Proofs.Ytillckkohdjkbaa
open Go.ChangeShapes Go.WideShapes Go.ChangeAt Go.RowKit
theorem trow_of_open {α : Type} {H : Type} {enc : TypeId × Value → H} {P : Program} {w : World} {base : Nat} {held : Bool} {t e : TypeId} {fuel : Nat} {a : Option Addr} {len cap : Nat} {x : DataW H × List MemPlace} (E : Enc α) (F : α → Prop)
  (ht : P.underlying t = some (.slice e)) (ce : P.cellsOf e = E.k)
  (rd : ∀ (fuel : Nat) (cs : List Value) (y : DataW H × List MemPlace), cs.length = E.k → DataW.trod enc P w base (fun _ => true) held fuel e cs = some y → ∃ a, cs = E.E a ∧ F a)
  (h : DataW.trod enc P w base (fun _ => true) held fuel t (Value.slice a len cap).cells.toList = some x) : ∃ xs, TRow E w (.slice a len cap) xs ∧ ∀ x ∈ xs, F x := by
 have h' : DataW.trod enc P w base (fun _ => true) held fuel t [.slice a len cap] = some x := by simpa [Value.cells] using h
 rcases Go.Deep.open_slice ht h' with ⟨hcs, _⟩ | ⟨a', len', cap', m, n, D, Pl, hcs, hb, hl, hm, hmm, rfl, hx⟩
 ·simp at hcs
  obtain ⟨rfl, rfl, rfl⟩ := hcs
  exact ⟨[], TRow.nil_ E w, (fun _ h => by cases h)⟩
 ·simp at hcs
  obtain ⟨rfl, rfl, rfl⟩ := hcs
  have hlm : len ≤ m := by rw [hmm]; split <;> omega
  have each : ∀ i, i < m → ∃ y : α, F y ∧ ∀ t, t < E.k → w.cell? (a'.add (i * E.k + t)) = (E.E y)[t]? := by
   intro i hi
   obtain ⟨cs', h1, h2⟩ := hx i hi
   rw [ce] at h1
   obtain ⟨_, hlen, hcell⟩ := World.cells?_some h1
   obtain ⟨y, rfl, hF⟩ := rd _ _ _ hlen h2
   refine ⟨y, hF, fun t ht => ?_⟩
   have e0 := hcell t (by omega)
   rw [Go.Deep.add_add] at e0
   rw [e0, List.getElem?_eq_getElem (by rw [E.len]; exact ht)]
  by_cases h0 : len = 0
  ·subst h0
   exact ⟨[], ⟨_, _, rfl, Nat.zero_le _, .inl rfl⟩, (fun _ h => by cases h)⟩
  ·obtain ⟨q0, _⟩ := each 0 (by omega)
   have each' : ∀ i, ∃ y : α, i < m → F y ∧ ∀ t, t < E.k → w.cell? (a'.add (i * E.k + t)) = (E.E y)[t]? := by
    intro i
    by_cases hi : i < m
    ·obtain ⟨y, hy⟩ := each i hi
     exact ⟨y, fun _ => hy⟩
    ·exact ⟨q0, fun h => absurd h hi⟩
   let q : Nat → α := fun i => Classical.choose (each' i)
   have hq : ∀ i, i < m → F (q i) ∧ ∀ t, t < E.k → w.cell? (a'.add (i * E.k + t)) = (E.E (q i))[t]? := fun i => Classical.choose_spec (each' i)
   have hL : ((List.range len).map q).length = len := by simp
   refine ⟨(List.range len).map q, ⟨some a', cap, by rw [hL], by rw [hL]; exact hl, .inr ?_⟩, fun z hz => ?_⟩
   ·obtain ⟨b, off, spot⟩ := a'
    have hk := E.pos
    have h00 := (hq 0 (by omega)).2 0 hk
    rw [List.getElem?_eq_getElem (by rw [E.len]; exact hk)] at h00
    have hspot : spot = none := by simpa [Addr.add] using World.cell?_spot h00
    subst hspot
    refine ⟨b, off, rfl, ?_, fun i hi t ht => ?_⟩
    ·rw [addAt] at h00
     exact World.block_lt_of_cell? w _ h00
    ·rw [hL] at hi
     have := (hq i (by omega)).2 t ht
     rw [addAt] at this
     rw [Nat.add_assoc, this]
     simp
   ·obtain ⟨i, hi, rfl⟩ := List.mem_map.1 hz
    exact (hq i (by have := List.mem_range.1 hi; omega)).1
end Go.Proofs.Ytillckkohdjkbaa
namespace Go.Proofs.Ytillckkohdjkbaa
open Go.ChangeShapes Go.WideShapes Go.ChangeAt Go.RowKit
theorem item_read {H : Type} {enc : TypeId × Value → H} {P : Program} {w : World} {base : Nat} {held : Bool} {t : TypeId} {g f0 f1 f2 f3 f4 f5 f6 f7 : Field}
  (ht : P.underlying t = some (.struct #[g, f2, f3, f4, f5, f6, f7])) (hg : P.underlying g.type = some (.struct #[f0, f1]))
  (og : g.offset = 0) (o0 : f0.offset = 0) (o1 : f1.offset = 1) (o2 : f2.offset = 2) (o3 : f3.offset = 3) (o4 : f4.offset = 4) (o5 : f5.offset = 5) (o6 : f6.offset = 6) (o7 : f7.offset = 7)
  (u0 : P.underlying f0.type = some (.int .i64)) (u1 : P.underlying f1.type = some (.int .i64)) (u2 : P.underlying f2.type = some (.int .i64)) (u3 : P.underlying f3.type = some (.int .i64)) (u4 : P.underlying f4.type = some (.int .i64)) (u5 : P.underlying f5.type = some (.int .i64)) (u6 : P.underlying f6.type = some (.int .i64)) (u7 : P.underlying f7.type = some (.int .i64))
  (cc : P.cellsOf g.type = 2 ∧ P.cellsOf f0.type = 1 ∧ P.cellsOf f1.type = 1 ∧ P.cellsOf f2.type = 1 ∧ P.cellsOf f3.type = 1 ∧ P.cellsOf f4.type = 1 ∧ P.cellsOf f5.type = 1 ∧ P.cellsOf f6.type = 1 ∧ P.cellsOf f7.type = 1)
  (fuel : Nat) (cs : List Value) (y : DataW H × List MemPlace) (hl : cs.length = 8) (hf : DataW.trod enc P w base (fun _ => true) held fuel t cs = some y) : ∃ x : Itm, cs = x.cells ∧ True := by
 obtain ⟨cg, c0, c1, c2, c3, c4, c5, c6, c7⟩ := cc
 match cs, hl with
 | [v0, v1, v2, v3, v4, v5, v6, v7], _ =>
  obtain ⟨xs, k, hk, hxy, _, hxl, hf⟩ := DataW.trod_struct ht hf
  match xs, hxl with
  | [yg, y2, y3, y4, y5, y6, y7], _ =>
   have gg := hf 0 g rfl
   have g2 := hf 1 f2 rfl
   have g3 := hf 2 f3 rfl
   have g4 := hf 3 f4 rfl
   have g5 := hf 4 f5 rfl
   have g6 := hf 5 f6 rfl
   have g7 := hf 6 f7 rfl
   simp [og, o2, o3, o4, o5, o6, o7, cg, c2, c3, c4, c5, c6, c7] at gg g2 g3 g4 g5 g6 g7
   obtain ⟨xs', k', hk', hxy', _, hxl', hf'⟩ := DataW.trod_struct hg gg
   match xs', hxl' with
   | [y0, y1], _ =>
    have g0 := hf' 0 f0 rfl
    have g1 := hf' 1 f1 rfl
    simp [o0, o1, c0, c1] at g0 g1
    obtain ⟨z0, q0, _, _⟩ := DataW.trod_int u0 g0
    obtain ⟨z1, q1, _, _⟩ := DataW.trod_int u1 g1
    obtain ⟨z2, q2, _, _⟩ := DataW.trod_int u2 g2
    obtain ⟨z3, q3, _, _⟩ := DataW.trod_int u3 g3
    obtain ⟨z4, q4, _, _⟩ := DataW.trod_int u4 g4
    obtain ⟨z5, q5, _, _⟩ := DataW.trod_int u5 g5
    obtain ⟨z6, q6, _, _⟩ := DataW.trod_int u6 g6
    obtain ⟨z7, q7, _, _⟩ := DataW.trod_int u7 g7
    simp at q0 q1 q2 q3 q4 q5 q6 q7
    subst q0 q1 q2 q3 q4 q5 q6 q7
    exact ⟨⟨z0, z1, z2, z3, z4, z5, z6, z7⟩, rfl, trivial⟩
end Go.Proofs.Ytillckkohdjkbaa
