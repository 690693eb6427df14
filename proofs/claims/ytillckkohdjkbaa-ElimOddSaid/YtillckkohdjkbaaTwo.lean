/- contralaw15.two by contract: two books with what they take of some items. contralaw15.holds by contract. -/
import Derived.Test.YtillckkohdjkbaaPutAny
import Derived.Test.YtillckkohdjkbaaBookNew
import Derived.Test.YtillckkohdjkbaaStRow
import Derived.Test.YtillckkohdjkbaaElimBk
import Derived.Deep.Cut
import Derived.Test.YtillckkohdjkbaaTLit
import Derived.Test.YtillckkohdjkbaaTotalL
namespace Go.Proofs.Ytillckkohdjkbaa
open Go.RowKit
/-- Two books in blocks of their own, two places for the results ahead of them. -/
structure TwoR (w : World) (ga gb : Nat) (XA XB : List Itm) (pa : Option Addr) (na ca : Nat) (pb : Option Addr) (nb cb : Nat) (wr : World) : Prop where
  lo : w.heap.size + 1 < ga
  ab : ga < gb
  z0 : Blk wr w.heap.size #[.int .i64 0, .slice none 0 0, .slice none 0 0] 26
  z1 : Blk wr (w.heap.size + 1) #[.int .i64 0, .slice none 0 0, .slice none 0 0] 26
  ba : Blk wr ga #[.int .i64 0, .slice pa na ca, .slice none 0 0] 26
  bb : Blk wr gb #[.int .i64 1, .slice pb nb cb, .slice none 0 0] 26
  ra : TRow encI wr (.slice pa na ca) XA
  rb : TRow encI wr (.slice pb nb cb) XB
  la : XA.length = na
  lb : XB.length = nb
  oa : ∀ k, (Value.slice pa na ca).ownBlock = some k → gb < k
  ob : ∀ k, (Value.slice pb nb cb).ownBlock = some k → gb < k
  below : Below w.heap.size w wr
theorem TwoR.kept {w wr w' : World} {ga gb na ca nb cb : Nat} {XA XB : List Itm} {pa pb : Option Addr} (h : TwoR w ga gb XA XB pa na ca pb nb cb wr) (hb : Below wr.heap.size wr w') : TwoR w ga gb XA XB pa na ca pb nb cb w' :=
  ⟨h.lo, h.ab, h.z0.below hb h.z0.lt, h.z1.below hb h.z1.lt, h.ba.below hb h.ba.lt, h.bb.below hb h.bb.lt, h.ra.kept hb, h.rb.kept hb, h.la, h.lb, h.oa, h.ob, h.below.trans (hb.mono h.below.size)⟩
theorem blk_st3 {w : World} {b g : Nat} {cs : Array Value} {t : TypeId} (h : Blk w b cs t) (hne : b ≠ g) (a c d : Value) : Blk (st3 w g a c d) b cs t := (st3_other w g b a c d hne).trans h
theorem TwoR.setA {w wr : World} {ga gb na ca nb cb n2 c2 : Nat} {XA XB Y : List Itm} {pa pb p2 : Option Addr} (h : TwoR w ga gb XA XB pa na ca pb nb cb wr) (hr : TRow encI wr (.slice p2 n2 c2) Y) (hl : Y.length = n2) (ho : ∀ k, (Value.slice p2 n2 c2).ownBlock = some k → gb < k) : TwoR w ga gb Y XB p2 n2 c2 pb nb cb (st3 wr ga (.int .i64 0) (.slice p2 n2 c2) (.slice none 0 0)) :=
  ⟨h.lo, h.ab, blk_st3 h.z0 (by have := h.lo; omega) _ _ _, blk_st3 h.z1 (by have := h.lo; omega) _ _ _, st3_blk h.ba rfl _ _ _, blk_st3 h.bb (by have := h.ab; omega) _ _ _, hr.st3 (fun k hk => by have := ho k hk; have := h.ab; omega) _ _ _, h.rb.st3 (fun k hk => by have := h.ob k hk; have := h.ab; omega) _ _ _, hl, h.lb, ho, h.ob, st3_below h.below (by have := h.lo; omega) _ _ _⟩
theorem TwoR.setB {w wr : World} {ga gb na ca nb cb n2 c2 : Nat} {XA XB Y : List Itm} {pa pb p2 : Option Addr} (h : TwoR w ga gb XA XB pa na ca pb nb cb wr) (hr : TRow encI wr (.slice p2 n2 c2) Y) (hl : Y.length = n2) (ho : ∀ k, (Value.slice p2 n2 c2).ownBlock = some k → gb < k) : TwoR w ga gb XA Y pa na ca p2 n2 c2 (st3 wr gb (.int .i64 1) (.slice p2 n2 c2) (.slice none 0 0)) :=
  ⟨h.lo, h.ab, blk_st3 h.z0 (by have := h.lo; have := h.ab; omega) _ _ _, blk_st3 h.z1 (by have := h.lo; have := h.ab; omega) _ _ _, blk_st3 h.ba (by have := h.ab; omega) _ _ _, st3_blk h.bb rfl _ _ _, h.ra.st3 (fun k hk => by have := h.oa k hk; omega) _ _ _, hr.st3 (fun k hk => by have := ho k hk; omega) _ _ _, h.la, hl, h.oa, ho, st3_below h.below (by have := h.lo; have := h.ab; omega) _ _ _⟩
set_option linter.unusedSimpArgs false in
set_option maxHeartbeats 4000000 in
set_option maxRecDepth 100000 in
theorem two_any (w : World) (va vb : Value) (la lb : List Itm) (ha : TRow encI w va la) (hb : TRow encI w vb lb) (hna : la.length ≤ 30) (hnb : lb.length ≤ 30) :
    Calls Try.prog 6 #[va, vb] w fun e w' => ∃ pa na ca pb nb cb, e = .returned (.tuple #[bookV 0 (.slice pa na ca) (.slice none 0 0), bookV 1 (.slice pb nb cb) (.slice none 0 0), .bool true]) ∧ TRow encI w' (.slice pa na ca) (foldX 0 [] la) ∧ (foldX 0 [] la).length = na ∧ TRow encI w' (.slice pb nb cb) (foldX 1 [] lb) ∧ (foldX 1 [] lb).length = nb ∧ Below w.heap.size w w' ∧ (∀ k, (Value.slice pa na ca).ownBlock = some k → w.heap.size ≤ k) ∧ (∀ k, (Value.slice pb nb cb).ownBlock = some k → w.heap.size ≤ k) := by
  obtain ⟨p1, c1, rfl⟩ := ha.shape
  obtain ⟨p2, c2, rfl⟩ := hb.shape
  have HR1 := Lib.hid ha
  have HR2 := Lib.hid hb
  clear ha hb
  generalize hl1 : la.length = n1 at *
  have HL1 := Lib.hid hl1
  generalize hl2 : lb.length = n2 at *
  have HL2 := Lib.hid hl2
  clear hl1 hl2
  go_enter Try.func6, Try.ntmps6
  go_wp2_with fail
  generalize hW1 : (w.alloc (.cells #[.int .i64 0, .slice none 0 0, .slice none 0 0] 26)).alloc (.cells #[.int .i64 0, .slice none 0 0, .slice none 0 0] 26) = W1
  have HB1 : Hid (Below w.heap.size w W1) := by show Below _ _ _; rw [← hW1]; exact (oneB w _).alloc (by simp) _
  have HZ0 : Hid (Blk W1 w.heap.size #[.int .i64 0, .slice none 0 0, .slice none 0 0] 26) := by show Blk _ _ _ _; rw [← hW1]; exact (Blk.new w _ _).alloc _
  have HZ1 : Hid (Blk W1 (w.heap.size + 1) #[.int .i64 0, .slice none 0 0, .slice none 0 0] 26) := by show Blk _ _ _ _; rw [← hW1]; exact Blk.new' _ _ _ (by simp)
  clear hW1
  refine (newB_any W1 0 (by decide)).mono ?_
  rintro y w2 ⟨rfl, hb2⟩
  have HB2 := Lib.hid (HB1.out.trans (hb2.mono HB1.out.size))
  have HZ02 := Lib.hid (HZ0.out.below hb2 HZ0.out.lt)
  have HZ12 := Lib.hid (HZ1.out.below hb2 HZ1.out.lt)
  clear hb2 HB1 HZ0 HZ1
  unfold bookV at *
  go_upto_region 2 with fail
  have HB3 := Lib.hid (HB2.out.trans ((oneB w2 (.cells #[.int .i64 0, .slice none 0 0, .slice none 0 0] 26)).mono HB2.out.size))
  have HZ03 := Lib.hid (HZ02.out.alloc (.cells #[.int .i64 0, .slice none 0 0, .slice none 0 0] 26))
  have HZ13 := Lib.hid (HZ12.out.alloc (.cells #[.int .i64 0, .slice none 0 0, .slice none 0 0] 26))
  have HA3 := Lib.hid (Blk.new w2 #[.int .i64 0, .slice none 0 0, .slice none 0 0] 26)
  have HGA : Hid (w.heap.size + 1 < w2.heap.size) := HZ12.out.lt
  generalize w2.alloc (.cells #[.int .i64 0, .slice none 0 0, .slice none 0 0] 26) = W3 at *
  generalize w2.heap.size = ga at *
  clear HB2 HZ02 HZ12
  have HNB := Lib.hid (newB_any W3 1 (by decide))
  unfold bookV at HNB
  go_wp2_with fail
  refine HNB.out.mono ?_
  rintro y w4 ⟨rfl, hb4⟩
  have HB4 := Lib.hid (HB3.out.trans (hb4.mono HB3.out.size))
  have HZ04 := Lib.hid (HZ03.out.below hb4 HZ03.out.lt)
  have HZ14 := Lib.hid (HZ13.out.below hb4 HZ13.out.lt)
  have HA4 := Lib.hid (HA3.out.below hb4 HA3.out.lt)
  clear hb4 HB3 HZ03 HZ13 HA3 HNB
  go_upto_region 3 with fail
  have HREL : Hid (TwoR w ga w4.heap.size (foldX 0 [] (la.take 0)) [] none 0 0 none 0 0 (w4.alloc (.cells #[.int .i64 1, .slice none 0 0, .slice none 0 0] 26))) := ⟨HGA.out, HA4.out.lt, HZ04.out.alloc _, HZ14.out.alloc _, HA4.out.alloc _, Blk.new w4 _ _, TRow.nil_ _ _, TRow.nil_ _ _, rfl, rfl, (fun k h => by cases h), (fun k h => by cases h), HB4.out.trans ((oneB w4 _).mono HB4.out.size)⟩
  generalize w4.alloc (.cells #[.int .i64 1, .slice none 0 0, .slice none 0 0] 26) = W5 at *
  generalize w4.heap.size = gb at *
  clear HB4 HZ04 HZ14 HA4
  go_wp2_with fail
  go_loopw [25] (fun i wr => ∃ (k : Nat) (pa : Option Addr) (na ca : Nat), k ≤ n1 ∧ i = .int .i64 k ∧ Hid (TwoR w ga gb (foldX 0 [] (la.take k)) [] pa na ca none 0 0 wr)) (fun i _ => n1 - (intOf i).toNat)
  case atStart => exact ⟨0, none, 0, 0, by omega, rfl, HREL⟩
  case round =>
    obtain ⟨k, pa, na, ca, hk, rfl, HK⟩ := hrel
    clear HREL
    by_cases hlt : k < n1
    · have hkl : k < la.length := by rw [HL1.out]; exact hlt
      have hltI : (k : Int) < (n1 : Int) := by omega
      have HFT := Lib.hid (foldX_take (me := 0) (X := []) hkl)
      obtain ⟨b, o, rfl, hbl, hcs⟩ := (HR1.out.kept HK.out.below).at_ k hkl
      generalize la[k] = x at *
      have c0 : wr.cell? ⟨b, o + k * 8, none⟩ = some (.int .i64 x.s) := hcs 0 (by decide)
      have c1 : wr.cell? ⟨b, o + k * 8 + 1, none⟩ = some (.int .i64 x.n) := hcs 1 (by decide)
      have c2 : wr.cell? ⟨b, o + k * 8 + 2, none⟩ = some (.int .i64 x.b) := hcs 2 (by decide)
      have c3 : wr.cell? ⟨b, o + k * 8 + 3, none⟩ = some (.int .i64 x.c) := hcs 3 (by decide)
      have c4 : wr.cell? ⟨b, o + k * 8 + 4, none⟩ = some (.int .i64 x.a) := hcs 4 (by decide)
      have c5 : wr.cell? ⟨b, o + k * 8 + 5, none⟩ = some (.int .i64 x.r) := hcs 5 (by decide)
      have c6 : wr.cell? ⟨b, o + k * 8 + 6, none⟩ = some (.int .i64 x.t) := hcs 6 (by decide)
      have c7 : wr.cell? ⟨b, o + k * 8 + 7, none⟩ = some (.int .i64 x.y) := hcs 7 (by decide)
      have HGD := Lib.hid (foldX_good (l := la.take k) (goodB_nil 0))
      have HLN : Hid ((foldX 0 [] (la.take k)).length ≤ 30) := by
        show _ ≤ _
        have := foldX_len (l := la.take k) (goodB_nil 0)
        rw [List.length_take, List.length_nil] at this
        omega
      have HK2 := Lib.hid (HK.out.kept (oneB wr (.cells #[.int .i64 x.s, .int .i64 x.n, .int .i64 x.b, .int .i64 x.c, .int .i64 x.a, .int .i64 x.r, .int .i64 x.t, .int .i64 x.y] 39)))
      have HX := Lib.hid (Blk.new wr #[.int .i64 x.s, .int .i64 x.n, .int .i64 x.b, .int .i64 x.c, .int .i64 x.a, .int .i64 x.r, .int .i64 x.t, .int .i64 x.y] 39)
      clear hcs HK
      go_upto_region 6 with fail
      generalize wr.alloc (.cells #[.int .i64 x.s, .int .i64 x.n, .int .i64 x.b, .int .i64 x.c, .int .i64 x.a, .int .i64 x.r, .int .i64 x.t, .int .i64 x.y] 39) = W2 at *
      generalize wr.heap.size = gx at *
      have x0 : W2.cell? ⟨gx, 0, none⟩ = some (.int .i64 x.s) := HX.out.cell 0
      have x1 : W2.cell? ⟨gx, 1, none⟩ = some (.int .i64 x.n) := HX.out.cell 1
      have x2 : W2.cell? ⟨gx, 2, none⟩ = some (.int .i64 x.b) := HX.out.cell 2
      have x3 : W2.cell? ⟨gx, 3, none⟩ = some (.int .i64 x.c) := HX.out.cell 3
      have x4 : W2.cell? ⟨gx, 4, none⟩ = some (.int .i64 x.a) := HX.out.cell 4
      have x5 : W2.cell? ⟨gx, 5, none⟩ = some (.int .i64 x.r) := HX.out.cell 5
      have x6 : W2.cell? ⟨gx, 6, none⟩ = some (.int .i64 x.t) := HX.out.cell 6
      have x7 : W2.cell? ⟨gx, 7, none⟩ = some (.int .i64 x.y) := HX.out.cell 7
      have b0 : W2.cell? ⟨ga, 0, none⟩ = some (.int .i64 0) := HK2.out.ba.cell 0
      have b1 : W2.cell? ⟨ga, 1, none⟩ = some (.slice pa na ca) := HK2.out.ba.cell 1
      have b2 : W2.cell? ⟨ga, 2, none⟩ = some (.slice none 0 0) := HK2.out.ba.cell 2
      clear c0 c1 c2 c3 c4 c5 c6 c7
      have HPUT := Lib.hid (put_any W2 0 pa none na ca 0 0 x _ HK2.out.ra HK2.out.la HGD.out.1 (by have := HK2.out.la; have := HLN.out; omega))
      rw [← HFT.out] at HPUT
      unfold bookV Itm.v at HPUT
      generalize putE 0 x = ee at *
      go_wp2_with fail
      refine HPUT.out.mono ?_
      rintro y w3 ⟨p3, n3, c3, rfl, hr3, hn3, hb3, ho3⟩
      have HK3 := Lib.hid (HK2.out.kept hb3)
      have HNX : Hid (TwoR w ga gb (foldX 0 [] (la.take (k + 1))) [] p3 n3 c3 none 0 0 (st3 w3 ga (.int .i64 0) (.slice p3 n3 c3) (.slice none 0 0))) := HK3.out.setA hr3 hn3.symm (fun q hq => (ho3 q hq).elim (HK2.out.oa q) (fun h => by have := HK2.out.bb.lt; omega))
      have b0 : w3.cell? ⟨ga, 0, none⟩ = some (.int .i64 0) := HK3.out.ba.cell 0
      have b1 : w3.cell? ⟨ga, 1, none⟩ = some (.slice pa na ca) := HK3.out.ba.cell 1
      have b2 : w3.cell? ⟨ga, 2, none⟩ = some (.slice none 0 0) := HK3.out.ba.cell 2
      have f0 := HK3.out.ba.free 0
      have f1 := HK3.out.ba.free 1
      have f2 := HK3.out.ba.free 2
      unfold st3 at HNX
      clear HPUT hr3 hn3 hb3 ho3 HK2 HK3 HX x0 x1 x2 x3 x4 x5 x6 x7
      go_wp2_with fail
      go_roundw
      case rel => exact ⟨k + 1, p3, n3, c3, by omega, by go_num, HNX⟩
      case measure => simp [intOf]; omega
    · have hle : (n1 : Int) ≤ (k : Int) := by omega
      have hkn : k = la.length := by rw [HL1.out]; omega
      have hK := HK.out
      rw [hkn, List.take_length] at hK
      have HREL2 : Hid (TwoR w ga gb (foldX 0 [] la) (foldX 1 [] (lb.take 0)) pa na ca none 0 0 wr) := hK
      clear hK hkn HK
      go_wp2_with fail
      go_loopw [38] (fun i wr => ∃ (k : Nat) (pb : Option Addr) (nb cb : Nat), k ≤ n2 ∧ i = .int .i64 k ∧ Hid (TwoR w ga gb (foldX 0 [] la) (foldX 1 [] (lb.take k)) pa na ca pb nb cb wr)) (fun i _ => n2 - (intOf i).toNat)
      case atStart => exact ⟨0, none, 0, 0, by omega, rfl, HREL2⟩
      case round =>
        obtain ⟨k, pb, nb, cb, hk, rfl, HK⟩ := hrel
        clear HREL2
        by_cases hlt : k < n2
        · have hkl : k < lb.length := by rw [HL2.out]; exact hlt
          have hltI : (k : Int) < (n2 : Int) := by omega
          have HFT := Lib.hid (foldX_take (me := 1) (X := []) hkl)
          obtain ⟨b, o, rfl, hbl, hcs⟩ := (HR2.out.kept HK.out.below).at_ k hkl
          generalize lb[k] = x at *
          have c0 : wr.cell? ⟨b, o + k * 8, none⟩ = some (.int .i64 x.s) := hcs 0 (by decide)
          have c1 : wr.cell? ⟨b, o + k * 8 + 1, none⟩ = some (.int .i64 x.n) := hcs 1 (by decide)
          have c2 : wr.cell? ⟨b, o + k * 8 + 2, none⟩ = some (.int .i64 x.b) := hcs 2 (by decide)
          have c3 : wr.cell? ⟨b, o + k * 8 + 3, none⟩ = some (.int .i64 x.c) := hcs 3 (by decide)
          have c4 : wr.cell? ⟨b, o + k * 8 + 4, none⟩ = some (.int .i64 x.a) := hcs 4 (by decide)
          have c5 : wr.cell? ⟨b, o + k * 8 + 5, none⟩ = some (.int .i64 x.r) := hcs 5 (by decide)
          have c6 : wr.cell? ⟨b, o + k * 8 + 6, none⟩ = some (.int .i64 x.t) := hcs 6 (by decide)
          have c7 : wr.cell? ⟨b, o + k * 8 + 7, none⟩ = some (.int .i64 x.y) := hcs 7 (by decide)
          have HGD := Lib.hid (foldX_good (l := lb.take k) (goodB_nil 1))
          have HLN : Hid ((foldX 1 [] (lb.take k)).length ≤ 30) := by
            show _ ≤ _
            have := foldX_len (l := lb.take k) (goodB_nil 1)
            rw [List.length_take, List.length_nil] at this
            omega
          have HK2 := Lib.hid (HK.out.kept (oneB wr (.cells #[.int .i64 x.s, .int .i64 x.n, .int .i64 x.b, .int .i64 x.c, .int .i64 x.a, .int .i64 x.r, .int .i64 x.t, .int .i64 x.y] 39)))
          have HX := Lib.hid (Blk.new wr #[.int .i64 x.s, .int .i64 x.n, .int .i64 x.b, .int .i64 x.c, .int .i64 x.a, .int .i64 x.r, .int .i64 x.t, .int .i64 x.y] 39)
          clear hcs HK
          go_upto_region 11 with fail
          generalize wr.alloc (.cells #[.int .i64 x.s, .int .i64 x.n, .int .i64 x.b, .int .i64 x.c, .int .i64 x.a, .int .i64 x.r, .int .i64 x.t, .int .i64 x.y] 39) = W2 at *
          generalize wr.heap.size = gx at *
          have x0 : W2.cell? ⟨gx, 0, none⟩ = some (.int .i64 x.s) := HX.out.cell 0
          have x1 : W2.cell? ⟨gx, 1, none⟩ = some (.int .i64 x.n) := HX.out.cell 1
          have x2 : W2.cell? ⟨gx, 2, none⟩ = some (.int .i64 x.b) := HX.out.cell 2
          have x3 : W2.cell? ⟨gx, 3, none⟩ = some (.int .i64 x.c) := HX.out.cell 3
          have x4 : W2.cell? ⟨gx, 4, none⟩ = some (.int .i64 x.a) := HX.out.cell 4
          have x5 : W2.cell? ⟨gx, 5, none⟩ = some (.int .i64 x.r) := HX.out.cell 5
          have x6 : W2.cell? ⟨gx, 6, none⟩ = some (.int .i64 x.t) := HX.out.cell 6
          have x7 : W2.cell? ⟨gx, 7, none⟩ = some (.int .i64 x.y) := HX.out.cell 7
          have b0 : W2.cell? ⟨gb, 0, none⟩ = some (.int .i64 1) := HK2.out.bb.cell 0
          have b1 : W2.cell? ⟨gb, 1, none⟩ = some (.slice pb nb cb) := HK2.out.bb.cell 1
          have b2 : W2.cell? ⟨gb, 2, none⟩ = some (.slice none 0 0) := HK2.out.bb.cell 2
          clear c0 c1 c2 c3 c4 c5 c6 c7
          have HPUT := Lib.hid (put_any W2 1 pb none nb cb 0 0 x _ HK2.out.rb HK2.out.lb HGD.out.1 (by have := HK2.out.lb; have := HLN.out; omega))
          rw [← HFT.out] at HPUT
          unfold bookV Itm.v at HPUT
          generalize putE 1 x = ee at *
          go_wp2_with fail
          refine HPUT.out.mono ?_
          rintro y w3 ⟨p3, n3, c3, rfl, hr3, hn3, hb3, ho3⟩
          have HK3 := Lib.hid (HK2.out.kept hb3)
          have HNX : Hid (TwoR w ga gb (foldX 0 [] la) (foldX 1 [] (lb.take (k + 1))) pa na ca p3 n3 c3 (st3 w3 gb (.int .i64 1) (.slice p3 n3 c3) (.slice none 0 0))) := HK3.out.setB hr3 hn3.symm (fun q hq => (ho3 q hq).elim (HK2.out.ob q) (fun h => by have := HK2.out.bb.lt; omega))
          have b0 : w3.cell? ⟨gb, 0, none⟩ = some (.int .i64 1) := HK3.out.bb.cell 0
          have b1 : w3.cell? ⟨gb, 1, none⟩ = some (.slice pb nb cb) := HK3.out.bb.cell 1
          have b2 : w3.cell? ⟨gb, 2, none⟩ = some (.slice none 0 0) := HK3.out.bb.cell 2
          have f0 := HK3.out.bb.free 0
          have f1 := HK3.out.bb.free 1
          have f2 := HK3.out.bb.free 2
          unfold st3 at HNX
          clear HPUT hr3 hn3 hb3 ho3 HK2 HK3 HX x0 x1 x2 x3 x4 x5 x6 x7
          go_wp2_with fail
          go_roundw
          case rel => exact ⟨k + 1, p3, n3, c3, by omega, by go_num, HNX⟩
          case measure => simp [intOf]; omega
        · have hle2 : (n2 : Int) ≤ (k : Int) := by omega
          have hkn : k = lb.length := by rw [HL2.out]; omega
          have hK := HK.out
          rw [hkn, List.take_length] at hK
          have HF := Lib.hid hK
          clear hK hkn HK
          have hS1 : wr.drew.cell? ⟨ga, 0, none⟩ = some (.int .i64 0) ∧ wr.drew.cell? ⟨ga, 1, none⟩ = some (.slice pa na ca) ∧ wr.drew.cell? ⟨ga, 2, none⟩ = some (.slice none 0 0) ∧ wr.drew.cell? ⟨gb, 0, none⟩ = some (.int .i64 1) ∧ wr.drew.cell? ⟨gb, 1, none⟩ = some (.slice pb nb cb) ∧ wr.drew.cell? ⟨gb, 2, none⟩ = some (.slice none 0 0) := ⟨HF.out.ba.cell 0, HF.out.ba.cell 1, HF.out.ba.cell 2, HF.out.bb.cell 0, HF.out.bb.cell 1, HF.out.bb.cell 2⟩
          go_wp2_with fail
          refine wp_region_held_drew (S := fun w' => w'.cell? ⟨ga, 0, none⟩ = some (.int .i64 0) ∧ w'.cell? ⟨ga, 1, none⟩ = some (.slice pa na ca) ∧ w'.cell? ⟨ga, 2, none⟩ = some (.slice none 0 0) ∧ w'.cell? ⟨gb, 0, none⟩ = some (.int .i64 1) ∧ w'.cell? ⟨gb, 1, none⟩ = some (.slice pb nb cb) ∧ w'.cell? ⟨gb, 2, none⟩ = some (.slice none 0 0)) (by kernel_rfl) hS1 (fun hS0 => ?_)
          refine wpAnyH_take (i := 0) (v := ?_) rfl (by kernel_rfl) (by kernel_rfl) (by kernel_rfl) (fun _ _ _ h => h) (Or.inl ⟨by kernel_rfl, ?_⟩) (by first | assumption | trivial) ?_
          rotate_left
          · intro w hSw
            try dsimp only at hSw
            first | (go_simp; done) | (go_simp; with_reducible rfl)
          try simp only [Act.put, List.getElem_toArray, List.getElem_cons_succ, List.getElem_cons_zero, List.setIfInBounds_toArray, List.set_cons_zero, List.set_cons_succ]
          refine wpAnyH_take (i := 1) (v := ?_) rfl (by kernel_rfl) (by kernel_rfl) (by kernel_rfl) (fun _ _ _ h => h) (Or.inl ⟨by kernel_rfl, ?_⟩) (by first | assumption | trivial) ?_
          rotate_left
          · intro w hSw
            try dsimp only at hSw
            first | (go_simp; done) | (go_simp; with_reducible rfl)
          try simp only [Act.put, List.getElem_toArray, List.getElem_cons_succ, List.getElem_cons_zero, List.setIfInBounds_toArray, List.set_cons_zero, List.set_cons_succ]
          refine wpAnyH_take (i := 2) (v := ?_) rfl (by kernel_rfl) (by kernel_rfl) (by kernel_rfl) (fun _ _ _ h => h) (Or.inl ⟨by kernel_rfl, ?_⟩) (by first | assumption | trivial) ?_
          rotate_left
          · intro w hSw
            try dsimp only at hSw
            first | (go_simp; done) | (go_simp; with_reducible rfl)
          try simp only [Act.put, List.getElem_toArray, List.getElem_cons_succ, List.getElem_cons_zero, List.setIfInBounds_toArray, List.set_cons_zero, List.set_cons_succ]
          refine wpAnyH_take (i := 3) (v := ?_) rfl (by kernel_rfl) (by kernel_rfl) (by kernel_rfl) (fun _ _ _ h => h) (Or.inl ⟨by kernel_rfl, ?_⟩) (by first | assumption | trivial) ?_
          rotate_left
          · intro w hSw
            try dsimp only at hSw
            first | (go_simp; done) | (go_simp; with_reducible rfl)
          try simp only [Act.put, List.getElem_toArray, List.getElem_cons_succ, List.getElem_cons_zero, List.setIfInBounds_toArray, List.set_cons_zero, List.set_cons_succ]
          refine wpAnyH_take (i := 4) (v := ?_) rfl (by kernel_rfl) (by kernel_rfl) (by kernel_rfl) (fun _ _ _ h => h) (Or.inl ⟨by kernel_rfl, ?_⟩) (by first | assumption | trivial) ?_
          rotate_left
          · intro w hSw
            try dsimp only at hSw
            first | (go_simp; done) | (go_simp; with_reducible rfl)
          try simp only [Act.put, List.getElem_toArray, List.getElem_cons_succ, List.getElem_cons_zero, List.setIfInBounds_toArray, List.set_cons_zero, List.set_cons_succ]
          refine wpAnyH_take (i := 5) (v := ?_) rfl (by kernel_rfl) (by kernel_rfl) (by kernel_rfl) (fun _ _ _ h => h) (Or.inl ⟨by kernel_rfl, ?_⟩) (by first | assumption | trivial) ?_
          rotate_left
          · intro w hSw
            try dsimp only at hSw
            first | (go_simp; done) | (go_simp; with_reducible rfl)
          try simp only [Act.put, List.getElem_toArray, List.getElem_cons_succ, List.getElem_cons_zero, List.setIfInBounds_toArray, List.set_cons_zero, List.set_cons_succ]
          have HFD := Lib.hid (HF.out.kept (Below.refl wr.heap.size wr).drew)
          clear HF hS1 hS0
          generalize wr.drew = WD at *
          have HF := HFD
          clear HFD
          have z0 : WD.cell? ⟨w.heap.size, 0, none⟩ = some (.int .i64 0) := HF.out.z0.cell 0
          have z1 : WD.cell? ⟨w.heap.size, 1, none⟩ = some (.slice none 0 0) := HF.out.z0.cell 1
          have z2 : WD.cell? ⟨w.heap.size, 2, none⟩ = some (.slice none 0 0) := HF.out.z0.cell 2
          have f0 : WD.frozen? ⟨w.heap.size, 0, none⟩ = false := HF.out.z0.free 0
          have f1 : WD.frozen? ⟨w.heap.size, 1, none⟩ = false := HF.out.z0.free 1
          have f2 : WD.frozen? ⟨w.heap.size, 2, none⟩ = false := HF.out.z0.free 2
          have HLO : Hid (w.heap.size + 1 < ga ∧ ga < gb) := ⟨HF.out.lo, HF.out.ab⟩
          have HQ0 := Lib.hid (st3_blk (w := WD) HF.out.z0 rfl (.int .i64 0) (.slice pa na ca) (.slice none 0 0))
          have HQ1 := Lib.hid (blk_st3 (w := WD) (g := w.heap.size) HF.out.z1 (by omega) (.int .i64 0) (.slice pa na ca) (.slice none 0 0))
          have HQA := Lib.hid (blk_st3 (w := WD) (g := w.heap.size) HF.out.ba (by have := HLO.out; omega) (.int .i64 0) (.slice pa na ca) (.slice none 0 0))
          have HQB := Lib.hid (blk_st3 (w := WD) (g := w.heap.size) HF.out.bb (by have := HLO.out; omega) (.int .i64 0) (.slice pa na ca) (.slice none 0 0))
          have HRA := Lib.hid (TRow.st3 (w := WD) (g := w.heap.size) HF.out.ra (fun k hk => by have := HF.out.oa k hk; have := HLO.out; omega) (.int .i64 0) (.slice pa na ca) (.slice none 0 0))
          have HRB := Lib.hid (TRow.st3 (w := WD) (g := w.heap.size) HF.out.rb (fun k hk => by have := HF.out.ob k hk; have := HLO.out; omega) (.int .i64 0) (.slice pa na ca) (.slice none 0 0))
          have HBQ := Lib.hid (st3_below (g := w.heap.size) HF.out.below (Nat.le_refl _) (.int .i64 0) (.slice pa na ca) (.slice none 0 0))
          unfold st3 at HQ0 HQ1 HQA HQB HRA HRB HBQ
          refine wpAnyH_ready (rs := [6]) (by kernel_rfl) (by simp) ?_
          refine AllReadyH.cons rfl (fun K hK => ?_) AllReadyH.nil
          go_simp
          generalize ((WD.setCell ⟨w.heap.size, 0, none⟩ (.int .i64 0)).setCell ⟨w.heap.size, 1, none⟩ (.slice pa na ca)).setCell ⟨w.heap.size, 2, none⟩ (.slice none 0 0) = W6 at *
          refine hK.out _ _ ⟨HQA.out.cell 0, HQA.out.cell 1, HQA.out.cell 2, HQB.out.cell 0, HQB.out.cell 1, HQB.out.cell 2⟩ (fun hS => ?_)
          clear hK K z0 z1 z2 f0 f1 f2
          try simp only [Act.put, List.getElem_toArray, List.getElem_cons_succ, List.getElem_cons_zero, List.setIfInBounds_toArray, List.set_cons_zero, List.set_cons_succ]
          have z0 : W6.cell? ⟨w.heap.size + 1, 0, none⟩ = some (.int .i64 0) := HQ1.out.cell 0
          have z1 : W6.cell? ⟨w.heap.size + 1, 1, none⟩ = some (.slice none 0 0) := HQ1.out.cell 1
          have z2 : W6.cell? ⟨w.heap.size + 1, 2, none⟩ = some (.slice none 0 0) := HQ1.out.cell 2
          have f0 := HQ1.out.free 0
          have f1 := HQ1.out.free 1
          have f2 := HQ1.out.free 2
          have HT1 := Lib.hid (st3_blk HQ1.out rfl (.int .i64 1) (.slice pb nb cb) (.slice none 0 0))
          have HT0 := Lib.hid (blk_st3 (g := w.heap.size + 1) HQ0.out (by omega) (.int .i64 1) (.slice pb nb cb) (.slice none 0 0))
          have HTA := Lib.hid (blk_st3 (g := w.heap.size + 1) HQA.out (by have := HLO.out; omega) (.int .i64 1) (.slice pb nb cb) (.slice none 0 0))
          have HTB := Lib.hid (blk_st3 (g := w.heap.size + 1) HQB.out (by have := HLO.out; omega) (.int .i64 1) (.slice pb nb cb) (.slice none 0 0))
          have HRA2 := Lib.hid (TRow.st3 (g := w.heap.size + 1) HRA.out (fun k hk => by have := HF.out.oa k hk; have := HLO.out; omega) (.int .i64 1) (.slice pb nb cb) (.slice none 0 0))
          have HRB2 := Lib.hid (TRow.st3 (g := w.heap.size + 1) HRB.out (fun k hk => by have := HF.out.ob k hk; have := HLO.out; omega) (.int .i64 1) (.slice pb nb cb) (.slice none 0 0))
          have HBT := Lib.hid (st3_below (g := w.heap.size + 1) HBQ.out (by omega) (.int .i64 1) (.slice pb nb cb) (.slice none 0 0))
          have HLA : Hid ((foldX 0 [] la).length = na) := HF.out.la
          have HOA9 : Hid (∀ k, (Value.slice pa na ca).ownBlock = some k → w.heap.size ≤ k) := fun k hk => by have := HF.out.oa k hk; have := HLO.out; omega
          have HOB9 : Hid (∀ k, (Value.slice pb nb cb).ownBlock = some k → w.heap.size ≤ k) := fun k hk => by have := HF.out.ob k hk; have := HLO.out; omega
          have HLB : Hid ((foldX 1 [] lb).length = nb) := HF.out.lb
          unfold st3 at HT0 HT1 HTA HTB HRA2 HRB2 HBT
          clear HF HQ0 HQ1 HQA HQB HRA HRB HBQ
          refine wpAnyH_ready (rs := [7]) (by kernel_rfl) (by simp) ?_
          refine AllReadyH.cons rfl (fun K hK => ?_) AllReadyH.nil
          go_simp
          generalize ((W6.setCell ⟨w.heap.size + 1, 0, none⟩ (.int .i64 1)).setCell ⟨w.heap.size + 1, 1, none⟩ (.slice pb nb cb)).setCell ⟨w.heap.size + 1, 2, none⟩ (.slice none 0 0) = W7 at *
          refine hK.out _ _ ⟨HTA.out.cell 0, HTA.out.cell 1, HTA.out.cell 2, HTB.out.cell 0, HTB.out.cell 1, HTB.out.cell 2⟩ (fun hS => ?_)
          clear hK K z0 z1 z2 f0 f1 f2
          try simp only [Act.put, List.getElem_toArray, List.getElem_cons_succ, List.getElem_cons_zero, List.setIfInBounds_toArray, List.set_cons_zero, List.set_cons_succ]
          refine wpAnyH_take (i := 8) (v := ?_) rfl (by kernel_rfl) (by kernel_rfl) (by kernel_rfl) (fun _ _ _ h => h) (Or.inl ⟨by kernel_rfl, ?_⟩) (by first | assumption | trivial) ?_
          rotate_left
          · intro w hSw
            try dsimp only at hSw
            first | (go_simp; done) | (go_simp; with_reducible rfl)
          try simp only [Act.put, List.getElem_toArray, List.getElem_cons_succ, List.getElem_cons_zero, List.setIfInBounds_toArray, List.set_cons_zero, List.set_cons_succ]
          refine wpAnyH_done (by kernel_rfl) ?_ _
          have r0 : W7.cell? ⟨w.heap.size, 0, none⟩ = some (.int .i64 0) := HT0.out.cell 0
          have r1 : W7.cell? ⟨w.heap.size, 1, none⟩ = some (.slice pa na ca) := HT0.out.cell 1
          have r2 : W7.cell? ⟨w.heap.size, 2, none⟩ = some (.slice none 0 0) := HT0.out.cell 2
          have r3 : W7.cell? ⟨w.heap.size + 1, 0, none⟩ = some (.int .i64 1) := HT1.out.cell 0
          have r4 : W7.cell? ⟨w.heap.size + 1, 1, none⟩ = some (.slice pb nb cb) := HT1.out.cell 1
          have r5 : W7.cell? ⟨w.heap.size + 1, 2, none⟩ = some (.slice none 0 0) := HT1.out.cell 2
          go_wp2_with fail
          refine bodyPost_ret (v := .tuple #[.agg #[.int .i64 0, .slice pa na ca, .slice none 0 0], .agg #[.int .i64 1, .slice pb nb cb, .slice none 0 0], .bool true]) (by simp [results, Try.results6, go_sem, r0, r1, r2, r3, r4, r5, show IntKind.i64.wrap 0 = 0 from by decide]) rfl ⟨pa, na, ca, pb, nb, cb, rfl, HRA2.out, HLA.out, HRB2.out, HLB.out, HBT.out, HOA9.out, HOB9.out⟩
end Go.Proofs.Ytillckkohdjkbaa
namespace Go.Proofs.Ytillckkohdjkbaa
open Go.RowKit
def h1 : List Itm := [⟨0, 1, 1, 0, 70, 0, 3, 0⟩]
def h2 : List Itm := [⟨0, 1, 1, 0, 70, 0, 3, 5⟩]
/-- Two books in a row. -/
def bkA (pa : Option Addr) (na ca : Nat) (xs : List Itm) : Bk := ⟨0, pa, na, ca, none, 0, 0, xs⟩
def bkB (pb : Option Addr) (nb cb : Nat) (ys : List Itm) : Bk := ⟨1, pb, nb, cb, none, 0, 0, ys⟩
theorem two_row {w : World} {g : Nat} {pa pb : Option Addr} {na ca nb cb : Nat} (xs ys : List Itm) (h : Blk w g #[.int .i64 0, .slice pa na ca, .slice none 0 0, .int .i64 1, .slice pb nb cb, .slice none 0 0] 26) : TRow encB w (.slice (some ⟨g, 0, none⟩) 2 2) [bkA pa na ca xs, bkB pb nb cb ys] := TRow.lit encB _ 2 2 h rfl rfl (Nat.le_refl _)
theorem two_in {w : World} {pa pb : Option Addr} {na ca nb cb : Nat} {xs ys : List Itm} (ha : TRow encI w (.slice pa na ca) xs) (hb : TRow encI w (.slice pb nb cb) ys) (la : xs.length = na) (lb : ys.length = nb) (ga : GoodB 0 xs) (gb : GoodB 1 ys) (na2 : xs.length ≤ 2000) (nb2 : ys.length ≤ 2000) : ∀ b ∈ [bkA pa na ca xs, bkB pb nb cb ys], b.In w := by
  intro b hb'
  simp only [List.mem_cons, List.not_mem_nil, or_false] at hb'
  rcases hb' with rfl | rfl
  · exact ⟨ha, la, na2, goodB_ok ga⟩
  · exact ⟨hb, lb, nb2, goodB_ok gb⟩
set_option linter.unusedSimpArgs false in
set_option maxHeartbeats 4000000 in
set_option maxRecDepth 100000 in
theorem holds15_any (w : World) : Calls Try.prog 5 #[] w fun e w' => e = .returned (.bool true) ∧ Below w.heap.size w w' := by
  go_enter Try.func5, Try.ntmps5
  go_wp2_with fail
  have HR1 : Hid (TRow encI ((w.alloc (.cells #[.int .i64 0, .int .i64 1, .int .i64 1, .int .i64 0, .int .i64 70, .int .i64 0, .int .i64 3, .int .i64 0] 39)).alloc (.cells #[.int .i64 0, .int .i64 1, .int .i64 1, .int .i64 0, .int .i64 70, .int .i64 0, .int .i64 3, .int .i64 5] 39)) (.slice (some ⟨w.heap.size, 0, none⟩) 1 1) h1) := TRow.lit encI h1 1 1 ((Blk.new w #[.int .i64 0, .int .i64 1, .int .i64 1, .int .i64 0, .int .i64 70, .int .i64 0, .int .i64 3, .int .i64 0] 39).alloc _) rfl rfl (Nat.le_refl _)
  have HR2 : Hid (TRow encI ((w.alloc (.cells #[.int .i64 0, .int .i64 1, .int .i64 1, .int .i64 0, .int .i64 70, .int .i64 0, .int .i64 3, .int .i64 0] 39)).alloc (.cells #[.int .i64 0, .int .i64 1, .int .i64 1, .int .i64 0, .int .i64 70, .int .i64 0, .int .i64 3, .int .i64 5] 39)) (.slice (some ⟨w.heap.size + 1, 0, none⟩) 1 1) h2) := TRow.lit encI h2 1 1 (Blk.new' (w.alloc (.cells #[.int .i64 0, .int .i64 1, .int .i64 1, .int .i64 0, .int .i64 70, .int .i64 0, .int .i64 3, .int .i64 0] 39)) #[.int .i64 0, .int .i64 1, .int .i64 1, .int .i64 0, .int .i64 70, .int .i64 0, .int .i64 3, .int .i64 5] 39 (b := w.heap.size + 1) (by simp)) rfl rfl (Nat.le_refl _)
  have HB1 : Hid (Below w.heap.size w ((w.alloc (.cells #[.int .i64 0, .int .i64 1, .int .i64 1, .int .i64 0, .int .i64 70, .int .i64 0, .int .i64 3, .int .i64 0] 39)).alloc (.cells #[.int .i64 0, .int .i64 1, .int .i64 1, .int .i64 0, .int .i64 70, .int .i64 0, .int .i64 3, .int .i64 5] 39))) := (oneB w _).alloc (by simp) _
  have HTW := Lib.hid (two_any _ _ _ h1 h2 HR1.out HR2.out (by decide) (by decide))
  generalize (w.alloc (.cells #[.int .i64 0, .int .i64 1, .int .i64 1, .int .i64 0, .int .i64 70, .int .i64 0, .int .i64 3, .int .i64 0] 39)).alloc (.cells #[.int .i64 0, .int .i64 1, .int .i64 1, .int .i64 0, .int .i64 70, .int .i64 0, .int .i64 3, .int .i64 5] 39) = W1 at *
  refine HTW.out.mono ?_
  rintro y w2 ⟨pa, na, ca, pb, nb, cb, rfl, hra, hla, hrb, hlb, hb2, _, _⟩
  rw [show foldX 0 [] h1 = h1 by decide +kernel] at hra hla
  rw [show foldX 1 [] h2 = h2 by decide +kernel] at hrb hlb
  have HB2 := Lib.hid (HB1.out.trans (hb2.mono HB1.out.size))
  have HRA := Lib.hid hra
  have HRB := Lib.hid hrb
  have HLA := Lib.hid hla
  have HLB := Lib.hid hlb
  clear hra hla hrb hlb hb2 HTW HR1 HR2 HB1
  unfold bookV
  go_upto_region 2 with fail
  generalize hW3 : (w2.alloc (.cells #[.int .i64 0, .slice pa na ca, .slice none 0 0] 26)).alloc (.cells #[.int .i64 1, .slice pb nb cb, .slice none 0 0] 26) = W3
  have HB3 : Hid (Below w2.heap.size w2 W3) := by show Below _ _ _; rw [← hW3]; exact (oneB w2 _).alloc (by simp) _
  have HKA : Hid (Blk W3 w2.heap.size #[.int .i64 0, .slice pa na ca, .slice none 0 0] 26) := by show Blk _ _ _ _; rw [← hW3]; exact (Blk.new w2 _ _).alloc _
  have HKB : Hid (Blk W3 (w2.heap.size + 1) #[.int .i64 1, .slice pb nb cb, .slice none 0 0] 26) := by show Blk _ _ _ _; rw [← hW3]; exact Blk.new' _ _ _ (by simp)
  clear hW3
  have HBW := Lib.hid (HB2.out.trans (HB3.out.mono HB2.out.size))
  have HIN : Hid (∀ b ∈ [bkA pa na ca h1, bkB pb nb cb h2], b.In w2) := two_in HRA.out HRB.out HLA.out HLB.out (by unfold GoodB SortedP h1; refine ⟨by decide, ?_⟩; intro x hx; rw [List.mem_singleton.1 hx]; decide) (by unfold GoodB SortedP h2; refine ⟨by decide, ?_⟩; intro x hx; rw [List.mem_singleton.1 hx]; decide) (by decide) (by decide)
  have HIN3 : Hid (∀ b ∈ [bkA pa na ca h1, bkB pb nb cb h2], b.In W3) := fun b hb => (HIN.out b hb).kept HB3.out
  have HLK := Lib.hid (fun W (h : Below W3.heap.size W3 W) => look_any W 0 1 0 pa none pb none na ca 0 0 nb cb 0 0 h1 h2 ((HRA.out.kept HB3.out).kept h) ((HRB.out.kept HB3.out).kept h) HLA.out HLB.out (by decide) (by decide) (fun x hx => by rw [List.mem_singleton.1 hx]; decide) (fun x hx => by rw [List.mem_singleton.1 hx]; decide))
  rw [show lookV 0 1 0 h1 h2 = pairV 0 1 70 70 true from by unfold lookV; rw [show amtS (soldL 0 1 0 h1) = 70 by decide +kernel, show amtS (soldL 0 1 0 h2) = 70 by decide +kernel, show alikeB 0 1 0 h1 h2 = true by decide +kernel]] at HLK
  unfold bookV pairV at HLK
  clear HRA HRB HLA HLB HB2 HB3 HIN
  generalize w2.heap.size = ga at *
  have a0 : W3.cell? ⟨ga, 0, none⟩ = some (.int .i64 0) := HKA.out.cell 0
  have a1 : W3.cell? ⟨ga, 1, none⟩ = some (.slice pa na ca) := HKA.out.cell 1
  have a2 : W3.cell? ⟨ga, 2, none⟩ = some (.slice none 0 0) := HKA.out.cell 2
  have b0 : W3.cell? ⟨(ga + 1), 0, none⟩ = some (.int .i64 1) := HKB.out.cell 0
  have b1 : W3.cell? ⟨(ga + 1), 1, none⟩ = some (.slice pb nb cb) := HKB.out.cell 1
  have b2 : W3.cell? ⟨(ga + 1), 2, none⟩ = some (.slice none 0 0) := HKB.out.cell 2
  go_wp2_with fail
  refine (HLK.out W3 (Below.refl _ _)).mono ?_
  rintro y w4 ⟨rfl, hb4⟩
  have HB4 := Lib.hid hb4
  clear hb4 HLK a0 a1 a2 b0 b1 b2
  go_upto_region 3 with fail
  have HP5 := Lib.hid (Blk.new w4 #[.int .i64 0, .int .i64 1, .int .i64 70, .int .i64 70, .bool true] 30)
  have HB5 := Lib.hid (HB4.out.trans ((oneB w4 (.cells #[.int .i64 0, .int .i64 1, .int .i64 70, .int .i64 70, .bool true] 30)).mono HB4.out.size))
  generalize w4.alloc (.cells #[.int .i64 0, .int .i64 1, .int .i64 70, .int .i64 70, .bool true] 30) = W5 at *
  generalize w4.heap.size = gp at *
  have HKA5 := Lib.hid (HKA.out.below HB5.out HKA.out.lt)
  have HKB5 := Lib.hid (HKB.out.below HB5.out HKB.out.lt)
  have HIN5 : Hid (∀ b ∈ [bkA pa na ca h1, bkB pb nb cb h2], b.In W5) := fun b hb => (HIN3.out b hb).kept HB5.out
  clear HB4
  have a0 : W5.cell? ⟨ga, 0, none⟩ = some (.int .i64 0) := HKA5.out.cell 0
  have a1 : W5.cell? ⟨ga, 1, none⟩ = some (.slice pa na ca) := HKA5.out.cell 1
  have a2 : W5.cell? ⟨ga, 2, none⟩ = some (.slice none 0 0) := HKA5.out.cell 2
  have b0 : W5.cell? ⟨(ga + 1), 0, none⟩ = some (.int .i64 1) := HKB5.out.cell 0
  have b1 : W5.cell? ⟨(ga + 1), 1, none⟩ = some (.slice pb nb cb) := HKB5.out.cell 1
  have b2 : W5.cell? ⟨(ga + 1), 2, none⟩ = some (.slice none 0 0) := HKB5.out.cell 2
  have HTR := Lib.hid (two_row (w := W5.alloc (.cells #[.int .i64 0, .slice pa na ca, .slice none 0 0, .int .i64 1, .slice pb nb cb, .slice none 0 0] 26)) h1 h2 (Blk.new W5 #[.int .i64 0, .slice pa na ca, .slice none 0 0, .int .i64 1, .slice pb nb cb, .slice none 0 0] 26))
  have HB6 := Lib.hid (oneB W5 (.cells #[.int .i64 0, .slice pa na ca, .slice none 0 0, .int .i64 1, .slice pb nb cb, .slice none 0 0] 26))
  have HGR := Lib.hid (group_in _ 0 _ _ HTR.out (fun b hb => (HIN5.out b hb).kept HB6.out) (by simp) (by decide) (fun b hb => by simp only [List.mem_cons, List.not_mem_nil, or_false] at hb; rcases hb with rfl | rfl <;> simp [bkA, bkB]) (by simp [bkA, bkB]))
  rw [show grpL 0 [bkA pa na ca h1, bkB pb nb cb h2] = [⟨0, 0, 70⟩, ⟨1, 0, -70⟩] from by rfl] at HGR
  unfold vecV at HGR
  go_wp2_with fail
  generalize W5.alloc (.cells #[.int .i64 0, .slice pa na ca, .slice none 0 0, .int .i64 1, .slice pb nb cb, .slice none 0 0] 26) = W6 at *
  refine HGR.out.mono ?_
  rintro y w7 ⟨v7, rfl, hr7, hb7⟩
  obtain ⟨p7, c7, hv7⟩ := hr7.shape
  have hv7 : v7 = .slice p7 2 c7 := hv7
  subst hv7
  have HB7 := Lib.hid (HB6.out.trans (hb7.mono HB6.out.size))
  have HR7 := Lib.hid hr7
  clear hr7 hb7 HGR HTR HB6 a0 a1 a2 b0 b1 b2
  go_upto_region 4 with fail
  have HV8 := Lib.hid (Blk.new w7 #[.slice p7 2 c7] 50)
  have HB8 := Lib.hid (HB7.out.trans ((oneB w7 (.cells #[.slice p7 2 c7] 50)).mono HB7.out.size))
  have HR8 := Lib.hid (HR7.out.kept (oneB w7 (.cells #[.slice p7 2 c7] 50)))
  generalize w7.alloc (.cells #[.slice p7 2 c7] 50) = W8 at *
  generalize w7.heap.size = gv at *
  have HTO := Lib.hid (totalL_any W8 _ _ 0 (by decide) (fun q hq => by simp only [List.mem_cons, List.not_mem_nil, or_false] at hq; rcases hq with rfl | rfl <;> (unfold Fits; decide)) HR8.out)
  rw [show sumN (amtsC 0 [(⟨0, 0, 70⟩ : Pos), ⟨1, 0, -70⟩]).sum = 0 by decide +kernel, show sumE (amtsC 0 [(⟨0, 0, 70⟩ : Pos), ⟨1, 0, -70⟩]).sum = 0 by decide +kernel] at HTO
  unfold vecV at HTO
  have v0 : W8.cell? ⟨gv, 0, none⟩ = some (.slice p7 2 c7) := HV8.out.cell 0
  clear HB7 HR7
  go_wp2_with fail
  refine HTO.out.mono ?_
  rintro y w9 ⟨rfl, hb9⟩
  have HB9 := Lib.hid (HB8.out.trans (hb9.mono HB8.out.size))
  have HV9 := Lib.hid (HV8.out.below hb9 HV8.out.lt)
  have HR9 := Lib.hid (HR8.out.kept hb9)
  have HP9 := Lib.hid (HP5.out.below HB9.out HP5.out.lt)
  clear hb9 HTO v0 HB8 HV8 HR8
  have v0 : w9.cell? ⟨gv, 0, none⟩ = some (.slice p7 2 c7) := HV9.out.cell 0
  have q2 : w9.cell? ⟨gp, 2, none⟩ = some (.int .i64 70) := HP9.out.cell 2
  have q3 : w9.cell? ⟨gp, 3, none⟩ = some (.int .i64 70) := HP9.out.cell 3
  have q4 : w9.cell? ⟨gp, 4, none⟩ = some (.bool true) := HP9.out.cell 4
  have hw0 : IntKind.i64.wrap 0 = 0 := by decide
  have HOF := Lib.hid (of_any w9 _ _ [] [⟨0, 0, 70⟩] [⟨1, 0, -70⟩] 0 0 HR9.out ⟨rfl, (fun _ h => by cases h), (fun q hq => by rw [List.mem_singleton.1 hq]; decide), .inr ⟨_, rfl, by decide⟩⟩ (by decide))
  unfold vecV at HOF
  go_wp2_with fail
  refine HOF.out.mono ?_
  rintro y w10 ⟨rfl, hb10⟩
  have HB10 := Lib.hid (HB9.out.trans (hb10.mono HB9.out.size))
  have HKA10 := Lib.hid (HKA5.out.below HB10.out HKA5.out.lt)
  have HKB10 := Lib.hid (HKB5.out.below HB10.out HKB5.out.lt)
  clear hb10 HOF v0 q2 q3 q4
  have a0 : w10.cell? ⟨ga, 0, none⟩ = some (.int .i64 0) := HKA10.out.cell 0
  have a1 : w10.cell? ⟨ga, 1, none⟩ = some (.slice pa na ca) := HKA10.out.cell 1
  have a2 : w10.cell? ⟨ga, 2, none⟩ = some (.slice none 0 0) := HKA10.out.cell 2
  have b0 : w10.cell? ⟨(ga + 1), 0, none⟩ = some (.int .i64 1) := HKB10.out.cell 0
  have b1 : w10.cell? ⟨(ga + 1), 1, none⟩ = some (.slice pb nb cb) := HKB10.out.cell 1
  have b2 : w10.cell? ⟨(ga + 1), 2, none⟩ = some (.slice none 0 0) := HKB10.out.cell 2
  have HTR2 := Lib.hid (two_row (w := w10.alloc (.cells #[.int .i64 0, .slice pa na ca, .slice none 0 0, .int .i64 1, .slice pb nb cb, .slice none 0 0] 26)) h1 h2 (Blk.new w10 #[.int .i64 0, .slice pa na ca, .slice none 0 0, .int .i64 1, .slice pb nb cb, .slice none 0 0] 26))
  have HB11 := Lib.hid (oneB w10 (.cells #[.int .i64 0, .slice pa na ca, .slice none 0 0, .int .i64 1, .slice pb nb cb, .slice none 0 0] 26))
  have HEV := Lib.hid (even_any _ 0 _ _ HTR2.out (fun b hb => ((HIN5.out b hb).kept HB10.out).kept HB11.out) (by simp))
  rw [show evenB 0 [bkA pa na ca h1, bkB pb nb cb h2] = true from by rfl] at HEV
  have HB12 := Lib.hid (HB10.out.trans (HB11.out.mono HB10.out.size))
  rw [show midA [(⟨0, 0, 70⟩ : Pos)] = 70 from rfl]
  go_wp2_with fail
  generalize w10.alloc (.cells #[.int .i64 0, .slice pa na ca, .slice none 0 0, .int .i64 1, .slice pb nb cb, .slice none 0 0] 26) = W12 at *
  refine HEV.out.mono ?_
  rintro y w13 ⟨rfl, hb13⟩
  have HB13 := Lib.hid (HBW.out.trans ((HB5.out.trans ((HB12.out.trans (hb13.mono HB12.out.size)).mono HB5.out.size)).mono HBW.out.size))
  clear hb13 HEV
  go_wp2_with fail
  go_ret
  exact ⟨rfl, HB13.out⟩
end Go.Proofs.Ytillckkohdjkbaa
