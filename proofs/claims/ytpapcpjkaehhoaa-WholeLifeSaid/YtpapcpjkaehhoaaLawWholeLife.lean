/- WholeLife: the walk. -/
import Derived.Test.YtpapcpjkaehhoaaLifePure
import Derived.Test.YtpapcpjkaehhoaaLifeVec
import Derived.Test.YtpapcpjkaehhoaaBookNew
import Derived.Test.YtpapcpjkaehhoaaNeg
import Derived.Deep.RegionHeld3
import Derived.Deep.CutRange
import Derived.Deep.CutBlock
namespace Go.Proofs.Ytpapcpjkaehhoaa
open Go.RowKit
def tri (x : Int × Int × Int) : List Value := [.int .i64 x.1, .int .i64 x.2.1, .int .i64 x.2.2]
@[reducible] def enc3 : Enc (Int × Int × Int) := ⟨3, tri, by decide, fun _ => rfl, fun x u hu => by simp only [tri, List.mem_cons, List.not_mem_nil, or_false] at hu; rcases hu with rfl | rfl | rfl <;> rfl⟩
theorem ins_len {X : List Itm} (h : GoodX X) (x : Itm) : (insX X x).length ≤ X.length + 1 := by
  obtain ⟨A, mid, B, hA⟩ := around_x X h.1 x
  exact (ins_around hA).2
/-- Both books have the same items. -/
def LRel (w : World) (ga gb m : Nat) (wr : World) : Prop := ∃ X va vb, X.length ≤ m ∧ GoodX X ∧ BS2 w ga gb X X va vb wr
set_option linter.unusedSimpArgs false in
set_option maxHeartbeats 32000000 in
set_option maxRecDepth 100000 in
theorem wlife_walk (v u : Value) (xs : List Itm) (acts : List (Int × Int × Int)) (w : World) (hr : TRow encI w v xs) (hu : TRow enc3 w u acts) (hf : ∀ t ∈ acts, -9223372036854775808 ≤ t.1 ∧ t.1 ≤ 9223372036854775807) : Calls Try.prog 3 #[v, u] w fun e w' => e = .returned (.bool true) ∧ Below w.heap.size w w' := by
  obtain ⟨pv, cv, rfl⟩ := hr.shape
  obtain ⟨pu, cu, rfl⟩ := hu.shape
  have HR := Lib.hid hr
  have HU := Lib.hid hu
  have HF := Lib.hid hf
  clear hr hu hf
  obtain ⟨n1, hn1⟩ : ∃ n1, xs.length = n1 := ⟨_, rfl⟩
  obtain ⟨n2, hn2⟩ : ∃ n2, acts.length = n2 := ⟨_, rfl⟩
  rw [hn1, hn2]
  rw [hn1] at HR
  rw [hn2] at HU
  have HL1 := Lib.hid hn1
  have HL2 := Lib.hid hn2
  clear hn1 hn2
  have HNW : Hid (∀ W, Calls Try.prog 5 #[.agg #[.int .i64 0, .int .i64 1], .int .i64 1, .int .i64 0, .int .i64 5] W fun e w' => e = .returned (.tuple #[.agg #[.int .i64 0, .int .i64 1, .int .i64 1, .int .i64 0, .int .i64 5, .int .i64 0, .int .i64 1, .int .i64 0], .int .i64 0]) ∧ Below W.heap.size W w') := fun W => new_any 0 1 1 0 5 W
  have HB0 := Lib.hid (fun W => newB_any W 0 (by decide))
  have HB1 := Lib.hid (fun W => newB_any W 1 (by decide))
  unfold bookV at HB0 HB1
  by_cases h1 : 20 < n1
  · have h1i : (20 : Int) < (n1 : Int) := by omega
    as_aux_lemma =>
      go_enter Try.func3, Try.ntmps3
      go_wp2_with fail
      refine (HB0.out _).mono ?_
      rintro y w1 ⟨rfl, hb1⟩
      have K1 := Lib.hid hb1
      clear hb1 HB0
      go_wp2_with fail
      generalize hW2 : w1.alloc (.cells #[.int .i64 0, .slice none 0 0, .slice none 0 0] 26) = W2
      have K2 : Hid (Below w.heap.size w W2) := by show Below _ _ _; rw [← hW2]; exact K1.out.trans ((oneB w1 _).mono K1.out.size)
      have A2 : Hid (Blk W2 w1.heap.size #[.int .i64 0, .slice none 0 0, .slice none 0 0] 26) := by show Blk _ _ _ _; rw [← hW2]; exact Blk.new w1 _ _
      have HGA : Hid (w.heap.size ≤ w1.heap.size) := K1.out.size
      clear hW2 K1
      generalize w1.heap.size = ga at *
      refine (HB1.out _).mono ?_
      rintro y w3 ⟨rfl, hb3⟩
      have K3 := Lib.hid (K2.out.trans (hb3.mono K2.out.size))
      have A3 := Lib.hid (A2.out.below hb3 A2.out.lt)
      clear hb3 HB1 K2 A2
      go_wp2_with fail
      generalize hW4 : w3.alloc (.cells #[.int .i64 1, .slice none 0 0, .slice none 0 0] 26) = W4
      have K4 : Hid (Below w.heap.size w W4) := by show Below _ _ _; rw [← hW4]; exact K3.out.trans ((oneB w3 _).mono K3.out.size)
      have A4 : Hid (Blk W4 ga #[.int .i64 0, .slice none 0 0, .slice none 0 0] 26) := by show Blk _ _ _ _; rw [← hW4]; exact A3.out.alloc _
      have B4 : Hid (Blk W4 w3.heap.size #[.int .i64 1, .slice none 0 0, .slice none 0 0] 26) := by show Blk _ _ _ _; rw [← hW4]; exact Blk.new w3 _ _
      have HGB : Hid (ga < w3.heap.size) := A3.out.lt
      clear hW4 K3 A3
      generalize w3.heap.size = gb at *
      refine (HNW.out _).mono ?_
      rintro y w5 ⟨rfl, hb5⟩
      have HS5 : Hid (BS2 w ga gb [] [] (.slice none 0 0) (.slice none 0 0) w5) := ⟨HGA.out, HGB.out, K4.out.trans (hb5.mono K4.out.size), A4.out.below hb5 A4.out.lt, B4.out.below hb5 B4.out.lt, TRow.nil_ _ _, TRow.nil_ _ _, (fun k hk => by cases hk), (fun k hk => by cases hk)⟩
      clear hb5 HNW K4 A4 B4
      have HFIN := Lib.hid (HS5.out.bel.trans ((oneB w5 (.cells #[.int .i64 0, .int .i64 1, .int .i64 1, .int .i64 0, .int .i64 5, .int .i64 0, .int .i64 1, .int .i64 0] 33)).mono HS5.out.bel.size))
      go_wp2_with fail
      go_ret
      exact ⟨rfl, HFIN.out⟩
  by_cases h2 : 60 < n2
  · have h1i : ¬ (20 : Int) < (n1 : Int) := by omega
    have h2i : (60 : Int) < (n2 : Int) := by omega
    as_aux_lemma =>
      go_enter Try.func3, Try.ntmps3
      go_wp2_with fail
      refine (HB0.out _).mono ?_
      rintro y w1 ⟨rfl, hb1⟩
      have K1 := Lib.hid hb1
      clear hb1 HB0
      go_wp2_with fail
      generalize hW2 : w1.alloc (.cells #[.int .i64 0, .slice none 0 0, .slice none 0 0] 26) = W2
      have K2 : Hid (Below w.heap.size w W2) := by show Below _ _ _; rw [← hW2]; exact K1.out.trans ((oneB w1 _).mono K1.out.size)
      have A2 : Hid (Blk W2 w1.heap.size #[.int .i64 0, .slice none 0 0, .slice none 0 0] 26) := by show Blk _ _ _ _; rw [← hW2]; exact Blk.new w1 _ _
      have HGA : Hid (w.heap.size ≤ w1.heap.size) := K1.out.size
      clear hW2 K1
      generalize w1.heap.size = ga at *
      refine (HB1.out _).mono ?_
      rintro y w3 ⟨rfl, hb3⟩
      have K3 := Lib.hid (K2.out.trans (hb3.mono K2.out.size))
      have A3 := Lib.hid (A2.out.below hb3 A2.out.lt)
      clear hb3 HB1 K2 A2
      go_wp2_with fail
      generalize hW4 : w3.alloc (.cells #[.int .i64 1, .slice none 0 0, .slice none 0 0] 26) = W4
      have K4 : Hid (Below w.heap.size w W4) := by show Below _ _ _; rw [← hW4]; exact K3.out.trans ((oneB w3 _).mono K3.out.size)
      have A4 : Hid (Blk W4 ga #[.int .i64 0, .slice none 0 0, .slice none 0 0] 26) := by show Blk _ _ _ _; rw [← hW4]; exact A3.out.alloc _
      have B4 : Hid (Blk W4 w3.heap.size #[.int .i64 1, .slice none 0 0, .slice none 0 0] 26) := by show Blk _ _ _ _; rw [← hW4]; exact Blk.new w3 _ _
      have HGB : Hid (ga < w3.heap.size) := A3.out.lt
      clear hW4 K3 A3
      generalize w3.heap.size = gb at *
      refine (HNW.out _).mono ?_
      rintro y w5 ⟨rfl, hb5⟩
      have HS5 : Hid (BS2 w ga gb [] [] (.slice none 0 0) (.slice none 0 0) w5) := ⟨HGA.out, HGB.out, K4.out.trans (hb5.mono K4.out.size), A4.out.below hb5 A4.out.lt, B4.out.below hb5 B4.out.lt, TRow.nil_ _ _, TRow.nil_ _ _, (fun k hk => by cases hk), (fun k hk => by cases hk)⟩
      clear hb5 HNW K4 A4 B4
      have HFIN := Lib.hid (HS5.out.bel.trans ((oneB w5 (.cells #[.int .i64 0, .int .i64 1, .int .i64 1, .int .i64 0, .int .i64 5, .int .i64 0, .int .i64 1, .int .i64 0] 33)).mono HS5.out.bel.size))
      go_wp2_with fail
      go_ret
      exact ⟨rfl, HFIN.out⟩
  have h1i : ¬ (20 : Int) < (n1 : Int) := by omega
  have h2i : ¬ (60 : Int) < (n2 : Int) := by omega
  go_enter Try.func3, Try.ntmps3
  go_wp2_with fail
  refine (HB0.out _).mono ?_
  rintro y w1 ⟨rfl, hb1⟩
  have K1 := Lib.hid hb1
  clear hb1 HB0
  go_wp2_with fail
  generalize hW2 : w1.alloc (.cells #[.int .i64 0, .slice none 0 0, .slice none 0 0] 26) = W2
  have K2 : Hid (Below w.heap.size w W2) := by show Below _ _ _; rw [← hW2]; exact K1.out.trans ((oneB w1 _).mono K1.out.size)
  have A2 : Hid (Blk W2 w1.heap.size #[.int .i64 0, .slice none 0 0, .slice none 0 0] 26) := by show Blk _ _ _ _; rw [← hW2]; exact Blk.new w1 _ _
  have HGA : Hid (w.heap.size ≤ w1.heap.size) := K1.out.size
  clear hW2 K1
  generalize w1.heap.size = ga at *
  refine (HB1.out _).mono ?_
  rintro y w3 ⟨rfl, hb3⟩
  have K3 := Lib.hid (K2.out.trans (hb3.mono K2.out.size))
  have A3 := Lib.hid (A2.out.below hb3 A2.out.lt)
  clear hb3 HB1 K2 A2
  go_wp2_with fail
  generalize hW4 : w3.alloc (.cells #[.int .i64 1, .slice none 0 0, .slice none 0 0] 26) = W4
  have K4 : Hid (Below w.heap.size w W4) := by show Below _ _ _; rw [← hW4]; exact K3.out.trans ((oneB w3 _).mono K3.out.size)
  have A4 : Hid (Blk W4 ga #[.int .i64 0, .slice none 0 0, .slice none 0 0] 26) := by show Blk _ _ _ _; rw [← hW4]; exact A3.out.alloc _
  have B4 : Hid (Blk W4 w3.heap.size #[.int .i64 1, .slice none 0 0, .slice none 0 0] 26) := by show Blk _ _ _ _; rw [← hW4]; exact Blk.new w3 _ _
  have HGB : Hid (ga < w3.heap.size) := A3.out.lt
  clear hW4 K3 A3
  generalize w3.heap.size = gb at *
  refine (HNW.out _).mono ?_
  rintro y w5 ⟨rfl, hb5⟩
  have HS5 : Hid (BS2 w ga gb [] [] (.slice none 0 0) (.slice none 0 0) w5) := ⟨HGA.out, HGB.out, K4.out.trans (hb5.mono K4.out.size), A4.out.below hb5 A4.out.lt, B4.out.below hb5 B4.out.lt, TRow.nil_ _ _, TRow.nil_ _ _, (fun k hk => by cases hk), (fun k hk => by cases hk)⟩
  clear hb5 HNW K4 A4 B4
  have HS6 := Lib.hid (HS5.out.kept (oneB w5 (.cells #[.int .i64 0, .int .i64 1, .int .i64 1, .int .i64 0, .int .i64 5, .int .i64 0, .int .i64 1, .int .i64 0] 33)))
  go_wp2_with fail
  generalize w5.alloc (.cells #[.int .i64 0, .int .i64 1, .int .i64 1, .int .i64 0, .int .i64 5, .int .i64 0, .int .i64 1, .int .i64 0] 33) = W6 at *
  have HREL : Hid (LRel w ga gb 0 W6) := ⟨[], _, _, Nat.le_refl _, ⟨List.Pairwise.nil, (fun x hx => by cases hx)⟩, HS6.out⟩
  clear HS5 HS6
  have HGN : Hid (ga ≠ gb) := Nat.ne_of_lt HGB.out
  go_loopw [62] (fun i wr => ∃ k : Nat, k ≤ n1 ∧ i = .int .i64 k ∧ Hid (LRel w ga gb k wr)) (fun i _ => n1 - (intOf i).toNat)
  case atStart => exact ⟨0, by omega, rfl, HREL⟩
  case round =>
    obtain ⟨k, hk, rfl, HK⟩ := hrel
    clear HREL
    by_cases hlt : k < n1
    · skip
      as_aux_lemma =>
        have hkl : k < xs.length := by rw [HL1.out]; exact hlt
        have hltI : (k : Int) < (n1 : Int) := by omega
        obtain ⟨X, va, vb, hXl, hXg, hs⟩ := HK.out
        obtain ⟨pa, ca, hva⟩ := hs.rowA.shape
        obtain ⟨pb, cb, hvb⟩ := hs.rowB.shape
        subst hva
        subst hvb
        generalize hna : X.length = na at *
        have HNA := Lib.hid hna
        have HXL : Hid (na ≤ k) := hXl
        have HXG := Lib.hid hXg
        obtain ⟨b, o, rfl, hbl, hcs⟩ := HR.out.at_ k hkl
        obtain ⟨x, hx⟩ : ∃ x, xs[k] = x := ⟨_, rfl⟩
        rw [hx] at hcs
        have c0 : wr.cell? ⟨b, o + k * 8, none⟩ = some (.int .i64 x.s) := (hs.bel.cell (p := ⟨b, _, none⟩) hbl).trans (hcs 0 (by decide))
        have c1 : wr.cell? ⟨b, o + k * 8 + 1, none⟩ = some (.int .i64 x.n) := (hs.bel.cell (p := ⟨b, _, none⟩) hbl).trans (hcs 1 (by decide))
        have c2 : wr.cell? ⟨b, o + k * 8 + 2, none⟩ = some (.int .i64 x.b) := (hs.bel.cell (p := ⟨b, _, none⟩) hbl).trans (hcs 2 (by decide))
        have c3 : wr.cell? ⟨b, o + k * 8 + 3, none⟩ = some (.int .i64 x.c) := (hs.bel.cell (p := ⟨b, _, none⟩) hbl).trans (hcs 3 (by decide))
        have c4 : wr.cell? ⟨b, o + k * 8 + 4, none⟩ = some (.int .i64 x.a) := (hs.bel.cell (p := ⟨b, _, none⟩) hbl).trans (hcs 4 (by decide))
        have c5 : wr.cell? ⟨b, o + k * 8 + 5, none⟩ = some (.int .i64 x.r) := (hs.bel.cell (p := ⟨b, _, none⟩) hbl).trans (hcs 5 (by decide))
        have c6 : wr.cell? ⟨b, o + k * 8 + 6, none⟩ = some (.int .i64 x.t) := (hs.bel.cell (p := ⟨b, _, none⟩) hbl).trans (hcs 6 (by decide))
        have c7 : wr.cell? ⟨b, o + k * 8 + 7, none⟩ = some (.int .i64 x.y) := (hs.bel.cell (p := ⟨b, _, none⟩) hbl).trans (hcs 7 (by decide))
        have HCK := Lib.hid (fun W => check_any x W)
        unfold Itm.v at HCK
        have HS0 := Lib.hid (hs.kept (oneB wr (.cells #[.int .i64 x.s, .int .i64 x.n, .int .i64 x.b, .int .i64 x.c, .int .i64 x.a, .int .i64 x.r, .int .i64 x.t, .int .i64 x.y] 33)))
        have HX0 := Lib.hid (Blk.new wr #[.int .i64 x.s, .int .i64 x.n, .int .i64 x.b, .int .i64 x.c, .int .i64 x.a, .int .i64 x.r, .int .i64 x.t, .int .i64 x.y] 33)
        have HNE : Hid (ga < wr.heap.size ∧ gb < wr.heap.size) := ⟨hs.blkA.lt, hs.blkB.lt⟩
        clear hs hXl hXg hna hx hcs hbl HK
        by_cases hchk : chkI x = 0
        · rw [hchk] at HCK
          have HCX := Lib.hid hchk
          have hp := (chk_ok hchk).1
          unfold partsOk at hp
          clear hchk
          by_cases hone : x.s + x.b = 1
          · have hob : (x.s + x.b == 1) = true := by simpa using hone
            have HONE := Lib.hid hone
            clear hone
            go_wp2_with fail
            generalize wr.alloc (.cells #[.int .i64 x.s, .int .i64 x.n, .int .i64 x.b, .int .i64 x.c, .int .i64 x.a, .int .i64 x.r, .int .i64 x.t, .int .i64 x.y] 33) = W0 at *
            generalize wr.heap.size = gx at *
            have HNEa : Hid (gx ≠ ga) := by show _ ≠ _; have := HNE.out; omega
            have HNEb : Hid (gx ≠ gb) := by show _ ≠ _; have := HNE.out; omega
            clear c0 c1 c2 c3 c4 c5 c6 c7
            refine (HCK.out W0).mono ?_
            rintro y w1 ⟨rfl, hb1⟩
            have HS1 := Lib.hid (HS0.out.kept hb1)
            have HX1 := Lib.hid (HX0.out.below hb1 HX0.out.lt)
            clear hb1 HCK HS0 HX0
            have x0 : w1.cell? ⟨gx, 0, none⟩ = some (.int .i64 x.s) := HX1.out.cell 0
            have x1 : w1.cell? ⟨gx, 1, none⟩ = some (.int .i64 x.n) := HX1.out.cell 1
            have x2 : w1.cell? ⟨gx, 2, none⟩ = some (.int .i64 x.b) := HX1.out.cell 2
            have x3 : w1.cell? ⟨gx, 3, none⟩ = some (.int .i64 x.c) := HX1.out.cell 3
            have x4 : w1.cell? ⟨gx, 4, none⟩ = some (.int .i64 x.a) := HX1.out.cell 4
            have x5 : w1.cell? ⟨gx, 5, none⟩ = some (.int .i64 x.r) := HX1.out.cell 5
            have x6 : w1.cell? ⟨gx, 6, none⟩ = some (.int .i64 x.t) := HX1.out.cell 6
            have x7 : w1.cell? ⟨gx, 7, none⟩ = some (.int .i64 x.y) := HX1.out.cell 7
            go_upto_region 12 with fail
            clear x0 x1 x2 x3 x4 x5 x6 x7
            have HPT := Lib.hid (bs_putA HS1.out x HXG.out (by have := HXL.out; have := HNA.out; omega) HCX.out HONE.out)
            unfold bookV Itm.v at HPT
            have b0 : w1.cell? ⟨ga, 0, none⟩ = some (.int .i64 0) := HS1.out.blkA.cell 0
            have b1 : w1.cell? ⟨ga, 1, none⟩ = some (.slice pa na ca) := HS1.out.blkA.cell 1
            have b2 : w1.cell? ⟨ga, 2, none⟩ = some (.slice none 0 0) := HS1.out.blkA.cell 2
            have x0 : w1.cell? ⟨gx, 0, none⟩ = some (.int .i64 x.s) := HX1.out.cell 0
            have x1 : w1.cell? ⟨gx, 1, none⟩ = some (.int .i64 x.n) := HX1.out.cell 1
            have x2 : w1.cell? ⟨gx, 2, none⟩ = some (.int .i64 x.b) := HX1.out.cell 2
            have x3 : w1.cell? ⟨gx, 3, none⟩ = some (.int .i64 x.c) := HX1.out.cell 3
            have x4 : w1.cell? ⟨gx, 4, none⟩ = some (.int .i64 x.a) := HX1.out.cell 4
            have x5 : w1.cell? ⟨gx, 5, none⟩ = some (.int .i64 x.r) := HX1.out.cell 5
            have x6 : w1.cell? ⟨gx, 6, none⟩ = some (.int .i64 x.t) := HX1.out.cell 6
            have x7 : w1.cell? ⟨gx, 7, none⟩ = some (.int .i64 x.y) := HX1.out.cell 7
            go_wp2_with fail
            refine HPT.out.mono ?_
            rintro y z2 ⟨pp2, nn2, cc2, rfl, hk2, hb2, hs2⟩
            have HK2 := Lib.hid hk2
            have HX2 : Hid (Blk (st3 z2 ga (.int .i64 0) (.slice pp2 nn2 cc2) (.slice none 0 0)) gx #[.int .i64 x.s, .int .i64 x.n, .int .i64 x.b, .int .i64 x.c, .int .i64 x.a, .int .i64 x.r, .int .i64 x.t, .int .i64 x.y] 33) := (st3_other z2 ga gx _ _ _ (by have := HNEa.out; omega)).trans (HX1.out.below hb2 HX1.out.lt)
            have HS2 := Lib.hid hs2
            clear b0 b1 b2 x0 x1 x2 x3 x4 x5 x6 x7 HPT hb2 hk2 hs2 HS1 HX1
            have b0 : z2.cell? ⟨ga, 0, none⟩ = some (.int .i64 0) := HK2.out.cell 0
            have b1 : z2.cell? ⟨ga, 1, none⟩ = some (.slice pa na ca) := HK2.out.cell 1
            have b2 : z2.cell? ⟨ga, 2, none⟩ = some (.slice none 0 0) := HK2.out.cell 2
            have f0 := HK2.out.free 0
            have f1 := HK2.out.free 1
            have f2 := HK2.out.free 2
            go_upto_region 13 with fail
            have hW2 : (World.setCell (World.setCell (World.setCell z2 ⟨ga, 0, none⟩ (.int .i64 0)) ⟨ga, 1, none⟩ (.slice pp2 nn2 cc2)) ⟨ga, 2, none⟩ (.slice none 0 0)) = st3 z2 ga (.int .i64 0) (.slice pp2 nn2 cc2) (.slice none 0 0) := rfl
            rw [hW2]
            generalize st3 z2 ga (.int .i64 0) (.slice pp2 nn2 cc2) (.slice none 0 0) = W2 at *
            clear hW2 HK2 f0 f1 f2 b0 b1 b2
            have HPT := Lib.hid (bs_putB HS2.out x HXG.out (by have := HXL.out; have := HNA.out; omega) HCX.out HONE.out)
            unfold bookV Itm.v at HPT
            have b0 : W2.cell? ⟨gb, 0, none⟩ = some (.int .i64 1) := HS2.out.blkB.cell 0
            have b1 : W2.cell? ⟨gb, 1, none⟩ = some (.slice pb na cb) := HS2.out.blkB.cell 1
            have b2 : W2.cell? ⟨gb, 2, none⟩ = some (.slice none 0 0) := HS2.out.blkB.cell 2
            have x0 : W2.cell? ⟨gx, 0, none⟩ = some (.int .i64 x.s) := HX2.out.cell 0
            have x1 : W2.cell? ⟨gx, 1, none⟩ = some (.int .i64 x.n) := HX2.out.cell 1
            have x2 : W2.cell? ⟨gx, 2, none⟩ = some (.int .i64 x.b) := HX2.out.cell 2
            have x3 : W2.cell? ⟨gx, 3, none⟩ = some (.int .i64 x.c) := HX2.out.cell 3
            have x4 : W2.cell? ⟨gx, 4, none⟩ = some (.int .i64 x.a) := HX2.out.cell 4
            have x5 : W2.cell? ⟨gx, 5, none⟩ = some (.int .i64 x.r) := HX2.out.cell 5
            have x6 : W2.cell? ⟨gx, 6, none⟩ = some (.int .i64 x.t) := HX2.out.cell 6
            have x7 : W2.cell? ⟨gx, 7, none⟩ = some (.int .i64 x.y) := HX2.out.cell 7
            go_wp2_with fail
            refine HPT.out.mono ?_
            rintro y z3 ⟨pp3, nn3, cc3, rfl, hk3, hb3, hs3⟩
            have HK3 := Lib.hid hk3
            have HX3 : Hid (Blk (st3 z3 gb (.int .i64 1) (.slice pp3 nn3 cc3) (.slice none 0 0)) gx #[.int .i64 x.s, .int .i64 x.n, .int .i64 x.b, .int .i64 x.c, .int .i64 x.a, .int .i64 x.r, .int .i64 x.t, .int .i64 x.y] 33) := (st3_other z3 gb gx _ _ _ (by have := HNEb.out; omega)).trans (HX2.out.below hb3 HX2.out.lt)
            have HS3 := Lib.hid hs3
            clear b0 b1 b2 x0 x1 x2 x3 x4 x5 x6 x7 HPT hb3 hk3 hs3 HS2 HX2
            have b0 : z3.cell? ⟨gb, 0, none⟩ = some (.int .i64 1) := HK3.out.cell 0
            have b1 : z3.cell? ⟨gb, 1, none⟩ = some (.slice pb na cb) := HK3.out.cell 1
            have b2 : z3.cell? ⟨gb, 2, none⟩ = some (.slice none 0 0) := HK3.out.cell 2
            have f0 := HK3.out.free 0
            have f1 := HK3.out.free 1
            have f2 := HK3.out.free 2
            go_wp2_with fail
            have HN : Hid (LRel w ga gb (k + 1) (st3 z3 gb (.int .i64 1) (.slice pp3 nn3 cc3) (.slice none 0 0))) := ⟨insX X x, _, _, by have h1 := ins_len HXG.out x; have := HXL.out; have := HNA.out; omega, ins_good HXG.out HCX.out HONE.out, HS3.out⟩
            clear HS3 HX3
            go_roundw
            case rel => exact ⟨k + 1, by omega, by go_num, HN⟩
            case measure => simp [intOf]; omega
          · have hob : (x.s + x.b == 1) = false := by simpa using hone
            clear hone
            go_wp2_with fail
            generalize wr.alloc (.cells #[.int .i64 x.s, .int .i64 x.n, .int .i64 x.b, .int .i64 x.c, .int .i64 x.a, .int .i64 x.r, .int .i64 x.t, .int .i64 x.y] 33) = W0 at *
            generalize wr.heap.size = gx at *
            clear c0 c1 c2 c3 c4 c5 c6 c7
            refine (HCK.out W0).mono ?_
            rintro y w1 ⟨rfl, hb1⟩
            have HX1 := Lib.hid (HX0.out.below hb1 HX0.out.lt)
            have HN : Hid (LRel w ga gb (k + 1) w1) := ⟨X, _, _, by have := HXL.out; have := HNA.out; omega, HXG.out, HS0.out.kept hb1⟩
            clear hb1 HCK HS0 HX0
            have x0 : w1.cell? ⟨gx, 0, none⟩ = some (.int .i64 x.s) := HX1.out.cell 0
            have x1 : w1.cell? ⟨gx, 1, none⟩ = some (.int .i64 x.n) := HX1.out.cell 1
            have x2 : w1.cell? ⟨gx, 2, none⟩ = some (.int .i64 x.b) := HX1.out.cell 2
            have x3 : w1.cell? ⟨gx, 3, none⟩ = some (.int .i64 x.c) := HX1.out.cell 3
            have x4 : w1.cell? ⟨gx, 4, none⟩ = some (.int .i64 x.a) := HX1.out.cell 4
            have x5 : w1.cell? ⟨gx, 5, none⟩ = some (.int .i64 x.r) := HX1.out.cell 5
            have x6 : w1.cell? ⟨gx, 6, none⟩ = some (.int .i64 x.t) := HX1.out.cell 6
            have x7 : w1.cell? ⟨gx, 7, none⟩ = some (.int .i64 x.y) := HX1.out.cell 7
            go_wp2_with fail
            go_roundw
            case rel => exact ⟨k + 1, by omega, by go_num, HN⟩
            case measure => simp [intOf]; omega
        · have hcb : (chkI x == 0) = false := by simpa using hchk
          clear hchk
          generalize chkI x = ce at *
          go_wp2_with fail
          generalize wr.alloc (.cells #[.int .i64 x.s, .int .i64 x.n, .int .i64 x.b, .int .i64 x.c, .int .i64 x.a, .int .i64 x.r, .int .i64 x.t, .int .i64 x.y] 33) = W0 at *
          clear c0 c1 c2 c3 c4 c5 c6 c7
          refine (HCK.out W0).mono ?_
          rintro y w1 ⟨rfl, hb1⟩
          have HN : Hid (LRel w ga gb (k + 1) w1) := ⟨X, _, _, by have := HXL.out; have := HNA.out; omega, HXG.out, HS0.out.kept hb1⟩
          clear hb1 HCK HS0 HX0
          go_wp2_with fail
          go_roundw
          case rel => exact ⟨k + 1, by omega, by go_num, HN⟩
          case measure => simp [intOf]; omega
    · have hle : (n1 : Int) ≤ (k : Int) := by omega
      have HREL : Hid (LRel w ga gb (20 + 0) wr) := by obtain ⟨X, va, vb, h1, h2, h3⟩ := HK.out; exact ⟨X, va, vb, by omega, h2, h3⟩
      clear HK
      go_wp2_with fail
      go_loopw [8, 93] (fun e i wr => ∃ k : Nat, k ≤ n2 ∧ e = .int .i64 0 ∧ i = .int .i64 k ∧ Hid (LRel w ga gb (20 + k) wr)) (fun _ i _ => n2 - (intOf i).toNat)
      case atStart => exact ⟨0, by omega, rfl, rfl, HREL⟩
      case round =>
        obtain ⟨k, hk, rfl, rfl, HK⟩ := hrel
        clear HREL
        by_cases hlt : k < n2
        · have hkl : k < acts.length := by rw [HL2.out]; exact hlt
          have hltI : (k : Int) < (n2 : Int) := by omega
          obtain ⟨X, va, vb, hXl, hXg, hs⟩ := HK.out
          obtain ⟨pa, ca, hva⟩ := hs.rowA.shape
          obtain ⟨pb, cb, hvb⟩ := hs.rowB.shape
          subst hva
          subst hvb
          generalize hna : X.length = na at *
          have HNA := Lib.hid hna
          have HXL : Hid (na ≤ 20 + k) := hXl
          have HXG := Lib.hid hXg
          obtain ⟨bu, ou, rfl, hbl, hcs⟩ := HU.out.at_ k hkl
          have hfk := HF.out _ (List.getElem_mem hkl)
          obtain ⟨tt, htt⟩ : ∃ tt, acts[k] = tt := ⟨_, rfl⟩
          rw [htt] at hcs hfk
          obtain ⟨t1, t2, t3⟩ := tt
          have d0 : wr.cell? ⟨bu, ou + k * 3, none⟩ = some (.int .i64 t1) := (hs.bel.cell (p := ⟨bu, _, none⟩) hbl).trans (hcs 0 (by decide))
          have d1 : wr.cell? ⟨bu, ou + k * 3 + 1, none⟩ = some (.int .i64 t2) := (hs.bel.cell (p := ⟨bu, _, none⟩) hbl).trans (hcs 1 (by decide))
          have d2 : wr.cell? ⟨bu, ou + k * 3 + 2, none⟩ = some (.int .i64 t3) := (hs.bel.cell (p := ⟨bu, _, none⟩) hbl).trans (hcs 2 (by decide))
          have HS0 := Lib.hid (hs.kept (oneB wr (.cells #[.int .i64 t1, .int .i64 t2, .int .i64 t3] 38)))
          have HT0 := Lib.hid (Blk.new wr #[.int .i64 t1, .int .i64 t2, .int .i64 t3] 38)
          have HNE : Hid (ga < wr.heap.size ∧ gb < wr.heap.size) := ⟨hs.blkA.lt, hs.blkB.lt⟩
          clear hs hXl hXg hna htt hcs hbl HK
          go_upto_region 18 with fail
          generalize wr.alloc (.cells #[.int .i64 t1, .int .i64 t2, .int .i64 t3] 38) = W0 at *
          generalize wr.heap.size = gt at *
          clear d0 d1 d2
          have HSKIP : Hid (LRel w ga gb (20 + (k + 1)) W0) := ⟨X, _, _, by have := HXL.out; have := HNA.out; omega, HXG.out, HS0.out⟩
          have a0 : W0.cell? ⟨gt, 0, none⟩ = some (.int .i64 t1) := HT0.out.cell 0
          have b1 : W0.cell? ⟨ga, 1, none⟩ = some (.slice pa na ca) := HS0.out.blkA.cell 1
          by_cases hn0 : na = 0
          · have hz : ((na : Int) == 0) = true := by simp [hn0]
            clear hn0
            go_wp2_with fail
            go_roundw
            case rel => exact ⟨k + 1, by omega, rfl, by go_num, HSKIP⟩
            case measure => simp [intOf]; omega
          have hz : ((na : Int) == 0) = false := by simp [hn0]
          by_cases hneg : t1 < 0
          · go_wp2_with fail
            go_roundw
            case rel => exact ⟨k + 1, by omega, rfl, by go_num, HSKIP⟩
            case measure => simp [intOf]; omega
          obtain ⟨j, hj⟩ : ∃ j : Nat, t1.tmod (na : Int) = (j : Int) := ⟨(t1.tmod na).toNat, by rw [Int.toNat_of_nonneg (Int.tmod_nonneg _ (by omega))]⟩
          have hjl : j < na := by have := Int.tmod_lt_of_pos t1 (show (0 : Int) < (na : Int) by omega); omega
          have hjI : (j : Int) < (na : Int) := by omega
          obtain ⟨b, o, hpa, hbl, hcs⟩ := HS0.out.rowA.at_ j (by rw [HNA.out]; exact hjl)
          subst hpa
          have HXM : Hid (X[j]'(by rw [HNA.out]; exact hjl) ∈ X) := List.getElem_mem _
          generalize X[j]'(by rw [HNA.out]; exact hjl) = x at *
          have c0 : W0.cell? ⟨b, o + j * 8, none⟩ = some (.int .i64 x.s) := hcs 0 (by decide)
          have c1 : W0.cell? ⟨b, o + j * 8 + 1, none⟩ = some (.int .i64 x.n) := hcs 1 (by decide)
          have c2 : W0.cell? ⟨b, o + j * 8 + 2, none⟩ = some (.int .i64 x.b) := hcs 2 (by decide)
          have c3 : W0.cell? ⟨b, o + j * 8 + 3, none⟩ = some (.int .i64 x.c) := hcs 3 (by decide)
          have c4 : W0.cell? ⟨b, o + j * 8 + 4, none⟩ = some (.int .i64 x.a) := hcs 4 (by decide)
          have c5 : W0.cell? ⟨b, o + j * 8 + 5, none⟩ = some (.int .i64 x.r) := hcs 5 (by decide)
          have c6 : W0.cell? ⟨b, o + j * 8 + 6, none⟩ = some (.int .i64 x.t) := hcs 6 (by decide)
          have c7 : W0.cell? ⟨b, o + j * 8 + 7, none⟩ = some (.int .i64 x.y) := hcs 7 (by decide)
          have HSW : Hid (∀ W, Below W0.heap.size W0 W → W.cell? ⟨ga, 1, none⟩ = some (.slice (some ⟨b, o, none⟩) na ca) ∧ W.cell? ⟨gt, 0, none⟩ = some (.int .i64 t1) ∧ W.cell? ⟨b, o + j * 8, none⟩ = some (.int .i64 x.s) ∧ W.cell? ⟨b, o + j * 8 + 1, none⟩ = some (.int .i64 x.n) ∧ W.cell? ⟨b, o + j * 8 + 2, none⟩ = some (.int .i64 x.b) ∧ W.cell? ⟨b, o + j * 8 + 3, none⟩ = some (.int .i64 x.c) ∧ W.cell? ⟨b, o + j * 8 + 4, none⟩ = some (.int .i64 x.a) ∧ W.cell? ⟨b, o + j * 8 + 5, none⟩ = some (.int .i64 x.r) ∧ W.cell? ⟨b, o + j * 8 + 6, none⟩ = some (.int .i64 x.t) ∧ W.cell? ⟨b, o + j * 8 + 7, none⟩ = some (.int .i64 x.y)) := by
            have hb0 := World.block_lt_of_cell? W0 _ b1
            have hb1 := World.block_lt_of_cell? W0 _ a0
            exact fun W h => ⟨(h.cell (p := ⟨ga, 1, none⟩) hb0).trans b1, (h.cell (p := ⟨gt, 0, none⟩) hb1).trans a0, (h.cell (p := ⟨b, _, none⟩) hbl).trans c0, (h.cell (p := ⟨b, _, none⟩) hbl).trans c1, (h.cell (p := ⟨b, _, none⟩) hbl).trans c2, (h.cell (p := ⟨b, _, none⟩) hbl).trans c3, (h.cell (p := ⟨b, _, none⟩) hbl).trans c4, (h.cell (p := ⟨b, _, none⟩) hbl).trans c5, (h.cell (p := ⟨b, _, none⟩) hbl).trans c6, (h.cell (p := ⟨b, _, none⟩) hbl).trans c7⟩
          clear hcs c0 c1 c2 c3 c4 c5 c6 c7
          go_upto_region 19 with fail
          clear b1 a0
          go_cut [15, 93] from 93 to 267 (fun p i wx => ∃ gx : Nat, p = .pointer (some ⟨gx, 0, none⟩) ∧ i = .int .i64 k ∧ Hid (Blk wx gx #[.int .i64 x.s, .int .i64 x.n, .int .i64 x.b, .int .i64 x.c, .int .i64 x.a, .int .i64 x.r, .int .i64 x.t, .int .i64 x.y] 33 ∧ Below W0.heap.size W0 wx ∧ W0.heap.size ≤ gx))
          case first =>
            as_aux_lemma =>
              have hS : W0.drew.cell? ⟨ga, 1, none⟩ = some (.slice (some ⟨b, o, none⟩) na ca) ∧ W0.drew.cell? ⟨gt, 0, none⟩ = some (.int .i64 t1) ∧ W0.drew.cell? ⟨b, o + j * 8, none⟩ = some (.int .i64 x.s) ∧ W0.drew.cell? ⟨b, o + j * 8 + 1, none⟩ = some (.int .i64 x.n) ∧ W0.drew.cell? ⟨b, o + j * 8 + 2, none⟩ = some (.int .i64 x.b) ∧ W0.drew.cell? ⟨b, o + j * 8 + 3, none⟩ = some (.int .i64 x.c) ∧ W0.drew.cell? ⟨b, o + j * 8 + 4, none⟩ = some (.int .i64 x.a) ∧ W0.drew.cell? ⟨b, o + j * 8 + 5, none⟩ = some (.int .i64 x.r) ∧ W0.drew.cell? ⟨b, o + j * 8 + 6, none⟩ = some (.int .i64 x.t) ∧ W0.drew.cell? ⟨b, o + j * 8 + 7, none⟩ = some (.int .i64 x.y) := HSW.out _ (Below.refl _ W0).drew
              refine wp_region_held_drew (S := fun w' => w'.cell? ⟨ga, 1, none⟩ = some (.slice (some ⟨b, o, none⟩) na ca) ∧ w'.cell? ⟨gt, 0, none⟩ = some (.int .i64 t1) ∧ w'.cell? ⟨b, o + j * 8, none⟩ = some (.int .i64 x.s) ∧ w'.cell? ⟨b, o + j * 8 + 1, none⟩ = some (.int .i64 x.n) ∧ w'.cell? ⟨b, o + j * 8 + 2, none⟩ = some (.int .i64 x.b) ∧ w'.cell? ⟨b, o + j * 8 + 3, none⟩ = some (.int .i64 x.c) ∧ w'.cell? ⟨b, o + j * 8 + 4, none⟩ = some (.int .i64 x.a) ∧ w'.cell? ⟨b, o + j * 8 + 5, none⟩ = some (.int .i64 x.r) ∧ w'.cell? ⟨b, o + j * 8 + 6, none⟩ = some (.int .i64 x.t) ∧ w'.cell? ⟨b, o + j * 8 + 7, none⟩ = some (.int .i64 x.y)) (by kernel_rfl) hS (fun hS0 => ?_)
              refine wpAnyH_take (i := 0) (v := ?_) rfl (by kernel_rfl) (by kernel_rfl) (by kernel_rfl) (fun _ _ _ h => h) (Or.inl ⟨by kernel_rfl, ?_⟩) (by first | assumption | trivial) ?_
              rotate_left
              · intro w hSw
                try dsimp only at hSw
                first | (go_simp; done) | (go_simp; with_reducible rfl)
              try simp only [Act.put, List.getElem_toArray, List.getElem_cons_succ, List.getElem_cons_zero, List.setIfInBounds_toArray, List.set_cons_zero, List.set_cons_succ]
              refine wpAnyH_take (i := 1) (v := ?_) rfl (by kernel_rfl) (by kernel_rfl) (by kernel_rfl) (fun _ _ _ h => h) (Or.inl ⟨by kernel_rfl, ?_⟩) (by first | assumption | trivial) ?_
              rotate_left
              · intro w hSw
                try dsimp only at hSw
                first | (go_simp; done) | (go_simp; with_reducible rfl)
              try simp only [Act.put, List.getElem_toArray, List.getElem_cons_succ, List.getElem_cons_zero, List.setIfInBounds_toArray, List.set_cons_zero, List.set_cons_succ]
              refine wpAnyH_take (i := 2) (v := ?_) rfl (by kernel_rfl) (by kernel_rfl) (by kernel_rfl) (fun _ _ _ h => h) (Or.inl ⟨by kernel_rfl, ?_⟩) (by first | assumption | trivial) ?_
              rotate_left
              · intro w hSw
                try dsimp only at hSw
                first | (go_simp; done) | (go_simp; with_reducible rfl)
              try simp only [Act.put, List.getElem_toArray, List.getElem_cons_succ, List.getElem_cons_zero, List.setIfInBounds_toArray, List.set_cons_zero, List.set_cons_succ]
              refine wpAnyH_take (i := 3) (v := ?_) rfl (by kernel_rfl) (by kernel_rfl) (by kernel_rfl) (fun _ _ _ h => h) (Or.inl ⟨by kernel_rfl, ?_⟩) (by first | assumption | trivial) ?_
              rotate_left
              · intro w hSw
                try dsimp only at hSw
                first | (go_simp; done) | (go_simp; with_reducible rfl)
              try simp only [Act.put, List.getElem_toArray, List.getElem_cons_succ, List.getElem_cons_zero, List.setIfInBounds_toArray, List.set_cons_zero, List.set_cons_succ]
              refine wpAnyH_take (i := 4) (v := ?_) rfl (by kernel_rfl) (by kernel_rfl) (by kernel_rfl) (fun _ _ _ h => h) (Or.inl ⟨by kernel_rfl, ?_⟩) (by first | assumption | trivial) ?_
              rotate_left
              · intro w hSw
                try dsimp only at hSw
                first | (go_simp; done) | (go_simp; with_reducible rfl)
              try simp only [Act.put, List.getElem_toArray, List.getElem_cons_succ, List.getElem_cons_zero, List.setIfInBounds_toArray, List.set_cons_zero, List.set_cons_succ]
              refine wpAnyH_take (i := 5) (v := ?_) rfl (by kernel_rfl) (by kernel_rfl) (by kernel_rfl) (fun _ _ _ h => h) (Or.inl ⟨by kernel_rfl, ?_⟩) (by first | assumption | trivial) ?_
              rotate_left
              · intro w hSw
                try dsimp only at hSw
                first | (go_simp; done) | (go_simp; with_reducible rfl)
              try simp only [Act.put, List.getElem_toArray, List.getElem_cons_succ, List.getElem_cons_zero, List.setIfInBounds_toArray, List.set_cons_zero, List.set_cons_succ]
              refine wpAnyH_take (i := 6) (v := ?_) rfl (by kernel_rfl) (by kernel_rfl) (by kernel_rfl) (fun _ _ _ h => h) (Or.inl ⟨by kernel_rfl, ?_⟩) (by first | assumption | trivial) ?_
              rotate_left
              · intro w hSw
                try dsimp only at hSw
                first | (go_simp; done) | (go_simp; with_reducible rfl)
              try simp only [Act.put, List.getElem_toArray, List.getElem_cons_succ, List.getElem_cons_zero, List.setIfInBounds_toArray, List.set_cons_zero, List.set_cons_succ]
              refine wpAnyH_take (i := 7) (v := ?_) rfl (by kernel_rfl) (by kernel_rfl) (by kernel_rfl) (fun _ _ _ h => h) (Or.inl ⟨by kernel_rfl, ?_⟩) (by first | assumption | trivial) ?_
              rotate_left
              · intro w hSw
                try dsimp only at hSw
                first | (go_simp; done) | (go_simp; with_reducible rfl)
              try simp only [Act.put, List.getElem_toArray, List.getElem_cons_succ, List.getElem_cons_zero, List.setIfInBounds_toArray, List.set_cons_zero, List.set_cons_succ]
              refine wpAnyH_take (i := 8) (v := ?_) rfl (by kernel_rfl) (by kernel_rfl) (by kernel_rfl) (fun _ _ _ h => h) (Or.inl ⟨by kernel_rfl, ?_⟩) (by first | assumption | trivial) ?_
              rotate_left
              · intro w hSw
                try dsimp only at hSw
                first | (go_simp; done) | (go_simp; with_reducible rfl)
              try simp only [Act.put, List.getElem_toArray, List.getElem_cons_succ, List.getElem_cons_zero, List.setIfInBounds_toArray, List.set_cons_zero, List.set_cons_succ]
              refine wpAnyH_take (i := 9) (v := ?_) rfl (by kernel_rfl) (by kernel_rfl) (by kernel_rfl) (fun _ _ _ h => h) (Or.inl ⟨by kernel_rfl, ?_⟩) (by first | assumption | trivial) ?_
              rotate_left
              · intro w hSw
                try dsimp only at hSw
                first | (go_simp; done) | (go_simp; with_reducible rfl)
              try simp only [Act.put, List.getElem_toArray, List.getElem_cons_succ, List.getElem_cons_zero, List.setIfInBounds_toArray, List.set_cons_zero, List.set_cons_succ]
              refine wpAnyH_ready (rs := [10]) (by kernel_rfl) (by simp) ?_
              refine AllReadyH.cons rfl (fun K hK => ?_) AllReadyH.nil
              go_simp
              refine hK.out _ _ (HSW.out _ (by first | exact (oneB W0 _).drew | exact (Below.refl _ W0).drew.alloc (Nat.le_refl _) _ | exact oneB W0 _)) (fun hS => ?_)
              clear hK K
              try simp only [Act.put, List.getElem_toArray, List.getElem_cons_succ, List.getElem_cons_zero, List.setIfInBounds_toArray, List.set_cons_zero, List.set_cons_succ]
              refine wpAnyH_ready (rs := [11]) (by kernel_rfl) (by simp) ?_
              refine AllReadyH.cons rfl (fun K hK => ?_) AllReadyH.nil
              go_simp
              go_goals
              refine hK.out _ _ (HSW.out _ (by first | exact (oneB W0 _).drew | exact (Below.refl _ W0).drew.alloc (Nat.le_refl _) _ | exact oneB W0 _)) (fun hS => ?_)
              clear hK K
              try simp only [Act.put, List.getElem_toArray, List.getElem_cons_succ, List.getElem_cons_zero, List.setIfInBounds_toArray, List.set_cons_zero, List.set_cons_succ]
              refine wpAnyH_done (by kernel_rfl) ?_ _
              go_wp2_with fail
              go_meet
              exact ⟨_, rfl, rfl, Lib.hid ⟨Blk.new _ _ _, (by first | exact (oneB W0 _).drew | exact (Below.refl _ W0).drew.alloc (Nat.le_refl _) _ | exact oneB W0 _), Nat.le_refl _⟩⟩
          case rest =>
            obtain ⟨gx, rfl, rfl, HC⟩ := hcut
            have HCX : Hid (chkI x = 0) := (HXG.out.2 x HXM.out).1
            have HONE : Hid (x.s + x.b = 1) := (HXG.out.2 x HXM.out).2
            have HTC := Lib.hid (HT0.out.below HC.out.2.1 HT0.out.lt)
            have HGY : Hid (W0.heap.size ≤ wc.heap.size) := HC.out.2.1.size
            have HBY := Lib.hid (HC.out.2.1.trans ((oneB wc (.cells #[.int .i64 x.s, .int .i64 x.n, .int .i64 x.b, .int .i64 x.c, .int .i64 x.a, .int .i64 x.r, .int .i64 x.t, .int .i64 x.y] 33)).mono HC.out.2.1.size))
            have HXY := Lib.hid (HC.out.1.alloc (.cells #[.int .i64 x.s, .int .i64 x.n, .int .i64 x.b, .int .i64 x.c, .int .i64 x.a, .int .i64 x.r, .int .i64 x.t, .int .i64 x.y] 33))
            have HYY := Lib.hid (Blk.new wc #[.int .i64 x.s, .int .i64 x.n, .int .i64 x.b, .int .i64 x.c, .int .i64 x.a, .int .i64 x.r, .int .i64 x.t, .int .i64 x.y] 33)
            have HTY := Lib.hid (HTC.out.alloc (.cells #[.int .i64 x.s, .int .i64 x.n, .int .i64 x.b, .int .i64 x.c, .int .i64 x.a, .int .i64 x.r, .int .i64 x.t, .int .i64 x.y] 33))
            have HGX : Hid (W0.heap.size ≤ gx) := HC.out.2.2
            have HGXY : Hid (gx < wc.heap.size) := HC.out.1.lt
            have x0 : wc.cell? ⟨gx, 0, none⟩ = some (.int .i64 x.s) := HC.out.1.cell 0
            have x1 : wc.cell? ⟨gx, 1, none⟩ = some (.int .i64 x.n) := HC.out.1.cell 1
            have x2 : wc.cell? ⟨gx, 2, none⟩ = some (.int .i64 x.b) := HC.out.1.cell 2
            have x3 : wc.cell? ⟨gx, 3, none⟩ = some (.int .i64 x.c) := HC.out.1.cell 3
            have x4 : wc.cell? ⟨gx, 4, none⟩ = some (.int .i64 x.a) := HC.out.1.cell 4
            have x5 : wc.cell? ⟨gx, 5, none⟩ = some (.int .i64 x.r) := HC.out.1.cell 5
            have x6 : wc.cell? ⟨gx, 6, none⟩ = some (.int .i64 x.t) := HC.out.1.cell 6
            have x7 : wc.cell? ⟨gx, 7, none⟩ = some (.int .i64 x.y) := HC.out.1.cell 7
            have t1' : (wc.alloc (.cells #[.int .i64 x.s, .int .i64 x.n, .int .i64 x.b, .int .i64 x.c, .int .i64 x.a, .int .i64 x.r, .int .i64 x.t, .int .i64 x.y] 33)).cell? ⟨gt, 1, none⟩ = some (.int .i64 t2) := HTY.out.cell 1
            clear HTC HSW hneg hj HSKIP
            go_upto_block 4 with fail
            generalize wc.alloc (.cells #[.int .i64 x.s, .int .i64 x.n, .int .i64 x.b, .int .i64 x.c, .int .i64 x.a, .int .i64 x.r, .int .i64 x.t, .int .i64 x.y] 33) = W2 at *
            generalize wc.heap.size = gy at *
            clear x0 x1 x2 x3 x4 x5 x6 x7 HC t1'
            go_cut [17, 93] from 93 to 267 (fun e i wx => ∃ (E : Int) (y : Itm), e = .int .i64 E ∧ i = .int .i64 k ∧ Hid (ActOk x y E) ∧ Hid (Blk wx gy #[.int .i64 y.s, .int .i64 y.n, .int .i64 y.b, .int .i64 y.c, .int .i64 y.a, .int .i64 y.r, .int .i64 y.t, .int .i64 y.y] 33 ∧ Blk wx gx #[.int .i64 x.s, .int .i64 x.n, .int .i64 x.b, .int .i64 x.c, .int .i64 x.a, .int .i64 x.r, .int .i64 x.t, .int .i64 x.y] 33 ∧ Below W0.heap.size W0 wx))
            case first =>
              as_aux_lemma =>
                have HINF : Hid ((Try.prog.info? 33).map (·.size) = some (#[.int .i64 x.s, .int .i64 x.n, .int .i64 x.b, .int .i64 x.c, .int .i64 x.a, .int .i64 x.r, .int .i64 x.t, .int .i64 x.y] : Array Value).size) := by
                  obtain ⟨ii, _, hi, _, hs, _⟩ := eltI
                  show _ = _
                  rw [hi]
                  show some ii.size = some 8
                  rw [hs]
                by_cases hk1 : t2 = 1
                · subst hk1
                  as_aux_lemma =>
                    have HACT : Hid (ActOk x (turnI x 1 2).1 (turnI x 1 2).2) := act_life x 1 t3 HCX.out (by decide)
                    have HCL := Lib.hid (dispute_any x W2)
                    generalize turnI x 1 2 = r at HCL HACT
                    obtain ⟨y, E⟩ := r
                    have HCL : Hid (Calls Try.prog 8 #[.agg #[.int .i64 x.s, .int .i64 x.n, .int .i64 x.b, .int .i64 x.c, .int .i64 x.a, .int .i64 x.r, .int .i64 x.t, .int .i64 x.y]] W2 fun e w' => e = .returned (.tuple #[.agg #[.int .i64 y.s, .int .i64 y.n, .int .i64 y.b, .int .i64 y.c, .int .i64 y.a, .int .i64 y.r, .int .i64 y.t, .int .i64 y.y], .int .i64 E]) ∧ Below W2.heap.size W2 w') := HCL.out
                    have x0 : W2.cell? ⟨gx, 0, none⟩ = some (.int .i64 x.s) := HXY.out.cell 0
                    have x1 : W2.cell? ⟨gx, 1, none⟩ = some (.int .i64 x.n) := HXY.out.cell 1
                    have x2 : W2.cell? ⟨gx, 2, none⟩ = some (.int .i64 x.b) := HXY.out.cell 2
                    have x3 : W2.cell? ⟨gx, 3, none⟩ = some (.int .i64 x.c) := HXY.out.cell 3
                    have x4 : W2.cell? ⟨gx, 4, none⟩ = some (.int .i64 x.a) := HXY.out.cell 4
                    have x5 : W2.cell? ⟨gx, 5, none⟩ = some (.int .i64 x.r) := HXY.out.cell 5
                    have x6 : W2.cell? ⟨gx, 6, none⟩ = some (.int .i64 x.t) := HXY.out.cell 6
                    have x7 : W2.cell? ⟨gx, 7, none⟩ = some (.int .i64 x.y) := HXY.out.cell 7

                    go_wp2_with fail
                    refine HCL.out.mono ?_
                    rintro q w6 ⟨rfl, hb6⟩
                    have HB6 := Lib.hid (HBY.out.trans (hb6.mono HBY.out.size))
                    have HX6 := Lib.hid (HXY.out.below hb6 HXY.out.lt)
                    have HY6 := Lib.hid (HYY.out.below hb6 HYY.out.lt)
                    clear hb6 x0 x1 x2 x3 x4 x5 x6 x7 HCL
                    have HTH : Hid (w6.there gy 0 (#[.int .i64 y.s, .int .i64 y.n, .int .i64 y.b, .int .i64 y.c, .int .i64 y.a, .int .i64 y.r, .int .i64 y.t, .int .i64 y.y] : Array Value).size) := HY6.out.thereAt
                    have HFN : Hid (Blk (w6.setCells gy 0 (#[.int .i64 y.s, .int .i64 y.n, .int .i64 y.b, .int .i64 y.c, .int .i64 y.a, .int .i64 y.r, .int .i64 y.t, .int .i64 y.y] : Array Value).toList) gy #[.int .i64 y.s, .int .i64 y.n, .int .i64 y.b, .int .i64 y.c, .int .i64 y.a, .int .i64 y.r, .int .i64 y.t, .int .i64 y.y] 33 ∧ Blk (w6.setCells gy 0 (#[.int .i64 y.s, .int .i64 y.n, .int .i64 y.b, .int .i64 y.c, .int .i64 y.a, .int .i64 y.r, .int .i64 y.t, .int .i64 y.y] : Array Value).toList) gx #[.int .i64 x.s, .int .i64 x.n, .int .i64 x.b, .int .i64 x.c, .int .i64 x.a, .int .i64 x.r, .int .i64 x.t, .int .i64 x.y] 33 ∧ Below W0.heap.size W0 (w6.setCells gy 0 (#[.int .i64 y.s, .int .i64 y.n, .int .i64 y.b, .int .i64 y.c, .int .i64 y.a, .int .i64 y.r, .int .i64 y.t, .int .i64 y.y] : Array Value).toList)) := ⟨blk_put_all HY6.out #[.int .i64 y.s, .int .i64 y.n, .int .i64 y.b, .int .i64 y.c, .int .i64 y.a, .int .i64 y.r, .int .i64 y.t, .int .i64 y.y] rfl, blk_putOther (Nat.ne_of_gt HGXY.out) _ _ _ HX6.out, below_put HGY.out _ _ _ _ HB6.out⟩
                    clear HB6 HX6 HY6
                    go_wp2_with (with_reducible refine stop_storeT 33 (.tmp 16) (.tmp 124) rfl ?_)
                    refine wpList_store_mid rfl 33 (.tmp 16) (.tmp 124) rfl gy 0 #[.int .i64 y.s, .int .i64 y.n, .int .i64 y.b, .int .i64 y.c, .int .i64 y.a, .int .i64 y.r, .int .i64 y.t, .int .i64 y.y] rfl rfl HTH.out HINF.out (all_oneCell_toArray (encI.one y)) ?_
                    generalize World.setCells w6 gy 0 _ = W7 at *
                    clear HTH
                    go_wp2_with fail
                    go_meet
                    exact ⟨E, y, rfl, rfl, HACT, HFN⟩
                by_cases hk2 : t2 = 2
                · subst hk2
                  as_aux_lemma =>
                    have HACT : Hid (ActOk x (turnI x 1 3).1 (turnI x 1 3).2) := act_life x 2 t3 HCX.out (by decide)
                    have HCL := Lib.hid (agree_any x W2)
                    generalize turnI x 1 3 = r at HCL HACT
                    obtain ⟨y, E⟩ := r
                    have HCL : Hid (Calls Try.prog 9 #[.agg #[.int .i64 x.s, .int .i64 x.n, .int .i64 x.b, .int .i64 x.c, .int .i64 x.a, .int .i64 x.r, .int .i64 x.t, .int .i64 x.y]] W2 fun e w' => e = .returned (.tuple #[.agg #[.int .i64 y.s, .int .i64 y.n, .int .i64 y.b, .int .i64 y.c, .int .i64 y.a, .int .i64 y.r, .int .i64 y.t, .int .i64 y.y], .int .i64 E]) ∧ Below W2.heap.size W2 w') := HCL.out
                    have x0 : W2.cell? ⟨gx, 0, none⟩ = some (.int .i64 x.s) := HXY.out.cell 0
                    have x1 : W2.cell? ⟨gx, 1, none⟩ = some (.int .i64 x.n) := HXY.out.cell 1
                    have x2 : W2.cell? ⟨gx, 2, none⟩ = some (.int .i64 x.b) := HXY.out.cell 2
                    have x3 : W2.cell? ⟨gx, 3, none⟩ = some (.int .i64 x.c) := HXY.out.cell 3
                    have x4 : W2.cell? ⟨gx, 4, none⟩ = some (.int .i64 x.a) := HXY.out.cell 4
                    have x5 : W2.cell? ⟨gx, 5, none⟩ = some (.int .i64 x.r) := HXY.out.cell 5
                    have x6 : W2.cell? ⟨gx, 6, none⟩ = some (.int .i64 x.t) := HXY.out.cell 6
                    have x7 : W2.cell? ⟨gx, 7, none⟩ = some (.int .i64 x.y) := HXY.out.cell 7

                    go_wp2_with fail
                    refine HCL.out.mono ?_
                    rintro q w6 ⟨rfl, hb6⟩
                    have HB6 := Lib.hid (HBY.out.trans (hb6.mono HBY.out.size))
                    have HX6 := Lib.hid (HXY.out.below hb6 HXY.out.lt)
                    have HY6 := Lib.hid (HYY.out.below hb6 HYY.out.lt)
                    clear hb6 x0 x1 x2 x3 x4 x5 x6 x7 HCL
                    have HTH : Hid (w6.there gy 0 (#[.int .i64 y.s, .int .i64 y.n, .int .i64 y.b, .int .i64 y.c, .int .i64 y.a, .int .i64 y.r, .int .i64 y.t, .int .i64 y.y] : Array Value).size) := HY6.out.thereAt
                    have HFN : Hid (Blk (w6.setCells gy 0 (#[.int .i64 y.s, .int .i64 y.n, .int .i64 y.b, .int .i64 y.c, .int .i64 y.a, .int .i64 y.r, .int .i64 y.t, .int .i64 y.y] : Array Value).toList) gy #[.int .i64 y.s, .int .i64 y.n, .int .i64 y.b, .int .i64 y.c, .int .i64 y.a, .int .i64 y.r, .int .i64 y.t, .int .i64 y.y] 33 ∧ Blk (w6.setCells gy 0 (#[.int .i64 y.s, .int .i64 y.n, .int .i64 y.b, .int .i64 y.c, .int .i64 y.a, .int .i64 y.r, .int .i64 y.t, .int .i64 y.y] : Array Value).toList) gx #[.int .i64 x.s, .int .i64 x.n, .int .i64 x.b, .int .i64 x.c, .int .i64 x.a, .int .i64 x.r, .int .i64 x.t, .int .i64 x.y] 33 ∧ Below W0.heap.size W0 (w6.setCells gy 0 (#[.int .i64 y.s, .int .i64 y.n, .int .i64 y.b, .int .i64 y.c, .int .i64 y.a, .int .i64 y.r, .int .i64 y.t, .int .i64 y.y] : Array Value).toList)) := ⟨blk_put_all HY6.out #[.int .i64 y.s, .int .i64 y.n, .int .i64 y.b, .int .i64 y.c, .int .i64 y.a, .int .i64 y.r, .int .i64 y.t, .int .i64 y.y] rfl, blk_putOther (Nat.ne_of_gt HGXY.out) _ _ _ HX6.out, below_put HGY.out _ _ _ _ HB6.out⟩
                    clear HB6 HX6 HY6
                    go_wp2_with (with_reducible refine stop_storeT 33 (.tmp 16) (.tmp 131) rfl ?_)
                    refine wpList_store_mid rfl 33 (.tmp 16) (.tmp 131) rfl gy 0 #[.int .i64 y.s, .int .i64 y.n, .int .i64 y.b, .int .i64 y.c, .int .i64 y.a, .int .i64 y.r, .int .i64 y.t, .int .i64 y.y] rfl rfl HTH.out HINF.out (all_oneCell_toArray (encI.one y)) ?_
                    generalize World.setCells w6 gy 0 _ = W7 at *
                    clear HTH
                    go_wp2_with fail
                    go_meet
                    exact ⟨E, y, rfl, rfl, HACT, HFN⟩
                by_cases hk3 : t2 = 3
                · subst hk3
                  as_aux_lemma =>
                    have HACT : Hid (ActOk x (turnI x 2 4).1 (turnI x 2 4).2) := act_life x 3 t3 HCX.out (by decide)
                    have HCL := Lib.hid (cancel_any x W2)
                    generalize turnI x 2 4 = r at HCL HACT
                    obtain ⟨y, E⟩ := r
                    have HCL : Hid (Calls Try.prog 10 #[.agg #[.int .i64 x.s, .int .i64 x.n, .int .i64 x.b, .int .i64 x.c, .int .i64 x.a, .int .i64 x.r, .int .i64 x.t, .int .i64 x.y]] W2 fun e w' => e = .returned (.tuple #[.agg #[.int .i64 y.s, .int .i64 y.n, .int .i64 y.b, .int .i64 y.c, .int .i64 y.a, .int .i64 y.r, .int .i64 y.t, .int .i64 y.y], .int .i64 E]) ∧ Below W2.heap.size W2 w') := HCL.out
                    have x0 : W2.cell? ⟨gx, 0, none⟩ = some (.int .i64 x.s) := HXY.out.cell 0
                    have x1 : W2.cell? ⟨gx, 1, none⟩ = some (.int .i64 x.n) := HXY.out.cell 1
                    have x2 : W2.cell? ⟨gx, 2, none⟩ = some (.int .i64 x.b) := HXY.out.cell 2
                    have x3 : W2.cell? ⟨gx, 3, none⟩ = some (.int .i64 x.c) := HXY.out.cell 3
                    have x4 : W2.cell? ⟨gx, 4, none⟩ = some (.int .i64 x.a) := HXY.out.cell 4
                    have x5 : W2.cell? ⟨gx, 5, none⟩ = some (.int .i64 x.r) := HXY.out.cell 5
                    have x6 : W2.cell? ⟨gx, 6, none⟩ = some (.int .i64 x.t) := HXY.out.cell 6
                    have x7 : W2.cell? ⟨gx, 7, none⟩ = some (.int .i64 x.y) := HXY.out.cell 7

                    go_wp2_with fail
                    refine HCL.out.mono ?_
                    rintro q w6 ⟨rfl, hb6⟩
                    have HB6 := Lib.hid (HBY.out.trans (hb6.mono HBY.out.size))
                    have HX6 := Lib.hid (HXY.out.below hb6 HXY.out.lt)
                    have HY6 := Lib.hid (HYY.out.below hb6 HYY.out.lt)
                    clear hb6 x0 x1 x2 x3 x4 x5 x6 x7 HCL
                    have HTH : Hid (w6.there gy 0 (#[.int .i64 y.s, .int .i64 y.n, .int .i64 y.b, .int .i64 y.c, .int .i64 y.a, .int .i64 y.r, .int .i64 y.t, .int .i64 y.y] : Array Value).size) := HY6.out.thereAt
                    have HFN : Hid (Blk (w6.setCells gy 0 (#[.int .i64 y.s, .int .i64 y.n, .int .i64 y.b, .int .i64 y.c, .int .i64 y.a, .int .i64 y.r, .int .i64 y.t, .int .i64 y.y] : Array Value).toList) gy #[.int .i64 y.s, .int .i64 y.n, .int .i64 y.b, .int .i64 y.c, .int .i64 y.a, .int .i64 y.r, .int .i64 y.t, .int .i64 y.y] 33 ∧ Blk (w6.setCells gy 0 (#[.int .i64 y.s, .int .i64 y.n, .int .i64 y.b, .int .i64 y.c, .int .i64 y.a, .int .i64 y.r, .int .i64 y.t, .int .i64 y.y] : Array Value).toList) gx #[.int .i64 x.s, .int .i64 x.n, .int .i64 x.b, .int .i64 x.c, .int .i64 x.a, .int .i64 x.r, .int .i64 x.t, .int .i64 x.y] 33 ∧ Below W0.heap.size W0 (w6.setCells gy 0 (#[.int .i64 y.s, .int .i64 y.n, .int .i64 y.b, .int .i64 y.c, .int .i64 y.a, .int .i64 y.r, .int .i64 y.t, .int .i64 y.y] : Array Value).toList)) := ⟨blk_put_all HY6.out #[.int .i64 y.s, .int .i64 y.n, .int .i64 y.b, .int .i64 y.c, .int .i64 y.a, .int .i64 y.r, .int .i64 y.t, .int .i64 y.y] rfl, blk_putOther (Nat.ne_of_gt HGXY.out) _ _ _ HX6.out, below_put HGY.out _ _ _ _ HB6.out⟩
                    clear HB6 HX6 HY6
                    go_wp2_with (with_reducible refine stop_storeT 33 (.tmp 16) (.tmp 138) rfl ?_)
                    refine wpList_store_mid rfl 33 (.tmp 16) (.tmp 138) rfl gy 0 #[.int .i64 y.s, .int .i64 y.n, .int .i64 y.b, .int .i64 y.c, .int .i64 y.a, .int .i64 y.r, .int .i64 y.t, .int .i64 y.y] rfl rfl HTH.out HINF.out (all_oneCell_toArray (encI.one y)) ?_
                    generalize World.setCells w6 gy 0 _ = W7 at *
                    clear HTH
                    go_wp2_with fail
                    go_meet
                    exact ⟨E, y, rfl, rfl, HACT, HFN⟩
                by_cases hk4 : t2 = 4
                · subst hk4
                  as_aux_lemma =>
                    have HACT : Hid (ActOk x (adjI x t3).1 (adjI x t3).2) := act_life x 4 t3 HCX.out (by decide)
                    have HCL := Lib.hid (adjust_any x t3 W2 (by have := (chk_ok HCX.out).2.1; unfold numsOk at this; unfold F64; omega))
                    generalize adjI x t3 = r at HCL HACT
                    obtain ⟨y, E⟩ := r
                    have HCL : Hid (Calls Try.prog 11 #[.agg #[.int .i64 x.s, .int .i64 x.n, .int .i64 x.b, .int .i64 x.c, .int .i64 x.a, .int .i64 x.r, .int .i64 x.t, .int .i64 x.y], .int .i64 t3] W2 fun e w' => e = .returned (.tuple #[.agg #[.int .i64 y.s, .int .i64 y.n, .int .i64 y.b, .int .i64 y.c, .int .i64 y.a, .int .i64 y.r, .int .i64 y.t, .int .i64 y.y], .int .i64 E]) ∧ Below W2.heap.size W2 w') := HCL.out
                    have x0 : W2.cell? ⟨gx, 0, none⟩ = some (.int .i64 x.s) := HXY.out.cell 0
                    have x1 : W2.cell? ⟨gx, 1, none⟩ = some (.int .i64 x.n) := HXY.out.cell 1
                    have x2 : W2.cell? ⟨gx, 2, none⟩ = some (.int .i64 x.b) := HXY.out.cell 2
                    have x3 : W2.cell? ⟨gx, 3, none⟩ = some (.int .i64 x.c) := HXY.out.cell 3
                    have x4 : W2.cell? ⟨gx, 4, none⟩ = some (.int .i64 x.a) := HXY.out.cell 4
                    have x5 : W2.cell? ⟨gx, 5, none⟩ = some (.int .i64 x.r) := HXY.out.cell 5
                    have x6 : W2.cell? ⟨gx, 6, none⟩ = some (.int .i64 x.t) := HXY.out.cell 6
                    have x7 : W2.cell? ⟨gx, 7, none⟩ = some (.int .i64 x.y) := HXY.out.cell 7
                    have u2 : W2.cell? ⟨gt, 2, none⟩ = some (.int .i64 t3) := HTY.out.cell 2
                    go_wp2_with fail
                    refine HCL.out.mono ?_
                    rintro q w6 ⟨rfl, hb6⟩
                    have HB6 := Lib.hid (HBY.out.trans (hb6.mono HBY.out.size))
                    have HX6 := Lib.hid (HXY.out.below hb6 HXY.out.lt)
                    have HY6 := Lib.hid (HYY.out.below hb6 HYY.out.lt)
                    clear hb6 x0 x1 x2 x3 x4 x5 x6 x7 HCL
                    have HTH : Hid (w6.there gy 0 (#[.int .i64 y.s, .int .i64 y.n, .int .i64 y.b, .int .i64 y.c, .int .i64 y.a, .int .i64 y.r, .int .i64 y.t, .int .i64 y.y] : Array Value).size) := HY6.out.thereAt
                    have HFN : Hid (Blk (w6.setCells gy 0 (#[.int .i64 y.s, .int .i64 y.n, .int .i64 y.b, .int .i64 y.c, .int .i64 y.a, .int .i64 y.r, .int .i64 y.t, .int .i64 y.y] : Array Value).toList) gy #[.int .i64 y.s, .int .i64 y.n, .int .i64 y.b, .int .i64 y.c, .int .i64 y.a, .int .i64 y.r, .int .i64 y.t, .int .i64 y.y] 33 ∧ Blk (w6.setCells gy 0 (#[.int .i64 y.s, .int .i64 y.n, .int .i64 y.b, .int .i64 y.c, .int .i64 y.a, .int .i64 y.r, .int .i64 y.t, .int .i64 y.y] : Array Value).toList) gx #[.int .i64 x.s, .int .i64 x.n, .int .i64 x.b, .int .i64 x.c, .int .i64 x.a, .int .i64 x.r, .int .i64 x.t, .int .i64 x.y] 33 ∧ Below W0.heap.size W0 (w6.setCells gy 0 (#[.int .i64 y.s, .int .i64 y.n, .int .i64 y.b, .int .i64 y.c, .int .i64 y.a, .int .i64 y.r, .int .i64 y.t, .int .i64 y.y] : Array Value).toList)) := ⟨blk_put_all HY6.out #[.int .i64 y.s, .int .i64 y.n, .int .i64 y.b, .int .i64 y.c, .int .i64 y.a, .int .i64 y.r, .int .i64 y.t, .int .i64 y.y] rfl, blk_putOther (Nat.ne_of_gt HGXY.out) _ _ _ HX6.out, below_put HGY.out _ _ _ _ HB6.out⟩
                    clear HB6 HX6 HY6
                    go_wp2_with (with_reducible refine stop_storeT 33 (.tmp 16) (.tmp 147) rfl ?_)
                    refine wpList_store_mid rfl 33 (.tmp 16) (.tmp 147) rfl gy 0 #[.int .i64 y.s, .int .i64 y.n, .int .i64 y.b, .int .i64 y.c, .int .i64 y.a, .int .i64 y.r, .int .i64 y.t, .int .i64 y.y] rfl rfl HTH.out HINF.out (all_oneCell_toArray (encI.one y)) ?_
                    generalize World.setCells w6 gy 0 _ = W7 at *
                    clear HTH
                    go_wp2_with fail
                    go_meet
                    exact ⟨E, y, rfl, rfl, HACT, HFN⟩
                by_cases hk5 : t2 = 5
                · subst hk5
                  as_aux_lemma =>
                    have HACT : Hid (ActOk x (lockI x t3).1 (lockI x t3).2) := act_life x 5 t3 HCX.out (by decide)
                    have HCL := Lib.hid (lock_any x t3 W2)
                    generalize lockI x t3 = r at HCL HACT
                    obtain ⟨y, E⟩ := r
                    have HCL : Hid (Calls Try.prog 12 #[.agg #[.int .i64 x.s, .int .i64 x.n, .int .i64 x.b, .int .i64 x.c, .int .i64 x.a, .int .i64 x.r, .int .i64 x.t, .int .i64 x.y], .int .i64 t3] W2 fun e w' => e = .returned (.tuple #[.agg #[.int .i64 y.s, .int .i64 y.n, .int .i64 y.b, .int .i64 y.c, .int .i64 y.a, .int .i64 y.r, .int .i64 y.t, .int .i64 y.y], .int .i64 E]) ∧ Below W2.heap.size W2 w') := HCL.out
                    have x0 : W2.cell? ⟨gx, 0, none⟩ = some (.int .i64 x.s) := HXY.out.cell 0
                    have x1 : W2.cell? ⟨gx, 1, none⟩ = some (.int .i64 x.n) := HXY.out.cell 1
                    have x2 : W2.cell? ⟨gx, 2, none⟩ = some (.int .i64 x.b) := HXY.out.cell 2
                    have x3 : W2.cell? ⟨gx, 3, none⟩ = some (.int .i64 x.c) := HXY.out.cell 3
                    have x4 : W2.cell? ⟨gx, 4, none⟩ = some (.int .i64 x.a) := HXY.out.cell 4
                    have x5 : W2.cell? ⟨gx, 5, none⟩ = some (.int .i64 x.r) := HXY.out.cell 5
                    have x6 : W2.cell? ⟨gx, 6, none⟩ = some (.int .i64 x.t) := HXY.out.cell 6
                    have x7 : W2.cell? ⟨gx, 7, none⟩ = some (.int .i64 x.y) := HXY.out.cell 7
                    have u2 : W2.cell? ⟨gt, 2, none⟩ = some (.int .i64 t3) := HTY.out.cell 2
                    go_wp2_with fail
                    refine HCL.out.mono ?_
                    rintro q w6 ⟨rfl, hb6⟩
                    have HB6 := Lib.hid (HBY.out.trans (hb6.mono HBY.out.size))
                    have HX6 := Lib.hid (HXY.out.below hb6 HXY.out.lt)
                    have HY6 := Lib.hid (HYY.out.below hb6 HYY.out.lt)
                    clear hb6 x0 x1 x2 x3 x4 x5 x6 x7 HCL
                    have HTH : Hid (w6.there gy 0 (#[.int .i64 y.s, .int .i64 y.n, .int .i64 y.b, .int .i64 y.c, .int .i64 y.a, .int .i64 y.r, .int .i64 y.t, .int .i64 y.y] : Array Value).size) := HY6.out.thereAt
                    have HFN : Hid (Blk (w6.setCells gy 0 (#[.int .i64 y.s, .int .i64 y.n, .int .i64 y.b, .int .i64 y.c, .int .i64 y.a, .int .i64 y.r, .int .i64 y.t, .int .i64 y.y] : Array Value).toList) gy #[.int .i64 y.s, .int .i64 y.n, .int .i64 y.b, .int .i64 y.c, .int .i64 y.a, .int .i64 y.r, .int .i64 y.t, .int .i64 y.y] 33 ∧ Blk (w6.setCells gy 0 (#[.int .i64 y.s, .int .i64 y.n, .int .i64 y.b, .int .i64 y.c, .int .i64 y.a, .int .i64 y.r, .int .i64 y.t, .int .i64 y.y] : Array Value).toList) gx #[.int .i64 x.s, .int .i64 x.n, .int .i64 x.b, .int .i64 x.c, .int .i64 x.a, .int .i64 x.r, .int .i64 x.t, .int .i64 x.y] 33 ∧ Below W0.heap.size W0 (w6.setCells gy 0 (#[.int .i64 y.s, .int .i64 y.n, .int .i64 y.b, .int .i64 y.c, .int .i64 y.a, .int .i64 y.r, .int .i64 y.t, .int .i64 y.y] : Array Value).toList)) := ⟨blk_put_all HY6.out #[.int .i64 y.s, .int .i64 y.n, .int .i64 y.b, .int .i64 y.c, .int .i64 y.a, .int .i64 y.r, .int .i64 y.t, .int .i64 y.y] rfl, blk_putOther (Nat.ne_of_gt HGXY.out) _ _ _ HX6.out, below_put HGY.out _ _ _ _ HB6.out⟩
                    clear HB6 HX6 HY6
                    go_wp2_with (with_reducible refine stop_storeT 33 (.tmp 16) (.tmp 156) rfl ?_)
                    refine wpList_store_mid rfl 33 (.tmp 16) (.tmp 156) rfl gy 0 #[.int .i64 y.s, .int .i64 y.n, .int .i64 y.b, .int .i64 y.c, .int .i64 y.a, .int .i64 y.r, .int .i64 y.t, .int .i64 y.y] rfl rfl HTH.out HINF.out (all_oneCell_toArray (encI.one y)) ?_
                    generalize World.setCells w6 gy 0 _ = W7 at *
                    clear HTH
                    go_wp2_with fail
                    go_meet
                    exact ⟨E, y, rfl, rfl, HACT, HFN⟩
                by_cases hk6 : t2 = 6
                · subst hk6
                  as_aux_lemma =>
                    have HACT : Hid (ActOk x (freeI x).1 (freeI x).2) := act_life x 6 t3 HCX.out (by decide)
                    have HCL := Lib.hid (free_any x W2)
                    generalize freeI x = r at HCL HACT
                    obtain ⟨y, E⟩ := r
                    have HCL : Hid (Calls Try.prog 13 #[.agg #[.int .i64 x.s, .int .i64 x.n, .int .i64 x.b, .int .i64 x.c, .int .i64 x.a, .int .i64 x.r, .int .i64 x.t, .int .i64 x.y]] W2 fun e w' => e = .returned (.tuple #[.agg #[.int .i64 y.s, .int .i64 y.n, .int .i64 y.b, .int .i64 y.c, .int .i64 y.a, .int .i64 y.r, .int .i64 y.t, .int .i64 y.y], .int .i64 E]) ∧ Below W2.heap.size W2 w') := HCL.out
                    have x0 : W2.cell? ⟨gx, 0, none⟩ = some (.int .i64 x.s) := HXY.out.cell 0
                    have x1 : W2.cell? ⟨gx, 1, none⟩ = some (.int .i64 x.n) := HXY.out.cell 1
                    have x2 : W2.cell? ⟨gx, 2, none⟩ = some (.int .i64 x.b) := HXY.out.cell 2
                    have x3 : W2.cell? ⟨gx, 3, none⟩ = some (.int .i64 x.c) := HXY.out.cell 3
                    have x4 : W2.cell? ⟨gx, 4, none⟩ = some (.int .i64 x.a) := HXY.out.cell 4
                    have x5 : W2.cell? ⟨gx, 5, none⟩ = some (.int .i64 x.r) := HXY.out.cell 5
                    have x6 : W2.cell? ⟨gx, 6, none⟩ = some (.int .i64 x.t) := HXY.out.cell 6
                    have x7 : W2.cell? ⟨gx, 7, none⟩ = some (.int .i64 x.y) := HXY.out.cell 7

                    go_wp2_with fail
                    refine HCL.out.mono ?_
                    rintro q w6 ⟨rfl, hb6⟩
                    have HB6 := Lib.hid (HBY.out.trans (hb6.mono HBY.out.size))
                    have HX6 := Lib.hid (HXY.out.below hb6 HXY.out.lt)
                    have HY6 := Lib.hid (HYY.out.below hb6 HYY.out.lt)
                    clear hb6 x0 x1 x2 x3 x4 x5 x6 x7 HCL
                    have HTH : Hid (w6.there gy 0 (#[.int .i64 y.s, .int .i64 y.n, .int .i64 y.b, .int .i64 y.c, .int .i64 y.a, .int .i64 y.r, .int .i64 y.t, .int .i64 y.y] : Array Value).size) := HY6.out.thereAt
                    have HFN : Hid (Blk (w6.setCells gy 0 (#[.int .i64 y.s, .int .i64 y.n, .int .i64 y.b, .int .i64 y.c, .int .i64 y.a, .int .i64 y.r, .int .i64 y.t, .int .i64 y.y] : Array Value).toList) gy #[.int .i64 y.s, .int .i64 y.n, .int .i64 y.b, .int .i64 y.c, .int .i64 y.a, .int .i64 y.r, .int .i64 y.t, .int .i64 y.y] 33 ∧ Blk (w6.setCells gy 0 (#[.int .i64 y.s, .int .i64 y.n, .int .i64 y.b, .int .i64 y.c, .int .i64 y.a, .int .i64 y.r, .int .i64 y.t, .int .i64 y.y] : Array Value).toList) gx #[.int .i64 x.s, .int .i64 x.n, .int .i64 x.b, .int .i64 x.c, .int .i64 x.a, .int .i64 x.r, .int .i64 x.t, .int .i64 x.y] 33 ∧ Below W0.heap.size W0 (w6.setCells gy 0 (#[.int .i64 y.s, .int .i64 y.n, .int .i64 y.b, .int .i64 y.c, .int .i64 y.a, .int .i64 y.r, .int .i64 y.t, .int .i64 y.y] : Array Value).toList)) := ⟨blk_put_all HY6.out #[.int .i64 y.s, .int .i64 y.n, .int .i64 y.b, .int .i64 y.c, .int .i64 y.a, .int .i64 y.r, .int .i64 y.t, .int .i64 y.y] rfl, blk_putOther (Nat.ne_of_gt HGXY.out) _ _ _ HX6.out, below_put HGY.out _ _ _ _ HB6.out⟩
                    clear HB6 HX6 HY6
                    go_wp2_with (with_reducible refine stop_storeT 33 (.tmp 16) (.tmp 163) rfl ?_)
                    refine wpList_store_mid rfl 33 (.tmp 16) (.tmp 163) rfl gy 0 #[.int .i64 y.s, .int .i64 y.n, .int .i64 y.b, .int .i64 y.c, .int .i64 y.a, .int .i64 y.r, .int .i64 y.t, .int .i64 y.y] rfl rfl HTH.out HINF.out (all_oneCell_toArray (encI.one y)) ?_
                    generalize World.setCells w6 gy 0 _ = W7 at *
                    clear HTH
                    go_wp2_with fail
                    go_meet
                    exact ⟨E, y, rfl, rfl, HACT, HFN⟩
                by_cases hk7 : t2 = 7
                · subst hk7
                  as_aux_lemma =>
                    have HACT : Hid (ActOk x (settleI x).1 (settleI x).2) := act_life x 7 t3 HCX.out (by decide)
                    have HCL := Lib.hid (settle_any x W2)
                    generalize settleI x = r at HCL HACT
                    obtain ⟨y, E⟩ := r
                    have HCL : Hid (Calls Try.prog 14 #[.agg #[.int .i64 x.s, .int .i64 x.n, .int .i64 x.b, .int .i64 x.c, .int .i64 x.a, .int .i64 x.r, .int .i64 x.t, .int .i64 x.y]] W2 fun e w' => e = .returned (.tuple #[.agg #[.int .i64 y.s, .int .i64 y.n, .int .i64 y.b, .int .i64 y.c, .int .i64 y.a, .int .i64 y.r, .int .i64 y.t, .int .i64 y.y], .int .i64 E]) ∧ Below W2.heap.size W2 w') := HCL.out
                    have x0 : W2.cell? ⟨gx, 0, none⟩ = some (.int .i64 x.s) := HXY.out.cell 0
                    have x1 : W2.cell? ⟨gx, 1, none⟩ = some (.int .i64 x.n) := HXY.out.cell 1
                    have x2 : W2.cell? ⟨gx, 2, none⟩ = some (.int .i64 x.b) := HXY.out.cell 2
                    have x3 : W2.cell? ⟨gx, 3, none⟩ = some (.int .i64 x.c) := HXY.out.cell 3
                    have x4 : W2.cell? ⟨gx, 4, none⟩ = some (.int .i64 x.a) := HXY.out.cell 4
                    have x5 : W2.cell? ⟨gx, 5, none⟩ = some (.int .i64 x.r) := HXY.out.cell 5
                    have x6 : W2.cell? ⟨gx, 6, none⟩ = some (.int .i64 x.t) := HXY.out.cell 6
                    have x7 : W2.cell? ⟨gx, 7, none⟩ = some (.int .i64 x.y) := HXY.out.cell 7

                    go_wp2_with fail
                    refine HCL.out.mono ?_
                    rintro q w6 ⟨rfl, hb6⟩
                    have HB6 := Lib.hid (HBY.out.trans (hb6.mono HBY.out.size))
                    have HX6 := Lib.hid (HXY.out.below hb6 HXY.out.lt)
                    have HY6 := Lib.hid (HYY.out.below hb6 HYY.out.lt)
                    clear hb6 x0 x1 x2 x3 x4 x5 x6 x7 HCL
                    have HTH : Hid (w6.there gy 0 (#[.int .i64 y.s, .int .i64 y.n, .int .i64 y.b, .int .i64 y.c, .int .i64 y.a, .int .i64 y.r, .int .i64 y.t, .int .i64 y.y] : Array Value).size) := HY6.out.thereAt
                    have HFN : Hid (Blk (w6.setCells gy 0 (#[.int .i64 y.s, .int .i64 y.n, .int .i64 y.b, .int .i64 y.c, .int .i64 y.a, .int .i64 y.r, .int .i64 y.t, .int .i64 y.y] : Array Value).toList) gy #[.int .i64 y.s, .int .i64 y.n, .int .i64 y.b, .int .i64 y.c, .int .i64 y.a, .int .i64 y.r, .int .i64 y.t, .int .i64 y.y] 33 ∧ Blk (w6.setCells gy 0 (#[.int .i64 y.s, .int .i64 y.n, .int .i64 y.b, .int .i64 y.c, .int .i64 y.a, .int .i64 y.r, .int .i64 y.t, .int .i64 y.y] : Array Value).toList) gx #[.int .i64 x.s, .int .i64 x.n, .int .i64 x.b, .int .i64 x.c, .int .i64 x.a, .int .i64 x.r, .int .i64 x.t, .int .i64 x.y] 33 ∧ Below W0.heap.size W0 (w6.setCells gy 0 (#[.int .i64 y.s, .int .i64 y.n, .int .i64 y.b, .int .i64 y.c, .int .i64 y.a, .int .i64 y.r, .int .i64 y.t, .int .i64 y.y] : Array Value).toList)) := ⟨blk_put_all HY6.out #[.int .i64 y.s, .int .i64 y.n, .int .i64 y.b, .int .i64 y.c, .int .i64 y.a, .int .i64 y.r, .int .i64 y.t, .int .i64 y.y] rfl, blk_putOther (Nat.ne_of_gt HGXY.out) _ _ _ HX6.out, below_put HGY.out _ _ _ _ HB6.out⟩
                    clear HB6 HX6 HY6
                    go_wp2_with (with_reducible refine stop_storeT 33 (.tmp 16) (.tmp 170) rfl ?_)
                    refine wpList_store_mid rfl 33 (.tmp 16) (.tmp 170) rfl gy 0 #[.int .i64 y.s, .int .i64 y.n, .int .i64 y.b, .int .i64 y.c, .int .i64 y.a, .int .i64 y.r, .int .i64 y.t, .int .i64 y.y] rfl rfl HTH.out HINF.out (all_oneCell_toArray (encI.one y)) ?_
                    generalize World.setCells w6 gy 0 _ = W7 at *
                    clear HTH
                    go_wp2_with fail
                    go_meet
                    exact ⟨E, y, rfl, rfl, HACT, HFN⟩
                go_wp2_with fail
                go_meet
                exact ⟨110, x, rfl, rfl, Lib.hid ⟨HCX.out, rfl, fun _ => rfl, fun h => absurd h (by decide), by decide⟩, Lib.hid ⟨HYY.out, HXY.out, HBY.out⟩⟩
            case rest =>
              obtain ⟨E, y, rfl, rfl, HACT, HC⟩ := hcut
              have HSB := Lib.hid (HS0.out.kept HC.out.2.2)
              have HYB := Lib.hid HC.out.1
              go_upto_region 36 with fail
              go_cut [93, 186] from 93 to 267 (fun i c wx => i = .int .i64 k ∧ c = .bool false ∧ Hid (Blk wx gy #[.int .i64 y.s, .int .i64 y.n, .int .i64 y.b, .int .i64 y.c, .int .i64 y.a, .int .i64 y.r, .int .i64 y.t, .int .i64 y.y] 33 ∧ BS2 w ga gb X X (.slice (some ⟨b, o, none⟩) na ca) (.slice pb na cb) wx))
              case first =>
                as_aux_lemma =>
                  have HOV := Lib.hid (fun W => over_any x W)
                  have x0 : wc.cell? ⟨gx, 0, none⟩ = some (.int .i64 x.s) := HC.out.2.1.cell 0
                  have x1 : wc.cell? ⟨gx, 1, none⟩ = some (.int .i64 x.n) := HC.out.2.1.cell 1
                  have x2 : wc.cell? ⟨gx, 2, none⟩ = some (.int .i64 x.b) := HC.out.2.1.cell 2
                  have x3 : wc.cell? ⟨gx, 3, none⟩ = some (.int .i64 x.c) := HC.out.2.1.cell 3
                  have x4 : wc.cell? ⟨gx, 4, none⟩ = some (.int .i64 x.a) := HC.out.2.1.cell 4
                  have x5 : wc.cell? ⟨gx, 5, none⟩ = some (.int .i64 x.r) := HC.out.2.1.cell 5
                  have x6 : wc.cell? ⟨gx, 6, none⟩ = some (.int .i64 x.t) := HC.out.2.1.cell 6
                  have x7 : wc.cell? ⟨gx, 7, none⟩ = some (.int .i64 x.y) := HC.out.2.1.cell 7
                  by_cases hE : E = 0
                  · have HOF : Hid (overI x = false) := HACT.out.2.2.2.1 hE
                    subst hE
                    rw [HOF.out] at HOV
                    unfold Itm.v at HOV
                    go_wp2_with fail
                    refine (HOV.out _).mono ?_
                    rintro q w6 ⟨rfl, hb6⟩
                    have HFN : Hid (Blk w6 gy #[.int .i64 y.s, .int .i64 y.n, .int .i64 y.b, .int .i64 y.c, .int .i64 y.a, .int .i64 y.r, .int .i64 y.t, .int .i64 y.y] 33 ∧ BS2 w ga gb X X (.slice (some ⟨b, o, none⟩) na ca) (.slice pb na cb) w6) := ⟨HYB.out.below hb6 HYB.out.lt, HSB.out.kept hb6⟩
                    clear hb6 HOV x0 x1 x2 x3 x4 x5 x6 x7
                    go_wp2_with fail
                    go_meet
                    exact ⟨rfl, rfl, HFN⟩
                  · have hEb : (E != 0) = true := by simpa using hE
                    have hE0 : (E == 0) = false := by simpa using hE
                    have hyx : y = x := HACT.out.2.2.1 hE
                    subst hyx
                    clear hE
                    have z0 : wc.cell? ⟨gy, 0, none⟩ = some (.int .i64 y.s) := HYB.out.cell 0
                    have z1 : wc.cell? ⟨gy, 1, none⟩ = some (.int .i64 y.n) := HYB.out.cell 1
                    have z2 : wc.cell? ⟨gy, 2, none⟩ = some (.int .i64 y.b) := HYB.out.cell 2
                    have z3 : wc.cell? ⟨gy, 3, none⟩ = some (.int .i64 y.c) := HYB.out.cell 3
                    have z4 : wc.cell? ⟨gy, 4, none⟩ = some (.int .i64 y.a) := HYB.out.cell 4
                    have z5 : wc.cell? ⟨gy, 5, none⟩ = some (.int .i64 y.r) := HYB.out.cell 5
                    have z6 : wc.cell? ⟨gy, 6, none⟩ = some (.int .i64 y.t) := HYB.out.cell 6
                    have z7 : wc.cell? ⟨gy, 7, none⟩ = some (.int .i64 y.y) := HYB.out.cell 7
                    generalize overI y = ov at HOV
                    unfold Itm.v at HOV
                    cases ov
                    all_goals (
                      go_wp2_with fail
                      refine (HOV.out _).mono ?_
                      rintro q w6 ⟨rfl, hb6⟩
                      have HFN : Hid (Blk w6 gy #[.int .i64 y.s, .int .i64 y.n, .int .i64 y.b, .int .i64 y.c, .int .i64 y.a, .int .i64 y.r, .int .i64 y.t, .int .i64 y.y] 33 ∧ BS2 w ga gb X X (.slice (some ⟨b, o, none⟩) na ca) (.slice pb na cb) w6) := ⟨HYB.out.below hb6 HYB.out.lt, HSB.out.kept hb6⟩
                      clear hb6 HOV
                      go_wp2_with fail
                      go_meet
                      exact ⟨rfl, rfl, HFN⟩)
              case rest =>
                obtain ⟨rfl, rfl, HD⟩ := hcut
                have HX7 := Lib.hid HD.out.1
                have HS7 := Lib.hid HD.out.2
                have HYS : Hid (y.s + y.b = 1) := by show _ = _; rw [HACT.out.2.1]; exact HONE.out
                have HGT : Hid (ga < gy ∧ gb < gy) := by
                  have h1 := HS0.out.blkA.lt
                  have h2 := HS0.out.blkB.lt
                  have h3 := HGY.out
                  exact ⟨by omega, by omega⟩
                have HNEa : Hid (gy ≠ ga) := Nat.ne_of_gt HGT.out.1
                have HNEb : Hid (gy ≠ gb) := Nat.ne_of_gt HGT.out.2
                clear HSB HYB HD HC
                go_upto_region 38 with fail
                have HPT := Lib.hid (bs_putA HS7.out y HXG.out (by have := HXL.out; have := HNA.out; omega) HACT.out.1 HYS.out)
                unfold bookV Itm.v at HPT
                have b0 : wc.cell? ⟨ga, 0, none⟩ = some (.int .i64 0) := HS7.out.blkA.cell 0
                have b1 : wc.cell? ⟨ga, 1, none⟩ = some (.slice (some ⟨b, o, none⟩) na ca) := HS7.out.blkA.cell 1
                have b2 : wc.cell? ⟨ga, 2, none⟩ = some (.slice none 0 0) := HS7.out.blkA.cell 2
                have x0 : wc.cell? ⟨gy, 0, none⟩ = some (.int .i64 y.s) := HX7.out.cell 0
                have x1 : wc.cell? ⟨gy, 1, none⟩ = some (.int .i64 y.n) := HX7.out.cell 1
                have x2 : wc.cell? ⟨gy, 2, none⟩ = some (.int .i64 y.b) := HX7.out.cell 2
                have x3 : wc.cell? ⟨gy, 3, none⟩ = some (.int .i64 y.c) := HX7.out.cell 3
                have x4 : wc.cell? ⟨gy, 4, none⟩ = some (.int .i64 y.a) := HX7.out.cell 4
                have x5 : wc.cell? ⟨gy, 5, none⟩ = some (.int .i64 y.r) := HX7.out.cell 5
                have x6 : wc.cell? ⟨gy, 6, none⟩ = some (.int .i64 y.t) := HX7.out.cell 6
                have x7 : wc.cell? ⟨gy, 7, none⟩ = some (.int .i64 y.y) := HX7.out.cell 7
                go_wp2_with fail
                refine HPT.out.mono ?_
                rintro y z8 ⟨pp8, nn8, cc8, rfl, hk8, hb8, hs8⟩
                have HK8 := Lib.hid hk8
                have HX8 : Hid (Blk (st3 z8 ga (.int .i64 0) (.slice pp8 nn8 cc8) (.slice none 0 0)) gy #[.int .i64 y.s, .int .i64 y.n, .int .i64 y.b, .int .i64 y.c, .int .i64 y.a, .int .i64 y.r, .int .i64 y.t, .int .i64 y.y] 33) := (st3_other z8 ga gy _ _ _ (by have := HNEa.out; omega)).trans (HX7.out.below hb8 HX7.out.lt)
                have HS8 := Lib.hid hs8
                clear b0 b1 b2 x0 x1 x2 x3 x4 x5 x6 x7 HPT hb8 hk8 hs8 HS7 HX7
                have b0 : z8.cell? ⟨ga, 0, none⟩ = some (.int .i64 0) := HK8.out.cell 0
                have b1 : z8.cell? ⟨ga, 1, none⟩ = some (.slice (some ⟨b, o, none⟩) na ca) := HK8.out.cell 1
                have b2 : z8.cell? ⟨ga, 2, none⟩ = some (.slice none 0 0) := HK8.out.cell 2
                have f0 := HK8.out.free 0
                have f1 := HK8.out.free 1
                have f2 := HK8.out.free 2
                go_upto_region 39 with fail
                have hW8 : (World.setCell (World.setCell (World.setCell z8 ⟨ga, 0, none⟩ (.int .i64 0)) ⟨ga, 1, none⟩ (.slice pp8 nn8 cc8)) ⟨ga, 2, none⟩ (.slice none 0 0)) = st3 z8 ga (.int .i64 0) (.slice pp8 nn8 cc8) (.slice none 0 0) := rfl
                rw [hW8]
                generalize st3 z8 ga (.int .i64 0) (.slice pp8 nn8 cc8) (.slice none 0 0) = W8 at *
                clear hW8 HK8 f0 f1 f2 b0 b1 b2
                have HPT := Lib.hid (bs_putB HS8.out y HXG.out (by have := HXL.out; have := HNA.out; omega) HACT.out.1 HYS.out)
                unfold bookV Itm.v at HPT
                have b0 : W8.cell? ⟨gb, 0, none⟩ = some (.int .i64 1) := HS8.out.blkB.cell 0
                have b1 : W8.cell? ⟨gb, 1, none⟩ = some (.slice pb na cb) := HS8.out.blkB.cell 1
                have b2 : W8.cell? ⟨gb, 2, none⟩ = some (.slice none 0 0) := HS8.out.blkB.cell 2
                have x0 : W8.cell? ⟨gy, 0, none⟩ = some (.int .i64 y.s) := HX8.out.cell 0
                have x1 : W8.cell? ⟨gy, 1, none⟩ = some (.int .i64 y.n) := HX8.out.cell 1
                have x2 : W8.cell? ⟨gy, 2, none⟩ = some (.int .i64 y.b) := HX8.out.cell 2
                have x3 : W8.cell? ⟨gy, 3, none⟩ = some (.int .i64 y.c) := HX8.out.cell 3
                have x4 : W8.cell? ⟨gy, 4, none⟩ = some (.int .i64 y.a) := HX8.out.cell 4
                have x5 : W8.cell? ⟨gy, 5, none⟩ = some (.int .i64 y.r) := HX8.out.cell 5
                have x6 : W8.cell? ⟨gy, 6, none⟩ = some (.int .i64 y.t) := HX8.out.cell 6
                have x7 : W8.cell? ⟨gy, 7, none⟩ = some (.int .i64 y.y) := HX8.out.cell 7
                go_wp2_with fail
                refine HPT.out.mono ?_
                rintro y z9 ⟨pp9, nn9, cc9, rfl, hk9, hb9, hs9⟩
                have HK9 := Lib.hid hk9
                have HX9 : Hid (Blk (st3 z9 gb (.int .i64 1) (.slice pp9 nn9 cc9) (.slice none 0 0)) gy #[.int .i64 y.s, .int .i64 y.n, .int .i64 y.b, .int .i64 y.c, .int .i64 y.a, .int .i64 y.r, .int .i64 y.t, .int .i64 y.y] 33) := (st3_other z9 gb gy _ _ _ (by have := HNEb.out; omega)).trans (HX8.out.below hb9 HX8.out.lt)
                have HS9 := Lib.hid hs9
                clear b0 b1 b2 x0 x1 x2 x3 x4 x5 x6 x7 HPT hb9 hk9 hs9 HS8 HX8
                have b0 : z9.cell? ⟨gb, 0, none⟩ = some (.int .i64 1) := HK9.out.cell 0
                have b1 : z9.cell? ⟨gb, 1, none⟩ = some (.slice pb na cb) := HK9.out.cell 1
                have b2 : z9.cell? ⟨gb, 2, none⟩ = some (.slice none 0 0) := HK9.out.cell 2
                have f0 := HK9.out.free 0
                have f1 := HK9.out.free 1
                have f2 := HK9.out.free 2
                go_upto_region 42 with fail
                have hW9 : (World.setCell (World.setCell (World.setCell z9 ⟨gb, 0, none⟩ (.int .i64 1)) ⟨gb, 1, none⟩ (.slice pp9 nn9 cc9)) ⟨gb, 2, none⟩ (.slice none 0 0)) = st3 z9 gb (.int .i64 1) (.slice pp9 nn9 cc9) (.slice none 0 0) := rfl
                rw [hW9]
                generalize st3 z9 gb (.int .i64 1) (.slice pp9 nn9 cc9) (.slice none 0 0) = W9 at *
                clear hW9 HK9 f0 f1 f2 b0 b1 b2
                have HZG : Hid (GoodX (insX X y)) := ins_good HXG.out HACT.out.1 HYS.out
                have HZL : Hid ((insX X y).length ≤ 20 + (k + 1)) := by
                  have h1 := ins_len HXG.out y
                  have h2 := HXL.out
                  have h3 := HNA.out
                  show _ ≤ _
                  omega
                generalize insX X y = Z at *
                have HREL : Hid (BS2 w ga gb Z Z (.slice pp8 nn8 cc8) (.slice pp9 nn9 cc9) W9) := HS9.out
                clear HS9 HX9 HACT
                go_wp2_with fail
                go_loopw [205] (fun i wr => ∃ c : Nat, c ≤ 2 ∧ i = .int .i64 c ∧ Hid (BS2 w ga gb Z Z (.slice pp8 nn8 cc8) (.slice pp9 nn9 cc9) wr)) (fun i _ => 2 - (intOf i).toNat)
                case atStart => exact ⟨0, by omega, rfl, HREL⟩
                case round =>
                  obtain ⟨c, hc, rfl, HL⟩ := hrel
                  clear HREL
                  by_cases hc2 : c < 2
                  · skip
                    as_aux_lemma =>
                      have hcI : (c : Int) < 2 := by omega
                      obtain ⟨s1, s2, s3, s4, s5, s6, s7, s8⟩ := sum_both HZG.out (c : Int) (by have := HZL.out; omega)
                      have hzl : Z.length ≤ 2000 := by have := HZL.out; omega
                      have ha : ∀ x ∈ Z, 1 ≤ x.a ∧ x.a ≤ 1125899906842624 := fun x hx => by have := (chk_ok (HZG.out.2 x hx).1).2.1; unfold numsOk at this; omega
                      have HOA := Lib.hid (fun (W : World) (hW : TRow encI W (.slice pp8 nn8 cc8) Z) => open_any W 0 pp8 none nn8 cc8 0 0 Z c 1 (sumA Z c) 0 hW hzl ha s1 s2)
                      have HOB := Lib.hid (fun (W : World) (hW : TRow encI W (.slice pp9 nn9 cc9) Z) => open_any W 1 pp9 none nn9 cc9 0 0 Z c 0 (-sumA Z c) 0 hW hzl ha s3 s4)
                      have HNG : Hid (∀ W, Calls Try.prog 17 #[.int .i64 (-sumA Z c)] W fun e w' => e = .returned (.tuple #[.int .i64 (sumA Z c), .int .i64 0]) ∧ W = w') := fun W => by have h := neg_any (-sumA Z c) W s8; rwa [s5, s6] at h
                      have HV1 := Lib.hid (fun (W : World) => life_add1 W c (sumA Z c) (by omega) s7)
                      have HV2 := Lib.hid (fun (W : World) (v : Value) (h : PRow W v (lv1 c (sumA Z c))) => life_add2 W v c (sumA Z c) (by omega) s7 s8 h)
                      have HVT := Lib.hid (fun (W : World) (v : Value) (h : PRow W v (lv2 c (sumA Z c))) => life_total W v c (sumA Z c) s7 s8 h)
                      clear s1 s2 s3 s4 s5 s6 s7 s8 ha
                      generalize sumA Z c = S at *
                      unfold bookV at HOA HOB
                      unfold vecV at HV1 HV2 HVT
                      have b0 : wr.cell? ⟨ga, 0, none⟩ = some (.int .i64 0) := HL.out.blkA.cell 0
                      have b1 : wr.cell? ⟨ga, 1, none⟩ = some (.slice pp8 nn8 cc8) := HL.out.blkA.cell 1
                      have b2 : wr.cell? ⟨ga, 2, none⟩ = some (.slice none 0 0) := HL.out.blkA.cell 2
                      go_wp2_with fail
                      refine (HOA.out wr HL.out.rowA).mono ?_
                      rintro q w6 ⟨rfl, hb6⟩
                      have HB6 := Lib.hid hb6
                      have HL6 := Lib.hid (HL.out.kept hb6)
                      clear b0 b1 b2 hb6 HOA
                      have b0 : w6.cell? ⟨gb, 0, none⟩ = some (.int .i64 1) := HL6.out.blkB.cell 0
                      have b1 : w6.cell? ⟨gb, 1, none⟩ = some (.slice pp9 nn9 cc9) := HL6.out.blkB.cell 1
                      have b2 : w6.cell? ⟨gb, 2, none⟩ = some (.slice none 0 0) := HL6.out.blkB.cell 2
                      go_wp2_with fail
                      refine (HOB.out w6 HL6.out.rowB).mono ?_
                      rintro q w7 ⟨rfl, hb7⟩
                      have HB7 := Lib.hid (HB6.out.trans (hb7.mono HB6.out.size))
                      clear b0 b1 b2 hb7 HOB HL6 HB6
                      go_wp2_with fail
                      refine (HNG.out w7).mono ?_
                      rintro q w8 ⟨rfl, rfl⟩
                      go_upto_region 51 with fail
                      have HVB := Lib.hid (Blk.new w7 #[.slice none 0 0] 48)
                      have HB8 := Lib.hid (HB7.out.trans ((oneB w7 (.cells #[.slice none 0 0] 48)).mono HB7.out.size))
                      have HGV : Hid (wr.heap.size ≤ w7.heap.size) := HB7.out.size
                      clear HB7 HNG
                      generalize w7.alloc (.cells #[.slice none 0 0] 48) = W8 at *
                      generalize w7.heap.size = gv at *
                      have v0 : W8.cell? ⟨gv, 0, none⟩ = some (.slice none 0 0) := HVB.out.cell 0
                      go_wp2_with fail
                      refine (HV1.out W8).mono ?_
                      rintro q w9 ⟨p1, m1, k1, rfl, ho1, hb1⟩
                      have HB9 := Lib.hid (HB8.out.trans (hb1.mono HB8.out.size))
                      have HVB9 := Lib.hid (HVB.out.below hb1 HVB.out.lt)
                      have HO9 := Lib.hid (ho1.setLow (a := ⟨gv, 0, none⟩) HVB.out.lt (.slice p1 m1 k1))
                      clear v0 hb1 ho1 HV1 HB8 HVB
                      have v0 : w9.cell? ⟨gv, 0, none⟩ = some (.slice none 0 0) := HVB9.out.cell 0
                      have f0 := HVB9.out.free 0
                      go_upto_region 52 with fail
                      have HV10 := Lib.hid (HVB9.out.set 0 (.slice p1 m1 k1))
                      have HB10 := Lib.hid (HB9.out.setCell (p := ⟨gv, 0, none⟩) HGV.out (.slice p1 m1 k1))
                      clear v0 f0 HVB9 HB9
                      generalize World.setCell w9 ⟨gv, 0, none⟩ (.slice p1 m1 k1) = W10 at *
                      have v0 : W10.cell? ⟨gv, 0, none⟩ = some (.slice p1 m1 k1) := HV10.out.cell 0
                      go_wp2_with fail
                      refine (HV2.out W10 _ HO9.out.row).mono ?_
                      rintro q w11 ⟨p2, m2, k2, rfl, ho2, hb2⟩
                      have HB11 := Lib.hid (HB10.out.trans (hb2.mono HB10.out.size))
                      have HVB11 := Lib.hid (HV10.out.below hb2 HV10.out.lt)
                      have HO11 := Lib.hid (ho2.setLow (a := ⟨gv, 0, none⟩) HV10.out.lt (.slice p2 m2 k2))
                      clear v0 hb2 ho2 HV2 HB10 HV10 HO9
                      have v0 : w11.cell? ⟨gv, 0, none⟩ = some (.slice p1 m1 k1) := by have := HVB11.out.cell 0; simpa using this
                      have f0 := HVB11.out.free 0
                      go_upto_region 53 with fail
                      have HV12 := Lib.hid (HVB11.out.set 0 (.slice p2 m2 k2))
                      have HB12 := Lib.hid (HB11.out.setCell (p := ⟨gv, 0, none⟩) HGV.out (.slice p2 m2 k2))
                      clear v0 f0 HVB11 HB11
                      generalize World.setCell w11 ⟨gv, 0, none⟩ (.slice p2 m2 k2) = W12 at *
                      have v0 : W12.cell? ⟨gv, 0, none⟩ = some (.slice p2 m2 k2) := by have := HV12.out.cell 0; simpa using this
                      go_wp2_with fail
                      refine (HVT.out W12 _ HO11.out.row).mono ?_
                      rintro q w13 ⟨rfl, hb13⟩
                      have HN : Hid (BS2 w ga gb Z Z (.slice pp8 nn8 cc8) (.slice pp9 nn9 cc9) w13) := HL.out.kept (HB12.out.trans (hb13.mono HB12.out.size))
                      clear v0 hb13 HVT HB12 HV12 HO11
                      go_wp2_with fail
                      go_roundw
                      case rel => exact ⟨c + 1, by omega, by go_num, HN⟩
                      case measure => simp [intOf]; omega
                  · have hle : (2 : Int) ≤ (c : Int) := by omega
                    have HN : Hid (LRel w ga gb (20 + (k + 1)) wr) := ⟨Z, _, _, HZL.out, HZG.out, HL.out⟩
                    go_wp2_with fail
                    go_roundw
                    case rel => exact ⟨k + 1, by omega, rfl, by go_num, HN⟩
                    case measure => simp [intOf]; omega
        · have hle : (n2 : Int) ≤ (k : Int) := by omega
          obtain ⟨X, va, vb, hXl, hXg, hs⟩ := HK.out
          obtain ⟨pa, ca, hva⟩ := hs.rowA.shape
          obtain ⟨pb, cb, hvb⟩ := hs.rowB.shape
          subst hva
          subst hvb
          have HFN := Lib.hid hs.bel
          have b1 : wr.cell? ⟨ga, 1, none⟩ = some (.slice pa X.length ca) := hs.blkA.cell 1
          have b2 : wr.cell? ⟨gb, 1, none⟩ = some (.slice pb X.length cb) := hs.blkB.cell 1
          clear hXl hXg hs HK
          go_wp2_with fail
          go_ret
          exact ⟨rfl, HFN.out⟩

end Go.Proofs.Ytpapcpjkaehhoaa
